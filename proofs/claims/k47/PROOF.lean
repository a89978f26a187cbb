import PyProof.Rows.All
import Wide.All
import OpenK.AllK
import Wide.FinOn
import Lean
import PyProof.EqAt
import PyProof.EqKinds
import PyProof.TupleCall
import PySem.Str
import PyProof.ZipIter
import PyProof.Draws
import PyProof.StrLawsChain
import PyProof.StrLawsTight
import KE.KIntText
import OpenK.KTop
import PyProof.StationsW
import PyProof.ExcClass2
import PyProof.ExcBaseAll.ValueError
import PyProof.Rows.Catch
import OpenK.KOwn
import KE.KTryMore
import KE.FramesApart
import PyProof.RulesAs
import PyProof.NsDelKeeps
import PyProof.ExcArgs
import PyProof.Rows.SortStr
import KE.KDictSum
import PyProof.DictWalks
import PyProof.IsiH_list
import KE.KDictOf
import PyProof.NeKinds
import PyProof.StrCalls6
import PyProof.FString
import KE.KUnpack
import KE.KItemsList
import KE.KRevIter
import KE.IntBitsLaws
import PyProof.FString5
import PySem.Challenge.RW_askwright_k47_places_of_lies
namespace PySem.W.Fast
def tw15661574770610184839:=0
def tw1189057463517266934:=0
def tw8738935405966112749:=0
def tw17728960799905196155:=0
def tw3186278884716602843:=0
def tw12706861928218876230:=0
def tw16642462862515086522:=0
def tw10919512968525385626:=0
def tw4006191628686790586:=0
def tw13566318789703215092:=0
def tw1568915881622375083:=0
def tw2390032313025898999:=0
def tw12914535989804393637:=0
def tw3097278805407278185:=0
def tw3113986710798104789:=0
def tw14272670830504305142:=0
def tw8536618634163585616:=0
def tw4994396062427516233:=0
def tw16467669858403008387:=0
def tw10115018937392791822:=0
def tw11497038307411279507:=0
def tw2044294701974149982:=0
def tw13818633521838126:=0
def tw2211442428956182408:=0
def tw8445924119090138486:=0
def tw14226439567446431595:=0
def tw10842753499936858525:=0
def tw1933390204192655567:=0
def tw7862804086186551299:=0
def tw5081854643373836693:=0
def tw1037609106828120767:=0
def tw10192164098199743329:=0
def tw8088368322648814564:=0
def tw4966498847522293768:=0
def tw9364241039867523182:=0
def tw14337619468571549123:=0
def tw2481333235294963855:=0
def tw13412423062274212554:=0
def tw3264844710390120311:=0
def tw9395664775542941069:=0
def tw5057565363805812261:=0
def tw16388806697318926640:=0
def tw15746560203076138020:=0
def tw5663469250139311132:=0
def tw10326463241567599315:=0
def tw12096967116238863364:=0
def tw15866688810693233350:=0
def tw18123280758685325694:=0
def tw1990423485304998726:=0
def tw2524439968728440552:=0
def tw12952970521581585175:=0
def tw10559905038195937961:=0
def tw3319915904134264845:=0
def tw5189482765951366277:=0
def tw963441011818141168:=0
def tw3207169013476409774:=0
def tw5144727983476512177:=0
def tw8368679444740666322:=0
def tw4599021521131486242:=0
def tw10266020284749558463:=0
def tw1790488199545876647:=0
def tw17630282928538392751:=0
def tw11164090353447843021:=0
def tw13661582049287674556:=0
def tw5884946429984476659:=0
def tw13849790420618353344:=0
def tw1018782002268202152:=0
def tw8428050066946869875:=0
def tw3742830948837878562:=0
def tw1297836152576787974:=0
def tw11408632258482186215:=0
def tw18001430919179348793:=0
def tw15063696794400189813:=0
def tw7703075714593087197:=0
def tw2995238779798924034:=0
def tw4494315523943033674:=0
def tw972324288848462491:=0
def tw4479657136656441276:=0
def tw9453170063914211697:=0
def tw12147503102970620185:=0
def tw954432717634436202:=0
def tw5399075872245830831:=0
def tw4610060747373682060:=0
def tw9216585634152406648:=0
def tw2619672741664618807:=0
def tw16424116141089420020:=0
def tw10496769502207307636:=0
def tw16798534038877307999:=0
def tw17339277709999403077:=0
def tw16645312024560666070:=0
def tw1877753692941121902:=0
def tw16897949603216996096:=0
def tw38391754112267674:=0
def tw1506522240608069621:=0
def tw4489884560563989823:=0
def tw7785942733846973630:=0
def tw5603255317904493210:=0
def tw4991238744513390811:=0
def tw981542694053430123:=0
def tw17145937206253750991:=0
def tw15543791282343100532:=0
def tw15322339502917292456:=0
def tw17853723733460989444:=0
def tw815429291922120339:=0
def tw8469839489295175929:=0
def tw2418208012322253495:=0
def tw1362787362251816979:=0
def tw1918416205147116676:=0
def tw3244888879130482571:=0
def tw16323067754535638750:=0
def tw7287837873316516713:=0
def tw6235230941665305155:=0
def tw7199442466863361721:=0
def tw11738594829731016311:=0
def tw13576535745337174376:=0
def tw12993061899561353691:=0
def tw9949774377321093652:=0
def tw2502511440701138787:=0
def tw5219313802311569606:=0
def tw8494895409184341876:=0
def tw5956693003648282566:=0
def tw4452542966779198973:=0
def tw7355229566004882066:=0
def tw15011424869798255005:=0
def tw3295183400836080916:=0
def tw4610625666319794753:=0
def tw1874866541723097885:=0
def tw11011199767320388221:=0
def tw13156511428068955372:=0
def tw5301097773853330491:=0
def tw8223241789062681298:=0
def tw502146158127827232:=0
def tw12869249998606693163:=0
def tw6396476242899325190:=0
def tw8950519405639697146:=0
def tw6097776610380615106:=0
def tw16942748623685381614:=0
def tw823285834987449483:=0
def tw12267823644485472636:=0
def tw3133969861351925551:=0
def tw9525976799914938869:=0
def tw15764531367179619837:=0
def tw17433102260819432233:=0
def tw12183456194765950428:=0
def tw17800881395497779199:=0
def tw11519943943115409264:=0
def tw16494350082847073672:=0
def tw15739415504687127188:=0
def tw18256625110645385495:=0
def tw12043527612622810570:=0
def tw7857945341317904323:=0
def tw7295895161296074017:=0
def tw17757656474601085707:=0
def tw13681312269432523203:=0
def tw14678252602201033674:=0
def tw10799016773518878847:=0
def tw15950659361428262834:=0
def tw9440584106302860171:=0
def tw14202553251754177496:=0
def tw2291170036056466188:=0
def tw6287895765432072699:=0
def tw249580460953233728:=0
def tw17015853278734769759:=0
def tw8844251775718984226:=0
def tw5008522390116443328:=0
def tw14707843713063273123:=0
def tw14814785228105382130:=0
def tw10985956212288141897:=0
def tw7158438920153262090:=0
def tw11965732108841971470:=0
def tw1598877509928895168:=0
def tw5655522009772826502:=0
def tw8695539867771206968:=0
def tw1956931645257518411:=0
def tw2382789143412151788:=0
def tw17641302830892553436:=0
def tw16812935878000935494:=0
def tw1424395887520261949:=0
def tw16164985723422187450:=0
def tw2837465439650846973:=0
def tw15672043337586905210:=0
def tw15096381883048394603:=0
def tw3433160742092519965:=0
def tw15358382786394818634:=0
def tw10837863603868200977:=0
def tw3788518341341737417:=0
def tw13113512698455321597:=0
def tw17372391832913765314:=0
def tw18002520172313460340:=0
def tw3239688115863404696:=0
def tw10235870690644397071:=0
def tw1628033213541134719:=0
def tw10909831742201984555:=0
def tw517619029367505979:=0
def tw15219049085985511501:=0
def tw8544735901412551098:=0
def tw18326360526378319079:=0
def tw1883378577694835163:=0
def tw2037956464553678650:=0
def tw2604365236672104555:=0
def tw16213513094152890662:=0
def tw5621702554919685788:=0
def tw2369921066733623351:=0
def tw4141144537960984374:=0
def tw14967802200806006742:=0
def tw356510689424503008:=0
def tw17720474463081872604:=0
def tw9743107994365458122:=0
def tw1602435038474156373:=0
def tw15166170444324230954:=0
def tw9180648564291606443:=0
def tw1637337596417951991:=0
def tw16534842598097786515:=0
def tw15894625504316260167:=0
def tw16081211932947476204:=0
def tw8433340894843371389:=0
def tw3042543625194828151:=0
def tw2563112282718032247:=0
def tw5006563383952842210:=0
def tw321713235731510390:=0
def tw15531975811058490393:=0
def tw4909476511485547052:=0
def tw5405426011092125223:=0
def tw16668143080471122792:=0
def tw14230083464411048056:=0
def tw14581348702805155283:=0
def tw2575365335316988201:=0
def tw865888037276881971:=0
def tw15379629208084320903:=0
def tw10994763089187387449:=0
def tw9789803352229613155:=0
def tw5818833908916420125:=0
def tw16540526243174734082:=0
def tw15360032377130841790:=0
def tw15954754044781204373:=0
def tw12502404575481948164:=0
def tw5338210141159274653:=0
def tw14469519902644058477:=0
def tw7137989625128409382:=0
def tw14566679719674892992:=0
def tw10790642836585009098:=0
def tw12975189179663758358:=0
def tw7883704746669159639:=0
def tw2953097559260460273:=0
def tw5445699623438888608:=0
def tw16664679455125580067:=0
def tw10475363675335016210:=0
def tw9878518719311803891:=0
def tw18090039666876948552:=0
def tw18354014141405621243:=0
def tw10214240133210288682:=0
def tw3607603570655081504:=0
def tw1680209143460808380:=0
def tw7095965886160923979:=0
def tw5112727179469127142:=0
def tw6444106277501658953:=0
def tw10879766866307563970:=0
def tw8572176514386812284:=0
def tw620922120222463499:=0
def tw14673315629383804737:=0
def tw2006814305817443647:=0
def tw18345649756013396454:=0
def tw7757982698394092960:=0
def tw6185064784042575920:=0
def tw13024269966429691367:=0
def tw16937100970141676521:=0
def tw8247943907030169612:=0
def tw7578046883245852495:=0
def tw3963361018011467094:=0
def tw14556027216973702338:=0
def tw10483479734929595529:=0
def tw5501984883327464805:=0
def tw2380134713904828101:=0
def tw6372631210549889415:=0
def tw12216719750762381156:=0
def tw2433737128643235091:=0
def tw10097038783794561562:=0
def tw18271189638484564105:=0
def tw7782065700016839889:=0
def tw3317518936428831411:=0
def tw33165697059034393:=0
def tw4737405352811562386:=0
def tw16408890117549652250:=0
def tw3863529561363639326:=0
def tw9503597638159620352:=0
def tw13112135616923987366:=0
def tw1615936734177067990:=0
def tw17738097441381365648:=0
def tw4799909099939189971:=0
def tw16458264970108012929:=0
def tw2407463734222347691:=0
def tw16873334044859222248:=0
def tw17404013419923432188:=0
def tw13612695724474413108:=0
def tw16661344643815264238:=0
def tw14769615599526585741:=0
def tw7647164815002612261:=0
def tw10042932545720962430:=0
def tw17521011991974763512:=0
def tw3867577396480976166:=0
def tw82592646329166086:=0
def tw6189162559750024021:=0
def tw3598120264728051852:=0
def tw10084227020499453449:=0
def tw5289886592697676236:=0
def tw7952964165606734591:=0
def tw15330944937047479614:=0
def tw8462374868627152119:=0
def tw11254166009228164122:=0
def tw664235109612911187:=0
def tw16107468188453491920:=0
def tw10438861978494014485:=0
def tw14409889887059897803:=0
def tw3793712136016276906:=0
def tw1298580788690314852:=0
def tw8215727298191218574:=0
def tw13777240461257213369:=0
def tw2815598833999200819:=0
def tw18086206852535294734:=0
def tw140821026004613868:=0
def tw15692217821748002460:=0
def tw17072680609255463476:=0
def tw14715176562972887054:=0
def tw18119120999945942966:=0
def tw17710059448445233197:=0
def tw12145054473884279044:=0
def tw12426160873228371864:=0
def tw1377721912248742232:=0
def tw5719444326706383545:=0
def tw940884397387131508:=0
def tw801978676070414112:=0
def tw5202955633680840182:=0
def tw7721897418620002860:=0
def tw10685088309558860309:=0
def tw6740225203933550126:=0
def tw11046652203046584997:=0
def tw9110052005239070257:=0
def tw1429886604765663416:=0
def tw5349161921485395621:=0
def tw12426894935038953645:=0
def tw17701929226187481495:=0
def tw17917534959810054550:=0
def tw6196164502740416638:=0
def tw12168538220457325459:=0
def tw10906527486358032023:=0
def tw6781612405663370173:=0
def tw953215783994506723:=0
def tw180293565898215639:=0
def tw61115739140074483:=0
def tw10566021504363721537:=0
def tw13902157563522722173:=0
def tw3138486397302706785:=0
def tw8831573757764886469:=0
def tw4853965245199394616:=0
def tw6336886557651024752:=0
def tw18139614688613701233:=0
def tw18216212647704095163:=0
def tw5080374016412311376:=0
def tw10001494869098031817:=0
def tw806101529505784962:=0
def tw12577226497407960324:=0
def tw13172969873083232162:=0
def tw8595133774397364616:=0
end PySem.W.Fast
local macro_rules | `(tactic| trivial) => `(tactic| first | rfl | exact .inl rfl | exact .inr rfl | exact .inr (.inl rfl) | decide +kernel | (intro _; rfl) | omega | exact ⟨rfl,rfl,rfl,by decide +kernel,rfl,by decide +kernel,by decide +kernel⟩ | (intro _ _ _ _ _ _ us hl; rcases us with _|⟨_,_|⟨_,_|⟨_,_|⟨_,_|⟨_,_|⟨_,_⟩⟩⟩⟩⟩⟩ <;> first | rfl | cases hl) | (intro _ _ _ _ h; repeat' first | (obtain ⟨e,_⟩ := h; subst e; rfl) | (obtain ⟨_,h⟩ := h)))
set_option hygiene false in
local macro_rules | `(tactic| ac_rfl) => `(tactic| ((try dsimp only);first|assumption|exact Inv.tk (by assumption)|exact Nat.succ_pos _|exact Nat.lt_of_lt_of_le (Inv.tk (by assumption)) (by assumption)|exact Nat.add_pos_left (Inv.tk (by assumption)) _|omega))
local macro_rules | `(()) => `(by trivial)
set_option compiler.extract_closed false
noncomputable section
set_option Elab.async false
set_option linter.all false
set_option maxRecDepth 100000
set_option maxHeartbeats 4000000
def u0:=@decide_eq_true
def u3:=@PySem.Heap.get?_push_of_some
def u8:=@Bool.false_ne_true
def u9:=@decide_eq_false
def ua:=@of_decide_eq_true
def ub:=@List.length_map
def uc:=@PySem.wpAny_pure
def ud:=@List.length_cons
def ue:=@List.size_toArray
def uf:=@List.length_append
def ug:=@Nat.le_refl
def uh:=@List.mem_cons_of_mem
def ui:=@Bool.and_eq_true
def uj:=@List.map_cons
def uk:=@PySem.Heap.lt_size
def ul:=@List.getElem?_eq_getElem
def um:=@PySem.boot_len
def uo:=@PyProof.Rows.boot_isinstance
def uq:=@List.mem_cons_self
def uw:=@PySem.Heap.get?_push_size
def uz:=@List.length_take
def uA:=@decide_eq_decide
def uB:=@List.mem_cons
def uC:=@List.length_drop
def uD:=@List.mem_nil_iff
def uE:=@List.map_append
def uF:=@Nat.zero_le
def uG:=@List.eq_nil_of_length_eq_zero
def uH:=@PySem.F.plainAttrs_str
def uI:=@PySem.W.mg_of
def uJ:=@List.mem_of_getElem?
def uK:=@Nat.ne_of_lt
def uL:=@PySem.sizeLine_eq
def uM:=@List.getElem?_map
def uN:=@List.take_of_length_le
def uO:=@PySem.Around.in1_units
def uP:=@Nat.le_trans
def uQ:=@Option.some.inj
def uR:=@PySem.wpAny_with_toks
def uS:=@PySem.wpAny_field
def uT:=@List.map_map
def uU:=@PyProof.Rows.boot_tuple
def uV:=@PySem.wpAny_newObj_type
def uW:=@List.mem_append_right
def uX:=@PySem.wpAny_callSpecial?_slot
def uY:=@PySem.wpAny_mono
def uZ:=@PyProof.Rows.slot_tuple_getitem
def v4:=@Array.length_toList
def v6:=@PySem.F.plainAttrs_list
def v8:=@List.length_nil
def v9:=@List.lookup_cons
def vb:=@or_false
def vc:=@PySem.wpAny_truthy_bool
def vd:=@PySem.Heap.size_push
def vf:=@List.drop_eq_getElem_cons
def vg:=@PySem.wpAny_setField_rec
def vh:=@List.mem_singleton
def vi:=@PySem.W.kia_one
def vj:=@List.map_nil
def vk:=@PySem.PassesOwn.never
def vm:=@List.all_cons
def vn:=@List.sum_cons
def vo:=@PySem.F.entry_str_split
def vp:=@PyProof.Rows.callWith_type1
def vq:=@Bool.false_eq_true
def vr:=@PyProof.Rows.boot_str
def vt:=@PySem.wpAny_call_entry
def vv:=@PySem.F.slot_str_split
def vw:=@List.not_mem_nil
def vx:=@List.getElem?_append_right
def vy:=@List.drop_of_length_le
def vz:=@PySem.F.slot_str_split
def vA:=@PySem.F.type_str_split
def vB:=@PySem.mem_of_lookup
def vC:=@Nat.lt_irrefl
def vD:=@Bool.and_true
def vE:=@Bool.true_and
def vF:=@Bool.eq_iff_iff
def vG:=@List.append_nil
def vH:=@Array.eq_empty_of_size_eq_zero
def vI:=@PySem.F.slot_str_join
def vJ:=@PySem.F.type_str_join
def vK:=@PySem.typeIs_str
def vL:=@PySem.call_meets
def vM:=@PySem.F.slot_list_append
def vN:=@PySem.F.type_list_append
def vO:=@List.drop_zero
def vP:=@PySem.wpAny_execs_nil
def vQ:=@PySem.F.slot_tuple_iterator_next
def vR:=@List.cons_append
def vS:=@PySem.wpAny_pyIter_tuple
def vT:=@PySem.W.callWith_K
def vU:=@List.all_map
def vV:=@PySem.F.args_str_split_2
def vW:=@Nat.eq_zero_or_pos
def vX:=@Bool.false_and
def vY:=@PySem.codeAny_call_builtin
def vZ:=@PySem.wpAny_passesOwn
def U0:=@List.find?_cons
def U1:=@List.take_add_one
def U2:=@decide_eq_true_eq
def U3:=@Nat.ne_of_gt
def U4:=@List.filterMap_cons
def U5:=@PySem.wpAny_attempt
def U6:=@List.length_reverse
def U7:=@List.getElem_mem
def U8:=@PySem.wpAny_seqItems
def U9:=@Ne.symm
def Ua:=@List.getElem?_set_self
def Ub:=@PySem.wpAny_Call_Name_kw
def Uc:=@PySem.W.methodCall_KW
def Ud:=@PySem.codeAny_mono
def Ue:=@List.forIn_cons
def Uf:=@PySem.F.slot_enumerate_next
def Ug:=@List.eq_nil_or_concat
def Uh:=@List.concat_eq_append
def Ui:=@List.any_cons
def Uj:=@List.mem_append_left
def Uk:=@List.getElem?_set_ne
def Ul:=@List.mem_of_mem_drop
def Um:=@List.mem_of_mem_take
def Uo:=@List.getElem?_append_left
def Up:=@List.mem_of_find?_eq_some
def Uq:=@PySem.wpAny_isInstance
def Ur:=@List.all_eq_true
def Us:=@PySem.F.args_tuple_add_2
def Ut:=@PySem.wpAny_rule
def Uu:=@List.filterMap_cons_some
def Uv:=@List.sum_nil
def Uw:=@PySem.SeqAt.EqAt.int_str
def Ux:=@PySem.SeqAt.EqAt.str_int
def Uy:=@Array.append_assoc
def Uz:=@PySem.F.entry_tuple_add
def UA:=@Nat.lt_of_le_of_lt
def UB:=@Nat.min_eq_left
def UC:=@List.find?_eq_none
def UD:=@PySem.wpAny_pyIter_list
def UE:=@PySem.wpAny_call
def UF:=@PySem.SeqAt.RcAt.tuples
def UG:=@List.reverse_cons
def UH:=@if_false
def UI:=@Nat.lt_or_ge
def UJ:=@PySem.wpAny_execs_cons
def UK:=@if_true
def UL:=@Nat.log2_le_self
namespace L2
open PySem PySem.Spec PyProof.Rows
abbrev Key:=Sum Int Str
def keyIs:Key->Value->Bool
 | .inl k,v=>Value.isInt k v
 | .inr x,v=>Value.isStrOf x v
def keyH (w:World):Key->Int
 | .inl k=>hashInt k
 | .inr x=>hashStr w x
theorem QB:∀{k:Key}{v:Value},keyIs k v=true->(∃i t,k=Sum.inl i/\v=Value.int i t)∨(∃x t,k=Sum.inr x/\v=Value.str x t)
 | .inl i,v,h=>by
  obtain⟨t,e⟩:=Value.isInt_shape (k:=i) (v:=v) h;exact .inl ⟨i,t,rfl,e⟩
 | .inr x,v,h=>by
  obtain⟨t,e⟩:=Value.isStrOf_shape (x:=x) (v:=v) h;exact .inr ⟨x,t,rfl,e⟩
theorem keyIs_int (i:Int)(t:Tok):keyIs (.inl i) (.int i t)=true:=by simp [keyIs,Value.isInt]
theorem keyIs_str (x:Str)(t:Tok):keyIs (.inr x) (.str x t)=true:=by simp [keyIs,Value.isStrOf]
theorem key_ll (a b:Int):decide ((Sum.inl a:Key)=Sum.inl b)=(a==b):=by
 by_cases e:a=b
 ·subst e;simp
 ·have h:¬(Sum.inl a:Key)=Sum.inl b:=fun q=>e (Sum.inl.inj q);rw [u9 h];exact(beq_eq_false_iff_ne.mpr e).symm
theorem key_rr (a b:Str):decide ((Sum.inr a:Key)=Sum.inr b)=decide (a=b):=by
 by_cases e:a=b
 ·subst e;simp
 ·have h:¬(Sum.inr a:Key)=Sum.inr b:=fun q=>e (Sum.inr.inj q);rw [u9 h,u9 e]
theorem key_lr (a:Int)(b:Str):decide ((Sum.inl a:Key)=Sum.inr b)=false:=u9 (fun q=>nomatch q)
theorem key_rl (a:Str)(b:Int):decide ((Sum.inr a:Key)=Sum.inl b)=false:=u9 (fun q=>nomatch q)
def Qt (prog:Program)(w:World):PySem.KeyKind prog w Key where
 is:=keyIs
 hash:=keyH w
 inj:=fun v a b ha hb=>by
  rcases QB ha with⟨i,t,rfl,rfl⟩|⟨x,t,rfl,rfl⟩
  ·rcases QB hb with⟨j,u,rfl,e⟩|⟨y,u,rfl,e⟩
   ·injection e with e1 _;rw [e1]
   ·exact nomatch e
  ·rcases QB hb with⟨j,u,rfl,e⟩|⟨y,u,rfl,e⟩
   ·exact nomatch e
   ·injection e with e1 _;rw [e1]
 byValue:=fun k v h=>by
  rcases QB h with⟨i,t,rfl,rfl⟩|⟨x,t,rfl,rfl⟩<;>rfl
 pyHash:=fun hv h=>by
  rcases QB hv with⟨i,t,rfl,rfl⟩|⟨x,t,rfl,rfl⟩
  ·exact wpAny_pyHash_int h
  ·exact wpAny_pyHash_str h
 eqBool:=fun hu hv h=>by
  rcases QB hu with⟨i,t,rfl,rfl⟩|⟨x,t,rfl,rfl⟩
  ·rcases QB hv with⟨j,u,rfl,rfl⟩|⟨y,u,rfl,rfl⟩
   ·rw [key_ll] at h;exact wpAny_eqBool_int h
   ·rw [key_lr] at h;exact Uw i t y u _ _ _ _ h
  ·rcases QB hv with⟨j,u,rfl,rfl⟩|⟨y,u,rfl,rfl⟩
   ·rw [key_rl] at h;exact Ux x t j u _ _ _ _ h
   ·rw [key_rr] at h;exact wpAny_eqBool_str h
 «strs»:=fun k x t v h=>by
  rcases QB h with⟨i,u,rfl,e⟩|⟨y,u,rfl,e⟩
  ·exact nomatch e
  ·injection e with e1 _
   subst e1
   cases v<;>rfl
theorem mixKind_int (prog:Program)(w:World)(i:Int)(t:Tok):(Qt prog w).is (.inl i) (.int i t)=true:=keyIs_int i t
theorem XF (prog:Program)(w:World)(x:Str)(t:Tok):(Qt prog w).is (.inr x) (.str x t)=true:=keyIs_str x t
inductive V where
 |non|bl (b:Bool)|int (i:Int)|str (x:Str)|byt (b:Array UInt8)|flt (b:UInt64)|ref (a:Addr)|ty (n:String)
 deriving DecidableEq
def RelV:V->Value->Prop
 | .non,u=>u=Value.none
 | .bl b,u=>u=Value.bool b
 | .int i,u=>∃t,u=Value.int i t
 | .str x,u=>∃t,u=Value.str x t
 | .byt b,u=>∃t,u=Value.bytes b t
 | .flt b,u=>∃t,u=Value.float b t
 | .ref a,u=>u=Value.ref a
 | .ty n,u=>u=Value.type n
abbrev Vals:List V->List Value->Prop:=Paired RelV
theorem Vals.length {xs:List V}{us:List Value}(r:Vals xs us):xs.length=us.length:=Paired.length r
theorem Vals.get:∀{xs:List V}{us:List Value}{i:Nat}{x:V},Vals xs us->xs[i]? =some x->∃u,us[i]? =some u/\RelV x u
 |_,_,_,_,.nil,e=>by simp at e
 |_,_,0,_,.cons r _,e=>by simp at e;subst e;exact⟨_,rfl,r⟩
 |_,_,i+1,x,.cons _ t,e=>by
  obtain⟨u,h1,h2⟩:=Vals.get (i:=i) (x:=x) t (by simpa using e)
  exact⟨u,by simpa using h1,h2⟩
theorem Vals.set {x:V}{u:Value}(r:RelV x u):∀{xs:List V}{us:List Value} (i:Nat),Vals xs us->Vals (xs.set i x) (us.set i u)
 |_,_,_,.nil=> .nil
 |_,_,0,.cons _ t=> .cons r t
 |_,_,i+1,.cons q t=> .cons q (Vals.set r i t)
theorem Vals.append:∀{xs ys:List V}{us ws:List Value},Vals xs us->Vals ys ws->Vals (xs++ys) (us++ws)
 |_,_,_,_,.nil,s=>s
 |_,_,_,_,.cons r t,s=> .cons r (Vals.append t s)
theorem Vals.take:∀{xs:List V}{us:List Value} (n:Nat),Vals xs us->Vals (xs.take n) (us.take n)
 |_,_,0,_=> .nil
 |_,_,_+1,.nil=> .nil
 |_,_,n+1,.cons r t=> .cons r (Vals.take n t)
theorem Vals.drop:∀{xs:List V}{us:List Value} (n:Nat),Vals xs us->Vals (xs.drop n) (us.drop n)
 |_,_,0,r=>r
 |_,_,_+1,.nil=> .nil
 |_,_,n+1,.cons _ t=>Vals.drop n t
def RelO:Option V->Option Value->Prop
 |some v,some u=>RelV v u
 |none,none=>True
 |_,_=>False
def KV {κ:Type}:List (κ×V)->List (κ×Value)->Prop:=Paired fun(p:κ×V) (q:κ×Value)=>p.1=q.1/\RelV p.2 q.2
def kV:Key->V
 | .inl i=> .int i
 | .inr x=> .str x
inductive HO where
 |lst (xs:List V)
 |tup (xs:List V)
 |dK (kvs:List (Key×V))|dT (kvs:List (List Key×V))
 |set (S:Int->Bool) (n:Nat)
 |ins (C dx:Addr) (fs:List (Str×V))
 |own (x:Addr)
 |xd (fs:List (Str×V))
 |met (f x:Addr)
 |rng (lo hi:Int)
 |frz (o:Obj) (u:HO)
 |tbl (ps:Array Value)
 |ext (φ:Heap->Prop)
abbrev Hp:=Addr->Option HO
def upd (H:Hp)(a:Addr)(o:HO):Hp:=fun b=>if b=a then some o else H b
theorem qh {H:Hp}{a:Addr}{o:HO}:upd H a o a=some o:=by unfold upd;rw [if_pos rfl]
theorem qx {H:Hp}{a b:Addr}{o:HO}(h:b≠a):upd H a o b=H b:=by unfold upd;rw [if_neg h]
theorem ne_of {H:Hp}{a b:Addr}{o u:HO}(h:H a=some o)(h':H b=some u)(d:o≠u):a≠b:=by
 intro e;subst e;rw [h] at h';exact d (uQ h')
theorem qr {H:Hp}{a b:Addr}{o:HO}(h:H a=some o)(h':H b=none):a≠b:=by
 intro e;subst e;rw [h] at h';cases h'
section
variable (P:Program)(w:World)
def QM (H:Hp)(h:Heap)(a:Addr):HO->Prop
 | .lst xs=>xs.length<=sizeLine/\∃(its:List Value) (n:Nat),Vals xs its/\h.get? a=some {cls:= .type "list",data:= .seq its.toArray n}
 | .tup xs=>xs.length<=sizeLine/\∃its:List Value,Vals xs its/\IsTup h a its.toArray
 | .dK kvs=>kvs.length<=sizeLine/\(a==sysModules)=false/\∃vs,KV kvs vs/\h.DictOf (Qt P w) a vs
 | .dT kvs=>kvs.length<=sizeLine/\(a==sysModules)=false/\∃xs:List (List Key×Addr×Value),
   Paired (fun(p:List Key×V) (q:List Key×Addr×Value)=>p.1=q.1/\H q.2.1=some (.tup (p.1.map kV))/\RelV p.2 q.2.2) kvs xs/\
   ∃o es ep,h.get? a=some o/\o.ExactDict/\o.data= .dict es ep/\es.toList=xs.map (entryOfKey (tupleKind (Qt P w)))/\(xs.map (·.1)).Nodup
 | .set S n=>h.SetOf (intKind P w) a S n
 | .ins C dx fs=>H dx=some (.own a)/\fs.length<=1000/\dx≠a/\h.get? a=some (PySem.W.instObj C dx)/\
   ∃mA,h.Ns1 dx mA/\(∀f,RelO (fs.lookup f) (mA f))/\PySem.Within mA (fs.map (·.1))
 | .own _=>∃o,h.get? a=some o
 | .xd fs=>∃mA,h.Ns1 a mA/\∀f,RelO (fs.lookup f) (mA f)
 | .rng lo hi=>∃t u v,h.get? a=some {cls:= .type "range",data:= .fields #[.int lo t,.int hi u,.int 1 v]}
 | .frz o u=>h.get? a=some o/\QM H h a u
 | .tbl ps=>h.get? a=some {cls:= .none,data:= .fields ps}
 | .met f x=>h.get? a=some (PySem.W.methodObj (.ref f) (.ref x))
 | .ext φ=>φ h/\(∃o,h.get? a=some o)/\∀h1 h2:Heap,φ h1->(∀o,h1.get? a=some o->h2.get? a=some o)->φ h2
def HOk (H:Hp)(h:Heap):Prop:=∀a o,H a=some o->QM P w H h a o
end
section
variable {P:Program}{w:World}{H H':Hp}{h h':Heap}{a:Addr}{o:HO}
theorem QM.lt (x:QM P w H h a o):a<h.objs.size:=by
 cases o with
 |lst xs=>obtain⟨_,_,_,_,e⟩:=x;exact uk e
 |tup xs=>obtain⟨_,_,_,p⟩:=x;exact p.lt
 |dK kvs=>obtain⟨_,_,_,_,o,_,_,e,_⟩:=x;exact uk e
 |dT kvs=>obtain⟨_,_,_,_,o,_,_,e,_⟩:=x;exact uk e
 |set S n=>obtain⟨o,_,_,_,e,_⟩:=x;exact uk e
 |ins C dx fs=>obtain⟨_,_,_,e,_⟩:=x;exact uk e
 |own y=>obtain⟨_,e⟩:=x;exact uk e
 |xd fs=>obtain⟨_,⟨_,_,_,e,_⟩,_⟩:=x;exact uk e
 |rng lo hi=>obtain⟨_,_,_,e⟩:=x;exact uk e
 |frz ob u=>obtain⟨e,_⟩:=x;exact uk e
 |tbl ps=>exact uk (show h.get? a=some _ from x)
 |met f y=>exact uk (show h.get? a=some _ from x)
 |ext φ=>obtain⟨_,⟨_,e⟩,_⟩:=x;exact uk e
theorem Paired.mapP {α β:Type}{F G:α->β->Prop}:∀{I:List α}{L:List β},Paired F I L->(∀a b,F a b->G a b)->Paired G I L
 |_,_,.nil,_=> .nil
 |_,_,.cons r t,f=> .cons (f _ _ r) (Paired.mapP t f)
theorem QM.stay (x:QM P w H h a o)(k:∀b u,(b=a∨H b=some (.own a))->h.get? b=some u->h'.get? b=some u)
  (L:∀b,H b=some (.own a)->H' b=some (.own a)) (M:∀b xs,H b=some (.tup xs)->H' b=some (.tup xs)):QM P w H' h' a o:=by
 induction o with
 |lst xs=>obtain⟨z,its,n,r,e⟩:=x;exact⟨z,its,n,r,k _ _ (.inl rfl) e⟩
 |tup xs=>obtain⟨z,its,r,ob,e,c⟩:=x;exact⟨z,its,r,ob,k _ _ (.inl rfl) e,c⟩
 |dK kvs=>obtain⟨z,y,vs,r,ob,es,I,e,c⟩:=x;exact⟨z,y,vs,r,ob,es,I,k _ _ (.inl rfl) e,c⟩
 |dT kvs=>
  obtain⟨z,y,xs,r,ob,es,I,e,c⟩:=x;exact⟨z,y,xs,Paired.mapP r fun p q z=>⟨z.1,M _ _ z.2.1,z.2.2⟩,ob,es,I,k _ _ (.inl rfl) e,c⟩
 |set S n=>obtain⟨ob,es,I,t,e,c⟩:=x;exact⟨ob,es,I,t,k _ _ (.inl rfl) e,c⟩
 |ins C dx fs=>
  obtain⟨d,z,ne,e,mA,⟨od,es,I,e2,c⟩,r⟩:=x;exact⟨L _ d,z,ne,k _ _ (.inl rfl) e,mA,⟨od,es,I,k _ _ (.inr d) e2,c⟩,r⟩
 |own y=>obtain⟨ob,e⟩:=x;exact⟨ob,k _ _ (.inl rfl) e⟩
 |xd fs=>obtain⟨mA,⟨od,es,I,e,c⟩,r⟩:=x;exact⟨mA,⟨od,es,I,k _ _ (.inl rfl) e,c⟩,r⟩
 |rng lo hi=>obtain⟨t,u,v,e⟩:=x;exact⟨t,u,v,k _ _ (.inl rfl) e⟩
 |frz ob u O=>obtain⟨e,q⟩:=x;exact⟨k _ _ (.inl rfl) e,O q⟩
 |tbl ps=>
  have e:h.get? a=some {cls:= .none,data:= .fields ps}:=x;show h'.get? a=some {cls:= .none,data:= .fields ps};exact k a _ (.inl rfl) e
 |met f y=>
  have e:h.get? a=some (PySem.W.methodObj (.ref f) (.ref y)):=x;show h'.get? a=some (PySem.W.methodObj (.ref f) (.ref y));exact k a _ (.inl rfl) e
 |ext φ=>obtain⟨p,⟨o,e⟩,st⟩:=x;exact⟨st _ _ p fun o q=>k _ _ (.inl rfl) q,⟨o,k _ _ (.inl rfl) e⟩,st⟩
theorem HOk.lt (x:HOk P w H h)(e:H a=some o):a<h.objs.size:=(x a o e).lt
theorem HOk.fresh (x:HOk P w H h)(e:h.objs.size<=a):H a=none:=by
 cases q:H a with
 |none=>rfl
 |some u=>exact absurd (Nat.lt_of_lt_of_le (x.lt q) e) (vC _)
theorem HOk.kept (x:HOk P w H h)(k:∀b u,h.get? b=some u->h'.get? b=some u):HOk P w H h':=fun a o e=>
 (x a o e).stay (fun b u _ q=>k b u q) (fun _ q=>q) fun _ _ q=>q
theorem HOk.laid (x:HOk P w H h)(k:∀b u,h.get? b=some u->h'.get? b=some u)(L:h.objs.size<=a)(new:QM P w (upd H a o) h' a o):HOk P w (upd H a o) h':=fun b u e=>by
 have hn:=x.fresh L;by_cases I:b=a
 ·subst I;rw [qh] at e;cases e;exact new
 ·rw [qx I] at e;exact(x b u e).stay (fun c v _ q=>k c v q) (fun c q=>by rw [qx (qr q hn)];exact q) fun c xs q=>by rw [qx (qr q hn)];exact q
end
def Rd (H:Hp)(a:Addr)(u:HO):Prop:=H a=some u∨∃o,H a=some (.frz o u)
theorem Rd.of {H:Hp}{a:Addr}{u:HO}(h:H a=some u):Rd H a u:= .inl h
theorem Rd.ok {P:Program}{w:World}{H:Hp}{h:Heap}{a:Addr}{u:HO}(r:Rd H a u)(x:HOk P w H h):QM P w H h a u:=by
 rcases r with r|⟨o,r⟩
 ·exact x a u r
 ·obtain⟨_,q⟩:=x a _ r;exact q
def Mut:Option HO->Prop
 |some (.lst _)=>True
 |some (.dK _)=>True
 |some (.dT _)=>True
 |some (.set _ _)=>True
 |some (.ins _ _ _)=>True
 |some (.ext _)=>True
 |_=>False
section
variable {P:Program}{w:World}{H:Hp}{h h':Heap}{x e:Addr}{o':HO}
theorem HOk.write (ok:HOk P w H h)(O:Mut (H x))(he:e=x∨H e=some (.own x))(k:∀b u,b≠e->h.get? b=some u->h'.get? b=some u)(Y:∃u,h'.get? e=some u)
  (new:QM P w (upd H x o') h' x o'):HOk P w (upd H x o') h':=fun b u q=>by
 have L:∀c y,H c=some (.own y)->c≠x:=fun c y r z=>by subst z;rw [r] at O;exact O
 have M:∀c xs,H c=some (.tup xs)->c≠x:=fun c xs r z=>by subst z;rw [r] at O;exact O
 by_cases R:b=x
 ·subst R;rw [qh] at q;cases q;exact new
 ·rw [qx R] at q;by_cases I:b=e
  ·have q':H b=some (.own x):=by
    rcases he with z|z
    ·exact absurd (I.trans z) R
    ·rw [I];exact z
   rw [q] at q';cases q';obtain⟨v,hv⟩:=Y;exact⟨v,by rw [I];exact hv⟩
  ·refine(ok b u q).stay (fun c v U r=>k c v ?_ r) (fun c r=>by rw [qx (L c b r)];exact r) fun c xs r=>by rw [qx (M c xs r)];exact r
   rcases U with rfl|U
   ·exact I
   ·rintro rfl;rcases he with z|z
    ·exact L c b U z
    ·rw [U] at z;cases z;exact R rfl
end
structure Un (fs ex:List Addr)(H H':Hp)(h h':Heap):Prop where
 keep:∀b o,h.get? b=some o->H b=none->b∉fs->b∉ex->h'.get? b=some o
 slot:∀b o,h.get? b=some o->H b=none->b∈fs->b∉ex->∃sl,h'.get? b=some {o with slots:=sl}
 free:∀b o,h.get? b=some o->H b=none->b∉ex->H' b=none
 there:∀b o,h.get? b=some o->b∉ex->∃o',h'.get? b=some o'
 tups:∀b xs,H b=some (.tup xs)->H' b=some (.tup xs)
 frzs:∀b o u,H b=some (.frz o u)->H' b=some (.frz o u)
 tbls:∀b ps,H b=some (.tbl ps)->∃more,H' b=some (.tbl (ps++more))
section
variable {fs fs' ex ex':List Addr}{H H1 H2:Hp}{h h1 h2 h':Heap}{a x e:Addr}{o:HO}
theorem Un.any (u:Un fs ex H H1 h h1){b:Addr}{ob:Obj}(q:h.get? b=some ob)(n:H b=none)(I:b∉ex):∃sl,h1.get? b=some {ob with slots:=sl}:=by
 by_cases L:b∈fs
 ·exact u.slot b ob q n L I
 ·exact⟨ob.slots,u.keep b ob q n L I⟩
theorem Un.trans (a:Un fs ex H H1 h h1)(b:Un fs ex H1 H2 h1 h2):Un fs ex H H2 h h2 where
 keep:=fun c ob q n L I=>b.keep c ob (a.keep c ob q n L I) (a.free c ob q n I) L I
 slot:=fun c ob q n L I=>by
  obtain⟨sl,e1⟩:=a.slot c ob q n L I;obtain⟨M,e2⟩:=b.slot c _ e1 (a.free c ob q n I) L I;exact⟨M,e2⟩
 free:=fun c ob q n I=>by
  obtain⟨o',e1⟩:=a.there c ob q I;exact b.free c o' e1 (a.free c ob q n I) I
 there:=fun c ob q I=>by
  obtain⟨o',e1⟩:=a.there c ob q I;exact b.there c o' e1 I
 tups:=fun c xs q=>b.tups c xs (a.tups c xs q)
 frzs:=fun c ob xs q=>b.frzs c ob xs (a.frzs c ob xs q)
 tbls:=fun c ps q=>by
  obtain⟨O,e1⟩:=a.tbls c ps q;obtain⟨R,e2⟩:=b.tbls c _ e1;exact⟨O++R,by rw [e2,Uy]⟩
theorem Un.kept (k:∀b u,h.get? b=some u->h'.get? b=some u):Un fs ex H H h h':=
 ⟨fun b ob q _ _ _=>k b ob q,fun b ob q _ _ _=>⟨ob.slots,k b ob q⟩,fun _ _ _ n _=>n,fun b ob q _=>⟨ob,k b ob q⟩,fun _ _ q=>q,fun _ _ _ q=>q,fun _ ps q=>⟨#[],by rw [q];simp⟩⟩
theorem Un.refl:Un fs ex H H h h:=Un.kept fun _ _ q=>q
theorem Un.laid (k:∀b u,h.get? b=some u->h'.get? b=some u)(I:h.objs.size<=a)(hn:H a=none):Un fs ex H (upd H a o) h h' where
 keep:=fun b u q _ _ _=>k b u q
 slot:=fun b u q _ _ _=>⟨u.slots,k b u q⟩
 free:=fun b u q n _=>by rw [qx (uK (Nat.lt_of_lt_of_le (uk q) I))];exact n
 there:=fun b u q _=>⟨u,k b u q⟩
 tups:=fun b xs q=>by rw [qx (qr q hn)];exact q
 frzs:=fun b u xs q=>by rw [qx (qr q hn)];exact q
 tbls:=fun b ps q=>⟨#[],by rw [qx (qr q hn),q];simp⟩
theorem Un.write (L:Mut (H x))(U:e=x∨H e=some (.own x))(k:∀b u,b≠e->h.get? b=some u->h'.get? b=some u)(M:∃u,h'.get? e=some u):Un fs ex H (upd H x o) h h':=by
 have O:∀b,H b=none->b≠x:=fun b n z=>by subst z;rw [n] at L;exact L
 have R:∀b,H b=none->b≠e:=fun b n z=>by
  subst z;rcases U with r|r
  ·exact O b n r
  ·rw [n] at r;cases r
 have hm:∀b u,H b=some u->¬Mut (some u)->b≠x:=fun b u q nm z=>by subst z;rw [q] at L;exact nm L
 refine⟨fun b u q n _ _=>k b u (R b n) q,fun b u q n _ _=>⟨u.slots,k b u (R b n) q⟩,fun b u q n _=>by rw [qx (O b n)];exact n,fun b u q _=> ?_,
  fun b xs q=>by rw [qx (hm b _ q fun z=>z)];exact q,fun b u xs q=>by rw [qx (hm b _ q fun z=>z)];exact q,fun b ps q=>⟨#[],by rw [qx (hm b _ q fun z=>z),q];simp⟩⟩
 by_cases I:b=e
 ·subst I;exact M
 ·exact⟨u,k b u I q⟩
end
def trk (h:Heap)(H:Hp):List Addr:=(List.range h.objs.size).filter fun a=>(H a).isSome
def hidT (h:Heap)(H:Hp):Heap:=PySem.W.hideAll h (trk h H)
theorem hidT_size (h:Heap)(H:Hp):(hidT h H).objs.size=h.objs.size:=PySem.W.hideAll_size _ _
theorem hidT_get {h:Heap}{H:Hp}{b:Addr}{o:Obj}(e:h.get? b=some o)(n:H b=none):(hidT h H).get? b=some o:=
 PySem.W.hideAll_get _ e fun hm=>by
  have q:(H b).isSome=true:=(List.mem_filter.mp hm).2;rw [n] at q;simp at q
theorem of_hidT {h:Heap}{H:Hp}{b:Addr}{o:Obj}(e:(hidT h H).get? b=some o):h.get? b=some o/\H b=none:=by
 have I:h.get? b=some o:=PySem.W.of_hideAll (trk h H) e;refine⟨I,?_⟩;cases q:H b with
 |none=>rfl
 |some x=>
  have hm:b∈trk h H:=List.mem_filter.mpr ⟨List.mem_range.mpr (uk I),by simp [q]⟩
  have z:(hidT h H).get? b=none:=PySem.W.hideAll_none (trk h H) hm;rw [z] at e;cases e
structure Mod (K:PySem.W.Frag)(mg:Str->Option Value)(base:Heap):Prop where
 kin:K.In base
 glob:base.Ns mainGlobals mg
 blt:∃mb,base.Ns builtinsNs mb/\∀x:Str,x≠"__name__"->mb x=bootBuiltins x
 nolimit:base.NoLimit
structure Cx where
 prog:Program
 w:World
 K:PySem.W.Frag
 mg:Str->Option Value
 base:Heap
 A:Around
 N:List Str
 s₀:Shared
 H₀:Hp
 env:Env
 outer:List Env
 stack:List Env
 ex:List Addr
 fn:Str->Bool
 calm:Bool
 pn:List (Addr×Obj)
 xe:Value->Shared->Prop
def frs (l:List Env):List Addr:=l.filterMap (·.frame)
abbrev Cx.fs (X:Cx):List Addr:=frs X.outer
def Vis (sc:Scope)(x:Str):Prop:=sc.names.lookup x=some .local∨sc.names.lookup x=some .cell∨sc.names.lookup x=some .free
def Loc (sc:Scope)(x:Str):Prop:=sc.names.lookup x=some .local∨sc.names.lookup x=some .cell
def Look (env:Env)(h:Heap)(m:Str->Option Value)(x:Str)(u:Value):Prop:=
 (env.kindOf x=some .local/\m x=some u)∨((env.kindOf x=some .cell∨env.kindOf x=some .free)/\∃c,env.cells.lookup x=some c/\h.IsCell c (some u))
structure Cx.Ok (X:Cx):Prop where
 mod:Mod X.K X.mg X.base
 kind:X.env.scope.kind= .function
 glob:X.env.globals=mainGlobals
 blt:X.env.builtins=builtinsNs
 above:X.s₀.heap.objs.size<=X.env.locals
 inj:∀x y c,X.env.cells.lookup x=some c->X.env.cells.lookup y=some c->x=y
 has:∀x,(X.env.kindOf x=some .cell∨X.env.kindOf x=some .free)->∃c,X.env.cells.lookup x=some c
 cab:∀x c,X.fn x=true->X.env.cells.lookup x=some c->X.s₀.heap.objs.size<=c
 hd:X.calm=true->X.A.handled=none
 frames:X.A.frames=some X.stack
 stk:X.stack=X.outer∨(X.stack=X.env::X.outer/\X.env.frame=some X.env.locals)
 exf:∀b∈X.ex,b≠X.env.locals/\∀x c,X.env.cells.lookup x=some c->c≠b
 bs:∀b o,X.base.get? b=some o->X.s₀.heap.get? b=some o/\X.H₀ b=none
 bsz:X.base.objs.size<=X.s₀.heap.objs.size
 noex:∀b o,X.base.get? b=some o->b∉X.ex
 exfs:∀b∈X.ex,b∉X.fs
 funs:X.s₀.heap.FunFrames X.base X.outer
 frf:∀b∈X.fs,X.H₀ b=none
structure Inv (X:Cx)(pins:List (Addr×Obj))(σ:List (Option V))(H:Hp)(s:Shared):Prop where
 ok:X.Ok
 os:s.os=X.s₀.os
 bare:AllBare s.gens
 base:Un X.fs X.ex X.H₀ H X.s₀.heap s.heap
 loc:∃m,s.heap.Ns X.env.locals m/\∀(i:Nat) (x:Str) (v:V),X.N[i]? =some x->σ[i]? =some (some v)->Vis X.env.scope x->∃u,RelV v u/\Look X.env s.heap m x u
 cell:∀x c,X.env.cells.lookup x=some c->∃v,s.heap.IsCell c v
 free:H X.env.locals=none
 freeC:∀x c,X.env.cells.lookup x=some c->H c=none
 pin:∀p∈X.pn++pins,s.heap.get? p.1=some p.2/\H p.1=none/\p.1≠X.env.locals/\p.1∉X.fs/\∀v,p.2.data≠ .cell v
 hok:HOk X.prog X.w H s.heap
 len:σ.length=X.N.length
 tk:0<s.toks
section
variable {X:Cx}{pins:List (Addr×Obj)}{σ:List (Option V)}{H H':Hp}{s:Shared}{h':Heap}
theorem Cx.Ok.nofr (ok:X.Ok){b:Addr}{o:Obj}(e:X.base.get? b=some o):b∉X.fs:=fun I=>by
 have:=(ok.funs.mem I).1;rw [e] at this;cases this
theorem Inv.bs (I:Inv X pins σ H s):∀b o,X.base.get? b=some o->s.heap.get? b=some o/\H b=none:=fun b o e=>
 ⟨I.base.keep b o (I.ok.bs b o e).1 (I.ok.bs b o e).2 (I.ok.nofr e) (I.ok.noex b o e),I.base.free b o (I.ok.bs b o e).1 (I.ok.bs b o e).2 (I.ok.noex b o e)⟩
theorem Inv.bk (I:Inv X pins σ H s):∀b o,X.base.get? b=some o->s.heap.get? b=some o:=fun b o e=>(I.bs b o e).1
theorem Inv.mod (I:Inv X pins σ H s):Mod X.K X.mg X.base:=I.ok.mod
theorem Inv.kIn (I:Inv X pins σ H s):X.K.In s.heap:=I.ok.mod.kin.keeps I.bk
theorem Inv.lt (I:Inv X pins σ H s):X.env.locals<s.heap.objs.size:=let⟨_,hn,_⟩:=I.loc;hn.lt
theorem Inv.sz (I:Inv X pins σ H s):X.s₀.heap.objs.size<=s.heap.objs.size:=uP I.ok.above (Nat.le_of_lt I.lt)
theorem Inv.nofs (I:Inv X pins σ H s){a:Addr}(h:s.heap.objs.size<=a):a∉X.fs:=fun L=>by
 obtain⟨_,o,M,_⟩:=I.ok.funs.mem L;exact absurd (Nat.lt_of_lt_of_le (uk M) (uP I.sz h)) (vC _)
theorem Inv.cne (I:Inv X pins σ H s):∀x c,X.env.cells.lookup x=some c->c≠X.env.locals:=fun x c e z=>by
 obtain⟨v,o,O,hd⟩:=I.cell x c e;obtain⟨m,⟨o',es,R,L,M,_⟩,_⟩:=I.loc;rw [z,L] at O;cases O;rw [M] at hd;cases hd
theorem Inv.funs (I:Inv X pins σ H s):s.heap.FunFrames X.base X.outer:=by
 have all:∀(l:List Env),(∀b∈frs l,b∈X.fs)->X.s₀.heap.FunFrames X.base l->s.heap.FunFrames X.base l:=by
  intro l
  induction l with
  |nil=>intro _ _;trivial
  |cons env r Y=>
   intro U hl;obtain⟨hk,⟨L,o,M,hn,ho,hd⟩,hr⟩:=hl;have O:L∈X.fs:=U L (by unfold frs;rw [U4,M];exact uq)
   obtain⟨sl,e⟩:=I.base.slot L o ho (I.ok.frf L O) O fun z=>I.ok.exfs L z O;exact⟨hk,⟨L,_,M,hn,e,hd⟩,Y (fun b R=>U b (by unfold frs;rw [U4,M];exact uh _ R)) hr⟩
 exact all X.outer (fun _ R=>R) I.ok.funs
theorem Inv.stack (I:Inv X pins σ H s):s.heap.FunFrames X.base X.stack:=by
 rcases I.ok.stk with e|⟨e,L⟩
 ·rw [e];exact I.funs
 ·rw [e];obtain⟨m,hn,_⟩:=I.loc;refine .cons (by rw [I.ok.kind];decide) L hn ?_ I.funs
  exact Heap.get?_none_of_le (uP I.ok.bsz I.ok.above)
theorem Inv.stkSub (I:Inv X pins σ H s):∀b∈frs X.stack,b∈X.env.locals::X.fs:=fun b L=>by
 rcases I.ok.stk with e|⟨e,M⟩
 ·rw [e] at L;exact uh _ L
 ·rw [e] at L;unfold frs at L;rw [U4,M] at L;exact L
theorem Inv.stkFree (I:Inv X pins σ H s):∀b∈frs X.stack,H b=none:=fun b L=>by
 rcases List.mem_cons.mp (I.stkSub b L) with e|L
 ·rw [e];exact I.free
 ·obtain⟨_,o,M,_⟩:=I.ok.funs.mem L;exact I.base.free b o M (I.ok.frf b L) fun z=>I.ok.exfs b z L
theorem Inv.step {g':Array GenState}{t':Nat}{d':Drawn}{ch:List Addr}(I:Inv X pins σ H s)
  (M:∀b∈ch,(b∈X.ex∨X.s₀.heap.objs.size<=b)/\b≠X.env.locals/\(∀x c,X.env.cells.lookup x=some c->c≠b)/\∀p∈X.pn++pins,p.1≠b)
  (keep:∀b o,b≠X.env.locals->b∉X.fs->b∉ch->s.heap.get? b=some o->H b=none->h'.get? b=some o)
  (slot:∀b o,b≠X.env.locals->b∈X.fs->b∉ch->s.heap.get? b=some o->H b=none->∃sl,h'.get? b=some {o with slots:=sl}) (free:∀b o,b∉ch->s.heap.get? b=some o->H b=none->H' b=none)
  (there:∀b o,b∉ch->s.heap.get? b=some o->∃o',h'.get? b=some o')
  (tups:∀b xs,H b=some (.tup xs)->H' b=some (.tup xs)) (frzs:∀b o u,H b=some (.frz o u)->H' b=some (.frz o u)) (tbls:∀b ps,H b=some (.tbl ps)->∃more,H' b=some (.tbl (ps++more)))
  (ns:∀m,s.heap.Ns X.env.locals m->h'.Ns X.env.locals m) (hok:HOk X.prog X.w H' h') (hg:AllBare g') (ht:0<t':=by ac_rfl):
  Inv X pins σ H' {s with heap:=h',gens:=g',drawn:=d',toks:=t'}:=by
 have aa:∀b o,X.s₀.heap.get? b=some o->b≠X.env.locals:=fun b o e=>uK (Nat.lt_of_lt_of_le (uk e) I.ok.above);have U:∀b o,X.s₀.heap.get? b=some o->b∉X.ex->b∉ch:=fun b o e L Y=>by
  rcases(M b Y).1 with z|z
  ·exact L z
  ·exact absurd (Nat.lt_of_lt_of_le (uk e) z) (vC _)
 have O:∀x c,X.env.cells.lookup x=some c->∀v,s.heap.IsCell c v->h'.IsCell c v:=fun x c e v ⟨o,ho,hd⟩=>by
  have R:c∉ch:=fun z=>(M c z).2.2.1 x c e rfl;by_cases hc:c∈X.fs
  ·obtain⟨sl,q⟩:=slot c o (I.cne x c e) hc R ho (I.freeC x c e);exact⟨_,q,hd⟩
  ·exact⟨o,keep c o (I.cne x c e) hc R ho (I.freeC x c e),hd⟩
 refine⟨I.ok,I.os,hg,⟨fun b o e n Y L=> ?_,fun b o e n Y L=> ?_,fun b o e n L=> ?_,fun b o e L=> ?_,fun b xs e=>tups b xs (I.base.tups b xs e),fun b o xs e=>frzs b o xs (I.base.frzs b o xs e),fun b ps e=> ?_⟩,?_,fun x c e=> ?_,?_,fun x c e=> ?_,fun p hp=> ?_,hok,I.len,ht⟩
 ·exact keep b o (aa b o e) Y (U b o e L) (I.base.keep b o e n Y L) (I.base.free b o e n L)
 ·obtain⟨sl,e1⟩:=I.base.slot b o e n Y L;obtain⟨ab,e2⟩:=slot b _ (aa b o e) Y (U b o e L) e1 (I.base.free b o e n L);exact⟨ab,e2⟩
 ·obtain⟨o',e1⟩:=I.base.there b o e L;exact free b o' (U b o e L) e1 (I.base.free b o e n L)
 ·obtain⟨o',e1⟩:=I.base.there b o e L;exact there b o' (U b o e L) e1
 ·obtain⟨m1,e1⟩:=I.base.tbls b ps e;obtain⟨m2,e2⟩:=tbls b _ e1;exact⟨m1++m2,by rw [e2,Uy]⟩
 ·obtain⟨m,hn,hl⟩:=I.loc;refine⟨m,ns m hn,fun i x v e1 e2 e3=> ?_⟩;obtain⟨u,r,l⟩:=hl i x v e1 e2 e3;refine⟨u,r,?_⟩;rcases l with l|⟨k,c,e,z⟩
  ·exact .inl l
  ·exact .inr ⟨k,c,e,O x c e _ z⟩
 ·obtain⟨v,z⟩:=I.cell x c e;exact⟨v,O x c e v z⟩
 ·obtain⟨m,⟨o,_,_,ho,_⟩,_⟩:=I.loc;exact free _ o (fun z=>(M _ z).2.1 rfl) ho I.free
 ·obtain⟨v,o,ho,hd⟩:=I.cell x c e;exact free c o (fun z=>(M c z).2.2.1 x c e rfl) ho (I.freeC x c e)
 ·obtain⟨e,n,ne,nf,d⟩:=I.pin p hp;have R:p.1∉ch:=fun z=>(M p.1 z).2.2.2 p hp rfl;exact⟨keep p.1 p.2 ne nf R e n,free p.1 p.2 R e n,ne,nf,d⟩
theorem Inv.un {t':Nat}(I:Inv X pins σ H s)(u:Un X.fs [] H H' s.heap h')(hok:HOk X.prog X.w H' h')(ht:0<t':=by ac_rfl):Inv X pins σ H' {s with heap:=h',toks:=t'}:=by
 obtain⟨m,⟨o,es,ep,U,r⟩,_⟩:=id I.loc;obtain⟨sl,Y⟩:=u.any U I.free (by simp)
 exact I.step (g':=s.gens) (d':=s.drawn) (ch:= []) (fun _ z=>nomatch z) (fun b o _ M _ e n=>u.keep b o e n M (by simp)) (fun b o _ M _ e n=>u.slot b o e n M (by simp)) (fun b o _ e n=>u.free b o e n (by simp)) (fun b o _ e=>u.there b o e (by simp)) u.tups u.frzs u.tbls (fun m' hm=>by
  obtain⟨o',O,R,L,r'⟩:=hm;rw [U] at L;cases L;exact⟨_,O,R,Y,r'⟩) hok I.bare
theorem Inv.call {g':Array GenState}{t':Nat}{d':Drawn}{ch:List Addr}(I:Inv X pins σ H s)(u:Un (frs X.stack) ch H H' s.heap h')(hok:HOk X.prog X.w H' h')(hg:AllBare g')
  (M:∀b∈ch,(b∈X.ex∨X.s₀.heap.objs.size<=b)/\b≠X.env.locals/\(∀x c,X.env.cells.lookup x=some c->c≠b)/\∀p∈X.pn++pins,p.1≠b) (ht:0<t':=by ac_rfl):
  Inv X pins σ H' {s with heap:=h',gens:=g',drawn:=d',toks:=t'}:=by
 obtain⟨m,⟨o,es,ep,ho,r⟩,_⟩:=id I.loc;obtain⟨sl,R⟩:=u.any ho I.free fun z=>(M _ z).2.1 rfl;exact I.step (ch:=ch) M (fun b o R hb L e n=>u.keep b o e n (fun z=>(List.mem_cons.mp (I.stkSub b z)).elim R hb) L) (fun b o _ _ L e n=>u.any e n L) (fun b o L e n=>u.free b o e n L) (fun b o L e=>u.there b o e L) u.tups u.frzs u.tbls (fun m' hm=>by
  obtain⟨o',U,Y,O,r'⟩:=hm;rw [ho] at O;cases O;exact⟨_,U,Y,R,r'⟩) hok hg
theorem Inv.turned {t':Nat}{it:Addr}(I:Inv X pins σ H s)(k:∀b o,b≠it->s.heap.get? b=some o->h'.get? b=some o)(hn:H it=none)(O:it≠X.env.locals)
  (h1:it∈X.ex∨X.s₀.heap.objs.size<=it) (h2:∀x c,X.env.cells.lookup x=some c->c≠it) (R:∀p∈X.pn++pins,p.1≠it) (ht:0<t':=by ac_rfl):Inv X pins σ H {s with heap:=h',toks:=t'}:=by
 have M:∀b u,H b=some u->b≠it:=fun b u e z=>by rw [z,hn] at e;cases e
 refine I.step (g':=s.gens) (d':=s.drawn) (ch:= [it]) (fun b U=> ?_) (fun b o _ _ L e _=>k b o (fun z=>L (by simp [z])) e) (fun b o _ _ L e _=>⟨o.slots,k b o (fun z=>L (by simp [z])) e⟩) (fun _ _ _ _ n=>n)
  (fun b o L e=>⟨o,k b o (fun z=>L (by simp [z])) e⟩) (fun _ _ e=>e) (fun _ _ _ e=>e) (fun b ps e=>⟨#[],by rw [e];simp⟩) (fun m hm=> ?_) (fun b u e=> ?_) I.bare
 ·have e:b=it:=by simpa using U
  subst e;exact⟨h1,O,h2,R⟩
 ·obtain⟨o,es,Y,ho,r⟩:=hm;exact⟨o,es,Y,k _ o (U9 O) ho,r⟩
 ·refine(I.hok b u e).stay (fun c v L q=>k c v ?_ q) (fun _ q=>q) fun _ _ q=>q;rcases L with z|z
  ·rw [z];exact M b u e
  ·exact M c _ z
theorem Inv.tok (I:Inv X pins σ H s)(t:Nat)(L:0<t:=by ac_rfl):Inv X pins σ H {s with toks:=t}:=I.un (h':=s.heap) (t':=t) Un.refl I.hok
theorem Inv.kept {t':Nat}(I:Inv X pins σ H s)(k:∀b u,s.heap.get? b=some u->h'.get? b=some u)(L:0<t':=by ac_rfl):Inv X pins σ H {s with heap:=h',toks:=t'}:=I.un (Un.kept k) (I.hok.kept k)
theorem Inv.laid {a:Addr}{o:HO}{t':Nat}(I:Inv X pins σ H s)(k:∀b u,s.heap.get? b=some u->h'.get? b=some u)(L:s.heap.objs.size<=a)(new:QM X.prog X.w (upd H a o) h' a o)(M:0<t':=by ac_rfl):
  Inv X pins σ (upd H a o) {s with heap:=h',toks:=t'}:=I.un (Un.laid k L (I.hok.fresh L)) (I.hok.laid k L new)
theorem Inv.write {x e:Addr}{o:HO}{t':Nat}(I:Inv X pins σ H s)(M:Mut (H x))(O:e=x∨H e=some (.own x))(k:∀b u,b≠e->s.heap.get? b=some u->h'.get? b=some u)(L:∃u,h'.get? e=some u)
  (new:QM X.prog X.w (upd H x o) h' x o) (R:0<t':=by ac_rfl):Inv X pins σ (upd H x o) {s with heap:=h',toks:=t'}:=I.un (Un.write M O k L) (I.hok.write M O k L new)
theorem Inv.pins_of {L:List (Addr×Obj)}(I:Inv X pins σ H s)(h:∀p∈L,s.heap.get? p.1=some p.2/\H p.1=none/\p.1≠X.env.locals/\p.1∉X.fs/\∀v,p.2.data≠ .cell v):Inv X L σ H s:=
 ⟨I.ok,I.os,I.bare,I.base,I.loc,I.cell,I.free,I.freeC,fun p M=>(List.mem_append.mp M).elim (fun z=>I.pin p (Uj _ z)) (h p),I.hok,I.len,I.tk⟩
theorem ZV {N:List Str}(I:N.Nodup){i j:Nat}{x:Str}(a:N[i]? =some x)(b:N[j]? =some x):i=j:=by
 obtain⟨h1,e1⟩:=List.getElem?_eq_some_iff.mp a;obtain⟨h2,e2⟩:=List.getElem?_eq_some_iff.mp b;exact(List.getElem_inj I).mp (e1.trans e2.symm)
theorem store_ok2 {M:Model}{A:Around}{E:Value->Shared->Prop}{i:Nat}{x:Str}{v:V}{u:Value}{Q:Unit->Shared->Prop}(I:Inv X pins σ H s)(hN:X.N.Nodup)(hi:X.N[i]? =some x)(U:Loc X.env.scope x)(r:RelV v u)
  (h:∀s',Inv X pins (σ.set i (some v)) H s'->(∃a,Heap.SameBut a s.heap s'.heap/\(a=X.env.locals∨X.env.cells.lookup x=some a))->Q Unit.unit s') (hf:X.fn x=true∨X.env.scope.names.lookup x=some .local:=by first|exact .inl rfl|exact .inr rfl|assumption):wpAny M A (storeName X.env x u) Q E s:=by
 obtain⟨m,hn,hl⟩:=id I.loc;have ab:(X.env.scope.kind== .class||(X.env.scope.kind== .module&&X.env.locals !=X.env.globals))=false:=by rw [I.ok.kind];rfl
 have ac:i<σ.length:=by rw [I.len];exact(List.getElem?_eq_some_iff.mp hi).1
 have cne:=I.cne;have O:∀{a:Addr}{h':Heap},(∃o,s.heap.get? a=some o/\H a=none)->Heap.SameBut a s.heap h'->HOk X.prog X.w H h':=fun{a h'} ha L b ob e=>by
  obtain⟨_,_,Y⟩:=ha;refine(I.hok b ob e).stay (fun c w' R q=>(L.2 c ?_).trans q) (fun _ q=>q) fun _ _ q=>q;rintro rfl;rcases R with rfl|R
  ·rw [Y] at e;cases e
  ·rw [Y] at R;cases R
 rcases U with hk|hk
 ·refine wpAny_storeName_local hk hn (fun h' ah L=> ?_) ab;obtain⟨oL,_,_,ak,_⟩:=id hn;refine h _ ⟨I.ok,I.os,I.bare,⟨fun b o e n hb U=> ?_,fun b o e n hb U=> ?_,I.base.free,fun b o e U=> ?_,I.base.tups,I.base.frzs,I.base.tbls⟩,⟨_,ah,fun j y v' e1 e2 e3=> ?_⟩,fun y c e=> ?_,I.free,I.freeC,fun p hp=> ?_,O ⟨oL,ak,I.free⟩ L,by simpa using I.len,by first|exact I.tk|exact Nat.succ_pos _⟩ ⟨_,L,.inl rfl⟩
  ·exact(L.2 b (uK (Nat.lt_of_lt_of_le (uk e) I.ok.above))).trans (I.base.keep b o e n hb U)
  ·obtain⟨sl,e1⟩:=I.base.slot b o e n hb U;exact⟨sl,(L.2 b (uK (Nat.lt_of_lt_of_le (uk e) I.ok.above))).trans e1⟩
  ·obtain⟨o',e1⟩:=I.base.there b o e U;exact⟨o',(L.2 b (uK (Nat.lt_of_lt_of_le (uk e) I.ok.above))).trans e1⟩
  ·by_cases hj:j=i
   ·subst hj;rw [hi] at e1;cases e1;rw [Ua ac] at e2;cases e2;exact⟨u,r,.inl ⟨hk,by simp⟩⟩
   ·rw [Uk (U9 hj)] at e2;obtain⟨u',r',q⟩:=hl j y v' e1 e2 e3;refine⟨u',r',?_⟩;rcases q with⟨k,e⟩|⟨k,c,e,z⟩
    ·refine .inl ⟨k,?_⟩;have:y≠x:=fun e=>hj (ZV hN e1 (e▸hi));simp [this,e]
    ·exact .inr ⟨k,c,e,z.sameBut L (cne y c e)⟩
  ·obtain⟨w',z⟩:=I.cell y c e;exact⟨w',z.sameBut L (cne y c e)⟩
  ·obtain⟨e,n,ne,nf,d⟩:=I.pin p hp;exact⟨(L.2 p.1 ne).trans e,n,ne,nf,d⟩
 ·have aa:X.fn x=true:=by
   rcases hf with z|z
   ·exact z
   ·rw [z] at hk;cases hk
  obtain⟨c,R⟩:=I.ok.has x (.inl hk);obtain⟨w',z⟩:=I.cell x c R;refine wpAny_storeName_cell I.ok.kind hk R z (fun h' ad L=> ?_);obtain⟨oc,ae,af⟩:=id z;refine h {s with heap:=h'} ⟨I.ok,I.os,I.bare,⟨fun b o e n hb U=> ?_,fun b o e n hb U=> ?_,I.base.free,fun b o e U=> ?_,I.base.tups,I.base.frzs,I.base.tbls⟩,⟨m,hn.sameBut L (U9 (cne x c R)),fun j y v' e1 e2 e3=> ?_⟩,fun y c' e=> ?_,I.free,I.freeC,fun p hp=> ?_,O ⟨oc,ae,I.freeC x c R⟩ L,by simpa using I.len,by first|exact I.tk|exact Nat.succ_pos _⟩ ⟨c,L,.inr R⟩
  ·exact(L.2 b (uK (Nat.lt_of_lt_of_le (uk e) (I.ok.cab x c aa R)))).trans (I.base.keep b o e n hb U)
  ·obtain⟨sl,e1⟩:=I.base.slot b o e n hb U;exact⟨sl,(L.2 b (uK (Nat.lt_of_lt_of_le (uk e) (I.ok.cab x c aa R)))).trans e1⟩
  ·obtain⟨o',e1⟩:=I.base.there b o e U;exact⟨o',(L.2 b (uK (Nat.lt_of_lt_of_le (uk e) (I.ok.cab x c aa R)))).trans e1⟩
  ·by_cases hj:j=i
   ·subst hj;rw [hi] at e1;cases e1;rw [Ua ac] at e2;cases e2;exact⟨u,r,.inr ⟨.inl hk,c,R,ad⟩⟩
   ·rw [Uk (U9 hj)] at e2;obtain⟨u',r',q⟩:=hl j y v' e1 e2 e3;refine⟨u',r',?_⟩;rcases q with q|⟨k,c',e,z'⟩
    ·exact .inl q
    ·refine .inr ⟨k,c',e,z'.sameBut L ?_⟩;rintro rfl;exact hj (ZV hN e1 (I.ok.inj _ _ _ e R▸hi))
  ·by_cases ag:c'=c
   ·subst ag;exact⟨_,ad⟩
   ·obtain⟨w2,z2⟩:=I.cell y c' e;exact⟨w2,z2.sameBut L ag⟩
  ·obtain⟨e,n,ne,nf,d⟩:=I.pin p hp;refine⟨(L.2 p.1 ?_).trans e,n,ne,nf,d⟩;intro q;rw [q,ae] at e;have q':oc=p.2:=uQ e;exact d w' (by rw [<-q'];exact af)
theorem Jk {M:Model}{A:Around}{E:Value->Shared->Prop}{i:Nat}{x:Str}{v:V}{u:Value}{Q:Unit->Shared->Prop}(I:Inv X pins σ H s)(L:X.N.Nodup)(hi:X.N[i]? =some x)(O:Loc X.env.scope x)(r:RelV v u)
  (h:∀s',Inv X pins (σ.set i (some v)) H s'->Q Unit.unit s') (R:X.fn x=true∨X.env.scope.names.lookup x=some .local:=by first|exact .inl rfl|exact .inr rfl|assumption):wpAny M A (storeName X.env x u) Q E s:=
 store_ok2 I L hi O r (fun s' U _=>h s' U) R
theorem Inv.call' {s':Shared}{ch:List Addr}(I:Inv X pins σ H s)(M:s'.os=s.os)(u:Un (frs X.stack) ch H H' s.heap s'.heap)(hok:HOk X.prog X.w H' s'.heap)(O:AllBare s'.gens)
  (L:∀b∈ch,(b∈X.ex∨X.s₀.heap.objs.size<=b)/\b≠X.env.locals/\(∀x c,X.env.cells.lookup x=some c->c≠b)/\∀p∈X.pn++pins,p.1≠b) (R:0<s'.toks:=by ac_rfl):Inv X pins σ H' s':=by
 obtain⟨h',g',d',t',o'⟩:=s';have e:o'=s.os:=M;subst e;exact I.call (g':=g') (t':=t') (d':=d') u hok O L
end
abbrev XK:=Value->Option Addr->Hp->Prop
abbrev St:=List (Option V)
abbrev VK:=V->Hp->Prop
abbrev TE:=St->Hp->VK->Prop
abbrev TT:=St->Hp->(Bool->Hp->Prop)->Prop
abbrev TA:=St->Hp->(List V->Hp->Prop)->Prop
structure Ends where
 nx:St->Hp->Prop
 rt:VK
 bk:St->Hp->Prop:=fun _ _=>False
 ct:St->Hp->Prop:=fun _ _=>False
abbrev TS:=Ends->St->Hp->Prop
def EP (X:Cx)(pins:List (Addr×Obj))(σ:St)(Q:VK)(u:Value)(s':Shared):Prop:=∃v H',Inv X pins σ H' s'/\RelV v u/\Q v H'
def TP (X:Cx)(pins:List (Addr×Obj))(σ:St)(Q:Bool->Hp->Prop)(b:Bool)(s':Shared):Prop:=∃H',Inv X pins σ H' s'/\Q b H'
def AP (X:Cx)(pins:List (Addr×Obj))(σ:St)(Q:List V->Hp->Prop)(us:List Value)(s':Shared):Prop:=∃vs H',Inv X pins σ H' s'/\Vals vs us/\Q vs H'
def SP (X:Cx)(pins:List (Addr×Obj))(D:Ends)(f:Flow)(s':Shared):Prop:=
 match f with
 | .next=>∃σ' H',Inv X pins σ' H' s'/\D.nx σ' H'
 | .brk=>∃σ' H',Inv X pins σ' H' s'/\D.bk σ' H'
 | .cont=>∃σ' H',Inv X pins σ' H' s'/\D.ct σ' H'
 | .ret u=>∃v σ' H',Inv X pins σ' H' s'/\RelV v u/\D.rt v H'
def PE (X:Cx)(e:Expr)(t:TE):Prop:=
 ∀(pins:List (Addr×Obj)) (s:Shared) (σ:St) (H:Hp) (Q:VK),Inv X pins σ H s->t σ H Q->wpAny (model X.prog X.w) X.A (eval e X.env) (EP X pins σ Q) X.xe s
def PT (X:Cx)(e:Expr)(t:TT):Prop:=
 ∀(pins:List (Addr×Obj)) (s:Shared) (σ:St) (H:Hp) (Q:Bool->Hp->Prop),Inv X pins σ H s->t σ H Q->wpAny (model X.prog X.w) X.A (isTrue e X.env (eval e X.env)) (TP X pins σ Q) X.xe s
def PW (X:Cx)(e:Expr)(t:TT):Prop:=
 ∀(whole:Sem Value) (pins:List (Addr×Obj)) (s:Shared) (σ:St) (H:Hp) (Q:Bool->Hp->Prop),Inv X pins σ H s->t σ H Q->wpAny (model X.prog X.w) X.A (isTrue e X.env whole) (TP X pins σ Q) X.xe s
theorem PW.pt {X:Cx}{e:Expr}{t:TT}(h:PW X e t):PT X e t:=h _
def PA (X:Cx)(es:List Expr)(t:TA):Prop:=
 ∀(pos:Pos) (pins:List (Addr×Obj)) (s:Shared) (σ:St) (H:Hp) (Q:List V->Hp->Prop),Inv X pins σ H s->t σ H Q->wpAny (model X.prog X.w) X.A (spliced (backTo pos (starEach es X.env))) (AP X pins σ Q) X.xe s
def PS (X:Cx)(st:Stmt)(t:TS):Prop:=
 ∀(pins:List (Addr×Obj)) (s:Shared) (σ:St) (H:Hp) (D:Ends),Inv X pins σ H s->t D σ H->wpAny (model X.prog X.w) X.A (exec st X.env) (SP X pins D) X.xe s
def PSs (X:Cx)(st:List Stmt)(t:TS):Prop:=
 ∀(pins:List (Addr×Obj)) (s:Shared) (σ:St) (H:Hp) (D:Ends),Inv X pins σ H s->t D σ H->wpAny (model X.prog X.w) X.A (execs st X.env) (SP X pins D) X.xe s
theorem thn {α:Type}{t:Sem α}{Q I:α->Shared->Prop}{M:Model}{A:Around}{E:Value->Shared->Prop}{s:Shared}(h:wpAny M A t Q E s)(L:∀a s,Q a s->I a s):wpAny M A t I E s:=uY h L fun _ _ x=>x
section
variable {X:Cx}
theorem bin {a b:Expr}{ta tb:TE}(ha:PE X a ta)(L:PE X b tb){pins:List (Addr×Obj)}{s:Shared}{σ:St}{H:Hp}{R:V->V->Hp->Prop}(I:Inv X pins σ H s)(h:ta σ H fun x H1=>tb σ H1 fun y H2=>R x y H2)
  {α:Type}{Q:α->Shared->Prop}{f:Value->Value->Sem α}
  (M:∀v u s2 x y H2,Inv X pins σ H2 s2->RelV x v->RelV y u->R x y H2->wpAny (model X.prog X.w) X.A (f v u) Q X.xe s2):
  wpAny (model X.prog X.w) X.A (eval a X.env) (fun v O=>wpAny (model X.prog X.w) X.A (eval b X.env) (fun u U=>wpAny (model X.prog X.w) X.A (f v u) Q X.xe U) X.xe O) X.xe s:=by
 refine thn (ha pins s σ H _ I h) fun v s1 ⟨x,H1,Y,r1,q1⟩=> ?_;refine thn (L pins s1 σ H1 _ Y q1) fun u s2 ⟨y,H2,I2,r2,q2⟩=> ?_;exact M v u s2 x y H2 I2 r1 r2 q2
def tVar (i:Nat):TE:=fun σ H Q=>∃v,σ[i]? =some (some v)/\Q v H
def tC (v:V):TE:=fun _ H Q=>Q v H
theorem pe_var {i:Nat}{x:Str}{pos:Pos}(Y:X.N[i]? =some x)(hv:Vis X.env.scope x)(hd:(x==("__debug__":Str))=false:=by decide)(R:(x==("__classdict__":Str))=false:=by decide):PE X (.Name x pos) (tVar i):=by
 intro pins s σ H Q I h;obtain⟨v,e,h⟩:=h;obtain⟨m,hn,hl⟩:=I.loc;obtain⟨u,r,l⟩:=hl i x v Y e hv;have M:EP X pins σ Q u s:=⟨v,H,I,r,h⟩;rcases l with⟨O,hm⟩|⟨O,c,U,L⟩
 ·exact wpAny_Name (wpAny_loadName_local I.ok.kind O hn hm M) hd
 ·rcases O with O|O
  ·exact wpAny_Name (wpAny_loadName_cell I.ok.kind O U L M) hd
  ·exact wpAny_Name (wpAny_loadName_free I.ok.kind O U L M R) hd
theorem qj {i j pos}:PE X (.Constant (.int i) j pos) (tC (.int i)):=fun _ _ _ H _ I h=>wpAny_Constant_int ⟨.int i,H,I.tok _,⟨_,rfl⟩,h⟩
theorem jn {b j pos}:PE X (.Constant (.bool b) j pos) (tC (.bl b)):=fun _ _ _ H _ I h=>Constant_bool ⟨.bl b,H,I,rfl,h⟩
theorem Qe {j pos}:PE X (.Constant .none j pos) (tC .non):=fun _ _ _ H _ I h=>Constant_none ⟨.non,H,I,rfl,h⟩
theorem qi {x j pos}:PE X (.Constant (.str x) j pos) (tC (.str x)):=fun _ _ _ H _ I h=>Calls.Constant_str ⟨.str x,H,I.tok _,⟨_,rfl⟩,h⟩
def Gl (X:Cx)(x:Str):Prop:=X.env.kindOf x=some .globalImplicit
theorem jY {E:Value->Shared->Prop}{pins:List (Addr×Obj)}{s:Shared}{σ:St}{H:Hp}{x:Str}{u:Value}{pos:Pos}{Q:Value->Shared->Prop}(I:Inv X pins σ H s)(L:Gl X x)(hm:X.mg x=some u)(h:Q u s)
  (hd:(x==("__debug__":Str))=false:=by decide):wpAny (model X.prog X.w) X.A (eval (.Name x pos) X.env) Q E s:=
 Calls.Name_function_global I.ok.kind L (Calls.loadGlobal_global (by rw [I.ok.glob];exact I.mod.glob.keeps I.bk) hm h) hd
theorem Xg {E:Value->Shared->Prop}{pins:List (Addr×Obj)}{s:Shared}{σ:St}{H:Hp}{x:Str}{u:Value}{pos:Pos}{Q:Value->Shared->Prop}(I:Inv X pins σ H s)(L:Gl X x)(hm:X.mg x=none)(M:bootBuiltins x=some u)(h:Q u s)
  (hn:x≠"__name__":=by decide) (hd:(x==("__debug__":Str))=false:=by decide):wpAny (model X.prog X.w) X.A (eval (.Name x pos) X.env) Q E s:=by
 obtain⟨mb,h1,h2⟩:=I.mod.blt;exact Calls.Name_function_global I.ok.kind L (Calls.loadGlobal_builtin (by rw [I.ok.glob];exact I.mod.glob.keeps I.bk) hm (by rw [I.ok.blt];exact h1.keeps I.bk) ((h2 x hn).trans M) h) hd
theorem pe_glob {x:Str}{v:V}{u:Value}{pos:Pos}(L:Gl X x)(hm:X.mg x=some u)(r:RelV v u)(hd:(x==("__debug__":Str))=false:=by decide):PE X (.Name x pos) (tC v):=
 fun _ _ _ H _ I h=>jY I L hm ⟨v,H,I,r,h⟩ hd
theorem qV {x:Str}{v:V}{u:Value}{pos:Pos}(L:Gl X x)(hm:X.mg x=none)(M:bootBuiltins x=some u)(r:RelV v u)(hn:x≠"__name__":=by decide)(hd:(x==("__debug__":Str))=false:=by decide):PE X (.Name x pos) (tC v):=
 fun _ _ _ H _ I h=>Xg I L hm M ⟨v,H,I,r,h⟩ hn hd
variable {a b:Expr}{ta tb:TE}{pos:Pos}
def PC (X:Cx)(op:CmpOp)(a b:Expr)(t:TE):Prop:=
 ∀(pins:List (Addr×Obj)) (s:Shared) (σ:St) (H:Hp) (Q:VK),Inv X pins σ H s->t σ H Q->
  wpAny (model X.prog X.w) X.A (eval a X.env) (fun v s₁=>wpAny (model X.prog X.w) X.A (eval b X.env) (fun u s₂=>wpAny (model X.prog X.w) X.A (compareOp op v u) (EP X pins σ Q) X.xe s₂) X.xe s₁) X.xe s
def tB (t:TE):TT:=fun σ H Q=>t σ H fun x H1=>∃c,x= .bl c/\Q c H1
theorem pt_cmp {L:CmpOp}{t:TE}(h:PC X L a b t)(h1:behindInMarks L b=false:=by first|exact nobehind _ (by decide) (by decide)|rfl):PT X (.Compare a [L] [b] pos) (tB t):=by
 intro pins s σ H Q I M;refine wpAny_isTrue_Compare1 (thn (h pins s σ H _ I M) fun v s1 h1=>thn h1 fun u s2 h2=>thn h2 fun c U ⟨x,H1,O,R,q1⟩=> ?_) h1;obtain⟨d,rfl,q⟩:=q1;cases R;exact vc ⟨H1,O,q⟩
theorem qU {e:Expr}{t:TE}(h:PE X e t)(M:∀L,isTrue e X.env L=(do let v<-L;standAt e.pos;holding [v] (truthy v)):=by intro _;rfl):PT X e (tB t):=by
 intro pins s σ H Q I O;refine isTrue_plain (thn (h pins s σ H _ I O) fun v s1 ⟨x,H1,R,U,q1⟩=> ?_) (M _);obtain⟨d,rfl,q⟩:=q1;cases U;exact vc ⟨H1,R,q⟩
variable {tA tB':TT}{rest:List Expr}
def tAnd (t u:TT):TT:=fun σ H Q=>t σ H fun c H1=>if c=true then u σ H1 Q else Q false H1
def tOr (t u:TT):TT:=fun σ H Q=>t σ H fun c H1=>if c=true then Q true H1 else u σ H1 Q
def tNot (t:TT):TT:=fun σ H Q=>t σ H fun c H1=>Q (!c) H1
theorem y6 (ha:PT X a tA):PW X (.BoolOp .And [a] pos) tA:=by
 intro L pins s σ H Q I h;refine isTrue_and (thn (ha pins s σ H Q I h) fun c s1 e=> ?_);cases c with
 |true=>exact isTrue_and_nil e
 |false=>exact e
theorem yK (ha:PT X a tA):PW X (.BoolOp .Or [a] pos) tA:=by
 intro L pins s σ H Q I h;refine isTrue_or (thn (ha pins s σ H Q I h) fun c s1 e=> ?_);cases c with
 |false=>exact isTrue_or_nil e
 |true=>exact e
theorem Y9 (ha:PT X a tA)(M:PW X (.BoolOp .And (b::rest) pos) tB'):PW X (.BoolOp .And (a::b::rest) pos) (tAnd tA tB'):=by
 intro O pins s σ H Q I h;refine isTrue_and (thn (ha pins s σ H _ I h) fun c s1 ⟨H1,L,q1⟩=> ?_);cases c with
 |true=>exact M O pins s1 σ H1 Q L q1
 |false=>exact⟨H1,L,q1⟩
theorem Yf (ha:PT X a tA)(M:PW X (.BoolOp .Or (b::rest) pos) tB'):PW X (.BoolOp .Or (a::b::rest) pos) (tOr tA tB'):=by
 intro O pins s σ H Q I h;refine isTrue_or (thn (ha pins s σ H _ I h) fun c s1 ⟨H1,L,q1⟩=> ?_);cases c with
 |true=>exact⟨H1,L,q1⟩
 |false=>exact M O pins s1 σ H1 Q L q1
theorem Qm (ha:PT X a tA):PT X (.UnaryOp .Not a pos) (tNot tA):=by
 intro pins s σ H Q I h;exact isTrue_not (ha pins s σ H (fun c H1=>Q (!c) H1) I h)
def tAndV (ta tb:TE):TE:=fun σ H Q=>ta σ H fun x H1=>∃c,x= .bl c/\if c=true then tb σ H1 Q else Q (.bl false) H1
def tOrV (ta tb:TE):TE:=fun σ H Q=>ta σ H fun x H1=>∃c,x= .bl c/\if c=true then Q (.bl true) H1 else tb σ H1 Q
def tNotV (ta:TE):TE:=fun σ H Q=>ta σ H fun x H1=>∃c,x= .bl c/\Q (.bl (!c)) H1
theorem Jv {op}{t:TE}(h:PE X a t):PE X (.BoolOp op [a] pos) t:=fun pins s σ H Q I L=>BoolOp_one (h pins s σ H Q I L)
theorem Xa (ha:PE X a ta)(M:PE X (.BoolOp .And (b::rest) pos) tb):PE X (.BoolOp .And (a::b::rest) pos) (tAndV ta tb):=by
 intro pins s σ H Q I h;refine BoolOp_and (thn (ha pins s σ H _ I h) fun v s1 ⟨x,H1,L,O,q1⟩=> ?_);obtain⟨c,rfl,q1⟩:=q1;cases O;refine vc ?_;cases c with
 |true=>exact M pins s1 σ H1 Q L q1
 |false=>exact⟨.bl false,H1,L,rfl,q1⟩
theorem pe_or (ha:PE X a ta)(M:PE X (.BoolOp .Or (b::rest) pos) tb):PE X (.BoolOp .Or (a::b::rest) pos) (tOrV ta tb):=by
 intro pins s σ H Q I h;refine BoolOp_or (thn (ha pins s σ H _ I h) fun v s1 ⟨x,H1,L,O,q1⟩=> ?_);obtain⟨c,rfl,q1⟩:=q1;cases O;refine vc ?_;cases c with
 |false=>exact M pins s1 σ H1 Q L q1
 |true=>exact⟨.bl true,H1,L,rfl,q1⟩
theorem pe_not (ha:PE X a ta):PE X (.UnaryOp .Not a pos) (tNotV ta):=by
 intro pins s σ H Q I h;refine UnaryOp_ (thn (ha pins s σ H _ I h) fun v s1 ⟨x,H1,L,M,q1⟩=> ?_);obtain⟨c,rfl,q1⟩:=q1;cases M;exact not_of (vc ⟨.bl (!c),H1,L,rfl,q1⟩)
def tIf (t:TT)(ta tb:TE):TE:=fun σ H Q=>t σ H fun c H1=>if c=true then ta σ H1 Q else tb σ H1 Q
theorem yR {c:Expr}(M:PT X c tA)(ha:PE X a ta)(O:PE X b tb):PE X (.IfExp c a b pos) (tIf tA ta tb):=by
 intro pins s σ H Q I h;refine wpAny_IfExp (thn (M pins s σ H _ I h) fun d s1 ⟨H1,L,q1⟩=> ?_);cases d with
 |true=>exact ha pins s1 σ H1 Q L q1
 |false=>exact O pins s1 σ H1 Q L q1
end
def SqL (K:PySem.W.Frag)(H:Hp)(a:Addr)(xs:List V):Prop:=
 Rd H a (.lst xs)∨
  ∃(o:Obj) (its:Array Value) (n:Nat),K.lookup a=some o/\o.cls= .type "list"/\o.dict=none/\o.data= .seq its n/\its.size<=sizeLine/\Vals xs its.toList
def SqT (K:PySem.W.Frag)(H:Hp)(a:Addr)(xs:List V):Prop:=
 Rd H a (.tup xs)∨
  ∃(o:Obj) (its:Array Value) (n:Nat),K.lookup a=some o/\o.cls= .type "tuple"/\o.data= .seq its n/\its.size<=sizeLine/\Vals xs its.toList
noncomputable def absV:Value->Option V
 | .none=>some .non
 | .bool b=>some (.bl b)
 | .int i _=>some (.int i)
 | .str x _=>some (.str x)
 | .bytes b _=>some (.byt b)
 | .float b _=>some (.flt b)
 | .ref a=>some (.ref a)
 | .type n=>some (.ty n)
 |_=>none
theorem RelV.abs {x:V}{u:Value}(r:RelV x u):absV u=some x:=by
 cases x with
 |non=>cases r;rfl
 |bl _=>cases r;rfl
 |int _=>obtain⟨t,rfl⟩:=r;rfl
 |str _=>obtain⟨t,rfl⟩:=r;rfl
 |byt _=>obtain⟨t,rfl⟩:=r;rfl
 |flt _=>obtain⟨t,rfl⟩:=r;rfl
 |ref _=>cases r;rfl
 |ty _=>cases r;rfl
theorem RelV.inj {x y:V}{u:Value}(r:RelV x u)(q:RelV y u):x=y:=uQ (r.abs.symm.trans q.abs)
theorem Vals.inj:∀{xs ys:List V}{us:List Value},Vals xs us->Vals ys us->xs=ys
 |_,_,_,.nil,.nil=>rfl
 |_,_,_,.cons r t,.cons r' t'=>by rw [r.inj r',Vals.inj t t']
section
variable {X:Cx}{pins:List (Addr×Obj)}{σ:St}{H:Hp}{s:Shared}{a:Addr}{xs ys:List V}
theorem SqL.of {K:PySem.W.Frag}(h:H a=some (.lst xs)):SqL K H a xs:= .inl (.inl h)
theorem SqT.of {K:PySem.W.Frag}(h:H a=some (.tup xs)):SqT K H a xs:= .inl (.inl h)
theorem Inv.list (I:Inv X pins σ H s)(h:SqL X.K H a xs):∃its:List Value,Vals xs its/\PlainL s.heap a its.toArray/\xs.length<=sizeLine:=by
 rcases h with h|⟨o,its,n,L,M,hd,O,R,r⟩
 ·obtain⟨z,its,n,r,e⟩:=h.ok I.hok;exact⟨its,r,⟨_,n,e,rfl,rfl,rfl⟩,z⟩
 ·refine⟨its.toList,r,⟨o,n,I.kIn a o L,M,hd,by simpa using O⟩,?_⟩
  have e:=r.length;simp only [v4] at e;omega
theorem Inv.tuple (I:Inv X pins σ H s)(h:SqT X.K H a xs):∃its:List Value,Vals xs its/\IsTup s.heap a its.toArray/\xs.length<=sizeLine:=by
 rcases h with h|⟨o,its,n,L,M,O,R,r⟩
 ·obtain⟨z,its,r,p⟩:=h.ok I.hok;exact⟨its,r,p,z⟩
 ·refine⟨its.toList,r,⟨o,I.kIn a o L,M,n,by simpa using O⟩,?_⟩
  have e:=r.length;simp only [v4] at e;omega
theorem Inv.list_inj (I:Inv X pins σ H s)(h:SqL X.K H a xs)(h':SqL X.K H a ys):xs=ys:=by
 obtain⟨its,r,⟨o,n,e,_,_,d⟩,_⟩:=I.list h;obtain⟨its',M,⟨o',R,L,_,_,d'⟩,_⟩:=I.list h';rw [e] at L;cases L;rw [d] at d';injection d' with O _
 have:its=its':=by simpa using congrArg Array.toList O
 subst this;exact r.inj M
theorem Inv.tuple_inj (I:Inv X pins σ H s)(h:SqT X.K H a xs)(h':SqT X.K H a ys):xs=ys:=by
 obtain⟨its,r,⟨o,e,_,n,d⟩,_⟩:=I.tuple h;obtain⟨its',M,⟨o',L,_,R,d'⟩,_⟩:=I.tuple h';rw [e] at L;cases L;rw [d] at d';injection d' with O _
 have:its=its':=by simpa using congrArg Array.toList O
 subst this;exact r.inj M
end
abbrev Cx.wish (X:Cx)(E:Value->Shared->Prop):Cx:={X with xe:=E}
abbrev Cx.nox (X:Cx):Cx:=X.wish fun _ _=>False
theorem Cx.Ok.wish {X:Cx}(ok:X.Ok)(E:Value->Shared->Prop):(X.wish E).Ok:=
 ⟨ok.mod,ok.kind,ok.glob,ok.blt,ok.above,ok.inj,ok.has,ok.cab,ok.hd,ok.frames,ok.stk,ok.exf,ok.bs,ok.bsz,ok.noex,ok.exfs,ok.funs,ok.frf⟩
theorem Cx.Ok.unwish {X:Cx}{E:Value->Shared->Prop}(ok:(X.wish E).Ok):X.Ok:=
 ⟨ok.mod,ok.kind,ok.glob,ok.blt,ok.above,ok.inj,ok.has,ok.cab,ok.hd,ok.frames,ok.stk,ok.exf,ok.bs,ok.bsz,ok.noex,ok.exfs,ok.funs,ok.frf⟩
section
variable {X:Cx}{pins:List (Addr×Obj)}{σ:St}{H:Hp}{s:Shared}{E:Value->Shared->Prop}
theorem Inv.wish (I:Inv X pins σ H s)(E:Value->Shared->Prop):Inv (X.wish E) pins σ H s:=⟨I.ok.wish E,I.os,I.bare,I.base,I.loc,I.cell,I.free,I.freeC,I.pin,I.hok,I.len,I.tk⟩
theorem Inv.unwish (I:Inv (X.wish E) pins σ H s):Inv X pins σ H s:=⟨I.ok.unwish,I.os,I.bare,I.base,I.loc,I.cell,I.free,I.freeC,I.pin,I.hok,I.len,I.tk⟩
theorem SP.unwish {D:Ends}{f:Flow}{s':Shared}(h:SP (X.wish E) pins D f s'):SP X pins D f s':=by
 cases f with
 |next=>obtain⟨L,H',I,q⟩:=h;exact⟨L,H',I.unwish,q⟩
 |brk=>obtain⟨L,H',I,q⟩:=h;exact⟨L,H',I.unwish,q⟩
 |cont=>obtain⟨L,H',I,q⟩:=h;exact⟨L,H',I.unwish,q⟩
 |ret u=>obtain⟨v,L,H',I,r,q⟩:=h;exact⟨v,L,H',I.unwish,r,q⟩
theorem PSs.nox {st:List Stmt}{t:TS}(h:PSs X.nox st t):PSs X st t:=fun pins s σ H D I hw=>
 uY (h pins s σ H D (I.wish _) hw) (fun _ _ q=>q.unwish) fun _ _ z=>False.elim z
end
section
variable {X:Cx}{st:Stmt}{rest:List Stmt}{t u:TS}{e:Expr}{te:TE}{pos:Pos}
def tNext:TS:=fun D σ H=>D.nx σ H
def tSeq (t u:TS):TS:=fun D σ H=>t {D with nx:=u D} σ H
theorem qq:PSs X [] tNext:=fun _ _ σ H _ I h=>vP ⟨σ,H,I,h⟩
theorem qe (h1:PS X st t)(h2:PSs X rest u):PSs X (st::rest) (tSeq t u):=by
 intro pins s σ H D I h;refine UJ (thn (h1 pins s σ H {D with nx:=u D} I h) fun f s1 q=> ?_)
 cases f with
 |next=>
  obtain⟨L,H',M,q⟩:=q;exact h2 pins s1 L H' D M q
 |ret v=>exact q
 |brk=>exact q
 |cont=>exact q
theorem qg (h1:PS X st t):PSs X [st] t:=by
 intro pins s σ H D I h;refine UJ (thn (h1 pins s σ H D I h) fun f s1 q=> ?_);cases f with
 |next=>exact vP q
 |ret v=>exact q
 |brk=>exact q
 |cont=>exact q
def tCont:TS:=fun D σ H=>D.ct σ H
theorem ps_continue:PS X (.Continue pos) tCont:=fun _ _ σ H _ I h=>wpAny_Continue ⟨σ,H,I,h⟩
theorem Inv.quiet {pins:List (Addr×Obj)}{σ:St}{H:Hp}{s:Shared}(I:Inv X pins σ H s):interactive X.env=false:=by simp [interactive,I.ok.kind]
def tDrop (te:TE):TS:=fun D σ H=>te σ H fun _ H1=>D.nx σ H1
theorem yH (L:PE X e te)(M:swapsWith e none pos.line X.env=pure false:=by rfl):PS X (.Expr e pos) (tDrop te):=by
 intro pins s σ H D I h;exact wpAny_Expr_any (thn (L pins s σ H _ I h) fun v s1 ⟨x,H1,O,R,q1⟩=>⟨σ,H1,O,q1⟩) I.quiet M
def tRet (te:TE):TS:=fun D σ H=>te σ H D.rt
theorem ql (L:PE X e te):PS X (.Return (some e) pos) (tRet te):=by
 intro pins s σ H D I h;exact wpAny_Return_some (thn (L pins s σ H _ I h) fun v s1 ⟨x,H1,M,O,q1⟩=>⟨x,σ,H1,M,O,q1⟩)
def tRetN:TS:=fun D _ H=>D.rt .non H
theorem ps_retN:PS X (.Return none pos) tRetN:=fun _ _ σ H _ I h=>wpAny_Return_none ⟨.non,σ,H,I,rfl,h⟩
def tIfS (c:TT)(t u:TS):TS:=fun D σ H=>c σ H fun b H1=>if b=true then t D σ H1 else u D σ H1
theorem qG {c:Expr}{a b:List Stmt}{tc:TT}(M:PT X c tc)(ha:PSs X a t)(O:PSs X b u):PS X (.If c a b pos) (tIfS tc t u):=by
 intro pins s σ H D I h;refine wpAny_If (thn (M pins s σ H _ I h) fun d s1 ⟨H1,L,q1⟩=> ?_);cases d with
 |true=>exact ha pins s1 σ H1 D L q1
 |false=>exact O pins s1 σ H1 D L q1
end
abbrev TG:=V->St->Hp->(St->Hp->Prop)->Prop
abbrev TGs:=List V->St->Hp->(St->Hp->Prop)->Prop
def PG (X:Cx)(target:Expr)(t:TG):Prop:=
 ∀(pins:List (Addr×Obj)) (s:Shared) (σ:St) (H:Hp) (v:V) (u:Value) (Q:St->Hp->Prop),Inv X pins σ H s->RelV v u->t v σ H Q->
  wpAny (model X.prog X.w) X.A (assign target X.env u) (fun _ s'=>∃σ' H',Inv X pins σ' H' s'/\Q σ' H') X.xe s
def PGs (X:Cx)(ts:List Expr)(t:TGs):Prop:=
 ∀(pins:List (Addr×Obj)) (s:Shared) (σ:St) (H:Hp) (vs:List V) (us:List Value) (Q:St->Hp->Prop),Inv X pins σ H s->Vals vs us->t vs σ H Q->
  wpAny (model X.prog X.w) X.A (assignInOrder ((assignEach ts X.env).map (·.2)) us) (fun _ s'=>∃σ' H',Inv X pins σ' H' s'/\Q σ' H') X.xe s
abbrev TSet:=V->V->V->Hp->(Hp->Prop)->Prop
def PSet (X:Cx)(t:TSet):Prop:=
 ∀(pins:List (Addr×Obj)) (s:Shared) (σ:St) (H:Hp) (o i v:V) (ov iv u:Value) (Q:Hp->Prop),Inv X pins σ H s->RelV o ov->RelV i iv->RelV v u->t o i v H Q->
  wpAny (model X.prog X.w) X.A (setItem ov iv u) (fun _ s'=>∃H',Inv X pins σ H' s'/\Q H') X.xe s
abbrev TIp:=V->V->Hp->VK->Prop
def PIp (X:Cx)(op:Operator)(t:TIp):Prop:=
 ∀(pins:List (Addr×Obj)) (s:Shared) (σ:St) (H:Hp) (x y:V) (v u:Value) (Q:VK),Inv X pins σ H s->RelV x v->RelV y u->t x y H Q->
  wpAny (model X.prog X.w) X.A (inplaceOp op v u) (EP X pins σ Q) X.xe s
section
variable {X:Cx}{pos:Pos}
def jZ (i:Nat):TG:=fun v σ H Q=>Q (σ.set i (some v)) H
theorem qQ {i:Nat}{x:Str}(L:X.N.Nodup)(hi:X.N[i]? =some x)(M:Loc X.env.scope x)(O:X.fn x=true∨X.env.scope.names.lookup x=some .local:=by first|exact .inl rfl|exact .inr rfl|assumption):PG X (.Name x pos) (jZ i):=by
 intro pins s σ H v u Q I r h;exact wpAny_assign_Name (Jk I L hi M r (fun s' R=>⟨_,H,R,h⟩) O)
def gNil:TGs:=fun vs σ H Q=>vs= []/\Q σ H
def gCons (t:TG)(u:TGs):TGs:=fun vs σ H Q=>∃v r,vs=v::r/\t v σ H fun σ' H'=>u r σ' H' Q
theorem YT:PGs X [] gNil:=by
 intro pins s σ H vs us Q I r h;obtain⟨e,h⟩:=h;subst e;cases r;exact assignInOrder_nil ⟨σ,H,I,h⟩
theorem Qq {e:Expr}{es:List Expr}{t:TG}{u:TGs}(h1:PG X e t)(h2:PGs X es u)
  (L:(assignEach (e::es) X.env).map (·.2)=assign e X.env::(assignEach es X.env).map (·.2):=by rfl):PGs X (e::es) (gCons t u):=by
 intro pins s σ H vs us Q I r h;obtain⟨v,U,e1,h⟩:=h;subst e1;cases r with
 |cons r M=>
  rw [L];refine assignInOrder_cons (thn (h1 pins s σ H _ _ _ I r h) fun _ s1 ⟨O,H1,R,q1⟩=> ?_);exact h2 pins s1 O H1 _ _ Q R M q1
def gTup (K:PySem.W.Frag)(n:Nat)(t:TGs):TG:=fun v σ H Q=>∃a xs,v= .ref a/\SqT K H a xs/\xs.length=n/\t xs σ H Q
theorem Xc {es:List Expr}{k:Nat}{t:TGs}{n:Nat}(O:X.calm=true)(h:PGs X es t)
  (hn:(assignEach es X.env).length=n:=by rfl) (L:(assignEach es X.env).findIdx? (·.1)=none:=by rfl):PG X (.Tuple es k pos) (gTup X.K n t):=by
 intro pins s σ H v u Q I r M;obtain⟨a,xs,e1,R,U,M⟩:=M;subst e1;cases r;obtain⟨its,rv,Y,hz⟩:=I.tuple R;refine assign_Tuple_tuple (I.ok.hd O) Y (by simp [hn,<-U,rv.length]) L fun h' hx=> ?_
 have I1:Inv X pins σ H {s with heap:=h'}:=I.kept (t':=s.toks) fun b o e=>hx b o (uK (uk e)) e
 exact h pins _ σ H xs _ Q I1 (by simpa using rv) M
def gSub (to ti:TE)(t:TSet):TG:=fun v σ H Q=>to σ H fun o H1=>ti σ H1 fun i H2=>t o i v H2 fun H3=>Q σ H3
theorem pg_sub {o i:Expr}{to O:TE}{t:TSet}(R:PE X o to)(hi:PE X i O)(U:PSet X t)
  (ha:∀v,assign (.Subscript o i pos) X.env v=(do
   let L<-holding [v] (eval o X.env)
   let M<-holding [v,L] (eval i X.env)
   standAt pos
   holding [v,L,M] (setItem L M v)
   release [v,L,M] []):=by intro _;rfl):PG X (.Subscript o i pos) (gSub to O t):=by
 intro pins s σ H v u Q I r h;rw [ha];refine wpAny_bind (wpAny_holding (thn (R pins s σ H _ I h) fun L s1 ⟨x,H1,Y,r1,q1⟩=> ?_));refine wpAny_bind (wpAny_holding (thn (hi pins s1 σ H1 _ Y q1) fun M s2 ⟨y,H2,I2,r2,q2⟩=> ?_));refine wpAny_bind (wpAny_standAt (wpAny_bind (wpAny_holding (thn (U pins s2 σ H2 x y v L M u _ I2 r1 r2 r q2) fun _ s3 ⟨H3,I3,q3⟩=> ?_))));exact wpAny_release ⟨σ,H3,I3,q3⟩
def tAsg (te:TE)(g:TG):TS:=fun D σ H=>te σ H fun x H1=>g x σ H1 D.nx
theorem X5 {tg e:Expr}{te:TE}{g:TG}(L:PE X e te)(M:PG X tg g)(O:swapsWithSole [tg] e pos.line X.env=pure false:=by rfl)(R:swappedStores [tg] e X.env=pure none:=by rfl)
  (h1:(assignEach [tg] X.env).map (·.2)= [assign tg X.env]:=by rfl):PS X (.Assign [tg] e pos) (tAsg te g):=by
 intro pins s σ H D I h;refine wpAny_Assign_stores (thn (L pins s σ H _ I h) fun v s1 ⟨x,H1,U,Y,q1⟩=> ?_) O R;rw [h1];exact thn (M pins s1 σ H1 x v _ U Y q1) fun _ s2 q=>q
theorem qB {i:Nat}{x:Str}{e:Expr}{te:TE}{pos':Pos}(L:X.N.Nodup)(hi:X.N[i]? =some x)(M:Loc X.env.scope x)(O:PE X e te)(R:swapsWith e (some (.Name x pos')) pos.line X.env=pure false:=by rfl)(U:X.fn x=true∨X.env.scope.names.lookup x=some .local:=by first|exact .inl rfl|exact .inr rfl|assumption):
  PS X (.Assign [.Name x pos'] e pos) (tAsg te (jZ i)):=by
 intro pins s σ H D I h;refine wpAny_Assign_Name (thn (O pins s σ H _ I h) fun v s1 ⟨y,H1,Y,r1,q1⟩=> ?_) R;exact Jk Y L hi M r1 (fun s2 I2=>⟨_,H1,I2,q1⟩) U
def tAug (i:Nat)(te:TE)(ti:TIp):TS:=fun D σ H=>∃x,σ[i]? =some (some x)/\te σ H fun y H1=>ti x y H1 fun z H2=>D.nx (σ.set i (some z)) H2
theorem ps_aug {i:Nat}{x:Str}{e:Expr}{te:TE}{O:Operator}{Y:TIp}{pos':Pos}(hN:X.N.Nodup)(hi:X.N[i]? =some x)(R:Loc X.env.scope x)(he:PE X e te)(ho:PIp X O Y)(hf:X.fn x=true∨X.env.scope.names.lookup x=some .local:=by first|exact .inl rfl|exact .inr rfl|assumption):
  PS X (.AugAssign (.Name x pos') O e pos) (tAug i te Y):=by
 intro pins s σ H D I h;obtain⟨v,e1,h⟩:=h;obtain⟨m,hn,hl⟩:=I.loc;have U:Vis X.env.scope x:=by rcases R with k|k;exact .inl k;exact .inr (.inl k)
 obtain⟨u,r,l⟩:=hl i x v hi e1 U;refine wpAny_AugAssign_Name ?_;have go:wpAny (model X.prog X.w) X.A (eval e X.env) (fun w s₂=>wpAny (model X.prog X.w) X.A (inplaceOp O u w) (fun r s₃=>wpAny (model X.prog X.w) X.A (storeName X.env x r) (fun _=>SP X pins D .next) X.xe s₃) X.xe s₂) X.xe s:=by
  refine thn (he pins s σ H _ I h) fun w s1 ⟨y,H1,I1,r1,q1⟩=> ?_;refine thn (ho pins s1 σ H1 v y u w _ I1 r r1 q1) fun z s2 ⟨zv,H2,I2,r2,q2⟩=> ?_;exact Jk I2 hN hi R r2 (fun s3 I3=>⟨_,H2,I3,q2⟩) hf
 rcases l with⟨L,hm⟩|⟨L,c,hc,M⟩
 ·exact wpAny_loadName_local I.ok.kind L hn hm go
 ·rcases L with L|L
  ·exact wpAny_loadName_cell I.ok.kind L hc M go
  ·rcases R with k|k
   ·have:X.env.scope.names.lookup x=some .free:=L;rw [k] at this;cases this
   ·have:X.env.scope.names.lookup x=some .free:=L;rw [k] at this;cases this
def ipI (f:Int->Int->Int):TIp:=fun x y H Q=>∃i j,x= .int i/\y= .int j/\Q (.int (f i j)) H
theorem ip_add:PIp X .Add (ipI fun i j=>i+j):=by
 intro pins s σ H x y v u Q I L M h;obtain⟨i,j,e1,e2,q⟩:=h;subst e1;subst e2;obtain⟨t,rfl⟩:=L;obtain⟨t',rfl⟩:=M;exact iadd_int ⟨.int _,H,I.tok _,⟨_,rfl⟩,q⟩
def tWhile (c:TT)(tb:TS):TS:=fun D σ H=>∃W:Nat->St->Hp->Prop,(∃m,W m σ H)/\∀m σ H,W m σ H->
 c σ H fun b H1=>if b=true then∃N:St->Hp->Prop,(∀σ' H',N σ' H'->∃m',m'<m/\W m' σ' H')/\tb {D with nx:=N,ct:=N,bk:=D.nx} σ H1 else D.nx σ H1
theorem Zy {c:Expr}{L:List Stmt}{tc:TT}{tb:TS}(hp:PassesOwn (model X.prog X.w) X.A X.env X.xe)(hc:PT X c tc)(hb:PSs X L tb):PS X (.While c L [] pos) (tWhile tc tb):=by
 intro pins s σ H D I h;obtain⟨W,⟨m0,w0⟩,M⟩:=h;refine wpAny_While (codeAny_whileLoop (fun n s'=>∃σ' H',Inv X pins σ' H' s'/\W n σ' H') ?_ m0 ⟨σ,H,I,w0⟩);rintro n s1 ⟨U,H1,I1,w1⟩;refine vZ hp (thn (hc pins s1 U H1 _ I1 (M n U H1 w1)) fun b s2 ⟨H2,I2,q2⟩=> ?_);cases b with
 |true=>
  obtain⟨N,hN,q2⟩:=q2;rw [if_pos rfl];refine vZ hp (thn (hb pins s2 U H2 _ I2 q2) fun f s3 q3=> ?_);cases f with
  |next=>
   obtain⟨O,R,Y,n3⟩:=q3;obtain⟨m',hm,w3⟩:=hN O R n3;exact⟨m',hm,O,R,Y,w3⟩
  |cont=>
   obtain⟨O,R,Y,n3⟩:=q3;obtain⟨m',hm,w3⟩:=hN O R n3;exact⟨m',hm,O,R,Y,w3⟩
  |brk=>exact q3
  |ret v=>exact q3
 |false=>
  rw [if_neg u8];exact vP ⟨U,H2,I2,q2⟩
end
structure It where
 go:Nat->Hp->Prop
 yld:Nat->Hp->V->Hp->Prop
 stop:Nat->Hp->Prop
def FpOk (X:Cx)(pins:List (Addr×Obj))(H:Hp)(b:Addr):Prop:=
 H b=none/\b≠X.env.locals/\b∉X.fs/\(b∈X.ex∨X.s₀.heap.objs.size<=b)/\(∀x c,X.env.cells.lookup x=some c->c≠b)/\∀p∈X.pn++pins,p.1≠b
theorem Inv.fpOk {X:Cx}{pins:List (Addr×Obj)}{σ:St}{H H':Hp}{s:Shared}{b:Addr}(I:Inv X pins σ H s)(L:s.heap.objs.size<=b)(hn:H' b=none):FpOk X pins H' b:=by
 refine⟨hn,U3 (Nat.lt_of_lt_of_le I.lt L),I.nofs L,.inr (uP I.sz L),fun x c e z=> ?_,fun p M z=> ?_⟩
 ·obtain⟨v,q⟩:=I.cell x c e;exact absurd (Nat.lt_of_lt_of_le q.lt (by rw [z];exact L)) (vC _)
 ·exact absurd (Nat.lt_of_lt_of_le (uk (I.pin p M).1) (by rw [z];exact L)) (vC _)
structure Turn (P:Program)(w:World)(K:PySem.W.Frag)(tg:Expr)(J:It)(fp:List Addr)(it:Addr)(tn:Nat->Heap->Prop):Prop where
 mem:it∈fp
 obj:∀i h,tn i h->∀b∈fp,∃o,h.get? b=some o/\∀v,o.data≠ .cell v
 keep:∀i h h',tn i h->(∀b∈fp,∀o,h.get? b=some o->h'.get? b=some o)->tn i h'
 item:∀(X:Cx),X.prog=P->X.w=w->X.K=K->X.calm=true->∀(i:Nat) (pins:List (Addr×Obj)) (s:Shared) (σ:St) (H:Hp) (E:Value->Shared->Prop),Inv X pins σ H s->(∀b∈fp,FpOk X pins H b)->tn i s.heap->J.go i H->
  wpAny (model P w) X.A (pyNext (.ref it)) (fun r s1=>∃u,r=some u/\
   wpAny (model P w) X.A (letOwnedTupleGo tg (.ref it) u) (fun _ s2=>∃x H',Inv X pins σ H' s2/\RelV x u/\J.yld i H x H'/\tn (i+1) s2.heap/\∀b∈fp,H' b=none) E s1) E s
 done:∀(X:Cx),X.prog=P->X.w=w->X.K=K->X.calm=true->∀(i:Nat) (pins:List (Addr×Obj)) (s:Shared) (σ:St) (H:Hp) (E:Value->Shared->Prop),Inv X pins σ H s->(∀b∈fp,FpOk X pins H b)->tn i s.heap->J.stop i H->
  wpAny (model P w) X.A (pyNext (.ref it)) (fun r s1=>r=none/\Inv X pins σ H s1) E s
 self:∀(A:Around) (i:Nat) (s:Shared) (Q:Value->Shared->Prop) (E:Value->Shared->Prop),tn i s.heap->Q (.ref it) s->wpAny (model P w) A (pyIter (.ref it)) Q E s
abbrev TI:=St->Hp->(It->Hp->Prop)->Prop
def PIE (X:Cx)(pins:List (Addr×Obj))(σ:St)(tg:Expr)(R:It->Hp->Prop)(itv:Value)(s2:Shared):Prop:=
 ∃(it:Addr) (fp:List Addr) (tn:Nat->Heap->Prop) (J:It) (H':Hp),itv= .ref it/\Inv X pins σ H' s2/\Turn X.prog X.w X.K tg J fp it tn/\tn 0 s2.heap/\(∀b∈fp,FpOk X pins H' b)/\R J H'
def PI (X:Cx)(tg iter:Expr)(wi:TI):Prop:=
 ∀(pins:List (Addr×Obj)) (s:Shared) (σ:St) (H:Hp) (R:It->Hp->Prop),Inv X pins σ H s->wi σ H R->
  wpAny (model X.prog X.w) X.A (eval iter X.env) (fun v s1=>wpAny (model X.prog X.w) X.A (pyIter v) (PIE X pins σ tg R) X.xe s1) X.xe s
theorem go_of {M:Model}{A:Around}{E:Value->Shared->Prop}{s:Shared}{tg:Expr}{it:Addr}{u:Value}{o:Obj}{n:String}{vs:Array Value}{Q:Unit->Shared->Prop}(L:s.heap.get? it=some o)(O:o.cls= .type n)(hd:o.data= .fields vs)
  (hn: ["enumerate","zip","dict_itemiterator","dict_reverseitemiterator","odict_iterator","itertools.zip_longest","itertools.pairwise"].contains n=false) (I:Q Unit.unit s):wpAny M A (letOwnedTupleGo tg (.ref it) u) Q E s:=by
 unfold letOwnedTupleGo;cases tg<;>first
  |exact uc I
  |(cases u<;>first
    |exact uc I
    |(refine wpAny_bind (wpAny_load L ?_)
      rw [O,hd];show wpAny M A (if(["enumerate","zip","dict_itemiterator","dict_reverseitemiterator","odict_iterator","itertools.zip_longest","itertools.pairwise"].contains n&&vs[0]? ==some (rawInt _))=true then _ else _) Q E s
      rw [if_neg (by intro h;rw [hn,vX] at h;cases h)]
      exact uc I))
def Itl (K:PySem.W.Frag)(a:Addr):It:=
 ⟨fun i H=>∃xs x,SqL K H a xs/\xs[i]? =some x,fun i H x H'=>H'=H/\∀xs,SqL K H a xs->xs[i]? =some x,fun i H=>∃xs,SqL K H a xs/\xs.length<=i⟩
def Itt (K:PySem.W.Frag)(a:Addr):It:=
 ⟨fun i H=>∃xs x,SqT K H a xs/\xs[i]? =some x,fun i H x H'=>H'=H/\∀xs,SqT K H a xs->xs[i]? =some x,fun i H=>∃xs,SqT K H a xs/\xs.length<=i⟩
def Itr (lo:Int)(n:Nat):It:=⟨fun i _=>i<n,fun i H x H'=>H'=H/\x= .int (lo+i),fun i _=>n<=i⟩
theorem turn_list {P:Program}{w:World}{K:PySem.W.Frag}{tg:Expr}(a it:Addr):Turn P w K tg (Itl K a) [it] it (fun i h=>h.IsListIter it a i) where
 mem:=by simp
 obj:=fun i h st b L=>by
  have e:b=it:=by simpa using L
  subst e;obtain⟨o,e,c,d⟩:=st;exact⟨o,e,fun v z=>by rw [d] at z;cases z⟩
 keep:=fun i h h' st k=>st.at fun o e=>k it (by simp) o e
 item:=by
  intro X U Y hK hc i pins s σ H E I O st hg;subst U Y hK;obtain⟨xs,x,R,hx⟩:=hg;obtain⟨its,rv,p,hz⟩:=I.list R;obtain⟨u,hu,ru⟩:=rv.get hx;obtain⟨f0,f1,f2,f3,f4,f5⟩:=O it (by simp)
  refine wpAny_pyNext_list_item st p.isList (x:=u) (by simpa using hu) fun h' M sb=> ?_
  have I1:Inv X pins σ H {s with heap:=h'}:=I.turned (t':=s.toks) (fun b o L e=>(sb.2 b L).trans e) f0 f1 f3 f4 f5
  obtain⟨o,e,c,d⟩:=id M;exact⟨u,rfl,go_of (s:={s with heap:=h'}) e c d (by decide) ⟨x,H,I1,ru,⟨rfl,fun ys hy=>by rw [I.list_inj hy R];exact hx⟩,M,fun b L=>(O b L).1⟩⟩
 done:=by
  intro X U Y hK hc i pins s σ H E I O st hg;subst U Y hK;obtain⟨xs,R,hx⟩:=hg;obtain⟨its,rv,p,hz⟩:=I.list R;obtain⟨f0,f1,f2,f3,f4,f5⟩:=O it (by simp)
  have hl:=rv.length;exact wpAny_pyNext_list_end (I.ok.hd hc) st p.isList (by simp;omega) fun h' eb=>⟨rfl,I.turned (t':=s.toks) (fun b o L e=>eb b o L e) f0 f1 f3 f4 f5⟩
 self:=fun _ _ _ _ _ st h=>wpAny_pyIter_listiter st h
theorem zV {P:Program}{w:World}{K:PySem.W.Frag}{tg:Expr}(a it:Addr):Turn P w K tg (Itt K a) [it] it (fun i h=>h.IsTupleIter it a i) where
 mem:=by simp
 obj:=fun i h st b L=>by
  have e:b=it:=by simpa using L
  subst e;obtain⟨o,e,c,d⟩:=st;exact⟨o,e,fun v z=>by rw [d] at z;cases z⟩
 keep:=fun i h h' st k=>st.at fun o e=>k it (by simp) o e
 item:=by
  intro X U Y hK hc i pins s σ H E I O st hg;subst U Y hK;obtain⟨xs,x,R,hx⟩:=hg;obtain⟨its,rv,p,hz⟩:=I.tuple R;obtain⟨u,hu,ru⟩:=rv.get hx;obtain⟨f0,f1,f2,f3,f4,f5⟩:=O it (by simp)
  refine wpAny_pyNext_tuple_item st (show s.heap.IsTuple a its.toArray from p) (x:=u) (by simpa using hu) fun h' M sb=> ?_
  have I1:Inv X pins σ H {s with heap:=h'}:=I.turned (t':=s.toks) (fun b o L e=>(sb.2 b L).trans e) f0 f1 f3 f4 f5
  obtain⟨o,e,c,d⟩:=id M;exact⟨u,rfl,go_of (s:={s with heap:=h'}) e c d (by decide) ⟨x,H,I1,ru,⟨rfl,fun ys hy=>by rw [I.tuple_inj hy R];exact hx⟩,M,fun b L=>(O b L).1⟩⟩
 done:=by
  intro X U Y hK hc i pins s σ H E I O st hg;subst U Y hK;obtain⟨xs,R,hx⟩:=hg;obtain⟨its,rv,p,hz⟩:=I.tuple R;obtain⟨f0,f1,f2,f3,f4,f5⟩:=O it (by simp)
  have hl:=rv.length;exact wpAny_pyNext_tuple_end (I.ok.hd hc) st (show s.heap.IsTuple a its.toArray from p) (by simp;omega) fun h' eb=>⟨rfl,I.turned (t':=s.toks) (fun b o L e=>eb b o L e) f0 f1 f3 f4 f5⟩
 self:=fun _ _ _ _ _ st h=>wpAny_pyIter_tupleiter st h
theorem turn_range {P:Program}{w:World}{K:PySem.W.Frag}{tg:Expr}(it:Addr)(lo:Int)(n:Nat):Turn P w K tg (Itr lo n) [it] it (fun i h=>IsRangeIter h it (lo+(i:Nat)*1) ((n:Int)-(i:Nat)) 1) where
 mem:=by simp
 obj:=fun i h st b L=>by
  have e:b=it:=by simpa using L
  subst e;exact⟨_,st,fun v z=>by
   have z':Data.fields _=Data.cell v:=z;cases z'⟩
 keep:=fun i h h' st k=>k it (by simp) _ st
 item:=by
  intro X R U Y hc i pins s σ H E I O st hg;subst R U Y;obtain⟨f0,f1,f2,f3,f4,f5⟩:=O it (by simp)
  have W:=Walks.range (prog:=X.prog) (w:=X.w) (I.ok.hd hc) it lo 1 n;refine uR (n:=1) I.tk (W.item i s _ _ hg st fun v h' tk hv M kk=> ?_);intro htk;obtain⟨t,rfl⟩:=hv;have I1:Inv X pins σ H {s with heap:=h',toks:=tk}:=I.turned (fun b o L e=>kk b o (by simpa using L) e) f0 f1 f3 f4 f5
  refine⟨_,rfl,go_of (s:={s with heap:=h',toks:=tk}) (n:="range_iterator") M rfl rfl (by decide) ⟨.int (lo+i),H,I1,⟨t,?_⟩,⟨rfl,rfl⟩,M,fun b L=>(O b L).1⟩⟩
  rw [Int.mul_one]
 done:=by
  intro X R U Y hc i pins s σ H E I O st hg;subst R U Y;obtain⟨f0,f1,f2,f3,f4,f5⟩:=O it (by simp)
  exact wpAny_pyNext_range_end (I.ok.hd hc) st (by have:n<=i:=hg;omega) fun h' eb=>⟨rfl,I.turned (t':=s.toks) (fun b o L e=>eb b o L e) f0 f1 f3 f4 f5⟩
 self:=fun _ _ _ _ _ st h=>wpAny_pyIter_rangeiter st h
section
variable {X:Cx}{tg:Expr}
def iList (K:PySem.W.Frag)(tl:TE):TI:=fun σ H R=>tl σ H fun x H1=>∃a,x= .ref a/\(∃xs,SqL K H1 a xs)/\R (Itl K a) H1
def iTup (K:PySem.W.Frag)(tl:TE):TI:=fun σ H R=>tl σ H fun x H1=>∃a,x= .ref a/\(∃xs,SqT K H1 a xs)/\R (Itt K a) H1
theorem pi_list {l:Expr}{tl:TE}(M:PE X l tl):PI X tg l (iList X.K tl):=by
 intro pins s σ H R I h;refine thn (M pins s σ H _ I h) fun v s1 ⟨x,H1,L,O,q1⟩=> ?_;obtain⟨a,e,⟨xs,U⟩,q⟩:=q1;subst e;cases O;obtain⟨its,rv,p,hz⟩:=L.list U;refine UD p.isList ?_;refine⟨s1.heap.objs.size,[s1.heap.objs.size],_,_,H1,rfl,L.kept (t':=s1.toks) fun b o e=>u3 _ e,turn_list a _,⟨_,uw _ rfl,rfl,rfl⟩,fun b Y=> ?_,q⟩;have e:b=s1.heap.objs.size:=by simpa using Y
 subst e;exact L.fpOk (ug _) (L.hok.fresh (ug _))
theorem pi_tup {l:Expr}{tl:TE}(M:PE X l tl):PI X tg l (iTup X.K tl):=by
 intro pins s σ H R I h;refine thn (M pins s σ H _ I h) fun v s1 ⟨x,H1,L,O,q1⟩=> ?_;obtain⟨a,e,⟨xs,U⟩,q⟩:=q1;subst e;cases O;obtain⟨its,rv,p,hz⟩:=L.tuple U;refine vS (show s1.heap.IsTuple a its.toArray from p) ?_
 refine⟨s1.heap.objs.size,[s1.heap.objs.size],_,_,H1,rfl,L.kept (t':=s1.toks) fun b o e=>u3 _ e,zV a _,⟨_,uw _ rfl,rfl,rfl⟩,fun b Y=> ?_,q⟩;have e:b=s1.heap.objs.size:=by simpa using Y
 subst e;exact L.fpOk (ug _) (L.hok.fresh (ug _))
theorem range_it {pins:List (Addr×Obj)}{σ:St}{H:Hp}{s:Shared}{R:It->Hp->Prop}{E:Value->Shared->Prop}{lo hi:Int}{t u v:Tok}{tk:Nat}(I:Inv X pins σ H s)(h1: -(2^62)<=lo)(h2:lo<2^62)(M: -(2^62)<=hi)(h4:hi<2^62)
  (q:R (Itr lo (hi-lo).toNat) H) (htk:0<tk:=by ac_rfl):wpAny (model X.prog X.w) X.A (pyIter (.ref s.heap.objs.size)) (PIE X pins σ tg R) E {s with heap:=s.heap.push {cls:= .type "range",data:= .fields #[.int lo t,.int hi u,.int 1 v]},toks:=tk}:=by
 refine wpAny_pyIter_range (IsRange.new ..) (small_one h1 h2 M h4) ?_;have L:Inv X pins σ H {s with heap:=s.heap.push {cls:= .type "range",data:= .fields #[.int lo t,.int hi u,.int 1 v]},toks:=tk}:=I.kept fun b o e=>u3 _ e
 refine⟨(s.heap.push {cls:= .type "range",data:= .fields #[.int lo t,.int hi u,.int 1 v]}).objs.size,[(s.heap.push {cls:= .type "range",data:= .fields #[.int lo t,.int hi u,.int 1 v]}).objs.size],_,_,H,rfl,
  L.kept (t':=tk) fun b o e=>u3 _ e,turn_range _ lo (hi-lo).toNat,?_,fun b O=> ?_,q⟩
 ·have e1:lo+((0:Nat):Int)*1=lo:=by simp
  have e2:(((hi-lo).toNat:Nat):Int)-((0:Nat):Int)=Builtin.Range.rangeSize lo hi 1:=by rw [rangeSize_one];split<;>omega
  show IsRangeIter _ _ (lo+((0:Nat):Int)*1) ((((hi-lo).toNat:Nat):Int)-((0:Nat):Int)) 1;rw [e1,e2];exact uw _ rfl
 ·have e:b=(s.heap.push {cls:= .type "range",data:= .fields #[.int lo t,.int hi u,.int 1 v]}).objs.size:=by simpa using O
  subst e;exact L.fpOk (ug _) (L.hok.fresh (ug _))
def iRng1 (ta:TA):TI:=fun σ H R=>ta σ H fun vs H1=>∃j:Int,vs= [.int j]/\ -(2^62)<=j/\j<2^62/\R (Itr 0 j.toNat) H1
def iRng2 (ta:TA):TI:=fun σ H R=>ta σ H fun vs H1=>∃i j:Int,vs= [.int i,.int j]/\(-(2^62)<=i/\i<2^62/\ -(2^62)<=j/\j<2^62)/\R (Itr i (j-i).toNat) H1
theorem YV {a:Expr}{ta:TA}{p pos:Pos}(L:Gl X "range")(hm:X.mg "range"=none)(ha:PA X [a] ta)(M:starEach [a] X.env= [(false,eval a X.env)]:=by rfl):PI X tg (.Call (.Name "range" p) [a] [] pos) (iRng1 ta):=by
 intro pins s σ H R I h;refine Call_ (Xg I L hm boot_range (vp (thn (ha pos pins s σ H _ I h) fun us s1 ⟨vs,H1,O,U,q1⟩=> ?_) M rfl));obtain⟨j,e,q1,q2,q⟩:=q1;subst e;cases U with
 |cons r Y=>
  cases Y;obtain⟨t,rfl⟩:=r;exact call_range_1 (range_it O (by omega) (by omega) q1 q2 (by simpa using q))
theorem pi_range2 {a b:Expr}{ta:TA}{p pos:Pos}(O:Gl X "range")(hm:X.mg "range"=none)(ha:PA X [a,b] ta)(U:starEach [a,b] X.env= [(false,eval a X.env),(false,eval b X.env)]:=by rfl)(L:starEach [b] X.env= [(false,eval b X.env)]:=by rfl):
  PI X tg (.Call (.Name "range" p) [a,b] [] pos) (iRng2 ta):=by
 intro pins s σ H R I h;refine Call_ (Xg I O hm boot_range (vp (thn (ha pos pins s σ H _ I h) fun us s1 ⟨vs,H1,Y,r1,q1⟩=> ?_) (by rw [U,L]) (by rw [L];rfl)))
 obtain⟨i,j,e,⟨q1,q2,q3,q4⟩,q⟩:=q1;subst e;cases r1 with
 |cons r M=>
  cases M with
  |cons r' M=>
   cases M;obtain⟨t,rfl⟩:=r;obtain⟨t',rfl⟩:=r';exact call_range_2 (range_it Y q1 q2 q3 q4 q)
def tFor (wi:TI)(g:TG)(tb:TS):TS:=fun D σ H=>wi σ H fun J H1=>∃W:Nat->Nat->St->Hp->Prop,(∃m,W 0 m σ H1)/\∀i m σ H,W i m σ H->
 (J.stop i H/\D.nx σ H)∨(J.go i H/\∃N:St->Hp->Prop,(∀σ' H',N σ' H'->∃m',m'<m/\W (i+1) m' σ' H')/\∀x H',J.yld i H x H'->g x σ H' fun σ2 H2=>tb {D with nx:=N,ct:=N,bk:=D.nx} σ2 H2)
def pinsAt (fp:List Addr)(h:Heap):List (Addr×Obj):=fp.filterMap fun b=>(h.get? b).map fun o=>(b,o)
theorem ji {fp:List Addr}{h:Heap}{b:Addr}{o:Obj}(I:b∈fp)(e:h.get? b=some o):(b,o)∈pinsAt fp h:=List.mem_filterMap.mpr ⟨b,I,by rw [e];rfl⟩
theorem of_pinsAt {fp:List Addr}{h:Heap}{p:Addr×Obj}(I:p∈pinsAt fp h):p.1∈fp/\h.get? p.1=some p.2:=by
 obtain⟨b,L,e⟩:=List.mem_filterMap.mp I;cases q:h.get? b with
 |none=>rw [q] at e;cases e
 |some o=>
  rw [q] at e;have M:(b,o)=p:=uQ e;subst M;exact⟨L,q⟩
theorem Inv.pinned {pins:List (Addr×Obj)}{σ:St}{H:Hp}{s:Shared}{fp:List Addr}(I:Inv X pins σ H s)(O:∀b∈fp,FpOk X pins H b)(R:∀b∈fp,∃o,s.heap.get? b=some o/\∀v,o.data≠ .cell v):Inv X (pins++pinsAt fp s.heap) σ H s:=
 I.pins_of fun p U=>(List.mem_append.mp U).elim (fun z=>I.pin p (uW _ z)) fun z=>by
  obtain⟨L,e⟩:=of_pinsAt z;obtain⟨Y,f1,f2,_⟩:=O p.1 L;obtain⟨o,M,d⟩:=R p.1 L;rw [e] at M;cases M;exact⟨e,Y,f1,f2,d⟩
theorem Inv.unpinned {pins pl:List (Addr×Obj)}{σ:St}{H:Hp}{s:Shared}(I:Inv X (pins++pl) σ H s):Inv X pins σ H s:=I.pins_of fun p L=>I.pin p (uW _ (Uj _ L))
theorem Jo {L:Expr}{aa:List Stmt}{wi:TI}{g:TG}{tb:TS}{pos:Pos}(hp:PassesOwn (model X.prog X.w) X.A X.env X.xe)(hc:X.calm=true)(hi:PI X tg L wi)(hg:PG X tg g)(M:PSs X aa tb)
  (hs:∀x,foldedSetIterable L X.env x=pure x:=by intro _;rfl):PS X (.For tg L aa [] pos) (tFor wi g tb):=by
 intro pins s σ H D I h;refine wpAny_For (thn (hi pins s σ H _ I h) fun v s1 h1=>thn h1 fun ak s2 h2=> ?_) hs;obtain⟨it,fp,tn,J,H2,e,I2,T,af,f2,W,⟨m0,w0⟩,ac⟩:=h2;subst e;have O:∀{H':Hp},(∀b∈fp,H' b=none)->∀b∈fp,FpOk X pins H' b:=fun hn b M=>⟨hn b M,(f2 b M).2⟩;refine codeAny_forLoop_any (fun n s'=>∃i σ' H',Inv X pins σ' H' s'/\tn i s'.heap/\(∀b∈fp,H' b=none)/\W i n σ' H') ?_ m0 ⟨0,σ,H2,I2,af,fun b M=>(f2 b M).1,w0⟩;rintro n s3 ⟨i,σ3,H3,I3,ad,ae,w3⟩;rcases ac i n σ3 H3 w3 with⟨stop,qn⟩|⟨go,N,hN,step⟩
 ·refine vZ hp (thn (T.done X rfl rfl rfl hc i pins s3 σ3 H3 X.xe I3 (O ae) ad stop) fun r s4 ⟨hr,I4⟩=> ?_);subst hr;exact vP ⟨σ3,H3,I4,qn⟩
 ·refine vZ hp (thn (T.item X rfl rfl rfl hc i pins s3 σ3 H3 X.xe I3 (O ae) ad go) fun r s4 ⟨u,hr,h4⟩=> ?_);subst hr;refine vZ hp (thn h4 fun _ s5 ⟨x,H5,I5,r5,y5,ab,ag⟩=> ?_);have ah:=I5.pinned (O ag) (T.obj _ _ ab);refine vZ hp (thn (hg _ s5 σ3 H5 x u _ ah r5 (step x H5 y5)) fun _ s6 ⟨σ6,H6,I6,q6⟩=> ?_);refine vZ hp (thn (M _ s6 σ6 H6 _ I6 q6) fun f s7 q7=> ?_);have R:∀{U:St}{Y:Hp},Inv X (pins++pinsAt fp s5.heap) U Y s7->N U Y->∃m,m<n/\∃i σ' H',Inv X pins σ' H' s7/\tn i s7.heap/\(∀b∈fp,H' b=none)/\W i m σ' H':=fun{U Y} I7 n7=>by
   obtain⟨m',hm,w7⟩:=hN U Y n7;refine⟨m',hm,i+1,U,Y,I7.unpinned,T.keep _ _ _ ab fun b M o e=>(I7.pin (b,o) (uW _ (uW _ (ji M e)))).1,fun b M=> ?_,w7⟩;obtain⟨o,e,d⟩:=T.obj _ _ ab b M;exact(I7.pin (b,o) (uW _ (uW _ (ji M e)))).2.1
  cases f with
  |next=>obtain⟨U,Y,I7,n7⟩:=q7;exact R I7 n7
  |cont=>obtain⟨U,Y,I7,n7⟩:=q7;exact R I7 n7
  |brk=>obtain⟨U,Y,I7,q7⟩:=q7;exact⟨U,Y,I7.unpinned,q7⟩
  |ret v=>obtain⟨x7,U,Y,I7,r7,q7⟩:=q7;exact⟨x7,U,Y,I7.unpinned,r7,q7⟩
end
theorem for_list {K:PySem.W.Frag}{a:Addr}{xs:List V}{g:TG}{tb:TS}{D:Ends}{σ:St}{H:Hp}(I:Nat->St->Hp->Prop)(U:I 0 σ H)(Y:∀i σ H,i<=xs.length->I i σ H->SqL K H a xs)
  (hs:∀i x σ H,xs[i]? =some x->I i σ H->g x σ H fun M H2=>tb {D with nx:=I (i+1),ct:=I (i+1),bk:=D.nx} M H2) (hd:∀σ H,I xs.length σ H->D.nx σ H):
  ∃W:Nat->Nat->St->Hp->Prop,(∃m,W 0 m σ H)/\∀i m σ H,W i m σ H->
   ((Itl K a).stop i H/\D.nx σ H)∨((Itl K a).go i H/\∃N:St->Hp->Prop,(∀O H',N O H'->∃R,R<m/\W (i+1) R O H')/\∀x H',(Itl K a).yld i H x H'->g x σ H' fun M H2=>tb {D with nx:=N,ct:=N,bk:=D.nx} M H2):=by
 refine⟨fun i m σ H=>m=xs.length-i/\i<=xs.length/\I i σ H,⟨xs.length,by simp,uF _,U⟩,?_⟩
 rintro i m σ H ⟨rfl,hi,p⟩;have q:=Y i σ H hi p;by_cases L:i<xs.length
 ·refine .inr ⟨⟨xs,xs[i],q,by simp [L]⟩,I (i+1),fun O H' p'=>⟨xs.length-(i+1),by omega,rfl,L,p'⟩,fun x H' y=> ?_⟩
  obtain⟨e,y⟩:=y;subst e;exact hs i x σ _ (y xs q) p
 ·have e:i=xs.length:=by omega
  subst e;exact .inl ⟨⟨xs,q,ug _⟩,hd σ H p⟩
theorem for_tup {K:PySem.W.Frag}{a:Addr}{xs:List V}{g:TG}{tb:TS}{D:Ends}{σ:St}{H:Hp}(I:Nat->St->Hp->Prop)(U:I 0 σ H)(Y:∀i σ H,i<=xs.length->I i σ H->SqT K H a xs)
  (hs:∀i x σ H,xs[i]? =some x->I i σ H->g x σ H fun M H2=>tb {D with nx:=I (i+1),ct:=I (i+1),bk:=D.nx} M H2) (hd:∀σ H,I xs.length σ H->D.nx σ H):
  ∃W:Nat->Nat->St->Hp->Prop,(∃m,W 0 m σ H)/\∀i m σ H,W i m σ H->
   ((Itt K a).stop i H/\D.nx σ H)∨((Itt K a).go i H/\∃N:St->Hp->Prop,(∀O H',N O H'->∃R,R<m/\W (i+1) R O H')/\∀x H',(Itt K a).yld i H x H'->g x σ H' fun M H2=>tb {D with nx:=N,ct:=N,bk:=D.nx} M H2):=by
 refine⟨fun i m σ H=>m=xs.length-i/\i<=xs.length/\I i σ H,⟨xs.length,by simp,uF _,U⟩,?_⟩
 rintro i m σ H ⟨rfl,hi,p⟩;have q:=Y i σ H hi p;by_cases L:i<xs.length
 ·refine .inr ⟨⟨xs,xs[i],q,by simp [L]⟩,I (i+1),fun O H' p'=>⟨xs.length-(i+1),by omega,rfl,L,p'⟩,fun x H' y=> ?_⟩
  obtain⟨e,y⟩:=y;subst e;exact hs i x σ _ (y xs q) p
 ·have e:i=xs.length:=by omega
  subst e;exact .inl ⟨⟨xs,q,ug _⟩,hd σ H p⟩
theorem Xt {lo:Int}{n:Nat}{g:TG}{tb:TS}{D:Ends}{σ:St}{H:Hp}(I:Nat->St->Hp->Prop)(U:I 0 σ H)
  (Y:∀i σ H,i<n->I i σ H->g (.int (lo+i)) σ H fun M H2=>tb {D with nx:=I (i+1),ct:=I (i+1),bk:=D.nx} M H2) (hd:∀σ H,I n σ H->D.nx σ H):
  ∃W:Nat->Nat->St->Hp->Prop,(∃m,W 0 m σ H)/\∀i m σ H,W i m σ H->
   ((Itr lo n).stop i H/\D.nx σ H)∨((Itr lo n).go i H/\∃N:St->Hp->Prop,(∀O H',N O H'->∃R,R<m/\W (i+1) R O H')/\∀x H',(Itr lo n).yld i H x H'->g x σ H' fun M H2=>tb {D with nx:=N,ct:=N,bk:=D.nx} M H2):=by
 refine⟨fun i m σ H=>m=n-i/\i<=n/\I i σ H,⟨n,by simp,uF _,U⟩,?_⟩
 rintro i m σ H ⟨rfl,hi,p⟩;by_cases L:i<n
 ·refine .inr ⟨L,I (i+1),fun O H' p'=>⟨n-(i+1),by omega,rfl,L,p'⟩,fun x H' y=> ?_⟩
  obtain⟨e,y⟩:=y;subst e y;exact Y i σ _ L p
 ·have e:i=n:=by omega
  subst e;exact .inl ⟨ug _,hd σ H p⟩
abbrev R2:=V->V->Hp->VK->Prop
def OpR (X:Cx)(f:Value->Value->Sem Value)(r:R2):Prop:=
 ∀(pins:List (Addr×Obj)) (s:Shared) (σ:St) (H:Hp) (x y:V) (v u:Value) (Q:VK),Inv X pins σ H s->RelV x v->RelV y u->r x y H Q->
  wpAny (model X.prog X.w) X.A (f v u) (EP X pins σ Q) X.xe s
def UnR (X:Cx)(f:Value->Sem Value)(r:V->Hp->VK->Prop):Prop:=
 ∀(pins:List (Addr×Obj)) (s:Shared) (σ:St) (H:Hp) (x:V) (v:Value) (Q:VK),Inv X pins σ H s->RelV x v->r x H Q->
  wpAny (model X.prog X.w) X.A (f v) (EP X pins σ Q) X.xe s
def yX (X:Cx)(f:Value)(r:List V->Hp->VK->Prop):Prop:=
 ∀(pins:List (Addr×Obj)) (s:Shared) (σ:St) (H:Hp) (xs:List V) (us:List Value) (Q:VK),Inv X pins σ H s->Vals xs us->r xs H Q->
  wpAny (model X.prog X.w) X.A (call f us) (EP X pins σ Q) X.xe s
def TruR (X:Cx)(r:V->Hp->(Bool->Hp->Prop)->Prop):Prop:=
 ∀(pins:List (Addr×Obj)) (s:Shared) (σ:St) (H:Hp) (x:V) (v:Value) (Q:Bool->Hp->Prop),Inv X pins σ H s->RelV x v->r x H Q->
  wpAny (model X.prog X.w) X.A (truthy v) (TP X pins σ Q) X.xe s
def tOp (r:R2)(ta tb:TE):TE:=fun σ H Q=>ta σ H fun x H1=>tb σ H1 fun y H2=>r x y H2 Q
def tUn (r:V->Hp->VK->Prop)(ta:TE):TE:=fun σ H Q=>ta σ H fun x H1=>r x H1 Q
def rI (C:Int->Int->Prop)(g:Int->Int->V):R2:=fun x y H Q=>∃i j,x= .int i/\y= .int j/\C i j/\Q (g i j) H
def rI0 (g:Int->Int->V):R2:=fun x y H Q=>∃i j,x= .int i/\y= .int j/\Q (g i j) H
def rU (g:Int->V):V->Hp->VK->Prop:=fun x H Q=>∃i,x= .int i/\Q (g i) H
section
variable {X:Cx}{a b c:Expr}{ta tb tc:TE}{pos:Pos}
theorem binT (ha:PE X a ta)(L:PE X b tb){pins:List (Addr×Obj)}{s:Shared}{σ:St}{H:Hp}{R:V->V->Hp->Prop}(I:Inv X pins σ H s)
  (h:ta σ H fun x H1=>tb σ H1 fun y H2=>R x y H2) {Q:Value->Shared->Prop}{f:Value->Value->Sem Value}
  (M:∀v u s2 x y H2,Inv X pins σ H2 s2->RelV x v->RelV y u->R x y H2->wpAny (model X.prog X.w) X.A (f v u) Q X.xe s2):
  wpAny (model X.prog X.w) X.A (eval a X.env) (fun v O=>wpAny (model X.prog X.w) X.A (eval b X.env) (fun u U=>wpAny (model X.prog X.w) X.A (f v u) Q X.xe U) X.xe O) X.xe s:=by
 refine thn (ha pins s σ H _ I h) fun v s1 ⟨x,H1,Y,r1,q1⟩=> ?_;refine thn (L pins s1 σ H1 _ Y q1) fun u s2 ⟨y,H2,I2,r2,q2⟩=> ?_;exact M v u s2 x y H2 I2 r1 r2 q2
theorem qT {L:Operator}{r:R2}(M:OpR X (binaryOp L) r)(ha:PE X a ta)(O:PE X b tb):PE X (.BinOp a L b pos) (tOp r ta tb):=by
 intro pins s σ H Q I h;exact wpAny_BinOp (binT ha O I h fun v u s2 x y H2 R U Y q=>M pins s2 σ H2 x y v u Q R U Y q)
theorem pe_un {L:UnaryOp}{r:V->Hp->VK->Prop}(M:UnR X (unaryOp L) r)(ha:PE X a ta):PE X (.UnaryOp L a pos) (tUn r ta):=by
 intro pins s σ H Q I h;exact UnaryOp_ (thn (ha pins s σ H _ I h) fun v s1 ⟨x,H1,O,R,q1⟩=>M pins s1 σ H1 x v Q O R q1)
theorem opI {f:Value->Value->Sem Value}{C:Int->Int->Prop}{g:Int->Int->Int}
  (rule:∀(i j:Int) (t u:Tok) (s:Shared) (Q:Value->Shared->Prop) (E:Value->Shared->Prop),C i j->Q (.int (g i j) s.toks) {s with toks:=s.toks+1}->wpAny (model X.prog X.w) X.A (f (.int i t) (.int j u)) Q E s):
  OpR X f (rI C fun i j=> .int (g i j)):=by
 intro pins s σ H x y v u Q I L M h;obtain⟨i,j,rfl,rfl,O,q⟩:=h;obtain⟨t,rfl⟩:=L;obtain⟨t',rfl⟩:=M;exact rule i j t t' s _ _ O ⟨.int (g i j),H,I.tok _,⟨_,rfl⟩,q⟩
theorem opI0 {f:Value->Value->Sem Value}{g:Int->Int->Int}
  (rule:∀(i j:Int) (t u:Tok) (s:Shared) (Q:Value->Shared->Prop) (E:Value->Shared->Prop),Q (.int (g i j) s.toks) {s with toks:=s.toks+1}->wpAny (model X.prog X.w) X.A (f (.int i t) (.int j u)) Q E s):
  OpR X f (rI0 fun i j=> .int (g i j)):=by
 intro pins s σ H x y v u Q I L M h;obtain⟨i,j,rfl,rfl,q⟩:=h;obtain⟨t,rfl⟩:=L;obtain⟨t',rfl⟩:=M;exact rule i j t t' s _ _ ⟨.int (g i j),H,I.tok _,⟨_,rfl⟩,q⟩
theorem opB0 {f:Value->Value->Sem Value}{g:Int->Int->Bool}
  (rule:∀(i j:Int) (t u:Tok) (s:Shared) (Q:Value->Shared->Prop) (E:Value->Shared->Prop),Q (.bool (g i j)) s->wpAny (model X.prog X.w) X.A (f (.int i t) (.int j u)) Q E s):
  OpR X f (rI0 fun i j=> .bl (g i j)):=by
 intro pins s σ H x y v u Q I L M h;obtain⟨i,j,rfl,rfl,q⟩:=h;obtain⟨t,rfl⟩:=L;obtain⟨t',rfl⟩:=M;exact rule i j t t' s _ _ ⟨.bl (g i j),H,I,rfl,q⟩
def CDiv (i j:Int):Prop:=0<j/\j<1073741824
def CPow (i j:Int):Prop:=0<=j/\j<=1000000/\i.natAbs<2^64
def CMul (i j:Int):Prop:=(-(2^64)<i/\i<2^64)∨(-(2^64)<j/\j<2^64)
theorem CMul.ok {i j:Int}(h:CMul i j):IntMulOk i j:=by
 rcases h with⟨h1,h2⟩|⟨h1,h2⟩
 ·exact .of_left (intBits_le_64 h1 h2)
 ·exact .of_right (intBits_le_64 h1 h2)
theorem Qz:OpR X (binaryOp .Add) (rI0 fun i j=> .int (i+j)):=opI0 fun _ _ _ _ _ _ _ q=>add_int q
theorem op_sub:OpR X (binaryOp .Sub) (rI0 fun i j=> .int (i-j)):=opI0 fun _ _ _ _ _ _ _ q=>sub_int q
theorem op_mul:OpR X (binaryOp .Mult) (rI CMul fun i j=> .int (i*j)):=opI fun _ _ _ _ _ _ _ I q=>mul_int q I.ok
theorem op_fdiv:OpR X (binaryOp .FloorDiv) (rI CDiv fun i j=> .int (i/j)):=opI fun i j _ _ _ _ _ I q=>by
 have h1:(0:Int)<j:=I.1;have h2:j<1073741824:=I.2;exact floordiv_int (by omega) (by rw [Int.fdiv_eq_ediv_of_nonneg i (by omega)];exact q) (.inl (PyProof.noPylong_small (by omega)))
theorem op_mod:OpR X (binaryOp .Mod) (rI (fun _ j=>0<j) fun i j=> .int (i%j)):=opI fun i j _ _ _ _ _ I q=>by
 have h1:(0:Int)<j:=I;exact mod_int' (by omega) (by rw [Int.fmod_eq_emod_of_nonneg i (by omega)];exact q)
theorem op_pow:OpR X (binaryOp .Pow) (rI CPow fun i j=> .int (i^j.toNat)):=opI fun _ _ _ _ _ _ _ I q=>pow_int_small I.1 I.2.1 I.2.2 q
theorem unI {f:Value->Sem Value}{g:Int->Int}
  (rule:∀(i:Int) (t:Tok) (s:Shared) (Q:Value->Shared->Prop) (E:Value->Shared->Prop),Q (.int (g i) s.toks) {s with toks:=s.toks+1}->wpAny (model X.prog X.w) X.A (f (.int i t)) Q E s):
  UnR X f (rU fun i=> .int (g i)):=by
 intro pins s σ H x v Q I L h;obtain⟨i,rfl,q⟩:=h;obtain⟨t,rfl⟩:=L;exact rule i t s _ _ ⟨.int (g i),H,I.tok _,⟨_,rfl⟩,q⟩
theorem un_neg:UnR X (unaryOp .USub) (rU fun i=> .int (-i)):=unI fun _ _ _ _ _ q=>neg_int q
noncomputable def scal:V->V->Bool
 | .non,.non=>true| .non,.int _=>true| .int _,.non=>true| .non,.bl _=>true| .bl _,.non=>true| .non,.str _=>true| .str _,.non=>true
 | .int _,.int _=>true| .bl _,.bl _=>true| .str _,.str _=>true| .byt _,.byt _=>true
 | .int _,.str _=>true| .str _,.int _=>true| .bl _,.str _=>true| .str _,.bl _=>true
 |_,_=>false
def rEq:R2:=fun x y H Q=>scal x y=true/\Q (.bl (decide (x=y))) H
def rNe:R2:=fun x y H Q=>scal x y=true/\Q (.bl (!decide (x=y))) H
theorem dec_int {i j:Int}:decide (V.int i=V.int j)=(i==j):=by
 rw [vF];simp
theorem dec_bl {i j:Bool}:decide (V.bl i=V.bl j)=(i==j):=by
 rw [vF];simp
theorem dec_str {i j:Str}:decide (V.str i=V.str j)=(i==j):=by
 rw [vF];simp
theorem dec_byt {i j:Array UInt8}:decide (V.byt i=V.byt j)=(i.toList==j.toList):=by
 rw [vF];cases i;cases j;simp
theorem Qc {pins:List (Addr×Obj)}{σ:St}{H:Hp}{s:Shared}{Q:VK}{k L:Bool}(I:Inv X pins σ H s)(q:Q (.bl k) H)(e:k=L):EP X pins σ Q (.bool L) s:=by
 subst e;exact⟨.bl k,H,I,rfl,q⟩
theorem Qg:OpR X (compareOp .Eq) rEq:=by
 intro pins s σ H x y v u Q I O L h;obtain⟨M,q⟩:=h;cases x with
 |non=>
  cases O;cases y with
  |non=>cases L;exact PySem.EqNone.eq_none_none (Qc I q (by simp))
  |bl j=>cases L;exact PySem.EqNone.eq_none_bool (Qc I q (by simp))
  |int j=>obtain⟨t',rfl⟩:=L;exact PySem.EqNone.eq_none_int (Qc I q (by simp))
  |str j=>obtain⟨t',rfl⟩:=L;exact PySem.EqNone.eq_none_str (Qc I q (by simp))
  |_=>exact absurd (show false=true from M) u8
 |bl i=>
  cases O;cases y with
  |non=>cases L;exact PySem.EqNone.eq_bool_none (Qc I q (by simp))
  |bl j=>cases L;exact eq_bool (Qc I q dec_bl)
  |str j=>obtain⟨t',rfl⟩:=L;exact PySem.EqMixed.eq_bool_str (Qc I q (by simp))
  |_=>exact absurd (show false=true from M) u8
 |int i=>
  obtain⟨t,rfl⟩:=O;cases y with
  |non=>cases L;exact PySem.EqNone.eq_int_none (Qc I q (by simp))
  |int j=>obtain⟨t',rfl⟩:=L;exact eq_int (Qc I q dec_int)
  |str j=>obtain⟨t',rfl⟩:=L;exact PySem.EqMixed.eq_int_str (Qc I q (by simp))
  |_=>exact absurd (show false=true from M) u8
 |str i=>
  obtain⟨t,rfl⟩:=O;cases y with
  |non=>cases L;exact PySem.EqNone.eq_str_none (Qc I q (by simp))
  |bl j=>cases L;exact PySem.EqMixed.eq_str_bool (Qc I q (by simp))
  |int j=>obtain⟨t',rfl⟩:=L;exact PySem.EqMixed.eq_str_int (Qc I q (by simp))
  |str j=>obtain⟨t',rfl⟩:=L;exact eq_str (Qc I q dec_str)
  |_=>exact absurd (show false=true from M) u8
 |byt i=>
  obtain⟨t,rfl⟩:=O;cases y with
  |byt j=>obtain⟨t',rfl⟩:=L;exact PySem.W.eq_bytes (Qc I q dec_byt)
  |_=>exact absurd (show false=true from M) u8
 |_=>cases y<;>exact absurd (show false=true from M) u8
theorem op_ne:OpR X (compareOp .NotEq) rNe:=by
 intro pins s σ H x y v u Q I O L h;obtain⟨M,q⟩:=h;cases x with
 |non=>
  cases O;cases y with
  |non=>cases L;exact PySem.EqNone.ne_none_none (Qc I q (by simp))
  |bl j=>cases L;exact PySem.EqNone.ne_none_bool (Qc I q (by simp))
  |int j=>obtain⟨t',rfl⟩:=L;exact PySem.EqNone.ne_none_int (Qc I q (by simp))
  |str j=>obtain⟨t',rfl⟩:=L;exact PySem.EqNone.ne_none_str (Qc I q (by simp))
  |_=>exact absurd (show false=true from M) u8
 |bl i=>
  cases O;cases y with
  |non=>cases L;exact PySem.EqNone.ne_bool_none (Qc I q (by simp))
  |bl j=>cases L;exact ne_bool (Qc I q (congrArg not dec_bl))
  |str j=>obtain⟨t',rfl⟩:=L;exact PySem.EqMixed.ne_bool_str (Qc I q (by simp))
  |_=>exact absurd (show false=true from M) u8
 |int i=>
  obtain⟨t,rfl⟩:=O;cases y with
  |non=>cases L;exact PySem.EqNone.ne_int_none (Qc I q (by simp))
  |int j=>obtain⟨t',rfl⟩:=L;exact ne_int (Qc I q (congrArg not dec_int))
  |str j=>obtain⟨t',rfl⟩:=L;exact PySem.EqMixed.ne_int_str (Qc I q (by simp))
  |_=>exact absurd (show false=true from M) u8
 |str i=>
  obtain⟨t,rfl⟩:=O;cases y with
  |non=>cases L;exact PySem.EqNone.ne_str_none (Qc I q (by simp))
  |bl j=>cases L;exact PySem.EqMixed.ne_str_bool (Qc I q (by simp))
  |int j=>obtain⟨t',rfl⟩:=L;exact PySem.EqMixed.ne_str_int (Qc I q (by simp))
  |str j=>obtain⟨t',rfl⟩:=L;exact ne_str (Qc I q (congrArg not dec_str))
  |_=>exact absurd (show false=true from M) u8
 |byt i=>
  obtain⟨t,rfl⟩:=O;cases y with
  |byt j=>obtain⟨t',rfl⟩:=L;exact PySem.W.ne_bytes (Qc I q (congrArg not dec_byt))
  |_=>exact absurd (show false=true from M) u8
 |_=>cases y<;>exact absurd (show false=true from M) u8
theorem op_lt:OpR X (compareOp .Lt) (rI0 fun i j=> .bl (decide (i<j))):=opB0 fun _ _ _ _ _ _ _ q=>lt_int q
theorem op_le:OpR X (compareOp .LtE) (rI0 fun i j=> .bl (decide (i<=j))):=opB0 fun _ _ _ _ _ _ _ q=>le_int q
theorem XL:OpR X (compareOp .Gt) (rI0 fun i j=> .bl (decide (j<i))):=opB0 fun _ _ _ _ _ _ _ q=>gt_int q
theorem op_ge:OpR X (compareOp .GtE) (rI0 fun i j=> .bl (decide (j<=i))):=opB0 fun _ _ _ _ _ _ _ q=>ge_int q
theorem XB:OpR X (compareOp .Lt) (fun x y H Q=>∃i j,x= .str i/\y= .str j/\Q (.bl (decide (i.cps.toList<j.cps.toList))) H):=by
 intro pins s σ H x y v u Q I L M h;obtain⟨i,j,rfl,rfl,q⟩:=h;obtain⟨t,rfl⟩:=L;obtain⟨t',rfl⟩:=M;exact lt_str (Qc I q rfl)
theorem op_in_str:OpR X (compareOp .In) (fun x y H Q=>∃i j,x= .str i/\y= .str j/\Q (.bl (!(Builtin.Str.occurrences j i 0 j.length 1).isEmpty)) H):=by
 intro pins s σ H x y v u Q I L M h;obtain⟨i,j,rfl,rfl,q⟩:=h;obtain⟨t,rfl⟩:=L;obtain⟨t',rfl⟩:=M;exact in_str (Qc I q rfl)
theorem X1:OpR X (compareOp .Is) (fun x y H Q=>y= .non/\Q (.bl (decide (x= .non))) H):=by
 intro pins s σ H x y v u Q I L M h;obtain⟨rfl,q⟩:=h;cases M;refine is_none_gen (Qc I q ?_);cases x<;>first
  |(cases L;rfl)
  |(obtain⟨t,rfl⟩:=L;rfl)
theorem op_notN:OpR X (compareOp .IsNot) (fun x y H Q=>y= .non/\Q (.bl (!decide (x= .non))) H):=by
 intro pins s σ H x y v u Q I L M h;obtain⟨rfl,q⟩:=h;cases M;refine isnot_none_gen (Qc I q ?_);cases x<;>first
  |(cases L;rfl)
  |(obtain⟨t,rfl⟩:=L;rfl)
theorem qw (b:Expr){I:CmpOp}(h:I≠ .In:=by decide)(h2:I≠ .NotIn:=by decide):behindInMarks I b=false:=by
 have e1:(I==CmpOp.In)=false:=by cases I<;>first|rfl|exact absurd rfl h
 have e2:(I==CmpOp.NotIn)=false:=by cases I<;>first|rfl|exact absurd rfl h2
 cases b<;>simp [behindInMarks,e1,e2]
theorem QG {L:CmpOp}{r:R2}(M:OpR X (compareOp L) r)(ha:PE X a ta)(O:PE X b tb)(hm:behindInMarks L b=false):PE X (.Compare a [L] [b] pos) (tOp r ta tb):=by
 intro pins s σ H Q I h;exact wpAny_Compare1 (binT ha O I h fun v u s2 x y H2 R U Y q=>M pins s2 σ H2 x y v u Q R U Y q) hm
def tTest (t:TE):TT:=fun σ H Q=>t σ H fun x H'=>∃k,x= .bl k/\Q k H'
theorem qm {L:CmpOp}{r:R2}(M:OpR X (compareOp L) r)(ha:PE X a ta)(O:PE X b tb)(hm:behindInMarks L b=false):PT X (.Compare a [L] [b] pos) (tTest (tOp r ta tb)):=by
 intro pins s σ H Q I h;refine wpAny_isTrue_Compare1 (thn (ha pins s σ H _ I h) fun v s1 ⟨x,H1,R,U,q1⟩=>thn (O pins s1 σ H1 _ R q1) fun u s2 ⟨y,H2,Y,r2,q2⟩=>
  thn (M pins s2 σ H2 x y v u _ Y U r2 q2) fun c s3 ⟨z,H3,I3,r3,k,e,q3⟩=> ?_) hm
 subst e;cases r3;exact vc ⟨H3,I3,q3⟩
def tChain (r r':R2)(ta tb tc:TE):TE:=fun σ H Q=>ta σ H fun x H1=>tb σ H1 fun y H2=>r x y H2 fun z H3=>∃k,z= .bl k/\
 (if k=true then tc σ H3 fun w' H4=>r' y w' H4 Q else Q (.bl false) H3)
theorem pe_chain {M L:CmpOp}{r R:R2}(ho:OpR X (compareOp M) r)(O:OpR X (compareOp L) R)(ha:PE X a ta)(hb:PE X b tb)(hc:PE X c tc)
  (hm:lastMarks [M,L] [b,c]=false:=by with_unfolding_all rfl):PE X (.Compare a [M,L] [b,c] pos) (tChain r R ta tb tc):=by
 intro pins s σ H Q I h;refine Compare_chain (thn (ha pins s σ H _ I h) fun v s1 ⟨x,H1,I1,r1,q1⟩=>chain_link (thn (hb pins s1 σ H1 _ I1 q1) fun u s2 ⟨y,H2,I2,U,q2⟩=>
  thn (ho pins s2 σ H2 x y v u _ I2 r1 U q2) fun d s3 ⟨z,Y,I3,r3,k,e,q3⟩=> ?_)) hm
 subst e;cases r3;refine vc ?_;cases k with
 |false=>exact ite_ff ⟨.bl false,Y,I3,rfl,q3⟩
 |true=>exact ite_tt (chain_last (thn (hc pins s3 σ Y _ I3 q3) fun w' s4 ⟨z',H4,I4,r4,q4⟩=>O pins s4 σ H4 y z' u w' Q I4 U r4 q4))
theorem pt_chain {M L:CmpOp}{r R:R2}(ho:OpR X (compareOp M) r)(O:OpR X (compareOp L) R)(ha:PE X a ta)(hb:PE X b tb)(hc:PE X c tc)
  (hm:lastMarks [M,L] [b,c]=false:=by with_unfolding_all rfl):PT X (.Compare a [M,L] [b,c] pos) (tTest (tChain r R ta tb tc)):=by
 intro pins s σ H Q I h;refine isTrue_chain (thn (ha pins s σ H _ I h) fun v s1 ⟨x,H1,I1,r1,q1⟩=>test_link (thn (hb pins s1 σ H1 _ I1 q1) fun u s2 ⟨y,H2,I2,U,q2⟩=>
  thn (ho pins s2 σ H2 x y v u _ I2 r1 U q2) fun d s3 ⟨z,Y,I3,r3,k,e,q3⟩=> ?_)) hm
 subst e;cases r3;refine vc ?_;cases k with
 |false=>
  obtain⟨k',e',q'⟩:=q3;cases e';exact ite_ff ⟨Y,I3,q'⟩
 |true=>
  refine ite_tt (test_last (thn (hc pins s3 σ Y _ I3 q3) fun w' s4 ⟨z',H4,I4,r4,q4⟩=>thn (O pins s4 σ H4 y z' u w' _ I4 U r4 q4) fun d' s5 ⟨z2,H5,I5,r5,k2,e2,q5⟩=> ?_));subst e2;cases r5;exact vc ⟨H5,I5,q5⟩
def TruV (K:PySem.W.Frag)(x:V)(H:Hp)(k:Bool):Prop:=
 match x with
 | .non=>k=false
 | .bl b=>k=b
 | .int i=>k=(i !=0)
 | .str y=>y.length<=sizeLine/\k=((y.length:Int) !=0)
 | .byt y=>y.size<=sizeLine/\k=((y.size:Int) !=0)
 | .ref p=>(∃xs,SqL K H p xs/\k= !xs.isEmpty)∨(∃xs,SqT K H p xs/\k= !xs.isEmpty)∨∃kvs,H p=some (.dK kvs)/\k= !kvs.isEmpty
 |_=>False
theorem isEmpty_kv {κ:Type}{kvs:List (κ×V)}{vs:List (κ×Value)}(r:KV kvs vs):(!vs.isEmpty)= !kvs.isEmpty:=by
 cases r<;>rfl
theorem zL {xs:List V}{its:List Value}(r:Vals xs its):(!its.toArray.isEmpty)= !xs.isEmpty:=by
 cases r<;>simp
theorem xq:(sizeLine:Nat)<2^63:=by rw [uL];decide
theorem tru_ok:TruR X (fun x H Q=>∃k,TruV X.K x H k/\Q k H):=by
 intro pins s σ H x v Q I O h;obtain⟨k,e,q⟩:=h;have hl:=xq;have hs:sizeLine=16777216:=uL;cases x with
 |non=>
  cases O;have L:k=false:=e;subst L;exact truthy_none ⟨H,I,q⟩
 |bl b=>
  cases O;have L:k=b:=e;subst L;exact vc ⟨H,I,q⟩
 |int i=>
  obtain⟨t,rfl⟩:=O;have L:k=(i !=0):=e;subst L;exact PySem.P.truthy_int ⟨H,I,q⟩
 |str y=>
  obtain⟨t,rfl⟩:=O;obtain⟨Y,L⟩:y.length<=sizeLine/\k=((y.length:Int) !=0):=e;subst L;exact PySem.P.truthy_str (by omega) ⟨H,I.tok _,q⟩
 |byt y=>
  obtain⟨t,rfl⟩:=O;obtain⟨Y,L⟩:y.size<=sizeLine/\k=((y.size:Int) !=0):=e;subst L;exact PySem.W.truthy_bytes (by omega) ⟨H,I.tok _,q⟩
 |ref p=>
  cases O;have L:(∃xs,SqL X.K H p xs/\k= !xs.isEmpty)∨(∃xs,SqT X.K H p xs/\k= !xs.isEmpty)∨∃kvs,H p=some (.dK kvs)/\k= !kvs.isEmpty:=e;rcases L with⟨xs,R,L⟩|⟨xs,R,L⟩|⟨kvs,R,L⟩
  ·subst L;obtain⟨its,r,pl,U⟩:=I.list R;have M:=r.length;exact wpAny_truthy_list pl.isList (by simp only [ue];omega) ⟨H,I.tok _,by rw [zL r];exact q⟩
  ·subst L;obtain⟨its,r,pl,U⟩:=I.tuple R;have M:=r.length;exact truthy_tuple pl (by simp only [ue];omega) ⟨H,I.tok _,by rw [zL r];exact q⟩
  ·subst L;obtain⟨U,hS,vs,r,m⟩:kvs.length<=sizeLine/\(p==sysModules)=false/\∃vs,KV kvs vs/\s.heap.DictOf (Qt X.prog X.w) p vs:=I.hok p _ R;have M:kvs.length=vs.length:=Paired.length r;exact wpAny_truthy_dict hS m (by omega) ⟨H,I.tok _,by rw [isEmpty_kv r];exact q⟩
 |_=>exact(show False from e).elim
theorem pt_truth (ha:PE X a ta)(M:∀L,isTrue a X.env L=(do let v<-L;standAt a.pos;holding [v] (truthy v))):
  PT X a (fun σ H Q=>ta σ H fun x H'=>∃k,TruV X.K x H' k/\Q k H'):=by
 intro pins s σ H Q I h;exact isTrue_plain (thn (ha pins s σ H _ I h) fun v s1 ⟨x,H1,O,R,q1⟩=>tru_ok pins s1 σ H1 x v Q O R q1) (M _)
theorem Qj:OpR X (binaryOp .Add) (fun x y H Q=>∃i j,x= .str i/\y= .str j/\i.length+j.length<=sizeLine/\Q (.str (i++j)) H):=by
 intro pins s σ H x y v u Q I L M h;obtain⟨i,j,rfl,rfl,O,q⟩:=h;obtain⟨t,rfl⟩:=L;obtain⟨t',rfl⟩:=M;exact uR (n:=1) I.tk (add_str (fun t' tk htk=>⟨.str (i++j),H,I.tok _,⟨_,rfl⟩,q⟩) O)
theorem Jd {x:V}{us:List Value}(r:Vals [x] us):∃u,us= [u]/\RelV x u:=by
 cases r with
 |cons I L=>cases L;exact⟨_,rfl,I⟩
theorem vals2 {x y:V}{us:List Value}(r:Vals [x,y] us):∃u I,us= [u,I]/\RelV x u/\RelV y I:=by
 cases r with
 |cons L M=>
  cases M with
  |cons O R=>cases R;exact⟨_,_,rfl,L,O⟩
theorem call_abs:yX X (.builtin "abs") (fun xs H Q=>∃i,xs= [.int i]/\Q (.int (if i<0 then-i else i)) H):=by
 intro pins s σ H xs us Q I r h;obtain⟨i,rfl,q⟩:=h;obtain⟨u,rfl,t,rfl⟩:=Jd r;exact uR (n:=1) I.tk (call_abs_int fun u tk htk=>⟨.int (if i<0 then-i else i),H,I.tok _,⟨_,rfl⟩,q⟩)
theorem call_min2 (M:X.calm=true):yX X (.builtin "min") (fun xs H Q=>∃i j,xs= [.int i,.int j]/\Q (.int (if j<i then j else i)) H):=by
 intro pins s σ H xs us Q I r h;obtain⟨i,j,rfl,q⟩:=h;obtain⟨u,O,rfl,⟨t,rfl⟩,⟨t',rfl⟩⟩:=vals2 r;refine uR (n:=1) I.tk (min_two_ints (I.ok.hd M) fun h' tk k htk=>⟨_,H,I.kept k,?_,q⟩);by_cases L:j<i
 ·rw [if_pos L,if_pos L];exact⟨_,rfl⟩
 ·rw [if_neg L,if_neg L];exact⟨_,rfl⟩
theorem call_int1:yX X (.type "int") (fun xs H Q=>(∃i,xs= [.int i]/\Q (.int i) H)∨∃k,xs= [.bl k]/\Q (.int (if k then 1 else 0)) H):=by
 intro pins s σ H xs us Q I r h;rcases h with⟨i,rfl,q⟩|⟨k,rfl,q⟩
 ·obtain⟨u,rfl,t,rfl⟩:=Jd r;exact call_int_int ⟨.int i,H,I,⟨_,rfl⟩,q⟩
 ·obtain⟨u,rfl,L⟩:=Jd r;cases L;exact call_int_bool ⟨.int (if k then 1 else 0),H,I.tok _,⟨_,rfl⟩,q⟩
theorem yN:yX X (.type "str") (fun xs H Q=>∃i,xs= [.int i]/\i.natAbs.log2<1920/\Q (.str (toString i)) H):=by
 intro pins s σ H xs us Q I r h;obtain⟨i,rfl,L,q⟩:=h;obtain⟨u,rfl,t,rfl⟩:=Jd r;exact PySem.P.str_of_int L ⟨.str _,H,I.tok _,⟨_,rfl⟩,q⟩
theorem call_ord:yX X (.builtin "ord") (fun xs H Q=>∃x,xs= [.str x]/\x.length=1/\Q (.int (x.cps.getD 0 0:Nat)) H):=by
 intro pins s σ H xs us Q I r h;obtain⟨x,rfl,L,q⟩:=h;obtain⟨u,rfl,t,rfl⟩:=Jd r;exact ord_of_one L ⟨.int _,H,I.tok _,⟨_,rfl⟩,q⟩
def LenV (K:PySem.W.Frag)(x:V)(H:Hp)(n:Nat):Prop:=
 match x with
 | .str y=>y.length<=sizeLine/\n=y.length
 | .byt y=>y.size<=sizeLine/\n=y.size
 | .ref p=>(∃xs,SqL K H p xs/\n=xs.length)∨∃xs,SqT K H p xs/\n=xs.length
 |_=>False
theorem xH:yX X (.builtin "len") (fun xs H Q=>∃x n,xs= [x]/\LenV X.K x H n/\Q (.int n) H):=by
 intro pins s σ H xs us Q I r h;obtain⟨x,n,rfl,e,q⟩:=h;obtain⟨u,rfl,O⟩:=Jd r;have hl:=xq;have hs:sizeLine=16777216:=uL;cases x with
 |str y=>
  obtain⟨t,rfl⟩:=O;obtain⟨Y,M⟩:y.length<=sizeLine/\n=y.length:=e;subst M;exact len_str (by omega) ⟨.int _,H,I.tok _,⟨_,rfl⟩,q⟩
 |byt y=>
  obtain⟨t,rfl⟩:=O;obtain⟨Y,M⟩:y.size<=sizeLine/\n=y.size:=e;subst M;exact PySem.W.len_bytes (by omega) ⟨.int _,H,I.tok _,⟨_,rfl⟩,q⟩
 |ref p=>
  cases O;have M:(∃xs,SqL X.K H p xs/\n=xs.length)∨∃xs,SqT X.K H p xs/\n=xs.length:=e;rcases M with⟨xs,R,M⟩|⟨xs,R,M⟩
  ·subst M;obtain⟨its,U,pl,hz⟩:=I.list R;have L:=U.length;exact Calls.call_len_list pl.isList (by simp only [ue];omega) ⟨.int xs.length,H,I.tok _,⟨_,by simp only [ue];rw [L]⟩,q⟩
  ·subst M;obtain⟨its,U,pl,hz⟩:=I.tuple R;have L:=U.length;exact len_tuple pl (by simp only [ue];omega) ⟨.int xs.length,H,I.tok _,⟨_,by simp only [ue];rw [L]⟩,q⟩
 |_=>exact(show False from e).elim
end
structure ObjM (h:Heap)(x dx C:Addr)(mA:Str->Option Value):Prop where
 obj:h.get? x=some (PySem.W.instObj C dx)
 ns:h.Ns1 dx mA
 ne:dx≠x
theorem lookIn_ns {h:Heap}{dx:Addr}{mA:Str->Option Value}(n:h.Ns1 dx mA):∃od,h.get? dx=some od/\∀name,PySem.W.lookIn name od=some (mA name):=by
 obtain⟨o,es,U,L,hd,M,_,hm⟩:=n;refine⟨o,L,fun name=> ?_⟩;have e:=hm name;unfold nsFind findBy at e;rw [<-Array.find?_toList] at e;unfold PySem.W.lookIn;rw [hd];dsimp only;split
 ·rename_i y q
  rw [q] at e;exact congrArg some e
 ·rename_i q
  rw [q] at e;have a:es.toList.any (·.refKey)=false:=by
   rw [List.any_eq_false];intro y O;obtain⟨z,t,I⟩:=M y (Array.mem_toList_iff.mp O);simp [DictEntry.refKey,I]
  have R:¬es.toList.any (·.refKey)=true:=by rw [a];exact u8
  rw [if_neg R];exact congrArg some e
theorem ObjM.look {h:Heap}{x dx C:Addr}{mA:Str->Option Value}(I:ObjM h x dx C mA):∃od,PySem.W.InstAt h x (PySem.W.instObj C dx) C (some od)/\∀name,PySem.W.lookIn name od=some (mA name):=
 let⟨od,ho,hl⟩:=lookIn_ns I.ns
 ⟨od,⟨I.obj,rfl,rfl,ho⟩,hl⟩
section
variable {prog:Program}{w:World}{A:Around}{E:Value->Shared->Prop}{s:Shared}{K:PySem.W.Frag}{x dx C f:Addr}{mA:Str->Option Value}{name:Str}{v:Value}
theorem get_map {L:Bool}{Q:Value->Shared->Prop}(X:K.In s.heap)(I:ObjM s.heap x dx C mA)(O:PySem.W.plainGet K C name=true)(R:PySem.W.hasDictIn K C=true)
  (ha:PySem.W.findIn K (.ref C) name=some none) (U:mA name=some v) (M:PySem.W.handedIn v=true) (h:Q v {s with toks:=s.toks+1}):
  wpAny (model prog w) A (getAttr (.ref x) name L) Q E s:=by
 obtain⟨od,J,Y⟩:=I.look;exact PySem.W.get_value X J (PySem.W.plainGet_of O).1 (PySem.W.findObj_own R ha rfl (by rw [Y,U])) M h
theorem get_meth {pl:Sem Bool}{Q:Value×List Value->Shared->Prop}(X:K.In s.heap)(I:ObjM s.heap x dx C mA)(L:PySem.W.plainGet K C name=true)
  (M:PySem.W.findIn K (.ref C) name=some (some (.ref f))) (O:PySem.W.isFn K (.ref f)=true) (R:mA name=none) (h:Q (.ref f,[.ref x]) s):
  wpAny (model prog w) A (getMethod (.ref x) name pl) Q E s:=by
 obtain⟨od,J,U⟩:=I.look;exact PySem.W.method_fn X J (PySem.W.plainGet_of L).1 (PySem.W.plainGet_of L).2 M (beq_iff_eq.mp O) (by show(PySem.W.lookIn name od).map (·.isSome)=some false;rw [U,R];rfl) h
theorem set_map {ns:List Str}{Q:Unit->Shared->Prop}(X:K.In s.heap)(I:ObjM s.heap x dx C mA)
  (hs:PySem.W.findIn K (.ref C) "__setattr__"=some (some (.builtin "object.__setattr__"))) (hp:PySem.W.plainOver K C=true) (ht:PySem.W.takerIn K C name=some none) (hh:PySem.W.hasDictIn K C=true)
  (hw:PySem.Within mA ns) (hsz:ns.length<=sizeLine)
  (h:∀h',ObjM h' x dx C (fun y=>if y=name then some v else mA y)->Heap.SameBut dx s.heap h'->Q Unit.unit {s with heap:=h',toks:=s.toks+2}):
  wpAny (model prog w) A (setAttr (.ref x) name v) Q E s:=by
 obtain⟨od,J,hl⟩:=I.look;refine PySem.W.set_plain X J hs (PySem.W.osa_open (s:={s with toks:=s.toks+1}) (r:=none) X J hp ht fun b=> ?_)
 obtain⟨cd,hc,O⟩:=PySem.W.any_some hh;have hx:s.heap.get? x=some ⟨.ref C,some dx,.plain,#[]⟩:=I.obj;refine wpAny_bind (uc (wpAny_bind (wpAny_bind (wpAny_loadPart hx (wpAny_bind (PySem.W.Looks.here (s:={s with toks:=s.toks+1}) (PySem.W.looks_clsIn X hc) ?_))))))
 rw [O];refine uc (a:=some dx) (wpAny_bind (uc (wpAny_bind ?_)));refine wpAny_nsSet1 (s:={s with toks:=s.toks+1}) I.ns fun h' L M=> ?_
 obtain⟨oD,aa,ab,R,U,Y⟩:=L.count (PySem.Within.cons name v hw);refine wpAny_bind (wpAny_lookBehind R (by rw [U];exact pastItsLine_dict (uP Y (by rw [ud];omega))) ?_)
 exact uc (h _ ⟨(M.2 _ (U9 I.ne)).trans I.obj,L,I.ne⟩ M)
theorem make_map {R:Result->Shared->Prop}{vs:List Value}{kw:List (Str×Value)}(X:K.In s.heap)(hm:PySem.W.makesIn K C=true)
  (hi:PySem.W.findIn K (.ref C) "__init__"=some (some (.ref f))) (I:PySem.W.typeIn K (.ref f)=some (.type "function"))
  (h:codeAny (model prog w) (A.under (.builtin "type.__call__" ⟨.ref C::vs,kw⟩)) (.call (.ref f) ⟨.ref (s.heap.objs.size+1)::vs,kw⟩) (PySem.W.InitBack (s.heap.objs.size+1) R)
   {s with heap:=(s.heap.push PySem.W.emptyDict).push (PySem.W.instObj C s.heap.objs.size)}):
  codeAny (model prog w) A (.call (.ref C) ⟨vs,kw⟩) R s:=by
 obtain⟨L,g,d,t,os⟩:=s;exact PySem.W.make_core (PySem.W.makes_of X hm) (PySem.W.looks_findIn X hi) (fun self=>PySem.W.bind_fn X self I) (.inl rfl) h
end
noncomputable def putF (f:Str)(v:V):List (Str×V)->List (Str×V)
 | []=> [(f,v)]
 |(g,x)::r=>if g=f then(g,v)::r else(g,x)::putF f v r
theorem qM (f g:Str)(v:V):∀fs:List (Str×V),(putF f v fs).lookup g=if g=f then some v else fs.lookup g
 | []=>by
  show List.lookup g [(f,v)]=_;by_cases h:g=f
  ·have I:(g==f)=true:=beq_iff_eq.mpr h;simp only [List.lookup,I,if_pos h]
  ·have I:(g==f)=false:=beq_eq_false_iff_ne.mpr h;simp only [List.lookup,I,if_neg h]
 |(k,x)::r=>by
  have M:=qM f g v r;rw [show putF f v ((k,x)::r)=(if k=f then(k,v)::r else(k,x)::putF f v r) from rfl]
  by_cases L:k=f
  ·rw [if_pos L];by_cases h:g=k
   ·have I:(g==k)=true:=beq_iff_eq.mpr h;simp only [List.lookup,I,if_pos (h.trans L)]
   ·have I:(g==k)=false:=beq_eq_false_iff_ne.mpr h;simp only [List.lookup,I,if_neg (fun e:g=f=>h (e.trans L.symm))]
  ·rw [if_neg L];by_cases h:g=k
   ·have I:(g==k)=true:=beq_iff_eq.mpr h;simp only [List.lookup,I,if_neg (fun e:g=f=>L (h.symm.trans e))]
   ·have I:(g==k)=false:=beq_eq_false_iff_ne.mpr h;simp only [List.lookup,I];exact M
theorem Xo (f:Str)(v:V):∀fs:List (Str×V),f∈(putF f v fs).map (·.1)/\∀g,g∈fs.map (·.1)->g∈(putF f v fs).map (·.1)
 | []=>⟨by simp [putF],fun g h=>by simp at h⟩
 |(k,x)::r=>by
  obtain⟨L,M⟩:=Xo f v r;rw [show putF f v ((k,x)::r)=(if k=f then(k,v)::r else(k,x)::putF f v r) from rfl]
  by_cases I:k=f
  ·rw [if_pos I];subst I;exact⟨by simp,fun g h=>by simpa using h⟩
  ·rw [if_neg I];refine⟨?_,fun g h=> ?_⟩
   ·rw [uj];exact uh _ L
   ·rw [uj] at h⊢;rcases List.mem_cons.mp h with e|e
    ·exact List.mem_cons.mpr (.inl e)
    ·exact uh _ (M g e)
theorem Xk (f:Str)(v:V):∀fs:List (Str×V),(putF f v fs).length<=fs.length+1
 | []=>by simp [putF]
 |(k,x)::r=>by
  have L:=Xk f v r;rw [show putF f v ((k,x)::r)=(if k=f then(k,v)::r else(k,x)::putF f v r) from rfl]
  by_cases I:k=f
  ·rw [if_pos I,ud,ud];omega
  ·rw [if_neg I,ud,ud];omega
theorem RelO.some_of {v:V}{o:Option Value}(r:RelO (some v) o):∃u,o=some u/\RelV v u:=by
 cases o with
 |none=>exact(show False from r).elim
 |some u=>exact⟨u,rfl,r⟩
theorem RelO.none_of {o:Option Value}(r:RelO none o):o=none:=by
 cases o with
 |none=>rfl
 |some u=>exact(show False from r).elim
theorem handed_of {v:V}{u:Value}(r:RelV v u):PySem.W.handedIn u=true:=by
 cases v with
 |non=>cases(show u=Value.none from r);rfl
 |bl b=>cases(show u=Value.bool b from r);rfl
 |int i=>obtain⟨t,e⟩:=(show∃t,u=Value.int i t from r);cases e;rfl
 |str x=>obtain⟨t,e⟩:=(show∃t,u=Value.str x t from r);cases e;rfl
 |byt b=>obtain⟨t,e⟩:=(show∃t,u=Value.bytes b t from r);cases e;rfl
 |flt b=>obtain⟨t,e⟩:=(show∃t,u=Value.float b t from r);cases e;rfl
 |ref a=>cases(show u=Value.ref a from r);rfl
 |ty n=>cases(show u=Value.type n from r);rfl
section
variable {P:Program}{w:World}{H H':Hp}{h h':Heap}{a C dx:Addr}{fs fs':List (Str×V)}
theorem ZF (hok:HOk P w H h)(e:H a=some (.ins C dx fs)):∃mA,ObjM h a dx C mA/\(∀f,RelO (fs.lookup f) (mA f))/\PySem.Within mA (fs.map (·.1))/\fs.length<=1000/\H dx=some (.own a):=by
 obtain⟨d,z,ne,ob,mA,n,r,q⟩:=(show QM P w H h a (.ins C dx fs) from hok a _ e)
 exact⟨mA,⟨ob,n,ne⟩,r,q,z,d⟩
end
structure Cls (K:PySem.W.Frag)(C:Addr):Prop where
 pg:PySem.W.plainGet K C Str.empty=true
 hd:PySem.W.hasDictIn K C=true
 po:PySem.W.plainOver K C=true
 sa:PySem.W.findIn K (.ref C) "__setattr__"=some (some (.builtin "object.__setattr__"))
theorem Cls.get {K:PySem.W.Frag}{C:Addr}(c:Cls K C)(f:Str):PySem.W.plainGet K C f=true:=c.pg
def yJ (K:PySem.W.Frag)(C:Addr)(f:Str):Prop:=PySem.W.findIn K (.ref C) f=some none
theorem yJ.taker {K:PySem.W.Frag}{C:Addr}{f:Str}(n:yJ K C f):PySem.W.takerIn K C f=some none:=by
 unfold PySem.W.takerIn;rw [show PySem.W.findIn K (.ref C) f=some none from n]
 rfl
structure Meth (K:PySem.W.Frag)(C:Addr)(m:Str)(f:Addr):Prop where
 at_:PySem.W.findIn K (.ref C) m=some (some (.ref f))
 fn:PySem.W.isFn K (.ref f)=true
 kp:PySem.W.keepIn K (.ref f)=true
section
variable {X:Cx}{pins:List (Addr×Obj)}{σ:St}{H:Hp}{s:Shared}{a C dx:Addr}{fs:List (Str×V)}{f:Str}{v:V}{A:Around}{E:Value->Shared->Prop}
theorem zT {b:Bool}{Q:Value->Shared->Prop}(I:Inv X pins σ H s)(e:H a=some (.ins C dx fs))(c:Cls X.K C)(n:yJ X.K C f)(l:fs.lookup f=some v)
  (h:∀u s',Inv X pins σ H s'->RelV v u->Q u s'):wpAny (model X.prog X.w) A (getAttr (.ref a) f b) Q E s:=by
 obtain⟨mA,O,r,_,_,_⟩:=ZF I.hok e;obtain⟨u,L,ru⟩:=RelO.some_of (v:=v) (o:=mA f) (by rw [<-l];exact r f)
 exact get_map I.kIn O (c.get f) c.hd n L (handed_of ru) (h u _ (I.tok _) ru)
theorem jm {m:Str}{g:Addr}{pl:Sem Bool}{Q:Value×List Value->Shared->Prop}(I:Inv X pins σ H s)(e:H a=some (.ins C dx fs))(c:Cls X.K C)(k:Meth X.K C m g)(l:fs.lookup m=none)
  (h:Q (.ref g,[.ref a]) s):wpAny (model X.prog X.w) A (getMethod (.ref a) m pl) Q E s:=by
 obtain⟨mA,O,r,_,_,_⟩:=ZF I.hok e;have hn:mA m=none:=RelO.none_of (by rw [<-l];exact r m)
 exact get_meth I.kIn O (c.get m) k.at_ k.fn hn h
theorem zQ {y:V}{u:Value}{Q:Unit->Shared->Prop}(I:Inv X pins σ H s)(e:H a=some (.ins C dx fs))(c:Cls X.K C)(n:yJ X.K C f)(hl:fs.length<1000)(U:RelV y u)
  (h:∀s',Inv X pins σ (upd H a (.ins C dx (putF f y fs))) s'->Q Unit.unit s'):wpAny (model X.prog X.w) A (setAttr (.ref a) f u) Q E s:=by
 obtain⟨mA,O,r,M,_,R⟩:=ZF I.hok e;have Y:(fs.map (·.1)).length<=sizeLine:=by rw [ub,uL];omega
 refine set_map I.kIn O c.sa c.po n.taker c.hd M Y fun h' L sb=>h _ ?_;have hd:∃o,h'.get? dx=some o:=let⟨o,_,_,e',_⟩:=L.ns;⟨o,e'⟩;refine I.write (x:=a) (e:=dx) (by rw [e];exact True.intro) (.inr R) (fun b q hb z=>(sb.2 b hb).trans z) hd ?_
 refine⟨by rw [qx O.ne];exact R,?_,O.ne,L.obj,_,L.ns,fun g=> ?_,fun g hg=> ?_⟩
 ·have:=Xk f y fs;omega
 ·show RelO ((putF f y fs).lookup g) (if g=f then some u else mA g)
  rw [qM];by_cases q:g=f
  ·rw [if_pos q,if_pos q];exact U
  ·rw [if_neg q,if_neg q];exact r g
 ·by_cases q:g=f
  ·rw [q];exact(Xo f y fs).1
  ·refine(Xo f y fs).2 g (M g fun z=>hg ?_);show(if g=f then some u else mA g)=none
   rw [if_neg q];exact z
theorem Inv.made (I:Inv X pins σ H s):Inv X pins σ (upd (upd H s.heap.objs.size (.own (s.heap.objs.size+1))) (s.heap.objs.size+1) (.ins C s.heap.objs.size []))
  {s with heap:=(s.heap.push PySem.W.emptyDict).push (PySem.W.instObj C s.heap.objs.size)}:=by
 have e1:(s.heap.push PySem.W.emptyDict).get? s.heap.objs.size=some PySem.W.emptyDict:=uw s.heap rfl;have e2:((s.heap.push PySem.W.emptyDict).push (PySem.W.instObj C s.heap.objs.size)).get? (s.heap.objs.size+1)=some (PySem.W.instObj C s.heap.objs.size):=by
  have:=uw (s.heap.push PySem.W.emptyDict) (o:=PySem.W.instObj C s.heap.objs.size) rfl
  rwa [vd] at this
 have L:(s.heap.push PySem.W.emptyDict).Ns s.heap.objs.size (fun _=>none):=⟨PySem.W.emptyDict,#[],_,e1,rfl,(fun e M=>absurd M (by simp)),fun _=>rfl⟩
 have O:=I.laid (a:=s.heap.objs.size) (o:= .own (s.heap.objs.size+1)) (h':=s.heap.push PySem.W.emptyDict) (t':=s.toks) (fun b u q=>u3 _ q) (ug _) ⟨_,e1⟩;refine O.laid (a:=s.heap.objs.size+1) (o:= .ins C s.heap.objs.size []) (t':=s.toks) (fun b u q=>u3 _ q) (Nat.le_of_eq (vd _ _)) ?_;have ne:s.heap.objs.size≠s.heap.objs.size+1:=uK (Nat.lt_succ_self _);refine⟨by rw [qx ne,qh],uF _,ne,e2,fun _=>none,(Heap.Ns1.of_empty L).at fun o q=>u3 _ q,fun _=>True.intro,fun y R=>absurd rfl R⟩
theorem attr_of {prog:Program}{w:World}{env:Env}{e:Expr}{f:Str}{pos:Pos}{s:Shared}{Q:Value->Shared->Prop}(I:attributeBase e f env (eval e env)=eval e env)
  (h:wpAny (model prog w) A (eval e env) (fun o L=>wpAny (model prog w) A (getAttr o f true) Q E L) E s):wpAny (model prog w) A (eval (.Attribute e f pos) env) Q E s:=
 Attribute_any_ h (by rw [arm_eval_Attribute,I])
end
def tFld (K:PySem.W.Frag)(ta:TE)(f:Str):TE:=fun σ H Q=>ta σ H fun x H1=>∃a C dx fs v,x= .ref a/\H1 a=some (.ins C dx fs)/\Cls K C/\yJ K C f/\fs.lookup f=some v/\Q v H1
def sFld (K:PySem.W.Frag)(ta tv:TE)(f:Str):TS:=fun D σ H=>tv σ H fun y H1=>ta σ H1 fun x H2=>∃a C dx fs,x= .ref a/\H2 a=some (.ins C dx fs)/\Cls K C/\yJ K C f/\fs.length<1000/\
 D.nx σ (upd H2 a (.ins C dx (putF f y fs)))
def InOp (X:Cx)(op:Operator)(rd:V->V->Hp->VK->Prop):Prop:=
 ∀(pins:List (Addr×Obj)) (s:Shared) (σ:St) (H:Hp) (x y:V) (u v:Value) (Q:VK),Inv X pins σ H s->RelV x u->RelV y v->rd x y H Q->wpAny (model X.prog X.w) X.A (inplaceOp op u v) (EP X pins σ Q) X.xe s
def sFldAug (K:PySem.W.Frag)(ta tv:TE)(rd:V->V->Hp->VK->Prop)(f:Str):TS:=fun D σ H=>ta σ H fun x H1=>∃a C dx fs v,x= .ref a/\H1 a=some (.ins C dx fs)/\Cls K C/\yJ K C f/\fs.lookup f=some v/\
 tv σ H1 fun y H2=>rd v y H2 fun z H3=>∃dx' fs',H3 a=some (.ins C dx' fs')/\fs'.length<1000/\D.nx σ (upd H3 a (.ins C dx' (putF f z fs')))
section
variable {X:Cx}{o e value:Expr}{f:Str}{pos pos' tpos:Pos}{ta tv:TE}
theorem QY (L:PE X e ta)(M:attributeBase e f X.env (eval e X.env)=eval e X.env):PE X (.Attribute e f pos) (tFld X.K ta f):=by
 intro pins s σ H Q I h;refine attr_of M (thn (L pins s σ H _ I h) fun u s1 ⟨x,H1,O,R,a,C,dx,fs,v,ex,U,c,n,l,q⟩=> ?_);subst ex;obtain rfl:u=Value.ref a:=R;exact zT O U c n l fun u' s2 Y ru=>⟨v,H1,Y,ru,q⟩
theorem Q1 (ha:PE X o ta)(L:PE X value tv)(M:swapsWith value (some (.Attribute o f pos')) pos.line X.env=pure false):PS X (.Assign [.Attribute o f pos'] value pos) (sFld X.K ta tv f):=by
 intro pins s σ H D I h;refine plainObj_wpAny_Assign_Attribute (thn (L pins s σ H _ I h) fun u s1 ⟨y,H1,O,R,q⟩=>thn (ha pins s1 σ H1 _ O q) fun U s2 ⟨x,H2,Y,rx,a,C,dx,fs,ex,ea,c,n,l,q2⟩=> ?_) M;subst ex;obtain rfl:U=Value.ref a:=rx;exact zQ Y ea c n l R fun s3 I3=>⟨σ,_,I3,q2⟩
theorem YQ {O:Operator}{R:V->V->Hp->VK->Prop}(ha:PE X o ta)(U:PE X value tv)(L:InOp X O R):PS X (.AugAssign (.Attribute o f tpos) O value pos) (sFldAug X.K ta tv R f):=by
 intro pins s σ H D I h;refine wpAny_AugAssign_AttributeAny (thn (ha pins s σ H _ I h) fun Y s1 ⟨x,H1,I1,rx,a,C,dx,fs,v,ex,ea,c,n,l,q⟩=> ?_);subst ex;obtain rfl:Y=Value.ref a:=rx;refine zT I1 ea c n l fun u s2 I2 ru=>thn (U pins s2 σ H1 _ I2 q) fun w3 s3 ⟨y,H2,I3,ry,q3⟩=>thn (L pins s3 σ H2 v y u w3 _ I3 ru ry q3) fun w4 s4 ⟨z,H3,I4,rz,aa,fs',M,l',q4⟩=> ?_;exact zQ I4 M c n l' rz fun s5 I5=>⟨σ,_,I5,q4⟩
def rAdd:V->V->Hp->VK->Prop:=fun x y H Q=>∃i j,x= .int i/\y= .int j/\Q (.int (i+j)) H
theorem in_add:InOp X .Add rAdd:=by
 rintro pins s σ H x y u v Q I L M ⟨i,j,rfl,rfl,q⟩;obtain⟨t,rfl⟩:=(show∃t,u=Value.int i t from L)
 obtain⟨t',rfl⟩:=(show∃t',v=Value.int j t' from M)
 exact PyProof.Rows.iadd_int ⟨.int (i+j),H,I.tok _,⟨_,rfl⟩,q⟩
theorem methcall_of {pl:Sem Bool}{m:Str}{apos:Pos}{args:List Expr}{pins:List (Addr×Obj)}{s:Shared}{σ:St}{H:Hp}{Q:Value->Shared->Prop}{te:TE}(M:PE X e te)(I:Inv X pins σ H s)
  (h:te σ H fun x H1=>∃a C dx fs g,x= .ref a/\H1 a=some (.ins C dx fs)/\Cls X.K C/\Meth X.K C m g/\fs.lookup m=none/\
   ∀s1,Inv X pins σ H1 s1->wpAny (model X.prog X.w) X.A (callWith pos (.ref g) [.ref a] (backTo pos (starEach args X.env)) (backToKw pos (keywordEach [] X.env))) Q X.xe s1)
  (O:eval (.Call (.Attribute e m apos) args [] pos) X.env=(do
   let ov<-eval e X.env
   standAt apos.atName
   let(f,first)<-holding [ov] (getMethod ov m pl)
   callWith pos f first (backTo pos (starEach args X.env)) (backToKw pos (keywordEach [] X.env)))):
  wpAny (model X.prog X.w) X.A (eval (.Call (.Attribute e m apos) args [] pos) X.env) Q X.xe s:=by
 refine Uc (pl:=pl) (thn (M pins s σ H _ I h) fun u s1 ⟨x,H1,L,R,a,C,dx,fs,g,ex,U,c,k,l,q⟩=> ?_) O;subst ex;obtain rfl:u=Value.ref a:=R;exact jm L U c k l (q s1 L)
end
section
variable {X:Cx}{pins:List (Addr×Obj)}{σ:St}{H:Hp}{s:Shared}{A:Around}{E:Value->Shared->Prop}{Q:Value->Shared->Prop}{c:Value}{b:Bool}
inductive TyOf (K:PySem.W.Frag) (H:Hp):V->Value->Prop where
 |non:TyOf K H .non (.type "NoneType")
 |bl (x:Bool):TyOf K H (.bl x) (.type "bool")
 |int (i:Int):TyOf K H (.int i) (.type "int")
 |str (x:Str):TyOf K H (.str x) (.type "str")
 |flt (x:UInt64):TyOf K H (.flt x) (.type "float")
 |lst {a:Addr}{xs:List V} (e:H a=some (.lst xs)):TyOf K H (.ref a) (.type "list")
 |frz {a:Addr}{o:Obj}{xs:List V} (e:H a=some (.frz o (.lst xs))):TyOf K H (.ref a) (.type "list")
 |tup {a:Addr}{xs:List V} (e:H a=some (.tup xs)):TyOf K H (.ref a) (.type "tuple")
 |dK {a:Addr}{kvs:List (Key×V)} (e:H a=some (.dK kvs)):TyOf K H (.ref a) (.type "dict")
 |dT {a:Addr}{kvs:List (List Key×V)} (e:H a=some (.dT kvs)):TyOf K H (.ref a) (.type "dict")
 |ins {a C dx:Addr}{fs:List (Str×V)} (e:H a=some (.ins C dx fs)) (cl:Cls K C) (ha:PySem.W.findIn K (.ref C) "__class__"=some (some (.builtin "object.__class__")))
   (hn:PySem.W.specialIn K (.builtin "object.__class__") "__get__"=some (some (.builtin "getset_descriptor.__get__"))) (htk:PySem.W.takesIn K (.builtin "object.__class__")=some true)
   (hm:PySem.W.mroIn K C (.type "object")=some true):TyOf K H (.ref a) (.ref C)
theorem isinst_ok {x:V}{u t:Value}(I:Inv X pins σ H s)(L:RelV x u)(ty:TyOf X.K H x t)(e:PySem.W.kitOne X.K t c=some b)(h:∀tk,Q (.bool b) {s with toks:=tk}):
  wpAny (model X.prog X.w) A (call (.builtin "isinstance") [u,c]) Q E s:=by
 cases ty with
 |non=>cases(show u=Value.none from L);exact vi PySem.W.kitx_none I.kIn True.intro e (fun z=>nomatch z) h
 |bl y=>cases(show u=Value.bool y from L);exact vi PySem.W.kitx_bool I.kIn True.intro e (fun z=>nomatch z) h
 |int i=>obtain⟨t,q⟩:=(show∃t,u=Value.int i t from L);cases q;exact vi PySem.W.kitx_int I.kIn True.intro e (fun z=>nomatch z) h
 |str y=>obtain⟨t,q⟩:=(show∃t,u=Value.str y t from L);cases q;exact vi PySem.W.kitx_str I.kIn True.intro e (fun z=>nomatch z) h
 |flt y=>obtain⟨t,q⟩:=(show∃t,u=Value.float y t from L);cases q;exact vi PySem.W.kitx_float I.kIn True.intro e (fun z=>nomatch z) h
 | @lst a xs ea=>
  cases(show u=Value.ref a from L)
  obtain⟨_,_,n,_,h1⟩:=(show QM X.prog X.w H s.heap a (.lst xs) from I.hok a _ ea)
  exact vi PySem.W.kitx_list I.kIn ⟨_,h1,rfl⟩ e (fun z=>nomatch z) h
 | @frz a ob xs ea=>
  cases(show u=Value.ref a from L)
  obtain⟨_,_,_,n,_,h1⟩:=(show QM X.prog X.w H s.heap a (.frz ob (.lst xs)) from I.hok a _ ea)
  exact vi PySem.W.kitx_list I.kIn ⟨_,h1,rfl⟩ e (fun z=>nomatch z) h
 | @tup a xs ea=>
  cases(show u=Value.ref a from L)
  obtain⟨_,_,_,p⟩:=(show QM X.prog X.w H s.heap a (.tup xs) from I.hok a _ ea)
  obtain⟨o,h1,h2,_⟩:=p;exact vi PySem.W.kitx_tuple I.kIn ⟨o,h1,h2⟩ e (fun z=>nomatch z) h
 | @dK a kvs ea=>
  cases(show u=Value.ref a from L)
  obtain⟨_,_,vs,_,p⟩:=(show QM X.prog X.w H s.heap a (.dK kvs) from I.hok a _ ea)
  obtain⟨o,es,M,h1,h2,_⟩:=p;exact vi PySem.W.kitx_dict I.kIn ⟨o,h1,h2.1⟩ e (fun z=>nomatch z) h
 | @dT a kvs ea=>
  cases(show u=Value.ref a from L)
  obtain⟨_,_,xs,_,o,es,M,h1,h2,_⟩:=(show QM X.prog X.w H s.heap a (.dT kvs) from I.hok a _ ea)
  exact vi PySem.W.kitx_dict I.kIn ⟨o,h1,h2.1⟩ e (fun z=>nomatch z) h
 | @ins a C dx fs ea cl ha hn htk hm=>
  cases(show u=Value.ref a from L)
  obtain⟨mA,O,_⟩:=ZF I.hok ea;obtain⟨od,J,_⟩:=O.look;exact vi (PySem.W.kitx_own (cl.get _) cl.hd ha hn htk hm) I.kIn J e (fun z=>nomatch z) h
end
structure Room (k:Nat)(A:Around):Prop where
 hd:A.handled=none
 dp:A.depth+3*k+5<recursionLimit
 un:A.units+16*k+200<cLine
theorem Room.mono {j k:Nat}{A:Around}(r:Room k A)(h:j<=k):Room j A:=⟨r.hd,by have:=r.dp;omega,by have:=r.un;omega⟩
theorem Room.deeper {k:Nat}{A:Around}(r:Room (k+1) A)(env:Env):Room k (A.deeper env):=
 ⟨r.hd,by have:=r.dp;show A.depth+1+3*k+5<_;omega,by have:=r.un;show A.units+3+16*k+200<_;omega⟩
theorem make_depth {A:Around}{C:Addr}{us:List Value}{kw:List (Str×Value)}:(A.under (.builtin "type.__call__" ⟨.ref C::us,kw⟩)).depth=A.depth+1:=by
 first|rfl|simp [Around.under,Code.weight,Code.isCreation,Code.isGuard,Code.isCaller,Code.frames,Code.isFrame,guardIds]
theorem make_units {A:Around}{C:Addr}{us:List Value}{kw:List (Str×Value)}:(A.under (.builtin "type.__call__" ⟨.ref C::us,kw⟩)).units=A.units+1:=by
 first|rfl|simp [Around.under,Code.cUnits,Code.frames,Code.isFrame]
theorem Room.make {k:Nat}{A:Around}(r:Room (k+1) A)(C:Addr)(us:List Value)(kw:List (Str×Value)):Room k (A.under (.builtin "type.__call__" ⟨.ref C::us,kw⟩)):=
 ⟨r.hd,by have:=r.dp;rw [make_depth];omega,by have:=r.un;rw [make_units];omega⟩
theorem Room.depth {k:Nat}{A:Around}(r:Room k A):A.depth<recursionLimit:=by have:=r.dp;omega
theorem Room.units {k:Nat}{A:Around}(r:Room k A):A.units+64<cLine:=by have:=r.un;omega
theorem Room.units0 {k:Nat}{A:Around}(r:Room k A):A.units<cLine:=by have:=r.un;omega
def tNil:TA:=fun _ H Q=>Q [] H
def tCons (ta:TE)(tr:TA):TA:=fun σ H Q=>ta σ H fun x H1=>tr σ H1 fun xs H2=>Q (x::xs) H2
section
variable {X:Cx}{e:Expr}{es:List Expr}{te:TE}{t:TA}{pos:Pos}
theorem qc:PA X [] tNil:=fun _ _ _ _ H Q I h=>Calls.spliced_nil ⟨[],H,I,.nil,h⟩
theorem qa (ha:PE X e te)(L:PA X es t)(M:starEach (e::es) X.env=(false,eval e X.env)::starEach es X.env:=by rfl):PA X (e::es) (tCons te t):=by
 intro pos pins s σ H Q I h;rw [M];show wpAny _ _ (spliced ((false,eval e X.env)::backTo pos (starEach es X.env))) _ _ s;refine Calls.spliced_cons (thn (ha pins s σ H _ I h) fun u s1 ⟨x,H1,O,R,q1⟩=> ?_);exact thn (L pos pins s1 σ H1 _ O q1) fun us s2 ⟨xs,H2,U,Y,q2⟩=>⟨x::xs,H2,U,.cons R Y,q2⟩
def tTup (t:TA):TE:=fun σ H Q=>t σ H fun xs H1=>xs.length<=sizeLine/\∀p,H1 p=none->Q (.ref p) (upd H1 p (.tup xs))
def tLst (t:TA):TE:=fun σ H Q=>t σ H fun xs H1=>xs.length<=sizeLine/\∀p,H1 p=none->Q (.ref p) (upd H1 p (.lst xs))
theorem qy {x1}(h:PA X es t):PE X (.Tuple es x1 pos) (tTup t):=by
 intro pins s σ H Q I M;refine wpAny_Tuple_spliced (thn (h pos pins s σ H _ I M) fun us s1 ⟨xs,H1,L,r,z,q⟩=>⟨by rw [<-r.length];exact z,?_⟩)
 have O:H1 s1.heap.objs.size=none:=L.hok.fresh (ug _);refine⟨.ref s1.heap.objs.size,upd H1 s1.heap.objs.size (.tup xs),L.laid (t':=s1.toks) (fun b u e=>u3 _ e) (ug _) ?_,rfl,q _ O⟩;exact⟨z,us,r,⟨_,uw _ rfl,rfl,_,rfl⟩⟩
theorem Qb (h:PA X es t):PE X (.List es pos) (tLst t):=by
 intro pins s σ H Q I M;refine wpAny_List_spliced (thn (h pos pins s σ H _ I M) fun us s1 ⟨xs,H1,L,r,z,q⟩=>⟨by rw [<-r.length];exact z,?_⟩)
 have O:H1 s1.heap.objs.size=none:=L.hok.fresh (ug _);refine⟨.ref s1.heap.objs.size,upd H1 s1.heap.objs.size (.lst xs),L.laid (t':=s1.toks) (fun b u e=>u3 _ e) (ug _) ?_,rfl,q _ O⟩;exact⟨z,us,0,r,uw _ rfl⟩
end
abbrev Sp:=List V->Hp->VK->XK->Prop
abbrev CXT:=List Env->Hp->Shared->XK->Value->Shared->Prop
structure Env0 (P:Program)(w:World)(K:PySem.W.Frag)(mg:Str->Option Value)(base:Heap)(A:Around)(outer:List Env)(s:Shared)(H:Hp):Prop where
 frames:A.frames=some outer
 mod:Mod K mg base
 bs:∀b o,base.get? b=some o->s.heap.get? b=some o/\H b=none
 bsz:base.objs.size<=s.heap.objs.size
 funs:s.heap.FunFrames base outer
 frf:∀b∈frs outer,H b=none
 hok:HOk P w H s.heap
 bare:AllBare s.gens
def CE (outer:List Env)(P:Program)(w:World)(H:Hp)(s:Shared)(Q:VK)(u:Value)(s':Shared):Prop:=
 ∃v H',s'.os=s.os/\AllBare s'.gens/\0<s'.toks/\Un (frs outer) [] H H' s.heap s'.heap/\HOk P w H' s'.heap/\RelV v u/\Q v H'
def CR (CX:CXT)(outer:List Env)(P:Program)(w:World)(H:Hp)(s:Shared)(Q:VK)(E:XK)(r:Result)(s':Shared):Prop:=
 match r with
 | .ok (.ret u)=>CE outer P w H s Q u s'
 | .ok _=>False
 | .error e=>CX outer H s E e s'
structure FnOk (P:Program)(w:World)(K:PySem.W.Frag)(mg:Str->Option Value)(base:Heap)(CX:CXT)(k:Nat)(f:Addr)(fd:FuncData)(ps:List Str)(sp:Sp):Prop where
 len:∀vs H Q E,sp vs H Q E->vs.length=ps.length
 run:∀(A:Around) (outer:List Env) (s:Shared) (H:Hp) (args:Args) (us:List Value) (vs:List V) (Q:VK) (E:XK),Room k A->Env0 P w K mg base A outer s H->BindsTo s fd args (ps.zip us)->Vals vs us->sp vs H Q E->(0<s.toks∨∃x r,ps=x::r/\fd.scope.names.lookup x=some .local)->
  codeAny (model P w) A (.call (.ref f) args) (CR CX outer P w H s Q E) s
theorem Env0.make {P:Program}{w:World}{K:PySem.W.Frag}{mg:Str->Option Value}{base:Heap}{A:Around}{outer:List Env}{s:Shared}{H:Hp}(e:Env0 P w K mg base A outer s H)(C:Addr)(us:List Value)(kw:List (Str×Value)):
  Env0 P w K mg base (A.under (.builtin "type.__call__" ⟨.ref C::us,kw⟩)) outer s H:=⟨by first|exact e.frames|(simpa [Around.under,Code.envs,Code.isFrame,pushEnvs] using e.frames),e.mod,e.bs,e.bsz,e.funs,e.frf,e.hok,e.bare⟩
section
variable {X:Cx}{pins:List (Addr×Obj)}{σ:St}{H:Hp}{s s':Shared}
theorem Inv.env0 (I:Inv X pins σ H s):Env0 X.prog X.w X.K X.mg X.base X.A X.stack s H:=
 ⟨I.ok.frames,I.ok.mod,I.bs,uP I.ok.bsz I.sz,I.stack,I.stkFree,I.hok,I.bare⟩
theorem Inv.after {Q:VK}{u:Value}(I:Inv X pins σ H s)(h:CE X.stack X.prog X.w H s Q u s'):EP X pins σ Q u s':=by
 obtain⟨v,H',os,bare,htk,un,hok,r,q⟩:=h;obtain⟨M,g,d,t,L⟩:=s';obtain rfl:L=s.os:=os;exact⟨v,H',I.call (h':=M) (g':=g) (d':=d) (t':=t) (ch:= []) un hok bare (fun b z=>absurd z (by simp)),r,q⟩
end
def tCall (sp:Sp)(dvs:List V)(E:XK)(t:TA):TE:=fun σ H Q=>t σ H fun vs H1=>sp (vs++dvs) H1 Q E
def tMeth (C:Addr)(m:Str)(sp:Sp)(dvs:List V)(E:XK)(ta:TE)(t:TA):TE:=fun σ H Q=>ta σ H fun x H1=>∃a dx fs,x= .ref a/\H1 a=some (.ins C dx fs)/\fs.lookup m=none/\
 t σ H1 fun vs H2=>sp (x::(vs++dvs)) H2 Q E
def tMake (C:Addr)(sp:Sp)(dvs:List V)(E:XK)(t:TA):TE:=fun σ H Q=>t σ H fun vs H1=>∀x dx,H1 x=none->H1 dx=none->dx≠x->
 sp (.ref x::(vs++dvs)) (upd (upd H1 dx (.own x)) x (.ins C dx [])) (fun v H2=>v= .non/\Q (.ref x) H2) E
def YX (K:PySem.W.Frag)(fd:FuncData)(ps:List Str)(ds:List Value):Prop:=
 ∀(s:Shared) (us:List Value),K.In s.heap->(us++ds).length=ps.length->BindsTo s fd ⟨us,[]⟩ (ps.zip (us++ds))
theorem YX.all {K:PySem.W.Frag}{fd:FuncData}{ps:List Str}(h:∀us:List Value,us.length=ps.length->bindArgs fd ⟨us,[]⟩=pure (ps.zip us)):YX K fd ps []:=fun s us _ I=>by
 rw [vG] at I⊢;exact .of_eq (h us I)
def Jl (CX:CXT)(X:Cx)(E:XK):Prop:=∀(pins:List (Addr×Obj)) (σ:St) (H:Hp) (s:Shared) (e:Value) (s':Shared),Inv X pins σ H s->CX X.stack H s E e s'->X.xe e s'
section
variable {X:Cx}{CX:CXT}{k:Nat}{f C:Addr}{fd:FuncData}{ps:List Str}{sp:Sp}{dvs:List V}{ds:List Value}{E:XK}{x m:Str}{p pos apos:Pos}{e o:Expr}{es:List Expr}{ta:TE}{t:TA}
theorem run_fn {pins:List (Addr×Obj)}{σ:St}{H:Hp}{s:Shared}{Q:VK}{us:List Value}{vs:List V}(F:FnOk X.prog X.w X.K X.mg X.base CX k f fd ps sp)(O:Room k X.A)(R:YX X.K fd ps ds)(hd:Vals dvs ds)(U:Jl CX X E)
  (I:Inv X pins σ H s) (r:Vals vs us) (h:sp (vs++dvs) H Q E):wpAny (model X.prog X.w) X.A (call (.ref f) us) (EP X pins σ Q) X.xe s:=by
 have M:Vals (vs++dvs) (us++ds):=r.append hd;have Y:(us++ds).length=ps.length:=by rw [<-M.length];exact F.len _ _ _ _ h
 refine UE (Ud (F.run X.A X.stack s H ⟨us,[]⟩ (us++ds) (vs++dvs) Q E O I.env0 (R s us I.kIn Y) M h (.inl I.tk)) fun r s' L=> ?_);cases r with
 |error e=>exact U pins σ H s e s' I L
 |ok fl=>
  cases fl with
  |ret u=>exact I.after L
  |next=>exact False.elim L
  |brk=>exact False.elim L
  |cont=>exact False.elim L
theorem qv (F:FnOk X.prog X.w X.K X.mg X.base CX k f fd ps sp)(R:Room k X.A)(U:Gl X x)(hm:X.mg x=some (.ref f))(Y:PySem.W.keepIn X.K (.ref f)=true)(hb:YX X.K fd ps ds)(hd:Vals dvs ds)(hx:Jl CX X E)
  (ha:PA X (e::es) t) (L:(x==("__debug__":Str))=false:=by decide) (he:starEach (e::es) X.env=(false,eval e X.env)::starEach es X.env:=by rfl) (M:(backTo pos (starEach es X.env)).any (·.1)=false:=by rfl):
  PE X (.Call (.Name x p) (e::es) [] pos) (tCall sp dvs E t):=by
 intro pins s σ H Q I h;refine Ub (jY I U hm ?_ L);refine vT (h₀:=X.base) I.ok.mod.kin Y (thn (ha pos pins s σ H _ I h) fun us s1 ⟨vs,H1,O,r,q⟩=>⟨O.kIn,?_⟩) he M;exact run_fn F R hb hd hx O r q
theorem pe_meth {pl:Sem Bool}(U:PE X o ta)(c:Cls X.K C)(hm:Meth X.K C m f)(F:FnOk X.prog X.w X.K X.mg X.base CX k f fd ps sp)(Y:Room k X.A)(hb:YX X.K fd ps ds)(hd:Vals dvs ds)(hx:Jl CX X E)(ha:PA X (e::es) t)
  (L:starEach (e::es) X.env=(false,eval e X.env)::starEach es X.env:=by rfl) (M:(backTo pos (starEach es X.env)).any (·.1)=false:=by rfl)
  (ht:eval (.Call (.Attribute o m apos) (e::es) [] pos) X.env=(do
   let ov<-eval o X.env
   standAt apos.atName
   let(f,first)<-holding [ov] (getMethod ov m pl)
   callWith pos f first (backTo pos (starEach (e::es) X.env)) (backToKw pos (keywordEach [] X.env))):=by rfl):
  PE X (.Call (.Attribute o m apos) (e::es) [] pos) (tMeth C m sp dvs E ta t):=by
 intro pins s σ H Q I h;refine Uc (pl:=pl) (thn (U pins s σ H _ I h) fun u s1 ⟨x,H1,O,rx,a,dx,fs,ex,ea,l,q⟩=> ?_) ht;subst ex;obtain rfl:u=Value.ref a:=rx;refine jm O ea c hm l ?_;refine vT (first:= [.ref a]) (h₀:=X.base) I.ok.mod.kin hm.kp (thn (ha pos pins s1 σ H1 _ O q) fun us s2 ⟨vs,H2,R,r,q2⟩=>⟨R.kIn,?_⟩) L M;exact run_fn (us:= .ref a::us) (vs:= .ref a::vs) F Y hb hd hx R (.cons rfl r) q2
theorem Ys {pl:Sem Bool}(M:PE X o ta)(c:Cls X.K C)(hm:Meth X.K C m f)(F:FnOk X.prog X.w X.K X.mg X.base CX k f fd ps sp)(O:Room k X.A)(R:YX X.K fd ps ds)(hd:Vals dvs ds)(U:Jl CX X E)
  (Y:eval (.Call (.Attribute o m apos) [] [] pos) X.env=(do
   let ov<-eval o X.env
   standAt apos.atName
   let(f,first)<-holding [ov] (getMethod ov m pl)
   callWith pos f first (backTo pos (starEach [] X.env)) (backToKw pos (keywordEach [] X.env))):=by rfl):
  PE X (.Call (.Attribute o m apos) [] [] pos) (tMeth C m sp dvs E ta tNil):=by
 intro pins s σ H Q I h;refine Uc (pl:=pl) (thn (M pins s σ H _ I h) fun u s1 ⟨x,H1,L,rx,a,dx,fs,ex,ea,l,q⟩=> ?_) Y;subst ex;obtain rfl:u=Value.ref a:=rx;refine jm L ea c hm l ?_;exact PySem.W.callWith_K0 (first:= [.ref a]) L.kIn hm.kp (run_fn (us:= [.ref a]) (vs:= [.ref a]) F O R hd U L (.cons rfl .nil) q)
structure Mk (K:PySem.W.Frag)(C f:Addr):Prop where
 makes:PySem.W.makesIn K C=true
 init:PySem.W.findIn K (.ref C) "__init__"=some (some (.ref f))
 fn:PySem.W.isFn K (.ref f)=true
 kp:PySem.W.keepIn K (.ref C)=true
theorem run_make {pins:List (Addr×Obj)}{σ:St}{H:Hp}{s:Shared}{Q:VK}{us:List Value}{vs:List V}(M:Mk X.K C f)(F:FnOk X.prog X.w X.K X.mg X.base CX k f fd ps sp)(Y:Room (k+1) X.A)(hb:YX X.K fd ps ds)(hd:Vals dvs ds)
  (hx:Jl CX X E) (I:Inv X pins σ H s) (r:Vals vs us)
  (h:∀x dx,H x=none->H dx=none->dx≠x->sp (.ref x::(vs++dvs)) (upd (upd H dx (.own x)) x (.ins C dx [])) (fun v H2=>v= .non/\Q (.ref x) H2) E):
  wpAny (model X.prog X.w) X.A (call (.ref C) us) (EP X pins σ Q) X.xe s:=by
 have R:=h (s.heap.objs.size+1) s.heap.objs.size (I.hok.fresh (Nat.le_succ _)) (I.hok.fresh (ug _)) (uK (Nat.lt_succ_self _));have O:=Inv.made (C:=C) I;have U:Vals (V.ref (s.heap.objs.size+1)::(vs++dvs)) (Value.ref (s.heap.objs.size+1)::(us++ds)):= .cons rfl (r.append hd);have hl:(Value.ref (s.heap.objs.size+1)::us++ds).length=ps.length:=by
  have e:=U.length;rw [F.len _ _ _ _ R] at e;exact e.symm
 refine UE (make_map (f:=f) I.kIn M.makes M.init (beq_iff_eq.mp M.fn) (Ud (F.run _ X.stack _ _ ⟨Value.ref (s.heap.objs.size+1)::us,[]⟩ (Value.ref (s.heap.objs.size+1)::(us++ds)) _ _ E (Y.make C us [])
  (O.env0.make C us []) (hb _ (Value.ref (s.heap.objs.size+1)::us) O.kIn hl) U R (.inl O.tk)) fun r s' L=> ?_))
 cases r with
 |error e=>exact hx pins σ _ _ e s' O L
 |ok fl=>
  cases fl with
  |ret u=>
   obtain⟨v,H',I3,rv,ev,q3⟩:=O.after L;subst ev;exact⟨rv,⟨V.ref (s.heap.objs.size+1),H',I3,rfl,q3⟩⟩
  |next=>exact False.elim L
  |brk=>exact False.elim L
  |cont=>exact False.elim L
theorem pe_make (M:Mk X.K C f)(F:FnOk X.prog X.w X.K X.mg X.base CX k f fd ps sp)(U:Room (k+1) X.A)(Y:Gl X x)(hm:X.mg x=some (.ref C))(hb:YX X.K fd ps ds)(hd:Vals dvs ds)(hx:Jl CX X E)
  (ha:PA X (e::es) t) (L:(x==("__debug__":Str))=false:=by decide) (he:starEach (e::es) X.env=(false,eval e X.env)::starEach es X.env:=by rfl) (O:(backTo pos (starEach es X.env)).any (·.1)=false:=by rfl):
  PE X (.Call (.Name x p) (e::es) [] pos) (tMake C sp dvs E t):=by
 intro pins s σ H Q I h;refine Ub (jY I Y hm ?_ L);refine vT (h₀:=X.base) I.ok.mod.kin M.kp (thn (ha pos pins s σ H _ I h) fun us s1 ⟨vs,H1,R,r,q⟩=>⟨R.kIn,?_⟩) he O;exact run_make M F U hb hd hx R r q
end
structure qD (N P:List Str)(sc:Scope):Prop where
 kind:sc.kind= .function
 co:sc.isCoroutine=false
 gen:sc.isGenerator=false
 nd:N.Nodup
 pre:N.take P.length=P
 par:∀x∈P,sc.names.lookup x=some .local∨sc.names.lookup x=some .cell
 nofree:∀y∈sc.names,y.2≠ .free
theorem bindL_out {kindOf:Str->Option NameKind}{x:Str}:∀{binds:List (Str×Value)}{m:Str->Option Value},(∀v,(x,v)∉binds)->bindL kindOf binds m x=m x
 | [],_,_=>rfl
 |(n,v)::r,m,h=>by
  unfold bindL;rw [bindL_out fun w I=>h w (uh _ I)];split
  ·have:x≠n:=by rintro rfl;exact h v uq
   simp [this]
  ·rfl
theorem bindC_out {kindOf:Str->Option NameKind}{x:Str}:∀{binds:List (Str×Value)}{m:Str->Option Value},(∀v,(x,v)∉binds)->bindC kindOf binds m x=m x
 | [],_,_=>rfl
 |(n,v)::r,m,h=>by
  unfold bindC;rw [bindC_out fun w I=>h w (uh _ I)];split
  ·rfl
  ·have:x≠n:=by rintro rfl;exact h v uq
   simp [this]
theorem bindL_get {kindOf:Str->Option NameKind}{x:Str}{v:Value}:∀{P:List Str}{vs:List Value}{i:Nat}{m:Str->Option Value},P.Nodup->P[i]? =some x->vs[i]? =some v->kindOf x=some .local->
  bindL kindOf (P.zip vs) m x=some v
 | [],_,_,_,_,h,_,_=>by simp at h
 |_::_,[],_,_,_,_,h,_=>by simp at h
 |p::P,w::vs,0,m,nd,h1,h2,hk=>by
  simp at h1 h2;subst h1;subst h2;show bindL kindOf ((p,w)::P.zip vs) m p=_;unfold bindL;rw [bindL_out fun v I=>(List.nodup_cons.mp nd).1 (List.of_mem_zip I).1,if_pos hk];simp
 |p::P,w::vs,i+1,m,nd,h1,h2,hk=>by
  show bindL kindOf ((p,w)::P.zip vs) m x=_;unfold bindL;exact bindL_get (i:=i) (List.nodup_cons.mp nd).2 (by simpa using h1) (by simpa using h2) hk
theorem bindC_get {kindOf:Str->Option NameKind}{x:Str}{v:Value}:∀{P:List Str}{vs:List Value}{i:Nat}{m:Str->Option Value},P.Nodup->P[i]? =some x->vs[i]? =some v->kindOf x≠some .local->
  bindC kindOf (P.zip vs) m x=some v
 | [],_,_,_,_,h,_,_=>by simp at h
 |_::_,[],_,_,_,_,h,_=>by simp at h
 |p::P,w::vs,0,m,nd,h1,h2,hk=>by
  simp at h1 h2;subst h1;subst h2;show bindC kindOf ((p,w)::P.zip vs) m p=_;unfold bindC;rw [bindC_out fun v I=>(List.nodup_cons.mp nd).1 (List.of_mem_zip I).1,if_neg hk];simp
 |p::P,w::vs,i+1,m,nd,h1,h2,hk=>by
  show bindC kindOf ((p,w)::P.zip vs) m x=_;unfold bindC;exact bindC_get (i:=i) (List.nodup_cons.mp nd).2 (by simpa using h1) (by simpa using h2) hk
def Z0 (N:List Str)(vs:List V):St:=vs.map some++List.replicate (N.length-vs.length) none
def cxOf (CX:CXT)(P:Program)(w:World)(K:PySem.W.Frag)(mg:Str->Option Value)(base:Heap)(N:List Str)(qual:Str)(scope:Scope)(f:Addr)(cd:Value)(A:Around)(outer:List Env)(s:Shared)(H:Hp)(E:XK):Cx where
 prog:=P
 w:=w
 K:=K
 mg:=mg
 base:=base
 A:=A.deeper (envOfC qual scope s.heap.objs.size f cd)
 N:=N
 s₀:=s
 H₀:=H
 env:=envOfC qual scope s.heap.objs.size f cd
 outer:=outer
 stack:=envOfC qual scope s.heap.objs.size f cd::outer
 ex:= []
 calm:=true
 fn:=fun _=>true
 pn:= []
 xe:=fun e s'=>wpAny (model P w) (A.deeper (envOfC qual scope s.heap.objs.size f cd)) (leaving (envOfC qual scope s.heap.objs.size f cd) e) (fun _ s''=>CX outer H s E e s'') (fun e' s''=>CX outer H s E e' s'') s'
theorem cell_has {sc:Scope}{n:Nat}{x:Str}(h:sc.names.lookup x=some .cell):∃c,(cellsFrom n sc.names []).lookup x=some c:=by
 have q:=PySem.W.cellsFrom_some sc.names n [] (.inl h);exact Option.isSome_iff_exists.mp q
theorem inv_start {CX:CXT}{P:Program}{w:World}{K:PySem.W.Frag}{mg:Str->Option Value}{base:Heap}{N ps:List Str}{qual:Str}{scope:Scope}{f:Addr}{U:Value}{A:Around}{outer:List Env}{s s1:Shared}{H:Hp}{E:XK}{us:List Value}{vs:List V}
  (S:qD N ps scope) (hd:A.handled=none) (I:Env0 P w K mg base A outer s H) (hl:vs.length=ps.length) (r:Vals vs us)
  (x:InCallC s s.heap.objs.size (bindL (envOfC qual scope s.heap.objs.size f U).kindOf (ps.zip us) fun _=>none) (cellsFrom (s.heap.objs.size+1) scope.names []) (bindC (envOfC qual scope s.heap.objs.size f U).kindOf (ps.zip us) fun _=>none) s1) (Y:0<s1.toks):
  Inv (cxOf CX P w K mg base N qual scope f U A outer s H E) [] (Z0 N vs) H s1:=by
 have aa:ps.length<=N.length:=by have:=congrArg List.length S.pre;rw [uz] at this;omega
 obtain⟨h1,tk,rfl,hk⟩:=x.done;have L:∀b:Addr,b∉(cxOf CX P w K mg base N qual scope f U A outer s H E).ex:=fun b z=>absurd (show b∈([]:List Addr) from z) (by simp)
 refine⟨⟨I.mod,S.kind,rfl,rfl,ug _,fun y z c h1 h2=> ?_,fun y M=> ?_,fun y c _ h=> ?_,fun _=>hd,Around.frames_deeper I.frames,.inr ⟨rfl,rfl⟩,fun b z=>absurd z (L b),I.bs,I.bsz,fun b _ _=>L b,fun b z=>absurd z (L b),I.funs,I.frf⟩,
  rfl,I.bare,Un.kept hk,⟨_,x.toInCall.ns,fun i y v h1 h2 h3=> ?_⟩,fun y c h=>⟨_,x.cell y c h⟩,I.hok.fresh (ug _),fun y c h=> ?_,fun p O=>absurd (show p∈([]:List (Addr×Obj)) from O) (by simp),I.hok.kept hk,?_,Y⟩
 ·exact name_of_addr x.apart (vB h1) (vB h2)
 ·have M:scope.names.lookup y=some .cell∨scope.names.lookup y=some .free:=M;rcases M with M|M
  ·exact cell_has M
  ·exact absurd rfl (S.nofree _ (vB M))
 ·exact Nat.le_of_lt (x.above y c (vB h))
 ·have hi:i<vs.length:=by
   unfold Z0 at h2;by_cases hi:i<vs.length
   ·exact hi
   ·rw [vx (by simpa using hi)] at h2
    rw [List.getElem?_replicate] at h2;split at h2<;>cases h2
  have ha:vs[i]? =some v:=by
   unfold Z0 at h2;rw [Uo (by simpa using hi),uM] at h2
   cases e:vs[i]? with
   |none=>rw [e] at h2;cases h2
   |some a=>rw [e] at h2;cases h2;rfl
  obtain⟨u,hu,rv⟩:=r.get ha;have O:ps[i]? =some y:=by
   rw [<-S.pre,List.getElem?_take_of_lt (by omega)];exact h1
  have R:ps.Nodup:=by rw [<-S.pre];exact S.nd.sublist (List.take_sublist _ _)
  refine⟨u,rv,?_⟩;rcases S.par y (uJ O) with k|k
  ·exact .inl ⟨k,bindL_get R O hu k⟩
  ·obtain⟨c,e⟩:=cell_has (n:=s.heap.objs.size+1) k;refine .inr ⟨.inl k,c,e,?_⟩;have q:=x.cell y c e;rw [bindC_get R O hu (by show scope.names.lookup y≠_;rw [k];decide)] at q
   exact q
 ·exact I.hok.fresh (Nat.le_of_lt (x.above y c (vB h)))
 ·unfold Z0;show _=N.length;rw [uf,ub,List.length_replicate];omega
theorem bindParams1 {M:Model}{A:Around}{E:Value->Shared->Prop}{s₀ s:Shared}{m O:Str->Option Value}{env:Env}(f:Str×Value->PUnit->Sem (ForInStep PUnit))(hf:∀n v u,f (n,v) u=(do storeName env n v;pure (.yield ⟨⟩)))(I:env.scope.kind= .function)
  (n:Str) (v:Value) (r:List (Str×Value)) (Q:PUnit->Shared->Prop) (x:InCallC s₀ env.locals m env.cells O s) (R:env.kindOf n=some .local)
  (U:∀x∈r,env.kindOf x.1=some .local∨(env.kindOf x.1=some .cell/\(env.cells.lookup x.1).isSome=true))
  (h:∀s',InCallC s₀ env.locals (bindL env.kindOf ((n,v)::r) m) env.cells (bindC env.kindOf ((n,v)::r) O) s'->0<s'.toks->Q ⟨⟩ s'):wpAny M A (forIn ((n,v)::r) ⟨⟩ f) Q E s:=by
 rw [Ue,hf];refine wpAny_bind (wpAny_bind (wpAny_storeName_local R x.toInCall.ns (fun h' Y L=>uc ?_) (by rw [I];rfl)))
 have x1:InCallC s₀ env.locals (fun y=>if y=n then some v else m y) env.cells O {s with heap:=h',toks:=s.toks+1}:=by
  refine⟨⟨?_,Y,fun b o e=> ?_,x.toInCall.fresh⟩,fun k c hc=> ?_,x.apart,x.above⟩
  ·obtain⟨h₁,tk,rfl⟩:=x.toInCall.same;exact⟨h',_,rfl⟩
  ·have:=x.toInCall.keep b o e;exact L.extBut b o (uK (Nat.lt_of_lt_of_le (uk e) x.toInCall.fresh)) (x.toInCall.keep b o e)
  ·exact(x.cell k c hc).sameBut L (U3 (x.above k c (mem_of_lookup hc)))
 refine uR (n:=1) (Nat.succ_le_succ (uF _)) (wpAny_bindParams f hf I r _ _ _ _ x1 U fun s' y h1=>h s' ?_ h1);unfold bindL bindC;rw [if_pos R,if_pos R];exact y
theorem newEnv_tk {M:Model}{A:Around}{E:Value->Shared->Prop}{s:Shared}{scope:Scope}{globals:Addr}{binds:List (Str×Value)}{qual:Str}{func:Option Addr}{I:Value}{builtins:Addr}{Q:Env->Shared->Prop}
  (R:scope.kind= .function)
  (U:∀x∈binds,scope.names.lookup x.1=some .local∨(scope.names.lookup x.1=some .cell/\((cellsFrom (s.heap.objs.size+1) scope.names []).lookup x.1).isSome=true))
  (htk:0<s.toks∨∃n v r,binds=(n,v)::r/\scope.names.lookup n=some .local)
  (hq:∀O,O=newEnv scope s.heap.objs.size globals (cellsFrom (s.heap.objs.size+1) scope.names []) qual func I none builtins->
   ∀s',InCallC s O.locals (bindL O.kindOf binds fun _=>none) O.cells (bindC O.kindOf binds fun _=>none) s'->0<s'.toks->Q O s'):
  wpAny M A (newFunctionEnv scope globals [] binds qual func I none builtins) Q E s:=by
 rcases htk with htk|⟨n,v,r,rfl,hl⟩
 ·exact uR (n:=1) htk (wpAny_newFunctionEnv_cells R U fun env he s' x h1=>hq env he s' x h1)
 ·simp only [newFunctionEnv,Option.isSome_none,vq,UH];refine wpAny_bind (wpAny_alloc ?_);refine wpAny_bind (wpAny_layCells _ (fun name kind cells=>by cases Y:kind==NameKind.cell<;>simp [Y]) _ _ _ _ ?_)
  have L:=cellsFrom_ok scope.names (s.heap.push {cls:= .type "frame",data:= .dict #[]}) (s.heap.objs.size+1) [] ⟨fun _ _ hm=>(nomatch hm),List.Pairwise.nil⟩ (by rw [vd];exact ug _);rw [vd] at L;rw [show({s with heap:=s.heap.push {cls:= .type "frame",data:= .dict #[]}}:Shared).heap.objs.size=s.heap.objs.size+1 from vd ..]
  exact wpAny_bind (bindParams1 (s₀:=s) (env:=newEnv scope s.heap.objs.size globals (cellsFrom (s.heap.objs.size+1) scope.names []) qual func I none builtins)
   _ (fun _ _ _=>rfl) R n v r _
   ⟨⟨⟨_,_,by rfl⟩,(Heap.Ns.new s.heap (.type "frame")).keeps (pushCells_keeps _ _),fun b o e=>pushCells_keeps _ _ b o (u3 _ e),ug _⟩,
    fun m c hc=>(L.empty m c (mem_of_lookup hc)).1,L.apart,fun n c hm=>(L.empty n c hm).2⟩
   hl (fun y hy=>U y (uh _ hy)) fun s' x h1=>uc (hq _ rfl s' x h1))
theorem fn_of {CX:CXT}{P:Program}{w:World}{K:PySem.W.Frag}{mg:Str->Option Value}{base:Heap}{k:Nat}{f:Addr}{name qual:Str}{L:Arguments}{M:List Stmt}{scope:Scope}{dV kV doc pm cdv ct oc:Value}{an od:Option Addr}
  {osl:Array (Option Value)}{N ps:List Str}{sp:Sp} (lk:K.lookup f=some ⟨oc,od,.func (PySem.W.fnOf name qual L M scope dV kV doc pm an cdv ct),osl⟩) (ad:PySem.W.codeIn K cdv qual=true) (S:qD N ps scope)
  (len:∀vs H Q E,sp vs H Q E->vs.length=ps.length)
  (O:∀(A:Around) (outer:List Env) (s:Shared) (H:Hp) (vs:List V) (Q:VK) (E:XK),Room k (A.deeper (envOfC qual scope s.heap.objs.size f cdv))->sp vs H Q E->
   ∃t,PSs (cxOf CX P w K mg base N qual scope f cdv A outer s H E) M t/\t {nx:=fun _ H'=>Q .non H',rt:=Q} (Z0 N vs) H):
  FnOk P w K mg base CX (k+1) f (PySem.W.fnOf name qual L M scope dV kV doc pm an cdv ct) ps sp:=by
 refine⟨len,fun A outer s H args us vs Q E hr Y hb r aa htk=> ?_⟩;have hl:=len _ _ _ _ aa;have KX:K.In s.heap:=Y.mod.kin.keeps fun b o e=>(Y.bs b o e).1;have ae:s.heap.NoLimit:=Y.mod.nolimit.keeps fun b o e=>(Y.bs b o e).1;have R:∀y∈ps.zip us,scope.names.lookup y.1=some .local∨(scope.names.lookup y.1=some .cell/\((cellsFrom (s.heap.objs.size+1) scope.names []).lookup y.1).isSome=true):=fun⟨n,v⟩ hy=>by
  rcases S.par n (List.of_mem_zip hy).1 with q|q
  ·exact .inl q
  ·exact .inr ⟨q,PySem.W.cellsFrom_some _ _ _ (.inl q)⟩
 have ab:0<s.toks∨∃n v r,ps.zip us=(n,v)::r/\scope.names.lookup n=some .local:=by
  rcases htk with h|⟨y,q,e,hy⟩
  ·exact .inl h
  ·have:us.length=ps.length:=by rw [<-r.length];exact hl
   subst e
   match us,this with
   |u::us',_=>exact .inr ⟨y,u,q.zip us',rfl,hy⟩
 refine codeAny_call_function hr.depth (KX _ _ lk) rfl S.co S.gen rfl (PySem.W.codeRec_of KX ad) (hb _ _ _ _ ?_);refine newEnv_tk S.kind R ab fun env he s1 x af=> ?_;subst he;refine⟨ae.keeps x.toInCall.keep,codeAny_func ?_⟩;obtain⟨t,ht,hq⟩:=O A outer s H vs Q E (hr.deeper _) aa;have I:Inv (cxOf CX P w K mg base N qual scope f cdv A outer s H E) [] (Z0 N vs) H s1:=inv_start S hr.hd Y hl r x af;refine uY (ht [] s1 (Z0 N vs) H _ I hq) (fun fl s' U=> ?_) fun e s' U=>U;have ac:∀{σ':St}{H':Hp}{v:V}{u:Value},Inv (cxOf CX P w K mg base N qual scope f cdv A outer s H E) [] σ' H' s'->RelV v u->Q v H'->CE outer P w H s Q u s':=
  fun{σ' H' v u} J rv q=>⟨v,H',J.os,J.bare,J.tk,J.base,J.hok,rv,q⟩
 cases fl with
 |ret u=>
  obtain⟨v,σ',H',J,rv,q⟩:=U;exact ac J rv q
 |next=>
  obtain⟨σ',H',J,q⟩:=U;exact ac (v:=V.non) (u:=Value.none) J rfl q
 |brk=>
  obtain⟨_,_,_,q⟩:=U;exact False.elim q
 |cont=>
  obtain⟨_,_,_,q⟩:=U;exact False.elim q
section
variable {X:Cx}{x:Str}{p pos:Pos}{e:Expr}{es:List Expr}{t:TA}{id T:String}{r:List V->Hp->VK->Prop}
def tCB (r:List V->Hp->VK->Prop)(t:TA):TE:=fun σ H Q=>t σ H fun vs H1=>r vs H1 Q
theorem qk (O:yX X (.builtin id) r)(R:Gl X x)(hm:X.mg x=none)(U:bootBuiltins x=some (.builtin id))(ha:PA X (e::es) t)(hn:x≠"__name__":=by decide)(L:(x==("__debug__":Str))=false:=by decide)
  (Y:starEach (e::es) X.env=(false,eval e X.env)::starEach es X.env:=by rfl) (M:(backTo pos (starEach es X.env)).any (·.1)=false:=by rfl):PE X (.Call (.Name x p) (e::es) [] pos) (tCB r t):=by
 intro pins s σ H Q I h;refine Ub (Xg I R hm U ?_ hn L);exact PyProof.Rows.callWith_builtin1 (thn (ha pos pins s σ H _ I h) fun us s1 ⟨vs,H1,I1,r1,q1⟩=>O pins s1 σ H1 vs us Q I1 r1 q1) Y M
theorem qP (O:yX X (.type T) r)(R:Gl X x)(hm:X.mg x=none)(U:bootBuiltins x=some (.type T))(ha:PA X (e::es) t)(hn:x≠"__name__":=by decide)(L:(x==("__debug__":Str))=false:=by decide)
  (Y:starEach (e::es) X.env=(false,eval e X.env)::starEach es X.env:=by rfl) (M:(backTo pos (starEach es X.env)).any (·.1)=false:=by rfl):PE X (.Call (.Name x p) (e::es) [] pos) (tCB r t):=by
 intro pins s σ H Q I h;refine Ub (Xg I R hm U ?_ hn L);exact vp (thn (ha pos pins s σ H _ I h) fun us s1 ⟨vs,H1,I1,r1,q1⟩=>O pins s1 σ H1 vs us Q I1 r1 q1) Y M
end
end L2
namespace HT
open PySem PyProof.Rows
section
variable {prog:Program}{w:World}{A:Around}{E:Value->Shared->Prop}{s:Shared}
theorem cat_tup {t b:Addr}{vs ws:List Value}{Q:Value->Shared->Prop}(ht:IsTup s.heap t vs.toArray)(hb:IsTup s.heap b ws.toArray)(hv:vs≠ [])
  (h1:ws= []->Q (.ref t) s) (h2:ws≠ []->Q (.ref s.heap.objs.size) {s with heap:=s.heap.push {cls:= .type "tuple",data:= .seq (vs++ws).toArray}})
  (hsz:vs.length+ws.length<=sizeLine):wpAny (model prog w) A (binaryOp .Add (.ref t) (.ref b)) Q E s:=by
 obtain⟨⟨cls,dd,data,sl⟩,U,hc,n,hd⟩:=id ht;obtain⟨⟨ab,L,aa,M⟩,I,O,n2,R⟩:=id hb;simp only at hc hd O R;subst hc hd O R;have e:vs.toArray++ws.toArray=(vs++ws).toArray:=by simp
 by_cases Y:ws= []
 ·exact concat_meets ⟨_,U,rfl⟩ ⟨_,I,rfl⟩ noFill_tuple_add seq_tuple_add PySem.F.slot_tuple_add Uz (Us _ _)
   (tuple_addW1 t b vs.toArray ws.toArray n n2 dd L sl M (by simpa using hv) (by simp [Y])) ⟨U,I,h1 Y⟩
 ·refine concat_meets ⟨_,U,rfl⟩ ⟨_,I,rfl⟩ noFill_tuple_add seq_tuple_add PySem.F.slot_tuple_add Uz (Us _ _)
   (tuple_addW2 t b vs.toArray ws.toArray n n2 dd L sl M (by simpa using hv) (by simpa using Y) (by rw [ue,ue];exact hsz)) ⟨U,I,?_⟩
  rw [e];exact h2 Y
def sIx (n d:Nat):Option Int->Nat
 |none=>d
 |some v=>if v<0 then(v+(n:Int)).toNat else min v.toNat n
theorem sIx_none (n d:Nat):sIx n d none=d:=rfl
theorem sIx_nat (n d k:Nat):sIx n d (some (k:Int))=min k n:=by
 show(if(k:Int)<0 then((k:Int)+(n:Int)).toNat else min (k:Int).toNat n)=min k n
 rw [if_neg (by omega),Int.toNat_natCast]
theorem sIx_le (n d:Nat)(hd:d<=n)(o:Option Int):sIx n d o<=n:=by
 cases o with
 |none=>exact hd
 |some v=>
  show(if v<0 then(v+(n:Int)).toNat else min v.toNat n)<=n
  by_cases I:v<0
  ·rw [if_pos I];omega
  ·rw [if_neg I];exact Nat.min_le_right _ _
theorem clip_eq (v:Int)(n d:Nat):(if v<0 then max (v+(n:Int)) 0 else min v (n:Int))=((sIx n d (some v):Nat):Int):=by
 show(if v<0 then max (v+(n:Int)) 0 else min v (n:Int))=(((if v<0 then(v+(n:Int)).toNat else min v.toNat n):Nat):Int)
 by_cases I:v<0
 ·simp only [if_pos I];omega
 ·simp only [if_neg I];omega
theorem adjust_gen (lo hi:Option Int)(n:Nat):Builtin.Slice.sliceAdjust lo hi 1 (n:Int)=(((sIx n 0 lo:Nat):Int),((sIx n n hi:Nat):Int)):=by
 have h1:¬((1:Int)<0):=by omega
 unfold Builtin.Slice.sliceAdjust;simp only [h1,UH];refine Prod.ext ?_ ?_
 ·cases lo with
  |none=>rfl
  |some v=>exact clip_eq v n 0
 ·cases hi with
  |none=>rfl
  |some v=>exact clip_eq v n n
theorem places_gen (i j:Nat):Builtin.Slice.slicePlaces (i:Int) (j:Int) 1=j-i:=by
 unfold Builtin.Slice.slicePlaces;have h1:(1:Int)>0:=by omega
 simp only [h1,UK,Int.ediv_one];split<;>omega
theorem Za {v:Value}{o:Option Int}{Q:Option Int->Shared->Prop}(p:IsPart v o)(h:Q o s):wpAny (model prog w) A (Builtin.Slice.slicePartIndex v) Q E s:=by
 cases p with
 |none=>exact slicePart_none h
 |int i t=>exact slicePart_int h
theorem YE {sl:Addr}{M O:Value}{lo hi:Option Int}{n:Nat}{Q:Int×Int×Nat->Shared->Prop}(R:s.heap.IsSliceOf sl M O .none)(pl:IsPart M lo)(U:IsPart O hi)
  (h:Q (((sIx n 0 lo:Nat):Int),1,sIx n n hi-sIx n 0 lo) s):wpAny (model prog w) A (Builtin.Slice.sliceApplied (.ref sl) (pure (n:Int))) Q E s:=by
 obtain⟨os,I,Y,L⟩:=id R;unfold Builtin.Slice.sliceApplied Builtin.Slice.sliceFields;refine wpAny_bind (wpAny_bind (uS I L (x:=M) rfl (wpAny_bind (uS I L (x:=O) rfl (wpAny_bind (uS I L (x:= .none) rfl (uc ?_)))))));refine wpAny_bind (slicePart_none ?_);show wpAny _ _ (if((1:Int)==0)=true then _ else _) _ _ s
 rw [if_neg (by decide)]
 refine wpAny_bind (Za pl (wpAny_bind (Za U (wpAny_bind (uc ?_)))));show wpAny _ _ (match Builtin.Slice.sliceAdjust lo hi 1 (n:Int) with|(lo,hi)=>pure (lo,(1:Int),Builtin.Slice.slicePlaces lo hi 1)) _ _ s
 rw [adjust_gen lo hi n];show wpAny _ _ (pure (((sIx n 0 lo:Nat):Int),(1:Int),Builtin.Slice.slicePlaces ((sIx n 0 lo:Nat):Int) ((sIx n n hi:Nat):Int) 1)) _ _ s;rw [places_gen];exact uc h
theorem pick_gen (xs:Array Value)(i k:Nat):((List.range k).filterMap fun(m:Nat)=>xs[((i:Int)+(m:Int)*1).toNat]?).toArray=((xs.toList.drop i).take k).toArray:=by
 have e:(fun(m:Nat)=>xs[((i:Int)+(m:Int)*1).toNat]?)=fun m=>xs[i+m]? :=by
  funext m
  have:((i:Int)+(m:Int)*1).toNat=i+m:=by omega
  rw [this]
 rw [e];have:=pick_run xs i k;rw [List.filterMap_map] at this;have e2:((fun x=>xs[x]?)∘fun x=>i+x)=fun m=>xs[i+m]? :=rfl;rw [e2] at this;rw [this]
theorem getItem_tuple_cut {t sl:Addr}{items:Array Value}{Y vu:Value}{lo hi:Option Int}{Q:Value->Shared->Prop}(L:IsTup s.heap t items)(hs:s.heap.IsSliceOf sl Y vu .none)(pl:IsPart Y lo)(pu:IsPart vu hi)
  (hw:¬(sIx items.size 0 lo=0/\sIx items.size items.size hi=items.size))
  (h:Q (.ref s.heap.objs.size) {s with heap:=s.heap.push {cls:= .type "tuple",data:= .seq ((items.toList.drop (sIx items.size 0 lo)).take (sIx items.size items.size hi-sIx items.size 0 lo)).toArray}})
  (hsz:items.size<=sizeLine):wpAny (model prog w) A (getItem (.ref t) (.ref sl)) Q E s:=by
 have I:sizeOk (.seq ((items.toList.drop (sIx items.size 0 lo)).take (sIx items.size items.size hi-sIx items.size 0 lo)).toArray):=by
  show((items.toList.drop (sIx items.size 0 lo)).take (sIx items.size items.size hi-sIx items.size 0 lo)).toArray.size<=sizeLine;rw [ue,uz,uC,v4];omega
 have hj:sIx items.size items.size hi<=items.size:=sIx_le _ _ (ug _) hi;obtain⟨os,M,O,aa⟩:=id hs;have R:s.TypeIs (.ref sl) "slice":=⟨os,M,O⟩;unfold getItem
 try with_reducible refine wpAny_holding ?_
 first|refine wpAny_bind (uc ?_)|skip
 refine wpAny_bind (wpAny_sequenceKey L.typeIs (by decide) ?_)
 refine wpAny_bind (uX (name:=Str.ofString "__getitem__") L.typeIs uZ
  (vt uZ L.typeIs entry_tuple_getitem ?_ (args_tuple_getitem _ _)))
 show wpAny _ _ (Builtin.Tuple.tupleItemsOf (.ref t)>>=_) _ _ s;refine wpAny_bind (tupleItemsOf_ L ?_);refine wpAny_bind (wpAny_typeOf R ?_);rw [if_pos (by decide)]
 refine wpAny_bind (YE hs pl pu ?_);have U:¬((((sIx items.size 0 lo:Nat):Int)==0&&(1:Int)==1&&(sIx items.size items.size hi-sIx items.size 0 lo)==items.size)=true):=by
  intro q;rw [ui,ui] at q;have q1:((sIx items.size 0 lo:Nat):Int)=0:=eq_of_beq q.1.1;have q2:sIx items.size items.size hi-sIx items.size 0 lo=items.size:=eq_of_beq q.2;exact hw ⟨by omega,by omega⟩
 show wpAny _ _ (if(((sIx items.size 0 lo:Nat):Int)==0&&(1:Int)==1&&(sIx items.size items.size hi-sIx items.size 0 lo)==items.size)=true then _ else _) _ _ s
 rw [if_neg U,pick_gen]
 first
  |exact wpAny_bind (m:=Builtin.Tuple.tupleExact _) (uV (uc ⟨_,rfl,uc h⟩) I)
  |exact wpAny_bind (m:=Builtin.Tuple.tupleExact _) (uV (wpAny_bind (uc (uc ⟨_,rfl,uc h⟩))) I)
  |exact wpAny_bind (wpAny_bind (m:=Builtin.Tuple.tupleExact _) (uV (uc (uc ⟨_,rfl,uc h⟩)) I))
  |exact wpAny_bind (wpAny_bind (m:=Builtin.Tuple.tupleExact _) (uV (uc ⟨_,rfl,uc h⟩) I))
end
end HT
namespace L2
open PySem PySem.Spec PyProof.Rows
abbrev TO:=St->Hp->(Option Int->Hp->Prop)->Prop
def PO (X:Cx)(e:Option Expr)(t:TO):Prop:=
 ∀(pins:List (Addr×Obj)) (s:Shared) (σ:St) (H:Hp) (Q:Option Int->Hp->Prop),Inv X pins σ H s->t σ H Q->
  wpAny (model X.prog X.w) X.A (evalPart e X.env) (fun u s'=>∃o H',Inv X pins σ H' s'/\IsPart u o/\Q o H') X.xe s
def JN:TO:=fun _ H Q=>Q none H
def tPart (t:TE):TO:=fun σ H Q=>t σ H fun x H1=>∃i,x= .int i/\Q (some i) H1
theorem zB {ns:List Int}:∀{us:List Value},Vals (ns.map V.int) us->IntsAre us ns:=by
 induction ns with
 |nil=>intro us r;rw [vj] at r;cases r;exact .nil
 |cons n ns I=>
  intro us r;rw [uj] at r;cases r with
  |cons L M=>
   obtain⟨t,e⟩:=L;subst e;exact .cons n t (I M)
section
variable {X:Cx}{e:Expr}{te:TE}{lo hi:Option Expr}{tl th:TO}{pos p2:Pos}
theorem QJ:PO X none JN:=by
 intro pins s σ H Q I h;rw [evalPart_none];exact uc ⟨none,H,I,.none,h⟩
theorem QA (h:PE X e te):PO X (some e) (tPart te):=by
 intro pins s σ H Q I L;rw [evalPart_some];refine thn (h pins s σ H _ I L) fun u s1 ⟨x,H1,M,O,q1⟩=> ?_;obtain⟨i,rfl,q⟩:=q1;obtain⟨t,rfl⟩:=O;exact⟨some i,H1,M,.int i t,q⟩
def SlR (X:Cx)(r:V->Option Int->Option Int->Hp->VK->Prop):Prop:=
 ∀(pins:List (Addr×Obj)) (s:Shared) (σ:St) (H:Hp) (x:V) (v vl vu:Value) (lo hi:Option Int) (sl:Addr) (Q:VK),Inv X pins σ H s->RelV x v->s.heap.IsSliceOf sl vl vu .none->IsPart vl lo->IsPart vu hi->r x lo hi H Q->
  ∃T id,typeLookup (.type T) "__getitem__"=pure (some (.builtin id))/\s.TypeIs v T/\wpAny (model X.prog X.w) X.A (getItem v (.ref sl)) (EP X pins σ Q) X.xe s
theorem SlR.or {r L:V->Option Int->Option Int->Hp->VK->Prop}(h:SlR X r)(h':SlR X L):SlR X (fun x lo hi H Q=>r x lo hi H Q∨L x lo hi H Q):=by
 intro pins s σ H x v M O lo hi sl Q I R U pl Y q;rcases q with q|q
 ·exact h pins s σ H x v M O lo hi sl Q I R U pl Y q
 ·exact h' pins s σ H x v M O lo hi sl Q I R U pl Y q
def tSl (r:V->Option Int->Option Int->Hp->VK->Prop)(te:TE)(tl th:TO):TE:=fun σ H Q=>te σ H fun x H1=>tl σ H1 fun l H2=>th σ H2 fun u H3=>r x l u H3 Q
theorem Qn {r:V->Option Int->Option Int->Hp->VK->Prop}(U:SlR X r)(Y:PE X e te)(hl:PO X lo tl)(hu:PO X hi th):PE X (.Subscript e (.Slice lo hi none p2) pos) (tSl r te tl th):=by
 intro pins s σ H Q I h;refine Subscript_ (thn (Y pins s σ H _ I h) fun v s1 ⟨x,H1,I1,r1,q1⟩=> ?_);refine wpAny_Slice (thn (hl pins s1 σ H1 _ I1 q1) fun M s2 ⟨l,H2,I2,pl,q2⟩=>thn (hu pins s2 σ H2 _ I2 q2) fun O L ⟨u,R,I3,pu,q3⟩=> ?_);rw [evalPart_none];refine uc ?_;have I4:Inv X pins σ R {L with heap:=L.heap.push {cls:= .type "slice",data:= .fields #[M,O,.none]}}:=I3.kept (t':=L.toks) fun b ob q=>u3 _ q
 obtain⟨T,id,hT,ht,hg⟩:=U pins {L with heap:=L.heap.push {cls:= .type "slice",data:= .fields #[M,O,.none]}} σ R x v M O l u L.heap.objs.size Q I4 r1 (Heap.IsSliceOf.new ..) pl pu q3
 show wpAny (model X.prog X.w) X.A (subscriptTail e (.Slice lo hi none p2) v (.ref L.heap.objs.size)) (EP X pins σ Q) X.xe {L with heap:=L.heap.push {cls:= .type "slice",data:= .fields #[M,O,.none]}}
 exact tail_any (ops:= [.ref L.heap.objs.size,v]) ht hT hg (by with_unfolding_all rfl)
def cutV (xs:List V)(lo hi:Option Int):List V:=(xs.drop (HT.sIx xs.length 0 lo)).take (HT.sIx xs.length xs.length hi-HT.sIx xs.length 0 lo)
theorem XJ (xs:List V)(lo hi:Option Int):(cutV xs lo hi).length<=xs.length:=by
 unfold cutV;rw [uz,uC];omega
def rSlT (K:PySem.W.Frag):V->Option Int->Option Int->Hp->VK->Prop:=fun x lo hi H Q=>∃a xs,x= .ref a/\SqT K H a xs/\
 ¬(HT.sIx xs.length 0 lo=0/\HT.sIx xs.length xs.length hi=xs.length)/\∀p,H p=none->Q (.ref p) (upd H p (.tup (cutV xs lo hi)))
theorem sl_tup:SlR X (rSlT X.K):=by
 intro pins s σ H x v vl vu lo hi sl Q I R U pl Y h;obtain⟨a,xs,rfl,hx,hw,q⟩:=h;cases R;obtain⟨its,r,M,O⟩:=I.tuple hx;have L:its.toArray.size=xs.length:=by rw [ue];exact r.length.symm
 refine⟨"tuple",_,PyProof.Rows.slot_tuple_getitem.lookup,M.typeIs,?_⟩;refine HT.getItem_tuple_cut M U pl Y (by rw [L];exact hw) ?_ (by rw [L];exact O)
 rw [L];refine⟨.ref s.heap.objs.size,_,I.laid (t':=s.toks) (o:= .tup (cutV xs lo hi)) (fun b ob q=>u3 _ q) (ug _) ?_,rfl,q _ (I.hok.fresh (ug _))⟩;exact⟨uP (XJ xs lo hi) O,_,(r.drop (HT.sIx xs.length 0 lo)).take (HT.sIx xs.length xs.length hi-HT.sIx xs.length 0 lo),IsTup.new _ _⟩
def rCatT (K:PySem.W.Frag):R2:=fun x y H Q=>∃a b xs ys,x= .ref a/\y= .ref b/\SqT K H a xs/\SqT K H b ys/\xs≠ []/\xs.length+ys.length<=sizeLine/\
 (ys= []->Q (.ref a) H)/\(ys≠ []->∀p,H p=none->Q (.ref p) (upd H p (.tup (xs++ys))))
theorem Vals.nil_iff {xs:List V}{us:List Value}(r:Vals xs us):us= []↔xs= []:=by
 cases r with
 |nil=>simp
 |cons _ _=>simp
theorem op_catT:OpR X (binaryOp .Add) (rCatT X.K):=by
 intro pins s σ H x y v u Q I U Y h;obtain⟨a,b,xs,ys,rfl,rfl,ha,hb,hx,O,q1,q2⟩:=h;cases U;cases Y;obtain⟨its,M,p1,_⟩:=I.tuple ha;obtain⟨R,L,p2,_⟩:=I.tuple hb;refine HT.cat_tup p1 p2 (fun z=>hx (M.nil_iff.mp z)) (fun z=>⟨.ref a,H,I,rfl,q1 (L.nil_iff.mp z)⟩) (fun z=> ?_) (by rw [<-M.length,<-L.length];exact O)
 refine⟨.ref s.heap.objs.size,_,I.laid (t':=s.toks) (o:= .tup (xs++ys)) (fun b ob q=>u3 _ q) (ug _) ?_,rfl,q2 (fun w=>z (L.nil_iff.mpr w)) _ (I.hok.fresh (ug _))⟩;exact⟨by rw [uf];exact O,_,M.append L,IsTup.new _ _⟩
end
def ixN (n:Nat)(i:Int):Option Nat:=if 0<=i then(if i<n then some i.toNat else none) else if-(n:Int)<=i then some (i+n).toNat else none
def atI {α:Type}(xs:List α)(i:Int):Option α:=(ixN xs.length i).bind fun j=>xs[j]?
theorem ixN_seq {n:Nat}{i:Int}{j:Nat}(h:ixN n i=some j):seqIndex? i n=some j/\j<n/\ -(n:Int)<=i/\i<n:=by
 unfold ixN at h;by_cases I:0<=i
 ·rw [if_pos I] at h;by_cases h1:i<n
  ·rw [if_pos h1] at h;have e:i.toNat=j:=uQ h;exact⟨by rw [seqIndex_of I h1,e],by omega,by omega,h1⟩
  ·rw [if_neg h1] at h;cases h
 ·rw [if_neg I] at h;by_cases h1: -(n:Int)<=i
  ·rw [if_pos h1] at h;have e:(i+n).toNat=j:=uQ h;exact⟨by rw [seqIndex_neg (by omega) h1,e],by omega,h1,by omega⟩
  ·rw [if_neg h1] at h;cases h
theorem ZI {α:Type}{xs:List α}{i:Int}{v:α}(h:atI xs i=some v):∃j,seqIndex? i xs.length=some j/\xs[j]? =some v/\j<xs.length/\ -(xs.length:Int)<=i/\i<xs.length:=by
 unfold atI at h;cases e:ixN xs.length i with
 |none=>rw [e] at h;cases h
 |some j=>
  rw [e] at h;obtain⟨h1,h2,I,h4⟩:=ixN_seq e;exact⟨j,h1,h,h2,I,h4⟩
theorem qS {α:Type}{xs:List α}{j:Nat}{v:α}(h:xs[j]? =some v):atI xs (j:Int)=some v:=by
 have I:j<xs.length:=(List.getElem?_eq_some_iff.mp h).1;have e:ixN xs.length (j:Int)=some j:=by
  unfold ixN;rw [if_pos (by omega),if_pos (by omega)];simp
 unfold atI;rw [e];exact h
theorem Zl {α:Type}(xs:List α)(v:α):atI (xs++ [v]) (-1)=some v:=by
 have I:(xs++ [v]).length=xs.length+1:=by simp
 have e:ixN (xs++ [v]).length (-1)=some xs.length:=by
  unfold ixN;rw [I,if_neg (by decide),if_pos (by omega)]
  congr 1
  omega
 unfold atI;rw [e];show(xs++ [v])[xs.length]? =some v;simp
def PlainIx (b:Expr):Prop:=∀o i,subscripted b false o i=operate [o,i] (getItem o i)
def IxR (X:Cx)(r:R2):Prop:=
 ∀(value slice:Expr) (pins:List (Addr×Obj)) (s:Shared) (σ:St) (H:Hp) (x y:V) (v u:Value) (Q:VK),Inv X pins σ H s->RelV x v->RelV y u->r x y H Q->
  subscripted slice false v u=operate [v,u] (getItem v u)->wpAny (model X.prog X.w) X.A (subscriptTail value slice v u) (EP X pins σ Q) X.xe s
def MtR (X:Cx)(id:String)(r:V->List V->Hp->VK->Prop):Prop:=
 ∀(pins:List (Addr×Obj)) (s:Shared) (σ:St) (H:Hp) (x:V) (xs:List V) (v:Value) (us:List Value) (Q:VK),Inv X pins σ H s->RelV x v->Vals xs us->r x xs H Q->
  wpAny (model X.prog X.w) X.A (call (.builtin id) (v::us)) (EP X pins σ Q) X.xe s
section
variable {X:Cx}{a b:Expr}{ta tb:TE}{pos:Pos}
theorem IxR.or {r M:R2}(h:IxR X r)(h':IxR X M):IxR X (fun x y H Q=>r x y H Q∨M x y H Q):=by
 intro value L pins s σ H x y v u Q I O R q U;rcases q with q|q
 ·exact h value L pins s σ H x y v u Q I O R q U
 ·exact h' value L pins s σ H x y v u Q I O R q U
theorem qF {r:R2}(L:IxR X r)(ha:PE X a ta)(M:PE X b tb)(O:PlainIx b):PE X (.Subscript a b pos) (tOp r ta tb):=by
 intro pins s σ H Q I h;exact Subscript_ (binT ha M I h fun v u s2 x y H2 R U Y q=>L a b pins s2 σ H2 x y v u Q R U Y q (O _ _))
def rIxL (K:PySem.W.Frag):R2:=fun x y H Q=>∃p xs i v,x= .ref p/\y= .int i/\SqL K H p xs/\atI xs i=some v/\Q v H
def rIxT (K:PySem.W.Frag):R2:=fun x y H Q=>∃p xs i v,x= .ref p/\y= .int i/\SqT K H p xs/\atI xs i=some v/\Q v H
def rIxS:R2:=fun x y H Q=>∃z i c,x= .str z/\y= .int i/\z.length<=sizeLine/\atI z.cps.toList i=some c/\Q (.str ⟨#[c]⟩) H
theorem qO:IxR X (rIxL X.K):=by
 intro value M pins s σ H x y v u Q I rx ry h U;obtain⟨p,xs,i,z,rfl,rfl,hq,he,q⟩:=h;cases rx;obtain⟨t,rfl⟩:=ry;obtain⟨its,r,pl,hz⟩:=I.list hq;obtain⟨j,h1,h2,h3,h4,h5⟩:=ZI he;obtain⟨w,ew,O⟩:=r.get h2;have hl:=r.length;have hn:=xq;have L:EP X pins σ Q w s:=⟨z,H,I,O,q⟩;by_cases Y:0<=i
 ·have R:i.toNat=j:=by
   rw [seqIndex_of Y h5] at h1;exact uQ h1
  exact item_listR pl.isList Y (by omega) (by rw [R];simpa using ew) L U
 ·have R:(i+(its.toArray.size:Int)).toNat=j:=by
   rw [seqIndex_neg (by omega) h4] at h1
   rw [ue,<-hl];exact uQ h1
  exact subscriptTail_builtinR (x:=w) pl.isList.typeIs slot_list_getitem.lookup
   (wpAny_getItem_list_neg (Q:=fun r s'=>r=w/\EP X pins σ Q r s') pl.isList (by omega) (by rw [ue]<;>omega) (by omega) (by rw [R];simpa using ew) ⟨rfl,L⟩) U
theorem qR:IxR X (rIxT X.K):=by
 intro value L pins s σ H x y v u Q I R U h Y;obtain⟨p,xs,i,z,rfl,rfl,hq,he,q⟩:=h;cases R;obtain⟨t,rfl⟩:=U;obtain⟨its,r,pl,hz⟩:=I.tuple hq;obtain⟨j,h1,h2,h3,h4,h5⟩:=ZI he;obtain⟨w,ew,M⟩:=r.get h2;have hl:=r.length;have hn:=xq;have O:EP X pins σ Q w s:=⟨z,H,I,M,q⟩;exact subscriptTail_builtinR (x:=w) pl.typeIs slot_tuple_getitem.lookup
  (getItem_tuple (j:=j) (Q:=fun r s'=>r=w/\EP X pins σ Q r s') pl (by omega) (by omega) (by rw [ue,<-hl];exact h1) (by simpa using ew) ⟨rfl,O⟩) Y
theorem ix_str:IxR X rIxS:=by
 intro value L pins s σ H x y v u Q I M O h R;obtain⟨z,i,c,rfl,rfl,hz,U,q⟩:=h;obtain⟨t,rfl⟩:=M;obtain⟨t',rfl⟩:=O;obtain⟨j,h1,h2,h3,h4,Y⟩:=ZI U;have hl:z.cps.toList.length=z.length:=by simp [Str.length]
 rw [hl] at h1 h4 Y;have hn:=xq;exact tail_any (vK s z t) slot_str_getitem.lookup (getItem_str (c:=c) (by
  have e1:decide (i< -(2^63:Int))=false:=u9 (by omega)
  have e2:decide (i≥2^63)=false:=u9 (by omega)
  rw [e1,e2,Bool.or_false]) (by rw [h1];simpa using h2) ⟨.str ⟨#[c]⟩,H,I.tok _,⟨_,rfl⟩,q⟩) R
def rIx (K:PySem.W.Frag):R2:=fun x y H Q=>rIxL K x y H Q∨rIxT K x y H Q∨rIxS x y H Q
theorem Y8:IxR X (rIx X.K):=qO.or (qR.or ix_str)
theorem mapSeq_set (its:List Value)(n j:Nat)(u:Value):Obj.mapSeq (·.setIfInBounds j u) {cls:= .type "list",data:= .seq its.toArray n}={cls:= .type "list",data:= .seq (its.set j u).toArray n}:=by
 simp [Obj.mapSeq]
theorem Inv.lst {pins:List (Addr×Obj)}{σ:St}{H:Hp}{s:Shared}{p:Addr}{xs:List V}(I:Inv X pins σ H s)(h:H p=some (.lst xs)):
  ∃(its:List Value) (n:Nat),Vals xs its/\s.heap.get? p=some {cls:= .type "list",data:= .seq its.toArray n}/\xs.length<=sizeLine:=by
 obtain⟨z,its,n,r,e⟩:=I.hok p _ h;exact⟨its,n,r,e,z⟩
theorem Inv.lstUpd {pins:List (Addr×Obj)}{σ:St}{H:Hp}{s:Shared}{p:Addr}{xs ys:List V}{its its':List Value}{n L:Nat}{f:Obj->Obj}(I:Inv X pins σ H s)(h:H p=some (.lst xs))
  (O:s.heap.get? p=some {cls:= .type "list",data:= .seq its.toArray n}) (M:f {cls:= .type "list",data:= .seq its.toArray n}={cls:= .type "list",data:= .seq its'.toArray L}) (r:Vals ys its') (R:ys.length<=sizeLine) (t:Nat) (Y:0<t:=by ac_rfl):
  Inv X pins σ (upd H p (.lst ys)) {s with heap:=s.heap.update p f,toks:=t}:=by
 have e:(s.heap.update p f).get? p=some {cls:= .type "list",data:= .seq its'.toArray L}:=by
  rw [Heap.get?_update_self f O (by rw [M]<;>rfl),M]
 refine I.write (x:=p) (e:=p) (by rw [h];trivial) (.inl rfl) (fun b u U q=>(Heap.get?_update_other _ _ (U9 U)).trans q) ⟨_,e⟩ ?_
 exact⟨R,its',L,r,e⟩
def rSetL:V->V->V->Hp->(Hp->Prop)->Prop:=fun o i v H Q=>∃p xs k j,o= .ref p/\i= .int k/\H p=some (.lst xs)/\ixN xs.length k=some j/\Q (upd H p (.lst (xs.set j v)))
theorem set_list:PSet X rSetL:=by
 intro pins s σ H o i v ov iv u Q I ro ri rv h;obtain⟨p,xs,k,j,rfl,rfl,R,hj,q⟩:=h;cases ro;obtain⟨t,rfl⟩:=ri;obtain⟨its,n,r,L,hz⟩:=I.lst R;obtain⟨h1,h2,U,h4⟩:=ixN_seq hj;have M:=r.length;have hn:=xq;have Y:Inv X pins σ (upd H p (.lst (xs.set j v))) {s with heap:=s.heap.update p (Obj.mapSeq (·.setIfInBounds j u))}:=
  I.lstUpd R L (mapSeq_set its n j u) (r.set rv j) (by rw [List.length_set];exact hz) s.toks
 by_cases h0:0<=k
 ·have O:k.toNat=j:=by
   rw [seqIndex_of h0 h4] at h1;exact uQ h1
  exact PySem.W.ki_setAt L h0 (by omega) (by rw [ue,<-M];exact h4) (by rw [O];exact⟨_,Y,q⟩)
 ·have O:(k+(its.toArray.size:Int)).toNat=j:=by
   rw [seqIndex_neg (by omega) U] at h1
   rw [ue,<-M];exact uQ h1
  exact PySem.W.ki_setBack L (by omega) (by rw [ue,<-M];exact U) (by omega) (by rw [O];exact⟨_,Y,q⟩)
theorem slice_bounds (lo hi:Option Int)(n:Nat):(sliceBounds lo hi none n).1=((HT.sIx n 0 lo:Nat):Int)/\(sliceBounds lo hi none n).2.1=((HT.sIx n n hi:Nat):Int)/\(sliceBounds lo hi none n).2.2=1:=by
 refine⟨?_,?_,rfl⟩
 ·cases lo with
  |none=>simp [sliceBounds,HT.sIx]
  |some i=>
   simp only [sliceBounds,HT.sIx,Option.getD_none,show(1:Int)>0 by decide,UK]
   by_cases h:i<0
   ·simp only [h,UK]<;>omega
   ·simp only [h,UH]<;>omega
 ·cases hi with
  |none=>simp [sliceBounds,HT.sIx]
  |some i=>
   simp only [sliceBounds,HT.sIx,Option.getD_none,show(1:Int)>0 by decide,UK]
   by_cases h:i<0
   ·simp only [h,UK]<;>omega
   ·simp only [h,UH]<;>omega
theorem ZK (its:List Value)(lo hi:Option Int):slicePick its.toArray lo hi none=((its.drop (HT.sIx its.length 0 lo)).take (HT.sIx its.length its.length hi-HT.sIx its.length 0 lo)).toArray:=by
 obtain⟨h1,h2,I⟩:=slice_bounds lo hi its.toArray.size;unfold slicePick;rw [h1,h2,I];simp only [sliceRange_one,pick_run,ue]<;>rfl
def rSlL (K:PySem.W.Frag):V->Option Int->Option Int->Hp->VK->Prop:=fun x lo hi H Q=>∃a xs,x= .ref a/\SqL K H a xs/\∀p,H p=none->Q (.ref p) (upd H p (.lst (cutV xs lo hi)))
theorem sl_list:SlR X (rSlL X.K):=by
 intro pins s σ H x v vl vu lo hi sl Q I O R pl U h;obtain⟨a,xs,rfl,Y,q⟩:=h;cases O;obtain⟨its,r,M,hz⟩:=I.list Y;have L:=r.length;refine⟨"list",_,slot_list_getitem.lookup,M.isList.typeIs,?_⟩;refine wpAny_getItem_list_slice M.isList R pl U .none (by simp) ?_ (by rw [ue]<;>omega)
 rw [ZK,<-L];refine⟨.ref s.heap.objs.size,_,I.laid (t':=s.toks) (o:= .lst (cutV xs lo hi)) (fun b ob q=>u3 _ q) (ug _) ?_,rfl,q _ (I.hok.fresh (ug _))⟩;exact⟨uP (XJ xs lo hi) hz,_,0,(r.drop (HT.sIx xs.length 0 lo)).take (HT.sIx xs.length xs.length hi-HT.sIx xs.length 0 lo),uw _ rfl⟩
def xy:V->Bool
 | .non=>true
 | .bl _=>true
 | .int _=>true
 | .str _=>true
 |_=>false
noncomputable def eqV:V->V->Bool
 | .non,.non=>true
 | .bl a,.bl b=>a==b
 | .bl a,.int b=>(if a then 1 else 0)==b
 | .int a,.bl b=>a==(if b then 1 else 0)
 | .int a,.int b=>a==b
 | .str a,.str b=>a==b
 |_,_=>false
theorem eqAt_V {A:Around}{s:Shared}{y x:V}{u v:Value}(L:RelV y u)(I:RelV x v)(O:xy y=true)(M:xy x=true):SeqAt.EqAt A s u v (eqV y x):=by
 cases y with
 |non=>
  cases L;cases x with
  |non=>cases I;exact SeqAt.EqAt.same _
  |bl b=>cases I;exact SeqAt.EqAt.none_bool b
  |int b=>obtain⟨t,rfl⟩:=I;exact SeqAt.EqAt.none_int b t
  |str b=>obtain⟨t,rfl⟩:=I;exact SeqAt.EqAt.none_str b t
  |_=>exact absurd (show false=true from M) u8
 |bl a=>
  cases L;cases x with
  |non=>cases I;exact SeqAt.EqAt.bool_none a
  |bl b=>cases I;exact SeqAt.EqAt.bool_bool a b
  |int b=>obtain⟨t,rfl⟩:=I;exact SeqAt.EqAt.bool_int a b t
  |str b=>obtain⟨t,rfl⟩:=I;exact SeqAt.EqAt.bool_str a b t
  |_=>exact absurd (show false=true from M) u8
 |int a=>
  obtain⟨t',rfl⟩:=L;cases x with
  |non=>cases I;exact SeqAt.EqAt.int_none a t'
  |bl b=>cases I;exact SeqAt.EqAt.int_bool a t' b
  |int b=>obtain⟨t,rfl⟩:=I;exact SeqAt.EqAt.int_int a t' b t
  |str b=>obtain⟨t,rfl⟩:=I;exact Uw a t' b t
  |_=>exact absurd (show false=true from M) u8
 |str a=>
  obtain⟨t',rfl⟩:=L;cases x with
  |non=>cases I;exact SeqAt.EqAt.str_none a t'
  |bl b=>cases I;exact SeqAt.EqAt.str_bool a t' b
  |int b=>obtain⟨t,rfl⟩:=I;exact Ux a t' b t
  |str b=>obtain⟨t,rfl⟩:=I;exact SeqAt.EqAt.str_str a t' b t
  |_=>exact absurd (show false=true from M) u8
 |_=>exact absurd (show false=true from O) u8
noncomputable def eqU (x:V)(u:Value):Bool:=match u with
 | .none=>eqV .non x
 | .bool b=>eqV (.bl b) x
 | .int i _=>eqV (.int i) x
 | .str z _=>eqV (.str z) x
 |_=>false
theorem eqU_of {x y:V}{u:Value}(r:RelV y u)(f:xy y=true):eqU x u=eqV y x:=by
 cases y with
 |non=>cases r;rfl
 |bl b=>cases r;rfl
 |int i=>obtain⟨t,rfl⟩:=r;rfl
 |str z=>obtain⟨t,rfl⟩:=r;rfl
 |_=>exact absurd (show false=true from f) u8
theorem any_eqU {x:V}:∀{xs:List V}{us:List Value},Vals xs us->xs.all xy=true->us.any (eqU x)=xs.any fun y=>eqV y x
 |_,_,.nil,_=>rfl
 |y::xs,u::us,.cons r t,f=>by
  rw [vm,ui] at f;rw [Ui,Ui,eqU_of r f.1,any_eqU t f.2]
theorem Zu {A:Around}{s:Shared}{x:V}{v:Value}(L:RelV x v)(M:xy x=true):∀{xs:List V}{us:List Value},Vals xs us->xs.all xy=true->∀u∈us,SeqAt.EqAt A s u v (eqU x u)
 |_,_,.nil,_=>fun u I=>by cases I
 |y::xs,u::us,.cons r t,f=>fun O I=>by
  rw [vm,ui] at f;rcases List.mem_cons.mp I with rfl|I
  ·rw [eqU_of r f.1];exact eqAt_V r L f.1 M
  ·exact Zu L M t f.2 O I
def inV (x:V)(xs:List V):Bool:=xs.any fun y=>eqV y x
def rIn (K:PySem.W.Frag)(neg:Bool):R2:=fun x y H Q=>∃p xs,y= .ref p/\(SqL K H p xs∨SqT K H p xs)/\xy x=true/\xs.all xy=true/\Q (.bl (if neg then !inV x xs else inV x xs)) H
theorem Qr:OpR X (compareOp .In) (rIn X.K false):=by
 intro pins s σ H x y v u Q I O U h;obtain⟨p,xs,rfl,L,R,fs,q⟩:=h;cases U;rcases L with L|L
 ·obtain⟨its,r,pl,Y⟩:=I.list L;refine SeqAt.in_listAt (eqU x) pl.isList (fun w M=>Zu O R r fs w (by simpa using M)) ⟨.bl _,H,I,rfl,?_⟩
  rw [show its.toArray.any (eqU x)=its.any (eqU x) by simp,any_eqU r fs]
  exact q
 ·obtain⟨its,r,pl,Y⟩:=I.tuple L;refine SeqAt.in_tupleAt (eqU x) pl (fun w M=>Zu O R r fs w (by simpa using M)) ⟨.bl _,H,I,rfl,?_⟩
  rw [show its.toArray.any (eqU x)=its.any (eqU x) by simp,any_eqU r fs]
  exact q
theorem xm:OpR X (compareOp .NotIn) (fun x y H Q=>∃i j,x= .str i/\y= .str j/\Q (.bl (!(!(Builtin.Str.occurrences j i 0 j.length 1).isEmpty))) H):=by
 intro pins s σ H x y v u Q I L M h;obtain⟨i,j,rfl,rfl,q⟩:=h;obtain⟨t,rfl⟩:=L;obtain⟨t',rfl⟩:=M;exact notIn_str ⟨.bl _,H,I,rfl,q⟩
theorem qE:yX X (.builtin "len") (fun xs H Q=>∃p ys,xs= [.ref p]/\(SqL X.K H p ys∨SqT X.K H p ys)/\Q (.int ys.length) H):=by
 intro pins s σ H xs us Q I r h;obtain⟨p,ys,rfl,M,q⟩:=h;obtain⟨u,rfl,R⟩:=Jd r;cases R;have hn:=xq;rcases M with M|M
 ·obtain⟨its,O,pl,U⟩:=I.list M;have L:=O.length;exact Calls.call_len_list pl.isList (by simp only [ue]<;>omega) ⟨.int ys.length,H,I.tok _,⟨s.toks+1,by rw [ue,L]⟩,q⟩
 ·obtain⟨its,O,pl,U⟩:=I.tuple M;have L:=O.length;exact len_tuple pl (by simp only [ue]<;>omega) ⟨.int ys.length,H,I.tok _,⟨s.toks+1,by rw [ue,L]⟩,q⟩
theorem Y3:yX X (.builtin "len") (fun xs H Q=>∃z,xs= [.str z]/\z.length<=sizeLine/\Q (.int z.length) H):=by
 intro pins s σ H xs us Q I r h;obtain⟨z,rfl,L,q⟩:=h;obtain⟨u,rfl,t,rfl⟩:=Jd r;have hn:=xq;exact len_str (by omega) ⟨.int z.length,H,I.tok _,⟨_,rfl⟩,q⟩
theorem qL:yX X (.type "tuple") (fun xs H Q=>∃p ys,xs= [.ref p]/\((SqL X.K H p ys/\∀l,H l=none->Q (.ref l) (upd H l (.tup ys)))∨(SqT X.K H p ys/\Q (.ref p) H))):=by
 intro pins s σ H xs us Q I r h;obtain⟨p,ys,rfl,h⟩:=h;obtain⟨u,rfl,Y⟩:=Jd r;cases Y;rcases h with⟨L,q⟩|⟨L,q⟩
 ·obtain⟨its,M,pl,O⟩:=I.list L;have R:=M.length;refine call_tuple_list pl.isList (fun h' kp=> ?_) (by simp only [ue]<;>omega)
  have U:Inv X pins σ H {s with heap:=h'}:=I.kept (t':=s.toks) kp
  have I2:Inv X pins σ (upd H h'.objs.size (.tup ys)) {s with heap:=h'.push {cls:= .type "tuple",data:= .seq its.toArray}}:=
   U.laid (t':=s.toks) (fun b o e=>u3 _ e) (ug _) (show QM X.prog X.w _ _ _ (.tup ys) from⟨O,its,M,IsTup.new _ _⟩)
  exact⟨.ref h'.objs.size,_,I2,rfl,q _ (U.hok.fresh (ug _))⟩
 ·obtain⟨its,M,pl,O⟩:=I.tuple L;exact call_tuple_same pl ⟨.ref p,H,I,rfl,q⟩
def tyV (K:PySem.W.Frag)(T:String)(x:V)(H:Hp):Prop:=match x with
 | .str _=>T="str"
 | .int _=>T="int"
 | .ref p=>(T="list"/\∃xs,SqL K H p xs)∨(T="tuple"/\∃o,K.lookup p=some o/\o.cls= .type "tuple"/\o.dict=none)∨
   (T="dict"/\((∃kvs,H p=some (.dK kvs))∨∃kvs,H p=some (.dT kvs)))∨(T="set"/\∃S n,H p=some (.set S n))
 |_=>False
theorem tyV_is {pins:List (Addr×Obj)}{σ:St}{H:Hp}{s:Shared}{T:String}{x:V}{v:Value}(I:Inv X pins σ H s)(r:RelV x v)(ty:tyV X.K T x H):
  s.TypeIs v T/\∀a,v= .ref a->∃ob,s.heap.get? a=some ob/\ob.dict=none:=by
 cases x with
 |str z=>
  obtain⟨t,rfl⟩:=r;cases(show T="str" from ty)
  exact⟨vK s z t,fun _ e=>nomatch e⟩
 |int i=>
  obtain⟨t,rfl⟩:=r;cases(show T="int" from ty)
  exact⟨typeIs_int s i t,fun _ e=>nomatch e⟩
 |ref p=>
  cases r;rcases ty with⟨rfl,xs,M⟩|⟨rfl,o,L,O,hd⟩|⟨rfl,L⟩|⟨rfl,S,n,L⟩
  ·obtain⟨its,_,pl,_⟩:=I.list M;refine⟨pl.isList.typeIs,fun a e=> ?_⟩;cases e;obtain⟨o,n,e,c,hd,_⟩:=pl;exact⟨o,e,hd⟩
  ·refine⟨⟨o,I.kIn p o L,O⟩,fun a e=> ?_⟩;cases e;exact⟨o,I.kIn _ o L,hd⟩
  ·have z:∃o,s.heap.get? p=some o/\o.ExactDict:=by
    rcases L with⟨kvs,L⟩|⟨kvs,L⟩
    ·obtain⟨_,_,_,_,o,_,_,e,ex,_⟩:=I.hok p _ L;exact⟨o,e,ex⟩
    ·obtain⟨_,_,_,_,o,_,_,e,ex,_⟩:=I.hok p _ L;exact⟨o,e,ex⟩
   obtain⟨o,e,ex⟩:=z;refine⟨⟨o,e,ex.1⟩,fun a e2=> ?_⟩;cases e2;exact⟨o,e,ex.2.1⟩
  ·obtain⟨o,_,_,_,e,ex,_⟩:=I.hok p _ L;refine⟨⟨o,e,ex.1⟩,fun a e2=> ?_⟩;cases e2;exact⟨o,e,ex.2.1⟩
 |_=>exact False.elim ty
def tBM0 (K:PySem.W.Frag)(T:String)(r:V->List V->Hp->VK->Prop)(to:TE):TE:=fun σ H Q=>to σ H fun x H1=>tyV K T x H1/\r x [] H1 Q
def tBM (K:PySem.W.Frag)(T:String)(r:V->List V->Hp->VK->Prop)(to:TE)(t:TA):TE:=fun σ H Q=>to σ H fun x H1=>tyV K T x H1/\t σ H1 fun xs H2=>r x xs H2 Q
variable {o e:Expr}{es:List Expr}{to:TE}{t:TA}{name:Str}{apos cpos:Pos}{T id:String}{r:V->List V->Hp->VK->Prop}
theorem pe_bm0 (Y:PlainAttrs T)(slot:Slot T name id)(O:typeOf (.builtin id)=pure (.type "method_descriptor"))(hm:MtR X id r)(ho:PE X o to)
  (L:attributeBase o name X.env (eval o X.env)=eval o X.env:=by rfl) (M:(apos.endLine==cpos.line)=true:=by rfl):PE X (.Call (.Attribute o name apos) [] [] cpos) (tBM0 X.K T r to):=by
 intro pins s σ H Q I h;refine wpAny_Call_method0_late L M (thn (ho pins s σ H _ I h) fun v s1 ⟨x,H1,R,U,ty,q1⟩=> ?_);obtain⟨h1,h2⟩:=tyV_is R U ty;exact⟨T,id,Y,slot,O,h1,h2,Calls.callWith_builtin rfl (PySem.evalArgs_none (hm pins s1 σ H1 x [] v [] Q R U .nil q1))⟩
theorem Yj (pa:PlainAttrs T)(slot:Slot T name id)(U:typeOf (.builtin id)=pure (.type "method_descriptor"))(hm:MtR X id r)(ho:PE X o to)(ha:PA X (e::es) t)
  (M:attributeBase o name X.env (eval o X.env)=eval o X.env:=by rfl)
  (R:((backTo cpos (starEach (e::es) X.env)).all (fun x=> !x.1)&&(backToKw cpos (keywordEach [] X.env)).all (fun x=>x.1.isSome)
   &&decide ((e::es).length+([]:List Keyword).length+(if([]:List Keyword).isEmpty then 0 else 1)<30))=true:=by rfl)
  (O:(apos.endLine==cpos.line)=true:=by rfl) (hs:starEach (e::es) X.env=(false,eval e X.env)::starEach es X.env:=by rfl) (L:(backTo cpos (starEach es X.env)).any (·.1)=false:=by rfl):
  PE X (.Call (.Attribute o name apos) (e::es) [] cpos) (tBM X.K T r to t):=by
 intro pins s σ H Q I h;refine wpAny_Call_method_late M R O rfl (thn (ho pins s σ H _ I h) fun v s1 ⟨x,H1,Y,r1,ty,q1⟩=> ?_);obtain⟨h1,h2⟩:=tyV_is Y r1 ty;refine⟨T,id,pa,slot,U,h1,h2,?_⟩;have hA:=ha cpos pins s1 σ H1 _ Y q1;rw [hs] at hA⊢;refine Calls.callWith_builtin (by show(false||(backTo cpos (starEach es X.env)).any (·.1))=false;rw [L]<;>rfl) (Calls.evalArgs_plain ?_)
 exact thn hA fun us s2 ⟨vs,H2,I2,r2,q2⟩=>hm pins s2 σ H2 x vs v us Q I2 r1 r2 q2
end
def MtM (X:Cx)(id:String)(r:V->List V->Hp->VK->Prop):Prop:=
 ∀(pins:List (Addr×Obj)) (s:Shared) (σ:St) (H:Hp) (x:V) (xs:List V) (v:Value) (us:List Value) (Q:VK),Inv X pins σ H s->RelV x v->Vals xs us->r x xs H Q->
  wpAny (model X.prog X.w) X.A (call (.builtin id) (v::us)) (EP X pins σ Q) X.xe s
theorem Vals.one:∀{x:V}{us:List Value},Vals [x] us->∃u,us= [u]/\RelV x u
 |_,_,.cons r .nil=>⟨_,rfl,r⟩
theorem Vals.zero:∀{us:List Value},Vals [] us->us= []
 |_,.nil=>rfl
theorem Vals.dropLast {xs:List V}{us:List Value}(h:Vals xs us):Vals xs.dropLast us.dropLast:=by
 induction h with
 |nil=>exact .nil
 |cons r t I=>
  cases t with
  |nil=>exact .nil
  |cons q t'=>exact .cons r I
theorem erase_last {α:Type}(l:List α):l.eraseIdx (l.length-1)=l.dropLast:=by
 induction l with
 |nil=>rfl
 |cons a r I=>
  cases r with
  |nil=>rfl
  |cons b r=>
   have e:(a::b::r).length-1=((b::r).length-1)+1:=by
    have h1:(a::b::r).length=r.length+2:=rfl;have h2:(b::r).length=r.length+1:=rfl;omega
   rw [e,List.eraseIdx_cons_succ,I]
   all_goals rfl
section
variable {X:Cx}{pins:List (Addr×Obj)}{σ:St}{H:Hp}{s:Shared}{l b:Addr}{xs ys zs:List V}
theorem Inv.lset {its its':List Value}{n:Nat}{f:Array Value->Array Value}{t':Nat}(I:Inv X pins σ H s)(L:H l=some (.lst xs))
  (e:s.heap.get? l=some {cls:= .type "list",data:= .seq its.toArray n}) (M:f its.toArray=its'.toArray) (O:Vals ys its') (R:ys.length<=sizeLine) (ht:0<t':=by ac_rfl):
  Inv X pins σ (upd H l (.lst ys)) {s with heap:=s.heap.update l (Obj.mapSeq f),toks:=t'}:=by
 have q:=PySem.IsL.update e f;rw [M] at q;refine I.write (x:=l) (e:=l) (by rw [L];exact trivial) (.inl rfl) (fun b' u U Y=>(Heap.get?_update_other s.heap (Obj.mapSeq f) (U9 U)).trans Y) ⟨_,q⟩ ?_
 exact⟨R,its',_,O,q⟩
theorem Inv.lnew {its:List Value}{t':Nat}(I:Inv X pins σ H s)(L:Vals ys its)(M:ys.length<=sizeLine)(O:0<t':=by ac_rfl):
  Inv X pins σ (upd H s.heap.objs.size (.lst ys)) {s with heap:=s.heap.push {cls:= .type "list",data:= .seq its.toArray},toks:=t'}:=
 I.laid (fun _ _ q=>u3 _ q) (ug _) ⟨M,its,0,L,uw _ rfl⟩
theorem Inv.fresh (I:Inv X pins σ H s):H s.heap.objs.size=none:=I.hok.fresh (ug _)
theorem Inv.lstM (I:Inv X pins σ H s)(L:H l=some (.lst xs)):xs.length<=sizeLine/\∃(its:List Value) (n:Nat),Vals xs its/\xs.length=its.length/\s.heap.get? l=some {cls:= .type "list",data:= .seq its.toArray n}:=by
 obtain⟨z,its,n,r,e⟩:=I.hok l _ L;exact⟨z,its,n,r,r.length,e⟩
theorem notLongL {n:Nat}(h:n<=sizeLine):Builtin.List.listTooLong n=false:=by
 unfold Builtin.List.listTooLong;exact u9 (by omega)
end
section
variable {X:Cx}
def rAppend:V->List V->Hp->VK->Prop:=fun x vs H Q=>∃l xs y,x= .ref l/\vs= [y]/\H l=some (.lst xs)/\xs.length<sizeLine/\Q .non (upd H l (.lst (xs++ [y])))
theorem y9:MtM X "list.append" rAppend:=by
 intro pins s σ H x vs v us Q I M rv h;obtain⟨l,xs,y,rfl,rfl,L,O,q⟩:=h;cases M;obtain⟨u,rfl,ru⟩:=rv.one;obtain⟨z,its,n,r,R,e⟩:=I.lstM L;refine vL F.slot_list_append ⟨_,e,rfl⟩ F.entry_list_append (F.args_list_append_2 _ _) (PySem.list_append l its.toArray n u (by rw [ue];omega)) ⟨e,?_⟩
 refine⟨.non,_,I.lset (its':=its++ [u]) L e (by simp) (r.append (.cons ru .nil)) ?_,rfl,q⟩
 rw [uf,List.length_singleton];omega
def rExtend:V->List V->Hp->VK->Prop:=fun x vs H Q=>∃l b xs zs,x= .ref l/\vs= [.ref b]/\H l=some (.lst xs)/\H b=some (.lst zs)/\xs.length+zs.length<=sizeLine/\Q .non (upd H l (.lst (xs++zs)))
theorem mt_extend:MtM X "list.extend" rExtend:=by
 intro pins s σ H x vs v us Q I R rv h;obtain⟨l,b,xs,zs,rfl,rfl,O,U,hz,q⟩:=h;cases R;obtain⟨u,rfl,ru⟩:=rv.one;cases ru;obtain⟨z,its,n,r,hl,e⟩:=I.lstM O;obtain⟨z2,L,Y,r2,aa,e2⟩:=I.lstM U;have hsz:its.toArray.size+L.toArray.size<=sizeLine:=by rw [ue,ue];omega
 have M:¬(!its.toArray.isEmpty&&Builtin.List.listTooLong (its.toArray.size+L.toArray.size))=true:=by
  rw [notLongL hsz,Bool.and_false];exact u8
 refine vL F.slot_list_extend ⟨_,e,rfl⟩ F.entry_list_extend (F.args_list_extend_2 _ _)
  (AutoSeq1.list_extend_list_list_0 l its.toArray n b L.toArray Y M (by rw [ue];omega) (by omega)) ⟨e,e2,?_⟩
 refine⟨.non,_,I.lset (its':=its++L) O e (by simp) (r.append r2) ?_,rfl,q⟩
 rw [uf];omega
def rPop:V->List V->Hp->VK->Prop:=fun x vs H Q=>∃l xs y,x= .ref l/\vs= []/\H l=some (.lst xs)/\xs[xs.length-1]? =some y/\Q y (upd H l (.lst xs.dropLast))
theorem mt_pop:MtM X "list.pop" rPop:=by
 intro pins s σ H x vs v us Q I R rv h;obtain⟨l,xs,y,rfl,rfl,O,U,q⟩:=h;cases R;have L:=rv.zero;subst L;obtain⟨z,its,n,r,Y,e⟩:=I.lstM O;obtain⟨u,hu,ru⟩:=r.get U;have M:its.toArray[its.toArray.size-1]? =some u:=by
  show its.toArray[its.length-1]? =some u;rw [<-Array.getElem?_toList,<-Y];exact hu
 refine vL F.slot_list_pop ⟨_,e,rfl⟩ F.entry_list_pop (F.args_list_pop_1 _) (MeetsSeq.list_pop_last l its.toArray n u M (by rw [ue];omega)) ⟨e,?_⟩
 refine⟨y,_,I.lset (its':=its.dropLast) O e ?_ r.dropLast ?_,ru,q⟩
 ·show its.toArray.eraseIdxIfInBounds (its.toArray.size-1)=its.dropLast.toArray;rw [ue,List.eraseIdxIfInBounds_toArray,erase_last]
 ·rw [List.length_dropLast];omega
def rCat:R2:=fun x y H Q=>∃l b xs zs,x= .ref l/\y= .ref b/\H l=some (.lst xs)/\H b=some (.lst zs)/\xs.length+zs.length<=sizeLine/\∀p,H p=none->Q (.ref p) (upd H p (.lst (xs++zs)))
theorem op_cat:OpR X (binaryOp .Add) rCat:=by
 intro pins s σ H x y v u Q I M O h;obtain⟨l,b,xs,zs,rfl,rfl,R,U,hz,q⟩:=h;cases M;cases O;obtain⟨z,its,n,r,hl,e⟩:=I.lstM R;obtain⟨z2,L,n2,Y,aa,e2⟩:=I.lstM U;refine PySem.P.add_list e e2 ?_ (by rw [ue,ue];omega)
 have ea:its.toArray++L.toArray=(its++L).toArray:=by simp
 rw [ea];exact⟨.ref _,_,I.lnew (t':=s.toks) (r.append Y) (by rw [uf];omega),rfl,q _ I.fresh⟩
end
section
variable {prog:Program}{w:World}{A:Around}{E:Value->Shared->Prop}{s:Shared}
set_option maxRecDepth 100000 in
end
section
variable {κ:Type}[DecidableEq κ]
def valV (kvs:List (κ×V))(k:κ):Option V:=(kvs.find? fun kv=>decide (kv.1=k)).map (·.2)
def putK (kvs:List (κ×V))(k:κ)(v:V):List (κ×V):=
 if(kvs.any fun kv=>decide (kv.1=k))=true then kvs.map (fun kv=>if kv.1=k then(kv.1,v) else kv) else kvs++ [(k,v)]
theorem xI {p:κ×V}{r:List (κ×V)}{k:κ}(e:p.1=k):valV (p::r) k=some p.2:=by simp [valV,U0,e]
theorem ZC {p:κ×V}{r:List (κ×V)}{k:κ}(e:¬p.1=k):valV (p::r) k=valV r k:=by simp [valV,U0,e]
theorem valV_any (k:κ):∀kvs:List (κ×V),(kvs.any fun I=>decide (I.1=k))=(valV kvs k).isSome
 | []=>rfl
 |p::r=>by
  rw [Ui];by_cases e:p.1=k
  ·simp only [xI e,u0 e,Bool.true_or,Option.isSome_some]
  ·rw [ZC e,u9 e,Bool.false_or];exact valV_any k r
theorem Je (kvs:List (κ×V))(k:κ)(v:V):(putK kvs k v).length<=kvs.length+1:=by
 unfold putK;split
 ·rw [ub];omega
 ·rw [uf,ud,v8];omega
theorem RelO.isSome_eq {o:Option V}{u:Option Value}(r:RelO o u):o.isSome=u.isSome:=by
 cases o with
 |none=>cases u with
  |none=>rfl
  |some _=>exact(show False from r).elim
 |some _=>cases u with
  |none=>exact(show False from r).elim
  |some _=>rfl
theorem RelO.getD {o:Option V}{u:Option Value}{d:V}{d':Value}(r:RelO o u)(I:RelV d d'):RelV (o.getD d) (u.getD d'):=by
 cases o with
 |none=>cases u with
  |none=>exact I
  |some _=>exact(show False from r).elim
 |some _=>cases u with
  |none=>exact(show False from r).elim
  |some _=>exact r
theorem KV.val {kvs:List (κ×V)}{vs:List (κ×Value)}(r:KV kvs vs)(k:κ):RelO (valV kvs k) (valueAt vs k):=by
 unfold KV at r
 induction r with
 |nil=>exact True.intro
 | @cons p q ps qs h t ih=>
  obtain⟨h1,h2⟩:=h;by_cases e:p.1=k
  ·have I:q.1=k:=h1.symm.trans e;have b:valueAt (q::qs) k=some q.2:=by simp [valueAt,U0,I]
   rw [xI e,b];exact h2
  ·have I:¬q.1=k:=fun z=>e (h1.trans z);have b:valueAt (q::qs) k=valueAt qs k:=by simp [valueAt,U0,I]
   rw [ZC e,b];exact ih
theorem KV.any {kvs:List (κ×V)}{vs:List (κ×Value)}(r:KV kvs vs)(k:κ):(kvs.any fun I=>decide (I.1=k))=vs.any fun I=>decide (I.1=k):=by
 unfold KV at r
 induction r with
 |nil=>rfl
 |cons h t L=>rw [Ui,Ui,L,h.1]
theorem KV.repl {kvs:List (κ×V)}{vs:List (κ×Value)}(r:KV kvs vs)(k:κ){y:V}{u:Value}(L:RelV y u):
  KV (kvs.map fun I=>if I.1=k then(I.1,y) else I) (vs.map fun I=>if I.1=k then(I.1,u) else I):=by
 unfold KV at r⊢
 induction r with
 |nil=>exact .nil
 | @cons p q ps qs h t ih=>
  rw [uj,uj];refine .cons ?_ ih;obtain⟨h1,h2⟩:=h;by_cases e:p.1=k
  ·rw [if_pos e,if_pos (h1.symm.trans e)];exact⟨h1,L⟩
  ·rw [if_neg e,if_neg (fun z=>e (h1.trans z))];exact⟨h1,h2⟩
theorem KV.put {kvs:List (κ×V)}{vs:List (κ×Value)}(r:KV kvs vs)(k:κ){y:V}{u:Value}(I:RelV y u):KV (putK kvs k y) (stored vs k u):=by
 unfold putK stored;rw [r.any k];by_cases e:(vs.any fun L=>decide (L.1=k))=true
 ·rw [if_pos e,if_pos e];exact r.repl k I
 ·rw [if_neg e,if_neg e];exact Paired.snoc r ⟨rfl,I⟩
theorem KV.keys {kvs:List (κ×V)}{vs:List (κ×Value)}(r:KV kvs vs):kvs.map (·.1)=vs.map (·.1):=by
 unfold KV at r
 induction r with
 |nil=>rfl
 |cons h t I=>rw [uj,uj,I,h.1]
theorem KV.length {kvs:List (κ×V)}{vs:List (κ×Value)}(r:KV kvs vs):kvs.length=vs.length:=Paired.length r
end
theorem kV_is {P:Program}{w:World}{k:Key}{u:Value}(r:RelV (kV k) u):(Qt P w).is k u=true:=by
 cases k with
 |inl i=>obtain⟨t,e⟩:=(show∃t,u=Value.int i t from r);subst e;exact mixKind_int P w i t
 |inr x=>obtain⟨t,e⟩:=(show∃t,u=Value.str x t from r);subst e;exact XF P w x t
theorem items_are {P:Program}{w:World}:∀{ks:List Key}{us:List Value},Vals (ks.map kV) us->ItemsAre (Qt P w) ks us
 | [],_,r=>by rw [vj] at r;cases r;exact .nil
 |k::ks,_,r=>by
  rw [uj] at r;cases r with
  |cons h t=>exact .cons (kV_is h) (items_are t)
abbrev KT (H:Hp):List (List Key×V)->List (List Key×Addr×Value)->Prop:=Paired fun p q=>p.1=q.1/\H q.2.1=some (.tup (p.1.map kV))/\RelV p.2 q.2.2
theorem KT.val {H:Hp}{kvs:List (List Key×V)}{xs:List (List Key×Addr×Value)}(r:KT H kvs xs)(k:List Key):RelO (valV kvs k) ((atKey xs k).map (·.2)):=by
 induction r with
 |nil=>exact True.intro
 | @cons p q ps qs h t ih=>
  obtain⟨h1,_,h2⟩:=h;by_cases e:p.1=k
  ·have I:q.1=k:=h1.symm.trans e;have b:atKey (q::qs) k=some q.2:=by simp [atKey,U0,I]
   rw [xI e,b];exact h2
  ·have I:¬q.1=k:=fun z=>e (h1.trans z);have b:atKey (q::qs) k=atKey qs k:=by simp [atKey,U0,I]
   rw [ZC e,b];exact ih
theorem KT.repl {H:Hp}{kvs:List (List Key×V)}{xs:List (List Key×Addr×Value)}(r:KT H kvs xs)(k:List Key){y:V}{u:Value}(L:RelV y u):
  KT H (kvs.map fun I=>if I.1=k then(I.1,y) else I) (xs.map (putAt k u)):=by
 induction r with
 |nil=>exact .nil
 | @cons p q ps qs h t ih=>
  rw [uj,uj];refine .cons ?_ ih;obtain⟨h1,h2,M⟩:=h;unfold putAt;by_cases e:p.1=k
  ·rw [if_pos e,if_pos (h1.symm.trans e)];exact⟨h1,h2,L⟩
  ·rw [if_neg e,if_neg (fun z=>e (h1.trans z))];exact⟨h1,h2,M⟩
theorem KT.put {H:Hp}{kvs:List (List Key×V)}{xs:List (List Key×Addr×Value)}(r:KT H kvs xs)(k:List Key){b:Addr}{y:V}{u:Value}(L:H b=some (.tup (k.map kV)))(I:RelV y u):
  KT H (putK kvs k y) (storedH xs k b u):=by
 have e:(kvs.any fun M=>decide (M.1=k))=(atKey xs k).isSome:=by
  rw [valV_any,(r.val k).isSome_eq,Option.isSome_map]
 unfold putK storedH;rw [e];by_cases q:(atKey xs k).isSome=true
 ·rw [if_pos q,if_pos q];exact r.repl k I
 ·rw [if_neg q,if_neg q];exact Paired.snoc r ⟨rfl,L,I⟩
theorem KT.keeps {H H':Hp}{kvs:List (List Key×V)}{xs:List (List Key×Addr×Value)}(r:KT H kvs xs)(I:∀b ys,H b=some (.tup ys)->H' b=some (.tup ys)):KT H' kvs xs:=
 Paired.mapP r fun _ _ z=>⟨z.1,I _ _ z.2.1,z.2.2⟩
section
variable {P:Program}{w:World}{H:Hp}{h:Heap}{a:Addr}
theorem rd_of {u:HO}(ok:HOk P w H h)(e:Rd H a u):QM P w H h a u:=e.ok ok
theorem dk_rd {kvs:List (Key×V)}(ok:HOk P w H h)(e:Rd H a (.dK kvs)):kvs.length<=sizeLine/\(a==sysModules)=false/\∃vs,KV kvs vs/\h.DictOf (Qt P w) a vs:=
 show QM P w H h a (.dK kvs) from rd_of ok e
theorem dk_of {kvs:List (Key×V)}(ok:HOk P w H h)(e:H a=some (.dK kvs)):kvs.length<=sizeLine/\(a==sysModules)=false/\∃vs,KV kvs vs/\h.DictOf (Qt P w) a vs:=dk_rd ok (.inl e)
theorem key_of {ks:List Key}(ok:HOk P w H h)(e:H a=some (.tup (ks.map kV))):(tupleKind (Qt P w)).is h ks a:=by
 obtain⟨_,its,r,o,h1,h2,n,I⟩:=(show QM P w H h a (.tup (ks.map kV)) from ok a _ e)
 exact⟨o,its.toArray,n,h1,h2,I,by simpa using items_are r⟩
theorem dt_rd {kvs:List (List Key×V)}(ok:HOk P w H h)(e:Rd H a (.dT kvs)):kvs.length<=sizeLine/\(a==sysModules)=false/\
  ∃xs,KT H kvs xs/\h.DictOfH (tupleKind (Qt P w)) a xs:=by
 obtain⟨z,y,xs,r,o,es,L,h1,h2,M,h4,O⟩:=(show QM P w H h a (.dT kvs) from rd_of ok e)
 refine⟨z,y,xs,r,o,es,L,h1,h2,M,h4,fun x I=> ?_,O⟩;have all:∀{l:List (List Key×V)}{m:List (List Key×Addr×Value)},KT H l m->∀x∈m,(tupleKind (Qt P w)).is h x.1 x.2.1:=by
  intro l m q
  induction q with
  |nil=>intro x I;exact nomatch I
  | @cons p q ps qs hq t ih=>
   intro x I;rcases List.mem_cons.mp I with e|I
   ·subst e;exact key_of ok (by rw [<-hq.1];exact hq.2.1)
   ·exact ih x I
 exact all r x I
theorem dt_of {kvs:List (List Key×V)}(ok:HOk P w H h)(e:H a=some (.dT kvs)):kvs.length<=sizeLine/\(a==sysModules)=false/\
  ∃xs,KT H kvs xs/\h.DictOfH (tupleKind (Qt P w)) a xs:=dt_rd ok (.inl e)
end
def DGet (H:Hp)(a:Addr)(y:V)(r:Option V):Prop:=
 (∃kvs k,Rd H a (.dK kvs)/\y=kV k/\r=valV kvs k)∨∃kvs k b,Rd H a (.dT kvs)/\y= .ref b/\H b=some (.tup (k.map kV))/\r=valV kvs k
def DPut (H:Hp)(a:Addr)(y v:V)(H':Hp):Prop:=
 (∃kvs k,H a=some (.dK kvs)/\y=kV k/\kvs.length<sizeLine/\H'=upd H a (.dK (putK kvs k v)))∨
 ∃kvs k b,H a=some (.dT kvs)/\y= .ref b/\H b=some (.tup (k.map kV))/\kvs.length<sizeLine/\H'=upd H a (.dT (putK kvs k v))
theorem DGet.k {H:Hp}{a:Addr}{kvs:List (Key×V)}{k:Key}(e:H a=some (.dK kvs)):DGet H a (kV k) (valV kvs k):= .inl ⟨kvs,k,.inl e,rfl,rfl⟩
theorem DPut.k {H:Hp}{a:Addr}{kvs:List (Key×V)}{k:Key}{v:V}(e:H a=some (.dK kvs))(I:kvs.length<sizeLine):DPut H a (kV k) v (upd H a (.dK (putK kvs k v))):= .inl ⟨kvs,k,e,rfl,I,rfl⟩
section
variable {X:Cx}{pins:List (Addr×Obj)}{σ:St}{H:Hp}{s:Shared}{a:Addr}{y v:V}{u r:Value}{o:Option V}{A:Around}{E:Value->Shared->Prop}
theorem Inv.big (I:Inv X pins σ H s):sysModules<s.heap.objs.size:=by
 have h:mainGlobals<s.heap.objs.size:=(I.mod.glob.keeps I.bk).lt;exact Nat.lt_trans (by decide) h
theorem d_getItem {Q:Value->Shared->Prop}(hu:A.units+1<cLine)(I:Inv X pins σ H s)(g:DGet H a y (some v))(ry:RelV y u)(h:∀O s',Inv X pins σ H s'->RelV v O->Q O s'):
  wpAny (model X.prog X.w) A (getItem (.ref a) u) Q E s:=by
 rcases g with⟨kvs,k,e,R,l⟩|⟨kvs,k,b,e,R,eb,l⟩
 ·subst R;obtain⟨z,hd,vs,L,dd⟩:=dk_rd I.hok e;obtain⟨O,U,M⟩:=RelO.some_of (v:=v) (o:=valueAt vs k) (by rw [l];exact L.val k)
  exact wpAny_getItem_of (kV_is ry) dd.mapOf U (h O _ (I.tok _) M)
 ·subst R;cases(show u=Value.ref b from ry)
  obtain⟨z,hd,xs,L,dd⟩:=dt_rd I.hok e;obtain⟨O,U,M⟩:=RelO.some_of (v:=v) (o:=(atKey xs k).map (·.2)) (by rw [l];exact L.val k)
  obtain⟨p,hp,Y⟩:=Option.map_eq_some_iff.mp U;refine wpAny_getItem_heap (tupleKind_room_in1 hu) (key_of I.hok eb) dd hp ?_;rw [Y];exact h O _ (I.tok _) M
theorem d_write {h':Heap}{t':Nat}{ob:HO}(I:Inv X pins σ H s)(L:Mut (H a))(M:Heap.SameBut a s.heap h')(O:∃q,h'.get? a=some q)(new:QM X.prog X.w (upd H a ob) h' a ob)(U:0<t':=by ac_rfl):
  Inv X pins σ (upd H a ob) {s with heap:=h',toks:=t'}:=
 I.write (x:=a) (e:=a) L (.inl rfl) (fun b q R z=>(M.2 b R).trans z) O new
theorem dk_new {P:Program}{w:World}{H':Hp}{h':Heap}{kvs:List (Key×V)}{vs:List (Key×Value)}(z:kvs.length<=sizeLine)(hd:(a==sysModules)=false)(I:KV kvs vs)(dd:h'.DictOf (Qt P w) a vs):
  QM P w H' h' a (.dK kvs):=⟨z,hd,vs,I,dd⟩
theorem d_setItem {H':Hp}{Q:Unit->Shared->Prop}(hu:A.units+1<cLine)(I:Inv X pins σ H s)(g:DPut H a y v H')(ry:RelV y u)(rv:RelV v r)(h:∀s',Inv X pins σ H' s'->Q Unit.unit s'):
  wpAny (model X.prog X.w) A (setItem (.ref a) u r) Q E s:=by
 rcases g with⟨kvs,k,e,R,l,U⟩|⟨kvs,k,b,e,R,eb,l,U⟩
 ·subst R U;obtain⟨z,hd,vs,L,dd⟩:=dk_of I.hok e;have Y:vs.length<=sizeLine:=by rw [<-L.length];exact z
  have hl:(putK kvs k v).length<=sizeLine:=by have:=Je kvs k v;omega
  refine wpAny_setItem_pairs (hsz:=Y) (kV_is ry) dd fun h' M hs=>h _ ?_;have he:∃q,h'.get? a=some q:=let⟨q,_,_,O,_⟩:=M;⟨q,O⟩;exact d_write I (by rw [e];exact True.intro) hs he (dk_new hl hd (L.put k rv) M)
 ·subst R U;cases(show u=Value.ref b from ry)
  obtain⟨z,hd,xs,L,dd⟩:=dt_of I.hok e;have Y:xs.length<=sizeLine:=by rw [<-Paired.length L];exact z
  have hl:(putK kvs k v).length<=sizeLine:=by have:=Je kvs k v;omega
  refine wpAny_setItem_heap (hsz:=Y) (tupleKind_room_in1 hu) (key_of I.hok eb) dd fun h' M hs=>h _ ?_;obtain⟨q,es,ep,O,h2,h3,h4,_,h5⟩:=M;refine d_write I (by rw [e];exact True.intro) hs ⟨q,O⟩ ⟨hl,hd,_,(L.put k eb rv).keeps fun c ys ec=> ?_,q,es,ep,O,h2,h3,h4,h5⟩
  rw [qx (ne_of ec e (fun z=>nomatch z))];exact ec
end
def NoSl (i:Expr):Prop:=∀ov iv,subscripted i false ov iv=operate [ov,iv] (getItem ov iv)
theorem subD_of {prog:Program}{w:World}{A:Around}{E:Value->Shared->Prop}{s:Shared}{env:Env}{value I:Expr}{pos:Pos}{T id:String}{Q:Value->Shared->Prop}
  (hl:typeLookup (.type T) "__getitem__"=pure (some (.builtin id))) (hs:NoSl I)
  (h:wpAny (model prog w) A (eval value env) (fun o R=>wpAny (model prog w) A (eval I env) (fun i M=>M.TypeIs o T/\wpAny (model prog w) A (getItem o i) Q E M) E R) E s):
  wpAny (model prog w) A (eval (.Subscript value I pos) env) Q E s:=by
 refine Subscript_ (uY h (fun o R h₁=>uY h₁ (fun i M O=> ?_) fun _ _ x=>x) fun _ _ x=>x);obtain⟨U,O⟩:=O;unfold subscriptTail;refine wpAny_bind ?_;rw [getitemInPython_of_ne U.not_modules];refine wpAny_bind (wpAny_specialOf U hl ?_);have L:wpAny (model prog w) A (subscripted I false o i) (fun r Y=>wpAny (model prog w) A (letTemporaryGo value o r>>=fun _=>pure r) Q E Y) E M:=by
  rw [hs o i];exact wpAny_operating (uY O (fun r Y h₃=>wpAny_bind (wpAny_letTemporaryGo (uc h₃))) fun _ _ x=>x)
 first
  |exact uc (wpAny_bind L)
  |exact wpAny_bind (uc (wpAny_bind L))
  |exact wpAny_bind L
theorem dict_typeIs {X:Cx}{pins:List (Addr×Obj)}{σ:St}{H:Hp}{s:Shared}{a:Addr}{y:V}{o:Option V}(I:Inv X pins σ H s)(g:DGet H a y o):s.TypeIs (.ref a) "dict":=by
 rcases g with⟨kvs,k,e,_,_⟩|⟨kvs,k,b,e,_,_,_⟩
 ·obtain⟨_,_,vs,_,dd⟩:=dk_rd I.hok e;exact dd.typeIs
 ·obtain⟨_,_,xs,_,dd⟩:=dt_rd I.hok e;exact dd.typeIs
def tDGet (td ty:TE):TE:=fun σ H Q=>td σ H fun x H1=>ty σ H1 fun y H2=>∃a v,x= .ref a/\DGet H2 a y (some v)/\Q v H2
def sDPut (td ty tv:TE):TS:=fun D σ H=>tv σ H fun v H1=>td σ H1 fun x H2=>ty σ H2 fun y H3=>∃a H4,x= .ref a/\DPut H3 a y v H4/\D.nx σ H4
section
variable {X:Cx}{o i e value:Expr}{pos pos' tpos:Pos}{td ty tv:TE}
theorem Qf (O:X.A.units+1<cLine)(R:PE X o td)(hi:PE X i ty)(U:NoSl i):PE X (.Subscript o i pos) (tDGet td ty):=by
 intro pins s σ H Q I h;refine subD_of PySem.F.slot_dict_getitem.lookup U (thn (R pins s σ H _ I h) fun u s1 ⟨x,H1,Y,rx,q1⟩=>thn (hi pins s1 σ H1 _ Y q1) fun iv s2 ⟨y,H2,M,ry,a,v,ex,g,q2⟩=> ?_);subst ex;obtain rfl:u=Value.ref a:=rx;exact⟨dict_typeIs M g,d_getItem O M g ry fun w' s3 I3 L=>⟨v,H2,I3,L,q2⟩⟩
theorem Zw (L:X.A.units+1<cLine)(M:PE X o td)(hi:PE X i ty)(O:PE X value tv)(R:swapsWith value (some (.Subscript o i pos')) pos.line X.env=pure false):
  PS X (.Assign [.Subscript o i pos'] value pos) (sDPut td ty tv):=by
 intro pins s σ H D I h;refine wpAny_Assign_Subscript (thn (O pins s σ H _ I h) fun r s1 ⟨v,H1,U,rv,q1⟩=>thn (M pins s1 σ H1 _ U q1) fun u s2 ⟨x,H2,Y,rx,q2⟩=>thn (hi pins s2 σ H2 _ Y q2) fun iv s3 ⟨y,H3,I3,ry,a,H4,ex,g,q3⟩=> ?_) R;subst ex;obtain rfl:u=Value.ref a:=rx;exact d_setItem L I3 g ry rv fun s4 I4=>⟨σ,H4,I4,q3⟩
end
theorem dk_empty {P:Program}{w:World}{H:Hp}(h:Heap)(I:sysModules<h.objs.size):QM P w H (h.push {cls:= .type "dict",data:= .dict #[]}) h.objs.size (.dK []):=
 ⟨uF _,beq_eq_false_iff_ne.mpr (U9 (uK I)),[],.nil,Heap.DictOf.new h⟩
def tDNewK:TE:=fun _ H Q=>∀p,H p=none->Q (.ref p) (upd H p (.dK []))
section
variable {X:Cx}{pos:Pos}
theorem pe_dnewK:PE X (.Dict [] [] pos) tDNewK:=fun pins s σ H Q I h=>
 wpAny_Dict_empty ⟨.ref s.heap.objs.size,_,I.laid (a:=s.heap.objs.size) (o:= .dK []) (t':=s.toks) (fun _ _ q=>u3 _ q) (ug _) (dk_empty s.heap I.big),rfl,h _ (I.hok.fresh (ug _))⟩
end
def tPairs:List (TE×TE)->St->Hp->(List (V×V)->Hp->Prop)->Prop
 | [],_,H,Q=>Q [] H
 |(tk,tv)::r,σ,H,Q=>tk σ H fun x H1=>tv σ H1 fun y H2=>tPairs r σ H2 fun ps H3=>Q ((x,y)::ps) H3
abbrev VV:List (V×V)->List (Value×Value)->Prop:=Paired fun p q=>RelV p.1 q.1/\RelV p.2 q.2
def PPs (X:Cx)(pos:Pos)(keys:List (Option Expr))(values:List Expr)(trs:List (TE×TE)):Prop:=
 ∀(pins:List (Addr×Obj)) (s:Shared) (σ:St) (H:Hp) (Q:List (V×V)->Hp->Prop),Inv X pins σ H s->tPairs trs σ H Q->
  wpAny (model X.prog X.w) X.A (evalPairs (pairTrees keys values X.env pos)) (fun vs s'=>∃ps H',Inv X pins σ H' s'/\VV ps vs/\Q ps H') X.xe s
theorem pps_nil {X:Cx}{pos:Pos}:PPs X pos [] [] []:=fun pins s σ H Q I h=>pairTrees_nil_walk ⟨[],H,I,.nil,h⟩
theorem Ym {X:Cx}{pos:Pos}{k v:Expr}{ks:List (Option Expr)}{vs:List Expr}{tk tv:TE}{L:List (TE×TE)}(O:PE X k tk)(R:PE X v tv)(U:PPs X pos ks vs L):
  PPs X pos (some k::ks) (v::vs) ((tk,tv)::L):=fun pins s σ H Q I h=>
 pairTrees_cons_walk (thn (O pins s σ H _ I h) fun u s1 ⟨x,H1,Y,rx,q1⟩=>thn (R pins s1 σ H1 _ Y q1) fun w2 s2 ⟨y,H2,I2,ry,q2⟩=>
  thn (U pins s2 σ H2 _ I2 q2) fun ws s3 ⟨ps,H3,I3,M,q3⟩=>⟨(x,y)::ps,H3,I3,.cons ⟨rx,ry⟩ M,q3⟩)
def Y5 (kvs more:List (Key×V)):List (Key×V):=more.foldl (fun acc kv=>putK acc kv.1 kv.2) kvs
theorem KV.merge:∀{more:List (Key×V)}{rs:List (Key×Value)}{kvs:List (Key×V)}{vs:List (Key×Value)},KV more rs->KV kvs vs->KV (Y5 kvs more) (merged vs rs):=by
 intro more rs kvs vs r;unfold KV at r
 induction r generalizing kvs vs with
 |nil=>intro q;exact q
 | @cons p q ps qs h t ih=>
  intro I;have e:KV (putK kvs p.1 p.2) (stored vs q.1 q.2):=by
   have:=I.put p.1 h.2;rw [<-h.1];exact this
  exact ih e
theorem JJ:∀(more kvs:List (Key×V)),(Y5 kvs more).length<=kvs.length+more.length
 | [],kvs=>by show kvs.length<=kvs.length+0;omega
 |p::r,kvs=>by
  have h1:=JJ r (putK kvs p.1 p.2);have h2:=Je kvs p.1 p.2;show(Y5 (putK kvs p.1 p.2) r).length<=_;rw [ud];omega
theorem zX {P:Program}{w:World}:∀{kvs:List (Key×V)}{ws:List (Value×Value)},VV (kvs.map fun I=>(kV I.1,I.2)) ws->∃rs,Carries (Qt P w) ws rs/\KV kvs rs
 | [],_,r=>by rw [vj] at r;cases r;exact⟨[],True.intro,.nil⟩
 |p::kvs,_,r=>by
  rw [uj] at r;cases r with
  | @cons a b as bs h t=>
   obtain⟨rs,c,q⟩:=zX (P:=P) (w:=w) t;obtain⟨b1,b2⟩:=b;exact⟨(p.1,b2)::rs,⟨kV_is h.1,rfl,c⟩,.cons ⟨rfl,h.2⟩ q⟩
def tDisp (trs:List (TE×TE)):TE:=fun σ H Q=>∀p,H p=none->tPairs trs σ (upd H p (.dK [])) fun ps H2=>H2 p=some (.dK [])/\∃kvs:List (Key×V),ps=kvs.map (fun kv=>(kV kv.1,kv.2))/\kvs.length<=15/\Q (.ref p) (upd H2 p (.dK (Y5 [] kvs)))
theorem pe_disp {X:Cx}{pos:Pos}{keys:List (Option Expr)}{L:List Expr}{M:List (TE×TE)}(h:PPs X pos keys L M)(O:keys.all (·.isSome)=true)(hl:keys.length=L.length)(h0:keys≠ [])
  (U:keys.length<=15):PE X (.Dict keys L pos) (tDisp M):=by
 intro pins s σ H Q I q;have hn:=I.hok.fresh (ug s.heap.objs.size);have I1:=I.laid (a:=s.heap.objs.size) (o:= .dK []) (h':=s.heap.push {cls:= .type "dict",data:= .dict #[]}) (t':=s.toks) (fun _ _ q=>u3 _ q) (ug _) (dk_empty s.heap I.big);refine wpAny_Dict_walk (knd:=Qt X.prog X.w) O hl h0 U (thn (h pins _ σ _ _ I1 (q _ hn)) fun ws s2 ⟨ps,H2,I2,Y,e,kvs,ep,lk,q2⟩=> ?_);subst ep;obtain⟨rs,c,rk⟩:=zX (P:=X.prog) (w:=X.w) Y;obtain⟨z,hd,aa,r0,dd⟩:=dk_of I2.hok e;cases r0;refine⟨rs,c,dd,fun h' R hs=>⟨.ref s.heap.objs.size,_,?_,rfl,q2⟩⟩;have hz:(Y5 [] kvs).length<=sizeLine:=by
  have h1:=JJ kvs [];rw [v8] at h1;rw [uL];omega
 have he:∃q,h'.get? s.heap.objs.size=some q:=let⟨q,_,_,hq,_⟩:=R;⟨q,hq⟩;exact d_write I2 (by rw [e];exact True.intro) hs he (dk_new hz hd (rk.merge .nil) R)
structure M2 (X:Cx)(o:Expr)(m:Str)(apos:Pos)(e f:Expr)(cpos:Pos):Prop where
 base:attributeBase o m X.env (eval o X.env)=eval o X.env
 few:((backTo cpos (starEach [e,f] X.env)).all (fun x=> !x.1)&&(backToKw cpos (keywordEach [] X.env)).all (fun x=>x.1.isSome)
  &&decide (([e,f]:List Expr).length+([]:List Keyword).length+(if([]:List Keyword).isEmpty then 0 else 1)<30))=true
 line:(apos.endLine==cpos.line)=true
 trees:backTo cpos (starEach [e,f] X.env)= [(false,eval e X.env),(false,eval f X.env)]
def IsD (H:Hp)(a:Addr):Prop:=(∃kvs,Rd H a (.dK kvs))∨∃kvs,Rd H a (.dT kvs)
theorem isD_at {X:Cx}{pins:List (Addr×Obj)}{σ:St}{H:Hp}{s:Shared}{a:Addr}(I:Inv X pins σ H s)(d:IsD H a):
  s.TypeIs (.ref a) "dict"/\(∀b,Value.ref a= .ref b->∃ob,s.heap.get? b=some ob/\ob.dict=none)/\(a==sysModules)=false:=by
 rcases d with⟨kvs,e⟩|⟨kvs,e⟩
 ·obtain⟨_,hd,vs,_,dd⟩:=dk_rd I.hok e;refine⟨dd.typeIs,fun b q=> ?_,hd⟩;cases q;obtain⟨ob,_,_,h1,h2,_⟩:=dd;exact⟨ob,h1,h2.2.1⟩
 ·obtain⟨_,hd,xs,_,dd⟩:=dt_rd I.hok e;refine⟨dd.typeIs,fun b q=> ?_,hd⟩;cases q;obtain⟨ob,_,_,h1,h2,_⟩:=dd;exact⟨ob,h1,h2.2.1⟩
section
variable {X:Cx}{pins:List (Addr×Obj)}{σ:St}{H:Hp}{s:Shared}{a:Addr}{y d:V}{u r:Value}{o:Option V}{A:Around}{E:Value->Shared->Prop}
theorem d_get2 {Q:Value->Shared->Prop}(Y:A.units+1<cLine)(I:Inv X pins σ H s)(g:DGet H a y o)(O:RelV y u)(R:RelV d r)(h:∀U s',Inv X pins σ H s'->RelV (o.getD d) U->Q U s'):
  wpAny (model X.prog X.w) A (call (.builtin "dict.get") [.ref a,u,r]) Q E s:=by
 rcases g with⟨kvs,k,e,M,l⟩|⟨kvs,k,b,e,M,eb,l⟩
 ·subst M;obtain⟨z,hd,vs,L,dd⟩:=dk_rd I.hok e;refine call_meetsIn PySem.F.slot_dict_get dd.typeIs PySem.F.entry_dict_get (PySem.F.args_dict_get_3 _ _ _) (meets_dict_get_default (Qt X.prog X.w) a (kV_is O) hd r) ⟨_,dd.mapOf,h _ _ (I.tok _) ?_⟩;rw [l];exact(L.val k).getD R
 ·subst M;cases(show u=Value.ref b from O)
  obtain⟨z,hd,xs,L,dd⟩:=dt_rd I.hok e;refine call_meetsIn PySem.F.slot_dict_get dd.typeIs PySem.F.entry_dict_get (PySem.F.args_dict_get_3 _ _ _) (meetsH_dict_get_default (tupleKind (Qt X.prog X.w)) a b hd r) ⟨tupleKind_room_in1 Y,k,xs,key_of I.hok eb,dd,h _ _ (I.tok _) ?_⟩;rw [l];exact(L.val k).getD R
end
def tDGet2 (td ty tx:TE):TE:=fun σ H Q=>td σ H fun x H1=>∃a,x= .ref a/\IsD H1 a/\ty σ H1 fun y H2=>tx σ H2 fun z H3=>∃o,DGet H3 a y o/\Q (o.getD z) H3
section
variable {X:Cx}{o e f:Expr}{apos cpos:Pos}{td ty tx:TE}
theorem ZT (O:X.A.units+1<cLine)(R:PE X o td)(U:PE X e ty)(Y:PE X f tx)(m:M2 X o "get" apos e f cpos):PE X (.Call (.Attribute o "get" apos) [e,f] [] cpos) (tDGet2 td ty tx):=by
 intro pins s σ H Q I h;refine wpAny_Call_method m.base m.few m.line PySem.F.plainAttrs_dict PySem.F.slot_dict_get PySem.F.type_dict_get (thn (R pins s σ H _ I h) fun u s1 ⟨x,H1,M,rx,a,ex,d,q1⟩=> ?_);subst ex;obtain rfl:u=Value.ref a:=rx;obtain⟨t1,t2,_⟩:=isD_at M d;refine⟨t1,t2,?_⟩;rw [m.trees];refine Calls.callWith_builtin rfl (Calls.evalArgs_plain (Calls.spliced_cons (thn (U pins s1 σ H1 _ M q1) fun iv s2 ⟨y,H2,I2,ry,q2⟩=>
  Calls.spliced_cons (thn (Y pins s2 σ H2 _ I2 q2) fun fv s3 ⟨z,H3,I3,rz,ov,g,q3⟩=>Calls.spliced_nil ?_))))
 exact d_get2 O I3 g ry rz fun w' s4 I4 L=>⟨_,H3,I4,L,q3⟩
end
end L2
namespace Att
open PySem PySem.W PySem.Calls PyProof.Rows
theorem Xl {P:Params}{h:Heap}:∀(ns:List Int) (vs:List Value),WellAll P h vs (ns.map WData.int)->IntsAre vs ns:=by
 intro ns
 induction ns with
 |nil=>
  intro vs w;rw [vj] at w;cases w;exact .nil
 |cons n ns I=>
  intro vs w;rw [uj] at w;cases w with
  |cons a b=>
   cases a;exact .cons _ _ (I _ b)
theorem script_of {l:OpenLaw}{n:Nat}(hn:l.most=some n){P:Params}{h:Heap}{args:List WData}{I:List Value}
  (L:l.row.toRowW.claim.pre args=true) (U:WellAll P h I args):
  ∃a vs ns,I= [Value.ref a]/\args= [WData.list (ns.map WData.int)]/\h.get? a=some {cls:= .type "list",data:= .seq vs.toArray}/\IntsAre vs ns/\ns.length<=n:=by
 have Y:WShape.hasAll [] args [.list .int]=true:=(pre_splitW L).1;have hc:l.pre.holds [] {args:=args}=true:=(pre_splitW L).2;obtain⟨d,r,rfl,h1,h2⟩:=hasAllW_cons Y;obtain rfl:=hasAllW_nil h2;obtain⟨xs,rfl,h3⟩:=hasW_list h1;obtain⟨ns,rfl⟩:=items_int h3;have M:ns.length<=n:=by
  unfold OpenLaw.pre at hc;have h4:(WTm.not (.lt (.lit (.int (n:Int))) (.len (.arg 0)))).holds [] {args:= [.list (ns.map .int)]}=true:=by
   have h4:=(holds_andW hc).1;rw [hn] at h4;exact h4
  have R:=condW_of h4 (w_not (w_lt w_lit (w_len_list (w_arg rfl))));rw [ub] at R;refine Nat.le_of_not_lt fun q=> ?_;have q':(n:Int)<((ns.length:Nat):Int):=by omega
  first
   |(rw [u0 q'] at R;exact absurd R (by decide))
   |(simp at R;omega)
 cases U with
 |cons w1 w2=>
  cases w2;cases w1 with
  |list ho O=>exact⟨_,_,ns,rfl,rfl,ho,Xl ns _ O,M⟩
theorem post_true (l:OpenLaw)(args:List WData):l.row.toRowW.claim.post args (.bool true) args=true:=
 postW_of (r:=l.row.toRowW) (X:=(true==true))
  (show WShape.has [] (.bool true) .bool=true by first|rfl|decide|simp [WShape.has,WShape.arms,WShape.armsAll])
  (show(WTm.eq .res (.lit (.bool true))).value [] {args:=args,res:=some (.bool true),after:=args}=some (.bool (true==true)) from w_eq_bool (w_res rfl) w_lit) rfl
end Att
namespace L2
open PySem PySem.Spec PyProof.Rows
theorem vals_ints:∀{vs:List Value}{ns:List Int},IntsAre vs ns->Vals (ns.map V.int) vs
 |_,_,.nil=> .nil
 |_,_,.cons n t h=> .cons ⟨t,rfl⟩ (vals_ints h)
def Only (H:Hp):Prop:=∀b,H b=none∨∃o xs,H b=some (.frz o (.lst xs))
theorem law_call {P:Program}{w:World}{K:PySem.W.Frag}{mg mb:Str->Option Value}{CX:CXT}{k:Nat}{fa a:Addr}{fd:FuncData}{x:Str}{sp:Sp}{I:Shared}{vs:List Value}{ns:List Int}
  (KX:K.In I.heap) (Y:I.heap.Ns mainGlobals mg) (M:I.heap.Ns builtinsNs mb) (af:∀x:Str,x≠"__name__"->mb x=bootBuiltins x) (aa:I.heap.NoLimit) (hg:I.gens= #[])
  (ha:I.heap.get? a=some {cls:= .type "list",data:= .seq vs.toArray}) (hi:IntsAre vs ns) (hl:ns.length<=sizeLine) (hr:Room k callerA)
  (F:∀base:Heap,K.In base->base.Ns mainGlobals mg->FnOk P w K mg base CX k fa fd [x] sp) (U:∀(s:Shared) (u:Value),BindsTo s fd ⟨[u],[]⟩ [(x,u)])
  (ab:fd.scope.names.lookup x=some .local) (ag:∀H:Hp,Only H->SqL K H a (ns.map V.int)->sp [.ref a] H (fun v _=>v= .bl true) fun _ _ _=>False)
  (ah:∀H e s',CX [] H I (fun _ _ _=>False) e s'->False):
  codeAny (model P w) callerA (.call (.ref fa) ⟨[.ref a],[]⟩) (fun r s'=>r= .ok (.ret (.bool true))/\OldK I.heap s'.heap/\s'.os=I.os/\AllBare s'.gens) I:=by
 have rv:=vals_ints hi;have ac:=hi.length;have R:∀H:Hp,Only H->SqL K H a (ns.map V.int)->HOk P w H I.heap->(∀b,H b≠none->b=a)->(H a≠none->K.lookup a=none)->
   codeAny (model P w) callerA (.call (.ref fa) ⟨[.ref a],[]⟩) (fun r s'=>r= .ok (.ret (.bool true))/\OldK I.heap s'.heap/\s'.os=I.os/\AllBare s'.gens) I:=by
  intro H hO hS hok hA hK;have L:∀{b:Addr}{o:Obj},I.heap.get? b=some o->H b=none->(hidT I.heap H).get? b=some o:=fun e n=>hidT_get e n;have ak:∀{b:Addr}{o:Obj}{es:Array DictEntry}{ep:Nat},I.heap.get? b=some o->o.data= .dict es ep->H b=none:=fun{b o es ep} e d=>by
   cases q:H b with
   |none=>rfl
   |some u=>
    have e':b=a:=hA b (by rw [q];simp)
    subst e';rw [ha] at e;cases e;have d':Data.seq vs.toArray _=Data.dict es ep:=d;cases d'
  have O:∀{b:Addr}{m:Str->Option Value},I.heap.Ns b m->(hidT I.heap H).Ns b m:=fun{b m} ⟨o,es,ep,e,d,r⟩=>⟨o,es,ep,L e (ak e d),d,r⟩;have ad:K.In (hidT I.heap H):=fun b o e=>L (KX b o e) (by
   cases q:H b with
   |none=>rfl
   |some u=>
    have e':b=a:=hA b (by rw [q];simp)
    subst e';rw [hK (by rw [q];simp)] at e;cases e)
  have hM:Mod K mg (hidT I.heap H):=⟨ad,O Y,⟨mb,O M,af⟩,let⟨mc,h1,h2⟩:=aa;⟨mc,O h1,h2⟩⟩;have e0:Env0 P w K mg (hidT I.heap H) callerA [] I H:=⟨rfl,hM,fun b o e=>of_hidT e,Nat.le_of_eq (hidT_size _ _),trivial,fun b M=>absurd (show b∈([]:List Addr) from M) (by simp),hok,.of_eq hg⟩
  refine Ud ((F _ ad (O Y)).run callerA [] I H ⟨[.ref a],[]⟩ [.ref a] [.ref a] _ _ hr e0 (U I (.ref a)) (.cons rfl .nil) (ag H hO hS) (.inr ⟨_,_,rfl,ab⟩)) fun r s' h=> ?_;cases r with
  |error e=>exact(ah H e s' h).elim
  |ok fl=>
   cases fl with
   |next=>exact False.elim h
   |brk=>exact False.elim h
   |cont=>exact False.elim h
   |ret u=>
    obtain⟨v,H',os,bare,htk,un,ae,r',q⟩:=h;have q':v= .bl true:=q;subst q';obtain rfl:u=Value.bool true:=r';refine⟨rfl,OldK.of_keep fun b o e=> ?_,os,bare⟩;cases q:H b with
    |none=>exact un.keep b o e q (by intro z;exact absurd (show b∈([]:List Addr) from z) (by simp)) (by simp)
    |some u=>
     rcases hO b with z|⟨ob,xs,z⟩
     ·rw [q] at z;cases z
     ·have z2:=un.frzs b ob _ z;obtain⟨e1,_⟩:=hok b _ z;obtain⟨e2,_⟩:=ae b _ z2;rw [e] at e1;cases e1;exact e2
 cases hk:K.lookup a with
 |some o=>
  have e:=KX a o hk;rw [ha] at e;cases e;refine R (fun _=>none) (fun _=> .inl rfl) (.inr ⟨_,vs.toArray,_,hk,rfl,rfl,rfl,by rw [ue,ac];exact hl,by simpa using rv⟩) (fun b u z=>by have z':(none:Option HO)=some u:=z;cases z') (fun b z=>absurd rfl z) fun z=>absurd rfl z
 |none=>
  refine R (fun b=>if b=a then some (.frz {cls:= .type "list",data:= .seq vs.toArray} (.lst (ns.map V.int))) else none) (fun b=> ?_) (.inl (.inr ⟨{cls:= .type "list",data:= .seq vs.toArray},if_pos rfl⟩)) (fun b u z=> ?_) (fun b z=> ?_) fun _=>hk
  ·by_cases M:b=a
   ·exact .inr ⟨_,_,if_pos M⟩
   ·exact .inl (if_neg M)
  ·by_cases M:b=a
   ·have z':=(if_pos M).symm.trans z;cases z';subst M;exact⟨ha,by rw [ub];exact hl,vs,_,rv,ha⟩
   ·have z':=(if_neg M).symm.trans z;cases z'
  ·by_cases M:b=a
   ·exact M
   ·exact absurd (if_neg M) z
abbrev KOf {K:PySem.W.Frag}{h:Heap}(_:K.In h):PySem.W.Frag:=K
def Yw (s:Stmt)(j:Nat):Stmt:=match s with
 | .ClassDef _ _ _ body _ _ _ _ _ _ _=>body.getD j (.Pass ⟨0,0,0,0⟩)
 |_=> .Pass ⟨0,0,0,0⟩
def jD (s:Stmt):Arguments:=match s with
 | .FunctionDef _ a _ _ _ _ _ _ _ _=>a
 |_=>{posonlyargs:= [],args:= [],vararg:=none,kwonlyargs:= [],kw_defaults:= [],kwarg:=none,defaults:= []}
def Yo (s:Stmt):List Stmt:=match s with
 | .FunctionDef _ _ b _ _ _ _ _ _ _=>b
 |_=> []
def qp (s:Stmt):Scope:=match s with
 | .FunctionDef _ _ _ _ _ _ sc _ _ _=>sc
 |_=>{kind:= .function,names:= [],isGenerator:=false,isCoroutine:=false}
abbrev CX0:CXT:=fun _ _ _ _ _ _=>False
abbrev E0:XK:=fun _ _ _=>False
theorem qN {X:Cx}:Jl CX0 X E0:=fun _ _ _ _ _ _ _ h=>h.elim
structure Fun (K:PySem.W.Frag)(x qual:Str)(st:Stmt)(f:Addr)(fd:FuncData):Prop where
 ex:∃(oc:Value) (od:Option Addr) (kV doc pm:Value) (an:Option Addr) (cdv ct:Value) (osl:Array (Option Value)),
  fd=PySem.W.fnOf x qual (jD st) (Yo st) (qp st) .none kV doc pm an cdv ct/\K.lookup f=some ⟨oc,od,.func fd,osl⟩/\PySem.W.codeIn K cdv qual=true
 kp:PySem.W.keepIn K (.ref f)=true
section
variable {P:Program}{w:World}{K:PySem.W.Frag}{mg:Str->Option Value}{base:Heap}
theorem Fun.ok {x qual:Str}{st:Stmt}{f:Addr}{fd:FuncData}{N ps:List Str}{k:Nat}{sp:Sp}(F:Fun K x qual st f fd)(S:qD N ps (qp st))(len:∀vs H Q E,sp vs H Q E->vs.length=ps.length)
  (I:∀(cdv:Value) (A:Around) (outer:List Env) (s:Shared) (H:Hp) (vs:List V) (Q:VK) (E:XK),Room k (A.deeper (envOfC qual (qp st) s.heap.objs.size f cdv))->sp vs H Q E->
   ∃t,PSs (cxOf CX0 P w K mg base N qual (qp st) f cdv A outer s H E).nox (Yo st) t/\t {nx:=fun _ H'=>Q .non H',rt:=Q} (Z0 N vs) H):FnOk P w K mg base CX0 (k+1) f fd ps sp:=by
 obtain⟨oc,od,kV,doc,pm,an,cdv,ct,osl,rfl,O,L⟩:=F.ex;refine fn_of O L S len fun A outer s H vs Q E R M=> ?_;obtain⟨t,h,q⟩:=I cdv A outer s H vs Q E R M;exact⟨t,h.nox,q⟩
theorem Fun.binds {x qual:Str}{st:Stmt}{f:Addr}{fd:FuncData}{ps:List Str}(F:Fun K x qual st f fd)
  (h:∀(kV doc pm:Value) (an:Option Addr) (cdv ct:Value) (us:List Value),us.length=ps.length->bindArgs (PySem.W.fnOf x qual (jD st) (Yo st) (qp st) .none kV doc pm an cdv ct) ⟨us,[]⟩=pure (ps.zip us)):YX K fd ps []:=by
 obtain⟨oc,od,kV,doc,pm,an,cdv,ct,osl,rfl,L,I⟩:=F.ex;exact .all (h kV doc pm an cdv ct)
theorem fun_mk {x qual:Str}{st:Stmt}{f:Addr}{oc:Value}{od an:Option Addr}{osl:Array (Option Value)}{kV doc pm cdv ct:Value}(l:K.lookup f=some ⟨oc,od,.func (PySem.W.fnOf x qual (jD st) (Yo st) (qp st) .none kV doc pm an cdv ct),osl⟩)
  (c:PySem.W.codeIn K cdv qual=true) (k:PySem.W.keepIn K (.ref f)=true):Fun K x qual st f (PySem.W.fnOf x qual (jD st) (Yo st) (qp st) .none kV doc pm an cdv ct):=⟨⟨oc,od,kV,doc,pm,an,cdv,ct,osl,rfl,l,c⟩,k⟩
end
theorem QQ {A:Around}{k:Nat}(I:Room k A):A.units+1<cLine:=UA (Nat.add_le_add_left (by decide:1<=64) _) I.units
theorem yh {n:Nat}(h:n<=1000):n<sizeLine:=UA h (by decide)
section
variable {X:Cx}
theorem pv (i:Nat){x:Str}{pos:Pos}(L:X.N[i]? =some x:=by rfl)(M:Vis X.env.scope x:=by first|exact Or.inl rfl|exact Or.inr (Or.inl rfl)|exact Or.inr (Or.inr rfl))(hd:(x==("__debug__":Str))=false:=by decide)
  (I:(x==("__classdict__":Str))=false:=by decide):PE X (.Name x pos) (tVar i):=pe_var L M hd I
end
theorem iteF {A B:Prop}(h:B):if false=true then A else B:=by
 rw [if_neg u8];exact h
theorem iteT {A B:Prop}(h:A):if true=true then A else B:=by
 rw [if_pos rfl];exact h
theorem ite2 {c A B:Prop}[Decidable c](h1:c->A)(h2:¬c->B):if c then A else B:=by
 by_cases h:c
 ·rw [if_pos h];exact h1 h
 ·rw [if_neg h];exact h2 h
def Same (H H':Hp):Prop:=∀b o,H b=some o->H' b=some o
theorem Same.refl (H:Hp):Same H H:=fun _ _ h=>h
theorem Same.trans {H H1 H2:Hp}(a:Same H H1)(b:Same H1 H2):Same H H2:=fun c o h=>b c o (a c o h)
theorem Same.free {H H':Hp}(e:Same H H'){l:Addr}(h:H' l=Option.none):H l=Option.none:=by
 cases q:H l with
 |none=>rfl
 |some o=>
  rw [e l o q] at h;cases h
theorem Same.seq {K:PySem.W.Frag}{H H':Hp}{a:Addr}{xs:List V}(e:Same H H')(h:SqL K H a xs):SqL K H' a xs:=by
 rcases h with(h|⟨o,h⟩)|h
 ·exact .inl (.inl (e _ _ h))
 ·exact .inl (.inr ⟨o,e _ _ h⟩)
 ·exact .inr h
end L2
namespace L2
open PySem
inductive D where
 |non|bl (b:Bool)|int (i:Int)|str (z:Str)|lst|dct|tup (xs:List D)
def qX (c:Nat):Bool:=decide (32<=c)&&decide (c<=126)&&decide (c≠37)
def QD (z:Str):Bool:=decide (z.length<=300)&&z.cps.toList.all qX
mutual
def good:D->Bool
 | .str z=>QD z
 | .tup xs=>decide (xs.length<=40)&&goodL xs
 |_=>false
def goodL:List D->Bool
 | []=>true
 |x::r=>good x&&goodL r
end
mutual
def sz:D->Nat
 | .str z=>z.length+1
 | .tup xs=>1+szL xs
 |_=>0
def szL:List D->Nat
 | []=>0
 |x::r=>sz x+szL r
end
mutual
def dp:D->Nat
 | .str _=>1
 | .tup xs=>1+dpL xs
 |_=>0
def dpL:List D->Nat
 | []=>0
 |x::r=>max (dp x) (dpL r)
end
mutual
def nd:D->Nat
 | .tup xs=>1+ndL xs
 |_=>1
def ndL:List D->Nat
 | []=>0
 |x::r=>nd x+ndL r
end
def isT (d:D):Bool:=good d&&decide (sz d<=600)&&decide (dp d<=12)
theorem JR:∀(xs ys:List D),szL (xs++ys)=szL xs+szL ys
 | [],ys=>by simp [szL]
 |x::r,ys=>by simp only [vR,szL,JR r ys];omega
theorem xb:∀(xs ys:List D),ndL (xs++ys)=ndL xs+ndL ys
 | [],ys=>by simp [ndL]
 |x::r,ys=>by simp only [vR,ndL,xb r ys];omega
theorem zr:∀(xs ys:List D),dpL (xs++ys)=max (dpL xs) (dpL ys)
 | [],ys=>by simp [dpL]
 |x::r,ys=>by simp only [vR,dpL,zr r ys];omega
theorem goodL_all:∀(xs:List D),goodL xs=xs.all good
 | []=>rfl
 |x::r=>by simp only [goodL,vm,goodL_all r]
theorem jv {k:Nat}:∀(xs:List D),dpL xs<=k↔∀x∈xs,dp x<=k
 | []=>by simp [dpL]
 |x::r=>by
  have L:=jv (k:=k) r;have e:dpL (x::r)=max (dp x) (dpL r):=by simp only [dpL]
  rw [e];constructor
  ·intro h y I;rcases List.mem_cons.mp I with rfl|I
   ·omega
   ·exact L.mp (by omega) y I
  ·intro h;have h1:=h x uq;have h2:=L.mpr fun y I=>h y (uh _ I);omega
theorem dp_pos {d:D}(h:good d=true):1<=dp d:=by
 cases d<;>simp_all [good,dp]
def wOk (w:List (D×Nat)):Bool:=w.all fun p=>good p.1&&decide (p.2+dp p.1<=13)
def wSz (w:List (D×Nat)):Nat:=szL (w.map (·.1))
def G (w:List (D×Nat))(n:Nat):Bool:=wOk w&&decide (n+wSz w<=600)
theorem G_start (d:D):G [(d,1)] 0=isT d:=by
 simp only [G,wOk,wSz,isT,vm,List.all_nil,uj,vj,szL,vD,Nat.zero_add,Nat.add_zero];have e:decide (1+dp d<=13)=decide (dp d<=12):=by
  rw [uA];omega
 rw [e];cases good d<;>cases decide (sz d<=600)<;>cases decide (dp d<=12)<;>rfl
theorem G_nil {n:Nat}(h:n<=600):G [] n=true:=by simp [G,wOk,wSz,szL,h]
theorem G_snoc (w:List (D×Nat))(d:D)(k n:Nat):G (w++ [(d,k)]) n=(wOk w&&(good d&&decide (k+dp d<=13))&&decide (n+(wSz w+sz d)<=600)):=by
 simp only [G,wOk,wSz,List.all_append,vm,List.all_nil,vD,uE,uj,vj,JR,szL,Nat.add_zero]
 rfl
theorem G_bad {w:List (D×Nat)}{d:D}{k n:Nat}(h:good d=false):G (w++ [(d,k)]) n=false:=by
 rw [G_snoc,h];simp
theorem G_deep {w:List (D×Nat)}{d:D}{k n:Nat}(h:12<k):G (w++ [(d,k)]) n=false:=by
 rw [G_snoc];cases I:good d with
 |false=>simp
 |true=>
  have:=dp_pos I;have e:decide (k+dp d<=13)=false:=u9 (by omega)
  rw [e];simp
theorem G_big {w:List (D×Nat)}{d:D}{k n:Nat}(h:600<n+sz d):G (w++ [(d,k)]) n=false:=by
 rw [G_snoc];have e:decide (n+(wSz w+sz d)<=600)=false:=u9 (by omega)
 rw [e];simp
theorem G_big1 {w:List (D×Nat)}{xs:List D}{k n:Nat}(h:600<n+1):G (w++ [(.tup xs,k)]) n=false:=G_big (by simp only [sz];omega)
theorem wOk_map (xs:List D)(k:Nat):wOk (xs.map fun x=>(x,k+1))=(goodL xs&&xs.all fun x=>decide (k+1+dp x<=13)):=by
 induction xs with
 |nil=>rfl
 |cons x r I=>
  simp only [uj,wOk,vm,goodL] at I⊢;rw [I];cases good x<;>cases decide (k+1+dp x<=13)<;>cases goodL r<;>simp
theorem wSz_map (xs:List D)(k:Nat):wSz (xs.map fun x=>(x,k+1))=szL xs:=by
 unfold wSz;rw [uT]
 congr 1
 induction xs with
 |nil=>rfl
 |cons x r I=>simp only [uj,I];rfl
theorem G_tup {w:List (D×Nat)}{xs:List D}{k n:Nat}(L:xs.length<=40)(Y:k<=12):G (w++ [(.tup xs,k)]) n=G (w++xs.map fun x=>(x,k+1)) (n+1):=by
 rw [G_snoc];unfold G;have e1:wOk (w++xs.map fun x=>(x,k+1))=(wOk w&&wOk (xs.map fun x=>(x,k+1))):=by unfold wOk;rw [List.all_append]
 have e2:wSz (w++xs.map fun x=>(x,k+1))=wSz w+szL xs:=by
  have:=wSz_map xs k;unfold wSz at this⊢;rw [uE,JR,this]
 have M:decide (k+dp (.tup xs)<=13)=xs.all fun x=>decide (k+1+dp x<=13):=by
  have q:=jv (k:=12-k) xs;have O:dp (.tup xs)=1+dpL xs:=by simp only [dp]
  rw [O,vF];constructor
  ·intro h;have h:=ua h;refine List.all_eq_true.mpr fun x I=>u0 ?_;have h2:=q.mp (by omega) x I
   omega
  ·intro h;refine u0 ?_;have h2:=q.mpr fun x I=>by
    have h3:=ua (List.all_eq_true.mp h x I);omega
   omega
 rw [e1,e2,M,wOk_map];have R:good (.tup xs)=goodL xs:=by simp only [good,u0 L,vE]
 have U:decide (n+(wSz w+sz (.tup xs))<=600)=decide (n+1+(wSz w+szL xs)<=600):=by
  rw [uA];simp only [sz];omega
 rw [R,U]
theorem G_str {w:List (D×Nat)}{z:Str}{k n:Nat}(I:QD z=true)(R:k<=12):G (w++ [(.str z,k)]) n=G w (n+(1+z.length)):=by
 rw [G_snoc];unfold G;have L:good (.str z)=true:=by simp only [good,I]
 have M:decide (k+dp (.str z)<=13)=true:=u0 (by simp only [dp];omega)
 have O:decide (n+(wSz w+sz (.str z))<=600)=decide (n+(1+z.length)+wSz w<=600):=by
  rw [uA];simp only [sz];omega
 rw [L,M,O];simp
end L2
namespace AwZ
open PySem PyProof.Rows
open PySem.AutoSeq1 (wpAny_loadPart')
section
variable {prog:Program}{w:World}{A:Around}{E:Value->Shared->Prop}{s:Shared}
theorem tdraw {j t:Addr}{i:Nat}{its:Array Value}{x:Value}{Q:Value->Shared->Prop}(M:s.heap.IsTupleIter j t i)(gt:s.heap.IsTuple t its)(U:its[i]? =some x)
  (q:∀h2,h2.IsTupleIter j t (i+1)->Heap.SameBut j s.heap h2->Q x {s with heap:=h2}):wpAny (model prog w) A (Builtin.SmallTypes.nextOf (.ref j)) Q E s:=by
 obtain⟨u,L,Y,I⟩:=id M;obtain⟨ut,O,_,nt,R⟩:=gt;unfold Builtin.SmallTypes.nextOf;refine wpAny_bind (uX (name:=Str.ofString "__next__") M.typeIs vQ
  (vt vQ M.typeIs F.entry_tuple_iterator_next ?_ (F.args_tuple_iterator_next_1 _)))
 show wpAny _ _ (field (.ref j) 0>>=_) _ _ s;refine wpAny_bind (uS L I (x:= .ref t) rfl ?_);show wpAny _ _ (if(Value.ref t==Value.none)=true then _ else _) _ _ s
 rw [if_neg (show¬(Value.ref t==Value.none)=true from u8)]
 show wpAny _ _ (field (.ref j) 1>>=_) _ _ s;refine wpAny_bind (uS L I (x:= .int i 0) rfl ?_);show wpAny _ _ (seqItems? (.ref t)>>=_) _ _ s;refine wpAny_bind (U8 O R ?_);simp only [Int.toNat_natCast,U];refine wpAny_bind (wpAny_setField L I (by simp) (uc ⟨x,rfl,uc (q _ ?_ (Heap.SameBut.update ..))⟩))
 exact⟨_,Heap.get?_update_self _ L (Obj.isFreed_of_fields (Obj.data_mapFields I _)),(Obj.cls_mapFields ..).trans Y,by rw [Obj.data_mapFields I];simp [rawInt]⟩
theorem tdraw_end {j t:Addr}{i:Nat}{its:Array Value}{Q:Value->Shared->Prop}(U:A.handled=none)(I:s.heap.IsTupleIter j t i)(gt:s.heap.IsTuple t its)(Y:its[i]? =none)
  (q:∀h2 e,Heap.ExtBut j s.heap h2->(∃u,h2.get? e=some u/\u.cls= .type "StopIteration")->E (.ref e) {s with heap:=h2}):wpAny (model prog w) A (Builtin.SmallTypes.nextOf (.ref j)) Q E s:=by
 obtain⟨u,L,cu,M⟩:=id I;obtain⟨ut,O,_,nt,R⟩:=gt;unfold Builtin.SmallTypes.nextOf;refine wpAny_bind (uX (name:=Str.ofString "__next__") I.typeIs vQ
  (vt vQ I.typeIs F.entry_tuple_iterator_next ?_ (F.args_tuple_iterator_next_1 _)))
 show wpAny _ _ (field (.ref j) 0>>=_) _ _ s;refine wpAny_bind (uS L M (x:= .ref t) rfl ?_);show wpAny _ _ (if(Value.ref t==Value.none)=true then _ else _) _ _ s
 rw [if_neg (show¬(Value.ref t==Value.none)=true from u8)]
 show wpAny _ _ (field (.ref j) 1>>=_) _ _ s;refine wpAny_bind (uS L M (x:= .int i 0) rfl ?_);show wpAny _ _ (seqItems? (.ref t)>>=_) _ _ s;refine wpAny_bind (U8 O R ?_);simp only [Int.toNat_natCast,Y];refine wpAny_bind (Ut (wpAny_bind (wpAny_setField L M (by simp) ?_)))
 show wpAny _ _ (newExc (.type "StopIteration") []>>=_) _ _ _;refine wpAny_bind ?_;simp only [newExc,newTuple];refine wpAny_bind (uV ?_ (by size_fits))
 refine wpAny_bind (m:=firstArgMember _ _) (wpAny_of_eq (a:=Value.none) (by first|rfl|(simp only [firstArgMember];rfl)) ?_)
 refine uV ?_ (by size_fits)
 simp only [raiseNew];refine wpAny_bind (wpAny_handled ?_)
 first|rw [show A.in1.handled=none from U]|rw [U]
 refine wpAny_bind (uc (wpAny_throw ?_));exact q _ _ (((Heap.SameBut.update ..).extBut.push _).push _) ⟨_,uw _ rfl,rfl⟩
structure Apt (z p r i j a b:Addr):Prop where
 pz:p≠z
 rz:r≠z
 iz:i≠z
 jz:j≠z
 pr:p≠r
 pi:p≠i
 pj:p≠j
 ri:r≠i
 rj:r≠j
 ij:i≠j
 az:a≠z
 ar:a≠r
 ai:a≠i
 aj:a≠j
 bz:b≠z
 br:b≠r
 bi:b≠i
 bj:b≠j
theorem ziptl {z p r i j a b:Addr}{k:Nat}{xs ys:Array Value}{x y u v:Value}{Q:Value->Shared->Prop}(D:Apt z p r i j a b)
  (O:IsZip s.heap z p r .none) (hp:IsPair s.heap p (.ref i) (.ref j)) (hr:IsPair s.heap r u v)
  (hi:s.heap.IsTupleIter i a k) (hj:s.heap.IsListIter j b k) (ha:s.heap.IsTuple a xs) (hb:s.heap.IsList b ys) (hx:xs[k]? =some x) (hy:ys[k]? =some y)
  (q:∀h2,IsZip h2 z p r (rawInt s.heap.objs.size)->IsPair h2 r x y->h2.IsTupleIter i a (k+1)->h2.IsListIter j b (k+1)->IsPair h2 s.heap.objs.size x y->h2.objs.size=s.heap.objs.size+1->
   (∀c o,c≠z->c≠r->c≠i->c≠j->s.heap.get? c=some o->h2.get? c=some o)->Q (.ref s.heap.objs.size) {s with heap:=h2}):
  wpAny (model prog w) A (Builtin.«zip.__next__» ⟨[.ref z],[]⟩) (fun aa t=>∃v,aa= .done (.ret v)/\Q v t) E s:=by
 show wpAny _ _ (field (.ref z) 2>>=_) _ _ _;refine wpAny_bind (uS O rfl (x:= .bool false) rfl ?_);show wpAny _ _ (field (.ref z) 3>>=_) _ _ _;refine wpAny_bind (uS O rfl (x:= .ref p) rfl ?_);refine wpAny_bind (U8 hp rfl ?_);show wpAny _ _ (Builtin.SmallTypes.ownedTupleIsFree (.ref z)>>=_) _ _ s;refine wpAny_bind ?_;unfold Builtin.SmallTypes.ownedTupleIsFree;refine wpAny_bind (uS O rfl (x:= .none) rfl (uc ?_));simp only [UK];refine wpAny_bind (Ut ?_);refine wpAny_bind (uS O rfl (x:= .ref r) rfl ?_);refine wpAny_bind (vg O (by simp) fun h1 z1 s1=> ?_)
 replace z1:IsZip h1 z p r .ellipsis:=z1
 refine wpAny_bind ?_;simp only [List.zipIdx_cons,List.zipIdx_nil,Ue,List.forIn_nil];refine wpAny_bind (wpAny_bind (wpAny_onRaise ?_));show wpAny _ _ (Builtin.SmallTypes.nextOf (.ref i)>>=_) _ _ _;refine wpAny_bind (tdraw (hi.extBut s1.extBut D.iz) (ha.extBut s1.extBut D.az) hx fun h2 i2 s2=>uc ?_);have r2:IsPair h2 r u v:=s2.extBut _ _ D.ri (s1.extBut _ _ D.rz hr);refine wpAny_bind (U8 r2 rfl ?_);refine wpAny_bind (wpAny_updateSeq_pair r2 fun h3 r3 M=> ?_)
 replace r3:IsPair h3 r x v:=r3
 refine wpAny_bind (wpAny_letGo (uc ?_));refine wpAny_bind (wpAny_bind (wpAny_onRaise ?_));show wpAny _ _ (Builtin.SmallTypes.nextOf (.ref j)>>=_) _ _ _;refine wpAny_bind (wpAny_nextOf_list_item (((hj.extBut s1.extBut D.jz).extBut s2.extBut D.ij.symm).extBut M.extBut D.rj.symm)
  (((hb.extBut s1.extBut D.bz).extBut s2.extBut D.bi).extBut M.extBut D.br) hy fun h4 j4 R=>uc ?_)
 have r4:IsPair h4 r x v:=R.extBut _ _ D.rj r3;refine wpAny_bind (U8 r4 rfl ?_);refine wpAny_bind (wpAny_updateSeq_pair r4 fun I r5 U=> ?_)
 replace r5:IsPair I r x y:=r5
 refine wpAny_bind (wpAny_letGo (uc (uc ?_)));refine wpAny_bind (U8 r5 rfl ?_);refine wpAny_bind (wpAny_newTuple ?_);have sz:I.objs.size=s.heap.objs.size:=by rw [U.1,R.1,M.1,s2.1,s1.1]
 have z5:IsZip I z p r .ellipsis:=U.extBut _ _ D.rz.symm (R.extBut _ _ D.jz.symm (M.extBut _ _ D.rz.symm (s2.extBut _ _ D.iz.symm z1)));have k5:∀c o,c≠z->c≠r->c≠i->c≠j->s.heap.get? c=some o->I.get? c=some o:=fun c o L c2 c3 c4 e=>
  U.extBut _ _ c2 (R.extBut _ _ c4 (M.extBut _ _ c2 (s2.extBut _ _ c3 (s1.extBut _ _ L e))))
 have i5:I.IsTupleIter i a (k+1):=((i2.extBut M.extBut D.ri.symm).extBut R.extBut D.ij).extBut U.extBut D.ri.symm;have j5:I.IsListIter j b (k+1):=j4.extBut U.extBut D.rj.symm;have Y:z<I.objs.size:=uk z5;show wpAny _ _ (Builtin.SmallTypes.ownedTupleHandOut (.ref z) (.ref I.objs.size)>>=_) _ _ _;refine wpAny_bind ?_;unfold Builtin.SmallTypes.ownedTupleHandOut;have z6:IsZip (I.push {cls:= .type "tuple",data:= .seq #[x,y]}) z p r .ellipsis:=u3 _ z5;refine wpAny_bind (vg z6 (by simp) fun h7 z7 s7=> ?_)
 replace z7:IsZip h7 z p r (rawInt I.objs.size):=z7
 refine vg z7 (by simp) fun h8 z8 s8=> ?_
 replace z8:IsZip h8 z p r (rawInt I.objs.size):=z8
 have up:∀c o,c≠z->I.get? c=some o->h8.get? c=some o:=fun c o L e=>s8.extBut _ _ L (s7.extBut _ _ L (u3 _ e));have t8:IsPair h8 I.objs.size x y:=s8.extBut _ _ (U3 Y) (s7.extBut _ _ (U3 Y) (uw _ rfl));have n8:h8.objs.size=I.objs.size+1:=by rw [s8.1,s7.1,vd]
 rw [sz] at z8 t8 n8;refine uc ⟨_,rfl,?_⟩;show Q (.ref I.objs.size) _;rw [sz];exact q h8 z8 (up _ _ D.rz r5) (by obtain⟨o,e,g⟩:=i5;exact⟨o,up _ o D.iz e,g⟩) (j5.at fun o e=>up _ o D.jz e) t8 n8 fun c o L c2 c3 c4 e=>up c o L (k5 c o L c2 c3 c4 e)
theorem zip_go {z p r i j a b:Addr}{k:Nat}{xs ys:Array Value}{x y u v:Value}{Q:Option Value->Shared->Prop}(D:Apt z p r i j a b)
  (I:IsZip s.heap z p r .none) (M:IsPair s.heap p (.ref i) (.ref j)) (O:IsPair s.heap r u v)
  (hi:s.heap.IsTupleIter i a k) (R:s.heap.IsListIter j b k) (ha:s.heap.IsTuple a xs) (U:s.heap.IsList b ys) (Y:xs[k]? =some x) (hy:ys[k]? =some y)
  (q:∀h2,IsZip h2 z p r (rawInt s.heap.objs.size)->IsPair h2 r x y->h2.IsTupleIter i a (k+1)->h2.IsListIter j b (k+1)->IsPair h2 s.heap.objs.size x y->h2.objs.size=s.heap.objs.size+1->
   (∀c o,c≠z->c≠r->c≠i->c≠j->s.heap.get? c=some o->h2.get? c=some o)->Q (some (.ref s.heap.objs.size)) {s with heap:=h2}):
  wpAny (model prog w) A (pyNext (.ref z)) Q E s:=by
 have L:s.TypeIs (.ref z) "zip":=⟨_,I,rfl⟩;unfold pyNext;exact wpAny_bind (U5 (uX (name:=Str.ofString "__next__") L F.slot_zip_next
  (vt F.slot_zip_next L F.entry_zip_next (ziptl D I M O hi R ha U Y hy fun h2 b1 b2 b3 b4 b5 b6 b7=>uc (q h2 b1 b2 b3 b4 b5 b6 b7)) (F.args_zip_next_1 _))))
theorem zip_stop {z p r i j a b:Addr}{k:Nat}{xs:Array Value}{Q:Option Value->Shared->Prop}(hh:A.handled=none)(D:Apt z p r i j a b)
  (I:IsZip s.heap z p r .none) (hp:IsPair s.heap p (.ref i) (.ref j)) (hi:s.heap.IsTupleIter i a k) (ha:s.heap.IsTuple a xs) (hx:xs[k]? =none)
  (q:∀h2,(∀c o,c≠z->c≠r->c≠i->c≠j->s.heap.get? c=some o->h2.get? c=some o)->Q none {s with heap:=h2}):wpAny (model prog w) A (pyNext (.ref z)) Q E s:=by
 have O:s.TypeIs (.ref z) "zip":=⟨_,I,rfl⟩;unfold pyNext;refine wpAny_bind (U5 (uX (name:=Str.ofString "__next__") O F.slot_zip_next
  (vt F.slot_zip_next O F.entry_zip_next ?_ (F.args_zip_next_1 _))))
 show wpAny _ _ (field (.ref z) 2>>=_) _ _ _;refine wpAny_bind (uS I rfl (x:= .bool false) rfl ?_);show wpAny _ _ (field (.ref z) 3>>=_) _ _ _;refine wpAny_bind (uS I rfl (x:= .ref p) rfl ?_);refine wpAny_bind (U8 hp rfl ?_);show wpAny _ _ (Builtin.SmallTypes.ownedTupleIsFree (.ref z)>>=_) _ _ s;refine wpAny_bind ?_;unfold Builtin.SmallTypes.ownedTupleIsFree;refine wpAny_bind (uS I rfl (x:= .none) rfl (uc ?_));simp only [UK];refine wpAny_bind (Ut ?_);refine wpAny_bind (uS I rfl (x:= .ref r) rfl ?_);refine wpAny_bind (vg I (by simp) fun h1 L s1=> ?_)
 replace L:IsZip h1 z p r .ellipsis:=L
 refine wpAny_bind ?_;simp only [List.zipIdx_cons,List.zipIdx_nil,Ue,List.forIn_nil];refine wpAny_bind (wpAny_bind (wpAny_onRaise ?_));show wpAny _ _ (Builtin.SmallTypes.nextOf (.ref i)>>=_) _ _ _;refine wpAny_bind (tdraw_end hh (hi.extBut s1.extBut D.iz) (ha.extBut s1.extBut D.az) hx fun h2 e s2 he=> ?_);obtain⟨oe,M,R⟩:=he;have U:IsZip h2 z p r .ellipsis:=s2 _ _ D.iz.symm L;have ez:e≠z:=fun x=>by subst x;rw [U] at M;cases M;simp at R
 refine vg U (by simp) fun h3 _ Y=> ?_
 refine wpAny_bind (Uq (T:="StopIteration") (b:=true) ⟨oe,Y.extBut _ _ ez M,R⟩ isSubtype_stop ?_);exact uc (q _ fun c o c1 _ c3 _ x=>Y.extBut _ _ c1 (s2 _ _ c3 (s1.extBut _ _ c1 x)))
abbrev q1 (h:Heap)(a:Addr):Heap:=h.push {cls:= .type "tuple_iterator",data:= .fields #[.ref a,.int 0 0]}
abbrev q2 (h:Heap)(a b:Addr):Heap:=(q1 h a).push {cls:= .type "list_iterator",data:= .fields #[.ref b,.int 0 0]}
abbrev q3 (h:Heap)(a b:Addr):Heap:=(q2 h a b).push {cls:= .type "tuple",data:= .seq #[.ref h.objs.size,.ref (q1 h a).objs.size]}
abbrev q4 (h:Heap)(a b:Addr):Heap:=(q3 h a b).push {cls:= .type "tuple",data:= .seq #[.none,.none]}
abbrev q5 (h:Heap)(a b:Addr):Heap:=(q4 h a b).push {cls:= .type "zip",data:= .fields #[.none,.bool false,.bool false,.ref (q2 h a b).objs.size,.ref (q3 h a b).objs.size]}
theorem zip_made (a b:Addr)(xs ys:Array Value):Meets (Builtin.«zip.__new__» ⟨[.type "zip",.ref a,.ref b],[]⟩) (fun _ R s=>s.heap.IsTuple a xs/\s.heap.IsList b ys/\R (.ok (.ret (.ref (q4 s.heap a b).objs.size))) {s with heap:=q5 s.heap a b}):=
 .of_wp fun prog w A R s h=>by
  obtain⟨I,g,d,tk,os⟩:=s;obtain⟨ha,L,h⟩:=h;have sub:=sub_zip;have h1:Heap.IsTuple (Shared.heap ⟨I,g,d,tk,os⟩) a xs:=ha;have h2:Heap.IsList (Shared.heap ⟨I.push {cls:= .type "tuple_iterator",data:= .fields #[.ref a,.int 0 0]},g,d,tk,os⟩) b ys:=Heap.IsList.push L _
  wp_walk using vS h1,UD h2
  exact⟨_,rfl,h⟩
theorem zip_call {a b:Addr}{xs ys:Array Value}{Q:Value->Shared->Prop}(ha:s.heap.IsTuple a xs)(hb:s.heap.IsList b ys)
  (h:∀h2,IsZip h2 (s.heap.objs.size+4) (s.heap.objs.size+2) (s.heap.objs.size+3) .none->IsPair h2 (s.heap.objs.size+2) (.ref s.heap.objs.size) (.ref (s.heap.objs.size+1))->
   IsPair h2 (s.heap.objs.size+3) .none .none->h2.IsTupleIter s.heap.objs.size a 0->h2.IsListIter (s.heap.objs.size+1) b 0->h2.objs.size=s.heap.objs.size+5->
   (∀c o,s.heap.get? c=some o->h2.get? c=some o)->Q (.ref (s.heap.objs.size+4)) {s with heap:=h2}):wpAny (model prog w) A (call (.type "zip") [.ref a,.ref b]) Q E s:=by
 refine callType_new F.called_zip (by decide) (F.typeCall_zip_2 _ _) (F.newCall_zip_2 _ _) (fun obj=>F.args_object_init_3 obj _ _) F.entry_zip_new (zip_made a b xs ys) ⟨ha,hb,?_⟩
 have I:(q1 s.heap a).objs.size=s.heap.objs.size+1:=vd ..;have L:(q2 s.heap a b).objs.size=s.heap.objs.size+2:=by rw [vd,I]
 have M:(q3 s.heap a b).objs.size=s.heap.objs.size+3:=by rw [vd,L]
 have O:(q4 s.heap a b).objs.size=s.heap.objs.size+4:=by rw [vd,M]
 have z5:(q5 s.heap a b).objs.size=s.heap.objs.size+5:=by rw [vd,O]
 have R:(q5 s.heap a b).get? (q4 s.heap a b).objs.size=some _:=uw _ rfl;have U:(q5 s.heap a b).get? (q3 s.heap a b).objs.size=some _:=u3 _ (uw _ rfl);have Y:(q5 s.heap a b).get? (q2 s.heap a b).objs.size=some _:=u3 _ (u3 _ (uw _ rfl));have g2:(q5 s.heap a b).get? (q1 s.heap a).objs.size=some _:=u3 _ (u3 _ (u3 _ (uw _ rfl)));have g1:(q5 s.heap a b).get? s.heap.objs.size=some _:=u3 _ (u3 _ (u3 _ (u3 _ (uw _ rfl))));show _/\_;rw [L,M,O] at R;rw [I,L] at Y;rw [M] at U;rw [I] at g2;rw [O];exact⟨⟨_,R,rfl⟩,h _ R Y U ⟨_,g1,rfl,rfl⟩ ⟨_,g2,rfl,rfl⟩ z5 fun c o x=>u3 _ (u3 _ (u3 _ (u3 _ (u3 _ x))))⟩
theorem enumt {e j t:Addr}{i:Nat}{c:Int}{its:Array Value}{x I:Value}{Q:Value->Shared->Prop}(he:IsEnum s.heap e j c I)(gj:s.heap.IsTupleIter j t i)(gt:s.heap.IsTuple t its)(gx:its[i]? =some x)(U:e≠j)
  (q:∀h2,IsEnumOut h2 e j (c+1) x s.heap.objs.size->h2.IsTupleIter j t (i+1)->h2.get? s.heap.objs.size=some {cls:= .type "tuple",data:= .seq #[.int c s.toks,x]}->h2.objs.size=s.heap.objs.size+1->
   (∀b o,b≠e->b≠j->s.heap.get? b=some o->h2.get? b=some o)->Q (.ref s.heap.objs.size) {s with heap:=h2,toks:=s.toks+1}):
  wpAny (model prog w) A (Builtin.«enumerate.__next__» ⟨[.ref e],[]⟩) (fun aa t=>∃v,aa= .done (.ret v)/\Q v t) E s:=by
 obtain⟨L,g,d,tk,os⟩:=s;show wpAny _ _ (field (.ref e) 2>>=_) _ _ _;refine wpAny_bind (uS he rfl (x:= .ref j) rfl ?_);refine wpAny_bind (tdraw gj gt gx fun h1 j1 s1=> ?_)
 replace s1:Heap.SameBut j L h1:=s1
 have e1:IsEnum h1 e j c I:=(s1.2 e U).trans he;show wpAny _ _ (field (.ref e) 3>>=_) _ _ ⟨h1,g,d,tk,os⟩;refine wpAny_bind (uS e1 rfl (x:=rawInt c) rfl ?_);show wpAny _ _ (field (.ref e) 4>>=_) _ _ ⟨h1,g,d,tk,os⟩;refine wpAny_bind (uS e1 rfl (x:= .none) rfl ?_);show wpAny _ _ (mkInt c>>=_) _ _ ⟨h1,g,d,tk,os⟩;refine wpAny_bind (wpAny_mkInt ?_);show wpAny _ _ (setField (.ref e) 3 (rawInt (c+1))>>=_) _ _ ⟨h1,g,d,tk+1,os⟩;refine wpAny_bind (vg e1 (by simp) fun h2 e2 s2=> ?_)
 replace s2:Heap.SameBut e h1 h2:=s2
 replace e2:IsEnum h2 e j (c+1) I:=e2
 show wpAny _ _ (setField (.ref e) 4 .none>>=_) _ _ ⟨h2,g,d,tk+1,os⟩;refine wpAny_bind (vg e2 (by simp) fun M Y O=> ?_)
 replace O:Heap.SameBut e h2 M:=O
 replace Y:IsEnum M e j (c+1) I:=Y
 show wpAny _ _ (newTuple [.int c tk,x]>>=_) _ _ ⟨M,g,d,tk+1,os⟩;refine wpAny_bind (wpAny_newTuple ?_);have e4:IsEnum (M.push {cls:= .type "tuple",data:= .seq #[.int c tk,x]}) e j (c+1) I:=u3 _ Y;generalize R:M.push {cls:= .type "tuple",data:= .seq #[.int c tk,x]}=h4 at e4;have sz:M.objs.size=L.objs.size:=by rw [O.1,s2.1,s1.1]
 have el:e<L.objs.size:=uk he;have t4:h4.get? L.objs.size=some {cls:= .type "tuple",data:= .seq #[.int c tk,x]}:=by rw [<-R,<-sz];exact uw _ rfl
 have n4:h4.objs.size=L.objs.size+1:=by rw [<-R,vd,sz]
 have k4:∀b o,b≠e->b≠j->L.get? b=some o->h4.get? b=some o:=fun b o be bj y=>by
  rw [<-R];exact u3 _ (O.extBut b o be (s2.extBut b o be (s1.extBut b o bj y)))
 have j4:h4.IsTupleIter j t (i+1):=by
  obtain⟨o,y,r⟩:=j1;exact⟨o,by rw [<-R];exact u3 _ (O.extBut j o (U9 U) (s2.extBut j o (U9 U) y)),r⟩
 show wpAny _ _ (Builtin.SmallTypes.ownedTupleIsFree (.ref e)>>=_) _ _ ⟨h4,g,d,tk+1,os⟩;rw [sz];clear R Y O e2 s2 e1 s1 j1 sz M h2 h1;refine wpAny_bind ?_;unfold Builtin.SmallTypes.ownedTupleIsFree;refine wpAny_bind (uS e4 rfl (x:= .none) rfl (uc ?_));simp only [UK];refine wpAny_bind (Ut ?_);refine wpAny_bind (uS e4 rfl (x:=I) rfl ?_);refine wpAny_bind (vg e4 (by simp) fun h5 e5 s5=> ?_)
 replace s5:Heap.SameBut e h4 h5:=s5
 replace e5:IsEnum h5 e j (c+1) x:=e5
 show wpAny _ _ (Builtin.SmallTypes.ownedTupleHandOut (.ref e) (.ref L.objs.size)>>=_) _ _ ⟨h5,g,d,tk+1,os⟩;refine wpAny_bind ?_;unfold Builtin.SmallTypes.ownedTupleHandOut;refine wpAny_bind (vg e5 (by simp) fun h6 e6 s6=> ?_)
 replace s6:Heap.SameBut e h5 h6:=s6
 replace e6:IsEnumOut h6 e j (c+1) x L.objs.size:=e6
 refine vg e6 (by simp) fun h7 e7 s7=> ?_
 replace s7:Heap.SameBut e h6 h7:=s7
 replace e7:IsEnumOut h7 e j (c+1) x L.objs.size:=e7
 have up:∀b o,b≠e->h4.get? b=some o->h7.get? b=some o:=fun b o be y=>s7.extBut b o be (s6.extBut b o be (s5.extBut b o be y));refine wpAny_bind (wpAny_letGo (uc ⟨_,rfl,q h7 e7 ?_ (up _ _ (U3 el) t4) ?_ fun b o be bj y=>up b o be (k4 b o be bj y)⟩))
 ·obtain⟨o,y,r⟩:=j4;exact⟨o,up j o (U9 U) y,r⟩
 ·rw [s7.1,s6.1,s5.1,n4]
theorem enum_go {e j t:Addr}{i:Nat}{c:Int}{its:Array Value}{x I:Value}{Q:Option Value->Shared->Prop}(L:IsEnum s.heap e j c I)(M:s.heap.IsTupleIter j t i)(gt:s.heap.IsTuple t its)(O:its[i]? =some x)(R:e≠j)
  (q:∀h2,IsEnumOut h2 e j (c+1) x s.heap.objs.size->h2.IsTupleIter j t (i+1)->h2.get? s.heap.objs.size=some {cls:= .type "tuple",data:= .seq #[.int c s.toks,x]}->h2.objs.size=s.heap.objs.size+1->
   (∀b o,b≠e->b≠j->s.heap.get? b=some o->h2.get? b=some o)->Q (some (.ref s.heap.objs.size)) {s with heap:=h2,toks:=s.toks+1}):wpAny (model prog w) A (pyNext (.ref e)) Q E s:=by
 have te:s.TypeIs (.ref e) "enumerate":=⟨_,L,rfl⟩;unfold pyNext;exact wpAny_bind (U5 (uX (name:=Str.ofString "__next__") te Uf
  (vt Uf te F.entry_enumerate_next (enumt L M gt O R fun h2 b1 b2 b3 b4 U=>uc (q h2 b1 b2 b3 b4 U)) (F.args_enumerate_next_1 _))))
theorem enum_stop {e j t:Addr}{i:Nat}{c:Int}{its:Array Value}{I:Value}{Q:Option Value->Shared->Prop}(M:A.handled=none)(L:IsEnum s.heap e j c I)(O:s.heap.IsTupleIter j t i)(gt:s.heap.IsTuple t its)(R:its[i]? =none)
  (q:∀h2,Heap.ExtBut j s.heap h2->Q none {s with heap:=h2}):wpAny (model prog w) A (pyNext (.ref e)) Q E s:=by
 have te:s.TypeIs (.ref e) "enumerate":=⟨_,L,rfl⟩;unfold pyNext;refine wpAny_bind (U5 (uX (name:=Str.ofString "__next__") te Uf
  (vt Uf te F.entry_enumerate_next ?_ (F.args_enumerate_next_1 _))))
 show wpAny _ _ (field (.ref e) 2>>=_) _ _ _;refine wpAny_bind (uS L rfl (x:= .ref j) rfl ?_);refine wpAny_bind (tdraw_end M O gt R fun h2 y s2 U=> ?_);obtain⟨o,g,c⟩:=U;refine wpAny_bind (Uq (T:="StopIteration") (b:=true) ⟨o,g,c⟩ isSubtype_stop ?_);exact uc (q _ s2)
theorem w_tc (T:String)(args:List Value)(kw:List (Str×Value)):(Code.builtin "type.__call__" ⟨.type T::args,kw⟩).weight=0:=rfl
theorem new_kw {T L:String}{Bn:Builtin}{args:List Value}{kw:List (Str×Value)}{S:PySem.Spec}{Q:Value->Shared->Prop}(I:TypeCalled T L "object.__init__")
  (ac:(some L !=some "object.__new__")=true) (ad:checkTypeCall T ⟨args,kw⟩=pure Unit.unit) (U:checkBuiltinCall L ⟨.type T::args,kw⟩=pure Unit.unit)
  (hok:∀obj,argsOk "object.__init__" ⟨obj::args,kw⟩) (en:entryFor table L=some Bn) (g:Meets (Bn ⟨.type T::args,kw⟩) S)
  (h:S A.in1 (wants (fun obj s1=>s1.TypeIs obj T/\Q obj s1) E) s):wpAny (model prog w) A (call (.type T) args kw) Q E s:=by
 obtain⟨c,tl,hm⟩:=I.mro;have Y:=I.made;have ab:=I.sub;refine UE (codeAny_of_tree ?_);show wpAny _ _ (callAny (.type T) _) _ _ _;refine uc ⟨Code.quiet_builtin _ (by decide+kernel),codeAny_builtin F.entry_type_call ?_⟩
 rw [Around.under_plain (w_tc T args kw) (units_type_call_type T args kw)];have g1:=I.notType;have g2:=I.canCreate
 repeat (any_goals (first|assumption|wp_step))
 refine Ud (vY I.plain en (wpAny_of_eq U (g prog w A.in1 _ s h))) fun r s1 hr=> ?_;cases r with
 |error e=>exact hr
 |ok fl=>
  cases fl with
  |ret obj=>
   obtain⟨hT,O⟩:=hr;have ae:=I.init.lookup;have af:=I.init.bind obj
   repeat (any_goals (first|assumption|wp_step))
   have gi:Meets (Builtin.«object.__init__» ⟨obj::args,kw⟩) (fun _ R s=>s.TypeIs obj T/\R (.ok (.ret .none)) s):=by
    refine Meets.of_wp fun prog w A R s hs=> ?_;obtain⟨hT,O⟩:=hs;cases hc:(!args.isEmpty|| !kw.isEmpty) with
    |false=>
     show wpAny _ _ (if(!args.isEmpty|| !kw.isEmpty)=true then _ else _) _ _ _
     rw [if_neg (by rw [hc];exact u8)]
     exact uc ⟨_,rfl,O⟩
    |true=>
     repeat (any_goals (first|assumption|wp_step))
     exact⟨_,rfl,O⟩
   refine Ud (vY I.init.plain F.entry_object_init (I.init.check _ _ _ _ _ _ _ _ hT (hok obj) (gi prog w A.in1 (wants (fun r s2=>r= .none/\Q obj s2) E) s1 ⟨hT,rfl,O⟩))) fun r2 s2 M=> ?_;cases r2 with
   |error e=>exact M
   |ok aa=>
    cases aa with
    |ret r=>
     obtain⟨rfl,O⟩:=M
     repeat (any_goals (first|assumption|wp_step))
    |_=>exact M.elim
  |_=>exact hr.elim
end
end AwZ
namespace L2
open PySem PySem.Spec PyProof.Rows
def Its (x:Str):It:=⟨fun i _=>i<x.cps.size,fun i H v H'=>H'=H/\∃c,x.cps[i]? =some c/\v= .str ⟨#[c]⟩,fun i _=>i=x.cps.size⟩
theorem turn_str {P:Program}{w:World}{K:PySem.W.Frag}{tg:Expr}{x:Str}{t:Tok}{it:Addr}(ty:String)(L:ty="str_ascii_iterator"∨ty="str_iterator"):
  Turn P w K tg (Its x) [it] it (fun i h=>h.IsStrIter it ty x t i) where
 mem:=by simp
 obj:=fun i h st b M=>by
  have e:b=it:=by simpa using M
  subst e;obtain⟨o,e,c,d⟩:=st;exact⟨o,e,fun v z=>by rw [d] at z;cases z⟩
 keep:=fun i h h' st k=>by
  obtain⟨o,e,r⟩:=st;exact⟨o,k it (by simp) o e,r⟩
 item:=by
  intro X Y hw hK O i pins s σ H E I U st hg;subst Y hw hK;obtain⟨f0,f1,f2,f3,f4,f5⟩:=U it (by simp)
  have W:Walks X.prog X.w X.A it [it] [it] x.cps.size (SignAt x) (fun i h=>h.IsStrIter it ty x t i):=by
   rcases L with rfl|rfl
   ·exact Walks.strAscii (I.ok.hd O) it x t
   ·exact Walks.strWide (I.ok.hd O) it x t
  refine uR (n:=1) I.tk (W.item i s _ _ hg st fun v h' tk hv R kk=> ?_);intro htk;obtain⟨c,u,hx,rfl⟩:=hv;have I1:Inv X pins σ H {s with heap:=h',toks:=tk}:=I.turned (fun b o M e=>kk b o (by simpa using M) e) f0 f1 f3 f4 f5
  obtain⟨o,e,c',d⟩:=id R;refine⟨_,rfl,go_of (s:={s with heap:=h',toks:=tk}) e c' d (by rcases L with rfl|rfl<;>decide) ⟨.str ⟨#[c]⟩,H,I1,⟨u,rfl⟩,⟨rfl,c,hx,rfl⟩,R,fun b M=>(U b M).1⟩⟩
 done:=by
  intro X Y hw hK O i pins s σ H E I U st hg;subst Y hw hK;have aa:i=x.cps.size:=hg;subst aa;obtain⟨f0,f1,f2,f3,f4,f5⟩:=U it (by simp)
  have W:Walks X.prog X.w X.A it [it] [it] x.cps.size (SignAt x) (fun i h=>h.IsStrIter it ty x t i):=by
   rcases L with rfl|rfl
   ·exact Walks.strAscii (I.ok.hd O) it x t
   ·exact Walks.strWide (I.ok.hd O) it x t
  exact uR (n:=1) I.tk (W.done s _ _ st fun h' tk kk htk=>⟨rfl,I.turned (fun b o M e=>kk b o (by simpa using M) e) f0 f1 f3 f4 f5⟩)
 self:=fun _ _ _ _ _ st h=>by
  rcases L with rfl|rfl
  ·exact wpAny_pyIter_striter_ascii st h
  ·exact wpAny_pyIter_striter_wide st h
section
variable {X:Cx}{tg:Expr}
def iStr (tl:TE):TI:=fun σ H R=>tl σ H fun x H1=>∃z,x= .str z/\R (Its z) H1
theorem pi_str {l:Expr}{tl:TE}(M:PE X l tl):PI X tg l (iStr tl):=by
 intro pins s σ H R I h;refine thn (M pins s σ H _ I h) fun v s1 ⟨x,H1,L,O,q1⟩=> ?_;obtain⟨z,e,q⟩:=q1;subst e;obtain⟨t,rfl⟩:=O;have fp:∀(o:Obj),∀b∈ [s1.heap.objs.size],FpOk X pins H1 b:=fun o b U=>by
  have e:b=s1.heap.objs.size:=by simpa using U
  subst e;exact L.fpOk (ug _) (L.hok.fresh (ug _))
 cases ha:z.cps.all (·<128)
 ·refine wpAny_pyIter_wide ha ?_;exact⟨s1.heap.objs.size,[s1.heap.objs.size],_,_,H1,rfl,L.kept (t':=s1.toks) fun b o e=>u3 _ e,turn_str "str_iterator" (.inr rfl),⟨_,uw _ rfl,rfl,rfl⟩,fp default,q⟩
 ·refine wpAny_pyIter_ascii ha ?_;exact⟨s1.heap.objs.size,[s1.heap.objs.size],_,_,H1,rfl,L.kept (t':=s1.toks) fun b o e=>u3 _ e,turn_str "str_ascii_iterator" (.inl rfl),⟨_,uw _ rfl,rfl,rfl⟩,fp default,q⟩
def rSlS:V->Option Int->Option Int->Hp->VK->Prop:=fun x lo hi H Q=>∃z,x= .str z/\z.length<=sizeLine/\Q (.str (Txt.slice z lo hi)) H
def tokOf:Value->Option (Int×Tok)
 | .int i t=>some (i,t)
 |_=>none
theorem sl_str:SlR X rSlS:=by
 intro pins s σ H x v L M lo hi sl Q I U Y pl pu h;obtain⟨z,rfl,hz,q⟩:=h;obtain⟨t,rfl⟩:=U;refine⟨"str",_,F.slot_str_getitem.lookup,vK _ _ _,?_⟩;have O:L=partValue (tokOf L)/\lo=(tokOf L).map (·.1):=by cases pl<;>exact⟨rfl,rfl⟩
 have R:M=partValue (tokOf M)/\hi=(tokOf M).map (·.1):=by cases pu<;>exact⟨rfl,rfl⟩
 obtain⟨o,e1,e2,e3⟩:=Y;refine uR (n:=1) I.tk ?_;refine wpAny_getItem_str_slice (l:=tokOf L) (u:=tokOf M) (st:=none) ⟨o,e1,e2,by rw [e3,<-O.1,<-R.1];rfl⟩ rfl ?_
 refine post_val_or_str ⟨?_,fun t' k=> ?_⟩
 ·exact uP (Txt.slice_le z _ _) hz
 ·intro htk;exact⟨.str (Txt.slice z lo hi),H,I.tok k,⟨t',by rw [O.2,R.2];rfl⟩,q⟩
theorem qz {K:PySem.W.Frag}(M:X.K=K):yX X (.builtin "isinstance") (fun xs H Q=>∃x T t b,xs= [x,.ty T]/\TyOf K H x t/\PySem.W.kitOne K t (.type T)=some b/\Q (.bl b) H):=by
 intro pins s σ H xs us Q I r h;obtain⟨x,T,t,b,rfl,ty,e,q⟩:=h;obtain⟨u,O,rfl,ru,L⟩:=vals2 r;cases L;subst M;exact uR (n:=1) I.tk (isinst_ok I ru ty e fun tk htk=>⟨.bl b,H,I.tok tk,rfl,q⟩)
theorem all_range:∀bs:List Bool,(List.range bs.length).all (fun i=>bs.getD i true)=bs.all id
 | []=>rfl
 |b::r=>by
  rw [ud,List.range_succ_eq_map,vm,vU,vm];have e:(List.range r.length).all ((fun i=>(b::r).getD i true)∘Nat.succ)=(List.range r.length).all fun i=>r.getD i true:=by
   congr 1
  rw [e,all_range r]
  rfl
theorem yL (Y:X.calm=true):yX X (.builtin "all") (fun xs H Q=>∃(p:Addr) (bs:List Bool),xs= [.ref p]/\SqL X.K H p (bs.map V.bl)/\Q (.bl (bs.all id)) H):=by
 intro pins s σ H xs us Q I r h;obtain⟨p,bs,rfl,hp,q⟩:=h;obtain⟨u,rfl,ru⟩:=Jd r;cases ru;obtain⟨its,rv,pl,hz⟩:=I.list hp;have R:p<s.heap.objs.size:=by obtain⟨o,n,e,_⟩:=pl;exact uk e
 refine uR (n:=1) I.tk ?_;refine call_all_walk (UD pl.isList ?_);have up:∀b o,s.heap.get? b=some o->(s.heap.push {cls:= .type "list_iterator",data:= .fields #[.ref p,.int 0 0]}).get? b=some o:=fun b o e=>u3 _ e;have hl:its.length=bs.length:=by have:=rv.length;simpa using this.symm
 refine⟨s.heap.objs.size,_,_,_,_,_,fun i=>bs.getD i true,rfl,Walks.list (show X.A.in1.handled=none from I.ok.hd Y) s.heap.objs.size p (uK R) its.toArray,⟨⟨_,uw _ rfl,rfl,rfl⟩,pl.isList.push _⟩,?_,?_⟩
 ·intro i v s' Q' E' hv hQ;have L:its[i]? =some v:=by simpa using hv
  have hi:i<its.length:=(List.getElem?_eq_some_iff.mp L).1;obtain⟨u,e1,e2⟩:=rv.get (i:=i) (x:= .bl (bs[i]'(by omega))) (by simp [show i<bs.length by omega])
  rw [L] at e1;cases e1;cases e2;have:bs.getD i true=bs[i]'(by omega):=by simp [List.getD,show i<bs.length by omega]
  have M:Q' (bs.getD i true) s':=hQ;rw [this] at M;exact vc M
 ·intro h' tk kk htk;have O:(List.range its.toArray.size).all (fun i=>bs.getD i true)=bs.all id:=by
   rw [ue,hl];exact all_range bs
  rw [O];have I1:=I.kept (t':=s.toks) (h':=s.heap.push {cls:= .type "list_iterator",data:= .fields #[.ref p,.int 0 0]}) up;have U:=I.fpOk (ug _) (I.hok.fresh (ug s.heap.objs.size));obtain⟨f0,f1,f2,f3,f4,f5⟩:=U;exact⟨.bl (bs.all id),H,I1.turned (it:=s.heap.objs.size) (fun b o hb e=>kk b o (by simpa using hb) e) f0 f1 f3 f4 f5,rfl,q⟩
end
section
variable {X:Cx}
theorem op_repS:OpR X (binaryOp .Mult) (fun x y H Q=>∃z k,x= .str z/\y= .int k/\MulOk z k/\Q (.str (Txt.mul z k)) H):=by
 intro pins s σ H x y v u Q I L M h;obtain⟨z,k,rfl,rfl,hok,q⟩:=h;obtain⟨t,rfl⟩:=L;obtain⟨t',rfl⟩:=M;exact uR (n:=1) I.tk (SB.mul hok fun t' O htk=>⟨.str (Txt.mul z k),H,I.tok O,⟨t',rfl⟩,q⟩)
theorem pe_gI {x:Str}{i:Int}{pos:Pos}(I:Gl X x)(hm:∃t,X.mg x=some (.int i t))(hd:(x==("__debug__":Str))=false:=by decide):PE X (.Name x pos) (tC (.int i)):=by
 obtain⟨t,hm⟩:=hm;exact pe_glob I hm ⟨t,rfl⟩ hd
theorem pe_gS {x z:Str}{pos:Pos}(I:Gl X x)(hm:∃t,X.mg x=some (.str z t))(hd:(x==("__debug__":Str))=false:=by decide):PE X (.Name x pos) (tC (.str z)):=by
 obtain⟨t,hm⟩:=hm;exact pe_glob I hm ⟨t,rfl⟩ hd
theorem Jm {x:Str}{a:Addr}{pos:Pos}(I:Gl X x)(hm:X.mg x=some (.ref a))(hd:(x==("__debug__":Str))=false:=by decide):PE X (.Name x pos) (tC (.ref a)):=pe_glob I hm rfl hd
end
theorem qb {H:Hp}{p:Addr}(h:H p=none)(o:HO):Same H (upd H p o):=fun b u q=>by rw [qx (qr q h)];exact q
def Kept (p:Addr)(H H':Hp):Prop:=∀b o,H b=some o->b≠p->H' b=some o
theorem Kept.trans {p:Addr}{H H1 H2:Hp}(a:Kept p H H1)(b:Kept p H1 H2):Kept p H H2:=fun c o h n=>b c o (a c o h n) n
theorem Kept.upd (p:Addr)(H:Hp)(o:HO):Kept p H (L2.upd H p o):=fun b u h n=>by rw [qx n];exact h
theorem Kept.same {p:Addr}{H H1 H':Hp}(k:Kept p H1 H')(s:Same H H1)(n:H p=none):Same H H':=fun b o h=>k b o (s b o h) (qr h n)
theorem xN {α:Type}{xs:List α}{i:Int}(I:0<=i)(h1:i<xs.length):∃c,atI xs i=some c:=by
 obtain⟨n,rfl⟩:∃n:Nat,i=(n:Int):=⟨i.toNat,by omega⟩
 have hn:n<xs.length:=by omega
 exact⟨xs[n],qS (ul hn)⟩
noncomputable def clOf (cells:List (Str×Addr)):List (Str×NameKind)->List (Str×Addr)->List (Str×Addr)
 | [],cs=>cs
 |(n,k)::r,cs=>clOf cells r (if k== .free then(match cells.lookup n with|some a=>(n,a)::cs|none=>cs) else cs)
theorem Zt {cells:List (Str×Addr)}:∀{names:List (Str×NameKind)}{cs:List (Str×Addr)},(∀y c,cs.lookup y=some c->cells.lookup y=some c)->∀y c,(clOf cells names cs).lookup y=some c->cells.lookup y=some c
 | [],_,h=>h
 |(n,k)::r,cs,h=>by
  unfold clOf;refine Zt fun y c e=> ?_;split at e
  ·split at e
   ·rename_i a ha
    rw [v9] at e;split at e
    ·rename_i L
     have I:y=n:=beq_iff_eq.mp L;subst I;cases e;exact ha
    ·exact h y c e
   ·exact h y c e
  ·exact h y c e
theorem clOf_keep {cells:List (Str×Addr)}:∀{names:List (Str×NameKind)}{cs:List (Str×Addr)}{y:Str},(∃c,cs.lookup y=some c)->∃c,(clOf cells names cs).lookup y=some c
 | [],_,_,h=>h
 |(n,k)::r,cs,y,h=>by
  unfold clOf;refine clOf_keep ?_;split
  ·split
   ·rw [v9];split
    ·exact⟨_,rfl⟩
    ·exact h
   ·exact h
  ·exact h
theorem Zv {cells:List (Str×Addr)}:∀{names:List (Str×NameKind)}{cs:List (Str×Addr)}{y:Str},(y,NameKind.free)∈names->(∃c,cells.lookup y=some c)->∃c,(clOf cells names cs).lookup y=some c
 | [],_,_,h,_=>nomatch h
 |(n,k)::r,cs,y,h,I=>by
  unfold clOf;rcases List.mem_cons.mp h with e|h
  ·cases e;refine clOf_keep ?_;obtain⟨c,I⟩:=I;rw [if_pos (),I]
   exact⟨c,by simp [v9]⟩
  ·exact Zv h I
theorem xf {env:Env}:∀{names:List (Str×NameKind)}{cs:List (Str×Addr)},(∀y,(y,NameKind.free)∈names->∃c,env.cells.lookup y=some c)->
  (forIn names cs fun x r=>(do
   if x.2== .free then
    let a<-cellOf env x.1
    pure (ForInStep.yield ((x.1,a)::r))
   else pure (ForInStep.yield r):Sem (ForInStep (List (Str×Addr)))))=(pure (clOf env.cells names cs):Sem (List (Str×Addr)))
 | [],cs,_=>rfl
 |(n,k)::r,cs,h=>by
  rw [Ue];have M:∀y,(y,NameKind.free)∈r->∃c,env.cells.lookup y=some c:=fun y R=>h y (uh _ R);unfold clOf;by_cases I:(k==NameKind.free)=true
  ·have L:k= .free:=by simpa using I
   subst L;obtain⟨c,O⟩:=h n uq;have e:cellOf env n=pure c:=by unfold cellOf;rw [O]
   simp only [I,UK,e,O,pure_bind];exact xf M
  ·simp only [if_neg I,pure_bind];exact xf M
theorem zt {scope:Scope}{env:Env}(h:∀y,(y,NameKind.free)∈scope.names->∃c,env.cells.lookup y=some c):closureFor scope env=pure (clOf env.cells scope.names []):=by
 unfold closureFor;have q:=xf (cs:= []) h;show(forIn scope.names ([]:List (Str×Addr)) (fun x r=>(do
   if x.2== .free then
    let a<-cellOf env x.1
    pure (ForInStep.yield ((x.1,a)::r))
   else pure (ForInStep.yield r):Sem (ForInStep (List (Str×Addr)))))>>=fun cs=>pure cs)=_
 rw [q,pure_bind]
theorem xn {env:Env}(O:env.scope.kind= .function):∀{names:List (Str×NameKind)}{x:Str},names.lookup x=some .free->env.kindOf x=some .cell->
  (names.map fun(n,k)=>if(k==NameKind.free&&env.scope.kind== .function&&env.kindOf n==some .cell) then(n,NameKind.cell) else(n,k)).lookup x=some .cell
 | [],_,h,_=>by simp at h
 |(n,k)::r,x,h,hc=>by
  have R:= @xn env O r x;show List.lookup x ((if(k==NameKind.free&&env.scope.kind== .function&&env.kindOf n==some .cell)=true then(n,NameKind.cell) else(n,k))::_)=_
  cases I:x==n with
  |true=>
   simp only [v9,I] at h;cases h;have M:x=n:=beq_iff_eq.mp I;subst M;rw [if_pos (by rw [O,hc];rfl)]
   simp [v9]
  |false=>
   simp only [v9,I] at h;by_cases L:(k==NameKind.free&&env.scope.kind== .function&&env.kindOf n==some .cell)=true
   ·rw [if_pos L];simp only [v9,I];exact R h hc
   ·rw [if_neg L];simp only [v9,I];exact R h hc
theorem xT {env:Env}:∀{names:List (Str×NameKind)}{x:Str},(∀y∈names,y.2≠ .cell)->
  ((names.map fun(n,k)=>if(k==NameKind.free&&env.scope.kind== .function&&env.kindOf n==some .cell) then(n,NameKind.cell) else(n,k)).lookup x=some .cell∨
   (names.map fun(n,k)=>if(k==NameKind.free&&env.scope.kind== .function&&env.kindOf n==some .cell) then(n,NameKind.cell) else(n,k)).lookup x=some .free)->(x,NameKind.free)∈names
 | [],_,_,h=>by simp at h
 |(n,k)::r,x,hn,h=>by
  have R:= @xT env r x (fun y U=>hn y (uh _ U));have g:List.lookup x ((if(k==NameKind.free&&env.scope.kind== .function&&env.kindOf n==some .cell)=true then(n,NameKind.cell) else(n,k))::(r.map fun(n,k)=>if(k==NameKind.free&&env.scope.kind== .function&&env.kindOf n==some .cell) then(n,NameKind.cell) else(n,k)))=some .cell∨
   List.lookup x ((if(k==NameKind.free&&env.scope.kind== .function&&env.kindOf n==some .cell)=true then(n,NameKind.cell) else(n,k))::(r.map fun(n,k)=>if(k==NameKind.free&&env.scope.kind== .function&&env.kindOf n==some .cell) then(n,NameKind.cell) else(n,k)))=some .free:=h
  have O:k≠ .cell:=hn (n,k) uq;by_cases M:(k==NameKind.free&&env.scope.kind== .function&&env.kindOf n==some .cell)=true
  ·rw [if_pos M] at g;have Y:k= .free:=by
    rw [ui,ui] at M
    simpa using M.1.1
   subst Y;cases L:x==n with
   |true=>
    have I:x=n:=beq_iff_eq.mp L;subst I;exact uq
   |false=>
    simp only [v9,L] at g;exact uh _ (R g)
  ·rw [if_neg M] at g;cases L:x==n with
   |true=>
    have I:x=n:=beq_iff_eq.mp L;subst I;simp only [v9,L] at g;rcases g with g|g
    ·exact absurd (uQ g) O
    ·rw [show k=NameKind.free from uQ g]
     exact uq
   |false=>
    simp only [v9,L] at g;exact uh _ (R g)
abbrev blk (X:Cx)(scope:Scope)(Nb:List Str)(cl:List (Str×Addr))(C:Addr)(s₀:Shared)(H₀:Hp)(fp:List Addr)(pn:List (Addr×Obj)):Cx:=
 {X with N:=Nb,s₀:=s₀,H₀:=H₀,env:=compEnvC scope cl C X.env,outer:=X.stack,ex:=fp,fn:=fun _=>false,pn:=pn,xe:=fun _ _=>False}
structure LcS (X:Cx)(scope:Scope)(Nb:List Str)(nt:Nat)(fr:List Nat):Prop where
 kind:scope.kind= .function
 cell:∀y∈scope.names,y.2≠ .cell
 names:∀y∈scope.names,y.2= .local->scope.names.lookup y.1=some .local
 free:∀y∈scope.names,y.2= .free->X.env.kindOf y.1=some .cell
 len:Nb.length=nt+fr.length
 fr:∀(k j:Nat) (x:Str),fr[k]? =some j->Nb[nt+k]? =some x->X.N[j]? =some x/\scope.names.lookup x=some .free
def sigB (nt:Nat)(fr:List Nat)(σ:St):St:=List.replicate nt none++fr.map fun j=>(σ[j]?).join
theorem HOk.sameBut {P:Program}{w:World}{H:Hp}{h h':Heap}{C:Addr}(ok:HOk P w H h)(hn:H C=none)(L:Heap.SameBut C h h'):HOk P w H h':=fun b ob e=>by
 refine(ok b ob e).stay (fun c M I q=>(L.2 c ?_).trans q) (fun _ q=>q) fun _ _ q=>q;rintro rfl;rcases I with rfl|I
 ·rw [hn] at e;cases e
 ·rw [hn] at I;cases I
section
variable {pr:Program}{wo:World}{ar:Around}{RR:Result->Shared->Prop}{st:Shared}
abbrev nb (pr:Program)(wo:World)(ar:Around)(en:Env)(RR:Result->Shared->Prop):Value->Shared->Prop:=notedBy (model pr wo) ar en fun x t=>RR (.error x) t
abbrev tsts (en:Env)(cs:List Expr):Sem Bool:=forIn cs true fun c b=>if b=true then do let y<-isTrue c en (eval c en);pure (ForInStep.yield y) else pure (ForInStep.yield b)
theorem compLoop_by {U tg O:Expr}{cs:List Expr}{sc:Scope}{ps:Pos}{L M:Value}{I:Env}(J:Nat->Shared->Prop)
  (R:∀k t,J k t->wpAny (model pr wo) ar (pyNext L) (fun r Y=>match r with
   |none=>RR (.ok .next) Y
   |some v=>wpAny (model pr wo) ar (letOwnedTupleGo tg L v) (fun _ t2=>wpAny (model pr wo) ar (assign tg I v) (fun _ t3=>wpAny (model pr wo) ar (tsts I cs) (fun b t4=>
     if b=true then wpAny (model pr wo) ar (eval U I) (fun x t5=>wpAny (model pr wo) ar (call (.builtin "list.append") [M,x]) (fun _ t6=>∃m,m<k/\J m t6) (nb pr wo ar I RR) t5) (nb pr wo ar I RR) t4
     else∃m,m<k/\J m t4) (nb pr wo ar I RR) t3) (nb pr wo ar I RR) t2) (nb pr wo ar I RR) Y) (nb pr wo ar I RR) t)
  (k:Nat) (h0:J k st):codeAny (model pr wo) ar (.compLoop (.ListComp U [⟨tg,O,cs,0⟩] sc ps) 0 L M I) RR st:=by
 refine codeAny_loop rfl J (fun k t hJ=> ?_) k h0;show wpAny _ ar ((compTurn (.ListComp U [⟨tg,O,cs,0⟩] sc ps) 0 L M I).onRaise fun x=>do noteFrame x I;theTreesLotGoes x) _ _ t
 rw [compTurn_list];refine wpAny_noted (wpAny_bind (wpAny_standAt (wpAny_bind (thn (R k t hJ) fun r Y q1=> ?_))));cases r with
 |none=>exact uc q1
 |some v=>
  refine wpAny_bind (thn q1 fun _ t2 q2=>wpAny_bind (thn q2 fun _ t3 q3=>wpAny_bind (thn q3 fun b t4 q4=> ?_)));cases b with
  |false=>exact uc ⟨rfl,q4⟩
  |true=>exact wpAny_bind (wpAny_bind (thn q4 fun x t5 q5=>wpAny_bind (thn q5 fun _ t6 q6=>uc (uc ⟨rfl,q6⟩))))
end
def PIfs (X:Cx)(ifs:List Expr)(t:TT):Prop:=
 ∀(pins:List (Addr×Obj)) (s:Shared) (σ:St) (H:Hp) (Q:Bool->Hp->Prop),Inv X pins σ H s->t σ H Q->wpAny (model X.prog X.w) X.A (tsts X.env ifs) (TP X pins σ Q) X.xe s
def tYes:TT:=fun _ H Q=>Q true H
theorem QW {X:Cx}:PIfs X [] tYes:=fun _ _ _ H _ I h=>wpAny_tests_nil ⟨H,I,h⟩
def lcGo (D:Addr)(J:It)(g:TG)(tc:TT)(te:TE)(σb:St)(H1:Hp)(Q:VK):Prop:=
 ∃(n:Nat) (W:Nat->St->List V->Hp->Prop),n<=sizeLine/\W 0 σb [] (upd H1 D (.lst []))/\
  (∀i σ ys H,i<n->W i σ ys H->H D=some (.lst ys)->ys.length<=i->J.go i H/\∀x H',J.yld i H x H'->g x σ H' fun σ2 H2=>tc σ2 H2 fun b H3=>
   if b=true then te σ2 H3 fun y H4=>H4 D=some (.lst ys)/\W (i+1) σ2 (ys++ [y]) (upd H4 D (.lst (ys++ [y]))) else H3 D=some (.lst ys)/\W (i+1) σ2 ys H3)/\
  ∀σ ys H,W n σ ys H->H D=some (.lst ys)->J.stop n H/\Q (.ref D) H
def tLC (nt:Nat)(fr:List Nat)(wi:TI)(g:TG)(tc:TT)(te:TE):TE:=fun σ H Q=>wi σ H fun J H1=>∀D,H1 D=none->lcGo D J g tc te (sigB nt fr σ) H1 Q
section
variable {X:Cx}{scope:Scope}{Nb:List Str}{nt:Nat}{fr:List Nat}
theorem inv_blk {pins:List (Addr×Obj)}{σ:St}{H:Hp}{s:Shared}{fp:List Addr}{C:Addr}{h4:Heap}{tk:Nat}(S:LcS X scope Nb nt fr)(I:Inv X pins σ H s)(hC:C=s.heap.objs.size)
  (ad:h4.Ns C fun _=>none) (M:∀b o,s.heap.get? b=some o->h4.get? b=some o) (hf:∀b∈fp,FpOk X pins H b) (ho:∀b∈fp,∃o,s.heap.get? b=some o) (ht:0<tk:=by ac_rfl):
  Inv (blk X scope Nb (clOf X.env.cells scope.names []) C s H fp (X.pn++pins)) [] (sigB nt fr σ) H {s with heap:=h4,toks:=tk}:=by
 subst hC;have sub:∀y c,(clOf X.env.cells scope.names []).lookup y=some c->X.env.cells.lookup y=some c:=Zt fun y c e=>by simp at e
 have O:∀y,(y,NameKind.free)∈scope.names->X.env.kindOf y=some .cell:=fun y hy=>S.free _ hy rfl;have aa:∀b o,s.heap.get? b=some o->b≠s.heap.objs.size:=fun b o e z=>by rw [z] at e;exact absurd (uk e) (vC _)
 have L:∀b,b≠X.env.locals->b∉X.fs->b∉frs X.stack:=fun b h1 h2 z=>(List.mem_cons.mp (I.stkSub b z)).elim h1 h2;refine⟨⟨I.ok.mod,S.kind,I.ok.glob,I.ok.blt,ug _,fun x y c h1 h2=>I.ok.inj x y c (sub x c h1) (sub y c h2),fun x hx=> ?_,fun x c z=>(by cases z),I.ok.hd,I.ok.frames,.inl rfl,fun b U=> ?_,I.bs,uP I.ok.bsz I.sz,fun b o e U=> ?_,fun b U=> ?_,I.stack,I.stkFree⟩,
  rfl,I.bare,Un.kept M,⟨_,ad,fun i x v e1 e2 e3=> ?_⟩,fun x c e=> ?_,I.hok.fresh (ug _),fun x c e=>I.freeC x c (sub x c e),fun p hp=> ?_,I.hok.kept M,?_,ht⟩
 ·have hm:=xT (env:=X.env) S.cell hx;exact Zv hm (I.ok.has x (.inl (O x hm)))
 ·obtain⟨o,e⟩:=ho b U;exact⟨aa b o e,fun x c e'=>(hf b U).2.2.2.2.1 x c (sub x c e')⟩
 ·rcases(hf b U).2.2.2.1 with z|z
  ·exact I.ok.noex b o e z
  ·exact absurd (Nat.lt_of_lt_of_le (uk e) (uP I.ok.bsz z)) (vC _)
 ·exact L b (hf b U).2.1 (hf b U).2.2.1
 ·
  have hi:nt<=i:=by
   rcases UI i nt with z|z
   ·unfold sigB at e2;rw [Uo (by simpa using z),List.getElem?_replicate] at e2
    split at e2<;>cases e2
   ·exact z
  obtain⟨k,rfl⟩:∃k,i=nt+k:=⟨i-nt,by omega⟩
  unfold sigB at e2;rw [vx (by simp)] at e2
  simp only [List.length_replicate,Nat.add_sub_cancel_left,uM] at e2;cases ej:fr[k]? with
  |none=>rw [ej] at e2;cases e2
  |some j=>
   rw [ej] at e2;have R:(σ[j]?).join=some v:=uQ e2;have ab:σ[j]? =some (some v):=by
    cases q:σ[j]? with
    |none=>rw [q] at R;cases R
    |some z=>rw [q] at R;exact congrArg some R
   obtain⟨n1,n2⟩:=S.fr k j x ej e1;have kx:X.env.kindOf x=some .cell:=O x (vB n2);obtain⟨m,hn,hl⟩:=I.loc;obtain⟨u,r,l⟩:=hl j x v n1 ab (.inr (.inl kx));refine⟨u,r,.inr ⟨.inl (xn I.ok.kind n2 kx),?_⟩⟩;rcases l with⟨z,_⟩|⟨_,c,ec,Y⟩
   ·rw [kx] at z;cases z
   ·obtain⟨c',ac⟩:=Zv (cells:=X.env.cells) (cs:= []) (vB n2) ⟨c,ec⟩;have:=sub x c' ac;rw [ec] at this;cases this;obtain⟨o,q,d⟩:=Y;exact⟨c,ac,o,M c o q,d⟩
 ·obtain⟨v,o,q,d⟩:=I.cell x c (sub x c e);exact⟨v,o,M c o q,d⟩
 ·have ae:p∈X.pn++pins:=by simpa using hp
  obtain⟨e,n,ne,nf,d⟩:=I.pin p ae;exact⟨M _ _ e,n,aa _ _ e,L _ ne nf,d⟩
 ·show(sigB nt fr σ).length=Nb.length;unfold sigB;rw [S.len];simp
theorem lc_core {tg Y ah:Expr}{ak:List Expr}{wi:TI}{g:TG}{tc:TT}{te:TE}{pos:Pos}{R:Value->Addr->Result->Shared->Prop}{pins:List (Addr×Obj)}{s:Shared}{σ:St}{H:Hp}{Q:VK}(S:LcS X scope Nb nt fr)(al:X.calm=true)(hi:PI X tg Y wi)
  (hg:∀cl C s₀ H₀ fp pn,PG (blk X scope Nb cl C s₀ H₀ fp pn) tg g) (hc:∀cl C s₀ H₀ fp pn,PIfs (blk X scope Nb cl C s₀ H₀ fp pn) ak tc) (he:∀cl C s₀ H₀ fp pn,PE (blk X scope Nb cl C s₀ H₀ fp pn) ah te)
  (I:Inv X pins σ H s) (h:tLC nt fr wi g tc te σ H Q)
  (hR:∀(D C:Addr) (H':Hp) (s1:Shared) (m:Str->Option Value),Inv X pins σ H' s1->s1.heap.Ns C m->FpOk X pins H' C->Q (.ref D) H'->R (.ref D) C (.ok .next) s1):
  wpAny (model X.prog X.w) X.A (eval Y X.env) (fun x s₁=>wpAny (model X.prog X.w) X.A (pyIter x) (fun it s₂=>wpAny (model X.prog X.w) X.A (newList []) (fun au s₃=>
   wpAny (model X.prog X.w) X.A (newFunctionEnv scope X.env.globals (clOf X.env.cells scope.names []) [] X.env.qual none .none (some X.env)) (fun ae s₄=>
    codeAny (model X.prog X.w) X.A (.compStart (.ListComp ah [⟨tg,Y,ak,0⟩] scope pos) 0 it au {ae with scope:=relabel scope X.env}) (R au ae.locals) s₄) X.xe s₃) X.xe s₂) X.xe s₁) X.xe s:=by
 refine thn (hi pins s σ H _ I h) fun v s1 h1=>thn h1 fun aQ s2 h2=> ?_;obtain⟨it,fp,tn,J,H2,e,I2,T,am,f2,q2⟩:=h2;subst e;have av:H2 s2.heap.objs.size=none:=I2.hok.fresh (ug _);obtain⟨n,W,hn,w0,step,aD⟩:=q2 _ av;generalize hD:s2.heap.objs.size=D at*;refine uV ?_;rw [hD];have I3:Inv X pins σ (upd H2 D (.lst [])) {s2 with heap:=s2.heap.push {cls:= .type "list",data:= .seq ([]:List Value).toArray}}:=by
  have:=I2.lnew (ys:= []) (its:= []) (t':=s2.toks) .nil (uF _);rw [hD] at this;exact this
 refine wpAny_newFunctionEnv S.cell (by intro y hy;simp at hy) (fun h4 ab ao=> ?_) S.kind
 dsimp only at ab ao⊢;generalize aw:s2.heap.push {cls:= .type "list",dict:=none,data:= .seq ([]:List Value).toArray}=O at ab ao I3⊢;have hC:O.objs.size=D+1:=by rw [<-aw,vd,hD]
 have ac:∀b o,O.get? b=some o->h4.get? b=some o:=fun b o e=>ao.extBut b o (uK (uk e)) (u3 _ e);have U:∀b o,s2.heap.get? b=some o->O.get? b=some o:=fun b o e=>by rw [<-aw];exact u3 _ e
 have ap:∀b∈fp,∃o,s2.heap.get? b=some o:=fun b L=>let⟨o,e,_⟩:=T.obj _ _ am b L;⟨o,e⟩;have aE:∀b∈fp,b≠D:=fun b L z=>by
  obtain⟨o,e⟩:=ap b L;have q:=uk e;rw [z,hD] at q;exact vC _ q
 have f3:∀b∈fp,FpOk X pins (upd H2 D (.lst [])) b:=fun b L=>⟨by rw [qx (aE b L)];exact(f2 b L).1,(f2 b L).2⟩
 have IB:=inv_blk (C:=O.objs.size) (h4:=h4) (tk:=s2.toks+([]:List (Str×Value)).length) (fp:=fp) S I3 rfl ab ac f3 fun b L=>let⟨o,e⟩:=ap b L;⟨o,U b o e⟩;generalize M:blk X scope Nb (clOf X.env.cells scope.names []) O.objs.size {s2 with heap:=O} (upd H2 D (.lst [])) fp (X.pn++pins)=Xb at IB
 have gB:=hg (clOf X.env.cells scope.names []) O.objs.size {s2 with heap:=O} (upd H2 D (.lst [])) fp (X.pn++pins)
 have cB:=hc (clOf X.env.cells scope.names []) O.objs.size {s2 with heap:=O} (upd H2 D (.lst [])) fp (X.pn++pins)
 have eB:=he (clOf X.env.cells scope.names []) O.objs.size {s2 with heap:=O} (upd H2 D (.lst [])) fp (X.pn++pins)
 rw [M] at gB cB eB;have xP:Xb.prog=X.prog:=by rw [<-M]
 have xW:Xb.w=X.w:=by rw [<-M]
 have xK:Xb.K=X.K:=by rw [<-M]
 have xA:Xb.A=X.A:=by rw [<-M]
 have xC:Xb.calm=true:=by rw [<-M];exact al
 have xE:Xb.env=compEnvC scope (clOf X.env.cells scope.names []) O.objs.size X.env:=by rw [<-M]
 have xX:Xb.xe=fun _ _=>False:=by rw [<-M]
 have ad:∀{H':Hp},(∀b∈fp,H' b=none)->∀b∈fp,FpOk Xb [] H' b:=fun hn b L=>by
  obtain⟨g1,g2,g3,g4,g5,g6⟩:=f2 b L;obtain⟨o,e⟩:=ap b L;subst M;refine⟨hn b L,fun z=> ?_,fun z=>(List.mem_cons.mp (I2.stkSub b z)).elim g2 g3,.inl L,fun x c ec=>g5 x c (Zt (fun y c e=>by simp at e) x c ec),fun p hp=>g6 p (by simpa using hp)⟩
  have aa:=uk (U b o e);have z':b=O.objs.size:=z;rw [z'] at aa;exact vC _ aa
 have af:∀s5:Shared,s5={s2 with heap:=h4,toks:=s2.toks+([]:List (Str×Value)).length}->
   codeAny (model X.prog X.w) X.A (.compLoop (.ListComp ah [⟨tg,Y,ak,0⟩] scope pos) 0 (.ref it) (.ref D) (compEnvC scope (clOf X.env.cells scope.names []) O.objs.size X.env))
    (R (.ref D) O.objs.size) s5:=by
  rintro s5 rfl;refine compLoop_by (fun k s'=>∃i σ' ys H',Inv Xb [] σ' H' s'/\tn i s'.heap/\(∀b∈fp,H' b=none)/\H' D=some (.lst ys)/\i<=n/\k=n-i/\ys.length<=i/\W i σ' ys H') ?_ n
   ⟨0,sigB nt fr σ,[],_,IB,T.keep _ _ _ am fun b L o e=>ac b o (U b o e),fun b L=>(f3 b L).1,qh,uF _,rfl,ug _,w0⟩
  rintro k s' ⟨i,σ',ys,H',I',ax,ay,aA,aF,rfl,aG,w'⟩;rcases UI i n with aa|aH
  ·obtain⟨go,next⟩:=step i σ' ys H' aa w' aA aG;have ti:=T.item Xb xP xW xK xC i [] s' σ' H' (fun _ _=>False) I' (ad ay) ax go;rw [xA] at ti;refine uY ti (fun r s1 h1=> ?_) fun _ _ z=>z.elim;obtain⟨u,rfl,h1⟩:=h1;refine uY h1 (fun _ aB aI=> ?_) fun _ _ z=>z.elim;obtain⟨x,H5,I5,r5,y5,aq,aJ⟩:=aI;have aK:=I5.pinned (ad aJ) (T.obj _ _ aq);have ga:=gB _ aB σ' H5 x u _ aK r5 (next x H5 y5);rw [xP,xW,xA,xE,xX] at ga;refine uY ga (fun _ s3 aL=> ?_) fun _ _ z=>z.elim;obtain⟨σ6,H6,I6,q6⟩:=aL;have ca:=cB _ s3 σ6 H6 _ I6 q6;rw [xP,xW,xA,xE,xX] at ca;refine uY ca (fun ok s4 aM=> ?_) fun _ _ z=>z.elim;obtain⟨H7,I7,q7⟩:=aM;have ag:∀{σ8:St}{H8:Hp}{s8:Shared},Inv Xb ([]++pinsAt fp aB.heap) σ8 H8 s8->Inv Xb [] σ8 H8 s8/\tn (i+1) s8.heap/\∀b∈fp,H8 b=none:=fun{σ8 H8 s8} I8=>by
    refine⟨I8.unpinned,T.keep _ _ _ aq fun b L o e=>(I8.pin (b,o) (uW _ (uW _ (ji L e)))).1,fun b L=> ?_⟩;obtain⟨o,e,d⟩:=T.obj _ _ aq b L;exact(I8.pin (b,o) (uW _ (uW _ (ji L e)))).2.1
   cases ok with
   |false=>
    rw [if_neg u8] at q7⊢;obtain⟨b1,b2,b3⟩:=ag I7;exact⟨n-(i+1),by omega,i+1,σ6,ys,H7,b1,b2,b3,q7.1,aa,rfl,by omega,q7.2⟩
   |true=>
    rw [if_pos rfl] at q7⊢;have ea:=eB _ s4 σ6 H7 _ I7 q7;rw [xP,xW,xA,xE,xX] at ea;refine uY ea (fun y s5 h5=> ?_) fun _ _ z=>z.elim;obtain⟨yv,H8,I8,r8,aN,q8⟩:=h5;have ma:=y9 (X:=Xb) _ s5 σ6 H8 (.ref D) [yv] (.ref D) [y] (fun _ H9=>H9=upd H8 D (.lst (ys++ [yv]))) I8 rfl (.cons r8 .nil) ⟨D,ys,yv,rfl,rfl,aN,by omega,rfl⟩
    rw [xP,xW,xA,xX] at ma;refine uY ma (fun _ s6 h6=> ?_) fun _ _ z=>z.elim;obtain⟨_,H9,I9,_,rfl⟩:=h6;obtain⟨b1,b2,b3⟩:=ag I9;exact⟨n-(i+1),by omega,i+1,σ6,ys++ [yv],_,b1,b2,b3,qh,aa,rfl,by rw [uf,List.length_singleton];omega,q8⟩
  ·have aC:i=n:=Nat.le_antisymm aF aH;subst aC;obtain⟨stop,hq⟩:=aD σ' ys H' w' aA;have td:=T.done Xb xP xW xK xC i [] s' σ' H' (fun _ _=>False) I' (ad ay) ax stop;rw [xA] at td;refine uY td (fun r s1 h1=> ?_) fun _ _ z=>z.elim;obtain⟨rfl,I6⟩:=h1;obtain⟨m,hm,_⟩:=id I6.loc;rw [xE] at hm;have aO:H' O.objs.size=none:=by have:=I6.free;rw [xE] at this;exact this
   have u6:Un (frs X.stack) fp (upd H2 D (.lst [])) H' O s1.heap:=by have:=I6.base;subst M;exact this
   have u2:Un (frs X.stack) fp H2 (upd H2 D (.lst [])) s2.heap O:=Un.laid (fun b o e=>U b o e) (by rw [hD];exact ug _) av
   have aP:s1.os=s2.os:=by have:=I6.os;subst M;exact this
   have hok:HOk X.prog X.w H' s1.heap:=by
    have:=I6.hok;subst M;exact this
   refine hR D O.objs.size H' s1 m (I2.call' (s':=s1) (ch:=fp) aP (u2.trans u6) hok I6.bare fun b L=> ?_) hm (I2.fpOk (by omega) aO) hq
   obtain⟨g1,g2,g3,g4,g5,g6⟩:=f2 b L;exact⟨g4,g2,g5,g6⟩
 exact codeAny_compStart_list (af _ rfl) (T.self _ 0 _ _ _ (T.keep _ _ _ am fun b L o e=>ac b o (U b o e)) (af _ rfl))
theorem JG {tg L U:Expr}{Y:List Expr}{wi:TI}{g:TG}{tc:TT}{te:TE}{pos:Pos}(S:LcS X scope Nb nt fr)(M:X.calm=true)(hi:PI X tg L wi)
  (hg:∀cl C s₀ H₀ fp pn,PG (blk X scope Nb cl C s₀ H₀ fp pn) tg g) (hc:∀cl C s₀ H₀ fp pn,PIfs (blk X scope Nb cl C s₀ H₀ fp pn) Y tc) (he:∀cl C s₀ H₀ fp pn,PE (blk X scope Nb cl C s₀ H₀ fp pn) U te)
  (hs:∀x,foldedSetIterable L X.env x=pure x:=by intro _;rfl):PE X (.ListComp U [⟨tg,L,Y,0⟩] scope pos) (tLC nt fr wi g tc te):=by
 intro pins s σ H Q I h;have O:closureFor scope X.env=pure (clOf X.env.cells scope.names []):=zt fun y hy=>I.ok.has y (.inl (S.free _ hy rfl));rw [eval_ListComp];refine wpAny_comprehension_free (use:=none) rfl hs O S.kind S.names ?_;refine lc_core (R:=fun aa C=>compPost (model X.prog X.w) X.A X.xe none (EP X pins σ Q) aa C) S M hi hg hc he I h fun D C H' s1 m I1 hm fc q=> ?_;obtain⟨f0,f1,f2,f3,f4,f5⟩:=fc;exact⟨m,hm,fun h' ab=>⟨.ref D,H',I1.turned (t':=s1.toks) (it:=C) (fun b o hb e=>(ab.2 b hb).trans e) f0 f1 f3 f4 f5,rfl,q⟩⟩
theorem ps_setLC {i:Nat}{y:Str}{tg L M:Expr}{O:List Expr}{wi:TI}{g:TG}{tc:TT}{te:TE}{pos U py:Pos}(hN:X.N.Nodup)(ab:X.N[i]? =some y)(hy:Loc X.env.scope y)(S:LcS X scope Nb nt fr)(Y:X.calm=true)(hi:PI X tg L wi)
  (hg:∀cl C s₀ H₀ fp pn,PG (blk X scope Nb cl C s₀ H₀ fp pn) tg g) (hc:∀cl C s₀ H₀ fp pn,PIfs (blk X scope Nb cl C s₀ H₀ fp pn) O tc) (he:∀cl C s₀ H₀ fp pn,PE (blk X scope Nb cl C s₀ H₀ fp pn) M te)
  (hs:∀x,foldedSetIterable L X.env x=pure x:=by intro _;rfl) (ac:swapsWith (.ListComp M [⟨tg,L,O,0⟩] scope pos) (some (.Name y py)) U.line X.env=pure true:=by rfl)
  (hf:X.fn y=true∨X.env.scope.names.lookup y=some .local:=by first|exact .inl rfl|exact .inr rfl|assumption):
  PS X (.Assign [.Name y py] (.ListComp M [⟨tg,L,O,0⟩] scope pos) U) (tAsg (tLC nt fr wi g tc te) (jZ i)):=by
 intro pins s σ H D I h;have aa:closureFor scope X.env=pure (clOf X.env.cells scope.names []):=zt fun y hy=>I.ok.has y (.inl (S.free _ hy rfl));rw [exec_Assign_Name_used _ _ _ _ ac];refine wpAny_bind (wpAny_standAt (wpAny_bind ?_));show wpAny _ X.A (do let _<-comprehension (.ListComp M [⟨tg,L,O,0⟩] scope pos) scope X.env _ (newList []) false (eval L X.env) (some (assign (.Name y py) X.env))) _ _ s
 refine wpAny_bind (uY (wpAny_comprehension_free (use:=some (assign (.Name y py) X.env)) (Q:=fun _ s'=>SP X pins D .next s') rfl hs aa S.kind S.names ?_) (fun _ s' hq=>uc (uc hq)) fun _ _ e=>e);refine lc_core (R:=fun ad C=>compPost (model X.prog X.w) X.A X.xe (some (assign (.Name y py) X.env)) (fun _ s'=>SP X pins D .next s') ad C) S Y hi hg hc he I h fun A C H' s1 m I1 hm fc q=> ?_;obtain⟨f0,f1,f2,f3,f4,f5⟩:=fc;show wpAny _ X.A (assign (.Name y py) X.env (.ref A)) _ _ s1;refine wpAny_assign_Name (store_ok2 (v:= .ref A) I1 hN ab hy (show RelV (.ref A) (.ref A) from rfl) (fun s' I' ⟨a,sb,ha⟩=> ?_) hf)
 have ae:C≠a:=by
  rcases ha with rfl|ha
  ·exact f1
  ·exact fun z=>f4 y a ha z.symm
 refine⟨m,hm.sameBut sb ae,fun h' af=>⟨_,H',I'.turned (t':=s'.toks) (it:=C) (fun b o hb e=>(af.2 b hb).trans e) f0 f1 f3 f4 f5,q⟩⟩
end
theorem lcs0 {X:Cx}{sc:Scope}{x:Str}(I:sc.kind= .function:=by rfl)(L:∀y∈sc.names,y.2≠ .cell:=by decide+kernel)(hn:∀y∈sc.names,y.2= .local->sc.names.lookup y.1=some .local:=by decide+kernel)
  (M:∀y∈sc.names,y.2≠ .free:=by decide+kernel):LcS X sc [x] 1 []:=⟨I,L,hn,fun y O e=>absurd e (M y O),rfl,fun k j x h=>by simp at h⟩
theorem lcsN {X:Cx}{sc:Scope}{Nb:List Str}{nt:Nat}{fr:List Nat}(I:Scope)(L:List Str)(M:X.env.scope=I:=by rfl)(O:X.N=L:=by rfl)(R:sc.kind= .function:=by rfl)(U:∀y∈sc.names,y.2≠ .cell:=by decide+kernel)
  (hn:∀y∈sc.names,y.2= .local->sc.names.lookup y.1=some .local:=by decide+kernel) (Y:∀y∈sc.names,y.2= .free->I.names.lookup y.1=some .cell:=by decide+kernel) (hl:Nb.length=nt+fr.length:=by rfl)
  (hz:((fr.zip (Nb.drop nt)).all fun p=>decide (L[p.1]? =some p.2)&&decide (sc.names.lookup p.2=some .free))=true:=by decide+kernel):LcS X sc Nb nt fr:=by
 subst M O;refine⟨R,U,hn,Y,hl,fun k j x h1 h2=> ?_⟩;have hm:(fr.zip (Nb.drop nt))[k]? =some (j,x):=by
  rw [List.getElem?_zip_eq_some];exact⟨h1,by rw [List.getElem?_drop];exact h2⟩
 have q:=List.all_eq_true.mp hz _ (uJ hm);rw [ui] at q;exact⟨ua q.1,ua q.2⟩
theorem lc_str {z:Str}{D:Addr}{H1:Hp}{te:TE}{tl:St}{Q:VK}(f:Nat->V)(Y:z.length<=sizeLine)(O:H1 D=none)
  (L:∀(i c:Nat) H (R:VK),z.cps[i]? =some c->Same H1 H->R (f c) H->te (some (.str ⟨#[c]⟩)::tl) H R)
  (hQ:∀H',Same H1 H'->H' D=some (.lst (z.cps.toList.map f))->Q (.ref D) H'):lcGo D (Its z) (jZ 0) tYes te (none::tl) H1 Q:=by
 refine⟨z.cps.size,fun i σ ys H=>(∃w,σ=w::tl)/\ys=(z.cps.toList.take i).map f/\Same H1 H,Y,⟨⟨none,rfl⟩,rfl,qb O _⟩,?_,?_⟩
 ·rintro i σ ys H hi ⟨⟨w,rfl⟩,rfl,I⟩ M hy;refine⟨hi,?_⟩;rintro x H' ⟨rfl,c,U,rfl⟩;dsimp only [jZ,tYes,List.set];rw [if_pos rfl];refine L i c H' _ U I ⟨M,⟨some (.str ⟨#[c]⟩),rfl⟩,?_,?_⟩
  ·rw [U1,show z.cps.toList[i]? =some c by simpa using U]
   simp
  ·intro b o e;rw [qx (qr e O)];exact I b o e
 ·rintro σ ys H ⟨_,rfl,I⟩ M;refine⟨rfl,hQ H I ?_⟩;rw [M,uN (by simp)]
mutual
def Is (H:Hp):D->V->Prop
 | .non,v=>v= .non
 | .bl b,v=>v= .bl b
 | .int i,v=>v= .int i
 | .str z,v=>v= .str z/\z.length<=sizeLine
 | .lst,v=>∃a xs,v= .ref a/\H a=some (.lst xs)
 | .dct,v=>∃a kvs,v= .ref a/\H a=some (.dK kvs)
 | .tup xs,v=>∃a vs,v= .ref a/\H a=some (.tup vs)/\IsL H xs vs
def IsL (H:Hp):List D->List V->Prop
 | [],vs=>vs= []
 |x::xs,vs=>∃v r,vs=v::r/\Is H x v/\IsL H xs r
end
structure Tk (H H':Hp):Prop where
 tup:∀b xs,H b=some (.tup xs)->H' b=some (.tup xs)
 lst:∀b xs,H b=some (.lst xs)->∃ys,H' b=some (.lst ys)
 dct:∀b xs,H b=some (.dK xs)->∃ys,H' b=some (.dK ys)
theorem Same.tk {H H':Hp}(s:Same H H'):Tk H H':=⟨fun b xs e=>s b _ e,fun b xs e=>⟨xs,s b _ e⟩,fun b xs e=>⟨xs,s b _ e⟩⟩
theorem Tk.refl (H:Hp):Tk H H:=(Same.refl H).tk
theorem Tk.trans {H H1 H2:Hp}(a:Tk H H1)(b:Tk H1 H2):Tk H H2:=⟨fun c xs e=>b.tup c xs (a.tup c xs e),fun c xs e=>let⟨ys,e1⟩:=a.lst c xs e;b.lst c ys e1,fun c xs e=>let⟨ys,e1⟩:=a.dct c xs e;b.dct c ys e1⟩
theorem Kept.tk {p:Addr}{H H':Hp}{xs ys:List V}(k:Kept p H H')(h:H p=some (.lst xs))(h':H' p=some (.lst ys)):Tk H H':=by
 refine⟨fun b zs e=>k b _ e fun z=> ?_,fun b zs e=> ?_,fun b zs e=>⟨zs,k b _ e fun z=> ?_⟩⟩
 ·rw [z,h] at e;cases e
 ·by_cases z:b=p
  ·exact⟨ys,z▸h'⟩
  ·exact⟨zs,k b _ e z⟩
 ·rw [z,h] at e;cases e
mutual
theorem Is.mono {H H':Hp}(t:Tk H H'):∀{d:D}{v:V},Is H d v->Is H' d v
 | .non,_,h=>h
 | .bl _,_,h=>h
 | .int _,_,h=>h
 | .str _,_,h=>h
 | .lst,_,h=>by
  obtain⟨a,vs,e,ha⟩:=h;obtain⟨ys,q⟩:=t.lst a vs ha;exact⟨a,ys,e,q⟩
 | .dct,_,h=>by
  obtain⟨a,vs,e,ha⟩:=h;obtain⟨ys,q⟩:=t.dct a vs ha;exact⟨a,ys,e,q⟩
 | .tup xs,_,h=>by
  obtain⟨a,vs,e,ha,I⟩:=h;exact⟨a,vs,e,t.tup a vs ha,IsL.mono t I⟩
theorem IsL.mono {H H':Hp}(t:Tk H H'):∀{ds:List D}{vs:List V},IsL H ds vs->IsL H' ds vs
 | [],_,h=>h
 |_::_,_,h=>by
  obtain⟨v,r,e,h1,h2⟩:=h;exact⟨v,r,e,Is.mono t h1,IsL.mono t h2⟩
end
theorem IsL.length {H:Hp}:∀{ds:List D}{vs:List V},IsL H ds vs->vs.length=ds.length
 | [],_,h=>by cases(show _= [] from h);rfl
 |_::_,_,h=>by
  obtain⟨v,r,rfl,_,h2⟩:=h;rw [ud,ud,IsL.length h2]
theorem IsL.get {H:Hp}:∀{ds:List D}{vs:List V}{i:Nat}{d:D},IsL H ds vs->ds[i]? =some d->∃v,vs[i]? =some v/\Is H d v
 | [],_,_,_,_,e=>by simp at e
 |x::_,_,0,d,h,e=>by
  obtain⟨v,r,rfl,h1,_⟩:=h;have:x=d:=by simpa using e
  exact⟨v,rfl,this▸h1⟩
 |_::_,_,i+1,d,h,e=>by
  obtain⟨v,r,rfl,_,h2⟩:=h;obtain⟨u,e1,e2⟩:=IsL.get (i:=i) (d:=d) h2 (by simpa using e)
  exact⟨u,by simpa using e1,e2⟩
theorem IsL.append {H:Hp}:∀{ds es:List D}{vs us:List V},IsL H ds vs->IsL H es us->IsL H (ds++es) (vs++us)
 | [],_,_,_,h,k=>by cases(show _= [] from h);exact k
 |_::_,_,_,_,h,k=>by
  obtain⟨v,r,rfl,h1,h2⟩:=h;exact⟨v,_,rfl,h1,IsL.append h2 k⟩
theorem IsL.take {H:Hp}:∀{ds:List D}{vs:List V} (n:Nat),IsL H ds vs->IsL H (ds.take n) (vs.take n)
 |_,_,0,_=>by simp [IsL]
 | [],_,n+1,h=>by cases(show _= [] from h);simp [IsL]
 |_::_,_,n+1,h=>by
  obtain⟨v,r,rfl,h1,h2⟩:=h;exact⟨v,_,rfl,h1,IsL.take n h2⟩
theorem IsL.drop {H:Hp}:∀{ds:List D}{vs:List V} (n:Nat),IsL H ds vs->IsL H (ds.drop n) (vs.drop n)
 |_,_,0,h=>h
 | [],_,n+1,h=>by cases(show _= [] from h);simp [IsL]
 |_::_,_,n+1,h=>by
  obtain⟨v,r,rfl,h1,h2⟩:=h;exact IsL.drop n h2
theorem IsL.one {H:Hp}{d:D}{v:V}(h:Is H d v):IsL H [d] [v]:=⟨v,[],rfl,h,rfl⟩
theorem Is.new {H:Hp}{ds:List D}{vs:List V}{p:Addr}(h:IsL H ds vs)(I:H p=none):Is (upd H p (.tup vs)) (.tup ds) (.ref p):=
 ⟨p,vs,rfl,qh,h.mono (qb I _).tk⟩
def tyD:D->Value
 | .non=> .type "NoneType"
 | .bl _=> .type "bool"
 | .int _=> .type "int"
 | .str _=> .type "str"
 | .lst=> .type "list"
 | .dct=> .type "dict"
 | .tup _=> .type "tuple"
theorem Is.ty {K:PySem.W.Frag}{H:Hp}{d:D}{v:V}(h:Is H d v):TyOf K H v (tyD d):=by
 cases d with
 |non=>cases(show v= .non from h);exact .non
 |bl b=>cases(show v= .bl b from h);exact .bl b
 |int i=>cases(show v= .int i from h);exact .int i
 |str z=>
  obtain⟨rfl,_⟩:=h;exact .str z
 |lst=>
  obtain⟨a,vs,rfl,ha⟩:=h;exact .lst ha
 |dct=>
  obtain⟨a,vs,rfl,ha⟩:=h;exact .dK ha
 |tup xs=>
  obtain⟨a,vs,rfl,ha,_⟩:=h;exact .tup ha
section
variable {X:Cx}
theorem op_gt_str:OpR X (compareOp .Gt) (fun x y H Q=>∃i j,x= .str i/\y= .str j/\Q (.bl (decide (j.cps.toList<i.cps.toList))) H):=by
 intro pins s σ H x y v u Q I L M h;obtain⟨i,j,rfl,rfl,q⟩:=h;obtain⟨t,rfl⟩:=L;obtain⟨t',rfl⟩:=M;exact PySem.P.gt_str (Qc I q rfl)
theorem call_sumL (O:X.calm=true):yX X (.builtin "sum") (fun xs H Q=>∃(p:Addr) (ns:List Int),xs= [.ref p]/\SqL X.K H p (ns.map V.int)/\Q (.int ns.sum) H):=by
 intro pins s σ H xs us Q I r h;obtain⟨p,ns,rfl,R,q⟩:=h;obtain⟨u,rfl,ru⟩:=Jd r;cases ru;obtain⟨its,rv,pl,Y⟩:=I.list R;have hi:IntsAre its ns:=zB rv;obtain⟨ys,M⟩:=hi.allInts.items;have L:s.heap.IsList p (intItems ys):=M▸pl.isList;refine uR (n:=1) I.tk (sum_intListG (I.ok.hd O) L fun h' tk t' U=> ?_);intro htk;have e1:ns=ys.toList.map (·.1):=by
  have q1:=hi.numsOf;rw [<-nums_intItems,<-M];exact(show numsOf its.toArray.toList=ns from q1).symm
 have e2:preSum (numAt ys) ys.size=ns.sum:=by
  rw [preSum_eq,uN (by simp),e1]
 rw [e2];exact⟨.int ns.sum,H,I.kept U,⟨t',rfl⟩,q⟩
def rEqNil (K:PySem.W.Frag):R2:=fun x y H Q=>∃a b xs,x= .ref a/\y= .ref b/\SqT K H a xs/\SqT K H b []/\Q (.bl xs.isEmpty) H
theorem op_eqNil (M:X.A.units<cLine):OpR X (compareOp .Eq) (rEqNil X.K):=by
 intro pins s σ H x y v u Q I O R h;obtain⟨a,b,xs,rfl,rfl,ha,U,q⟩:=h;cases O;cases R;obtain⟨its,r,p,_⟩:=I.tuple ha;obtain⟨L,Y,p2,_⟩:=I.tuple U;cases Y;refine SeqAt.eq_tupleAt (e:=fun _=>true) p p2 M (fun j _ h2=>absurd h2 (Nat.not_lt_zero _)) ⟨.bl xs.isEmpty,H,I,?_,q⟩;show Value.bool _=Value.bool _;cases r with
 |nil=>rfl
 |cons _ _=>simp
def rCatG (K:PySem.W.Frag):R2:=fun x y H Q=>∃a b xs ys,x= .ref a/\y= .ref b/\SqT K H a xs/\SqT K H b ys/\xs.length+ys.length<=sizeLine/\
 (xs= []->Q (.ref b) H)/\(xs≠ []->ys= []->Q (.ref a) H)/\(xs≠ []->ys≠ []->∀p,H p=none->Q (.ref p) (upd H p (.tup (xs++ys))))
theorem yp:OpR X (binaryOp .Add) (rCatG X.K):=by
 intro pins s σ H x y v u Q I M O h;obtain⟨a,b,xs,ys,rfl,rfl,ha,R,hz,q0,q1,q2⟩:=h;by_cases L:xs= []
 ·cases M;cases O;obtain⟨its,r1,p1,_⟩:=I.tuple ha;obtain⟨U,r2,p2,_⟩:=I.tuple R;subst L;cases r1;obtain⟨⟨c1,d1,t1,l1⟩,o1,e1,n1,Y⟩:=id p1;obtain⟨⟨c2,d2,t2,l2⟩,o2,e2,n2,f2⟩:=id p2;simp only at e1 Y e2 f2;subst e1 Y e2 f2;exact concat_meets p1.typeIs p2.typeIs noFill_tuple_add seq_tuple_add PySem.F.slot_tuple_add Uz (Us _ _) (tuple_addW0 a b _ _ n1 n2 d1 d2 l1 l2 rfl) ⟨o1,o2,⟨.ref b,H,I,rfl,q0 rfl⟩⟩
 ·exact op_catT pins s σ H (.ref a) (.ref b) v u Q I M O ⟨a,b,xs,ys,rfl,rfl,ha,R,L,hz,q1 L,q2 L⟩
end
theorem Tk.updL {H:Hp}{p:Addr}{xs ys:List V}(h:H p=some (.lst xs)):Tk H (upd H p (.lst ys)):=by
 refine⟨fun b zs e=> ?_,fun b zs e=> ?_,fun b zs e=>⟨zs,?_⟩⟩
 ·rw [qx (fun z=>by rw [z,h] at e;cases e)];exact e
 ·by_cases z:b=p
  ·exact⟨ys,by rw [z];exact qh⟩
  ·exact⟨zs,by rw [qx z];exact e⟩
 ·rw [qx (fun z=>by rw [z,h] at e;cases e)];exact e
theorem lc_data {J:It}{A:Addr}{H1:Hp}{te:TE}{tl:St}{Q:VK}{ds:List D}(f:D->D)(hn:ds.length<=sizeLine)(hA:H1 A=none)
  (Y:∀i H,Same H1 H->i<ds.length->J.go i H) (hy:∀i H x H' d,Same H1 H->ds[i]? =some d->J.yld i H x H'->H'=H/\Is H d x) (L:∀H,Same H1 H->J.stop ds.length H)
  (aa:∀d x H (R:VK),d∈ds->Same H1 H->Is H d x->(∀y H',Same H H'->Is H' (f d) y->R y H')->te (some x::tl) H R)
  (hQ:∀H' ys,Same H1 H'->H' A=some (.lst ys)->IsL H' (ds.map f) ys->Q (.ref A) H'):lcGo A J (jZ 0) tYes te (none::tl) H1 Q:=by
 refine⟨ds.length,fun i σ ys H=>(∃w,σ=w::tl)/\IsL H ((ds.take i).map f) ys/\Same H1 H,hn,⟨⟨none,rfl⟩,rfl,qb hA _⟩,?_,?_⟩
 ·rintro i σ ys H hi ⟨⟨w,rfl⟩,O,M⟩ I ac;refine⟨Y i H M hi,fun x H' y=> ?_⟩;obtain⟨rfl,hx⟩:=hy i H x H' ds[i] M (ul hi) y;dsimp only [jZ,tYes,List.set];rw [if_pos rfl];refine aa ds[i] x H' _ (U7 hi) M hx fun y' H4 U ab=>⟨U _ _ I,⟨some x,rfl⟩,?_,fun b o e=> ?_⟩
  ·have t:Tk H4 (upd H4 A (.lst (ys++ [y']))):=Tk.updL (U _ _ I);have e:(ds.take (i+1)).map f=(ds.take i).map f++ [f ds[i]]:=by
    rw [U1,ul hi,uE]
    rfl
   rw [e];exact((O.mono U.tk).mono t).append (IsL.one (ab.mono t))
  ·rw [qx (qr e hA)];exact U b o (M b o e)
 ·rintro σ ys H ⟨_,O,M⟩ I;refine⟨L H M,hQ H ys M I ?_⟩;rw [uN (ug _)] at O;exact O
theorem Jc {K:PySem.W.Frag}{a A:Addr}{H1:Hp}{te:TE}{tl:St}{Q:VK}{ds:List D}{vs:List V}(f:D->D)(ha:H1 a=some (.tup vs))(M:IsL H1 ds vs)(hn:ds.length<=sizeLine)(U:H1 A=none)
  (L:∀d x H (R:VK),d∈ds->Same H1 H->Is H d x->(∀y H',Same H H'->Is H' (f d) y->R y H')->te (some x::tl) H R)
  (Y:∀H' ys,Same H1 H'->H' A=some (.lst ys)->IsL H' (ds.map f) ys->Q (.ref A) H'):lcGo A (Itt K a) (jZ 0) tYes te (none::tl) H1 Q:=by
 have ln:=M.length;refine lc_data f hn U (fun i H I hi=>⟨vs,vs[i]'(by omega),SqT.of (I _ _ ha),ul _⟩) (fun i H x H' d I hd y=> ?_) (fun H I=>⟨vs,SqT.of (I _ _ ha),by omega⟩) L Y
 obtain⟨rfl,y⟩:=y;obtain⟨v,e1,e2⟩:=M.get hd;have O:=y vs (SqT.of (I _ _ ha));rw [e1] at O;cases O;exact⟨rfl,e2.mono I.tk⟩
theorem IsL.bls {H:Hp}:∀{bs:List Bool}{vs:List V},IsL H (bs.map D.bl) vs->vs=bs.map V.bl
 | [],_,h=>h
 |_::_,_,h=>by
  obtain⟨v,r,rfl,h1,h2⟩:=h;rw [IsL.bls h2,show v=_ from h1];rfl
theorem IsL.ints {H:Hp}:∀{ns:List Int}{vs:List V},IsL H (ns.map D.int) vs->vs=ns.map V.int
 | [],_,h=>h
 |_::_,_,h=>by
  obtain⟨v,r,rfl,h1,h2⟩:=h;rw [IsL.ints h2,show v=_ from h1];rfl
theorem QO {K:PySem.W.Frag}{H:Hp}{ds:List D}{v:V}{i:Int}{d:D}{Q:VK}(h:Is H (.tup ds) v)(hi:atI ds i=some d)(q:∀x,Is H d x->Q x H):rIxT K v (.int i) H Q:=by
 obtain⟨a,vs,rfl,ha,I⟩:=h;obtain⟨j,h1,h2,O,h4,R⟩:=ZI hi;obtain⟨x,e1,e2⟩:=I.get h2;refine⟨a,vs,i,x,rfl,rfl,SqT.of ha,?_,q x e2⟩;have M:=I.length;unfold atI at hi⊢;rw [M];cases e:ixN ds.length i with
 |none=>rw [e] at hi;cases hi
 |some k=>
  rw [e] at hi;obtain⟨L,_⟩:=ixN_seq e;rw [h1] at L;cases L;exact e1
def inS (i j:Str):Bool:= !(Builtin.Str.occurrences j i 0 j.length 1).isEmpty
theorem mulOk_of {z:Str}{n:Int}(M:0<=n)(h1:n<=10000)(I:z.length<=1000):MulOk z n:=by
 have O:sizeLine=16777216:=uL;refine⟨by rw [u9 (by omega),u9 (by omega)];rfl,fun hn _=> ?_,fun hn _=> ?_⟩
 ·have:(1000:Int)<=(2^63-1)/n:=by
   have L:(1000:Int)*n<=2^63-1:=by omega
   exact(Int.le_ediv_iff_mul_le (by omega)).mpr L
  omega
 ·unfold Builtin.Str.tooLong;refine u9 ?_;have:z.length*n.toNat<=1000*10000:=Nat.mul_le_mul I (by omega)
  omega
theorem for_str {z:Str}{g:TG}{tb:TS}{E:Ends}{σ:St}{H:Hp}(I:Nat->St->Hp->Prop)(U:I 0 σ H)
  (Y:∀(i c:Nat) σ H,z.cps[i]? =some c->I i σ H->g (.str ⟨#[c]⟩) σ H fun M H2=>tb {E with nx:=I (i+1),ct:=I (i+1),bk:=E.nx} M H2) (hd:∀σ H,I z.cps.size σ H->E.nx σ H):
  ∃W:Nat->Nat->St->Hp->Prop,(∃m,W 0 m σ H)/\∀i m σ H,W i m σ H->
   ((Its z).stop i H/\E.nx σ H)∨((Its z).go i H/\∃N:St->Hp->Prop,(∀O H',N O H'->∃R,R<m/\W (i+1) R O H')/\∀x H',(Its z).yld i H x H'->g x σ H' fun M H2=>tb {E with nx:=N,ct:=N,bk:=E.nx} M H2):=by
 refine⟨fun i m σ H=>m=z.cps.size-i/\i<=z.cps.size/\I i σ H,⟨z.cps.size,by simp,uF _,U⟩,?_⟩
 rintro i m σ H ⟨rfl,hi,p⟩;by_cases L:i<z.cps.size
 ·refine .inr ⟨L,I (i+1),fun O H' p'=>⟨z.cps.size-(i+1),by omega,rfl,L,p'⟩,fun x H' y=> ?_⟩
  obtain⟨rfl,c,hc,rfl⟩:=y;exact Y i c σ _ hc p
 ·have e:i=z.cps.size:=by omega
  exact .inl ⟨e,hd σ H (e▸p)⟩
theorem IsL.unsnoc {H:Hp}:∀{ds:List D}{d:D}{vs:List V},IsL H (ds++ [d]) vs->∃us x,vs=us++ [x]/\IsL H ds us/\Is H d x
 | [],d,_,h=>by
  obtain⟨v,r,rfl,h1,h2⟩:=h;cases(show r= [] from h2)
  exact⟨[],v,rfl,rfl,h1⟩
 |e::r,d,_,h=>by
  obtain⟨v,q,rfl,h1,h2⟩:=h;obtain⟨us,x,rfl,I,h4⟩:=IsL.unsnoc h2;exact⟨v::us,x,rfl,⟨v,us,rfl,h1,I⟩,h4⟩
def isStr:D->Bool
 | .str _=>true
 |_=>false
def jo:D->Bool
 | .tup _=>true
 |_=>false
section
variable {K:PySem.W.Frag}
theorem kit_no {T U:String}{b:Bool}(h:(Value.type T==Value.type U)=false)(hm:PySem.W.kitMeta U=true)(I:(fastBuiltinMro T).map (·.contains (Value.type U))=some b):PySem.W.kitOne K (.type T) (.type U)=some b:=by
 unfold PySem.W.kitOne;rw [if_neg (by rw [h];exact u8)]
 show(if PySem.W.kitMeta U=true then PySem.W.subIn K (.type T) (.type U) else none)=some b
 rw [if_pos hm];exact I
theorem kit_self {T:String}(h:(Value.type T==Value.type T)=true):PySem.W.kitOne K (.type T) (.type T)=some true:=by
 unfold PySem.W.kitOne;rw [if_pos h]
theorem Qs (d:D):PySem.W.kitOne K (tyD d) (.type "str")=some (isStr d):=by
 cases d with
 |str z=>exact kit_self (by decide)
 |_=>exact kit_no (b:=false) (by decide) (by decide+kernel) (by decide+kernel)
theorem yM (d:D):PySem.W.kitOne K (tyD d) (.type "tuple")=some (jo d):=by
 cases d with
 |tup z=>exact kit_self (by decide)
 |_=>exact kit_no (b:=false) (by decide) (by decide+kernel) (by decide+kernel)
end
theorem Zb (c k:Nat):decide ((⟨#[c]⟩:Str).cps.toList< [k])=decide (c<k):=by
 rw [uA];simp [List.cons_lt_cons_iff]
theorem one_gt (c k:Nat):decide ([k]<(⟨#[c]⟩:Str).cps.toList)=decide (k<c):=by
 rw [uA];simp [List.cons_lt_cons_iff]
theorem ix_listK {X:Cx}{K:PySem.W.Frag}(h:X.K=K):IxR X (rIxL K):=by subst h;exact qO
def iTupB (K:PySem.W.Frag)(tl:TE):TI:=fun σ H R=>tl σ H fun x H1=>∃a xs,x= .ref a/\SqT K H1 a xs/\(xs.length<=sizeLine->R (Itt K a) H1)
theorem Y7 {X:Cx}{tg l:Expr}{tl:TE}(M:PE X l tl):PI X tg l (iTupB X.K tl):=by
 intro pins s σ H R I h;refine thn (M pins s σ H _ I h) fun v s1 ⟨x,H1,L,O,q1⟩=> ?_;obtain⟨a,xs,e,U,q⟩:=q1;subst e;cases O;obtain⟨its,rv,p,Y⟩:=L.tuple U;refine vS (show s1.heap.IsTuple a its.toArray from p) ?_
 refine⟨s1.heap.objs.size,[s1.heap.objs.size],_,_,H1,rfl,L.kept (t':=s1.toks) fun b o e=>u3 _ e,zV a _,⟨_,uw _ rfl,rfl,rfl⟩,fun b hb=> ?_,q Y⟩;have e:b=s1.heap.objs.size:=by simpa using hb
 subst e;exact L.fpOk (ug _) (L.hok.fresh (ug _))
theorem call_lenB {X:Cx}:yX X (.builtin "len") (fun xs H Q=>∃p ys,xs= [.ref p]/\(SqL X.K H p ys∨SqT X.K H p ys)/\(ys.length<=sizeLine->Q (.int ys.length) H)):=by
 intro pins s σ H xs us Q I r h;obtain⟨p,ys,e,L,q⟩:=h;have M:ys.length<=sizeLine:=by
  rcases L with L|L
  ·exact(I.list L).choose_spec.2.2
  ·exact(I.tuple L).choose_spec.2.2
 exact qE pins s σ H xs us Q I r ⟨p,ys,e,L,q M⟩
theorem cutV_take {xs:List V}{n:Nat}(h:n<=xs.length):cutV xs none (some (n:Int))=xs.take n:=by
 unfold cutV;rw [HT.sIx_none,HT.sIx_nat,UB h,vO,Nat.sub_zero]
theorem Ju {xs:List V}{n:Nat}(h:n<=xs.length):cutV xs (some (n:Int)) none=xs.drop n:=by
 unfold cutV;rw [HT.sIx_none,HT.sIx_nat,UB h];exact uN (by rw [uC];exact ug _)
end L2
namespace L2
open PySem PySem.Spec PyProof.Rows Builtin Builtin.Str
noncomputable def posL (c:Nat):List Nat->Nat->List Nat
 | [],_=> []
 |a::r,i=>if a=c then i::posL c r (i+1) else posL c r (i+1)
noncomputable def cutL (c:Nat):Nat->List Nat->List (List Nat)
 |0,L=> [L]
 |_+1,[]=> [[]]
 |n+1,a::r=>if a=c then []::cutL c n r else match cutL c (n+1) r with
  |p::q=>(a::p)::q
  | []=> [[a]]
def ofL (l:List Nat):Str:=⟨l.toArray⟩
theorem QH (z:Str):ofL z.cps.toList=z:=by
 unfold ofL;simp
theorem Yr (c:Nat):∀(n:Nat) (L:List Nat),∃p q,cutL c n L=p::q
 |0,L=>⟨L,[],by simp [cutL]⟩
 |n+1,[]=>⟨[],[],by simp [cutL]⟩
 |n+1,a::r=>by
  by_cases h:a=c
  ·exact⟨[],cutL c n r,by simp [cutL,h]⟩
  ·obtain⟨p,q,e⟩:=Yr c (n+1) r;exact⟨a::p,q,by simp [cutL,h,e]⟩
theorem Zr {c:Nat}{n:Nat}{r:List Nat}:∀{p:List Nat},c∉p->cutL c (n+1) (p++c::r)=p::cutL c n r
 | [],_=>by simp [cutL]
 |a::p,h=>by
  have h1:a≠c:=fun e=>h (by simp [e])
  have I:=Zr (n:=n) (r:=r) (p:=p) (fun z=>h (uh _ z));show cutL c (n+1) (a::(p++c::r))=_;rw [cutL,if_neg h1,I]
theorem Xf {c:Nat}{n:Nat}:∀{p:List Nat},c∉p->cutL c n p= [p]
 | [],_=>by cases n<;>simp [cutL]
 |a::p,h=>by
  have h1:a≠c:=fun e=>h (by simp [e])
  cases n with
  |zero=>simp [cutL]
  |succ n=>
   have I:=Xf (n:=n+1) (p:=p) (fun z=>h (uh _ z));rw [cutL,if_neg h1,I]
theorem subAt_sign (x:Str)(c i:Nat)(h:i<x.length):subAt x ⟨#[c]⟩ i=decide (x.cps.toList[i]? =some c):=by
 rw [StrLaws.subAt_eq];have I:i<x.cps.toList.length:=by simpa [Str.length] using h
 have e1:(x.cps.toList.drop i).take 1= [x.cps.toList[i]]:=by
  rw [vf I]
  rfl
 show((x.cps.toList.drop i).take 1== [c])=_;rw [e1,ul I];generalize x.cps.toList[i]=k;by_cases e:k=c
 ·simp [e]
 ·simp [e]
theorem occ_go (x:Str)(c n:Nat):∀(m k:Nat) (I:Array Nat) (free:Nat),k+m=x.length+1->free<=k->
  (forIn (List.range' k m) (I,free) (StrLaws.occBody x ⟨#[c]⟩ x.length n)).run.fst.toList=I.toList++(posL c (x.cps.toList.drop k) k).take (n-I.size)
 |0,k,I,free,hk,_=>by
  have hl:x.cps.toList.length<=k:=by simp [Str.length] at hk⊢;omega
  rw [vy hl];simp [posL]
 |m+1,k,I,free,hk,hf=>by
  rw [List.range'_succ,Ue];unfold StrLaws.occBody;have Y:x.cps.toList.length=x.length:=by simp [Str.length]
  by_cases O:k<x.length
  ·have R:k<x.cps.toList.length:=by omega
   rw [vf R];have U:=subAt_sign x c k O;rw [ul R] at U;by_cases e:x.cps.toList[k]=c
   ·have L:subAt x ⟨#[c]⟩ k=true:=by rw [U,e];simp
    by_cases hn:I.size<n
    ·rw [if_pos ⟨⟨⟨hn,hf⟩,by show k+1<=x.length;omega⟩,L⟩]
     have M:=occ_go x c n m (k+1) (I.push k) (k+1) (by omega) (ug _)
     show(forIn (List.range' (k+1) m) (I.push k,k+1) (StrLaws.occBody x ⟨#[c]⟩ x.length n)).run.fst.toList=_;rw [M];rw [posL,if_pos e,Array.toList_push,Array.size_push];obtain⟨j,hj⟩:∃j,n-I.size=j+1:=⟨n-I.size-1,by omega⟩
     rw [hj,List.take_succ_cons,show n-(I.size+1)=j by omega]
     simp
    ·rw [if_neg (fun z=>hn z.1.1.1)];have M:=occ_go x c n m (k+1) I free (by omega) (by omega)
     show(forIn (List.range' (k+1) m) (I,free) (StrLaws.occBody x ⟨#[c]⟩ x.length n)).run.fst.toList=_;rw [M,show n-I.size=0 by omega]
     simp
   ·have L:¬subAt x ⟨#[c]⟩ k=true:=by rw [U];intro z;exact e (uQ (ua z))
    rw [if_neg (fun z=>L z.2)];have M:=occ_go x c n m (k+1) I free (by omega) (by omega)
    show(forIn (List.range' (k+1) m) (I,free) (StrLaws.occBody x ⟨#[c]⟩ x.length n)).run.fst.toList=_;rw [M,posL,if_neg e]
  ·rw [if_neg (fun z=>O (by have:=z.1.2;show k<x.length;have h1:k+1<=x.length:=this;omega))]
   have M:=occ_go x c n m (k+1) I free (by omega) (by omega)
   show(forIn (List.range' (k+1) m) (I,free) (StrLaws.occBody x ⟨#[c]⟩ x.length n)).run.fst.toList=_;rw [M];have h1:x.cps.toList.length<=k:=by omega
   rw [vy h1,vy (by omega)]
   simp [posL]
theorem Zn (x:Str)(c n:Nat):occurrences x ⟨#[c]⟩ 0 x.length n=(posL c x.cps.toList 0).take n:=by
 rw [StrLaws.occ_eq];have:=occ_go x c n (x.length+1) 0 #[] 0 (by omega) (ug _)
 simpa using this
def att (p:List Nat):List (List Nat)->List (List Nat)
 |q::r=>(p++q)::r
 | []=> [p]
theorem parts_go (x:Str)(c:Nat):∀(m n a b:Nat),a<=b->b+m=x.length->
  StrLaws.partsFrom x 1 a ((posL c (x.cps.toList.drop b) b).take n)=(att ((x.cps.toList.drop a).take (b-a)) (cutL c n (x.cps.toList.drop b))).map ofL:=by
 have R:x.cps.toList.length=x.length:=by simp [Str.length]
 have I:∀i j,strSub x i j=ofL ((x.cps.toList.drop i).take (j-i)):=fun i j=>by
  rw [<-QH (strSub x i j),StrLaws.strSub_toList]
 intro m
 induction m with
 |zero=>
  intro n a b M Y;have h1:x.cps.toList.drop b= []:=vy (by omega)
  rw [h1];have e1:cutL c n []= [[]]:=by cases n<;>simp [cutL]
  rw [e1];simp only [posL,List.take_nil,StrLaws.partsFrom,att,vG,uj,vj];rw [I,show x.length-a=b-a by omega]
 |succ m U=>
  intro n a b M Y;have L:b<x.cps.toList.length:=by omega
  rw [vf L];cases n with
  |zero=>
   simp only [List.take_zero,StrLaws.partsFrom,cutL,att,uj,vj];rw [I,<-vf L];have e2:(x.cps.toList.drop a).take (x.length-a)=x.cps.toList.drop a:=uN (by rw [uC];omega)
   have O:x.cps.toList.drop b=(x.cps.toList.drop a).drop (b-a):=by rw [List.drop_drop];congr 1;omega
   rw [e2,O,List.take_append_drop]
  |succ n=>
   by_cases e:x.cps.toList[b]=c
   ·rw [posL,if_pos e,List.take_succ_cons,StrLaws.partsFrom,cutL,if_pos e];rw [U n (b+1) (b+1) (ug _) (by omega)]
    obtain⟨p,q,e2⟩:=Yr c n (x.cps.toList.drop (b+1));rw [e2,I];simp [att]
   ·rw [posL,if_neg e,U (n+1) a (b+1) (by omega) (by omega),cutL,if_neg e]
    obtain⟨p,q,e2⟩:=Yr c (n+1) (x.cps.toList.drop (b+1));rw [e2];simp only [att,uj]
    congr 2
    have O:b+1-a=(b-a)+1:=by omega
    have hx:b-a<(x.cps.toList.drop a).length:=by rw [uC];omega
    rw [O,List.take_succ_eq_append_getElem hx];simp [show a+(b-a)=b by omega]
theorem parts_cut (x:Str)(c n:Nat):partsBetween x (occurrences x ⟨#[c]⟩ 0 x.length n) 1=(cutL c n x.cps.toList).map ofL:=by
 rw [StrLaws.partsBetween_eq,Zn];have:=parts_go x c x.length n 0 0 (ug _) (by omega)
 rw [vO] at this;rw [this];obtain⟨p,q,e⟩:=Yr c n x.cps.toList;rw [e];simp [att]
theorem X7 {c:Nat}:∀{L:List Nat}{i:Nat},posL c L i= []->c∉L
 | [],_,_=>by simp
 |a::r,i,h=>by
  by_cases e:a=c
  ·simp [posL,e] at h
  ·rw [posL,if_neg e] at h;have:=X7 h;simp [U9 e,this]
theorem Jj:∀(l:List Str) (k:Nat),Vals (l.map V.str) (strsFrom k l)
 | [],_=> .nil
 |x::r,k=> .cons ⟨k,rfl⟩ (Jj r (k+1))
theorem XX:∀{l:List Str}{us:List Value},Vals (l.map V.str) us->∃ps:List (Str×Tok),us=strValues ps/\ps.map (·.1)=l
 | [],_,.nil=>⟨[],rfl,rfl⟩
 |x::r,_,.cons ⟨t,e⟩ h=>by
  obtain⟨ps,e1,e2⟩:=XX h;subst e;exact⟨(x,t)::ps,by rw [e1];rfl,by rw [uj,e2]⟩
theorem zk (z:Str):¬Builtin.Str.strKind z<Builtin.Str.strKind " ":=by
 have h1:Builtin.Str.strKind " "=1:=by decide+kernel
 rw [h1];unfold Builtin.Str.strKind;split
 ·omega
 ·split<;>omega
theorem Zi (c:Nat):∀(n:Nat) (L:List Nat),(cutL c n L).length<=L.length+1
 |0,L=>by simp [cutL]
 |n+1,[]=>by simp [cutL]
 |n+1,a::r=>by
  by_cases h:a=c
  ·have:=Zi c n r;simp [cutL,h];omega
  ·have:=Zi c (n+1) r;obtain⟨p,q,e⟩:=Yr c (n+1) r;rw [e] at this;simp only [cutL,if_neg h,e];simp at this⊢;omega
def spl (n:Nat)(z:Str):List Str:=(cutL 32 n z.cps.toList).map ofL
theorem spl_len (n:Nat)(z:Str):(spl n z).length<=z.length+1:=by
 unfold spl;rw [ub];have:=Zi 32 n z.cps.toList
 simpa [Str.length] using this
theorem jh:(" ":Str)=⟨#[32]⟩:=by decide+kernel
theorem spl_one {z:Str}{n:Nat}(hn:z.length<=n∨z.length<1∨True)(h:(occurrences z " " 0 z.length n).isEmpty=true)(I:n≠0):spl n z= [z]:=by
 rw [jh,Zn,List.isEmpty_iff] at h;have h1:posL 32 z.cps.toList 0= []:=by
  cases e:posL 32 z.cps.toList 0 with
  |nil=>rfl
  |cons a r=>
   rw [e] at h;obtain⟨k,rfl⟩:∃k,n=k+1:=⟨n-1,by omega⟩
   simp at h
 unfold spl;rw [Xf (X7 h1)];simp [QH]
section
variable {X:Cx}
def rSplit:V->List V->Hp->VK->Prop:=fun x vs H Q=>∃z,x= .str z/\vs= [.str " "]/\z.length<=1000/\∀p,H p=none->Q (.ref p) (upd H p (.lst ((spl (z.length+1) z).map V.str)))
theorem jl {pins:List (Addr×Obj)}{σ:St}{H:Hp}{s:Shared}{Q:VK}{ys:List V}{its:List Value}{t':Nat}(I:Inv X pins σ H s)(L:Vals ys its)(M:ys.length<=sizeLine)(q:∀p,H p=none->Q (.ref p) (upd H p (.lst ys)))(O:0<t':=by ac_rfl):
  EP X pins σ Q (.ref s.heap.objs.size) {s with heap:=s.heap.push {cls:= .type "list",data:= .seq its.toArray},toks:=t'}:=
 ⟨.ref s.heap.objs.size,_,I.lnew L M,rfl,q _ I.fresh⟩
theorem Zj:MtM X "str.split" rSplit:=by
 intro pins s σ H x vs v us Q I O rv h;obtain⟨z,rfl,rfl,R,q⟩:=h;obtain⟨t,rfl⟩:=O;obtain⟨u,rfl,t',rfl⟩:=rv.one;have L:z.length<=sizeLine:=by rw [uL];omega
 have one:spl (z.length+1) z= [z]->∀(T:Nat),0<T->EP X pins σ Q (.ref s.heap.objs.size) {s with heap:=s.heap.push {cls:= .type "list",data:= .seq [Value.str z t].toArray},toks:=T}:=fun e T U=>by
  rw [e] at q;exact jl (ys:= [V.str z]) I (.cons (show RelV (V.str z) _ from⟨t,rfl⟩) .nil) (by show 1<=sizeLine;decide) q
 cases h1:(decide (z.length<(" ":Str).length)||decide (Builtin.Str.strKind z<Builtin.Str.strKind " ")) with
 |true=>
  refine vL vv (vK _ _ _) vo (vV _ _) (meets_str_split_cannot_occur z " " t t' h1) ?_;have h2:z.length<1:=by
   rw [Bool.or_eq_true] at h1;rcases h1 with h1|h1
   ·exact ua h1
   ·exact absurd (ua h1) (zk z)
  refine one ?_ s.toks I.tk;have e:z.cps.toList= []:=uG (by simpa [Str.length] using h2)
  unfold spl;rw [e,cutL];rw [<-QH z,e]
  rfl
 |false=>
  cases M:(occurrences z " " 0 z.length (z.length+1)).isEmpty with
  |true=>
   refine vL vv (vK _ _ _) vo (vV _ _) (meets_str_split_not_found z " " t t' h1 (by decide) M) ?_
   exact one (spl_one (.inr (.inr trivial)) M (by omega)) s.toks I.tk
  |false=>
   have Y:=spl_len (z.length+1) z;have e:partsBetween z (occurrences z " " 0 z.length (z.length+1)) (" ":Str).length=spl (z.length+1) z:=by
    rw [jh];exact parts_cut z 32 (z.length+1)
   refine vL vv (vK _ _ _) vo (vV _ _) (meets_str_split_sep z " " t t' h1 (by decide) M L (by rw [e,uL];omega)) ?_
   rw [e];exact jl I (Jj _ _) (by rw [ub,uL];omega) q
theorem jQ (x y:Str)(k:Int)(t u v:Tok)(M:(decide (k< -(2^63:Int))||decide (k≥2^63))=false)(h1:(decide (x.length<y.length)||decide (Builtin.Str.strKind x<Builtin.Str.strKind y))=false)(O:(y.length==0)=false)
  (U:(occurrences x y 0 x.length (limitOf x k)).isEmpty=true):Meets («str.split» ⟨[.str x t,.str y u,.int k v],[]⟩) (listOfItself x t):=by
 obtain⟨L,I⟩:=split_sep_max_tree x y k t u v M;refine .of_wp fun prog w A R s h=> ?_;rw [I,h1,O,U];show wpAny _ _ (do rule "str.split.same-object";ret (<-newList [.str x t])) _ _ s
 exact wpAny_bind (Ut (wpAny_bind (wpAny_newList (uc ⟨_,rfl,h⟩) (by show 1<=sizeLine;decide))))
theorem YI (x y:Str)(k:Int)(t u v:Tok)(M:(decide (k< -(2^63:Int))||decide (k≥2^63))=false)(h1:(decide (x.length<y.length)||decide (Builtin.Str.strKind x<Builtin.Str.strKind y))=true):
  Meets («str.split» ⟨[.str x t,.str y u,.int k v],[]⟩) (listOfItself x t):=by
 obtain⟨L,I⟩:=split_sep_max_tree x y k t u v M;refine .of_wp fun prog w A R s h=> ?_;rw [I,h1];show wpAny _ _ (do rule "str.split.sep-cannot-occur";ret (<-newList [.str x t])) _ _ s
 exact wpAny_bind (Ut (wpAny_bind (wpAny_newList (uc ⟨_,rfl,h⟩) (by show 1<=sizeLine;decide))))
def rSplitN:V->List V->Hp->VK->Prop:=fun x vs H Q=>∃(z:Str) (n:Nat),x= .str z/\vs= [.str " ",.int (n:Int)]/\z.length<=1000/\0<n/\n<=1000/\∀p,H p=none->Q (.ref p) (upd H p (.lst ((spl n z).map V.str)))
theorem mt_splitN:MtM X "str.split" rSplitN:=by
 intro pins s σ H x vs v us Q I Y rv h;obtain⟨z,n,rfl,rfl,hz,aa,hn,q⟩:=h;obtain⟨t,rfl⟩:=Y;obtain⟨u,u',rfl,⟨t',rfl⟩,⟨M,rfl⟩⟩:=vals2 rv;have R:z.length<=sizeLine:=by rw [uL];omega
 have U:(decide ((n:Int)< -(2^63:Int))||decide ((n:Int)≥2^63))=false:=by
  rw [u9 (by omega),u9 (by omega)];rfl
 have L:limitOf z (n:Int)=n:=by
  unfold limitOf;rw [if_neg (by omega)]
  omega
 have one:spl n z= [z]->∀(T:Nat),0<T->EP X pins σ Q (.ref s.heap.objs.size) {s with heap:=s.heap.push {cls:= .type "list",data:= .seq [Value.str z t].toArray},toks:=T}:=fun e T hT=>by
  rw [e] at q;exact jl (ys:= [V.str z]) I (.cons (show RelV (V.str z) _ from⟨t,rfl⟩) .nil) (by show 1<=sizeLine;decide) q
 cases h1:(decide (z.length<(" ":Str).length)||decide (Builtin.Str.strKind z<Builtin.Str.strKind " ")) with
 |true=>
  refine vL vv (vK _ _ _) vo (F.args_str_split_3 _ _ _) (YI z " " n t t' M U h1) ?_;have h2:z.length<1:=by
   rw [Bool.or_eq_true] at h1;rcases h1 with h1|h1
   ·exact ua h1
   ·exact absurd (ua h1) (zk z)
  refine one ?_ s.toks I.tk;have e:z.cps.toList= []:=uG (by simpa [Str.length] using h2)
  obtain⟨j,rfl⟩:∃j,n=j+1:=⟨n-1,by omega⟩
  unfold spl;rw [e,cutL];rw [<-QH z,e]
  rfl
 |false=>
  cases O:(occurrences z " " 0 z.length (limitOf z (n:Int))).isEmpty with
  |true=>
   refine vL vv (vK _ _ _) vo (F.args_str_split_3 _ _ _) (jQ z " " n t t' M U h1 (by decide) O) ?_
   rw [L] at O;exact one (spl_one (.inr (.inr trivial)) O (by omega)) s.toks I.tk
  |false=>
   have hl:=spl_len n z;have e:partsBetween z (occurrences z " " 0 z.length (limitOf z (n:Int))) (" ":Str).length=spl n z:=by
    rw [jh,L];exact parts_cut z 32 n
   refine vL vv (vK _ _ _) vo (F.args_str_split_3 _ _ _) (meets_str_split_sep_max z " " n t t' M U h1 (by decide) O R (by rw [e,uL];omega)) ?_
   rw [e];exact jl I (Jj _ _) (by rw [ub,uL];omega) q
def jp (c:Nat):List Nat->List Nat
 | []=> []
 |a::r=>if a=c then [] else a::jp c r
theorem headL_pos {c:Nat}:∀{L:List Nat}{i j:Nat}{r:List Nat},posL c L i=j::r->i<=j/\jp c L=L.take (j-i)
 | [],_,_,_,h=>by simp [posL] at h
 |a::q,i,j,r,h=>by
  by_cases e:a=c
  ·rw [posL,if_pos e] at h;cases h;exact⟨ug _,by simp [jp,e]⟩
  ·rw [posL,if_neg e] at h;obtain⟨h1,h2⟩:=headL_pos h;refine⟨by omega,?_⟩
   rw [jp,if_neg e,h2,show j-i=(j-(i+1))+1 by omega,List.take_succ_cons]
theorem JO {c:Nat}:∀{L:List Nat},c∉L->jp c L=L
 | [],_=>rfl
 |a::r,h=>by
  have h1:a≠c:=fun e=>h (by simp [e])
  rw [jp,if_neg h1,JO fun z=>h (uh _ z)]
def hd (z:Str):Str:=ofL (jp 32 z.cps.toList)
theorem fin_tup {pins:List (Addr×Obj)}{σ:St}{H:Hp}{s:Shared}{Q:VK}{ys:List V}{its:List Value}{t':Nat}(I:Inv X pins σ H s)(L:Vals ys its)(M:ys.length<=sizeLine)(q:∀p,H p=none->Q (.ref p) (upd H p (.tup ys)))(O:0<t':=by ac_rfl):
  EP X pins σ Q (.ref s.heap.objs.size) {s with heap:=s.heap.push {cls:= .type "tuple",data:= .seq its.toArray},toks:=t'}:=
 ⟨.ref s.heap.objs.size,_,I.laid (o:= .tup ys) (fun _ _ w=>u3 _ w) (ug _) ⟨M,its,L,IsTup.new _ _⟩,rfl,q _ I.fresh⟩
def rPart:V->List V->Hp->VK->Prop:=fun x vs H Q=>∃z,x= .str z/\vs= [.str " "]/\z.length<=1000/\∀p a b,H p=none->Q (.ref p) (upd H p (.tup [.str (hd z),.str a,.str b]))
theorem mt_part:MtM X "str.partition" rPart:=by
 intro pins s σ H x vs v us Q I U rv h;obtain⟨z,rfl,rfl,Y,q⟩:=h;obtain⟨t,rfl⟩:=U;obtain⟨u,rfl,t',rfl⟩:=rv.one;have M:z.length<=sizeLine:=by rw [uL];omega
 refine vL F.slot_str_partition (vK _ _ _) F.entry_str_partition (F.args_str_partition_2 _ _) (meets_str_partition z " " t t' (by decide) M) ?_
 cases L:occurrences z " " 0 z.length 1 with
 |nil=>
  have O:hd z=z:=by
   rw [jh,Zn] at L;have h1:posL 32 z.cps.toList 0= []:=by
    cases e:posL 32 z.cps.toList 0 with
    |nil=>rfl
    |cons a r=>rw [e] at L;simp at L
   unfold hd;rw [JO (X7 h1),QH]
  refine fin_tup (ys:= [.str (hd z),.str Str.empty,.str Str.empty]) (t':=s.toks+1) I (.cons (show RelV (V.str (hd z)) _ from⟨t,by rw [O]⟩) (.cons (show RelV (V.str _) _ from⟨_,rfl⟩) (.cons (show RelV (V.str _) _ from⟨_,rfl⟩) .nil))) (by show 3<=sizeLine;decide) fun p R=>q p _ _ R
 |cons i r=>
  have O:hd z=strSub z 0 i:=by
   rw [jh,Zn] at L;cases e:posL 32 z.cps.toList 0 with
   |nil=>rw [e] at L;simp at L
   |cons a r'=>
    rw [e] at L;have:a=i:=by simp at L;exact L.1
    subst this;obtain⟨_,h2⟩:=headL_pos e;unfold hd;rw [h2,<-QH (strSub z 0 a),StrLaws.strSub_toList,vO]
  refine fin_tup (ys:= [.str (hd z),.str " ",.str _]) (t':=s.toks+1+1) I (.cons (show RelV (V.str (hd z)) _ from⟨s.toks,by rw [O]⟩) (.cons (show RelV (V.str _) _ from⟨t',rfl⟩) (.cons (show RelV (V.str _) _ from⟨s.toks+1,rfl⟩) .nil))) (by show 3<=sizeLine;decide) fun p R=>q p _ _ R
def rJoin (K:PySem.W.Frag):V->List V->Hp->VK->Prop:=fun x vs H Q=>∃(sep:Str) (p:Addr) (l:List Str),x= .str sep/\vs= [.ref p]/\SqL K H p (l.map V.str)/\(l.map (·.length)).sum+l.length*sep.length<=1000000/\Q (.str (Str.join sep l)) H
theorem ZA:MtM X "str.join" (rJoin X.K):=by
 intro pins s σ H x vs v us Q I R rv h;obtain⟨O,p,l,rfl,rfl,U,Y,q⟩:=h;obtain⟨t,rfl⟩:=R;obtain⟨u,rfl,ru⟩:=rv.one;cases ru;obtain⟨its,r,pl,hl⟩:=I.list U;obtain⟨ps,rfl,e2⟩:=XX r;have M:tooLong ((ps.map (·.1)).toArray.foldl (·+ ·.length+O.length) 0)=false:=by
  rw [e2];have:=StrLaws.joinTotal O l;rw [this];unfold tooLong;refine u9 ?_;rw [uL];omega
 refine vL F.slot_str_join (vK _ _ _) F.entry_str_join (F.args_str_join_2 _ _) (meets_str_join_list O t p ps M) ⟨pl.isList,?_⟩;have L:(glued O (ps.map (·.1))).length<=sizeLine:=joinFit_length M
 match ps,e2,L with
 | [],e2,L=>
  subst e2;exact⟨L,.str _,H,I.tok _,⟨_,rfl⟩,q⟩
 | [a],e2,_=>
  subst e2;exact⟨.str _,H,I,⟨a.2,rfl⟩,q⟩
 |a::b::r,e2,L=>
  subst e2;refine⟨L,.str _,H,I.tok _,⟨_,rfl⟩,?_⟩;rw [StrLaws.glued_eq_join];exact q
theorem call_intS:yX X (.type "int") (fun xs H Q=>∃z n,xs= [.str z]/\PySem.intText? z=some n/\z.length<=640/\Q (.int n) H):=by
 intro pins s σ H xs us Q I r h;obtain⟨z,n,rfl,hn,L,q⟩:=h;obtain⟨u,rfl,t,rfl⟩:=Jd r;exact PySem.W.KIN.call_text hn L ⟨.int n,H,I.tok _,⟨_,rfl⟩,q⟩
end
end L2
namespace L2
open PySem PySem.Spec PyProof.Rows
theorem Inv.turnedL {X:Cx}{pins:List (Addr×Obj)}{σ:St}{H:Hp}{s:Shared}{h':Heap}{t':Nat}{fp:List Addr}(I:Inv X pins σ H s)(k:∀b o,b∉fp->s.heap.get? b=some o->h'.get? b=some o)(M:∀b∈fp,FpOk X pins H b)(ht:0<t':=by ac_rfl):Inv X pins σ H {s with heap:=h',toks:=t'}:=by
 have O:∀b u,H b=some u->b∉fp:=fun b u e z=>by
  have:=(M b z).1;rw [this] at e;cases e
 have nL:X.env.locals∉fp:=fun z=>(M _ z).2.1 rfl;refine I.step (g':=s.gens) (d':=s.drawn) (ch:=fp) (fun b R=>⟨(M b R).2.2.2.1,(M b R).2.1,(M b R).2.2.2.2.1,(M b R).2.2.2.2.2⟩) (fun b o _ _ L e _=>k b o L e) (fun b o _ _ L e _=>⟨o.slots,k b o L e⟩) (fun _ _ _ _ n=>n)
  (fun b o L e=>⟨o,k b o L e⟩) (fun _ _ e=>e) (fun _ _ _ e=>e) (fun b ps e=>⟨#[],by rw [e];simp⟩) (fun m hm=> ?_) (fun b u e=> ?_) I.bare
 ·obtain⟨o,es,U,Y,r⟩:=hm;exact⟨o,es,U,k _ o nL Y,r⟩
 ·refine(I.hok b u e).stay (fun c v L q=>k c v ?_ q) (fun _ q=>q) fun _ _ q=>q;rcases L with z|z
  ·rw [z];exact O b u e
  ·exact O c _ z
theorem Inv.handed {X:Cx}{pins:List (Addr×Obj)}{σ:St}{H:Hp}{s:Shared}{h':Heap}{t':Nat}{fp:List Addr}{ys:List V}{its:List Value}(I:Inv X pins σ H s)(O:∀b∈fp,FpOk X pins H b)(R:∀b∈fp,b<s.heap.objs.size)(U:Vals ys its)(Y:ys.length<=sizeLine)
  (hn:h'.get? s.heap.objs.size=some {cls:= .type "tuple",data:= .seq its.toArray}) (hs:h'.objs.size=s.heap.objs.size+1) (k:∀b o,b∉fp->s.heap.get? b=some o->h'.get? b=some o) (ht:0<t':=by ac_rfl):
  Inv X pins σ (upd H s.heap.objs.size (.tup ys)) {s with heap:=h',toks:=t'}/\∀b∈fp,FpOk X pins (upd H s.heap.objs.size (.tup ys)) b:=by
 have I1:Inv X pins σ (upd H s.heap.objs.size (.tup ys)) {s with heap:=s.heap.push {cls:= .type "tuple",data:= .seq its.toArray},toks:=t'}:=
  I.laid (o:= .tup ys) (fun _ _ w=>u3 _ w) (ug _) ⟨Y,its,U,IsTup.new _ _⟩
 have L:∀b∈fp,FpOk X pins (upd H s.heap.objs.size (.tup ys)) b:=fun b M=>by
  obtain⟨f0,f1,f2,f3,f4,f5⟩:=O b M;have:=R b M;exact⟨by rw [qx (uK this)];exact f0,f1,f2,f3,f4,f5⟩
 refine⟨I1.turnedL (h':=h') (t':=t') (fun b o M e=> ?_) L,L⟩;rcases Heap.get?_push_cases (show(s.heap.push {cls:= .type "tuple",data:= .seq its.toArray}).get? b=some o from e) with⟨rfl,rfl⟩|e'
 ·exact hn
 ·exact k b o M e'
def Itz (K:PySem.W.Frag)(a b:Addr):It:=
 ⟨fun i H=>∃xs ys x y,SqT K H a xs/\SqL K H b ys/\xs[i]? =some x/\ys[i]? =some y,
  fun i H v H'=>∃p x y,v= .ref p/\H p=none/\H'=upd H p (.tup [x,y])/\(∀xs,SqT K H a xs->xs[i]? =some x)/\∀ys,SqL K H b ys->ys[i]? =some y,
  fun i H=>∃xs,SqT K H a xs/\xs.length=i⟩
def Ite (K:PySem.W.Frag)(a:Addr)(c:Int):It:=
 ⟨fun i H=>∃xs x,SqT K H a xs/\xs[i]? =some x,fun i H v H'=>∃p x,v= .ref p/\H p=none/\H'=upd H p (.tup [.int (c+i),x])/\∀xs,SqT K H a xs->xs[i]? =some x,fun i H=>∃xs,SqT K H a xs/\xs.length=i⟩
def tnZ (a b z p r i j:Addr)(k:Nat)(h:Heap):Prop:=
 IsZip h z p r .none/\IsPair h p (.ref i) (.ref j)/\(∃u v,IsPair h r u v)/\h.IsTupleIter i a k/\h.IsListIter j b k/\AwZ.Apt z p r i j a b
theorem turn_zip {P:Program}{w:World}{K:PySem.W.Frag}{Y:List Expr}{c:Nat}{tp:Pos}(a b z p r i j:Addr):Turn P w K (.Tuple Y c tp) (Itz K a b) [z,p,r,i,j] z (tnZ a b z p r i j) where
 mem:=by simp
 obj:=fun k h st x U=>by
  obtain⟨h1,h2,⟨u,v,O⟩,⟨o4,e4,c4,d4⟩,⟨o5,e5,c5,d5⟩,D⟩:=st;simp only [uB,uD,vb] at U;rcases U with rfl|rfl|rfl|rfl|rfl
  ·exact⟨_,h1,fun v z=>by cases z⟩
  ·exact⟨_,h2,fun v z=>by cases z⟩
  ·exact⟨_,O,fun v z=>by cases z⟩
  ·exact⟨o4,e4,fun v z=>by rw [d4] at z;cases z⟩
  ·exact⟨o5,e5,fun v z=>by rw [d5] at z;cases z⟩
 keep:=fun k h h' st kk=>by
  obtain⟨h1,h2,⟨u,v,O⟩,⟨o4,e4,r4⟩,⟨o5,e5,r5⟩,D⟩:=st;exact⟨kk z (by simp) _ h1,kk p (by simp) _ h2,⟨u,v,kk r (by simp) _ O⟩,⟨o4,kk i (by simp) _ e4,r4⟩,⟨o5,kk j (by simp) _ e5,r5⟩,D⟩
 item:=by
  intro X hP hw hK L k pins s σ H E I hf st hg;subst hP hw hK;obtain⟨xs,ys,x,y,ha,hb,U,hy⟩:=hg;obtain⟨its,ra,pa,za⟩:=I.tuple ha;obtain⟨ag,rb,pb,zb⟩:=I.list hb;obtain⟨ux,ac,ad⟩:=ra.get U;obtain⟨uy,ae,af⟩:=rb.get hy;obtain⟨h1,h2,⟨u,v,O⟩,h4,h5,D⟩:=st;have l1:=uk h1;have l2:=uk h2;have l3:=uk O;have l4:i<s.heap.objs.size:=by obtain⟨o,e,_⟩:=h4;exact uk e
  have l5:j<s.heap.objs.size:=by obtain⟨o,e,_⟩:=h5;exact uk e
  refine AwZ.zip_go D h1 h2 O h4 h5 (show s.heap.IsTuple a its.toArray from pa) pb.isList (x:=ux) (y:=uy) (by simpa using ac) (by simpa using ae) fun h' g1 g2 g3 g4 g5 g6 g7=> ?_
  have g8:IsPair h' p (.ref i) (.ref j):=g7 _ _ D.pz D.pr D.pi D.pj h2;obtain⟨I1,aa⟩:=I.handed (t':=s.toks) (ys:= [x,y]) (its:= [ux,uy]) hf (fun c L=>by
   simp only [uB,uD,vb] at L;rcases L with rfl|rfl|rfl|rfl|rfl<;>assumption) (.cons ad (.cons af .nil)) (by show 2<=sizeLine;decide) g5 g6 (fun c o L e=>by
    simp only [uB,uD,vb,not_or] at L;exact g7 c o L.1 L.2.2.1 L.2.2.2.1 L.2.2.2.2 e)
  refine⟨_,rfl,wpAny_letOwnedTupleGo_zip (s:={s with heap:=h'}) g1 fun ab z2 s2=> ?_⟩
  have M:∀c o,c≠z->h'.get? c=some o->ab.get? c=some o:=fun c o L e=>s2.extBut c o L e;refine⟨.ref s.heap.objs.size,_,I1.turnedL (fp:= [z]) (h':=ab) (t':=s.toks) (fun c o L e=>M c o (by simpa using L) e) (fun c L=>aa c (by simp at L;simp [L])),rfl,⟨_,x,y,rfl,I.fresh,rfl,fun zs R=> ?_,fun zs R=> ?_⟩,⟨z2,M _ _ D.pz g8,⟨_,_,M _ _ D.rz g2⟩,?_,?_,D⟩,fun c L=>(aa c L).1⟩
  ·rw [I.tuple_inj R ha];exact U
  ·rw [I.list_inj R hb];exact hy
  ·obtain⟨o,e,q⟩:=g3;exact⟨o,M _ _ D.iz e,q⟩
  ·obtain⟨o,e,q⟩:=g4;exact⟨o,M _ _ D.jz e,q⟩
 done:=by
  intro X hP hw hK L k pins s σ H E I hf st hg;subst hP hw hK;obtain⟨xs,ha,U⟩:=hg;obtain⟨its,ra,pa,za⟩:=I.tuple ha;have hl:=ra.length;obtain⟨h1,h2,⟨u,v,O⟩,h4,h5,D⟩:=st;refine AwZ.zip_stop (A:=X.A) (I.ok.hd L) D h1 h2 h4 (show s.heap.IsTuple a its.toArray from pa) (by simp;omega) fun h' kk=>⟨rfl,?_⟩
  exact I.turnedL (t':=s.toks) (fun c o L e=>by
   simp only [uB,uD,vb,not_or] at L;exact kk c o L.1 L.2.2.1 L.2.2.2.1 L.2.2.2.2 e) hf
 self:=fun _ _ _ _ _ st h=>wpAny_pyIter_zip st.1 h
section
variable {X:Cx}
theorem apt_mk {n a b:Nat}(ha:a<n)(I:b<n):AwZ.Apt (n+4) (n+2) (n+3) n (n+1) a b:=by
 constructor<;>exact(show _≠((_:Nat)) by omega)
theorem five_le {n x:Nat}(h:x=n+4∨x=n+2∨x=n+3∨x=n∨x=n+1):n<=x:=by omega
theorem two_le {n m x:Nat}(hm:m=n+1)(h:x=m∨x=n):n<=x:=by omega
def iZip (K:PySem.W.Frag)(ta:TA):TI:=fun σ H R=>ta σ H fun vs H1=>∃a b xs ys,vs= [.ref a,.ref b]/\SqT K H1 a xs/\SqL K H1 b ys/\R (Itz K a b) H1
theorem pi_zip {L:List Expr}{c:Nat}{tp p pos:Pos}{e1 e2:Expr}{ta:TA}(hg:Gl X "zip")(hm:X.mg "zip"=none)(ha:PA X [e1,e2] ta)(hs:starEach [e1,e2] X.env= [(false,eval e1 X.env),(false,eval e2 X.env)]:=by rfl)(M:starEach [e2] X.env= [(false,eval e2 X.env)]:=by rfl):
  PI X (.Tuple L c tp) (.Call (.Name "zip" p) [e1,e2] [] pos) (iZip X.K ta):=by
 intro pins s σ H R I h;refine Call_ (Xg I hg hm boot_zip (vp (thn (ha pos pins s σ H _ I h) fun us s1 ⟨vs,H1,O,r1,q1⟩=> ?_) (by rw [hs,M]) (by rw [M];rfl)))
 obtain⟨a,b,xs,ys,e,hA,hB,q⟩:=q1;subst e;obtain⟨u,u',rfl,ru,Y⟩:=vals2 r1;cases ru;cases Y;obtain⟨its,ra,pa,za⟩:=O.tuple hA;obtain⟨aa,rb,pb,zb⟩:=O.list hB;have la:a<s1.heap.objs.size:=by obtain⟨o,e,_⟩:=id pa;exact uk e
 have lb:b<s1.heap.objs.size:=by obtain⟨o,n,e,_⟩:=id pb;exact uk e
 refine AwZ.zip_call (show s1.heap.IsTuple a its.toArray from pa) pb.isList fun h2 g1 g2 g3 g4 g5 g6 g7=> ?_
 refine wpAny_pyIter_zip (s:={s1 with heap:=h2}) g1 ?_
 refine⟨_,[s1.heap.objs.size+4,s1.heap.objs.size+2,s1.heap.objs.size+3,s1.heap.objs.size,s1.heap.objs.size+1],_,_,H1,rfl,O.kept (t':=s1.toks) g7,turn_zip a b _ _ _ _ _,⟨g1,g2,⟨_,_,g3⟩,g4,g5,?_⟩,fun x hx=> ?_,q⟩
 ·exact apt_mk la lb
 ·have U:s1.heap.objs.size<=x:=by
   simp only [uB,uD,vb] at hx;exact five_le hx
  exact O.fpOk U (O.hok.fresh U)
def tnE (a e j:Addr)(c:Int)(k:Nat)(h:Heap):Prop:=(∃old,IsEnum h e j (c+k) old)/\h.IsTupleIter j a k/\e≠j
theorem turn_enum {P:Program}{w:World}{K:PySem.W.Frag}{R:List Expr}{cc:Nat}{tp:Pos}(a e j:Addr)(c:Int):Turn P w K (.Tuple R cc tp) (Ite K a c) [e,j] e (tnE a e j c) where
 mem:=by simp
 obj:=fun k h st x O=>by
  obtain⟨⟨M,h1⟩,⟨o4,e4,c4,d4⟩,D⟩:=st;simp only [uB,uD,vb] at O;rcases O with rfl|rfl
  ·exact⟨_,h1,fun v z=>by cases z⟩
  ·exact⟨o4,e4,fun v z=>by rw [d4] at z;cases z⟩
 keep:=fun k h h' st kk=>by
  obtain⟨⟨M,h1⟩,⟨o4,e4,r4⟩,D⟩:=st;exact⟨⟨M,kk e (by simp) _ h1⟩,⟨o4,kk j (by simp) _ e4,r4⟩,D⟩
 item:=by
  intro X hP hw hK L k pins s σ H E I hf st hg;subst hP hw hK;obtain⟨xs,x,ha,O⟩:=hg;obtain⟨its,ra,pa,za⟩:=I.tuple ha;obtain⟨ux,ab,ac⟩:=ra.get O;obtain⟨⟨M,h1⟩,h4,D⟩:=st;have l1:=uk h1;have l4:j<s.heap.objs.size:=by obtain⟨o,e,_⟩:=h4;exact uk e
  refine AwZ.enum_go h1 h4 (show s.heap.IsTuple a its.toArray from pa) (x:=ux) (by simpa using ab) D fun h' g1 g3 g5 g6 g7=> ?_
  obtain⟨I1,U⟩:=I.handed (t':=s.toks+1) (ys:= [.int (c+k),x]) (its:= [.int (c+k) s.toks,ux]) hf (fun c L=>by
   simp only [uB,uD,vb] at L;rcases L with rfl|rfl<;>assumption) (.cons (show RelV (V.int (c+k)) _ from⟨_,rfl⟩) (.cons ac .nil)) (by show 2<=sizeLine;decide) g5 g6 (fun c o L e=>by
    simp only [uB,uD,vb,not_or] at L;exact g7 c o L.1 L.2 e)
  refine⟨_,rfl,wpAny_letOwnedTupleGo_enum (s:={s with heap:=h',toks:=s.toks+1}) g1 fun Y z2 s2=> ?_⟩
  have aa:∀c o,c≠e->h'.get? c=some o->Y.get? c=some o:=fun c o L e=>s2.extBut c o L e;refine⟨.ref s.heap.objs.size,_,I1.turnedL (fp:= [e]) (h':=Y) (t':=s.toks+1) (fun c o L e=>aa c o (by simpa using L) e) (fun c L=>U c (by simp at L;simp [L])),rfl,⟨_,x,rfl,I.fresh,rfl,fun zs ad=> ?_⟩,⟨⟨ux,?_⟩,?_,D⟩,fun c L=>(U c L).1⟩
  ·rw [I.tuple_inj ad ha];exact O
  ·have e1:c+((k+1:Nat):Int)=c+(k:Int)+1:=by omega
   rw [e1];exact z2
  ·obtain⟨o,e,q⟩:=g3;exact⟨o,aa _ _ (U9 D) e,q⟩
 done:=by
  intro X hP hw hK L k pins s σ H E I hf st hg;subst hP hw hK;obtain⟨xs,ha,O⟩:=hg;obtain⟨its,ra,pa,za⟩:=I.tuple ha;have hl:=ra.length;obtain⟨⟨M,h1⟩,h4,D⟩:=st;refine AwZ.enum_stop (A:=X.A) (I.ok.hd L) h1 h4 (show s.heap.IsTuple a its.toArray from pa) (by simp;omega) fun h' kk=>⟨rfl,?_⟩
  exact I.turnedL (t':=s.toks) (fun c o L e=>by
   simp only [uB,uD,vb,not_or] at L;exact kk c o L.2 e) hf
 self:=fun _ _ _ _ _ st h=>by
  obtain⟨⟨M,h1⟩,_⟩:=st;exact wpAny_pyIter_enum h1 h
def KDict (K:PySem.W.Frag)(w:World)(a:Addr):Prop:=(a==sysModules)=false/\∃es n,K.lookup a=some ⟨.type "dict",none,.dict es n,#[]⟩/\PySem.W.KeysLit w.params es.toList
def rNotK (K:PySem.W.Frag)(w:World):R2:=fun x y H Q=>∃z a r,x= .str z/\y= .ref a/\KDict K w a/\PySem.W.nsIn K a z=some r/\Q (.bl (!r.isSome)) H
theorem op_notK:OpR X (compareOp .NotIn) (rNotK X.K X.w):=by
 intro pins s σ H x y v u Q I M O h;obtain⟨z,a,r,rfl,rfl,⟨R,es,n,L,U⟩,hn,q⟩:=h;obtain⟨t,rfl⟩:=M;cases O;have hm:=PySem.W.mapOf_K (prog:=X.prog) (w:=X.w) I.kIn L U;refine wpAny_notIn_of (strKind_is X.prog X.w z t) R hm ⟨.bl (!r.isSome),H,I.tok _,?_,q⟩;rw [PySem.W.find_K L hn]
 rfl
def rIxK (K:PySem.W.Frag)(w:World):R2:=fun x y H Q=>∃z a u v,x= .ref a/\y= .str z/\KDict K w a/\PySem.W.nsIn K a z=some (some u)/\RelV v u/\Q v H
theorem ix_K:IxR X (rIxK X.K X.w):=by
 intro value L pins s σ H x y v u Q I O R h U;obtain⟨z,a,u',Y,rfl,rfl,⟨_,es,n,M,hk⟩,hn,hr,q⟩:=h;obtain⟨t,rfl⟩:=R;cases O;have hm:=PySem.W.mapOf_K (prog:=X.prog) (w:=X.w) I.kIn M hk;exact tail_any hm.typeIs slot_dict_getitem.lookup (wpAny_getItem_of (strKind_is X.prog X.w z t) hm (PySem.W.find_K M hn) ⟨Y,H,I.tok _,hr,q⟩) U
end
section
variable {X:Cx}{K:PySem.W.Frag}
theorem pg_tupK {es:List Expr}{k:Nat}{t:TGs}{n:Nat}{pos:Pos}(L:X.K=K)(M:X.calm=true)(h:PGs X es t)
  (hn:(assignEach es X.env).length=n:=by rfl) (I:(assignEach es X.env).findIdx? (·.1)=none:=by rfl):PG X (.Tuple es k pos) (gTup K n t):=by subst L;exact Xc M h hn I
end
theorem ZJ {lo:Int}{n:Nat}{L:Addr}{H1:Hp}{te:TE}{tl:St}{Q:VK}(C:Nat->List V->Hp->Prop)(hn:n<=sizeLine)(U:C 0 [] (upd H1 L (.lst [])))
  (Y:∀i ys H,i<n->C i ys H->H L=some (.lst ys)->ys.length<=i->∀R:VK,(∀y I,I L=some (.lst ys)->C (i+1) (ys++ [y]) (upd I L (.lst (ys++ [y])))->R y I)->te (some (.int (lo+(i:Int)))::tl) H R)
  (hQ:∀ys H,C n ys H->H L=some (.lst ys)->Q (.ref L) H):lcGo L (Itr lo n) (jZ 0) tYes te (none::tl) H1 Q:=by
 refine⟨n,fun i σ ys H=>(∃x,σ=x::tl)/\C i ys H,hn,⟨⟨none,rfl⟩,U⟩,?_,?_⟩
 ·rintro i σ ys H hi ⟨⟨x,rfl⟩,M⟩ O hy;refine⟨hi,?_⟩;rintro x' H' ⟨rfl,rfl⟩;dsimp only [jZ,tYes,List.set];rw [if_pos rfl];exact Y i ys H' hi M O hy _ fun y I e c=>⟨e,⟨_,rfl⟩,c⟩
 ·rintro σ ys H ⟨_,M⟩ O;exact⟨ug _,hQ ys H M O⟩
theorem lc_zip {K:PySem.W.Frag}{a b A:Addr}{H1:Hp}{te:TE}{tl:St}{Q:VK}{xs ys:List V}(f:Nat->D)(ha:∀H,Same H1 H->SqT K H a xs)(hb:∀H,Same H1 H->SqL K H b ys)(ab:xs.length=ys.length)(hn:xs.length<=sizeLine)(hA:H1 A=none)
  (O:∀i x y H (R:VK),xs[i]? =some x->ys[i]? =some y->Same H1 H->(∀v H',Same H H'->Is H' (f i) v->R v H')->te (some x::some y::tl) H R)
  (hQ:∀H' vs,Same H1 H'->H' A=some (.lst vs)->L2.IsL H' ((List.range xs.length).map f) vs->Q (.ref A) H'):lcGo A (Itz K a b) (gTup K 2 (gCons (jZ 0) (gCons (jZ 1) gNil))) tYes te (none::none::tl) H1 Q:=by
 refine⟨xs.length,fun i σ us H=>(∃u v,σ=u::v::tl)/\L2.IsL H ((List.range i).map f) us/\Same H1 H,hn,⟨⟨none,none,rfl⟩,rfl,qb hA _⟩,?_,?_⟩
 ·rintro i σ us H hi ⟨⟨u,v,rfl⟩,U,I⟩ L ac;have hx:xs[i]? =some xs[i]:=ul hi;have hy:ys[i]? =some (ys[i]'(by omega)):=ul _
  refine⟨⟨xs,ys,_,_,ha H I,hb H I,hx,hy⟩,fun x H' y=> ?_⟩;obtain⟨p,Y,y',rfl,hp,rfl,e1,e2⟩:=y;have e1:=e1 xs (ha H I);have e2:=e2 ys (hb H I);have s2:Same H (upd H p (.tup [Y,y'])):=qb hp _;refine⟨p,_,rfl,SqT.of qh,rfl,Y,_,rfl,y',_,rfl,rfl,?_⟩;dsimp only [tYes];rw [if_pos rfl];refine O i Y y' _ _ e1 e2 (I.trans s2) fun y4 H4 M aa=>⟨M _ _ (s2 _ _ L),⟨_,_,rfl⟩,?_,fun b o e=> ?_⟩
  ·have t:Tk H4 (upd H4 A (.lst (us++ [y4]))):=Tk.updL (M _ _ (s2 _ _ L));rw [List.range_succ,uE];exact((U.mono (s2.trans M).tk).mono t).append (IsL.one (aa.mono t))
  ·rw [qx (qr e hA)];exact M b o (s2 b o (I b o e))
 ·rintro σ us H ⟨_,U,I⟩ L;exact⟨⟨xs,ha H I,rfl⟩,hQ H us I L U⟩
theorem jG (z:Str)(l:List Str):inV (.str z) (l.map V.str)=decide (z∈l):=by
 unfold inV;rw [List.any_map,vF,List.any_eq_true,U2];constructor
 ·rintro⟨x,L,e⟩;have I:(x==z)=true:=e;rw [beq_iff_eq] at I;exact I▸L
 ·intro h;exact⟨z,h,by show(z==z)=true;exact beq_self_eq_true z⟩
theorem XN (l:List Str):(l.map V.str).all xy=true:=by
 rw [vU,Ur];intro x _
 rfl
inductive Pt where
 |s (z:Str)|n (i:Int)
def Pt.d:Pt->D
 | .s z=> .str z
 | .n i=> .int i
def Pt.t:Pt->Str
 | .s z=>z
 | .n i=>toString i
inductive Kd where
 |box|line|words
 deriving DecidableEq
def Kd.t:Kd->Str
 | .box=>"box"
 | .line=>"line"
 | .words=>"words"
def BX:List Str:= ["a","b","c","d","e","f","g","h"]
def FRM:List (Str×List Kd):= [("text",[.box,.words]),("self",[.box]),("copy",[.box,.box]),("row",[.box]),("put",[.box,.box]),("join",[.box,.box]),("first",[.box,.box]),("rest",[.box,.box]),
 ("size",[.box,.box]),("cut",[.box,.box,.box]),("glue",[.box,.box,.box]),("ask",[.box,.box]),("has",[.box,.box]),("names",[.box,.box]),("go",[.line]),("like",[.box,.box,.line]),
 ("rowed",[.box,.line]),("none",[.box,.line]),("say",[.box]),("fault",[])]
def ptOk (n m:Nat):Kd->Pt->Prop
 | .box,.s z=>z∈BX
 | .line,.n i=>1<=i/\i<=n
 | .words,.s z=>z.length<=m/\z.cps.toList.all qX=true
 |_,_=>False
def y7 (n m:Nat):List Kd->List Pt->Prop
 | [],[]=>True
 |k::ks,p::ps=>ptOk n m k p/\y7 n m ks ps
 |_,_=>False
abbrev Rw:=Str×List Pt
def QI (n m:Nat)(r:Rw):Prop:=∃ks,(r.1,ks)∈FRM/\y7 n m ks r.2
def txs (r:Rw):List Str:=r.1::r.2.map Pt.t
def qH (r:Rw):Str:=Str.join " " (txs r)
def rowD (r:Rw):D:= .tup [.str r.1,.tup (r.2.map Pt.d)]
theorem yi:∀(x y:Str) (r:List Str),(Str.join " " (x::y::r)).cps.toList=x.cps.toList++32::(Str.join " " (y::r)).cps.toList:=by
 intro x y r;show((x.cps++(" ":Str).cps)++(Str.join " " (y::r)).cps).toList=_;rw [Array.toList_append,Array.toList_append,jh];simp
abbrev Free (z:Str):Prop:=32∉z.cps.toList
theorem ZE:∀(l:List Str) (z:Str) (n:Nat),(∀p∈l,Free p)->(n=0∨Free z)->spl (l.length+n) (Str.join " " (l++ [z]))=l++ [z]
 | [],z,n,_,hz=>by
  show spl (0+n) z= [z];rw [Nat.zero_add];unfold spl;rcases hz with rfl|hz
  ·rw [cutL];show [ofL z.cps.toList]= [z];rw [QH]
  ·rw [Xf hz];show [ofL z.cps.toList]= [z];rw [QH]
 |p::l,z,n,hl,hz=>by
  have I:=ZE l z n (fun q L=>hl q (uh _ L)) hz;have M:Free p:=hl p uq;obtain⟨y,r,e⟩:∃y r,l++ [z]=y::r:=by cases l<;>exact⟨_,_,rfl⟩
  show spl ((l.length+1)+n) (Str.join " " (p::(l++ [z])))=p::(l++ [z]);rw [e] at I⊢;unfold spl at I⊢;rw [yi,show l.length+1+n=(l.length+n)+1 by omega,Zr M,uj,I,QH]
theorem hd_join (w:Str)(r:List Str)(h:Free w):hd (Str.join " " (w::r))=w:=by
 have I:∀(p q:List Nat),32∉p->jp 32 (p++32::q)=p:=by
  intro p
  induction p with
  |nil=>intro q _;simp [jp]
  |cons a p L=>
   intro q h;have h1:a≠32:=fun e=>h (by simp [e])
   show jp 32 (a::(p++32::q))=a::p;rw [jp,if_neg h1,L q fun z=>h (uh _ z)]
 cases r with
 |nil=>
  show ofL (jp 32 w.cps.toList)=w;rw [JO h,QH]
 |cons y r=>
  unfold hd;rw [yi,I _ _ h,QH]
theorem xG:∀(l:List Str),l≠ []->(Str.join " " l).length+1=(l.map (·.length)).sum+l.length
 | [],h=>absurd rfl h
 | [x],_=>by simp [Str.join]
 |x::y::r,_=>by
  have I:=xG (y::r) (by simp)
  have e:(Str.join " " (x::y::r)).length=x.length+(1+(Str.join " " (y::r)).length):=by
   have:=congrArg List.length (yi x y r);rw [uf,ud] at this;simp only [v4] at this;show(Str.join " " (x::y::r)).cps.size=_;rw [this];show x.cps.size+((Str.join " " (y::r)).cps.size+1)=x.cps.size+(1+(Str.join " " (y::r)).cps.size);omega
  rw [e,uj,vn,ud];omega
theorem join_all:∀(l:List Str),(∀p∈l,p.cps.toList.all qX=true)->(Str.join " " l).cps.toList.all qX=true
 | [],_=>by decide
 | [x],h=>h x (by simp)
 |x::y::r,h=>by
  have I:=join_all (y::r) fun p L=>h p (uh _ L);rw [yi,List.all_append,vm,h x uq,I]
  rfl
theorem Yk {i:Int}(h1:1<=i)(h2:i<=40):(toString i:Str).length<=2/\Free (toString i:Str)/\(toString i:Str).cps.toList.all qX=true:=by
 obtain⟨k,rfl⟩:∃k:Fin 41,i=((k.val:Nat):Int):=⟨⟨i.toNat,by omega⟩,by simp;omega⟩
 have I:∀k:Fin 41,(toString ((k.val:Nat):Int):Str).length<=2/\decide (Free (toString ((k.val:Nat):Int):Str))=true/\(toString ((k.val:Nat):Int):Str).cps.toList.all qX=true:=by decide+kernel
 obtain⟨a,b,c⟩:=I k;exact⟨a,ua b,c⟩
theorem xR {i:Int}(h1:1<=i)(h2:i<=40):PySem.intText? (toString i:Str)=some i:=PySem.W.KIN.num_reads (by omega) (by omega)
theorem Qo {z:Str}(h:z∈BX):z.length=1/\Free z/\z.cps.toList.all qX=true:=by
 have I:∀z∈BX,z.length=1/\decide (Free z)=true/\z.cps.toList.all qX=true:=by decide+kernel
 obtain⟨a,b,c⟩:=I z h;exact⟨a,ua b,c⟩
theorem ZP:∀x∈FRM,decide (Free x.1)=true/\x.1.cps.toList.all qX=true:=by decide+kernel
theorem Zo:∀x∈FRM,(decide (Kd.words∈x.2)=false)∨x=(("text":Str),[Kd.box,Kd.words]):=by decide+kernel
theorem form_nd:∀x∈FRM,∀y∈FRM,x.1=y.1->x=y:=by decide+kernel
def Kd.most (m:Nat):Kd->Nat
 | .box=>1
 | .line=>2
 | .words=>m
theorem ptOk_len {n m:Nat}(hn:n<=40){k:Kd}{p:Pt}(h:ptOk n m k p):p.t.length<=k.most m:=by
 cases k<;>cases p<;>simp only [ptOk] at h
 ·exact Nat.le_of_eq (Qo h).1
 ·exact(Yk h.1 (by omega)).1
 ·exact h.1
theorem ptOk_all {n m:Nat}(hn:n<=40){k:Kd}{p:Pt}(h:ptOk n m k p):p.t.cps.toList.all qX=true:=by
 cases k<;>cases p<;>simp only [ptOk] at h
 ·exact(Qo h).2.2
 ·exact(Yk h.1 (by omega)).2.2
 ·exact h.2
theorem ptOk_free {n m:Nat}(hn:n<=40){k:Kd}{p:Pt}(h:ptOk n m k p)(I:k≠ .words):Free p.t:=by
 cases k<;>cases p<;>simp only [ptOk] at h
 ·exact(Qo h).2.1
 ·exact(Yk h.1 (by omega)).2.1
 ·exact absurd rfl I
theorem Y6 {n m:Nat}:∀{ks:List Kd}{ps:List Pt},y7 n m ks ps->ps.length=ks.length
 | [],[],_=>rfl
 |_::_,_::_,h=>by rw [ud,ud,Y6 h.2]
 | [],_::_,h=>h.elim
 |_::_,[],h=>h.elim
theorem ptsOk_sum {n m:Nat}(hn:n<=40):∀{ks:List Kd}{ps:List Pt},y7 n m ks ps->((ps.map Pt.t).map (·.length)).sum<=(ks.map (Kd.most m)).sum
 | [],[],_=>ug _
 |_::_,_::_,h=>by
  have h1:=ptOk_len hn h.1;have h2:=ptsOk_sum hn h.2;simp only [uj,vn];omega
 | [],_::_,h=>h.elim
 |_::_,[],h=>h.elim
theorem ptsOk_all {n m:Nat}(hn:n<=40):∀{ks:List Kd}{ps:List Pt},y7 n m ks ps->∀p∈ps.map Pt.t,p.cps.toList.all qX=true
 | [],[],_=>fun p I=>by simp at I
 |_::_,_::_,h=>fun p I=>by
  rw [uj] at I;rcases List.mem_cons.mp I with rfl|I
  ·exact ptOk_all hn h.1
  ·exact ptsOk_all hn h.2 p I
 | [],_::_,h=>h.elim
 |_::_,[],h=>h.elim
theorem zK {n m:Nat}(hn:n<=40):∀{ks:List Kd}{ps:List Pt},y7 n m ks ps->Kd.words∉ks->∀p∈ps.map Pt.t,Free p
 | [],[],_,_=>fun p I=>by simp at I
 |_::_,_::_,h,hk=>fun p I=>by
  rw [uj] at I;rcases List.mem_cons.mp I with rfl|I
  ·exact ptOk_free hn h.1 fun e=>hk (by simp [e])
  ·exact zK hn h.2 (fun z=>hk (uh _ z)) p I
 | [],_::_,h,_=>h.elim
 |_::_,[],h,_=>h.elim
theorem form_len:∀x∈FRM,∀m:Fin 41,3<m.val->x.1.length+(x.2.map (Kd.most m.val)).sum+x.2.length<=7+m.val:=by decide+kernel
theorem line_len {n m:Nat}{r:Rw}(hn:n<=40)(hm:4<=m)(L:m<=40)(h:QI n m r):(qH r).length<=7+m:=by
 obtain⟨ks,M,I⟩:=h;have h1:=xG (txs r) (by simp [txs])
 have h2:=ptsOk_sum hn I;have O:=form_len _ M ⟨m,by omega⟩ hm
 have h4:=Y6 I;simp only [txs,uj,vn,ud,ub] at h1;show(Str.join " " (txs r)).length<=7+m;simp only at O;unfold txs;omega
theorem line_all {n m:Nat}{r:Rw}(hn:n<=40)(h:QI n m r):(qH r).cps.toList.all qX=true:=by
 obtain⟨ks,L,M⟩:=h;refine join_all _ fun p I=> ?_;rcases List.mem_cons.mp I with rfl|I
 ·exact(ZP _ L).2
 ·exact ptsOk_all hn M p I
theorem line_hd {n m:Nat}{r:Rw}(h:QI n m r):hd (qH r)=r.1:=by
 obtain⟨ks,I,L⟩:=h;exact hd_join _ _ (ua (ZP _ I).1)
theorem line_spl {n m:Nat}{r:Rw}{ks:List Kd}(hn:n<=40)(R:(r.1,ks)∈FRM)(M:y7 n m ks r.2):spl (if Kd.words∈ks then ks.length else(qH r).length+1) (qH r)=txs r:=by
 have U:Free r.1:=ua (ZP _ R).1;by_cases h:Kd.words∈ks
 ·rw [if_pos h];rcases Zo _ R with e|e
  ·simp at e;exact absurd h e
  ·have e1:ks= [.box,.words]:=congrArg Prod.snd e;subst e1;obtain⟨w,ps⟩:=r
   match ps,M with
   | [p,q],M=>
    have:=ZE [w,p.t] q.t 0 (fun z Y=>by
     simp only [uB,uD,vb] at Y;rcases Y with rfl|rfl
     ·exact U
     ·exact ptOk_free hn M.1 (by decide)) (.inl rfl)
    exact this
 ·rw [if_neg h];have O:∀p∈txs r,Free p:=fun p L=>by
   rcases List.mem_cons.mp L with rfl|L
   ·exact U
   ·exact zK hn M h p L
  rcases Ug (txs r) with e|⟨l,z,e⟩
  ·simp [txs] at e
  ·rw [Uh] at e;have I:=xG (txs r) (by simp [txs])
   unfold qH;rw [e] at O I⊢;have hl:l.length<=(Str.join " " (l++ [z])).length:=by
    rw [uf] at I;simp only [ud,v8] at I;omega
   have:=ZE l z ((Str.join " " (l++ [z])).length+1-l.length) (fun q hq=>O q (Uj _ hq)) (.inr (O z (by simp)))
   rw [show l.length+((Str.join " " (l++ [z])).length+1-l.length)=(Str.join " " (l++ [z])).length+1 by omega] at this
   exact this
def VE:List Value:= [.type "ValueError",.type "Exception",.type "BaseException",.type "object"]
def CX1 (P:Program)(w:World):CXT:=fun outer H s E e s'=>∃(ea C:Addr) (a0:Value) (H':Hp) (B:Heap),e= .ref ea/\s'.os=s.os/\AllBare s'.gens/\0<s'.toks/\Un (frs outer) [] H H' s.heap s'.heap/\HOk P w H' B/\
 Heap.FlyingW B outer ea (.ref C) a0 s'.heap/\(∀b o,s.heap.get? b=some o->b∉frs outer->∃o',B.get? b=some o')/\E (.ref ea) (some C) H'
theorem cls_in {K:PySem.W.Frag}{h:Heap}{C:Addr}{M:List Value}{I:String}(X:K.In h)(q:PySem.W.excIn K C M I=true):
  ∃bm N nm R bs hdct sn sub ab col dd k0 k1 k2 k3 k5 mN,h.get? C=some (excClassObj nm R C N bs bm hdct sn sub ab col dd k0 k1 k2 k3 k5 I)/\h.Ns N mN/\mN "__init__"=none/\OwnTail h M bm:=by
 unfold PySem.W.excIn at q;split at q
 ·rename_i dd Y sl ho
  split at q
  ·rename_i C' bm k0 k1 k2 k3 n k5 hm U
   simp only [ui,beq_iff_eq,Bool.not_eq_true'] at q;obtain⟨⟨⟨⟨⟨rfl,rfl⟩,L⟩,ht⟩,hok⟩,O⟩:=q;obtain⟨nm,bs,aa,ns,R,hd,sn,sub,ab,col,ac⟩:=Y;dsimp only at hm L hok O;subst hm L;obtain⟨l⟩:=sl;simp only at U;subst U;exact⟨bm,ns,nm,R,bs,hd,sn,sub,ab,col,dd,k0,k1,k2,k3,k5,_,X _ _ ho,.of_isNs (PySem.W.isNs_of_in X hok),PySem.W.nsMap_none_of_in X hok O,PySem.W.tail_of_in X ht⟩
  ·cases q
 ·cases q
theorem funs_gone {h base B:Heap}:∀{l:List Env},h.FunFrames base l->(∀b∈frs l,B.get? b=none)->h.FunFrames B l
 | [],_,_=>trivial
 |env::r,⟨hk,⟨L,o,hf,hn,ho,hd⟩,hr⟩,hB=>by
  have e:frs (env::r)=L::frs r:=by unfold frs;rw [U4,hf]
  rw [e] at hB;exact⟨hk,⟨L,o,hf,hB L uq,ho,hd⟩,funs_gone hr fun b I=>hB b (uh _ I)⟩
def tRaise (E:XK)(C:Addr)(ta:TE):TS:=fun _ σ H=>tCons ta tNil σ H fun vs H1=>vs.length=1/\∀e,E (.ref e) (some C) H1
theorem xO {P:Program}{w:World}{K:PySem.W.Frag}{mg:Str->Option Value}{base:Heap}{N:List Str}{qual:Str}{scope:Scope}{f:Addr}{O:Value}{A:Around}{outer:List Env}{s₀:Shared}{H₀:Hp}{E:XK}
  {x:Str}{C:Addr}{np cpos pos:Pos}{U:Expr}{ta:TE} (hx:PySem.W.excIn K C VE "ValueError.__new__"=true) (hg:Gl (cxOf (CX1 P w) P w K mg base N qual scope f O A outer s₀ H₀ E) x) (hm:mg x=some (.ref C))
  (ha:PE (cxOf (CX1 P w) P w K mg base N qual scope f O A outer s₀ H₀ E) U ta) (hd:(x==("__debug__":Str))=false:=by decide)
  (hs:starEach [U] (envOfC qual scope s₀.heap.objs.size f O)= [(false,eval U (envOfC qual scope s₀.heap.objs.size f O))]:=by rfl):
  PS (cxOf (CX1 P w) P w K mg base N qual scope f O A outer s₀ H₀ E) (.Raise (some (.Call (.Name x np) [U] [] cpos)) none pos) (tRaise E C ta):=by
 intro pins s σ H D I h;obtain⟨bm,Nn,nm,q,bs,hdct,sn,sub,ab,col,dd,k0,k1,k2,k3,k5,mN,hC,hN,ao,T⟩:=cls_in I.mod.kin hx;have hT:bm.contains (.type "BaseException")=true:=T.hasType (by decide)
 refine wpAny_Raise_call_subT (C:=C) (nm:=nm) (q:=q) (N:=Nn) (bs:=bs) (bm:=bm) (hdct:=hdct) (sn:=sn) (sub:=sub) (ab:=ab) (col:=col) (dd:=dd) (k0:=k0) (k1:=k1) (k2:=k2) (k3:=k3) (k5:=k5)
  (mN:=mN) F.excBase_ValueError hT (I.ok.hd rfl) (by show(backTo cpos (starEach [U] (envOfC qual scope s₀.heap.objs.size f O))).any (·.1)=false;rw [hs];rfl) ao (jY I hg hm ⟨rfl,?_⟩ hd)
 have ap:PA (cxOf (CX1 P w) P w K mg base N qual scope f O A outer s₀ H₀ E) [U] (tCons ta tNil):=qa ha qc hs;have hp:=ap cpos pins s σ H (fun vs H1=>vs.length=1/\∀e,E (.ref e) (some C) H1) I h;show wpAny _ _ (evalArgs (.ref C) true (backTo cpos (starEach [U] (envOfC qual scope s₀.heap.objs.size f O))) []) _ _ s;have aq:starEach [U] (cxOf (CX1 P w) P w K mg base N qual scope f O A outer s₀ H₀ E).env= [(false,eval U (envOfC qual scope s₀.heap.objs.size f O))]:=hs;rw [aq] at hp;rw [hs];refine Calls.evalArgs_plain (uY hp (fun vs s₂ h₂=> ?_) fun _ _ y=>y);obtain⟨ws,H2,I2,r2,q2⟩:=h₂;obtain⟨hl,q2⟩:=q2;have bk:=I2.bk;have au:vs.length<=sizeLine:=by rw [<-r2.length,hl];decide
 refine⟨rfl,au,bk _ _ hC,hN.keeps bk,T.keeps bk,fun h' e aa=> ?_⟩;show wpAny (model P w) (A.deeper (envOfC qual scope s₀.heap.objs.size f O)) (leaving (envOfC qual scope s₀.heap.objs.size f O) (.ref e)) (fun _ ae=>CX1 P w outer H₀ s₀ E (.ref e) ae) (fun e' ae=>CX1 P w outer H₀ s₀ E e' ae) _;have av:(A.deeper (envOfC qual scope s₀.heap.objs.size f O)).frames=some (envOfC qual scope s₀.heap.objs.size f O::outer):=I2.ok.frames;have ag:s₂.heap.FunFrames base (envOfC qual scope s₀.heap.objs.size f O::outer):=I2.stack;have af:∀b∈frs (envOfC qual scope s₀.heap.objs.size f O::outer),H2 b=none:=I2.stkFree;have ah:frs (envOfC qual scope s₀.heap.objs.size f O::outer)=s₀.heap.objs.size::frs outer:=rfl;have am:s₀.heap.objs.size<=s₀.heap.objs.size:=I2.ok.above;have M:Un (frs outer) [] H₀ H2 s₀.heap s₂.heap:=I2.base;refine wpAny_leaves_madeW (base:=TI.gone s₂.heap (frs (envOfC qual scope s₀.heap.objs.size f O::outer))) (h:=s₂.heap) (L:=s₀.heap.objs.size) av rfl (fun b o e=>(TI.gone_some e).2) (funs_gone ag fun b R=>TI.gone_none R) aa fun ak t ad ax _ aw=> ?_;have ac:∀b o,b∉frs (envOfC qual scope s₀.heap.objs.size f O::outer)->s₂.heap.get? b=some o->ak.get? b=some o:=fun b o R e=>ad.1 b o (by rw [TI.gone_get R];exact e)
 have slots:∀b o,s₂.heap.get? b=some o->(∀vs,o.data≠ .fields vs)->∃sl,ak.get? b=some {o with slots:=sl}:=fun b o e hn=>aw b o (aa.keeps b o e) hn
 have nd:∀b∈frs outer,∀o,s₂.heap.get? b=some o->∀vs,o.data≠ .fields vs:=fun b R o e=>by
  obtain⟨_,o',e',hn⟩:=ag.mem (show b∈(envOfC qual scope s₀.heap.objs.size f O::outer).filterMap (·.frame) from by rw [show(envOfC qual scope s₀.heap.objs.size f O::outer).filterMap (·.frame)=frs (envOfC qual scope s₀.heap.objs.size f O::outer) from rfl,ah];exact uh _ R)
  rw [e] at e';cases e';exact hn
 have Y:∀b o,s₀.heap.get? b=some o->b∉frs outer->b∉frs (envOfC qual scope s₀.heap.objs.size f O::outer):=fun b o e R hm=>by
  rw [ah] at hm;rcases List.mem_cons.mp hm with rfl|hm
  ·exact absurd (uk e) (vC _)
  ·exact R hm
 refine⟨e,C,.ref t,H2,_,rfl,I2.os,I2.bare,(by first|exact I2.tk|exact Nat.lt_of_lt_of_le I2.tk (Nat.le_add_right _ _)|((try dsimp only);first|assumption|exact Inv.tk (by assumption)|exact Nat.succ_pos _|exact Nat.lt_of_lt_of_le (Inv.tk (by assumption)) (by assumption)|exact Nat.add_pos_left (Inv.tk (by assumption)) _|omega)),⟨?_,?_,M.free,?_,M.tups,M.frzs,M.tbls⟩,?_,ad,?_,q2 e⟩
 ·intro b o e1 hn R hx;exact ac b o (Y b o e1 R) (M.keep b o e1 hn R hx)
 ·intro b o e1 hn R hx;obtain⟨sl,e2⟩:=M.slot b o e1 hn R hx;obtain⟨al,e3⟩:=slots b _ e2 (nd b R _ e2);exact⟨al,e3⟩
 ·intro b o e1 hx;obtain⟨o',e2⟩:=M.there b o e1 hx;by_cases R:b∈frs outer
  ·obtain⟨al,e3⟩:=slots b _ e2 (nd b R _ e2);exact⟨_,e3⟩
  ·exact⟨o',ac b o' (Y b o e1 R) e2⟩
 ·intro b u R;refine(I2.hok b u R).stay (fun c v hc q=> ?_) (fun _ q=>q) fun _ _ q=>q;rw [TI.gone_get]
  ·exact q
  ·intro hm;have hn:=af c hm;rcases hc with z|z
   ·rw [z,R] at hn;cases hn
   ·rw [z] at hn;cases hn
 ·intro b o e1 R;obtain⟨o',e2⟩:=M.there b o e1 (by simp)
  exact⟨o',by rw [TI.gone_get (Y b o e1 R)];exact e2⟩
abbrev Cx.marked (X:Cx)(ee:Addr)(xe:Value->Shared->Prop):Cx:={X with A:=X.A.mark (some (.ref ee)),calm:=false,xe:=xe}
section
variable {X:Cx}{pins:List (Addr×Obj)}{σ:St}{H:Hp}{s:Shared}{ee:Addr}{xe:Value->Shared->Prop}
theorem Cx.Ok.marked (ok:X.Ok):(X.marked ee xe).Ok:=
 ⟨ok.mod,ok.kind,ok.glob,ok.blt,ok.above,ok.inj,ok.has,ok.cab,(fun z=>absurd z u8),ok.frames,ok.stk,ok.exf,ok.bs,ok.bsz,ok.noex,ok.exfs,ok.funs,ok.frf⟩
theorem Inv.marked (I:Inv X pins σ H s):Inv (X.marked ee xe) pins σ H s:=⟨I.ok.marked,I.os,I.bare,I.base,I.loc,I.cell,I.free,I.freeC,I.pin,I.hok,I.len,I.tk⟩
theorem Inv.unmarked (ok:X.Ok)(I:Inv (X.marked ee xe) pins σ H s):Inv X pins σ H s:=⟨ok,I.os,I.bare,I.base,I.loc,I.cell,I.free,I.freeC,I.pin,I.hok,I.len,I.tk⟩
theorem SP.unmarked (ok:X.Ok){D:Ends}{f:Flow}{s':Shared}(h:SP (X.marked ee xe) pins D f s'):SP X pins D f s':=by
 cases f with
 |next=>obtain⟨L,H',I,q⟩:=h;exact⟨L,H',I.unmarked ok,q⟩
 |brk=>obtain⟨L,H',I,q⟩:=h;exact⟨L,H',I.unmarked ok,q⟩
 |cont=>obtain⟨L,H',I,q⟩:=h;exact⟨L,H',I.unmarked ok,q⟩
 |ret u=>obtain⟨v,L,H',I,r,q⟩:=h;exact⟨v,L,H',I.unmarked ok,r,q⟩
def Cat (X:Cx)(pins:List (Addr×Obj))(σ:St)(E:XK)(e:Value)(s':Shared):Prop:=∃H1 s1,Inv X pins σ H1 s1/\CX1 X.prog X.w X.stack H1 s1 E e s'
theorem call_cat {k:Nat}{f:Addr}{fd:FuncData}{ps:List Str}{sp:Sp}{x:Str}{p pos:Pos}{e:Expr}{es:List Expr}{t:TA}{Q:VK}{E:XK}(F:FnOk X.prog X.w X.K X.mg X.base (CX1 X.prog X.w) k f fd ps sp)(hr:Room k X.A)(hg:Gl X x)(hm:X.mg x=some (.ref f))
  (hk:PySem.W.keepIn X.K (.ref f)=true) (hb:YX X.K fd ps []) (ha:PA X.nox (e::es) t) (I:Inv X pins σ H s) (h:t σ H fun vs H1=>sp vs H1 Q E) (R:(x==("__debug__":Str))=false)
  (he:starEach (e::es) X.env=(false,eval e X.env)::starEach es X.env) (U:(backTo pos (starEach es X.env)).any (·.1)=false):
  wpAny (model X.prog X.w) X.A (eval (.Call (.Name x p) (e::es) [] pos) X.env) (EP X pins σ Q) (Cat X pins σ E) s:=by
 refine Ub (jY I hg hm ?_ R);refine vT (h₀:=X.base) I.ok.mod.kin hk (uY (ha pos pins s σ H _ (I.wish _) h) (fun us s1 h1=> ?_) fun _ _ z=>z.elim) he U;obtain⟨vs,H1,Y,r,q⟩:=h1;have L:Inv X pins σ H1 s1:=Y.unwish;refine⟨L.kIn,?_⟩;have hl:us.length=ps.length:=by rw [<-r.length];exact F.len _ _ _ _ q
 have M:=hb s1 us L.kIn (by rw [vG];exact hl)
 rw [vG] at M;refine UE (Ud (F.run X.A X.stack s1 H1 ⟨us,[]⟩ us vs Q E hr L.env0 M r q (.inl L.tk)) fun r s' O=> ?_);cases r with
 |error e=>exact⟨H1,s1,L,O⟩
 |ok fl=>
  cases fl with
  |ret u=>exact L.after O
  |next=>exact False.elim O
  |brk=>exact False.elim O
  |cont=>exact False.elim O
theorem catch_ok {D:Ends}{e:Value}{s':Shared}{c:Str}{np af:Pos}{Cc C':Addr}{b₀:Stmt}{R:List Stmt}{ts:TS}(am:Cat X pins σ (fun _ C H2=>C=some Cc/\ts D σ H2) e s')(U:X.stack=X.env::X.outer/\X.env.frame=some X.env.locals)
  (hg:Gl X c) (hm:X.mg c=some (.ref C')) (hx:PySem.W.exmOne X.K (.ref Cc) (.ref C')=some true) (hs:∀ee xe,PSs (X.marked ee xe) (b₀::R) ts) (ao:(c==("__debug__":Str))=false):
  wpAny (model X.prog X.w) X.A (noteFrame e X.env) (fun _ s2=>wpAny (model X.prog X.w) X.A (setFlight e none) (fun _ s3=>wpAny (model X.prog X.w) X.A (handleBy e X.env [.ExceptHandler (some (.Name c np)) none (b₀::R) af]) (SP X pins D) X.xe s3) X.xe s2) X.xe s':=by
 obtain⟨H1,s1,I,ea,C,a0,H',B,rfl,ap,ac,htk,L,ag,O,hold,hC,aq⟩:=am;cases hC;have step:∀hk,B.StaysIn hk->s'.heap.UpToSlots hk->Inv X pins σ H' {s' with heap:=hk}:=by
  intro hk hB hU;have nd:∀b∈frs X.stack,∀o,s'.heap.get? b=some o->∀vs,o.data≠ .fields vs:=fun b hb o e=>by
   obtain⟨_,o',e',hn⟩:=O.2.2.1.mem (show b∈X.stack.filterMap (·.frame) from hb)
   rw [e] at e';cases e';exact hn
  have au:∀b o o',B.get? b=some o'->s'.heap.get? b=some o->hk.get? b=some o:=fun b o o' e1 e2=>by
   have:=O.1 b o' e1;rw [e2] at this;cases this;exact hB b o e1
  refine I.call' (s':={s' with heap:=hk}) (ch:= []) ap ⟨?_,?_,L.free,?_,L.tups,L.frzs,L.tbls⟩ (ag.kept fun b u e=>hB b u e) ac (fun b z=>by simp at z)
  ·intro b o e1 hn hb Y;obtain⟨o',e2⟩:=hold b o e1 hb;exact au b o o' e2 (L.keep b o e1 hn hb Y)
  ·intro b o e1 hn hb Y;obtain⟨sl,e2⟩:=L.slot b o e1 hn hb Y;obtain⟨ah,e3⟩:=hU b _ e2 (nd b hb _ e2);exact⟨ah,e3⟩
  ·intro b o e1 Y;by_cases hb:b∈frs X.stack
   ·obtain⟨o',e2⟩:=L.there b o e1 Y;obtain⟨ah,e3⟩:=hU b _ e2 (nd b hb _ e2);exact⟨_,e3⟩
   ·obtain⟨o',e2⟩:=hold b o e1 hb;exact⟨o',hB b o' e2⟩
 rw [U.1] at O;have av:X.A.frames=some (X.env::X.outer):=by rw [I.ok.frames,U.1]
 refine wpAny_looks_onW (base:=B) av U.2 O fun h1 ad aa=> ?_;refine wpAny_landsW ad fun h2 M ab=> ?_;have I2:=step h2 M.1 (aa.trans ab);refine wpAny_handleBy_cons (codeAny_handlers_test ?_) (by intro q;cases q)
 refine jY (X:=X.marked ea X.xe) I2.marked hg hm ?_ ao;obtain⟨oe,he,ak⟩:=M.there;have LT:PySem.W.Looks (model X.prog X.w) h2 (typeOf (.ref ea)) (.ref Cc):=ak▸(PySem.W.Looks.ld he).andThen .now;refine PySem.W.exm_one I2.kIn LT hx _ _ _ _ (fun b o e=>e) ?_;refine codeAny_handlers_suite (lands_againW M fun h3 ae al=> ?_);have I3:=step h3 ae.1 ((aa.trans ab).trans al);exact uY (hs ea _ pins _ σ H' D I3.marked aq) (fun f s4 h4=>h4.unmarked I.ok) fun _ _ z=>z
end
theorem Fun.okX {P:Program}{w:World}{K:PySem.W.Frag}{mg:Str->Option Value}{base:Heap}{x qual:Str}{st:Stmt}{f:Addr}{fd:FuncData}{N ps:List Str}{k:Nat}{sp:Sp}(F:Fun K x qual st f fd)(S:qD N ps (qp st))(len:∀vs H Q E,sp vs H Q E->vs.length=ps.length)
  (I:∀(cdv:Value) (A:Around) (outer:List Env) (s:Shared) (H:Hp) (vs:List V) (Q:VK) (E:XK),Room k (A.deeper (envOfC qual (qp st) s.heap.objs.size f cdv))->sp vs H Q E->
   ∃t,PSs (cxOf (CX1 P w) P w K mg base N qual (qp st) f cdv A outer s H E) (Yo st) t/\t {nx:=fun _ H'=>Q .non H',rt:=Q} (Z0 N vs) H):FnOk P w K mg base (CX1 P w) (k+1) f fd ps sp:=by
 obtain⟨oc,od,kV,doc,pm,an,cdv,ct,osl,rfl,O,L⟩:=F.ex;exact fn_of O L S len fun A outer s H vs Q E R M=>I cdv A outer s H vs Q E R M
end L2
namespace HT
open PySem PyProof.Rows
section
variable {prog:Program}{w:World}{A:Around}{E:Value->Shared->Prop}{s:Shared}
theorem getItem_tuple_all {t sl:Addr}{items:Array Value}{U Y:Value}{lo hi:Option Int}{Q:Value->Shared->Prop}(I:IsTup s.heap t items)(hs:s.heap.IsSliceOf sl U Y .none)(pl:IsPart U lo)(pu:IsPart Y hi)
  (hw:sIx items.size 0 lo=0/\sIx items.size items.size hi=items.size) (h:Q (.ref t) s):wpAny (model prog w) A (getItem (.ref t) (.ref sl)) Q E s:=by
 obtain⟨os,M,O,aa⟩:=id hs;have R:s.TypeIs (.ref sl) "slice":=⟨os,M,O⟩;unfold getItem
 try with_reducible refine wpAny_holding ?_
 first|refine wpAny_bind (uc ?_)|skip
 refine wpAny_bind (wpAny_sequenceKey I.typeIs (by decide) ?_)
 refine wpAny_bind (uX (name:=Str.ofString "__getitem__") I.typeIs uZ
  (vt uZ I.typeIs entry_tuple_getitem ?_ (args_tuple_getitem _ _)))
 show wpAny _ _ (Builtin.Tuple.tupleItemsOf (.ref t)>>=_) _ _ s;refine wpAny_bind (tupleItemsOf_ I ?_);refine wpAny_bind (wpAny_typeOf R ?_);rw [if_pos (by decide)]
 refine wpAny_bind (YE hs pl pu ?_);have L:((((sIx items.size 0 lo:Nat):Int)==0&&(1:Int)==1&&(sIx items.size items.size hi-sIx items.size 0 lo)==items.size)=true):=by
  rw [hw.1,hw.2];simp
 show wpAny _ _ (if(((sIx items.size 0 lo:Nat):Int)==0&&(1:Int)==1&&(sIx items.size items.size hi-sIx items.size 0 lo)==items.size)=true then _ else _) _ _ s
 rw [if_pos L];unfold Builtin.Tuple.tupleIsExact;refine wpAny_bind (wpAny_bind (wpAny_typeOf I.typeIs (uc ?_)));rw [if_pos (by decide)]
 exact wpAny_bind (Ut (uc ⟨_,rfl,uc h⟩))
end
end HT
namespace L2
open PySem PySem.Spec PyProof.Rows
section
variable {X:Cx}
def rSlG (K:PySem.W.Frag):V->Option Int->Option Int->Hp->VK->Prop:=fun x lo hi H Q=>∃a xs,x= .ref a/\SqT K H a xs/\
 (HT.sIx xs.length 0 lo=0/\HT.sIx xs.length xs.length hi=xs.length->Q (.ref a) H)/\
 (¬(HT.sIx xs.length 0 lo=0/\HT.sIx xs.length xs.length hi=xs.length)->∀p,H p=none->Q (.ref p) (upd H p (.tup (cutV xs lo hi))))
theorem yc:SlR X (rSlG X.K):=by
 intro pins s σ H x v vl vu lo hi sl Q I O R pl U h;obtain⟨a,xs,rfl,Y,q1,q2⟩:=h;by_cases M:HT.sIx xs.length 0 lo=0/\HT.sIx xs.length xs.length hi=xs.length
 ·cases O;obtain⟨its,r,ht,hz⟩:=I.tuple Y;have L:its.toArray.size=xs.length:=by rw [ue];exact r.length.symm
  refine⟨"tuple",_,PyProof.Rows.slot_tuple_getitem.lookup,ht.typeIs,?_⟩;exact HT.getItem_tuple_all ht R pl U (by rw [L];exact M) ⟨.ref a,H,I,rfl,q1 M⟩
 ·exact sl_tup pins s σ H (.ref a) v vl vu lo hi sl Q I O R pl U ⟨a,xs,rfl,Y,M,q2 M⟩
end
def yj (n:Nat):Kd->Str->Option Pt
 | .words,z=>some (.s z)
 | .box,z=>if z∈BX then some (.s z) else none
 | .line,z=>((List.range n).find? fun i:Nat=>decide ((toString (1+(i:Int)):Str)=z)).map fun i:Nat=> .n (1+(i:Int))
def ym (n:Nat):List Kd->List Str->Option (List Pt)
 | [],_=>some []
 |k::ks,z::zs=>match yj n k z,ym n ks zs with
  |some p,some ps=>some (p::ps)
  |_,_=>none
 |_::_,[]=>none
def jx (w:Str):Option (List Kd):=(FRM.find? fun x=>decide (x.1=w)).map (·.2)
def pcs (ks:List Kd)(z:Str):List Str:=spl (if Kd.words∈ks then ks.length else z.length+1) z
def zi (n:Nat)(z:Str):Option Rw:=
 if QD z=true then match jx (hd z) with
  |none=>none
  |some ks=>if(pcs ks z).length=1+ks.length then(ym n ks ((pcs ks z).drop 1)).map fun l=>(hd z,l) else none
 else none
theorem JM {w:Str}{ks:List Kd}(h:jx w=some ks):(w,ks)∈FRM:=by
 unfold jx at h;cases e:FRM.find? fun x=>decide (x.1=w) with
 |none=>rw [e] at h;cases h
 |some x=>
  rw [e] at h;have I:=List.find?_some e;have hm:=Up e;cases h;have:x.1=w:=ua I;subst this;exact hm
theorem XT {w:Str}(h:jx w=none):∀x∈FRM,x.1≠w:=by
 unfold jx at h;rw [Option.map_eq_none_iff,UC] at h;intro x I e;exact h x I (u0 e)
theorem partOf_ok {n m:Nat}{k:Kd}{z:Str}{p:Pt}(L:z.length<=m)(ha:z.cps.toList.all qX=true)(h:yj n k z=some p):ptOk n m k p/\p.t=z:=by
 cases k with
 |words=>cases h;exact⟨⟨L,ha⟩,rfl⟩
 |box=>
  simp only [yj] at h;by_cases I:z∈BX
  ·rw [if_pos I] at h;cases h;exact⟨I,rfl⟩
  ·rw [if_neg I] at h;cases h
 |line=>
  simp only [yj] at h;cases e:(List.range n).find? fun i:Nat=>decide ((toString (1+(i:Int)):Str)=z) with
  |none=>rw [e] at h;cases h
  |some i=>
   rw [e] at h;cases h;have h1:=List.find?_some e;have h2:=List.mem_range.mp (Up e);exact⟨⟨by omega,by omega⟩,ua h1⟩
theorem zP {n m:Nat}:∀{ks:List Kd}{zs:List Str}{ps:List Pt},(∀z∈zs,z.length<=m/\z.cps.toList.all qX=true)->zs.length=ks.length->ym n ks zs=some ps->y7 n m ks ps/\ps.map Pt.t=zs
 | [],[],ps,_,_,h=>by cases h;exact⟨trivial,rfl⟩
 | [],_::_,_,_,hl,_=>by simp at hl
 |_::_,[],_,_,hl,_=>by simp at hl
 |k::ks,z::zs,ps,hz,hl,h=>by
  unfold ym at h;split at h
  ·rename_i p O h1 h2
   cases h;obtain⟨I,L⟩:=partOf_ok (hz z uq).1 (hz z uq).2 h1;obtain⟨b1,b2⟩:=zP (fun y M=>hz y (uh _ M)) (by simpa using hl) h2
   exact⟨⟨I,b1⟩,by rw [uj,L,b2]⟩
  ·cases h
def ZH:List (List Nat)->List Nat
 | []=> []
 | [x]=>x
 |x::y::r=>x++32::ZH (y::r)
theorem joinL_cons (x:List Nat){q:List (List Nat)}(I:q≠ []):ZH (x::q)=x++32::ZH q:=by
 cases q with
 |nil=>exact absurd rfl I
 |cons y r=>rfl
theorem Zm:∀(n:Nat) (L:List Nat),ZH (cutL 32 n L)=L
 |0,L=>by simp [cutL,ZH]
 |n+1,[]=>by simp [cutL,ZH]
 |n+1,a::r=>by
  by_cases h:a=32
  ·have I:=Zm n r;obtain⟨p,q,e⟩:=Yr 32 n r;rw [cutL,if_pos h,joinL_cons [] (by rw [e];simp),I,h]
   rfl
  ·have I:=Zm (n+1) r;obtain⟨p,q,e⟩:=Yr 32 (n+1) r;rw [e] at I;simp only [cutL,if_neg h,e];cases q with
   |nil=>simp only [ZH] at I⊢;rw [I]
   |cons y t=>
    simp only [ZH] at I⊢;rw [vR,I]
theorem join_ofL:∀l:List (List Nat),(Str.join " " (l.map ofL)).cps.toList=ZH l
 | []=>rfl
 | [x]=>by show(ofL x).cps.toList=x;unfold ofL;simp
 |x::y::r=>by
  have I:=join_ofL (y::r);show(Str.join " " (ofL x::ofL y::r.map ofL)).cps.toList=_;rw [yi];have e:(ofL x).cps.toList=x:=by unfold ofL;simp
  rw [e];show x++32::(Str.join " " ((y::r).map ofL)).cps.toList=_;rw [I]
  rfl
theorem spl_back (n:Nat)(z:Str):Str.join " " (spl n z)=z:=by
 unfold spl;have h:=join_ofL (cutL 32 n z.cps.toList);rw [Zm] at h;rw [<-QH (Str.join " " ((cutL 32 n z.cps.toList).map ofL)),h,QH]
theorem cut_head:∀(n:Nat) (L:List Nat),∃q,cutL 32 (n+1) L=jp 32 L::q
 |n,[]=>⟨[],by simp [cutL,jp]⟩
 |n,a::r=>by
  by_cases h:a=32
  ·exact⟨cutL 32 n r,by simp [cutL,jp,h]⟩
  ·obtain⟨q,e⟩:=cut_head n r;exact⟨q,by simp only [cutL,if_neg h,e,jp]⟩
theorem spl_head (n:Nat)(z:Str):∃q,spl (n+1) z=hd z::q:=by
 obtain⟨q,e⟩:=cut_head n z.cps.toList;exact⟨q.map ofL,by unfold spl hd;rw [e];rfl⟩
theorem cut_sub:∀(n:Nat) (L:List Nat),∀p∈cutL 32 n L,p.length<=L.length/\∀c∈p,c∈L
 |0,L=>fun p I=>by
  simp [cutL] at I;subst I;exact⟨ug _,fun c M=>M⟩
 |n+1,[]=>fun p I=>by
  simp [cutL] at I;subst I;exact⟨ug _,fun c M=>M⟩
 |n+1,a::r=>fun p I=>by
  by_cases h:a=32
  ·rw [cutL,if_pos h] at I;rcases List.mem_cons.mp I with rfl|I
   ·exact⟨uF _,fun c M=>by simp at M⟩
   ·obtain⟨h1,h2⟩:=cut_sub n r p I;exact⟨by simp;omega,fun c M=>uh _ (h2 c M)⟩
  ·obtain⟨R,q,e⟩:=Yr 32 (n+1) r;have O:=cut_sub (n+1) r;rw [e] at O;simp only [cutL,if_neg h,e] at I;rcases List.mem_cons.mp I with rfl|I
   ·obtain⟨h1,h2⟩:=O R uq;refine⟨by simp;omega,fun c M=> ?_⟩
    rcases List.mem_cons.mp M with rfl|M
    ·exact uq
    ·exact uh _ (h2 c M)
   ·obtain⟨h1,h2⟩:=O p (uh _ I);exact⟨by simp;omega,fun c M=>uh _ (h2 c M)⟩
theorem spl_ok {n m:Nat}{z:Str}(O:z.length<=m)(ha:z.cps.toList.all qX=true):∀p∈spl n z,p.length<=m/\p.cps.toList.all qX=true:=by
 intro p I;obtain⟨q,L,rfl⟩:=List.mem_map.mp I;obtain⟨h1,h2⟩:=cut_sub n z.cps.toList q L;have e:(ofL q).cps.toList=q:=by unfold ofL;simp
 refine⟨?_,?_⟩
 ·have:(ofL q).length=q.length:=by unfold ofL Str.length;simp
  rw [this];have:z.cps.toList.length=z.length:=by simp [Str.length]
  omega
 ·rw [e,Ur];intro c M;exact List.all_eq_true.mp ha c (h2 c M)
theorem rowOf_ok {n:Nat}{z:Str}{r:Rw}(h:zi n z=some r):QI n 300 r/\qH r=z:=by
 unfold zi at h;split at h
 ·rename_i Y
  have I:=Y;unfold QD at I;rw [ui,U2] at I;split at h
  ·cases h
  ·rename_i ks hk
   split at h
   ·rename_i hl
    cases e:ym n ks ((pcs ks z).drop 1) with
    |none=>rw [e] at h;cases h
    |some l=>
     rw [e] at h;cases h;have hm:=JM hk;have L:∀p∈(pcs ks z).drop 1,p.length<=300/\p.cps.toList.all qX=true:=fun p M=>spl_ok I.1 I.2 p (Ul M);obtain⟨a1,a2⟩:=zP L (by rw [uC,hl];omega) e
     refine⟨⟨ks,hm,a1⟩,?_⟩;have O:∃j,(if Kd.words∈ks then ks.length else z.length+1)=j+1:=by
      split
      ·rename_i R
       exact⟨ks.length-1,by have:=List.length_pos_iff.mpr (fun e=>by rw [e] at R;simp at R:ks≠ []);omega⟩
      ·exact⟨z.length,rfl⟩
     obtain⟨j,hj⟩:=O;obtain⟨q,hq⟩:=spl_head j z;have M:pcs ks z=hd z::q:=by unfold pcs;rw [hj];exact hq
     have U:Str.join " " (pcs ks z)=z:=spl_back _ z;show Str.join " " (hd z::l.map Pt.t)=z;rw [a2];rw [M] at U⊢;exact U
   ·cases h
 ·cases h
def ExcO (a C:Addr):HO:= .ext fun h=>∃o,h.get? a=some o/\o.cls= .ref C/\PySem.W.notCls o=true
theorem ExcO.ok {P:Program}{w:World}{H:Hp}{h:Heap}{a C:Addr}{o:Obj}(e:h.get? a=some o)(c:o.cls= .ref C)(n:PySem.W.notCls o=true):QM P w H h a (ExcO a C):=
 ⟨⟨o,e,c,n⟩,⟨o,e⟩,fun _ _ ⟨o,e,c,n⟩ k=>⟨o,k o e,c,n⟩⟩
theorem QM.here {P:Program}{w:World}{H:Hp}{h:Heap}{a:Addr}{o:HO}(x:QM P w H h a o):∃u,h.get? a=some u:=by
 cases o with
 |lst xs=>obtain⟨_,_,_,_,e⟩:=x;exact⟨_,e⟩
 |tup xs=>obtain⟨_,_,_,u,e,_⟩:=x;exact⟨_,e⟩
 |dK kvs=>obtain⟨_,_,_,_,u,_,_,e,_⟩:=x;exact⟨_,e⟩
 |dT kvs=>obtain⟨_,_,_,_,u,_,_,e,_⟩:=x;exact⟨_,e⟩
 |set S n=>obtain⟨u,_,_,_,e,_⟩:=x;exact⟨_,e⟩
 |ins C dx fs=>obtain⟨_,_,_,e,_⟩:=x;exact⟨_,e⟩
 |own y=>exact x
 |xd fs=>obtain⟨_,⟨_,_,_,e,_⟩,_⟩:=x;exact⟨_,e⟩
 |rng lo hi=>obtain⟨_,_,_,e⟩:=x;exact⟨_,e⟩
 |frz ob u=>obtain⟨e,_⟩:=x;exact⟨_,e⟩
 |tbl ps=>exact⟨_,show h.get? a=some _ from x⟩
 |met f y=>exact⟨_,show h.get? a=some _ from x⟩
 |ext φ=>obtain⟨_,q,_⟩:=x;exact q
def Ends.less (D:Ends)(i:Nat):Ends:={nx:=fun σ H=>D.nx (σ.set i none) H,rt:=D.rt,bk:=fun σ H=>D.bk (σ.set i none) H,ct:=fun σ H=>D.ct (σ.set i none) H}
section
variable {X:Cx}{pins:List (Addr×Obj)}{σ:St}{H:Hp}{s:Shared}
theorem Jg {M:Model}{A:Around}{E:Value->Shared->Prop}{i:Nat}{x:Str}{pos:Pos}{Q:Unit->Shared->Prop}(I:Inv X pins σ H s)(hN:X.N.Nodup)(hi:X.N[i]? =some x)(R:X.env.scope.names.lookup x=some .local)
  (h:∀s',Inv X pins (σ.set i none) H s'->Q Unit.unit s'):wpAny M A (do bindName X.env x .none;unbindBehindTheSuite X.env x pos) Q E s:=by
 have hk:X.env.kindOf x=some .local:=R;have Y:(X.env.scope.kind== .class||(X.env.scope.kind== .module&&X.env.locals !=X.env.globals))=false:=by rw [I.ok.kind];rfl
 have aa:i<σ.length:=by rw [I.len];exact(List.getElem?_eq_some_iff.mp hi).1
 refine wpAny_bind (wpAny_bindName (Jk (v:= .non) I hN hi (.inl R) rfl (fun s1 L=> ?_) (.inr R)));obtain⟨m,hn,hl⟩:=id L.loc;have U:(m x).isSome=true:=by
  obtain⟨u,ru,q⟩:=hl i x .non hi (by rw [Ua aa]) (.inl R)
  rcases q with⟨_,e⟩|⟨k,_⟩
  ·rw [e];rfl
  ·rw [hk] at k;rcases k with k|k<;>cases k
 unfold unbindBehindTheSuite;refine wpAny_onRaise ?_;unfold unbindName;refine wpAny_bind (wpAny_point (wpAny_bind ?_));unfold deleteName;simp only [hk,Y];rw [if_neg (by decide)]
 refine wpAny_bind (wpAny_nsDel_keeps hn fun h2 v ab O=> ?_);rw [U];simp only [UK,Bool.not_true,vq,UH];have cne:=L.cne;have ac:HOk X.prog X.w H h2:=HOk.sameBut L.hok L.free O;have I2:Inv X pins (σ.set i none) H {s1 with heap:=h2}:=by
  refine⟨L.ok,L.os,L.bare,⟨fun b o e n hb R=> ?_,fun b o e n hb R=> ?_,L.base.free,fun b o e R=> ?_,L.base.tups,L.base.frzs,L.base.tbls⟩,⟨_,ab,fun j y v' e1 e2 e3=> ?_⟩,fun y c e=> ?_,L.free,L.freeC,fun p hp=> ?_,ac,by rw [List.length_set];exact I.len,L.tk⟩
  ·exact(O.2 b (uK (Nat.lt_of_lt_of_le (uk e) L.ok.above))).trans (L.base.keep b o e n hb R)
  ·obtain⟨sl,e1⟩:=L.base.slot b o e n hb R;exact⟨sl,(O.2 b (uK (Nat.lt_of_lt_of_le (uk e) L.ok.above))).trans e1⟩
  ·obtain⟨o',e1⟩:=L.base.there b o e R;exact⟨o',(O.2 b (uK (Nat.lt_of_lt_of_le (uk e) L.ok.above))).trans e1⟩
  ·by_cases hj:j=i
   ·subst hj;rw [Ua aa] at e2;cases e2
   ·rw [Uk (U9 hj)] at e2;obtain⟨u',r',q⟩:=hl j y v' e1 (by rw [Uk (U9 hj)];exact e2) e3
    refine⟨u',r',?_⟩;rcases q with⟨k,e⟩|⟨k,c,e,z⟩
    ·refine .inl ⟨k,?_⟩;have ad:y≠x:=fun e=>hj (ZV hN e1 (e▸hi));simp [ad,e]
    ·exact .inr ⟨k,c,e,z.sameBut O (cne y c e)⟩
  ·obtain⟨w',z⟩:=L.cell y c e;exact⟨w',z.sameBut O (cne y c e)⟩
  ·obtain⟨e,n,ne,nf,d⟩:=L.pin p hp;exact⟨(O.2 p.1 ne).trans e,n,ne,nf,d⟩
 exact uc (wpAny_point (h _ I2))
theorem catch_as {D:Ends}{e:Value}{s':Shared}{c n:Str}{i:Nat}{np ao:Pos}{C':Addr}{b₀:Stmt}{aa:List Stmt}{ts:TS}
  (ay:Cat X pins σ (fun v C H2=>∃Cc,C=some Cc/\PySem.W.exmOne X.K (.ref Cc) (.ref C')=some true/\∀L,v= .ref L->H2 L=none->ts (D.less i) (σ.set i (some (.ref L))) (upd H2 L (ExcO L Cc))) e s') (ab:X.stack=X.env::X.outer/\X.env.frame=some X.env.locals)
  (hg:Gl X c) (hm:X.mg c=some (.ref C')) (hN:X.N.Nodup) (hi:X.N[i]? =some n) (hn:X.env.scope.names.lookup n=some .local) (hs:∀ee xe,PSs (X.marked ee xe) (b₀::aa) ts) (aA:(c==("__debug__":Str))=false):
  wpAny (model X.prog X.w) X.A (noteFrame e X.env) (fun _ s2=>wpAny (model X.prog X.w) X.A (setFlight e none) (fun _ s3=>wpAny (model X.prog X.w) X.A (handleBy e X.env [.ExceptHandler (some (.Name c np)) (some n) (b₀::aa) ao]) (SP X pins D) X.xe s3) X.xe s2) X.xe s':=by
 obtain⟨H1,s1,I,L,Cc,a0,H',B,rfl,aB,ah,htk,R,ae,M,hold,C2,hC,hx,ak⟩:=ay;cases hC;have al:H' L=none:=by
  cases q:H' L with
  |none=>rfl
  |some u=>
   obtain⟨o,z⟩:=(ae L u q).here;rw [M.2.1] at z;cases z
 have ak:=ak L rfl al;have nd:∀b∈frs X.stack,∀o,s'.heap.get? b=some o->∀vs,o.data≠ .fields vs:=fun b Y o e=>by
  obtain⟨_,o',e',hn⟩:=M.2.2.1.mem (show b∈X.stack.filterMap (·.frame) from Y)
  rw [e] at e';cases e';exact hn
 have ap:∀o,s1.heap.get? L=some o->False:=fun o z=>by
  by_cases Y:L∈frs X.stack
  ·obtain⟨_,_,_,oe,vs,_,_,_,he,_,hd,_⟩:=M;exact nd L Y oe he vs hd
  ·obtain⟨o',q⟩:=hold L o z Y;rw [M.2.1] at q;cases q
 have step:∀hk,B.StaysIn hk->s'.heap.UpToSlots hk->(∃o,hk.get? L=some o/\o.cls= .ref Cc/\PySem.W.notCls o=true)->Inv X pins σ (upd H' L (ExcO L Cc)) {s' with heap:=hk}:=by
  intro hk hB hU ⟨oe,he,hc,aC⟩;have aD:∀b o o',B.get? b=some o'->s'.heap.get? b=some o->hk.get? b=some o:=fun b o o' e1 e2=>by
   have:=M.1 b o' e1;rw [e2] at this;cases this;exact hB b o e1
  have aE:∀b o,s1.heap.get? b=some o->b≠L:=fun b o e z=>ap o (z▸e);have aq:HOk X.prog X.w (upd H' L (ExcO L Cc)) hk:=fun b u e=>by
   by_cases z:b=L
   ·subst z;rw [qh] at e;cases e;exact ExcO.ok he hc aC
   ·rw [qx z] at e;have ac:∀c u,H' c=some u->upd H' L (ExcO L Cc) c=some u:=fun c u q=>by rw [qx (qr q al)];exact q
    exact(ae b u e).stay (fun c v _ q=>hB c v q) (fun c q=>ac c _ q) fun c xs q=>ac c _ q
  have hT:∀b u,H' b=some u->upd H' L (ExcO L Cc) b=some u:=fun b u q=>by rw [qx (qr q al)];exact q
  refine I.call' (s':={s' with heap:=hk}) (ch:= []) aB ⟨?_,?_,?_,?_,fun b xs q=>hT b _ (R.tups b xs q),fun b o u q=>hT b _ (R.frzs b o u q),fun b ps q=> ?_⟩ aq ah (fun b z=>by simp at z)
  ·intro b o e1 hn Y U;obtain⟨o',e2⟩:=hold b o e1 Y;exact aD b o o' e2 (R.keep b o e1 hn Y U)
  ·intro b o e1 hn Y U;obtain⟨sl,e2⟩:=R.slot b o e1 hn Y U;obtain⟨au,e3⟩:=hU b _ e2 (nd b Y _ e2);exact⟨au,e3⟩
  ·intro b o e1 hn U;rw [qx (aE b o e1)];exact R.free b o e1 hn U
  ·intro b o e1 U;by_cases Y:b∈frs X.stack
   ·obtain⟨o',e2⟩:=R.there b o e1 U;obtain⟨au,e3⟩:=hU b _ e2 (nd b Y _ e2);exact⟨_,e3⟩
   ·obtain⟨o',e2⟩:=hold b o e1 Y;exact⟨o',hB b o' e2⟩
  ·obtain⟨more,q2⟩:=R.tbls b ps q;exact⟨more,hT b _ q2⟩
 have av:∀{l:List Env}{hk:Heap},Heap.FlyingW B l L (.ref Cc) a0 hk->∃o,hk.get? L=some o/\o.cls= .ref Cc/\PySem.W.notCls o=true:=fun f=>by
  obtain⟨_,_,_,oe,vs,_,_,_,he,hc,hd,_⟩:=f;exact⟨oe,he,hc.1,by unfold PySem.W.notCls;rw [hd]⟩
 rw [ab.1] at M;have aF:X.A.frames=some (X.env::X.outer):=by rw [I.ok.frames,ab.1]
 refine wpAny_looks_onW (base:=B) aF ab.2 M fun h1 am af=> ?_;refine wpAny_landsW am fun h2 O ag=> ?_;have I2:=step h2 O.1 (af.trans ag) (av O);refine wpAny_handleBy_cons (codeAny_handlers_test ?_) (by intro q;cases q)
 refine jY (X:=X.marked L X.xe) I2.marked hg hm ?_ aA;obtain⟨oe,he,aw⟩:=O.there;have LT:PySem.W.Looks (model X.prog X.w) h2 (typeOf (.ref L)) (.ref Cc):=aw▸(PySem.W.Looks.ld he).andThen .now;refine PySem.W.exm_one I2.kIn LT hx _ _ _ _ (fun b o e=>e) ?_;refine codeAny_handlers_suite_as (lands_againW O fun h3 ad ax=> ?_);have I3:=step h3 ad.1 ((af.trans ag).trans ax) (av ad);refine Jk (v:= .ref L) I3 hN hi (.inl hn) rfl (fun s4 I4=> ?_) (.inr hn);refine uY (hs L _ pins _ _ _ (D.less i) I4.marked ak) (fun f s5 h5=> ?_) fun _ _ z=>z;have h5:=h5.unmarked I.ok;cases f with
 |next=>obtain⟨σ',H5,I5,q⟩:=h5;exact Jg I5 hN hi hn fun s6 I6=>⟨_,H5,I6,q⟩
 |brk=>obtain⟨σ',H5,I5,q⟩:=h5;exact Jg I5 hN hi hn fun s6 I6=>⟨_,H5,I6,q⟩
 |cont=>obtain⟨σ',H5,I5,q⟩:=h5;exact Jg I5 hN hi hn fun s6 I6=>⟨_,H5,I6,q⟩
 |ret u=>obtain⟨v,σ',H5,I5,r,q⟩:=h5;exact Jg I5 hN hi hn fun s6 I6=>⟨v,_,H5,I6,r,q⟩
end
end L2
namespace PySem.AwV
open PySem PySem.Calls PyProof.Rows Builtin Builtin.ObjectAttr Builtin.Getset_descriptor PySem.W
structure YR (K:Frag)(C:Addr):Prop where
 ga:findIn K (.ref C) "__getattribute__"=some (some (.builtin "BaseException.__getattribute__"))
 gt:findIn K (.ref C) "__getattr__"=some none
 cl:findIn K (.ref C) "__class__"=some (some (.builtin "object.__class__"))
 sp:specialIn K (.builtin "object.__class__") "__get__"=some (some (.builtin "getset_descriptor.__get__"))
 tk:takesIn K (.builtin "object.__class__")=some true
 ob:mroIn K C (.type "object")=some true
 be:mroIn K C (.type "BaseException")=some true
def ExcAt (x C:Addr)(h:Heap):Prop:=∃o,h.get? x=some o/\o.cls= .ref C/\notCls o=true
section
variable {prog:Program}{w:World}{A:Around}{E:Value->Shared->Prop}{s:Shared}{K:Frag}{x C:Addr}
theorem Jr {M:Model}{h:Heap}(I:ExcAt x C h):Looks M h (typeOf (.ref x)) (.ref C):=by
 obtain⟨o,e,c,_⟩:=I;exact c▸(Looks.ld e).andThen .now
theorem exc_find {M:Model}{h:Heap}(X:K.In h)(Z:YR K C):Looks M h (find (.ref x) (.ref C) "__class__") (.bind (.builtin "getset_descriptor.__get__") (.builtin "object.__class__")):=by
 refine(looks_findIn (M:=M) X Z.cl).andThen (Looks.andThen (a:=some (.builtin "getset_descriptor.__get__")) (show Looks M h (getOf (some _)) _ from looks_specialIn X Z.sp) ?_)
 have I:=looks_takesIn (M:=M) X Z.tk;exact(show Looks M h (dataDescriptor? (some _) (some _)) (some (_,_)) from
  I.andThen .now).andThen (Looks.tag .now)
theorem exc_get {L:Value}{R:Result->Shared->Prop}(X:K.In s.heap)(I:ExcAt x C s.heap)(Z:YR K C)(h:R (.ok (.ret (.ref C))) s):
  codeAny (model prog w) A (.call (.builtin "getset_descriptor.__get__") ⟨[.builtin "object.__class__",.ref x,L],[]⟩) R s:=by
 obtain⟨O,g,U,t,os⟩:=s;have Y:=Jr (M:=model prog w) I;have L1:=looks_mroIn (M:=model prog w) X Z.ob;have ck:=KF.slot_gs.check (model prog w) A;refine vY KF.slot_gs.plain KF.entry_gs
  (KF.slot_gs.check _ _ _ _ _ _ _ _ KF.type_class (KF.args_gs _ _ _) ?_)
 unfold Builtin.«getset_descriptor.__get__»;unfold descrGet;rw [dga_obj];refine wpAny_bind (uc ?_);unfold descrGetter descrCheckInstance;unfold descrNameAndClass isInstance;simp only [KF.owner_class]
 repeat lk
 refine⟨Code.quiet_builtin _ (by decide+kernel),
  codeAny_builtin KF.entry_class ?_⟩
 unfold Builtin.«object.__class__» shownTypeOf
 repeat lk
 exact h
theorem exc_check {rest:List Value}{Q:Unit->Shared->Prop}(X:K.In s.heap)(I:ExcAt x C s.heap)(Z:YR K C)(ha:argsOk "BaseException.__getattribute__" ⟨.ref x::rest,[]⟩)(h:Q Unit.unit s):
  wpAny (model prog w) A (checkBuiltinCall "BaseException.__getattribute__" ⟨.ref x::rest,[]⟩) Q E s:=by
 have L:splitId "BaseException.__getattribute__"=some ("BaseException","__getattribute__"):=by decide+kernel
 have R:builtinKind "BaseException.__getattribute__"=some .slot:=by
  simp only [builtinKind,L]
  decide+kernel
 have U:Looks (model prog w) s.heap (isInstance (.ref x) (.type "BaseException")) true:=(Jr I).andThen (looks_mroIn X Z.be);simp only [checkBuiltinCall,R,L];refine wpAny_bind (U A _ E s (fun _ _ e=>e) ?_);simp only [Bool.not_true,vq,UH];cases M:Manifest.signature? "BaseException.__getattribute__" with
 |none=>exact uc h
 |some O=>
  simp only [argsOk,M] at ha;have h2:Bind.checkArgs "BaseException.__getattribute__" O ⟨.ref x::rest,[]⟩=pure Unit.unit:=ha;exact(show wpAny (model prog w) A (Bind.checkArgs _ O _) Q E s from by
   rw [h2];exact uc h)
theorem exc_entry {tk:Tok}{Q:Fin->Shared->Prop}(X:K.In s.heap)(I:ExcAt x C s.heap)(Z:YR K C)(h:Q (.done (.ret (.ref C))) s):
  wpAny (model prog w) A (Builtin.«object.__getattribute__» ⟨[.ref x,.str "__class__" tk],[]⟩) Q E s:=by
 have L:=I;have O:=X;obtain⟨Y,g,dr,t,os⟩:=s;have R:=Jr (M:=model prog w) I;have U:=exc_find (M:=model prog w) (x:=x) X Z;refine wpAny_bind (uc (wpAny_bind (uc (wpAny_bind (R.at (wpAny_bind (U.at ?_)))))));show wpAny (model prog w) A (holding [.builtin "object.__class__"] (call (.builtin "getset_descriptor.__get__") [.builtin "object.__class__",.ref x,.ref C])>>=ret) Q E _;refine wpAny_bind (wpAny_holding (UE (exc_get O L Z ?_)));exact uc h
theorem exc_class {Q:Option Value->Shared->Prop}(X:K.In s.heap)(I:ExcAt x C s.heap)(Z:YR K C)(h:Q (some (.ref C)) {s with toks:=s.toks+1}):
  wpAny (model prog w) A (getAttr? (.ref x) "__class__") Q E s:=by
 have L:=I;have O:=X;obtain⟨R,g,dr,t,os⟩:=s;have U:=Jr (M:=model prog w) I;have Y:=looks_findIn (M:=model prog w) X Z.ga;have L2:=looks_findIn (M:=model prog w) X Z.gt;have f3:=F.excAttr_ValueError.ga.bind (.ref x);unfold getAttr? getAttrBy?;refine wpAny_bind (wpAny_mkText (wpAny_bind (U5 ?_)));unfold getAttrBy;refine wpAny_holding (wpAny_bind (U.at (wpAny_bind (Y.at ?_))));show wpAny (model prog w) A (getAttrByItsOwn (.ref x) _ (.ref C) (.builtin "BaseException.__getattribute__") false false) _ _ _;unfold getAttrByItsOwn;refine wpAny_bind ((show Looks (model prog w) R (hookBefore (.ref C)) none from L2).at ?_)
 refine wpAny_bind (U5 (wpAny_holding ?_));show wpAny (model prog w) A (boundAndCalled (.builtin "BaseException.__getattribute__") (.ref x) _) _ _ _;unfold boundAndCalled;rw [f3];refine wpAny_bind (uc (UE (vY F.excAttr_ValueError.ga.plain F.entry_bexc_ga (exc_check O L Z (F.args_bexc_ga _ _) (exc_entry O L Z ?_)))));show wpAny (model prog w) A (handedOut (.ref C)) _ _ _;rw [handedOut_of (show handedIn (.ref C)=true from rfl)]
 exact uc (uc h)
theorem exc_kit (Z:YR K C):KitX K (.ref x) (.ref C) (ExcAt x C) where
 ty:=fun _ _ _ I=>Jr I
 it:=fun M h X _=>by
  obtain⟨U,L,_⟩:=Option.bind_eq_some_iff.mp Z.ob;unfold clsIn at L;split at L
  ·rename_i O
   intro A' Q' E' s' k q;unfold isType loadHead;exact wpAny_bind (wpAny_loadPart (k _ _ (X _ _ O))
    (uc q))
  ·cases L
 ne:=fun h Y dd its n sl X R=>by
  obtain⟨U,L,_⟩:=Option.bind_eq_some_iff.mp Z.ob;refine Bool.eq_false_iff.mpr fun q=> ?_;have e:C=Y:=Value.ref.inj (beq_iff_eq.mp q);subst e;unfold clsIn at L;split at L
  ·rename_i O
   have z:=(X _ _ O).symm.trans R;cases z
  ·cases L
 ca:=fun X I q=>exc_class X I Z q
end
end PySem.AwV
namespace L2
open PySem PySem.Spec PyProof.Rows
theorem boot_VE:bootBuiltins "ValueError"=some (.type "ValueError"):=by decide+kernel
inductive TyX (K:PySem.W.Frag) (H:Hp):V->Value->Prop where
 |ty {x:V}{t:Value} (h:TyOf K H x t):TyX K H x t
 |exc {a C:Addr} (h:H a=some (ExcO a C)) (Z:AwV.YR K C):TyX K H (.ref a) (.ref C)
section
variable {X:Cx}{pins:List (Addr×Obj)}{σ:St}{H:Hp}{s:Shared}
inductive ClsV:V->Value->Prop where
 |ty (T:String):ClsV (.ty T) (.type T)
 |own (C:Addr):ClsV (.ref C) (.ref C)
theorem isinst_x {x:V}{u t c:Value}{b:Bool}{A:Around}{E:Value->Shared->Prop}{Q:Value->Shared->Prop}(I:Inv X pins σ H s)(L:RelV x u)(ty:TyX X.K H x t)(e:PySem.W.kitOne X.K t c=some b)(h:∀tk,Q (.bool b) {s with toks:=tk}):
  wpAny (model X.prog X.w) A (call (.builtin "isinstance") [u,c]) Q E s:=by
 cases ty with
 |ty z=>exact isinst_ok I L z e h
 | @exc a C ea Z=>
  cases(show u=Value.ref a from L)
  obtain⟨p,_,_⟩:=(show QM X.prog X.w H s.heap a (ExcO a C) from I.hok a _ ea)
  exact vi (AwV.exc_kit Z) I.kIn p e (fun z=>nomatch z) h
theorem yU {K:PySem.W.Frag}(M:X.K=K):yX X (.builtin "isinstance") (fun xs H Q=>∃x y c t b,xs= [x,y]/\ClsV y c/\TyX K H x t/\PySem.W.kitOne K t c=some b/\Q (.bl b) H):=by
 intro pins s σ H xs us Q I r h;obtain⟨x,y,c,t,b,rfl,O,ty,e,q⟩:=h;obtain⟨u,R,rfl,ru,L⟩:=vals2 r;subst M;have U:R=c:=by cases O<;>exact L
 subst U;exact uR (n:=1) I.tk (isinst_x I ru ty e fun tk htk=>⟨.bl b,H,I.tok tk,rfl,q⟩)
theorem XE:∀{cs:List Addr}{its:List Value},Vals (cs.map V.ref) its->its=cs.map Value.ref
 | [],_,h=>by cases h;rfl
 |c::cs,_,h=>by
  cases h with
  |cons I L=>
   rw [XE L,show _=Value.ref c from I]
   rfl
theorem call_isinstT {K:PySem.W.Frag}(Y:X.K=K):yX X (.builtin "isinstance") (fun xs H Q=>∃(a C p:Addr) (cs:List Addr) (b:Bool),xs= [.ref a,.ref p]/\H a=some (ExcO a C)/\H p=some (.tup (cs.map V.ref))/\AwV.YR K C/\PySem.W.kitAny K (.ref C) (cs.map Value.ref)=some b/\Q (.bl b) H):=by
 intro pins s σ H xs us Q I r h;obtain⟨a,C,p,cs,b,rfl,ea,hp,Z,e,q⟩:=h;obtain⟨u,u',rfl,ru,L⟩:=vals2 r;subst Y;cases ru;cases L;obtain⟨_,its,rv,o,ho,R,n,hd⟩:=(show QM X.prog X.w H s.heap p (.tup (cs.map V.ref)) from I.hok p _ hp)
 cases XE rv;obtain⟨U,M,O,osl⟩:=o;simp only at R hd;subst R hd;obtain⟨pe,_,_⟩:=(show QM X.prog X.w H s.heap a (ExcO a C) from I.hok a _ ea)
 exact uR (n:=1) I.tk (PySem.W.kia_tup (AwV.exc_kit Z) I.kIn pe ho e (fun z=>nomatch z) fun tk htk=>⟨.bl b,H,I.tok tk,rfl,q⟩)
end
end L2
namespace PySem.AwK
open PySem Builtin Builtin.ObjectAttr
theorem lk_keys:typeLookup (.type "list") "keys"=pure none:=by rw [typeLookup_type,builtinLookup_eq_fast];kernel_rfl
section
variable {prog:Program}{w:World}{A:Around}{E:Value->Shared->Prop}{s:Shared}
theorem ZB:isSubtype (.type "AttributeError") (.type "AttributeError")=pure true:=by rw [isSubtype_type];kernel_rfl
theorem raise_attr {α:Type}{o:Value}{name I:Str}{Q:α->Shared->Prop}(Y:A.handled=none)(hm:I.length<=sizeLine)
  (hq:∀h' O e,(∀b ob,s.heap.get? b=some ob->h'.get? b=some ob)->(∃R,h'.get? e=some R/\R.cls= .type "AttributeError")->E (.ref e) {s with heap:=h',toks:=O}):
  wpAny (model prog w) A (raiseAttrError o name I:Sem α) Q E s:=by
 unfold raiseAttrError;refine wpAny_bind (wpAny_mkStr (wpAny_bind ?_) hm);unfold newExc newTuple;refine wpAny_bind (uV ?_ (by show(1:Nat)<=sizeLine;rw [uL];decide))
 refine wpAny_bind (m:=firstArgMember _ _) (wpAny_of_eq (a:=Value.none) (by kernel_rfl) ?_)
 obtain⟨h1,M⟩:∃h1,h1=s.heap.push {cls:= .type "tuple",data:= .seq #[Value.str I s.toks]}:=⟨_,rfl⟩;have k1:∀b ob,s.heap.get? b=some ob->h1.get? b=some ob:=fun b ob e=>by rw [M];exact u3 _ e
 show wpAny (model prog w) A (newObj (.type "AttributeError") (.fields #[.ref s.heap.objs.size,.none,.none,.none,.bool false,.none,unsetMember,unsetMember])) _ E {s with heap:=s.heap.push {cls:= .type "tuple",data:= .seq #[Value.str I s.toks]},toks:=s.toks+1}
 rw [<-M];refine uV ?_ (by unfold sizeOk;first|trivial|(rw [uL];simp)|decide)
 obtain⟨h2,L⟩:∃h2,h2=h1.push {cls:= .type "AttributeError",data:= .fields #[.ref s.heap.objs.size,.none,.none,.none,.bool false,.none,unsetMember,unsetMember]}:=⟨_,rfl⟩;have k2:∀b ob,h1.get? b=some ob->h2.get? b=some ob:=fun b ob e=>by rw [L];exact u3 _ e
 have e2:h2.get? h1.objs.size=some {cls:= .type "AttributeError",data:= .fields #[.ref s.heap.objs.size,.none,.none,.none,.bool false,.none,unsetMember,unsetMember]}:=by rw [L];exact uw _ rfl
 show wpAny (model prog w) A (do let x<-mkText name;noteAttr (.ref h1.objs.size) o x;raiseNew (.ref h1.objs.size)) Q E {s with heap:=h1.push {cls:= .type "AttributeError",data:= .fields #[.ref s.heap.objs.size,.none,.none,.none,.bool false,.none,unsetMember,unsetMember]},toks:=s.toks+1}
 rw [<-L];have ne:∀b ob,h1.get? b=some ob->b≠h1.objs.size:=fun b ob e=>uK (uk e);generalize h1.objs.size=e at e2 ne⊢;refine wpAny_bind (wpAny_mkText (wpAny_bind ?_));have U:∀g d t os,(⟨h2,g,d,t,os⟩:Shared).TypeIs (.ref e) "AttributeError":=fun _ _ _ _=>⟨_,e2,rfl⟩;unfold noteAttr lacksNameAndObj;refine wpAny_bind (wpAny_bind (Uq (U _ _ _ _) ZB ?_));simp only [Bool.not_true,vq,UH];refine wpAny_bind (wpAny_load e2 ?_);dsimp only;rw [if_neg (by simp [unsetMember,rawInt]),if_neg (by simp [unsetMember,doubtfulMember,rawInt])]
 refine uc ?_;rw [if_pos rfl];refine wpAny_bind (Ut (wpAny_bind (wpAny_typeOf (U _ _ _ _) ?_)));show wpAny (model prog w) A (layMembers e 6 #[Value.str name (s.toks+1),o]) _ E _;unfold layMembers;refine wpAny_bind (wpAny_load e2 ?_);dsimp only;refine wpAny_update e2 ?_;have e3:=Heap.get?_update_self (Obj.mapFields fun vs=>vs.extract 0 6++ #[Value.str name (s.toks+1),o]) e2 rfl;have k3:∀b ob,b≠e->h2.get? b=some ob->(h2.update e (Obj.mapFields fun vs=>vs.extract 0 6++ #[Value.str name (s.toks+1),o])).get? b=some ob:=fun b ob hb q=>(Heap.get?_update_other _ _ (U9 hb)).trans q;exact wpAny_raiseNew_none Y (hq _ _ e (fun b ob q=>k3 b ob (ne b ob (k1 b ob q)) (k2 b ob (k1 b ob q))) ⟨_,e3,rfl⟩)
end
section
variable {prog:Program}{w:World}{A:Around}{E:Value->Shared->Prop}{h:Heap}{g:Array GenState}{d:Drawn}{t:Nat}{os:OsState}{a:Addr}{its:Array Value}{n:Nat}{sl:Array (Option Value)}
theorem nk_entry {tk:Tok}{Q:Fin->Shared->Prop}(M:A.handled=none)(O:h.get? a=some {cls:= .type "list",dict:=none,data:= .seq its n,slots:=sl})
  (R:∀h' I e,(∀b ob,h.get? b=some ob->h'.get? b=some ob)->(∃L,h'.get? e=some L/\L.cls= .type "AttributeError")->E (.ref e) ⟨h',g,d,I,os⟩):
  wpAny (model prog w) A (Builtin.«object.__getattribute__» ⟨[.ref a,.str "keys" tk],[]⟩) Q E ⟨h,g,d,t,os⟩:=by
 have U:(⟨h,g,d,t,os⟩:Shared).TypeIs (.ref a) "list":=⟨_,O,rfl⟩;have Y:=lk_keys
 repeat (any_goals (first|assumption|wp_step))
 exact raise_attr M (by rw [uL];decide+kernel) R
theorem nk_call {tk:Tok}{R:Result->Shared->Prop}(O:A.handled=none)(L:h.get? a=some {cls:= .type "list",dict:=none,data:= .seq its n,slots:=sl})
  (U:∀h' I e,(∀b ob,h.get? b=some ob->h'.get? b=some ob)->(∃M,h'.get? e=some M/\M.cls= .type "AttributeError")->R (.error (.ref e)) ⟨h',g,d,I,os⟩):
  codeAny (model prog w) A (.call (.builtin "list.__getattribute__") ⟨[.ref a,.str "keys" tk],[]⟩) R ⟨h,g,d,t,os⟩:=
 vY F.slot_list_getattribute.plain F.entry_list_ga (F.slot_list_getattribute.check _ _ _ _ _ _ _ _ (show(⟨h,g,d,t,os⟩:Shared).TypeIs (.ref a) "list" from⟨_,L,rfl⟩) (F.args_list_getattribute_2 _ _) (nk_entry O L U))
theorem no_keys {Q:Option Value->Shared->Prop}(O:A.handled=none)(L:h.get? a=some {cls:= .type "list",dict:=none,data:= .seq its n,slots:=sl})
  (R:∀h' I,(∀b ob,h.get? b=some ob->h'.get? b=some ob)->Q none ⟨h',g,d,I,os⟩):wpAny (model prog w) A (getAttr? (.ref a) "keys") Q E ⟨h,g,d,t,os⟩:=by
 have U:∀t,(⟨h,g,d,t,os⟩:Shared).TypeIs (.ref a) "list":=fun t=>⟨_,L,rfl⟩;unfold getAttr? getAttrBy?;refine wpAny_bind (wpAny_mkText (wpAny_bind (U5 ?_)));unfold getAttrBy;refine wpAny_holding (wpAny_bind (wpAny_typeOf (U _) ?_));rw [F.slot_list_getattribute.lookup];refine wpAny_bind (uc ?_);show wpAny (model prog w) A (getAttrByItsOwn (.ref a) _ (.type "list") (.builtin "list.__getattribute__") false false) _ _ _;unfold getAttrByItsOwn;refine wpAny_bind (m:=hookBefore _) (uc ?_);refine wpAny_bind (U5 (wpAny_holding ?_));show wpAny (model prog w) A (boundAndCalled (.builtin "list.__getattribute__") (.ref a) _) _ _ _;unfold boundAndCalled;rw [F.slot_list_getattribute.bind];refine wpAny_bind (uc (UE (nk_call O L fun h' I e k ⟨oe,e1,e2⟩=> ?_)));have M:∀t,(⟨h',g,d,t,os⟩:Shared).TypeIs (.ref e) "AttributeError":=fun t=>⟨_,e1,e2⟩;show wpAny (model prog w) A (getattributeRaised (.ref a) _ (.type "list") (.ref e) none false false) _ _ ⟨h',g,d,I,os⟩;unfold getattributeRaised;refine wpAny_bind (Uq (M _) ZB ?_);rw [if_pos rfl];have Y:hookBehind (.type "list") none=pure none:=by
  show typeLookup (.type "list") "__getattr__"=pure none;rw [typeLookup_type,builtinLookup_eq_fast]
  kernel_rfl
 rw [Y];refine wpAny_bind (uc ?_);show wpAny (model prog w) A (attributeErrorLeaves (.ref a) _ (.ref e) false false) _ _ _;unfold attributeErrorLeaves;refine wpAny_throw ?_;refine wpAny_bind (Uq (M _) ZB ?_);rw [if_pos rfl];exact uc (R h' I k)
end
theorem zO:entryFor table "dict.update.loop"=some Builtin.«dict.update.loop»:=entryFor_of_fast (by kernel_rfl)
theorem jk:plainId "dict.update.loop"=true:=by decide+kernel
section
variable {prog:Program}{w:World}{A:Around}{E:Value->Shared->Prop}{K:Type}[DecidableEq K]{knd:KeyKind prog w K}
def addAll (cur:List (K×Value)):List (K×Value)->List (K×Value)
 | []=>cur
 |p::r=>addAll (stored cur p.1 p.2) r
structure PairAt (h:Heap)(d it:Addr)(v:Value)(p:K×Value):Prop where
 at_:∃(t:Addr) (o:Obj) (k:Value) (n:Nat),v= .ref t/\t≠d/\t≠it/\h.get? t=some o/\o.cls= .type "tuple"/\o.data= .seq #[k,p.2] n/\knd.is p.1 k=true
theorem pairs_loop (hh:A.handled=none){d it l:Addr}{items:Array Value}{ps:List (K×Value)}{R:Result->Shared->Prop}(al:d≠l)(am:it≠l)(O:d≠it)(hn:items.size=ps.length)(hz:2*ps.length<=sizeLine)(res:Value):
  ∀(m i:Nat) (s:Shared) (I:List (K×Value)),i+m=ps.length->s.heap.IsListIter it l i->s.heap.IsList l items->s.heap.DictOf knd d I->I.length<=i->
  (∀(j:Nat) (v:Value) (p:K×Value),items[j]? =some v->ps[j]? =some p->PairAt (knd:=knd) s.heap d it v p)->
  (∀h' U,h'.DictOf knd d (addAll I (ps.drop i))->(∀b o,b≠d->b≠it->s.heap.get? b=some o->h'.get? b=some o)->R (.ok (.ret res)) {s with heap:=h',toks:=U})->
  codeAny (model prog w) A (.builtin "dict.update.loop" ⟨[.ref d,.ref it,rawInt i,res],[]⟩) R s:=by
 intro m
 induction m with
 |zero=>
  intro i s I hm Y hl hd hc hp hR;refine codeAny_builtin zO ?_;rw [Around.under_plainId jk _];show wpAny _ A.in1 (pyNext (.ref it)>>=_) _ _ s;refine wpAny_bind (wpAny_pyNext_list_end (A:=A.in1) hh Y hl (by rw [Array.getElem?_eq_none (by omega)]) fun h' eb=> ?_)
  have aa:h'.DictOf knd d I:=by
   obtain⟨o,es,ep,ho,r⟩:=hd;exact⟨o,es,ep,eb d o O ho,r⟩
  have:=hR h' s.toks (by rw [List.drop_eq_nil_of_le (by omega)];exact aa) fun b o M L e=>eb b o L e
  show wpAny (model prog w) A.in1 (Dict.addKeywords d []>>=fun _=>ret res) _ _ _;refine wpAny_bind (m:=Dict.addKeywords d []) (uc ?_);exact uc this
 |succ m ih=>
  intro i s I hm Y hl hd hc hp hR;refine codeAny_builtin zO ?_;rw [Around.under_plainId jk _];have hi:i<items.size:=by omega
  have ac:i<ps.length:=by omega
  have hx:items[i]? =some items[i]:=Array.getElem?_eq_getElem hi;have ao:ps[i]? =some ps[i]:=ul ac;obtain⟨t,o,k,n,ev,ax,ap,ho,aq,au,hk⟩:=(hp i _ _ hx ao).at_;rw [ev] at hx;show wpAny _ A.in1 (pyNext (.ref it)>>=_) _ _ s;refine wpAny_bind (wpAny_pyNext_list_item (A:=A.in1) Y hl hx fun h1 ad ab=> ?_);have ae:h1.get? t=some o:=(ab.2 t ap).trans ho;have hT:(({s with heap:=h1}:Shared)).TypeIs (.ref t) "tuple":=⟨_,ae,aq⟩
  have af:h1.DictOf knd d I:=hd.sameBut ab O;dsimp only;refine wpAny_bind (wpAny_holding (wpAny_bind (wpAny_tryCatch ?_)));unfold Dict.pairItems;refine wpAny_bind (wpAny_typeOf hT ?_);rw [if_pos (by decide)]
  refine wpAny_bind ?_;unfold seqItems?;refine wpAny_bind (wpAny_load ae ?_);rw [au];refine uc (uc ?_);show wpAny (model prog w) A.in1 (holding [k,ps[i].2] (dictSet d k ps[i].2)) _ _ _;refine wpAny_holding (wpAny_dictSet_pairs hk af (fun h2 av ag=> ?_) (by omega))
  have ah:h2.IsListIter it l (i+1):=by
   obtain⟨oi,e,c⟩:=ad;exact⟨oi,(ag.2 it (U9 O)).trans e,c⟩
  have keep:∀b ob,b≠d->b≠it->s.heap.get? b=some ob->h2.get? b=some ob:=fun b ob M L e=>(ag.2 b M).trans ((ab.2 b L).trans e);have aw:h2.IsList l items:=by
   obtain⟨ol,e,c⟩:=hl;exact⟨ol,keep l ol (U9 al) (U9 am) e,c⟩
  refine uc ⟨plainId_quiet jk _,?_⟩;have ak:(stored I ps[i].1 ps[i].2).length<=i+1:=by
   unfold stored;split
   ·rw [ub];omega
   ·rw [uf];show I.length+1<=i+1;omega
  refine ih (i+1) _ _ (by omega) ah aw av ak (fun j v p h1 h2=> ?_) fun h' U aa kp=> ?_
  ·obtain⟨t',o',k',n',e1,e2,e3,e4,e5⟩:=(hp j v p h1 h2).at_;exact⟨⟨t',o',k',n',e1,e2,e3,keep t' o' e2 e3 e4,e5⟩⟩
  ·refine hR h' U ?_ fun b ob M L e=>kp b ob M L (keep b ob M L e);rw [vf ac];exact aa
theorem dict_pairs (hh:A.handled=none){s:Shared}{l:Addr}{items:Array Value}{n:Nat}{sl:Array (Option Value)}{ps:List (K×Value)}{Q:Value->Shared->Prop}(hl:s.heap.get? l=some {cls:= .type "list",dict:=none,data:= .seq items n,slots:=sl})(hn:items.size=ps.length)(hz:2*ps.length<=sizeLine)
  (hp:∀(j:Nat) (v:Value) (p:K×Value),items[j]? =some v->ps[j]? =some p->∃(t:Addr) (o:Obj) (k:Value) (n:Nat),v= .ref t/\s.heap.get? t=some o/\o.cls= .type "tuple"/\o.data= .seq #[k,p.2] n/\knd.is p.1 k=true)
  (hQ:∀h' O,h'.DictOf knd s.heap.objs.size (addAll [] ps)->(∀b o,s.heap.get? b=some o->h'.get? b=some o)->Q (.ref s.heap.objs.size) {s with heap:=h',toks:=O}):
  wpAny (model prog w) A (call (.type "dict") [.ref l]) Q E s:=by
 refine callType_codes (Q₁:=fun obj s₁=>obj= .ref s.heap.objs.size/\s₁={s with heap:=s.heap.push {cls:= .type "dict",data:= .dict #[]}}) F.kt_called_dict (F.kt_typeCall_dict_1 _) F.entry_dict_init (kt_code_dict_new _ ⟨rfl,rfl⟩) ?_
 rintro obj s₁ ⟨rfl,rfl⟩;have L:(s.heap.push {cls:= .type "dict",data:= .dict #[]}).DictOf knd s.heap.objs.size []:=Heap.DictOf.new s.heap;refine⟨L.typeIs,F.args_dict_init_2 _ _,?_⟩;unfold Builtin.«dict.__init__»;refine wpAny_bind ?_;unfold Builtin.Dict.selfAndRest;refine wpAny_bind (wpAny_notOrdered_dict L.typeIs ?_);refine(show wpAny _ _ (pure (s.heap.objs.size,[Value.ref l])) _ _ _ from ?_)
 refine uc ?_;refine(show wpAny _ _ (Builtin.Dict.updateFrom "dict.__init__" s.heap.objs.size (.ref l) [] .none) _ _ _ from ?_)
 unfold Builtin.Dict.updateFrom;have M:(s.heap.push {cls:= .type "dict",data:= .dict #[]}).get? l=some {cls:= .type "list",dict:=none,data:= .seq items n,slots:=sl}:=u3 _ hl;refine wpAny_bind (wpAny_typeOf (T:="list") ⟨_,M,rfl⟩ ?_);rw [if_pos (by decide)]
 refine wpAny_bind (no_keys (A:=A.in1.in1) hh M fun h2 ae k2=> ?_);rw [if_pos (show(none:Option Value).isNone=true from rfl)]
 have R:l<s.heap.objs.size:=uk hl;have Y:h2.IsList l items:=⟨_,k2 _ _ M,rfl,n,rfl⟩;refine wpAny_bind (Ut (wpAny_bind (UD Y ?_)));have U:h2.DictOf knd s.heap.objs.size []:=by
  obtain⟨o,es,ep,ho,r⟩:=L;exact⟨o,es,ep,k2 _ _ ho,r⟩
 have I:s.heap.objs.size<h2.objs.size:=by
  obtain⟨o,es,ep,ho,r⟩:=U;exact uk ho
 have k1:∀b o,s.heap.get? b=some o->h2.get? b=some o:=fun b o e=>k2 b o (u3 _ e);have k3:∀b o,h2.get? b=some o->(h2.push {cls:= .type "list_iterator",data:= .fields #[.ref l,.int 0 0]}).get? b=some o:=fun b o e=>u3 _ e;have aa:(h2.push {cls:= .type "list_iterator",data:= .fields #[.ref l,.int 0 0]}).IsList l items:=⟨_,k3 _ _ (k2 _ _ M),rfl,n,rfl⟩;have ab:(h2.push {cls:= .type "list_iterator",data:= .fields #[.ref l,.int 0 0]}).DictOf knd s.heap.objs.size []:=U.push _;refine uc ⟨plainId_quiet jk _,pairs_loop (A:=A.in1) hh (d:=s.heap.objs.size) (it:=h2.objs.size) (l:=l) (items:=items) (ps:=ps) (U3 R) (U3 (Nat.lt_trans R I)) (uK I) hn hz .none ps.length 0 _ [] (by omega) ⟨_,uw _ rfl,rfl,rfl⟩ aa ab (ug _) (fun j v p h1 ac=> ?_) fun h' O ad kp=> ?_⟩
 ·obtain⟨t,o,k,n',e1,e2,e3,e4,e5⟩:=hp j v p h1 ac;have ht:=uk e2;exact⟨⟨t,o,k,n',e1,uK ht,uK (Nat.lt_trans ht I),k3 _ _ (k1 _ _ e2),e3,e4,e5⟩⟩
 ·refine⟨rfl,hQ h' O ad fun b o e=> ?_⟩;have hb:=uk e;exact kp b o (uK hb) (uK (Nat.lt_trans hb I)) (k3 _ _ (k1 _ _ e))
end
end PySem.AwK
namespace L2
open PySem PySem.Spec PyProof.Rows
section
variable {X:Cx}
def inrK (ps:List (Str×V)):List (Key×V):=ps.map fun p=>(Sum.inr p.1,p.2)
theorem inrK_keys (ps:List (Str×V)):(inrK ps).map (·.1)=(ps.map (·.1)).map Sum.inr:=by
 unfold inrK;rw [uT,uT]
 rfl
theorem stored_new {kvs:List (Key×Value)}{k:Key}{v:Value}(h:k∉kvs.map (·.1)):stored kvs k v=kvs++ [(k,v)]:=by
 unfold stored;rw [if_neg];intro q;obtain⟨p,I,e⟩:=List.any_eq_true.mp q;exact h (List.mem_map.mpr ⟨p,I,ua e⟩)
theorem Zd:∀{ps I:List (Key×Value)},((I++ps).map (·.1)).Nodup->AwK.addAll I ps=I++ps
 | [],I,_=>(vG I).symm
 |p::r,I,h=>by
  unfold AwK.addAll;have L:p.1∉I.map (·.1):=by
   rw [uE,uj] at h;intro q;exact(List.nodup_append.mp h).2.2 _ q _ uq rfl
  rw [stored_new L,Zd (by rw [List.append_assoc];exact h),List.append_assoc]
  rfl
theorem pairs_are {P:Program}{w:World}{H:Hp}{h:Heap}(ok:HOk P w H h):∀{ts:List Addr}{ps:List (Str×V)},ts.length=ps.length->(∀(i:Nat) (t:Addr) (p:Str×V),ts[i]? =some t->ps[i]? =some p->H t=some (.tup [.str p.1,p.2]))->
  ∃pv:List (Key×Value),KV (inrK ps) pv/\∀(j:Nat) (v:Value) (p:Key×Value),(ts.map Value.ref)[j]? =some v->pv[j]? =some p->∃(t:Addr) (o:Obj) (k:Value) (n:Nat),v= .ref t/\h.get? t=some o/\o.cls= .type "tuple"/\o.data= .seq #[k,p.2] n/\(Qt P w).is p.1 k=true
 | [],[],_,_=>⟨[],.nil,fun j v p e=>by simp at e⟩
 |t::ts,p::ps,hl,hp=>by
  obtain⟨pv,h1,h2⟩:=pairs_are ok (ts:=ts) (ps:=ps) (by simpa using hl) fun i t' I e1 e2=>hp (i+1) t' I (by simpa using e1) (by simpa using e2)
  obtain⟨_,its,rv,o,L,M,n,hd⟩:=(show QM P w H h t (.tup [.str p.1,p.2]) from ok t _ (hp 0 t p rfl rfl))
  cases rv with
  |cons O rv=>
  cases rv with
  |cons R rv=>
  cases rv with
  |nil=>
  obtain⟨tk,rfl⟩:=O
  rename_i u
  refine⟨(Sum.inr p.1,u)::pv,.cons ⟨rfl,R⟩ h1,fun j v q e1 e2=> ?_⟩;cases j with
  |zero=>
   simp only [uj,List.getElem?_cons_zero,Option.some.injEq] at e1 e2;subst e1 e2;exact⟨t,o,_,n,rfl,L,M,hd,XF _ _ _ _⟩
  |succ j=>exact h2 j v q (by simpa using e1) (by simpa using e2)
 | [],_::_,hl,_=>by simp at hl
 |_::_,[],hl,_=>by simp at hl
def PairsL (H:Hp)(l:Addr)(ps:List (Str×V)):Prop:=∃ts:List Addr,H l=some (.lst (ts.map V.ref))/\ts.length=ps.length/\∀(i:Nat) (t:Addr) (p:Str×V),ts[i]? =some t->ps[i]? =some p->H t=some (.tup [.str p.1,p.2])
theorem dict_of {pins:List (Addr×Obj)}{σ:St}{H:Hp}{s:Shared}{l:Addr}{ps:List (Str×V)}{Q:Value->Shared->Prop}(U:X.calm=true)(I:Inv X pins σ H s)(Y:PairsL H l ps)(hn:(ps.map (·.1)).Nodup)(hz:ps.length<=1000)
  (h:∀h' L pv,0<L->(∀b o,s.heap.get? b=some o->h'.get? b=some o)->KV (inrK ps) pv->h'.DictOf (Qt X.prog X.w) s.heap.objs.size pv->Q (.ref s.heap.objs.size) {s with heap:=h',toks:=L}):
  wpAny (model X.prog X.w) X.A (call (.type "dict") [.ref l]) Q X.xe s:=by
 obtain⟨ts,e1,e2,e3⟩:=Y;obtain⟨_,its,n,rv,ho⟩:=(show QM X.prog X.w H s.heap l (.lst (ts.map V.ref)) from I.hok l _ e1)
 cases XE rv;obtain⟨pv,r,hp⟩:=pairs_are I.hok e2 e3;have aa:pv.length=ps.length:=by
  rw [<-r.length];unfold inrK;rw [ub]
 have O:(pv.map (·.1)).Nodup:=by
  rw [<-r.keys,inrK_keys];exact List.Pairwise.map _ (fun a b R e=>R (Sum.inr.inj e)) hn
 refine uR (n:=1) I.tk ?_;refine AwK.dict_pairs (knd:=Qt X.prog X.w) (I.ok.hd U) (ps:=pv) ho (by rw [ue,ub];omega) (by rw [uL];omega) (fun j v p h1 h2=>hp j v p (by simpa using h1) h2) fun h' L M kp=> ?_
 rw [Zd (by simpa using O),List.nil_append] at M
 exact fun htk=>h h' L pv htk kp r M
theorem call_dictP (R:X.calm=true):yX X (.type "dict") (fun xs H Q=>∃(l:Addr) (ps:List (Str×V)),xs= [.ref l]/\PairsL H l ps/\(ps.map (·.1)).Nodup/\ps.length<=1000/\∀q,H q=none->Q (.ref q) (upd H q (.dK (inrK ps)))):=by
 intro pins s σ H xs us Q I r h;obtain⟨l,ps,rfl,U,hn,Y,q⟩:=h;obtain⟨u,rfl,ru⟩:=Jd r;cases ru;refine dict_of R I U hn Y fun h' aa pv htk kp L dd=> ?_;have M:(s.heap.objs.size==sysModules)=false:=by
  rw [beq_eq_false_iff_ne];exact U3 I.big
 have O:(inrK ps).length<=sizeLine:=by unfold inrK;rw [ub,uL];omega
 exact⟨.ref s.heap.objs.size,_,I.laid kp (ug _) (dk_new O M L dd),rfl,q _ I.fresh⟩
end
mutual
def puD:D->Bool
 | .str _=>true
 | .int _=>true
 | .tup xs=>puL xs
 |_=>false
def puL:List D->Bool
 | []=>true
 |x::r=>puD x&&puL r
end
mutual
def eqD:D->D->Bool
 | .str a,.str b=>a==b
 | .int a,.int b=>a==b
 | .tup xs,.tup ys=>eqL xs ys
 |_,_=>false
def eqL:List D->List D->Bool
 | [],[]=>true
 |x::r,y::q=>eqD x y&&eqL r q
 |_,_=>false
end
mutual
theorem eqD_iff:∀{d e:D},puD d=true->(eqD d e=true↔d=e)
 | .str a,e,_=>by cases e<;>simp [eqD]
 | .int a,e,_=>by cases e<;>simp [eqD]
 | .tup xs,.tup ys,h=>by
  have:=eqL_iff (xs:=xs) (ys:=ys) (by simpa [puD] using h)
  simp only [eqD,this,D.tup.injEq]
 | .tup xs,.non,_=>by simp [eqD]
 | .tup xs,.bl _,_=>by simp [eqD]
 | .tup xs,.int _,_=>by simp [eqD]
 | .tup xs,.str _,_=>by simp [eqD]
 | .tup xs,.lst,_=>by simp [eqD]
 | .tup xs,.dct,_=>by simp [eqD]
 | .non,_,h=>by simp [puD] at h
 | .bl _,_,h=>by simp [puD] at h
 | .lst,_,h=>by simp [puD] at h
 | .dct,_,h=>by simp [puD] at h
theorem eqL_iff:∀{xs ys:List D},puL xs=true->(eqL xs ys=true↔xs=ys)
 | [],[],_=>by simp [eqL]
 | [],_::_,_=>by simp [eqL]
 |_::_,[],_=>by simp [eqL]
 |x::r,y::q,h=>by
  have h':puD x=true/\puL r=true:=by simpa [puL] using h
  simp only [eqL,ui,eqD_iff h'.1,eqL_iff h'.2,List.cons.injEq]
end
mutual
theorem Is.det {H:Hp}:∀{d e:D}{v:V},puD d=true->puD e=true->Is H d v->Is H e v->d=e
 | .str a,e,v,_,he,h1,h2=>by
  obtain⟨rfl,_⟩:=(show v= .str a/\_ from h1)
  cases e with
  |str b=>obtain⟨q,_⟩:=(show V.str a=V.str b/\_ from h2);cases q;rfl
  |int b=>cases(show V.str a=V.int b from h2)
  |tup ys=>obtain⟨p,us,q,_⟩:=(show∃p us,V.str a=V.ref p/\_ from h2);cases q
  |_=>simp [puD] at he
 | .int a,e,v,_,he,h1,h2=>by
  cases(show v= .int a from h1)
  cases e with
  |str b=>obtain⟨q,_⟩:=(show V.int a=V.str b/\_ from h2);cases q
  |int b=>cases(show V.int a=V.int b from h2);rfl
  |tup ys=>obtain⟨p,us,q,_⟩:=(show∃p us,V.int a=V.ref p/\_ from h2);cases q
  |_=>simp [puD] at he
 | .tup xs,e,v,hd,he,h1,h2=>by
  obtain⟨p,vs,rfl,O,R⟩:=(show∃p vs,v=V.ref p/\H p=some (.tup vs)/\IsL H xs vs from h1)
  cases e with
  |str b=>obtain⟨q,_⟩:=(show V.ref p=V.str b/\_ from h2);cases q
  |int b=>cases(show V.ref p=V.int b from h2)
  |tup ys=>
   obtain⟨L,us,q,I,M⟩:=(show∃L us,V.ref p=V.ref L/\H L=some (.tup us)/\IsL H ys us from h2)
   cases q;rw [O] at I;cases I;rw [IsL.det (by simpa [puD] using hd) (by simpa [puD] using he) R M]
  |_=>simp [puD] at he
 | .non,_,_,hd,_,_,_=>by simp [puD] at hd
 | .bl _,_,_,hd,_,_,_=>by simp [puD] at hd
 | .lst,_,_,hd,_,_,_=>by simp [puD] at hd
 | .dct,_,_,hd,_,_,_=>by simp [puD] at hd
theorem IsL.det {H:Hp}:∀{xs ys:List D}{vs:List V},puL xs=true->puL ys=true->IsL H xs vs->IsL H ys vs->xs=ys
 | [],[],_,_,_,_,_=>rfl
 | [],_::_,_,_,_,h1,h2=>by
  cases(show _= [] from h1)
  obtain⟨v,r,q,_⟩:=(show∃v r,[]=v::r/\_ from h2)
  cases q
 |_::_,[],_,_,_,h1,h2=>by
  cases(show _= [] from h2)
  obtain⟨v,r,q,_⟩:=(show∃v r,[]=v::r/\_ from h1)
  cases q
 |x::xs,y::ys,_,hd,he,h1,h2=>by
  obtain⟨v,r,rfl,M,O⟩:=h1;obtain⟨R,U,q,b1,b2⟩:=h2;cases q;have I:puD x=true/\puL xs=true:=by simpa [puL] using hd
  have L:puD y=true/\puL ys=true:=by simpa [puL] using he
  rw [Is.det I.1 L.1 M b1,IsL.det I.2 L.2 O b2]
end
theorem eqL_all:∀(xs ys:List D),eqL xs ys=((List.range (min xs.length ys.length)).all (fun j=>eqD (xs.getD j .non) (ys.getD j .non))&&xs.length==ys.length)
 | [],[]=>by simp [eqL]
 | [],_::_=>by simp [eqL]
 |_::_,[]=>by simp [eqL]
 |x::r,y::q=>by
  have I:=eqL_all r q;rw [ud,ud,show min (r.length+1) (q.length+1)=min r.length q.length+1 by omega,List.range_succ_eq_map,vm,vU]
  have e:(List.range (min r.length q.length)).all ((fun j=>eqD ((x::r).getD j .non) ((y::q).getD j .non))∘Nat.succ)=(List.range (min r.length q.length)).all fun j=>eqD (r.getD j .non) (q.getD j .non):=by congr 1
  rw [e];have e2:(r.length+1==q.length+1)=(r.length==q.length):=by rw [vF];simp
  rw [e2,Bool.and_assoc,<-I]
  rfl
section
variable {X:Cx}{pins:List (Addr×Obj)}{σ:St}{H:Hp}{s:Shared}
theorem eqAt_str (I:Inv X pins σ H s){z:Str}{t:Tok}{e:D}{u:V}{b:Value}{A:Around}(M:puD e=true)(h2:Is H e u)(L:RelV u b)(O:A.units<cLine):SeqAt.EqAt A s (.str z t) b (eqD (.str z) e):=by
 cases e with
 |str y=>
  obtain⟨rfl,_⟩:=(show u= .str y/\_ from h2)
  obtain⟨R,rfl⟩:=L;exact SeqAt.EqAt.str_str _ _ _ _
 |int y=>
  cases(show u= .int y from h2)
  obtain⟨R,rfl⟩:=L;exact Ux _ _ _ _
 |tup ys=>
  obtain⟨p,us,rfl,U,Y⟩:=(show∃p us,u=V.ref p/\H p=some (.tup us)/\IsL H ys us from h2)
  cases L;obtain⟨its,_,q,_⟩:=I.tuple (.inl (.of U));exact SeqAt.EqAt.str_tuple _ _ q O
 |_=>simp [puD] at M
theorem eqAt_int (I:Inv X pins σ H s){z:Int}{t:Tok}{e:D}{u:V}{b:Value}{A:Around}(M:puD e=true)(h2:Is H e u)(L:RelV u b)(O:A.units<cLine):SeqAt.EqAt A s (.int z t) b (eqD (.int z) e):=by
 cases e with
 |str y=>
  obtain⟨rfl,_⟩:=(show u= .str y/\_ from h2)
  obtain⟨R,rfl⟩:=L;exact Uw _ _ _ _
 |int y=>
  cases(show u= .int y from h2)
  obtain⟨R,rfl⟩:=L;exact SeqAt.EqAt.int_int _ _ _ _
 |tup ys=>
  obtain⟨p,us,rfl,U,Y⟩:=(show∃p us,u=V.ref p/\H p=some (.tup us)/\IsL H ys us from h2)
  cases L;obtain⟨its,_,q,_⟩:=I.tuple (.inl (.of U));exact SeqAt.EqAt.int_tuple _ _ q O
 |_=>simp [puD] at M
theorem Xd:∀{xs:List D}{j:Nat}{x:D},puL xs=true->xs[j]? =some x->puD x=true
 | [],_,_,_,e=>by simp at e
 |y::r,0,x,h,e=>by
  have h':puD y=true/\puL r=true:=by simpa [puL] using h
  have:y=x:=by simpa using e
  exact this▸h'.1
 |y::r,j+1,x,h,e=>by
  have h':puD y=true/\puL r=true:=by simpa [puL] using h
  exact Xd h'.2 (by simpa using e)
theorem eqAt_tup (I:Inv X pins σ H s){xs:List D}{e:D}{v u:V}{a b:Value}{A:Around}(hd:puD (.tup xs)=true)(Y:puD e=true)(h1:Is H (.tup xs) v)(h2:Is H e u)(r1:RelV v a)(R:RelV u b)(hu:A.units<cLine)
  (ih:∀x∈xs,∀(e:D) (v u:V) (a b:Value),puD x=true->puD e=true->Is H x v->Is H e u->RelV v a->RelV u b->SeqAt.EqAt A.in1 s a b (eqD x e)):SeqAt.EqAt A s a b (eqD (.tup xs) e):=by
 obtain⟨p,vs,rfl,hp,hl⟩:=(show∃p vs,v=V.ref p/\H p=some (.tup vs)/\IsL H xs vs from h1)
 cases r1;obtain⟨its,rv,q,_⟩:=I.tuple (.inl (.of hp));cases e with
 |str y=>
  obtain⟨rfl,_⟩:=(show u= .str y/\_ from h2)
  obtain⟨t2,rfl⟩:=R;exact SeqAt.EqAt.tuple_str _ _ q hu
 |int y=>
  cases(show u= .int y from h2)
  obtain⟨t2,rfl⟩:=R;exact SeqAt.EqAt.tuple_int _ _ q hu
 |tup ys=>
  by_cases hv:V.ref p=u
  ·have:=Is.det (e:= .tup ys) hd Y h1 (hv▸h2);subst hv;cases R;rw [<-this,(eqD_iff hd).mpr rfl];exact SeqAt.EqAt.same _
  ·obtain⟨p',us,rfl,aa,L⟩:=(show∃p' us,u=V.ref p'/\H p'=some (.tup us)/\IsL H ys us from h2)
   cases R;obtain⟨its',M,q',_⟩:=I.tuple (.inl (.of aa));have l1:its.length=xs.length:=by rw [<-rv.length,hl.length]
   have l2:its'.length=ys.length:=by rw [<-M.length,L.length]
   have ab:puL xs=true:=by simpa [puD] using hd
   have ac:puL ys=true:=by simpa [puD] using Y
   have ad:=UF (e:=fun j=>eqD (xs.getD j .non) (ys.getD j .non)) q q' hu fun j a1 a2=>by
    have O:j<xs.length:=by rw [<-l1];simpa using a1
    have U:j<ys.length:=by rw [<-l2];simpa using a2
    obtain⟨v1,e1,i1⟩:=hl.get (i:=j) (d:=xs[j]) (by simp [O])
    obtain⟨v2,e2,i2⟩:=L.get (i:=j) (d:=ys[j]) (by simp [U])
    obtain⟨b1,f1,g1⟩:=rv.get e1;obtain⟨b2,f2,g2⟩:=M.get e2;have k1:its.toArray[j]=b1:=by
     have:=f1;rw [ul (by rw [l1];exact O)] at this
     simpa using this
    have k2:its'.toArray[j]=b2:=by
     have:=f2;rw [ul (by rw [l2];exact U)] at this
     simpa using this
    have d1:xs.getD j .non=xs[j]:=by simp [List.getD,O]
    have d2:ys.getD j .non=ys[j]:=by simp [List.getD,U]
    show SeqAt.EqAt _ s _ _ (eqD (xs.getD j .non) (ys.getD j .non));rw [k1,k2,d1,d2];exact ih _ (U7 O) _ _ _ _ _ (Xd (j:=j) ab (by simp [O])) (Xd (j:=j) ac (by simp [U])) i1 i2 g1 g2
   have e1:eqD (.tup xs) (.tup ys)=((List.range (min its.toArray.size its'.toArray.size)).all (fun j=>eqD (xs.getD j .non) (ys.getD j .non))&&its.toArray.size==its'.toArray.size):=by
    rw [ue,ue,l1,l2,<-eqL_all];simp only [eqD]
   rw [e1];exact SeqAt.EqAt.of_refs (fun z=>hv (by rw [z])) ad
 |_=>simp [puD] at Y
theorem eqAt_D (I:Inv X pins σ H s):∀(n:Nat) (d e:D) (v u:V) (a b:Value) (A:Around),dp d<=n->puD d=true->puD e=true->Is H d v->Is H e u->RelV v a->RelV u b->A.units+n<cLine->SeqAt.EqAt A s a b (eqD d e):=by
 intro n
 induction n with
 |zero=>
  intro d e v u a b A hn hd M h1 h2 O R U;cases d with
  |int z=>
   cases(show v= .int z from h1)
   obtain⟨t,rfl⟩:=O;exact eqAt_int I M h2 R U
  |str z=>simp [dp] at hn
  |tup xs=>simp [dp] at hn
  |_=>simp [puD] at hd
 |succ n Y=>
  intro d e v u a b A hn hd M h1 h2 O R U;have L:A.units<cLine:=UA (Nat.le_add_right _ _) U;cases d with
  |int z=>
   cases(show v= .int z from h1)
   obtain⟨t,rfl⟩:=O;exact eqAt_int I M h2 R L
  |str z=>
   obtain⟨rfl,_⟩:=(show v= .str z/\_ from h1)
   obtain⟨t,rfl⟩:=O;exact eqAt_str I M h2 R L
  |tup xs=>
   have hm:dpL xs<=n:=by
    have:dp (.tup xs)=1+dpL xs:=by simp only [dp]
    omega
   exact eqAt_tup I hd M h1 h2 O R L fun x hx e v u a b k1 k2 k3 k4 k5 k6=>Y x e v u a b A.in1 ((jv xs).mp hm x hx) k1 k2 k3 k4 k5 k6 (by rw [uO];omega)
  |_=>simp [puD] at hd
end
section
variable {X:Cx}
def trD:D->Bool
 | .str _=>true
 | .tup xs=>puL xs
 |_=>false
theorem parts_eq {pins:List (Addr×Obj)}{σ:St}{H:Hp}{s:Shared}(I:Inv X pins σ H s){A:Around}{n:Nat}{xs ys:List D}{vs us:List V}{its its':List Value}(hn:dpL xs<=n)(hd:puL xs=true)(he:puL ys=true)(U:IsL H xs vs)(L:IsL H ys us)(rv:Vals vs its)(M:Vals us its')(hu:A.units+n<cLine):
  ∀j (Y:j<its.toArray.size) (a2:j<its'.toArray.size),SeqAt.EqAt A s its.toArray[j] its'.toArray[j] (eqD (xs.getD j .non) (ys.getD j .non)):=fun j Y a2=>by
 have l1:its.length=xs.length:=by rw [<-rv.length,U.length]
 have l2:its'.length=ys.length:=by rw [<-M.length,L.length]
 have O:j<xs.length:=by rw [<-l1];simpa using Y
 have R:j<ys.length:=by rw [<-l2];simpa using a2
 obtain⟨v1,e1,i1⟩:=U.get (i:=j) (d:=xs[j]) (by simp [O])
 obtain⟨v2,e2,i2⟩:=L.get (i:=j) (d:=ys[j]) (by simp [R])
 obtain⟨b1,f1,g1⟩:=rv.get e1;obtain⟨b2,f2,g2⟩:=M.get e2;have k1:its.toArray[j]=b1:=by
  have:=f1;rw [ul (by rw [l1];exact O)] at this
  simpa using this
 have k2:its'.toArray[j]=b2:=by
  have:=f2;rw [ul (by rw [l2];exact R)] at this
  simpa using this
 have d1:xs.getD j .non=xs[j]:=by simp [List.getD,O]
 have d2:ys.getD j .non=ys[j]:=by simp [List.getD,R]
 rw [k1,k2,d1,d2];exact eqAt_D I n _ _ _ _ _ _ A ((jv xs).mp hn _ (U7 O)) (Xd (j:=j) hd (by simp [O])) (Xd (j:=j) he (by simp [R])) i1 i2 g1 g2 hu
theorem rc_D {pins:List (Addr×Obj)}{σ:St}{H:Hp}{s:Shared}(I:Inv X pins σ H s){A:Around}{d e:D}{x y:V}{v u:Value}(h1:Is H d x)(h2:Is H e y)(p1:trD d=true)(p2:trD e=true)(hn:dp d<=60)(rx:RelV x v)(R:RelV y u)(hu:A.units+64<cLine):
  SeqAt.RcAt A s v u (eqD d e)/\SeqAt.RcNeAt A s v u (!eqD d e):=by
 have L:A.units<cLine:=by omega
 cases d with
 |str z=>
  obtain⟨rfl,_⟩:=(show x= .str z/\_ from h1)
  obtain⟨t,rfl⟩:=rx;cases e with
  |str w=>
   obtain⟨rfl,_⟩:=(show y= .str w/\_ from h2)
   obtain⟨t2,rfl⟩:=R;exact⟨SeqAt.RcAt.str_str _ _ _ _,SeqAt.RcNeAt.str_str _ _ _ _⟩
  |tup ys=>
   obtain⟨p,us,rfl,U,Y⟩:=(show∃p us,y=V.ref p/\H p=some (.tup us)/\IsL H ys us from h2)
   cases R;obtain⟨its,_,q,_⟩:=I.tuple (.inl (.of U));exact⟨SeqAt.RcAt.str_tuple _ _ q L,SeqAt.RcNeAt.str_tuple _ _ q L⟩
  |_=>simp [trD] at p2
 |tup xs=>
  obtain⟨p,vs,rfl,U,Y⟩:=(show∃p vs,x=V.ref p/\H p=some (.tup vs)/\IsL H xs vs from h1)
  cases rx;obtain⟨its,rv,q,_⟩:=I.tuple (.inl (.of U));cases e with
  |str w=>
   obtain⟨rfl,_⟩:=(show y= .str w/\_ from h2)
   obtain⟨t2,rfl⟩:=R;exact⟨SeqAt.RcAt.tuple_str _ _ q L,SeqAt.RcNeAt.tuple_str _ _ q L⟩
  |tup ys=>
   obtain⟨p',us,rfl,aa,M⟩:=(show∃p' us,y=V.ref p'/\H p'=some (.tup us)/\IsL H ys us from h2)
   cases R;obtain⟨its',O,q',_⟩:=I.tuple (.inl (.of aa));have hm:dpL xs<=60:=by
    have:dp (.tup xs)=1+dpL xs:=by simp only [dp]
    omega
   have l1:its.length=xs.length:=by rw [<-rv.length,Y.length]
   have l2:its'.length=ys.length:=by rw [<-O.length,M.length]
   have pe:=parts_eq I (A:=A.in1) hm (by simpa [trD] using p1) (by simpa [trD] using p2) Y M rv O (by rw [uO];omega)
   have e1:eqD (.tup xs) (.tup ys)=((List.range (min its.toArray.size its'.toArray.size)).all (fun j=>eqD (xs.getD j .non) (ys.getD j .non))&&its.toArray.size==its'.toArray.size):=by
    rw [ue,ue,l1,l2,<-eqL_all];simp only [eqD]
   rw [e1];exact⟨UF q q' L pe,SeqAt.RcNeAt.tuples q q' L pe⟩
  |_=>simp [trD] at p2
 |_=>simp [trD] at p1
def rCmpD (g:Bool->Bool):V->V->Hp->VK->Prop:=fun x y H Q=>∃d e:D,Is H d x/\Is H e y/\trD d=true/\trD e=true/\dp d<=60/\Q (.bl (g (eqD d e))) H
theorem op_eqD (L:X.A.units+64<cLine):OpR X (compareOp .Eq) (rCmpD id):=by
 intro pins s σ H x y v u Q I M O h;obtain⟨d,e,h1,h2,p1,p2,hn,q⟩:=h;exact(rc_D I h1 h2 p1 p2 hn M O L).1 X.prog X.w X.xe _ ⟨.bl _,H,I,rfl,q⟩
end
theorem QS {X:Cx}:yX X (.builtin "len") (fun xs H Q=>(∃z:Str,xs= [.str z]/\z.length<=sizeLine/\Q (.int z.length) H)∨∃p ys,xs= [.ref p]/\(SqL X.K H p ys∨SqT X.K H p ys)/\(ys.length<=sizeLine->Q (.int ys.length) H)):=by
 intro pins s σ H xs us Q I r h;rcases h with⟨z,e,L,q⟩|h
 ·exact xH pins s σ H xs us Q I r ⟨_,z.length,e,⟨L,rfl⟩,q⟩
 ·exact call_lenB pins s σ H xs us Q I r h
def gLstU (K:PySem.W.Frag)(n:Nat)(t:TGs):TG:=fun v σ H Q=>∃a xs,v= .ref a/\SqL K H a xs/\xs.length=n/\t xs σ H Q
theorem pg_lstU {X:Cx}{es:List Expr}{k:Nat}{t:TGs}{n:Nat}{pos:Pos}(O:X.calm=true)(h:PGs X es t)
  (hn:(assignEach es X.env).length=n:=by rfl) (L:(assignEach es X.env).findIdx? (·.1)=none:=by rfl):PG X (.Tuple es k pos) (gLstU X.K n t):=by
 intro pins s σ H v u Q I r M;obtain⟨a,xs,e1,R,U,M⟩:=M;subst e1;cases r;obtain⟨its,rv,Y,hz⟩:=I.list R;rw [assign_Tuple];refine wpAny_bind (wpAny_standAt ?_);unfold unpack;rw [L,hn,<-U,show xs.length=its.toArray.size by simp [rv.length]]
 refine wpAny_bind (wpAny_holding (PySem.W.kun_itemsOf (I.ok.hd O) Y.isList fun h' hx=> ?_));have I1:Inv X pins σ H {s with heap:=h'}:=I.kept (t':=s.toks) fun b o e=>hx b o (uK (uk e)) e
 exact h pins _ σ H xs _ Q I1 (by simpa using rv) M
theorem pass1 {P:Program}{w:World}{K:PySem.W.Frag}{mg:Str->Option Value}{base:Heap}{N:List Str}{qual:Str}{scope:Scope}{f:Addr}{cd:Value}{A:Around}{outer:List Env}{s₀:Shared}{H₀:Hp}{E:XK}:
  Jl (CX1 P w) (cxOf (CX1 P w) P w K mg base N qual scope f cd A outer s₀ H₀ E) E:=by
 intro pins σ H s e s' I h;obtain⟨ea,C,a0,H',B,rfl,am,aa,htk,ao,af,ag,hold,hE⟩:=h;show wpAny (model P w) (A.deeper (envOfC qual scope s₀.heap.objs.size f cd)) (leaving (envOfC qual scope s₀.heap.objs.size f cd) (.ref ea)) (fun _ ab=>CX1 P w outer H₀ s₀ E (.ref ea) ab) (fun e' ab=>CX1 P w outer H₀ s₀ E e' ab) _;have ap:(A.deeper (envOfC qual scope s₀.heap.objs.size f cd)).frames=some (envOfC qual scope s₀.heap.objs.size f cd::outer):=I.ok.frames;have ac:frs (envOfC qual scope s₀.heap.objs.size f cd::outer)=s₀.heap.objs.size::frs outer:=rfl;have M:Un (frs outer) [] H₀ H s₀.heap s.heap:=I.base;have O:Un (frs (envOfC qual scope s₀.heap.objs.size f cd::outer)) [] H H' s.heap s'.heap:=ao;have R:Heap.FlyingW B (envOfC qual scope s₀.heap.objs.size f cd::outer) ea (.ref C) a0 s'.heap:=ag;have U:∀b o,s.heap.get? b=some o->b∉frs (envOfC qual scope s₀.heap.objs.size f cd::outer)->∃o',B.get? b=some o':=hold;have aq:=R.2.2.1;have Y:∀b o,s₀.heap.get? b=some o->b∉frs outer->b∉frs (envOfC qual scope s₀.heap.objs.size f cd::outer):=fun b o e hb hm=>by
  rw [ac] at hm;rcases List.mem_cons.mp hm with rfl|hm
  ·exact absurd (uk e) (vC _)
  ·exact hb hm
 have nd:∀b∈frs outer,∀o,s'.heap.get? b=some o->∀vs,o.data≠ .fields vs:=fun b hb o e=>by
  obtain⟨_,o',e',hn⟩:=aq.mem (show b∈(envOfC qual scope s₀.heap.objs.size f cd::outer).filterMap (·.frame) from by rw [show(envOfC qual scope s₀.heap.objs.size f cd::outer).filterMap (·.frame)=frs (envOfC qual scope s₀.heap.objs.size f cd::outer) from rfl,ac];exact uh _ hb)
  rw [e] at e';cases e';exact hn
 refine wpAny_leaves_onW (base:=B) (L:=s₀.heap.objs.size) ap rfl R fun au ad ah=> ?_;have av:∀b o o',B.get? b=some o'->s'.heap.get? b=some o->au.get? b=some o:=fun b o o' e1 e2=>by
  have:=R.1 b o' e1;rw [e2] at this;cases this;exact ad.1 b o e1
 refine⟨ea,C,a0,H',B,rfl,am.trans I.os,aa,htk,⟨?_,?_,?_,?_,?_,?_,?_⟩,af,ad,?_,hE⟩
 ·intro b o e1 hn hb hx;have e2:=M.keep b o e1 hn hb hx;have ae:=M.free b o e1 hn hx;have ak:=Y b o e1 hb;have e3:=O.keep b o e2 ae ak hx;obtain⟨o',e4⟩:=U b o e2 ak;exact av b o o' e4 e3
 ·intro b o e1 hn hb hx;obtain⟨sl,e2⟩:=M.slot b o e1 hn hb hx;have ae:=M.free b o e1 hn hx;obtain⟨aw,e3⟩:=O.slot b _ e2 ae (by rw [ac];exact uh _ hb) hx
  obtain⟨al,e4⟩:=ah b _ e3 (nd b hb _ e3);exact⟨al,e4⟩
 ·intro b o e1 hn hx;obtain⟨o',e2⟩:=M.there b o e1 hx;exact O.free b o' e2 (M.free b o e1 hn hx) hx
 ·intro b o e1 hx;obtain⟨o',e2⟩:=M.there b o e1 hx;by_cases hb:b∈frs outer
  ·obtain⟨o2,e3⟩:=O.there b o' e2 hx;obtain⟨al,e4⟩:=ah b _ e3 (nd b hb _ e3);exact⟨_,e4⟩
  ·obtain⟨o2,e3⟩:=U b o' e2 (Y b o e1 hb);exact⟨o2,ad.1 b o2 e3⟩
 ·exact fun b xs e=>O.tups b xs (M.tups b xs e)
 ·exact fun b o u e=>O.frzs b o u (M.frzs b o u e)
 ·intro b ps e;obtain⟨m1,e1⟩:=M.tbls b ps e;obtain⟨m2,e2⟩:=O.tbls b _ e1;exact⟨m1++m2,by rw [<-Uy];exact e2⟩
 ·intro b o e1 hb;obtain⟨o',e2⟩:=M.there b o e1 (by simp)
  exact U b o' e2 (Y b o e1 hb)
theorem passF {X:Cx}:Jl (CX1 X.prog X.w) X E0:=fun _ _ _ _ _ _ _ h=>by
 obtain⟨_,_,_,_,_,_,_,_,_,_,_,_,_,z⟩:=h;exact False.elim z
end L2
namespace L2
open PySem PyProof.Rows
theorem Tk.updD {H:Hp}{p:Addr}{xs ys:List (Key×V)}(h:H p=some (.dK xs)):Tk H (upd H p (.dK ys)):=by
 refine⟨fun b zs e=> ?_,fun b zs e=>⟨zs,?_⟩,fun b zs e=> ?_⟩
 ·rw [qx (fun z=>by rw [z,h] at e;cases e)];exact e
 ·rw [qx (fun z=>by rw [z,h] at e;cases e)];exact e
 ·by_cases z:b=p
  ·exact⟨ys,by rw [z];exact qh⟩
  ·exact⟨zs,by rw [qx z];exact e⟩
theorem Tk.updI {H:Hp}{p C dx L I:Addr}{xs ys:List (Str×V)}(h:H p=some (.ins C dx xs)):Tk H (upd H p (.ins L I ys)):=
 ⟨fun b zs e=>by rw [qx (fun z=>by rw [z,h] at e;cases e)];exact e,fun b zs e=>⟨zs,by rw [qx (fun z=>by rw [z,h] at e;cases e)];exact e⟩,fun b zs e=>⟨zs,by rw [qx (fun z=>by rw [z,h] at e;cases e)];exact e⟩⟩
def okHd:D->Bool
 | .non=>true
 |d=>trD d
section
variable {X:Cx}
def rEqM:V->V->Hp->VK->Prop:=fun x y H Q=>∃(d:D) (z:Str),Is H d x/\y= .str z/\z.length<=1000/\okHd d=true/\dp d<=60/\Q (.bl (eqD d (.str z))) H
theorem op_eqM (R:X.A.units+64<cLine):OpR X (compareOp .Eq) rEqM:=by
 intro pins s σ H x y v u Q I L M h;obtain⟨d,z,hd,rfl,Y,O,U,q⟩:=h;cases d with
 |non=>
  cases(show x= .non from hd)
  exact Qg pins s σ H .non (.str z) v u Q I L M ⟨rfl,by simpa [eqD] using q⟩
 |str a=>exact op_eqD R pins s σ H x _ v u Q I L M ⟨_,.str z,hd,⟨rfl,by rw [uL];omega⟩,O,rfl,U,q⟩
 |tup a=>exact op_eqD R pins s σ H x _ v u Q I L M ⟨_,.str z,hd,⟨rfl,by rw [uL];omega⟩,O,rfl,U,q⟩
 |_=>simp [okHd,trD] at O
def rInM (K:PySem.W.Frag):V->V->Hp->VK->Prop:=fun x y H Q=>∃(d:D) (p:Addr) (ls:List Str),Is H d x/\y= .ref p/\(SqL K H p (ls.map V.str)∨SqT K H p (ls.map V.str))/\(∀z∈ls,z.length<=1000)/\okHd d=true/\dp d<=60/\Q (.bl (ls.any fun z=>eqD d (.str z))) H
theorem flat_ss (us:List Str):(us.map V.str).all xy=true:=by
 rw [vU,Ur];exact fun _ _=>rfl
theorem op_inM (hu:X.A.units+64<cLine):OpR X (compareOp .In) (rInM X.K):=by
 intro pins s σ H x y v u Q I rx ry h;obtain⟨d,p,L,hd,rfl,M,aa,hk,hp,q⟩:=h;cases d with
 |non=>
  cases(show x= .non from hd)
  refine Qr pins s σ H .non _ v u Q I rx ry ⟨p,_,rfl,M,rfl,flat_ss _,?_⟩;have e:inV .non (L.map V.str)=L.any fun z=>eqD .non (.str z):=by
   unfold inV;rw [List.any_map]
   rfl
  rw [if_neg u8,e];exact q
 |str a=>
  obtain⟨rfl,_⟩:=hd;refine Qr pins s σ H _ _ v u Q I rx ry ⟨p,_,rfl,M,rfl,flat_ss _,?_⟩;have e:inV (.str a) (L.map V.str)=L.any fun z=>eqD (.str a) (.str z):=by
   unfold inV;rw [List.any_map];refine congrArg (fun f=>L.any f) (funext fun z=> ?_);show(z==a)=(a==z);rw [vF,beq_iff_eq,beq_iff_eq];exact eq_comm
  rw [if_neg u8,e];exact q
 |tup xs=>
  have e:(L.any fun z=>eqD (.tup xs) (.str z))=false:=by
   rw [List.any_eq_false];intro z _;simp [eqD]
  rw [e] at q;obtain⟨Y,vs,rfl,ha,hl⟩:=hd;cases rx;cases ry;obtain⟨ab,ac,ad,_⟩:=I.tuple (.inl (.of ha));have ae:X.A.units<cLine:=by omega
  have O:∀{its:List Value},Vals (L.map V.str) its->∀w∈its,∀A:Around,A.units+1<cLine->SeqAt.EqAt A s w (.ref Y) false:=by
   intro its r w R A hA;obtain⟨j,hj⟩:=List.mem_iff_getElem?.mp R;have U:j<L.length:=by
    have:=(List.getElem?_eq_some_iff.mp hj).1;have:=r.length;rw [ub] at this;omega
   obtain⟨u',e1,e2⟩:=r.get (i:=j) (x:=V.str L[j]) (by rw [uM,ul U];rfl)
   rw [hj] at e1;cases e1;have:=eqAt_D I 1 (.str L[j]) (.tup xs) (.str L[j]) (.ref Y) _ (.ref Y) A (by simp [dp]) rfl (by simpa [okHd,trD,puD] using hk) ⟨rfl,by have:=aa _ (U7 U);rw [uL];omega⟩ ⟨Y,vs,rfl,ha,hl⟩ e2 rfl (by omega)
   simpa [eqD] using this
  rcases M with M|M
  ·obtain⟨its,r,pl,hz⟩:=I.list M;refine SeqAt.in_listAt (fun _=>false) pl.isList (fun w R=>O r w (by simpa using R) _ ?_) ⟨.bl _,H,I,rfl,?_⟩
   ·first|omega|(rw [uO];omega)|(rw [uO,uO];omega)|(rw [uO,uO,uO];omega)
   ·rw [show its.toArray.any (fun _=>false)=false by rw [List.any_toArray];exact List.any_eq_false.mpr fun _ _=>u8]
    exact q
  ·obtain⟨its,r,pl,hz⟩:=I.tuple M;refine SeqAt.in_tupleAt (fun _=>false) pl (fun w R=>O r w (by simpa using R) _ ?_) ⟨.bl _,H,I,rfl,?_⟩
   ·first|omega|(rw [uO];omega)|(rw [uO,uO];omega)|(rw [uO,uO,uO];omega)
   ·rw [show its.toArray.any (fun _=>false)=false by rw [List.any_toArray];exact List.any_eq_false.mpr fun _ _=>u8]
    exact q
 |_=>simp [okHd,trD] at hk
end
end L2
namespace L2
open PySem PySem.Spec PyProof.Rows Builtin Builtin.Str
def tCallX (P:Program)(w:World)(K:PySem.W.Frag)(mg:Str->Option Value)(base:Heap)(k:Nat)(tf:TE)(t:TA):TE:=fun σ H Q=>tf σ H fun v H1=>∃(f:Addr) (fd:FuncData) (ps:List Str) (sp:Sp),v= .ref f/\
 FnOk P w K mg base CX0 k f fd ps sp/\YX K fd ps []/\PySem.W.keepIn K (.ref f)=true/\t σ H1 fun vs H2=>sp vs H2 Q E0
theorem pe_callX {X:Cx}{o i e:Expr}{es:List Expr}{L pos:Pos}{O:TE}{t:TA}{k:Nat}{P:Program}{w:World}{K:PySem.W.Frag}{mg:Str->Option Value}{base:Heap}(e1:X.prog=P/\X.w=w/\X.K=K/\X.mg=mg/\X.base=base)(Y:PE X (.Subscript o i L) O)(hr:Room k X.A)(ha:PA X (e::es) t)
  (he:starEach (e::es) X.env=(false,eval e X.env)::starEach es X.env:=by rfl) (M:(backTo pos (starEach es X.env)).any (·.1)=false:=by rfl):
  PE X (.Call (.Subscript o i L) (e::es) [] pos) (tCallX P w K mg base k O t):=by
 obtain⟨rfl,rfl,rfl,rfl,rfl⟩:=e1;intro pins s σ H Q I h;show wpAny _ _ (do callWith pos (<-eval (.Subscript o i L) X.env) [] (backTo pos (starEach (e::es) X.env)) (backToKw pos (keywordEach [] X.env))) _ _ s
 refine wpAny_bind (thn (Y pins s σ H _ I h) fun u s1 ⟨v,H1,R,rv,f,fd,ps,sp,ev,F,hb,hk,q⟩=> ?_);subst ev;obtain rfl:u=Value.ref f:=rv;refine vT (h₀:=X.base) R.ok.mod.kin hk (thn (ha pos pins s1 σ H1 _ R q) fun us s2 ⟨vs,H2,U,r,q2⟩=>⟨U.kIn,?_⟩) he M;exact run_fn (ds:= []) (dvs:= []) F hr hb .nil qN U r (by rw [vG];exact q2)
theorem ZS (z y:Str)(hi I:Nat):∀(l:List Nat) (st:Array Nat×Nat),(forIn l st (StrLaws.occBody z y hi I)).run.fst.size<=st.fst.size+l.length
 | [],st=>ug _
 |a::l,st=>by
  rw [Ue];unfold StrLaws.occBody;split
  ·refine uP (ZS z y hi I l _) ?_;simp only [Array.size_push,ud];omega
  ·refine uP (ZS z y hi I l _) ?_;simp only [ud];omega
theorem occ_len (z y:Str)(n:Nat):(occurrences z y 0 z.length n).length<=z.length+1:=by
 rw [StrLaws.occ_eq];have:=ZS z y z.length n (List.range' 0 (z.length+1-0)) (#[],0);rw [v4];refine uP this ?_;simp
noncomputable def spG (z y:Str):List Str:=if(decide (z.length<y.length)||decide (Builtin.Str.strKind z<Builtin.Str.strKind y))=true then [z] else if(occurrences z y 0 z.length (z.length+1)).isEmpty=true then [z] else partsBetween z (occurrences z y 0 z.length (z.length+1)) y.length
theorem spG_len (z y:Str):(spG z y).length<=z.length+2:=by
 unfold spG;have h:=occ_len z y (z.length+1);split
 ·simp
 ·split
  ·simp
  ·simp only [partsBetween,ub,List.length_zip,ud,uf,v8];omega
theorem spG_mem {z y p:Str}(h:p∈spG z y):p.length<=z.length:=by
 unfold spG at h;split at h
 ·rw [vh] at h;subst h;exact ug _
 ·split at h
  ·rw [vh] at h;subst h;exact ug _
  ·simp only [partsBetween,List.mem_map] at h;obtain⟨q,_,e⟩:=h;rw [<-e];exact strSub_length_le _ _ _
section
variable {X:Cx}
def rSplitG:V->List V->Hp->VK->Prop:=fun x vs H Q=>∃z y,x= .str z/\vs= [.str y]/\0<y.length/\z.length<=1000/\∀p,H p=none->Q (.ref p) (upd H p (.lst ((spG z y).map V.str)))
theorem mt_splitG:MtM X "str.split" rSplitG:=by
 intro pins s σ H x vs v us Q I R rv h;obtain⟨z,y,rfl,rfl,Y,hz,q⟩:=h;obtain⟨t,rfl⟩:=R;obtain⟨u,rfl,t',rfl⟩:=rv.one;have O:z.length<=sizeLine:=by rw [uL];omega
 have L:(y.length==0)=false:=by simp;omega
 have one:spG z y= [z]->∀(T:Nat),0<T->EP X pins σ Q (.ref s.heap.objs.size) {s with heap:=s.heap.push {cls:= .type "list",data:= .seq [Value.str z t].toArray},toks:=T}:=fun e T hT=>by
  rw [e] at q;exact jl (ys:= [V.str z]) I (.cons (show RelV (V.str z) _ from⟨t,rfl⟩) .nil) (by show 1<=sizeLine;decide) q
 cases h1:(decide (z.length<y.length)||decide (Builtin.Str.strKind z<Builtin.Str.strKind y)) with
 |true=>
  refine vL vv (vK _ _ _) vo (vV _ _) (meets_str_split_cannot_occur z y t t' h1) ?_;exact one (by unfold spG;rw [if_pos h1]) s.toks I.tk
 |false=>
  cases M:(occurrences z y 0 z.length (z.length+1)).isEmpty with
  |true=>
   refine vL vv (vK _ _ _) vo (vV _ _) (meets_str_split_not_found z y t t' h1 L M) ?_;exact one (by unfold spG;rw [if_neg (by rw [h1];decide),if_pos M]) s.toks I.tk
  |false=>
   have U:=spG_len z y;have e:spG z y=partsBetween z (occurrences z y 0 z.length (z.length+1)) y.length:=by unfold spG;rw [if_neg (by rw [h1];decide),if_neg (by rw [M];decide)]
   rw [e] at q U;refine vL vv (vK _ _ _) vo (vV _ _) (meets_str_split_sep z y t t' h1 L M O (by rw [uL];omega)) ?_
   exact jl I (Jj _ _) (by rw [ub,uL];omega) q
def rJoinT (K:PySem.W.Frag):V->List V->Hp->VK->Prop:=fun x vs H Q=>∃(sep:Str) (p:Addr) (l:List Str),x= .str sep/\vs= [.ref p]/\SqT K H p (l.map V.str)/\(l.map (·.length)).sum+l.length*sep.length<=1000000/\Q (.str (Str.join sep l)) H
theorem mt_joinT:MtM X "str.join" (rJoinT X.K):=by
 intro pins s σ H x vs v us Q I R rv h;obtain⟨O,p,l,rfl,rfl,U,Y,q⟩:=h;obtain⟨t,rfl⟩:=R;obtain⟨u,rfl,ru⟩:=rv.one;cases ru;obtain⟨its,r,pl,hl⟩:=I.tuple U;obtain⟨ps,rfl,e2⟩:=XX r;have M:tooLong ((ps.map (·.1)).toArray.foldl (·+ ·.length+O.length) 0)=false:=by
  rw [e2];have:=StrLaws.joinTotal O l;rw [this];unfold tooLong;refine u9 ?_;rw [uL];omega
 refine vL F.slot_str_join (vK _ _ _) F.entry_str_join (F.args_str_join_2 _ _) (meets_str_join_tuple O t p ps M) ⟨(let⟨o,h1,h2,n,h3⟩:=pl;⟨o,n,h1,h2,h3⟩),?_⟩;have L:(glued O (ps.map (·.1))).length<=sizeLine:=joinFit_length M
 match ps,e2,L with
 | [],e2,L=>
  subst e2;exact⟨L,.str _,H,I.tok _,⟨_,rfl⟩,q⟩
 | [a],e2,_=>
  subst e2;exact⟨.str _,H,I,⟨a.2,rfl⟩,q⟩
 |a::b::r,e2,L=>
  subst e2;refine⟨L,.str _,H,I.tok _,⟨_,rfl⟩,?_⟩;rw [StrLaws.glued_eq_join];exact q
theorem sl_any:SlR X (fun x lo hi H Q=>rSlS x lo hi H Q∨rSlG X.K x lo hi H Q):=sl_str.or yc
end
end L2
namespace L2
open PySem PySem.Spec PyProof.Rows
open Builtin.Int (intBits)
theorem X9:∀(ns:List Int) (x:Int),x∈ns->PySem.W.WData.weight (.int x)<=PySem.W.WData.weightAll (ns.map PySem.W.WData.int)
 |n::ns,x,h=>by
  rw [uj];unfold PySem.W.WData.weightAll;rcases List.mem_cons.mp h with rfl|h
  ·omega
  ·have:=X9 ns x h;omega
theorem jX {ns:List Int}(h:PySem.W.WData.layableAll [PySem.W.WData.list (ns.map PySem.W.WData.int)]=true){x:Int}(I:x∈ns):intBits x<=1048576:=by
 have h1:PySem.W.WData.layable (PySem.W.WData.list (ns.map PySem.W.WData.int))=true:=by
  unfold PySem.W.WData.layableAll at h
  simpa using h
 unfold PySem.W.WData.layable at h1;rw [ui] at h1;have h2:PySem.W.WData.weight (PySem.W.WData.list (ns.map PySem.W.WData.int))<=2^20:=ua h1.2;unfold PySem.W.WData.weight at h2;have L:=X9 ns x I;unfold PySem.W.WData.weight at L;have h4:intBits x=if(x==0)=true then 0 else x.natAbs.log2+1:=by
  unfold intBits;simp
 rw [h4];omega
end L2
namespace Att
open PySem PySem.W PySem.Calls PyProof.Rows
open Builtin.Int (intBits)
open L2 (jX)
theorem attach_callB {l:OpenLaw}{n:Nat}{q:Program}{I:List Str}{XP:(Str->Option Value)->Heap->Prop}{YP:World->Heap->Prop}{d:DefRec}
  (hn:l.most=some n) (aa:d.params.defaults= [])
  (call:∀(w:World) (s₀ L:Shared) (mg mb:Str->Option Value) (O:Addr) (o:Obj) (pm cd doc:Value) (a:Addr) (vs:List Value) (ns:List Int),
   Ground q I [] XP w s₀ mg mb L.heap->YP w L.heap->
   L.heap.get? O=some o->o.data= .func (docDef d.name d.params d.body d.scope pm cd doc)->L.heap.CodeRec cd d.name->mg d.name=some (.ref O)->
   L.heap.get? a=some {cls:= .type "list",data:= .seq vs.toArray}->IntsAre vs ns->ns.length<=n->(∀x∈ns,intBits x<=1048576)->L.gens= #[]->
   codeAny (model l.prog w) callerA (.call (.ref O) ⟨[.ref a],[]⟩) (fun r s'=>r= .ok (.ret (.bool true))/\OldK L.heap s'.heap/\s'.os=L.os/\AllBare s'.gens) L):
  WalkO q I XP YP l.row.toRowW d [] (fun f vs=>PySem.call f vs):=by
 intro w s₀ L mg mb G Y O o pm cd doc dV kV ho hd ab hD ac hg args ad as hpre hlay hrd hwl hlo;obtain rfl:dV= .none:=Dflts.none hD aa;obtain rfl:kV= .none:=Dflts.noKw hD;obtain⟨a,vs,ns,rfl,rfl,R,M,U⟩:=script_of hn hpre hwl;refine enter_call (Ud (call w s₀ L mg mb O o pm cd doc a vs ns G Y ho (fd_plain hd) ab ac R M U (fun x hx=>jX hlay hx) hg) fun r s' hq=> ?_);obtain⟨rfl,h2,h3,h4⟩:=hq;exact⟨.inl ⟨.bool true,.bool true,[],rfl,fun _=>rfl,.bool true,post_true l _,fun _=>⟨List.Pairwise.nil,fun _ hm=>(nomatch hm)⟩⟩,h2,h3,h4⟩
end Att
namespace L2
open PySem PySem.Spec PyProof.Rows
open Builtin.Int (intBits)
theorem walk_ofB {l:PySem.W.OpenLaw}{n k:Nat}{q:Program}{L:List Str}{XP:(Str->Option Value)->Heap->Prop}{YP:World->Heap->Prop}{d:DefRec}{K:Params->PySem.W.Frag}{CX:CXT}{sp:PySem.W.Frag->Sp}{x:Str}
  (hn:l.most=some n) (aa:n<=sizeLine) (ab:d.params.defaults= []) (hr:Room k callerA)
  (hY:∀(w:World) (h:Heap),YP w h->(K w.params).In h)
  (F:∀(w:World) (mg:Str->Option Value) (fa:Addr) (h:Heap),(K w.params).In h->h.Ns mainGlobals mg->mg d.name=some (.ref fa)->
   ∃fd:FuncData,(∀(s:Shared) (u:Value),BindsTo s fd ⟨[u],[]⟩ [(x,u)])/\fd.scope.names.lookup x=some .local/\
    ∀base:Heap,(K w.params).In base->base.Ns mainGlobals mg->FnOk l.prog w (K w.params) mg base CX k fa fd [x] (sp (K w.params)))
  (ac:∀(w:World) (H:Hp) (a:Addr) (ns:List Int),ns.length<=n->(∀x∈ns,intBits x<=1048576)->Only H->SqL (K w.params) H a (ns.map V.int)->sp (K w.params) [.ref a] H (fun v _=>v= .bl true) fun _ _ _=>False)
  (ad:∀(H:Hp) (s:Shared) (e:Value) (s':Shared),CX [] H s (fun _ _ _=>False) e s'->False):
  PySem.W.WalkO q L XP YP l.row.toRowW d [] (fun f vs=>PySem.call f vs):=by
 refine Att.attach_callB hn ab fun w s₀ s₁ mg mb fa o pm cd doc a vs ns G Y ho hd af ae O M I R hg=> ?_;have KX:=hY w _ Y;obtain⟨fd,hb,U,hF⟩:=F w mg fa _ KX G.T.g ae;exact law_call KX G.T.g G.T.b G.T.builtins G.T.nolimit hg O M (uP I aa) hr hF hb U (fun H hO hS=>ac w H a ns I R hO hS) fun H e s'=>ad H s₁ e s'
section
variable {X:Cx}
def rInK (K:PySem.W.Frag)(w:World):R2:=fun x y H Q=>∃z a r,x= .str z/\y= .ref a/\KDict K w a/\PySem.W.nsIn K a z=some r/\Q (.bl r.isSome) H
theorem op_inK:OpR X (compareOp .In) (rInK X.K X.w):=by
 intro pins s σ H x y v u Q I M O h;obtain⟨z,a,r,rfl,rfl,⟨R,es,n,L,U⟩,hn,q⟩:=h;obtain⟨t,rfl⟩:=M;cases O;have hm:=PySem.W.mapOf_K (prog:=X.prog) (w:=X.w) I.kIn L U;refine wpAny_in_of (strKind_is X.prog X.w z t) R hm ⟨.bl r.isSome,H,I.tok _,?_,q⟩;rw [PySem.W.find_K L hn]
 rfl
end
end L2
namespace L2
open PySem PySem.Spec PyProof.Rows
section
variable {X:Cx}
theorem op_le_str:OpR X (compareOp .LtE) (fun x y H Q=>∃i j,x= .str i/\y= .str j/\Q (.bl (!decide (j.cps.toList<i.cps.toList))) H):=by
 intro pins s σ H x y v u Q I L M h;obtain⟨i,j,rfl,rfl,q⟩:=h;obtain⟨t,rfl⟩:=L;obtain⟨t',rfl⟩:=M;exact PySem.P.le_str (Qc I q rfl)
theorem call_maxL (U:X.calm=true):yX X (.builtin "max") (fun xs H Q=>∃(p:Addr) (ns:List Int),xs= [.ref p]/\SqL X.K H p (ns.map V.int)/\ns≠ []/\∀M,M∈ns->(∀x∈ns,x<=M)->Q (.int M) H):=by
 intro pins s σ H xs us Q I r h;obtain⟨p,ns,rfl,Y,L,q⟩:=h;obtain⟨u,rfl,ru⟩:=Jd r;cases ru;obtain⟨its,rv,pl,hz⟩:=I.list Y;have hi:IntsAre its ns:=zB rv;obtain⟨ys,R⟩:=hi.allInts.items;have O:s.heap.IsList p (intItems ys):=R▸pl.isList;have e1:ns=ys.toList.map (·.1):=by
  have q1:=hi.numsOf;rw [<-nums_intItems,<-R];exact(show numsOf its.toArray.toList=ns from q1).symm
 have hsz:0<ys.size:=by
  rcases vW ys.size with h|h
  ·exact absurd (by rw [e1,uG (l:=ys.toList) (by simpa using h)];rfl) L
  ·exact h
 refine uR (n:=1) I.tk (max_intList (I.ok.hd U) O hsz fun v h' tk hv hk=> ?_);intro htk;obtain⟨t,rfl⟩:=intItems_at hv;obtain⟨h1,h2⟩:=argBest_gt (numAt ys) (ys.size-1);refine⟨.int _,H,I.kept hk,⟨t,rfl⟩,q _ ?_ fun a ha=> ?_⟩
 ·rw [e1,numAt_eq];exact getD_mem (by rw [ub,v4];omega)
 ·rw [e1] at ha;obtain⟨j,hj,rfl⟩:=mem_getD ha;rw [ub,v4] at hj;rw [<-numAt_eq];exact h2 j (by omega)
end
mutual
def nD:D->Bool
 | .non=>true
 | .str _=>true
 | .int _=>true
 | .tup xs=>nL xs
 |_=>false
def nL:List D->Bool
 | []=>true
 |x::r=>nD x&&nL r
end
theorem nL_get:∀{xs:List D}{j:Nat}{x:D},nL xs=true->xs[j]? =some x->nD x=true
 | [],_,_,_,e=>by simp at e
 |y::r,0,x,h,e=>by
  have h':nD y=true/\nL r=true:=by simpa [nL] using h
  have:y=x:=by simpa using e
  exact this▸h'.1
 |y::r,j+1,x,h,e=>by
  have h':nD y=true/\nL r=true:=by simpa [nL] using h
  exact nL_get h'.2 (by simpa using e)
end L2
namespace AwZ
open PySem PySem.Spec PyProof.Rows
theorem tc_enum0 (a:Value):checkTypeCall "enumerate" ⟨[a],[]⟩=pure Unit.unit:=by kernel_rfl
theorem nc_enum0 (a:Value):checkBuiltinCall "enumerate.__new__" ⟨[.type "enumerate",a],[]⟩=pure Unit.unit:=by kernel_rfl
theorem enum0_made (l:Addr)(its:Array Value):Meets (Builtin.«enumerate.__new__» ⟨[.type "enumerate",.ref l],[]⟩) (fun _ R s=>s.heap.IsTuple l its/\
   R (.ok (.ret (.ref (q1 s.heap l).objs.size))) {s with heap:=(q1 s.heap l).push {cls:= .type "enumerate",data:= .fields #[.none,.bool false,.ref s.heap.objs.size,rawInt 0,.none,.none]}}):=
 .of_wp fun prog w A R s h=>by
  obtain⟨I,g,d,tk,os⟩:=s;obtain⟨L,h⟩:=h;have sub:=sub_enumerate;have h1:Heap.IsTuple (Shared.heap ⟨I,g,d,tk,os⟩) l its:=L
  wp_walk
  refine wpAny_stack_any fun st=>uc ?_;split
  ·rename_i c _ _ _ _ _
   cases(c==Value.type "enumerate")
   ·wp_walk using vS h1
    exact⟨_,rfl,h⟩
   ·wp_walk using vS h1
    exact⟨_,rfl,h⟩
  ·wp_walk using vS h1
   exact⟨_,rfl,h⟩
end AwZ
namespace L2
open PySem PySem.Spec PyProof.Rows
section
variable {X:Cx}{pins:List (Addr×Obj)}{σ:St}{H:Hp}{s:Shared}
def iEn0 (K:PySem.W.Frag)(te:TE):TI:=fun σ H R=>te σ H fun x H2=>∃a xs,x= .ref a/\SqT K H2 a xs/\(xs.length<=sizeLine->R (Ite K a 0) H2)
theorem pi_enum0 {M:List Expr}{c:Nat}{tp p pos:Pos}{e:Expr}{te:TE}(hg:Gl X "enumerate")(hm:X.mg "enumerate"=none)(he:PE X e te)(hs:starEach [e] X.env= [(false,eval e X.env)]:=by rfl):
  PI X (.Tuple M c tp) (.Call (.Name "enumerate" p) [e] [] pos) (iEn0 X.K te):=by
 intro pins s σ H R I h;have ha:PA X [e] (tCons te tNil):=qa he qc hs;refine Call_ (Xg I hg hm boot_enumerate (vp (thn (ha pos pins s σ H (fun vs H2=>match vs with| [x]=>∃a xs,x= .ref a/\SqT X.K H2 a xs/\(xs.length<=sizeLine->R (Ite X.K a 0) H2)|_=>False) I h) fun us s2 ⟨vs,H2,U,Y,q1⟩=> ?_) (by rw [hs];rfl) ()))
 match vs,Y,q1 with
 | [x],Y,q1=>
 obtain⟨a,xs,rfl,hA,q⟩:=q1;obtain⟨u,rfl,ru⟩:=Jd Y;cases ru;obtain⟨its,ra,pa,za⟩:=U.tuple hA;refine AwZ.new_kw (kw:= []) F.called_enumerate (by decide) (AwZ.tc_enum0 _) (AwZ.nc_enum0 _) (fun obj=>F.args_object_init_2 _ _) F.entry_enumerate_new (AwZ.enum0_made a its.toArray) ⟨show s2.heap.IsTuple a its.toArray from pa,?_⟩
 have hz:(AwZ.q1 s2.heap a).objs.size=s2.heap.objs.size+1:=vd ..;have L:IsEnum ((AwZ.q1 s2.heap a).push {cls:= .type "enumerate",data:= .fields #[.none,.bool false,.ref s2.heap.objs.size,rawInt 0,.none,.none]}) (AwZ.q1 s2.heap a).objs.size s2.heap.objs.size 0 .none:=uw _ rfl;refine⟨⟨_,L,rfl⟩,?_⟩;refine wpAny_pyIter_enum (s:={s2 with heap:=_}) L ?_
 refine⟨_,[(AwZ.q1 s2.heap a).objs.size,s2.heap.objs.size],_,_,H2,rfl,U.kept (t':=s2.toks) (fun b o e=>u3 _ (u3 _ e)),turn_enum a _ _ 0,⟨⟨.none,L⟩,⟨_,u3 _ (uw _ rfl),rfl,rfl⟩,fun e=>U3 (Nat.lt_succ_self _) (hz.symm.trans e)⟩,fun x hx=> ?_,q za⟩;have O:s2.heap.objs.size<=x:=by
  simp only [uB,uD,vb] at hx;exact two_le hz hx
 exact U.fpOk O (U.hok.fresh O)
mutual
def eqN:D->D->Bool
 | .non,.non=>true
 | .str a,.str b=>a==b
 | .int a,.int b=>a==b
 | .tup xs,.tup ys=>eqNL xs ys
 |_,_=>false
def eqNL:List D->List D->Bool
 | [],[]=>true
 |x::r,y::q=>eqN x y&&eqNL r q
 |_,_=>false
end
mutual
theorem Zk:∀{d e:D},nD d=true->(eqN d e=true↔d=e)
 | .non,e,_=>by cases e<;>simp [eqN]
 | .str a,e,_=>by cases e<;>simp [eqN]
 | .int a,e,_=>by cases e<;>simp [eqN]
 | .tup xs,.tup ys,h=>by
  have:=eqNL_iff (xs:=xs) (ys:=ys) (by simpa [nD] using h)
  simp only [eqN,this,D.tup.injEq]
 | .tup xs,.non,_=>by simp [eqN]
 | .tup xs,.bl _,_=>by simp [eqN]
 | .tup xs,.int _,_=>by simp [eqN]
 | .tup xs,.str _,_=>by simp [eqN]
 | .tup xs,.lst,_=>by simp [eqN]
 | .tup xs,.dct,_=>by simp [eqN]
 | .bl _,_,h=>by simp [nD] at h
 | .lst,_,h=>by simp [nD] at h
 | .dct,_,h=>by simp [nD] at h
theorem eqNL_iff:∀{xs ys:List D},nL xs=true->(eqNL xs ys=true↔xs=ys)
 | [],[],_=>by simp [eqNL]
 | [],_::_,_=>by simp [eqNL]
 |_::_,[],_=>by simp [eqNL]
 |x::r,y::q,h=>by
  have h':nD x=true/\nL r=true:=by simpa [nL] using h
  simp only [eqNL,ui,Zk h'.1,eqNL_iff h'.2,List.cons.injEq]
end
mutual
theorem Is.detN {H:Hp}:∀{d e:D}{v:V},nD d=true->nD e=true->Is H d v->Is H e v->d=e
 | .non,e,v,_,he,h1,h2=>by
  cases(show v= .non from h1)
  cases e with
  |non=>rfl
  |str b=>obtain⟨q,_⟩:=(show V.non=V.str b/\_ from h2);cases q
  |int b=>cases(show V.non=V.int b from h2)
  |tup ys=>obtain⟨p,us,q,_⟩:=(show∃p us,V.non=V.ref p/\_ from h2);cases q
  |_=>simp [nD] at he
 | .str a,e,v,_,he,h1,h2=>by
  obtain⟨rfl,_⟩:=(show v= .str a/\_ from h1)
  cases e with
  |non=>cases(show V.str a=V.non from h2)
  |str b=>obtain⟨q,_⟩:=(show V.str a=V.str b/\_ from h2);cases q;rfl
  |int b=>cases(show V.str a=V.int b from h2)
  |tup ys=>obtain⟨p,us,q,_⟩:=(show∃p us,V.str a=V.ref p/\_ from h2);cases q
  |_=>simp [nD] at he
 | .int a,e,v,_,he,h1,h2=>by
  cases(show v= .int a from h1)
  cases e with
  |non=>cases(show V.int a=V.non from h2)
  |str b=>obtain⟨q,_⟩:=(show V.int a=V.str b/\_ from h2);cases q
  |int b=>cases(show V.int a=V.int b from h2);rfl
  |tup ys=>obtain⟨p,us,q,_⟩:=(show∃p us,V.int a=V.ref p/\_ from h2);cases q
  |_=>simp [nD] at he
 | .tup xs,e,v,hd,he,h1,h2=>by
  obtain⟨p,vs,rfl,O,R⟩:=(show∃p vs,v=V.ref p/\H p=some (.tup vs)/\IsL H xs vs from h1)
  cases e with
  |non=>cases(show V.ref p=V.non from h2)
  |str b=>obtain⟨q,_⟩:=(show V.ref p=V.str b/\_ from h2);cases q
  |int b=>cases(show V.ref p=V.int b from h2)
  |tup ys=>
   obtain⟨L,us,q,I,M⟩:=(show∃L us,V.ref p=V.ref L/\H L=some (.tup us)/\IsL H ys us from h2)
   cases q;rw [O] at I;cases I;rw [IsL.detN (by simpa [nD] using hd) (by simpa [nD] using he) R M]
  |_=>simp [nD] at he
 | .bl _,_,_,hd,_,_,_=>by simp [nD] at hd
 | .lst,_,_,hd,_,_,_=>by simp [nD] at hd
 | .dct,_,_,hd,_,_,_=>by simp [nD] at hd
theorem IsL.detN {H:Hp}:∀{xs ys:List D}{vs:List V},nL xs=true->nL ys=true->IsL H xs vs->IsL H ys vs->xs=ys
 | [],[],_,_,_,_,_=>rfl
 | [],_::_,_,_,_,h1,h2=>by
  cases(show _= [] from h1)
  obtain⟨v,r,q,_⟩:=(show∃v r,[]=v::r/\_ from h2)
  cases q
 |_::_,[],_,_,_,h1,h2=>by
  cases(show _= [] from h2)
  obtain⟨v,r,q,_⟩:=(show∃v r,[]=v::r/\_ from h1)
  cases q
 |x::xs,y::ys,_,hd,he,h1,h2=>by
  obtain⟨v,r,rfl,M,O⟩:=h1;obtain⟨R,U,q,b1,b2⟩:=h2;cases q;have I:nD x=true/\nL xs=true:=by simpa [nL] using hd
  have L:nD y=true/\nL ys=true:=by simpa [nL] using he
  rw [Is.detN I.1 L.1 M b1,IsL.detN I.2 L.2 O b2]
end
theorem ZO:∀(xs ys:List D),eqNL xs ys=((List.range (min xs.length ys.length)).all (fun j=>eqN (xs.getD j .non) (ys.getD j .non))&&xs.length==ys.length)
 | [],[]=>by simp [eqNL]
 | [],_::_=>by simp [eqNL]
 |_::_,[]=>by simp [eqNL]
 |x::r,y::q=>by
  have I:=ZO r q;rw [ud,ud,show min (r.length+1) (q.length+1)=min r.length q.length+1 by omega,List.range_succ_eq_map,vm,vU]
  have e:(List.range (min r.length q.length)).all ((fun j=>eqN ((x::r).getD j .non) ((y::q).getD j .non))∘Nat.succ)=(List.range (min r.length q.length)).all fun j=>eqN (r.getD j .non) (q.getD j .non):=by congr 1
  rw [e];have e2:(r.length+1==q.length+1)=(r.length==q.length):=by rw [vF];simp
  rw [e2,Bool.and_assoc,<-I]
  rfl
theorem eqAt_nonN (I:Inv X pins σ H s){e:D}{u:V}{b:Value}{A:Around}(M:nD e=true)(h2:Is H e u)(L:RelV u b)(O:A.units<cLine):SeqAt.EqAt A s .none b (eqN .non e):=by
 cases e with
 |non=>
  cases(show u= .non from h2)
  cases L;exact SeqAt.EqAt.same _
 |str y=>
  obtain⟨rfl,_⟩:=(show u= .str y/\_ from h2)
  obtain⟨R,rfl⟩:=L;exact SeqAt.EqAt.none_str _ _
 |int y=>
  cases(show u= .int y from h2)
  obtain⟨R,rfl⟩:=L;exact SeqAt.EqAt.none_int _ _
 |tup ys=>
  obtain⟨p,us,rfl,U,Y⟩:=(show∃p us,u=V.ref p/\H p=some (.tup us)/\IsL H ys us from h2)
  cases L;obtain⟨its,_,q,_⟩:=I.tuple (.inl (.of U));exact SeqAt.EqAt.none_tuple q O
 |_=>simp [nD] at M
theorem eqAt_strN (I:Inv X pins σ H s){z:Str}{t:Tok}{e:D}{u:V}{b:Value}{A:Around}(M:nD e=true)(h2:Is H e u)(L:RelV u b)(O:A.units<cLine):SeqAt.EqAt A s (.str z t) b (eqN (.str z) e):=by
 cases e with
 |non=>
  cases(show u= .non from h2)
  cases L;exact SeqAt.EqAt.str_none _ _
 |str y=>
  obtain⟨rfl,_⟩:=(show u= .str y/\_ from h2)
  obtain⟨R,rfl⟩:=L;exact SeqAt.EqAt.str_str _ _ _ _
 |int y=>
  cases(show u= .int y from h2)
  obtain⟨R,rfl⟩:=L;exact Ux _ _ _ _
 |tup ys=>
  obtain⟨p,us,rfl,U,Y⟩:=(show∃p us,u=V.ref p/\H p=some (.tup us)/\IsL H ys us from h2)
  cases L;obtain⟨its,_,q,_⟩:=I.tuple (.inl (.of U));exact SeqAt.EqAt.str_tuple _ _ q O
 |_=>simp [nD] at M
theorem eqAt_intN (I:Inv X pins σ H s){z:Int}{t:Tok}{e:D}{u:V}{b:Value}{A:Around}(M:nD e=true)(h2:Is H e u)(L:RelV u b)(O:A.units<cLine):SeqAt.EqAt A s (.int z t) b (eqN (.int z) e):=by
 cases e with
 |non=>
  cases(show u= .non from h2)
  cases L;exact SeqAt.EqAt.int_none _ _
 |str y=>
  obtain⟨rfl,_⟩:=(show u= .str y/\_ from h2)
  obtain⟨R,rfl⟩:=L;exact Uw _ _ _ _
 |int y=>
  cases(show u= .int y from h2)
  obtain⟨R,rfl⟩:=L;exact SeqAt.EqAt.int_int _ _ _ _
 |tup ys=>
  obtain⟨p,us,rfl,U,Y⟩:=(show∃p us,u=V.ref p/\H p=some (.tup us)/\IsL H ys us from h2)
  cases L;obtain⟨its,_,q,_⟩:=I.tuple (.inl (.of U));exact SeqAt.EqAt.int_tuple _ _ q O
 |_=>simp [nD] at M
theorem parts_N {xs ys:List D}{vs us:List V}{its its':List Value}{A:Around}(hd:nL xs=true)(he:nL ys=true)(R:IsL H xs vs)(I:IsL H ys us)(rv:Vals vs its)(L:Vals us its')
  (ih:∀x∈xs,∀(e:D) (v u:V) (a b:Value),nD x=true->nD e=true->Is H x v->Is H e u->RelV v a->RelV u b->SeqAt.EqAt A s a b (eqN x e)):
  ∀j (U:j<its.toArray.size) (Y:j<its'.toArray.size),SeqAt.EqAt A s its.toArray[j] its'.toArray[j] (eqN (xs.getD j .non) (ys.getD j .non)):=fun j U Y=>by
 have l1:its.length=xs.length:=by rw [<-rv.length,R.length]
 have l2:its'.length=ys.length:=by rw [<-L.length,I.length]
 have M:j<xs.length:=by rw [<-l1];simpa using U
 have O:j<ys.length:=by rw [<-l2];simpa using Y
 obtain⟨v1,e1,i1⟩:=R.get (i:=j) (d:=xs[j]) (by simp [M])
 obtain⟨v2,e2,i2⟩:=I.get (i:=j) (d:=ys[j]) (by simp [O])
 obtain⟨b1,f1,g1⟩:=rv.get e1;obtain⟨b2,f2,g2⟩:=L.get e2;have k1:its.toArray[j]=b1:=by
  have:=f1;rw [ul (by rw [l1];exact M)] at this
  simpa using this
 have k2:its'.toArray[j]=b2:=by
  have:=f2;rw [ul (by rw [l2];exact O)] at this
  simpa using this
 have d1:xs.getD j .non=xs[j]:=by simp [List.getD,M]
 have d2:ys.getD j .non=ys[j]:=by simp [List.getD,O]
 rw [k1,k2,d1,d2];exact ih _ (U7 M) _ _ _ _ _ (nL_get (j:=j) hd (by simp [M])) (nL_get (j:=j) he (by simp [O])) i1 i2 g1 g2
theorem eqAt_tupN (I:Inv X pins σ H s){xs:List D}{e:D}{v u:V}{a b:Value}{A:Around}(hd:nD (.tup xs)=true)(U:nD e=true)(h1:Is H (.tup xs) v)(h2:Is H e u)(r1:RelV v a)(L:RelV u b)(R:A.units<cLine)
  (ih:∀x∈xs,∀(e:D) (v u:V) (a b:Value),nD x=true->nD e=true->Is H x v->Is H e u->RelV v a->RelV u b->SeqAt.EqAt A.in1 s a b (eqN x e)):SeqAt.EqAt A s a b (eqN (.tup xs) e):=by
 obtain⟨p,vs,rfl,hp,hl⟩:=(show∃p vs,v=V.ref p/\H p=some (.tup vs)/\IsL H xs vs from h1)
 cases r1;obtain⟨its,rv,q,_⟩:=I.tuple (.inl (.of hp));cases e with
 |non=>
  cases(show u= .non from h2)
  cases L;exact SeqAt.EqAt.tuple_none q R
 |str y=>
  obtain⟨rfl,_⟩:=(show u= .str y/\_ from h2)
  obtain⟨t2,rfl⟩:=L;exact SeqAt.EqAt.tuple_str _ _ q R
 |int y=>
  cases(show u= .int y from h2)
  obtain⟨t2,rfl⟩:=L;exact SeqAt.EqAt.tuple_int _ _ q R
 |tup ys=>
  by_cases Y:V.ref p=u
  ·have:=Is.detN (e:= .tup ys) hd U h1 (Y▸h2);subst Y;cases L;rw [<-this,(Zk hd).mpr rfl];exact SeqAt.EqAt.same _
  ·obtain⟨p',us,rfl,aa,M⟩:=(show∃p' us,u=V.ref p'/\H p'=some (.tup us)/\IsL H ys us from h2)
   cases L;obtain⟨its',O,q',_⟩:=I.tuple (.inl (.of aa));have l1:its.length=xs.length:=by rw [<-rv.length,hl.length]
   have l2:its'.length=ys.length:=by rw [<-O.length,M.length]
   have ab:=UF (e:=fun j=>eqN (xs.getD j .non) (ys.getD j .non)) q q' R (parts_N (by simpa [nD] using hd) (by simpa [nD] using U) hl M rv O ih)
   have e1:eqN (.tup xs) (.tup ys)=((List.range (min its.toArray.size its'.toArray.size)).all (fun j=>eqN (xs.getD j .non) (ys.getD j .non))&&its.toArray.size==its'.toArray.size):=by
    rw [ue,ue,l1,l2,<-ZO];simp only [eqN]
   rw [e1];exact SeqAt.EqAt.of_refs (fun z=>Y (by rw [z])) ab
 |_=>simp [nD] at U
theorem eqAt_N (I:Inv X pins σ H s):∀(n:Nat) (d e:D) (v u:V) (a b:Value) (A:Around),dp d<=n->nD d=true->nD e=true->Is H d v->Is H e u->RelV v a->RelV u b->A.units+n<cLine->SeqAt.EqAt A s a b (eqN d e):=by
 intro n
 induction n with
 |zero=>
  intro d e v u a b A hn hd M h1 h2 O R U;cases d with
  |non=>
   cases(show v= .non from h1)
   cases O;exact eqAt_nonN I M h2 R U
  |int z=>
   cases(show v= .int z from h1)
   obtain⟨t,rfl⟩:=O;exact eqAt_intN I M h2 R U
  |str z=>simp [dp] at hn
  |tup xs=>simp [dp] at hn
  |_=>simp [nD] at hd
 |succ n Y=>
  intro d e v u a b A hn hd M h1 h2 O R U;have L:A.units<cLine:=UA (Nat.le_add_right _ _) U;cases d with
  |non=>
   cases(show v= .non from h1)
   cases O;exact eqAt_nonN I M h2 R L
  |int z=>
   cases(show v= .int z from h1)
   obtain⟨t,rfl⟩:=O;exact eqAt_intN I M h2 R L
  |str z=>
   obtain⟨rfl,_⟩:=(show v= .str z/\_ from h1)
   obtain⟨t,rfl⟩:=O;exact eqAt_strN I M h2 R L
  |tup xs=>
   have hm:dpL xs<=n:=by
    have:dp (.tup xs)=1+dpL xs:=by simp only [dp]
    omega
   exact eqAt_tupN I hd M h1 h2 O R L fun x hx e v u a b k1 k2 k3 k4 k5 k6=>Y x e v u a b A.in1 ((jv xs).mp hm x hx) k1 k2 k3 k4 k5 k6 (by rw [uO];omega)
  |_=>simp [nD] at hd
def rCmpN (g:Bool->Bool):R2:=fun x y H Q=>∃ds es:List D,Is H (.tup ds) x/\Is H (.tup es) y/\nL ds=true/\nL es=true/\dpL ds<=60/\Q (.bl (g (eqNL ds es))) H
theorem rc_N (I:Inv X pins σ H s){ds es:List D}{x y:V}{v u:Value}(h1:Is H (.tup ds) x)(h2:Is H (.tup es) y)(hn:nL ds=true)(O:nL es=true)(hd:dpL ds<=60)(rx:RelV x v)(ry:RelV y u)(hu:X.A.units+64<cLine):
  SeqAt.RcAt X.A s v u (eqNL ds es)/\SeqAt.RcNeAt X.A s v u (!eqNL ds es):=by
 obtain⟨p,vs,rfl,hp,U⟩:=(show∃p vs,x=V.ref p/\H p=some (.tup vs)/\IsL H ds vs from h1)
 obtain⟨p',us,rfl,R,L⟩:=(show∃p vs,y=V.ref p/\H p=some (.tup vs)/\IsL H es vs from h2)
 cases rx;cases ry;obtain⟨its,rv,q,_⟩:=I.tuple (.inl (.of hp));obtain⟨its',M,Y,_⟩:=I.tuple (.inl (.of R));have l1:its.length=ds.length:=by rw [<-rv.length,U.length]
 have l2:its'.length=es.length:=by rw [<-M.length,L.length]
 have pe:=parts_N (A:=X.A.in1) hn O U L rv M fun x hx e v u a b k1 k2 k3 k4 k5 k6=>eqAt_N I 60 x e v u a b X.A.in1 ((jv ds).mp hd x hx) k1 k2 k3 k4 k5 k6 (by rw [uO];omega)
 have e1:=UF (e:=fun j=>eqN (ds.getD j .non) (es.getD j .non)) q Y (by omega) pe
 have e2:=SeqAt.RcNeAt.tuples (e:=fun j=>eqN (ds.getD j .non) (es.getD j .non)) q Y (by omega) pe
 rw [ue,ue,l1,l2,<-ZO] at e1 e2;exact⟨e1,e2⟩
theorem op_eqN (M:X.A.units+64<cLine):OpR X (compareOp .Eq) (rCmpN id):=by
 intro pins s σ H x y v u Q I O R h;obtain⟨ds,es,h1,h2,hn,L,hd,q⟩:=h;exact(rc_N I h1 h2 hn L hd O R M).1 X.prog X.w X.xe _ ⟨.bl _,H,I,rfl,q⟩
theorem op_neTN (M:X.A.units+64<cLine):OpR X (compareOp .NotEq) (rCmpN not):=by
 intro pins s σ H x y v u Q I O R h;obtain⟨ds,es,h1,h2,hn,L,hd,q⟩:=h;exact(rc_N I h1 h2 hn L hd O R M).2 X.prog X.w X.xe _ ⟨.bl _,H,I,rfl,q⟩
end
end L2
namespace L2
open PySem PyProof.Rows
section
variable {X:Cx}{pins:List (Addr×Obj)}{σ:St}{H:Hp}{s:Shared}
theorem meth_cat {pl:Sem Bool}{k:Nat}{C f:Addr}{fd:FuncData}{ps:List Str}{sp:Sp}{m:Str}{o:Expr}{apos pos:Pos}{e:Expr}{es:List Expr}{ta:TE}{t:TA}{Q:VK}{E:XK}(he:PE X.nox o ta)(c:Cls X.K C)(hm:Meth X.K C m f)(F:FnOk X.prog X.w X.K X.mg X.base (CX1 X.prog X.w) k f fd ps sp)(hr:Room k X.A)
  (hb:YX X.K fd ps []) (ha:PA X.nox (e::es) t) (I:Inv X pins σ H s) (h:ta σ H fun x H1=>∃a dx fs,x= .ref a/\H1 a=some (.ins C dx fs)/\fs.lookup m=none/\t σ H1 fun vs H2=>sp (x::vs) H2 Q E)
  (R:starEach (e::es) X.env=(false,eval e X.env)::starEach es X.env) (U:(backTo pos (starEach es X.env)).any (·.1)=false)
  (ht:eval (.Call (.Attribute o m apos) (e::es) [] pos) X.env=(do
   let ov<-eval o X.env
   standAt apos.atName
   let(f,first)<-holding [ov] (getMethod ov m pl)
   callWith pos f first (backTo pos (starEach (e::es) X.env)) (backToKw pos (keywordEach [] X.env)))):
  wpAny (model X.prog X.w) X.A (eval (.Call (.Attribute o m apos) (e::es) [] pos) X.env) (EP X pins σ Q) (Cat X pins σ E) s:=by
 refine Uc (pl:=pl) (uY (he pins s σ H _ (I.wish _) h) (fun u s1 h1=> ?_) fun _ _ z=>z.elim) ht;obtain⟨x,H1,Y,rx,a,dx,fs,ex,ea,l,q⟩:=h1;have I1:Inv X pins σ H1 s1:=Y.unwish;subst ex;obtain rfl:u=Value.ref a:=rx;refine jm I1 ea c hm l ?_;refine vT (first:= [.ref a]) (h₀:=X.base) I.ok.mod.kin hm.kp (uY (ha pos pins s1 σ H1 _ (I1.wish _) q) (fun us s2 h2=> ?_) fun _ _ z=>z.elim) R U;obtain⟨vs,H2,aa,r,q2⟩:=h2;have L:Inv X pins σ H2 s2:=aa.unwish;refine⟨L.kIn,?_⟩;have r2:Vals (V.ref a::vs) (Value.ref a::us):= .cons rfl r;have hl:(Value.ref a::us).length=ps.length:=by rw [<-r2.length];exact F.len _ _ _ _ q2
 have M:=hb s2 (Value.ref a::us) L.kIn (by rw [vG];exact hl)
 rw [vG] at M;refine UE (Ud (F.run X.A X.stack s2 H2 ⟨Value.ref a::us,[]⟩ (Value.ref a::us) (V.ref a::vs) Q E hr L.env0 M r2 q2 (.inl L.tk)) fun r s' O=> ?_);cases r with
 |error e=>exact⟨H2,s2,L,O⟩
 |ok fl=>
  cases fl with
  |ret u=>exact L.after O
  |next=>exact False.elim O
  |brk=>exact False.elim O
  |cont=>exact False.elim O
def tTryM (C:Addr)(m:Str)(sp:Sp)(ta:TE)(t:TA)(Cc:Addr)(ts:TS):TS:=fun D σ H=>ta σ H fun x H1=>∃a dx fs,x= .ref a/\H1 a=some (.ins C dx fs)/\fs.lookup m=none/\t σ H1 fun vs H2=>sp (x::vs) H2 (fun _ H3=>D.nx σ H3) (fun _ C' H3=>C'=some Cc/\ts D σ H3)
theorem ps_tryM {pl:Sem Bool}{k:Nat}{C f:Addr}{fd:FuncData}{ps:List Str}{sp:Sp}{m c:Str}{o:Expr}{apos np cpos M O pos:Pos}{e:Expr}{es:List Expr}{ta:TE}{t:TA}{Cc C':Addr}{b₀:Stmt}{L:List Stmt}{ts:TS}(ho:PE X.nox o ta)(cl:Cls X.K C)(hm:Meth X.K C m f)(F:FnOk X.prog X.w X.K X.mg X.base (CX1 X.prog X.w) k f fd ps sp)(hr:Room k X.A)
  (hb:YX X.K fd ps []) (ha:PA X.nox (e::es) t) (R:X.stack=X.env::X.outer/\X.env.frame=some X.env.locals) (U:Gl X c) (Y:X.mg c=some (.ref C'))
  (hx:PySem.W.exmOne X.K (.ref Cc) (.ref C')=some true) (hs:∀ee xe,PSs (X.marked ee xe) (b₀::L) ts) (aa:(c==("__debug__":Str))=false:=by decide)
  (he:starEach (e::es) X.env=(false,eval e X.env)::starEach es X.env:=by rfl) (ab:(backTo cpos (starEach es X.env)).any (·.1)=false:=by rfl) (ac:swapsWith (.Call (.Attribute o m apos) (e::es) [] cpos) none M.line X.env=pure false:=by rfl)
  (ht:eval (.Call (.Attribute o m apos) (e::es) [] cpos) X.env=(do
   let ov<-eval o X.env
   standAt apos.atName
   let(f,first)<-holding [ov] (getMethod ov m pl)
   callWith cpos f first (backTo cpos (starEach (e::es) X.env)) (backToKw cpos (keywordEach [] X.env))):=by rfl):
  PS X (.Try [.Expr (.Call (.Attribute o m apos) (e::es) [] cpos) M] [.ExceptHandler (some (.Name c np)) none (b₀::L) O] [] [] pos) (tTryM C m sp ta t Cc ts):=by
 intro pins s σ H D I h;refine wpAny_Try_except (UJ ?_);refine uY (wpAny_Expr_any (Q:=SP X pins D) (uY (meth_cat ho cl hm F hr hb ha I h he ab ht) (fun v s1 ⟨y,H1,I1,r1,q1⟩=>⟨σ,H1,I1,q1⟩) fun _ _ z=>z) I.quiet ac) (fun fl s1 q=> ?_) fun e' s1 q=>catch_ok q R U Y hx hs aa;cases fl with
 |next=>exact vP (vP q)
 |ret v=>exact q
 |brk=>exact q
 |cont=>exact q
abbrev TC:=Ends->(St->XK)->St->Hp->Prop
def CatG (X:Cx)(pins:List (Addr×Obj))(E:St->XK)(e:Value)(s':Shared):Prop:=∃σ,Cat X pins σ (E σ) e s'
def PY (X:Cx)(st:Stmt)(t:TC):Prop:=∀pins s σ H D E,Inv X pins σ H s->t D E σ H->wpAny (model X.prog X.w) X.A (exec st X.env) (SP X pins D) (CatG X pins E) s
def PYs (X:Cx)(sts:List Stmt)(t:TC):Prop:=∀pins s σ H D E,Inv X pins σ H s->t D E σ H->wpAny (model X.prog X.w) X.A (execs sts X.env) (SP X pins D) (CatG X pins E) s
theorem pys_one {st:Stmt}{a:TC}(h1:PY X st a):PYs X [st] a:=by
 intro pins s σ H D E I h;refine UJ (uY (h1 pins s σ H D E I h) (fun L s1 q=> ?_) fun _ _ z=>z);cases L with
 |next=>exact vP q
 |ret v=>exact q
 |brk=>exact q
 |cont=>exact q
def cCall (sp:Sp)(t:TA):TC:=fun D E σ H=>t σ H fun vs H1=>sp vs H1 (fun _ H2=>D.nx σ H2) (E σ)
theorem py_call {k:Nat}{f:Addr}{fd:FuncData}{ps:List Str}{sp:Sp}{x:Str}{p cpos L:Pos}{e:Expr}{es:List Expr}{t:TA}
  (F:FnOk X.prog X.w X.K X.mg X.base (CX1 X.prog X.w) k f fd ps sp) (U:Room k X.A)
  (Y:Gl X x) (hm:X.mg x=some (.ref f)) (hk:PySem.W.keepIn X.K (.ref f)=true) (hb:YX X.K fd ps []) (ha:PA X.nox (e::es) t) (M:(x==("__debug__":Str))=false:=by decide)
  (he:starEach (e::es) X.env=(false,eval e X.env)::starEach es X.env:=by rfl) (O:(backTo cpos (starEach es X.env)).any (·.1)=false:=by rfl) (R:swapsWith (.Call (.Name x p) (e::es) [] cpos) none L.line X.env=pure false:=by rfl):
  PY X (.Expr (.Call (.Name x p) (e::es) [] cpos) L) (cCall sp t):=fun pins s σ H D E I h=>
 wpAny_Expr_any (Q:=SP X pins D) (uY (call_cat F U Y hm hk hb ha I h M he O) (fun v s1 ⟨y,H1,I1,r1,q1⟩=>⟨σ,H1,I1,q1⟩) fun _ _ z=>⟨σ,z⟩) I.quiet R
def tTryC (K:PySem.W.Frag)(t:TC)(i:Nat)(C':Addr)(ts:TS):TS:=fun D σ H=>t D (fun σ' v C H2=>∃Cc,C=some Cc/\PySem.W.exmOne K (.ref Cc) (.ref C')=some true/\∀ea,v= .ref ea->H2 ea=none->ts (D.less i) (σ'.set i (some (.ref ea))) (upd H2 ea (ExcO ea Cc))) σ H
theorem ps_tryC {i:Nat}{c n:Str}{np M pos:Pos}{C':Addr}{O:List Stmt}{b₀:Stmt}{L:List Stmt}{t:TC}{ts:TS}(hN:X.N.Nodup)(hi:X.N[i]? =some n)(hn:X.env.scope.names.lookup n=some .local)
  (hb:PYs X O t) (R:X.stack=X.env::X.outer/\X.env.frame=some X.env.locals) (U:Gl X c) (Y:X.mg c=some (.ref C'))
  (hs:∀ee xe,PSs (X.marked ee xe) (b₀::L) ts) (aa:(c==("__debug__":Str))=false:=by decide):
  PS X (.Try O [.ExceptHandler (some (.Name c np)) (some n) (b₀::L) M] [] [] pos) (tTryC X.K t i C' ts):=by
 intro pins s σ H D I h;refine wpAny_Try_except ?_;refine uY (hb pins s σ H D _ I h) (fun fl s1 q=> ?_) fun e' s1 ⟨σ',q⟩=>catch_as q R U Y hN hi hn hs aa;cases fl with
 |next=>exact vP q
 |ret v=>exact q
 |brk=>exact q
 |cont=>exact q
end
end L2
namespace L2
open PySem PySem.Spec PyProof.Rows
structure FF (K:PySem.W.Frag)(mg:Str->Option Value)(x:Str)(st:Stmt)(ps:List Str)(f:Addr)(fd:FuncData):Prop where
 F:Fun K x x st f fd
 b:YX K fd ps []
 m:mg x=some (.ref f)
structure FM (K:PySem.W.Frag)(C:Addr)(x q:Str)(st:Stmt)(ps:List Str)(f:Addr)(fd:FuncData):Prop where
 F:Fun K x q st f fd
 b:YX K fd ps []
 h:Meth K C x f
def FZ (K:PySem.W.Frag)(x q:Str)(st:Stmt)(f:Addr):Prop:=∃(oc kV dc pm cd ct:Value) (od an:Option Addr) (sl:Array (Option Value)),K.lookup f=some ⟨oc,od,.func (PySem.W.fnOf x q (jD st) (Yo st) (qp st) .none kV dc pm an cd ct),sl⟩/\PySem.W.codeIn K cd q=true/\PySem.W.keepIn K (.ref f)=true
def FZg (K:PySem.W.Frag)(x:Str)(st:Stmt)(f:Addr):Prop:=PySem.W.nsIn K mainGlobals x=some (some (.ref f))/\FZ K x x st f
def FZm (K:PySem.W.Frag)(C:Addr)(x q:Str)(st:Stmt)(f:Addr):Prop:=PySem.W.findIn K (.ref C) x=some (some (.ref f))/\PySem.W.isFn K (.ref f)=true/\FZ K x q st f
def BOk (x q:Str)(st:Stmt)(ps:List Str):Prop:=∀(kV doc pm:Value) (an:Option Addr) (cdv ct:Value) (us:List Value),us.length=ps.length->bindArgs (PySem.W.fnOf x q (jD st) (Yo st) (qp st) .none kV doc pm an cdv ct) ⟨us,[]⟩=pure (ps.zip us)
theorem Qi {K:PySem.W.Frag}{h:Heap}{mg:Str->Option Value}(X:K.In h)(G:h.Ns mainGlobals mg){x:Str}{st:Stmt}{f:Addr}(z:FZg K x st f)(ps:List Str)(I:BOk x x st ps):∃fd,FF K mg x st ps f fd:=by
 obtain⟨a,oc,kV,L,pm,M,ct,od,an,sl,l,c,k⟩:=z;have F:=fun_mk (st:=st) l c k;exact⟨_,F,F.binds I,uI X G a⟩
theorem Zx {K:PySem.W.Frag}{C:Addr}{x q:Str}{st:Stmt}{f:Addr}(z:FZm K C x q st f)(ps:List Str)(I:BOk x q st ps):∃fd,FM K C x q st ps f fd:=by
 obtain⟨a,i,oc,kV,L,pm,M,ct,od,an,sl,l,c,k⟩:=z;have F:=fun_mk (st:=st) l c k;exact⟨_,F,F.binds I,⟨a,i,k⟩⟩
theorem FF.law {K:PySem.W.Frag}{mg:Str->Option Value}{x:Str}{st:Stmt}{ps:List Str}{f:Addr}{fd:FuncData}(T:FF K mg x st ps f fd){y:Str}(h:∀(kV doc pm:Value) (an:Option Addr) (cdv ct u:Value),bindArgs (PySem.W.fnOf x x (jD st) (Yo st) (qp st) .none kV doc pm an cdv ct) ⟨[u],[]⟩=pure [(y,u)])(s:Shared)(u:Value):BindsTo s fd ⟨[u],[]⟩ [(y,u)]:=by
 obtain⟨oc,od,kV,doc,pm,an,cdv,ct,osl,rfl,L,I⟩:=T.F.ex;exact .of_eq (h kV doc pm an cdv ct u)
def txt? (u:Value):Option Str:=match u with
 | .str z _=>some z
 |_=>none
def TZ (K:PySem.W.Frag)(q:Addr)(l:List Str):Prop:=∃(d:Option Addr) (i:Array Value) (n:Nat) (sl:Array (Option Value)),K.lookup q=some ⟨.type "tuple",d,.seq i n,sl⟩/\i.toList.map txt? =l.map some
theorem strs_of:∀{l:List Str}{us:List Value},us.map txt? =l.map some->Vals (l.map V.str) us
 | [],[],_=> .nil
 |z::l,u::us,h=>by
  rw [uj,uj] at h;injection h with h1 h2
  cases u with
  |str y t=>
   have:y=z:=uQ h1;subst this;exact .cons ⟨t,rfl⟩ (strs_of h2)
  |_=>cases h1
 | [],_::_,h=>by simp at h
 |_::_,[],h=>by simp at h
theorem TZ.sq {K:PySem.W.Frag}{H:Hp}{q:Addr}{l:List Str}(h:TZ K q l)(M:l.length<=100):SqT K H q (l.map V.str):=by
 obtain⟨d,its,n,sl,L,e⟩:=h;have I:its.size=l.length:=by rw [<-v4];simpa using congrArg List.length e
 exact .inr ⟨_,its,n,L,rfl,rfl,by rw [I];exact Nat.le_of_lt (yh (by omega)),strs_of e⟩
def TZn (K:PySem.W.Frag)(a:Addr)(x:Str)(l:List Str):Prop:=∃q,PySem.W.nsIn K a x=some (some (.ref q))/\TZ K q l
end L2
namespace HT
open PySem PySem.Spec PyProof.Rows
section
variable {prog:Program}{w:World}{A:Around}{E:Value->Shared->Prop}{s:Shared}
theorem adjust_rev (n:Nat):Builtin.Slice.sliceAdjust none none (-1) (n:Int)=((n:Int)-1,-1):=by
 unfold Builtin.Slice.sliceAdjust;simp
theorem places_rev (n:Nat):Builtin.Slice.slicePlaces ((n:Int)-1) (-1) (-1)=n:=by
 unfold Builtin.Slice.slicePlaces;simp
 try omega
theorem xz {sl:Addr}{t:Tok}{n:Nat}{Q:Int×Int×Nat->Shared->Prop}(M:s.heap.IsSliceOf sl .none .none (.int (-1) t))
  (h:Q ((n:Int)-1,-1,n) s):wpAny (model prog w) A (Builtin.Slice.sliceApplied (.ref sl) (pure (n:Int))) Q E s:=by
 obtain⟨os,I,O,L⟩:=id M;unfold Builtin.Slice.sliceApplied Builtin.Slice.sliceFields;refine wpAny_bind (wpAny_bind (uS I L (x:= .none) rfl (wpAny_bind (uS I L (x:= .none) rfl (wpAny_bind (uS I L (x:= .int (-1) t) rfl (uc ?_)))))));refine wpAny_bind (slicePart_int ?_);show wpAny _ _ (if((-1:Int)==0)=true then _ else _) _ _ s
 rw [if_neg (by decide)]
 refine wpAny_bind (slicePart_none (wpAny_bind (slicePart_none (wpAny_bind (uc ?_)))));show wpAny _ _ (match Builtin.Slice.sliceAdjust none none (-1) (n:Int) with|(lo,hi)=>pure (lo,(-1:Int),Builtin.Slice.slicePlaces lo hi (-1))) _ _ s
 rw [adjust_rev n];show wpAny _ _ (pure ((n:Int)-1,(-1:Int),Builtin.Slice.slicePlaces ((n:Int)-1) (-1) (-1))) _ _ s;rw [places_rev];exact uc h
theorem pick_rev (xs:Array Value):((List.range xs.size).filterMap fun(m:Nat)=>xs[(((xs.size:Nat):Int)-1+(m:Int)* -1).toNat]?).toArray=xs.toList.reverse.toArray:=by
 congr 1
 have h:∀k,k<=xs.size->(List.range k).filterMap (fun(m:Nat)=>xs[(((xs.size:Nat):Int)-1+(m:Int)* -1).toNat]?)=xs.toList.reverse.take k:=by
  intro k
  induction k with
  |zero=>intro _;simp
  |succ k I=>
   intro L;rw [List.range_succ,List.filterMap_append,I (by omega),U1]
   congr 1
   have e:(((xs.size:Nat):Int)-1+(k:Int)* -1).toNat=xs.size-1-k:=by omega
   have e2:xs[(((xs.size:Nat):Int)-1+(k:Int)* -1).toNat]? =xs.toList.reverse[k]? :=by
    rw [e,List.getElem?_reverse (by rw [v4];omega)]
    simp
   simp only [U4,List.filterMap_nil,e2];cases xs.toList.reverse[k]? <;>rfl
 rw [h xs.size (ug _),uN (by simp)]
theorem getItem_tuple_rev {t sl:Addr}{items:Array Value}{tk:Tok}{Q:Value->Shared->Prop}(L:IsTup s.heap t items)(Y:s.heap.IsSliceOf sl .none .none (.int (-1) tk))
  (h:Q (.ref s.heap.objs.size) {s with heap:=s.heap.push {cls:= .type "tuple",data:= .seq items.toList.reverse.toArray}})
  (hsz:items.size<=sizeLine):wpAny (model prog w) A (getItem (.ref t) (.ref sl)) Q E s:=by
 have I:sizeOk (.seq items.toList.reverse.toArray):=by
  show items.toList.reverse.toArray.size<=sizeLine;rw [ue,U6,v4];exact hsz
 obtain⟨os,M,O,aa⟩:=id Y;have R:s.TypeIs (.ref sl) "slice":=⟨os,M,O⟩;unfold getItem
 try with_reducible refine wpAny_holding ?_
 first|refine wpAny_bind (uc ?_)|skip
 refine wpAny_bind (wpAny_sequenceKey L.typeIs (by decide) ?_)
 refine wpAny_bind (uX (name:=Str.ofString "__getitem__") L.typeIs uZ
  (vt uZ L.typeIs entry_tuple_getitem ?_ (args_tuple_getitem _ _)))
 show wpAny _ _ (Builtin.Tuple.tupleItemsOf (.ref t)>>=_) _ _ s;refine wpAny_bind (tupleItemsOf_ L ?_);refine wpAny_bind (wpAny_typeOf R ?_);rw [if_pos (by decide)]
 refine wpAny_bind (xz Y ?_);have U:¬((((items.size:Int)-1)==0&&(-1:Int)==1&&items.size==items.size)=true):=by
  intro q;rw [ui,ui] at q;exact absurd q.1.2 (by decide)
 show wpAny _ _ (if(((items.size:Int)-1)==0&&(-1:Int)==1&&items.size==items.size)=true then _ else _) _ _ s
 rw [if_neg U,pick_rev]
 first
  |exact wpAny_bind (m:=Builtin.Tuple.tupleExact _) (uV (uc ⟨_,rfl,uc h⟩) I)
  |exact wpAny_bind (m:=Builtin.Tuple.tupleExact _) (uV (wpAny_bind (uc (uc ⟨_,rfl,uc h⟩))) I)
  |exact wpAny_bind (wpAny_bind (m:=Builtin.Tuple.tupleExact _) (uV (uc (uc ⟨_,rfl,uc h⟩)) I))
  |exact wpAny_bind (wpAny_bind (m:=Builtin.Tuple.tupleExact _) (uV (uc ⟨_,rfl,uc h⟩) I))
end
end HT
namespace L2
open PySem PySem.Spec PyProof.Rows
section
variable {X:Cx}
theorem vals_rev:∀{xs:List V}{us:List Value},Vals xs us->Vals xs.reverse us.reverse
 |_,_,.nil=> .nil
 |_,_,.cons h t=>by
  rw [UG,UG];exact(vals_rev t).append (.cons h .nil)
def tRev (K:PySem.W.Frag)(te:TE):TE:=fun σ H Q=>te σ H fun x H1=>∃a xs,x= .ref a/\SqT K H1 a xs/\∀p,H1 p=none->Q (.ref p) (upd H1 p (.tup xs.reverse))
theorem pe_rev {e:Expr}{te:TE}{pos p2:Pos}{e1:Expr}{U:TE}(he:PE X e te)(h1:PE X e1 U)(ht:∀σ H Q,Q (.int (-1)) H->U σ H Q)(L:subscripted (.Slice none none (some e1) p2) false=fun v u=>operate [v,u] (getItem v u):=by rfl):PE X (.Subscript e (.Slice none none (some e1) p2) pos) (tRev X.K te):=by
 intro pins s σ H Q I h;refine Subscript_ (thn (he pins s σ H _ I h) fun v s1 ⟨x,H1,I1,r1,q1⟩=> ?_);refine wpAny_Slice ?_;rw [evalPart_none];refine uc ?_;refine uc ?_;rw [evalPart_some];refine thn (h1 pins s1 σ H1 _ I1 (ht σ H1 (fun y H2=>y= .int (-1)/\H2=H1) ⟨rfl,rfl⟩)) fun u s2 h2=> ?_;obtain⟨y,H2,I2,r2,rfl,rfl⟩:=h2;obtain⟨tk,rfl⟩:=r2;obtain⟨a,xs,rfl,hH,q⟩:=q1;cases r1;have R:Inv X pins σ H2 {s2 with heap:=s2.heap.push {cls:= .type "slice",data:= .fields #[.none,.none,.int (-1) tk]}}:=I2.kept (t':=s2.toks) fun b ob q=>u3 _ q
 obtain⟨its,r,M,Y⟩:=R.tuple hH;have O:its.toArray.size=xs.length:=by rw [ue];exact r.length.symm
 show wpAny (model X.prog X.w) X.A (subscriptTail e (.Slice none none (some e1) p2) (.ref a) (.ref s2.heap.objs.size)) (EP X pins σ Q) X.xe {s2 with heap:=s2.heap.push {cls:= .type "slice",data:= .fields #[.none,.none,.int (-1) tk]}}
 refine tail_any (ops:= [.ref a,.ref s2.heap.objs.size]) M.typeIs PyProof.Rows.slot_tuple_getitem.lookup ?_ (by rw [L])
 refine HT.getItem_tuple_rev M (Heap.IsSliceOf.new ..) ?_ (by rw [O];exact Y)
 refine⟨.ref _,_,R.laid (t':=s2.toks) (o:= .tup xs.reverse) (fun b ob q=>u3 _ q) (ug _) ?_,rfl,q _ (R.hok.fresh (ug _))⟩;refine⟨by rw [U6];exact Y,its.reverse,?_,IsTup.new _ _⟩
 exact vals_rev r
end
end L2
namespace L2
open PySem PyProof.Rows
theorem seq_ok {t u:TS}{D:Ends}{σ:St}{H:Hp}(h:∀N:St->Hp->Prop,(∀I H',u D I H'->N I H')->t {D with nx:=N} σ H):tSeq t u D σ H:=h (u D) fun _ _ h=>h
theorem Yt {a b:TS}{D:Ends}{N:St->Hp->Prop}(h:∀σ H,tSeq a b D σ H->N σ H):∃I:St->Hp->Prop,(∀σ H,b D σ H->I σ H)/\∀σ H,a {D with nx:=I} σ H->N σ H:=⟨_,fun _ _ h=>h,h⟩
end L2
namespace K47
open PySem L2 PyProof.Rows
open Builtin.Int (intBits)
def top (i:Nat):Stmt:=PySem.Challenge.pw_askwright_k47_places_of_lies.main.body.getD i (.Pass ⟨0,0,0,0⟩)
abbrev X8:Stmt:=top 17
abbrev JH:Stmt:=top 18
abbrev XW:Stmt:=top 19
abbrev Q8:Stmt:=top 21
abbrev jC:Stmt:=top 22
abbrev Xs:Stmt:=top 28
abbrev jH:Stmt:=top 29
abbrev xJ:Stmt:=top 30
abbrev Y0:Stmt:=top 31
abbrev j9:Stmt:=top 32
abbrev Jf:Stmt:=top 35
abbrev j6:Stmt:=top 36
abbrev jM:Stmt:=top 37
abbrev JL:Stmt:=top 38
abbrev J4:Stmt:=top 39
abbrev jW:Stmt:=top 40
abbrev jd:Stmt:=top 41
abbrev jL:Stmt:=top 42
abbrev jT:Stmt:=top 43
abbrev JX:Stmt:=top 44
abbrev j8:Stmt:=top 45
abbrev yI:Stmt:=top 47
abbrev yn:Stmt:=top 48
abbrev yW:Stmt:=Yw (top 49) 0
abbrev Yq:Stmt:=Yw (top 49) 1
abbrev yo:Stmt:=Yw (top 49) 2
abbrev ja:Stmt:=Yw (top 49) 3
abbrev YZ:Stmt:=Yw (top 49) 4
abbrev yG:Stmt:=Yw (top 49) 6
abbrev QN:Stmt:=Yw (top 49) 7
abbrev yk:Stmt:=Yw (top 49) 8
abbrev yV:Stmt:=Yw (top 49) 9
abbrev yd:Stmt:=top 50
abbrev s_does:Stmt:=top 51
abbrev jV:Stmt:=top 53
abbrev xS:Stmt:=top 56
abbrev J1:Stmt:=top 57
abbrev JP:Stmt:=top 58
abbrev jj:Stmt:=top 59
abbrev jg:Stmt:=top 60
abbrev jK:Stmt:=top 61
abbrev Yu:Stmt:=top 62
abbrev J7:Stmt:=top 63
abbrev j0:Stmt:=top 64
abbrev Q2:Stmt:=top 65
abbrev Yp:Stmt:=top 66
abbrev J8:Stmt:=top 67
abbrev J3:Stmt:=top 68
abbrev Q0:Stmt:=top 69
abbrev XD:Stmt:=top 70
abbrev ZD:Stmt:=top 71
abbrev JY:Stmt:=top 72
abbrev XI:Stmt:=top 73
abbrev jc:Stmt:=top 74
abbrev jN:Stmt:=top 75
abbrev yl:Stmt:=top 76
abbrev Yl:Stmt:=top 77
abbrev s_law:Stmt:=top 78
set_option genInjectivity false in
set_option genSizeOf false in
structure Ad where
 f_is_text:Addr
 d_is_text:FuncData
 f_is_tree:Addr
 d_is_tree:FuncData
 f_is_name:Addr
 d_is_name:FuncData
 Ya:Addr
 Yd:FuncData
 Xh:Addr
 XZ:FuncData
 f_part_of:Addr
 d_part_of:FuncData
 Xi:Addr
 XU:FuncData
 f_row_of:Addr
 d_row_of:FuncData
 xi:Addr
 xl:FuncData
 Xw:Addr
 X0:FuncData
 jU:Addr
 X4:FuncData
 jB:Addr
 XS:FuncData
 jP:Addr
 Xq:FuncData
 JZ:Addr
 Zh:FuncData
 JU:Addr
 zC:FuncData
 jS:Addr
 Xx:FuncData
 YW:Addr
 xo:FuncData
 jA:Addr
 X6:FuncData
 Jb:Addr
 Xv:FuncData
 xh:Addr
 zj:FuncData
 jR:Addr
 Xj:FuncData
 YJ:Addr
 YY:FuncData
 YC:Addr
 YB:FuncData
 yY:Addr
 jw:FuncData
 Js:Addr
 Ji:FuncData
 YA:Addr
 YD:FuncData
 XV:Addr
 X3:FuncData
 XQ:Addr
 Xr:FuncData
 jb:Addr
 YK:FuncData
 yu:Addr
 yr:FuncData
 YG:Addr
 Yz:FuncData
 jr:Addr
 ju:FuncData
 Ye:Addr
 Yg:FuncData
 f_does:Addr
 d_does:FuncData
 xV:Addr
 xU:FuncData
 f_law_pot:Addr
 d_law_pot:FuncData
 zN:Addr
 zI:FuncData
 Zf:Addr
 zY:FuncData
 zE:Addr
 zq:FuncData
 zy:Addr
 zW:FuncData
 XA:Addr
 XC:FuncData
 Jp:Addr
 Jn:FuncData
 Yi:Addr
 Yb:FuncData
 yF:Addr
 yC:FuncData
 Qx:Addr
 Qw:FuncData
 JI:Addr
 Jz:FuncData
 zo:Addr
 zw:FuncData
 zU:Addr
 zJ:FuncData
 yT:Addr
 yS:FuncData
 f_law_ask:Addr
 d_law_ask:FuncData
 f_law_go:Addr
 d_law_go:FuncData
 zp:Addr
 Zg:FuncData
 f_law_run:Addr
 d_law_run:FuncData
 xt:Addr
 xk:FuncData
 Xp:Addr
 xY:FuncData
 YF:Addr
 Yy:FuncData
 Jy:Addr
 Jx:FuncData
 f_law:Addr
 d_law:FuncData
 qC:Addr
structure Tx (K:PySem.W.Frag)(mg:Str->Option Value)(a:Ad):Prop where
 g_is_text:FF K mg "is_text" X8 ["value"] a.f_is_text a.d_is_text
 g_is_tree:FF K mg "is_tree" JH ["value"] a.f_is_tree a.d_is_tree
 g_is_name:FF K mg "is_name" XW ["value"] a.f_is_name a.d_is_name
 g_is_row_of_names:FF K mg "is_row_of_names" Q8 ["tree"] a.Ya a.Yd
 g_is_answer:FF K mg "is_answer" jC ["ask","answer"] a.Xh a.XZ
 g_part_of:FF K mg "part_of" Xs ["kind","piece","count"] a.f_part_of a.d_part_of
 g_pieces_of:FF K mg "pieces_of" jH ["line","form"] a.Xi a.XU
 g_row_of:FF K mg "row_of" xJ ["line","count"] a.f_row_of a.d_row_of
 g_read_lines:FF K mg "read_lines" Y0 ["value"] a.xi a.xl
 g_rule_rows:FF K mg "rule_rows" j9 ["tree"] a.Xw a.X0
 g_text_made:FF K mg "text_made" Jf ["boxes","own","parts"] a.jU a.X4
 g_self_made:FF K mg "self_made" j6 ["boxes","own","parts"] a.jB a.XS
 g_copy_made:FF K mg "copy_made" jM ["boxes","own","parts"] a.jP a.Xq
 g_row_made:FF K mg "row_made" JL ["boxes","own","parts"] a.JZ a.Zh
 g_put_made:FF K mg "put_made" J4 ["boxes","own","parts"] a.JU a.zC
 g_join_made:FF K mg "join_made" jW ["boxes","own","parts"] a.jS a.Xx
 g_first_made:FF K mg "first_made" jd ["boxes","own","parts"] a.YW a.xo
 g_rest_made:FF K mg "rest_made" jL ["boxes","own","parts"] a.jA a.X6
 g_size_made:FF K mg "size_made" jT ["boxes","own","parts"] a.Jb a.Xv
 g_cut_made:FF K mg "cut_made" JX ["boxes","own","parts"] a.xh a.zj
 g_glue_made:FF K mg "glue_made" j8 ["boxes","own","parts"] a.jR a.Xj
 g_is_jump_taken:FF K mg "is_jump_taken" yI ["boxes","word","parts"] a.YJ a.YY
 g_asked_or_fault:FF K mg "asked_or_fault" yn ["word","held"] a.YC a.YB
 g_Machine_init:FM K a.qC "__init__" "Machine.__init__" yW ["self","rule","own"] a.yY a.jw
 g_Machine_now:FM K a.qC "now" "Machine.now" Yq ["self"] a.Js a.Ji
 g_Machine_answer:FM K a.qC "answer" "Machine.answer" yo ["self","tree"] a.YA a.YD
 g_Machine_asked:FM K a.qC "asked" "Machine.asked" ja ["self"] a.XV a.X3
 g_Machine_lines:FM K a.qC "lines" "Machine.lines" YZ ["self"] a.XQ a.Xr
 g_Machine_go_on:FM K a.qC "go_on" "Machine.go_on" yG ["self"] a.jb a.YK
 g_Machine_is_waiting:FM K a.qC "is_waiting" "Machine.is_waiting" QN ["self"] a.yu a.yr
 g_Machine_do_row:FM K a.qC "do_row" "Machine.do_row" yk ["self","row"] a.YG a.Yz
 g_Machine_hold:FM K a.qC "hold" "Machine.hold" yV ["self","box","tree"] a.jr a.ju
 g_asks_that_stand:FF K mg "asks_that_stand" yd ["machine","asks"] a.Ye a.Yg
 g_does:FF K mg "does" s_does ["rule","own","run"] a.f_does a.d_does
 g_lie_place:FF K mg "lie_place" jV ["rule","own","run"] a.xV a.xU
 g_law_pot:FF K mg "_law_pot" xS ["cell","salt"] a.f_law_pot a.d_law_pot
 g_law_take:FF K mg "_law_take" J1 ["pot","many"] a.zN a.zI
 g_law_word:FF K mg "_law_word" JP ["pot","names"] a.Zf a.zY
 g_law_line:FF K mg "_law_line" jj ["pot","names","many","k"] a.zE a.zq
 g_law_rule:FF K mg "_law_rule" jg ["pot","names"] a.zy a.zW
 g_law_maker:FF K mg "_law_maker" jK ["pot","names"] a.XA a.XC
 g_law_is_name:FF K mg "_law_is_name" Yu ["value"] a.Jp a.Jn
 g_law_size:FF K mg "_law_size" J7 ["tree"] a.Yi a.Yb
 g_law_depth:FF K mg "_law_depth" j0 ["tree"] a.yF a.yC
 g_law_parts_right:FF K mg "_law_parts_right" Q2 ["value"] a.Qx a.Qw
 g_law_is_tree:FF K mg "_law_is_tree" Yp ["value"] a.JI a.Jz
 g_law_next:FF K mg "_law_next" J8 ["boxes","words","at"] a.zo a.zw
 g_law_held:FF K mg "_law_held" J3 ["boxes","words","line","own"] a.zU a.zJ
 g_law_cut_or_glued:FF K mg "_law_cut_or_glued" Q0 ["word","two","three"] a.yT a.yS
 g_law_ask:FF K mg "_law_ask" XD ["boxes","words"] a.f_law_ask a.d_law_ask
 g_law_go:FF K mg "_law_go" ZD ["rule","own","answers"] a.f_law_go a.d_law_go
 g_law_told:FF K mg "_law_told" JY ["pot","ask","names"] a.zp a.Zg
 g_law_run:FF K mg "_law_run" XI ["pot","rule","own","names"] a.f_law_run a.d_law_run
 g_law_spoilt:FF K mg "_law_spoilt" jc ["pot","run","names"] a.xt a.xk
 g_law_place:FF K mg "_law_place" jN ["rule","own","run"] a.Xp a.xY
 g_law_drawn_rule:FF K mg "_law_drawn_rule" yl ["pot","names"] a.YF a.Yy
 g_law_refused:FF K mg "_law_refused" Yl ["rule","own"] a.Jy a.Jx
 g_law:FF K mg "law" s_law ["script"] a.f_law a.d_law
 qu:Cls K a.qC
 M_Machine:Mk K a.qC a.yY
 m_Machine:mg "Machine"=some (.ref a.qC)
 yf:yJ K a.qC "rows"
 zf:yJ K a.qC "rule"
 Jq:yJ K a.qC "own"
 Qk:yJ K a.qC "boxes"
 Qd:yJ K a.qC "place"
 QP:yJ K a.qC "done"
 YU:yJ K a.qC "given"
 qJ:yJ K a.qC "there"
 m_MOST_SIGNS:∃t,mg "MOST_SIGNS"=some (.int 300 t)
 m_MOST_PARTS:∃t,mg "MOST_PARTS"=some (.int 40 t)
 m_MOST_SIZE:∃t,mg "MOST_SIZE"=some (.int 600 t)
 m_MOST_DEPTH:∃t,mg "MOST_DEPTH"=some (.int 12 t)
 J0:∃t,mg "MOST_NAME_SIGNS"=some (.int 24 t)
 m_LETTERS:∃t,mg "LETTERS"=some (.str "abcdefghijklmnopqrstuvwxyz" t)
 m_NAME_SIGNS:∃t,mg "NAME_SIGNS"=some (.str "abcdefghijklmnopqrstuvwxyz0123456789./" t)
 m_PERCENT:∃t,mg "PERCENT"=some (.int 37 t)
 m_MOST_LINES:∃t,mg "MOST_LINES"=some (.int 40 t)
 m_MOST_DONE:∃t,mg "MOST_DONE"=some (.int 300 t)
 z_ord:mg "ord"=none
 Qy:mg "len"=none
 qt:mg "isinstance"=none
 yy:mg "str"=none
 Qa:mg "tuple"=none
 z_all:mg "all"=none
 z_int:mg "int"=none
 JS:mg "range"=none
 z_zip:mg "zip"=none
 z_dict:mg "dict"=none
 z_enumerate:mg "enumerate"=none
 z_abs:mg "abs"=none
 z_min:mg "min"=none
 z_sum:mg "sum"=none
 z_max:mg "max"=none
 z_ValueError:mg "ValueError"=none
 z_bool:mg "bool"=none
theorem zm:qD ["value","sign"] ["value"] (qp X8):=by trivial
theorem QX:qD ["value","size","waiting","pair","part","depth"] ["value"] (qp JH):=by trivial
theorem sc_is_name:qD ["value"] ["value"] (qp XW):=by trivial
theorem Jw:qD ["tree"] ["tree"] (qp Q8):=by trivial
theorem sc_is_answer:qD ["ask","answer"] ["ask","answer"] (qp jC):=by trivial
theorem zS:qD ["kind","piece","count","numbers"] ["kind","piece","count"] (qp Xs):=by trivial
theorem sc_pieces_of:qD ["line","form"] ["line","form"] (qp jH):=by trivial
theorem Y1:qD ["line","count","word","form","pieces","parts"] ["line","count"] (qp xJ):=by trivial
theorem yx:qD ["value","rows","line","row"] ["value"] (qp Y0):=by trivial
theorem xj:qD ["tree","read"] ["tree"] (qp j9):=by trivial
theorem sc_text_made:qD ["boxes","own","parts"] ["boxes","own","parts"] (qp Jf):=by trivial
theorem sc_self_made:qD ["boxes","own","parts"] ["boxes","own","parts"] (qp j6):=by trivial
theorem sc_copy_made:qD ["boxes","own","parts"] ["boxes","own","parts"] (qp jM):=by trivial
theorem sc_row_made:qD ["boxes","own","parts"] ["boxes","own","parts"] (qp JL):=by trivial
theorem XM:qD ["boxes","own","parts","row"] ["boxes","own","parts"] (qp J4):=by trivial
theorem YM:qD ["boxes","own","parts","one","other"] ["boxes","own","parts"] (qp jW):=by trivial
theorem Jh:qD ["boxes","own","parts","whole"] ["boxes","own","parts"] (qp jd):=by trivial
theorem xp:qD ["boxes","own","parts","whole"] ["boxes","own","parts"] (qp jL):=by trivial
theorem sc_size_made:qD ["boxes","own","parts"] ["boxes","own","parts"] (qp jT):=by trivial
theorem jE:qD ["boxes","own","parts","whole","between"] ["boxes","own","parts"] (qp JX):=by trivial
theorem YN:qD ["boxes","own","parts","row","between"] ["boxes","own","parts"] (qp j8):=by trivial
theorem xF:qD ["boxes","word","parts"] ["boxes","word","parts"] (qp yI):=by trivial
theorem J9:qD ["word","held"] ["word","held"] (qp yn):=by trivial
theorem XR:qD ["self","rule","own"] ["self","rule","own"] (qp yW):=by trivial
theorem zg:qD ["self"] ["self"] (qp Yq):=by trivial
theorem Yh:qD ["self","tree","ask"] ["self","tree"] (qp yo):=by trivial
theorem xD:qD ["self"] ["self"] (qp yG):=by trivial
theorem je:qD ["self"] ["self"] (qp QN):=by trivial
theorem Q9:qD ["self","row","word","parts"] ["self","row"] (qp yk):=by trivial
theorem Xz:qD ["self","box","tree"] ["self","box","tree"] (qp yV):=by trivial
theorem QZ:qD ["machine","asks","count","pair"] ["machine","asks"] (qp yd):=by trivial
theorem sc_does:qD ["rule","own","run","machine"] ["rule","own","run"] (qp s_does):=by trivial
theorem sc_lie_place:qD ["rule","own","run"] ["rule","own","run"] (qp jV):=by trivial
theorem yz:qD ["cell","salt","step","big","k"] ["cell","salt"] (qp xS):=by trivial
theorem Xy:qD ["pot","many","digit"] ["pot","many"] (qp J1):=by trivial
theorem XH:qD ["pot","names","some"] ["pot","names"] (qp JP):=by trivial
theorem QU:qD ["pot","names","many","k","words","word","one","two","three","at"] ["pot","names","many","k"] (qp jj):=by trivial
theorem Yn:qD ["pot","names","body","many","lines"] ["pot","names"] (qp jg):=by trivial
theorem yQ:qD ["pot","names","asked","lines"] ["pot","names"] (qp jK):=by trivial
theorem ze:qD ["value"] ["value"] (qp Yu):=by trivial
theorem sc_law_size:qD ["tree"] ["tree"] (qp J7):=by trivial
theorem sc_law_depth:qD ["tree"] ["tree"] (qp j0):=by trivial
theorem JA:qD ["value"] ["value"] (qp Q2):=by trivial
theorem zh:qD ["value"] ["value"] (qp Yp):=by trivial
theorem Q7:qD ["boxes","words","at","held","goes"] ["boxes","words","at"] (qp J8):=by trivial
theorem yE:qD ["boxes","words","line","own","word","one","two"] ["boxes","words","line","own"] (qp J3):=by trivial
theorem jJ:qD ["word","two","three"] ["word","two","three"] (qp Q0):=by trivial
theorem zn:qD ["boxes","words","held"] ["boxes","words"] (qp XD):=by trivial
theorem QC:qD ["rule","own","answers","boxes","box","asks","at","turn","words","ask","held"] ["rule","own","answers"] (qp ZD):=by trivial
theorem xZ:qD ["pot","ask","names","some"] ["pot","ask","names"] (qp JY):=by trivial
theorem ya:qD ["pot","rule","own","names","answers","done","now"] ["pot","rule","own","names"] (qp XI):=by trivial
theorem Qp:qD ["pot","run","names","asks","end","at","kind","name","fresh","other"] ["pot","run","names"] (qp jc):=by trivial
theorem QK:qD ["rule","own","run","asks","end","answers","place","ask","answer"] ["rule","own","run"] (qp jN):=by trivial
theorem JT:qD ["pot","names"] ["pot","names"] (qp yl):=by trivial
theorem QE:qD ["rule","own","told","e","odd"] ["rule","own"] (qp Yl):=by trivial
theorem y8:qD ["script","names","cell","pot","rule","own","run","once","one","due","found","odd","bad"] ["script"] (qp s_law):=by trivial
structure Ga where
 (boxes asking forms makers br bn na ba we xBadKeep xClash:Addr)
def Ga.cls (g:Ga):Fin 2->Addr
 |0=>g.br
 |1=>g.bn
def Ga.oth (g:Ga):List Addr:= [g.ba,g.xBadKeep,g.xClash,g.na]
def NOMK:List Str:= ["ask","has","names","go","like","rowed","none","say","fault"]
structure Fx (K:PySem.W.Frag)(w:World)(mg:Str->Option Value)(g:Ga)(a:Ad):Prop where
 m_BOXES:mg "BOXES"=some (.ref g.boxes)
 m_ASKING:mg "ASKING"=some (.ref g.asking)
 m_FORMS:mg "FORMS"=some (.ref g.forms)
 m_MAKERS:mg "MAKERS"=some (.ref g.makers)
 boxes:∀H,SqT K H g.boxes (BX.map V.str)
 asking:∀H,SqT K H g.asking [.str "ask",.str "has",.str "names"]
 kd:KDict K w g.forms
 forms:∀x∈FRM,∃q,PySem.W.nsIn K g.forms x.1=some (some (.ref q))/\∀H,SqT K H q (x.2.map fun k=>V.str k.t)
 km:KDict K w g.makers
 k_text:PySem.W.nsIn K g.makers "text"=some (some (.ref a.jU))
 k_self:PySem.W.nsIn K g.makers "self"=some (some (.ref a.jB))
 k_copy:PySem.W.nsIn K g.makers "copy"=some (some (.ref a.jP))
 k_row:PySem.W.nsIn K g.makers "row"=some (some (.ref a.JZ))
 k_put:PySem.W.nsIn K g.makers "put"=some (some (.ref a.JU))
 k_join:PySem.W.nsIn K g.makers "join"=some (some (.ref a.jS))
 k_first:PySem.W.nsIn K g.makers "first"=some (some (.ref a.YW))
 k_rest:PySem.W.nsIn K g.makers "rest"=some (some (.ref a.jA))
 k_size:PySem.W.nsIn K g.makers "size"=some (some (.ref a.Jb))
 k_cut:PySem.W.nsIn K g.makers "cut"=some (some (.ref a.xh))
 k_glue:PySem.W.nsIn K g.makers "glue"=some (some (.ref a.jR))
 k_no:∀z∈NOMK,PySem.W.nsIn K g.makers z=some none
 none_:∀z,jx z=none->PySem.W.nsIn K g.forms z=some none
 Xm:mg "BadRule"=some (.ref g.br)
 x_BadRule:PySem.W.excIn K g.br VE "ValueError.__new__"=true
 m_BadName:mg "BadName"=some (.ref g.bn)
 x_BadName:PySem.W.excIn K g.bn VE "ValueError.__new__"=true
 m_NoAsk:mg "NoAsk"=some (.ref g.na)
 x_NoAsk:PySem.W.excIn K g.na VE "ValueError.__new__"=true
 jF:mg "BadAnswer"=some (.ref g.ba)
 x_BadAnswer:PySem.W.excIn K g.ba VE "ValueError.__new__"=true
 e_BadAnswer:PySem.W.exmOne K (.ref g.ba) (.ref g.ba)=some true
 ZZ:mg "WrightError"=some (.ref g.we)
 m_BadKeep:mg "BadKeep"=some (.ref g.xBadKeep)
 m_Clash:mg "Clash"=some (.ref g.xClash)
 ew:∀k,PySem.W.exmOne K (.ref (g.cls k)) (.ref g.we)=some true
 xc:∀k,AwV.YR K (g.cls k)
 ve:∀k,PySem.W.kitOne K (.ref (g.cls k)) (.type "ValueError")=some true
 ot:∀k,PySem.W.kitAny K (.ref (g.cls k)) (g.oth.map Value.ref)=some false
 kk:∀i j,i≠j->PySem.W.kitOne K (.ref (g.cls i)) (.ref (g.cls j))=some false
def PotB (m:Nat)(H:Hp)(p:Addr):Prop:=∃x:Int,H p=some (.lst [.int x])/\0<=x/\intBits x<=m
def Qv (H:Hp)(p:Addr):Prop:=∃x:Int,H p=some (.lst [.int x])/\0<=x
theorem PotB.at {m:Nat}{H:Hp}{p:Addr}(h:PotB m H p):Qv H p:=let⟨x,e,r,_⟩:=h;⟨x,e,r⟩
theorem Qv.same {H H':Hp}{p:Addr}(h:Qv H p)(s:Same H H'):Qv H' p:=by
 obtain⟨x,e,r⟩:=h;exact⟨x,s _ _ e,r⟩
theorem Qv.free {H:Hp}{p l:Addr}(h:Qv H p)(n:H l=none):p≠l:=by
 obtain⟨x,e,r⟩:=h;exact qr e n
theorem Qv.tk {H H':Hp}{p:Addr}(h:Qv H p)(h':Qv H' p)(k:Kept p H H'):Tk H H':=by
 obtain⟨x,e,_⟩:=h;obtain⟨L,I,_⟩:=h';exact k.tk e I
def MB:Nat:=1048576
def sp_take:Sp:=fun vs H Q _=>∃(p:Addr) (many:Int),vs= [.ref p,.int many]/\Qv H p/\0<many/\many<1073741824/\∀(d:Int) (H':Hp),0<=d->d<many->Qv H' p->Kept p H H'->(PotB MB H p->PotB MB H' p)->Q (.int d) H'
def sp_pot:Sp:=fun vs H Q _=>∃(c t:Int),vs= [.int c,.int t]/\intBits c<=MB/\0<=t/\t<1000/\∀(p:Addr) (H':Hp),H p=none->Same H H'->PotB MB H' p->Q (.ref p) H'
theorem qY {n:Nat}(h:n<=1000):n<=sizeLine:=Nat.le_of_lt (yh h)
theorem fits {n:Nat}(h:n<=16000000):n<=sizeLine:=by rw [uL];omega
theorem ZM {α:Type}{xs:List α}{i:Int}{c:α}(h:atI xs i=some c):c∈xs:=by
 unfold atI at h;obtain⟨j,_,e⟩:=Option.bind_eq_some_iff.mp h;exact uJ e
theorem big_bits {n:Nat}{b s:Int}(I:0<=b)(h:intBits b<=32*n)(L:0<=s)(s1:s<2147483629):intBits (b*2147483629+s)<=32*(n+1):=by
 have h1:=intBits_le_iff.mp h;refine intBits_le_iff.mpr ?_;have e:(2:Nat)^(32*(n+1))=2^(32*n)*4294967296:=by rw [Nat.mul_add,Nat.pow_add]
 rw [e];generalize 2^(32*n)=N at h1;omega
section
variable {P:Program}{w:World}{K:PySem.W.Frag}{mg:Str->Option Value}{base:Heap}{a:Ad}
theorem Y2 (T:Tx K mg a):FnOk P w K mg base CX0 1 a.zN a.zI ["pot","many"] sp_take:=by
 refine T.g_law_take.F.ok Xy () (fun _ _ _ _ H _ Q E Y h=> ?_)
 obtain⟨p,many,rfl,⟨x,I,L⟩,hm,M,k⟩:=h;refine⟨_,(@qe _ _ _ _ _ (@qB _ _ (2) _ _ _ _ Xy.nd rfl (Or.inl rfl) (@qT _ _ _ _ _ _ _ _ op_mod (@qF _ _ _ _ _ _ _ qO (pv 0) qj (fun _ _=>rfl)) (pv 1)) () ()) (@qe _ _ _ _ _ (@X5 _ _ _ _ _ _ (@qT _ _ _ _ _ _ _ _ op_fdiv (@qF _ _ _ _ _ _ _ qO (pv 0) qj (fun _ _=>rfl)) (pv 1)) (@pg_sub _ _ _ _ _ _ _ (pv 0) qj set_list ()) () () ()) (@qg _ _ _ (@ql _ _ _ _ (pv 2))))),?_⟩
 refine⟨_,rfl,p,_,_,_,rfl,rfl,SqL.of I,rfl,_,rfl,_,_,rfl,rfl,hm,?_⟩;refine⟨_,rfl,p,_,_,_,rfl,rfl,SqL.of I,rfl,_,rfl,_,_,rfl,rfl,⟨hm,M⟩,_,rfl,p,_,_,_,rfl,rfl,I,rfl,?_⟩;refine⟨_,rfl,?_⟩;refine k _ _ (Int.emod_nonneg _ (by omega)) (Int.emod_lt_of_pos _ hm) ⟨x/many,qh,Int.ediv_nonneg L (by omega)⟩ (Kept.upd _ _ _) fun⟨y,O,R,U⟩=>⟨x/many,qh,Int.ediv_nonneg L (by omega),?_⟩
 have e:=O.symm.trans I;cases e;refine intBits_le_of_natAbs ?_ U;have h1:x/many<=x:=Int.ediv_le_self _ L;have h2:0<=x/many:=Int.ediv_nonneg L (by omega)
 omega
theorem ok_pot (T:Tx K mg a):FnOk P w K mg base CX0 1 a.f_law_pot a.d_law_pot ["cell","salt"] sp_pot:=by
 refine T.g_law_pot.F.ok yz () (fun _ _ _ _ H _ Q E hr h=> ?_)
 obtain⟨c,t,rfl,hc,h0,h1,k⟩:=h;refine⟨_,(@qe _ _ _ _ _ (@qG _ _ _ _ _ _ _ _ (@qm _ _ _ _ _ _ _ _ op_ge (@qk _ _ _ _ _ _ _ _ _ call_abs () T.z_abs boot_abs (@qa _ _ _ _ _ (pv 0) qc ()) () () () ()) (@qT _ _ _ _ _ _ _ _ op_pow qj qj) (qw _)) (@qg _ _ _ (@ql _ _ _ _ (@Qb _ _ _ _ (@qa _ _ _ _ _ (@qk _ _ _ _ _ _ _ _ _ call_abs () T.z_abs boot_abs (@qa _ _ _ _ _ (pv 0) qc ()) () () () ()) qc ())))) qq) (@qe _ _ _ _ _ (@qB _ _ (2) _ _ _ _ yz.nd rfl (Or.inl rfl) (@qT _ _ _ _ _ _ _ _ op_mod (@qT _ _ _ _ _ _ _ _ op_mul (@qT _ _ _ _ _ _ _ _ Qz (@qT _ _ _ _ _ _ _ _ Qz (@qT _ _ _ _ _ _ _ _ op_mod (pv 0) qj) (@qT _ _ _ _ _ _ _ _ op_mul qj (pv 1))) qj) qj) qj) () ()) (@qe _ _ _ _ _ (@qB _ _ (3) _ _ _ _ yz.nd rfl (Or.inl rfl) qj () ()) (@qe _ _ _ _ _ (@Jo _ _ _ _ _ _ _ _ vk rfl (@YV _ _ _ _ _ _ () T.JS (@qa _ _ _ _ _ qj qc ()) ()) (@qQ _ _ (4) _ yz.nd rfl (Or.inl rfl) ()) (@qe _ _ _ _ _ (@qB _ _ (2) _ _ _ _ yz.nd rfl (Or.inl rfl) (@qT _ _ _ _ _ _ _ _ op_mod (@qT _ _ _ _ _ _ _ _ Qz (@qT _ _ _ _ _ _ _ _ Qz (@qT _ _ _ _ _ _ _ _ op_mul (pv 2) (pv 2)) (@qT _ _ _ _ _ _ _ _ op_mul qj (pv 4))) qj) qj) () ()) (@qg _ _ _ (@qB _ _ (3) _ _ _ _ yz.nd rfl (Or.inl rfl) (@qT _ _ _ _ _ _ _ _ Qz (@qT _ _ _ _ _ _ _ _ op_mul (pv 3) qj) (pv 2)) () ()))) ()) (@qg _ _ _ (@ql _ _ _ _ (@Qb _ _ _ _ (@qa _ _ _ _ _ (pv 3) qc ())))))))),?_⟩
 refine⟨_,rfl,_,rfl,_,_,rfl,rfl,⟨by decide,by decide,by decide⟩,_,_,rfl,rfl,_,rfl,?_⟩
 refine ite2 (fun _=> ?_) (fun _=> ?_)
 ·refine⟨_,rfl,_,rfl,(by show 1<=sizeLine;decide),fun p L=> ?_⟩
  refine k p _ L (qb L _) ⟨_,qh,?_,?_⟩
  ·split<;>omega
  ·refine intBits_le_of_natAbs ?_ hc;split<;>omega
 ·refine⟨_,rfl,_,_,rfl,rfl,(by show(0:Int)<2147483647;decide),_,rfl,_,_,rfl,rfl,(.inl ⟨by decide,by decide⟩),_,_,rfl,rfl,_,_,rfl,rfl,_,_,rfl,rfl,(.inr ⟨by decide,by decide⟩),_,_,rfl,rfl,(by show(0:Int)<2147483647;decide),9,rfl,by decide,by decide,?_⟩
  let J1_:Nat->L2.St->Hp->Prop:=fun i σ H'=>∃(x b:Int) (R:Option V),σ= [some (.int c),some (.int t),some (.int x),some (.int b),R]/\0<=x/\x<2147483647/\0<=b/\intBits b<=32*i/\H'=H
  refine Xt (n:=9) J1_ ⟨_,_,none,rfl,Int.emod_nonneg _ (by decide),Int.emod_lt_of_pos _ (by decide),by decide,by decide,rfl⟩ ?_ ?_
  ·rintro i σ H' hi ⟨x,b,R,rfl,U,Y,O,I,rfl⟩;have M:CMul x x:= .inl ⟨by omega,by omega⟩
   refine⟨_,rfl,_,rfl,_,_,rfl,rfl,M,_,rfl,_,_,rfl,rfl,(.inl ⟨by decide,by decide⟩),_,_,rfl,rfl,_,_,rfl,rfl,_,_,rfl,rfl,(by show(0:Int)<2147483629;decide),_,rfl,_,_,rfl,rfl,(.inr ⟨by decide,by decide⟩),_,rfl,_,_,rfl,rfl,?_⟩
   have q0:0<=(x*x+40692*(0+(i:Int))+3)%2147483629:=Int.emod_nonneg _ (by decide)
   have q1:(x*x+40692*(0+(i:Int))+3)%2147483629<2147483629:=Int.emod_lt_of_pos _ (by decide)
   exact⟨_,_,_,rfl,q0,Int.lt_trans q1 (by decide),Int.add_nonneg (Int.mul_nonneg O (by decide)) q0,big_bits O I q0 q1,rfl⟩
  ·rintro σ H' ⟨x,b,R,rfl,U,Y,O,I,rfl⟩;exact⟨_,rfl,(by show 1<=sizeLine;decide),fun p L=>k p _ L (qb L _) ⟨_,qh,O,uP I (by decide)⟩⟩
end
end K47
namespace K47
open PySem L2 PyProof.Rows
theorem Ja {z:Str}(h:300<z.length):QD z=false:=by
 unfold QD;rw [u9 (by omega)]
 rfl
def isTx:D->Bool
 | .str z=>QD z
 |_=>false
def sp_is_text:Sp:=fun vs H Q _=>∃v d,vs= [v]/\Is H d v/\Q (.bl (isTx d)) H
def sp_is_tree:Sp:=fun vs H Q _=>∃v d,vs= [v]/\Is H d v/\∀H',Same H H'->Q (.bl (isT d)) H'
def pr (p:D×Nat):D:= .tup [p.1,.int (p.2:Int)]
theorem okText_bad {z:Str}{i c:Nat}(h:z.cps[i]? =some c)(I:qX c=false):QD z=false:=by
 unfold QD;have hm:c∈z.cps.toList:=by
  have:z.cps.toList[i]? =some c:=by simpa using h
  exact uJ this
 have:z.cps.toList.all qX=false:=by
  rw [List.all_eq_false];exact⟨c,hm,by rw [I];exact u8⟩
 rw [this,Bool.and_false]
section
variable {P:Program}{w:World}{K:PySem.W.Frag}{mg:Str->Option Value}{base:Heap}{a:Ad}
theorem zD (T:Tx K mg a):FnOk P w K mg base CX0 1 a.f_is_text a.d_is_text ["value"] sp_is_text:=by
 refine T.g_is_text.F.ok zm () (fun _ _ _ _ H _ Q E hr h=> ?_)
 obtain⟨v,d,rfl,Y,k⟩:=h;refine⟨_,(@qe _ _ _ _ _ (@qG _ _ _ _ _ _ _ _ (@Yf _ _ _ _ _ _ _ (@Qm _ _ _ _ (@qU _ _ _ (@qk _ _ _ _ _ _ _ _ _ (@qz _ _ rfl) () T.qt uo (@qa _ _ _ _ _ (pv 0) (@qa _ _ _ _ _ (@qV _ _ (.ty "str") _ _ () T.yy vr rfl () ()) qc ()) ()) () () () ()) ())) (@yK _ _ _ _ (@qm _ _ _ _ _ _ _ _ XL (@qk _ _ _ _ _ _ _ _ _ Y3 () T.Qy um (@qa _ _ _ _ _ (pv 0) qc ()) () () () ()) (@pe_gI _ _ _ _ () T.m_MOST_SIGNS ()) (qw _)))).pt (@qg _ _ _ (@ql _ _ _ _ jn)) qq) (@qe _ _ _ _ _ (@Jo _ _ _ _ _ _ _ _ vk rfl (@pi_str _ _ _ _ (pv 0)) (@qQ _ _ (1) _ zm.nd rfl (Or.inl rfl) ()) (@qg _ _ _ (@qG _ _ _ _ _ _ _ _ (@Yf _ _ _ _ _ _ _ (@qm _ _ _ _ _ _ _ _ XB (pv 1) qi (qw _)) (@Yf _ _ _ _ _ _ _ (@qm _ _ _ _ _ _ _ _ op_gt_str (pv 1) qi (qw _)) (@yK _ _ _ _ (@qm _ _ _ _ _ _ _ _ Qg (@qk _ _ _ _ _ _ _ _ _ call_ord () T.z_ord boot_ord (@qa _ _ _ _ _ (pv 1) qc ()) () () () ()) (@pe_gI _ _ _ _ () T.m_PERCENT ()) (qw _))))).pt (@qg _ _ _ (@ql _ _ _ _ jn)) qq)) ()) (@qg _ _ _ (@ql _ _ _ _ jn)))),?_⟩
 refine⟨_,rfl,v,"str",tyD d,isStr d,rfl,Y.ty,Qs d,_,rfl,?_⟩;cases d with
 |str z=>
  obtain⟨rfl,hz⟩:=Y;refine iteF ?_;refine⟨_,rfl,z,rfl,hz,_,_,rfl,rfl,_,rfl,?_⟩;refine ite2 (fun c=> ?_) (fun c=> ?_)
  ·have c':(300:Int)<(z.length:Int):=ua c;have e:isTx (.str z)=false:=Ja (by omega)
   rw [e] at k;exact k
  ·have c':¬(300:Int)<(z.length:Int):=fun q=>c (u0 q);refine⟨_,rfl,z,rfl,?_⟩
   let J1_:Nat->L2.St->Hp->Prop:=fun i σ H'=>(∃x,σ= [some (.str z),x])/\H'=H/\(z.cps.toList.take i).all qX=true
   refine for_str J1_ ⟨⟨_,rfl⟩,rfl,rfl⟩ ?_ ?_
   ·rintro i c σ H' hc ⟨⟨x,rfl⟩,rfl,I⟩;have L:qX c=false->Q (.bl false) H':=fun e=>by
     have e':isTx (.str z)=false:=okText_bad hc e;rw [e'] at k;exact k
    refine⟨_,rfl,_,_,rfl,rfl,_,rfl,?_⟩;rw [show decide ((⟨#[c]⟩:Str).cps.toList<(" ":Str).cps.toList)=decide (c<32) from Zb c 32]
    refine ite2 (fun O=> ?_) (fun O=> ?_)
    ·refine iteT (L ?_);have:=ua O;unfold qX;rw [u9 (by omega)]
     rfl
    ·have aa:¬c<32:=fun q=>O (u0 q);refine⟨_,rfl,_,_,rfl,rfl,_,rfl,?_⟩;rw [show decide (("~":Str).cps.toList<(⟨#[c]⟩:Str).cps.toList)=decide (126<c) from one_gt c 126]
     refine ite2 (fun R=> ?_) (fun R=> ?_)
     ·refine iteT (L ?_);have:=ua R;unfold qX;rw [u9 (p:=c<=126) (by omega),Bool.and_false]
      rfl
     ·have ab:¬126<c:=fun q=>R (u0 q);refine⟨_,rfl,_,rfl,rfl,rfl,_,rfl,?_⟩;refine ite2 (fun U=> ?_) (fun U=> ?_)
      ·have M:c=37:=by
        have:=ua U;have:=V.int.inj this;exact Int.ofNat.inj this
       exact L (by subst M;rfl)
      ·have M:c≠37:=fun q=>U (u0 (by rw [q];rfl))
       refine⟨⟨_,rfl⟩,rfl,?_⟩;rw [U1,show z.cps.toList[i]? =some c by simpa using hc,List.all_append,I]
       show(true&&(qX c&&true))=true;unfold qX;rw [u0 (by omega),u0 (p:=c<=126) (by omega),u0 M]
       rfl
   ·rintro σ H' ⟨⟨x,rfl⟩,rfl,I⟩;have e:isTx (.str z)=true:=by
     show QD z=true;unfold QD;rw [uN (by simp)] at I
     rw [I,u0 (by omega)]
     rfl
    rw [e] at k;exact k
 |_=>exact iteT (iteT k)
theorem map_snoc {α β:Type}(f:α->β)(xs:List α)(x:α):(xs++ [x]).map f=xs.map f++ [f x]:=by simp
theorem last_at {α:Type}(us:List α)(x:α):(us++ [x])[(us++ [x]).length-1]? =some x:=by simp
theorem drop_last {α:Type}(us:List α)(x:α):(us++ [x]).dropLast=us:=by simp
def Wt (v:V)(d:D)(H:Hp)(L:Addr)(m:Nat)(σ:L2.St)(H':Hp):Prop:=
 ∃(n:Nat) (w:List (D×Nat)) (ws:List V) (x3 x4 x5:Option V),σ= [some v,some (.int n),some (.ref L),x3,x4,x5]/\Same H H'/\H' L=some (.lst ws)/\IsL H' (w.map pr) ws/\G w n=isT d/\n<=600/\w.length<=1+40*n/\m=ndL (w.map (·.1))
theorem xa (T:Tx K mg a):FnOk P w K mg base CX0 2 a.f_is_tree a.d_is_tree ["value"] sp_is_tree:=by
 have Xe:=zD (P:=P) (w:=w) (base:=base) T;refine T.g_is_tree.F.ok QX () (fun _ _ _ _ H vs Q E hr h=> ?_)
 obtain⟨v,d,rfl,hv,k⟩:=h;refine⟨_,(@qe _ _ _ _ _ (@qB _ _ (1) _ _ _ _ QX.nd rfl (Or.inl rfl) qj () ()) (@qe _ _ _ _ _ (@qB _ _ (2) _ _ _ _ QX.nd rfl (Or.inl rfl) (@Qb _ _ _ _ (@qa _ _ _ _ _ (@qy _ _ _ _ _ (@qa _ _ _ _ _ (pv 0) (@qa _ _ _ _ _ qj qc ()) ())) qc ())) () ()) (@qe _ _ _ _ _ (@Zy _ _ _ _ _ _ vk (@pt_truth _ _ _ (pv 2) (fun _=>rfl)) (@qe _ _ _ _ _ (@qB _ _ (3) _ _ _ _ QX.nd rfl (Or.inl rfl) (@pe_bm0 _ _ _ _ _ _ _ _ _ v6 PySem.F.slot_list_pop PySem.F.type_list_pop mt_pop (pv 2) () ()) () ()) (@qe _ _ _ _ _ (@qB _ _ (4) _ _ _ _ QX.nd rfl (Or.inl rfl) (@qF _ _ _ _ _ _ _ qR (pv 3) qj (fun _ _=>rfl)) () ()) (@qe _ _ _ _ _ (@qB _ _ (5) _ _ _ _ QX.nd rfl (Or.inr rfl) (@qF _ _ _ _ _ _ _ qR (pv 3) qj (fun _ _=>rfl)) () ()) (@qe _ _ _ _ _ (@qG _ _ _ _ _ _ _ _ (@Y9 _ _ _ _ _ _ _ (@qU _ _ _ (@qk _ _ _ _ _ _ _ _ _ (@qz _ _ rfl) () T.qt uo (@qa _ _ _ _ _ (pv 4) (@qa _ _ _ _ _ (@qV _ _ (.ty "tuple") _ _ () T.Qa uU rfl () ()) qc ()) ()) () () () ()) ()) (@y6 _ _ _ _ (@qm _ _ _ _ _ _ _ _ op_le (@qk _ _ _ _ _ _ _ _ _ xH () T.Qy um (@qa _ _ _ _ _ (pv 4) qc ()) () () () ()) (@pe_gI _ _ _ _ () T.m_MOST_PARTS ()) (qw _)))).pt (@qe _ _ _ _ _ (@ps_aug _ _ (1) _ _ _ _ _ _ QX.nd rfl (Or.inl rfl) qj ip_add ()) (@qg _ _ _ (@yH _ _ _ _ (@Yj _ _ _ _ _ _ _ _ _ _ _ _ v6 PySem.F.slot_list_extend PySem.F.type_list_extend mt_extend (pv 2) (@qa _ _ _ _ _ (@JG _ _ (["below","depth"]) (1) ([5]) _ _ _ _ _ _ _ _ _ (lcsN (qp JH) ["value","size","waiting","pair","part","depth"]) rfl (@Y7 _ _ _ _ (pv 4)) (fun _ _ _ _ _ _=>(@qQ _ _ (0) _ (show List.Nodup (["below","depth"]:List Str) by decide+kernel) rfl (Or.inl rfl) ())) (fun _ _ _ _ _ _=> @QW _) (fun _ _ _ _ _ _=>(@qy _ _ _ _ _ (@qa _ _ _ _ _ (pv 0) (@qa _ _ _ _ _ (@qT _ _ _ _ _ _ _ _ Qz (pv 1) qj) qc ()) ()))) ()) qc ()) () () () () ()) ()))) (@qg _ _ _ (@qG _ _ _ _ _ _ _ _ (@qU _ _ _ (@qv _ _ _ _ _ _ _ _ _ _ _ _ _ _ _ _ Xe (hr.mono ()) () T.g_is_text.m T.g_is_text.F.kp T.g_is_text.b .nil qN (@qa _ _ _ _ _ (pv 4) qc ()) () () ()) ()) (@qg _ _ _ (@ps_aug _ _ (1) _ _ _ _ _ _ QX.nd rfl (Or.inl rfl) (@qT _ _ _ _ _ _ _ _ Qz qj (@qk _ _ _ _ _ _ _ _ _ xH () T.Qy um (@qa _ _ _ _ _ (pv 4) qc ()) () () () ())) ip_add ())) (@qg _ _ _ (@ql _ _ _ _ jn))))) (@qg _ _ _ (@qG _ _ _ _ _ _ _ _ (@Yf _ _ _ _ _ _ _ (@qm _ _ _ _ _ _ _ _ XL (pv 5) (@pe_gI _ _ _ _ () T.m_MOST_DEPTH ()) (qw _)) (@yK _ _ _ _ (@qm _ _ _ _ _ _ _ _ XL (pv 1) (@pe_gI _ _ _ _ () T.m_MOST_SIZE ()) (qw _)))).pt (@qg _ _ _ (@ql _ _ _ _ jn)) qq))))))) (@qg _ _ _ (@ql _ _ _ _ jn))))),?_⟩
 dsimp only [cxOf,Cx.nox];have no:∀{H':Hp}{w:List (D×Nat)}{n:Nat},Same H H'->G w n=isT d->G w n=false->Q (.bl false) H':=fun{H' w n} sm e1 e2=>by
  have q:=k H' sm;rw [<-e1,e2] at q;exact q
 refine⟨_,rfl,(by show 2<=sizeLine;decide),fun t1 h1=>⟨(by show 1<=sizeLine;decide),fun L hL=> ?_⟩⟩
 have s1:Same H (upd H t1 (.tup [v,.int 1])):=qb h1 _;have s2:Same H (upd (upd H t1 (.tup [v,.int 1])) L (.lst [.ref t1])):=s1.trans (qb hL _);have ak:H L=none:=s1.free hL;have i1:Is (upd H t1 (.tup [v,.int 1])) (pr (d,1)) (.ref t1):=Is.new (ds:= [d,.int 1]) ⟨v,_,rfl,hv,_,_,rfl,rfl,rfl⟩ h1;refine⟨Wt v d H L,⟨_,0,[(d,1)],[.ref t1],none,none,none,rfl,s2,qh,IsL.one (i1.mono (qb hL _).tk),G_start d,by omega,by simp,rfl⟩,?_⟩
 rintro m σ H' ⟨n,w,ws,x3,x4,x5,rfl,sm,hl,hw,hG,hn,ap,rfl⟩;refine⟨_,rfl,!ws.isEmpty,.inl ⟨ws,SqL.of hl,rfl⟩,?_⟩;rcases Ug w with rfl|⟨w',⟨e,j⟩,rfl⟩
 ·cases(show ws= [] from hw)
  refine iteF ?_;have q:=k H' sm;rw [<-hG,G_nil hn] at q;exact q
 ·rw [Uh] at*;rw [map_snoc] at hw;obtain⟨us,x,rfl,hu,hx⟩:=hw.unsnoc;have ne:(!(us++ [x]).isEmpty)=true:=by simp
  rw [ne];refine iteT ⟨fun σ' aq=>∃m',m'<ndL ((w'++ [(e,j)]).map (·.1))/\Wt v d H L m' σ' aq,fun _ _ h=>h,?_⟩;have hm:ndL ((w'++ [(e,j)]).map (·.1))=ndL (w'.map (·.1))+nd e:=by
   rw [map_snoc,xb];simp [ndL]
  have av:w'.length<=40*n:=by
   rw [uf,List.length_singleton] at ap;omega
  have lu:=hu.length;rw [ub] at lu;refine⟨_,rfl,.inl ⟨rfl,_,SqL.of hl⟩,L,_,x,rfl,rfl,hl,last_at us x,?_⟩;rw [drop_last];have t2:Tk H' (upd H' L (.lst us)):=Tk.updL hl;have M:Same H (upd H' L (.lst us)):=fun b o z=>by rw [qx (qr z ak)];exact sm b o z
  have ae:Is (upd H' L (.lst us)) (.tup [e,.int (j:Int)]) x:=hx.mono t2;have af:IsL (upd H' L (.lst us)) (w'.map pr) us:=hu.mono t2;have O:upd H' L (.lst us) L=some (.lst us):=qh;generalize upd H' L (.lst us)=H2 at t2 M ae af O⊢;clear t2 hl hx hu sm;refine⟨_,rfl,QO (i:=0) ae rfl fun y hy=> ?_⟩;refine⟨_,rfl,QO (i:=1) ae rfl fun y1 au=> ?_⟩;cases(show y1= .int (j:Int) from au)
  have ad:∀(U:Nat) (w2:List (D×Nat)) (aa:List V) (I:Hp),Same H I->I L=some (.lst aa)->IsL I (w2.map pr) aa->(j<=12->U<=600->G w2 U=isT d)->(12<j∨600<U->isT d=false)->w2.length<=1+40*U->ndL (w2.map (·.1))<ndL ((w'++ [(e,j)]).map (·.1))->
    ∃ab,[some v,some (V.int (U:Int)),some (V.ref L),some x,some y,some (V.int (j:Int))][5]? =some (some ab)/\∃i Y,ab=V.int i/\V.int 12=V.int Y/\∃k,V.bl (decide (Y<i))=V.bl k/\
     if k=true then if true=true then Q (.bl false) I else∃m',m'<ndL ((w'++ [(e,j)]).map (·.1))/\Wt v d H L m' [some v,some (V.int (U:Int)),some (V.ref L),some x,some y,some (V.int (j:Int))] I
     else∃al,[some v,some (V.int (U:Int)),some (V.ref L),some x,some y,some (V.int (j:Int))][1]? =some (some al)/\∃i Y,al=V.int i/\V.int 600=V.int Y/\∃k,V.bl (decide (Y<i))=V.bl k/\
      if k=true then Q (.bl false) I else∃m',m'<ndL ((w'++ [(e,j)]).map (·.1))/\Wt v d H L m' [some v,some (V.int (U:Int)),some (V.ref L),some x,some y,some (V.int (j:Int))] I:=by
   intro U w2 aa I s3 l3 i3 g3 b3 am m3;have ao:isT d=false->Q (.bl false) I:=fun e=>by
    have q:=k I s3;rw [e] at q;exact q
   refine⟨_,rfl,_,_,rfl,rfl,_,rfl,?_⟩;refine ite2 (fun c=>iteT (ao (b3 (.inl ?_)))) (fun c=>⟨_,rfl,_,_,rfl,rfl,_,rfl,?_⟩)
   ·have:=ua c;omega
   ·have c':¬(12:Int)<(j:Int):=fun q=>c (u0 q);refine ite2 (fun c2=>ao (b3 (.inr ?_))) (fun c2=> ?_)
    ·have:=ua c2;omega
    ·have aw:¬(600:Int)<(U:Int):=fun q=>c2 (u0 q);exact⟨_,m3,U,w2,aa,_,_,_,rfl,s3,l3,i3,g3 (by omega) (by omega),by omega,am,rfl⟩
  refine⟨_,rfl,y,"tuple",tyD e,jo e,rfl,hy.ty,yM e,_,rfl,?_⟩;cases e with
  |tup xs=>
   refine iteT ?_;obtain⟨a0,vs,rfl,ac,ag⟩:=hy;have lv:=ag.length;refine⟨_,rfl,_,vs.length,rfl,.inr ⟨vs,SqT.of ac,rfl⟩,_,_,rfl,rfl,_,rfl,?_⟩;refine ite2 (fun c=> ?_) (fun c=> ?_)
   ·have c':(vs.length:Int)<=40:=ua c;refine⟨_,rfl,_,_,rfl,rfl,?_⟩;refine⟨_,rfl,.inl ⟨rfl,_,SqL.of O⟩,_,rfl,a0,vs,rfl,SqT.of ac,fun ax A0 ah=> ?_⟩;refine Jc (tl:= [some (.int (j:Int))]) (fun d0=> .tup [d0,.int ((j+1:Nat):Int)]) ac ag (fits (by omega)) ah (fun d0 x0 I R _ s3 i3 r=> ?_) fun I ys s3 l3 i3=> ?_
    ·refine⟨_,rfl,_,rfl,_,_,rfl,rfl,(by show 2<=sizeLine;decide),fun p hp=> ?_⟩
     exact r _ _ (qb hp _) (Is.new (ds:= [d0,.int ((j+1:Nat):Int)]) ⟨x0,_,rfl,i3,_,_,rfl,rfl,rfl⟩ hp)
    ·have ly:=i3.length;rw [ub] at ly;have eA:A0≠L:=fun z=>by rw [z,O] at ah;cases ah
     refine⟨L,A0,us,ys,rfl,rfl,s3 _ _ O,l3,fits (by omega),?_⟩
     have t4:Tk I (upd I L (.lst (us++ys))):=Tk.updL (s3 _ _ O);have em:(w'++xs.map fun d0=>(d0,j+1)).map pr=w'.map pr++xs.map fun d0=> .tup [d0,.int ((j+1:Nat):Int)]:=by
      rw [uE,uT];rfl
     have ef:(w'++xs.map fun d0=>(d0,j+1)).map (·.1)=w'.map (·.1)++xs:=by
      rw [uE,uT]
      congr 1
      exact List.map_id xs
     refine ad (n+1) (w'++xs.map fun d0=>(d0,j+1)) (us++ys) _ (fun b o z=>by rw [qx (qr z ak)];exact s3 b o (M b o z)) qh (by rw [em];exact((af.mono s3.tk).mono t4).append (i3.mono t4)) (fun h1 h2=> ?_) (fun h=> ?_) ?_ ?_
     ·rw [<-hG,G_tup (by omega) h1]
     ·rw [<-hG];rcases h with h|h
      ·exact G_deep h
      ·exact G_big1 h
     ·rw [uf,ub];omega
     ·rw [ef,hm,xb];simp only [nd];omega
   ·have c':¬(vs.length:Int)<=40:=fun q=>c (u0 q);refine⟨_,rfl,_,.tup xs,rfl,(show Is _ (.tup xs) (.ref a0) from⟨a0,vs,rfl,ac,ag⟩),_,rfl,?_⟩
    refine iteF ?_;refine no M hG (G_bad ?_);simp only [good];rw [u9 (by omega)]
    rfl
  |str z=>
   refine iteF ?_;obtain⟨rfl,hz⟩:=hy;refine⟨_,rfl,_,.str z,rfl,⟨rfl,hz⟩,_,rfl,?_⟩;cases ht:QD z with
   |false=>
    have e1:isTx (.str z)=false:=ht;rw [e1];refine iteF ?_;refine no M hG (G_bad ?_);simp only [good];exact ht
   |true=>
    have e1:isTx (.str z)=true:=ht;rw [e1];refine iteT ?_;refine⟨_,rfl,_,rfl,_,z.length,rfl,⟨hz,rfl⟩,_,_,rfl,rfl,_,_,rfl,rfl,?_⟩;have en:(n:Int)+(1+(z.length:Int))=((n+(1+z.length):Nat):Int):=by omega
    show∃ab,[some v,some (V.int ((n:Int)+(1+(z.length:Int)))),some (V.ref L),some x,some (V.str z),some (V.int (j:Int))][5]? =some (some ab)/\_;rw [en];refine ad (n+(1+z.length)) w' us _ M O af (fun h1 h2=> ?_) (fun h=> ?_) (by omega) (by rw [hm];simp only [nd];omega)
    ·rw [<-hG,G_str ht h1]
    ·rw [<-hG];rcases h with h|h
     ·exact G_deep h
     ·refine G_big ?_;simp only [sz];omega
  |_=>
   refine iteF ?_;refine⟨_,rfl,_,_,rfl,hy,_,rfl,?_⟩;exact iteF (no M hG (G_bad rfl))
def LET:Str:="abcdefghijklmnopqrstuvwxyz"
def NSG:Str:="abcdefghijklmnopqrstuvwxyz0123456789./"
noncomputable def nm (z:Str):Bool:=decide (1<=(z.length:Int))&&decide ((z.length:Int)<=24)&&inS ⟨#[z.cps.getD 0 0]⟩ LET&&(z.cps.toList.map fun c=>inS ⟨#[c]⟩ NSG).all id
def isNm:D->Bool
 | .str z=>nm z
 |_=>false
def sp_name:Sp:=fun vs H Q _=>∃v d,vs= [v]/\Is H d v/\∀H',Same H H'->Q (.bl (isNm d)) H'
theorem xL {z:Str}(h:1<=z.length):atI z.cps.toList 0=some (z.cps.getD 0 0):=by
 have h':0<z.cps.size:=h;have q:z.cps.toList[0]? =some (z.cps.getD 0 0):=by simp [Array.getD,h']
 exact qS q
theorem allMap (z:Str):(z.cps.toList.map fun c=>V.bl (inS ⟨#[c]⟩ NSG))=(z.cps.toList.map fun c=>inS ⟨#[c]⟩ NSG).map V.bl:=by
 rw [uT]
 rfl
theorem nm_len {z:Str}(h:¬(1<=(z.length:Int)/\(z.length:Int)<=24)):nm z=false:=by
 unfold nm;by_cases h1:1<=(z.length:Int)
 ·have h2:¬(z.length:Int)<=24:=fun q=>h ⟨h1,q⟩;rw [u9 h2];simp
 ·rw [u9 h1];simp
theorem nm_first {z:Str}(h:inS ⟨#[z.cps.getD 0 0]⟩ LET=false):nm z=false:=by
 unfold nm;rw [h];simp
theorem nm_rest {z:Str}(h1:1<=(z.length:Int))(h2:(z.length:Int)<=24)(h:inS ⟨#[z.cps.getD 0 0]⟩ LET=true):nm z=(z.cps.toList.map fun c=>inS ⟨#[c]⟩ NSG).all id:=by
 unfold nm;rw [h,u0 h1,u0 h2];simp
theorem ok_name (T:Tx K mg a):FnOk P w K mg base CX0 1 a.f_is_name a.d_is_name ["value"] sp_name:=by
 refine T.g_is_name.F.ok sc_is_name () (fun _ _ _ _ H _ Q E hr h=> ?_)
 obtain⟨x,d,rfl,Y,k⟩:=h;refine⟨_,(@qe _ _ _ _ _ (@qG _ _ _ _ _ _ _ _ (@Yf _ _ _ _ _ _ _ (@Qm _ _ _ _ (@qU _ _ _ (@qk _ _ _ _ _ _ _ _ _ (@qz _ _ rfl) () T.qt uo (@qa _ _ _ _ _ (pv 0) (@qa _ _ _ _ _ (@qV _ _ (.ty "str") _ _ () T.yy vr rfl () ()) qc ()) ()) () () () ()) ())) (@yK _ _ _ _ (@Qm _ _ _ _ (@pt_chain _ _ _ _ _ _ _ _ _ _ _ _ op_le op_le qj (@qk _ _ _ _ _ _ _ _ _ Y3 () T.Qy um (@qa _ _ _ _ _ (pv 0) qc ()) () () () ()) (@pe_gI _ _ _ _ () T.J0 ()) ())))).pt (@qg _ _ _ (@ql _ _ _ _ jn)) qq) (@qe _ _ _ _ _ (@qG _ _ _ _ _ _ _ _ (@qm _ _ _ _ _ _ _ _ xm (@qF _ _ _ _ _ _ _ ix_str (pv 0) qj (fun _ _=>rfl)) (@pe_gS _ _ _ _ () T.m_LETTERS ()) (by with_unfolding_all rfl)) (@qg _ _ _ (@ql _ _ _ _ jn)) qq) (@qg _ _ _ (@ql _ _ _ _ (@qk _ _ _ _ _ _ _ _ _ (@yL _ rfl) () T.z_all boot_all (@qa _ _ _ _ _ (@JG _ _ (["sign"]) (1) ([]) _ _ _ _ _ _ _ _ _ (lcs0) rfl (@pi_str _ _ _ _ (pv 0)) (fun _ _ _ _ _ _=>(@qQ _ _ (0) _ (show List.Nodup (["sign"]:List Str) by decide+kernel) rfl (Or.inl rfl) ())) (fun _ _ _ _ _ _=> @QW _) (fun _ _ _ _ _ _=>(@QG _ _ _ _ _ _ _ _ op_in_str (pv 0) (@pe_gS _ _ _ _ () T.m_NAME_SIGNS ()) (by with_unfolding_all rfl))) ()) qc ()) () () () ()))))),?_⟩
 refine⟨_,rfl,x,"str",tyD d,isStr d,rfl,Y.ty,Qs d,_,rfl,?_⟩;cases hd:isStr d with
 |false=>
  refine iteT (iteT ?_);have:=k H (Same.refl H);have e:isNm d=false:=by cases d<;>first|rfl|simp [isStr] at hd
  rw [e] at this;exact this
 |true=>
  obtain⟨z,rfl⟩:∃z,d= .str z:=by cases d<;>simp [isStr] at hd;exact⟨_,rfl⟩
  obtain⟨rfl,L⟩:=Y;have k:∀H',Same H H'->Q (.bl (nm z)) H':=k;refine iteF ?_;refine⟨_,rfl,z,rfl,L,_,_,rfl,rfl,_,rfl,?_⟩;have stop:nm z=false->Q (.bl false) H:=fun e=>by
   have:=k H (Same.refl H);rw [e] at this;exact this
  refine ite2 (fun M=> ?_) (fun M=> ?_)
  ·have O:1<=(z.length:Int):=ua M;refine⟨_,_,rfl,rfl,_,rfl,?_⟩;by_cases I:(z.length:Int)<=24
   ·rw [u0 I];refine iteF ?_;refine⟨_,rfl,_,_,_,rfl,rfl,L,xL (by omega),_,_,rfl,rfl,_,rfl,?_⟩
    cases e:inS ⟨#[z.cps.getD 0 0]⟩ LET with
    |false=>
     have U:(!(Builtin.Str.occurrences ("abcdefghijklmnopqrstuvwxyz":Str) ⟨#[z.cps.getD 0 0]⟩ 0 ("abcdefghijklmnopqrstuvwxyz":Str).length 1).isEmpty)=false:=e;rw [U];refine iteT ?_;exact stop (nm_first e)
    |true=>
     have U:(!(Builtin.Str.occurrences ("abcdefghijklmnopqrstuvwxyz":Str) ⟨#[z.cps.getD 0 0]⟩ 0 ("abcdefghijklmnopqrstuvwxyz":Str).length 1).isEmpty)=true:=e;rw [U];refine iteF ?_;refine⟨_,rfl,z,rfl,fun D hD=> ?_⟩;refine lc_str (fun c=> .bl (inS ⟨#[c]⟩ NSG)) (L) hD (fun i c H' R hc sm r=>⟨_,rfl,_,_,rfl,rfl,r⟩) fun H' sm hl=> ?_;refine⟨D,z.cps.toList.map fun c=>inS ⟨#[c]⟩ NSG,rfl,SqL.of (by rw [hl,allMap]),?_⟩
     have:=k H' sm;rw [nm_rest O I e] at this;exact this
   ·rw [u9 I];refine iteT ?_;exact stop (nm_len fun q=>I q.2)
  ·refine⟨_,rfl,?_⟩;refine iteT ?_;exact stop (nm_len fun q=>M (u0 q.1))
end
def optD:Option Pt->D
 |none=> .non
 |some p=>p.d
def sp_part:Sp:=fun vs H Q _=>∃(n:Nat) (kd:Kd) (z:Str),vs= [.str kd.t,.str z,.int (n:Int)]/\n<=40/\z.length<=300/\∀(v:V) (H':Hp),Same H H'->Is H' (optD (yj n kd z)) v->Q v H'
def sp_pieces (K:PySem.W.Frag):Sp:=fun vs H Q _=>∃(z:Str) (ks:List Kd) (q:Addr),vs= [.str z,.ref q]/\z.length<=300/\ks.length<=3/\SqT K H q (ks.map fun k=>V.str k.t)/\∀p,H p=none->Q (.ref p) (upd H p (.lst ((pcs ks z).map V.str)))
theorem qo {c:Bool}{A B:Prop}(h:c=false)(b:B):if c=true then A else B:=by rw [if_neg (by rw [h];exact u8)];exact b
theorem qA {c:Bool}{A B:Prop}(h:c=true)(a:A):if c=true then A else B:=by rw [if_pos h];exact a
theorem JQ (ks:List Kd):(ks.map fun k=>V.str k.t)=(ks.map Kd.t).map V.str:=by rw [uT];rfl
theorem words_in (ks:List Kd):inV (.str "words") (ks.map fun k=>V.str k.t)=decide (Kd.words∈ks):=by
 rw [JQ,jG,uA,List.mem_map];constructor
 ·rintro⟨k,I,e⟩;cases k with
  |words=>exact I
  |box=>exact absurd e (by decide+kernel)
  |line=>exact absurd e (by decide+kernel)
 ·intro h;exact⟨_,h,rfl⟩
theorem form_few:∀x∈FRM,x.2.length<=3:=by decide+kernel
theorem Zp {n:Nat}{z:Str}(h:z∉BX):yj n .box z=none:=by
 unfold yj;exact if_neg h
theorem JD {n:Nat}{z:Str}(h:z∈BX):yj n .box z=some (.s z):=by
 unfold yj;exact if_pos h
theorem zd {n:Nat}{z:Str}(h:z∉(List.range n).map fun i:Nat=>(toString (1+(i:Int)):Str)):yj n .line z=none:=by
 unfold yj;rw [Option.map_eq_none_iff,UC];intro i hi e;exact h (List.mem_map.mpr ⟨i,hi,ua e⟩)
theorem js {n:Nat}{z:Str}(h:z∈(List.range n).map fun i:Nat=>(toString (1+(i:Int)):Str)):∃j:Int,1<=j/\j<=n/\z=(Pt.n j).t/\yj n .line z=some (.n j):=by
 obtain⟨i,hi,e⟩:=List.mem_map.mp h;unfold yj;cases e2:(List.range n).find? fun i:Nat=>decide ((toString (1+(i:Int)):Str)=z) with
 |none=>exact absurd (u0 e) (List.find?_eq_none.mp e2 i hi)
 |some j=>
  have h1:=List.find?_some e2;have h2:=List.mem_range.mp (Up e2);exact⟨1+(j:Int),by omega,by omega,(ua h1).symm,by show Option.map _ _=_;rw [e2];rfl⟩
section
variable {P:Program}{w:World}{K:PySem.W.Frag}{mg:Str->Option Value}{base:Heap}{a:Ad}{g:Ga}
theorem ok_part (T:Tx K mg a)(C:Fx K w mg g a):FnOk P w K mg base CX0 1 a.f_part_of a.d_part_of ["kind","piece","count"] sp_part:=by
 refine T.g_part_of.F.ok zS () (fun _ _ _ _ H _ Q E hr h=> ?_)
 obtain⟨n,kd,z,rfl,hn,hz,k⟩:=h;refine⟨_,(@qe _ _ _ _ _ (@qG _ _ _ _ _ _ _ _ (@qm _ _ _ _ _ _ _ _ Qg (pv 0) qi (qw _)) (@qg _ _ _ (@ql _ _ _ _ (pv 1))) qq) (@qe _ _ _ _ _ (@qG _ _ _ _ _ _ _ _ (@qm _ _ _ _ _ _ _ _ Qg (pv 0) qi (qw _)) (@qg _ _ _ (@ql _ _ _ _ (@yR _ _ _ _ _ _ _ _ (@qm _ _ _ _ _ _ _ _ Qr (pv 1) (@Jm _ _ _ _ () C.m_BOXES ()) (by with_unfolding_all rfl)) (pv 1) Qe))) qq) (@qe _ _ _ _ _ (@ps_setLC _ _ (["number"]) (1) ([]) (3) _ _ _ _ _ _ _ _ _ _ _ _ zS.nd rfl (Or.inl rfl) (lcs0) rfl (@pi_range2 _ _ _ _ _ _ _ () T.JS (@qa _ _ _ _ _ qj (@qa _ _ _ _ _ (@qT _ _ _ _ _ _ _ _ Qz (pv 2) qj) qc ()) ()) () ()) (fun _ _ _ _ _ _=>(@qQ _ _ (0) _ (show List.Nodup (["number"]:List Str) by decide+kernel) rfl (Or.inl rfl) ())) (fun _ _ _ _ _ _=> @QW _) (fun _ _ _ _ _ _=>(@qP _ _ _ _ _ _ _ _ _ yN () T.yy vr (@qa _ _ _ _ _ (pv 0) qc ()) () () () ())) () () ()) (@qg _ _ _ (@ql _ _ _ _ (@yR _ _ _ _ _ _ _ _ (@qm _ _ _ _ _ _ _ _ Qr (pv 1) (pv 3) (by with_unfolding_all rfl)) (@qP _ _ _ _ _ _ _ _ _ call_intS () T.z_int boot_int (@qa _ _ _ _ _ (pv 1) qc ()) () () () ()) Qe)))))),?_⟩
 refine⟨_,rfl,rfl,_,rfl,?_⟩;cases kd with
 |words=>
  refine qA (by decide+kernel) ⟨_,rfl,?_⟩
  exact k _ H (Same.refl _) ⟨rfl,qY (by omega)⟩
 |box=>
  refine qo (by decide+kernel) ⟨_,rfl,rfl,_,rfl,?_⟩
  refine qA (by decide+kernel) ⟨_,rfl,g.boxes,_,rfl,.inr (C.boxes _),rfl,XN _,_,rfl,?_⟩
  rw [if_neg u8,jG];refine ite2 (fun c=> ?_) (fun c=> ?_)
  ·have O:z∈BX:=ua c;rw [JD O] at k;exact⟨_,rfl,k _ H (Same.refl _) ⟨rfl,qY (by omega)⟩⟩
  ·have O:z∉BX:=fun q=>c (u0 q);rw [Zp O] at k;exact k _ H (Same.refl _) rfl
 |line=>
  refine qo (by decide+kernel) ⟨_,rfl,rfl,_,rfl,?_⟩
  refine qo (by decide+kernel) ?_
  refine⟨_,rfl,_,_,rfl,rfl,1,(n:Int)+1,rfl,⟨by decide,by decide,by omega,by omega⟩,fun L Y=> ?_⟩
  rw [show((n:Int)+1-1).toNat=n by omega]
  refine ZJ (lo:=1) (tl:= []) (fun i ys H'=>ys=(List.range i).map (fun i:Nat=>V.str (toString (1+(i:Int))))/\Same H H') (fits (by omega)) ⟨rfl,qb Y _⟩ ?_ ?_
  ·rintro i ys H' hi ⟨rfl,M⟩ I U R hR;refine⟨_,rfl,_,rfl,?_,hR _ _ I ⟨?_,?_⟩⟩
   ·have h1:(1+(i:Int)).natAbs<=41:=by omega
    have h2:=UL (1+(i:Int)).natAbs;omega
   ·rw [List.range_succ,uE]
    rfl
   ·intro b o e;rw [qx (qr e Y)];exact M b o e
  ·rintro ys H' ⟨rfl,M⟩ I;have U:(List.range n).map (fun i:Nat=>V.str (toString (1+(i:Int))))=((List.range n).map fun i:Nat=>(toString (1+(i:Int)):Str)).map V.str:=by rw [uT];rfl
   refine⟨_,rfl,_,rfl,L,_,rfl,.inl (SqL.of I),rfl,by rw [U];exact XN _,_,rfl,?_⟩
   rw [if_neg u8,U,jG];refine ite2 (fun c=> ?_) (fun c=> ?_)
   ·obtain⟨j,j1,j2,rfl,ej⟩:=js (ua c);rw [ej] at k;have hj:=Yk j1 (by omega)
    exact⟨_,rfl,_,j,rfl,xR j1 (by omega),uP hj.1 (by decide),k _ _ M rfl⟩
   ·rw [zd fun q=>c (u0 q)] at k;exact k _ _ M rfl
theorem ok_pieces (T:Tx K mg a):FnOk P w K mg base CX0 1 a.Xi a.XU ["line","form"] (sp_pieces K):=by
 refine T.g_pieces_of.F.ok sc_pieces_of () (fun _ _ _ _ H _ Q E O h=> ?_)
 obtain⟨z,ks,q,rfl,R,U,L,k⟩:=h;refine⟨_,(@qe _ _ _ _ _ (@qG _ _ _ _ _ _ _ _ (@qm _ _ _ _ _ _ _ _ Qr qi (pv 1) (by with_unfolding_all rfl)) (@qg _ _ _ (@ql _ _ _ _ (@Yj _ _ _ _ _ _ _ _ _ _ _ _ uH vz vA mt_splitN (pv 0) (@qa _ _ _ _ _ qi (@qa _ _ _ _ _ (@qk _ _ _ _ _ _ _ _ _ qE () T.Qy um (@qa _ _ _ _ _ (pv 1) qc ()) () () () ()) qc ()) ()) () () () () ()))) qq) (@qg _ _ _ (@ql _ _ _ _ (@Yj _ _ _ _ _ _ _ _ _ _ _ _ uH vz vA Zj (pv 0) (@qa _ _ _ _ _ qi qc ()) () () () () ())))),?_⟩
 refine⟨_,rfl,q,_,rfl,.inr L,rfl,by rw [JQ];exact XN _,_,rfl,?_⟩
 rw [if_neg u8,words_in];unfold pcs at k;refine ite2 (fun c=> ?_) (fun c=> ?_)
 ·have I:Kd.words∈ks:=ua c;rw [if_pos I] at k;have M:0<ks.length:=List.length_pos_iff.mpr fun e=>by rw [e] at I;simp at I
  exact⟨_,rfl,rfl,_,rfl,q,_,rfl,.inr L,_,ks.length,rfl,by rw [ub],by omega,M,by omega,k⟩
 ·have I:Kd.words∉ks:=fun z=>c (u0 z);rw [if_neg I] at k;exact⟨_,rfl,rfl,_,rfl,rfl,by omega,k⟩
def optR:Option Rw->D
 |none=> .non
 |some r=>rowD r
def Ql (n:Nat):D->Option Rw
 | .str z=>zi n z
 |_=>none
def sp_row_of:Sp:=fun vs H Q _=>∃(v:V) (d:D) (n:Nat),vs= [v,.int (n:Int)]/\Is H d v/\n<=40/\∀(v':V) (H':Hp),Same H H'->Is H' (optR (Ql n d)) v'->Q v' H'
theorem rowOfD_bad {n:Nat}:∀{d:D},isTx d=false->Ql n d=none
 | .str z,h=>by
  show zi n z=none;unfold zi;exact if_neg (by rw [show QD z=false from h];exact u8)
 | .non,_=>rfl
 | .int _,_=>rfl
 | .bl _,_=>rfl
 | .lst,_=>rfl
 | .dct,_=>rfl
 | .tup _,_=>rfl
theorem txt_str:∀{d:D},isTx d=true->∃z,d= .str z
 | .str z,_=>⟨z,rfl⟩
def YH (n:Nat)(ks:List Kd)(zs:List Str):List (Option Pt):=List.zipWith (yj n) ks zs
theorem Zc {n:Nat}:∀{ks:List Kd}{zs:List Str},(YH n ks zs).any Option.isNone=true->ym n ks zs=none
 | [],_,h=>by simp [YH] at h
 |_::_,[],h=>by simp [YH] at h
 |k::ks,z::zs,h=>by
  rw [YH,List.zipWith_cons_cons,Ui,Bool.or_eq_true] at h;unfold ym;rcases h with h|h
  ·rw [Option.isNone_iff_eq_none.mp h]
  ·rw [Zc h];split
   ·rename_i h1 h2;cases h2
   ·rfl
theorem zR {n:Nat}:∀{ks:List Kd}{zs:List Str},zs.length=ks.length->(YH n ks zs).any Option.isNone=false->∃ps,ym n ks zs=some ps/\YH n ks zs=ps.map some
 | [],[],_,_=>⟨[],rfl,rfl⟩
 | [],_::_,hl,_=>by simp at hl
 |_::_,[],hl,_=>by simp at hl
 |k::ks,z::zs,hl,h=>by
  rw [YH,List.zipWith_cons_cons,Ui,Bool.or_eq_false_iff] at h;obtain⟨ps,e1,e2⟩:=zR (ks:=ks) (zs:=zs) (by simpa using hl) h.2
  cases e:yj n k z with
  |none=>rw [e] at h;cases h.1
  |some p=>
   refine⟨p::ps,?_,?_⟩
   ·unfold ym;rw [e,e1]
   ·rw [YH,List.zipWith_cons_cons,e,uj]
    congr 1
theorem vals_o {H:Hp}:∀{os:List (Option Pt)}{vs:List V},L2.IsL H (os.map optD) vs->vs.all xy=true/\inV .non vs=os.any Option.isNone
 | [],_,h=>by cases(show _= [] from h);exact⟨rfl,rfl⟩
 |q::ps,_,h=>by
  obtain⟨v,r,rfl,h1,h2⟩:=h;obtain⟨L,M⟩:=vals_o h2;have I:xy v=true/\eqV v .non=q.isNone:=by
   cases q with
   |none=>cases(show v= .non from h1);exact⟨rfl,rfl⟩
   |some q=>
    cases q with
    |s z=>obtain⟨rfl,_⟩:=h1;exact⟨rfl,rfl⟩
    |n i=>cases(show v= .int i from h1);exact⟨rfl,rfl⟩
  refine⟨?_,?_⟩
  ·rw [vm,I.1,L];rfl
  ·show(eqV v .non||inV .non r)=_
   rw [I.2,M];rfl
theorem range_map {α:Type}(l:List α)(h:α->D)(f:Nat->D)(I:∀i q,l[i]? =some q->f i=h q):(List.range l.length).map f=l.map h:=by
 apply List.ext_getElem
 ·simp
 ·intro i h1 h2;simp only [ub,List.length_range] at h1;simp only [List.getElem_map,List.getElem_range];exact I i l[i] (ul h1)
theorem ok_row_of (T:Tx K mg a)(C:Fx K w mg g a):FnOk P w K mg base CX0 2 a.f_row_of a.d_row_of ["line","count"] sp_row_of:=by
 have Xe:=zD (P:=P) (w:=w) (base:=base) T;have M:=ok_part (P:=P) (w:=w) (base:=base) T C;have I:=ok_pieces (P:=P) (w:=w) (base:=base) T;refine T.g_row_of.F.ok Y1 () (fun _ _ _ _ H vs Q E hr h=> ?_)
 obtain⟨v,d,n,rfl,hv,hn,k⟩:=h;refine⟨_,(@qe _ _ _ _ _ (@qG _ _ _ _ _ _ _ _ (@Qm _ _ _ _ (@qU _ _ _ (@qv _ _ _ _ _ _ _ _ _ _ _ _ _ _ _ _ Xe (hr.mono ()) () T.g_is_text.m T.g_is_text.F.kp T.g_is_text.b .nil qN (@qa _ _ _ _ _ (pv 0) qc ()) () () ()) ())) (@qg _ _ _ (@ql _ _ _ _ Qe)) qq) (@qe _ _ _ _ _ (@qB _ _ (2) _ _ _ _ Y1.nd rfl (Or.inl rfl) (@qF _ _ _ _ _ _ _ qR (@Yj _ _ _ _ _ _ _ _ _ _ _ _ uH PySem.F.slot_str_partition PySem.F.type_str_partition mt_part (pv 0) (@qa _ _ _ _ _ qi qc ()) () () () () ()) qj (fun _ _=>rfl)) () ()) (@qe _ _ _ _ _ (@qG _ _ _ _ _ _ _ _ (@qm _ _ _ _ _ _ _ _ op_notK (pv 2) (@Jm _ _ _ _ () C.m_FORMS ()) (by with_unfolding_all rfl)) (@qg _ _ _ (@ql _ _ _ _ Qe)) qq) (@qe _ _ _ _ _ (@qB _ _ (3) _ _ _ _ Y1.nd rfl (Or.inl rfl) (@qF _ _ _ _ _ _ _ ix_K (@Jm _ _ _ _ () C.m_FORMS ()) (pv 2) (fun _ _=>rfl)) () ()) (@qe _ _ _ _ _ (@qB _ _ (4) _ _ _ _ Y1.nd rfl (Or.inl rfl) (@qv _ _ _ _ _ _ _ _ _ _ _ _ _ _ _ _ I (hr.mono ()) () T.g_pieces_of.m T.g_pieces_of.F.kp T.g_pieces_of.b .nil qN (@qa _ _ _ _ _ (pv 0) (@qa _ _ _ _ _ (pv 3) qc ()) ()) () () ()) () ()) (@qe _ _ _ _ _ (@qG _ _ _ _ _ _ _ _ (@qm _ _ _ _ _ _ _ _ op_ne (@qk _ _ _ _ _ _ _ _ _ qE () T.Qy um (@qa _ _ _ _ _ (pv 4) qc ()) () () () ()) (@qT _ _ _ _ _ _ _ _ Qz qj (@qk _ _ _ _ _ _ _ _ _ qE () T.Qy um (@qa _ _ _ _ _ (pv 3) qc ()) () () () ())) (qw _)) (@qg _ _ _ (@ql _ _ _ _ Qe)) qq) (@qe _ _ _ _ _ (@qB _ _ (5) _ _ _ _ Y1.nd rfl (Or.inl rfl) (@qP _ _ _ _ _ _ _ _ _ qL () T.Qa uU (@qa _ _ _ _ _ (@JG _ _ (["kind","piece","count"]) (2) ([1]) _ _ _ _ _ _ _ _ _ (lcsN (qp xJ) ["line","count","word","form","pieces","parts"]) rfl (@pi_zip _ _ _ _ _ _ _ _ _ () T.z_zip (@qa _ _ _ _ _ (pv 3) (@qa _ _ _ _ _ (@Qn _ _ _ _ _ _ _ _ _ _ sl_list (pv 4) (@QA _ _ _ qj) QJ) qc ()) ()) () ()) (fun _ _ _ _ _ _=>(@pg_tupK _ (K) _ _ _ (2) _ rfl rfl (Qq (@qQ _ _ (0) _ (show List.Nodup (["kind","piece","count"]:List Str) by decide+kernel) rfl (Or.inl rfl) ()) (Qq (@qQ _ _ (1) _ (show List.Nodup (["kind","piece","count"]:List Str) by decide+kernel) rfl (Or.inl rfl) ()) YT)) () ())) (fun _ _ _ _ _ _=> @QW _) (fun _ _ _ _ _ _=>(@qv _ _ _ _ _ _ _ _ _ _ _ _ _ _ _ _ M (hr.mono ()) () T.g_part_of.m T.g_part_of.F.kp T.g_part_of.b .nil qN (@qa _ _ _ _ _ (pv 0) (@qa _ _ _ _ _ (pv 1) (@qa _ _ _ _ _ (pv 2) qc ()) ()) ()) () () ())) ()) qc ()) () () () ()) () ()) (@qg _ _ _ (@ql _ _ _ _ (@yR _ _ _ _ _ _ _ _ (@qm _ _ _ _ _ _ _ _ Qr Qe (pv 5) (by with_unfolding_all rfl)) Qe (@qy _ _ _ _ _ (@qa _ _ _ _ _ (pv 2) (@qa _ _ _ _ _ (pv 5) qc ()) ())))))))))))),?_⟩
 dsimp only [cxOf,Cx.nox];refine⟨_,rfl,v,d,rfl,hv,_,rfl,?_⟩;cases e0:isTx d with
 |false=>
  rw [rowOfD_bad e0] at k;exact qA rfl (k _ H (Same.refl _) rfl)
 |true=>
 obtain⟨z,rfl⟩:=txt_str e0;obtain⟨rfl,am⟩:=hv;have ht:QD z=true:=e0;have hz:z.length<=300:=by
  have L:=ht;unfold QD at L;rw [ui,U2] at L;exact L.1
 have k:∀(v':V) (H':Hp),Same H H'->Is H' (optR (zi n z)) v'->Q v' H':=k;refine qo rfl ?_;refine⟨_,rfl,rfl,_,rfl,rfl,by omega,fun t1 x1 x2 g1=> ?_⟩
 refine⟨t1,_,0,_,rfl,rfl,SqT.of qh,rfl,?_⟩;have s1:Same H (upd H t1 (.tup [.str (hd z),.str x1,.str x2])):=qb g1 _;generalize upd H t1 (.tup [.str (hd z),.str x1,.str x2])=H1 at s1⊢;unfold zi at k;rw [if_pos ht] at k;cases ef:jx (hd z) with
 |none=>
  rw [ef] at k;refine⟨_,rfl,hd z,g.forms,_,rfl,rfl,C.kd,C.none_ _ ef,_,rfl,?_⟩;exact qA rfl (k _ _ s1 rfl)
 |some ks=>
 have hk:=JM ef;rw [ef] at k;simp only at k;obtain⟨q,ad,O⟩:=C.forms _ hk;have hf:ks.length<=3:=form_few _ hk;refine⟨_,rfl,hd z,g.forms,_,rfl,rfl,C.kd,ad,_,rfl,?_⟩;refine qo rfl ?_;refine⟨_,rfl,hd z,g.forms,_,.ref q,rfl,rfl,C.kd,ad,rfl,?_⟩;refine⟨_,rfl,_,rfl,z,ks,q,rfl,hz,hf,O _,fun p2 g2=> ?_⟩;have s2:Same H1 (upd H1 p2 (.lst ((pcs ks z).map V.str))):=qb g2 _;have e2:(upd H1 p2 (.lst ((pcs ks z).map V.str))) p2=some (.lst ((pcs ks z).map V.str)):=qh;generalize upd H1 p2 (.lst ((pcs ks z).map V.str))=H2 at s2 e2⊢;refine⟨_,rfl,p2,_,rfl,.inl (SqL.of e2),_,rfl,q,_,rfl,.inr (O _),_,_,rfl,rfl,rfl,_,rfl,?_⟩;by_cases hl:(pcs ks z).length=1+ks.length
 case neg=>
  rw [if_neg hl] at k;refine qA ?_ (k _ _ (s1.trans s2) rfl);rw [ub,ub];show(!decide (V.int _=V.int _))=true;rw [u9]
  ·rfl
  ·intro q;have:((pcs ks z).length:Int)=1+(ks.length:Int):=V.int.inj q;omega
 rw [if_pos hl] at k;refine qo ?_ ?_
 ·rw [ub,ub,show((pcs ks z).length:Int)=1+(ks.length:Int) by omega]
  simp
 have ab:((pcs ks z).drop 1).length=ks.length:=by rw [uC];omega
 have ae:∀p∈(pcs ks z).drop 1,p.length<=300:=fun p hp=>by
  have L:=ht;unfold QD at L;rw [ui,U2] at L;exact(spl_ok L.1 L.2 p (Ul hp)).1
 refine⟨_,rfl,_,rfl,_,rfl,p2,_,rfl,SqL.of e2,fun p3 g3=> ?_⟩;have af:cutV ((pcs ks z).map V.str) (some 1) none=((pcs ks z).drop 1).map V.str:=by
  rw [show(some (1:Int))=some (((1:Nat)):Int) from rfl,Ju (by rw [ub];omega),List.map_drop]
 rw [af];generalize (pcs ks z).drop 1=zs at ab ae k⊢;have s3:Same H2 (upd H2 p3 (.lst (zs.map V.str))):=qb g3 _;have e3:(upd H2 p3 (.lst (zs.map V.str))) p3=some (.lst (zs.map V.str)):=qh;generalize upd H2 p3 (.lst (zs.map V.str))=H3 at s3 e3⊢;have ah:(YH n ks zs).length=ks.length:=by rw [YH,List.length_zipWith];omega
 refine⟨q,p3,_,_,rfl,O _,SqL.of e3,fun A1 gA=> ?_⟩;refine lc_zip (K:=K) (tl:= [some (.int (n:Int))]) (xs:=ks.map fun k:Kd=>V.str k.t) (ys:=zs.map V.str) (fun i=>optD ((YH n ks zs).getD i none)) (fun H' _=>O H') (fun H' sm=>SqL.of (sm _ _ e3)) (by simp [ab]) (by rw [ub];exact qY (by omega)) gA ?_ ?_
 ·intro i x y H4 R hx hy s4 hR;rw [uM] at hx hy;cases ac:ks[i]? with
  |none=>rw [ac] at hx;cases hx
  |some kd=>
   rw [ac] at hx;cases hx;cases U:zs[i]? with
   |none=>rw [U] at hy;cases hy
   |some z1=>
    rw [U] at hy;cases hy;refine⟨_,rfl,_,rfl,_,rfl,n,kd,z1,rfl,hn,ae _ (uJ U),fun v Y s5 hv=>hR v Y s5 ?_⟩;have e:(YH n ks zs).getD i none=yj n kd z1:=by simp [List.getD,YH,List.getElem?_zipWith,ac,U]
    simp only [e];exact hv
 intro Y vs s5 e5 h5;have ag:L2.IsL Y ((YH n ks zs).map optD) vs:=by
  rw [ub,<-ah] at h5;rw [range_map (YH n ks zs) optD _ (fun i q1 hi=>by simp [List.getD,hi])] at h5
  exact h5
 refine⟨A1,vs,rfl,.inl ⟨SqL.of e5,fun t6 g6=> ?_⟩⟩;have s6:Same Y (upd Y t6 (.tup vs)):=qb g6 _;have i6:Is (upd Y t6 (.tup vs)) (.tup ((YH n ks zs).map optD)) (.ref t6):=Is.new ag g6;have e6:(upd Y t6 (.tup vs)) t6=some (.tup vs):=qh;generalize upd Y t6 (.tup vs)=H6 at s6 i6 e6⊢;obtain⟨f1,f2⟩:=vals_o ag;have aa:=s1.trans (s2.trans (s3.trans (s5.trans s6)));refine⟨_,rfl,t6,vs,rfl,.inr (SqT.of e6),rfl,f1,_,rfl,?_⟩;rw [if_neg u8,f2];refine ite2 (fun c=> ?_) (fun c=> ?_)
 ·rw [Zc c] at k;exact k _ _ aa rfl
 ·have c':(YH n ks zs).any Option.isNone=false:=by
   cases h:(YH n ks zs).any Option.isNone with
   |false=>rfl
   |true=>exact absurd h c
  obtain⟨ps,q1,q2⟩:=zR ab c';rw [q1] at k;rw [q2,uT] at i6;refine⟨_,rfl,_,rfl,(by show 2<=sizeLine;decide),fun t7 g7=> ?_⟩
  have ak:(hd z).length<=sizeLine:=by
   have al:∀x∈FRM,x.1.length<=100:=by decide+kernel
   have:=al _ hk;exact qY (by simp only at this;omega)
  exact k _ _ (aa.trans (qb g7 _)) (Is.new (ds:= [.str (hd z),.tup (ps.map Pt.d)]) ⟨_,_,rfl,⟨rfl,ak⟩,_,_,rfl,i6,rfl⟩ g7)
theorem part_line {n M:Nat}(hn:n<=40){k:Kd}{p:Pt}(h:ptOk n M k p):yj n k p.t=some p:=by
 cases k with
 |words=>
  cases p with
  |s z=>rfl
  |n i=>cases h
 |box=>
  cases p with
  |s z=>exact JD h
  |n i=>cases h
 |line=>
  cases p with
  |s z=>cases h
  |n i=>
   have h1:1<=i/\i<=n:=h;have hm:(Pt.n i).t∈(List.range n).map fun i:Nat=>(toString (1+(i:Int)):Str):=List.mem_map.mpr ⟨(i-1).toNat,List.mem_range.mpr (by omega),by show(toString (1+(((i-1).toNat:Nat):Int)):Str)=toString i;rw [show 1+(((i-1).toNat:Nat):Int)=i by omega]⟩
   obtain⟨j,L,R,O,e⟩:=js hm;rw [e];have b1:=xR (i:=i) h1.1 (by omega)
   have b2:=xR (i:=j) L (by omega)
   have I:(toString i:Str)=toString j:=O;rw [I,b2] at b1;rw [uQ b1]
theorem zZ {n M:Nat}(hn:n<=40):∀{ks:List Kd}{ps:List Pt},y7 n M ks ps->ym n ks (ps.map Pt.t)=some ps
 | [],[],_=>rfl
 |k::ks,p::ps,h=>by
  rw [uj];unfold ym;rw [part_line hn h.1,zZ hn h.2]
 | [],_::_,h=>h.elim
 |_::_,[],h=>h.elim
theorem form_line {w:Str}{ks:List Kd}(h:(w,ks)∈FRM):jx w=some ks:=by
 cases e:jx w with
 |none=>exact absurd rfl (XT e _ h)
 |some I=>
  have:=form_nd _ (JM e) _ h rfl;rw [(Prod.mk.inj this).2]
theorem rowOf_line {n M:Nat}{r:Rw}(hn:n<=40)(h:QI n M r)(O:QD (qH r)=true):zi n (qH r)=some r:=by
 have R:=line_hd h;obtain⟨ks,L,I⟩:=h;unfold zi;rw [if_pos O,R,form_line L];simp only;have U:pcs ks (qH r)=txs r:=line_spl hn L I;have Y:=Y6 I;rw [U,if_pos (by unfold txs;rw [ud,ub];omega)]
 show Option.map _ (ym n ks (r.2.map Pt.t))=_;rw [zZ hn I]
 rfl
def QV (rs:List Rw):D:= .tup (rs.map fun r=> .str (qH r))
structure Qu (rs:List Rw):Prop where
 n0:1<=rs.length
 n1:rs.length<=40
 ok:∀r∈rs,QI rs.length 300 r
 tree:isT (QV rs)=true
theorem JB:∀{ds:List D}{d:D},goodL ds=true->d∈ds->good d=true
 |x::xs,d,h,hm=>by
  simp only [goodL,ui] at h;rcases List.mem_cons.mp hm with rfl|hm
  ·exact h.1
  ·exact JB h.2 hm
theorem Qu.text {rs:List Rw}(h:Qu rs){r:Rw}(I:r∈rs):QD (qH r)=true:=by
 have h1:=h.tree;unfold isT at h1;rw [ui,ui] at h1;have h2:=h1.1.1;unfold QV at h2;simp only [good,ui] at h2;have:=JB h2.2 (List.mem_map.mpr ⟨r,I,rfl⟩)
 simpa only [good] using this
theorem Qu.len {rs:List Rw}(h:Qu rs){r:Rw}(I:r∈rs):(qH r).length<=300:=by
 have h1:=h.text I;rcases UI 300 (qH r).length with h2|h2
 ·rw [Ja h2] at h1;cases h1
 ·exact h2
def yD:D->Option (List Rw)
 | .tup ds=>if(decide (1<=ds.length)&&decide (ds.length<=40)&&ds.all (fun d=>(Ql ds.length d).isSome)&&isT (.tup ds))=true then some (ds.filterMap (Ql ds.length)) else none
 |_=>none
theorem JC (ds:List D):yD (.tup ds)=if(decide (1<=ds.length)&&decide (ds.length<=40)&&ds.all (fun d=>(Ql ds.length d).isSome)&&isT (.tup ds))=true then some (ds.filterMap (Ql ds.length)) else none:=rfl
theorem rows_back {n:Nat}:∀{rs:List Rw},(∀r∈rs,Ql n (.str (qH r))=some r)->(rs.map fun r=>D.str (qH r)).filterMap (Ql n)=rs
 | [],_=>rfl
 |r::rs,h=>by
  rw [uj,Uu (h r uq),rows_back fun x I=>h x (uh _ I)]
theorem Qu.rowD {rs:List Rw}(h:Qu rs){r:Rw}(I:r∈rs):Ql rs.length (.str (qH r))=some r:=rowOf_line h.n1 (h.ok r I) (h.text I)
theorem Qu.read {rs:List Rw}(h:Qu rs):yD (QV rs)=some rs:=by
 have M:(rs.map fun r=>D.str (qH r)).length=rs.length:=ub ..;have L:=h.tree;unfold QV at L⊢;rw [JC,M,if_pos]
 ·rw [rows_back fun r I=>h.rowD I]
 ·rw [u0 h.n0,u0 h.n1,L,List.all_eq_true.mpr]
  ·rfl
  ·intro d hd;obtain⟨r,I,rfl⟩:=List.mem_map.mp hd;rw [h.rowD I]
   rfl
def RdOk (d x y:D):Prop:=(∀rs,yD d=some rs->x= .tup (rs.map L2.rowD)/\y= .non)/\(yD d=none->∃i:Int,y= .int i)
def sp_read:Sp:=fun vs H Q _=>∃(v:V) (d:D),vs= [v]/\Is H d v/\∀(u:V) (H':Hp) (x y:D),Same H H'->RdOk d x y->Is H' (.tup [x,y]) u->Q u H'
theorem rd_bad {d x:D}{i:Int}(h:yD d=none):RdOk d x (.int i):=⟨fun rs e=>(by rw [h] at e;cases e),fun _=>⟨i,rfl⟩⟩
theorem X2 {α:Type}{o:Option α}(h:o.isSome=true):∃x,o=some x:=by cases o with
 |none=>cases h
 |some x=>exact⟨x,rfl⟩
theorem rows_take {n:Nat}{ds:List D}{i:Nat}{d:D}{r:Rw}(h1:ds[i]? =some d)(h2:Ql n d=some r):(ds.take (i+1)).filterMap (Ql n)=(ds.take i).filterMap (Ql n)++ [r]:=by
 rw [U1,h1,List.filterMap_append];simp [h2]
theorem rows_len {n:Nat}:∀{ds:List D},(∀z∈ds,(Ql n z).isSome=true)->(ds.filterMap (Ql n)).length=ds.length
 | [],_=>rfl
 |z::ds,h=>by
  obtain⟨r,e⟩:=X2 (h z uq);rw [Uu e,ud,ud];exact congrArg (·+1) (rows_len fun y I=>h y (uh _ I))
theorem ok_read (T:Tx K mg a)(C:Fx K w mg g a):FnOk P w K mg base CX0 3 a.xi a.xl ["value"] sp_read:=by
 have YS:=xa (P:=P) (w:=w) (base:=base) T;have O:=ok_row_of (P:=P) (w:=w) (base:=base) T C;refine T.g_read_lines.F.ok yx () (fun _ _ _ _ H vs Q E hr h=> ?_)
 obtain⟨v,d,rfl,R,k⟩:=h;refine⟨_,(@qe _ _ _ _ _ (@qG _ _ _ _ _ _ _ _ (@Yf _ _ _ _ _ _ _ (@Qm _ _ _ _ (@qU _ _ _ (@qk _ _ _ _ _ _ _ _ _ (@qz _ _ rfl) () T.qt uo (@qa _ _ _ _ _ (pv 0) (@qa _ _ _ _ _ (@qV _ _ (.ty "tuple") _ _ () T.Qa uU rfl () ()) qc ()) ()) () () () ()) ())) (@yK _ _ _ _ (@Qm _ _ _ _ (@pt_chain _ _ _ _ _ _ _ _ _ _ _ _ op_le op_le qj (@qk _ _ _ _ _ _ _ _ _ qE () T.Qy um (@qa _ _ _ _ _ (pv 0) qc ()) () () () ()) (@pe_gI _ _ _ _ () T.m_MOST_LINES ()) ())))).pt (@qg _ _ _ (@ql _ _ _ _ (@qy _ _ _ _ _ (@qa _ _ _ _ _ (@qy _ _ _ _ _ qc) (@qa _ _ _ _ _ qj qc ()) ())))) qq) (@qe _ _ _ _ _ (@qB _ _ (1) _ _ _ _ yx.nd rfl (Or.inl rfl) (@Qb _ _ _ _ qc) () ()) (@qe _ _ _ _ _ (@Jo _ _ _ _ _ _ _ _ vk rfl (@pi_tup _ _ _ _ (pv 0)) (@qQ _ _ (2) _ yx.nd rfl (Or.inl rfl) ()) (@qe _ _ _ _ _ (@qB _ _ (3) _ _ _ _ yx.nd rfl (Or.inl rfl) (@qv _ _ _ _ _ _ _ _ _ _ _ _ _ _ _ _ O (hr.mono ()) () T.g_row_of.m T.g_row_of.F.kp T.g_row_of.b .nil qN (@qa _ _ _ _ _ (pv 2) (@qa _ _ _ _ _ (@qk _ _ _ _ _ _ _ _ _ qE () T.Qy um (@qa _ _ _ _ _ (pv 0) qc ()) () () () ()) qc ()) ()) () () ()) () ()) (@qe _ _ _ _ _ (@qG _ _ _ _ _ _ _ _ (@qm _ _ _ _ _ _ _ _ X1 (pv 3) Qe (qw _)) (@qg _ _ _ (@ql _ _ _ _ (@qy _ _ _ _ _ (@qa _ _ _ _ _ (@qP _ _ _ _ _ _ _ _ _ qL () T.Qa uU (@qa _ _ _ _ _ (pv 1) qc ()) () () () ()) (@qa _ _ _ _ _ (@qT _ _ _ _ _ _ _ _ Qz (@qk _ _ _ _ _ _ _ _ _ qE () T.Qy um (@qa _ _ _ _ _ (pv 1) qc ()) () () () ()) qj) qc ()) ())))) qq) (@qg _ _ _ (@yH _ _ _ _ (@Yj _ _ _ _ _ _ _ _ _ _ _ _ v6 vM vN y9 (pv 1) (@qa _ _ _ _ _ (pv 3) qc ()) () () () () ()) ())))) ()) (@qg _ _ _ (@ql _ _ _ _ (@qy _ _ _ _ _ (@qa _ _ _ _ _ (@qP _ _ _ _ _ _ _ _ _ qL () T.Qa uU (@qa _ _ _ _ _ (pv 1) qc ()) () () () ()) (@qa _ _ _ _ _ (@yR _ _ _ _ _ _ _ _ (@qU _ _ _ (@qv _ _ _ _ _ _ _ _ _ _ _ _ _ _ _ _ YS (hr.mono ()) () T.g_is_tree.m T.g_is_tree.F.kp T.g_is_tree.b .nil qN (@qa _ _ _ _ _ (pv 0) qc ()) () () ()) ()) Qe qj) qc ()) ()))))))),?_⟩
 dsimp only [cxOf,Cx.nox];refine⟨_,rfl,v,"tuple",_,jo d,rfl,R.ty,yM d,_,rfl,?_⟩;have L:yD d=none->∀(t:Addr),H t=none->∀Y,(upd H t (.tup [])) Y=none->Q (.ref Y) (upd (upd H t (.tup [])) Y (.tup [.ref t,.int 1])):=fun hn t g Y M=>
  k _ _ (.tup []) (.int 1) ((qb g _).trans (qb M _)) (rd_bad hn) (Is.new (ds:= [.tup [],.int 1]) ⟨_,_,rfl,Is.new (ds:= []) rfl g,_,_,rfl,rfl,rfl⟩ M)
 cases ht:jo d with
 |false=>
  have hn:yD d=none:=by
   cases d with
   |tup ds=>cases ht
   |_=>rfl
  exact iteT (iteT ⟨(by show 0<=sizeLine;decide),fun t g1=>⟨(by show 2<=sizeLine;decide),fun Y M=>L hn t g1 Y M⟩⟩)
 |true=>
 obtain⟨ds,rfl⟩:∃ds,d= .tup ds:=by
  cases d with
  |tup ds=>exact⟨ds,rfl⟩
  |_=>cases ht
 refine iteF ?_;have aa:=R;obtain⟨va,us,rfl,ha,hu⟩:=aa;have ab:us.length=ds.length:=hu.length;refine⟨_,rfl,va,us,rfl,.inr (SqT.of ha),_,_,rfl,rfl,_,rfl,?_⟩;have no:¬(1<=ds.length/\ds.length<=40/\(∀z∈ds,(Ql ds.length z).isSome=true)/\isT (.tup ds)=true)->yD (.tup ds)=none:=fun hc=>by
  unfold yD;refine if_neg fun z=>hc ?_;simp only [ui,U2,Ur] at z;exact⟨z.1.1.1,z.1.1.2,z.1.2,z.2⟩
 by_cases c1:1<=ds.length
 case neg=>
  refine qo (u9 (by omega)) ⟨_,rfl,?_⟩
  exact iteT ⟨(by show 0<=sizeLine;decide),fun t g1=>⟨(by show 2<=sizeLine;decide),fun Y M=>L (no fun z=>c1 z.1) t g1 Y M⟩⟩
 refine qA (u0 (by omega)) ?_
 refine⟨_,_,rfl,rfl,_,rfl,?_⟩;by_cases c2:ds.length<=40
 case neg=>
  refine qA (by rw [u9 (by omega)];rfl) ?_
  exact⟨(by show 0<=sizeLine;decide),fun t g1=>⟨(by show 2<=sizeLine;decide),fun Y M=>L (no fun z=>c2 z.2.1) t g1 Y M⟩⟩
 refine qo (by rw [u0 (by omega)];rfl) ?_
 refine⟨(by show 0<=sizeLine;decide),fun L1 g1=> ?_⟩
 refine⟨_,rfl,va,rfl,⟨us,SqT.of (qb g1 _ _ _ ha)⟩,?_⟩
 let J1_:Nat->L2.St->Hp->Prop:=fun i σ H'=>i<=ds.length/\(∀z∈ds.take i,(Ql ds.length z).isSome=true)/\∃(ws:List V) (x2 x3:Option V),σ= [some (.ref va),some (.ref L1),x2,x3]/\H' L1=some (.lst ws)/\L2.IsL H' (((ds.take i).filterMap (Ql ds.length)).map L2.rowD) ws/\Same H H'
 refine for_tup (K:=K) (a:=va) (xs:=us) J1_
  ⟨uF _,(fun z hz=>by simp at hz),[],none,none,rfl,qh,rfl,qb g1 _⟩ (fun i σ H' _ ⟨_,_,_,_,_,_,_,_,sm⟩=>SqT.of (sm _ _ ha)) ?_ ?_
 ·rintro i x σ H' hx ⟨af,I,ws,x2,x3,rfl,e1,hw,sm⟩;have U:i<ds.length:=by
   obtain⟨h,_⟩:=List.getElem?_eq_some_iff.mp hx;omega
  obtain⟨x',ac,ag⟩:=hu.get (i:=i) (d:=ds[i]) (ul U);rw [hx] at ac;cases ac;have ah:ws.length=i:=by
   rw [hw.length,ub,rows_len I,uz];omega
  refine⟨_,rfl,_,rfl,va,us,rfl,.inr (SqT.of (sm _ _ ha)),x,ds[i],ds.length,by rw [ab];rfl,ag.mono sm.tk,c2,fun v H2 s2 R=> ?_⟩
  have e2:=s2 _ _ e1;cases er:Ql ds.length ds[i] with
  |some r=>
   rw [er] at R;have R:Is H2 (L2.rowD r) v:=R;have aa:=R;obtain⟨ad,ak,rfl,_,_⟩:=aa;refine⟨_,rfl,rfl,_,rfl,?_⟩;refine qo (u9 fun z=>by cases z) ?_
   refine⟨_,rfl,.inl ⟨rfl,_,SqL.of e2⟩,_,rfl,L1,ws,_,rfl,rfl,e2,yh (by omega),?_⟩
   have t3:Tk H2 (upd H2 L1 (.lst (ws++ [.ref ad]))):=Tk.updL e2;refine⟨U,fun z hz=> ?_,ws++ [.ref ad],_,_,rfl,qh,?_,fun b o e=> ?_⟩
   ·rw [U1,ul U] at hz;rcases List.mem_append.mp hz with hz|hz
    ·exact I z hz
    ·have:z=ds[i]:=by simpa using hz
     rw [this,er]
     rfl
   ·rw [rows_take (ul U) er,uE];exact((hw.mono s2.tk).mono t3).append (IsL.one (R.mono t3))
   ·rw [qx (qr e g1)];exact s2 b o (sm b o e)
  |none=>
   rw [er] at R;cases(show v= .non from R)
   refine⟨_,rfl,rfl,_,rfl,?_⟩;refine qA rfl ?_;refine⟨_,rfl,L1,ws,rfl,.inl ⟨SqL.of e2,fun t1 M=> ?_⟩⟩;have s3:Same H2 (upd H2 t1 (.tup ws)):=qb M _;have i3:Is (upd H2 t1 (.tup ws)) (.tup (((ds.take i).filterMap (Ql ds.length)).map L2.rowD)) (.ref t1):=Is.new (hw.mono s2.tk) M;refine⟨_,rfl,L1,ws,rfl,.inl (SqL.of (s3 _ _ e2)),_,_,rfl,rfl,(by show 2<=sizeLine;decide),fun t4 g4=> ?_⟩
   exact k _ _ _ (.int _) (sm.trans (s2.trans (s3.trans (qb g4 _)))) (rd_bad (no fun z=>by have:=z.2.2.1 _ (U7 U);rw [er] at this;cases this)) (Is.new (ds:= [.tup (((ds.take i).filterMap (Ql ds.length)).map L2.rowD),.int _]) ⟨_,_,rfl,i3,_,_,rfl,rfl,rfl⟩ g4)
 ·rintro σ H' ⟨af,I,ws,x2,x3,rfl,e1,hw,sm⟩;rw [ab,List.take_length] at hw I;refine⟨_,rfl,L1,ws,rfl,.inl ⟨SqL.of e1,fun t1 M=> ?_⟩⟩;have s2:Same H' (upd H' t1 (.tup ws)):=qb M _;have i2:Is (upd H' t1 (.tup ws)) (.tup ((ds.filterMap (Ql ds.length)).map L2.rowD)) (.ref t1):=Is.new hw M;generalize upd H' t1 (.tup ws)=H2 at s2 i2⊢;refine⟨_,rfl,_,.tup ds,rfl,R.mono (sm.trans s2).tk,fun H3 s3=> ?_⟩;refine⟨_,rfl,?_⟩;cases hT:isT (.tup ds) with
  |true=>
   refine qA rfl ⟨(by show 2<=sizeLine;decide),fun t4 g4=> ?_⟩
   have ae:yD (.tup ds)=some (ds.filterMap (Ql ds.length)):=by
    rw [JC,if_pos];rw [u0 c1,u0 c2,hT,List.all_eq_true.mpr I]
    rfl
   exact k _ _ _ .non (sm.trans (s2.trans (s3.trans (qb g4 _)))) ⟨fun rs e=>(by rw [ae] at e;cases e;exact⟨rfl,rfl⟩),fun e=>(by rw [ae] at e;cases e)⟩ (Is.new (ds:= [.tup ((ds.filterMap (Ql ds.length)).map L2.rowD),.non]) ⟨_,_,rfl,i2.mono s3.tk,_,_,rfl,rfl,rfl⟩ g4)
  |false=>
   refine qo rfl ⟨(by show 2<=sizeLine;decide),fun t4 g4=> ?_⟩
   exact k _ _ _ (.int 1) (sm.trans (s2.trans (s3.trans (qb g4 _)))) (rd_bad (no fun z=>by have:=z.2.2.2;rw [hT] at this;cases this)) (Is.new (ds:= [.tup ((ds.filterMap (Ql ds.length)).map L2.rowD),.int 1]) ⟨_,_,rfl,i2.mono s3.tk,_,_,rfl,rfl,rfl⟩ g4)
def sp_rows (br:Addr):Sp:=fun vs H Q E=>∃(v:V) (d:D),vs= [v]/\Is H d v/\(∀rs,yD d=some rs->∀(u:V) (H':Hp),Same H H'->Is H' (.tup (rs.map L2.rowD)) u->Q u H')/\(yD d=none->∀(e:Addr) (H':Hp),Same H H'->E (.ref e) (some br) H')
theorem ok_rows (T:Tx K mg a)(C:Fx K w mg g a):FnOk P w K mg base (CX1 P w) 4 a.Xw a.X0 ["tree"] (sp_rows g.br):=by
 have I:=ok_read (P:=P) (w:=w) (base:=base) T C;refine T.g_rule_rows.F.okX xj () (fun _ _ _ _ H _ Q E R h=> ?_)
 obtain⟨v,d,rfl,U,k,Y⟩:=h;refine⟨_,(@qe _ _ _ _ _ (@qB _ _ (1) _ _ _ _ xj.nd rfl (Or.inl rfl) (@qv _ _ _ _ _ _ _ _ _ _ _ _ _ _ _ _ I (R.mono ()) () T.g_read_lines.m T.g_read_lines.F.kp T.g_read_lines.b .nil qN (@qa _ _ _ _ _ (pv 0) qc ()) () () ()) () ()) (@qe _ _ _ _ _ (@qG _ _ _ _ _ _ _ _ (@qm _ _ _ _ _ _ _ _ op_notN (@qF _ _ _ _ _ _ _ qR (pv 1) qj (fun _ _=>rfl)) Qe (qw _)) (@qg _ _ _ (@xO _ _ _ _ _ _ _ _ _ _ _ _ _ _ _ _ _ _ _ _ _ _ C.x_BadRule () C.Xm qi () ())) qq) (@qg _ _ _ (@ql _ _ _ _ (@qF _ _ _ _ _ _ _ qR (pv 1) qj (fun _ _=>rfl)))))),?_⟩
 refine⟨_,rfl,v,d,rfl,U,fun u H1 x y s1 hd M=> ?_⟩;refine⟨_,rfl,?_⟩;dsimp only [tC];refine QO (i:=1) (d:=y) M rfl fun z O=> ?_;cases L:yD d with
 |none=>
  obtain⟨i,rfl⟩:=hd.2 L;cases(show z= .int i from O)
  refine⟨rfl,_,rfl,?_⟩;refine qA (by rw [u9 (fun z=>by cases z)];rfl) ?_
  exact⟨rfl,fun e=>Y L e H1 s1⟩
 |some rs=>
  obtain⟨rfl,rfl⟩:=hd.1 rs L;cases(show z= .non from O)
  refine⟨rfl,_,rfl,?_⟩;refine qo rfl ?_;refine⟨_,rfl,?_⟩;dsimp only [tC];refine QO (i:=0) (d:= .tup (rs.map L2.rowD)) M rfl fun q hq=> ?_;exact k rs L q H1 s1 hq
def kvB (f:Str->V):List (Key×V):=BX.map fun z=>(Sum.inr z,f z)
theorem val_B {f:Str->V}:∀{zs:List Str}{z:Str},z∈zs->valV (zs.map fun z=>((Sum.inr z:Key),f z)) (Sum.inr z)=some (f z)
 |y::ys,z,h=>by
  rw [uj];by_cases e:y=z
  ·subst e;exact xI rfl
  ·have h':z∈ys:=by
    rcases List.mem_cons.mp h with rfl|h
    ·exact absurd rfl e
    ·exact h
   have:=val_B (f:=f) h';unfold valV at this⊢;rw [U0];have e2:decide ((Sum.inr y:Key)=Sum.inr z)=false:=u9 fun q=>e (Sum.inr.inj q);simp only [e2];exact this
theorem val_none {f:Str->V}{zs:List Str}{z:Str}(h:z∉zs):valV (zs.map fun z=>((Sum.inr z:Key),f z)) (Sum.inr z)=none:=by
 unfold valV;rw [Option.map_eq_none_iff,UC];intro p I;obtain⟨y,L,rfl⟩:=List.mem_map.mp I;intro q;exact h (by rw [<-Sum.inr.inj (ua q)];exact L)
theorem put_B {f:Str->V}{z:Str}{u:V}(h:z∈BX):putK (kvB f) (Sum.inr z) u=kvB fun y=>if y=z then u else f y:=by
 unfold putK;rw [if_pos]
 ·unfold kvB;rw [uT];refine List.map_congr_left fun y _=> ?_;by_cases e:y=z
  ·simp [e]
  ·simp [e]
 ·rw [List.any_eq_true];exact⟨(Sum.inr z,f z),List.mem_map.mpr ⟨z,h,rfl⟩,by simp⟩
def QL (H:Hp)(d:Addr)(B:Str->D):Prop:=∃f:Str->V,H d=some (.dK (kvB f))/\∀z∈BX,Is H (B z) (f z)
def setB (B:Str->D)(z:Str)(e:D):Str->D:=fun y=>if y=z then e else B y
theorem QL.same {H H':Hp}{d:Addr}{B:Str->D}(h:QL H d B)(s:Same H H'):QL H' d B:=let⟨f,e,i⟩:=h;⟨f,s _ _ e,fun z I=>(i z I).mono s.tk⟩
theorem QL.move {H H':Hp}{d:Addr}{B:Str->D}(h:QL H d B)(t:Tk H H')(e:H' d=H d):QL H' d B:=let⟨f,e1,i⟩:=h;⟨f,e.trans e1,fun z I=>(i z I).mono t⟩
theorem QL.get {H:Hp}{d:Addr}{B:Str->D}{z:Str}(h:QL H d B)(I:z∈BX):∃v,DGet H d (.str z) (some v)/\Is H (B z) v:=by
 obtain⟨f,e,i⟩:=h;refine⟨f z,?_,i z I⟩;have:=DGet.k (k:=(Sum.inr z:Key)) e;rw [show valV (kvB f) (Sum.inr z)=some (f z) from val_B I] at this
 exact this
theorem QL.lack {H:Hp}{d:Addr}{B:Str->D}{z:Str}(h:QL H d B)(I:z∉BX):DGet H d (.str z) none:=by
 obtain⟨f,e,i⟩:=h;have:=DGet.k (k:=(Sum.inr z:Key)) e;rw [show valV (kvB f) (Sum.inr z)=none from val_none I] at this
 exact this
theorem QL.put {H:Hp}{d:Addr}{B:Str->D}{z:Str}{u:V}{e:D}(h:QL H d B)(L:z∈BX)(M:Is H e u):∃kvs,DPut H d (.str z) u (upd H d (.dK kvs))/\QL (upd H d (.dK kvs)) d (setB B z e)/\Tk H (upd H d (.dK kvs)):=by
 obtain⟨f,I,i⟩:=h;refine⟨kvB fun y=>if y=z then u else f y,.inl ⟨_,Sum.inr z,I,rfl,by show BX.length<sizeLine;rw [uL];decide,by rw [put_B L]⟩,⟨_,qh,fun y O=> ?_⟩,Tk.updD I⟩
 have t:Tk H (upd H d (.dK (kvB fun y=>if y=z then u else f y))):=Tk.updD I
 unfold setB;by_cases c:y=z
 ·rw [if_pos c,if_pos c];exact M.mono t
 ·rw [if_neg c,if_neg c];exact(i y O).mono t
def yt:List D->Bool
 | []=>true
 | .str _::r=>yt r
 |_=>false
def yw:List D->List Str
 | .str z::r=>z::yw r
 |_=> []
def b0 (ps:List Pt):Str:=(ps.getD 0 (.s "")).t
def b1 (ps:List Pt):Str:=(ps.getD 1 (.s "")).t
def b2 (ps:List Pt):Str:=(ps.getD 2 (.s "")).t
def zu:D->D
 | .str z=>if z.length=0 then .non else .str ⟨#[z.cps.getD 0 0]⟩
 | .tup (x::_)=>x
 |_=> .non
noncomputable def restD:D->D
 | .str z=>if z.length=0 then .non else .str (Txt.slice z (some 1) none)
 | .tup (_::r)=> .tup r
 |_=> .non
def lenD:D->Nat
 | .str z=>z.length
 | .tup xs=>xs.length
 |_=>0
def putD:D->D->D
 | .tup xs,e=> .tup (xs++ [e])
 |_,_=> .non
def joinD:D->D->D
 | .str x,.str y=> .str (x++y)
 |_,_=> .non
noncomputable def cutD:D->D->D
 | .str z,.str y=>if y.length=0 then .non else .tup ((spG z y).map .str)
 |_,_=> .non
noncomputable def glueD:D->D->D
 | .tup xs,.str y=>if yt xs=true then .str (Str.join y (yw xs)) else .non
 |_,_=> .non
noncomputable def made (w:Str)(B:Str->D)(own:Str)(ps:List Pt):D:=
 if w="text" then .str (b1 ps) else if w="self" then .str own else if w="copy" then B (b1 ps) else if w="row" then .tup [] else
 if w="put" then putD (B (b0 ps)) (B (b1 ps)) else if w="join" then joinD (B (b0 ps)) (B (b1 ps)) else if w="first" then zu (B (b1 ps)) else if w="rest" then restD (B (b1 ps)) else
 if w="size" then .str (toString ((lenD (B (b1 ps)):Nat):Int)) else if w="cut" then cutD (B (b1 ps)) (B (b2 ps)) else glueD (B (b1 ps)) (B (b2 ps))
theorem qK {n m:Nat}{w:Str}{ps:List Pt}{ks:List Kd}(h:QI n m (w,ps))(I:(w,ks)∈FRM):y7 n m ks ps:=by
 obtain⟨L,h1,h2⟩:=h;have:=form_nd _ h1 _ I rfl;cases this;exact h2
theorem sh_b {n m:Nat}{ps:List Pt}(h:y7 n m [.box] ps):∃x,ps= [.s x]/\x∈BX:=by
 match ps,h with
 | [.s x],h=>exact⟨x,rfl,h.1⟩
 | [.n _],h=>exact h.1.elim
theorem y0 {n m:Nat}{ps:List Pt}(h:y7 n m [.box,.box] ps):∃x y,ps= [.s x,.s y]/\x∈BX/\y∈BX:=by
 match ps,h with
 | [.s x,.s y],h=>exact⟨x,y,rfl,h.1,h.2.1⟩
 | [.n _,_],h=>exact h.1.elim
 | [.s _,.n _],h=>exact h.2.1.elim
theorem sh_bbb {n m:Nat}{ps:List Pt}(h:y7 n m [.box,.box,.box] ps):∃x y z,ps= [.s x,.s y,.s z]/\x∈BX/\y∈BX/\z∈BX:=by
 match ps,h with
 | [.s x,.s y,.s z],h=>exact⟨x,y,z,rfl,h.1,h.2.1,h.2.2.1⟩
 | [.n _,_,_],h=>exact h.1.elim
 | [.s _,.n _,_],h=>exact h.2.1.elim
 | [.s _,.s _,.n _],h=>exact h.2.2.1.elim
theorem sh_bw {n m:Nat}{ps:List Pt}(h:y7 n m [.box,.words] ps):∃x y,ps= [.s x,.s y]/\x∈BX/\y.length<=m/\y.cps.toList.all qX=true:=by
 match ps,h with
 | [.s x,.s y],h=>exact⟨x,y,rfl,h.1,h.2.1⟩
 | [.n _,_],h=>exact h.1.elim
 | [.s _,.n _],h=>exact h.2.1.elim
theorem sh_l {n m:Nat}{ps:List Pt}(h:y7 n m [.line] ps):∃i:Int,ps= [.n i]/\1<=i/\i<=n:=by
 match ps,h with
 | [.n i],h=>exact⟨i,rfl,h.1⟩
 | [.s _],h=>exact h.1.elim
theorem sh_bl {n m:Nat}{ps:List Pt}(h:y7 n m [.box,.line] ps):∃x,∃i:Int,ps= [.s x,.n i]/\x∈BX/\1<=i/\i<=n:=by
 match ps,h with
 | [.s x,.n i],h=>exact⟨x,i,rfl,h.1,h.2.1⟩
 | [.n _,_],h=>exact h.1.elim
 | [.s _,.s _],h=>exact h.2.1.elim
theorem sh_bbl {n m:Nat}{ps:List Pt}(h:y7 n m [.box,.box,.line] ps):∃x y,∃i:Int,ps= [.s x,.s y,.n i]/\x∈BX/\y∈BX/\1<=i/\i<=n:=by
 match ps,h with
 | [.s x,.s y,.n i],h=>exact⟨x,y,i,rfl,h.1,h.2.1,h.2.2.1⟩
 | [.n _,_,_],h=>exact h.1.elim
 | [.s _,.n _,_],h=>exact h.2.1.elim
 | [.s _,.s _,.s _],h=>exact h.2.2.1.elim
def PtsAt (H:Hp)(t:Addr)(ps:List Pt):Prop:=Is H (.tup (ps.map Pt.d)) (.ref t)
def Tr (B:Str->D):Prop:=∀z∈BX,isT (B z)=true
def JV (w:Str):Sp:=fun vs H Q _=>∃(d t:Addr) (own:Str) (B:Str->D) (ps:List Pt) (n:Nat),vs= [.ref d,.str own,.ref t]/\QL H d B/\Tr B/\own.length<=100/\QI n 300 (w,ps)/\PtsAt H t ps/\
 ∀(v:V) (H':Hp),Same H H'->Is H' (made w B own ps) v->Q v H'
theorem box_at {K:PySem.W.Frag}{H:Hp}{t:Addr}{ps:List Pt}{i:Nat}{z:Str}{Q:VK}(h:PtsAt H t ps)(e:ps[i]? =some (.s z))(q:Q (.str z) H):rIxT K (.ref t) (.int (i:Int)) H Q:=
 QO (d:= .str z) h (qS (by rw [uM,e];rfl)) fun x I=>by obtain⟨rfl,_⟩:=I;exact q
theorem Jt {d:D}(h:isT d=true):dp d<=12:=by
 unfold isT at h;rw [ui] at h;exact ua h.2
theorem isT_sz {d:D}(h:isT d=true):sz d<=600:=by
 unfold isT at h;rw [ui,ui] at h;exact ua h.1.2
theorem QF {d:D}(h:isT d=true):lenD d<=600:=by
 have h1:=isT_sz h;cases d with
 |str z=>simp only [sz] at h1;show z.length<=600;omega
 |tup xs=>
  unfold isT at h;rw [ui,ui] at h;have h2:=h.1.1;simp only [good,ui] at h2;have:=ua h2.1;show xs.length<=600;omega
 |_=>exact uF _
theorem jO (z y:Str):(z++y:Str).length=z.length+y.length:=by
 show(z.cps++y.cps).size=z.cps.size+y.cps.size;exact Array.size_append
theorem bget {K:PySem.W.Frag}{H:Hp}{t d:Addr}{B:Str->D}{ps:List Pt}{i:Nat}{z:Str}{Q:VK}(I:QL H d B)(h:PtsAt H t ps)(e:ps[i]? =some (.s z))(L:z∈BX)(q:∀v,Is H (B z) v->Q v H):rIxT K (.ref t) (.int (i:Int)) H (fun y H2=>∃a v,V.ref d= .ref a/\DGet H2 a y (some v)/\Q v H2):=by
 obtain⟨v,M,O⟩:=I.get L;exact box_at h e ⟨d,v,rfl,M,q v O⟩
theorem ok_text (T:Tx K mg a):FnOk P w K mg base CX0 1 a.jU a.X4 ["boxes","own","parts"] (JV "text"):=by
 refine T.g_text_made.F.ok sc_text_made () (fun _ _ _ _ H _ Q E M h=> ?_)
 obtain⟨d,t,own,B,ps,n,rfl,O,R,U,I,L,k⟩:=h;refine⟨_,(@qg _ _ _ (@ql _ _ _ _ (@qF _ _ _ _ _ _ _ qR (pv 2) qj (fun _ _=>rfl)))),?_⟩;obtain⟨x,y,rfl,Y,hy,hs⟩:=sh_bw (qK I (by decide+kernel))
 exact⟨_,rfl,box_at (i:=1) L rfl (k _ H (Same.refl _) ⟨rfl,qY (by show y.length<=1000;omega)⟩)⟩
theorem ok_self (T:Tx K mg a):FnOk P w K mg base CX0 1 a.jB a.XS ["boxes","own","parts"] (JV "self"):=by
 refine T.g_self_made.F.ok sc_self_made () (fun _ _ _ _ H _ Q E L h=> ?_)
 obtain⟨d,t,own,B,ps,n,rfl,M,O,R,I,U,k⟩:=h;refine⟨_,(@qg _ _ _ (@ql _ _ _ _ (pv 1))),?_⟩;exact⟨_,rfl,k _ H (Same.refl _) ⟨rfl,qY (by show own.length<=1000;omega)⟩⟩
theorem ok_row (T:Tx K mg a):FnOk P w K mg base CX0 1 a.JZ a.Zh ["boxes","own","parts"] (JV "row"):=by
 refine T.g_row_made.F.ok sc_row_made () (fun _ _ _ _ H _ Q E M h=> ?_)
 obtain⟨d,t,own,B,ps,n,rfl,O,R,U,L,Y,k⟩:=h;refine⟨_,(@qg _ _ _ (@ql _ _ _ _ (@qy _ _ _ _ _ qc))),?_⟩;exact⟨(by show 0<=sizeLine;decide),fun l I=>k _ _ (qb I _) (Is.new (ds:= []) rfl I)⟩
theorem ok_copy (T:Tx K mg a):FnOk P w K mg base CX0 1 a.jP a.Xq ["boxes","own","parts"] (JV "copy"):=by
 refine T.g_copy_made.F.ok sc_copy_made () (fun _ _ _ _ H _ Q E L h=> ?_)
 obtain⟨d,t,own,B,ps,n,rfl,M,Y,ho,I,O,k⟩:=h;refine⟨_,(@qg _ _ _ (@ql _ _ _ _ (@Qf _ _ _ _ _ _ (QQ L) (pv 0) (@qF _ _ _ _ _ _ _ qR (pv 2) qj (fun _ _=>rfl)) (fun _ _=>rfl)))),?_⟩;obtain⟨x,y,rfl,hx,R⟩:=y0 (qK I (by decide+kernel))
 refine⟨_,rfl,_,rfl,?_⟩;exact bget (i:=1) M O rfl R fun v U=>k _ H (Same.refl _) U
theorem ok_put (T:Tx K mg a):FnOk P w K mg base CX0 1 a.JU a.zC ["boxes","own","parts"] (JV "put"):=by
 refine T.g_put_made.F.ok XM () (fun _ _ _ _ H _ Q E hr h=> ?_)
 obtain⟨d,t,own,B,ps,n,rfl,hB,hT,ho,R,I,k⟩:=h;refine⟨_,(@qe _ _ _ _ _ (@qB _ _ (3) _ _ _ _ XM.nd rfl (Or.inl rfl) (@Qf _ _ _ _ _ _ (QQ hr) (pv 0) (@qF _ _ _ _ _ _ _ qR (pv 2) qj (fun _ _=>rfl)) (fun _ _=>rfl)) () ()) (@qe _ _ _ _ _ (@qG _ _ _ _ _ _ _ _ (@Qm _ _ _ _ (@qU _ _ _ (@qk _ _ _ _ _ _ _ _ _ (@qz _ _ rfl) () T.qt uo (@qa _ _ _ _ _ (pv 3) (@qa _ _ _ _ _ (@qV _ _ (.ty "tuple") _ _ () T.Qa uU rfl () ()) qc ()) ()) () () () ()) ())) (@qg _ _ _ (@ql _ _ _ _ Qe)) qq) (@qg _ _ _ (@ql _ _ _ _ (@qT _ _ _ _ _ _ _ _ yp (pv 3) (@qy _ _ _ _ _ (@qa _ _ _ _ _ (@Qf _ _ _ _ _ _ (QQ hr) (pv 0) (@qF _ _ _ _ _ _ _ qR (pv 2) qj (fun _ _=>rfl)) (fun _ _=>rfl)) qc ()))))))),?_⟩
 obtain⟨x,y,rfl,hx,hy⟩:=y0 (qK R (by decide+kernel))
 refine⟨_,rfl,_,rfl,?_⟩;refine bget (i:=0) hB I rfl hx fun v U=> ?_;refine⟨_,rfl,v,"tuple",tyD (B x),jo (B x),rfl,U.ty,yM _,_,rfl,?_⟩;have L:=QF (hT x hx);have O:∀(v:V) (H':Hp),Same H H'->Is H' (putD (B x) (B y)) v->Q v H':=k;generalize B x=dx at U O L⊢;cases dx with
 |tup xs=>
  refine iteF ?_;obtain⟨r,rs,rfl,er,Y⟩:=U;refine⟨_,rfl,_,rfl,_,rfl,?_⟩;refine bget (i:=1) hB I rfl hy fun u iu=> ?_;refine⟨(by show 1<=sizeLine;decide),fun l M=>⟨r,l,rs,[u],rfl,rfl,SqT.of (qb M _ _ _ er),SqT.of qh,?_,fun e=> ?_,fun _ e=>(by cases e),fun _ _ p I=> ?_⟩⟩
  ·rw [Y.length];have:xs.length<=600:=L;exact qY (by show xs.length+1<=1000;omega)
  ·subst e;have e2:xs= []:=uG Y.length.symm;subst e2;exact O _ _ (qb M _) (Is.new (ds:= [B y]) (IsL.one iu) M)
  ·have t1:Tk H (upd H l (.tup [u])):=(qb M _).tk;exact O _ _ ((qb M _).trans (qb I _)) (Is.new (ds:=xs++ [B y]) ((Y.mono t1).append (IsL.one (iu.mono t1))) I)
 |_=>exact iteT (O _ H (Same.refl _) rfl)
theorem ok_join (T:Tx K mg a):FnOk P w K mg base CX0 1 a.jS a.Xx ["boxes","own","parts"] (JV "join"):=by
 refine T.g_join_made.F.ok YM () (fun _ _ _ _ H _ Q E Y h=> ?_)
 obtain⟨d,t,own,B,ps,n,rfl,hB,hT,ho,O,hp,k⟩:=h;refine⟨_,(@qe _ _ _ _ _ (@qB _ _ (3) _ _ _ _ YM.nd rfl (Or.inl rfl) (@Qf _ _ _ _ _ _ (QQ Y) (pv 0) (@qF _ _ _ _ _ _ _ qR (pv 2) qj (fun _ _=>rfl)) (fun _ _=>rfl)) () ()) (@qe _ _ _ _ _ (@qB _ _ (4) _ _ _ _ YM.nd rfl (Or.inl rfl) (@Qf _ _ _ _ _ _ (QQ Y) (pv 0) (@qF _ _ _ _ _ _ _ qR (pv 2) qj (fun _ _=>rfl)) (fun _ _=>rfl)) () ()) (@qe _ _ _ _ _ (@qG _ _ _ _ _ _ _ _ (@Yf _ _ _ _ _ _ _ (@Qm _ _ _ _ (@qU _ _ _ (@qk _ _ _ _ _ _ _ _ _ (@qz _ _ rfl) () T.qt uo (@qa _ _ _ _ _ (pv 3) (@qa _ _ _ _ _ (@qV _ _ (.ty "str") _ _ () T.yy vr rfl () ()) qc ()) ()) () () () ()) ())) (@yK _ _ _ _ (@Qm _ _ _ _ (@qU _ _ _ (@qk _ _ _ _ _ _ _ _ _ (@qz _ _ rfl) () T.qt uo (@qa _ _ _ _ _ (pv 4) (@qa _ _ _ _ _ (@qV _ _ (.ty "str") _ _ () T.yy vr rfl () ()) qc ()) ()) () () () ()) ())))).pt (@qg _ _ _ (@ql _ _ _ _ Qe)) qq) (@qg _ _ _ (@ql _ _ _ _ (@qT _ _ _ _ _ _ _ _ Qj (pv 3) (pv 4))))))),?_⟩
 obtain⟨x,y,rfl,hx,hy⟩:=y0 (qK O (by decide+kernel))
 refine⟨_,rfl,_,rfl,?_⟩;refine bget (i:=0) hB hp rfl hx fun v R=> ?_;refine⟨_,rfl,_,rfl,?_⟩;refine bget (i:=1) hB hp rfl hy fun u U=> ?_;have lx:=QF (hT x hx);have ly:=QF (hT y hy);have I:∀(v:V) (H':Hp),Same H H'->Is H' (joinD (B x) (B y)) v->Q v H':=k;generalize B x=dx at R I lx⊢;generalize B y=L at U I ly⊢;refine⟨_,rfl,v,"str",tyD dx,isStr dx,rfl,R.ty,Qs _,_,rfl,?_⟩;cases dx with
 |str z=>
  refine iteF ⟨_,rfl,u,"str",tyD L,isStr L,rfl,U.ty,Qs _,_,rfl,?_⟩;cases L with
  |str M=>
   refine iteF ?_;obtain⟨rfl,_⟩:=R;obtain⟨rfl,_⟩:=U;have h1:z.length<=600:=lx;have h2:M.length<=600:=ly;exact⟨_,rfl,_,rfl,_,_,rfl,rfl,fits (by omega),I _ H (Same.refl _) ⟨rfl,by rw [show(z++M).length=z.length+M.length from jO z M];exact fits (by omega)⟩⟩
  |_=>exact iteT (I _ H (Same.refl _) rfl)
 |_=>exact iteT (I _ H (Same.refl _) (by cases L<;>rfl))
theorem ok_first (T:Tx K mg a):FnOk P w K mg base CX0 1 a.YW a.xo ["boxes","own","parts"] (JV "first"):=by
 refine T.g_first_made.F.ok Jh () (fun _ _ _ _ H _ Q E hr h=> ?_)
 obtain⟨d,t,own,B,ps,n,rfl,hB,Y,ho,M,hp,k⟩:=h;refine⟨_,(@qe _ _ _ _ _ (@qB _ _ (3) _ _ _ _ Jh.nd rfl (Or.inl rfl) (@Qf _ _ _ _ _ _ (QQ hr) (pv 0) (@qF _ _ _ _ _ _ _ qR (pv 2) qj (fun _ _=>rfl)) (fun _ _=>rfl)) () ()) (@qg _ _ _ (@ql _ _ _ _ (@yR _ _ _ _ _ _ _ _ (@qm _ _ _ _ _ _ _ _ XL (@qk _ _ _ _ _ _ _ _ _ QS () T.Qy um (@qa _ _ _ _ _ (pv 3) qc ()) () () () ()) qj (qw _)) (@qF _ _ _ _ _ _ _ Y8 (pv 3) qj (fun _ _=>rfl)) Qe)))),?_⟩
 obtain⟨x,y,rfl,hx,O⟩:=y0 (qK M (by decide+kernel))
 refine⟨_,rfl,_,rfl,?_⟩;refine bget (i:=1) hB hp rfl O fun v L=> ?_;have ly:=QF (Y y O);have hg:=Y y O;have I:∀(v:V) (H':Hp),Same H H'->Is H' (zu (B y)) v->Q v H':=k;generalize B y=dy at L I ly hg⊢;cases dy with
 |str z=>
  obtain⟨rfl,hz⟩:=L;refine⟨_,rfl,.inl ⟨z,rfl,hz,_,_,rfl,rfl,_,rfl,?_⟩⟩;refine ite2 (fun c=> ?_) (fun c=> ?_)
  ·have R:1<=z.length:=by have:=ua c;omega
   have k2:Is H (zu (.str z)) (.str ⟨#[z.cps.getD 0 0]⟩):=by
    show Is H (if z.length=0 then D.non else _) _
    rw [if_neg (by omega)]
    exact⟨rfl,qY (by show 1<=1000;decide)⟩
   exact⟨_,rfl,.inr (.inr ⟨z,0,_,rfl,rfl,hz,xL R,I _ H (Same.refl _) k2⟩)⟩
  ·have R:z.length=0:=by
    rcases vW z.length with e|e
    ·exact e
    ·exact absurd (u0 (by omega)) c
   exact I _ H (Same.refl _) (by show Is H (if z.length=0 then D.non else _) _;rw [if_pos R];rfl)
 |tup xs=>
  have U:=L;obtain⟨r,rs,rfl,er,ir⟩:=U;refine⟨_,rfl,.inr ⟨r,rs,rfl,.inr (SqT.of er),fun _=>⟨_,_,rfl,rfl,_,rfl,?_⟩⟩⟩;have hl:=ir.length;cases xs with
  |nil=>exact qo (u9 (by rw [hl];decide)) (I _ H (Same.refl _) rfl)
  |cons e es=>
   refine qA (u0 (by rw [hl,ud];omega)) ?_
   exact⟨_,rfl,.inr (.inl (QO (i:=0) (d:=e) L (qS (j:=0) rfl) fun q hq=>I _ H (Same.refl _) hq))⟩
 |_=>simp [isT,good] at hg
theorem J5:∀xs:List D,yt xs=xs.all isStr
 | []=>rfl
 | .str _::r=>by show yt r=_;rw [J5 r];rfl
 | .non::_| .bl _::_| .int _::_| .lst::_| .dct::_| .tup _::_=>rfl
theorem ZL:∀{xs:List D},yt xs=true->xs=(yw xs).map D.str
 | [],_=>rfl
 | .str z::r,h=>by
  show D.str z::r=D.str z::(yw r).map D.str;rw [<-ZL (show yt r=true from h)]
theorem IsL.strs {H:Hp}:∀{l:List Str}{vs:List V},L2.IsL H (l.map D.str) vs->vs=l.map V.str
 | [],_,h=>h
 |_::_,_,h=>by
  obtain⟨v,r,rfl,h1,h2⟩:=h;rw [IsL.strs h2,h1.1];rfl
theorem IsL.ofStrs {H:Hp}:∀{l:List Str},(∀z∈l,z.length<=sizeLine)->L2.IsL H (l.map D.str) (l.map V.str)
 | [],_=>rfl
 |z::l,h=>⟨_,_,rfl,⟨rfl,h z uq⟩,IsL.ofStrs fun y I=>h y (uh _ I)⟩
theorem ZU:∀(l:List Str),(l.map (·.length)).sum+l.length=szL (l.map D.str)
 | []=>rfl
 |z::l=>by
  have:=ZU l;simp only [uj,vn,ud,szL,sz];omega
theorem join_le (I:Str):∀(l:List Str),(Str.join I l).length<=(l.map (·.length)).sum+l.length*I.length
 | []=>uF _
 | [x]=>by simp [Str.join]
 |x::y::r=>by
  have L:=join_le I (y::r);have e:(Str.join I (x::y::r)).length=x.length+I.length+(Str.join I (y::r)).length:=by
   show((x.cps++I.cps)++(Str.join I (y::r)).cps).size=_;rw [Array.size_append,Array.size_append]
   rfl
  rw [e,uj,vn,ud,Nat.succ_mul];omega
theorem ok_rest (T:Tx K mg a):FnOk P w K mg base CX0 1 a.jA a.X6 ["boxes","own","parts"] (JV "rest"):=by
 refine T.g_rest_made.F.ok xp () (fun _ _ _ _ H _ Q E hr h=> ?_)
 obtain⟨d,t,own,B,ps,n,rfl,hB,hT,ho,M,L,k⟩:=h;refine⟨_,(@qe _ _ _ _ _ (@qB _ _ (3) _ _ _ _ xp.nd rfl (Or.inl rfl) (@Qf _ _ _ _ _ _ (QQ hr) (pv 0) (@qF _ _ _ _ _ _ _ qR (pv 2) qj (fun _ _=>rfl)) (fun _ _=>rfl)) () ()) (@qg _ _ _ (@ql _ _ _ _ (@yR _ _ _ _ _ _ _ _ (@qm _ _ _ _ _ _ _ _ XL (@qk _ _ _ _ _ _ _ _ _ QS () T.Qy um (@qa _ _ _ _ _ (pv 3) qc ()) () () () ()) qj (qw _)) (@Qn _ _ _ _ _ _ _ _ _ _ sl_any (pv 3) (@QA _ _ _ qj) QJ) Qe)))),?_⟩
 obtain⟨x,y,rfl,hx,O⟩:=y0 (qK M (by decide+kernel))
 refine⟨_,rfl,_,rfl,?_⟩;refine bget (i:=1) hB L rfl O fun v R=> ?_;have ly:=QF (hT y O);have hg:=hT y O;have I:∀(v:V) (H':Hp),Same H H'->Is H' (restD (B y)) v->Q v H':=k;generalize B y=dy at R I ly hg⊢;cases dy with
 |str z=>
  obtain⟨rfl,U⟩:=R;refine⟨_,rfl,.inl ⟨z,rfl,U,_,_,rfl,rfl,_,rfl,?_⟩⟩;refine ite2 (fun c=> ?_) (fun c=> ?_)
  ·have h0:1<=z.length:=by have:=ua c;omega
   have k2:Is H (restD (.str z)) (.str (Txt.slice z (some 1) none)):=by
    show Is H (if z.length=0 then D.non else _) _
    rw [if_neg (by omega)]
    exact⟨rfl,uP (Txt.slice_le z _ _) U⟩
   exact⟨_,rfl,_,rfl,.inl ⟨z,rfl,U,I _ H (Same.refl _) k2⟩⟩
  ·have h0:z.length=0:=by
    rcases vW z.length with e|e
    ·exact e
    ·exact absurd (u0 (by omega)) c
   exact I _ H (Same.refl _) (by show Is H (if z.length=0 then D.non else _) _;rw [if_pos h0];rfl)
 |tup xs=>
  have Y:=R;obtain⟨r,rs,rfl,er,ir⟩:=Y;refine⟨_,rfl,.inr ⟨r,rs,rfl,.inr (SqT.of er),fun _=>⟨_,_,rfl,rfl,_,rfl,?_⟩⟩⟩;have hl:=ir.length;cases xs with
  |nil=>exact qo (u9 (by rw [hl];decide)) (I _ H (Same.refl _) rfl)
  |cons e es=>
   refine qA (u0 (by rw [hl,ud];omega)) ?_
   obtain⟨v0,r0,rfl,i0,i1⟩:=ir;refine⟨_,rfl,_,rfl,.inr ⟨r,v0::r0,rfl,SqT.of er,fun h=> ?_,fun _ p L=> ?_⟩⟩
   ·exfalso;have:=h.1;simp [HT.sIx] at this
   ·have e1:cutV (v0::r0) (some 1) none=r0:=by
     rw [show(some (1:Int))=some (((1:Nat)):Int) from rfl,Ju (by simp)]
     rfl
    rw [e1];exact I _ _ (qb L _) (Is.new i1 L)
 |_=>simp [isT,good] at hg
theorem ok_size (T:Tx K mg a):FnOk P w K mg base CX0 1 a.Jb a.Xv ["boxes","own","parts"] (JV "size"):=by
 refine T.g_size_made.F.ok sc_size_made () (fun _ _ _ _ H _ Q E hr h=> ?_)
 obtain⟨d,t,own,B,ps,n,rfl,hB,Y,ho,I,hp,k⟩:=h;refine⟨_,(@qg _ _ _ (@ql _ _ _ _ (@qP _ _ _ _ _ _ _ _ _ yN () T.yy vr (@qa _ _ _ _ _ (@qk _ _ _ _ _ _ _ _ _ QS () T.Qy um (@qa _ _ _ _ _ (@Qf _ _ _ _ _ _ (QQ hr) (pv 0) (@qF _ _ _ _ _ _ _ qR (pv 2) qj (fun _ _=>rfl)) (fun _ _=>rfl)) qc ()) () () () ()) qc ()) () () () ()))),?_⟩
 obtain⟨x,y,rfl,hx,L⟩:=y0 (qK I (by decide+kernel))
 refine⟨_,rfl,_,rfl,?_⟩;refine bget (i:=1) hB hp rfl L fun v M=> ?_;have O:=QF (Y y L);have hg:=Y y L;have R:∀(v:V) (H':Hp),Same H H'->Is H' (.str (toString ((lenD (B y):Nat):Int))) v->Q v H':=k;generalize B y=dy at M R O hg⊢;have sm:∀n:Nat,n<=600->((n:Int)).natAbs.log2<1920/\((toString (n:Int):Str)).length<=sizeLine:=by
  intro n hn;have h2:=UL ((n:Int)).natAbs;exact⟨by omega,int_text_fits (by omega)⟩
 cases dy with
 |str z=>
  obtain⟨rfl,hz⟩:=M;have h2:=sm z.length O;exact .inl ⟨z,rfl,hz,_,rfl,h2.1,R _ H (Same.refl _) ⟨rfl,h2.2⟩⟩
 |tup xs=>
  have U:=M;obtain⟨r,rs,rfl,er,ir⟩:=U;have h2:=sm xs.length O;refine .inr ⟨r,rs,rfl,.inr (SqT.of er),fun _=>⟨_,rfl,?_,?_⟩⟩
  ·rw [ir.length];exact h2.1
  ·rw [ir.length];exact R _ H (Same.refl _) ⟨rfl,h2.2⟩
 |_=>simp [isT,good] at hg
theorem ok_cut (T:Tx K mg a):FnOk P w K mg base CX0 1 a.xh a.zj ["boxes","own","parts"] (JV "cut"):=by
 refine T.g_cut_made.F.ok jE () (fun _ _ _ _ H _ Q E hr h=> ?_)
 obtain⟨d,t,own,B,ps,n,rfl,hB,hT,ho,R,M,k⟩:=h;refine⟨_,(@qe _ _ _ _ _ (@qB _ _ (3) _ _ _ _ jE.nd rfl (Or.inl rfl) (@Qf _ _ _ _ _ _ (QQ hr) (pv 0) (@qF _ _ _ _ _ _ _ qR (pv 2) qj (fun _ _=>rfl)) (fun _ _=>rfl)) () ()) (@qe _ _ _ _ _ (@qB _ _ (4) _ _ _ _ jE.nd rfl (Or.inl rfl) (@Qf _ _ _ _ _ _ (QQ hr) (pv 0) (@qF _ _ _ _ _ _ _ qR (pv 2) qj (fun _ _=>rfl)) (fun _ _=>rfl)) () ()) (@qe _ _ _ _ _ (@qG _ _ _ _ _ _ _ _ (@Yf _ _ _ _ _ _ _ (@Qm _ _ _ _ (@qU _ _ _ (@qk _ _ _ _ _ _ _ _ _ (@qz _ _ rfl) () T.qt uo (@qa _ _ _ _ _ (pv 3) (@qa _ _ _ _ _ (@qV _ _ (.ty "str") _ _ () T.yy vr rfl () ()) qc ()) ()) () () () ()) ())) (@Yf _ _ _ _ _ _ _ (@Qm _ _ _ _ (@qU _ _ _ (@qk _ _ _ _ _ _ _ _ _ (@qz _ _ rfl) () T.qt uo (@qa _ _ _ _ _ (pv 4) (@qa _ _ _ _ _ (@qV _ _ (.ty "str") _ _ () T.yy vr rfl () ()) qc ()) ()) () () () ()) ())) (@yK _ _ _ _ (@qm _ _ _ _ _ _ _ _ Qg (pv 4) qi (qw _))))).pt (@qg _ _ _ (@ql _ _ _ _ Qe)) qq) (@qg _ _ _ (@ql _ _ _ _ (@qP _ _ _ _ _ _ _ _ _ qL () T.Qa uU (@qa _ _ _ _ _ (@Yj _ _ _ _ _ _ _ _ _ _ _ _ uH vz vA mt_splitG (pv 3) (@qa _ _ _ _ _ (pv 4) qc ()) () () () () ()) qc ()) () () () ())))))),?_⟩
 dsimp only [cxOf,Cx.nox];obtain⟨x0,x,y,rfl,aa,hx,hy⟩:=sh_bbb (qK R (by decide+kernel))
 refine⟨_,rfl,_,rfl,?_⟩;refine bget (i:=1) hB M rfl hx fun v U=> ?_;refine⟨_,rfl,_,rfl,?_⟩;refine bget (i:=2) hB M rfl hy fun u Y=> ?_;have lx:=QF (hT x hx);have ly:=QF (hT y hy);have L:∀(v:V) (H':Hp),Same H H'->Is H' (cutD (B x) (B y)) v->Q v H':=k;generalize B x=dx at U L lx⊢;generalize B y=O at Y L ly⊢;refine⟨_,rfl,v,"str",tyD dx,isStr dx,rfl,U.ty,Qs _,_,rfl,?_⟩;cases dx with
 |str z=>
  refine iteF ⟨_,rfl,u,"str",tyD O,isStr O,rfl,Y.ty,Qs _,_,rfl,?_⟩;cases O with
  |str I=>
   refine iteF ?_;obtain⟨rfl,_⟩:=U;obtain⟨rfl,_⟩:=Y;have h1:z.length<=600:=lx;have h2:I.length<=600:=ly;refine⟨_,rfl,rfl,_,rfl,?_⟩;refine ite2 (fun c=> ?_) (fun c=> ?_)
   ·have e:I="":=by have:=ua c;injection this
    subst e;exact L _ H (Same.refl _) rfl
   ·have h3:I.length≠0:=fun h=>c (u0 (by
     have:I="":=by
      have h4:I.cps= #[]:=vH h;cases I;simp only at h4;subst h4
      decide+kernel
     rw [this]))
    refine⟨_,rfl,rfl,_,rfl,z,I,rfl,rfl,by omega,by omega,fun p M=>⟨p,_,rfl,.inl ⟨SqL.of qh,fun l hl=> ?_⟩⟩⟩
    have s1:Same H (upd H p (.lst ((spG z I).map V.str))):=qb M _;refine L _ _ (s1.trans (qb hl _)) ?_;show Is _ (if I.length=0 then D.non else .tup ((spG z I).map D.str)) _
    rw [if_neg h3];exact Is.new (IsL.ofStrs fun q hq=>qY (by have:=spG_mem hq;omega)) hl
  |_=>exact iteT (L _ H (Same.refl _) rfl)
 |_=>exact iteT (L _ H (Same.refl _) (by cases O<;>rfl))
theorem ok_glue (T:Tx K mg a):FnOk P w K mg base CX0 1 a.jR a.Xj ["boxes","own","parts"] (JV "glue"):=by
 refine T.g_glue_made.F.ok YN () (fun _ _ _ _ H _ Q E hr h=> ?_)
 obtain⟨d,t,own,B,ps,n,rfl,hB,hT,ho,aa,hp,k⟩:=h;refine⟨_,(@qe _ _ _ _ _ (@qB _ _ (3) _ _ _ _ YN.nd rfl (Or.inl rfl) (@Qf _ _ _ _ _ _ (QQ hr) (pv 0) (@qF _ _ _ _ _ _ _ qR (pv 2) qj (fun _ _=>rfl)) (fun _ _=>rfl)) () ()) (@qe _ _ _ _ _ (@qB _ _ (4) _ _ _ _ YN.nd rfl (Or.inl rfl) (@Qf _ _ _ _ _ _ (QQ hr) (pv 0) (@qF _ _ _ _ _ _ _ qR (pv 2) qj (fun _ _=>rfl)) (fun _ _=>rfl)) () ()) (@qe _ _ _ _ _ (@qG _ _ _ _ _ _ _ _ (@Yf _ _ _ _ _ _ _ (@Qm _ _ _ _ (@qU _ _ _ (@qk _ _ _ _ _ _ _ _ _ (@qz _ _ rfl) () T.qt uo (@qa _ _ _ _ _ (pv 3) (@qa _ _ _ _ _ (@qV _ _ (.ty "tuple") _ _ () T.Qa uU rfl () ()) qc ()) ()) () () () ()) ())) (@yK _ _ _ _ (@Qm _ _ _ _ (@qU _ _ _ (@qk _ _ _ _ _ _ _ _ _ (@qz _ _ rfl) () T.qt uo (@qa _ _ _ _ _ (pv 4) (@qa _ _ _ _ _ (@qV _ _ (.ty "str") _ _ () T.yy vr rfl () ()) qc ()) ()) () () () ()) ())))).pt (@qg _ _ _ (@ql _ _ _ _ Qe)) qq) (@qe _ _ _ _ _ (@qG _ _ _ _ _ _ _ _ (@Qm _ _ _ _ (@qU _ _ _ (@qk _ _ _ _ _ _ _ _ _ (@yL _ rfl) () T.z_all boot_all (@qa _ _ _ _ _ (@JG _ _ (["part"]) (1) ([]) _ _ _ _ _ _ _ _ _ (lcs0) rfl (@Y7 _ _ _ _ (pv 3)) (fun _ _ _ _ _ _=>(@qQ _ _ (0) _ (show List.Nodup (["part"]:List Str) by decide+kernel) rfl (Or.inl rfl) ())) (fun _ _ _ _ _ _=> @QW _) (fun _ _ _ _ _ _=>(@qk _ _ _ _ _ _ _ _ _ (@qz _ _ rfl) () T.qt uo (@qa _ _ _ _ _ (pv 0) (@qa _ _ _ _ _ (@qV _ _ (.ty "str") _ _ () T.yy vr rfl () ()) qc ()) ()) () () () ())) ()) qc ()) () () () ()) ())) (@qg _ _ _ (@ql _ _ _ _ Qe)) qq) (@qg _ _ _ (@ql _ _ _ _ (@Yj _ _ _ _ _ _ _ _ _ _ _ _ uH vI vJ mt_joinT (pv 4) (@qa _ _ _ _ _ (pv 3) qc ()) () () () () ()))))))),?_⟩
 dsimp only [cxOf,Cx.nox];obtain⟨x0,x,y,rfl,ad,hx,hy⟩:=sh_bbb (qK aa (by decide+kernel))
 refine⟨_,rfl,_,rfl,?_⟩;refine bget (i:=1) hB hp rfl hx fun v iv=> ?_;refine⟨_,rfl,_,rfl,?_⟩;refine bget (i:=2) hB hp rfl hy fun u iu=> ?_;have lx:=QF (hT x hx);have hg:=hT x hx;have ly:=QF (hT y hy);have L:∀(v:V) (H':Hp),Same H H'->Is H' (glueD (B x) (B y)) v->Q v H':=k;generalize B x=dx at iv L lx hg⊢;generalize B y=dy at iu L ly⊢;refine⟨_,rfl,v,"tuple",tyD dx,jo dx,rfl,iv.ty,yM _,_,rfl,?_⟩;cases dx with
 |tup xs=>
  refine iteF ⟨_,rfl,u,"str",tyD dy,isStr dy,rfl,iu.ty,Qs _,_,rfl,?_⟩;cases dy with
  |str M=>
   refine iteF ?_;obtain⟨r,rs,rfl,er,ir⟩:=iv;obtain⟨rfl,_⟩:=iu;have h1:xs.length<=600:=lx;have h2:M.length<=600:=ly;refine⟨_,rfl,r,rs,rfl,SqT.of er,fun ae A0 ab=> ?_⟩;refine Jc (tl:= []) (fun d=> .bl (isStr d)) er ir (fits (by omega)) ab (fun d0 x0 H3 R af s3 i3 q=>⟨_,rfl,x0,"str",tyD d0,isStr d0,rfl,i3.ty,Qs _,q _ H3 (Same.refl _) rfl⟩) fun H1 ys s1 l1 i1=> ?_
   have ey:ys=(xs.map isStr).map V.bl:=IsL.bls (by rw [uT];exact i1)
   subst ey;refine⟨A0,xs.map isStr,rfl,SqL.of l1,_,rfl,?_⟩;have O:(xs.map isStr).all id=yt xs:=by rw [J5,vU];rfl
   rw [O];cases I:yt xs with
   |false=>exact iteT (L _ H1 s1 (by show Is H1 (if yt xs=true then _ else D.non) _;rw [I];rfl))
   |true=>
    have U:=ZL I;have ac:rs=(yw xs).map V.str:=IsL.strs (by rw [<-U];exact ir)
    have hsz:=isT_sz hg;have Y:=ZU (yw xs);rw [<-U] at Y;simp only [sz] at hsz;have ag:(yw xs).length*M.length<=600*600:=Nat.mul_le_mul (by omega) h2
    have hj:=join_le M (yw xs);refine iteF ⟨_,rfl,rfl,_,rfl,M,r,yw xs,rfl,rfl,SqT.of (by rw [s1 _ _ er,ac]),by omega,?_⟩
    refine L _ H1 s1 ?_;show Is H1 (if yt xs=true then .str (Str.join M (yw xs)) else D.non) _
    rw [I];exact⟨rfl,fits (by omega)⟩
  |_=>exact iteT (L _ H (Same.refl _) rfl)
 |_=>exact iteT (L _ H (Same.refl _) (by cases dy<;>rfl))
noncomputable def jump (w:Str)(B:Str->D)(ps:List Pt):Bool:=if w="like" then eqD (B (b0 ps)) (B (b1 ps)) else if w="rowed" then jo (B (b0 ps)) else if w="none" then decide (lenD (B (b0 ps))=0) else true
def JMP:List Str:= ["go","like","rowed","none"]
def ASK:List Str:= ["ask","has","names"]
def flt (w:Str):D:= .tup [.str "fault",.str w]
noncomputable def askF (w:Str)(held:D):D:=if w="names" then(if isStr held=true then .tup [.str "asks",.tup [.str "names",held]] else flt "kind") else if isNm held=true then .tup [.str "asks",.tup [.str (if w="ask" then "thing" else "has"),held]] else flt "name"
def sp_jump:Sp:=fun vs H Q _=>∃(d t:Addr) (w:Str) (B:Str->D) (ps:List Pt) (n:Nat),vs= [.ref d,.str w,.ref t]/\QL H d B/\Tr B/\w∈JMP/\QI n 300 (w,ps)/\PtsAt H t ps/\Q (.bl (jump w B ps)) H
def sp_asked:Sp:=fun vs H Q _=>∃(w:Str) (v:V) (d:D),vs= [.str w,v]/\w∈ASK/\Is H d v/\∀(u:V) (H':Hp),Same H H'->Is H' (askF w d) u->Q u H'
mutual
theorem good_pu:∀{d:D},good d=true->puD d=true
 | .str _,_=>rfl
 | .tup xs,h=>by
  simp only [good,ui] at h;show puL xs=true;exact goodL_pu h.2
 | .non,h| .bl _,h| .int _,h| .lst,h| .dct,h=>by simp [good] at h
theorem goodL_pu:∀{xs:List D},goodL xs=true->puL xs=true
 | [],_=>rfl
 |x::r,h=>by
  simp only [goodL,ui] at h;simp only [puL,good_pu h.1,goodL_pu h.2,Bool.and_self]
end
theorem good_tr {d:D}(h:good d=true):trD d=true:=by
 cases d with
 |str z=>rfl
 |tup xs=>exact good_pu (d:= .tup xs) h
 |_=>simp [good] at h
theorem yP {d:D}(h:isT d=true):good d=true:=by
 unfold isT at h;rw [ui,ui] at h;exact h.1.1
theorem isT_tr {d:D}(h:isT d=true):trD d=true:=good_tr (yP h)
theorem ok_jump (T:Tx K mg a):FnOk P w K mg base CX0 1 a.YJ a.YY ["boxes","word","parts"] sp_jump:=by
 refine T.g_is_jump_taken.F.ok xF () (fun _ _ _ _ H _ Q E O h=> ?_)
 obtain⟨d,t,w,B,ps,n,rfl,R,U,hw,L,Y,k⟩:=h;refine⟨_,(@qe _ _ _ _ _ (@qG _ _ _ _ _ _ _ _ (@qm _ _ _ _ _ _ _ _ Qg (pv 1) qi (qw _)) (@qg _ _ _ (@ql _ _ _ _ (@QG _ _ _ _ _ _ _ _ (@op_eqD _ O.units) (@Qf _ _ _ _ _ _ (QQ O) (pv 0) (@qF _ _ _ _ _ _ _ qR (pv 2) qj (fun _ _=>rfl)) (fun _ _=>rfl)) (@Qf _ _ _ _ _ _ (QQ O) (pv 0) (@qF _ _ _ _ _ _ _ qR (pv 2) qj (fun _ _=>rfl)) (fun _ _=>rfl)) (qw _)))) qq) (@qe _ _ _ _ _ (@qG _ _ _ _ _ _ _ _ (@qm _ _ _ _ _ _ _ _ Qg (pv 1) qi (qw _)) (@qg _ _ _ (@ql _ _ _ _ (@qk _ _ _ _ _ _ _ _ _ (@qz _ _ rfl) () T.qt uo (@qa _ _ _ _ _ (@Qf _ _ _ _ _ _ (QQ O) (pv 0) (@qF _ _ _ _ _ _ _ qR (pv 2) qj (fun _ _=>rfl)) (fun _ _=>rfl)) (@qa _ _ _ _ _ (@qV _ _ (.ty "tuple") _ _ () T.Qa uU rfl () ()) qc ()) ()) () () () ()))) qq) (@qe _ _ _ _ _ (@qG _ _ _ _ _ _ _ _ (@qm _ _ _ _ _ _ _ _ Qg (pv 1) qi (qw _)) (@qg _ _ _ (@ql _ _ _ _ (@QG _ _ _ _ _ _ _ _ Qg (@qk _ _ _ _ _ _ _ _ _ QS () T.Qy um (@qa _ _ _ _ _ (@Qf _ _ _ _ _ _ (QQ O) (pv 0) (@qF _ _ _ _ _ _ _ qR (pv 2) qj (fun _ _=>rfl)) (fun _ _=>rfl)) qc ()) () () () ()) qj (qw _)))) qq) (@qg _ _ _ (@ql _ _ _ _ jn))))),?_⟩
 dsimp only [cxOf,Cx.nox];refine⟨_,rfl,rfl,_,rfl,?_⟩;simp only [JMP,uB,vw,vb] at hw;rcases hw with rfl|rfl|rfl|rfl
 ·refine qo (by decide+kernel) ?_
  refine⟨_,rfl,rfl,_,rfl,qo (by decide+kernel) ?_⟩
  refine⟨_,rfl,rfl,_,rfl,qo (by decide+kernel) ?_⟩
  exact k
 ·refine qA (by decide+kernel) ?_
  obtain⟨x,y,i,rfl,I,hy,_⟩:=sh_bbl (qK L (by decide+kernel))
  refine⟨_,rfl,_,rfl,?_⟩;dsimp only [tC];refine bget (i:=0) R Y rfl I fun v M=> ?_;refine⟨_,rfl,_,rfl,?_⟩;dsimp only [tC];refine bget (i:=1) R Y rfl hy fun u iu=> ?_;refine⟨B x,B y,M,iu,isT_tr (U x I),isT_tr (U y hy),?_,k⟩
  ·have:=Jt (U x I);omega
 ·refine qo (by decide+kernel) ?_
  refine⟨_,rfl,rfl,_,rfl,qA (by decide+kernel) ?_⟩
  obtain⟨x,i,rfl,I,_⟩:=sh_bl (qK L (by decide+kernel))
  refine⟨_,rfl,_,rfl,?_⟩;refine bget (i:=0) R Y rfl I fun v M=> ?_;exact⟨v,"tuple",tyD (B x),jo (B x),rfl,M.ty,yM _,k⟩
 ·refine qo (by decide+kernel) ?_
  refine⟨_,rfl,rfl,_,rfl,qo (by decide+kernel) ?_⟩
  refine⟨_,rfl,rfl,_,rfl,qA (by decide+kernel) ?_⟩
  obtain⟨x,i,rfl,I,_⟩:=sh_bl (qK L (by decide+kernel))
  refine⟨_,rfl,_,rfl,?_⟩;refine bget (i:=0) R Y rfl I fun v M=> ?_;have k':Q (.bl (decide (lenD (B x)=0))) H:=k;have hg:=U x I;generalize B x=dx at M k' hg⊢;have hn:∀n:Nat,decide (V.int (n:Int)=V.int 0)=decide (n=0):=fun n=>by
   rw [uA];constructor
   ·intro h;injection h with h;omega
   ·rintro rfl;rfl
  cases dx with
  |str z=>
   obtain⟨rfl,hz⟩:=M;refine .inl ⟨z,rfl,hz,rfl,?_⟩;rw [hn];exact k'
  |tup xs=>
   obtain⟨r,rs,rfl,er,ir⟩:=M;refine .inr ⟨r,rs,rfl,.inr (SqT.of er),fun _=>⟨rfl,?_⟩⟩;rw [hn,ir.length];exact k'
  |_=>simp [isT,good] at hg
theorem ok_asked (T:Tx K mg a):FnOk P w K mg base CX0 2 a.YC a.YB ["word","held"] sp_asked:=by
 have YL:=ok_name (P:=P) (w:=w) (base:=base) T;refine T.g_asked_or_fault.F.ok J9 () (fun _ _ _ _ H _ Q E hr h=> ?_)
 obtain⟨w,v,d,rfl,hw,U,k⟩:=h;refine⟨_,(@qe _ _ _ _ _ (@qG _ _ _ _ _ _ _ _ (@qm _ _ _ _ _ _ _ _ Qg (pv 0) qi (qw _)) (@qg _ _ _ (@ql _ _ _ _ (@yR _ _ _ _ _ _ _ _ (@qU _ _ _ (@qk _ _ _ _ _ _ _ _ _ (@qz _ _ rfl) () T.qt uo (@qa _ _ _ _ _ (pv 1) (@qa _ _ _ _ _ (@qV _ _ (.ty "str") _ _ () T.yy vr rfl () ()) qc ()) ()) () () () ()) ()) (@qy _ _ _ _ _ (@qa _ _ _ _ _ qi (@qa _ _ _ _ _ (@qy _ _ _ _ _ (@qa _ _ _ _ _ qi (@qa _ _ _ _ _ (pv 1) qc ()) ())) qc ()) ())) (@qy _ _ _ _ _ (@qa _ _ _ _ _ qi (@qa _ _ _ _ _ qi qc ()) ()))))) qq) (@qe _ _ _ _ _ (@qG _ _ _ _ _ _ _ _ (@Qm _ _ _ _ (@qU _ _ _ (@qv _ _ _ _ _ _ _ _ _ _ _ _ _ _ _ _ YL (hr.mono ()) () T.g_is_name.m T.g_is_name.F.kp T.g_is_name.b .nil qN (@qa _ _ _ _ _ (pv 1) qc ()) () () ()) ())) (@qg _ _ _ (@ql _ _ _ _ (@qy _ _ _ _ _ (@qa _ _ _ _ _ qi (@qa _ _ _ _ _ qi qc ()) ())))) qq) (@qg _ _ _ (@ql _ _ _ _ (@qy _ _ _ _ _ (@qa _ _ _ _ _ qi (@qa _ _ _ _ _ (@qy _ _ _ _ _ (@qa _ _ _ _ _ (@yR _ _ _ _ _ _ _ _ (@qm _ _ _ _ _ _ _ _ Qg (pv 0) qi (qw _)) qi qi) (@qa _ _ _ _ _ (pv 1) qc ()) ())) qc ()) ())))))),?_⟩
 have two:(2:Nat)<=sizeLine:=by decide
 have st:∀{H:Hp} (z:Str),z.length<=100->Is H (.str z) (.str z):=fun z Y=>⟨rfl,qY (by omega)⟩
 have fl:∀(z:Str) (H:Hp) (l:Addr),z.length<=100->H l=none->Is (upd H l (.tup [.str "fault",.str z])) (flt z) (.ref l):=fun z H l Y L=>Is.new (ds:= [.str "fault",.str z]) ⟨_,_,rfl,st _ (by decide),_,_,rfl,st _ Y,rfl⟩ L
 refine⟨_,rfl,rfl,_,rfl,?_⟩;by_cases c:w="names"
 ·subst c;refine qA (by decide+kernel) ?_
  have ea:askF "names" d=if isStr d=true then .tup [.str "asks",.tup [.str "names",d]] else flt "kind":=by unfold askF;rw [if_pos rfl]
  rw [ea] at k;refine⟨_,rfl,v,"str",tyD d,isStr d,rfl,U.ty,Qs _,_,rfl,?_⟩;cases O:isStr d with
  |true=>
   rw [O] at k;refine iteT ⟨_,rfl,two,fun l L=>⟨two,fun M I=> ?_⟩⟩;have t1:Same H (upd H l (.tup [.str "names",v])):=qb L _;refine k _ _ (t1.trans (qb I _)) ?_;exact Is.new (ds:= [.str "asks",.tup [.str "names",d]]) ⟨_,_,rfl,st _ (by decide),_,_,rfl,Is.new (ds:= [.str "names",d]) ⟨_,_,rfl,st _ (by decide),_,_,rfl,U,rfl⟩ L,rfl⟩ I
  |false=>
   rw [O] at k;exact iteF ⟨two,fun l L=>k _ _ (qb L _) (fl "kind" H l (by decide) L)⟩
 ·refine qo (u9 fun h=>c (by injection h)) ?_
  have ea:askF w d=if isNm d=true then .tup [.str "asks",.tup [.str (if w="ask" then "thing" else "has"),d]] else flt "name":=by unfold askF;rw [if_neg c]
  rw [ea] at k;refine⟨_,rfl,v,d,rfl,U,fun H1 s1=>⟨_,rfl,?_⟩⟩;cases O:isNm d with
  |false=>
   rw [O] at k;exact iteT ⟨two,fun l L=>k _ _ (s1.trans (qb L _)) (fl "name" H1 l (by decide) L)⟩
  |true=>
   rw [O] at k;refine iteF ⟨_,rfl,rfl,_,rfl,?_⟩;have R:∀z:Str,z.length<=100->z=(if w="ask" then("thing":Str) else "has")->∀l,H1 l=none->∀M,(upd H1 l (.tup [.str z,v])) M=none->Q (.ref M) (upd (upd H1 l (.tup [.str z,v])) M (.tup [.str "asks",.ref l])):=by
    intro z Y ez l L M I;have t1:Same H1 (upd H1 l (.tup [.str z,v])):=qb L _;refine k _ _ (s1.trans (t1.trans (qb I _))) ?_;rw [<-ez];exact Is.new (ds:= [.str "asks",.tup [.str z,d]]) ⟨_,_,rfl,st _ (by decide),_,_,rfl,Is.new (ds:= [.str z,d]) ⟨_,_,rfl,st _ Y,_,_,rfl,U.mono s1.tk,rfl⟩ L,rfl⟩ I
   refine ite2 (fun c2=> ?_) (fun c2=> ?_)
   ·have e:w="ask":=by have:=ua c2;injection this
    exact⟨_,rfl,two,fun l L=>⟨two,fun M I=>R "thing" (by decide) (by rw [if_pos e]) l L M I⟩⟩
   ·have e:w≠"ask":=fun e=>c2 (u0 (by rw [e]))
    exact⟨_,rfl,two,fun l L=>⟨two,fun M I=>R "has" (by decide) (by rw [if_neg e]) l L M I⟩⟩
end
structure Mc where
 (x db dg:Addr)
 rs:List Rw
 own:Str
structure Rn where
 B:Str->D
 p:Int
 n:Nat
 gs:List D
 th:D
def MTH:List Str:= ["now","answer","asked","lines","copy","go_on","is_waiting","do_row","hold"]
structure Fl (fs:List (Str×V))(rv ru:V)(own:Str)(db dg:Addr)(place:Int)(done:Nat)(tv:V):Prop where
 rows:fs.lookup ("rows":Str)=some rv
 rule:fs.lookup ("rule":Str)=some ru
 own:fs.lookup ("own":Str)=some (.str own)
 boxes:fs.lookup ("boxes":Str)=some (.ref db)
 place:fs.lookup ("place":Str)=some (.int place)
 done:fs.lookup ("done":Str)=some (.int (done:Int))
 given:fs.lookup ("given":Str)=some (.ref dg)
 there:fs.lookup ("there":Str)=some tv
 meth:∀m∈MTH,fs.lookup m=none
 len:fs.length<=20
theorem xM {f:Str}{v:V}:∀{fs:List (Str×V)}{u:V},fs.lookup f=some u->(putF f v fs).length=fs.length
 |(g,x)::r,u,h=>by
  unfold putF;by_cases c:g=f
  ·rw [if_pos c];rfl
  ·rw [if_neg c,ud,ud];have e:(f==g)=false:=by simp;exact fun z=>c z.symm
   rw [v9,e] at h;rw [xM (u:=u) h]
 | [],u,h=>by simp at h
section
variable {fs:List (Str×V)}{rv ru:V}{own:Str}{db dg:Addr}{place:Int}{done:Nat}{tv:V}
theorem Fl.set_there {u:V}(h:Fl fs rv ru own db dg place done tv):Fl (putF "there" (u) fs) rv ru own db dg place done u:=by
 refine⟨?_,?_,?_,?_,?_,?_,?_,?_,fun m hm=> ?_,by rw [xM h.there];exact h.len⟩
 all_goals rw [qM]
 all_goals first|rw [if_pos rfl]|(rw [if_neg (by decide+kernel)];first|exact h.rows|exact h.rule|exact h.own|exact h.boxes|exact h.place|exact h.done|exact h.given|exact h.there)|(rw [if_neg (fun e=>by subst e;revert hm;decide+kernel)];exact h.meth m hm)
theorem Fl.set_place {q:Int}(h:Fl fs rv ru own db dg place done tv):Fl (putF "place" (.int q) fs) rv ru own db dg q done tv:=by
 refine⟨?_,?_,?_,?_,?_,?_,?_,?_,fun m hm=> ?_,by rw [xM h.place];exact h.len⟩
 all_goals rw [qM]
 all_goals first|rw [if_pos rfl]|(rw [if_neg (by decide+kernel)];first|exact h.rows|exact h.rule|exact h.own|exact h.boxes|exact h.place|exact h.done|exact h.given|exact h.there)|(rw [if_neg (fun e=>by subst e;revert hm;decide+kernel)];exact h.meth m hm)
theorem Fl.set_done {k:Nat}(h:Fl fs rv ru own db dg place done tv):Fl (putF "done" (.int ((k:Nat):Int)) fs) rv ru own db dg place k tv:=by
 refine⟨?_,?_,?_,?_,?_,?_,?_,?_,fun m hm=> ?_,by rw [xM h.done];exact h.len⟩
 all_goals rw [qM]
 all_goals first|rw [if_pos rfl]|(rw [if_neg (by decide+kernel)];first|exact h.rows|exact h.rule|exact h.own|exact h.boxes|exact h.place|exact h.done|exact h.given|exact h.there)|(rw [if_neg (fun e=>by subst e;revert hm;decide+kernel)];exact h.meth m hm)
end
def yg (C:Addr)(H:Hp)(m:Mc)(r:Rn):Prop:=
 ∃(dx:Addr) (fs:List (Str×V)) (rv ru tv:V) (gv:List V),H m.x=some (.ins C dx fs)/\Fl fs rv ru m.own m.db m.dg r.p r.n tv/\Is H (.tup (m.rs.map rowD)) rv/\Is H (QV m.rs) ru/\QL H m.db r.B/\H m.dg=some (.lst gv)/\L2.IsL H r.gs gv/\Is H r.th tv
structure Mv (m:Mc)(H H':Hp):Prop where
 kept:∀b o,H b=some o->b≠m.x->b≠m.db->b≠m.dg->H' b=some o
 tk:Tk H H'
theorem Mv.refl (m:Mc)(H:Hp):Mv m H H:=⟨fun _ _ e _ _ _=>e,Tk.refl H⟩
theorem Mv.trans {m:Mc}{H H1 H2:Hp}(h:Mv m H H1)(h2:Mv m H1 H2):Mv m H H2:=⟨fun b o e n1 I L=>h2.kept b o (h.kept b o e n1 I L) n1 I L,h.tk.trans h2.tk⟩
theorem Mv.of {m:Mc}{H H':Hp}(s:Same H H'):Mv m H H':=⟨fun b o e _ _ _=>s b o e,s.tk⟩
theorem yg.same {C:Addr}{H H':Hp}{m:Mc}{r:Rn}(h:yg C H m r)(s:Same H H'):yg C H' m r:=
 let⟨dx,fs,rv,ru,tv,gv,e,f,i,j,b,g,gl,t⟩:=h;⟨dx,fs,rv,ru,tv,gv,s _ _ e,f,i.mono s.tk,j.mono s.tk,b.same s,s _ _ g,gl.mono s.tk,t.mono s.tk⟩
theorem QL.ne {H:Hp}{x db C dx:Addr}{fs:List (Str×V)}{B:Str->D}(e:H x=some (.ins C dx fs))(h:QL H db B):db≠x:=fun z=>by
 obtain⟨f,e2,_⟩:=h;rw [z,e] at e2;cases e2
theorem QT {C:Addr}{H:Hp}{m:Mc}{r:Rn}{dx:Addr}{fs fs':List (Str×V)}{rv ru tv:V}{I:List V}(e:H m.x=some (.ins C dx fs))(f:Fl fs' rv ru m.own m.db m.dg r.p r.n tv)(i:Is H (.tup (m.rs.map rowD)) rv)(j:Is H (QV m.rs) ru)(b:QL H m.db r.B)(L:H m.dg=some (.lst I))(M:L2.IsL H r.gs I)(t:Is H r.th tv):
  yg C (upd H m.x (.ins C dx fs')) m r/\Mv m H (upd H m.x (.ins C dx fs')):=by
 have tk:Tk H (upd H m.x (.ins C dx fs')):=Tk.updI e;have n1:m.db≠m.x:=QL.ne e b;have O:m.dg≠m.x:=fun z=>by rw [z,e] at L;cases L
 exact⟨⟨dx,fs',rv,ru,tv,I,qh,f,i.mono tk,j.mono tk,b.move tk (qx n1),by rw [qx O];exact L,M.mono tk,t.mono tk⟩,⟨fun c o h R _ _=>by rw [qx R];exact h,tk⟩⟩
def qW:D->Bool
 | .tup (.str w::_)=>decide (w="asks")
 |_=>false
def Th (d:D):Prop:=d= .non∨∃w e,d= .tup [.str w,e]
inductive Out where
 |go (B:Str->D) (p:Int)|stop (e:D)
def Out.B (B:Str->D):Out->Str->D
 | .go B' _=>B'
 | .stop _=>B
def Out.P (p:Int):Out->Int
 | .go _ p'=>p'
 | .stop _=>p
def Out.T:Out->D
 | .go _ _=> .non
 | .stop e=>e
def ZG (B:Str->D)(z:Str)(e:D)(p:Int):Out:=match e with
 | .non=> .stop (flt "kind")
 |e=>if isT e=true then .go (setB B z e) (p+1) else .stop (flt "big")
def sp_now (C:Addr):Sp:=fun vs H Q _=>∃(m:Mc) (r:Rn),vs= [.ref m.x]/\yg C H m r/\∀v,Is H r.th v->Q v H
def sp_wait (C:Addr):Sp:=fun vs H Q _=>∃(m:Mc) (r:Rn),vs= [.ref m.x]/\yg C H m r/\Th r.th/\Q (.bl (qW r.th)) H
def sp_hold (C:Addr):Sp:=fun vs H Q _=>∃(m:Mc) (r:Rn) (z:Str) (v:V) (e:D),vs= [.ref m.x,.str z,v]/\yg C H m r/\r.th= .non/\z∈BX/\Is H e v/\
 ∀H',Mv m H H'->yg C H' m ⟨(ZG r.B z e r.p).B r.B,(ZG r.B z e r.p).P r.p,r.n,r.gs,(ZG r.B z e r.p).T⟩->Q .non H'
section
variable {P:Program}{w:World}{K:PySem.W.Frag}{mg:Str->Option Value}{base:Heap}{a:Ad}{g:Ga}
theorem ok_now (T:Tx K mg a):FnOk P w K mg base CX0 1 a.Js a.Ji ["self"] (sp_now a.qC):=by
 refine T.g_Machine_now.F.ok zg () (fun _ _ _ _ H _ Q E I h=> ?_)
 obtain⟨m,r,rfl,⟨dx,fs,rv,ru,tv,L,e,f,M,O,R,U,Y,it⟩,k⟩:=h;refine⟨_,(@qg _ _ _ (@ql _ _ _ _ (@QY _ _ _ _ _ (pv 0) rfl))),?_⟩;exact⟨_,rfl,m.x,_,dx,fs,tv,rfl,e,T.qu,T.qJ,f.there,k _ it⟩
theorem ok_wait (T:Tx K mg a):FnOk P w K mg base CX0 1 a.yu a.yr ["self"] (sp_wait a.qC):=by
 refine T.g_Machine_is_waiting.F.ok je () (fun _ _ _ _ H _ Q E Y h=> ?_)
 obtain⟨m,⟨B,p,n,gs,th⟩,rfl,⟨dx,fs,rv,ru,tv,gv,e,f,ir,M,O,hg,R,it⟩,I,k⟩:=h;simp only at f O R it I k;refine⟨_,(@qg _ _ _ (@ql _ _ _ _ (@Xa _ _ _ _ _ _ _ (@QG _ _ _ _ _ _ _ _ op_notN (@QY _ _ _ _ _ (pv 0) rfl) Qe (qw _)) (@Jv _ _ _ _ _ (@QG _ _ _ _ _ _ _ _ Qg (@qF _ _ _ _ _ _ _ Y8 (@QY _ _ _ _ _ (pv 0) rfl) qj (fun _ _=>rfl)) qi (qw _)))))),?_⟩;refine⟨_,rfl,m.x,_,dx,fs,tv,rfl,e,T.qu,T.qJ,f.there,rfl,?_⟩;rcases I with rfl|⟨w1,e1,rfl⟩
 ·cases(show tv= .non from it)
  exact⟨_,rfl,qo (by decide+kernel) k⟩
 ·have L:=it;obtain⟨t0,us,rfl,et,M⟩:=L;refine⟨_,rfl,qA (by simp) ⟨_,rfl,m.x,_,dx,fs,_,rfl,e,T.qu,T.qJ,f.there,?_⟩⟩
  refine .inr (.inl (QO (i:=0) (d:= .str w1) it (qS (j:=0) rfl) fun q U=> ?_));obtain⟨rfl,_⟩:=U;refine⟨rfl,?_⟩;have ew:decide (V.str w1=V.str ("asks":Str))=decide (w1="asks"):=by
   rw [uA];exact⟨fun h=>by injection h,fun h=>by rw [h]⟩
  rw [ew];exact k
theorem ok_hold (T:Tx K mg a):FnOk P w K mg base CX0 3 a.jr a.ju ["self","box","tree"] (sp_hold a.qC):=by
 have YS:=xa (P:=P) (w:=w) (base:=base) T;refine T.g_Machine_hold.F.ok Xz () (fun _ _ _ _ H _ Q E hr h=> ?_)
 obtain⟨m,⟨B,p,n,gs,th⟩,z,v,d,rfl,⟨dx,fs,rv,ru,tv,gv,e,f,ir,iu,O,R,gl,it⟩,U,hz,I,k⟩:=h;simp only at f O gl it U k;subst U;refine⟨_,(@qg _ _ _ (@qG _ _ _ _ _ _ _ _ (@qm _ _ _ _ _ _ _ _ X1 (pv 2) Qe (qw _)) (@qg _ _ _ (@Q1 _ _ _ _ _ _ _ _ (pv 0) (@qy _ _ _ _ _ (@qa _ _ _ _ _ qi (@qa _ _ _ _ _ qi qc ()) ())) rfl)) (@qg _ _ _ (@qG _ _ _ _ _ _ _ _ (@Qm _ _ _ _ (@qU _ _ _ (@qv _ _ _ _ _ _ _ _ _ _ _ _ _ _ _ _ YS (hr.mono ()) () T.g_is_tree.m T.g_is_tree.F.kp T.g_is_tree.b .nil qN (@qa _ _ _ _ _ (pv 2) qc ()) () () ()) ())) (@qg _ _ _ (@Q1 _ _ _ _ _ _ _ _ (pv 0) (@qy _ _ _ _ _ (@qa _ _ _ _ _ qi (@qa _ _ _ _ _ qi qc ()) ())) rfl)) (@qe _ _ _ _ _ (@Zw _ _ _ _ _ _ _ _ _ (QQ hr) (@QY _ _ _ _ _ (pv 0) rfl) (pv 1) (pv 2) rfl) (@qg _ _ _ (@YQ _ _ _ _ _ _ _ _ _ _ (pv 0) qj in_add))))))),?_⟩
 dsimp only [cxOf,Cx.nox];have two:(2:Nat)<=sizeLine:=by decide
 have st:∀{H:Hp} (z:Str),z.length<=100->Is H (.str z) (.str z):=fun z hz=>⟨rfl,qY (by omega)⟩
 have fl:∀(z:Str) (H:Hp) (l:Addr),z.length<=100->H l=none->Is (upd H l (.tup [.str "fault",.str z])) (flt z) (.ref l):=fun z H l hz L=>Is.new (ds:= [.str "fault",.str z]) ⟨_,_,rfl,st _ (by decide),_,_,rfl,st _ hz,rfl⟩ L
 refine⟨_,rfl,rfl,_,rfl,?_⟩;have M:fs.length<1000:=by have:=f.len;omega
 by_cases c:d= .non
 ·subst c;cases(show v= .non from I)
  refine qA (by decide+kernel) ⟨two,fun l L=> ?_⟩
  have s1:Same H (upd H l (.tup [.str "fault",.str "kind"])):=qb L _;refine⟨_,rfl,m.x,_,dx,fs,rfl,s1 _ _ e,T.qu,T.qJ,M,?_⟩;obtain⟨Y,m2⟩:=QT (r:=⟨B,p,n,gs,flt "kind"⟩) (s1 _ _ e) (f.set_there (u:= .ref l)) (ir.mono s1.tk) (iu.mono s1.tk) (O.same s1) (s1 _ _ R) (gl.mono s1.tk) (fl "kind" H l (by decide) L)
  exact k _ ((Mv.of s1).trans m2) Y
 ·have hv:v≠ .non:=by
   rintro rfl;cases d with
   |non=>exact c rfl
   |bl b=>cases(show V.non= .bl b from I)
   |int i=>cases(show V.non= .int i from I)
   |str z=>obtain⟨h,_⟩:=I;cases h
   |lst=>obtain⟨_,_,h,_⟩:=I;cases h
   |dct=>obtain⟨_,_,h,_⟩:=I;cases h
   |tup xs=>obtain⟨_,_,h,_⟩:=I;cases h
  have eo:ZG B z d p=if isT d=true then .go (setB B z d) (p+1) else .stop (flt "big"):=by
   cases d with
   |non=>exact absurd rfl c
   |_=>rfl
  rw [eo] at k;refine qo (u9 hv) ?_;refine⟨_,rfl,v,d,rfl,I,fun H1 s1=>⟨_,rfl,?_⟩⟩;cases ht:isT d with
  |false=>
   rw [ht] at k;refine iteT ⟨two,fun l L=> ?_⟩;have s2:Same H (upd H1 l (.tup [.str "fault",.str "big"])):=s1.trans (qb L _);refine⟨_,rfl,m.x,_,dx,fs,rfl,s2 _ _ e,T.qu,T.qJ,M,?_⟩;obtain⟨Y,m2⟩:=QT (r:=⟨B,p,n,gs,flt "big"⟩) (s2 _ _ e) (f.set_there (u:= .ref l)) (ir.mono s2.tk) (iu.mono s2.tk) (O.same s2) (s2 _ _ R) (gl.mono s2.tk) (fl "big" H1 l (by decide) L)
   exact k _ ((Mv.of s2).trans m2) Y
  |true=>
   rw [ht] at k;refine iteF ?_;have ab:=I.mono s1.tk;obtain⟨kvs,aa,ac,t2⟩:=(O.same s1).put hz ab;have n1:m.db≠m.x:=QL.ne e O;have n3:m.dg≠m.db:=fun z=>by
    obtain⟨ff,e2,_⟩:=O;rw [z,e2] at R;cases R
   have e1:=s1 _ _ e;have e3:(upd H1 m.db (.dK kvs)) m.x=some (.ins a.qC dx fs):=by rw [qx n1.symm];exact e1
   refine⟨_,rfl,_,rfl,m.x,_,dx,fs,_,rfl,e1,T.qu,T.Qk,f.boxes,_,rfl,m.db,_,rfl,aa,?_⟩;refine⟨_,rfl,m.x,_,dx,fs,_,rfl,e3,T.qu,T.Qd,f.place,p,1,rfl,rfl,dx,fs,e3,M,?_⟩;obtain⟨Y,m2⟩:=QT (r:=⟨setB B z d,p+1,n,gs,.non⟩) e3 (f.set_place (q:=p+1)) ((ir.mono s1.tk).mono t2) ((iu.mono s1.tk).mono t2) ac (by rw [qx n3];exact s1 _ _ R) ((gl.mono s1.tk).mono t2) it
   exact k _ ((Mv.of s1).trans (Mv.trans ⟨fun b o h _ a2 _=>by rw [qx a2];exact h,t2⟩ m2)) Y
def MKR:List Str:= ["text","self","copy","row","put","join","first","rest","size","cut","glue"]
def jt (ps:List Pt):Int:=match ps.getLast? with
 |some (.n i)=>i
 |_=>0
noncomputable def rowO (own:Str)(r:Rw)(B:Str->D)(p:Int):Out:=
 if r.1∈MKR then ZG B (b0 r.2) (made r.1 B own r.2) p else if r.1∈ASK then .stop (askF r.1 (B (b1 r.2))) else if r.1="say" then .stop (.tup [.str "said",B (b0 r.2)]) else
 if r.1="fault" then .stop (flt "told") else if jump r.1 B r.2=true then .go B (jt r.2) else .go B (p+1)
theorem frm_mk:∀x∈FRM,x.1∈MKR->x.2.head? =some .box:=by decide+kernel
theorem xg:∀x∈FRM,x.1∈ASK->x.1∉MKR/\x.1∈NOMK/\x.2= [.box,.box]:=by decide+kernel
theorem frm_say:∀x∈FRM,x.1="say"->x.2= [.box]:=by decide+kernel
theorem frm_all:∀x∈FRM,x.1∈MKR∨(x.1∉MKR/\x.1∈NOMK/\(x.1∈ASK∨x.1∉ASK/\(x.1="say"∨x.1="fault"∨x.1≠"say"/\x.1≠"fault"/\x.1∈JMP))):=by decide+kernel
theorem frm_jmp:∀x∈FRM,x.1∈JMP->x.2.getLast? =some .line:=by decide+kernel
theorem mk_b0 {n m:Nat}{r:Rw}(h:QI n m r)(L:r.1∈MKR):∃z ps,r.2= .s z::ps/\z∈BX:=by
 obtain⟨ks,M,I⟩:=h;have:=frm_mk _ M L
 match ks,I,this with
 | .box::ks,I,_=>
  match h2:r.2,I with
  | .s z::ps,I=>exact⟨z,ps,rfl,I.1⟩
  | .n _::_,I=>exact I.1.elim
theorem Ze {n m:Nat}:∀{ks:List Kd}{ps:List Pt},y7 n m ks ps->ks.getLast? =some .line->∃I i,ps=I++ [.n i]/\1<=i/\i<=(n:Int)
 | [k],[p],h,e=>by
  cases e;cases p with
  |n i=>exact⟨[],i,rfl,h.1⟩
  |s z=>exact h.1.elim
 |k::k2::ks,p::p2::ps,h,e=>by
  rw [List.getLast?_cons_cons] at e;obtain⟨I,i,e2,hi⟩:=Ze (ks:=k2::ks) (ps:=p2::ps) h.2 e;exact⟨p::I,i,by rw [e2];rfl,hi⟩
 | [k],p::_::_,h,_=>h.2.elim
 |k::_::_,[p],h,_=>h.2.elim
 | [],[],_,e=>by cases e
 | [],_::_,h,_=>h.elim
 |_::_,[],h,_=>h.elim
theorem Zz {n m:Nat}{r:Rw}(h:QI n m r)(L:r.1∈JMP):∃I i,r.2=I++ [.n i]/\1<=i/\i<=(n:Int)/\jt r.2=i:=by
 obtain⟨ks,M,O⟩:=h;obtain⟨I,i,e,h1,h2⟩:=Ze O (frm_jmp _ M L);refine⟨I,i,e,h1,h2,?_⟩;unfold jt;rw [e,List.getLast?_concat]
def sp_dorow (C:Addr):Sp:=fun vs H Q _=>∃(m:Mc) (r:Rn) (rw:Rw) (v:V) (k:Nat),vs= [.ref m.x,v]/\yg C H m r/\r.th= .non/\Tr r.B/\m.own.length<=100/\QI k 300 rw/\Is H (rowD rw) v/\
 ∀H',Mv m H H'->yg C H' m ⟨(rowO m.own rw r.B r.p).B r.B,(rowO m.own rw r.B r.p).P r.p,r.n,r.gs,(rowO m.own rw r.B r.p).T⟩->Q .non H'
theorem mk_of (T:Tx K mg a)(C:Fx K w mg g a){x:Str}(h:x∈MKR):∃f fd,PySem.W.nsIn K g.makers x=some (some (.ref f))/\FnOk P w K mg base CX0 1 f fd ["boxes","own","parts"] (JV x)/\YX K fd ["boxes","own","parts"] []/\PySem.W.keepIn K (.ref f)=true:=by
 simp only [MKR,uB,vw,vb] at h;rcases h with rfl|rfl|rfl|rfl|rfl|rfl|rfl|rfl|rfl|rfl|rfl
 ·exact⟨_,_,C.k_text,ok_text T,T.g_text_made.b,T.g_text_made.F.kp⟩
 ·exact⟨_,_,C.k_self,ok_self T,T.g_self_made.b,T.g_self_made.F.kp⟩
 ·exact⟨_,_,C.k_copy,ok_copy T,T.g_copy_made.b,T.g_copy_made.F.kp⟩
 ·exact⟨_,_,C.k_row,ok_row T,T.g_row_made.b,T.g_row_made.F.kp⟩
 ·exact⟨_,_,C.k_put,ok_put T,T.g_put_made.b,T.g_put_made.F.kp⟩
 ·exact⟨_,_,C.k_join,ok_join T,T.g_join_made.b,T.g_join_made.F.kp⟩
 ·exact⟨_,_,C.k_first,ok_first T,T.g_first_made.b,T.g_first_made.F.kp⟩
 ·exact⟨_,_,C.k_rest,ok_rest T,T.g_rest_made.b,T.g_rest_made.F.kp⟩
 ·exact⟨_,_,C.k_size,ok_size T,T.g_size_made.b,T.g_size_made.F.kp⟩
 ·exact⟨_,_,C.k_cut,ok_cut T,T.g_cut_made.b,T.g_cut_made.F.kp⟩
 ·exact⟨_,_,C.k_glue,ok_glue T,T.g_glue_made.b,T.g_glue_made.F.kp⟩
theorem ok_dorow (T:Tx K mg a)(C:Fx K w mg g a):FnOk P w K mg base CX0 4 a.YG a.Yz ["self","row"] (sp_dorow a.qC):=by
 have Xu:=ok_jump (P:=P) (w:=w) (base:=base) T;have xx:=ok_asked (P:=P) (w:=w) (base:=base) T;have zc:=ok_hold (P:=P) (w:=w) (base:=base) T;refine T.g_Machine_do_row.F.ok Q9 () (fun _ _ _ _ H _ Q E hr h=> ?_)
 obtain⟨m,⟨B,p,n,gs,th⟩,r,v,nn,rfl,M,ab,hT,ho,Y,iv,k⟩:=h;simp only at ab hT k;subst ab;refine⟨_,(@qe _ _ _ _ _ (@qB _ _ (2) _ _ _ _ Q9.nd rfl (Or.inl rfl) (@qF _ _ _ _ _ _ _ qR (pv 1) qj (fun _ _=>rfl)) () ()) (@qe _ _ _ _ _ (@qB _ _ (3) _ _ _ _ Q9.nd rfl (Or.inl rfl) (@qF _ _ _ _ _ _ _ qR (pv 1) qj (fun _ _=>rfl)) () ()) (@qg _ _ _ (@qG _ _ _ _ _ _ _ _ (@qm _ _ _ _ _ _ _ _ op_inK (pv 2) (@Jm _ _ _ _ () C.m_MAKERS ()) (by with_unfolding_all rfl)) (@qg _ _ _ (@yH _ _ _ _ (@pe_meth _ _ _ _ _ _ _ _ _ _ _ _ _ _ _ _ _ _ _ _ (pv 0) T.qu T.g_Machine_hold.h zc (hr.mono ()) T.g_Machine_hold.b .nil qN (@qa _ _ _ _ _ (@qF _ _ _ _ _ _ _ qR (pv 3) qj (fun _ _=>rfl)) (@qa _ _ _ _ _ (@pe_callX _ _ _ _ _ _ _ _ _ (1) _ _ _ _ _ ⟨rfl,rfl,rfl,rfl,rfl⟩ (@qF _ _ _ _ _ _ _ ix_K (@Jm _ _ _ _ () C.m_MAKERS ()) (pv 2) (fun _ _=>rfl)) (hr.mono ()) (@qa _ _ _ _ _ (@QY _ _ _ _ _ (pv 0) rfl) (@qa _ _ _ _ _ (@QY _ _ _ _ _ (pv 0) rfl) (@qa _ _ _ _ _ (pv 3) qc ()) ()) ()) () ()) qc ()) ()) () () ()) ())) (@qg _ _ _ (@qG _ _ _ _ _ _ _ _ (@qm _ _ _ _ _ _ _ _ Qr (pv 2) (@Jm _ _ _ _ () C.m_ASKING ()) (by with_unfolding_all rfl)) (@qg _ _ _ (@Q1 _ _ _ _ _ _ _ _ (pv 0) (@qv _ _ _ _ _ _ _ _ _ _ _ _ _ _ _ _ xx (hr.mono ()) () T.g_asked_or_fault.m T.g_asked_or_fault.F.kp T.g_asked_or_fault.b .nil qN (@qa _ _ _ _ _ (pv 2) (@qa _ _ _ _ _ (@Qf _ _ _ _ _ _ (QQ hr) (@QY _ _ _ _ _ (pv 0) rfl) (@qF _ _ _ _ _ _ _ qR (pv 3) qj (fun _ _=>rfl)) (fun _ _=>rfl)) qc ()) ()) () () ()) rfl)) (@qg _ _ _ (@qG _ _ _ _ _ _ _ _ (@qm _ _ _ _ _ _ _ _ Qg (pv 2) qi (qw _)) (@qg _ _ _ (@Q1 _ _ _ _ _ _ _ _ (pv 0) (@qy _ _ _ _ _ (@qa _ _ _ _ _ qi (@qa _ _ _ _ _ (@Qf _ _ _ _ _ _ (QQ hr) (@QY _ _ _ _ _ (pv 0) rfl) (@qF _ _ _ _ _ _ _ qR (pv 3) qj (fun _ _=>rfl)) (fun _ _=>rfl)) qc ()) ())) rfl)) (@qg _ _ _ (@qG _ _ _ _ _ _ _ _ (@qm _ _ _ _ _ _ _ _ Qg (pv 2) qi (qw _)) (@qg _ _ _ (@Q1 _ _ _ _ _ _ _ _ (pv 0) (@qy _ _ _ _ _ (@qa _ _ _ _ _ qi (@qa _ _ _ _ _ qi qc ()) ())) rfl)) (@qg _ _ _ (@qG _ _ _ _ _ _ _ _ (@qU _ _ _ (@qv _ _ _ _ _ _ _ _ _ _ _ _ _ _ _ _ Xu (hr.mono ()) () T.g_is_jump_taken.m T.g_is_jump_taken.F.kp T.g_is_jump_taken.b .nil qN (@qa _ _ _ _ _ (@QY _ _ _ _ _ (pv 0) rfl) (@qa _ _ _ _ _ (pv 2) (@qa _ _ _ _ _ (pv 3) qc ()) ()) ()) () () ()) ()) (@qg _ _ _ (@Q1 _ _ _ _ _ _ _ _ (pv 0) (@qF _ _ _ _ _ _ _ qR (pv 3) (@pe_un _ _ _ _ _ _ un_neg qj) (fun _ _=>rfl)) rfl)) (@qg _ _ _ (@YQ _ _ _ _ _ _ _ _ _ _ (pv 0) qj in_add)))))))))))))),?_⟩
 dsimp only [cxOf,Cx.nox];have two:(2:Nat)<=sizeLine:=by decide
 obtain⟨L,ps⟩:=r;obtain⟨t0,us,rfl,et,iu⟩:=iv;obtain⟨v1,u1,rfl,⟨rfl,al⟩,v2,u2,rfl,i2,e2⟩:=iu;cases(show u2= [] from e2)
 refine⟨_,rfl,t0,_,0,_,rfl,rfl,SqT.of et,rfl,?_⟩;refine⟨_,rfl,t0,_,1,_,rfl,rfl,SqT.of et,rfl,?_⟩;obtain⟨t1,am,rfl,ao,ap⟩:=id i2;have U:PtsAt H t1 ps:=i2;have af:=Y;obtain⟨ks,hk,hp⟩:=af;have hM:=M;obtain⟨dx,fs,rv,ru,tv,gv,e,f,ir,ij,ib,hg,gl,it⟩:=hM;simp only at f ib gl it;have aa:fs.length<1000:=by have:=f.len;omega
 rcases frm_all _ hk with O|⟨O,ag,R⟩
 ·obtain⟨fa,fd,hn,hF,hb,ah⟩:=mk_of (P:=P) (base:=base) T C O;obtain⟨z,qs,rfl,ak⟩:=mk_b0 Y O;have eo:rowO m.own (L,.s z::qs) B p=ZG B z (made L B m.own (.s z::qs)) p:=by unfold rowO;rw [if_pos O];rfl
  rw [eo] at k;refine⟨_,rfl,L,g.makers,_,rfl,rfl,C.km,hn,_,rfl,?_⟩;refine iteT ?_;refine⟨_,rfl,m.x,dx,fs,rfl,e,f.meth _ (by decide+kernel),_,rfl,?_⟩
  dsimp only [tC];refine box_at (i:=0) U rfl ?_;refine⟨_,rfl,L,g.makers,_,.ref fa,rfl,rfl,C.km,hn,rfl,fa,fd,_,JV L,rfl,hF,hb,ah,?_⟩;refine⟨_,rfl,m.x,_,dx,fs,_,rfl,e,T.qu,T.Qk,f.boxes,_,rfl,m.x,_,dx,fs,_,rfl,e,T.qu,T.Jq,f.own,_,rfl,?_⟩;refine⟨m.db,t1,m.own,B,.s z::qs,nn,rfl,ib,hT,ho,Y,U,fun v H1 s1 hv=> ?_⟩;exact⟨m,⟨B,p,n,gs,.non⟩,z,v,_,rfl,M.same s1,rfl,ak,hv,fun H2 m2 M2=>k H2 ((Mv.of s1).trans m2) M2⟩
 ·refine⟨_,rfl,L,g.makers,_,rfl,rfl,C.km,C.k_no _ ag,_,rfl,?_⟩;refine iteF ?_;refine⟨_,rfl,g.asking,_,rfl,.inr (C.asking _),rfl,rfl,_,rfl,?_⟩;have ei:inV (.str L) [.str "ask",.str "has",.str "names"]=decide (L∈ASK):=jG (z:=L) (l:=ASK);rw [if_neg u8,ei];rcases R with I|⟨I,R⟩
  ·refine qA (u0 I) ?_;obtain⟨_,_,ek⟩:=xg _ hk I;simp only at ek;subst ek;obtain⟨z0,z1,rfl,h0,h1⟩:=y0 hp;have eo:rowO m.own (L,[.s z0,.s z1]) B p= .stop (askF L (B z1)):=by unfold rowO;rw [if_neg O,if_pos I];rfl
   rw [eo] at k;refine⟨_,rfl,_,rfl,m.x,_,dx,fs,_,rfl,e,T.qu,T.Qk,f.boxes,_,rfl,?_⟩;dsimp only [tC];refine bget (i:=1) ib U rfl h1 fun v hv=> ?_;refine⟨L,v,B z1,rfl,I,hv,fun u H1 s1 hu=> ?_⟩;refine⟨_,rfl,m.x,_,dx,fs,rfl,s1 _ _ e,T.qu,T.qJ,aa,?_⟩;obtain⟨m1,m2⟩:=QT (r:=⟨B,p,n,gs,askF L (B z1)⟩) (s1 _ _ e) (f.set_there (u:=u)) (ir.mono s1.tk) (ij.mono s1.tk) (ib.same s1) (s1 _ _ hg) (gl.mono s1.tk) hu;exact k _ ((Mv.of s1).trans m2) m1
  ·refine qo (u9 I) ?_;refine⟨_,rfl,rfl,_,rfl,?_⟩;have es:∀y:Str,decide (V.str L=V.str y)=decide (L=y):=fun y=>by
    rw [uA];exact⟨fun h=>by injection h,fun h=>by rw [h]⟩
   rcases R with rfl|rfl|⟨hs,hf,hj⟩
   ·refine qA (u0 rfl) ?_;have ek:=frm_say _ hk rfl;simp only at ek;subst ek;obtain⟨z0,rfl,h0⟩:=sh_b hp;have eo:rowO m.own ("say",[.s z0]) B p= .stop (.tup [.str "said",B z0]):=by unfold rowO;rw [if_neg O,if_neg I,if_pos rfl];rfl
    rw [eo] at k;refine⟨_,rfl,m.x,_,dx,fs,_,rfl,e,T.qu,T.Qk,f.boxes,_,rfl,?_⟩;dsimp only [tC];refine bget (i:=0) ib U rfl h0 fun v hv=> ?_;refine⟨two,fun l hl=> ?_⟩;have s1:Same H (upd H l (.tup [.str "said",v])):=qb hl _;refine⟨_,rfl,m.x,_,dx,fs,rfl,s1 _ _ e,T.qu,T.qJ,aa,?_⟩;obtain⟨m1,m2⟩:=QT (r:=⟨B,p,n,gs,.tup [.str "said",B z0]⟩) (s1 _ _ e) (f.set_there (u:= .ref l)) (ir.mono s1.tk) (ij.mono s1.tk) (ib.same s1) (s1 _ _ hg) (gl.mono s1.tk) (Is.new (ds:= [.str "said",B z0]) ⟨_,_,rfl,⟨rfl,qY (by decide)⟩,_,_,rfl,hv,rfl⟩ hl)
    exact k _ ((Mv.of s1).trans m2) m1
   ·have ac:¬(("fault":Str)="say"):=by decide+kernel
    refine qo (u9 fun h=>ac (by injection h)) ?_
    refine⟨_,rfl,rfl,_,rfl,qA (u0 rfl) ?_⟩;have eo:rowO m.own ("fault",ps) B p= .stop (flt "told"):=by unfold rowO;rw [if_neg O,if_neg I,if_neg ac,if_pos rfl]
    rw [eo] at k;refine⟨two,fun l hl=> ?_⟩;have s1:Same H (upd H l (.tup [.str "fault",.str "told"])):=qb hl _;refine⟨_,rfl,m.x,_,dx,fs,rfl,s1 _ _ e,T.qu,T.qJ,aa,?_⟩;obtain⟨m1,m2⟩:=QT (r:=⟨B,p,n,gs,flt "told"⟩) (s1 _ _ e) (f.set_there (u:= .ref l)) (ir.mono s1.tk) (ij.mono s1.tk) (ib.same s1) (s1 _ _ hg) (gl.mono s1.tk) (Is.new (ds:= [.str "fault",.str "told"]) ⟨_,_,rfl,⟨rfl,qY (by decide)⟩,_,_,rfl,⟨rfl,qY (by decide)⟩,rfl⟩ hl)
    exact k _ ((Mv.of s1).trans m2) m1
   ·refine qo (by rw [es];exact u9 hs) ?_
    refine⟨_,rfl,rfl,_,rfl,qo (by rw [es];exact u9 hf) ?_⟩
    have eo:rowO m.own (L,ps) B p=if jump L B ps=true then .go B (jt ps) else .go B (p+1):=by unfold rowO;rw [if_neg O,if_neg I,if_neg hs,if_neg hf]
    rw [eo] at k;obtain⟨qs,i,ad,h1,h2,hl⟩:=Zz Y hj;simp only at ad hl;refine⟨_,rfl,m.x,_,dx,fs,_,rfl,e,T.qu,T.Qk,f.boxes,_,rfl,_,rfl,m.db,t1,L,B,ps,nn,rfl,ib,hT,hj,Y,U,_,rfl,?_⟩;cases ae:jump L B ps with
    |true=>
     rw [ae] at k;refine iteT ⟨_,rfl,1,rfl,?_⟩;refine QO (i:= -1) (d:= .int i) U (by rw [ad,uE];exact Zl _ _) fun q hq=> ?_
     cases(show q= .int i from hq)
     refine⟨_,rfl,m.x,_,dx,fs,rfl,e,T.qu,T.Qd,aa,?_⟩;obtain⟨m1,m2⟩:=QT (r:=⟨B,i,n,gs,.non⟩) e (f.set_place (q:=i)) ir ij ib hg gl it;refine k _ m2 ?_;show yg _ _ _ ⟨B,jt ps,n,gs,.non⟩;rw [hl];exact m1
    |false=>
     rw [ae] at k;refine iteF ⟨_,rfl,m.x,_,dx,fs,_,rfl,e,T.qu,T.Qd,f.place,p,1,rfl,rfl,dx,fs,e,aa,?_⟩;obtain⟨m1,m2⟩:=QT (r:=⟨B,p+1,n,gs,.non⟩) e (f.set_place (q:=p+1)) ir ij ib hg gl it;exact k _ m2 m1
def yq (rs:List Rw)(p:Int):Rw:=rs.getD (p.toNat-1) ("fault",[])
noncomputable def runS (rs:List Rw)(own:Str)(gs:List D):Nat->(Str->D)->Int->Nat->Rn
 |0,B,p,n=>⟨B,p,n,gs,if p>rs.length then flt "silent" else flt "long"⟩
 |f+1,B,p,n=>if p>rs.length then⟨B,p,n,gs,flt "silent"⟩ else match rowO own (yq rs p) B p with
  | .go B' p'=>runS rs own gs f B' p' (n+1)
  | .stop e=>⟨B,p,if qW e=true then n else n+1,gs,e⟩
theorem row_at {rs:List Rw}{p:Int}(h1:1<=p)(h2:p<=rs.length):rs[p.toNat-1]? =some (yq rs p):=by
 unfold yq;have h:p.toNat-1<rs.length:=by omega
 simp [List.getD,h]
theorem Zq {rs:List Rw}{p:Int}(h1:1<=p)(h2:p<=rs.length):yq rs p∈rs:=uJ (row_at h1 h2)
theorem ZQ {B:Str->D}{z:Str}{e:D}(h:Tr B)(I:isT e=true):Tr (setB B z e):=fun y L=>by
 unfold setB;by_cases c:y=z
 ·rw [if_pos c];exact I
 ·rw [if_neg c];exact h y L
def OutOk (n:Int):Out->Prop
 | .go B p=>Tr B/\1<=p/\p<=n+1
 | .stop e=>∃w d,e= .tup [.str w,d]
theorem holdO_ok {B:Str->D}{z:Str}{e:D}{p n:Int}(h:Tr B)(h1:1<=p)(h2:p<=n):OutOk n (ZG B z e p):=by
 have I:OutOk n (if isT e=true then .go (setB B z e) (p+1) else .stop (flt "big")):=by
  by_cases c:isT e=true
  ·rw [if_pos c];exact⟨ZQ h c,by omega,by omega⟩
  ·rw [if_neg c];exact⟨_,_,rfl⟩
 cases e with
 |non=>exact⟨_,_,rfl⟩
 |_=>exact I
theorem askF_ok (w:Str)(d:D):∃u e,askF w d= .tup [.str u,e]:=by
 unfold askF;split
 ·split
  ·exact⟨_,_,rfl⟩
  ·exact⟨_,_,rfl⟩
 ·split
  ·exact⟨_,_,rfl⟩
  ·exact⟨_,_,rfl⟩
theorem rowO_ok {own:Str}{n:Nat}{r:Rw}{B:Str->D}{p:Int}(R:QI n 300 r)(h:Tr B)(h1:1<=p)(h2:p<=n):OutOk n (rowO own r B p):=by
 unfold rowO;by_cases I:r.1∈MKR
 ·rw [if_pos I];exact holdO_ok h h1 h2
 rw [if_neg I];by_cases L:r.1∈ASK
 ·rw [if_pos L];exact askF_ok _ _
 rw [if_neg L];by_cases M:r.1="say"
 ·rw [if_pos M];exact⟨_,_,rfl⟩
 rw [if_neg M];by_cases O:r.1="fault"
 ·rw [if_pos O];exact⟨_,_,rfl⟩
 rw [if_neg O];by_cases U:jump r.1 B r.2=true
 ·rw [if_pos U];obtain⟨ks,hk,hp⟩:=id R;have hj:r.1∈JMP:=by
   rcases frm_all _ hk with q|⟨_,_,q|⟨_,q|q|q⟩⟩
   ·exact absurd q I
   ·exact absurd q L
   ·exact absurd q M
   ·exact absurd q O
   ·exact q.2.2
  obtain⟨qs,i,_,a1,a2,Y⟩:=Zz R hj;exact⟨h,by rw [Y];exact a1,by rw [Y];omega⟩
 ·rw [if_neg U];exact⟨h,by omega,by omega⟩
def sp_goon (C:Addr):Sp:=fun vs H Q _=>∃(m:Mc) (r:Rn),vs= [.ref m.x]/\yg C H m r/\r.th= .non/\Tr r.B/\m.own.length<=100/\Qu m.rs/\1<=r.p/\r.p<=m.rs.length+1/\r.n<=300/\
 ∀(H':Hp),Mv m H H'->yg C H' m (runS m.rs m.own r.gs (300-r.n) r.B r.p r.n)->Q .non H'
theorem ok_goon (T:Tx K mg a)(C:Fx K w mg g a):FnOk P w K mg base CX0 5 a.jb a.YK ["self"] (sp_goon a.qC):=by
 have xv:=ok_dorow (P:=P) (w:=w) (base:=base) T C;have Qh:=ok_wait (P:=P) (w:=w) (base:=base) T;refine T.g_Machine_go_on.F.ok xD () (fun _ _ _ _ H _ Q E hr h=> ?_)
 obtain⟨⟨x,db,dg,rs,own⟩,⟨B0,p0,n0,gs,th⟩,rfl,M0,ap,aq,ho,hR,aA,au,aB,k⟩:=h;simp only at ap aq ho hR aA au aB k;subst ap;refine⟨_,(@qg _ _ _ (@Zy _ _ _ _ _ _ vk (@qm _ _ _ _ _ _ _ _ X1 (@QY _ _ _ _ _ (pv 0) rfl) Qe (qw _)) (@qg _ _ _ (@qG _ _ _ _ _ _ _ _ (@qm _ _ _ _ _ _ _ _ XL (@QY _ _ _ _ _ (pv 0) rfl) (@qk _ _ _ _ _ _ _ _ _ qE () T.Qy um (@qa _ _ _ _ _ (@QY _ _ _ _ _ (pv 0) rfl) qc ()) () () () ()) (qw _)) (@qg _ _ _ (@Q1 _ _ _ _ _ _ _ _ (pv 0) (@qy _ _ _ _ _ (@qa _ _ _ _ _ qi (@qa _ _ _ _ _ qi qc ()) ())) rfl)) (@qg _ _ _ (@qG _ _ _ _ _ _ _ _ (@qm _ _ _ _ _ _ _ _ Qg (@QY _ _ _ _ _ (pv 0) rfl) (@pe_gI _ _ _ _ () T.m_MOST_DONE ()) (qw _)) (@qg _ _ _ (@Q1 _ _ _ _ _ _ _ _ (pv 0) (@qy _ _ _ _ _ (@qa _ _ _ _ _ qi (@qa _ _ _ _ _ qi qc ()) ())) rfl)) (@qe _ _ _ _ _ (@yH _ _ _ _ (@pe_meth _ _ _ _ _ _ _ _ _ _ _ _ _ _ _ _ _ _ _ _ (pv 0) T.qu T.g_Machine_do_row.h xv (hr.mono ()) T.g_Machine_do_row.b .nil qN (@qa _ _ _ _ _ (@qF _ _ _ _ _ _ _ qR (@QY _ _ _ _ _ (pv 0) rfl) (@qT _ _ _ _ _ _ _ _ op_sub (@QY _ _ _ _ _ (pv 0) rfl) qj) (fun _ _=>rfl)) qc ()) () () ()) ()) (@qg _ _ _ (@qG _ _ _ _ _ _ _ _ (@Qm _ _ _ _ (@qU _ _ _ (@Ys _ _ _ _ _ _ _ _ _ _ _ _ _ _ _ _ _ (pv 0) T.qu T.g_Machine_is_waiting.h Qh (hr.mono ()) T.g_Machine_is_waiting.b .nil qN ()) ())) (@qg _ _ _ (@YQ _ _ _ _ _ _ _ _ _ _ (pv 0) qj in_add)) qq))))))))),?_⟩
 dsimp only [cxOf,Cx.nox];have two:(2:Nat)<=sizeLine:=by decide
 have n1:=hR.n1;generalize av:runS rs own gs (300-n0) B0 p0 n0=res at k
 let J1_:Nat->L2.St->Hp->Prop:=fun m σ H'=>∃(B:Str->D) (p:Int) (n:Nat) (th:D),σ= [some (.ref x)]/\yg a.qC H' ⟨x,db,dg,rs,own⟩ ⟨B,p,n,gs,th⟩/\Mv ⟨x,db,dg,rs,own⟩ H H'/\Tr B/\1<=p/\p<=rs.length+1/\n<=300/\((th= .non/\runS rs own gs (300-n) B p n=res/\m=301-n)∨((∃u e,th= .tup [.str u,e])/\⟨B,p,n,gs,th⟩=res/\m=0))
 refine⟨J1_,⟨_,B0,p0,n0,.non,rfl,M0,Mv.refl _ _,aq,by omega,by omega,by omega,.inl ⟨rfl,av,rfl⟩⟩,?_⟩
 rintro m σ H' ⟨B,p,n,th,rfl,M,mv,hT,aa,ag,hn,hc⟩;have hM:=M;obtain⟨dx,fs,rv,ru,tv,gv,e,f,ir,ij,ib,hg,gl,it⟩:=hM;simp only at e f ir ij ib hg gl it;have aw:fs.length<1000:=by have:=f.len;omega
 refine⟨_,rfl,x,_,dx,fs,tv,rfl,e,T.qu,T.qJ,f.there,rfl,_,rfl,?_⟩;rcases hc with⟨rfl,L,rfl⟩|⟨⟨u,d,rfl⟩,L,rfl⟩
 ·cases(show tv= .non from it)
  have ad:∀{H:Hp},Is H .non .non:=rfl;refine qA (by decide+kernel) ?_
  refine⟨fun σ' H2=>∃(B:Str->D) (p:Int) (R:Nat) (th:D),σ'= [some (.ref x)]/\yg a.qC H2 ⟨x,db,dg,rs,own⟩ ⟨B,p,R,gs,th⟩/\Mv ⟨x,db,dg,rs,own⟩ H H2/\Tr B/\1<=p/\p<=rs.length+1/\R<=300/\((th= .non/\runS rs own gs (300-R) B p R=res/\n<R)∨((∃u e,th= .tup [.str u,e])/\⟨B,p,R,gs,th⟩=res)),?_,?_⟩
  ·rintro σ' H2 ⟨B2,p2,R,aI,rfl,M2,ab,ax,a1,a2,a3,aC⟩;rcases aC with⟨rfl,q1,q2⟩|⟨q0,q1⟩
   ·exact⟨301-R,by omega,B2,p2,R,_,rfl,M2,ab,ax,a1,a2,a3,.inl ⟨rfl,q1,rfl⟩⟩
   ·exact⟨0,by omega,B2,p2,R,_,rfl,M2,ab,ax,a1,a2,a3,.inr ⟨q0,q1,rfl⟩⟩
  ·have aD:=ir;obtain⟨ta,us,rfl,aE,iu⟩:=aD;have aJ:us.length=rs.length:=by rw [iu.length,ub]
   have fl:∀(z:Str) (H:Hp) (l:Addr),z.length<=100->H l=none->Is (upd H l (.tup [.str "fault",.str z])) (flt z) (.ref l):=fun z H l hz hl=>Is.new (ds:= [.str "fault",.str z]) ⟨_,_,rfl,⟨rfl,qY (by decide)⟩,_,_,rfl,⟨rfl,qY (by omega)⟩,rfl⟩ hl
   have U:∀(z:Str),z.length<=100->⟨B,p,n,gs,flt z⟩=res->∀l,H' l=none->(fun H2=>∃(B:Str->D) (p:Int) (R:Nat) (th:D),[some (V.ref x)]= [some (V.ref x)]/\yg a.qC H2 ⟨x,db,dg,rs,own⟩ ⟨B,p,R,gs,th⟩/\Mv ⟨x,db,dg,rs,own⟩ H H2/\Tr B/\1<=p/\p<=rs.length+1/\R<=300/\((th= .non/\runS rs own gs (300-R) B p R=res/\n<R)∨((∃u e,th= .tup [.str u,e])/\⟨B,p,R,gs,th⟩=res))) (upd (upd H' l (.tup [.str "fault",.str z])) x (.ins a.qC dx (putF "there" (.ref l) fs))):=by
    intro z hz aF l hl;have s1:Same H' (upd H' l (.tup [.str "fault",.str z])):=qb hl _;obtain⟨m1,m2⟩:=QT (m:=⟨x,db,dg,rs,own⟩) (r:=⟨B,p,n,gs,flt z⟩) (s1 _ _ e) (f.set_there (u:= .ref l)) (ir.mono s1.tk) (ij.mono s1.tk) (ib.same s1) (s1 _ _ hg) (gl.mono s1.tk) (fl z H' l hz hl);exact⟨B,p,n,flt z,rfl,m1,mv.trans ((Mv.of s1).trans m2),hT,aa,ag,hn,.inr ⟨⟨_,_,rfl⟩,aF⟩⟩
   refine⟨_,rfl,x,_,dx,fs,_,rfl,e,T.qu,T.Qd,f.place,_,rfl,x,_,dx,fs,_,rfl,e,T.qu,T.yf,f.rows,ta,us,rfl,.inr (SqT.of aE),_,_,rfl,rfl,_,rfl,?_⟩;refine ite2 (fun c=> ?_) (fun c=> ?_)
   ·have c':p>rs.length:=by have:=ua c;omega
    have er:⟨B,p,n,gs,flt "silent"⟩=res:=by
     rw [<-L];cases h3:300-n with
     |zero=>unfold runS;rw [if_pos c']
     |succ q=>unfold runS;rw [if_pos c']
    refine⟨two,fun l hl=> ?_⟩;have s1:Same H' (upd H' l (.tup [.str "fault",.str "silent"])):=qb hl _;exact⟨_,rfl,x,_,dx,fs,rfl,s1 _ _ e,T.qu,T.qJ,aw,U "silent" (by decide) er l hl⟩
   ·have c':¬p>rs.length:=fun h=>c (u0 (by omega))
    refine⟨_,rfl,x,_,dx,fs,_,rfl,e,T.qu,T.QP,f.done,rfl,_,rfl,?_⟩;refine ite2 (fun c2=> ?_) (fun c2=> ?_)
    ·have e3:n=300:=by have:=ua c2;injection this with h;omega
     have er:⟨B,p,n,gs,flt "long"⟩=res:=by
      rw [<-L,e3];show _=runS rs own gs 0 B p 300;unfold runS;rw [if_neg c']
     refine⟨two,fun l hl=> ?_⟩;have s1:Same H' (upd H' l (.tup [.str "fault",.str "long"])):=qb hl _;exact⟨_,rfl,x,_,dx,fs,rfl,s1 _ _ e,T.qu,T.qJ,aw,U "long" (by decide) er l hl⟩
    ·have e3:n<300:=by
      rcases UI n 300 with h|h
      ·exact h
      ·exact absurd (u0 (by rw [show n=300 by omega];rfl)) c2
     have ah:p<=rs.length:=by omega
     have ay:=hR.ok _ (Zq aa ah);have hok:=rowO_ok (own:=own) ay hT aa ah;have I:res=match rowO own (yq rs p) B p with
       | .go B' p'=>runS rs own gs (300-(n+1)) B' p' (n+1)
       | .stop e=>⟨B,p,if qW e=true then n else n+1,gs,e⟩:=by
      rw [<-L,show 300-n=(300-(n+1))+1 by omega,runS,if_neg c']
     refine⟨_,rfl,x,dx,fs,rfl,e,f.meth _ (by decide+kernel),?_⟩
     refine⟨_,rfl,x,_,dx,fs,_,rfl,e,T.qu,T.yf,f.rows,_,rfl,x,_,dx,fs,_,rfl,e,T.qu,T.Qd,f.place,_,_,rfl,rfl,?_⟩;have aG:atI (rs.map rowD) (p-1)=some (rowD (yq rs p)):=by
      rw [show p-1=((p.toNat-1:Nat):Int) by omega]
      exact qS (by rw [uM,row_at aa ah];rfl)
     refine QO (d:=rowD (yq rs p)) ir aG fun q hq=> ?_;refine⟨⟨x,db,dg,rs,own⟩,⟨B,p,n,gs,.non⟩,yq rs p,q,rs.length,rfl,M,rfl,hT,ho,ay,hq,fun H2 m2 M2=> ?_⟩;have aH:=M2;obtain⟨ac,Y,aK,aL,aM,aN,e2,f2,ak,al,ae,am,ao,ad⟩:=aH;simp only at e2 f2 ak al ae am ao ad;have af:Y.length<1000:=by have:=f2.len;omega
     have ab:=mv.trans m2;generalize hO:rowO own (yq rs p) B p=O at hok I M2 ad ae f2;cases O with
     |go B' p'=>
      obtain⟨q1,q2,q3⟩:=hok;refine⟨_,rfl,x,ac,Y,rfl,e2,f2.meth _ (by decide+kernel),_,_,rfl,M2,.inl rfl,_,rfl,?_⟩
      refine qA rfl ?_;refine⟨_,rfl,x,_,ac,Y,_,rfl,e2,T.qu,T.QP,f2.done,(n:Int),1,rfl,rfl,ac,Y,e2,af,?_⟩;obtain⟨m3,m4⟩:=QT (m:=⟨x,db,dg,rs,own⟩) (r:=⟨B',p',n+1,gs,.non⟩) e2 (f2.set_done (k:=n+1)) ak al ae am ao ad;exact⟨B',p',n+1,.non,rfl,m3,ab.trans m4,q1,q2,q3,by omega,.inl ⟨rfl,I.symm,by omega⟩⟩
     |stop d=>
      obtain⟨u,d2,rfl⟩:=hok;refine⟨_,rfl,x,ac,Y,rfl,e2,f2.meth _ (by decide+kernel),_,_,rfl,M2,.inr ⟨_,_,rfl⟩,_,rfl,?_⟩
      cases hw:qW (.tup [.str u,d2]) with
      |true=>
       simp only [hw] at I;refine qo (by show(!qW (.tup [.str u,d2]))=false;rw [hw];rfl) ?_
       exact⟨B,p,n,_,rfl,M2,ab,hT,aa,ag,hn,.inr ⟨⟨_,_,rfl⟩,I.symm⟩⟩
      |false=>
       simp only [hw] at I;refine qA (by show(!qW (.tup [.str u,d2]))=true;rw [hw];rfl) ?_
       refine⟨_,rfl,x,_,ac,Y,_,rfl,e2,T.qu,T.QP,f2.done,(n:Int),1,rfl,rfl,ac,Y,e2,af,?_⟩;obtain⟨m3,m4⟩:=QT (m:=⟨x,db,dg,rs,own⟩) (r:=⟨B,p,n+1,gs,.tup [.str u,d2]⟩) e2 (f2.set_done (k:=n+1)) ak al ae am ao ad;exact⟨B,p,n+1,_,rfl,m3,ab.trans m4,hT,aa,ag,by omega,.inr ⟨⟨_,_,rfl⟩,I.symm⟩⟩
 ·have:tv≠ .non:=by obtain⟨_,_,h,_⟩:=it;rw [h];exact fun z=>by cases z
  refine qo (u9 this) ?_;refine k H' mv ?_;rw [<-L];exact M
def emp (z:Str):D:= .tup [.str z,.str ""]
theorem prs_of {H:Hp}:∀{zs:List Str}{ys:List V},L2.IsL H (zs.map emp) ys->∃ts:List Addr,ys=ts.map V.ref/\ts.length=zs.length/\∀(i:Nat) (t:Addr) (z:Str),ts[i]? =some t->zs[i]? =some z->H t=some (.tup [.str z,.str ""])
 | [],_,h=>by
  cases(show _= [] from h)
  exact⟨[],rfl,rfl,fun i t z h=>by simp at h⟩
 |y::zs,_,h=>by
  obtain⟨v,r,rfl,⟨t,us,rfl,L,v1,R,rfl,⟨rfl,_⟩,v2,M,rfl,⟨rfl,_⟩,e2⟩,h2⟩:=h;cases(show M= [] from e2)
  obtain⟨ts,rfl,O,hi⟩:=prs_of h2;refine⟨t::ts,rfl,by rw [ud,O];rfl,fun i q z h1 I=> ?_⟩
  cases i with
  |zero=>
   cases h1;cases I;exact L
  |succ j=>exact hi j q z (by simpa using h1) (by simpa using I)
theorem prs_box {H:Hp}{A:Addr}{ys:List V}(e:H A=some (.lst ys))(h:L2.IsL H (BX.map emp) ys):PairsL H A (BX.map fun z=>(z,V.str "")):=by
 obtain⟨ts,rfl,L,hi⟩:=prs_of h;refine⟨ts,e,by rw [L,ub],fun i t p h1 h2=> ?_⟩
 rw [uM] at h2;cases I:BX[i]? with
 |none=>rw [I] at h2;cases h2
 |some z=>
  rw [I] at h2;cases h2;exact hi i t z h1 I
def B0:Str->D:=fun _=> .str ""
theorem box_new {H:Hp}{q:Addr}(I:H q=none):QL (upd H q (.dK (inrK (BX.map fun z=>(z,V.str ""))))) q B0:=by
 refine⟨fun _=> .str "",?_,fun z _=>⟨rfl,qY (by decide)⟩⟩
 rw [qh];unfold inrK kvB;rw [uT]
 rfl
theorem B0_tr:Tr B0:=fun _ _=>(by decide+kernel:isT (.str "")=true)
theorem bx_nodup:((BX.map fun z=>(z,V.str "")).map (·.1)).Nodup:=by
 rw [uT];show(BX.map id).Nodup;rw [List.map_id]
 decide+kernel
theorem putF_le (f:Str)(v:V):∀fs:List (Str×V),(putF f v fs).length<=fs.length+1
 | []=>ug _
 |(g,x)::r=>by
  unfold putF;by_cases c:g=f
  ·rw [if_pos c];simp
  ·rw [if_neg c];have:=putF_le f v r;simp only [ud];omega
def FLD:List Str:= ["rows","rule","own","boxes","place","done","given","there"]
theorem mth_fld:∀m∈MTH,m∉FLD:=by decide+kernel
theorem fl_new {rv v:V}{own:Str}{db dg:Addr}(I:(putF "there" .non (putF "given" (.ref dg) (putF "done" (.int 0) (putF "place" (.int 1) (putF "boxes" (.ref db) (putF "own" (.str own) (putF "rule" v (putF "rows" rv [])))))))).length<=20):
  Fl (putF "there" .non (putF "given" (.ref dg) (putF "done" (.int 0) (putF "place" (.int 1) (putF "boxes" (.ref db) (putF "own" (.str own) (putF "rule" v (putF "rows" rv [])))))))) rv v own db dg 1 0 .non:=by
 refine⟨?_,?_,?_,?_,?_,?_,?_,?_,fun m hm=> ?_,I⟩
 ·iterate 7 rw [qM,if_neg (by decide+kernel)]
  rw [qM,if_pos rfl]
 ·iterate 6 rw [qM,if_neg (by decide+kernel)]
  rw [qM,if_pos rfl]
 ·iterate 5 rw [qM,if_neg (by decide+kernel)]
  rw [qM,if_pos rfl]
 ·iterate 4 rw [qM,if_neg (by decide+kernel)]
  rw [qM,if_pos rfl]
 ·iterate 3 rw [qM,if_neg (by decide+kernel)]
  rw [qM,if_pos rfl]
 ·iterate 2 rw [qM,if_neg (by decide+kernel)]
  rw [qM,if_pos rfl]
  rfl
 ·rw [qM,if_neg (by decide+kernel),qM,if_pos rfl]
 ·rw [qM,if_pos rfl]
 ·have h:=mth_fld m hm
  iterate 8 rw [qM,if_neg (fun e=>h (by rw [e];decide+kernel))]
  rfl
structure Ini (n:Nat)(H:Hp)(C x dx:Addr)(fs:List (Str×V))(H':Hp):Prop where
 len:fs.length<=n
 at':H' x=some (.ins C dx fs)
 kept:∀b o,H b=some o->b≠x->H' b=some o
theorem Ini.put {n:Nat}{H H':Hp}{C x dx:Addr}{fs:List (Str×V)}(I:Ini n H C x dx fs H')(f:Str)(v:V):Ini (n+1) H C x dx (putF f v fs) (upd H' x (.ins C dx (putF f v fs)))/\Tk H' (upd H' x (.ins C dx (putF f v fs))):=
 ⟨⟨uP (putF_le f v fs) (Nat.succ_le_succ I.len),qh,fun b o h n=>by rw [qx n];exact I.kept b o h n⟩,Tk.updI I.at'⟩
theorem Ini.same {n:Nat}{H H' H2:Hp}{C x dx:Addr}{fs:List (Str×V)}(I:Ini n H C x dx fs H')(s:Same H' H2):Ini n H C x dx fs H2:=⟨I.len,s _ _ I.at',fun b o h n=>s _ _ (I.kept b o h n)⟩
theorem lc_box {K:PySem.W.Frag}{b A:Addr}{H1:Hp}{te:TE}{tl:L2.St}{Q:VK}(L:∀H,SqT K H b (BX.map V.str))(U:H1 A=none)
  (M:∀(z:Str) H (R:VK),z.length<=sizeLine->Same H1 H->(∀y H',Same H H'->Is H' (emp z) y->R y H')->te (some (.str z)::tl) H R)
  (Y:∀H' ys,Same H1 H'->H' A=some (.lst ys)->L2.IsL H' (BX.map emp) ys->Q (.ref A) H'):lcGo A (Itt K b) (jZ 0) tYes te (none::tl) H1 Q:=by
 have hl:∀H,L2.IsL H (BX.map D.str) (BX.map V.str):=fun H=>IsL.ofStrs fun z O=>qY (by rw [(Qo O).1];decide)
 refine lc_data (ds:=BX.map D.str) (fun d=>match d with| .str z=>emp z|d=>d) (qY (by decide)) U (fun i H I hi=>⟨BX.map V.str,(BX.map V.str)[i]'(by simpa using hi),L H,ul _⟩) (fun i H x H' d I hd y=> ?_) (fun H I=>⟨BX.map V.str,L H,by simp⟩) (fun d x H R hd I hx r=> ?_) (fun H' ys I e h=>Y H' ys I e ?_)
 ·obtain⟨rfl,y⟩:=y;obtain⟨v,e1,e2⟩:=(hl H').get hd;have:=y _ (L H');rw [e1] at this;cases this;exact⟨rfl,e2⟩
 ·obtain⟨z,_,rfl⟩:=List.mem_map.mp hd;obtain⟨rfl,O⟩:=hx;exact M z H R O I r
 ·rw [uT] at h;exact h
theorem isNm_str:∀{d:D},isNm d=true->∃own,d= .str own/\nm own=true/\own.length<=100
 | .str z,h=>⟨z,rfl,h,by
  rcases UI 24 z.length with h1|h1
  ·rw [show isNm (.str z)=nm z from rfl,nm_len (fun q=>by omega)] at h
   cases h
  ·omega⟩
theorem back_rows {n:Nat}:∀{ds:List D},ds.all (fun d=>(Ql n d).isSome)=true->((ds.filterMap (Ql n)).map fun r=>D.str (qH r))=ds/\(ds.filterMap (Ql n)).length=ds.length/\∀r∈ds.filterMap (Ql n),QI n 300 r
 | [],_=>⟨rfl,rfl,fun r h=>by simp at h⟩
 |d::ds,h=>by
  rw [vm,ui] at h;obtain⟨r,I⟩:=X2 h.1;obtain⟨M,O,R⟩:=back_rows h.2;cases d with
  |str z=>
   obtain⟨h1,h2⟩:=rowOf_ok (show zi n z=some r from I)
   rw [Uu I];refine⟨by rw [uj,h2,M],by rw [ud,ud,O],fun x L=> ?_⟩
   rcases List.mem_cons.mp L with rfl|L
   ·exact h1
   ·exact R x L
  |_=>cases I
theorem readD_ok:∀{d:D}{rs:List Rw},yD d=some rs->Qu rs/\d=QV rs
 | .tup ds,rs,h=>by
  rw [JC] at h;split at h
  ·rename_i I
   cases h;simp only [ui,U2] at I;obtain⟨⟨⟨h1,h2⟩,L⟩,h4⟩:=I;obtain⟨M,O,R⟩:=back_rows L;have e:QV (ds.filterMap (Ql ds.length))= .tup ds:=congrArg D.tup M;exact⟨⟨by omega,by omega,fun r U=>by rw [O];exact R r U,by rw [e];exact h4⟩,e.symm⟩
  ·cases h
def ZN (C br bn:Addr):Sp:=fun vs H Q E=>∃(x dx:Addr) (v ov:V) (d od:D),vs= [.ref x,v,ov]/\H x=some (.ins C dx [])/\Is H d v/\Is H od ov/\
 (yD d=none->∀(e:Addr) (H':Hp),(∀b o,H b=some o->b≠x->H' b=some o)->E (.ref e) (some br) H')/\
 (yD d≠none->isNm od=false->∀(e:Addr) (H':Hp),(∀b o,H b=some o->b≠x->H' b=some o)->E (.ref e) (some bn) H')/\
 (∀(rs:List Rw) (own:Str),d=QV rs->Qu rs->od= .str own->nm own=true->own.length<=100->∀(H':Hp) (db dg:Addr),(∀b o,H b=some o->b≠x->H' b=some o)->H db=none->H dg=none->yg C H' ⟨x,db,dg,rs,own⟩ (runS rs own [] 300 B0 1 0)->Q .non H')
theorem ok_minit (T:Tx K mg a)(C:Fx K w mg g a):FnOk P w K mg base (CX1 P w) 6 a.yY a.jw ["self","rule","own"] (ZN a.qC g.br g.bn):=by
 have YL:=ok_name (P:=P) (w:=w) (base:=base) T;have L:=ok_rows (P:=P) (w:=w) (base:=base) T C;have yB:=ok_goon (P:=P) (w:=w) (base:=base) T C;refine T.g_Machine_init.F.okX XR () (fun _ _ _ _ H _ Q E hr h=> ?_)
 obtain⟨x,dx,v,ov,d,od,rfl,hx,hv,ho,kR,kN,k⟩:=h;refine⟨_,(@qe _ _ _ _ _ (@Q1 _ _ _ _ _ _ _ _ (pv 0) (@qv _ _ _ _ _ _ _ _ _ _ _ _ _ _ _ _ L (hr.mono ()) () T.g_rule_rows.m T.g_rule_rows.F.kp T.g_rule_rows.b .nil pass1 (@qa _ _ _ _ _ (pv 1) qc ()) () () ()) rfl) (@qe _ _ _ _ _ (@qG _ _ _ _ _ _ _ _ (@Qm _ _ _ _ (@qU _ _ _ (@qv _ _ _ _ _ _ _ _ _ _ _ _ _ _ _ _ YL (hr.mono ()) () T.g_is_name.m T.g_is_name.F.kp T.g_is_name.b .nil qN (@qa _ _ _ _ _ (pv 2) qc ()) () () ()) ())) (@qg _ _ _ (@xO _ _ _ _ _ _ _ _ _ _ _ _ _ _ _ _ _ _ _ _ _ _ C.x_BadName () C.m_BadName qi () ())) qq) (@qe _ _ _ _ _ (@Q1 _ _ _ _ _ _ _ _ (pv 0) (pv 1) rfl) (@qe _ _ _ _ _ (@Q1 _ _ _ _ _ _ _ _ (pv 0) (pv 2) rfl) (@qe _ _ _ _ _ (@Q1 _ _ _ _ _ _ _ _ (pv 0) (@qP _ _ _ _ _ _ _ _ _ (@call_dictP _ rfl) () T.z_dict boot_dict (@qa _ _ _ _ _ (@JG _ _ (["box"]) (1) ([]) _ _ _ _ _ _ _ _ _ (lcs0) rfl (@Y7 _ _ _ _ (@Jm _ _ _ _ () C.m_BOXES ())) (fun _ _ _ _ _ _=>(@qQ _ _ (0) _ (show List.Nodup (["box"]:List Str) by decide+kernel) rfl (Or.inl rfl) ())) (fun _ _ _ _ _ _=> @QW _) (fun _ _ _ _ _ _=>(@qy _ _ _ _ _ (@qa _ _ _ _ _ (pv 0) (@qa _ _ _ _ _ qi qc ()) ()))) ()) qc ()) () () () ()) rfl) (@qe _ _ _ _ _ (@Q1 _ _ _ _ _ _ _ _ (pv 0) qj rfl) (@qe _ _ _ _ _ (@Q1 _ _ _ _ _ _ _ _ (pv 0) qj rfl) (@qe _ _ _ _ _ (@Q1 _ _ _ _ _ _ _ _ (pv 0) (@Qb _ _ _ _ qc) rfl) (@qe _ _ _ _ _ (@Q1 _ _ _ _ _ _ _ _ (pv 0) Qe rfl) (@qg _ _ _ (@yH _ _ _ _ (@Ys _ _ _ _ _ _ _ _ _ _ _ _ _ _ _ _ _ (pv 0) T.qu T.g_Machine_go_on.h yB (hr.mono ()) T.g_Machine_go_on.b .nil qN ()) ()))))))))))),?_⟩
 dsimp only [cxOf,Cx.nox];refine⟨_,rfl,v,d,rfl,hv,fun rs ah rv H1 s1 ir=> ?_,fun hn e H1 s1=>kR hn e H1 fun b o h _=>s1 b o h⟩;refine⟨_,rfl,x,_,dx,[],rfl,s1 _ _ hx,T.qu,T.yf,by decide,?_⟩
 have I0:Ini 0 H a.qC x dx [] H1:=⟨ug _,s1 _ _ hx,fun b o h _=>s1 _ _ h⟩;obtain⟨I1,t1⟩:=I0.put "rows" rv;have aw:=ir.mono t1;have htk:∀{n:Nat}{fs:List (Str×V)}{H':Hp},Ini n H a.qC x dx fs H'->Tk H H':=fun{n fs H'} I=>⟨fun b xs e=>I.kept b _ e (fun z=>by rw [z,hx] at e;cases e),fun b xs e=>⟨_,I.kept b _ e (fun z=>by rw [z,hx] at e;cases e)⟩,fun b xs e=>⟨_,I.kept b _ e (fun z=>by rw [z,hx] at e;cases e)⟩⟩
 refine⟨_,rfl,ov,od,rfl,ho.mono (htk I1),fun H3 s3=>⟨_,rfl,?_⟩⟩;have I3:=I1.same s3;cases aa:isNm od with
 |false=>exact iteT ⟨rfl,fun e=>kN (by rw [ah];simp) aa e H3 I3.kept⟩
 |true=>
 refine iteF ?_;obtain⟨hR,rfl⟩:=readD_ok ah;obtain⟨own,rfl,aa,ak⟩:=isNm_str aa;cases(show ov= .str own from ho.1)
 have n1:=hR.n1;have k:=k rs own rfl hR rfl aa ak;have ax:=aw.mono s3.tk;refine⟨_,rfl,_,rfl,x,_,dx,_,rfl,I3.at',T.qu,T.zf,by have:=I3.len;omega,?_⟩
 obtain⟨I4,t4⟩:=I3.put "rule" v;have ay:=ax.mono t4;refine⟨_,rfl,_,rfl,x,_,dx,_,rfl,I4.at',T.qu,T.Jq,by have:=I4.len;omega,?_⟩
 obtain⟨I5,t5⟩:=I4.put "own" (.str own);have aA:=ay.mono t5;refine⟨g.boxes,_,rfl,C.boxes _,fun aL A0 aB=> ?_⟩;refine lc_box (tl:= []) C.boxes aB (fun z H6 R hz s6 r=>⟨_,rfl,(by show 2<=sizeLine;decide),fun l hl=>r _ _ (qb hl _) (Is.new (ds:= [.str z,.str ""]) ⟨_,_,rfl,⟨rfl,hz⟩,_,_,rfl,⟨rfl,qY (by decide)⟩,rfl⟩ hl)⟩) fun H6 ys s6 e6 i6=> ?_
 refine⟨A0,_,rfl,prs_box e6 i6,bx_nodup,by decide,fun db U=> ?_⟩
 have I6:=I5.same s6;have s7:Same H6 (upd H6 db (.dK (inrK (BX.map fun z=>(z,V.str ""))))):=qb U _;have I7:=I6.same s7;have b7:=box_new U;have aC:=(aA.mono s6.tk).mono s7.tk;have nx:∀b o,H b=some o->b≠x->b≠db:=fun b o h n=>qr (I6.kept b o h n) U;have O:x≠db:=qr I6.at' U;refine⟨_,rfl,x,_,dx,_,rfl,I7.at',T.qu,T.Qk,by have:=I7.len;omega,?_⟩
 obtain⟨I8,t8⟩:=I7.put "boxes" (.ref db);have b8:=b7.move t8 (qx O.symm);have aD:=aC.mono t8;refine⟨_,rfl,x,_,dx,_,rfl,I8.at',T.qu,T.Qd,by have:=I8.len;omega,?_⟩
 obtain⟨I9,t9⟩:=I8.put "place" (.int 1);have b9:=b8.move t9 (qx O.symm);have aE:=aD.mono t9;refine⟨_,rfl,x,_,dx,_,rfl,I9.at',T.qu,T.QP,by have:=I9.len;omega,?_⟩
 obtain⟨ab,al⟩:=I9.put "done" (.int 0);have aF:=b9.move al (qx O.symm);have am:=aE.mono al;refine⟨(by show 0<=sizeLine;decide),fun dg ac=> ?_⟩
 have ad:=qb ac (.lst []);have ae:=ab.same ad;have aG:=aF.same ad;have ao:=am.mono ad.tk;have af:dg≠x:=(qr ab.at' ac).symm;refine⟨_,rfl,x,_,dx,_,rfl,ae.at',T.qu,T.YU,by have:=ae.len;omega,?_⟩
 obtain⟨ag,ap⟩:=ae.put "given" (.ref dg);have aH:=aG.move ap (qx O.symm);have aq:=ao.mono ap;refine⟨_,rfl,x,_,dx,_,rfl,ag.at',T.qu,T.qJ,by have:=ag.len;omega,?_⟩
 obtain⟨Y,au⟩:=ag.put "there" .non;have aI:=aH.move au (qx O.symm);have av:=aq.mono au;have hl:=Y.len;refine⟨_,rfl,x,dx,_,rfl,Y.at',(fl_new (by omega)).meth _ (by decide+kernel),?_⟩
 have aJ:Is _ (QV rs) v:=hv.mono (htk Y);have frs:∀{b:Addr}{H2:Hp},(∀c o,H c=some o->c≠x->H2 c=some o)->H2 b=none->b≠x->H b=none:=fun{b H2} k1 h1 n1=>by
  cases hc:H b with
  |none=>rfl
  |some o=>rw [k1 b o hc n1] at h1;cases h1
 have aK:∀b o,H b=some o->b≠x->b≠dg:=fun b o h n=>qr (ab.kept b o h n) ac;refine⟨⟨x,db,dg,rs,own⟩,⟨B0,1,0,[],.non⟩,rfl,⟨dx,_,rv,v,.non,[],Y.at',fl_new (by omega),av,aJ,aI,?_,rfl,rfl⟩,rfl,B0_tr,ak,hR,Int.le_refl 1,by show(1:Int)<=(rs.length:Int)+1;omega,uF _,fun H' m M=>k H' db dg (fun b o h n=>m.kept b o (Y.kept b o h n) n (nx b o h n) (aK b o h n)) (frs I6.kept U O.symm) (frs ab.kept ac af) M⟩
 rw [qx af,qx af,qh]
theorem Zb (x y:Nat):decide (([x]:List Nat)< [y])=decide (x<y):=by
 rw [uA];constructor
 ·intro h;rcases List.cons_lt_cons_iff.mp h with h|⟨_,h⟩
  ·exact h
  ·exact absurd h (by simp)
 ·intro h;exact List.cons_lt_cons_iff.mpr (.inl h)
def sp_pr (n:Nat):Sp:=fun vs H Q _=>∃v d,vs= [v]/\Is H d v/\dp d<n/\∀H',Same H H'->Q (.bl (good d)) H'
def sp_sz (n:Nat):Sp:=fun vs H Q _=>∃v d,vs= [v]/\Is H d v/\good d=true/\dp d<n/\∀H',Same H H'->Q (.int (sz d:Int)) H'
def sp_dp (n:Nat):Sp:=fun vs H Q _=>∃v d,vs= [v]/\Is H d v/\good d=true/\dp d<n/\∀H',Same H H'->Q (.int (dp d:Int)) H'
def sp_lt:Sp:=fun vs H Q _=>∃v d,vs= [v]/\Is H d v/\dp d<=20/\∀H',Same H H'->Q (.bl (isT d)) H'
theorem dp_row {xs:List D}{d:D}(h:d∈xs):dp d<dp (.tup xs):=by
 have:=(jv xs).mp (ug _) d h;simp only [dp];omega
theorem pr_none {f:Addr}{fd:FuncData}{l:Nat}{x:Str}:FnOk P w K mg base CX0 l f fd [x] (sp_pr 0):=by
 have I:∀vs H Q E,¬sp_pr 0 vs H Q E:=fun vs H Q E h=>by
  obtain⟨v,d,_,_,h1,_⟩:=h;omega
 exact⟨fun vs H Q E h=>absurd h (I vs H Q E),fun A outer s H args us vs Q E _ _ _ _ h=>absurd h (I vs H Q E)⟩
theorem sz_none {f:Addr}{fd:FuncData}{l:Nat}{x:Str}:FnOk P w K mg base CX0 l f fd [x] (sp_sz 0):=by
 have I:∀vs H Q E,¬sp_sz 0 vs H Q E:=fun vs H Q E h=>by
  obtain⟨v,d,_,_,_,h1,_⟩:=h;omega
 exact⟨fun vs H Q E h=>absurd h (I vs H Q E),fun A outer s H args us vs Q E _ _ _ _ h=>absurd h (I vs H Q E)⟩
theorem dp_none {f:Addr}{fd:FuncData}{l:Nat}{x:Str}:FnOk P w K mg base CX0 l f fd [x] (sp_dp 0):=by
 have I:∀vs H Q E,¬sp_dp 0 vs H Q E:=fun vs H Q E h=>by
  obtain⟨v,d,_,_,_,h1,_⟩:=h;omega
 exact⟨fun vs H Q E h=>absurd h (I vs H Q E),fun A outer s H args us vs Q E _ _ _ _ h=>absurd h (I vs H Q E)⟩
theorem ok_pr1 (T:Tx K mg a){n:Nat}(ye:FnOk P w K mg base CX0 (n+1) a.Qx a.Qw ["value"] (sp_pr n)):FnOk P w K mg base CX0 (n+2) a.Qx a.Qw ["value"] (sp_pr (n+1)):=by
 refine T.g_law_parts_right.F.ok JA () (fun _ _ _ _ H vs Q E hr h=> ?_)
 obtain⟨v,d,rfl,M,hd,k⟩:=h;refine⟨_,(@qe _ _ _ _ _ (@qG _ _ _ _ _ _ _ _ (@qU _ _ _ (@qk _ _ _ _ _ _ _ _ _ (@qz _ _ rfl) () T.qt uo (@qa _ _ _ _ _ (pv 0) (@qa _ _ _ _ _ (@qV _ _ (.ty "str") _ _ () T.yy vr rfl () ()) qc ()) ()) () () () ()) ()) (@qg _ _ _ (@ql _ _ _ _ (@Xa _ _ _ _ _ _ _ (@QG _ _ _ _ _ _ _ _ op_le (@qk _ _ _ _ _ _ _ _ _ QS () T.Qy um (@qa _ _ _ _ _ (pv 0) qc ()) () () () ()) qj (qw _)) (@Jv _ _ _ _ _ (@qk _ _ _ _ _ _ _ _ _ (@yL _ rfl) () T.z_all boot_all (@qa _ _ _ _ _ (@JG _ _ (["sign"]) (1) ([]) _ _ _ _ _ _ _ _ _ (lcs0) rfl (@pi_str _ _ _ _ (pv 0)) (fun _ _ _ _ _ _=>(@qQ _ _ (0) _ (show List.Nodup (["sign"]:List Str) by decide+kernel) rfl (Or.inl rfl) ())) (fun _ _ _ _ _ _=> @QW _) (fun _ _ _ _ _ _=>(@Xa _ _ _ _ _ _ _ (@pe_chain _ _ _ _ _ _ _ _ _ _ _ _ op_le_str op_le_str qi (pv 0) qi ()) (@Jv _ _ _ _ _ (@pe_not _ _ _ _ (@pe_chain _ _ _ _ _ _ _ _ _ _ _ _ XB XB qi (pv 0) qi ()))))) ()) qc ()) () () () ()))))) qq) (@qe _ _ _ _ _ (@qG _ _ _ _ _ _ _ _ (@Yf _ _ _ _ _ _ _ (@Qm _ _ _ _ (@qU _ _ _ (@qk _ _ _ _ _ _ _ _ _ (@qz _ _ rfl) () T.qt uo (@qa _ _ _ _ _ (pv 0) (@qa _ _ _ _ _ (@qV _ _ (.ty "tuple") _ _ () T.Qa uU rfl () ()) qc ()) ()) () () () ()) ())) (@yK _ _ _ _ (@qm _ _ _ _ _ _ _ _ XL (@qk _ _ _ _ _ _ _ _ _ QS () T.Qy um (@qa _ _ _ _ _ (pv 0) qc ()) () () () ()) qj (qw _)))).pt (@qg _ _ _ (@ql _ _ _ _ jn)) qq) (@qg _ _ _ (@ql _ _ _ _ (@qk _ _ _ _ _ _ _ _ _ (@yL _ rfl) () T.z_all boot_all (@qa _ _ _ _ _ (@JG _ _ (["part"]) (1) ([]) _ _ _ _ _ _ _ _ _ (lcs0) rfl (@Y7 _ _ _ _ (pv 0)) (fun _ _ _ _ _ _=>(@qQ _ _ (0) _ (show List.Nodup (["part"]:List Str) by decide+kernel) rfl (Or.inl rfl) ())) (fun _ _ _ _ _ _=> @QW _) (fun _ _ _ _ _ _=>(@qv _ _ _ _ _ _ _ _ _ _ _ _ _ _ _ _ ye (hr.mono ()) () T.g_law_parts_right.m T.g_law_parts_right.F.kp T.g_law_parts_right.b .nil qN (@qa _ _ _ _ _ (pv 0) qc ()) () () ())) ()) qc ()) () () () ()))))),?_⟩
 dsimp only [cxOf,Cx.nox];refine⟨_,rfl,v,"str",tyD d,isStr d,rfl,M.ty,Qs d,_,rfl,?_⟩;cases d with
 |str z=>
  refine iteT ?_;obtain⟨rfl,hz⟩:=M;refine⟨_,rfl,.inl ⟨z,rfl,hz,_,_,rfl,rfl,_,rfl,?_⟩⟩;refine ite2 (fun c=> ?_) (fun c=> ?_)
  ·have Y:(z.length:Int)<=300:=ua c;refine⟨_,rfl,z,rfl,fun A0 I=> ?_⟩;refine lc_str (tl:= []) (fun c=> .bl (qX c)) hz I (fun i c H' R hc sm r=> ?_) fun H' sm hl=> ?_
   ·have e1:(" ":Str).cps.toList= [32]:=by decide+kernel
    have e2:("~":Str).cps.toList= [126]:=by decide+kernel
    have U:("$":Str).cps.toList= [36]:=by decide+kernel
    have e4:("&":Str).cps.toList= [38]:=by decide+kernel
    have f1:(!decide (([c]:List Nat)<(" ":Str).cps.toList))=decide (32<=c):=by rw [e1,Zb,<-decide_not,uA];omega
    have f2:(!decide (("~":Str).cps.toList<([c]:List Nat)))=decide (c<=126):=by rw [e2,Zb,<-decide_not,uA];omega
    have f3:decide (("$":Str).cps.toList<([c]:List Nat))=decide (36<c):=by rw [U,Zb]
    have f4:decide (([c]:List Nat)<("&":Str).cps.toList)=decide (c<38):=by rw [e4,Zb]
    refine⟨_,rfl,_,_,rfl,rfl,_,rfl,?_⟩;refine ite2 (fun c1=> ?_) (fun c1=> ?_)
    ·have h1:=ua (f1.symm.trans c1);refine⟨_,_,rfl,rfl,_,rfl,?_⟩;refine ite2 (fun c2=> ?_) (fun c2=> ?_)
     ·have h2:=ua (f2.symm.trans c2);refine⟨_,rfl,_,_,rfl,rfl,_,rfl,?_⟩;refine ite2 (fun c3=> ?_) (fun c3=> ?_)
      ·have h3:=ua (f3.symm.trans c3);refine⟨_,_,rfl,rfl,_,rfl,?_⟩;have e:qX c= !decide (([c]:List Nat)<("&":Str).cps.toList):=by
        unfold qX;rw [f4,u0 h1,u0 h2,vE,vE,<-decide_not,uA];omega
       rw [e] at r;exact r
      ·have h3:¬36<c:=fun h=>c3 (f3.trans (u0 h));refine⟨_,rfl,?_⟩;have e:qX c=true:=by
        unfold qX;rw [u0 h1,u0 h2,u0 (by omega)]
        rfl
       rw [e] at r;exact r
     ·have h2:¬c<=126:=fun h=>c2 (f2.trans (u0 h));have e:qX c=false:=by
       unfold qX;rw [u9 h2,Bool.and_false,vX]
      rw [e] at r;exact r
    ·have h1:¬32<=c:=fun h=>c1 (f1.trans (u0 h));have e:qX c=false:=by
      unfold qX;rw [u9 h1,vX,vX]
     rw [e] at r;exact⟨_,rfl,r⟩
   ·refine⟨A0,z.cps.toList.map qX,rfl,SqL.of (by rw [hl,uT];rfl),?_⟩
    have e:good (.str z)=(z.cps.toList.map qX).all id:=by
     show QD z=_;unfold QD;rw [u0 (by omega),vE,vU]
     rfl
    rw [<-e];exact k H' sm
  ·have Y:¬(z.length:Int)<=300:=fun q=>c (u0 q);have:=k H (Same.refl _);rw [show good (.str z)=false from Ja (by omega)] at this
   exact this
 |tup xs=>
  refine iteF ⟨_,rfl,v,"tuple",_,true,rfl,M.ty,yM (.tup xs),_,rfl,?_⟩;refine iteF ?_;obtain⟨a0,vs,rfl,L,O⟩:=M;have lv:=O.length;have U:good (.tup xs)=(decide (xs.length<=40)&&goodL xs):=by simp only [good]
  refine⟨_,rfl,.inr ⟨a0,vs,rfl,.inr (SqT.of L),fun aa=>⟨_,_,rfl,rfl,_,rfl,?_⟩⟩⟩;refine ite2 (fun c=> ?_) (fun c=> ?_)
  ·have Y:(40:Int)<vs.length:=ua c;have:=k H (Same.refl _);rw [U,u9 (by omega),vX] at this
   exact this
  ·have Y:¬(40:Int)<vs.length:=fun q=>c (u0 q);refine⟨_,rfl,a0,vs,rfl,SqT.of L,fun aa A0 I=> ?_⟩;refine Jc (tl:= []) (fun d=> .bl (good d)) L O (qY (by omega)) I (fun d0 x0 H3 R ab s3 i3 r=> ?_) fun H1 ys s1 l1 i1=> ?_
   ·refine⟨_,rfl,x0,d0,rfl,i3,?_,fun H4 s4=>r _ H4 s4 rfl⟩;have:=dp_row ab;omega
   have ey:ys=(xs.map good).map V.bl:=IsL.bls (by rw [uT];exact i1)
   refine⟨A0,xs.map good,rfl,SqL.of (by rw [l1,ey]),?_⟩
   have:=k H1 s1;rw [U,u0 (by omega),vE,goodL_all] at this
   rw [vU];exact this
 |_=>exact iteF ⟨_,rfl,v,"tuple",_,false,rfl,M.ty,yM _,_,rfl,iteT (k H (Same.refl _))⟩
theorem ok_pr (T:Tx K mg a):∀n:Nat,FnOk P w K mg base CX0 (n+1) a.Qx a.Qw ["value"] (sp_pr n)
 |0=>pr_none
 |n+1=>ok_pr1 T (ok_pr T n)
theorem ok_sz1 (T:Tx K mg a){n:Nat}(JK:FnOk P w K mg base CX0 (n+1) a.Yi a.Yb ["tree"] (sp_sz n)):FnOk P w K mg base CX0 (n+2) a.Yi a.Yb ["tree"] (sp_sz (n+1)):=by
 refine T.g_law_size.F.ok sc_law_size () (fun _ _ _ _ H vs Q E hr h=> ?_)
 obtain⟨v,d,rfl,O,hg,hd,k⟩:=h;refine⟨_,(@qe _ _ _ _ _ (@qG _ _ _ _ _ _ _ _ (@qU _ _ _ (@qk _ _ _ _ _ _ _ _ _ (@qz _ _ rfl) () T.qt uo (@qa _ _ _ _ _ (pv 0) (@qa _ _ _ _ _ (@qV _ _ (.ty "str") _ _ () T.yy vr rfl () ()) qc ()) ()) () () () ()) ()) (@qg _ _ _ (@ql _ _ _ _ (@qT _ _ _ _ _ _ _ _ Qz (@qk _ _ _ _ _ _ _ _ _ QS () T.Qy um (@qa _ _ _ _ _ (pv 0) qc ()) () () () ()) qj))) qq) (@qg _ _ _ (@ql _ _ _ _ (@qT _ _ _ _ _ _ _ _ Qz qj (@qk _ _ _ _ _ _ _ _ _ (@call_sumL _ rfl) () T.z_sum boot_sum (@qa _ _ _ _ _ (@JG _ _ (["part"]) (1) ([]) _ _ _ _ _ _ _ _ _ (lcs0) rfl (@Y7 _ _ _ _ (pv 0)) (fun _ _ _ _ _ _=>(@qQ _ _ (0) _ (show List.Nodup (["part"]:List Str) by decide+kernel) rfl (Or.inl rfl) ())) (fun _ _ _ _ _ _=> @QW _) (fun _ _ _ _ _ _=>(@qv _ _ _ _ _ _ _ _ _ _ _ _ _ _ _ _ JK (hr.mono ()) () T.g_law_size.m T.g_law_size.F.kp T.g_law_size.b .nil qN (@qa _ _ _ _ _ (pv 0) qc ()) () () ())) ()) qc ()) () () () ()))))),?_⟩
 refine⟨_,rfl,v,"str",tyD d,isStr d,rfl,O.ty,Qs d,_,rfl,?_⟩;cases d with
 |str z=>
  refine iteT ?_;obtain⟨rfl,hz⟩:=O;refine⟨_,rfl,.inl ⟨z,rfl,hz,_,_,rfl,rfl,?_⟩⟩;have:=k H (Same.refl _);simp only [sz] at this;exact this
 |tup xs=>
  refine iteF ?_;obtain⟨a0,vs,rfl,L,U⟩:=O;have I:=hg;simp only [good,ui] at I;have aa:=ua I.1;refine⟨_,rfl,a0,vs,rfl,SqT.of L,fun ab A0 Y=> ?_⟩;refine Jc (tl:= []) (fun d=> .int (sz d:Int)) L U (qY (by omega)) Y (fun d0 x0 H3 R M s3 i3 r=> ?_) fun H1 ys s1 l1 i1=> ?_
  ·refine⟨_,rfl,x0,d0,rfl,i3,JB I.2 M,?_,fun H4 s4=>r _ H4 s4 rfl⟩;have:=dp_row M;omega
  have ey:ys=(xs.map fun d=>(sz d:Int)).map V.int:=IsL.ints (by rw [uT];exact i1)
  refine⟨A0,xs.map fun d=>(sz d:Int),rfl,SqL.of (by rw [l1,ey]),_,_,rfl,rfl,?_⟩
  have:=k H1 s1;have es:∀l:List D,(l.map fun d=>(sz d:Int)).sum=(szL l:Int):=by
   intro l
   induction l with
   |nil=>rfl
   |cons x r ih=>simp only [uj,vn,ih,szL];omega
  rw [es];simp only [sz] at this;show Q (.int ((1:Int)+(szL xs:Int))) H1;rw [show(1:Int)+(szL xs:Int)=((1+szL xs:Nat):Int) by omega]
  exact this
 |_=>simp [good] at hg
theorem ok_sz (T:Tx K mg a):∀n:Nat,FnOk P w K mg base CX0 (n+1) a.Yi a.Yb ["tree"] (sp_sz n)
 |0=>sz_none
 |n+1=>ok_sz1 T (ok_sz T n)
theorem ok_dp1 (T:Tx K mg a){n:Nat}(jI:FnOk P w K mg base CX0 (n+1) a.yF a.yC ["tree"] (sp_dp n)):FnOk P w K mg base CX0 (n+2) a.yF a.yC ["tree"] (sp_dp (n+1)):=by
 refine T.g_law_depth.F.ok sc_law_depth () (fun _ _ _ _ H vs Q E hr h=> ?_)
 obtain⟨v,d,rfl,hv,hg,hd,k⟩:=h;refine⟨_,(@qe _ _ _ _ _ (@qG _ _ _ _ _ _ _ _ (@Yf _ _ _ _ _ _ _ (@qU _ _ _ (@qk _ _ _ _ _ _ _ _ _ (@qz _ _ rfl) () T.qt uo (@qa _ _ _ _ _ (pv 0) (@qa _ _ _ _ _ (@qV _ _ (.ty "str") _ _ () T.yy vr rfl () ()) qc ()) ()) () () () ()) ()) (@yK _ _ _ _ (@qm _ _ _ _ _ _ _ _ (@op_eqNil _ hr.units0) (pv 0) (@qy _ _ _ _ _ qc) (qw _)))).pt (@qg _ _ _ (@ql _ _ _ _ qj)) qq) (@qg _ _ _ (@ql _ _ _ _ (@qT _ _ _ _ _ _ _ _ Qz qj (@qk _ _ _ _ _ _ _ _ _ (@call_maxL _ rfl) () T.z_max boot_max (@qa _ _ _ _ _ (@JG _ _ (["part"]) (1) ([]) _ _ _ _ _ _ _ _ _ (lcs0) rfl (@Y7 _ _ _ _ (pv 0)) (fun _ _ _ _ _ _=>(@qQ _ _ (0) _ (show List.Nodup (["part"]:List Str) by decide+kernel) rfl (Or.inl rfl) ())) (fun _ _ _ _ _ _=> @QW _) (fun _ _ _ _ _ _=>(@qv _ _ _ _ _ _ _ _ _ _ _ _ _ _ _ _ jI (hr.mono ()) () T.g_law_depth.m T.g_law_depth.F.kp T.g_law_depth.b .nil qN (@qa _ _ _ _ _ (pv 0) qc ()) () () ())) ()) qc ()) () () () ()))))),?_⟩
 refine⟨_,rfl,v,"str",tyD d,isStr d,rfl,hv.ty,Qs d,_,rfl,?_⟩;cases d with
 |str z=>exact iteT (k H (Same.refl _))
 |tup xs=>
  refine iteF ?_;obtain⟨a0,vs,rfl,I,L⟩:=hv;have O:=hg;simp only [good,ui] at O;have af:=ua O.1;have lv:=L.length;refine⟨_,rfl,(by show 0<=sizeLine;decide),fun l hl=>⟨a0,l,vs,rfl,rfl,SqT.of (qb hl _ _ _ I),SqT.of qh,_,rfl,?_⟩⟩
  have Y:Same H (upd H l (.tup [])):=qb hl _;cases xs with
  |nil=>
   cases(show vs= [] from L)
   exact iteT (k _ Y)
  |cons U xr=>
   have ac:vs.isEmpty=false:=by cases vs with|nil=>simp at lv|cons _ _=>rfl
   refine qo ac ?_;refine⟨_,rfl,a0,vs,rfl,SqT.of (Y _ _ I),fun ag A0 ad=> ?_⟩;refine Jc (tl:= []) (fun d=> .int (dp d:Int)) (Y _ _ I) (L.mono Y.tk) (qY (by omega)) ad (fun d0 U H3 R aa s3 i3 r=> ?_) fun H1 ys s1 l1 i1=> ?_
   ·refine⟨_,rfl,U,d0,rfl,i3,JB O.2 aa,?_,fun H4 s4=>r _ H4 s4 rfl⟩;have:=dp_row aa;omega
   have ey:ys=((U::xr).map fun d=>(dp d:Int)).map V.int:=IsL.ints (by rw [uT];exact i1)
   refine⟨A0,(U::xr).map fun d=>(dp d:Int),rfl,SqL.of (by rw [l1,ey]),by simp,fun M hM ab=>⟨_,_,rfl,rfl,?_⟩⟩
   obtain⟨dM,ae,rfl⟩:=List.mem_map.mp hM;have eM:dpL (U::xr)=dp dM:=by
    apply Nat.le_antisymm
    ·refine(jv _).mpr fun y hy=> ?_;have:=ab _ (List.mem_map.mpr ⟨y,hy,rfl⟩);omega
    ·exact(jv _).mp (ug _) dM ae
   have:=k H1 (Y.trans s1);rw [show dp (.tup (U::xr))=1+dpL (U::xr) by simp only [dp],eM] at this
   show Q (.int ((1:Int)+(dp dM:Int))) H1;rw [show(1:Int)+(dp dM:Int)=((1+dp dM:Nat):Int) by omega]
   exact this
 |_=>simp [good] at hg
theorem ok_dp (T:Tx K mg a):∀n:Nat,FnOk P w K mg base CX0 (n+1) a.yF a.yC ["tree"] (sp_dp n)
 |0=>dp_none
 |n+1=>ok_dp1 T (ok_dp T n)
theorem ok_lt (T:Tx K mg a):FnOk P w K mg base CX0 23 a.JI a.Jz ["value"] sp_lt:=by
 have U:FnOk P w K mg base CX0 22 a.Qx a.Qw ["value"] (sp_pr 21):=ok_pr T 21;have Y:FnOk P w K mg base CX0 22 a.Yi a.Yb ["tree"] (sp_sz 21):=ok_sz T 21;have jI:FnOk P w K mg base CX0 22 a.yF a.yC ["tree"] (sp_dp 21):=ok_dp T 21;refine T.g_law_is_tree.F.ok zh () (fun _ _ _ _ H _ Q E L h=> ?_)
 obtain⟨v,d,rfl,M,hd,k⟩:=h;refine⟨_,(@qg _ _ _ (@ql _ _ _ _ (@Xa _ _ _ _ _ _ _ (@qv _ _ _ _ _ _ _ _ _ _ _ _ _ _ _ _ U (L.mono ()) () T.g_law_parts_right.m T.g_law_parts_right.F.kp T.g_law_parts_right.b .nil qN (@qa _ _ _ _ _ (pv 0) qc ()) () () ()) (@Xa _ _ _ _ _ _ _ (@QG _ _ _ _ _ _ _ _ op_le (@qv _ _ _ _ _ _ _ _ _ _ _ _ _ _ _ _ Y (L.mono ()) () T.g_law_size.m T.g_law_size.F.kp T.g_law_size.b .nil qN (@qa _ _ _ _ _ (pv 0) qc ()) () () ()) qj (qw _)) (@Jv _ _ _ _ _ (@QG _ _ _ _ _ _ _ _ op_le (@qv _ _ _ _ _ _ _ _ _ _ _ _ _ _ _ _ jI (L.mono ()) () T.g_law_depth.m T.g_law_depth.F.kp T.g_law_depth.b .nil qN (@qa _ _ _ _ _ (pv 0) qc ()) () () ()) qj (qw _))))))),?_⟩
 unfold isT at k;refine⟨_,rfl,v,d,rfl,M,by omega,fun H1 s1=>⟨_,rfl,?_⟩⟩
 cases I:good d with
 |false=>
  have:=k H1 s1;rw [I] at this;exact iteF this
 |true=>
  refine iteT ⟨_,rfl,v,d,rfl,M.mono s1.tk,I,by omega,fun H2 s2=>⟨_,_,rfl,rfl,_,rfl,?_⟩⟩
  refine ite2 (fun c=> ?_) (fun c=> ?_)
  ·have O:sz d<=600:=by have:=ua c;omega
   refine⟨_,rfl,v,d,rfl,M.mono (s1.trans s2).tk,I,by omega,fun R s3=>⟨_,_,rfl,rfl,?_⟩⟩
   have:=k R (s1.trans (s2.trans s3));rw [I,u0 O,vE,vE] at this;show Q (.bl (decide ((dp d:Int)<=12))) R;rw [show decide ((dp d:Int)<=12)=decide (dp d<=12) by rw [uA];omega]
   exact this
  ·have O:¬sz d<=600:=fun q=>c (u0 (by omega))
   have:=k H2 (s1.trans s2);rw [I,u9 O,vE,vX] at this;exact this
def wds (r:Rw):List Str:=spl ((qH r).length+1) (qH r)
theorem Q5 {n m:Nat}{r:Rw}{ks:List Kd}(hn:n<=40)(I:(r.1,ks)∈FRM)(L:y7 n m ks r.2)(M:Kd.words∉ks):wds r=txs r:=by
 have:=line_spl hn I L;rw [if_neg M] at this;exact this
theorem spl_cons {p:Str}(I:Free p)(n:Nat)(y:Str)(r:List Str):spl (n+1) (Str.join " " (p::y::r))=p::spl n (Str.join " " (y::r)):=by
 unfold spl;rw [L2.yi,Zr I,uj,QH]
theorem xQ {x y:Str}(L:x∈BX):∃tl,wds ("text",[.s x,.s y])=("text":Str)::x::tl/\tl≠ []:=by
 have M:=xG (txs ("text",[.s x,.s y])) (by simp [txs])
 have e:qH ("text",[.s x,.s y])=Str.join " " ["text",x,y]:=rfl;have O:Free ("text":Str):=ua (ZP ("text",[.box,.words]) (by decide+kernel)).1
 have I:=(Qo L).2.1;have R:2<=(qH ("text",[.s x,.s y])).length+1:=by
  simp only [txs,uj,vj,ud,v8,vn,Uv] at M;have:(qH ("text",[.s x,.s y])).length=(Str.join " " (txs ("text",[.s x,.s y]))).length:=rfl;simp only [txs,uj,vj] at this;rw [this];omega
 obtain⟨n,hn⟩:∃n,(qH ("text",[.s x,.s y])).length+1=n+1+1:=⟨(qH ("text",[.s x,.s y])).length-1,by omega⟩
 unfold wds;rw [hn,e,spl_cons O,spl_cons I];refine⟨_,rfl,?_⟩;unfold spl;obtain⟨p,q,U⟩:=Yr 32 n (Str.join " " [y]).cps.toList;rw [U];simp
def WdAt (H:Hp)(p:Addr)(r:Rw):Prop:=H p=some (.lst ((wds r).map V.str))
theorem QR {K:PySem.W.Frag}{H:Hp}{p:Addr}{r:Rw}{i:Nat}{z:Str}{Q:VK}(h:WdAt H p r)(e:(wds r)[i]? =some z)(q:Q (.str z) H):rIxL K (.ref p) (.int (i:Int)) H Q:=
 ⟨p,_,_,_,rfl,rfl,SqL.of h,qS (by rw [uM,e];rfl),q⟩
theorem wds0 {n m:Nat}{r:Rw}(hn:n<=40)(h:QI n m r):(wds r)[0]? =some r.1:=by
 obtain⟨ks,I,L⟩:=id h;by_cases M:Kd.words∈ks
 ·rcases Zo _ I with e|e
  ·simp at e;exact absurd M e
  ·have e1:ks= [.box,.words]:=congrArg Prod.snd e;have e2:r.1="text":=congrArg Prod.fst e;subst e1;obtain⟨U,ps⟩:=r;simp only at e2;subst e2;obtain⟨x,y,rfl,O,_⟩:=sh_bw L;obtain⟨tl,R,_⟩:=xQ (y:=y) O;rw [R]
   rfl
 ·rw [Q5 hn I L M]
  rfl
def sp_lname:Sp:=fun vs H Q _=>∃v d,vs= [v]/\Is H d v/\∀H',Same H H'->Q (.bl (isNm d)) H'
noncomputable def askL (w:Str)(held:D):D:=if w="names" then(if isStr held=true then .tup [.str "names",held] else .str "kind") else if isNm held=true then .tup [.str (if w="ask" then "thing" else "has"),held] else .str "name"
def sp_lask:Sp:=fun vs H Q _=>∃(d p:Addr) (B:Str->D) (r:Rw) (n:Nat),vs= [.ref d,.ref p]/\n<=40/\QL H d B/\WdAt H p r/\QI n 300 r/\r.1∈ASK/\
 ∀(v:V) (H':Hp),Same H H'->Is H' (askL r.1 (B (b1 r.2))) v->Q v H'
def sp_next:Sp:=fun vs H Q _=>∃(d p:Addr) (B:Str->D) (r:Rw) (n:Nat) (at':Int),vs= [.ref d,.ref p,.int at']/\n<=40/\QL H d B/\Tr B/\WdAt H p r/\QI n 300 r/\r.1∈JMP/\
 ∀H',Same H H'->Q (.int (if jump r.1 B r.2=true then jt r.2-1 else at'+1)) H'
theorem num_nobox:∀k:Fin 41,(toString ((k.val:Nat):Int):Str)∉BX:=by decide+kernel
theorem num_no {i:Int}(h1:1<=i)(h2:i<=40):(toString i:Str)∉BX:=by
 obtain⟨k,rfl⟩:∃k:Fin 41,i=((k.val:Nat):Int):=⟨⟨i.toNat,by omega⟩,by simp;omega⟩
 exact num_nobox k
theorem ok_lname (T:Tx K mg a):FnOk P w K mg base CX0 1 a.Jp a.Jn ["value"] sp_lname:=by
 refine T.g_law_is_name.F.ok ze () (fun _ _ _ _ H _ Q E hr h=> ?_)
 obtain⟨x,d,rfl,hv,k⟩:=h;refine⟨_,(@qe _ _ _ _ _ (@qG _ _ _ _ _ _ _ _ (@Yf _ _ _ _ _ _ _ (@Qm _ _ _ _ (@qU _ _ _ (@qk _ _ _ _ _ _ _ _ _ (@qz _ _ rfl) () T.qt uo (@qa _ _ _ _ _ (pv 0) (@qa _ _ _ _ _ (@qV _ _ (.ty "str") _ _ () T.yy vr rfl () ()) qc ()) ()) () () () ()) ())) (@Yf _ _ _ _ _ _ _ (@qm _ _ _ _ _ _ _ _ Qg (pv 0) qi (qw _)) (@Yf _ _ _ _ _ _ _ (@qm _ _ _ _ _ _ _ _ XL (@qk _ _ _ _ _ _ _ _ _ Y3 () T.Qy um (@qa _ _ _ _ _ (pv 0) qc ()) () () () ()) qj (qw _)) (@yK _ _ _ _ (@qm _ _ _ _ _ _ _ _ xm (@qF _ _ _ _ _ _ _ ix_str (pv 0) qj (fun _ _=>rfl)) qi (by with_unfolding_all rfl)))))).pt (@qg _ _ _ (@ql _ _ _ _ jn)) qq) (@qg _ _ _ (@ql _ _ _ _ (@qk _ _ _ _ _ _ _ _ _ (@yL _ rfl) () T.z_all boot_all (@qa _ _ _ _ _ (@JG _ _ (["sign"]) (1) ([]) _ _ _ _ _ _ _ _ _ (lcs0) rfl (@pi_str _ _ _ _ (pv 0)) (fun _ _ _ _ _ _=>(@qQ _ _ (0) _ (show List.Nodup (["sign"]:List Str) by decide+kernel) rfl (Or.inl rfl) ())) (fun _ _ _ _ _ _=> @QW _) (fun _ _ _ _ _ _=>(@QG _ _ _ _ _ _ _ _ op_in_str (pv 0) qi (by with_unfolding_all rfl))) ()) qc ()) () () () ())))),?_⟩
 refine⟨_,rfl,x,"str",tyD d,isStr d,rfl,hv.ty,Qs d,_,rfl,?_⟩;cases hd:isStr d with
 |false=>
  refine iteT ?_;have:=k H (Same.refl H);have e:isNm d=false:=by cases d<;>first|rfl|simp [isStr] at hd
  rw [e] at this;exact this
 |true=>
  obtain⟨z,rfl⟩:∃z,d= .str z:=by cases d<;>simp [isStr] at hd;exact⟨_,rfl⟩
  obtain⟨rfl,L⟩:=hv;have k:∀H',Same H H'->Q (.bl (nm z)) H':=k;have stop:nm z=false->Q (.bl false) H:=fun e=>by
   have:=k H (Same.refl H);rw [e] at this;exact this
  refine iteF ⟨_,rfl,rfl,_,rfl,?_⟩;refine ite2 (fun M=> ?_) (fun M=> ?_)
  ·have e:z="":=by have:=ua M;injection this
   subst e;exact stop (by decide+kernel)
  ·have O:1<=(z.length:Int):=by
    rcases vW z.length with h|h
    ·exfalso;refine M (u0 ?_);have h4:z.cps= #[]:=vH h;cases z;simp only at h4;subst h4
     decide+kernel
    ·omega
   refine⟨_,rfl,z,rfl,L,_,_,rfl,rfl,_,rfl,?_⟩;refine ite2 (fun U=> ?_) (fun U=> ?_)
   ·have I:(24:Int)<z.length:=ua U;exact stop (nm_len fun q=>by omega)
   ·have I:(z.length:Int)<=24:=by
     rcases Int.lt_or_le (24:Int) z.length with h|h
     ·exact absurd (u0 h) U
     ·exact h
    refine⟨_,rfl,_,_,_,rfl,rfl,L,xL (by omega),_,_,rfl,rfl,_,rfl,?_⟩
    cases e:inS ⟨#[z.cps.getD 0 0]⟩ LET with
    |false=>
     have Y:(!(Builtin.Str.occurrences ("abcdefghijklmnopqrstuvwxyz":Str) ⟨#[z.cps.getD 0 0]⟩ 0 ("abcdefghijklmnopqrstuvwxyz":Str).length 1).isEmpty)=false:=e;rw [Y];refine iteT ?_;exact stop (nm_first e)
    |true=>
     have Y:(!(Builtin.Str.occurrences ("abcdefghijklmnopqrstuvwxyz":Str) ⟨#[z.cps.getD 0 0]⟩ 0 ("abcdefghijklmnopqrstuvwxyz":Str).length 1).isEmpty)=true:=e;rw [Y];refine iteF ?_;refine⟨_,rfl,z,rfl,fun D hD=> ?_⟩;refine lc_str (fun c=> .bl (inS ⟨#[c]⟩ NSG)) (L) hD (fun i c H' R hc sm r=>⟨_,rfl,_,_,rfl,rfl,r⟩) fun H' sm hl=> ?_;refine⟨D,z.cps.toList.map fun c=>inS ⟨#[c]⟩ NSG,rfl,SqL.of (by rw [hl,allMap]),?_⟩
     have:=k H' sm;rw [nm_rest O I e] at this;exact this
theorem ok_lask (T:Tx K mg a):FnOk P w K mg base CX0 2 a.f_law_ask a.d_law_ask ["boxes","words"] sp_lask:=by
 have ZY:=ok_lname (P:=P) (w:=w) (base:=base) T;refine T.g_law_ask.F.ok zn () (fun _ _ _ _ H _ Q E hr h=> ?_)
 obtain⟨d,p,B,⟨I,ps⟩,n,rfl,hn,hB,R,M,hs,k⟩:=h;refine⟨_,(@qe _ _ _ _ _ (@qB _ _ (2) _ _ _ _ zn.nd rfl (Or.inl rfl) (@Qf _ _ _ _ _ _ (QQ hr) (pv 0) (@qF _ _ _ _ _ _ _ qO (pv 1) qj (fun _ _=>rfl)) (fun _ _=>rfl)) () ()) (@qe _ _ _ _ _ (@qG _ _ _ _ _ _ _ _ (@Y9 _ _ _ _ _ _ _ (@qm _ _ _ _ _ _ _ _ Qg (@qF _ _ _ _ _ _ _ qO (pv 1) qj (fun _ _=>rfl)) qi (qw _)) (@y6 _ _ _ _ (@Qm _ _ _ _ (@qU _ _ _ (@qk _ _ _ _ _ _ _ _ _ (@qz _ _ rfl) () T.qt uo (@qa _ _ _ _ _ (pv 2) (@qa _ _ _ _ _ (@qV _ _ (.ty "str") _ _ () T.yy vr rfl () ()) qc ()) ()) () () () ()) ())))).pt (@qg _ _ _ (@ql _ _ _ _ qi)) qq) (@qe _ _ _ _ _ (@qG _ _ _ _ _ _ _ _ (@Y9 _ _ _ _ _ _ _ (@qm _ _ _ _ _ _ _ _ op_ne (@qF _ _ _ _ _ _ _ qO (pv 1) qj (fun _ _=>rfl)) qi (qw _)) (@y6 _ _ _ _ (@Qm _ _ _ _ (@qU _ _ _ (@qv _ _ _ _ _ _ _ _ _ _ _ _ _ _ _ _ ZY (hr.mono ()) () T.g_law_is_name.m T.g_law_is_name.F.kp T.g_law_is_name.b .nil qN (@qa _ _ _ _ _ (pv 2) qc ()) () () ()) ())))).pt (@qg _ _ _ (@ql _ _ _ _ qi)) qq) (@qg _ _ _ (@ql _ _ _ _ (@qy _ _ _ _ _ (@qa _ _ _ _ _ (@Qf _ _ _ _ _ _ (QQ hr) (@pe_disp _ _ _ _ _ (@Ym _ _ _ _ _ _ _ _ _ qi qi (@Ym _ _ _ _ _ _ _ _ _ qi qi (@Ym _ _ _ _ _ _ _ _ _ qi qi pps_nil))) rfl rfl (by simp) (by decide)) (@qF _ _ _ _ _ _ _ qO (pv 1) qj (fun _ _=>rfl)) (fun _ _=>rfl)) (@qa _ _ _ _ _ (pv 2) qc ()) ()))))))),?_⟩
 dsimp only [cxOf,Cx.nox];have two:(2:Nat)<=sizeLine:=by decide
 simp only at hs k;obtain⟨ks,hk,hp⟩:=id M;obtain⟨_,_,ek⟩:=xg _ hk hs;simp only at ek;subst ek;obtain⟨z0,L,rfl,h0,h1⟩:=y0 hp;have ew:wds (I,[.s z0,.s L])= [I,z0,L]:=Q5 hn hk hp (by decide)
 obtain⟨v,gv,iv⟩:=hB.get h1;have k':∀(v:V) (H':Hp),Same H H'->Is H' (askL I (B L)) v->Q v H':=k;refine⟨_,rfl,_,rfl,?_⟩;dsimp only [tC];refine QR (i:=2) R (by rw [ew];rfl) ⟨d,v,rfl,gv,?_⟩
 have U:∀(H1:Hp),Same H H1->askL I (B L)= .tup [.str (if I="names" then "names" else if I="ask" then "thing" else "has"),B L]->∀q,H1 q=none->∃z:Str,valV (Y5 [] [((Sum.inr "ask":Key),V.str "thing"),(Sum.inr "has",V.str "has"),(Sum.inr "names",V.str "names")]) (Sum.inr I)=some (.str z)/\∀l,(upd (upd H1 q (.dK [])) q (.dK (Y5 [] [((Sum.inr "ask":Key),V.str "thing"),(Sum.inr "has",V.str "has"),(Sum.inr "names",V.str "names")]))) l=none->Q (.ref l) (upd (upd (upd H1 q (.dK [])) q (.dK (Y5 [] [((Sum.inr "ask":Key),V.str "thing"),(Sum.inr "has",V.str "has"),(Sum.inr "names",V.str "names")]))) l (.tup [.str z,v])):=by
  intro H1 s1 e q Y;have s2:Same H (upd (upd H1 q (.dK [])) q (.dK (Y5 [] [((Sum.inr "ask":Key),V.str "thing"),(Sum.inr "has",V.str "has"),(Sum.inr "names",V.str "names")]))):=fun b o h=>by
   have h1:=s1 b o h;have nb:b≠q:=qr h1 Y;rw [qx nb,qx nb];exact h1
  refine⟨if I="names" then "names" else if I="ask" then "thing" else "has",?_,fun l hl=> ?_⟩
  ·simp only [ASK,uB,vw,vb] at hs;rcases hs with rfl|rfl|rfl
   ·rfl
   ·rfl
   ·rfl
  ·refine k' _ _ (s2.trans (qb hl _)) ?_;rw [e];exact Is.new (ds:= [.str (if I="names" then "names" else if I="ask" then "thing" else "has"),B L]) ⟨_,_,rfl,⟨rfl,qY (by split<;>first|decide|(split<;>decide))⟩,_,_,rfl,iv.mono s2.tk,rfl⟩ hl
 have es:∀y:Str,decide (V.str I=V.str y)=decide (I=y):=fun y=>by
  rw [uA];exact⟨fun h=>by injection h,fun h=>by rw [h]⟩
 show∃_,_;refine⟨_,rfl,?_⟩;dsimp only [tC];refine QR (i:=0) R (wds0 hn M) ⟨rfl,_,rfl,?_⟩;by_cases c:I="names"
 ·refine qA (by rw [es];exact u0 c) ⟨_,rfl,v,"str",tyD (B L),isStr (B L),rfl,iv.ty,Qs _,_,rfl,?_⟩
  cases O:isStr (B L) with
  |false=>exact iteT (k' _ H (Same.refl _) (by unfold askL;rw [if_pos c,O];exact⟨rfl,qY (by decide)⟩))
  |true=>
   refine iteF ?_;refine⟨_,rfl,?_⟩;dsimp only [tC];refine QR (i:=0) R (wds0 hn M) ⟨rfl,_,rfl,?_⟩;refine qo (by rw [es];rw [u0 c];rfl) ?_
   have EE:askL I (B L)= .tup [.str (if I="names" then "names" else if I="ask" then "thing" else "has"),B L]:=by unfold askL;rw [if_pos c,O,if_pos c];rfl
   refine fun q Y=>⟨qh,[((Sum.inr "ask":Key),V.str "thing"),(Sum.inr "has",V.str "has"),(Sum.inr "names",V.str "names")],rfl,by decide,_,rfl,?_⟩
   dsimp only [tC];obtain⟨z,ez,fz⟩:=U H (Same.refl H) EE q Y;have nb:p≠q:=qr ((Same.refl H) _ _ R) Y;refine QR (i:=0) (r:=(I,[.s z0,.s L])) (by unfold WdAt;rw [qx nb,qx nb];exact(Same.refl H) _ _ R) (wds0 hn M) ⟨q,.str z,rfl,?_,_,rfl,two,fun l hl=>fz l hl⟩
   have dg:=DGet.k (a:=q) (k:=(Sum.inr I:Key)) (H:=upd (upd H q (.dK [])) q (.dK (Y5 [] [((Sum.inr "ask":Key),V.str "thing"),(Sum.inr "has",V.str "has"),(Sum.inr "names",V.str "names")]))) qh;rw [ez] at dg;exact dg
 ·refine qo (by rw [es];exact u9 c) ?_
  refine⟨_,rfl,?_⟩;dsimp only [tC];refine QR (i:=0) R (wds0 hn M) ⟨rfl,_,rfl,?_⟩;refine qA (by rw [es];rw [u9 c];rfl) ⟨_,rfl,v,B L,rfl,iv,fun H1 s1=>⟨_,rfl,?_⟩⟩
  cases O:isNm (B L) with
  |false=>exact iteT (k' _ H1 s1 (by unfold askL;rw [if_neg c,O];exact⟨rfl,qY (by decide)⟩))
  |true=>
   refine iteF ?_;have EE:askL I (B L)= .tup [.str (if I="names" then "names" else if I="ask" then "thing" else "has"),B L]:=by unfold askL;rw [if_neg c,O,if_neg c];rfl
   refine fun q Y=>⟨qh,[((Sum.inr "ask":Key),V.str "thing"),(Sum.inr "has",V.str "has"),(Sum.inr "names",V.str "names")],rfl,by decide,_,rfl,?_⟩
   dsimp only [tC];obtain⟨z,ez,fz⟩:=U H1 s1 EE q Y;have nb:p≠q:=qr (s1 _ _ R) Y;refine QR (i:=0) (r:=(I,[.s z0,.s L])) (by unfold WdAt;rw [qx nb,qx nb];exact s1 _ _ R) (wds0 hn M) ⟨q,.str z,rfl,?_,_,rfl,two,fun l hl=>fz l hl⟩
   have dg:=DGet.k (a:=q) (k:=(Sum.inr I:Key)) (H:=upd (upd H1 q (.dK [])) q (.dK (Y5 [] [((Sum.inr "ask":Key),V.str "thing"),(Sum.inr "has",V.str "has"),(Sum.inr "names",V.str "names")]))) qh;rw [ez] at dg;exact dg
theorem frm_jks:∀x∈FRM,x.1∈JMP->x=(("go":Str),[Kd.line])∨x=(("like":Str),[Kd.box,.box,.line])∨x=(("rowed":Str),[Kd.box,.line])∨x=(("none":Str),[Kd.box,.line]):=by decide+kernel
theorem tvl {K:PySem.W.Frag}{H:Hp}{p:Addr}{r:Rw}{n m:Nat}{σ:L2.St}{y:Str}{k:VK}(L:σ[1]? =some (some (.ref p)))(M:WdAt H p r)(hn:n<=40)(I:QI n m r)(q:k (.bl (decide (r.1=y))) H):tOp rEq (tOp (rIxL K) (tVar 1) (tC (.int 0))) (tC (.str y)) σ H k:=by
 refine⟨_,L,?_⟩;dsimp only [tC];refine QR (i:=0) M (wds0 hn I) ⟨rfl,?_⟩;rw [show decide (V.str r.1=V.str y)=decide (r.1=y) by rw [uA];exact⟨fun h=>by injection h,fun h=>by rw [h]⟩]
 exact q
theorem tst {K:PySem.W.Frag}{H:Hp}{p:Addr}{r:Rw}{n m:Nat}{σ:L2.St}{y:Str}{k:Bool->Hp->Prop}(L:σ[1]? =some (some (.ref p)))(M:WdAt H p r)(hn:n<=40)(I:QI n m r)(q:k (decide (r.1=y)) H):tTest (tOp rEq (tOp (rIxL K) (tVar 1) (tC (.int 0))) (tC (.str y))) σ H k:=
 tvl L M hn I ⟨_,rfl,q⟩
theorem ok_next (T:Tx K mg a):FnOk P w K mg base CX0 1 a.zo a.zw ["boxes","words","at"] sp_next:=by
 refine T.g_law_next.F.ok Q7 () (fun _ _ _ _ H _ Q E hr h=> ?_)
 obtain⟨d,p,B,⟨R,ps⟩,n,at',rfl,hn,hB,hT,L,I,hs,k⟩:=h;refine⟨_,(@qe _ _ _ _ _ (@qB _ _ (3) _ _ _ _ Q7.nd rfl (Or.inl rfl) (@ZT _ _ _ _ _ _ _ _ _ (QQ hr) (pv 0) (@qF _ _ _ _ _ _ _ qO (pv 1) qj (fun _ _=>rfl)) qi ⟨rfl,rfl,rfl,rfl⟩) () ()) (@qe _ _ _ _ _ (@qB _ _ (4) _ _ _ _ Q7.nd rfl (Or.inl rfl) (@QG _ _ _ _ _ _ _ _ Qg (@qF _ _ _ _ _ _ _ qO (pv 1) qj (fun _ _=>rfl)) qi (qw _)) () ()) (@qe _ _ _ _ _ (@qG _ _ _ _ _ _ _ _ (@qm _ _ _ _ _ _ _ _ Qg (@qF _ _ _ _ _ _ _ qO (pv 1) qj (fun _ _=>rfl)) qi (qw _)) (@qg _ _ _ (@qB _ _ (4) _ _ _ _ Q7.nd rfl (Or.inl rfl) (@QG _ _ _ _ _ _ _ _ (@op_eqD _ hr.units) (pv 3) (@Qf _ _ _ _ _ _ (QQ hr) (pv 0) (@qF _ _ _ _ _ _ _ qO (pv 1) qj (fun _ _=>rfl)) (fun _ _=>rfl)) (qw _)) () ())) qq) (@qe _ _ _ _ _ (@qG _ _ _ _ _ _ _ _ (@qm _ _ _ _ _ _ _ _ Qg (@qF _ _ _ _ _ _ _ qO (pv 1) qj (fun _ _=>rfl)) qi (qw _)) (@qg _ _ _ (@qB _ _ (4) _ _ _ _ Q7.nd rfl (Or.inl rfl) (@qk _ _ _ _ _ _ _ _ _ (@qz _ _ rfl) () T.qt uo (@qa _ _ _ _ _ (pv 3) (@qa _ _ _ _ _ (@qV _ _ (.ty "tuple") _ _ () T.Qa uU rfl () ()) qc ()) ()) () () () ()) () ())) qq) (@qe _ _ _ _ _ (@qG _ _ _ _ _ _ _ _ (@qm _ _ _ _ _ _ _ _ Qg (@qF _ _ _ _ _ _ _ qO (pv 1) qj (fun _ _=>rfl)) qi (qw _)) (@qg _ _ _ (@qB _ _ (4) _ _ _ _ Q7.nd rfl (Or.inl rfl) (@pe_or _ _ _ _ _ _ _ (@QG _ _ _ _ _ _ _ _ (@op_eqM _ hr.units) (pv 3) qi (qw _)) (@Jv _ _ _ _ _ (@QG _ _ _ _ _ _ _ _ (@op_eqD _ hr.units) (pv 3) (@qy _ _ _ _ _ qc) (qw _)))) () ())) qq) (@qe _ _ _ _ _ (@qG _ _ _ _ _ _ _ _ (@qU _ _ _ (pv 4) ()) (@qg _ _ _ (@ql _ _ _ _ (@qT _ _ _ _ _ _ _ _ op_sub (@qP _ _ _ _ _ _ _ _ _ call_intS () T.z_int boot_int (@qa _ _ _ _ _ (@qF _ _ _ _ _ _ _ qO (pv 1) (@pe_un _ _ _ _ _ _ un_neg qj) (fun _ _=>rfl)) qc ()) () () () ()) qj))) qq) (@qg _ _ _ (@ql _ _ _ _ (@qT _ _ _ _ _ _ _ _ Qz (pv 2) qj))))))))),?_⟩
 dsimp only [cxOf,Cx.nox];simp only at hs k;obtain⟨ks,hk,hp⟩:=id I;obtain⟨qs,i,ac,h1,h2,hl⟩:=Zz I hs;simp only at ac hl;have af:Kd.words∉ks:=by
  rcases frm_jks _ hk hs with e|e|e|e<;>(have:=congrArg Prod.snd e;simp only at this;subst this;decide)
 have ew:wds (R,ps)=R::ps.map Pt.t:=Q5 hn hk hp af;have ah:(wds (R,ps))[0]? =some R:=wds0 hn I;have aa:atI ((wds (R,ps)).map V.str) (-1)=some (.str (toString i)):=by
  rw [ew,ac,uj,uT,uE,<-vR];exact Zl _ _
 have es:∀y:Str,decide (V.str R=V.str y)=decide (R=y):=fun y=>by
  rw [uA];exact⟨fun h=>by injection h,fun h=>by rw [h]⟩
 have Y:∀q ad,ps=q::ad->(wds (R,ps))[1]? =some q.t:=fun q ad e=>by rw [ew,e];rfl
 have O:∀(H1:Hp) (held:V),Same H H1->tSeq (tIfS (tB (tVar 4)) (tRet (tOp (rI0 fun i j=> .int (i-j)) (tCB (fun xs H Q=>∃z n,xs= [.str z]/\PySem.intText? z=some n/\z.length<=640/\Q (.int n) H) (tCons (tOp (rIxL K) (tVar 1) (tUn (rU fun i=>V.int (-i)) (tC (.int 1)))) tNil)) (tC (.int 1)))) tNext) (tRet (tOp (rI0 fun i j=> .int (i+j)) (tVar 2) (tC (.int 1)))) {nx:=fun _ H'=>Q V.non H',rt:=Q} [some (.ref d),some (.ref p),some (.int at'),some held,some (.bl (jump R B ps))] H1:=by
  intro H1 held s1;have:=k H1 s1;refine⟨_,rfl,_,rfl,?_⟩;cases hj:jump R B ps with
  |true=>
   rw [hj,if_pos rfl,hl] at this;refine iteT ⟨_,rfl,1,rfl,p,_,_,_,rfl,rfl,SqL.of (s1 _ _ L),aa,toString i,i,rfl,xR h1 (by omega),?_,_,_,rfl,rfl,this⟩
   have:=(Yk h1 (by omega)).1
   omega
  |false=>
   rw [hj,if_neg u8] at this;exact iteF ⟨_,rfl,_,_,rfl,rfl,this⟩
 refine⟨_,rfl,d,rfl,(let⟨f,e,_⟩:=hB; .inl ⟨_,.inl e⟩),_,rfl,?_⟩;dsimp only [tC];have M:=frm_jks _ hk hs;simp only at M;rcases M with e|e|e|e
 ·cases e;obtain⟨j,rfl,ag,ak⟩:=sh_l hp;refine QR (i:=1) L (Y _ _ rfl) ⟨none,hB.lack (num_no ag (by omega)),?_⟩
  refine tvl rfl L hn I ?_;refine tst rfl L hn I (qo (show decide (("go":Str)="like")=false by decide+kernel) ?_)
  refine tst rfl L hn I (qo (show decide (("go":Str)="rowed")=false by decide+kernel) ?_)
  refine tst rfl L hn I (qo (show decide (("go":Str)="none")=false by decide+kernel) ?_)
  exact O H _ (Same.refl _)
 ·cases e;obtain⟨x,y,j,rfl,U,hy,_⟩:=sh_bbl hp;obtain⟨v,gv,iv⟩:=hB.get U;obtain⟨u,gu,iu⟩:=hB.get hy;refine QR (i:=1) L (Y _ _ rfl) ⟨some v,gv,?_⟩;refine tvl rfl L hn I ?_;refine tst rfl L hn I (qA (show decide (("like":Str)="like")=true by decide+kernel) ?_)
  refine⟨_,rfl,_,rfl,_,rfl,?_⟩;dsimp only [tC];refine QR (i:=2) L (by rw [ew];rfl) ⟨d,u,rfl,gu,B x,B y,iv,iu,isT_tr (hT x U),isT_tr (hT y hy),by have:=Jt (hT x U);omega,?_⟩
  refine tst rfl L hn I (qo (show decide (("like":Str)="rowed")=false by decide+kernel) ?_)
  refine tst rfl L hn I (qo (show decide (("like":Str)="none")=false by decide+kernel) ?_)
  exact O H _ (Same.refl _)
 ·cases e;obtain⟨x,j,rfl,U,_⟩:=sh_bl hp;obtain⟨v,gv,iv⟩:=hB.get U;refine QR (i:=1) L (Y _ _ rfl) ⟨some v,gv,?_⟩;refine tvl rfl L hn I ?_;refine tst rfl L hn I (qo (show decide (("rowed":Str)="like")=false by decide+kernel) ?_)
  refine tst rfl L hn I (qA (show decide (("rowed":Str)="rowed")=true by decide+kernel) ?_)
  refine⟨_,rfl,v,"tuple",tyD (B x),jo (B x),rfl,iv.ty,yM _,?_⟩;refine tst rfl L hn I (qo (show decide (("rowed":Str)="none")=false by decide+kernel) ?_)
  exact O H _ (Same.refl _)
 ·cases e;obtain⟨x,j,rfl,U,_⟩:=sh_bl hp;obtain⟨v,gv,iv⟩:=hB.get U;refine QR (i:=1) L (Y _ _ rfl) ⟨some v,gv,?_⟩;refine tvl rfl L hn I ?_;refine tst rfl L hn I (qo (show decide (("none":Str)="like")=false by decide+kernel) ?_)
  refine tst rfl L hn I (qo (show decide (("none":Str)="rowed")=false by decide+kernel) ?_)
  refine tst rfl L hn I (qA (show decide (("none":Str)="none")=true by decide+kernel) ?_)
  have ab:=isT_tr (hT x U);have ae:dp (B x)<=60:=by have:=Jt (hT x U);omega
  refine⟨_,rfl,B x,"",iv,rfl,by decide,(by cases hb:B x<;>first|rfl|(rw [hb] at ab;exact ab)),ae,_,rfl,?_⟩
  have ej:jump "none" B [.s x,.n j]=decide (lenD (B x)=0):=by
   unfold jump;rw [if_neg (by decide+kernel),if_neg (by decide+kernel),if_pos rfl]
   rfl
  have hg:=hT x U;cases hb:B x with
  |str z=>
   rw [hb] at ej;have e1:eqD (.str z) (.str "")=decide (lenD (.str z)=0):=by
    show(z==("":Str))=decide (z.length=0);by_cases c:z.length=0
    ·have h4:z.cps= #[]:=vH c;rw [u0 c];cases z;simp only at h4;subst h4
     decide+kernel
    ·rw [u9 c];have:z≠"":=fun e=>c (by rw [e];decide+kernel)
     simpa using this
   rw [e1];cases hc:decide (lenD (.str z)=0) with
   |true=>
    rw [hc] at ej;refine iteT ?_;rw [<-ej];exact O H _ (Same.refl _)
   |false=>
    rw [hc] at ej;refine iteF ⟨_,rfl,(by show 0<=sizeLine;decide),fun l hl=> ?_⟩
    have s1:Same H (upd H l (.tup [])):=qb hl _;refine⟨.str z,.tup [],by rw [<-hb];exact iv.mono s1.tk,Is.new (ds:= []) rfl hl,rfl,rfl,by simp [dp],?_⟩
    show tSeq _ _ _ _ _;have:=O (upd H l (.tup [])) v s1;rw [ej] at this;exact this
  |tup xs=>
   rw [hb] at ej;refine iteF ⟨_,rfl,(by show 0<=sizeLine;decide),fun l hl=> ?_⟩
   have s1:Same H (upd H l (.tup [])):=qb hl _;refine⟨.tup xs,.tup [],by rw [<-hb];exact iv.mono s1.tk,Is.new (ds:= []) rfl hl,by rw [<-hb];exact ab,rfl,by rw [<-hb];exact ae,?_⟩
   have:=O (upd H l (.tup [])) v s1;rw [ej] at this;have e1:decide (lenD (.tup xs)=0)=eqD (.tup xs) (.tup []):=by cases xs<;>rfl
   rw [e1] at this;exact this
  |_=>rw [hb] at hg;simp [isT,good] at hg
def sp_cg:Sp:=fun vs H Q _=>∃(w:Str) (v2 v3:V) (d2 d3:D),vs= [.str w,v2,v3]/\(w="cut"∨w="glue")/\Is H d2 v2/\Is H d3 v3/\isT d2=true/\isT d3=true/\∀(v:V) (H':Hp),Same H H'->Is H' (if w="cut" then cutD d2 d3 else glueD d2 d3) v->Q v H'
theorem ok_cg (T:Tx K mg a):FnOk P w K mg base CX0 1 a.yT a.yS ["word","two","three"] sp_cg:=by
 refine T.g_law_cut_or_glued.F.ok jJ () (fun _ _ _ _ H _ Q E hr h=> ?_)
 obtain⟨w,v,u,dx,dy,rfl,hw,iv,iu,hg,aa,k⟩:=h;refine⟨_,(@qe _ _ _ _ _ (@qG _ _ _ _ _ _ _ _ (@Qm _ _ _ _ (@qU _ _ _ (@qk _ _ _ _ _ _ _ _ _ (@qz _ _ rfl) () T.qt uo (@qa _ _ _ _ _ (pv 2) (@qa _ _ _ _ _ (@qV _ _ (.ty "str") _ _ () T.yy vr rfl () ()) qc ()) ()) () () () ()) ())) (@qg _ _ _ (@ql _ _ _ _ Qe)) qq) (@qe _ _ _ _ _ (@qG _ _ _ _ _ _ _ _ (@qm _ _ _ _ _ _ _ _ Qg (pv 0) qi (qw _)) (@qe _ _ _ _ _ (@qG _ _ _ _ _ _ _ _ (@Yf _ _ _ _ _ _ _ (@Qm _ _ _ _ (@qU _ _ _ (@qk _ _ _ _ _ _ _ _ _ (@qz _ _ rfl) () T.qt uo (@qa _ _ _ _ _ (pv 1) (@qa _ _ _ _ _ (@qV _ _ (.ty "str") _ _ () T.yy vr rfl () ()) qc ()) ()) () () () ()) ())) (@yK _ _ _ _ (@qm _ _ _ _ _ _ _ _ Qg (pv 2) qi (qw _)))).pt (@qg _ _ _ (@ql _ _ _ _ Qe)) qq) (@qg _ _ _ (@ql _ _ _ _ (@qP _ _ _ _ _ _ _ _ _ qL () T.Qa uU (@qa _ _ _ _ _ (@Yj _ _ _ _ _ _ _ _ _ _ _ _ uH vz vA mt_splitG (pv 1) (@qa _ _ _ _ _ (pv 2) qc ()) () () () () ()) qc ()) () () () ())))) qq) (@qe _ _ _ _ _ (@qG _ _ _ _ _ _ _ _ (@Yf _ _ _ _ _ _ _ (@Qm _ _ _ _ (@qU _ _ _ (@qk _ _ _ _ _ _ _ _ _ (@qz _ _ rfl) () T.qt uo (@qa _ _ _ _ _ (pv 1) (@qa _ _ _ _ _ (@qV _ _ (.ty "tuple") _ _ () T.Qa uU rfl () ()) qc ()) ()) () () () ()) ())) (@yK _ _ _ _ (@Qm _ _ _ _ (@qU _ _ _ (@qk _ _ _ _ _ _ _ _ _ (@yL _ rfl) () T.z_all boot_all (@qa _ _ _ _ _ (@JG _ _ (["part"]) (1) ([]) _ _ _ _ _ _ _ _ _ (lcs0) rfl (@Y7 _ _ _ _ (pv 1)) (fun _ _ _ _ _ _=>(@qQ _ _ (0) _ (show List.Nodup (["part"]:List Str) by decide+kernel) rfl (Or.inl rfl) ())) (fun _ _ _ _ _ _=> @QW _) (fun _ _ _ _ _ _=>(@qk _ _ _ _ _ _ _ _ _ (@qz _ _ rfl) () T.qt uo (@qa _ _ _ _ _ (pv 0) (@qa _ _ _ _ _ (@qV _ _ (.ty "str") _ _ () T.yy vr rfl () ()) qc ()) ()) () () () ())) ()) qc ()) () () () ()) ())))).pt (@qg _ _ _ (@ql _ _ _ _ Qe)) qq) (@qg _ _ _ (@ql _ _ _ _ (@Yj _ _ _ _ _ _ _ _ _ _ _ _ uH vI vJ mt_joinT (pv 2) (@qa _ _ _ _ _ (pv 1) qc ()) () () () () ())))))),?_⟩
 dsimp only [cxOf,Cx.nox];have lx:=QF hg;have ly:=QF aa;refine⟨_,rfl,u,"str",tyD dy,isStr dy,rfl,iu.ty,Qs _,_,rfl,?_⟩;cases dy with
 |str I=>
  obtain⟨rfl,_⟩:=iu;have h2:I.length<=600:=ly;refine iteF ⟨_,rfl,rfl,_,rfl,?_⟩;rcases hw with rfl|rfl
  ·refine qA (by decide+kernel) ?_
   have L:∀(v:V) (H':Hp),Same H H'->Is H' (cutD dx (.str I)) v->Q v H':=k;refine⟨_,rfl,v,"str",tyD dx,isStr dx,rfl,iv.ty,Qs _,_,rfl,?_⟩;cases dx with
   |str z=>
    refine iteF ?_;obtain⟨rfl,_⟩:=iv;have h1:z.length<=600:=lx;refine⟨_,rfl,rfl,_,rfl,?_⟩;refine ite2 (fun c=> ?_) (fun c=> ?_)
    ·have e:I="":=by have:=ua c;injection this
     subst e;exact L _ H (Same.refl _) rfl
    ·have h3:I.length≠0:=fun h=>c (u0 (by
      have:I="":=by
       have h4:I.cps= #[]:=vH h;cases I;simp only at h4;subst h4
       decide+kernel
      rw [this]))
     refine⟨_,rfl,rfl,_,rfl,z,I,rfl,rfl,by omega,by omega,fun p hp=>⟨p,_,rfl,.inl ⟨SqL.of qh,fun l hl=> ?_⟩⟩⟩
     have s1:Same H (upd H p (.lst ((spG z I).map V.str))):=qb hp _;refine L _ _ (s1.trans (qb hl _)) ?_;show Is _ (if I.length=0 then D.non else .tup ((spG z I).map D.str)) _
     rw [if_neg h3];exact Is.new (IsL.ofStrs fun q hq=>qY (by have:=spG_mem hq;omega)) hl
   |_=>exact iteT (L _ H (Same.refl _) rfl)
  ·refine qo (by decide+kernel) ?_
   have L:∀(v:V) (H':Hp),Same H H'->Is H' (glueD dx (.str I)) v->Q v H':=k;refine⟨_,rfl,v,"tuple",tyD dx,jo dx,rfl,iv.ty,yM _,_,rfl,?_⟩;cases dx with
   |tup xs=>
    refine iteF ?_;obtain⟨r,rs,rfl,er,ir⟩:=iv;have h1:xs.length<=600:=lx;refine⟨_,rfl,r,rs,rfl,SqT.of er,fun ad A0 ab=> ?_⟩;refine Jc (tl:= []) (fun d=> .bl (isStr d)) er ir (fits (by omega)) ab (fun d0 x0 H3 R ae s3 i3 q=>⟨_,rfl,x0,"str",tyD d0,isStr d0,rfl,i3.ty,Qs _,q _ H3 (Same.refl _) rfl⟩) fun H1 ys s1 l1 i1=> ?_
    have ey:ys=(xs.map isStr).map V.bl:=IsL.bls (by rw [uT];exact i1)
    subst ey;refine⟨A0,xs.map isStr,rfl,SqL.of l1,_,rfl,?_⟩;have O:(xs.map isStr).all id=yt xs:=by rw [J5,vU];rfl
    rw [O];cases M:yt xs with
    |false=>exact iteT (L _ H1 s1 (by show Is H1 (if yt xs=true then _ else D.non) _;rw [M];rfl))
    |true=>
     have U:=ZL M;have ac:rs=(yw xs).map V.str:=IsL.strs (by rw [<-U];exact ir)
     have hsz:=isT_sz hg;have Y:=ZU (yw xs);rw [<-U] at Y;simp only [sz] at hsz;have af:(yw xs).length*I.length<=600*600:=Nat.mul_le_mul (by omega) h2
     have hj:=join_le I (yw xs);refine iteF ⟨_,rfl,rfl,_,rfl,I,r,yw xs,rfl,rfl,SqT.of (by rw [s1 _ _ er,ac]),by omega,?_⟩
     refine L _ H1 s1 ?_;show Is H1 (if yt xs=true then .str (Str.join I (yw xs)) else D.non) _
     rw [M];exact⟨rfl,fits (by omega)⟩
   |_=>exact iteT (L _ H (Same.refl _) rfl)
 |_=>exact iteT (k _ H (Same.refl _) (by split<;>cases dx<;>rfl))
theorem QL.any {H:Hp}{d:Addr}{B:Str->D}(h:QL H d B)(z:Str):∃o,DGet H d (.str z) o:=by
 by_cases c:z∈BX
 ·obtain⟨v,I,_⟩:=h.get c;exact⟨_,I⟩
 ·exact⟨_,h.lack c⟩
theorem QL.isD {H:Hp}{d:Addr}{B:Str->D}(h:QL H d B):IsD H d:=let⟨f,e,_⟩:=h; .inl ⟨_,.inl e⟩
def sp_held:Sp:=fun vs H Q _=>∃(d p:Addr) (B:Str->D) (r:Rw) (n:Nat) (own:Str),vs= [.ref d,.ref p,.str (qH r),.str own]/\n<=40/\own.length<=100/\(qH r).length<=300/\QL H d B/\Tr B/\WdAt H p r/\QI n 300 r/\r.1∈MKR/\
 ∀(v:V) (H':Hp),Same H H'->Is H' (made r.1 B own r.2) v->Q v H'
theorem last_wd {ws:List Str}(h:ws≠ []):∃z,atI (ws.map V.str) (-1)=some (.str z):=by
 rcases Ug ws with e|⟨l,z,e⟩
 ·exact absurd e h
 ·refine⟨z,?_⟩;rw [e,Uh,uE];exact Zl _ _
theorem text_tail {x y:Str}(I:x.length=1):Txt.slice (qH ("text",[.s x,.s y])) (some 7) none=y:=by
 have e:(qH ("text",[.s x,.s y])).cps.toList=("text":Str).cps.toList++32::(x.cps.toList++32::y.cps.toList):=by
  show(Str.join " " ["text",x,y]).cps.toList=_;rw [L2.yi,L2.yi]
  rfl
 have h4:("text":Str).cps.toList= [116,101,120,116]:=by decide+kernel
 have h1:∃c,x.cps.toList= [c]:=by
  have:x.cps.toList.length=1:=by simpa [Str.length] using I
  match x.cps.toList,this with
  | [c],_=>exact⟨c,rfl⟩
 obtain⟨c,L⟩:=h1;rw [h4,L] at e;generalize qH ("text",[.s x,.s y])=z at e⊢;have M:z.cps.toList.length=7+y.cps.toList.length:=by rw [e];simp;omega
 have e2:Txt.slice z (some 7) none=⟨((z.cps.toList.drop (7:Int).toNat).take ((z.cps.toList.length:Int)-7).toNat).toArray⟩:=StrLaws.sliceText_from ⟨by omega,by omega⟩
 rw [e2,uN (by rw [uC];omega),e]
 show(⟨y.cps.toList.toArray⟩:Str)=y;simp
def SEC:List Str:= ["copy","put","join","first","rest","size","cut","glue"]
theorem frm_sec:∀x∈FRM,x.1∈SEC->x.2= [Kd.box,.box]∨x.2= [Kd.box,.box,.box]:=by decide+kernel
theorem ok_held (T:Tx K mg a):FnOk P w K mg base CX0 2 a.zU a.zJ ["boxes","words","line","own"] sp_held:=by
 have JE:=ok_cg (P:=P) (w:=w) (base:=base) T;refine T.g_law_held.F.ok yE () (fun _ _ _ _ H _ Q E hr h=> ?_)
 obtain⟨d,p,B,⟨r1,ps⟩,n,own,rfl,hn,ho,aw,hB,hT,hw,R,hs,k⟩:=h;refine⟨_,(@qe _ _ _ _ _ (@qB _ _ (4) _ _ _ _ yE.nd rfl (Or.inl rfl) (@qF _ _ _ _ _ _ _ qO (pv 1) qj (fun _ _=>rfl)) () ()) (@qe _ _ _ _ _ (@qB _ _ (5) _ _ _ _ yE.nd rfl (Or.inl rfl) (@Qf _ _ _ _ _ _ (QQ hr) (pv 0) (@qF _ _ _ _ _ _ _ qO (pv 1) qj (fun _ _=>rfl)) (fun _ _=>rfl)) () ()) (@qe _ _ _ _ _ (@qB _ _ (6) _ _ _ _ yE.nd rfl (Or.inl rfl) (@ZT _ _ _ _ _ _ _ _ _ (QQ hr) (pv 0) (@qF _ _ _ _ _ _ _ qO (pv 1) (@pe_un _ _ _ _ _ _ un_neg qj) (fun _ _=>rfl)) qi ⟨rfl,rfl,rfl,rfl⟩) () ()) (@qe _ _ _ _ _ (@qG _ _ _ _ _ _ _ _ (@qm _ _ _ _ _ _ _ _ XL (@qk _ _ _ _ _ _ _ _ _ xH () T.Qy um (@qa _ _ _ _ _ (pv 1) qc ()) () () () ()) qj (qw _)) (@qg _ _ _ (@qB _ _ (6) _ _ _ _ yE.nd rfl (Or.inl rfl) (@ZT _ _ _ _ _ _ _ _ _ (QQ hr) (pv 0) (@qF _ _ _ _ _ _ _ qO (pv 1) qj (fun _ _=>rfl)) qi ⟨rfl,rfl,rfl,rfl⟩) () ())) qq) (@qe _ _ _ _ _ (@qG _ _ _ _ _ _ _ _ (@qm _ _ _ _ _ _ _ _ Qr (pv 4) (@Qb _ _ _ _ (@qa _ _ _ _ _ qi (@qa _ _ _ _ _ qi (@qa _ _ _ _ _ qi (@qa _ _ _ _ _ qi qc ()) ()) ()) ())) (by with_unfolding_all rfl)) (@qg _ _ _ (@ql _ _ _ _ (@Qf _ _ _ _ _ _ (QQ hr) (@pe_disp _ _ _ _ _ (@Ym _ _ _ _ _ _ _ _ _ qi (@Qn _ _ _ _ _ _ _ _ _ _ sl_str (pv 2) (@QA _ _ _ qj) QJ) (@Ym _ _ _ _ _ _ _ _ _ qi (pv 3) (@Ym _ _ _ _ _ _ _ _ _ qi (pv 6) (@Ym _ _ _ _ _ _ _ _ _ qi (@qy _ _ _ _ _ qc) pps_nil)))) rfl rfl (by simp) (by decide)) (pv 4) (fun _ _=>rfl)))) qq) (@qe _ _ _ _ _ (@qG _ _ _ _ _ _ _ _ (@Y9 _ _ _ _ _ _ _ (@qm _ _ _ _ _ _ _ _ Qg (pv 4) qi (qw _)) (@y6 _ _ _ _ (@qU _ _ _ (@qk _ _ _ _ _ _ _ _ _ (@qz _ _ rfl) () T.qt uo (@qa _ _ _ _ _ (pv 5) (@qa _ _ _ _ _ (@qV _ _ (.ty "tuple") _ _ () T.Qa uU rfl () ()) qc ()) ()) () () () ()) ()))).pt (@qg _ _ _ (@ql _ _ _ _ (@qT _ _ _ _ _ _ _ _ yp (pv 5) (@qy _ _ _ _ _ (@qa _ _ _ _ _ (pv 6) qc ()))))) qq) (@qe _ _ _ _ _ (@qG _ _ _ _ _ _ _ _ (@Y9 _ _ _ _ _ _ _ (@qm _ _ _ _ _ _ _ _ Qg (pv 4) qi (qw _)) (@Y9 _ _ _ _ _ _ _ (@qU _ _ _ (@qk _ _ _ _ _ _ _ _ _ (@qz _ _ rfl) () T.qt uo (@qa _ _ _ _ _ (pv 5) (@qa _ _ _ _ _ (@qV _ _ (.ty "str") _ _ () T.yy vr rfl () ()) qc ()) ()) () () () ()) ()) (@y6 _ _ _ _ (@qU _ _ _ (@qk _ _ _ _ _ _ _ _ _ (@qz _ _ rfl) () T.qt uo (@qa _ _ _ _ _ (pv 6) (@qa _ _ _ _ _ (@qV _ _ (.ty "str") _ _ () T.yy vr rfl () ()) qc ()) ()) () () () ()) ())))).pt (@qg _ _ _ (@ql _ _ _ _ (@qT _ _ _ _ _ _ _ _ Qj (pv 5) (pv 6)))) qq) (@qe _ _ _ _ _ (@qG _ _ _ _ _ _ _ _ (@Y9 _ _ _ _ _ _ _ (@qm _ _ _ _ _ _ _ _ Qg (pv 4) qi (qw _)) (@y6 _ _ _ _ (@qm _ _ _ _ _ _ _ _ XL (@qk _ _ _ _ _ _ _ _ _ QS () T.Qy um (@qa _ _ _ _ _ (pv 6) qc ()) () () () ()) qj (qw _)))).pt (@qg _ _ _ (@ql _ _ _ _ (@qF _ _ _ _ _ _ _ Y8 (pv 6) qj (fun _ _=>rfl)))) qq) (@qe _ _ _ _ _ (@qG _ _ _ _ _ _ _ _ (@Y9 _ _ _ _ _ _ _ (@qm _ _ _ _ _ _ _ _ Qg (pv 4) qi (qw _)) (@y6 _ _ _ _ (@qm _ _ _ _ _ _ _ _ XL (@qk _ _ _ _ _ _ _ _ _ QS () T.Qy um (@qa _ _ _ _ _ (pv 6) qc ()) () () () ()) qj (qw _)))).pt (@qg _ _ _ (@ql _ _ _ _ (@Qn _ _ _ _ _ _ _ _ _ _ sl_any (pv 6) (@QA _ _ _ qj) QJ))) qq) (@qe _ _ _ _ _ (@qG _ _ _ _ _ _ _ _ (@qm _ _ _ _ _ _ _ _ Qg (pv 4) qi (qw _)) (@qg _ _ _ (@ql _ _ _ _ (@qP _ _ _ _ _ _ _ _ _ yN () T.yy vr (@qa _ _ _ _ _ (@qk _ _ _ _ _ _ _ _ _ QS () T.Qy um (@qa _ _ _ _ _ (pv 6) qc ()) () () () ()) qc ()) () () () ()))) qq) (@qe _ _ _ _ _ (@qG _ _ _ _ _ _ _ _ (@qm _ _ _ _ _ _ _ _ Qr (pv 4) (@Qb _ _ _ _ (@qa _ _ _ _ _ qi (@qa _ _ _ _ _ qi qc ()) ())) (by with_unfolding_all rfl)) (@qg _ _ _ (@ql _ _ _ _ (@qv _ _ _ _ _ _ _ _ _ _ _ _ _ _ _ _ JE (hr.mono ()) () T.g_law_cut_or_glued.m T.g_law_cut_or_glued.F.kp T.g_law_cut_or_glued.b .nil qN (@qa _ _ _ _ _ (pv 4) (@qa _ _ _ _ _ (pv 6) (@qa _ _ _ _ _ (@Qf _ _ _ _ _ _ (QQ hr) (pv 0) (@qF _ _ _ _ _ _ _ qO (pv 1) qj (fun _ _=>rfl)) (fun _ _=>rfl)) qc ()) ()) ()) () () ()))) qq) (@qg _ _ _ (@ql _ _ _ _ Qe))))))))))))),?_⟩
 dsimp only [cxOf,Cx.nox];simp only at hs k;obtain⟨z0,qs,ae,ag⟩:=mk_b0 R hs;simp only at ae;obtain⟨ks,hk,hp⟩:=id R;have ah:(wds (r1,ps))[1]? =some z0:=by
  by_cases am:Kd.words∈ks
  ·rcases Zo _ hk with e|e
   ·simp at e;exact absurd am e
   ·have e1:ks= [.box,.words]:=congrArg Prod.snd e;have e2:r1="text":=congrArg Prod.fst e;subst e1 e2;obtain⟨x,y,rfl,hx,_⟩:=sh_bw hp;cases ae;obtain⟨tl,e3,_⟩:=xQ (y:=y) hx;rw [e3]
    rfl
  ·rw [Q5 hn hk hp am,ae]
   rfl
 have ap:wds (r1,ps)≠ []:=fun e=>by rw [e] at ah;cases ah
 obtain⟨v1,g1,i1⟩:=hB.get ag;obtain⟨zl,ak⟩:=last_wd ap;obtain⟨oL,gL⟩:=hB.any zl;refine⟨_,rfl,?_⟩;dsimp only [tC];refine QR (i:=0) hw (wds0 hn R) ?_;refine⟨_,rfl,_,rfl,?_⟩;dsimp only [tC];refine QR (i:=1) hw ah ⟨d,v1,rfl,g1,?_⟩;refine⟨_,rfl,d,rfl,hB.isD,_,rfl,1,rfl,p,_,_,_,rfl,rfl,SqL.of hw,ak,oL,gL,?_⟩;dsimp only [jZ];refine seq_ok fun N1 h1=> ?_;obtain⟨N2,h2,h1⟩:=Yt h1;obtain⟨N3,h3,h2⟩:=Yt h2;obtain⟨N4,h4,h3⟩:=Yt h3;obtain⟨N5,h5,h4⟩:=Yt h4;obtain⟨N6,h6,h5⟩:=Yt h5;obtain⟨N7,h7,h6⟩:=Yt h6;obtain⟨N8,h8,h7⟩:=Yt h7;have p2:∀{x0 x1 x2 x3 x5 x6:Option V}{w:Str}{H':Hp},decide (V.str w=V.str "put")=false->N3 [x0,x1,x2,x3,some (.str w),x5,x6] H'->N2 [x0,x1,x2,x3,some (.str w),x5,x6] H':=fun hd hn=>h2 _ _ ⟨_,rfl,rfl,_,rfl,qo hd hn⟩;have p3:∀{x0 x1 x2 x3 x5 x6:Option V}{w:Str}{H':Hp},decide (V.str w=V.str "join")=false->N4 [x0,x1,x2,x3,some (.str w),x5,x6] H'->N3 [x0,x1,x2,x3,some (.str w),x5,x6] H':=fun hd hn=>h3 _ _ ⟨_,rfl,rfl,_,rfl,qo hd hn⟩;have p4:∀{x0 x1 x2 x3 x5 x6:Option V}{w:Str}{H':Hp},decide (V.str w=V.str "first")=false->N5 [x0,x1,x2,x3,some (.str w),x5,x6] H'->N4 [x0,x1,x2,x3,some (.str w),x5,x6] H':=fun hd hn=>h4 _ _ ⟨_,rfl,rfl,_,rfl,qo hd hn⟩;have p5:∀{x0 x1 x2 x3 x5 x6:Option V}{w:Str}{H':Hp},decide (V.str w=V.str "rest")=false->N6 [x0,x1,x2,x3,some (.str w),x5,x6] H'->N5 [x0,x1,x2,x3,some (.str w),x5,x6] H':=fun hd hn=>h5 _ _ ⟨_,rfl,rfl,_,rfl,qo hd hn⟩;have p6:∀{x0 x1 x2 x3 x5 x6:Option V}{w:Str}{H':Hp},decide (V.str w=V.str "size")=false->N7 [x0,x1,x2,x3,some (.str w),x5,x6] H'->N6 [x0,x1,x2,x3,some (.str w),x5,x6] H':=fun hd hn=>h6 _ _ ⟨_,rfl,rfl,_,rfl,qo hd hn⟩;refine⟨_,rfl,_,((wds (r1,ps)).map V.str).length,rfl,.inl ⟨_,SqL.of hw,rfl⟩,_,_,rfl,rfl,_,rfl,?_⟩;have ab:r1∈SEC->(wds (r1,ps))[2]? =some (b1 ps)/\b1 ps∈BX/\2<(wds (r1,ps)).length:=by
  intro hq;rcases frm_sec _ hk hq with e|e
  ·simp only at e;subst e;obtain⟨x,y,rfl,hx,hy⟩:=y0 hp;rw [Q5 hn hk hp (by decide)]
   exact⟨rfl,hy,by show 2<3;decide⟩
  ·simp only at e;subst e;obtain⟨x,y,z,rfl,hx,hy,hz⟩:=sh_bbb hp;rw [Q5 hn hk hp (by decide)]
   exact⟨rfl,hy,by show 2<4;decide⟩
 simp only [MKR,uB,vw,vb] at hs;rcases hs with rfl|rfl|rfl|rfl|rfl|rfl|rfl|rfl|rfl|rfl|rfl
 ·obtain⟨x,y,rfl,hx,hy,ax⟩:=sh_bw (qK R (by decide+kernel))
  obtain⟨tl,ew,aq⟩:=xQ (y:=y) hx;obtain⟨z2,O⟩:∃z2,(wds ("text",[.s x,.s y]))[2]? =some z2:=by
   rw [ew];cases tl with
   |nil=>exact absurd rfl aq
   |cons q _=>exact⟨q,rfl⟩
  obtain⟨o2,g2⟩:=hB.any z2;have ad:2<(wds ("text",[.s x,.s y])).length:=(List.getElem?_eq_some_iff.mp O).1;refine qA (u0 (by rw [ub];omega)) ⟨_,rfl,d,rfl,hB.isD,_,rfl,?_⟩
  dsimp only [tC];refine QR (i:=2) hw O ⟨o2,g2,?_⟩;generalize o2.getD _=Y;refine h1 _ _ ⟨_,rfl,(by show 4<=sizeLine;decide),fun I L=>⟨I,_,rfl,.inl (SqL.of qh),rfl,rfl,_,rfl,?_⟩⟩
  have s1:Same H (upd H I (.lst [.str "text",.str "self",.str "copy",.str "row"])):=qb L _;generalize upd H I (.lst [.str "text",.str "self",.str "copy",.str "row"])=H1 at s1⊢;refine qA (by decide+kernel) ?_
  refine fun q hq=>⟨_,rfl,_,rfl,_,rfl,qY (by omega),_,rfl,_,rfl,(by show 0<=sizeLine;decide),fun l5 ac=> ?_⟩
  have nq:q≠l5:=qr qh ac;refine⟨by rw [qx nq];exact qh,[((Sum.inr "text":Key),_),(Sum.inr "self",V.str own),(Sum.inr "copy",Y),(Sum.inr "row",.ref l5)],rfl,(by show 4<=15;decide),_,rfl,q,.str (Txt.slice (qH ("text",[.s x,.s y])) (some 7) none),rfl,?_,?_⟩
  ·exact DGet.k (a:=q) (k:=(Sum.inr "text":Key)) qh
  ·have sm:∀kvs,Same H (upd (upd (upd H1 q (.dK [])) l5 (.tup [])) q (.dK kvs)):=fun kvs b o h=>by
    have nb:=qr (s1 b o h) hq;rw [qx nb];exact qb ac _ _ _ (qb hq _ _ _ (s1 b o h))
   refine k _ _ (sm _) ?_;show Is _ (.str y) _;rw [text_tail (Qo hx).1];exact⟨rfl,qY (by omega)⟩
 ·obtain⟨x,rfl,hx⟩:=sh_b (qK R (by decide+kernel))
  have ad:(wds ("self",[.s x])).length=2:=by rw [Q5 hn (ks:= [.box]) (show(("self":Str),[Kd.box])∈FRM by decide+kernel) (qK R (by decide+kernel)) (by decide)];rfl
  refine qo (u9 (by rw [ub];omega)) ?_
  generalize oL.getD _=Y;refine h1 _ _ ⟨_,rfl,(by show 4<=sizeLine;decide),fun I L=>⟨I,_,rfl,.inl (SqL.of qh),rfl,rfl,_,rfl,?_⟩⟩
  have s1:Same H (upd H I (.lst [.str "text",.str "self",.str "copy",.str "row"])):=qb L _;generalize upd H I (.lst [.str "text",.str "self",.str "copy",.str "row"])=H1 at s1⊢;refine qA (by decide+kernel) ?_
  refine fun q hq=>⟨_,rfl,_,rfl,_,rfl,qY (by omega),_,rfl,_,rfl,(by show 0<=sizeLine;decide),fun l5 ac=> ?_⟩
  have nq:q≠l5:=qr qh ac;refine⟨by rw [qx nq];exact qh,[((Sum.inr "text":Key),_),(Sum.inr "self",V.str own),(Sum.inr "copy",Y),(Sum.inr "row",.ref l5)],rfl,(by show 4<=15;decide),_,rfl,q,.str own,rfl,?_,?_⟩
  ·exact DGet.k (a:=q) (k:=(Sum.inr "self":Key)) qh
  ·have sm:∀kvs,Same H (upd (upd (upd H1 q (.dK [])) l5 (.tup [])) q (.dK kvs)):=fun kvs b o h=>by
    have nb:=qr (s1 b o h) hq;rw [qx nb];exact qb ac _ _ _ (qb hq _ _ _ (s1 b o h))
   refine k _ _ (sm _) ?_;exact⟨rfl,qY (by show own.length<=1000;omega)⟩
 ·obtain⟨O,aa,ad⟩:=ab (by decide+kernel)
  obtain⟨Y,g2,i2⟩:=hB.get aa;refine qA (u0 (by rw [ub];omega)) ⟨_,rfl,d,rfl,hB.isD,_,rfl,?_⟩
  dsimp only [tC];refine QR (i:=2) hw O ⟨some Y,g2,?_⟩;refine h1 _ _ ⟨_,rfl,(by show 4<=sizeLine;decide),fun I L=>⟨I,_,rfl,.inl (SqL.of qh),rfl,rfl,_,rfl,?_⟩⟩
  have s1:Same H (upd H I (.lst [.str "text",.str "self",.str "copy",.str "row"])):=qb L _;generalize upd H I (.lst [.str "text",.str "self",.str "copy",.str "row"])=H1 at s1⊢;refine qA (by decide+kernel) ?_
  refine fun q hq=>⟨_,rfl,_,rfl,_,rfl,qY (by omega),_,rfl,_,rfl,(by show 0<=sizeLine;decide),fun l5 ac=> ?_⟩
  have nq:q≠l5:=qr qh ac;refine⟨by rw [qx nq];exact qh,[((Sum.inr "text":Key),_),(Sum.inr "self",V.str own),(Sum.inr "copy",Y),(Sum.inr "row",.ref l5)],rfl,(by show 4<=15;decide),_,rfl,q,Y,rfl,?_,?_⟩
  ·exact DGet.k (a:=q) (k:=(Sum.inr "copy":Key)) qh
  ·have sm:∀kvs,Same H (upd (upd (upd H1 q (.dK [])) l5 (.tup [])) q (.dK kvs)):=fun kvs b o h=>by
    have nb:=qr (s1 b o h) hq;rw [qx nb];exact qb ac _ _ _ (qb hq _ _ _ (s1 b o h))
   refine k _ _ (sm _) ?_;exact i2.mono (sm _).tk
 ·obtain⟨x,rfl,hx⟩:=sh_b (qK R (by decide+kernel))
  have ad:(wds ("row",[.s x])).length=2:=by rw [Q5 hn (ks:= [.box]) (show(("row":Str),[Kd.box])∈FRM by decide+kernel) (qK R (by decide+kernel)) (by decide)];rfl
  refine qo (u9 (by rw [ub];omega)) ?_
  generalize oL.getD _=Y;refine h1 _ _ ⟨_,rfl,(by show 4<=sizeLine;decide),fun I L=>⟨I,_,rfl,.inl (SqL.of qh),rfl,rfl,_,rfl,?_⟩⟩
  have s1:Same H (upd H I (.lst [.str "text",.str "self",.str "copy",.str "row"])):=qb L _;generalize upd H I (.lst [.str "text",.str "self",.str "copy",.str "row"])=H1 at s1⊢;refine qA (by decide+kernel) ?_
  refine fun q hq=>⟨_,rfl,_,rfl,_,rfl,qY (by omega),_,rfl,_,rfl,(by show 0<=sizeLine;decide),fun l5 ac=> ?_⟩
  have nq:q≠l5:=qr qh ac;refine⟨by rw [qx nq];exact qh,[((Sum.inr "text":Key),_),(Sum.inr "self",V.str own),(Sum.inr "copy",Y),(Sum.inr "row",.ref l5)],rfl,(by show 4<=15;decide),_,rfl,q,.ref l5,rfl,?_,?_⟩
  ·exact DGet.k (a:=q) (k:=(Sum.inr "row":Key)) qh
  ·have sm:∀kvs,Same H (upd (upd (upd H1 q (.dK [])) l5 (.tup [])) q (.dK kvs)):=fun kvs b o h=>by
    have nb:=qr (s1 b o h) hq;rw [qx nb];exact qb ac _ _ _ (qb hq _ _ _ (s1 b o h))
   refine k _ _ (sm _) ?_;refine⟨l5,[],rfl,?_,rfl⟩;rw [qx nq.symm];exact qh
 ·obtain⟨O,aa,ad⟩:=ab (by decide+kernel)
  obtain⟨Y,g2,i2⟩:=hB.get aa;refine qA (u0 (by rw [ub];omega)) ⟨_,rfl,d,rfl,hB.isD,_,rfl,?_⟩
  dsimp only [tC];refine QR (i:=2) hw O ⟨some Y,g2,?_⟩;refine h1 _ _ ⟨_,rfl,(by show 4<=sizeLine;decide),fun I L=>⟨I,_,rfl,.inl (SqL.of qh),rfl,rfl,_,rfl,?_⟩⟩
  have s1:Same H (upd H I (.lst [.str "text",.str "self",.str "copy",.str "row"])):=qb L _;generalize upd H I (.lst [.str "text",.str "self",.str "copy",.str "row"])=H1 at s1⊢;refine qo (by decide+kernel) ?_
  have j1:=i1.mono s1.tk;have j2:=i2.mono s1.tk;have B1:=hB.same s1;obtain⟨x,y,rfl,hx,hy⟩:=y0 (qK R (by decide+kernel))
  cases ae;refine h2 _ _ ⟨_,rfl,rfl,_,rfl,qA (by decide+kernel) ?_⟩
  have lx:=QF (hT z0 ag);have k':∀(v:V) (H':Hp),Same H H'->Is H' (putD (B z0) (B y)) v->Q v H':=k;generalize B z0=dx at j1 k' lx⊢;refine⟨_,rfl,v1,"tuple",tyD dx,jo dx,rfl,j1.ty,yM _,_,rfl,?_⟩;have no:jo dx=false->Is H1 (putD dx (B y)) .non:=fun h=>by cases dx<;>first|rfl|simp [jo] at h
  cases ht:jo dx with
  |false=>
   refine iteF ?_;refine p3 (by decide+kernel) ?_
   refine p4 (by decide+kernel) ?_
   refine p5 (by decide+kernel) ?_
   refine p6 (by decide+kernel) ?_
   refine h7 _ _ ⟨_,rfl,(by show 2<=sizeLine;decide),fun l6 M=>⟨l6,_,rfl,.inl (SqL.of qh),rfl,rfl,_,rfl,qo (by decide+kernel) ?_⟩⟩
   exact h8 _ _ (k' _ _ (s1.trans (qb M _)) ((no ht).mono (qb M _).tk))
  |true=>
   refine iteT ?_;cases dx with
   |tup xs=>
    obtain⟨r,rs,rfl,er,ir⟩:=j1;refine⟨_,rfl,_,rfl,(by show 1<=sizeLine;decide),fun l hl=>⟨r,l,rs,[Y],rfl,rfl,SqT.of (qb hl _ _ _ er),SqT.of qh,?_,fun e=> ?_,fun _ e=>(by cases e),fun _ _ p hp=> ?_⟩⟩
    ·rw [ir.length];have:xs.length<=600:=lx;exact qY (by show xs.length+1<=1000;omega)
    ·subst e;have e2:xs= []:=uG ir.length.symm;subst e2;exact k' _ _ (s1.trans (qb hl _)) (Is.new (ds:= [B y]) (IsL.one j2) hl)
    ·have t1:Tk H1 (upd H1 l (.tup [Y])):=(qb hl _).tk;exact k' _ _ (s1.trans ((qb hl _).trans (qb hp _))) (Is.new (ds:=xs++ [B y]) ((ir.mono t1).append (IsL.one (j2.mono t1))) hp)
   |_=>simp [jo] at ht
 ·obtain⟨O,aa,ad⟩:=ab (by decide+kernel)
  obtain⟨Y,g2,i2⟩:=hB.get aa;refine qA (u0 (by rw [ub];omega)) ⟨_,rfl,d,rfl,hB.isD,_,rfl,?_⟩
  dsimp only [tC];refine QR (i:=2) hw O ⟨some Y,g2,?_⟩;refine h1 _ _ ⟨_,rfl,(by show 4<=sizeLine;decide),fun I L=>⟨I,_,rfl,.inl (SqL.of qh),rfl,rfl,_,rfl,?_⟩⟩
  have s1:Same H (upd H I (.lst [.str "text",.str "self",.str "copy",.str "row"])):=qb L _;generalize upd H I (.lst [.str "text",.str "self",.str "copy",.str "row"])=H1 at s1⊢;refine qo (by decide+kernel) ?_
  have j1:=i1.mono s1.tk;have j2:=i2.mono s1.tk;have B1:=hB.same s1;obtain⟨x,y,rfl,hx,hy⟩:=y0 (qK R (by decide+kernel))
  cases ae;refine p2 (by decide+kernel) ?_
  refine h3 _ _ ⟨_,rfl,rfl,_,rfl,qA (by decide+kernel) ?_⟩
  have lx:=QF (hT z0 ag);have ly:=QF (hT y hy);have k':∀(v:V) (H':Hp),Same H H'->Is H' (joinD (B z0) (B y)) v->Q v H':=k;have U:Is H1 (B y) Y:=j2;generalize B z0=dx at j1 k' lx⊢;generalize B y=dy at U k' ly⊢;refine⟨_,rfl,v1,"str",tyD dx,isStr dx,rfl,j1.ty,Qs _,_,rfl,?_⟩;have no:isStr dx=false->Is H1 (joinD dx dy) .non:=fun h=>by cases dx<;>first|(cases dy<;>rfl)|simp [isStr] at h
  have au:isStr dy=false->Is H1 (joinD dx dy) .non:=fun h=>by cases dy<;>first|(cases dx<;>rfl)|simp [isStr] at h
  cases ht:isStr dx with
  |false=>
   refine iteF ?_;refine p4 (by decide+kernel) ?_
   refine p5 (by decide+kernel) ?_
   refine p6 (by decide+kernel) ?_
   refine h7 _ _ ⟨_,rfl,(by show 2<=sizeLine;decide),fun l6 M=>⟨l6,_,rfl,.inl (SqL.of qh),rfl,rfl,_,rfl,qo (by decide+kernel) ?_⟩⟩
   exact h8 _ _ (k' _ _ (s1.trans (qb M _)) ((no ht).mono (qb M _).tk))
  |true=>
   refine iteT ⟨_,rfl,Y,"str",tyD dy,isStr dy,rfl,U.ty,Qs _,_,rfl,?_⟩;cases ao:isStr dy with
   |false=>
    refine iteF ?_;refine p4 (by decide+kernel) ?_
    refine p5 (by decide+kernel) ?_
    refine p6 (by decide+kernel) ?_
    refine h7 _ _ ⟨_,rfl,(by show 2<=sizeLine;decide),fun l6 M=>⟨l6,_,rfl,.inl (SqL.of qh),rfl,rfl,_,rfl,qo (by decide+kernel) ?_⟩⟩
    exact h8 _ _ (k' _ _ (s1.trans (qb M _)) ((au ao).mono (qb M _).tk))
   |true=>
    refine iteT ?_;cases dx with
    |str z=>
     cases dy with
     |str z2=>
      obtain⟨rfl,_⟩:=j1;obtain⟨rfl,_⟩:=U;have h1:z.length<=600:=lx;have h2:z2.length<=600:=ly;exact⟨_,rfl,_,rfl,_,_,rfl,rfl,fits (by omega),k' _ H1 s1 ⟨rfl,by rw [show(z++z2).length=z.length+z2.length from jO z z2];exact fits (by omega)⟩⟩
     |_=>simp [isStr] at ao
    |_=>simp [isStr] at ht
 ·obtain⟨O,aa,ad⟩:=ab (by decide+kernel)
  obtain⟨Y,g2,i2⟩:=hB.get aa;refine qA (u0 (by rw [ub];omega)) ⟨_,rfl,d,rfl,hB.isD,_,rfl,?_⟩
  dsimp only [tC];refine QR (i:=2) hw O ⟨some Y,g2,?_⟩;refine h1 _ _ ⟨_,rfl,(by show 4<=sizeLine;decide),fun I L=>⟨I,_,rfl,.inl (SqL.of qh),rfl,rfl,_,rfl,?_⟩⟩
  have s1:Same H (upd H I (.lst [.str "text",.str "self",.str "copy",.str "row"])):=qb L _;generalize upd H I (.lst [.str "text",.str "self",.str "copy",.str "row"])=H1 at s1⊢;refine qo (by decide+kernel) ?_
  have j1:=i1.mono s1.tk;have j2:=i2.mono s1.tk;have B1:=hB.same s1;obtain⟨x,y,rfl,hx,hy⟩:=y0 (qK R (by decide+kernel))
  cases ae;refine p2 (by decide+kernel) ?_
  refine p3 (by decide+kernel) ?_
  refine h4 _ _ ⟨_,rfl,rfl,_,rfl,qA (by decide+kernel) ?_⟩
  have ly:=QF (hT y hy);have hg:=hT y hy;have k':∀(v:V) (H':Hp),Same H H'->Is H' (zu (B y)) v->Q v H':=k;have U:Is H1 (B y) Y:=j2;generalize B y=dy at U k' ly hg⊢;cases dy with
  |str z=>
   obtain⟨rfl,hz⟩:=U;refine⟨_,rfl,.inl ⟨z,rfl,hz,_,_,rfl,rfl,_,rfl,?_⟩⟩;refine ite2 (fun c=> ?_) (fun c=> ?_)
   ·have h0:1<=z.length:=by have:=ua c;omega
    have k2:Is H1 (zu (.str z)) (.str ⟨#[z.cps.getD 0 0]⟩):=by
     show Is H1 (if z.length=0 then D.non else _) _
     rw [if_neg (by omega)]
     exact⟨rfl,qY (by show 1<=1000;decide)⟩
    exact⟨_,rfl,.inr (.inr ⟨z,0,_,rfl,rfl,hz,xL h0,k' _ H1 s1 k2⟩)⟩
   ·have h0:z.length=0:=by
     rcases vW z.length with e|e
     ·exact e
     ·exact absurd (u0 (by omega)) c
    refine p5 (by decide+kernel) ?_
    refine p6 (by decide+kernel) ?_
    refine h7 _ _ ⟨_,rfl,(by show 2<=sizeLine;decide),fun l6 M=>⟨l6,_,rfl,.inl (SqL.of qh),rfl,rfl,_,rfl,qo (by decide+kernel) ?_⟩⟩
    exact h8 _ _ (k' _ _ (s1.trans (qb M _)) (by show Is _ (if z.length=0 then D.non else _) _;rw [if_pos h0];rfl))
  |tup xs=>
   have af:=U;obtain⟨r,rs,rfl,er,ir⟩:=af;refine⟨_,rfl,.inr ⟨r,rs,rfl,.inr (SqT.of er),fun _=>⟨_,_,rfl,rfl,_,rfl,?_⟩⟩⟩;have hl:=ir.length;cases xs with
   |nil=>
    refine qo (u9 (by rw [hl];decide)) ?_
    refine p5 (by decide+kernel) ?_
    refine p6 (by decide+kernel) ?_
    refine h7 _ _ ⟨_,rfl,(by show 2<=sizeLine;decide),fun l6 M=>⟨l6,_,rfl,.inl (SqL.of qh),rfl,rfl,_,rfl,qo (by decide+kernel) ?_⟩⟩
    exact h8 _ _ (k' _ _ (s1.trans (qb M _)) rfl)
   |cons e es=>
    refine qA (u0 (by rw [hl,ud];omega)) ?_
    exact⟨_,rfl,.inr (.inl (QO (i:=0) (d:=e) U (qS (j:=0) rfl) fun q hq=>k' _ H1 s1 hq))⟩
  |_=>simp [isT,good] at hg
 ·obtain⟨O,aa,ad⟩:=ab (by decide+kernel)
  obtain⟨Y,g2,i2⟩:=hB.get aa;refine qA (u0 (by rw [ub];omega)) ⟨_,rfl,d,rfl,hB.isD,_,rfl,?_⟩
  dsimp only [tC];refine QR (i:=2) hw O ⟨some Y,g2,?_⟩;refine h1 _ _ ⟨_,rfl,(by show 4<=sizeLine;decide),fun I L=>⟨I,_,rfl,.inl (SqL.of qh),rfl,rfl,_,rfl,?_⟩⟩
  have s1:Same H (upd H I (.lst [.str "text",.str "self",.str "copy",.str "row"])):=qb L _;generalize upd H I (.lst [.str "text",.str "self",.str "copy",.str "row"])=H1 at s1⊢;refine qo (by decide+kernel) ?_
  have j1:=i1.mono s1.tk;have j2:=i2.mono s1.tk;have B1:=hB.same s1;obtain⟨x,y,rfl,hx,hy⟩:=y0 (qK R (by decide+kernel))
  cases ae;refine p2 (by decide+kernel) ?_
  refine p3 (by decide+kernel) ?_
  refine p4 (by decide+kernel) ?_
  refine h5 _ _ ⟨_,rfl,rfl,_,rfl,qA (by decide+kernel) ?_⟩
  have ly:=QF (hT y hy);have hg:=hT y hy;have k':∀(v:V) (H':Hp),Same H H'->Is H' (restD (B y)) v->Q v H':=k;have U:Is H1 (B y) Y:=j2;generalize B y=dy at U k' ly hg⊢;cases dy with
  |str z=>
   obtain⟨rfl,hz⟩:=U;refine⟨_,rfl,.inl ⟨z,rfl,hz,_,_,rfl,rfl,_,rfl,?_⟩⟩;refine ite2 (fun c=> ?_) (fun c=> ?_)
   ·have h0:1<=z.length:=by have:=ua c;omega
    have k2:Is H1 (restD (.str z)) (.str (Txt.slice z (some 1) none)):=by
     show Is H1 (if z.length=0 then D.non else _) _
     rw [if_neg (by omega)]
     exact⟨rfl,uP (Txt.slice_le z _ _) hz⟩
    exact⟨_,rfl,_,rfl,.inl ⟨z,rfl,hz,k' _ H1 s1 k2⟩⟩
   ·have h0:z.length=0:=by
     rcases vW z.length with e|e
     ·exact e
     ·exact absurd (u0 (by omega)) c
    refine p6 (by decide+kernel) ?_
    refine h7 _ _ ⟨_,rfl,(by show 2<=sizeLine;decide),fun l6 M=>⟨l6,_,rfl,.inl (SqL.of qh),rfl,rfl,_,rfl,qo (by decide+kernel) ?_⟩⟩
    exact h8 _ _ (k' _ _ (s1.trans (qb M _)) (by show Is _ (if z.length=0 then D.non else _) _;rw [if_pos h0];rfl))
  |tup xs=>
   have af:=U;obtain⟨r,rs,rfl,er,ir⟩:=af;refine⟨_,rfl,.inr ⟨r,rs,rfl,.inr (SqT.of er),fun _=>⟨_,_,rfl,rfl,_,rfl,?_⟩⟩⟩;have hl:=ir.length;cases xs with
   |nil=>
    refine qo (u9 (by rw [hl];decide)) ?_
    refine p6 (by decide+kernel) ?_
    refine h7 _ _ ⟨_,rfl,(by show 2<=sizeLine;decide),fun l6 M=>⟨l6,_,rfl,.inl (SqL.of qh),rfl,rfl,_,rfl,qo (by decide+kernel) ?_⟩⟩
    exact h8 _ _ (k' _ _ (s1.trans (qb M _)) rfl)
   |cons e es=>
    refine qA (u0 (by rw [hl,ud];omega)) ?_
    obtain⟨v0,r0,rfl,i0,av⟩:=ir;refine⟨_,rfl,_,rfl,.inr ⟨r,v0::r0,rfl,SqT.of er,fun h=> ?_,fun _ p hp=> ?_⟩⟩
    ·exfalso;have:=h.1;simp [HT.sIx] at this
    ·have e1:cutV (v0::r0) (some 1) none=r0:=by
      rw [show(some (1:Int))=some (((1:Nat)):Int) from rfl,Ju (by simp)]
      rfl
     rw [e1];exact k' _ _ (s1.trans (qb hp _)) (Is.new av hp)
  |_=>simp [isT,good] at hg
 ·obtain⟨O,aa,ad⟩:=ab (by decide+kernel)
  obtain⟨Y,g2,i2⟩:=hB.get aa;refine qA (u0 (by rw [ub];omega)) ⟨_,rfl,d,rfl,hB.isD,_,rfl,?_⟩
  dsimp only [tC];refine QR (i:=2) hw O ⟨some Y,g2,?_⟩;refine h1 _ _ ⟨_,rfl,(by show 4<=sizeLine;decide),fun I L=>⟨I,_,rfl,.inl (SqL.of qh),rfl,rfl,_,rfl,?_⟩⟩
  have s1:Same H (upd H I (.lst [.str "text",.str "self",.str "copy",.str "row"])):=qb L _;generalize upd H I (.lst [.str "text",.str "self",.str "copy",.str "row"])=H1 at s1⊢;refine qo (by decide+kernel) ?_
  have j1:=i1.mono s1.tk;have j2:=i2.mono s1.tk;have B1:=hB.same s1;obtain⟨x,y,rfl,hx,hy⟩:=y0 (qK R (by decide+kernel))
  cases ae;refine p2 (by decide+kernel) ?_
  refine p3 (by decide+kernel) ?_
  refine p4 (by decide+kernel) ?_
  refine p5 (by decide+kernel) ?_
  refine h6 _ _ ⟨_,rfl,rfl,_,rfl,qA (by decide+kernel) ?_⟩
  have ly:=QF (hT y hy);have hg:=hT y hy;have k':∀(v:V) (H':Hp),Same H H'->Is H' (.str (toString ((lenD (B y):Nat):Int))) v->Q v H':=k;have U:Is H1 (B y) Y:=j2;generalize B y=dy at U k' ly hg⊢;have sm:∀n:Nat,n<=600->((n:Int)).natAbs.log2<1920/\((toString (n:Int):Str)).length<=sizeLine:=by
   intro n hn;have h2:=UL ((n:Int)).natAbs;exact⟨by omega,int_text_fits (by omega)⟩
  cases dy with
  |str z=>
   obtain⟨rfl,hz⟩:=U;have h2:=sm z.length ly;exact⟨_,rfl,.inl ⟨z,rfl,hz,_,rfl,h2.1,k' _ H1 s1 ⟨rfl,h2.2⟩⟩⟩
  |tup xs=>
   have af:=U;obtain⟨r,rs,rfl,er,ir⟩:=af;have h2:=sm xs.length ly;refine⟨_,rfl,.inr ⟨r,rs,rfl,.inr (SqT.of er),fun _=>⟨_,rfl,?_,?_⟩⟩⟩
   ·rw [ir.length];exact h2.1
   ·rw [ir.length];exact k' _ H1 s1 ⟨rfl,h2.2⟩
  |_=>simp [isT,good] at hg
 ·obtain⟨O,aa,ad⟩:=ab (by decide+kernel)
  obtain⟨Y,g2,i2⟩:=hB.get aa;refine qA (u0 (by rw [ub];omega)) ⟨_,rfl,d,rfl,hB.isD,_,rfl,?_⟩
  dsimp only [tC];refine QR (i:=2) hw O ⟨some Y,g2,?_⟩;refine h1 _ _ ⟨_,rfl,(by show 4<=sizeLine;decide),fun I L=>⟨I,_,rfl,.inl (SqL.of qh),rfl,rfl,_,rfl,?_⟩⟩
  have s1:Same H (upd H I (.lst [.str "text",.str "self",.str "copy",.str "row"])):=qb L _;generalize upd H I (.lst [.str "text",.str "self",.str "copy",.str "row"])=H1 at s1⊢;refine qo (by decide+kernel) ?_
  have j1:=i1.mono s1.tk;have j2:=i2.mono s1.tk;have B1:=hB.same s1;refine p2 (by decide+kernel) ?_
  refine p3 (by decide+kernel) ?_
  refine p4 (by decide+kernel) ?_
  refine p5 (by decide+kernel) ?_
  refine p6 (by decide+kernel) ?_
  refine h7 _ _ ⟨_,rfl,(by show 2<=sizeLine;decide),fun l6 M=>⟨l6,_,rfl,.inl (SqL.of qh),rfl,rfl,_,rfl,qA (by decide+kernel) ?_⟩⟩
  obtain⟨x,y,z,rfl,hx,hy,hz⟩:=sh_bbb (qK R (by decide+kernel))
  have s2:Same H (upd H1 l6 (.lst [.str "cut",.str "glue"])):=s1.trans (qb M _);have B2:=hB.same s2;obtain⟨v3,g3,i3⟩:=B2.get hz;refine⟨_,rfl,_,rfl,_,rfl,_,rfl,?_⟩;dsimp only [tC];have al:(wds ("cut",[.s x,.s y,.s z]))[3]? =some z:=by rw [Q5 hn (ks:= [.box,.box,.box]) (show(("cut":Str),[Kd.box,.box,.box])∈FRM by decide+kernel) (qK R (by decide+kernel)) (by decide)];rfl
  refine QR (i:=3) (show WdAt _ p ("cut",[.s x,.s y,.s z]) from s2 _ _ hw) al ⟨d,v3,rfl,g3,?_⟩
  exact⟨"cut",Y,v3,B y,B z,rfl,.inl rfl,i2.mono s2.tk,i3,hT y hy,hT z hz,fun v H' s3 hv=>k v H' (s2.trans s3) hv⟩
 ·obtain⟨O,aa,ad⟩:=ab (by decide+kernel)
  obtain⟨Y,g2,i2⟩:=hB.get aa;refine qA (u0 (by rw [ub];omega)) ⟨_,rfl,d,rfl,hB.isD,_,rfl,?_⟩
  dsimp only [tC];refine QR (i:=2) hw O ⟨some Y,g2,?_⟩;refine h1 _ _ ⟨_,rfl,(by show 4<=sizeLine;decide),fun I L=>⟨I,_,rfl,.inl (SqL.of qh),rfl,rfl,_,rfl,?_⟩⟩
  have s1:Same H (upd H I (.lst [.str "text",.str "self",.str "copy",.str "row"])):=qb L _;generalize upd H I (.lst [.str "text",.str "self",.str "copy",.str "row"])=H1 at s1⊢;refine qo (by decide+kernel) ?_
  have j1:=i1.mono s1.tk;have j2:=i2.mono s1.tk;have B1:=hB.same s1;refine p2 (by decide+kernel) ?_
  refine p3 (by decide+kernel) ?_
  refine p4 (by decide+kernel) ?_
  refine p5 (by decide+kernel) ?_
  refine p6 (by decide+kernel) ?_
  refine h7 _ _ ⟨_,rfl,(by show 2<=sizeLine;decide),fun l6 M=>⟨l6,_,rfl,.inl (SqL.of qh),rfl,rfl,_,rfl,qA (by decide+kernel) ?_⟩⟩
  obtain⟨x,y,z,rfl,hx,hy,hz⟩:=sh_bbb (qK R (by decide+kernel))
  have s2:Same H (upd H1 l6 (.lst [.str "cut",.str "glue"])):=s1.trans (qb M _);have B2:=hB.same s2;obtain⟨v3,g3,i3⟩:=B2.get hz;refine⟨_,rfl,_,rfl,_,rfl,_,rfl,?_⟩;dsimp only [tC];have al:(wds ("glue",[.s x,.s y,.s z]))[3]? =some z:=by rw [Q5 hn (ks:= [.box,.box,.box]) (show(("glue":Str),[Kd.box,.box,.box])∈FRM by decide+kernel) (qK R (by decide+kernel)) (by decide)];rfl
  refine QR (i:=3) (show WdAt _ p ("glue",[.s x,.s y,.s z]) from s2 _ _ hw) al ⟨d,v3,rfl,g3,?_⟩
  exact⟨"glue",Y,v3,B y,B z,rfl,.inr rfl,i2.mono s2.tk,i3,hT y hy,hT z hz,fun v H' s3 hv=>k v H' (s2.trans s3) hv⟩
theorem dpL_strs:∀l:List Str,dpL (l.map D.str)<=1
 | []=>by simp [dpL]
 |z::l=>by
  have:=dpL_strs l;simp only [uj,dpL,dp];omega
theorem putD_dp {d e:D}(h1:dp d<=12)(h2:dp e<=12):dp (putD d e)<=20:=by
 cases d with
 |tup xs=>
  show dp (.tup (xs++ [e]))<=20;simp only [dp] at h1⊢;rw [zr];simp only [dpL];omega
 |_=>exact uF _
theorem joinD_dp (d e:D):dp (joinD d e)<=20:=by
 cases d with
 |str x=>
  cases e with
  |str y=>show 1<=20;decide
  |_=>exact uF _
 |_=>exact uF _
theorem firstD_dp {d:D}(h:dp d<=12):dp (zu d)<=20:=by
 cases d with
 |str z=>
  show dp (if z.length=0 then D.non else D.str _)<=20
  by_cases c:z.length=0
  ·rw [if_pos c];exact uF _
  ·rw [if_neg c];show 1<=20;decide
 |tup xs=>
  cases xs with
  |nil=>exact uF _
  |cons x r=>
   have:=dp_row (uq (a:=x) (l:=r));show dp x<=20;omega
 |_=>exact uF _
theorem restD_dp {d:D}(h:dp d<=12):dp (restD d)<=20:=by
 cases d with
 |str z=>
  show dp (if z.length=0 then D.non else D.str _)<=20
  by_cases c:z.length=0
  ·rw [if_pos c];exact uF _
  ·rw [if_neg c];show 1<=20;decide
 |tup xs=>
  cases xs with
  |nil=>exact uF _
  |cons x r=>
   show dp (.tup r)<=20;simp only [dp,dpL] at h⊢;omega
 |_=>exact uF _
theorem cutD_dp (d e:D):dp (cutD d e)<=20:=by
 cases d with
 |str x=>
  cases e with
  |str y=>
   show dp (if y.length=0 then D.non else D.tup ((spG x y).map D.str))<=20
   by_cases c:y.length=0
   ·rw [if_pos c];exact uF _
   ·rw [if_neg c];have:=dpL_strs (spG x y);simp only [dp];omega
  |_=>exact uF _
 |_=>exact uF _
theorem glueD_dp (d e:D):dp (glueD d e)<=20:=by
 cases d with
 |tup xs=>
  cases e with
  |str y=>
   show dp (if yt xs=true then D.str _ else D.non)<=20
   by_cases c:yt xs=true
   ·rw [if_pos c];show 1<=20;decide
   ·rw [if_neg c];exact uF _
  |_=>exact uF _
 |_=>exact uF _
theorem made_dp {n:Nat}{O:Str}{ps:List Pt}{B:Str->D}{own:Str}(U:Tr B)(I:QI n 300 (O,ps))(R:O∈MKR):dp (made O B own ps)<=20:=by
 have tb:∀z∈BX,dp (B z)<=12:=fun z Y=>Jt (U z Y);simp only [MKR,uB,vw,vb] at R;rcases R with rfl|rfl|rfl|rfl|rfl|rfl|rfl|rfl|rfl|rfl|rfl
 ·show 1<=20;decide
 ·show 1<=20;decide
 ·obtain⟨x,y,rfl,M,L⟩:=y0 (qK I (by decide+kernel))
  have:=tb y L;show dp (B y)<=20;omega
 ·show 1<=20;decide
 ·obtain⟨x,y,rfl,M,L⟩:=y0 (qK I (by decide+kernel))
  exact putD_dp (tb x M) (tb y L)
 ·exact joinD_dp _ _
 ·obtain⟨x,y,rfl,M,L⟩:=y0 (qK I (by decide+kernel))
  exact firstD_dp (tb y L)
 ·obtain⟨x,y,rfl,M,L⟩:=y0 (qK I (by decide+kernel))
  exact restD_dp (tb y L)
 ·show 1<=20;decide
 ·exact cutD_dp _ _
 ·exact glueD_dp _ _
theorem askF_L (w:Str)(d:D):(∃z:Str,z.length<=100/\askL w d= .str z/\askF w d=flt z)∨(∃e,isStr (askL w d)=false/\askL w d=e/\askF w d= .tup [.str "asks",askL w d]):=by
 unfold askL askF;by_cases c:w="names"
 ·rw [if_pos c,if_pos c];cases h:isStr d with
  |true=>exact .inr ⟨_,rfl,rfl,rfl⟩
  |false=>exact .inl ⟨_,by decide,rfl,rfl⟩
 ·rw [if_neg c,if_neg c];cases h:isNm d with
  |true=>exact .inr ⟨_,rfl,rfl,rfl⟩
  |false=>exact .inl ⟨_,by decide,rfl,rfl⟩
theorem wds1 {n:Nat}{r:Rw}{O:Str}{qs:List Pt}(hn:n<=40)(M:QI n 300 r)(hs:r.1∈MKR)(I:r.2= .s O::qs):(wds r)[1]? =some O:=by
 obtain⟨ks,R,U⟩:=id M;obtain⟨Y,ps⟩:=r;simp only at I hs;by_cases L:Kd.words∈ks
 ·rcases Zo _ R with e|e
  ·simp at e;exact absurd L e
  ·have e1:ks= [.box,.words]:=congrArg Prod.snd e;have e2:Y="text":=congrArg Prod.fst e;subst e1 e2;obtain⟨x,y,rfl,hx,_⟩:=sh_bw U;cases I;obtain⟨tl,e3,_⟩:=xQ (y:=y) hx;rw [e3]
   rfl
 ·rw [Q5 hn R U L];show(Y::ps.map Pt.t)[1]? =_;rw [I]
  rfl
theorem rule_get {rs:List Rw}{H:Hp}{v:V}{K:PySem.W.Frag}{at':Nat}{Q:VK}(I:Is H (QV rs) v)(h:at'<rs.length)(q:Q (.str (qH (yq rs ((at':Int)+1)))) H):rIxT K v (.int (at':Int)) H Q:=by
 have e:=row_at (rs:=rs) (p:=(at':Int)+1) (by omega) (by omega)
 have e2:((at':Int)+1).toNat-1=at':=by omega
 rw [e2] at e;refine QO (d:= .str (qH (yq rs ((at':Int)+1)))) I (qS (by rw [uM,e];rfl)) fun x L=> ?_
 obtain⟨rfl,_⟩:=L;exact q
def XG:D->Bool
 | .non=>true
 |_=>false
def askOf:D->D
 | .tup [_,d]=>d
 |d=>d
noncomputable def askStep (k:(Str->D)->Int->Nat->List D->List D->List D×D×Nat)(B:Str->D)(z:Str)(p:Int)(n:Nat)(gs:List D)(e:D):List D->List D×D×Nat
 | []=>(gs,e,n)
 |a::as=>if XG a=true then(gs++ [.tup [askOf e,a]],flt "lack",n+1) else k (setB B z a) (p+1) (n+1) as (gs++ [.tup [askOf e,a]])
noncomputable def goF (rs:List Rw)(own:Str):Nat->(Str->D)->Int->Nat->List D->List D->List D×D×Nat
 |0,_,p,n,_,gs=>(gs,if p>rs.length then flt "silent" else flt "long",n)
 |f+1,B,p,n,as,gs=>if p>rs.length then(gs,flt "silent",n) else match rowO own (yq rs p) B p with
  | .go B' p'=>goF rs own f B' p' (n+1) as gs
  | .stop e=>if qW e=true then askStep (goF rs own f) B (b0 (yq rs p).2) p n gs e as else(gs,e,n+1)
def Xn (d:D):Prop:=d= .non∨isT d=true
theorem wds1a {n:Nat}{r:Rw}(hn:n<=40)(I:QI n 300 r)(U:r.1∈ASK):∃L Y,r.2= [.s L,.s Y]/\L∈BX/\(wds r)[1]? =some L:=by
 obtain⟨ks,M,O⟩:=id I;obtain⟨_,_,R⟩:=xg _ M U;simp only at R;subst R;obtain⟨x,y,e,hx,hy⟩:=y0 O;refine⟨x,y,e,hx,?_⟩;rw [Q5 hn M O (by decide)]
 show(r.1::r.2.map Pt.t)[1]? =_;rw [e]
 rfl
theorem ZW {H:Hp}{d:D}{u:V}(I:Is H d u)(L:d≠ .non):u≠ .non:=by
 rintro rfl;cases d with
 |non=>exact L rfl
 |bl b=>cases(show V.non= .bl b from I)
 |int i=>cases(show V.non= .int i from I)
 |str z=>obtain⟨h,_⟩:=I;cases h
 |lst=>obtain⟨_,_,h,_⟩:=I;cases h
 |dct=>obtain⟨_,_,h,_⟩:=I;cases h
 |tup xs=>obtain⟨_,_,h,_⟩:=I;cases h
def sp_lgo:Sp:=fun vs H Q _=>∃(v:V) (own:Str) (la:Addr) (rs:List Rw) (as:List D) (av:List V),vs= [v,.str own,.ref la]/\H la=some (.lst av)/\L2.IsL H as av/\(∀d∈as,Xn d)/\as.length<=1000/\Is H (QV rs) v/\Qu rs/\own.length<=100/\
 ∀(u:V) (H':Hp),Same H H'->Is H' (.tup [.tup (goF rs own 300 B0 1 0 as []).1,(goF rs own 300 B0 1 0 as []).2.1]) u->Q u H'
theorem bx_put {i:Nat}{z:Str}(h:BX[i]? =some z):putK (inrK ((BX.take i).map fun z=>(z,V.str ""))) (Sum.inr z) (.str "")=inrK ((BX.take (i+1)).map fun z=>(z,V.str "")):=by
 have L:i<8:=(List.getElem?_eq_some_iff.mp h).1;have:∀j:Fin 8,∀z,BX[j.val]? =some z->putK (inrK ((BX.take j.val).map fun z=>(z,V.str ""))) (Sum.inr z) (.str "")=inrK ((BX.take (j.val+1)).map fun z=>(z,V.str "")):=by
  intro j z I
  match j with
  |0=>cases I;rfl
  |1=>cases I;rfl
  |2=>cases I;rfl
  |3=>cases I;rfl
  |4=>cases I;rfl
  |5=>cases I;rfl
  |6=>cases I;rfl
  |7=>cases I;rfl
 exact this ⟨i,L⟩ z h
theorem bx_sign {i c:Nat}(h:("abcdefgh":Str).cps[i]? =some c):BX[i]? =some ⟨#[c]⟩:=by
 have eb:BX=("abcdefgh":Str).cps.toList.map fun c=>(⟨#[c]⟩:Str):=by decide+kernel
 rw [eb,uM];have I:("abcdefgh":Str).cps.toList[i]? =some c:=by simpa using h
 rw [I]
 rfl
theorem ok_lgo (T:Tx K mg a):FnOk P w K mg base CX0 24 a.f_law_go a.d_law_go ["rule","own","answers"] sp_lgo:=by
 have ak:=ok_next (P:=P) (w:=w) (base:=base) T;have aq:=ok_lask (P:=P) (w:=w) (base:=base) T;have al:=ok_held (P:=P) (w:=w) (base:=base) T;have ZX:=ok_lt (P:=P) (w:=w) (base:=base) T;refine T.g_law_go.F.ok QC () (fun _ _ _ _ H _ Q E hr h=> ?_)
 obtain⟨v,own,la,rs,as,av,rfl,bP,bb,bc,cq,hv,hR,bQ,k⟩:=h;refine⟨_,(@qe _ _ _ _ _ (@qB _ _ (3) _ _ _ _ QC.nd rfl (Or.inl rfl) pe_dnewK () ()) (@qe _ _ _ _ _ (@Jo _ _ _ _ _ _ _ _ vk rfl (@pi_str _ _ _ _ qi) (@qQ _ _ (4) _ QC.nd rfl (Or.inl rfl) ()) (@qg _ _ _ (@Zw _ _ _ _ _ _ _ _ _ (QQ hr) (pv 3) (pv 4) qi rfl)) ()) (@qe _ _ _ _ _ (@qB _ _ (5) _ _ _ _ QC.nd rfl (Or.inl rfl) (@Qb _ _ _ _ qc) () ()) (@qe _ _ _ _ _ (@qB _ _ (6) _ _ _ _ QC.nd rfl (Or.inl rfl) qj () ()) (@qe _ _ _ _ _ (@Jo _ _ _ _ _ _ _ _ vk rfl (@YV _ _ _ _ _ _ () T.JS (@qa _ _ _ _ _ qj qc ()) ()) (@qQ _ _ (7) _ QC.nd rfl (Or.inl rfl) ()) (@qe _ _ _ _ _ (@qG _ _ _ _ _ _ _ _ (@qm _ _ _ _ _ _ _ _ op_ge (pv 6) (@qk _ _ _ _ _ _ _ _ _ qE () T.Qy um (@qa _ _ _ _ _ (pv 0) qc ()) () () () ()) (qw _)) (@qg _ _ _ (@ql _ _ _ _ (@qy _ _ _ _ _ (@qa _ _ _ _ _ (@qP _ _ _ _ _ _ _ _ _ qL () T.Qa uU (@qa _ _ _ _ _ (pv 5) qc ()) () () () ()) (@qa _ _ _ _ _ (@qy _ _ _ _ _ (@qa _ _ _ _ _ qi (@qa _ _ _ _ _ qi qc ()) ())) qc ()) ())))) qq) (@qe _ _ _ _ _ (@qB _ _ (8) _ _ _ _ QC.nd rfl (Or.inl rfl) (@Yj _ _ _ _ _ _ _ _ _ _ _ _ uH vz vA Zj (@qF _ _ _ _ _ _ _ qR (pv 0) (pv 6) (fun _ _=>rfl)) (@qa _ _ _ _ _ qi qc ()) () () () () ()) () ()) (@qe _ _ _ _ _ (@qG _ _ _ _ _ _ _ _ (@qm _ _ _ _ _ _ _ _ Qg (@qF _ _ _ _ _ _ _ qO (pv 8) qj (fun _ _=>rfl)) qi (qw _)) (@qg _ _ _ (@ql _ _ _ _ (@qy _ _ _ _ _ (@qa _ _ _ _ _ (@qP _ _ _ _ _ _ _ _ _ qL () T.Qa uU (@qa _ _ _ _ _ (pv 5) qc ()) () () () ()) (@qa _ _ _ _ _ (@qy _ _ _ _ _ (@qa _ _ _ _ _ qi (@qa _ _ _ _ _ (@Qf _ _ _ _ _ _ (QQ hr) (pv 3) (@qF _ _ _ _ _ _ _ qO (pv 8) qj (fun _ _=>rfl)) (fun _ _=>rfl)) qc ()) ())) qc ()) ())))) qq) (@qe _ _ _ _ _ (@qG _ _ _ _ _ _ _ _ (@qm _ _ _ _ _ _ _ _ Qg (@qF _ _ _ _ _ _ _ qO (pv 8) qj (fun _ _=>rfl)) qi (qw _)) (@qg _ _ _ (@ql _ _ _ _ (@qy _ _ _ _ _ (@qa _ _ _ _ _ (@qP _ _ _ _ _ _ _ _ _ qL () T.Qa uU (@qa _ _ _ _ _ (pv 5) qc ()) () () () ()) (@qa _ _ _ _ _ (@qy _ _ _ _ _ (@qa _ _ _ _ _ qi (@qa _ _ _ _ _ qi qc ()) ())) qc ()) ())))) qq) (@qe _ _ _ _ _ (@qG _ _ _ _ _ _ _ _ (@qm _ _ _ _ _ _ _ _ Qr (@qF _ _ _ _ _ _ _ qO (pv 8) qj (fun _ _=>rfl)) (@Qb _ _ _ _ (@qa _ _ _ _ _ qi (@qa _ _ _ _ _ qi (@qa _ _ _ _ _ qi (@qa _ _ _ _ _ qi qc ()) ()) ()) ())) (by with_unfolding_all rfl)) (@qe _ _ _ _ _ (@qB _ _ (6) _ _ _ _ QC.nd rfl (Or.inl rfl) (@qv _ _ _ _ _ _ _ _ _ _ _ _ _ _ _ _ ak (hr.mono ()) () T.g_law_next.m T.g_law_next.F.kp T.g_law_next.b .nil qN (@qa _ _ _ _ _ (pv 3) (@qa _ _ _ _ _ (pv 8) (@qa _ _ _ _ _ (pv 6) qc ()) ()) ()) () () ()) () ()) (@qg _ _ _ ps_continue)) qq) (@qe _ _ _ _ _ (@qG _ _ _ _ _ _ _ _ (@qm _ _ _ _ _ _ _ _ Qr (@qF _ _ _ _ _ _ _ qO (pv 8) qj (fun _ _=>rfl)) (@Qb _ _ _ _ (@qa _ _ _ _ _ qi (@qa _ _ _ _ _ qi (@qa _ _ _ _ _ qi qc ()) ()) ())) (by with_unfolding_all rfl)) (@qe _ _ _ _ _ (@qB _ _ (9) _ _ _ _ QC.nd rfl (Or.inl rfl) (@qv _ _ _ _ _ _ _ _ _ _ _ _ _ _ _ _ aq (hr.mono ()) () T.g_law_ask.m T.g_law_ask.F.kp T.g_law_ask.b .nil qN (@qa _ _ _ _ _ (pv 3) (@qa _ _ _ _ _ (pv 8) qc ()) ()) () () ()) () ()) (@qe _ _ _ _ _ (@qG _ _ _ _ _ _ _ _ (@qU _ _ _ (@qk _ _ _ _ _ _ _ _ _ (@qz _ _ rfl) () T.qt uo (@qa _ _ _ _ _ (pv 9) (@qa _ _ _ _ _ (@qV _ _ (.ty "str") _ _ () T.yy vr rfl () ()) qc ()) ()) () () () ()) ()) (@qg _ _ _ (@ql _ _ _ _ (@qy _ _ _ _ _ (@qa _ _ _ _ _ (@qP _ _ _ _ _ _ _ _ _ qL () T.Qa uU (@qa _ _ _ _ _ (pv 5) qc ()) () () () ()) (@qa _ _ _ _ _ (@qy _ _ _ _ _ (@qa _ _ _ _ _ qi (@qa _ _ _ _ _ (pv 9) qc ()) ())) qc ()) ())))) qq) (@qe _ _ _ _ _ (@qG _ _ _ _ _ _ _ _ (@qm _ _ _ _ _ _ _ _ Qg (@qk _ _ _ _ _ _ _ _ _ qE () T.Qy um (@qa _ _ _ _ _ (pv 5) qc ()) () () () ()) (@qk _ _ _ _ _ _ _ _ _ qE () T.Qy um (@qa _ _ _ _ _ (pv 2) qc ()) () () () ()) (qw _)) (@qg _ _ _ (@ql _ _ _ _ (@qy _ _ _ _ _ (@qa _ _ _ _ _ (@qP _ _ _ _ _ _ _ _ _ qL () T.Qa uU (@qa _ _ _ _ _ (pv 5) qc ()) () () () ()) (@qa _ _ _ _ _ (@qy _ _ _ _ _ (@qa _ _ _ _ _ qi (@qa _ _ _ _ _ (pv 9) qc ()) ())) qc ()) ())))) qq) (@qe _ _ _ _ _ (@qB _ _ (10) _ _ _ _ QC.nd rfl (Or.inl rfl) (@qF _ _ _ _ _ _ _ qO (pv 2) (@qk _ _ _ _ _ _ _ _ _ qE () T.Qy um (@qa _ _ _ _ _ (pv 5) qc ()) () () () ()) (fun _ _=>rfl)) () ()) (@qe _ _ _ _ _ (@yH _ _ _ _ (@Yj _ _ _ _ _ _ _ _ _ _ _ _ v6 vM vN y9 (pv 5) (@qa _ _ _ _ _ (@qy _ _ _ _ _ (@qa _ _ _ _ _ (pv 9) (@qa _ _ _ _ _ (pv 10) qc ()) ())) qc ()) () () () () ()) ()) (@qg _ _ _ (@qG _ _ _ _ _ _ _ _ (@qm _ _ _ _ _ _ _ _ X1 (pv 10) Qe (qw _)) (@qg _ _ _ (@ql _ _ _ _ (@qy _ _ _ _ _ (@qa _ _ _ _ _ (@qP _ _ _ _ _ _ _ _ _ qL () T.Qa uU (@qa _ _ _ _ _ (pv 5) qc ()) () () () ()) (@qa _ _ _ _ _ (@qy _ _ _ _ _ (@qa _ _ _ _ _ qi (@qa _ _ _ _ _ qi qc ()) ())) qc ()) ())))) qq))))))) (@qe _ _ _ _ _ (@qB _ _ (10) _ _ _ _ QC.nd rfl (Or.inl rfl) (@qv _ _ _ _ _ _ _ _ _ _ _ _ _ _ _ _ al (hr.mono ()) () T.g_law_held.m T.g_law_held.F.kp T.g_law_held.b .nil qN (@qa _ _ _ _ _ (pv 3) (@qa _ _ _ _ _ (pv 8) (@qa _ _ _ _ _ (@qF _ _ _ _ _ _ _ qR (pv 0) (pv 6) (fun _ _=>rfl)) (@qa _ _ _ _ _ (pv 1) qc ()) ()) ()) ()) () () ()) () ()) (@qe _ _ _ _ _ (@qG _ _ _ _ _ _ _ _ (@qm _ _ _ _ _ _ _ _ X1 (pv 10) Qe (qw _)) (@qg _ _ _ (@ql _ _ _ _ (@qy _ _ _ _ _ (@qa _ _ _ _ _ (@qP _ _ _ _ _ _ _ _ _ qL () T.Qa uU (@qa _ _ _ _ _ (pv 5) qc ()) () () () ()) (@qa _ _ _ _ _ (@qy _ _ _ _ _ (@qa _ _ _ _ _ qi (@qa _ _ _ _ _ qi qc ()) ())) qc ()) ())))) qq) (@qg _ _ _ (@qG _ _ _ _ _ _ _ _ (@Qm _ _ _ _ (@qU _ _ _ (@qv _ _ _ _ _ _ _ _ _ _ _ _ _ _ _ _ ZX (hr.mono ()) () T.g_law_is_tree.m T.g_law_is_tree.F.kp T.g_law_is_tree.b .nil qN (@qa _ _ _ _ _ (pv 10) qc ()) () () ()) ())) (@qg _ _ _ (@ql _ _ _ _ (@qy _ _ _ _ _ (@qa _ _ _ _ _ (@qP _ _ _ _ _ _ _ _ _ qL () T.Qa uU (@qa _ _ _ _ _ (pv 5) qc ()) () () () ()) (@qa _ _ _ _ _ (@qy _ _ _ _ _ (@qa _ _ _ _ _ qi (@qa _ _ _ _ _ qi qc ()) ())) qc ()) ())))) qq))))) (@qe _ _ _ _ _ (@Zw _ _ _ _ _ _ _ _ _ (QQ hr) (pv 3) (@qF _ _ _ _ _ _ _ qO (pv 8) qj (fun _ _=>rfl)) (pv 10) rfl) (@qg _ _ _ (@qB _ _ (6) _ _ _ _ QC.nd rfl (Or.inl rfl) (@qT _ _ _ _ _ _ _ _ Qz (pv 6) qj) () ()))))))))) ()) (@qg _ _ _ (@ql _ _ _ _ (@qy _ _ _ _ _ (@qa _ _ _ _ _ (@qP _ _ _ _ _ _ _ _ _ qL () T.Qa uU (@qa _ _ _ _ _ (pv 5) qc ()) () () () ()) (@qa _ _ _ _ _ (@qy _ _ _ _ _ (@qa _ _ _ _ _ qi (@qa _ _ _ _ _ (@qF _ _ _ _ _ _ _ qO (@Qb _ _ _ _ (@qa _ _ _ _ _ qi (@qa _ _ _ _ _ qi qc ()) ())) (@qP _ _ _ _ _ _ _ _ _ call_int1 () T.z_int boot_int (@qa _ _ _ _ _ (@QG _ _ _ _ _ _ _ _ op_ge (pv 6) (@qk _ _ _ _ _ _ _ _ _ qE () T.Qy um (@qa _ _ _ _ _ (pv 0) qc ()) () () () ()) (qw _)) qc ()) () () () ()) (fun _ _=>rfl)) qc ()) ())) qc ()) ()))))))))),?_⟩
 dsimp only [cxOf,Cx.nox];have three:(3:Nat)<=sizeLine:=by decide
 have two:(2:Nat)<=sizeLine:=by decide
 have n0:=hR.n0;have n1:=hR.n1;generalize bd:goF rs own 300 B0 1 0 as []=res at k;have bf:av.length=as.length:=bb.length;have aC:∀(H':Hp) (gs:List D) (O:List V),Same H H'->L2.IsL H' gs O->∀(H1:Hp) (M:Addr) (ve:V) (e:D) (nn:Nat),Same H' H1->H1 M=some (.tup O)->Is H1 e ve->(gs,e,nn)=res->∀R,H1 R=none->Q (.ref R) (upd H1 R (.tup [.ref M,ve])):=by
  intro H' gs O sm gl H1 M ve e nn s1 e1 ie h1 R bg;subst h1;exact k _ _ (sm.trans (s1.trans (qb bg _))) (Is.new (ds:= [.tup gs,e]) ⟨_,_,rfl,⟨M,O,rfl,e1,gl.mono s1.tk⟩,_,_,rfl,ie,rfl⟩ bg)
 have aA:∀{H1:Hp}{t:Addr} (z:Str),z.length<=100->H1 t=none->Is (upd H1 t (.tup [.str "fault",.str z])) (flt z) (.ref t):=fun{H1 t} z hz ht=>Is.new (ds:= [.str "fault",.str z]) ⟨_,_,rfl,⟨rfl,qY (by decide)⟩,_,_,rfl,⟨rfl,qY (by omega)⟩,rfl⟩ ht
 intro db aS;have s6:=qb aS (.dK []);have e6:(upd H db (.dK [])) db=some (.dK (inrK ((BX.take 0).map fun z=>(z,V.str "")))):=qh;generalize upd H db (.dK [])=H6 at s6 e6⊢;refine⟨_,rfl,?_⟩
 let J1_:Nat->L2.St->Hp->Prop:=fun i σ H'=>∃x4:Option V,σ= [some v,some (.str own),some (.ref la),some (.ref db),x4,none,none,none,none,none,none]/\Same H H'/\H' db=some (.dK (inrK ((BX.take i).map fun z=>(z,V.str ""))))
 refine for_str (z:="abcdefgh") J1_ ⟨_,rfl,s6,e6⟩ ?_ ?_
 ·rintro i c σ H' hc ⟨x4,rfl,sm,e7⟩;refine⟨_,rfl,_,rfl,db,_,rfl,DPut.k (k:=(Sum.inr (⟨#[c]⟩:Str):Key)) e7 (yh (by unfold inrK;rw [ub,ub,uz];have h8:BX.length=8:=rfl;omega)),_,rfl,fun b o h=> ?_,?_⟩
  ·rw [qx (qr h aS)];exact sm b o h
  ·rw [qh,bx_put (bx_sign hc)]
 ·rintro σ H7 ⟨x4,rfl,s7,e7⟩;have b7:QL H7 db B0:=by
   refine⟨fun _=> .str "",?_,fun z _=>⟨rfl,qY (by decide)⟩⟩
   rw [e7]
   rfl
  clear e6 s6;refine⟨(by show 0<=sizeLine;decide),fun L hL=> ?_⟩
  have s8:=qb hL (.lst []);have b8:=b7.same s8;have bR:Same H _:=s7.trans s8;have bh:∀b o,H b=some o->b≠db:=fun b o h=>qr h aS;have bS:H L=none:=by
   cases hc:H L with
   |none=>rfl
   |some o=>exact absurd hL (by rw [s7 _ _ hc];simp)
  have nL:L≠db:=(qr e7 hL).symm;refine⟨300,rfl,by decide,by decide,?_⟩
  let J2_:Nat->L2.St->Hp->Prop:=fun i σ H'=>∃(B:Str->D) (at':Nat) (x4 x7 x8 x9 aT:Option V),σ= [some v,some (.str own),some (.ref la),some (.ref db),x4,some (.ref L),some (.int (at':Int)),x7,x8,x9,aT]/\Same H H'/\QL H' db B/\Tr B/\at'<=rs.length/\∃(gs rest dn:List D) (O:List V),H' L=some (.lst O)/\L2.IsL H' gs O/\as=dn++rest/\dn.length=gs.length/\goF rs own (300-i) B ((at':Int)+1) i rest gs=res
  refine Xt (n:=300) J2_ ⟨B0,0,_,_,_,_,_,rfl,bR,b8,B0_tr,by omega,[],as,[],[],qh,rfl,rfl,rfl,bd⟩ ?_ ?_
  ·rintro i σ H' hi ⟨B,at',x4,x7,x8,x9,aT,rfl,sm,hB,hT,bT,gs,rest,dn,O,eL,gl,af,am,ax⟩;have aD:=hv.mono sm.tk;have aU:=aD;obtain⟨ta,us,rfl,aV,iu⟩:=aU;have bU:us.length=rs.length:=by rw [iu.length,ub]
   have ab:=aC H' gs O sm gl;have aW:O.length=gs.length:=gl.length;refine⟨_,rfl,_,rfl,ta,us,rfl,.inr (SqT.of aV),_,_,rfl,rfl,_,rfl,?_⟩;refine ite2 (fun c=> ?_) (fun c=> ?_)
   ·have c':rs.length<=at':=by have:=ua c;omega
    have er:(gs,flt "silent",i)=res:=by
     rw [<-ax];cases U:300-i with
     |zero=>omega
     |succ q=>
      unfold goF;rw [if_pos (by omega)]
    refine⟨_,rfl,L,O,rfl,.inl ⟨SqL.of eL,fun M h1=>⟨two,fun Y U=>⟨two,fun R h2=> ?_⟩⟩⟩⟩;have s1:Same H' (upd H' M (.tup O)):=qb h1 _;have s3:=qb U (.tup [.str "fault",.str "silent"]);exact ab _ M _ (flt "silent") _ (s1.trans s3) (s3 _ _ qh) (aA "silent" (by decide) U) er R h2
   ·have bm:at'<rs.length:=by
     rcases UI at' rs.length with h|h
     ·exact h
     ·exact absurd (u0 (by omega)) c
    have I:res=match rowO own (yq rs ((at':Int)+1)) B ((at':Int)+1) with
      | .go B' p'=>goF rs own (300-(i+1)) B' p' (i+1) rest gs
      | .stop e=>if qW e=true then askStep (goF rs own (300-(i+1))) B (b0 (yq rs ((at':Int)+1)).2) ((at':Int)+1) i gs e rest else(gs,e,i+1):=by
     rw [<-ax,show 300-i=(300-(i+1))+1 by omega,goF,if_neg (by omega)]
     all_goals (cases rowO own (yq rs ((at':Int)+1)) B ((at':Int)+1)<;>first|rfl|(cases rest<;>rfl))
    have aE:=Zq (rs:=rs) (p:=(at':Int)+1) (by omega) (by omega)
    have aa:=hR.ok _ aE;have bo:=hR.len aE;have hok:=rowO_ok (own:=own) aa hT (p:=(at':Int)+1) (by omega) (by omega)
    refine⟨_,rfl,_,rfl,?_⟩;refine rule_get aD bm ?_;generalize bV:yq rs ((at':Int)+1)=r at I aa bo hok aE⊢;refine⟨rfl,_,rfl,rfl,by omega,fun p hp=> ?_⟩
    have s1:Same H' (upd H' p (.lst ((wds r).map V.str))):=qb hp _;have hW:WdAt (upd H' p (.lst ((wds r).map V.str))) p r:=qh;show jZ 8 _ _ (upd H' p (.lst ((wds r).map V.str))) _;generalize upd H' p (.lst ((wds r).map V.str))=H1 at s1 hW⊢;have aX:=s1;have aY:=s1 _ _ eL;have bp:=hB.same s1;have bW:=aD.mono s1.tk;have aK:=wds0 n1 aa;obtain⟨ks,hk,bq⟩:=id aa;refine⟨_,rfl,?_⟩;dsimp only [tC];have bt:∀y:Str,decide (V.str r.1=V.str y)=decide (r.1=y):=fun y=>by
     rw [uA];exact⟨fun h=>by injection h,fun h=>by rw [h]⟩
    refine QR (i:=0) hW aK ⟨rfl,_,rfl,?_⟩;rw [bt];by_cases ae:r.1="say"
    ·refine qA (u0 ae) ?_;obtain⟨r1,ps⟩:=r;simp only at ae;subst ae;have ek:=frm_say _ hk rfl;simp only at ek;subst ek;obtain⟨z0,ez,h0⟩:=sh_b bq;simp only at ez;subst ez;have au:("say":Str)∉MKR:=by decide+kernel
     have aF:("say":Str)∉ASK:=by decide+kernel
     have eo:rowO own ("say",[.s z0]) B ((at':Int)+1)= .stop (.tup [.str "said",B z0]):=by
      unfold rowO;rw [if_neg au,if_neg aF,if_pos rfl]
      rfl
     rw [eo] at I;have aw:qW (.tup [.str "said",B z0])=false:=rfl;simp only [aw,vq,UH] at I;refine⟨_,rfl,L,O,rfl,.inl ⟨SqL.of aY,fun M h1=> ?_⟩⟩;have s3:Same H1 (upd H1 M (.tup O)):=qb h1 _;have ew:(wds ("say",[.s z0]))[1]? =some z0:=by rw [Q5 n1 hk bq (by decide)];rfl
     obtain⟨v3,bX,bY⟩:=(bp.same s3).get h0;refine⟨_,rfl,_,rfl,?_⟩;dsimp only [tC];refine QR (i:=1) (show WdAt _ p _ from s3 _ _ hW) ew ⟨db,v3,rfl,bX,two,fun Y U=>⟨two,fun R h2=> ?_⟩⟩
     have q3:=qb U (.tup [.str "said",v3]);exact ab _ M _ (.tup [.str "said",B z0]) _ (aX.trans (s3.trans q3)) (q3 _ _ qh) (Is.new (ds:= [.str "said",B z0]) ⟨_,_,rfl,⟨rfl,qY (by decide)⟩,_,_,rfl,bY,rfl⟩ U) I.symm R h2
    ·refine qo (u9 ae) ?_;refine⟨_,rfl,?_⟩;dsimp only [tC];refine QR (i:=0) hW aK ⟨rfl,_,rfl,?_⟩;rw [bt];by_cases aB:r.1="fault"
     case pos=>
      refine qA (u0 aB) ?_;have au:r.1∉MKR:=by rw [aB];decide+kernel
      have aF:r.1∉ASK:=by rw [aB];decide+kernel
      have eo:rowO own r B ((at':Int)+1)= .stop (flt "told"):=by
       unfold rowO;rw [if_neg au,if_neg aF,if_neg ae,if_pos aB]
      rw [eo] at I;have aw:qW (flt "told")=false:=rfl;simp only [aw,vq,UH] at I;refine⟨_,rfl,L,O,rfl,.inl ⟨SqL.of aY,fun M h1=>⟨two,fun Y U=>⟨two,fun R h2=> ?_⟩⟩⟩⟩;have q1:Same H1 (upd H1 M (.tup O)):=qb h1 _;have q3:=qb U (.tup [.str "fault",.str "told"]);exact ab _ M _ (flt "told") _ (aX.trans (q1.trans q3)) (q3 _ _ qh) (aA "told" (by decide) U) I.symm R h2
     refine qo (u9 aB) ?_;have aL:¬(r.1="say"∨r.1="fault"):=fun h=>h.elim ae aB;have s2:Same H1 H1:=Same.refl _;have bu:=aX;have bv:=aY;have bw:=bp;have aZ:=hW;have bx:=bW;generalize H1=H2 at s2 bu bv bw aZ bx⊢;refine⟨_,rfl,?_⟩;dsimp only [tC];refine QR (i:=0) aZ aK ⟨(by show 4<=sizeLine;decide),fun l3 bZ=>⟨l3,_,rfl,.inl (SqL.of qh),rfl,rfl,_,rfl,?_⟩⟩
     have s3:Same H2 (upd H2 l3 (.lst [.str "go",.str "like",.str "rowed",.str "none"])):=qb bZ _;generalize upd H2 l3 (.lst [.str "go",.str "like",.str "rowed",.str "none"])=H3 at s3⊢;have b3:inV (.str r.1) [.str "go",.str "like",.str "rowed",.str "none"]=decide (r.1∈JMP):=jG (z:=r.1) (l:=JMP);rw [if_neg u8,b3];have aG:=bu.trans s3;have a0:=s3 _ _ bv;have aM:=bw.same s3;have a1:WdAt H3 p r:=s3 _ _ aZ;have b4:=bx.mono s3.tk;by_cases cj:r.1∈JMP
     ·refine qA (u0 cj) ?_;have au:r.1∉MKR:=fun h=>by revert h;simp only [JMP,uB,vw,vb] at cj;rcases cj with h|h|h|h<;>rw [h]<;>decide+kernel
      have aF:r.1∉ASK:=fun h=>by revert h;simp only [JMP,uB,vw,vb] at cj;rcases cj with h|h|h|h<;>rw [h]<;>decide+kernel
      have eo:rowO own r B ((at':Int)+1)=if jump r.1 B r.2=true then .go B (jt r.2) else .go B ((at':Int)+1+1):=by
       unfold rowO;rw [if_neg au,if_neg aF,if_neg (fun h=>aL (.inl h)),if_neg (fun h=>aL (.inr h))]
      rw [eo] at I hok;refine⟨_,rfl,_,rfl,_,rfl,db,p,B,r,rs.length,_,rfl,n1,aM,hT,a1,aa,cj,fun H4 s4=> ?_⟩;cases hj:jump r.1 B r.2 with
      |true=>
       rw [hj] at I hok;simp only [UK] at I hok;obtain⟨_,o1,o2⟩:=hok;rw [if_pos rfl];obtain⟨m,hm⟩:∃m:Nat,jt r.2-1=(m:Int):=⟨(jt r.2-1).toNat,by omega⟩
       rw [hm];refine⟨B,m,_,_,_,_,_,rfl,sm.trans (aG.trans s4),aM.same s4,hT,by omega,gs,rest,dn,O,s4 _ _ a0,(gl.mono aG.tk).mono s4.tk,af,am,?_⟩
       rw [show(m:Int)+1=jt r.2 by omega]
       exact I.symm
      |false=>
       rw [hj] at I hok;simp only [vq,UH] at I hok;obtain⟨_,o1,o2⟩:=hok;rw [if_neg u8];exact⟨B,at'+1,_,_,_,_,_,rfl,sm.trans (aG.trans s4),aM.same s4,hT,by omega,gs,rest,dn,O,s4 _ _ a0,(gl.mono aG.tk).mono s4.tk,af,am,I.symm⟩
     ·refine qo (u9 cj) ?_;refine⟨_,rfl,?_⟩;dsimp only [tC];refine QR (i:=0) a1 aK ⟨three,fun l5 b5=>⟨l5,_,rfl,.inl (SqL.of qh),rfl,rfl,_,rfl,?_⟩⟩;have s5:Same H3 (upd H3 l5 (.lst [.str "ask",.str "has",.str "names"])):=qb b5 _;generalize upd H3 l5 (.lst [.str "ask",.str "has",.str "names"])=H5 at s5⊢;have b6:inV (.str r.1) [.str "ask",.str "has",.str "names"]=decide (r.1∈ASK):=jG (z:=r.1) (l:=ASK);rw [if_neg u8,b6];have bA:=aG.trans s5;have bB:=s5 _ _ a0;have aN:=aM.same s5;have aO:WdAt H5 p r:=s5 _ _ a1;have b9:=b4.mono s5.tk;by_cases ca:r.1∈ASK
      ·refine qA (u0 ca) ?_;have au:r.1∉MKR:=(xg _ hk ca).1;have eo:rowO own r B ((at':Int)+1)= .stop (askF r.1 (B (b1 r.2))):=by
        unfold rowO;rw [if_neg au,if_pos ca]
       rw [eo] at I;refine⟨_,rfl,_,rfl,db,p,B,r,rs.length,rfl,n1,aN,aO,aa,ca,fun u6 H6 s6 i6=> ?_⟩;have ag:=bA.trans s6;have ac:=s6 _ _ bB;rcases askF_L r.1 (B (b1 r.2)) with⟨z,hz,e1,e2⟩|⟨e3,e1,e2,e4⟩
       ·rw [e1] at i6;rw [e2] at I;refine⟨_,rfl,u6,"str",tyD (.str z),isStr (.str z),rfl,i6.ty,Qs _,_,rfl,iteT ?_⟩;obtain⟨rfl,cr⟩:=i6;have aw:qW (flt z)=false:=rfl;simp only [aw,vq,UH] at I;refine⟨_,rfl,L,O,rfl,.inl ⟨SqL.of ac,fun M h1=>⟨_,rfl,two,fun Y U=>⟨two,fun R h2=> ?_⟩⟩⟩⟩;have q1:Same H6 (upd H6 M (.tup O)):=qb h1 _;have q3:=qb U (.tup [.str "fault",.str z]);exact ab _ M _ (flt z) _ (ag.trans (q1.trans q3)) (q3 _ _ qh) (aA z hz U) I.symm R h2
       ·rw [e4] at I;refine⟨_,rfl,u6,"str",_,_,rfl,i6.ty,Qs _,_,rfl,?_⟩;rw [e1];have aw:qW (.tup [.str "asks",askL r.1 (B (b1 r.2))])=true:=by simp [qW]
        simp only [aw,UK] at I;have aQ:=ag _ _ (sm _ _ bP);refine iteF ⟨_,rfl,L,O,rfl,.inl (SqL.of ac),_,rfl,la,av,rfl,.inl (SqL.of aQ),rfl,_,rfl,?_⟩;cases rest with
        |nil=>
         have bC:O.length=av.length:=by rw [aW,bf,af];simp [am]
         refine qA (u0 (by rw [bC])) ?_
         refine⟨_,rfl,L,O,rfl,.inl ⟨SqL.of ac,fun M h1=>⟨_,rfl,two,fun Y U=>⟨two,fun R h2=> ?_⟩⟩⟩⟩;have q1:Same H6 (upd H6 M (.tup O)):=qb h1 _;have q3:=qb U (.tup [.str "asks",u6]);exact ab _ M _ (.tup [.str "asks",askL r.1 (B (b1 r.2))]) _ (ag.trans (q1.trans q3)) (q3 _ _ qh) (Is.new (ds:= [.str "asks",askL r.1 (B (b1 r.2))]) ⟨_,_,rfl,⟨rfl,qY (by decide)⟩,_,_,rfl,i6.mono q1.tk,rfl⟩ U) (by rw [I];rfl) R h2
        |cons ad aH=>
         have cp:O.length<av.length:=by rw [aW,bf,af,<-am,uf,ud];omega
         refine qo (u9 fun h=>by injection h with h;omega) ?_
         have cb:=bc ad (by rw [af];simp)
         have bD:as[gs.length]? =some ad:=by rw [af,<-am,vx (ug _),Nat.sub_self];rfl
         obtain⟨va,cc,bE⟩:=bb.get bD;have bF:=(bE.mono sm.tk).mono ag.tk;obtain⟨z0,z1,cd,a2,a3⟩:=wds1a n1 aa ca;have ce:b0 r.2=z0:=by rw [cd];rfl
         have a4:=aN.same s6;have a5:WdAt H6 p r:=s6 _ _ aO;refine⟨_,rfl,_,rfl,L,O,rfl,.inl (SqL.of ac),la,av,_,va,rfl,rfl,SqL.of aQ,qS (by rw [aW];exact cc),?_⟩
         refine⟨_,rfl,.inl ⟨rfl,_,SqL.of ac⟩,_,rfl,_,rfl,two,fun M h1=> ?_⟩;have q1:Same H6 (upd H6 M (.tup [u6,va])):=qb h1 _;have ip:Is (upd H6 M (.tup [u6,va])) (.tup [askL r.1 (B (b1 r.2)),ad]) (.ref M):=Is.new (ds:= [askL r.1 (B (b1 r.2)),ad]) ⟨_,_,rfl,i6,_,_,rfl,bF,rfl⟩ h1;have cf:p≠L:=(qr eL hp).symm;have ao:=q1 _ _ ac;have bG:=a4.same q1;have bH:WdAt _ p r:=q1 _ _ a5;have bI:=(gl.mono ag.tk).mono q1.tk;have aR:=bF.mono q1.tk;have ap:=ag.trans q1;generalize upd H6 M (.tup [u6,va])=H7 at q1 ip ao bG bH bI aR ap⊢;refine⟨L,O,_,rfl,rfl,ao,yh (by omega),?_⟩
         have t7:Tk H7 (upd H7 L (.lst (O++ [.ref M]))):=Tk.updL ao;have a6:(upd H7 L (.lst (O++ [.ref M]))) L=some (.lst (O++ [.ref M])):=qh;have a7:Same H (upd H7 L (.lst (O++ [.ref M]))):=fun b o e=>by
          rw [qx (qr e bS)];exact ap b o (sm b o e)
         have a8:L2.IsL (upd H7 L (.lst (O++ [.ref M]))) (gs++ [.tup [askL r.1 (B (b1 r.2)),ad]]) (O++ [.ref M]):=(bI.mono t7).append (IsL.one (ip.mono t7));have bJ:QL (upd H7 L (.lst (O++ [.ref M]))) db B:=bG.move t7 (qx nL.symm);have bK:WdAt (upd H7 L (.lst (O++ [.ref M]))) p r:=by
          show upd H7 L (.lst (O++ [.ref M])) p=_;rw [qx cf];exact bH
         have ay:=aR.mono t7;generalize upd H7 L (.lst (O++ [.ref M]))=H8 at t7 a6 a7 a8 bJ bK ay⊢;have ab:=aC H8 _ _ a7 a8;have ah:res=if XG ad=true then(gs++ [.tup [askL r.1 (B (b1 r.2)),ad]],flt "lack",i+1) else goF rs own (300-(i+1)) (setB B z0 ad) ((at':Int)+1+1) (i+1) aH (gs++ [.tup [askL r.1 (B (b1 r.2)),ad]]):=by
          rw [I,<-ce]
          rfl
         refine⟨_,rfl,rfl,_,rfl,?_⟩;by_cases cn:ad= .non
         ·subst cn;cases(show va= .non from ay)
          refine qA (by decide+kernel) ?_
          refine⟨_,rfl,L,_,rfl,.inl ⟨SqL.of a6,fun R h2=>⟨two,fun Y U=>⟨two,fun t4 h4=> ?_⟩⟩⟩⟩;have r2:Same H8 (upd H8 R (.tup (O++ [.ref M]))):=qb h2 _;have r3:=qb U (.tup [.str "fault",.str "lack"]);exact ab _ R _ (flt "lack") _ (r2.trans r3) (r3 _ _ qh) (aA "lack" (by decide) U) (by rw [ah];rfl) t4 h4
         ·have aP:isT ad=true:=cb.resolve_left cn;have a9:va≠ .non:=ZW ay cn;have cg:XG ad=false:=by
           cases ad with
           |non=>exact absurd rfl cn
           |_=>rfl
          rw [cg,if_neg u8] at ah;refine qo (u9 a9) ?_;obtain⟨kvs,aI,bL,ch⟩:=bJ.put a2 ay;refine⟨_,rfl,_,rfl,_,rfl,?_⟩;dsimp only [tC];refine QR (i:=1) bK a3 ⟨db,_,rfl,aI,?_⟩;refine⟨_,rfl,_,_,rfl,rfl,?_⟩;exact⟨setB B z0 ad,at'+1,_,_,_,_,_,rfl,fun b o h=>by rw [qx (bh b o h)];exact a7 b o h,bL,ZQ hT aP,by omega,_,aH,dn++ [ad],O++ [.ref M],by rw [qx nL];exact a6,a8.mono ch,by rw [af];simp,by simp [am],ah.symm⟩
      ·refine qo (u9 ca) ?_;have aJ:r.1∈MKR:=by
        rcases frm_all _ hk with q|⟨_,_,q|⟨_,q|q|q⟩⟩
        ·exact q
        ·exact absurd q ca
        ·exact absurd (.inl q) aL
        ·exact absurd (.inr q) aL
        ·exact absurd q.2.2 cj
       obtain⟨z0,qs,bM,a2⟩:=mk_b0 aa aJ;have ci:b0 r.2=z0:=by rw [bM];rfl
       have eo:rowO own r B ((at':Int)+1)=ZG B z0 (made r.1 B own r.2) ((at':Int)+1):=by
        unfold rowO;rw [if_pos aJ,ci]
       rw [eo] at I hok;have bN:=made_dp (own:=own) hT (show QI rs.length 300 (r.1,r.2) from aa) aJ
       refine⟨_,rfl,_,rfl,_,rfl,_,rfl,?_⟩;refine rule_get b9 bm ?_;rw [bV];refine⟨_,rfl,db,p,B,r,rs.length,own,rfl,n1,bQ,bo,aN,hT,aO,aa,aJ,fun u6 H6 s6 i6=> ?_⟩;have ag:=bA.trans s6;have ac:=s6 _ _ bB;have a4:=aN.same s6;have a5:WdAt H6 p r:=s6 _ _ aO;have a3:(wds r)[1]? =some z0:=wds1 n1 aa aJ bM;generalize made r.1 B own r.2=dm at i6 I hok bN;have stop:∀(z:Str) (H7:Hp),z.length<=100->Same H' H7->H7 L=some (.lst O)->(gs,flt z,i+1)=res->∀M,H7 M=none->∀Y,(upd H7 M (.tup O)) Y=none->∀R,(upd (upd H7 M (.tup O)) Y (.tup [.str "fault",.str z])) R=none->Q (.ref R) (upd (upd (upd H7 M (.tup O)) Y (.tup [.str "fault",.str z])) R (.tup [.ref M,.ref Y])):=by
        intro z H7 hz ap ao er M h1 Y U R h2;have q1:Same H7 (upd H7 M (.tup O)):=qb h1 _;have q3:=qb U (.tup [.str "fault",.str z]);exact ab _ M _ (flt z) _ (ap.trans (q1.trans q3)) (q3 _ _ qh) (aA z hz U) er R h2
       refine⟨_,rfl,rfl,_,rfl,?_⟩;by_cases cn:dm= .non
       ·subst cn;cases(show u6= .non from i6)
        refine qA (by decide+kernel) ?_
        exact⟨_,rfl,L,O,rfl,.inl ⟨SqL.of ac,fun M h1=>⟨two,fun Y U=>⟨two,fun R h2=>stop "kind" H6 (by decide) ag ac (by rw [I];rfl) M h1 Y U R h2⟩⟩⟩⟩
       ·have a9:u6≠ .non:=ZW i6 cn;have ck:ZG B z0 dm ((at':Int)+1)=if isT dm=true then .go (setB B z0 dm) ((at':Int)+1+1) else .stop (flt "big"):=by
         cases dm with
         |non=>exact absurd rfl cn
         |_=>rfl
        rw [ck] at I hok;refine qo (u9 a9) ⟨_,rfl,u6,dm,rfl,i6,bN,fun H7 s7=>⟨_,rfl,?_⟩⟩;have ap:=ag.trans s7;have ao:=s7 _ _ ac;cases aP:isT dm with
        |false=>
         rw [aP] at I;refine iteT ?_;exact⟨_,rfl,L,O,rfl,.inl ⟨SqL.of ao,fun M h1=>⟨two,fun Y U=>⟨two,fun R h2=>stop "big" H7 (by decide) ap ao (by rw [I];rfl) M h1 Y U R h2⟩⟩⟩⟩
        |true=>
         rw [aP] at I hok;simp only [UK] at I hok;obtain⟨o0,o1,o2⟩:=hok;refine iteF ?_;obtain⟨kvs,aI,cm,t8⟩:=(a4.same s7).put a2 (i6.mono s7.tk);refine⟨_,rfl,_,rfl,_,rfl,?_⟩;dsimp only [tC];refine QR (i:=1) (show WdAt H7 p r from s7 _ _ a5) a3 ⟨db,_,rfl,aI,?_⟩
         refine⟨_,rfl,_,_,rfl,rfl,?_⟩;exact⟨setB B z0 dm,at'+1,_,_,_,_,_,rfl,fun b o h=>by rw [qx (bh b o h)];exact ap b o (sm b o h),cm,o0,by omega,gs,rest,dn,O,by rw [qx nL];exact ao,(gl.mono ap.tk).mono t8,af,am,I.symm⟩
  ·rintro σ H' ⟨B,at',x4,x7,x8,x9,aT,rfl,sm,hB,hT,bT,gs,rest,dn,O,eL,gl,af,am,ax⟩;have aD:=hv.mono sm.tk;have aU:=aD;obtain⟨ta,us,rfl,aV,iu⟩:=aU;have bU:us.length=rs.length:=by rw [iu.length,ub]
   refine⟨_,rfl,L,O,rfl,.inl ⟨SqL.of eL,fun M h1=> ?_⟩⟩;have ab:=aC H' gs O sm gl;have q1:Same H' (upd H' M (.tup O)):=qb h1 _;have bO:(upd H' M (.tup O)) M=some (.tup O):=qh;generalize upd H' M (.tup O)=H1 at q1 bO⊢;refine⟨two,fun l hl=>⟨_,rfl,_,rfl,ta,us,rfl,.inr (SqT.of (qb hl _ _ _ (q1 _ _ aV))),_,_,rfl,rfl,.inr ⟨_,rfl,?_⟩⟩⟩;have q2:Same H1 (upd H1 l (.lst [.str "long",.str "silent"])):=qb hl _;have el:(upd H1 l (.lst [.str "long",.str "silent"])) l=some (.lst [.str "long",.str "silent"]):=qh;generalize upd H1 l (.lst [.str "long",.str "silent"])=H2 at q2 el⊢;have er:(gs,(if(at':Int)+1>rs.length then flt "silent" else flt "long"),300)=res:=by
    rw [<-ax]
    rfl
   have last:∀z:Str,z.length<=100->(gs,flt z,300)=res->∀Y,H2 Y=none->∀R,(upd H2 Y (.tup [.str "fault",.str z])) R=none->Q (.ref R) (upd (upd H2 Y (.tup [.str "fault",.str z])) R (.tup [.ref M,.ref Y])):=by
    intro z hz ez Y U R h2;have q3:=qb U (.tup [.str "fault",.str z]);exact ab _ M _ (flt z) 300 (q1.trans (q2.trans q3)) (q3 _ _ (q2 _ _ bO)) (aA z hz U) ez R h2
   by_cases c:rs.length<=at'
   ·rw [u0 (p:=((us.length:Int)<=(at':Int))) (by omega)]
    rw [if_pos (by omega)] at er
    exact⟨l,_,1,.str "silent",rfl,rfl,SqL.of el,rfl,two,fun Y U=>⟨two,fun R h2=>last "silent" (by decide) er Y U R h2⟩⟩
   ·rw [u9 (p:=((us.length:Int)<=(at':Int))) (by omega)]
    rw [if_neg (by omega)] at er
    exact⟨l,_,0,.str "long",rfl,rfl,SqL.of el,rfl,two,fun Y U=>⟨two,fun R h2=>last "long" (by decide) er Y U R h2⟩⟩
def Gd (d:D):Prop:=good d=true/\dp d<=20
theorem gd_flt:∀z∈(["kind","big","told","silent","long","name"]:List Str),good (flt z)=true:=by decide+kernel
theorem gd_f {z:Str}(h:z∈(["kind","big","told","silent","long","name"]:List Str)):Gd (flt z):=⟨gd_flt z h,by show dp (.tup [.str "fault",.str z])<=20;simp [dp,dpL]⟩
theorem gd_two {u:Str}{d:D}(I:QD u=true)(h:isT d=true):Gd (.tup [.str u,d]):=by
 have L:=yP h;have hd:=Jt h;refine⟨?_,?_⟩
 ·simp only [good,goodL,I,L,vD]
  rfl
 ·simp only [dp,dpL];omega
theorem gd_three {u w:Str}{d:D}(I:QD u=true)(L:QD w=true)(h:isT d=true):Gd (.tup [.str u,.tup [.str w,d]]):=by
 have M:=yP h;have hd:=Jt h;refine⟨?_,?_⟩
 ·simp only [good,goodL,I,L,M,vD]
  rfl
 ·simp only [dp,dpL];omega
theorem rowO_gd {own:Str}{n:Nat}{r:Rw}{B:Str->D}{p:Int}{e:D}(hr:QI n 300 r)(h:Tr B)(I:rowO own r B p= .stop e):Gd e:=by
 unfold rowO at I;obtain⟨ks,hk,hp⟩:=id hr;obtain⟨L,ps⟩:=r;by_cases c1:L∈MKR
 ·rw [if_pos c1] at I;simp only at I;generalize made L B own ps=R at I;have aa:(if isT R=true then Out.go (setB B (b0 ps) R) (p+1) else .stop (flt "big"))= .stop e->Gd e:=by
   intro U;by_cases c:isT R=true
   ·rw [if_pos c] at U;cases U
   ·rw [if_neg c] at U;cases U;exact gd_f (by decide+kernel)
  cases R with
  |non=>cases I;exact gd_f (by decide+kernel)
  |_=>exact aa I
 rw [if_neg c1] at I;by_cases c2:L∈ASK
 ·rw [if_pos c2] at I;cases I;obtain⟨_,_,M⟩:=xg _ hk c2;simp only at M;subst M;obtain⟨z0,Y,rfl,h0,h1⟩:=y0 hp;have hT:=h Y h1;show Gd (askF L (B Y));unfold askF;by_cases d1:L="names"
  ·rw [if_pos d1];by_cases O:isStr (B Y)=true
   ·rw [if_pos O];exact gd_three (by decide+kernel) (by decide+kernel) hT
   ·rw [if_neg O];exact gd_f (by decide+kernel)
  ·rw [if_neg d1];by_cases O:isNm (B Y)=true
   ·rw [if_pos O];refine gd_three (by decide+kernel) ?_ hT
    split<;>decide+kernel
   ·rw [if_neg O];exact gd_f (by decide+kernel)
 rw [if_neg c2] at I;by_cases c3:L="say"
 ·rw [if_pos c3] at I;cases I;subst c3;have M:=frm_say _ hk rfl;simp only at M;subst M;obtain⟨z0,rfl,h0⟩:=sh_b hp;exact gd_two (by decide+kernel) (h z0 h0)
 rw [if_neg c3] at I;by_cases c4:L="fault"
 ·rw [if_pos c4] at I;cases I;exact gd_f (by decide+kernel)
 rw [if_neg c4] at I;by_cases c5:jump L B ps=true
 ·rw [if_pos c5] at I;cases I
 ·rw [if_neg c5] at I;cases I
noncomputable def ansS (rs:List Rw)(own:Str)(r:Rn)(a:D):Rn:=if XG a=true then⟨r.B,r.p,r.n+1,r.gs++ [.tup [askOf r.th,a]],flt "lack"⟩ else runS rs own (r.gs++ [.tup [askOf r.th,a]]) (300-(r.n+1)) (setB r.B (b0 (yq rs r.p).2) a) (r.p+1) (r.n+1)
def jq (rs:List Rw)(own:Str):Rn->List D->Rn
 |r,[]=>r
 |r,a::as=>if qW r.th=true then jq rs own (ansS rs own r a) as else r
theorem Yc {rs:List Rw}{own:Str}{r:Rn}(h:qW r.th=false):∀as,jq rs own r as=r
 | []=>rfl
 |a::as=>by unfold jq;rw [h,if_neg u8]
theorem zH {rs:List Rw}{own:Str}(a:D):∀(as:List D) (r:Rn),jq rs own r (as++ [a])=if qW (jq rs own r as).th=true then ansS rs own (jq rs own r as) a else jq rs own r as
 | [],r=>by
  show(if qW r.th=true then jq rs own (ansS rs own r a) [] else r)=_
  rfl
 |b::as,r=>by
  show(if qW r.th=true then jq rs own (ansS rs own r b) (as++ [a]) else r)=_
  cases h:qW r.th with
  |true=>
   rw [if_pos rfl,zH a as];have e:jq rs own r (b::as)=jq rs own (ansS rs own r b) as:=by
    show(if qW r.th=true then _ else r)=_
    rw [h,if_pos rfl]
   rw [e]
  |false=>
   rw [if_neg u8,Yc h,h,if_neg u8]
def triple (r:Rn):List D×D×Nat:=(r.gs,r.th,r.n)
theorem Zs {rs:List Rw}{own:Str}:∀(f:Nat) (B:Str->D) (p:Int) (n:Nat) (as gs:List D),f+n=300->goF rs own f B p n as gs=triple (jq rs own (runS rs own gs f B p n) as)
 |0,B,p,n,as,gs,_=>by
  have I:qW (runS rs own gs 0 B p n).th=false:=by
   show qW (if p>rs.length then flt "silent" else flt "long")=false
   split<;>decide+kernel
  rw [Yc I]
  rfl
 |f+1,B,p,n,as,gs,hf=>by
  unfold goF runS;by_cases c:p>rs.length
  ·rw [if_pos c,if_pos c,Yc (show qW (flt "silent")=false by decide+kernel)]
   rfl
  ·rw [if_neg c,if_neg c];cases R:rowO own (yq rs p) B p with
   |go L M=>exact Zs f L M (n+1) as gs (by omega)
   |stop e=>
    simp only;cases I:qW e with
    |false=>
     rw [if_neg u8,if_neg u8,Yc (by exact I)]
     rfl
    |true=>
     rw [if_pos rfl,if_pos rfl];cases as with
     |nil=>rfl
     |cons a as=>
      show(if XG a=true then _ else goF rs own f _ _ _ as _)=triple (if qW e=true then jq rs own (ansS rs own ⟨B,p,n,gs,e⟩ a) as else _)
      rw [I,if_pos rfl];unfold ansS;cases hn:XG a with
      |true=>
       rw [if_pos rfl,if_pos rfl,Yc (show qW (flt "lack")=false by decide+kernel)]
       rfl
      |false=>
       rw [if_neg u8,if_neg u8];have O:300-(n+1)=f:=by omega
       simp only [O];exact Zs f _ _ _ as _ (by omega)
def qZ (rs:List Rw)(own:Str)(as:List D):Rn:=jq rs own (runS rs own [] 300 B0 1 0) as
theorem goF_stand {rs:List Rw}{own:Str}(as:List D):goF rs own 300 B0 1 0 as []=triple (qZ rs own as):=Zs 300 B0 1 0 as [] rfl
structure RnOk (rs:List Rw)(r:Rn):Prop where
 tr:Tr r.B
 p1:1<=r.p
 p2:r.p<=rs.length+1
 n:r.n<=300
 gd:Gd r.th
 two:∃w e,r.th= .tup [.str w,e]
 gs:nL r.gs=true/\dpL r.gs<=30/\r.gs.length<=r.n
 ask:qW r.th=true->r.p<=rs.length/\(yq rs r.p).1∈ASK/\r.n<300/\∃(u:Str) (d:D),r.th= .tup [.str "asks",.tup [.str u,d]]/\u∈(["thing","has","names"]:List Str)/\isT d=true
mutual
theorem Y4:∀{d:D},good d=true->nD d=true
 | .str _,_=>rfl
 | .tup xs,h=>by
  simp only [good,ui] at h;simp only [nD];exact goodL_n h.2
 | .non,h=>by simp [good] at h
 | .bl _,h=>by simp [good] at h
 | .int _,h=>by simp [good] at h
 | .lst,h=>by simp [good] at h
 | .dct,h=>by simp [good] at h
theorem goodL_n:∀{ds:List D},goodL ds=true->nL ds=true
 | [],_=>rfl
 |d::ds,h=>by
  simp only [goodL,ui] at h;simp only [nL];rw [Y4 h.1,goodL_n h.2]
  rfl
end
theorem nL_app:∀{xs ys:List D},nL xs=true->nL ys=true->nL (xs++ys)=true
 | [],_,_,h=>h
 |x::xs,ys,h,h2=>by
  simp only [nL,ui] at h;simp only [vR,nL];rw [h.1,nL_app h.2 h2]
  rfl
theorem dpL_app (n:Nat){xs ys:List D}(h:dpL xs<=n)(h2:dpL ys<=n):dpL (xs++ys)<=n:=by
 rw [jv] at h h2⊢;intro x I;rcases List.mem_append.mp I with I|I
 ·exact h x I
 ·exact h2 x I
theorem rowO_ask {own:Str}{n:Nat}{r:Rw}{B:Str->D}{p:Int}{e:D}(hr:QI n 300 r)(h:Tr B)(I:rowO own r B p= .stop e)(L:qW e=true):r.1∈ASK/\∃(u:Str) (d:D),e= .tup [.str "asks",.tup [.str u,d]]/\u∈(["thing","has","names"]:List Str)/\isT d=true:=by
 unfold rowO at I;obtain⟨ks,hk,hp⟩:=id hr;obtain⟨M,ps⟩:=r;by_cases c1:M∈MKR
 ·rw [if_pos c1] at I;simp only at I;generalize made M B own ps=U at I;have aa:(if isT U=true then Out.go (setB B (b0 ps) U) (p+1) else .stop (flt "big"))= .stop e->False:=by
   intro Y;by_cases c:isT U=true
   ·rw [if_pos c] at Y;cases Y
   ·rw [if_neg c] at Y;cases Y;exact absurd L (by decide+kernel)
  cases U with
  |non=>cases I;exact absurd L (by decide+kernel)
  |_=>exact(aa I).elim
 rw [if_neg c1] at I;by_cases c2:M∈ASK
 ·rw [if_pos c2] at I;cases I;refine⟨c2,?_⟩;obtain⟨_,_,ek⟩:=xg _ hk c2;simp only at ek;subst ek;obtain⟨z0,O,rfl,h0,h1⟩:=y0 hp;have hT:=h O h1;have L:qW (askF M (B O))=true:=L;show∃u d,askF M (B O)=_/\_;unfold askF at L⊢;by_cases d1:M="names"
  ·rw [if_pos d1] at L⊢;by_cases R:isStr (B O)=true
   ·rw [if_pos R];exact⟨_,_,rfl,by decide+kernel,hT⟩
   ·rw [if_neg R] at L;exact absurd L (by decide+kernel)
  ·rw [if_neg d1] at L⊢;by_cases R:isNm (B O)=true
   ·rw [if_pos R];exact⟨_,_,rfl,by split<;>decide+kernel,hT⟩
   ·rw [if_neg R] at L;exact absurd L (by decide+kernel)
 rw [if_neg c2] at I;by_cases c3:M="say"
 ·rw [if_pos c3] at I;cases I;exact absurd L (by simp only [qW];exact fun h=>absurd (ua h) (by decide+kernel))
 rw [if_neg c3] at I;by_cases c4:M="fault"
 ·rw [if_pos c4] at I;cases I;exact absurd L (by decide+kernel)
 rw [if_neg c4] at I;by_cases c5:jump M B ps=true
 ·rw [if_pos c5] at I;cases I
 ·rw [if_neg c5] at I;cases I
theorem runS_ok {rs:List Rw}{own:Str}(O:Qu rs):∀(f:Nat) (B:Str->D) (p:Int) (n:Nat) (gs:List D),f+n=300->Tr B->1<=p->p<=rs.length+1->nL gs=true/\dpL gs<=30/\gs.length<=n->RnOk rs (runS rs own gs f B p n)
 |0,B,p,n,gs,hf,hT,h1,h2,hg=>by
  have L:qW (if p>rs.length then flt "silent" else flt "long")=false:=by split<;>decide+kernel
  refine⟨hT,h1,h2,by show n<=300;omega,?_,?_,hg,fun h=>absurd (L.symm.trans h) (by decide)⟩
  ·show Gd (if p>rs.length then flt "silent" else flt "long")
   split
   ·exact gd_f (by decide+kernel)
   ·exact gd_f (by decide+kernel)
  ·show∃w e,(if p>rs.length then flt "silent" else flt "long")=_
   split
   ·exact⟨_,_,rfl⟩
   ·exact⟨_,_,rfl⟩
 |f+1,B,p,n,gs,hf,hT,h1,h2,hg=>by
  unfold runS;by_cases c:p>rs.length
  ·rw [if_pos c];exact⟨hT,h1,h2,by show n<=300;omega,gd_f (by decide+kernel),⟨_,_,rfl⟩,hg,fun h=>absurd h (show¬qW (flt "silent")=true by decide+kernel)⟩
  ·rw [if_neg c];have I:=O.ok _ (Zq h1 (by omega))
   have hok:=rowO_ok (own:=own) I hT h1 (by omega)
   cases M:rowO own (yq rs p) B p with
   |go R U=>
    rw [M] at hok;exact runS_ok O f R U (n+1) gs (by omega) hok.1 hok.2.1 hok.2.2 ⟨hg.1,hg.2.1,by have:=hg.2.2;omega⟩
   |stop e=>
    rw [M] at hok;simp only;refine⟨hT,h1,h2,?_,rowO_gd I hT M,hok,⟨hg.1,hg.2.1,?_⟩,fun L=> ?_⟩
    ·show(if qW e=true then n else n+1)<=300
     split<;>omega
    ·show gs.length<=(if qW e=true then n else n+1)
     have:=hg.2.2;split<;>omega
    ·obtain⟨Y,u,d,a2,a3,a4⟩:=rowO_ask I hT M L;refine⟨by show p<=rs.length;omega,Y,?_,u,d,a2,a3,a4⟩
     show(if qW e=true then n else n+1)<300
     rw [if_pos (show qW e=true from L)]
     omega
theorem ansS_ok {rs:List Rw}{own:Str}(M:Qu rs){r:Rn}{a:D}(h:RnOk rs r)(O:qW r.th=true)(ha:Xn a):RnOk rs (ansS rs own r a):=by
 obtain⟨k1,k2,k3,u,d,e,Y,k5⟩:=h.ask O;have I:nD a=true/\dp a<=12:=by
  rcases ha with rfl|ha
  ·exact⟨rfl,by simp [dp]⟩
  ·exact⟨Y4 (yP ha),Jt ha⟩
 have R:=Jt k5;have L:nL (r.gs++ [D.tup [askOf r.th,a]])=true/\dpL (r.gs++ [D.tup [askOf r.th,a]])<=30/\(r.gs++ [D.tup [askOf r.th,a]]).length<=r.n+1:=by
  rw [e];show nL (r.gs++ [.tup [.tup [.str u,d],a]])=true/\_;refine⟨nL_app h.gs.1 ?_,dpL_app 30 h.gs.2.1 ?_,?_⟩
  ·simp only [nL,nD,Y4 (yP k5),I.1,vD]
  ·show dpL [.tup [.tup [.str u,d],a]]<=30;simp only [dpL,dp];have:=I.2;omega
  ·rw [uf];have:=h.gs.2.2;show r.gs.length+1<=r.n+1;omega
 unfold ansS;cases hn:XG a with
 |true=>
  rw [if_pos rfl];exact⟨h.tr,h.p1,h.p2,by show r.n+1<=300;omega,⟨(by decide+kernel:good (flt "lack")=true),by show dp (.tup [.str "fault",.str "lack"])<=20;simp [dp,dpL]⟩,⟨_,_,rfl⟩,L,fun h=>absurd h (show¬qW (flt "lack")=true by decide+kernel)⟩
 |false=>
  rw [if_neg u8];have U:isT a=true:=by
   rcases ha with rfl|ha
   ·cases hn
   ·exact ha
  refine runS_ok M _ _ _ _ _ (by omega) (ZQ h.tr U) (by have:=h.p1;omega) (by omega) L
theorem goneS_ok {rs:List Rw}{own:Str}(I:Qu rs):∀(as:List D) (r:Rn),RnOk rs r->(∀a∈as,Xn a)->RnOk rs (jq rs own r as)
 | [],r,h,_=>h
 |a::as,r,h,ha=>by
  unfold jq;cases L:qW r.th with
  |true=>
   rw [if_pos rfl];exact goneS_ok I as _ (ansS_ok I h L (ha a uq)) fun x M=>ha x (uh _ M)
  |false=>rw [if_neg u8];exact h
theorem yO {rs:List Rw}{own:Str}(I:Qu rs){as:List D}(ha:∀a∈as,Xn a):RnOk rs (qZ rs own as):=
 goneS_ok I as _ (runS_ok I 300 B0 1 0 [] rfl B0_tr (by omega) (by omega) ⟨rfl,by simp [dpL],ug _⟩) ha
def NMS:List Str:= ["a","b1","c/d","e.f"]
def WRD:List Str:=NMS++(["","x","b1 g","yes","c/d"]:List Str)
theorem zG:∀z∈WRD,z.length<=4/\z.cps.toList.all qX=true:=by decide+kernel
theorem nms_ok:∀z∈NMS,nm z=true/\z.length<=100:=by decide+kernel
def sp_word (K:PySem.W.Frag):Sp:=fun vs H Q _=>∃p L:Addr,vs= [.ref p,.ref L]/\Qv H p/\H L=some (.lst (NMS.map V.str))/\∀(z:Str) (H':Hp),z∈WRD->Qv H' p->Kept p H H'->Q (.str z) H'
theorem Kept.of {p:Addr}{H H':Hp}(s:Same H H'):Kept p H H':=fun b o e _=>s b o e
theorem Qv.ne_lst {H:Hp}{p l:Addr}(h:Qv H p)(e:H l=some (.lst (WRD.map V.str))):l≠p:=fun z=>by
 obtain⟨x,e2,_⟩:=h;rw [<-z,e] at e2;have I:(WRD.map V.str).length= [V.int x].length:=by
  injection e2 with L
  injection L with M
  rw [M]
 exact absurd (show(9:Nat)=1 from I) (by decide)
theorem ok_word (T:Tx K mg a):FnOk P w K mg base CX0 2 a.Zf a.zY ["pot","names"] (sp_word K):=by
 have Y:=Y2 (P:=P) (w:=w) (base:=base) T;refine T.g_law_word.F.ok XH () (fun _ _ _ _ H _ Q E hr h=> ?_)
 obtain⟨p,L,rfl,O,hL,k⟩:=h;refine⟨_,(@qe _ _ _ _ _ (@qB _ _ (2) _ _ _ _ XH.nd rfl (Or.inl rfl) (@qT _ _ _ _ _ _ _ _ op_cat (pv 1) (@Qb _ _ _ _ (@qa _ _ _ _ _ qi (@qa _ _ _ _ _ qi (@qa _ _ _ _ _ qi (@qa _ _ _ _ _ qi (@qa _ _ _ _ _ qi qc ()) ()) ()) ()) ()))) () ()) (@qg _ _ _ (@ql _ _ _ _ (@qF _ _ _ _ _ _ _ qO (pv 2) (@qv _ _ _ _ _ _ _ _ _ _ _ _ _ _ _ _ Y (hr.mono ()) () T.g_law_take.m T.g_law_take.F.kp T.g_law_take.b .nil qN (@qa _ _ _ _ _ (pv 0) (@qa _ _ _ _ _ (@qk _ _ _ _ _ _ _ _ _ qE () T.Qy um (@qa _ _ _ _ _ (pv 2) qc ()) () () () ()) qc ()) ()) () () ()) (fun _ _=>rfl))))),?_⟩
 refine⟨_,rfl,(by show 5<=sizeLine;decide),fun q hq=> ?_⟩
 have s1:Same H (upd H q (.lst [.str "",.str "x",.str "b1 g",.str "yes",.str "c/d"])):=qb hq _;refine⟨L,q,_,_,rfl,rfl,s1 _ _ hL,qh,(by show 4+5<=sizeLine;decide),fun l hl=> ?_⟩
 have s2:=s1.trans (qb hl (.lst (NMS.map V.str++ [.str "",.str "x",.str "b1 g",.str "yes",.str "c/d"])));have I:(upd (upd H q (.lst [.str "",.str "x",.str "b1 g",.str "yes",.str "c/d"])) l (.lst (NMS.map V.str++ [.str "",.str "x",.str "b1 g",.str "yes",.str "c/d"]))) l=some (.lst (WRD.map V.str)):=qh;generalize upd (upd H q (.lst [.str "",.str "x",.str "b1 g",.str "yes",.str "c/d"])) l (.lst (NMS.map V.str++ [.str "",.str "x",.str "b1 g",.str "yes",.str "c/d"]))=H2 at s2 I⊢;have P2:=O.same s2;refine⟨_,rfl,_,rfl,_,rfl,l,_,rfl,.inl (SqL.of I),p,9,rfl,P2,by decide,by decide,fun d H' d0 d1 P3 R _=> ?_⟩
 have M:=R _ _ I (O.same s2|>.ne_lst I)
 obtain⟨v,U⟩:=xN (xs:=WRD.map V.str) d0 (by show d<9;exact d1)
 obtain⟨z,hz,rfl⟩:=List.mem_map.mp (ZM U);exact⟨l,_,d,_,rfl,rfl,SqL.of M,U,k z H' hz P3 ((Kept.of s2).trans R)⟩
def WL:List Str:= ["ask","ask","ask","has","names","text","text","copy","put","put","join","first","first","rest","size","cut","glue","like","none","rowed","go","say","fault","self"]
abbrev WT:Str:="ask ask ask has names text text copy put put join first first rest size cut glue like none rowed"
theorem wl_spl:spl ((WT++(" go say fault self":Str)).length+1) (WT++(" go say fault self":Str))=WL:=by decide+kernel
def sp_line (K:PySem.W.Frag):Sp:=fun vs H Q _=>∃(p L:Addr) (many k:Nat),vs= [.ref p,.ref L,.int (many:Int),.int (k:Int)]/\Qv H p/\H L=some (.lst (NMS.map V.str))/\5<=many/\many<=40/\k<=40/\
 ∀(r:Rw) (H':Hp),QI many 4 r->Qv H' p->Kept p H H'->Q (.str (qH r)) H'
theorem abc_at {d:Int}(O:0<=d)(h1:d<5):∃c,atI ("abcdh":Str).cps.toList d=some c/\(⟨#[c]⟩:Str)∈BX:=by
 obtain⟨k,rfl⟩:∃k:Fin 5,d=((k.val:Nat):Int):=⟨⟨d.toNat,by omega⟩,by simp;omega⟩
 have I:∀k:Fin 5,∃c,("abcdh":Str).cps.toList[k.val]? =some c/\(⟨#[c]⟩:Str)∈BX:=by
  have e:∀k:Fin 5,(("abcdh":Str).cps.toList[k.val]?).any (fun c=>decide ((⟨#[c]⟩:Str)∈BX))=true:=by decide+kernel
  intro k;have:=e k;cases h:("abcdh":Str).cps.toList[k.val]? with
  |none=>rw [h] at this;cases this
  |some c=>rw [h] at this;exact⟨c,rfl,ua this⟩
 obtain⟨c,L,M⟩:=I k;exact⟨c,qS L,M⟩
theorem join3t (x y:Str):(("text "++x:Str)++(" ":Str)++y:Str)=qH ("text",[.s x,.s y]):=by
 show _=Str.join " " ["text",x,y];have e:("text ":Str)="text"++(" ":Str):=by decide+kernel
 rw [e];show(⟨((("text":Str).cps++(" ":Str).cps)++x.cps)++(" ":Str).cps++y.cps⟩:Str)=⟨(("text":Str).cps++(" ":Str).cps)++((x.cps++(" ":Str).cps)++y.cps)⟩;simp [Uy]
def GRP:List Str:= ["ask","has","names","copy","put","join","first","rest","size"]
theorem grp_no:∀z∈GRP,z≠"text"/\z∉(["self","say"]:List Str)/\z≠"fault"/\z≠"go"/\z∉(["none","rowed"]:List Str)/\z≠"like"/\z∉(["cut","glue"]:List Str)/\(z,[Kd.box,.box])∈FRM/\z.length<=10:=by decide+kernel
theorem inV_two (z x y:Str):inV (.str z) [.str x,.str y]=decide (z∈([x,y]:List Str)):=jG (z:=z) (l:= [x,y])
theorem ok_line (T:Tx K mg a):FnOk P w K mg base CX0 3 a.zE a.zq ["pot","names","many","k"] (sp_line K):=by
 have qI:=Y2 (P:=P) (w:=w) (base:=base) T;have yA:=ok_word (P:=P) (w:=w) (base:=base) T;refine T.g_law_line.F.ok QU () (fun _ _ _ _ H _ Q E hr h=> ?_)
 obtain⟨p,L,many,i,rfl,hP,hL,aE,aF,hi,k⟩:=h;refine⟨_,(@qe _ _ _ _ _ (@qB _ _ (4) _ _ _ _ QU.nd rfl (Or.inl rfl) qi () ()) (@qe _ _ _ _ _ (@qB _ _ (5) _ _ _ _ QU.nd rfl (Or.inl rfl) (@qF _ _ _ _ _ _ _ qO (@Yj _ _ _ _ _ _ _ _ _ _ _ _ uH vz vA Zj (@qT _ _ _ _ _ _ _ _ Qj (pv 4) qi) (@qa _ _ _ _ _ qi qc ()) () () () () ()) (@qv _ _ _ _ _ _ _ _ _ _ _ _ _ _ _ _ qI (hr.mono ()) () T.g_law_take.m T.g_law_take.F.kp T.g_law_take.b .nil qN (@qa _ _ _ _ _ (pv 0) (@qa _ _ _ _ _ qj qc ()) ()) () () ()) (fun _ _=>rfl)) () ()) (@qe _ _ _ _ _ (@X5 _ _ _ _ _ _ (@JG _ _ (["j","pot"]) (1) ([0]) _ _ _ _ _ _ _ _ _ (lcsN (qp jj) ["pot","names","many","k","words","word","one","two","three","at"]) rfl (@YV _ _ _ _ _ _ () T.JS (@qa _ _ _ _ _ qj qc ()) ()) (fun _ _ _ _ _ _=>(@qQ _ _ (0) _ (show List.Nodup (["j","pot"]:List Str) by decide+kernel) rfl (Or.inl rfl) ())) (fun _ _ _ _ _ _=> @QW _) (fun _ _ _ _ _ _=>(@qF _ _ _ _ _ _ _ ix_str qi (@qv _ _ _ _ _ _ _ _ _ _ _ _ _ _ _ _ qI (hr.mono ()) () T.g_law_take.m T.g_law_take.F.kp T.g_law_take.b .nil qN (@qa _ _ _ _ _ (pv 1) (@qa _ _ _ _ _ qj qc ()) ()) () () ()) (fun _ _=>rfl))) ()) (@pg_lstU _ _ _ _ _ _ rfl (Qq (@qQ _ _ (6) _ QU.nd rfl (Or.inl rfl) ()) (Qq (@qQ _ _ (7) _ QU.nd rfl (Or.inl rfl) ()) (Qq (@qQ _ _ (8) _ QU.nd rfl (Or.inl rfl) ()) YT))) () ()) () () ()) (@qe _ _ _ _ _ (@qB _ _ (9) _ _ _ _ QU.nd rfl (Or.inl rfl) (@qP _ _ _ _ _ _ _ _ _ yN () T.yy vr (@qa _ _ _ _ _ (@qk _ _ _ _ _ _ _ _ _ (@call_min2 _ rfl) () T.z_min boot_min (@qa _ _ _ _ _ (pv 2) (@qa _ _ _ _ _ (@qT _ _ _ _ _ _ _ _ Qz (@qT _ _ _ _ _ _ _ _ Qz (pv 3) qj) (@qv _ _ _ _ _ _ _ _ _ _ _ _ _ _ _ _ qI (hr.mono ()) () T.g_law_take.m T.g_law_take.F.kp T.g_law_take.b .nil qN (@qa _ _ _ _ _ (pv 0) (@qa _ _ _ _ _ (pv 2) qc ()) ()) () () ())) qc ()) ()) () () () ()) qc ()) () () () ()) () ()) (@qe _ _ _ _ _ (@qG _ _ _ _ _ _ _ _ (@qm _ _ _ _ _ _ _ _ Qg (pv 5) qi (qw _)) (@qg _ _ _ (@ql _ _ _ _ (@qT _ _ _ _ _ _ _ _ Qj (@qT _ _ _ _ _ _ _ _ Qj (@qT _ _ _ _ _ _ _ _ Qj qi (pv 6)) qi) (@qv _ _ _ _ _ _ _ _ _ _ _ _ _ _ _ _ yA (hr.mono ()) () T.g_law_word.m T.g_law_word.F.kp T.g_law_word.b .nil qN (@qa _ _ _ _ _ (pv 0) (@qa _ _ _ _ _ (pv 1) qc ()) ()) () () ())))) qq) (@qe _ _ _ _ _ (@qG _ _ _ _ _ _ _ _ (@qm _ _ _ _ _ _ _ _ Qr (pv 5) (@Qb _ _ _ _ (@qa _ _ _ _ _ qi (@qa _ _ _ _ _ qi qc ()) ())) (by with_unfolding_all rfl)) (@qg _ _ _ (@ql _ _ _ _ (@qT _ _ _ _ _ _ _ _ Qj (@qT _ _ _ _ _ _ _ _ Qj (pv 5) qi) (pv 6)))) qq) (@qe _ _ _ _ _ (@qG _ _ _ _ _ _ _ _ (@qm _ _ _ _ _ _ _ _ Qg (pv 5) qi (qw _)) (@qg _ _ _ (@ql _ _ _ _ (pv 5))) qq) (@qe _ _ _ _ _ (@qG _ _ _ _ _ _ _ _ (@qm _ _ _ _ _ _ _ _ Qg (pv 5) qi (qw _)) (@qg _ _ _ (@ql _ _ _ _ (@qT _ _ _ _ _ _ _ _ Qj qi (pv 9)))) qq) (@qe _ _ _ _ _ (@qG _ _ _ _ _ _ _ _ (@qm _ _ _ _ _ _ _ _ Qr (pv 5) (@Qb _ _ _ _ (@qa _ _ _ _ _ qi (@qa _ _ _ _ _ qi qc ()) ())) (by with_unfolding_all rfl)) (@qg _ _ _ (@ql _ _ _ _ (@Yj _ _ _ _ _ _ _ _ _ _ _ _ uH vI vJ ZA qi (@qa _ _ _ _ _ (@Qb _ _ _ _ (@qa _ _ _ _ _ (pv 5) (@qa _ _ _ _ _ (pv 6) (@qa _ _ _ _ _ (pv 9) qc ()) ()) ())) qc ()) () () () () ()))) qq) (@qe _ _ _ _ _ (@qG _ _ _ _ _ _ _ _ (@qm _ _ _ _ _ _ _ _ Qg (pv 5) qi (qw _)) (@qg _ _ _ (@ql _ _ _ _ (@Yj _ _ _ _ _ _ _ _ _ _ _ _ uH vI vJ ZA qi (@qa _ _ _ _ _ (@Qb _ _ _ _ (@qa _ _ _ _ _ (pv 5) (@qa _ _ _ _ _ (pv 6) (@qa _ _ _ _ _ (pv 7) (@qa _ _ _ _ _ (pv 9) qc ()) ()) ()) ())) qc ()) () () () () ()))) qq) (@qe _ _ _ _ _ (@qG _ _ _ _ _ _ _ _ (@qm _ _ _ _ _ _ _ _ Qr (pv 5) (@Qb _ _ _ _ (@qa _ _ _ _ _ qi (@qa _ _ _ _ _ qi qc ()) ())) (by with_unfolding_all rfl)) (@qg _ _ _ (@ql _ _ _ _ (@Yj _ _ _ _ _ _ _ _ _ _ _ _ uH vI vJ ZA qi (@qa _ _ _ _ _ (@Qb _ _ _ _ (@qa _ _ _ _ _ (pv 5) (@qa _ _ _ _ _ (pv 6) (@qa _ _ _ _ _ (pv 7) (@qa _ _ _ _ _ (pv 8) qc ()) ()) ()) ())) qc ()) () () () () ()))) qq) (@qg _ _ _ (@ql _ _ _ _ (@Yj _ _ _ _ _ _ _ _ _ _ _ _ uH vI vJ ZA qi (@qa _ _ _ _ _ (@Qb _ _ _ _ (@qa _ _ _ _ _ (pv 5) (@qa _ _ _ _ _ (pv 6) (@qa _ _ _ _ _ (pv 7) qc ()) ()) ())) qc ()) () () () () ())))))))))))))),?_⟩
 dsimp only [cxOf,Cx.nox];have ne:∀{H:Hp}{b:Addr}{l:List V},Qv H p->H b=some (.lst l)->l.length≠1->b≠p:=fun hP e hl z=>by
  obtain⟨x,e2,_⟩:=hP;rw [<-z,e] at e2;injection e2 with e3
  injection e3 with e4
  exact hl (by rw [e4];rfl)
 refine⟨_,rfl,_,_,rfl,rfl,(by decide+kernel),rfl,_,rfl,rfl,(by decide+kernel),fun q hq=> ?_⟩
 rw [show spl _ _=WL from wl_spl]
 have s1:Same H (upd H q (.lst (WL.map V.str))):=qb hq _;have eq:(upd H q (.lst (WL.map V.str))) q=some (.lst (WL.map V.str)):=qh;generalize upd H q (.lst (WL.map V.str))=H1 at s1 eq⊢;have P1:=hP.same s1;refine⟨_,rfl,p,24,rfl,P1,by decide,by decide,fun d H2 d0 d1 P2 K2 _=> ?_⟩
 obtain⟨v,hv⟩:=xN (xs:=WL.map V.str) d0 (by show d<24;exact d1)
 obtain⟨z,hz,rfl⟩:=List.mem_map.mp (ZM hv);refine⟨q,_,d,_,rfl,rfl,SqL.of (K2 _ _ eq (ne P1 eq (by show(24:Nat)≠1;decide))),hv,?_⟩
 have av:Kept p H H2:=(Kept.of s1).trans K2;have aG:=av _ _ hL (ne hP hL (by show(4:Nat)≠1;decide))
 refine⟨3,rfl,by decide,by decide,fun D hD=> ?_⟩
 refine ZJ (lo:=0) (tl:= [some (.ref p)]) (fun i ys H'=>∃bs:List Str,ys=bs.map V.str/\bs.length=i/\(∀b∈bs,b∈BX)/\Qv H' p/\(∀b o,H2 b=some o->b≠p->H' b=some o)) (qY (by decide)) ⟨[],rfl,rfl,fun b hb=>by simp at hb,P2.same (qb hD _),fun b o e _=>qb hD _ _ _ e⟩ ?_ ?_
 ·rintro j ys H' hj ⟨bs,rfl,aq,ah,P',K'⟩ au hy R hR;refine⟨_,rfl,p,5,rfl,P',by decide,by decide,fun d3 H4 e0 e1 P4 K4 _=> ?_⟩
  obtain⟨c,hc,ax⟩:=abc_at e0 e1;refine⟨"abcdh",d3,c,rfl,rfl,(by decide+kernel),hc,?_⟩
  have nD:D≠p:=fun z=>by
   obtain⟨x,e2,_⟩:=P2;rw [z,e2] at hD;cases hD
  refine hR _ H4 (K4 _ _ au nD) ⟨bs++ [⟨#[c]⟩],by rw [uE];rfl,by rw [uf,aq];rfl,fun b hb=> ?_,?_,fun b o e np=> ?_⟩
  ·rcases List.mem_append.mp hb with h|h
   ·exact ah b h
   ·rw [vh] at h;subst h;exact ax
  ·obtain⟨x,e2,h2⟩:=P4;exact⟨x,by rw [qx nD.symm];exact e2,h2⟩
  ·rw [qx (qr e hD)];exact K4 _ _ (K' b o e np) np
 ·rintro ys H' ⟨bs,rfl,aq,ah,P',K'⟩ au;obtain⟨x1,x2,x3,rfl⟩:∃x1 x2 x3,bs= [x1,x2,x3]:=by
   match bs,aq with
   | [x1,x2,x3],_=>exact⟨x1,x2,x3,rfl⟩
  have h1:=ah x1 (by simp)
  have h2:=ah x2 (by simp)
  have h3:=ah x3 (by simp)
  refine⟨D,_,rfl,SqL.of au,rfl,_,_,rfl,_,_,rfl,_,_,rfl,rfl,?_⟩;refine⟨_,rfl,_,rfl,_,_,rfl,rfl,_,rfl,_,rfl,p,many,rfl,P',by omega,by omega,fun d5 H5 f0 f1 P5 K5 _=>⟨_,_,rfl,rfl,_,_,rfl,?_⟩⟩
  obtain⟨j,ej,ak,ap⟩:∃j:Int,j=(if(i:Int)+5+d5<(many:Int) then(i:Int)+5+d5 else(many:Int))/\1<=j/\j<=many:=⟨_,rfl,by split<;>omega,by split<;>omega⟩
  rw [<-ej];have ag:=(Yk ak (by omega)).1
  have aw:j.natAbs.log2<1920:=by have:=UL j.natAbs;omega
  refine⟨_,rfl,aw,?_⟩;have KD:Kept p H H':=fun b o e np=>K' b o (av b o e np) np;have ab:Kept p H H5:=KD.trans K5;have ay:=ab _ _ hL (ne hP hL (by show(4:Nat)≠1;decide))
  have two:(2:Nat)<=sizeLine:=by decide
  clear hv;simp only [WL,uB,vw,vb] at hz;have aA:z="ask"∨z="has"∨z="names"∨z="text"∨z="copy"∨z="put"∨z="join"∨z="first"∨z="rest"∨z="size"∨z="cut"∨z="glue"∨z="like"∨z="none"∨z="rowed"∨z="go"∨z="say"∨z="fault"∨z="self":=by
   rcases hz with h|h|h|h|h|h|h|h|h|h|h|h|h|h|h|h|h|h|h|h|h|h|h|h<;>simp only [h,true_or,or_true]
  have es:∀y:Str,decide (V.str z=V.str y)=decide (z=y):=fun y=>by
   rw [uA];exact⟨fun h=>by injection h,fun h=>by rw [h]⟩
  by_cases hG:z∈GRP
  ·obtain⟨g1,g2,g3,g4,g5,g6,g7,aB,aC⟩:=grp_no z hG;refine⟨_,rfl,rfl,_,rfl,qo (by rw [es];exact u9 g1) ?_⟩
   refine⟨_,rfl,two,fun l1 M=>⟨l1,_,rfl,.inl (SqL.of qh),rfl,rfl,_,rfl,?_⟩⟩;have I:=qb M (.lst ([.str "self",.str "say"]:List V));have O:=P5.same I;have U:Kept p H _:=ab.trans (Kept.of I);refine qo (by rw [if_neg u8,inV_two];exact u9 g2) ?_
   refine⟨_,rfl,rfl,_,rfl,qo (by rw [es];exact u9 g3) ?_⟩
   refine⟨_,rfl,rfl,_,rfl,qo (by rw [es];exact u9 g4) ?_⟩
   refine⟨_,rfl,two,fun l2 ac=>⟨l2,_,rfl,.inl (SqL.of qh),rfl,rfl,_,rfl,?_⟩⟩;have Y:=qb ac (.lst ([.str "none",.str "rowed"]:List V));have ad:=O.same Y;have ae:Kept p H _:=U.trans (Kept.of Y);refine qo (by rw [if_neg u8,inV_two];exact u9 g5) ?_
   refine⟨_,rfl,rfl,_,rfl,qo (by rw [es];exact u9 g6) ?_⟩
   refine⟨_,rfl,two,fun l3 al=>⟨l3,_,rfl,.inl (SqL.of qh),rfl,rfl,_,rfl,?_⟩⟩;have af:=qb al (.lst ([.str "cut",.str "glue"]:List V));have am:=ad.same af;have ao:Kept p H _:=ae.trans (Kept.of af);refine qo (by rw [if_neg u8,inV_two];exact u9 g7) ?_
   refine⟨rfl,_,rfl,_,rfl,_,rfl,(by show 3<=sizeLine;decide),fun q2 aa=> ?_⟩
   refine⟨" ",q2,[z,x1,x2],rfl,rfl,SqL.of qh,?_,?_⟩
   ·simp only [uj,vj,vn,Uv,ud,v8];have e1:(" ":Str).length=1:=by decide+kernel
    have e2:=aC;have:=(Qo h1).1;have:=(Qo h2).1;have:=(Qo h3).1;have:=ag;omega
   ·exact k (z,[.s x1,.s x2]) _ ⟨[.box,.box],aB,h1,h2,trivial⟩ (am.same (qb aa _)) (ao.trans (Kept.of (qb aa _)))
  clear es;have aD:z="text"∨z="cut"∨z="glue"∨z="like"∨z="none"∨z="rowed"∨z="go"∨z="say"∨z="fault"∨z="self":=by
   rcases aA with h|h|h|h|h|h|h|h|h|h|h|h|h|h|h|h|h|h|h<;>first|exact absurd (by rw [h];decide+kernel) hG|simp only [h,true_or,or_true]
  rcases aD with rfl|rfl|rfl|rfl|rfl|rfl|rfl|rfl|rfl|rfl
  ·refine⟨_,rfl,rfl,_,rfl,qA (show decide (V.str ("text":Str)=V.str "text")=true by decide+kernel) ?_⟩
   refine⟨_,rfl,_,_,rfl,rfl,fits (by rw [(Qo h1).1];decide+kernel),_,_,rfl,rfl,fits (by rw [jO,(Qo h1).1];decide+kernel),_,rfl,_,rfl,p,L,rfl,P5,ay,fun y H6 hy P6 K6=> ?_⟩
   obtain⟨y1,y2⟩:=zG y hy;have hb:=(Qo h1).1;refine⟨_,_,rfl,rfl,fits (by rw [jO,jO,hb];have e5:("text ":Str).length=5:=(by decide+kernel);have e6:(" ":Str).length=1:=(by decide+kernel);omega),?_⟩
   rw [join3t];exact k ("text",[.s x1,.s y]) H6 ⟨[.box,.words],(show(("text":Str),[Kd.box,.words])∈FRM by decide+kernel),h1,⟨y1,y2⟩,trivial⟩ P6 (ab.trans K6)
  ·refine⟨_,rfl,rfl,_,rfl,qo (show decide (V.str ("cut":Str)=V.str "text")=false by decide+kernel) ?_⟩
   refine⟨_,rfl,two,fun l1 M=>⟨l1,_,rfl,.inl (SqL.of qh),rfl,rfl,_,rfl,?_⟩⟩;have I:=qb M (.lst ([.str "self",.str "say"]:List V));have O:=P5.same I;have U:Kept p H _:=ab.trans (Kept.of I);refine qo (by decide+kernel) ?_
   refine⟨_,rfl,rfl,_,rfl,qo (show decide (V.str ("cut":Str)=V.str "fault")=false by decide+kernel) ?_⟩
   refine⟨_,rfl,rfl,_,rfl,qo (show decide (V.str ("cut":Str)=V.str "go")=false by decide+kernel) ?_⟩
   refine⟨_,rfl,two,fun l2 ac=>⟨l2,_,rfl,.inl (SqL.of qh),rfl,rfl,_,rfl,?_⟩⟩;have Y:=qb ac (.lst ([.str "none",.str "rowed"]:List V));have ad:=O.same Y;have ae:Kept p H _:=U.trans (Kept.of Y);refine qo (by decide+kernel) ?_
   refine⟨_,rfl,rfl,_,rfl,qo (show decide (V.str ("cut":Str)=V.str "like")=false by decide+kernel) ?_⟩
   refine⟨_,rfl,two,fun l3 al=>⟨l3,_,rfl,.inl (SqL.of qh),rfl,rfl,_,rfl,?_⟩⟩;have af:=qb al (.lst ([.str "cut",.str "glue"]:List V));have am:=ad.same af;have ao:Kept p H _:=ae.trans (Kept.of af);refine qA (by decide+kernel) ?_
   refine⟨rfl,_,rfl,_,rfl,_,rfl,_,rfl,(by show 4<=sizeLine;decide),fun q2 aa=> ?_⟩
   refine⟨" ",q2,["cut",x1,x2,x3],rfl,rfl,SqL.of qh,?_,?_⟩
   ·simp only [uj,vj,vn,Uv,ud,v8];have e1:(" ":Str).length=1:=by decide+kernel
    have e2:("cut":Str).length<=10:=by decide+kernel
    have:=(Qo h1).1;have:=(Qo h2).1;have:=(Qo h3).1;have:=ag;omega
   ·exact k ("cut",[.s x1,.s x2,.s x3]) _ ⟨[.box,.box,.box],(show(("cut":Str),[Kd.box,.box,.box])∈FRM by decide+kernel),h1,h2,h3,trivial⟩ (am.same (qb aa _)) (ao.trans (Kept.of (qb aa _)))
  ·refine⟨_,rfl,rfl,_,rfl,qo (show decide (V.str ("glue":Str)=V.str "text")=false by decide+kernel) ?_⟩
   refine⟨_,rfl,two,fun l1 M=>⟨l1,_,rfl,.inl (SqL.of qh),rfl,rfl,_,rfl,?_⟩⟩;have I:=qb M (.lst ([.str "self",.str "say"]:List V));have O:=P5.same I;have U:Kept p H _:=ab.trans (Kept.of I);refine qo (by decide+kernel) ?_
   refine⟨_,rfl,rfl,_,rfl,qo (show decide (V.str ("glue":Str)=V.str "fault")=false by decide+kernel) ?_⟩
   refine⟨_,rfl,rfl,_,rfl,qo (show decide (V.str ("glue":Str)=V.str "go")=false by decide+kernel) ?_⟩
   refine⟨_,rfl,two,fun l2 ac=>⟨l2,_,rfl,.inl (SqL.of qh),rfl,rfl,_,rfl,?_⟩⟩;have Y:=qb ac (.lst ([.str "none",.str "rowed"]:List V));have ad:=O.same Y;have ae:Kept p H _:=U.trans (Kept.of Y);refine qo (by decide+kernel) ?_
   refine⟨_,rfl,rfl,_,rfl,qo (show decide (V.str ("glue":Str)=V.str "like")=false by decide+kernel) ?_⟩
   refine⟨_,rfl,two,fun l3 al=>⟨l3,_,rfl,.inl (SqL.of qh),rfl,rfl,_,rfl,?_⟩⟩;have af:=qb al (.lst ([.str "cut",.str "glue"]:List V));have am:=ad.same af;have ao:Kept p H _:=ae.trans (Kept.of af);refine qA (by decide+kernel) ?_
   refine⟨rfl,_,rfl,_,rfl,_,rfl,_,rfl,(by show 4<=sizeLine;decide),fun q2 aa=> ?_⟩
   refine⟨" ",q2,["glue",x1,x2,x3],rfl,rfl,SqL.of qh,?_,?_⟩
   ·simp only [uj,vj,vn,Uv,ud,v8];have e1:(" ":Str).length=1:=by decide+kernel
    have e2:("glue":Str).length<=10:=by decide+kernel
    have:=(Qo h1).1;have:=(Qo h2).1;have:=(Qo h3).1;have:=ag;omega
   ·exact k ("glue",[.s x1,.s x2,.s x3]) _ ⟨[.box,.box,.box],(show(("glue":Str),[Kd.box,.box,.box])∈FRM by decide+kernel),h1,h2,h3,trivial⟩ (am.same (qb aa _)) (ao.trans (Kept.of (qb aa _)))
  ·refine⟨_,rfl,rfl,_,rfl,qo (show decide (V.str ("like":Str)=V.str "text")=false by decide+kernel) ?_⟩
   refine⟨_,rfl,two,fun l1 M=>⟨l1,_,rfl,.inl (SqL.of qh),rfl,rfl,_,rfl,?_⟩⟩;have I:=qb M (.lst ([.str "self",.str "say"]:List V));have O:=P5.same I;have U:Kept p H _:=ab.trans (Kept.of I);refine qo (by decide+kernel) ?_
   refine⟨_,rfl,rfl,_,rfl,qo (show decide (V.str ("like":Str)=V.str "fault")=false by decide+kernel) ?_⟩
   refine⟨_,rfl,rfl,_,rfl,qo (show decide (V.str ("like":Str)=V.str "go")=false by decide+kernel) ?_⟩
   refine⟨_,rfl,two,fun l2 ac=>⟨l2,_,rfl,.inl (SqL.of qh),rfl,rfl,_,rfl,?_⟩⟩;have Y:=qb ac (.lst ([.str "none",.str "rowed"]:List V));have ad:=O.same Y;have ae:Kept p H _:=U.trans (Kept.of Y);refine qo (by decide+kernel) ?_
   refine⟨_,rfl,rfl,_,rfl,qA (show decide (V.str ("like":Str)=V.str "like")=true by decide+kernel) ?_⟩
   refine⟨rfl,_,rfl,_,rfl,_,rfl,_,rfl,(by show 4<=sizeLine;decide),fun q2 aa=> ?_⟩
   refine⟨" ",q2,["like",x1,x2,toString j],rfl,rfl,SqL.of qh,?_,?_⟩
   ·simp only [uj,vj,vn,Uv,ud,v8];have e1:(" ":Str).length=1:=by decide+kernel
    have e2:("like":Str).length<=10:=by decide+kernel
    have:=(Qo h1).1;have:=(Qo h2).1;have:=(Qo h3).1;have:=ag;omega
   ·exact k ("like",[.s x1,.s x2,.n j]) _ ⟨[.box,.box,.line],(show(("like":Str),[Kd.box,.box,.line])∈FRM by decide+kernel),h1,h2,⟨ak,ap⟩,trivial⟩ (ad.same (qb aa _)) (ae.trans (Kept.of (qb aa _)))
  ·refine⟨_,rfl,rfl,_,rfl,qo (show decide (V.str ("none":Str)=V.str "text")=false by decide+kernel) ?_⟩
   refine⟨_,rfl,two,fun l1 M=>⟨l1,_,rfl,.inl (SqL.of qh),rfl,rfl,_,rfl,?_⟩⟩;have I:=qb M (.lst ([.str "self",.str "say"]:List V));have O:=P5.same I;have U:Kept p H _:=ab.trans (Kept.of I);refine qo (by decide+kernel) ?_
   refine⟨_,rfl,rfl,_,rfl,qo (show decide (V.str ("none":Str)=V.str "fault")=false by decide+kernel) ?_⟩
   refine⟨_,rfl,rfl,_,rfl,qo (show decide (V.str ("none":Str)=V.str "go")=false by decide+kernel) ?_⟩
   refine⟨_,rfl,two,fun l2 ac=>⟨l2,_,rfl,.inl (SqL.of qh),rfl,rfl,_,rfl,?_⟩⟩;have Y:=qb ac (.lst ([.str "none",.str "rowed"]:List V));have ad:=O.same Y;have ae:Kept p H _:=U.trans (Kept.of Y);refine qA (by decide+kernel) ?_
   refine⟨rfl,_,rfl,_,rfl,_,rfl,(by show 3<=sizeLine;decide),fun q2 aa=> ?_⟩
   refine⟨" ",q2,["none",x1,toString j],rfl,rfl,SqL.of qh,?_,?_⟩
   ·simp only [uj,vj,vn,Uv,ud,v8];have e1:(" ":Str).length=1:=by decide+kernel
    have e2:("none":Str).length<=10:=by decide+kernel
    have:=(Qo h1).1;have:=(Qo h2).1;have:=(Qo h3).1;have:=ag;omega
   ·exact k ("none",[.s x1,.n j]) _ ⟨[.box,.line],(show(("none":Str),[Kd.box,.line])∈FRM by decide+kernel),h1,⟨ak,ap⟩,trivial⟩ (ad.same (qb aa _)) (ae.trans (Kept.of (qb aa _)))
  ·refine⟨_,rfl,rfl,_,rfl,qo (show decide (V.str ("rowed":Str)=V.str "text")=false by decide+kernel) ?_⟩
   refine⟨_,rfl,two,fun l1 M=>⟨l1,_,rfl,.inl (SqL.of qh),rfl,rfl,_,rfl,?_⟩⟩;have I:=qb M (.lst ([.str "self",.str "say"]:List V));have O:=P5.same I;have U:Kept p H _:=ab.trans (Kept.of I);refine qo (by decide+kernel) ?_
   refine⟨_,rfl,rfl,_,rfl,qo (show decide (V.str ("rowed":Str)=V.str "fault")=false by decide+kernel) ?_⟩
   refine⟨_,rfl,rfl,_,rfl,qo (show decide (V.str ("rowed":Str)=V.str "go")=false by decide+kernel) ?_⟩
   refine⟨_,rfl,two,fun l2 ac=>⟨l2,_,rfl,.inl (SqL.of qh),rfl,rfl,_,rfl,?_⟩⟩;have Y:=qb ac (.lst ([.str "none",.str "rowed"]:List V));have ad:=O.same Y;have ae:Kept p H _:=U.trans (Kept.of Y);refine qA (by decide+kernel) ?_
   refine⟨rfl,_,rfl,_,rfl,_,rfl,(by show 3<=sizeLine;decide),fun q2 aa=> ?_⟩
   refine⟨" ",q2,["rowed",x1,toString j],rfl,rfl,SqL.of qh,?_,?_⟩
   ·simp only [uj,vj,vn,Uv,ud,v8];have e1:(" ":Str).length=1:=by decide+kernel
    have e2:("rowed":Str).length<=10:=by decide+kernel
    have:=(Qo h1).1;have:=(Qo h2).1;have:=(Qo h3).1;have:=ag;omega
   ·exact k ("rowed",[.s x1,.n j]) _ ⟨[.box,.line],(show(("rowed":Str),[Kd.box,.line])∈FRM by decide+kernel),h1,⟨ak,ap⟩,trivial⟩ (ad.same (qb aa _)) (ae.trans (Kept.of (qb aa _)))
  ·refine⟨_,rfl,rfl,_,rfl,qo (show decide (V.str ("go":Str)=V.str "text")=false by decide+kernel) ?_⟩
   refine⟨_,rfl,two,fun l1 M=>⟨l1,_,rfl,.inl (SqL.of qh),rfl,rfl,_,rfl,?_⟩⟩;have I:=qb M (.lst ([.str "self",.str "say"]:List V));have O:=P5.same I;have U:Kept p H _:=ab.trans (Kept.of I);refine qo (by decide+kernel) ?_
   refine⟨_,rfl,rfl,_,rfl,qo (show decide (V.str ("go":Str)=V.str "fault")=false by decide+kernel) ?_⟩
   refine⟨_,rfl,rfl,_,rfl,qA (show decide (V.str ("go":Str)=V.str "go")=true by decide+kernel) ?_⟩
   refine⟨_,rfl,_,_,rfl,rfl,fits (by have e5:("go ":Str).length=3:=(by decide+kernel);omega),?_⟩
   exact k ("go",[.n j]) _ ⟨[.line],(show(("go":Str),[Kd.line])∈FRM by decide+kernel),⟨ak,ap⟩,trivial⟩ O U
  ·refine⟨_,rfl,rfl,_,rfl,qo (show decide (V.str ("say":Str)=V.str "text")=false by decide+kernel) ?_⟩
   refine⟨_,rfl,two,fun l1 M=>⟨l1,_,rfl,.inl (SqL.of qh),rfl,rfl,_,rfl,?_⟩⟩;have I:=qb M (.lst ([.str "self",.str "say"]:List V));have O:=P5.same I;have U:Kept p H _:=ab.trans (Kept.of I);refine qA (by decide+kernel) ?_
   refine⟨_,rfl,_,_,rfl,rfl,(by decide+kernel),_,rfl,_,_,rfl,rfl,fits (by rw [jO,(Qo h1).1];decide+kernel),?_⟩
   exact k ("say",[.s x1]) _ ⟨[.box],(show(("say":Str),[Kd.box])∈FRM by decide+kernel),h1,trivial⟩ O U
  ·refine⟨_,rfl,rfl,_,rfl,qo (show decide (V.str ("fault":Str)=V.str "text")=false by decide+kernel) ?_⟩
   refine⟨_,rfl,two,fun l1 M=>⟨l1,_,rfl,.inl (SqL.of qh),rfl,rfl,_,rfl,?_⟩⟩;have I:=qb M (.lst ([.str "self",.str "say"]:List V));have O:=P5.same I;have U:Kept p H _:=ab.trans (Kept.of I);refine qo (by decide+kernel) ?_
   refine⟨_,rfl,rfl,_,rfl,qA (show decide (V.str ("fault":Str)=V.str "fault")=true by decide+kernel) ?_⟩
   exact⟨_,rfl,k ("fault",[]) _ ⟨[],(show(("fault":Str),([]:List Kd))∈FRM by decide+kernel),trivial⟩ O U⟩
  ·refine⟨_,rfl,rfl,_,rfl,qo (show decide (V.str ("self":Str)=V.str "text")=false by decide+kernel) ?_⟩
   refine⟨_,rfl,two,fun l1 M=>⟨l1,_,rfl,.inl (SqL.of qh),rfl,rfl,_,rfl,?_⟩⟩;have I:=qb M (.lst ([.str "self",.str "say"]:List V));have O:=P5.same I;have U:Kept p H _:=ab.trans (Kept.of I);refine qA (by decide+kernel) ?_
   refine⟨_,rfl,_,_,rfl,rfl,(by decide+kernel),_,rfl,_,_,rfl,rfl,fits (by rw [jO,(Qo h1).1];decide+kernel),?_⟩
   exact k ("self",[.s x1]) _ ⟨[.box],(show(("self":Str),[Kd.box])∈FRM by decide+kernel),h1,trivial⟩ O U
theorem ptsOk_up {n L m M:Nat}(h1:n<=L)(h2:m<=M):∀{ks:List Kd}{ps:List Pt},y7 n m ks ps->y7 L M ks ps
 | [],[],_=>trivial
 |k::ks,q::ps,h=>by
  refine⟨?_,ptsOk_up h1 h2 h.2⟩;have I:=h.1;cases k<;>cases q<;>simp only [ptOk] at I⊢
  ·exact I
  ·exact⟨I.1,by omega⟩
  ·exact⟨by omega,I.2⟩
 | [],_::_,h=>h.elim
 |_::_,[],h=>h.elim
theorem QI.up {n I m L:Nat}{r:Rw}(h1:n<=I)(h2:m<=L)(h:QI n m r):QI I L r:=let⟨ks,hk,hp⟩:=h;⟨ks,hk,ptsOk_up h1 h2 hp⟩
theorem sz_lines (c:Nat):∀rs:List Rw,(∀r∈rs,(qH r).length<=c)->szL (rs.map fun r=> .str (qH r))<=rs.length*(c+1)
 | [],_=>by simp [szL]
 |r::rs,h=>by
  have h1:=h r uq;have h2:=sz_lines c rs fun x I=>h x (uh _ I);simp only [uj,szL,sz,ud,Nat.succ_mul];omega
theorem dp_lines:∀rs:List Rw,dpL (rs.map fun r=> .str (qH r))<=1
 | []=>by simp [dpL]
 |r::rs=>by
  have:=dp_lines rs;simp only [uj,dpL,dp];omega
theorem zx:∀rs:List Rw,(∀r∈rs,QD (qH r)=true)->goodL (rs.map fun r=> .str (qH r))=true
 | [],_=>rfl
 |r::rs,h=>by
  simp only [uj,goodL,good];rw [h r uq,zx rs fun x I=>h x (uh _ I)]
  rfl
theorem rule_tree {rs:List Rw}{m:Nat}(L:rs.length<=40)(hm:m<=300)(h:∀r∈rs,QI rs.length m r)(M:∀r∈rs,(qH r).length<=300)(U:szL (rs.map fun r=> .str (qH r))<=599):isT (QV rs)=true:=by
 have h2:=dp_lines rs;have O:=zx rs fun r I=>by
  unfold QD;rw [line_all L (h r I),u0 (M r I)]
  rfl
 have e1:sz (QV rs)=1+szL (rs.map fun r=> .str (qH r)):=by unfold QV;simp only [sz]
 have e2:dp (QV rs)=1+dpL (rs.map fun r=> .str (qH r)):=by unfold QV;simp only [dp]
 have R:good (QV rs)=true:=by
  unfold QV;simp only [good];rw [O,ub,u0 (by omega)]
  rfl
 unfold isT;rw [R,u0 (p:=sz (QV rs)<=600) (by omega),u0 (p:=dp (QV rs)<=12) (by omega)]
 rfl
structure Drawn (rs:List Rw):Prop where
 n0:5<=rs.length
 n1:rs.length<=40
 ok:∀r∈rs,QI rs.length 4 r
theorem Drawn.rule {rs:List Rw}(h:Drawn rs):Qu rs:=by
 have h1:∀r∈rs,(qH r).length<=11:=fun r I=>line_len h.n1 (by decide) (by decide) (h.ok r I)
 have h2:=sz_lines 11 rs h1;have n1:=h.n1;exact⟨by have:=h.n0;omega,n1,fun r I=>QI.up (ug _) (by decide) (h.ok r I),rule_tree n1 (by decide) h.ok (fun r I=>by have:=h1 r I;omega) (by omega)⟩
def sp_rule:Sp:=fun vs H Q _=>∃p L:Addr,vs= [.ref p,.ref L]/\Qv H p/\H L=some (.lst (NMS.map V.str))/\∀(v:V) (rs:List Rw) (H':Hp),Drawn rs->rs.length<=12->Is H' (QV rs) v->Qv H' p->Kept p H H'->Q v H'
noncomputable def mkR (z1 z2 c:Str)(rs:List Rw):List Rw:=("text",[.s "a",.s z1])::("text",[.s "b",.s z2])::("row",[.s "h"])::(rs++ [(("say":Str),[Pt.s c])])
theorem mkR_map (I L c:Str)(rs:List Rw):(([V.str ("text a "++I),.str ("text b "++L),.str "row h"]++rs.map fun r=>V.str (qH r))++ [V.str ("say "++c)])=(mkR I L c rs).map fun r=>V.str (qH r):=by
 have e1:("text a "++I:Str)=qH ("text",[.s "a",.s I]):=by
  rw [<-join3t];rw [show("text a ":Str)=("text "++"a":Str)++(" ":Str) by decide+kernel]
 have e2:("text b "++L:Str)=qH ("text",[.s "b",.s L]):=by
  rw [<-join3t];rw [show("text b ":Str)=("text "++"b":Str)++(" ":Str) by decide+kernel]
 have M:("row h":Str)=qH ("row",[.s "h"]):=by decide+kernel
 have O:("say "++c:Str)=qH ("say",[.s c]):=by
  rw [show("say ":Str)=("say":Str)++(" ":Str) by decide+kernel]
  rfl
 rw [e1,e2,M,O];simp [mkR]
theorem mkR_ok {L M c:Str}{rs:List Rw}{n:Nat}(h1:L∈WRD)(h2:M∈WRD)(O:c∈BX)(h:∀r∈rs,QI n 4 r):∀r∈mkR L M c rs,QI n 4 r:=by
 intro r I;simp only [mkR,uB,List.mem_append,vw,vb] at I;rcases I with rfl|rfl|rfl|I|rfl
 ·exact⟨[.box,.words],(show(("text":Str),[Kd.box,.words])∈FRM by decide+kernel),(show("a":Str)∈BX by decide+kernel),zG L h1,trivial⟩
 ·exact⟨[.box,.words],(show(("text":Str),[Kd.box,.words])∈FRM by decide+kernel),(show("b":Str)∈BX by decide+kernel),zG M h2,trivial⟩
 ·exact⟨[.box],by decide+kernel,(show("h":Str)∈BX by decide+kernel),trivial⟩
 ·exact h r I
 ·exact⟨[.box],(show(("say":Str),[Kd.box])∈FRM by decide+kernel),O,trivial⟩
theorem rows_is {H:Hp}:∀{rs:List Rw},(∀r∈rs,(qH r).length<=sizeLine)->L2.IsL H (rs.map fun r=> .str (qH r)) (rs.map fun r=>V.str (qH r))
 | [],_=>rfl
 |r::rs,h=>⟨_,_,rfl,⟨rfl,h r uq⟩,rows_is fun y I=>h y (uh _ I)⟩
theorem ok_rule (T:Tx K mg a):FnOk P w K mg base CX0 4 a.zy a.zW ["pot","names"] sp_rule:=by
 have qI:=Y2 (P:=P) (w:=w) (base:=base) T;have yA:=ok_word (P:=P) (w:=w) (base:=base) T;have I:=ok_line (P:=P) (w:=w) (base:=base) T;refine T.g_law_rule.F.ok Yn () (fun _ _ _ _ H _ Q E hr h=> ?_)
 obtain⟨p,L,rfl,ae,hL,k⟩:=h;refine⟨_,(@qe _ _ _ _ _ (@qB _ _ (2) _ _ _ _ Yn.nd rfl (Or.inl rfl) (@qT _ _ _ _ _ _ _ _ Qz qj (@qv _ _ _ _ _ _ _ _ _ _ _ _ _ _ _ _ qI (hr.mono ()) () T.g_law_take.m T.g_law_take.F.kp T.g_law_take.b .nil qN (@qa _ _ _ _ _ (pv 0) (@qa _ _ _ _ _ qj qc ()) ()) () () ())) () ()) (@qe _ _ _ _ _ (@qB _ _ (3) _ _ _ _ Yn.nd rfl (Or.inr rfl) (@qT _ _ _ _ _ _ _ _ Qz (pv 2) qj) () ()) (@qe _ _ _ _ _ (@qB _ _ (4) _ _ _ _ Yn.nd rfl (Or.inl rfl) (@Qb _ _ _ _ (@qa _ _ _ _ _ (@qT _ _ _ _ _ _ _ _ Qj qi (@qv _ _ _ _ _ _ _ _ _ _ _ _ _ _ _ _ yA (hr.mono ()) () T.g_law_word.m T.g_law_word.F.kp T.g_law_word.b .nil qN (@qa _ _ _ _ _ (pv 0) (@qa _ _ _ _ _ (pv 1) qc ()) ()) () () ())) (@qa _ _ _ _ _ (@qT _ _ _ _ _ _ _ _ Qj qi (@qv _ _ _ _ _ _ _ _ _ _ _ _ _ _ _ _ yA (hr.mono ()) () T.g_law_word.m T.g_law_word.F.kp T.g_law_word.b .nil qN (@qa _ _ _ _ _ (pv 0) (@qa _ _ _ _ _ (pv 1) qc ()) ()) () () ())) (@qa _ _ _ _ _ qi qc ()) ()) ())) () ()) (@qe _ _ _ _ _ (@yH _ _ _ _ (@Yj _ _ _ _ _ _ _ _ _ _ _ _ v6 PySem.F.slot_list_extend PySem.F.type_list_extend mt_extend (pv 4) (@qa _ _ _ _ _ (@JG _ _ (["k","pot","names","many"]) (1) ([0,1,3]) _ _ _ _ _ _ _ _ _ (lcsN (qp jg) ["pot","names","body","many","lines"]) rfl (@YV _ _ _ _ _ _ () T.JS (@qa _ _ _ _ _ (pv 2) qc ()) ()) (fun _ _ _ _ _ _=>(@qQ _ _ (0) _ (show List.Nodup (["k","pot","names","many"]:List Str) by decide+kernel) rfl (Or.inl rfl) ())) (fun _ _ _ _ _ _=> @QW _) (fun _ _ _ _ _ _=>(@qv _ _ _ _ _ _ _ _ _ _ _ _ _ _ _ _ I (hr.mono ()) () T.g_law_line.m T.g_law_line.F.kp T.g_law_line.b .nil qN (@qa _ _ _ _ _ (pv 1) (@qa _ _ _ _ _ (pv 2) (@qa _ _ _ _ _ (pv 3) (@qa _ _ _ _ _ (pv 0) qc ()) ()) ()) ()) () () ())) ()) qc ()) () () () () ()) ()) (@qg _ _ _ (@ql _ _ _ _ (@qP _ _ _ _ _ _ _ _ _ qL () T.Qa uU (@qa _ _ _ _ _ (@qT _ _ _ _ _ _ _ _ op_cat (pv 4) (@Qb _ _ _ _ (@qa _ _ _ _ _ (@qT _ _ _ _ _ _ _ _ Qj qi (@qF _ _ _ _ _ _ _ ix_str qi (@qv _ _ _ _ _ _ _ _ _ _ _ _ _ _ _ _ qI (hr.mono ()) () T.g_law_take.m T.g_law_take.F.kp T.g_law_take.b .nil qN (@qa _ _ _ _ _ (pv 0) (@qa _ _ _ _ _ qj qc ()) ()) () () ()) (fun _ _=>rfl))) qc ()))) qc ()) () () () ()))))))),?_⟩
 dsimp only [cxOf,Cx.nox];have U:∀{H:Hp}{b:Addr}{l:List V},Qv H p->H b=some (.lst l)->l.length≠1->b≠p:=fun hP e hl z=>by
  obtain⟨x,e2,_⟩:=hP;rw [<-z,e] at e2;injection e2 with e3
  injection e3 with e4
  exact hl (by rw [e4];rfl)
 refine⟨_,rfl,p,8,rfl,ae,by decide,by decide,fun d1 H1 a0 a1 P1 K1 B1=>⟨_,_,rfl,rfl,?_⟩⟩
 obtain⟨nb,af,aG,aH⟩:∃nb:Nat,1+d1=(nb:Int)/\1<=nb/\nb<=8:=⟨(1+d1).toNat,by omega,by omega,by omega⟩
 have KK:Kept p H H1:=K1;have Y:H1 L=some (.lst (NMS.map V.str)):=KK _ _ hL (U ae hL (by show(4:Nat)≠1;decide))
 dsimp only;rw [af];clear af;have PX:=P1;generalize aI:H1=HX at KK Y PX⊢;refine⟨_,rfl,_,_,rfl,rfl,?_⟩;refine⟨_,rfl,_,rfl,p,L,rfl,PX,Y,fun M H5 ag P5 K5=>⟨_,_,rfl,rfl,fits (by have:=(zG M ag).1;have e7:("text a ":Str).length=7:=(by decide+kernel);omega),?_⟩⟩
 have aa:=K5 _ _ Y (U PX Y (by show(4:Nat)≠1;decide))
 refine⟨_,rfl,_,rfl,p,L,rfl,P5,aa,fun O H6 ah P6 K6=>⟨_,_,rfl,rfl,fits (by have:=(zG O ah).1;have e7:("text b ":Str).length=7:=(by decide+kernel);omega),(by show 3<=sizeLine;decide),fun l hl=> ?_⟩⟩
 have av:=K6 _ _ aa (U P5 aa (by show(4:Nat)≠1;decide))
 have s7:=qb hl (.lst [.str ("text a "++M),.str ("text b "++O),.str "row h"]);have e7:(upd H6 l (.lst [.str ("text a "++M),.str ("text b "++O),.str "row h"])) l=some (.lst [.str ("text a "++M),.str ("text b "++O),.str "row h"]):=qh;have P7:=P6.same s7;have ab:=s7 _ _ av;have K7:Kept p H (upd H6 l (.lst [.str ("text a "++M),.str ("text b "++O),.str "row h"])):=KK.trans (K5.trans (K6.trans (Kept.of s7)));refine⟨_,rfl,.inl ⟨rfl,_,SqL.of e7⟩,?_⟩;generalize upd H6 l (.lst [.str ("text a "++M),.str ("text b "++O),.str "row h"])=H7 at e7 P7 ab K7⊢;refine⟨_,rfl,nb,rfl,by omega,by omega,fun D hD=> ?_⟩
 have nD:D≠p:=fun z=>by
  obtain⟨x,e2,_⟩:=P7;rw [z,e2] at hD;cases hD
 refine ZJ (lo:=0) (n:=nb) (tl:= [some (.ref p),some (.ref L),some (.int ((nb:Int)+4))]) (fun i ys H'=>∃rs:List Rw,ys=rs.map (fun r=>V.str (qH r))/\rs.length=i/\(∀r∈rs,QI (nb+4) 4 r)/\Qv H' p/\(∀b o,H7 b=some o->b≠p->H' b=some o)) (qY (by omega)) ⟨[],rfl,rfl,fun b hb=>by simp at hb,P7.same (qb hD _),fun b o e _=>qb hD _ _ _ e⟩ ?_ ?_
 ·rintro j ys H' hj ⟨rs,rfl,ak,ac,P',K'⟩ ad hy R hR;have aw:=K' _ _ ab (U P7 ab (by show(4:Nat)≠1;decide))
  refine⟨_,rfl,_,rfl,_,rfl,_,rfl,p,L,nb+4,j,?_,P',aw,by omega,by omega,by omega,fun r H8 ax P8 K8=> ?_⟩
  ·rw [show(0:Int)+(j:Int)=(j:Int) by omega,show((nb+4:Nat):Int)=(nb:Int)+4 by omega]
   rfl
  ·refine hR _ H8 (K8 _ _ ad nD) ⟨rs++ [r],by rw [uE];rfl,by rw [uf,ak];rfl,fun b hb=> ?_,?_,fun b o e np=> ?_⟩
   ·rcases List.mem_append.mp hb with h|h
    ·exact ac b h
    ·rw [vh] at h;subst h;exact ax
   ·obtain⟨x,e2,h2⟩:=P8;exact⟨x,by rw [qx nD.symm];exact e2,h2⟩
   ·rw [qx (qr e hD)];exact K8 _ _ (K' b o e np) np
 ·rintro ys H' ⟨rs,rfl,ak,ac,P',K'⟩ ad;have nl:l≠p:=U P7 e7 (by show(3:Nat)≠1;decide)
  have e8:=K' _ _ e7 nl;refine⟨l,D,_,_,rfl,rfl,e8,ad,fits (by show 3+(rs.map fun r=>V.str (qH r)).length<=16000000;rw [ub];omega),?_⟩
  have e9:(upd H' l (.lst ([.str ("text a "++M),.str ("text b "++O),.str "row h"]++rs.map fun r=>V.str (qH r)))) l=some (.lst ([.str ("text a "++M),.str ("text b "++O),.str "row h"]++rs.map fun r=>V.str (qH r))):=qh;have P9:Qv (upd H' l (.lst ([.str ("text a "++M),.str ("text b "++O),.str "row h"]++rs.map fun r=>V.str (qH r)))) p:=by
   obtain⟨x,e2,h2⟩:=P';exact⟨x,by rw [qx nl.symm];exact e2,h2⟩
  have K9:Kept p H (upd H' l (.lst ([.str ("text a "++M),.str ("text b "++O),.str "row h"]++rs.map fun r=>V.str (qH r)))):=fun b o e np=>by
   have q6:=(KK.trans (K5.trans K6)) b o e np;rw [qx (qr q6 hl)];exact K' b o (K7 b o e np) np
  generalize upd H' l (.lst ([.str ("text a "++M),.str ("text b "++O),.str "row h"]++rs.map fun r=>V.str (qH r)))=H9 at e9 P9 K9⊢;refine⟨_,rfl,_,rfl,p,5,rfl,P9,by decide,by decide,fun d9 aJ g0 g1 ay al _=> ?_⟩
  obtain⟨c9,hc,aA⟩:=abc_at g0 g1;have ne:l≠p:=nl;have aB:=al _ _ e9 ne;refine⟨"abcdh",d9,c9,rfl,rfl,(by decide+kernel),hc,_,_,rfl,rfl,(by show("say ":Str).length+1<=sizeLine;decide+kernel),(by show 1<=sizeLine;decide),fun q1 aC=> ?_⟩
  have am:=qb aC (.lst [.str ("say "++⟨#[c9]⟩)]);refine⟨l,q1,_,_,rfl,rfl,am _ _ aB,qh,fits (by simp only [uf,ub,ud,v8];omega),fun q2 aD=>⟨q2,_,rfl,.inl ⟨SqL.of qh,fun q3 ao=> ?_⟩⟩⟩
  have aE:=qb aD (.lst (([.str ("text a "++M),.str ("text b "++O),.str "row h"]++rs.map fun r=>V.str (qH r))++ [.str ("say "++⟨#[c9]⟩)]));have aF:=qb ao (.tup (([.str ("text a "++M),.str ("text b "++O),.str "row h"]++rs.map fun r=>V.str (qH r))++ [.str ("say "++⟨#[c9]⟩)]));have ap:=am.trans (aE.trans aF);have aq:(mkR M O ⟨#[c9]⟩ rs).length=nb+4:=by simp only [mkR,ud,uf,v8];omega
  have au:Drawn (mkR M O ⟨#[c9]⟩ rs):=⟨by omega,by omega,by rw [aq];exact mkR_ok ag ah aA ac⟩
  refine k _ (mkR M O ⟨#[c9]⟩ rs) _ au (by omega) ?_ (ay.same ap) (K9.trans (al.trans (Kept.of ap)))
  refine Is.new (ds:=(mkR M O ⟨#[c9]⟩ rs).map fun r=> .str (qH r)) ?_ ao;rw [mkR_map];exact rows_is (fun r hr=>qY (by have:=au.rule.len hr;omega))
def isRow:D->Bool
 | .tup xs=>xs.all isNm
 |_=>false
noncomputable def ansB (u:Str)(a:D):Bool:=if XG a=true then decide (u="thing") else if isT a=true then(if u="has" then(["yes","no"]:List Str).any (fun z=>eqD a (.str z)) else decide (u="thing")||isRow a) else false
theorem XO {u:Str}{a:D}(h:ansB u a=true):Xn a:=by
 unfold ansB at h;cases hn:XG a with
 |true=>
  cases a with
  |non=>exact .inl rfl
  |_=>cases hn
 |false=>
  rw [hn,if_neg u8] at h;by_cases c:isT a=true
  ·exact .inr c
  ·rw [if_neg c] at h;cases h
def sp_rown:Sp:=fun vs H Q _=>∃(v:V) (d:D),vs= [v]/\Is H d v/\isT d=true/\∀H',Same H H'->Q (.bl (isRow d)) H'
def sp_isans:Sp:=fun vs H Q _=>∃(v1 v2:V) (u:Str) (d a:D),vs= [v1,v2]/\Is H (.tup [.str u,d]) v1/\Is H a v2/\∀H',Same H H'->Q (.bl (ansB u a)) H'
def sp_ans (C ba:Addr):Sp:=fun vs H Q E=>∃(m:Mc) (r:Rn) (v:V) (u:Str) (d a:D),vs= [.ref m.x,v]/\yg C H m r/\RnOk m.rs r/\r.th= .tup [.str "asks",.tup [.str u,d]]/\Is H a v/\Qu m.rs/\m.own.length<=100/\
 (ansB u a=true->∀H',Mv m H H'->yg C H' m (ansS m.rs m.own r a)->Q .non H')/\(ansB u a=false->∀(e:Addr) (H':Hp),Same H H'->E (.ref e) (some ba) H')
def sp_ansN (C na:Addr):Sp:=fun vs H Q E=>∃(m:Mc) (r:Rn) (v:V),vs= [.ref m.x,v]/\yg C H m r/\RnOk m.rs r/\qW r.th=false/\∀(e:Addr) (H':Hp),Same H H'->E (.ref e) (some na) H'
def sp_ans2 (C na ba:Addr):Sp:=fun vs H Q E=>sp_ans C ba vs H Q E∨sp_ansN C na vs H Q E
theorem ok_rown (T:Tx K mg a):FnOk P w K mg base CX0 2 a.Ya a.Yd ["tree"] sp_rown:=by
 have Y:=ok_name (P:=P) (w:=w) (base:=base) T;refine T.g_is_row_of_names.F.ok Jw () (fun _ _ _ _ H vs Q E hr h=> ?_)
 obtain⟨v,d,rfl,O,hT,k⟩:=h;refine⟨_,(@qg _ _ _ (@ql _ _ _ _ (@Xa _ _ _ _ _ _ _ (@qk _ _ _ _ _ _ _ _ _ (@qz _ _ rfl) () T.qt uo (@qa _ _ _ _ _ (pv 0) (@qa _ _ _ _ _ (@qV _ _ (.ty "tuple") _ _ () T.Qa uU rfl () ()) qc ()) ()) () () () ()) (@Jv _ _ _ _ _ (@qk _ _ _ _ _ _ _ _ _ (@yL _ rfl) () T.z_all boot_all (@qa _ _ _ _ _ (@JG _ _ (["part"]) (1) ([]) _ _ _ _ _ _ _ _ _ (lcs0) rfl (@Y7 _ _ _ _ (pv 0)) (fun _ _ _ _ _ _=>(@qQ _ _ (0) _ (show List.Nodup (["part"]:List Str) by decide+kernel) rfl (Or.inl rfl) ())) (fun _ _ _ _ _ _=> @QW _) (fun _ _ _ _ _ _=>(@qv _ _ _ _ _ _ _ _ _ _ _ _ _ _ _ _ Y (hr.mono ()) () T.g_is_name.m T.g_is_name.F.kp T.g_is_name.b .nil qN (@qa _ _ _ _ _ (pv 0) qc ()) () () ())) ()) qc ()) () () () ()))))),?_⟩
 refine⟨_,rfl,v,"tuple",tyD d,jo d,rfl,O.ty,yM _,?_⟩;cases d with
 |tup xs=>
  refine⟨_,rfl,iteT ?_⟩;obtain⟨a0,vs,rfl,I,L⟩:=O;have hl:xs.length<=1000:=by
   have U:=yP hT;simp only [good,ui] at U;have:=ua U.1;omega
  refine⟨_,rfl,a0,vs,rfl,SqT.of I,fun aa A0 M=> ?_⟩;refine Jc (tl:= []) (fun d=> .bl (isNm d)) I L (qY hl) M (fun d0 x0 H3 R ab s3 i3 r=> ?_) fun H1 ys s1 l1 i1=> ?_
  ·exact⟨_,rfl,x0,d0,rfl,i3,fun H4 s4=>r _ H4 s4 rfl⟩
  have ey:ys=(xs.map isNm).map V.bl:=IsL.bls (by rw [uT];exact i1)
  refine⟨A0,xs.map isNm,rfl,SqL.of (by rw [l1,ey]),?_⟩
  have:(xs.map isNm).all id=isRow (.tup xs):=by rw [vU];rfl
  rw [this];exact k H1 s1
 |str z=>exact⟨_,rfl,iteF (k H (Same.refl _))⟩
 |non=>exact⟨_,rfl,iteF (k H (Same.refl _))⟩
 |int z=>exact⟨_,rfl,iteF (k H (Same.refl _))⟩
 |bl z=>exact⟨_,rfl,iteF (k H (Same.refl _))⟩
 |lst=>exact⟨_,rfl,iteF (k H (Same.refl _))⟩
 |dct=>exact⟨_,rfl,iteF (k H (Same.refl _))⟩
theorem ok_isans (T:Tx K mg a):FnOk P w K mg base CX0 3 a.Xh a.XZ ["ask","answer"] sp_isans:=by
 have YS:=xa (P:=P) (w:=w) (base:=base) T;have J6:=ok_rown (P:=P) (w:=w) (base:=base) T;refine T.g_is_answer.F.ok sc_is_answer () (fun _ _ _ _ H _ Q E M h=> ?_)
 obtain⟨v1,v2,u,d,an,rfl,O,L,k⟩:=h;refine⟨_,(@qe _ _ _ _ _ (@qG _ _ _ _ _ _ _ _ (@qm _ _ _ _ _ _ _ _ X1 (pv 1) Qe (qw _)) (@qg _ _ _ (@ql _ _ _ _ (@QG _ _ _ _ _ _ _ _ Qg (@qF _ _ _ _ _ _ _ Y8 (pv 0) qj (fun _ _=>rfl)) qi (qw _)))) qq) (@qe _ _ _ _ _ (@qG _ _ _ _ _ _ _ _ (@Qm _ _ _ _ (@qU _ _ _ (@qv _ _ _ _ _ _ _ _ _ _ _ _ _ _ _ _ YS (M.mono ()) () T.g_is_tree.m T.g_is_tree.F.kp T.g_is_tree.b .nil qN (@qa _ _ _ _ _ (pv 1) qc ()) () () ()) ())) (@qg _ _ _ (@ql _ _ _ _ jn)) qq) (@qe _ _ _ _ _ (@qG _ _ _ _ _ _ _ _ (@qm _ _ _ _ _ _ _ _ Qg (@qF _ _ _ _ _ _ _ Y8 (pv 0) qj (fun _ _=>rfl)) qi (qw _)) (@qg _ _ _ (@ql _ _ _ _ (@QG _ _ _ _ _ _ _ _ (@op_inM _ M.units) (pv 1) (@qy _ _ _ _ _ (@qa _ _ _ _ _ qi (@qa _ _ _ _ _ qi qc ()) ())) (by with_unfolding_all rfl)))) qq) (@qg _ _ _ (@ql _ _ _ _ (@pe_or _ _ _ _ _ _ _ (@QG _ _ _ _ _ _ _ _ Qg (@qF _ _ _ _ _ _ _ Y8 (pv 0) qj (fun _ _=>rfl)) qi (qw _)) (@Jv _ _ _ _ _ (@qv _ _ _ _ _ _ _ _ _ _ _ _ _ _ _ _ J6 (M.mono ()) () T.g_is_row_of_names.m T.g_is_row_of_names.F.kp T.g_is_row_of_names.b .nil qN (@qa _ _ _ _ _ (pv 1) qc ()) () () ())))))))),?_⟩
 have two:(2:Nat)<=sizeLine:=by decide
 have es:∀y:Str,decide (V.str u=V.str y)=decide (u=y):=fun y=>by
  rw [uA];exact⟨fun h=>by injection h,fun h=>by rw [h]⟩
 have R:∀{H:Hp}{Q:VK},Is H (.tup [.str u,d]) v1->Q (.str u) H->rIxT K v1 (.int 0) H Q:=fun{H Q} i q=>QO (i:=0) (d:= .str u) i (qS (j:=0) rfl) fun x hx=>by
  obtain⟨rfl,_⟩:=hx;exact q
 refine⟨_,rfl,rfl,_,rfl,?_⟩;unfold ansB at k;by_cases U:an= .non
 ·subst U;cases(show v2= .non from L)
  refine qA (by decide+kernel) ?_
  refine⟨_,rfl,.inr (.inl (R O ⟨rfl,?_⟩))⟩;rw [es];exact k H (Same.refl _)
 ·have Y:v2≠ .non:=ZW L U;have aa:XG an=false:=by
   cases an with
   |non=>exact absurd rfl U
   |_=>rfl
  rw [aa,if_neg u8] at k;refine qo (u9 Y) ?_;refine⟨_,rfl,v2,an,rfl,L,fun H1 s1=>⟨_,rfl,?_⟩⟩;by_cases I:isT an=true
  ·rw [if_pos I] at k;rw [I];refine iteF ?_;refine⟨_,rfl,.inr (.inl (R (O.mono s1.tk) ⟨rfl,_,rfl,?_⟩))⟩;rw [es];by_cases ch:u="has"
   ·rw [if_pos ch] at k;refine qA (u0 ch) ?_;refine⟨_,rfl,two,fun t1 h1=> ?_⟩;have s2:=qb h1 (.tup [.str "yes",.str "no"]);refine⟨an,t1,["yes","no"],(L.mono s1.tk).mono s2.tk,rfl,.inr (SqT.of qh),?_,?_,?_,k _ (s1.trans s2)⟩
    ·intro z hz;simp only [uB,uD,vb] at hz;rcases hz with rfl|rfl<;>decide+kernel
    ·have hg:=yP I;cases an with
     |non=>rfl
     |str z=>rfl
     |tup xs=>
      show puL xs=true;simp only [good,ui] at hg;exact goodL_pu hg.2
     |_=>simp [good] at hg
    ·have:=Jt I;omega
   ·rw [if_neg ch] at k;refine qo (u9 ch) ?_;refine⟨_,rfl,.inr (.inl (R (O.mono s1.tk) ⟨rfl,?_⟩))⟩;refine⟨_,rfl,?_⟩;rw [es];by_cases ct:u="thing"
    ·rw [u0 ct] at k⊢;refine iteT ?_;exact k _ s1
    ·rw [u9 ct] at k⊢;refine iteF ?_;exact⟨_,rfl,v2,an,rfl,L.mono s1.tk,I,fun H2 s2=>k H2 (s1.trans s2)⟩
  ·rw [if_neg I] at k;have:isT an=false:=by
    cases h:isT an with
    |true=>exact absurd h I
    |false=>rfl
   rw [this];exact iteT (k _ s1)
theorem ok_ans (T:Tx K mg a)(C:Fx K w mg g a):FnOk P w K mg base (CX1 P w) 6 a.YA a.YD ["self","tree"] (sp_ans2 a.qC g.na g.ba):=by
 have Qh:=ok_wait (P:=P) (w:=w) (base:=base) T;have I:=ok_isans (P:=P) (w:=w) (base:=base) T;have yB:=ok_goon (P:=P) (w:=w) (base:=base) T C;refine T.g_Machine_answer.F.okX Yh (fun vs H Q E h=> ?_) (fun cdv A outer s H vs Q E hr h=> ?_)
 ·rcases h with⟨m,r,v,u,d,an,rfl,_⟩|⟨m,r,v,rfl,_⟩<;>rfl
 have h0:=h;clear h;refine⟨_,(@qe _ _ _ _ _ (@qG _ _ _ _ _ _ _ _ (@Qm _ _ _ _ (@qU _ _ _ (@Ys _ _ _ _ _ _ _ _ _ _ _ _ _ _ _ _ _ (pv 0) T.qu T.g_Machine_is_waiting.h Qh (hr.mono ()) T.g_Machine_is_waiting.b .nil qN ()) ())) (@qg _ _ _ (@xO _ _ _ _ _ _ _ _ _ _ _ _ _ _ _ _ _ _ _ _ _ _ C.x_NoAsk () C.m_NoAsk qi () ())) qq) (@qe _ _ _ _ _ (@qB _ _ (2) _ _ _ _ Yh.nd rfl (Or.inl rfl) (@qF _ _ _ _ _ _ _ Y8 (@QY _ _ _ _ _ (pv 0) rfl) qj (fun _ _=>rfl)) () ()) (@qe _ _ _ _ _ (@qG _ _ _ _ _ _ _ _ (@Qm _ _ _ _ (@qU _ _ _ (@qv _ _ _ _ _ _ _ _ _ _ _ _ _ _ _ _ I (hr.mono ()) () T.g_is_answer.m T.g_is_answer.F.kp T.g_is_answer.b .nil qN (@qa _ _ _ _ _ (pv 2) (@qa _ _ _ _ _ (pv 1) qc ()) ()) () () ()) ())) (@qg _ _ _ (@xO _ _ _ _ _ _ _ _ _ _ _ _ _ _ _ _ _ _ _ _ _ _ C.x_BadAnswer () C.jF qi () ())) qq) (@qe _ _ _ _ _ (@yH _ _ _ _ (@Yj _ _ _ _ _ _ _ _ _ _ _ _ v6 vM vN y9 (@QY _ _ _ _ _ (pv 0) rfl) (@qa _ _ _ _ _ (@qy _ _ _ _ _ (@qa _ _ _ _ _ (pv 2) (@qa _ _ _ _ _ (pv 1) qc ()) ())) qc ()) () () () () ()) ()) (@qe _ _ _ _ _ (@YQ _ _ _ _ _ _ _ _ _ _ (pv 0) qj in_add) (@qe _ _ _ _ _ (@qG _ _ _ _ _ _ _ _ (@qm _ _ _ _ _ _ _ _ X1 (pv 1) Qe (qw _)) (@qe _ _ _ _ _ (@Q1 _ _ _ _ _ _ _ _ (pv 0) (@qy _ _ _ _ _ (@qa _ _ _ _ _ qi (@qa _ _ _ _ _ qi qc ()) ())) rfl) (@qg _ _ _ ps_retN)) qq) (@qe _ _ _ _ _ (@Zw _ _ _ _ _ _ _ _ _ (QQ hr) (@QY _ _ _ _ _ (pv 0) rfl) (@qF _ _ _ _ _ _ _ Y8 (@qF _ _ _ _ _ _ _ Y8 (@qF _ _ _ _ _ _ _ qR (@QY _ _ _ _ _ (pv 0) rfl) (@qT _ _ _ _ _ _ _ _ op_sub (@QY _ _ _ _ _ (pv 0) rfl) qj) (fun _ _=>rfl)) qj (fun _ _=>rfl)) qj (fun _ _=>rfl)) (pv 1) rfl) (@qe _ _ _ _ _ (@YQ _ _ _ _ _ _ _ _ _ _ (pv 0) qj in_add) (@qe _ _ _ _ _ (@Q1 _ _ _ _ _ _ _ _ (pv 0) Qe rfl) (@qg _ _ _ (@yH _ _ _ _ (@Ys _ _ _ _ _ _ _ _ _ _ _ _ _ _ _ _ _ (pv 0) T.qu T.g_Machine_go_on.h yB (hr.mono ()) T.g_Machine_go_on.b .nil qN ()) ()))))))))))),?_⟩
 dsimp only [cxOf,Cx.nox];rcases h0 with h|⟨m,r,v,rfl,M,hO,hw,kN⟩;rotate_left
 ·obtain⟨dx,fs,rv,ru,tv,U,e,f,_⟩:=id M;refine⟨_,rfl,m.x,dx,fs,rfl,e,f.meth _ (by decide+kernel),m,_,rfl,M,.inr hO.two,_,rfl,?_⟩
  refine qA (by show(!qW r.th)=true;rw [hw];rfl) ?_
  exact⟨rfl,fun e=>kN e H (Same.refl _)⟩
 obtain⟨m,⟨B,p,n,gs,th⟩,v,u,d,an,rfl,M,hO,ak,iv,hR,aM,k,kB⟩:=h;simp only at ak;subst ak;have two:(2:Nat)<=sizeLine:=by decide
 have hw:qW (.tup [.str "asks",.tup [.str u,d]])=true:=by simp [qW]
 obtain⟨ad,ab,aN,_⟩:=hO.ask hw;have ae:=hO.p1;have al:=hO.gs.2.2;have am:=hO.tr;simp only at ad ab aN ae al am;have hM:=M;obtain⟨dx,fs,rv,ru,tv,U,e,f,ir,ij,ib,hg,gl,it⟩:=hM;simp only at f ib gl it;have aO:fs.length<1000:=by have:=f.len;omega
 refine⟨_,rfl,m.x,dx,fs,rfl,e,f.meth _ (by decide+kernel),m,_,rfl,M,.inr ⟨_,_,rfl⟩,_,rfl,?_⟩
 refine qo (by show(!qW (.tup [.str "asks",.tup [.str u,d]]))=false;rw [hw];rfl) ?_
 refine⟨_,rfl,m.x,_,dx,fs,_,rfl,e,T.qu,T.qJ,f.there,.inr (.inl (QO (i:=1) it (qS (j:=1) rfl) fun q hq=> ?_))⟩;refine⟨_,rfl,_,rfl,q,v,u,d,an,rfl,hq,iv,fun H1 s1=>⟨_,rfl,?_⟩⟩;cases af:ansB u an with
 |false=>exact iteT ⟨rfl,fun e=>kB af e H1 s1⟩
 |true=>
 refine iteF ?_;have k:=k af;have ha:=XO af;refine⟨_,rfl,m.x,_,dx,fs,_,rfl,s1 _ _ e,T.qu,T.YU,f.given,.inl ⟨rfl,_,SqL.of (s1 _ _ hg)⟩,_,rfl,_,rfl,two,fun Y h1=> ?_⟩;have s2:=qb h1 (.tup [q,v]);have ip:Is (upd H1 Y (.tup [q,v])) (.tup [.tup [.str u,d],an]) (.ref Y):=Is.new (ds:= [.tup [.str u,d],an]) ⟨_,_,rfl,hq.mono s1.tk,_,_,rfl,iv.mono s1.tk,rfl⟩ h1;have S2:=s1.trans s2;generalize upd H1 Y (.tup [q,v])=H2 at s2 ip S2⊢;have bc:U.length=gs.length:=gl.length;have ao:=S2 _ _ hg;refine⟨m.dg,U,_,rfl,rfl,ao,yh (by omega),?_⟩
 have t3:Tk H2 (upd H2 m.dg (.lst (U++ [.ref Y]))):=Tk.updL ao;have aP:m.x≠m.dg:=fun z=>by rw [<-z,e] at hg;cases hg
 have ap:m.db≠m.dg:=fun z=>by
  obtain⟨ff,e2,_⟩:=ib;rw [z,hg] at e2;cases e2
 have e3:(upd H2 m.dg (.lst (U++ [.ref Y]))) m.x=some (.ins a.qC dx fs):=by rw [qx aP];exact S2 _ _ e
 have T3:Tk H (upd H2 m.dg (.lst (U++ [.ref Y]))):=S2.tk.trans t3;have aq:=(ib.same S2).move t3 (qx ap);have au:L2.IsL (upd H2 m.dg (.lst (U++ [.ref Y]))) (gs++ [.tup [.tup [.str u,d],an]]) (U++ [.ref Y]):=(gl.mono T3).append (IsL.one (ip.mono t3));have av:(upd H2 m.dg (.lst (U++ [.ref Y]))) m.dg=some (.lst (U++ [.ref Y])):=qh;have aw:Mv m H (upd H2 m.dg (.lst (U++ [.ref Y]))):=⟨fun b o h _ _ n3=>by rw [qx n3];exact S2 b o h,T3⟩
 generalize upd H2 m.dg (.lst (U++ [.ref Y]))=H3 at t3 e3 T3 aq au av aw⊢;refine⟨_,rfl,m.x,_,dx,fs,_,rfl,e3,T.qu,T.QP,f.done,(n:Int),1,rfl,rfl,dx,fs,e3,aO,?_⟩;obtain⟨M4,ax⟩:=QT (r:=⟨B,p,n+1,gs++ [.tup [.tup [.str u,d],an]],.tup [.str "asks",.tup [.str u,d]]⟩) e3 (f.set_done (k:=n+1)) (ir.mono T3) (ij.mono T3) aq av au (it.mono T3);have R:=aw.trans ax;have ay:=iv.mono R.tk;show tSeq _ _ _ _ (upd H3 m.x (.ins a.qC dx (putF "done" (.int ((n+1:Nat):Int)) fs)));generalize upd H3 m.x (.ins a.qC dx (putF "done" (.int ((n+1:Nat):Int)) fs))=H4 at M4 ax R ay⊢;obtain⟨O,L,bd,bf,bg,bh,e4,f4,ag,aA,aa,aB,ah,aC⟩:=M4;simp only at f4 aa ah aC;have ac:L.length<1000:=by have:=f4.len;omega
 refine⟨_,rfl,rfl,_,rfl,?_⟩;by_cases cn:an= .non
 ·subst cn;cases(show v= .non from iv)
  refine qA (by decide+kernel) ?_
  refine⟨two,fun l hl=> ?_⟩;have s5:=qb hl (.tup [.str "fault",.str "lack"]);refine⟨_,rfl,m.x,_,O,L,rfl,s5 _ _ e4,T.qu,T.qJ,ac,?_⟩;obtain⟨m1,m2⟩:=QT (r:=⟨B,p,n+1,gs++ [.tup [.tup [.str u,d],.non]],flt "lack"⟩) (s5 _ _ e4) (f4.set_there (u:= .ref l)) (ag.mono s5.tk) (aA.mono s5.tk) (aa.same s5) (s5 _ _ aB) (ah.mono s5.tk) (Is.new (ds:= [.str "fault",.str "lack"]) ⟨_,_,rfl,⟨rfl,qY (by decide)⟩,_,_,rfl,⟨rfl,qY (by decide)⟩,rfl⟩ hl)
  exact k _ (R.trans ((Mv.of s5).trans m2)) m1
 ·have hT:isT an=true:=ha.resolve_left cn;have aQ:v≠ .non:=ZW iv cn;have aR:XG an=false:=by
   cases an with
   |non=>exact absurd rfl cn
   |_=>rfl
  refine qo (u9 aQ) ?_;obtain⟨z0,z1,aD,aS,_⟩:=wds1a hR.n1 (hR.ok _ (Zq ae ad)) ab;have aT:b0 (yq m.rs p).2=z0:=by rw [aD];rfl
  obtain⟨kvs,aE,aU,t5⟩:=aa.put aS ay;have aV:atI (m.rs.map rowD) (p-1)=some (rowD (yq m.rs p)):=by
   rw [show p-1=((p.toNat-1:Nat):Int) by omega]
   exact qS (by rw [uM,row_at ae ad];rfl)
  have aW:m.db≠m.x:=QL.ne e4 aa;have aX:m.dg≠m.db:=ap.symm;refine⟨_,rfl,_,rfl,m.x,_,O,L,_,rfl,e4,T.qu,T.Qk,f4.boxes,_,rfl,m.x,_,O,L,_,rfl,e4,T.qu,T.yf,f4.rows,_,rfl,m.x,_,O,L,_,rfl,e4,T.qu,T.Qd,f4.place,_,_,rfl,rfl,?_⟩;refine QO (d:=rowD (yq m.rs p)) ag aV fun q5 aY=> ?_;refine .inr (.inl (QO (i:=1) aY (qS (j:=1) rfl) fun q6 aF=> ?_));rw [aD] at aF;refine .inr (.inl (QO (i:=0) (d:= .str z0) aF (qS (j:=0) rfl) fun q7 aZ=> ?_));obtain⟨rfl,_⟩:=aZ;refine⟨m.db,_,rfl,aE,?_⟩;have e5:(upd H4 m.db (.dK kvs)) m.x=some (.ins a.qC O L):=by rw [qx aW.symm];exact e4
  refine⟨_,rfl,m.x,_,O,L,_,rfl,e5,T.qu,T.Qd,f4.place,p,1,rfl,rfl,O,L,e5,ac,?_⟩;obtain⟨M6,a0⟩:=QT (r:=⟨setB B z0 an,p+1,n+1,gs++ [.tup [.tup [.str u,d],an]],.tup [.str "asks",.tup [.str u,d]]⟩) e5 (f4.set_place (q:=p+1)) (ag.mono t5) (aA.mono t5) aU (by rw [qx aX];exact aB) (ah.mono t5) (aC.mono t5)
  have aG:=R.trans (Mv.trans ⟨fun b o h _ a2 _=>by rw [qx a2];exact h,t5⟩ a0)
  obtain⟨a1,aH,bm,bo,bp,bq,e6,f6,a3,a4,aI,a5,aJ,a6⟩:=M6;simp only at f6 aI aJ a6;have aK:aH.length<1000:=by have:=f6.len;omega
  refine⟨_,rfl,m.x,_,a1,aH,rfl,e6,T.qu,T.qJ,aK,?_⟩;obtain⟨M7,a7⟩:=QT (r:=⟨setB B z0 an,p+1,n+1,gs++ [.tup [.tup [.str u,d],an]],.non⟩) e6 (f6.set_there (u:= .non)) a3 a4 aI a5 aJ rfl;have aL:=aG.trans a7;obtain⟨a8,a9,bt,bu,bv,bw,e7,f7,r7⟩:=id M7;refine⟨_,rfl,m.x,a8,a9,rfl,e7,f7.meth _ (by decide+kernel),m,_,rfl,M7,rfl,ZQ am hT,aM,hR,by show 1<=p+1;omega,by show p+1<=_;omega,by show n+1<=300;omega,fun H8 bb M8=>k H8 (aL.trans bb) ?_⟩
  unfold ansS;rw [aR,if_neg u8];simp only;rw [aT];exact M8
theorem runS_gs {rs:List Rw}{own:Str}{gs:List D}:∀(f:Nat) (B:Str->D) (p:Int) (n:Nat),(runS rs own gs f B p n).gs=gs
 |0,B,p,n=>rfl
 |f+1,B,p,n=>by
  unfold runS;by_cases c:p>rs.length
  ·rw [if_pos c]
  ·rw [if_neg c];cases M:rowO own (yq rs p) B p with
   |go I L=>exact runS_gs f I L (n+1)
   |stop e=>rfl
theorem J2 {rs:List Rw}{own:Str}{as:List D}(an:D)(h:qW (qZ rs own as).th=true):qZ rs own (as++ [an])=ansS rs own (qZ rs own as) an:=by
 unfold qZ at h⊢;rw [zH,if_pos h]
theorem gs_snoc {rs:List Rw}{own:Str}{as:List D}(an:D)(h:qW (qZ rs own as).th=true):(qZ rs own (as++ [an])).gs=(qZ rs own as).gs++ [.tup [askOf (qZ rs own as).th,an]]:=by
 rw [J2 an h];unfold ansS;split
 ·rfl
 ·exact runS_gs _ _ _ _
def Val (rs:List Rw)(own:Str)(as:List D):Prop:=∀(k:Nat) (a:D),as[k]? =some a->∃(u:Str) (d:D),(qZ rs own (as.take k)).th= .tup [.str "asks",.tup [.str u,d]]/\ansB u a=true
theorem wt {u:Str}{d e:D}(h:e= .tup [.str "asks",.tup [.str u,d]]):qW e=true:=by rw [h];simp [qW]
theorem Val.nil {rs:List Rw}{own:Str}:Val rs own []:=fun k a h=>by simp at h
theorem Val.ok {rs:List Rw}{own:Str}{as:List D}(h:Val rs own as):∀a∈as,Xn a:=fun a ha=>by
 obtain⟨k,I⟩:=List.getElem?_of_mem ha;obtain⟨u,d,_,h2⟩:=h k a I;exact XO h2
theorem Val.take {rs:List Rw}{own:Str}{as:List D}(h:Val rs own as)(n:Nat):Val rs own (as.take n):=fun k a I=>by
 have L:k<n:=by
  have:=(List.getElem?_eq_some_iff.mp I).1;rw [uz] at this;omega
 rw [List.getElem?_take_of_lt L] at I;obtain⟨u,d,h1,h2⟩:=h k a I;rw [List.take_take,UB (by omega)]
 exact⟨u,d,h1,h2⟩
theorem Val.snoc {rs:List Rw}{own:Str}{as:List D}{an:D}{u:Str}{d:D}(h:Val rs own as)(e:(qZ rs own as).th= .tup [.str "asks",.tup [.str u,d]])(ha:ansB u an=true):Val rs own (as++ [an]):=fun k a I=>by
 have L:=(List.getElem?_eq_some_iff.mp I).1;rw [uf] at L;by_cases c:k<as.length
 ·rw [Uo c] at I;rw [List.take_append_of_le_length (by omega)]
  exact h k a I
 ·have e2:k=as.length:=by simp at L;omega
  subst e2;rw [vx (ug _),Nat.sub_self] at I;cases I;rw [List.take_left']
  ·exact⟨u,d,e,ha⟩
  ·rfl
theorem Val.last {rs:List Rw}{own:Str}{as:List D}{an:D}(h:Val rs own (as++ [an])):Val rs own as/\∃(u:Str) (d:D),(qZ rs own as).th= .tup [.str "asks",.tup [.str u,d]]/\ansB u an=true:=by
 refine⟨?_,?_⟩
 ·have:=h.take as.length
  rwa [List.take_left' rfl] at this
 ·have:=h as.length an (by rw [vx (ug _),Nat.sub_self];rfl)
  rwa [List.take_left' rfl] at this
theorem fr {H I:Hp}{b:Addr}(s:Same H I)(h:I b=none):H b=none:=by
 cases L:H b with
 |none=>rfl
 |some o=>rw [s _ _ L] at h;cases h
theorem same_mv {H H1 H2:Hp}{m:Mc}(s:Same H H1)(v:Mv m H1 H2)(h1:H m.x=none)(h2:H m.db=none)(I:H m.dg=none):Same H H2:=fun b o e=>v.kept b o (s b o e) (qr e h1) (qr e h2) (qr e I)
theorem mk_mac {C br bn:Addr}{H:Hp}{v:V}{rs:List Rw}{own:Str}{Q:VK}{E:XK}{x dx:Addr}(hv:Is H (QV rs) v)(hR:Qu rs)(L:nm own=true)(ab:own.length<=100)(hx:H x=none)(M:H dx=none)(q:∀(db dg:Addr) (H':Hp),H db=none->H dg=none->Same H H'->yg C H' ⟨x,db,dg,rs,own⟩ (qZ rs own [])->Q .non H'):
  ZN C br bn [.ref x,v,.str own] (upd (upd H dx (.own x)) x (.ins C dx [])) Q E:=by
 have I:Same H (upd (upd H dx (.own x)) x (.ins C dx [])):=fun b o h=>by rw [qx (qr h hx),qx (qr h M)];exact h
 refine⟨x,dx,v,.str own,QV rs,.str own,rfl,qh,hv.mono I.tk,⟨rfl,qY (by omega)⟩,fun h=> ?_,fun _ h=> ?_,fun O aa e1 R e2 _ _ H1 db dg kept U Y M1=> ?_⟩
 ·rw [hR.read] at h;cases h
 ·rw [show isNm (.str own)=nm own from rfl,L] at h;cases h
 ·cases e2;have:O=rs:=by
   have h1:=R.read;rw [<-e1,hR.read] at h1;exact(uQ h1).symm
  subst this;exact q db dg H1 (fr I U) (fr I Y) (fun b o h=>kept b o (I b o h) (qr h hx)) M1
def Bad (br bn:Addr)(d od:D)(c:Addr):Prop:=(yD d=none/\c=br)∨(yD d≠none/\isNm od=false/\c=bn)
theorem mk_bad {C br bn c:Addr}{H:Hp}{v L:V}{d od:D}{Q:VK}{E:XK}{x dx:Addr}(Y:Is H d v)(ho:Is H od L)(M:Bad br bn d od c)(U:H x=none)(O:H dx=none)(q:∀(e:Addr) (H':Hp),Same H H'->E (.ref e) (some c) H'):
  ZN C br bn [.ref x,v,L] (upd (upd H dx (.own x)) x (.ins C dx [])) Q E:=by
 have R:Same H (upd (upd H dx (.own x)) x (.ins C dx [])):=fun b o h=>by rw [qx (qr h U),qx (qr h O)];exact h
 have s1:∀{H':Hp},(∀b o,(upd (upd H dx (.own x)) x (.ins C dx [])) b=some o->b≠x->H' b=some o)->Same H H':=fun{H'} kept b o h=>kept b o (R b o h) (qr h U);refine⟨x,dx,v,L,d,od,rfl,qh,Y.mono R.tk,ho.mono R.tk,fun h e H' kept=> ?_,fun h1 h2 e H' kept=> ?_,fun rs own e1 hR e2 hn _ H1 db dg kept aa ab M1=> ?_⟩
 ·rcases M with⟨_,rfl⟩|⟨h1,_⟩
  ·exact q e H' (s1 kept)
  ·exact absurd h h1
 ·rcases M with⟨I,_⟩|⟨_,_,rfl⟩
  ·exact absurd I h1
  ·exact q e H' (s1 kept)
 ·exfalso;rcases M with⟨I,_⟩|⟨_,I,_⟩
  ·rw [e1,hR.read] at I;cases I
  ·rw [e2,show isNm (.str own)=nm own from rfl,hn] at I;cases I
theorem yg.m {C:Addr}{H:Hp}{m:Mc}{r:Rn}{n:Str}{p:Prop}(M:yg C H m r)(hn:n∈MTH)(q:p):∃a dx fs,V.ref m.x= .ref a/\H a=some (.ins C dx fs)/\fs.lookup n=none/\p:=by
 obtain⟨dx,fs,rv,ru,tv,I,e,f,r⟩:=M;exact⟨m.x,dx,fs,rfl,e,f.meth _ hn,q⟩
theorem for_en {K:PySem.W.Frag}{a:Addr}{c:Int}{xs:List V}{g:TG}{tb:TS}{D:Ends}{σ:L2.St}{H:Hp}(I:Nat->L2.St->Hp->Prop)(U:I 0 σ H)(Y:∀i σ H,i<=xs.length->I i σ H->SqT K H a xs)
  (hs:∀i x σ H p,xs[i]? =some x->I i σ H->H p=none->g (.ref p) σ (upd H p (.tup [.int (c+i),x])) fun M H2=>tb {D with nx:=I (i+1),ct:=I (i+1),bk:=D.nx} M H2) (hd:∀σ H,I xs.length σ H->D.nx σ H):
  ∃W:Nat->Nat->L2.St->Hp->Prop,(∃m,W 0 m σ H)/\∀i m σ H,W i m σ H->
   ((Ite K a c).stop i H/\D.nx σ H)∨((Ite K a c).go i H/\∃N:L2.St->Hp->Prop,(∀O H',N O H'->∃R,R<m/\W (i+1) R O H')/\∀x H',(Ite K a c).yld i H x H'->g x σ H' fun M H2=>tb {D with nx:=N,ct:=N,bk:=D.nx} M H2):=by
 refine⟨fun i m σ H=>m=xs.length-i/\i<=xs.length/\I i σ H,⟨xs.length,by simp,uF _,U⟩,?_⟩
 rintro i m σ H ⟨rfl,hi,p⟩;have q:=Y i σ H hi p;by_cases L:i<xs.length
 ·refine .inr ⟨⟨xs,xs[i],q,by simp [L]⟩,I (i+1),fun O H' p'=>⟨xs.length-(i+1),by omega,rfl,L,p'⟩,fun x H' y=> ?_⟩
  obtain⟨p2,y2,rfl,hp,rfl,y⟩:=y;exact hs i y2 σ _ p2 (y xs q) p hp
 ·have e:i=xs.length:=by omega
  subst e;exact .inl ⟨⟨xs,q,rfl⟩,hd σ H p⟩
def askK:D->Str
 | .tup [.str u,_]=>u
 |_=>""
noncomputable def okP (r:Rn)(p:D×D):Bool:=eqN r.th (.tup [.str "asks",p.1])&&ansB (askK p.1) p.2
noncomputable def goP (rs:List Rw)(own:Str):Rn->List (D×D)->Nat×Rn
 |r,[]=>(0,r)
 |r,p::ps=>if okP r p=true then((goP rs own (ansS rs own r p.2) ps).1+1,(goP rs own (ansS rs own r p.2) ps).2) else(0,r)
def prD (p:D×D):D:= .tup [p.1,p.2]
def sp_stnd (C:Addr):Sp:=fun vs H Q _=>∃(m:Mc) (r:Rn) (v:V) (ps:List (D×D)),vs= [.ref m.x,v]/\yg C H m r/\RnOk m.rs r/\Qu m.rs/\m.own.length<=100/\Is H (.tup (ps.map prD)) v/\(∀p∈ps,nD p.1=true)/\
 ∀H',Mv m H H'->yg C H' m (goP m.rs m.own r ps).2->RnOk m.rs (goP m.rs m.own r ps).2->Q (.int ((goP m.rs m.own r ps).1:Int)) H'
theorem ok_stnd (T:Tx K mg a)(C:Fx K w mg g a):FnOk P w K mg base CX0 8 a.Ye a.Yg ["machine","asks"] (sp_stnd a.qC):=by
 have Yv:=ok_now (P:=P) (w:=w) (base:=base) T;have xu:=ok_ans (P:=P) (w:=w) (base:=base) T C;refine T.g_asks_that_stand.F.ok QZ () (fun _ _ _ _ H _ Q E hr h=> ?_)
 obtain⟨m,r0,v,ps,rfl,M0,ap,hR,aq,iv,au,k⟩:=h;refine⟨_,(@qe _ _ _ _ _ (@Jo _ _ _ _ _ _ _ _ vk rfl (@pi_enum0 _ _ _ _ _ _ _ _ () T.z_enumerate (pv 1) ()) (@Xc _ _ _ _ _ _ rfl (Qq (@qQ _ _ (2) _ QZ.nd rfl (Or.inl rfl) ()) (Qq (@qQ _ _ (3) _ QZ.nd rfl (Or.inl rfl) ()) YT)) () ()) (@qe _ _ _ _ _ (@qG _ _ _ _ _ _ _ _ (@qm _ _ _ _ _ _ _ _ (@op_neTN _ hr.units) (@Ys _ _ _ _ _ _ _ _ _ _ _ _ _ _ _ _ _ (pv 0) T.qu T.g_Machine_now.h Yv (hr.mono ()) T.g_Machine_now.b .nil qN ()) (@qy _ _ _ _ _ (@qa _ _ _ _ _ qi (@qa _ _ _ _ _ (@qF _ _ _ _ _ _ _ qR (pv 3) qj (fun _ _=>rfl)) qc ()) ())) (qw _)) (@qg _ _ _ (@ql _ _ _ _ (pv 2))) qq) (@qg _ _ _ (@ps_tryM _ _ _ _ _ _ _ _ _ _ _ _ _ _ _ _ _ _ _ _ _ _ _ _ _ _ (pv 0) T.qu T.g_Machine_answer.h xu (hr.mono ()) T.g_Machine_answer.b (@qa _ _ _ _ _ (@qF _ _ _ _ _ _ _ qR (pv 3) qj (fun _ _=>rfl)) qc ()) ⟨rfl,rfl⟩ () C.jF C.e_BadAnswer (fun _ _=>(@qg _ _ _ (@ql _ _ _ _ (pv 2)))) () () () () ()))) ()) (@qg _ _ _ (@ql _ _ _ _ (@qk _ _ _ _ _ _ _ _ _ qE () T.Qy um (@qa _ _ _ _ _ (pv 1) qc ()) () () () ())))),?_⟩
 dsimp only [cxOf,Cx.nox];obtain⟨pa,us,rfl,Y,iu⟩:=iv;have aa:us.length=ps.length:=by rw [iu.length,ub]
 have two:(2:Nat)<=sizeLine:=by decide
 refine⟨_,rfl,pa,us,rfl,SqT.of Y,fun hsz=> ?_⟩
 let J1_:Nat->L2.St->Hp->Prop:=fun i σ H'=>∃(r:Rn) (x2 x3:Option V),σ= [some (.ref m.x),some (.ref pa),x2,x3]/\i<=ps.length/\yg a.qC H' m r/\RnOk m.rs r/\(goP m.rs m.own r0 ps).1=i+(goP m.rs m.own r (ps.drop i)).1/\(goP m.rs m.own r0 ps).2=(goP m.rs m.own r (ps.drop i)).2/\Mv m H H'
 refine for_en (c:=0) (xs:=us) J1_ ⟨r0,_,_,rfl,uF _,M0,ap,by rw [vO,Nat.zero_add],by rw [vO],Mv.refl _ _⟩ (fun i σ H' hi ⟨_,_,_,_,_,_,_,_,_,mv⟩=>SqT.of (mv.tk.tup _ _ Y)) ?_ ?_
 ·rintro i y σ H' p hy ⟨r,x2,x3,rfl,hi,M,U,R,I,mv⟩ hp;have ab:i<ps.length:=by rw [<-aa];exact(List.getElem?_eq_some_iff.mp hy).1
  obtain⟨⟨q,an⟩,hk⟩:∃x,ps[i]? =some x:=⟨ps[i],by simp [ab]⟩
  have av:ps.drop i=(q,an)::ps.drop (i+1):=by
   rw [vf ab];have:=List.getElem?_eq_some_iff.mp hk;rw [this.2]
  have aw:nD q=true:=au (q,an) (uJ hk);rw [av] at R I;have s1:=qb hp (.tup [.int (0+(i:Int)),y]);have M1:=M.same s1;have ac:=mv.trans (Mv.of s1);have e1:(upd H' p (.tup [.int (0+(i:Int)),y])) p=some (.tup [.int (0+(i:Int)),y]):=qh;generalize upd H' p (.tup [.int (0+(i:Int)),y])=H1 at s1 M1 ac e1⊢;obtain⟨y',ag,iy⟩:=iu.get (i:=i) (d:=prD (q,an)) (by rw [uM,hk];rfl)
  rw [hy] at ag;cases ag;have ah:Is H1 (.tup [q,an]) y:=iy.mono ac.tk;obtain⟨wd,ed,ad⟩:=U.two;refine⟨p,_,rfl,SqT.of e1,rfl,_,_,rfl,_,_,rfl,rfl,?_⟩;refine⟨_,rfl,M1.m (by decide+kernel) ⟨m,_,rfl,M1,fun v5 i5=> ?_⟩⟩
  refine⟨_,rfl,QO (i:=0) (d:=q) ah (qS (j:=0) rfl) fun z hz=>⟨two,fun l hl=> ?_⟩⟩;have s2:=qb hl (.tup [.str "asks",z]);have ae:=U.gd;rw [ad] at i5 ae;have L:=Y4 ae.1;simp only [nD] at L;have ak:dpL [.str wd,ed]<=60:=by
   have:=ae.2;simp only [dp] at this;omega
  refine⟨[.str wd,ed],[.str "asks",q],i5.mono s2.tk,Is.new (ds:= [.str "asks",q]) ⟨_,_,rfl,⟨rfl,qY (by decide)⟩,_,_,rfl,hz,rfl⟩ hl,L,by simp only [nL,nD,aw,vD],ak,_,rfl,?_⟩
  have af:=ac.trans (Mv.of s2);have M2:=M1.same s2;have al:eqN r.th (.tup [.str "asks",q])=eqNL [.str wd,ed] [.str "asks",q]:=by rw [ad];simp only [eqN]
  have stop:okP r (q,an)=false->Q (.int (0+(i:Int))) (upd H1 l (.tup [.str "asks",z])):=fun h=>by
   have e3:goP m.rs m.own r ((q,an)::ps.drop (i+1))=(0,r):=by
    show(if okP r (q,an)=true then _ else(0,r))=_
    rw [h,if_neg u8]
   rw [e3] at R I;have:=k _ af (by rw [I];exact M2) (by rw [I];exact U)
   rw [R] at this;rw [Int.zero_add];exact this
  cases hq:eqNL [.str wd,ed] [.str "asks",q] with
  |false=>
   refine iteT ⟨_,rfl,stop ?_⟩;unfold okP;rw [al,hq]
   rfl
  |true=>
   refine iteF ?_;have am:r.th= .tup [.str "asks",q]:=by
    rw [ad];exact congrArg D.tup ((eqNL_iff L).mp hq)
   obtain⟨_,_,_,u,d,O,hu,hd⟩:=U.ask (by rw [am];simp [qW])
   have ax:q= .tup [.str u,d]:=by
    have:=am.symm.trans O;injection this with this
    injection this with _ this
    injection this with this _
   have ao:okP r (q,an)=ansB u an:=by
    unfold okP;rw [al,hq,ax]
    rfl
   refine⟨_,rfl,M2.m (by decide+kernel) ⟨_,rfl,QO (i:=1) (d:=an) (ah.mono s2.tk) (qS (j:=1) rfl) fun t ht=> ?_⟩⟩
   refine .inl ⟨m,r,t,u,d,an,rfl,M2,U,O,ht,hR,aq,fun hb H3 ay M3=> ?_,fun hb e H3 s3=>⟨rfl,_,rfl,?_⟩⟩
   ·have e3:goP m.rs m.own r ((q,an)::ps.drop (i+1))=((goP m.rs m.own (ansS m.rs m.own r an) (ps.drop (i+1))).1+1,(goP m.rs m.own (ansS m.rs m.own r an) (ps.drop (i+1))).2):=by
     show(if okP r (q,an)=true then _ else(0,r))=_
     rw [ao,hb,if_pos rfl]
    rw [e3] at R I;exact⟨ansS m.rs m.own r an,_,_,rfl,ab,M3,ansS_ok hR U (by rw [O];simp [qW]) (XO hb),by rw [R];show i+(_+1)=i+1+_;omega,I,af.trans ay⟩
   ·have e3:goP m.rs m.own r ((q,an)::ps.drop (i+1))=(0,r):=by
     show(if okP r (q,an)=true then _ else(0,r))=_
     rw [ao,hb,if_neg u8]
    rw [e3] at R I;have:=k _ (af.trans (Mv.of s3)) (by rw [I];exact M2.same s3) (by rw [I];exact U)
    rw [R] at this;rw [Int.zero_add];exact this
 ·rintro σ H' ⟨r,x2,x3,rfl,hi,M,U,R,I,mv⟩;rw [aa,List.drop_length] at R I;refine⟨_,rfl,pa,us,rfl,.inr (SqT.of (mv.tk.tup _ _ Y)),?_⟩;have:=k _ mv (by rw [I];exact M) (by rw [I];exact U)
  rw [R] at this;rw [aa];exact this
def doesB (rs:List Rw)(own:Str)(ps:List (D×D))(es:List D):Bool:=decide ((goP rs own (qZ rs own []) ps).1=ps.length)&&(!qW (goP rs own (qZ rs own []) ps).2.th&&eqN (goP rs own (qZ rs own []) ps).2.th (.tup es))
theorem goP_le {rs:List Rw}{own:Str}:∀(ps:List (D×D)) (r:Rn),(goP rs own r ps).1<=ps.length
 | [],r=>ug _
 |p::ps,r=>by
  show(if okP r p=true then((goP rs own (ansS rs own r p.2) ps).1+1,(goP rs own (ansS rs own r p.2) ps).2) else(0,r)).1<=_
  split
  ·have:=goP_le (rs:=rs) (own:=own) ps (ansS rs own r p.2);simp only [ud];omega
  ·exact uF _
def sp_no (br bn:Addr):Sp:=fun vs H Q E=>∃(v ov rv:V) (d od:D) (c:Addr),vs= [v,ov,rv]/\Is H d v/\Is H od ov/\Bad br bn d od c/\∀(e:Addr) (H':Hp),Same H H'->E (.ref e) (some c) H'
def sp_doesG:Sp:=fun vs H Q _=>∃(v rv:V) (own:Str) (rs:List Rw) (ps:List (D×D)) (es:List D),vs= [v,.str own,rv]/\Is H (QV rs) v/\Qu rs/\nm own=true/\own.length<=100/\Is H (.tup [.tup (ps.map prD),.tup es]) rv/\(∀p∈ps,nD p.1=true)/\nL es=true/\∀H',Same H H'->Q (.bl (doesB rs own ps es)) H'
def sp_does (br bn:Addr):Sp:=fun vs H Q E=>sp_doesG vs H Q E∨sp_no br bn vs H Q E
theorem ok_does (T:Tx K mg a)(C:Fx K w mg g a):FnOk P w K mg base (CX1 P w) 10 a.f_does a.d_does ["rule","own","run"] (sp_does g.br g.bn):=by
 have yZ:=ok_minit (P:=P) (w:=w) (base:=base) T C;have yb:=ok_stnd (P:=P) (w:=w) (base:=base) T C;have Yv:=ok_now (P:=P) (w:=w) (base:=base) T;have Qh:=ok_wait (P:=P) (w:=w) (base:=base) T;refine T.g_does.F.okX sc_does (fun vs H Q E h=> ?_) (fun cdv A outer s H vs Q E O h=> ?_)
 ·rcases h with⟨v,rv,own,rs,ps,es,rfl,_⟩|⟨v,ov,rv,d,od,c,rfl,_⟩<;>rfl
 have h0:=h;clear h;refine⟨_,(@qe _ _ _ _ _ (@qB _ _ (3) _ _ _ _ sc_does.nd rfl (Or.inl rfl) (@pe_make _ _ _ _ _ _ _ _ _ _ _ _ _ _ _ _ _ T.M_Machine yZ (O.mono ()) () T.m_Machine T.g_Machine_init.b .nil pass1 (@qa _ _ _ _ _ (pv 0) (@qa _ _ _ _ _ (pv 1) qc ()) ()) () () ()) () ()) (@qe _ _ _ _ _ (@qG _ _ _ _ _ _ _ _ (@qm _ _ _ _ _ _ _ _ op_lt (@qv _ _ _ _ _ _ _ _ _ _ _ _ _ _ _ _ yb (O.mono ()) () T.g_asks_that_stand.m T.g_asks_that_stand.F.kp T.g_asks_that_stand.b .nil qN (@qa _ _ _ _ _ (pv 3) (@qa _ _ _ _ _ (@qF _ _ _ _ _ _ _ qR (pv 2) qj (fun _ _=>rfl)) qc ()) ()) () () ()) (@qk _ _ _ _ _ _ _ _ _ qE () T.Qy um (@qa _ _ _ _ _ (@qF _ _ _ _ _ _ _ qR (pv 2) qj (fun _ _=>rfl)) qc ()) () () () ()) (qw _)) (@qg _ _ _ (@ql _ _ _ _ jn)) qq) (@qg _ _ _ (@ql _ _ _ _ (@Xa _ _ _ _ _ _ _ (@pe_not _ _ _ _ (@Ys _ _ _ _ _ _ _ _ _ _ _ _ _ _ _ _ _ (pv 3) T.qu T.g_Machine_is_waiting.h Qh (O.mono ()) T.g_Machine_is_waiting.b .nil qN ())) (@Jv _ _ _ _ _ (@QG _ _ _ _ _ _ _ _ (@op_eqN _ O.units) (@Ys _ _ _ _ _ _ _ _ _ _ _ _ _ _ _ _ _ (pv 3) T.qu T.g_Machine_now.h Yv (O.mono ()) T.g_Machine_now.b .nil qN ()) (@qF _ _ _ _ _ _ _ qR (pv 2) qj (fun _ _=>rfl)) (qw _)))))))),?_⟩
 dsimp only [cxOf,Cx.nox];rcases h0 with h|⟨v,ov,rv,d,od,c,rfl,hv,ho,hb,kE⟩;rotate_left
 ·exact⟨_,rfl,_,rfl,fun x dx hx L _=>mk_bad hv ho hb hx L kE⟩
 obtain⟨v,rv,own,rs,ps,es,rfl,hv,hR,ae,R,ir,af,ag,k⟩:=h;have ah:=yO (own:=own) hR (as:= []) (fun a h=>by simp at h)
 have ak:=goP_le (rs:=rs) (own:=own) ps (qZ rs own []);unfold doesB at k;refine⟨_,rfl,_,rfl,fun x dx hx L _=>mk_mac hv hR ae R hx L fun db dg H1 al am S1 M1=>⟨rfl,?_⟩⟩;refine⟨_,rfl,_,rfl,QO (i:=0) (d:= .tup (ps.map prD)) (ir.mono S1.tk) (qS (j:=0) rfl) fun q hq=> ?_⟩;refine⟨⟨x,db,dg,rs,own⟩,qZ rs own [],q,ps,rfl,M1,ah,hR,R,hq,af,fun H2 mv M2 U=> ?_⟩;simp only at M2 U;have Y:=same_mv S1 mv hx al am;refine⟨_,rfl,QO (i:=0) (d:= .tup (ps.map prD)) (ir.mono Y.tk) (qS (j:=0) rfl) fun q2 ao=> ?_⟩;obtain⟨p2,aa,rfl,ap,aq⟩:=ao;have ab:aa.length=ps.length:=by rw [aq.length,ub]
 generalize goP rs own (qZ rs own []) ps=gp at M2 U ak k;refine⟨p2,aa,rfl,.inr (SqT.of ap),_,_,rfl,rfl,_,rfl,?_⟩;by_cases cl:gp.1=ps.length
 ·refine qo (by rw [ab,cl];exact u9 (Int.lt_irrefl _)) ?_
  rw [u0 cl,vE] at k;refine⟨_,rfl,M2.m (by decide+kernel) ⟨⟨x,db,dg,rs,own⟩,_,rfl,M2,.inr U.two,_,rfl,_,rfl,?_⟩⟩
  cases hw:qW gp.2.th with
  |true=>
   refine iteF ?_;have:=k _ Y;rw [hw] at this;exact this
  |false=>
   refine iteT ?_;refine⟨_,rfl,M2.m (by decide+kernel) ⟨⟨x,db,dg,rs,own⟩,_,rfl,M2,fun v5 i5=> ?_⟩⟩
   refine⟨_,rfl,?_⟩;unfold tC;refine QO (i:=1) (d:= .tup es) (ir.mono Y.tk) (qS (j:=1) rfl) fun q3 au=> ?_;obtain⟨wd,ed,ac⟩:=U.two;have M:=U.gd;rw [ac] at i5 M;have I:=Y4 M.1;simp only [nD] at I;have ad:dpL [.str wd,ed]<=60:=by
    have:=M.2;simp only [dp] at this;omega
   refine⟨[.str wd,ed],es,i5,au,I,ag,ad,?_⟩;have:=k _ Y;rw [hw,ac] at this;simp only [eqN] at this;exact this
 ·refine qA (by rw [ab];exact u0 (by omega)) ?_
  rw [u9 cl] at k;exact k _ Y
def lieV (rs:List Rw)(own:Str)(ps:List (D×D))(es:List D):V:=if doesB rs own ps es=true then .non else .int ((goP rs own (qZ rs own []) ps).1:Int)
def sp_lieG:Sp:=fun vs H Q _=>∃(v rv:V) (own:Str) (rs:List Rw) (ps:List (D×D)) (es:List D),vs= [v,.str own,rv]/\Is H (QV rs) v/\Qu rs/\nm own=true/\own.length<=100/\Is H (.tup [.tup (ps.map prD),.tup es]) rv/\(∀p∈ps,nD p.1=true)/\nL es=true/\∀H',Same H H'->Q (lieV rs own ps es) H'
def sp_lie (br bn:Addr):Sp:=fun vs H Q E=>sp_lieG vs H Q E∨sp_no br bn vs H Q E
theorem ok_lie (T:Tx K mg a)(C:Fx K w mg g a):FnOk P w K mg base (CX1 P w) 11 a.xV a.xU ["rule","own","run"] (sp_lie g.br g.bn):=by
 have yZ:=ok_minit (P:=P) (w:=w) (base:=base) T C;have yb:=ok_stnd (P:=P) (w:=w) (base:=base) T C;have I:=ok_does (P:=P) (w:=w) (base:=base) T C;refine T.g_lie_place.F.okX sc_lie_place (fun vs H Q E h=> ?_) (fun cdv A outer s H vs Q E Y h=> ?_)
 ·rcases h with⟨v,rv,own,rs,ps,es,rfl,_⟩|⟨v,ov,rv,d,od,c,rfl,_⟩<;>rfl
 have h0:=h;clear h;refine⟨_,(@qe _ _ _ _ _ (@qG _ _ _ _ _ _ _ _ (@qU _ _ _ (@qv _ _ _ _ _ _ _ _ _ _ _ _ _ _ _ _ I (Y.mono ()) () T.g_does.m T.g_does.F.kp T.g_does.b .nil pass1 (@qa _ _ _ _ _ (pv 0) (@qa _ _ _ _ _ (pv 1) (@qa _ _ _ _ _ (pv 2) qc ()) ()) ()) () () ()) ()) (@qg _ _ _ (@ql _ _ _ _ Qe)) qq) (@qg _ _ _ (@ql _ _ _ _ (@qv _ _ _ _ _ _ _ _ _ _ _ _ _ _ _ _ yb (Y.mono ()) () T.g_asks_that_stand.m T.g_asks_that_stand.F.kp T.g_asks_that_stand.b .nil qN (@qa _ _ _ _ _ (@pe_make _ _ _ _ _ _ _ _ _ _ _ _ _ _ _ _ _ T.M_Machine yZ (Y.mono ()) () T.m_Machine T.g_Machine_init.b .nil pass1 (@qa _ _ _ _ _ (pv 0) (@qa _ _ _ _ _ (pv 1) qc ()) ()) () () ()) (@qa _ _ _ _ _ (@qF _ _ _ _ _ _ _ qR (pv 2) qj (fun _ _=>rfl)) qc ()) ()) () () ())))),?_⟩
 dsimp only [cxOf,Cx.nox];rcases h0 with h|⟨v,ov,rv,d,od,c,rfl,R,ho,hb,kE⟩;rotate_left
 ·exact⟨_,rfl,_,rfl,_,rfl,.inr ⟨v,ov,rv,d,od,c,rfl,R,ho,hb,kE⟩⟩
 obtain⟨v,rv,own,rs,ps,es,rfl,R,U,M,L,ir,O,aa,k⟩:=h;have ab:=yO (own:=own) U (as:= []) (fun a h=>by simp at h)
 refine⟨_,rfl,_,rfl,_,rfl,.inl ⟨v,rv,own,rs,ps,es,rfl,R,U,M,L,ir,O,aa,fun H1 s1=>⟨_,rfl,?_⟩⟩⟩;unfold lieV at k;cases hd:doesB rs own ps es with
 |true=>
  rw [hd] at k;exact iteT (k H1 s1)
 |false=>
  rw [hd] at k;refine iteF ?_;refine⟨_,rfl,_,rfl,fun x dx hx ac _=>mk_mac (R.mono s1.tk) U M L hx ac fun db dg H2 ad ae S2 M2=>⟨rfl,?_⟩⟩;refine⟨_,rfl,?_⟩
  try unfold tC
  refine QO (i:=0) (d:= .tup (ps.map prD)) (ir.mono (s1.trans S2).tk) (qS (j:=0) rfl) fun q hq=> ?_;refine⟨⟨x,db,dg,rs,own⟩,qZ rs own [],q,ps,rfl,M2,ab,U,L,hq,O,fun H3 mv M3 hO=> ?_⟩;exact k H3 (s1.trans (same_mv S2 mv hx ad ae))
theorem nms_at {d:Int}(M:0<=d)(h1:d<4):∃z:Str,z∈NMS/\atI (NMS.map V.str) d=some (.str z)/\nm z=true/\z.length<=100:=by
 obtain⟨v,I⟩:=xN (xs:=NMS.map V.str) (i:=d) M h1;obtain⟨z,L,rfl⟩:=List.mem_map.mp (ZM I);exact⟨z,L,I,nms_ok z L⟩
def MKL (z:Str):List Str:= ["row h","text b "++z,"ask c b","text a text d ","join a c","put h a","text a ask e d","put h a","text a say e","put h a","say h"]
theorem mkl_ok:∀z∈NMS,(yD (.tup ((MKL z).map D.str))).isSome=true/\((MKL z).all fun y=>decide (y.length<=100))=true:=by decide+kernel
def sp_rul:Sp:=fun vs H Q _=>∃p L:Addr,vs= [.ref p,.ref L]/\Qv H p/\H L=some (.lst (NMS.map V.str))/\∀(v:V) (rs:List Rw) (H':Hp),Qu rs->rs.length<=12->Is H' (QV rs) v->Qv H' p->Kept p H H'->Q v H'
theorem Qv.four {H:Hp}{p L:Addr}(h:Qv H p)(e:H L=some (.lst (NMS.map V.str))):L≠p:=fun z=>by
 obtain⟨x,e2,_⟩:=h;rw [<-z,e] at e2;injection e2 with e2
 injection e2 with e2
 have h1:(4:Nat)=1:=congrArg List.length e2;omega
theorem Qv.ne_l {H:Hp}{p L:Addr}{xs:List V}(h:Qv H p)(e:H L=some (.lst xs))(I:xs.length≠1):L≠p:=fun z=>by
 obtain⟨x,e2,_⟩:=h;rw [<-z,e] at e2;injection e2 with e2
 injection e2 with e2
 exact I (by rw [e2];rfl)
def sp_told:Sp:=fun vs H Q _=>∃(p L:Addr) (v:V) (u:Str) (d:D),vs= [.ref p,v,.ref L]/\Qv H p/\H L=some (.lst (NMS.map V.str))/\Is H (.tup [.str u,d]) v/\u∈(["thing","has","names"]:List Str)/\
 ∀(x:V) (an:D) (H':Hp),ansB u an=true->Is H' an x->Qv H' p->Kept p H H'->Q x H'
theorem nms_row:∀k:Fin 5,ansB "names" (.tup ((NMS.take k.val).map D.str))=true:=by decide+kernel
theorem wrd_ans:∀z∈WRD,ansB "thing" (.str z)=true:=by decide+kernel
theorem ok_maker (T:Tx K mg a):FnOk P w K mg base CX0 2 a.XA a.XC ["pot","names"] sp_rul:=by
 have qI:=Y2 (P:=P) (w:=w) (base:=base) T;refine T.g_law_maker.F.ok yQ () (fun _ _ _ _ H _ Q E hr h=> ?_)
 obtain⟨p,L,rfl,hP,O,k⟩:=h;refine⟨_,(@qe _ _ _ _ _ (@qB _ _ (2) _ _ _ _ yQ.nd rfl (Or.inl rfl) (@qF _ _ _ _ _ _ _ qO (pv 1) (@qv _ _ _ _ _ _ _ _ _ _ _ _ _ _ _ _ qI (hr.mono ()) () T.g_law_take.m T.g_law_take.F.kp T.g_law_take.b .nil qN (@qa _ _ _ _ _ (pv 0) (@qa _ _ _ _ _ (@qk _ _ _ _ _ _ _ _ _ qE () T.Qy um (@qa _ _ _ _ _ (pv 1) qc ()) () () () ()) qc ()) ()) () () ()) (fun _ _=>rfl)) () ()) (@qe _ _ _ _ _ (@qB _ _ (3) _ _ _ _ yQ.nd rfl (Or.inl rfl) (@Qb _ _ _ _ (@qa _ _ _ _ _ qi (@qa _ _ _ _ _ (@qT _ _ _ _ _ _ _ _ Qj qi (pv 2)) (@qa _ _ _ _ _ qi (@qa _ _ _ _ _ qi (@qa _ _ _ _ _ qi (@qa _ _ _ _ _ qi qc ()) ()) ()) ()) ()) ())) () ()) (@qe _ _ _ _ _ (@qB _ _ (3) _ _ _ _ yQ.nd rfl (Or.inl rfl) (@qT _ _ _ _ _ _ _ _ op_cat (pv 3) (@Qb _ _ _ _ (@qa _ _ _ _ _ qi (@qa _ _ _ _ _ qi (@qa _ _ _ _ _ qi (@qa _ _ _ _ _ qi (@qa _ _ _ _ _ qi qc ()) ()) ()) ()) ()))) () ()) (@qg _ _ _ (@ql _ _ _ _ (@qP _ _ _ _ _ _ _ _ _ qL () T.Qa uU (@qa _ _ _ _ _ (pv 3) qc ()) () () () ())))))),?_⟩
 dsimp only [cxOf,Cx.nox];have R:=hP.four O;refine⟨_,rfl,_,rfl,_,rfl,L,_,rfl,.inl (SqL.of O),p,4,rfl,hP,by decide,by decide,fun d1 H1 a0 a1 P1 K1 _=> ?_⟩
 obtain⟨z,hz,U,ab,ac⟩:=nms_at a0 a1;refine⟨L,_,_,_,rfl,rfl,SqL.of (K1 _ _ O R),U,?_⟩;have e7:("text b ":Str).length=7:=by decide+kernel
 refine⟨_,rfl,_,_,rfl,rfl,fits (by omega),(by show 6<=sizeLine;decide),fun I h1=> ?_⟩
 have q1:=qb h1 (.lst (((MKL z).take 6).map V.str));have e1:(upd H1 I (.lst (((MKL z).take 6).map V.str))) I=some (.lst (((MKL z).take 6).map V.str)):=qh;show tSeq _ _ _ _ (upd H1 I (.lst (((MKL z).take 6).map V.str)));generalize upd H1 I (.lst (((MKL z).take 6).map V.str))=H2 at q1 e1⊢;refine⟨_,rfl,(by show 5<=sizeLine;decide),fun l2 h2=> ?_⟩
 have q2:=qb h2 (.lst (((MKL z).drop 6).map V.str));refine⟨I,l2,_,_,rfl,rfl,q2 _ _ e1,qh,fits (by show 6+5<=16000000;decide),fun l3 h3=> ?_⟩
 have q3:=q2.trans (qb h3 (.lst ((MKL z).map V.str)));refine⟨_,rfl,l3,(MKL z).map V.str,rfl,.inl ⟨SqL.of qh,fun t ht=> ?_⟩⟩;have q4:=qb ht (.tup ((MKL z).map V.str));have M:=mkl_ok z hz;obtain⟨rs,Y⟩:=X2 M.1;obtain⟨hR,er⟩:=readD_ok Y;have aa:rs.length=11:=by
  have:=congrArg (fun d:D=>match d with| .tup l=>l.length|_=>0) er
  simp only [QV,ub] at this;exact this.symm
 refine k _ rs _ hR (by omega) ?_ ((P1.same q1).same (q3.trans q4)) (K1.trans (Kept.of (q1.trans (q3.trans q4))))
 rw [<-er];refine Is.new (IsL.ofStrs fun y hy=> ?_) ht;have:=(List.all_eq_true.mp M.2) y hy;exact qY (by have:=ua this;omega)
theorem ok_drawn (T:Tx K mg a):FnOk P w K mg base CX0 5 a.YF a.Yy ["pot","names"] sp_rul:=by
 have qI:=Y2 (P:=P) (w:=w) (base:=base) T;have I:=ok_maker (P:=P) (w:=w) (base:=base) T;have M:=ok_rule (P:=P) (w:=w) (base:=base) T;refine T.g_law_drawn_rule.F.ok JT () (fun _ _ _ _ H _ Q E U h=> ?_)
 obtain⟨p,L,rfl,hP,Y,k⟩:=h;refine⟨_,(@qe _ _ _ _ _ (@qG _ _ _ _ _ _ _ _ (@qm _ _ _ _ _ _ _ _ Qg (@qv _ _ _ _ _ _ _ _ _ _ _ _ _ _ _ _ qI (U.mono ()) () T.g_law_take.m T.g_law_take.F.kp T.g_law_take.b .nil qN (@qa _ _ _ _ _ (pv 0) (@qa _ _ _ _ _ qj qc ()) ()) () () ()) qj (qw _)) (@qg _ _ _ (@ql _ _ _ _ (@qv _ _ _ _ _ _ _ _ _ _ _ _ _ _ _ _ I (U.mono ()) () T.g_law_maker.m T.g_law_maker.F.kp T.g_law_maker.b .nil qN (@qa _ _ _ _ _ (pv 0) (@qa _ _ _ _ _ (pv 1) qc ()) ()) () () ()))) qq) (@qg _ _ _ (@ql _ _ _ _ (@qv _ _ _ _ _ _ _ _ _ _ _ _ _ _ _ _ M (U.mono ()) () T.g_law_rule.m T.g_law_rule.F.kp T.g_law_rule.b .nil qN (@qa _ _ _ _ _ (pv 0) (@qa _ _ _ _ _ (pv 1) qc ()) ()) () () ())))),?_⟩
 have O:=hP.four Y;refine⟨_,rfl,p,5,rfl,hP,by decide,by decide,fun d1 H1 a0 a1 P1 R _=>⟨rfl,_,rfl,ite2 (fun c=> ?_) (fun c=> ?_)⟩⟩
 ·exact⟨_,rfl,_,rfl,p,L,rfl,P1,R _ _ Y O,fun v rs H2 hR hl iv P2 K2=>k v rs H2 hR hl iv P2 (R.trans K2)⟩
 ·exact⟨_,rfl,_,rfl,p,L,rfl,P1,R _ _ Y O,fun v rs H2 hD hl iv P2 K2=>k v rs H2 hD.rule hl iv P2 (R.trans K2)⟩
theorem ok_told (T:Tx K mg a):FnOk P w K mg base CX0 3 a.zp a.Zg ["pot","ask","names"] sp_told:=by
 have qI:=Y2 (P:=P) (w:=w) (base:=base) T;have yA:=ok_word (P:=P) (w:=w) (base:=base) T;refine T.g_law_told.F.ok xZ () (fun _ _ _ _ H _ Q E hr h=> ?_)
 obtain⟨p,L,v,u,d,rfl,hP,hL,iv,hu,k⟩:=h;refine⟨_,(@qe _ _ _ _ _ (@qG _ _ _ _ _ _ _ _ (@qm _ _ _ _ _ _ _ _ Qg (@qF _ _ _ _ _ _ _ Y8 (pv 1) qj (fun _ _=>rfl)) qi (qw _)) (@qg _ _ _ (@ql _ _ _ _ (@qF _ _ _ _ _ _ _ qO (@Qb _ _ _ _ (@qa _ _ _ _ _ qi (@qa _ _ _ _ _ qi qc ()) ())) (@qv _ _ _ _ _ _ _ _ _ _ _ _ _ _ _ _ qI (hr.mono ()) () T.g_law_take.m T.g_law_take.F.kp T.g_law_take.b .nil qN (@qa _ _ _ _ _ (pv 0) (@qa _ _ _ _ _ qj qc ()) ()) () () ()) (fun _ _=>rfl)))) qq) (@qe _ _ _ _ _ (@qG _ _ _ _ _ _ _ _ (@qm _ _ _ _ _ _ _ _ Qg (@qF _ _ _ _ _ _ _ Y8 (pv 1) qj (fun _ _=>rfl)) qi (qw _)) (@qg _ _ _ (@ql _ _ _ _ (@qP _ _ _ _ _ _ _ _ _ qL () T.Qa uU (@qa _ _ _ _ _ (@Qn _ _ _ _ _ _ _ _ _ _ sl_list (pv 2) QJ (@QA _ _ _ (@qv _ _ _ _ _ _ _ _ _ _ _ _ _ _ _ _ qI (hr.mono ()) () T.g_law_take.m T.g_law_take.F.kp T.g_law_take.b .nil qN (@qa _ _ _ _ _ (pv 0) (@qa _ _ _ _ _ (@qT _ _ _ _ _ _ _ _ Qz (@qk _ _ _ _ _ _ _ _ _ qE () T.Qy um (@qa _ _ _ _ _ (pv 2) qc ()) () () () ()) qj) qc ()) ()) () () ()))) qc ()) () () () ()))) qq) (@qe _ _ _ _ _ (@qB _ _ (3) _ _ _ _ xZ.nd rfl (Or.inl rfl) (@Qb _ _ _ _ (@qa _ _ _ _ _ Qe (@qa _ _ _ _ _ (@qF _ _ _ _ _ _ _ qO (pv 2) (@qv _ _ _ _ _ _ _ _ _ _ _ _ _ _ _ _ qI (hr.mono ()) () T.g_law_take.m T.g_law_take.F.kp T.g_law_take.b .nil qN (@qa _ _ _ _ _ (pv 0) (@qa _ _ _ _ _ (@qk _ _ _ _ _ _ _ _ _ qE () T.Qy um (@qa _ _ _ _ _ (pv 2) qc ()) () () () ()) qc ()) ()) () () ()) (fun _ _=>rfl)) (@qa _ _ _ _ _ (@qy _ _ _ _ _ qc) (@qa _ _ _ _ _ (@qy _ _ _ _ _ (@qa _ _ _ _ _ qi (@qa _ _ _ _ _ (@qy _ _ _ _ _ (@qa _ _ _ _ _ qi (@qa _ _ _ _ _ qi qc ()) ())) qc ()) ())) qc ()) ()) ()) ())) () ()) (@qg _ _ _ (@ql _ _ _ _ (@qF _ _ _ _ _ _ _ qO (@qT _ _ _ _ _ _ _ _ op_cat (pv 3) (@Qb _ _ _ _ (@qa _ _ _ _ _ (@qv _ _ _ _ _ _ _ _ _ _ _ _ _ _ _ _ yA (hr.mono ()) () T.g_law_word.m T.g_law_word.F.kp T.g_law_word.b .nil qN (@qa _ _ _ _ _ (pv 0) (@qa _ _ _ _ _ (pv 2) qc ()) ()) () () ()) qc ()))) (@qv _ _ _ _ _ _ _ _ _ _ _ _ _ _ _ _ qI (hr.mono ()) () T.g_law_take.m T.g_law_take.F.kp T.g_law_take.b .nil qN (@qa _ _ _ _ _ (pv 0) (@qa _ _ _ _ _ qj qc ()) ()) () () ()) (fun _ _=>rfl))))))),?_⟩
 dsimp only [cxOf,Cx.nox];have zero:(0:Nat)<=sizeLine:=by decide
 have one:(1:Nat)<=sizeLine:=by decide
 have two:(2:Nat)<=sizeLine:=by decide
 have four:(4:Nat)<=sizeLine:=by decide
 have sx:∀{H3:Hp}{z:Str},z.length<=1000->Is H3 (.str z) (.str z):=fun{H3 z} hz=>⟨rfl,qY (by omega)⟩
 have aa:=hP.four hL;have es:∀y:Str,decide (V.str u=V.str y)=decide (u=y):=fun y=>by
  rw [uA];exact⟨fun h=>by injection h,fun h=>by rw [h]⟩
 have iu:∀{Q:VK},Q (.str u) H->rIxT K v (.int 0) H Q:=fun{Q} q=>QO (i:=0) (d:= .str u) iv (qS (j:=0) rfl) fun x hx=>by
  obtain⟨rfl,_⟩:=hx;exact q
 refine⟨_,rfl,.inr (.inl (iu ⟨rfl,_,rfl,?_⟩))⟩;rw [es];by_cases c1:u="has"
 ·refine qA (u0 c1) ?_;refine⟨two,fun l hl=> ?_⟩;have s1:=qb hl (.lst [.str "no",.str "yes"]);refine⟨_,rfl,p,2,rfl,hP.same s1,by decide,by decide,fun d1 H1 a0 a1 P1 Y _=> ?_⟩
  have e1:=Y _ _ qh (hP.free hl).symm;obtain⟨z,hz,ab⟩:∃z:Str,atI [V.str "no",V.str "yes"] d1=some (.str z)/\ansB "has" (.str z)=true/\z.length<=1000:=by
   obtain⟨k,rfl⟩:∃k:Fin 2,d1=((k.val:Nat):Int):=⟨⟨d1.toNat,by omega⟩,by simp;omega⟩
   match k with
   |0=>exact⟨_,rfl,by decide+kernel,by decide⟩
   |1=>exact⟨_,rfl,by decide+kernel,by decide⟩
  exact⟨l,_,_,_,rfl,rfl,SqL.of e1,hz,k _ (.str z) _ (by rw [c1];exact ab.1) (sx ab.2) P1 ((Kept.of s1).trans Y)⟩
 ·refine qo (u9 c1) ?_;refine⟨_,rfl,.inr (.inl (iu ⟨rfl,_,rfl,?_⟩))⟩;rw [es];by_cases c2:u="names"
  ·refine qA (u0 c2) ?_;refine⟨_,rfl,_,rfl,_,rfl,L,_,rfl,.inl (SqL.of hL),_,_,rfl,rfl,p,5,rfl,hP,by decide,by decide,fun d1 H1 a0 a1 P1 Y _=> ?_⟩
   have U:=Y _ _ hL aa;obtain⟨j,rfl⟩:∃j:Fin 5,d1=((j.val:Nat):Int):=⟨⟨d1.toNat,by omega⟩,by simp;omega⟩
   refine⟨_,rfl,L,_,rfl,SqL.of U,fun l hl=> ?_⟩;have hj:j.val<=(NMS.map V.str).length:=by have:=j.isLt;show j.val<=4;omega
   rw [cutV_take hj,<-List.map_take];have s2:=qb hl (.lst ((NMS.take j.val).map V.str));refine⟨l,_,rfl,.inl ⟨SqL.of qh,fun t ht=> ?_⟩⟩;have s3:=qb ht (.tup ((NMS.take j.val).map V.str));refine k _ (.tup ((NMS.take j.val).map D.str)) _ (by rw [c2];exact nms_row j) ?_ ((P1.same s2).same s3) (Y.trans (Kept.of (s2.trans s3)))
   exact Is.new (IsL.ofStrs fun z hz=>qY (by have:=(nms_ok z (Um hz)).2;omega)) ht
  ·refine qo (u9 c2) ?_;have c3:u="thing":=by
    simp only [uB,uD,vb] at hu;rcases hu with h|h|h
    ·exact h
    ·exact absurd h c1
    ·exact absurd h c2
   refine⟨_,rfl,_,rfl,_,rfl,L,_,rfl,.inl (SqL.of hL),p,4,rfl,hP,by decide,by decide,fun d1 H1 a0 a1 P1 Y _=> ?_⟩
   obtain⟨O,ag,ac,am,ao⟩:=nms_at a0 a1;have U:=Y _ _ hL aa;refine⟨L,_,_,_,rfl,rfl,SqL.of U,ac,zero,fun I h1=>⟨two,fun t2 h2=>⟨two,fun M h3=>⟨four,fun l hl=> ?_⟩⟩⟩⟩;have i1:Is (upd H1 I (.tup [])) (.tup []) (.ref I):=Is.new (ds:= []) rfl h1;have q1:=qb h1 (.tup []);generalize upd H1 I (.tup [])=G1 at*;have i2:Is (upd G1 t2 (.tup [.str "y",.str "x"])) (.tup [.str "y",.str "x"]) (.ref t2):=Is.new (ds:= [.str "y",.str "x"]) ⟨_,_,rfl,sx (by decide),_,_,rfl,sx (by decide),rfl⟩ h2
   have q2:=qb h2 (.tup [.str "y",.str "x"]);generalize upd G1 t2 (.tup [.str "y",.str "x"])=G2 at*;have i3:Is (upd G2 M (.tup [.str "x",.ref t2])) (.tup [.str "x",.tup [.str "y",.str "x"]]) (.ref M):=Is.new (ds:= [.str "x",.tup [.str "y",.str "x"]]) ⟨_,_,rfl,sx (by decide),_,_,rfl,i2,rfl⟩ h3
   have q3:=qb h3 (.tup [.str "x",.ref t2]);generalize upd G2 M (.tup [.str "x",.ref t2])=G3 at*;have q4:=qb hl (.lst [.non,.str O,.ref I,.ref M]);have el:(upd G3 l (.lst [.non,.str O,.ref I,.ref M])) l=some (.lst [.non,.str O,.ref I,.ref M]):=qh;have j1:=i1.mono (q2.trans (q3.trans q4)).tk;have j3:=i3.mono q4.tk;have Q4:=q1.trans (q2.trans (q3.trans q4));generalize upd G3 l (.lst [.non,.str O,.ref I,.ref M])=G4 at*;have P4:=P1.same Q4;refine⟨_,rfl,_,rfl,_,rfl,p,L,rfl,P4,Q4 _ _ U,fun R H5 ad P5 K5=>⟨one,fun l5 h5=> ?_⟩⟩;have ah:l≠p:=fun zz=>by
    obtain⟨x,e,_⟩:=P4;rw [<-zz,el] at e;injection e with e
    injection e with e
    have h1:(4:Nat)=1:=congrArg List.length e;omega
   have ae:=P4.tk P5 K5;have q5:=qb h5 (.lst [.str R]);refine⟨l,l5,_,_,rfl,rfl,q5 _ _ (K5 _ _ el ah),qh,fits (by show 4+1<=16000000;decide),fun l6 h6=> ?_⟩
   have q6:=qb h6 (.lst ([.non,.str O,.ref I,.ref M]++ [.str R]));have e6:(upd (upd H5 l5 (.lst [.str R])) l6 (.lst ([.non,.str O,.ref I,.ref M]++ [.str R]))) l6=some (.lst ([.non,.str O,.ref I,.ref M]++ [.str R])):=qh;have Q6:=q5.trans q6;have P6:=P5.same Q6;have j1:=(j1.mono ae).mono Q6.tk;have j3:=(j3.mono ae).mono Q6.tk;have n6:=P6.ne_l e6 (show(5:Nat)≠1 by decide)
   generalize upd (upd H5 l5 (.lst [.str R])) l6 (.lst ([.non,.str O,.ref I,.ref M]++ [.str R]))=H6 at*;refine⟨_,rfl,p,5,rfl,P6,by decide,by decide,fun d7 H7 b0 b1 P7 K7 _=> ?_⟩
   have af:=P6.tk P7 K7;have KK:=Y.trans ((Kept.of Q4).trans (K5.trans ((Kept.of Q6).trans K7)));obtain⟨x,an,hx,ak,al⟩:∃(x:V) (an:D),atI ([V.non,.str O,.ref I,.ref M]++ [.str R]) d7=some x/\Is H7 an x/\ansB "thing" an=true:=by
    obtain⟨k,rfl⟩:∃k:Fin 5,d7=((k.val:Nat):Int):=⟨⟨d7.toNat,by omega⟩,by simp;omega⟩
    match k with
    |0=>exact⟨_,.non,rfl,rfl,by decide+kernel⟩
    |1=>exact⟨_,.str O,rfl,sx (by omega),wrd_ans O (Uj _ ag)⟩
    |2=>exact⟨_,.tup [],rfl,j1.mono af,by decide+kernel⟩
    |3=>exact⟨_,.tup [.str "x",.tup [.str "y",.str "x"]],rfl,j3.mono af,by decide+kernel⟩
    |4=>exact⟨_,.str R,rfl,sx (by have:=(zG R ad).1;omega),wrd_ans R ad⟩
   exact⟨l6,_,_,x,rfl,rfl,SqL.of (K7 _ _ e6 n6),hx,k x an _ (by rw [c3];exact al) ak P7 KK⟩
theorem sl_to {K:PySem.W.Frag}{H:Hp}{v:V}{ds:List D}{n:Nat}{Q:VK}(O:Is H (.tup ds) v)(hn:n<=ds.length)(q:∀u H',Same H H'->Is H' (.tup (ds.take n)) u->Q u H'):rSlG K v none (some (n:Int)) H Q:=by
 obtain⟨p,vs,rfl,M,L⟩:=O;have R:vs.length=ds.length:=L.length;refine⟨p,vs,rfl,SqT.of M,fun h=> ?_,fun h l I=> ?_⟩
 ·have e:n=ds.length:=by
   have:=h.2;rw [HT.sIx_nat] at this;omega
  subst e;exact q _ _ (Same.refl _) ⟨p,vs,rfl,M,by rw [List.take_length];exact L⟩
 ·rw [cutV_take (by omega)]
  exact q _ _ (qb I _) (Is.new (L.take n) I)
theorem jy {K:PySem.W.Frag}{H:Hp}{v u:V}{ds es:List D}{Q:VK}(U:Is H (.tup ds) v)(Y:Is H (.tup es) u)(hl:ds.length+es.length<=sizeLine)(q:∀z H',Same H H'->Is H' (.tup (ds++es)) z->Q z H'):rCatG K v u H Q:=by
 obtain⟨p,vs,rfl,R,O⟩:=U;obtain⟨p2,us,rfl,L,I⟩:=Y;have h1:vs.length=ds.length:=O.length;have h2:us.length=es.length:=I.length;refine⟨p,p2,vs,us,rfl,rfl,SqT.of R,SqT.of L,by omega,fun h=> ?_,fun _ h=> ?_,fun _ _ l M=> ?_⟩
 ·subst h;have e:ds= []:=uG h1.symm;subst e;exact q _ _ (Same.refl _) ⟨p2,us,rfl,L,I⟩
 ·subst h;have e:es= []:=uG h2.symm;subst e;rw [vG] at q;exact q _ _ (Same.refl _) ⟨p,vs,rfl,R,O⟩
 ·exact q _ _ (qb M _) (Is.new (O.append I) M)
theorem gs0 {rs:List Rw}{own:Str}:(qZ rs own []).gs= []:=runS_gs _ _ _ _
def RgOk (x:D×D):Prop:=∃(u:Str) (d:D),x.1= .tup [.str u,d]/\u∈(["thing","has","names"]:List Str)/\nD d=true/\ansB u x.2=true
def ZR (es:List D):Prop:=∃(w:Str) (e:D),es= [.str w,e]/\w≠"asks"/\nD e=true
theorem RgOk.nd {x:D×D}(h:RgOk x):nD x.1=true:=by
 obtain⟨u,d,e,_,hd,_⟩:=h;rw [e];simp only [nD,nL,hd,vD]
theorem ZR.nd {es:List D}(h:ZR es):nL es=true:=by
 obtain⟨u,d,e,_,hd⟩:=h;rw [e];simp only [nD,nL,hd,vD]
theorem RgOk.ao {x:D×D}(h:RgOk x):Xn x.2:=by
 obtain⟨u,d,e,_,hd,ha⟩:=h;exact XO ha
theorem RgOk.ok {x:D×D}(h:RgOk x)(r:Rn):okP r x=eqN r.th (.tup [.str "asks",x.1]):=by
 obtain⟨u,d,e,_,hd,ha⟩:=h;unfold okP;rw [e];show(_&&ansB u x.2)=_;rw [ha,vD]
theorem jf {rs:List Rw}{own:Str}{r:Rn}{p:D×D}{ps:List (D×D)}:goP rs own r (p::ps)=if okP r p=true then((goP rs own (ansS rs own r p.2) ps).1+1,(goP rs own (ansS rs own r p.2) ps).2) else(0,r):=rfl
theorem okP_th {rs:List Rw}{r:Rn}{p:D×D}(I:RnOk rs r)(h:okP r p=true):r.th= .tup [.str "asks",p.1]/\qW r.th=true/\Xn p.2:=by
 unfold okP at h;rw [ui] at h;have e:=(Zk (Y4 I.gd.1)).mp h.1;exact⟨e,by rw [e];simp [qW],XO h.2⟩
theorem goP_ok {rs:List Rw}{own:Str}(I:Qu rs):∀(ps:List (D×D)) (r:Rn),RnOk rs r->RnOk rs (goP rs own r ps).2
 | [],r,h=>h
 |p::ps,r,h=>by
  rw [jf];by_cases c:okP r p=true
  ·rw [if_pos c];obtain⟨_,L,ha⟩:=okP_th h c;exact goP_ok I ps _ (ansS_ok I h L ha)
  ·rw [if_neg c];exact h
theorem goP_snoc {rs:List Rw}{own:Str}{p:D×D}:∀(ps:List (D×D)) (r:Rn),(goP rs own r ps).1=ps.length->okP (goP rs own r ps).2 p=true->goP rs own r (ps++ [p])=(ps.length+1,ansS rs own (goP rs own r ps).2 p.2)
 | [],r,_,h=>by
  show goP rs own r [p]=_;rw [jf,if_pos (show okP r p=true from h)]
  rfl
 |q::ps,r,h1,h2=>by
  rw [jf] at h1 h2;rw [vR,jf];by_cases c:okP r q=true
  ·rw [if_pos c] at h1 h2⊢;have I:(goP rs own (ansS rs own r q.2) ps).1=ps.length:=by simpa using h1
   rw [goP_snoc ps _ I h2];rw [jf,if_pos c]
   rfl
  ·rw [if_neg c] at h1;simp at h1
theorem run_pairs {rs:List Rw}{own:Str}(hR:Qu rs):∀(n:Nat) (as:List D),as.length=n->Val rs own as->∃ps:List (D×D),(qZ rs own as).gs=ps.map prD/\(∀x∈ps,RgOk x)/\ps.length=as.length/\goP rs own (qZ rs own []) ps=(as.length,qZ rs own as)
 |0,as,hl,h=>by
  have e:as= []:=uG hl;subst e;exact⟨[],gs0,fun x M=>by simp at M,rfl,rfl⟩
 |n+1,as,hl,h=>by
  obtain⟨bs,an,rfl⟩:∃bs a,as=bs++ [a]:=by
   rcases Ug as with e|⟨bs,a,e⟩
   ·rw [e] at hl;cases hl
   ·exact⟨bs,a,by rw [e,Uh]⟩
  have O:bs.length=n:=by rw [uf] at hl;simpa using hl
  obtain⟨hb,u,d,I,ha⟩:=h.last;obtain⟨ps,g1,g2,R,U⟩:=run_pairs hR n bs O hb;have hO:=yO (own:=own) hR hb.ok;have hok:okP (qZ rs own bs) (.tup [.str u,d],an)=true:=by
   unfold okP;have e1:eqN (qZ rs own bs).th (.tup [.str "asks",.tup [.str u,d]])=true:=(Zk (Y4 hO.gd.1)).mpr I;rw [e1];exact ha
  obtain⟨_,_,_,u1,d1,L,Y,aa⟩:=hO.ask (wt I);have eu:u=u1:=by
   rw [I] at L;injection L with e
   injection e with _ e
   injection e with e _
   injection e with e
   injection e with e _
   injection e
  have ed:d=d1:=by
   rw [I] at L;injection L with e
   injection e with _ e
   injection e with e _
   injection e with e
   injection e with _ e
   injection e
  refine⟨ps++ [(.tup [.str u,d],an)],?_,fun x M=> ?_,?_,?_⟩
  ·rw [gs_snoc an (wt I),g1,uE,I]
   rfl
  ·rcases List.mem_append.mp M with M|M
   ·exact g2 x M
   ·rw [vh] at M;subst M;exact⟨u,d,rfl,by rw [eu];exact Y,by rw [ed];exact Y4 (yP aa),ha⟩
  ·rw [uf,uf,R]
   rfl
  ·rw [goP_snoc ps _ (by rw [U];exact R.symm) (by rw [U];exact hok),U,J2 an (wt I),uf,R]
   rfl
def sp_run:Sp:=fun vs H Q _=>∃(p L:Addr) (v:V) (own:Str) (rs:List Rw),vs= [.ref p,v,.str own,.ref L]/\Qv H p/\H L=some (.lst (NMS.map V.str))/\Is H (QV rs) v/\Qu rs/\nm own=true/\own.length<=100/\
 ∀(u:V) (ps:List (D×D)) (es:List D) (H':Hp),(∀x∈ps,RgOk x)->ps.length<=8->ZR es->Is H' (.tup [.tup (ps.map prD),.tup es]) u->Qv H' p->Kept p H H'->Q u H'
theorem ok_run (T:Tx K mg a):FnOk P w K mg base CX0 25 a.f_law_run a.d_law_run ["pot","rule","own","names"] sp_run:=by
 have JF:=ok_lgo (P:=P) (w:=w) (base:=base) T;have JW:=ok_told (P:=P) (w:=w) (base:=base) T;refine T.g_law_run.F.ok ya () (fun _ _ _ _ H _ Q E hr h=> ?_)
 obtain⟨p,L,v,own,rs,rfl,hP,hL,hv,hR,aF,ax,k⟩:=h;refine⟨_,(@qe _ _ _ _ _ (@qB _ _ (4) _ _ _ _ ya.nd rfl (Or.inl rfl) (@Qb _ _ _ _ qc) () ()) (@qe _ _ _ _ _ (@X5 _ _ _ _ _ _ (@qv _ _ _ _ _ _ _ _ _ _ _ _ _ _ _ _ JF (hr.mono ()) () T.g_law_go.m T.g_law_go.F.kp T.g_law_go.b .nil qN (@qa _ _ _ _ _ (pv 1) (@qa _ _ _ _ _ (pv 2) (@qa _ _ _ _ _ (pv 4) qc ()) ()) ()) () () ()) (@Xc _ _ _ _ _ _ rfl (Qq (@qQ _ _ (5) _ ya.nd rfl (Or.inl rfl) ()) (Qq (@qQ _ _ (6) _ ya.nd rfl (Or.inl rfl) ()) YT)) () ()) () () ()) (@qe _ _ _ _ _ (@Zy _ _ _ _ _ _ vk (@Y9 _ _ _ _ _ _ _ (@qm _ _ _ _ _ _ _ _ Qg (@qF _ _ _ _ _ _ _ qR (pv 6) qj (fun _ _=>rfl)) qi (qw _)) (@y6 _ _ _ _ (@qm _ _ _ _ _ _ _ _ op_lt (@qk _ _ _ _ _ _ _ _ _ qE () T.Qy um (@qa _ _ _ _ _ (pv 4) qc ()) () () () ()) qj (qw _)))).pt (@qe _ _ _ _ _ (@yH _ _ _ _ (@Yj _ _ _ _ _ _ _ _ _ _ _ _ v6 vM vN y9 (pv 4) (@qa _ _ _ _ _ (@qv _ _ _ _ _ _ _ _ _ _ _ _ _ _ _ _ JW (hr.mono ()) () T.g_law_told.m T.g_law_told.F.kp T.g_law_told.b .nil qN (@qa _ _ _ _ _ (pv 0) (@qa _ _ _ _ _ (@qF _ _ _ _ _ _ _ qR (pv 6) qj (fun _ _=>rfl)) (@qa _ _ _ _ _ (pv 3) qc ()) ()) ()) () () ()) qc ()) () () () () ()) ()) (@qg _ _ _ (@X5 _ _ _ _ _ _ (@qv _ _ _ _ _ _ _ _ _ _ _ _ _ _ _ _ JF (hr.mono ()) () T.g_law_go.m T.g_law_go.F.kp T.g_law_go.b .nil qN (@qa _ _ _ _ _ (pv 1) (@qa _ _ _ _ _ (pv 2) (@qa _ _ _ _ _ (pv 4) qc ()) ()) ()) () () ()) (@Xc _ _ _ _ _ _ rfl (Qq (@qQ _ _ (5) _ ya.nd rfl (Or.inl rfl) ()) (Qq (@qQ _ _ (6) _ ya.nd rfl (Or.inl rfl) ()) YT)) () ()) () () ())))) (@qe _ _ _ _ _ (@qG _ _ _ _ _ _ _ _ (@qm _ _ _ _ _ _ _ _ Qg (@qF _ _ _ _ _ _ _ qR (pv 6) qj (fun _ _=>rfl)) qi (qw _)) (@qg _ _ _ (@qB _ _ (6) _ _ _ _ ya.nd rfl (Or.inl rfl) (@qy _ _ _ _ _ (@qa _ _ _ _ _ qi (@qa _ _ _ _ _ qi qc ()) ())) () ())) qq) (@qg _ _ _ (@ql _ _ _ _ (@qy _ _ _ _ _ (@qa _ _ _ _ _ (pv 5) (@qa _ _ _ _ _ (pv 6) qc ()) ())))))))),?_⟩
 dsimp only [cxOf,Cx.nox];have zero:(0:Nat)<=sizeLine:=by decide
 have two:(2:Nat)<=sizeLine:=by decide
 have ay:=hP.four hL;refine⟨zero,fun I ak=> ?_⟩;have s0:=qb ak (.lst []);have e0:upd H I (.lst []) I=some (.lst []):=qh;generalize upd H I (.lst [])=H0 at s0 e0⊢;have am:I≠p:=(hP.free ak).symm;have af:∀{as:List D}{M:List V}{H':Hp}{Q':VK},Val rs own as->as.length<=8->Qv H' p->Kept p H H'->H' I=some (.lst M)->L2.IsL H' as M->(∀(u:V) (H4:Hp),Same H' H4->Is H4 (.tup [.tup (qZ rs own as).gs,(qZ rs own as).th]) u->Q' u H4)->sp_lgo [v,.str own,.ref I] H' Q' E0:=fun{as M H' Q'} hA al P' K' Y ad q=>by
  refine⟨v,own,I,rs,as,M,rfl,Y,ad,hA.ok,by omega,hv.mono (hP.tk P' K'),hR,ax,fun u4 H4 s4 i4=>q u4 H4 s4 ?_⟩
  rw [goF_stand] at i4;exact i4
 refine⟨_,rfl,_,rfl,_,rfl,af Val.nil (by decide) (hP.same s0) (Kept.of s0) e0 rfl fun u4 H4 s4 i4=> ?_⟩
 obtain⟨p4,aG,rfl,e4,z1,r1,rfl,l1,z2,r2,rfl,l2,l4⟩:=i4;cases(show r2= [] from l4)
 refine⟨p4,_,rfl,SqT.of e4,rfl,_,_,rfl,_,_,rfl,rfl,?_⟩;show tSeq _ _ _ _ H4;refine seq_ok fun N0 aA=>aA _ _ ?_;refine seq_ok fun N hN=> ?_;have aB:∀(as:List D) (R U:V) (H':Hp),Val rs own as->as.length<=8->Is H' (.tup (qZ rs own as).gs) R->Is H' (qZ rs own as).th U->Qv H' p->Kept p H H'->N [some (.ref p),some v,some (.str own),some (.ref L),some (.ref I),some R,some U] H':=by
  intro as R U H' hA al aa O P' K';refine hN _ _ ?_;have hO:=yO (own:=own) hR hA.ok;obtain⟨wd,ed,ab⟩:=hO.two;obtain⟨ps,aC,ao,aH,aI⟩:=run_pairs (own:=own) hR _ as rfl hA;rw [ab] at O;have ac:decide (V.str wd=V.str ("asks":Str))=decide (wd="asks"):=by
   rw [uA];exact⟨fun h=>by injection h,fun h=>by rw [h]⟩
  have ap:nD ed=true:=by
   have:=Y4 hO.gd.1;rw [ab] at this;simp only [nD,nL,vD,vE] at this;exact this
  rw [aC] at aa;refine⟨_,rfl,?_⟩;unfold tC;refine QO (i:=0) (d:= .str wd) O (qS (j:=0) rfl) fun q hq=> ?_;obtain⟨rfl,_⟩:=hq;refine⟨rfl,_,rfl,?_⟩;rw [ac];by_cases cw:wd="asks"
  ·refine qA (u0 cw) ⟨two,fun t1 h1=>⟨_,rfl,_,rfl,two,fun t2 h2=> ?_⟩⟩;have q1:=qb h1 (.tup [.str "fault",.str "told"]);have aq:=q1.trans (qb h2 (.tup [R,.ref t1]));exact k _ ps [.str "fault",.str "told"] _ ao (by omega) ⟨_,_,rfl,by decide+kernel,rfl⟩ (Is.new (ds:= [.tup (ps.map prD),.tup [.str "fault",.str "told"]]) ⟨_,_,rfl,aa.mono q1.tk,_,_,rfl,Is.new (ds:= [.str "fault",.str "told"]) ⟨_,_,rfl,⟨rfl,qY (by decide)⟩,_,_,rfl,⟨rfl,qY (by decide)⟩,rfl⟩ h1,rfl⟩ h2) (P'.same aq) (K'.trans (Kept.of aq))
  ·refine qo (u9 cw) ⟨_,rfl,_,rfl,two,fun t2 h2=> ?_⟩;have q2:=qb h2 (.tup [R,U]);exact k _ ps [.str wd,ed] _ ao (by omega) ⟨_,_,rfl,cw,ap⟩ (Is.new (ds:= [.tup (ps.map prD),.tup [.str wd,ed]]) ⟨_,_,rfl,aa,_,_,rfl,O,rfl⟩ h2) (P'.same q2) (K'.trans (Kept.of q2))
 let J1_:Nat->L2.St->Hp->Prop:=fun m σ H'=>∃(as:List D) (M:List V) (R U:V),σ= [some (.ref p),some v,some (.str own),some (.ref L),some (.ref I),some R,some U]/\Val rs own as/\as.length<=8/\m=8-as.length/\H' I=some (.lst M)/\L2.IsL H' as M/\Is H' (.tup (qZ rs own as).gs) R/\Is H' (qZ rs own as).th U/\Qv H' p/\Kept p H H'
 refine⟨J1_,⟨_,[],[],_,_,rfl,Val.nil,by decide,rfl,s4 _ _ e0,rfl,l1,l2,hP.same (s0.trans s4),Kept.of (s0.trans s4)⟩,?_⟩
 rintro m σ H' ⟨as,M,R,U,rfl,hA,al,rfl,Y,ad,aa,O,P',K'⟩;have hO:=yO (own:=own) hR hA.ok;obtain⟨wd,ed,ab⟩:=hO.two;have ag:=O;rw [ab] at ag;have ac:decide (V.str wd=V.str ("asks":Str))=decide (wd="asks"):=by
  rw [uA];exact⟨fun h=>by injection h,fun h=>by rw [h]⟩
 have aJ:M.length=as.length:=ad.length;have au:=aB as R U H' hA al aa O P' K';refine⟨_,rfl,?_⟩;unfold tC;refine QO (i:=0) (d:= .str wd) ag (qS (j:=0) rfl) fun q hq=> ?_;obtain⟨rfl,_⟩:=hq;refine⟨rfl,_,rfl,?_⟩;rw [ac];by_cases cw:wd="asks"
 case neg=>exact qo (u9 cw) (iteF au)
 refine qA (u0 cw) ⟨_,rfl,I,M,rfl,.inl (SqL.of Y),_,_,rfl,rfl,_,rfl,?_⟩;by_cases c8:as.length<8
 case neg=>exact qo (u9 (by omega)) au
 refine qA (u0 (by omega)) ?_
 obtain⟨_,_,_,uu,d,eu,hu,hd⟩:=hO.ask (by rw [ab,cw];rfl)
 rw [eu] at O;refine⟨fun σ' H2=>∃(an:D) (ae:List V) (R U:V),σ'= [some (.ref p),some v,some (.str own),some (.ref L),some (.ref I),some R,some U]/\Val rs own (as++ [an])/\H2 I=some (.lst ae)/\L2.IsL H2 (as++ [an]) ae/\Is H2 (.tup (qZ rs own (as++ [an])).gs) R/\Is H2 (qZ rs own (as++ [an])).th U/\Qv H2 p/\Kept p H H2,?_,?_⟩
 ·rintro σ' H2 ⟨an,ae,R,U,rfl,h1,h2,h3,h4,h5,h6,h7⟩;exact⟨8-(as.length+1),by omega,as++ [an],ae,R,U,rfl,h1,by rw [uf];show as.length+1<=8;omega,by rw [uf];rfl,h2,h3,h4,h5,h6,h7⟩
 refine⟨_,rfl,.inl ⟨rfl,_,SqL.of Y⟩,_,rfl,_,rfl,?_⟩;refine QO (i:=1) (d:= .tup [.str uu,d]) O (qS (j:=1) rfl) fun q6 aD=> ?_;refine⟨_,rfl,p,L,q6,uu,d,rfl,P',K' _ _ hL ay,aD,hu,fun x an H5 ha ix P5 K5=> ?_⟩;have aE:=P'.tk P5 K5;have ah:=K5 _ _ Y am;refine⟨I,M,_,rfl,rfl,ah,yh (by omega),?_⟩
 have t6:Tk H5 (upd H5 I (.lst (M++ [x]))):=Tk.updL ah;have e6:(upd H5 I (.lst (M++ [x]))) I=some (.lst (M++ [x])):=qh;have i6:L2.IsL (upd H5 I (.lst (M++ [x]))) (as++ [an]) (M++ [x]):=((ad.mono aE).mono t6).append (IsL.one (ix.mono t6));have P6:Qv (upd H5 I (.lst (M++ [x]))) p:=by
  obtain⟨y,e,h⟩:=P5;exact⟨y,by rw [qx am.symm];exact e,h⟩
 have K6:Kept p H (upd H5 I (.lst (M++ [x]))):=fun b o e nb=>by
  rw [qx (qr e ak)];exact K5 b o (K' b o e nb) nb
 generalize upd H5 I (.lst (M++ [x]))=H6 at t6 e6 i6 P6 K6⊢;have aw:=hA.snoc eu ha;refine⟨_,rfl,_,rfl,_,rfl,af aw (by rw [uf];show as.length+1<=8;omega) P6 K6 e6 i6 fun u7 H7 s7 i7=> ?_⟩
 obtain⟨p7,aK,rfl,e7,z1,r1,rfl,l1,z2,r2,rfl,l2,l4⟩:=i7;cases(show r2= [] from l4)
 refine⟨p7,_,rfl,SqT.of e7,rfl,_,_,rfl,_,_,rfl,rfl,?_⟩;exact⟨an,M++ [x],_,_,rfl,aw,s7 _ _ e6,i6.mono s7.tk,l1,l2,P6.same s7,K6.trans (Kept.of s7)⟩
theorem sl_mid {K:PySem.W.Frag}{H:Hp}{v:V}{ds:List D}{n k:Nat}{Q:VK}(O:Is H (.tup ds) v)(q:∀u H',Same H H'->Is H' (.tup ((ds.drop n).take k)) u->Q u H'):rSlG K v (some (n:Int)) (some ((n+k:Nat):Int)) H Q:=by
 obtain⟨p,vs,rfl,M,L⟩:=O;have hl:vs.length=ds.length:=L.length;refine⟨p,vs,rfl,SqT.of M,fun h=> ?_,fun h l I=> ?_⟩
 ·rw [HT.sIx_nat,HT.sIx_nat] at h;have h1:n=0∨ds.length=0:=by omega
  have h2:ds.length<=n+k:=by omega
  refine q _ _ (Same.refl _) ⟨p,vs,rfl,M,?_⟩;rcases h1 with rfl|h1
  ·rw [vO,uN (by omega)]
   exact L
  ·have:ds= []:=uG h1;subst this;simp only [List.drop_nil,List.take_nil];exact L
 ·have e:cutV vs (some (n:Int)) (some ((n+k:Nat):Int))=(vs.drop n).take k:=by
   unfold cutV;rw [HT.sIx_nat,HT.sIx_nat];by_cases hn:n<=vs.length
   ·rw [UB hn];by_cases R:n+k<=vs.length
    ·rw [UB R,Nat.add_sub_cancel_left]
    ·rw [Nat.min_eq_right (by omega),uN (i:=vs.length-n) (by rw [uC];omega),uN (by rw [uC];omega)]
   ·have U:min n vs.length=vs.length:=by omega
    have Y:min (n+k) vs.length=vs.length:=by omega
    rw [U,Y,List.drop_length,List.take_nil,vy (by omega),List.take_nil]
  rw [e];exact q _ _ (qb I _) (Is.new ((L.drop n).take k) I)
theorem isl_rev {H:Hp}:∀{ds:List D}{vs:List V},L2.IsL H ds vs->L2.IsL H ds.reverse vs.reverse
 | [],vs,h=>by cases(show vs= [] from h);exact rfl
 |d::ds,vs,h=>by
  obtain⟨v,r,rfl,h1,h2⟩:=h;rw [UG,UG];exact(isl_rev h2).append (IsL.one h1)
theorem sl_fr {K:PySem.W.Frag}{H:Hp}{v:V}{ds:List D}{n:Nat}{Q:VK}(O:Is H (.tup ds) v)(q:∀u H',Same H H'->Is H' (.tup (ds.drop n)) u->Q u H'):rSlG K v (some (n:Int)) none H Q:=by
 obtain⟨p,vs,rfl,M,L⟩:=O;have R:vs.length=ds.length:=L.length;refine⟨p,vs,rfl,SqT.of M,fun h=> ?_,fun h l I=> ?_⟩
 ·have h:=h.1;rw [HT.sIx_nat] at h;have h1:n=0∨ds.length=0:=by omega
  refine q _ _ (Same.refl _) ⟨p,vs,rfl,M,?_⟩;rcases h1 with rfl|h1
  ·rw [vO];exact L
  ·have:ds= []:=uG h1;subst this;rw [List.drop_nil];exact L
 ·have e:cutV vs (some (n:Int)) none=vs.drop n:=by
   by_cases hn:n<=vs.length
   ·exact Ju hn
   ·unfold cutV;rw [HT.sIx_none,HT.sIx_nat,Nat.min_eq_right (by omega),Nat.sub_self,List.take_zero,vy (by omega)]
  rw [e];exact q _ _ (qb I _) (Is.new (L.drop n) I)
def sp_spoilt:Sp:=fun vs H Q _=>∃(p L:Addr) (rv:V) (ps:List (D×D)) (es:List D),vs= [.ref p,rv,.ref L]/\Qv H p/\H L=some (.lst (NMS.map V.str))/\Is H (.tup [.tup (ps.map prD),.tup es]) rv/\(∀x∈ps,RgOk x)/\ps.length<=20/\ZR es/\
 ∀(u:V) (ps':List (D×D)) (es':List D) (H':Hp),(∀x∈ps',RgOk x)->ps'.length<=ps.length+1->ZR es'->Is H' (.tup [.tup (ps'.map prD),.tup es']) u->Qv H' p->Kept p H H'->Q u H'
def ENDS:List (List D):= [[.str "said",.str "x"],[.str "said",.tup []],[.str "fault",.str "told"],[.str "fault",.str "lack"]]
theorem ends_ok:∀es∈ENDS,ZR es:=by
 intro es h;simp only [ENDS,uB,uD,vb] at h;rcases h with rfl|rfl|rfl|rfl
 ·exact⟨_,_,rfl,by decide+kernel,rfl⟩
 ·exact⟨_,_,rfl,by decide+kernel,rfl⟩
 ·exact⟨_,_,rfl,by decide+kernel,rfl⟩
 ·exact⟨_,_,rfl,by decide+kernel,rfl⟩
def FRS (z:Str):List (D×D):= [(.tup [.str "thing",.str z],.str "x"),(.tup [.str "has",.str z],.str "yes"),(.tup [.str "names",.str "a"],.tup []),(.tup [.str "thing",.str z],.non)]
theorem frs_ok (z:Str):∀x∈FRS z,RgOk x:=by
 intro x h;simp only [FRS,uB,uD,vb] at h;rcases h with rfl|rfl|rfl|rfl
 ·exact⟨_,_,rfl,by decide+kernel,rfl,(by decide+kernel:ansB "thing" (.str "x")=true)⟩
 ·exact⟨_,_,rfl,by decide+kernel,rfl,(by decide+kernel:ansB "has" (.str "yes")=true)⟩
 ·exact⟨_,_,rfl,by decide+kernel,rfl,(by decide+kernel:ansB "names" (.tup [])=true)⟩
 ·exact⟨_,_,rfl,by decide+kernel,rfl,(by decide+kernel:ansB "thing" (.non)=true)⟩
theorem ok_spoilt (T:Tx K mg a):FnOk P w K mg base CX0 4 a.xt a.xk ["pot","run","names"] sp_spoilt:=by
 have qI:=Y2 (P:=P) (w:=w) (base:=base) T;have JW:=ok_told (P:=P) (w:=w) (base:=base) T;refine T.g_law_spoilt.F.ok Qp () (fun _ _ _ _ H _ Q E hr h=> ?_)
 obtain⟨p,L,rv,ps,es,rfl,hP,hL,ir,ac,aT,aH,k⟩:=h;refine⟨_,(@qe _ _ _ _ _ (@X5 _ _ _ _ _ _ (pv 1) (@Xc _ _ _ _ _ _ rfl (Qq (@qQ _ _ (3) _ Qp.nd rfl (Or.inl rfl) ()) (Qq (@qQ _ _ (4) _ Qp.nd rfl (Or.inl rfl) ()) YT)) () ()) () () ()) (@qe _ _ _ _ _ (@qB _ _ (5) _ _ _ _ Qp.nd rfl (Or.inl rfl) (@qv _ _ _ _ _ _ _ _ _ _ _ _ _ _ _ _ qI (hr.mono ()) () T.g_law_take.m T.g_law_take.F.kp T.g_law_take.b .nil qN (@qa _ _ _ _ _ (pv 0) (@qa _ _ _ _ _ (@qT _ _ _ _ _ _ _ _ Qz (@qk _ _ _ _ _ _ _ _ _ qE () T.Qy um (@qa _ _ _ _ _ (pv 3) qc ()) () () () ()) qj) qc ()) ()) () () ()) () ()) (@qe _ _ _ _ _ (@qB _ _ (6) _ _ _ _ Qp.nd rfl (Or.inl rfl) (@qv _ _ _ _ _ _ _ _ _ _ _ _ _ _ _ _ qI (hr.mono ()) () T.g_law_take.m T.g_law_take.F.kp T.g_law_take.b .nil qN (@qa _ _ _ _ _ (pv 0) (@qa _ _ _ _ _ qj qc ()) ()) () () ()) () ()) (@qe _ _ _ _ _ (@qB _ _ (7) _ _ _ _ Qp.nd rfl (Or.inl rfl) (@qF _ _ _ _ _ _ _ qO (pv 2) (@qv _ _ _ _ _ _ _ _ _ _ _ _ _ _ _ _ qI (hr.mono ()) () T.g_law_take.m T.g_law_take.F.kp T.g_law_take.b .nil qN (@qa _ _ _ _ _ (pv 0) (@qa _ _ _ _ _ (@qk _ _ _ _ _ _ _ _ _ qE () T.Qy um (@qa _ _ _ _ _ (pv 2) qc ()) () () () ()) qc ()) ()) () () ()) (fun _ _=>rfl)) () ()) (@qe _ _ _ _ _ (@qB _ _ (8) _ _ _ _ Qp.nd rfl (Or.inl rfl) (@Qb _ _ _ _ (@qa _ _ _ _ _ (@qy _ _ _ _ _ (@qa _ _ _ _ _ (@qy _ _ _ _ _ (@qa _ _ _ _ _ qi (@qa _ _ _ _ _ (pv 7) qc ()) ())) (@qa _ _ _ _ _ qi qc ()) ())) (@qa _ _ _ _ _ (@qy _ _ _ _ _ (@qa _ _ _ _ _ (@qy _ _ _ _ _ (@qa _ _ _ _ _ qi (@qa _ _ _ _ _ (pv 7) qc ()) ())) (@qa _ _ _ _ _ qi qc ()) ())) (@qa _ _ _ _ _ (@qy _ _ _ _ _ (@qa _ _ _ _ _ (@qy _ _ _ _ _ (@qa _ _ _ _ _ qi (@qa _ _ _ _ _ qi qc ()) ())) (@qa _ _ _ _ _ (@qy _ _ _ _ _ qc) qc ()) ())) (@qa _ _ _ _ _ (@qy _ _ _ _ _ (@qa _ _ _ _ _ (@qy _ _ _ _ _ (@qa _ _ _ _ _ qi (@qa _ _ _ _ _ (pv 7) qc ()) ())) (@qa _ _ _ _ _ Qe qc ()) ())) qc ()) ()) ()) ())) () ()) (@qe _ _ _ _ _ (@qB _ _ (9) _ _ _ _ Qp.nd rfl (Or.inl rfl) (@qF _ _ _ _ _ _ _ qO (pv 8) (@qv _ _ _ _ _ _ _ _ _ _ _ _ _ _ _ _ qI (hr.mono ()) () T.g_law_take.m T.g_law_take.F.kp T.g_law_take.b .nil qN (@qa _ _ _ _ _ (pv 0) (@qa _ _ _ _ _ qj qc ()) ()) () () ()) (fun _ _=>rfl)) () ()) (@qe _ _ _ _ _ (@qG _ _ _ _ _ _ _ _ (@qm _ _ _ _ _ _ _ _ Qg (pv 6) qj (qw _)) (@qg _ _ _ (@ql _ _ _ _ (@qy _ _ _ _ _ (@qa _ _ _ _ _ (pv 3) (@qa _ _ _ _ _ (@qF _ _ _ _ _ _ _ qO (@Qb _ _ _ _ (@qa _ _ _ _ _ (@qy _ _ _ _ _ (@qa _ _ _ _ _ qi (@qa _ _ _ _ _ qi qc ()) ())) (@qa _ _ _ _ _ (@qy _ _ _ _ _ (@qa _ _ _ _ _ qi (@qa _ _ _ _ _ (@qy _ _ _ _ _ qc) qc ()) ())) (@qa _ _ _ _ _ (@qy _ _ _ _ _ (@qa _ _ _ _ _ qi (@qa _ _ _ _ _ qi qc ()) ())) (@qa _ _ _ _ _ (@qy _ _ _ _ _ (@qa _ _ _ _ _ qi (@qa _ _ _ _ _ qi qc ()) ())) qc ()) ()) ()) ())) (@qv _ _ _ _ _ _ _ _ _ _ _ _ _ _ _ _ qI (hr.mono ()) () T.g_law_take.m T.g_law_take.F.kp T.g_law_take.b .nil qN (@qa _ _ _ _ _ (pv 0) (@qa _ _ _ _ _ qj qc ()) ()) () () ()) (fun _ _=>rfl)) qc ()) ())))) qq) (@qe _ _ _ _ _ (@qG _ _ _ _ _ _ _ _ (@qm _ _ _ _ _ _ _ _ Qg (pv 6) qj (qw _)) (@qg _ _ _ (@ql _ _ _ _ (@qy _ _ _ _ _ (@qa _ _ _ _ _ (@qT _ _ _ _ _ _ _ _ yp (@qT _ _ _ _ _ _ _ _ yp (@Qn _ _ _ _ _ _ _ _ _ _ yc (pv 3) QJ (@QA _ _ _ (pv 5))) (@qy _ _ _ _ _ (@qa _ _ _ _ _ (pv 9) qc ()))) (@Qn _ _ _ _ _ _ _ _ _ _ yc (pv 3) (@QA _ _ _ (@qT _ _ _ _ _ _ _ _ Qz (pv 5) qj)) QJ)) (@qa _ _ _ _ _ (pv 4) qc ()) ())))) qq) (@qe _ _ _ _ _ (@qG _ _ _ _ _ _ _ _ (@qm _ _ _ _ _ _ _ _ Qg (pv 6) qj (qw _)) (@qg _ _ _ (@ql _ _ _ _ (@qy _ _ _ _ _ (@qa _ _ _ _ _ (@Qn _ _ _ _ _ _ _ _ _ _ yc (pv 3) QJ (@QA _ _ _ (pv 5))) (@qa _ _ _ _ _ (pv 4) qc ()) ())))) qq) (@qe _ _ _ _ _ (@qG _ _ _ _ _ _ _ _ (@qm _ _ _ _ _ _ _ _ Qg (pv 6) qj (qw _)) (@qg _ _ _ (@ql _ _ _ _ (@qy _ _ _ _ _ (@qa _ _ _ _ _ (@qT _ _ _ _ _ _ _ _ yp (@qT _ _ _ _ _ _ _ _ yp (@Qn _ _ _ _ _ _ _ _ _ _ yc (pv 3) QJ (@QA _ _ _ (pv 5))) (@qy _ _ _ _ _ (@qa _ _ _ _ _ (pv 9) qc ()))) (@Qn _ _ _ _ _ _ _ _ _ _ yc (pv 3) (@QA _ _ _ (pv 5)) QJ)) (@qa _ _ _ _ _ (pv 4) qc ()) ())))) qq) (@qe _ _ _ _ _ (@qG _ _ _ _ _ _ _ _ (@Y9 _ _ _ _ _ _ _ (@qm _ _ _ _ _ _ _ _ Qg (pv 6) qj (qw _)) (@y6 _ _ _ _ (@qm _ _ _ _ _ _ _ _ op_lt (pv 5) (@qk _ _ _ _ _ _ _ _ _ qE () T.Qy um (@qa _ _ _ _ _ (pv 3) qc ()) () () () ()) (qw _)))).pt (@qg _ _ _ (@ql _ _ _ _ (@qy _ _ _ _ _ (@qa _ _ _ _ _ (@qT _ _ _ _ _ _ _ _ yp (@qT _ _ _ _ _ _ _ _ yp (@Qn _ _ _ _ _ _ _ _ _ _ yc (pv 3) QJ (@QA _ _ _ (pv 5))) (@qy _ _ _ _ _ (@qa _ _ _ _ _ (@qy _ _ _ _ _ (@qa _ _ _ _ _ (@qF _ _ _ _ _ _ _ qR (@qF _ _ _ _ _ _ _ qR (pv 3) (pv 5) (fun _ _=>rfl)) qj (fun _ _=>rfl)) (@qa _ _ _ _ _ (@qv _ _ _ _ _ _ _ _ _ _ _ _ _ _ _ _ JW (hr.mono ()) () T.g_law_told.m T.g_law_told.F.kp T.g_law_told.b .nil qN (@qa _ _ _ _ _ (pv 0) (@qa _ _ _ _ _ (@qF _ _ _ _ _ _ _ qR (@qF _ _ _ _ _ _ _ qR (pv 3) (pv 5) (fun _ _=>rfl)) qj (fun _ _=>rfl)) (@qa _ _ _ _ _ (pv 2) qc ()) ()) ()) () () ()) qc ()) ())) qc ()))) (@Qn _ _ _ _ _ _ _ _ _ _ yc (pv 3) (@QA _ _ _ (@qT _ _ _ _ _ _ _ _ Qz (pv 5) qj)) QJ)) (@qa _ _ _ _ _ (pv 4) qc ()) ())))) qq) (@qe _ _ _ _ _ (@qG _ _ _ _ _ _ _ _ (@qm _ _ _ _ _ _ _ _ Qg (pv 6) qj (qw _)) (@qg _ _ _ (@ql _ _ _ _ (@qy _ _ _ _ _ (@qa _ _ _ _ _ (@qT _ _ _ _ _ _ _ _ yp (@qT _ _ _ _ _ _ _ _ yp (@Qn _ _ _ _ _ _ _ _ _ _ yc (pv 3) QJ (@QA _ _ _ (pv 5))) (@pe_rev _ _ _ _ _ _ _ (@Qn _ _ _ _ _ _ _ _ _ _ yc (pv 3) (@QA _ _ _ (pv 5)) (@QA _ _ _ (@qT _ _ _ _ _ _ _ _ Qz (pv 5) qj))) (@pe_un _ _ _ _ _ _ un_neg qj) (fun _ _ _ h=>⟨1,rfl,h⟩) ())) (@Qn _ _ _ _ _ _ _ _ _ _ yc (pv 3) (@QA _ _ _ (@qT _ _ _ _ _ _ _ _ Qz (pv 5) qj)) QJ)) (@qa _ _ _ _ _ (pv 4) qc ()) ())))) qq) (@qe _ _ _ _ _ (@qG _ _ _ _ _ _ _ _ (@qm _ _ _ _ _ _ _ _ Qg (pv 6) qj (qw _)) (@qg _ _ _ (@ql _ _ _ _ (@qy _ _ _ _ _ (@qa _ _ _ _ _ (@qT _ _ _ _ _ _ _ _ yp (@Qn _ _ _ _ _ _ _ _ _ _ yc (pv 3) QJ (@QA _ _ _ (pv 5))) (@Qn _ _ _ _ _ _ _ _ _ _ yc (pv 3) (@QA _ _ _ (@qT _ _ _ _ _ _ _ _ Qz (pv 5) qj)) QJ)) (@qa _ _ _ _ _ (pv 4) qc ()) ())))) qq) (@qg _ _ _ (@ql _ _ _ _ (@qy _ _ _ _ _ (@qa _ _ _ _ _ (pv 3) (@qa _ _ _ _ _ (pv 4) qc ()) ()))))))))))))))))),?_⟩
 dsimp only [cxOf,Cx.nox];have zero:(0:Nat)<=sizeLine:=by decide
 have one:(1:Nat)<=sizeLine:=by decide
 have two:(2:Nat)<=sizeLine:=by decide
 have four:(4:Nat)<=sizeLine:=by decide
 have big:∀{j:Nat},j<=1001->j<=sizeLine:=fun h=>uP h (by decide)
 have Y:∀{H3:Hp}{z:Str},z.length<=1000->Is H3 (.str z) (.str z):=fun{H3 z} hz=>⟨rfl,qY (by omega)⟩
 have e2:∀{H3:Hp}{t:Addr}{v1 v2:V}{d1 d2:D},H3 t=none->Is H3 d1 v1->Is H3 d2 v2->Is (upd H3 t (.tup [v1,v2])) (.tup [d1,d2]) (.ref t):=fun{H3 t v1 v2 d1 d2} ht h1 h2=>Is.new (ds:= [d1,d2]) ⟨_,_,rfl,h1,_,_,rfl,h2,rfl⟩ ht;have ah:=hP.four hL;obtain⟨pr,ur,rfl,er,w1,r1,rfl,j1,w2,r2,rfl,j2,j3⟩:=ir;cases(show r2= [] from j3)
 refine⟨_,rfl,pr,_,rfl,SqT.of er,rfl,_,_,rfl,_,_,rfl,rfl,?_⟩;have j1:Is H (.tup (ps.map prD)) w1:=j1;have j2:Is H (.tup es) w2:=j2;obtain⟨pa,us,rfl,aq,iu⟩:=id j1;have aU:us.length=ps.length:=by rw [iu.length,ub]
 refine⟨_,rfl,_,rfl,pa,us,rfl,.inr (SqT.of aq),_,_,rfl,rfl,p,(us.length:Int)+1,rfl,hP,by omega,by omega,fun d1 H1 a0 a1 P1 K1 _=> ?_⟩
 obtain⟨n,rfl⟩:∃n:Nat,d1=(n:Int):=⟨d1.toNat,by omega⟩
 have hn:n<=ps.length:=by omega
 refine⟨_,rfl,p,8,rfl,P1,by decide,by decide,fun kd H2 b0 b1 P2 K2 _=> ?_⟩
 have au:=K1.trans K2;refine⟨_,rfl,_,rfl,_,rfl,L,_,rfl,.inl (SqL.of (au _ _ hL ah)),p,4,rfl,P2,by decide,by decide,fun d3 H3 c0 c1 P3 K3 _=> ?_⟩
 obtain⟨z,hz,aI,aV,aW⟩:=nms_at c0 c1;have ak:=au.trans K3;refine⟨L,_,_,_,rfl,rfl,SqL.of (ak _ _ hL ah),aI,?_⟩;have aX:=hP.tk P3 ak;have zl:z.length<=1000:=by omega
 refine⟨_,rfl,two,fun t1 h1=>⟨two,fun U h2=>⟨_,rfl,two,fun t3 h3=>⟨two,fun t4 h4=>⟨two,fun t5 h5=>⟨zero,fun t6 h6=>⟨two,fun t7 h7=>⟨_,rfl,two,fun t8 h8=>⟨two,fun t9 h9=>⟨four,fun lf av=> ?_⟩⟩⟩⟩⟩⟩⟩⟩⟩⟩;have i1:=e2 h1 (Y (z:="thing") (by decide)) (Y zl)
 have q1:=qb h1 (.tup [.str "thing",.str z]);generalize upd H3 t1 (.tup [.str "thing",.str z])=G1 at*;have i2:=e2 h2 i1 (Y (z:="x") (by decide))
 have q2:=qb h2 (.tup [.ref t1,.str "x"]);generalize upd G1 U (.tup [.ref t1,.str "x"])=G2 at*;have i3:=e2 h3 (Y (z:="has") (by decide)) (Y zl)
 have q3:=qb h3 (.tup [.str "has",.str z]);generalize upd G2 t3 (.tup [.str "has",.str z])=G3 at*;have i4:=e2 h4 i3 (Y (z:="yes") (by decide))
 have q4:=qb h4 (.tup [.ref t3,.str "yes"]);generalize upd G3 t4 (.tup [.ref t3,.str "yes"])=G4 at*;have i5:=e2 h5 (Y (z:="names") (by decide)) (Y (z:="a") (by decide))
 have q5:=qb h5 (.tup [.str "names",.str "a"]);generalize upd G4 t5 (.tup [.str "names",.str "a"])=G5 at*;have i6:Is (upd G5 t6 (.tup [])) (.tup []) (.ref t6):=Is.new (ds:= []) rfl h6;have q6:=qb h6 (.tup []);generalize upd G5 t6 (.tup [])=G6 at*;have i7:=e2 h7 (i5.mono q6.tk) i6;have q7:=qb h7 (.tup [.ref t5,.ref t6]);generalize upd G6 t7 (.tup [.ref t5,.ref t6])=G7 at*;have i8:=e2 h8 (Y (z:="thing") (by decide)) (Y zl)
 have q8:=qb h8 (.tup [.str "thing",.str z]);generalize upd G7 t8 (.tup [.str "thing",.str z])=G8 at*;have i9:=e2 h9 i8 (show Is G8 .non .non from rfl)
 have q9:=qb h9 (.tup [.ref t8,.non]);generalize upd G8 t9 (.tup [.ref t8,.non])=G9 at*;have qf:=qb av (.lst [.ref U,.ref t4,.ref t7,.ref t9]);have ef:(upd G9 lf (.lst [.ref U,.ref t4,.ref t7,.ref t9])) lf=some (.lst [.ref U,.ref t4,.ref t7,.ref t9]):=qh;have SF:Same H3 (upd G9 lf (.lst [.ref U,.ref t4,.ref t7,.ref t9])):=q1.trans (q2.trans (q3.trans (q4.trans (q5.trans (q6.trans (q7.trans (q8.trans (q9.trans qf))))))));have il:L2.IsL (upd G9 lf (.lst [.ref U,.ref t4,.ref t7,.ref t9])) ((FRS z).map prD) [.ref U,.ref t4,.ref t7,.ref t9]:=
  ⟨_,_,rfl,i2.mono (q3.trans (q4.trans (q5.trans (q6.trans (q7.trans (q8.trans (q9.trans qf))))))).tk,_,_,rfl,i4.mono (q5.trans (q6.trans (q7.trans (q8.trans (q9.trans qf))))).tk,_,_,rfl,i7.mono (q8.trans (q9.trans qf)).tk,_,_,rfl,i9.mono qf.tk,rfl⟩
 generalize upd G9 lf (.lst [.ref U,.ref t4,.ref t7,.ref t9])=HF at ef SF il⊢;clear i1 i2 i3 i4 i5 i6 i7 i8 i9 q1 q2 q3 q4 q5 q6 q7 q8 q9 qf h1 h2 h3 h4 h5 h6 h7 h8 h9 av;have PF:=P3.same SF;have nf:=PF.ne_l ef (show(4:Nat)≠1 by decide)
 refine⟨_,rfl,_,rfl,p,4,rfl,PF,by decide,by decide,fun d4 H4 f0 f1 P4 K4 _=> ?_⟩
 obtain⟨n4,rfl⟩:∃n:Nat,d4=(n:Int):=⟨d4.toNat,by omega⟩
 obtain⟨ot,al⟩:∃x,(FRS z)[n4]? =some x:=⟨(FRS z)[n4]'(by show n4<4;omega),by simp [show n4<(FRS z).length from(by show n4<4;omega)]⟩
 have ag:=frs_ok z ot (uJ al);have aw:=PF.tk P4 K4;obtain⟨wo,ax,ay⟩:=(il.mono aw).get (i:=n4) (d:=prD ot) (by rw [uM,al];rfl)
 refine⟨lf,_,_,wo,rfl,rfl,SqL.of (K4 _ _ ef nf),qS ax,?_⟩;have I:=ak.trans ((Kept.of SF).trans K4);have tk:=hP.tk P4 I;have m1:=j1.mono tk;have m2:=j2.mono tk;have aA:=tk.tup _ _ aq;have aJ:=I _ _ hL ah;clear il ef SF PF K4 aw nf al ax f0 f1;have n1:(n:Int)+1=((n+1:Nat):Int):=by omega
 have n2:(n:Int)+2=((n+2:Nat):Int):=by omega
 have tp:∀m,(ps.map prD).take m=(ps.take m).map prD:=fun m=>List.map_take.symm;have af:∀m,(ps.map prD).drop m=(ps.drop m).map prD:=fun m=>List.map_drop.symm;have aY:(ps.map prD).length=ps.length:=ub ..;have aa:∀m x,x∈ps.take m->RgOk x:=fun m x hx=>ac x (Um hx);have ab:∀m x,x∈ps.drop m->RgOk x:=fun m x hx=>ac x (Ul hx);have O:∀{as bs:List (D×D)},(∀x∈as,RgOk x)->(∀x∈bs,RgOk x)->∀x∈as++bs,RgOk x:=fun{as bs} h1 h2 x hx=>(List.mem_append.mp hx).elim (h1 x) (h2 x);have done:∀(ae:List (D×D)) (zz:V) (H5 H6:Hp),Qv H5 p->Kept p H H5->Same H5 H6->Is H6 (.tup (ae.map prD)) zz->(∀x∈ae,RgOk x)->ae.length<=ps.length+1->∀l,H6 l=none->Q (.ref l) (upd H6 l (.tup [zz,w2])):=fun ae zz H5 H6 P5 K5 s6 iz h1 h2 l R=>k _ ae es _ h1 h2 aH (e2 R iz ((j2.mono (hP.tk P5 K5)).mono s6.tk)) ((P5.same s6).same (qb R _)) (K5.trans ((Kept.of s6).trans (Kept.of (qb R _))));have ek:∀c:Int,decide (V.int kd=V.int c)=decide (kd=c):=fun c=>by
  rw [uA];exact⟨fun h=>by injection h,fun h=>by rw [h]⟩
 refine⟨_,rfl,rfl,_,rfl,ite2 (fun c1=> ?_) (fun c1=> ?_)⟩
 ·refine⟨_,rfl,two,fun t1 h1=>⟨zero,fun U h2=>⟨two,fun t3 h3=>⟨two,fun t4 h4=>⟨two,fun t5 h5=>⟨four,fun l R=> ?_⟩⟩⟩⟩⟩⟩;have i1:=e2 h1 (Y (z:="said") (by decide)) (Y (z:="x") (by decide))
  have q1:=qb h1 (.tup [.str "said",.str "x"]);generalize upd H4 t1 (.tup [.str "said",.str "x"])=G1 at*;have i2:Is (upd G1 U (.tup [])) (.tup []) (.ref U):=Is.new (ds:= []) rfl h2;have q2:=qb h2 (.tup []);generalize upd G1 U (.tup [])=G2 at*;have i3:=e2 h3 (Y (z:="said") (by decide)) i2
  have q3:=qb h3 (.tup [.str "said",.ref U]);generalize upd G2 t3 (.tup [.str "said",.ref U])=G3 at*;have i4:=e2 h4 (Y (z:="fault") (by decide)) (Y (z:="told") (by decide))
  have q4:=qb h4 (.tup [.str "fault",.str "told"]);generalize upd G3 t4 (.tup [.str "fault",.str "told"])=G4 at*;have i5:=e2 h5 (Y (z:="fault") (by decide)) (Y (z:="lack") (by decide))
  have q5:=qb h5 (.tup [.str "fault",.str "lack"]);generalize upd G4 t5 (.tup [.str "fault",.str "lack"])=G5 at*;have q6:=qb R (.lst [.ref t1,.ref t3,.ref t4,.ref t5]);have e6:(upd G5 l (.lst [.ref t1,.ref t3,.ref t4,.ref t5])) l=some (.lst [.ref t1,.ref t3,.ref t4,.ref t5]):=qh;generalize upd G5 l (.lst [.ref t1,.ref t3,.ref t4,.ref t5])=G6 at*;have S6:=q1.trans (q2.trans (q3.trans (q4.trans (q5.trans q6))));have ie:L2.IsL G6 (ENDS.map D.tup) [.ref t1,.ref t3,.ref t4,.ref t5]:=⟨_,_,rfl,i1.mono (q2.trans (q3.trans (q4.trans (q5.trans q6)))).tk,_,_,rfl,i3.mono (q4.trans (q5.trans q6)).tk,_,_,rfl,i4.mono (q5.trans q6).tk,_,_,rfl,i5.mono q6.tk,rfl⟩;have P6:=P4.same S6;have n6:=P6.ne_l e6 (show(4:Nat)≠1 by decide)
  refine⟨_,rfl,p,4,rfl,P6,by decide,by decide,fun d7 H7 g0 g1 P7 K7 _=> ?_⟩
  obtain⟨n7,rfl⟩:∃n:Nat,d7=(n:Int):=⟨d7.toNat,by omega⟩
  obtain⟨en,aB⟩:∃en,ENDS[n7]? =some en:=⟨ENDS[n7]'(by show n7<4;omega),by simp [show n7<ENDS.length from(by show n7<4;omega)]⟩
  have aC:=P6.tk P7 K7;obtain⟨v7,aK,i7⟩:=ie.get (i:=n7) (d:= .tup en) (by rw [uM,aB];rfl)
  refine⟨l,_,_,v7,rfl,rfl,SqL.of (K7 _ _ e6 n6),qS aK,two,fun l2 am=> ?_⟩;exact k _ ps en _ ac (by omega) (ends_ok en (uJ aB)) (e2 am ((m1.mono S6.tk).mono aC) (i7.mono aC)) (P7.same (qb am _)) (I.trans ((Kept.of S6).trans (K7.trans (Kept.of (qb am _)))))
 refine⟨_,rfl,rfl,_,rfl,ite2 (fun c2=> ?_) (fun c2=> ?_)⟩
 ·refine⟨_,rfl,_,rfl,_,rfl,?_⟩;refine sl_to (n:=n) m1 (by omega) fun x1 H5 M k5=>⟨_,rfl,one,fun l1 h1=> ?_⟩
  have q1:=qb h1 (.tup [wo]);have o1:Is (upd H5 l1 (.tup [wo])) (.tup ([ot].map prD)) (.ref l1):=Is.new (IsL.one (ay.mono M.tk)) h1;refine jy (k5.mono q1.tk) o1 (big (by rw [uz,ub];show _+1<=1001;omega)) fun z6 H6 s6 k6=> ?_
  refine⟨_,rfl,_,rfl,_,_,rfl,rfl,_,rfl,?_⟩;unfold JN;rw [n1];have S6:=M.trans (q1.trans s6);refine sl_fr (n:=n+1) (m1.mono S6.tk) fun x2 H7 s7 k7=> ?_;refine jy (k6.mono s7.tk) k7 (big (by rw [uf,uz,uC,ub];show _+1+_<=1001;omega)) fun z8 H8 s8 k8=>⟨_,rfl,two,fun l R=> ?_⟩
  rw [tp,af,<-uE,<-uE] at k8;exact done _ z8 H4 H8 P4 I (S6.trans (s7.trans s8)) k8 (O (O (aa _) (fun x hx=>by rw [vh] at hx;subst hx;exact ag)) (ab _)) (by rw [uf,uf,uz,uC];show _+1+_<=_;omega) l R
 refine⟨_,rfl,rfl,_,rfl,ite2 (fun c3=> ?_) (fun c3=> ?_)⟩
 ·refine⟨_,rfl,_,rfl,_,rfl,?_⟩;refine sl_to (n:=n) m1 (by omega) fun x1 H5 M k5=>⟨_,rfl,two,fun l R=> ?_⟩
  rw [tp] at k5;exact done _ x1 H4 H5 P4 I M k5 (aa _) (by rw [uz];omega) l R
 refine⟨_,rfl,rfl,_,rfl,ite2 (fun c4=> ?_) (fun c4=> ?_)⟩
 ·refine⟨_,rfl,_,rfl,_,rfl,?_⟩;refine sl_to (n:=n) m1 (by omega) fun x1 H5 M k5=>⟨_,rfl,one,fun l1 h1=> ?_⟩
  have q1:=qb h1 (.tup [wo]);have o1:Is (upd H5 l1 (.tup [wo])) (.tup ([ot].map prD)) (.ref l1):=Is.new (IsL.one (ay.mono M.tk)) h1;refine jy (k5.mono q1.tk) o1 (big (by rw [uz,ub];show _+1<=1001;omega)) fun z6 H6 s6 k6=> ?_
  refine⟨_,rfl,_,rfl,_,rfl,?_⟩;unfold JN;have S6:=M.trans (q1.trans s6);refine sl_fr (n:=n) (m1.mono S6.tk) fun x2 H7 s7 k7=> ?_;refine jy (k6.mono s7.tk) k7 (big (by rw [uf,uz,uC,ub];show _+1+_<=1001;omega)) fun z8 H8 s8 k8=>⟨_,rfl,two,fun l R=> ?_⟩
  rw [tp,af,<-uE,<-uE] at k8;exact done _ z8 H4 H8 P4 I (S6.trans (s7.trans s8)) k8 (O (O (aa _) (fun x hx=>by rw [vh] at hx;subst hx;exact ag)) (ab _)) (by rw [uf,uf,uz,uC];show _+1+_<=_;omega) l R
 show tSeq _ _ _ _ H4;refine seq_ok fun N0 aL=>aL _ _ ?_;refine seq_ok fun N hN=> ?_;have rest:N [some (.ref p),some (.ref pr),some (.ref L),some (.ref pa),some w2,some (.int (n:Int)),some (.int kd),some (.str z),some (.ref lf),some wo] H4:=by
  refine hN _ _ ?_;refine⟨_,rfl,rfl,_,rfl,ite2 (fun c6=> ?_) (fun c6=> ?_)⟩
  ·refine⟨_,rfl,_,rfl,_,rfl,?_⟩;refine sl_to (n:=n) m1 (by omega) fun x1 H5 M k5=>⟨_,rfl,_,rfl,_,rfl,_,rfl,_,_,rfl,rfl,_,rfl,?_⟩
   rw [n2];refine sl_mid (n:=n) (k:=2) (m1.mono M.tk) fun x2 H6 s6 k6=> ?_;obtain⟨pv,uv,rfl,aM,aN⟩:=id k6;refine⟨pv,uv,rfl,SqT.of aM,fun tr aD=> ?_⟩;have q7:=qb aD (.tup uv.reverse);have k7:Is (upd H6 tr (.tup uv.reverse)) (.tup ((ps.map prD).drop n|>.take 2).reverse) (.ref tr):=Is.new (isl_rev aN) aD
   refine jy ((k5.mono s6.tk).mono q7.tk) k7 (big (by rw [U6,uz,uz];omega)) fun z8 H8 s8 k8=> ?_
   refine⟨_,rfl,_,rfl,_,_,rfl,rfl,_,rfl,?_⟩;unfold JN;rw [n2];have S8:=M.trans (s6.trans (q7.trans s8));refine sl_fr (n:=n+2) (m1.mono S8.tk) fun x9 H9 s9 k9=> ?_;refine jy (k8.mono s9.tk) k9 (big (by rw [uf,U6,uz,uz,uC,uC];omega)) fun zA HA sA kA=>⟨_,rfl,two,fun l R=> ?_⟩
   have aE:((ps.map prD).take n++((ps.map prD).drop n|>.take 2).reverse)++(ps.map prD).drop (n+2)=((ps.take n++((ps.drop n).take 2).reverse)++ps.drop (n+2)).map prD:=by
    simp only [uE,List.map_reverse,List.map_take,List.map_drop]
   rw [aE] at kA;exact done _ zA H4 HA P4 I (S8.trans (s9.trans sA)) kA (O (O (aa _) (fun x hx=>ab _ x (Um (List.mem_reverse.mp hx)))) (ab _)) (by rw [uf,uf,U6,uz,uz,uC,uC];omega) l R
  refine⟨_,rfl,rfl,_,rfl,ite2 (fun c7=> ?_) (fun c7=> ?_)⟩
  ·refine⟨_,rfl,_,rfl,_,rfl,?_⟩;refine sl_to (n:=n) m1 (by omega) fun x1 H5 M k5=>⟨_,rfl,_,rfl,_,_,rfl,rfl,_,rfl,?_⟩
   unfold JN;rw [n1];refine sl_fr (n:=n+1) (m1.mono M.tk) fun x2 H7 s7 k7=> ?_;refine jy (k5.mono s7.tk) k7 (big (by rw [uz,uC];omega)) fun z8 H8 s8 k8=>⟨_,rfl,two,fun l R=> ?_⟩
   rw [tp,af,<-uE] at k8;exact done _ z8 H4 H8 P4 I (M.trans (s7.trans s8)) k8 (O (aa _) (ab _)) (by rw [uf,uz,uC];omega) l R
  exact⟨_,rfl,_,rfl,two,fun l R=>done ps _ H4 H4 P4 I (Same.refl _) m1 ac (by omega) l R⟩
 refine⟨_,rfl,rfl,_,rfl,?_⟩;rw [ek];by_cases c5:kd=5
 case neg=>exact qo (u9 c5) (iteF rest)
 refine qA (u0 c5) ⟨_,rfl,_,rfl,pa,us,rfl,.inr (SqT.of aA),_,_,rfl,rfl,_,rfl,?_⟩;by_cases cn:n<ps.length
 case neg=>exact qo (u9 (by omega)) rest
 refine qA (u0 (by omega)) ?_
 obtain⟨⟨qd,ad⟩,hk⟩:∃x,ps[n]? =some x:=⟨ps[n],by simp [cn]⟩
 obtain⟨u,d,eq,hu,hd,aF⟩:=ac _ (uJ hk);simp only at eq aF;subst eq;have aG:(ps.map prD)[n]? =some (prD (.tup [.str u,d],ad)):=by rw [uM,hk];rfl
 refine⟨_,rfl,_,rfl,_,rfl,?_⟩;refine sl_to (n:=n) m1 (by omega) fun x1 H5 M k5=> ?_
 have P5:=P4.same M;refine⟨_,rfl,_,rfl,?_⟩;refine QO (i:=(n:Int)) (d:=prD (.tup [.str u,d],ad)) (m1.mono M.tk) (qS aG) fun y1 aO=> ?_
 try unfold tC
 refine QO (i:=0) (d:= .tup [.str u,d]) aO (qS (j:=0) rfl) fun y2 aP=> ?_;refine⟨_,rfl,_,rfl,_,rfl,?_⟩;refine QO (i:=(n:Int)) (d:=prD (.tup [.str u,d],ad)) (m1.mono M.tk) (qS aG) fun y3 aQ=> ?_;refine QO (i:=0) (d:= .tup [.str u,d]) aQ (qS (j:=0) rfl) fun y4 aR=> ?_;refine⟨_,rfl,p,L,y4,u,d,rfl,P5,M _ _ aJ,aR,hu,fun x an H6 ha ix P6 K6=>⟨two,fun t1 h1=>⟨one,fun U h2=> ?_⟩⟩⟩;have ao:=P5.tk P6 K6;have aS:=I.trans ((Kept.of M).trans K6);have o1:=e2 h1 (aP.mono ao) ix;have q1:=qb h1 (.tup [y2,x]);have o2:Is (upd (upd H6 t1 (.tup [y2,x])) U (.tup [.ref t1])) (.tup ([(D.tup [.str u,d],an)].map prD)) (.ref U):=Is.new (IsL.one o1) h2;have ap:=q1.trans (qb h2 (.tup [.ref t1]));generalize upd (upd H6 t1 (.tup [y2,x])) U (.tup [.ref t1])=H7 at o2 ap⊢;refine jy ((k5.mono ao).mono ap.tk) o2 (big (by rw [uz,ub];show _+1<=1001;omega)) fun z8 H8 s8 k8=> ?_
 refine⟨_,rfl,_,rfl,_,_,rfl,rfl,_,rfl,?_⟩;unfold JN;rw [n1];have S8:=ap.trans s8;refine sl_fr (n:=n+1) (((m1.mono M.tk).mono ao).mono S8.tk) fun x9 H9 s9 k9=> ?_;refine jy (k8.mono s9.tk) k9 (big (by rw [uf,uz,uC,ub];show _+1+_<=1001;omega)) fun zA HA sA kA=>⟨_,rfl,two,fun l R=> ?_⟩
 rw [tp,af,<-uE,<-uE] at kA;exact done _ zA H6 HA P6 aS (S8.trans (s9.trans sA)) kA (O (O (aa _) (fun y hy=>by rw [vh] at hy;subst hy;exact⟨u,d,rfl,hu,hd,ha⟩)) (ab _)) (by rw [uf,uf,uz,uC];show _+1+_<=_;omega) l R
theorem does_due {rs:List Rw}{own:Str}{ps:List (D×D)}{es:List D}(O:Qu rs)(Y:ZR es):doesB rs own ps es=(decide ((goP rs own (qZ rs own []) ps).1=ps.length)&&eqN (goP rs own (qZ rs own []) ps).2.th (.tup es)):=by
 unfold doesB;have R:=goP_ok (own:=own) O ps (qZ rs own []) (yO O (as:= []) (fun a h=>by simp at h))
 generalize goP rs own (qZ rs own []) ps=U at R⊢;obtain⟨w,e,rfl,hw,_⟩:=Y;obtain⟨w2,e2,L⟩:=R.two;cases I:qW U.2.th with
 |false=>rfl
 |true=>
  have e3:eqN U.2.th (.tup [.str w,e])=false:=by
   rw [L] at I⊢;have:w2="asks":=by simpa [qW] using I
   subst this;have M:(("asks":Str)==w)=false:=by
    rw [beq_eq_false_iff_ne];exact fun h=>hw h.symm
   simp only [eqN,eqNL,M,vX]
  rw [e3]
  rfl
def sp_place:Sp:=fun vs H Q _=>∃(v rv:V) (own:Str) (rs:List Rw) (ps:List (D×D)) (es:List D),vs= [v,.str own,rv]/\Is H (QV rs) v/\Qu rs/\own.length<=100/\Is H (.tup [.tup (ps.map prD),.tup es]) rv/\(∀x∈ps,RgOk x)/\ps.length<=500/\ZR es/\∀H',Same H H'->Q (lieV rs own ps es) H'
theorem ok_place (T:Tx K mg a):FnOk P w K mg base CX0 25 a.Xp a.xY ["rule","own","run"] sp_place:=by
 have JF:=ok_lgo (P:=P) (w:=w) (base:=base) T;refine T.g_law_place.F.ok QK () (fun _ _ _ s H _ Q E hr h=> ?_)
 obtain⟨v,rv,own,rs,ps,es,rfl,hv,hR,aA,ir,aB,aK,ap,k⟩:=h;refine⟨_,(@qe _ _ _ _ _ (@X5 _ _ _ _ _ _ (pv 2) (@Xc _ _ _ _ _ _ rfl (Qq (@qQ _ _ (3) _ QK.nd rfl (Or.inl rfl) ()) (Qq (@qQ _ _ (4) _ QK.nd rfl (Or.inl rfl) ()) YT)) () ()) () () ()) (@qe _ _ _ _ _ (@qB _ _ (5) _ _ _ _ QK.nd rfl (Or.inl rfl) (@Qb _ _ _ _ qc) () ()) (@qe _ _ _ _ _ (@Jo _ _ _ _ _ _ _ _ vk rfl (@YV _ _ _ _ _ _ () T.JS (@qa _ _ _ _ _ (@qk _ _ _ _ _ _ _ _ _ qE () T.Qy um (@qa _ _ _ _ _ (pv 3) qc ()) () () () ()) qc ()) ()) (@qQ _ _ (6) _ QK.nd rfl (Or.inl rfl) ()) (@qe _ _ _ _ _ (@X5 _ _ _ _ _ _ (@qF _ _ _ _ _ _ _ qR (pv 3) (pv 6) (fun _ _=>rfl)) (@Xc _ _ _ _ _ _ rfl (Qq (@qQ _ _ (7) _ QK.nd rfl (Or.inl rfl) ()) (Qq (@qQ _ _ (8) _ QK.nd rfl (Or.inl rfl) ()) YT)) () ()) () () ()) (@qe _ _ _ _ _ (@qG _ _ _ _ _ _ _ _ (@qm _ _ _ _ _ _ _ _ (@op_neTN _ hr.units) (@qF _ _ _ _ _ _ _ qR (@qv _ _ _ _ _ _ _ _ _ _ _ _ _ _ _ _ JF (hr.mono ()) () T.g_law_go.m T.g_law_go.F.kp T.g_law_go.b .nil qN (@qa _ _ _ _ _ (pv 0) (@qa _ _ _ _ _ (pv 1) (@qa _ _ _ _ _ (pv 5) qc ()) ()) ()) () () ()) qj (fun _ _=>rfl)) (@qy _ _ _ _ _ (@qa _ _ _ _ _ qi (@qa _ _ _ _ _ (pv 7) qc ()) ())) (qw _)) (@qg _ _ _ (@ql _ _ _ _ (pv 6))) qq) (@qg _ _ _ (@yH _ _ _ _ (@Yj _ _ _ _ _ _ _ _ _ _ _ _ v6 vM vN y9 (pv 5) (@qa _ _ _ _ _ (pv 8) qc ()) () () () () ()) ())))) ()) (@qe _ _ _ _ _ (@qG _ _ _ _ _ _ _ _ (@qm _ _ _ _ _ _ _ _ (@op_neTN _ hr.units) (@qF _ _ _ _ _ _ _ qR (@qv _ _ _ _ _ _ _ _ _ _ _ _ _ _ _ _ JF (hr.mono ()) () T.g_law_go.m T.g_law_go.F.kp T.g_law_go.b .nil qN (@qa _ _ _ _ _ (pv 0) (@qa _ _ _ _ _ (pv 1) (@qa _ _ _ _ _ (pv 5) qc ()) ()) ()) () () ()) qj (fun _ _=>rfl)) (pv 4) (qw _)) (@qg _ _ _ (@ql _ _ _ _ (@qk _ _ _ _ _ _ _ _ _ qE () T.Qy um (@qa _ _ _ _ _ (pv 3) qc ()) () () () ()))) qq) (@qg _ _ _ (@ql _ _ _ _ Qe)))))),?_⟩
 dsimp only [cxOf,Cx.nox];have two:(2:Nat)<=sizeLine:=by decide
 obtain⟨pr,ur,rfl,er,wA,r1,rfl,j1,wE,r2,rfl,j2,j3⟩:=ir;cases(show r2= [] from j3)
 refine⟨_,rfl,pr,_,rfl,SqT.of er,rfl,_,_,rfl,_,_,rfl,rfl,?_⟩;have j1:Is H (.tup (ps.map prD)) wA:=j1;have j2:Is H (.tup es) wE:=j2;obtain⟨pa,us,rfl,aq,iu⟩:=id j1;have au:us.length=ps.length:=by rw [iu.length,ub]
 refine⟨(by show 0<=sizeLine;decide),fun la aw=> ?_⟩
 have s0:=qb aw (.lst []);have e0:upd H la (.lst []) la=some (.lst []):=qh;generalize upd H la (.lst [])=H0 at s0 e0⊢;refine⟨_,rfl,pa,us,rfl,.inr (SqT.of (s0 _ _ aq)),(us.length:Int),rfl,by omega,by omega,?_⟩
 have ext:∀{H1 H2:Hp}{xs ys:List V},Same H H1->H1 la=some (.lst xs)->H2=upd H1 la (.lst ys)->Same H H2:=fun{H1 H2 xs ys} s e h=>fun b o eb=>by
  rw [h,qx (qr eb aw)];exact s b o eb
 have ag:∀{as:List D}{Y:List V}{H':Hp}{Q':VK},(∀d∈as,Xn d)->as.length<=500->Same H H'->H' la=some (.lst Y)->L2.IsL H' as Y->(∀(u:V) (H4:Hp),Same H' H4->Is H4 (.tup [.tup (qZ rs own as).gs,(qZ rs own as).th]) u->Q' u H4)->sp_lgo [v,.str own,.ref la] H' Q' E0:=fun{as Y H' Q'} hA ad S' aa O q=>by
  refine⟨v,own,la,rs,as,Y,rfl,aa,O,hA,by omega,hv.mono S'.tk,hR,aA,fun u4 H4 s4 i4=>q u4 H4 s4 ?_⟩
  rw [goF_stand] at i4;exact i4
 have dd:=does_due (own:=own) (ps:=ps) hR ap;have ah:∀{as:List D}{d:List D},qZ rs own as=(goP rs own (qZ rs own []) ps).2->(goP rs own (qZ rs own []) ps).1=ps.length->(qZ rs own as).th= .tup d->lieV rs own ps es=if eqNL d es=true then .non else .int (ps.length:Int):=fun{as d} h1 h2 h3=>by
  unfold lieV;rw [dd,h2,u0 rfl,vE,<-h1,h3,show eqN (.tup d) (.tup es)=eqNL d es by simp only [eqN]]
 have ak:∀{i:Nat},i<ps.length->(goP rs own (qZ rs own []) ps).1=i->lieV rs own ps es= .int (i:Int):=fun{i} h1 h2=>by
  unfold lieV;rw [dd,h2,u9 (by omega),vX]
  rfl
 let J1_:Nat->L2.St->Hp->Prop:=fun i σ H'=>∃(as:List D) (Y:List V) (x4 x5 x6:Option V),σ= [some v,some (.str own),some (.ref pr),some (.ref pa),some wE,some (.ref la),x4,x5,x6]/\as.length=i/\i<=ps.length/\H' la=some (.lst Y)/\L2.IsL H' as Y/\(∀d∈as,Xn d)/\(goP rs own (qZ rs own []) ps).1=i+(goP rs own (qZ rs own as) (ps.drop i)).1/\(goP rs own (qZ rs own []) ps).2=(goP rs own (qZ rs own as) (ps.drop i)).2/\Same H H'/\Tk H0 H'
 refine Xt (n:=us.length) J1_ ⟨[],[],_,_,_,rfl,rfl,uF _,e0,rfl,(fun d h=>by simp at h),by rw [vO,Nat.zero_add],by rw [vO],s0,Tk.refl _⟩ ?_ ?_
 ·rintro i σ H' hi ⟨as,Y,x4,x5,x6,rfl,ad,aC,aa,O,I,g1,g2,sm,t'⟩;have ae:i<ps.length:=by omega
  obtain⟨⟨q,an⟩,hk⟩:∃x,ps[i]? =some x:=⟨ps[i],by simp [ae]⟩
  have aD:ps.drop i=(q,an)::ps.drop (i+1):=by
   rw [vf ae];have:=List.getElem?_eq_some_iff.mp hk;rw [this.2]
  have al:=aB (q,an) (uJ hk);have aE:nD q=true:=al.nd;have aF:Xn an:=al.ao;rw [aD] at g1 g2;have hO:=yO (own:=own) hR I;obtain⟨wd,ed,M⟩:=hO.two;refine⟨_,rfl,_,rfl,?_⟩
  try unfold tC
  show rIxT _ _ _ H' _;rw [Int.zero_add];refine QO (i:=(i:Int)) (d:=prD (q,an)) (j1.mono sm.tk) (qS (by rw [uM,hk];rfl)) fun y iy=> ?_
  obtain⟨py,uy,rfl,ey,w1,q1,rfl,k1,w2,q2,rfl,k2,k3⟩:=iy;cases(show q2= [] from k3)
  refine⟨py,_,rfl,SqT.of ey,rfl,_,_,rfl,_,_,rfl,rfl,?_⟩;refine⟨_,rfl,_,rfl,_,rfl,ag I (by omega) sm aa O fun u4 H4 s4 i4=> ?_⟩
  refine QO (i:=1) (d:=(qZ rs own as).th) i4 (qS (j:=1) rfl) fun z2 l2=> ?_;refine⟨_,rfl,two,fun l hl=> ?_⟩;have s5:=qb hl (.tup [.str "asks",w1]);have am:Is H4 (.tup [.str wd,ed]) z2:=by rw [<-M];exact l2
  have R:=hO.gd;rw [M] at R;have L:=Y4 R.1;simp only [nD] at L;have ac:dpL [.str wd,ed]<=60:=by
   have:=R.2;simp only [dp] at this;omega
  have aG:Is H4 q w1:=Is.mono s4.tk k1;have aH:Is H4 an w2:=Is.mono s4.tk k2;refine⟨[.str wd,ed],[.str "asks",q],am.mono s5.tk,Is.new (ds:= [.str "asks",q]) ⟨_,_,rfl,⟨rfl,qY (by decide)⟩,_,_,rfl,aG,rfl⟩ hl,L,by simp only [nL,nD,aE,vD],ac,?_⟩
  have ao:=s4.trans s5;have ax:=sm.trans ao;have aI:okP (qZ rs own as) (q,an)=eqNL [.str wd,ed] [.str "asks",q]:=by
   rw [al.ok,M];simp only [eqN]
  rw [jf,aI] at g1 g2;cases ab:eqNL [.str wd,ed] [.str "asks",q] with
  |false=>
   rw [ab,if_neg u8] at g1;have:=k _ ax;rw [ak ae g1] at this;exact⟨_,rfl,iteT ⟨_,rfl,this⟩⟩
  |true=>
   rw [ab,if_pos rfl] at g1 g2;refine⟨_,rfl,iteF ?_⟩;have ay:(qZ rs own as).th= .tup [.str "asks",q]:=by
    rw [M];exact congrArg D.tup ((eqNL_iff L).mp ab)
   have U:=ao _ _ aa;have aL:Y.length=as.length:=O.length;refine⟨_,rfl,.inl ⟨rfl,_,SqL.of U⟩,_,rfl,la,Y,_,rfl,rfl,U,yh (by omega),?_⟩
   have t7:=Tk.updL (ys:=Y++ [w2]) U;have T7:=ao.tk.trans t7;have aJ:qW (qZ rs own as).th=true:=by rw [ay];simp [qW]
   rw [<-J2 an aJ] at g1 g2;refine⟨as++ [an],Y++ [w2],_,_,_,rfl,by rw [uf,ad];rfl,ae,qh,(O.mono T7).append (IsL.one ((aH.mono s5.tk).mono t7)),fun x hx=> ?_,by rw [g1];show i+(_+1)=i+1+_;omega,g2,ext ax U rfl,t'.trans T7⟩
   rcases List.mem_append.mp hx with hx|hx
   ·exact I x hx
   ·rw [vh] at hx;subst hx;exact aF
 ·rintro σ H' ⟨as,Y,x4,x5,x6,rfl,ad,aC,aa,O,I,g1,g2,sm,t'⟩;rw [au] at ad g1 g2;rw [List.drop_length] at g1 g2;have hO:=yO (own:=own) hR I;obtain⟨wd,ed,M⟩:=hO.two;refine⟨_,rfl,_,rfl,_,rfl,ag I (by omega) sm aa O fun u4 H4 s4 i4=> ?_⟩
  try unfold tC
  refine QO (i:=1) (d:=(qZ rs own as).th) i4 (qS (j:=1) rfl) fun z2 l2=> ?_;have am:Is H4 (.tup [.str wd,ed]) z2:=by rw [<-M];exact l2
  have R:=hO.gd;rw [M] at R;have L:=Y4 R.1;simp only [nD] at L;have ac:dpL [.str wd,ed]<=60:=by
   have:=R.2;simp only [dp] at this;omega
  have af:=sm.trans s4;have hk:=ah (as:=as) (d:= [.str wd,ed]) g2.symm g1 M;refine⟨_,rfl,[.str wd,ed],es,am,j2.mono af.tk,L,ap.nd,ac,?_⟩;cases ab:eqNL [.str wd,ed] es with
  |false=>
   rw [ab,if_neg u8] at hk;have:=k _ af;rw [hk,<-au] at this;exact⟨_,rfl,iteT ⟨_,rfl,pa,us,rfl,.inr (SqT.of (af _ _ aq)),this⟩⟩
  |true=>
   rw [ab,if_pos rfl] at hk;have:=k _ af;rw [hk] at this;exact⟨_,rfl,iteF this⟩
def KW:Fin 2->Str
 |0=>"rule"
 |1=>"name"
theorem nb:∀t:Fin 2,(!decide (V.bl (decide (t=0))=V.bl (decide (t=1))))=true:=by
 intro t
 match t with
 |0=>rfl
 |1=>rfl
theorem kw_at:∀t:Fin 2,atI [V.str "name",V.str "rule"] (if decide (t=0)=true then 1 else 0)=some (V.str (KW t)):=by
 intro t
 match t with
 |0=>rfl
 |1=>rfl
def RfOk (d od:D)(t:Fin 2):Prop:=(t=0/\yD d=none)∨(t=1/\yD d≠none/\isNm od=false)
def sp_refused:Sp:=fun vs H Q _=>∃(v ov:V) (d od:D) (t:Fin 2),vs= [v,ov]/\Is H d v/\Is H od ov/\RfOk d od t/\∀H',Same H H'->Q (.str (KW t)) H'
theorem Fx.kq (C:Fx K w mg g a)(k j:Fin 2):PySem.W.kitOne K (.ref (g.cls k)) (.ref (g.cls j))=some (decide (k=j)):=by
 by_cases h:k=j
 ·subst h;rw [u0 rfl];unfold PySem.W.kitOne;rw [if_pos (by simp)]
 ·rw [u9 h];exact C.kk k j h
theorem ok_refused (T:Tx K mg a)(C:Fx K w mg g a):FnOk P w K mg base CX0 12 a.Jy a.Jx ["rule","own"] sp_refused:=by
 have j7:=ok_lie (P:=P) (w:=w) (base:=base) T C;refine T.g_law_refused.F.ok QE () (fun _ _ _ _ H _ Q E hr h=> ?_)
 obtain⟨v,ov,d,od,t,rfl,hv,ho,M,q⟩:=h;refine⟨_,(@qe _ _ _ _ _ (@qB _ _ (2) _ _ _ _ QE.nd rfl (Or.inl rfl) qi () ()) (@qe _ _ _ _ _ (@ps_tryC _ (3) _ _ _ _ _ _ _ _ _ _ _ QE.nd rfl rfl (@pys_one _ _ _ (@py_call _ _ _ _ _ _ _ _ _ _ _ _ _ j7 (hr.mono ()) () T.g_lie_place.m T.g_lie_place.F.kp T.g_lie_place.b (@qa _ _ _ _ _ (pv 0) (@qa _ _ _ _ _ (pv 1) (@qa _ _ _ _ _ (@qy _ _ _ _ _ (@qa _ _ _ _ _ (@qy _ _ _ _ _ qc) (@qa _ _ _ _ _ (@qy _ _ _ _ _ (@qa _ _ _ _ _ qi (@qa _ _ _ _ _ qi qc ()) ())) qc ()) ())) qc ()) ()) ()) () () () ())) ⟨rfl,rfl⟩ () C.ZZ (fun _ _=>(@qe _ _ _ _ _ (@qB _ _ (2) _ _ _ _ QE.nd rfl (Or.inl rfl) qi () ()) (@qe _ _ _ _ _ (@qB _ _ (4) _ _ _ _ QE.nd rfl (Or.inl rfl) (@pe_or _ _ _ _ _ _ _ (@qk _ _ _ _ _ _ _ _ _ (@call_isinstT _ _ rfl) () T.qt uo (@qa _ _ _ _ _ (pv 3) (@qa _ _ _ _ _ (@qy _ _ _ _ _ (@qa _ _ _ _ _ (@Jm _ _ _ _ () C.jF ()) (@qa _ _ _ _ _ (@Jm _ _ _ _ () C.m_BadKeep ()) (@qa _ _ _ _ _ (@Jm _ _ _ _ () C.m_Clash ()) (@qa _ _ _ _ _ (@Jm _ _ _ _ () C.m_NoAsk ()) qc ()) ()) ()) ())) qc ()) ()) () () () ()) (@Jv _ _ _ _ _ (@pe_not _ _ _ _ (@qk _ _ _ _ _ _ _ _ _ (@yU _ _ rfl) () T.qt uo (@qa _ _ _ _ _ (pv 3) (@qa _ _ _ _ _ (@qV _ _ (.ty "ValueError") _ _ () T.z_ValueError boot_VE rfl () ()) qc ()) ()) () () () ())))) () ()) (@qg _ _ _ (@qG _ _ _ _ _ _ _ _ (PW.pt (@Y9 _ _ _ _ _ _ _ (@Qm _ _ _ _ (@qU _ _ _ (pv 4) ())) (@y6 _ _ _ _ (@qm _ _ _ _ _ _ _ _ op_ne (@qk _ _ _ _ _ _ _ _ _ (@yU _ _ rfl) () T.qt uo (@qa _ _ _ _ _ (pv 3) (@qa _ _ _ _ _ (@Jm _ _ _ _ () C.Xm ()) qc ()) ()) () () () ()) (@qk _ _ _ _ _ _ _ _ _ (@yU _ _ rfl) () T.qt uo (@qa _ _ _ _ _ (pv 3) (@qa _ _ _ _ _ (@Jm _ _ _ _ () C.m_BadName ()) qc ()) ()) () () () ()) (qw _))))) (@qg _ _ _ (@qB _ _ (2) _ _ _ _ QE.nd rfl (Or.inl rfl) (@qF _ _ _ _ _ _ _ (@ix_listK _ (K) rfl) (@Qb _ _ _ _ (@qa _ _ _ _ _ qi (@qa _ _ _ _ _ qi qc ()) ())) (@qP _ _ _ _ _ _ _ _ _ call_int1 () T.z_int boot_int (@qa _ _ _ _ _ (@qk _ _ _ _ _ _ _ _ _ (@yU _ _ rfl) () T.qt uo (@qa _ _ _ _ _ (pv 3) (@qa _ _ _ _ _ (@Jm _ _ _ _ () C.Xm ()) qc ()) ()) () () () ()) qc ()) () () () ()) (fun _ _=>rfl)) () ())) qq))))) ()) (@qg _ _ _ (@ql _ _ _ _ (pv 2))))),?_⟩
 dsimp only [cxOf,Cx.nox];have zero:(0:Nat)<=sizeLine:=by decide
 have two:(2:Nat)<=sizeLine:=by decide
 have M:Bad g.br g.bn d od (g.cls t):=by
  rcases M with⟨rfl,h⟩|⟨rfl,h1,h2⟩
  ·exact .inl ⟨h,rfl⟩
  ·exact .inr ⟨h1,h2,rfl⟩
 refine⟨_,rfl,_,rfl,zero,fun t0 h0=>⟨two,fun t1 h1=>⟨two,fun t2 h2=> ?_⟩⟩⟩;have O:=(qb h0 (.tup [])).trans ((qb h1 (.tup [.str "said",.str "x"])).trans (qb h2 (.tup [.ref t0,.ref t1])));refine .inr ⟨v,ov,.ref t2,d,od,g.cls t,rfl,hv.mono O.tk,ho.mono O.tk,M,fun I H1 s1=>⟨g.cls t,rfl,C.ew t,fun ea he R=> ?_⟩⟩;cases he;have e1:(upd H1 I (ExcO I (g.cls t))) I=some (ExcO I (g.cls t)):=qh;have s2:=(O.trans s1).trans (qb R (ExcO I (g.cls t)));show tSeq _ _ _ _ (upd H1 I (ExcO I (g.cls t)));generalize upd H1 I (ExcO I (g.cls t))=H2 at e1 s2⊢;refine⟨_,rfl,(by show 4<=sizeLine;decide),fun U h3=> ?_⟩
 have Y:=qb h3 (.tup [.ref g.ba,.ref g.xBadKeep,.ref g.xClash,.ref g.na]);have L:=Y _ _ e1;refine⟨I,g.cls t,U,g.oth,false,rfl,L,qh,C.xc t,C.ot t,_,rfl,iteF ?_⟩;show tNotV _ _ (upd H2 U (.tup [.ref g.ba,.ref g.xBadKeep,.ref g.xClash,.ref g.na])) _;generalize upd H2 U (.tup [.ref g.ba,.ref g.xBadKeep,.ref g.xClash,.ref g.na])=H3 at Y L⊢;have S3:=s2.trans Y;refine⟨_,rfl,.ref I,.ty "ValueError",.type "ValueError",.ref (g.cls t),true,rfl,.ty _,.exc L (C.xc t),C.ve t,_,rfl,?_⟩;refine⟨_,rfl,_,rfl,iteT ?_⟩;refine⟨_,rfl,.ref I,.ref (g.cls 0),.ref (g.cls 0),.ref (g.cls t),_,rfl,.own _,.exc L (C.xc t),C.kq t 0,?_⟩;refine⟨_,rfl,.ref I,.ref (g.cls 1),.ref (g.cls 1),.ref (g.cls t),_,rfl,.own _,.exc L (C.xc t),C.kq t 1,rfl,_,rfl,qA (nb t) ?_⟩;refine⟨two,fun l4 h4=> ?_⟩;have s4:=qb h4 (.lst [.str "name",.str "rule"]);refine⟨_,rfl,.ref I,.ref (g.cls 0),.ref (g.cls 0),.ref (g.cls t),_,rfl,.own _,.exc (s4 _ _ L) (C.xc t),C.kq t 0,.inr ⟨_,rfl,l4,_,_,.str (KW t),rfl,rfl,SqL.of qh,?_,?_⟩⟩
 ·exact kw_at t
 ·exact⟨_,rfl,q _ (S3.trans s4)⟩
end
end K47
namespace K47
open PySem L2 PyProof.Rows
open Builtin.Int (intBits)
def sp_law (K:PySem.W.Frag):Sp:=fun vs H Q _=>∃(q:Addr) (ns:List Int),vs= [.ref q]/\SqL K H q (ns.map V.int)/\ns.length<=63/\(∀x∈ns,intBits x<=MB)/\∀H',Q (.bl true) H'
theorem kit_ib {K:PySem.W.Frag}:PySem.W.kitOne K (.type "int") (.type "bool")=some false:=kit_no (b:=false) (by decide) (by decide+kernel) (by decide+kernel)
theorem kit_nb {K:PySem.W.Frag}:PySem.W.kitOne K (.type "NoneType") (.type "bool")=some false:=kit_no (b:=false) (by decide) (by decide+kernel) (by decide+kernel)
def STG:List Str:= ["","A","1a","a b",Txt.mul "a" 25]
theorem stg_ok:∀z∈STG,nm z=false/\z.length<=100:=by decide+kernel
theorem stg_at {d:Int}(L:0<=d)(h1:d<5):∃z:Str,atI (STG.map V.str) d=some (.str z)/\nm z=false/\z.length<=100:=by
 obtain⟨v,I⟩:=xN (xs:=STG.map V.str) (i:=d) L h1;obtain⟨z,M,rfl⟩:=List.mem_map.mp (ZM I);exact⟨z,I,stg_ok z M⟩
theorem XY {ds:List D}{m:D}(hm:m∈ds)(h:(Ql ds.length m).isNone=true):yD (.tup ds)=none:=by
 rw [JC];refine if_neg fun z=> ?_;simp only [ui,Ur] at z;have:=z.1.2 m hm;rw [Option.isNone_iff_eq_none] at h;rw [h] at this;cases this
theorem text_none:∀n:Fin 14,(Ql n.val (.str "text")).isNone=true:=by decide+kernel
def ODD (rs:List Rw):List D:= [.tup [],.tup [.str "say z"],.str "say a",.tup ((rs.map fun r=>D.str (qH r))++ [.str "text"]),.tup [.str "go 2"]]
theorem odd_bad {rs:List Rw}(h:rs.length<=12):∀d∈ODD rs,yD d=none:=by
 intro d hd;simp only [ODD,uB,uD,vb] at hd;rcases hd with rfl|rfl|rfl|rfl|rfl
 ·rfl
 ·exact XY (m:= .str "say z") uq (by decide+kernel)
 ·rfl
 ·refine XY (m:= .str "text") (List.mem_append.mpr (.inr uq)) ?_;exact text_none ⟨_,by rw [uf,ub];show rs.length+1<14;omega⟩
 ·exact XY (m:= .str "go 2") uq (by decide+kernel)
def RunIs (H:Hp)(u:V):Prop:=∃(ps:List (D×D)) (es:List D),(∀x∈ps,RgOk x)/\ps.length<=500/\ZR es/\Is H (.tup [.tup (ps.map prD),.tup es]) u
theorem RunIs.mono {H H':Hp}{u:V}(t:Tk H H')(h:RunIs H u):RunIs H' u:=by
 obtain⟨ps,es,h1,h2,I,h4⟩:=h;exact⟨ps,es,h1,h2,I,h4.mono t⟩
theorem lie_is {rs:List Rw}{own:Str}{ps:List (D×D)}{es:List D}:lieV rs own ps es= .non∨∃i:Int,lieV rs own ps es= .int i:=by
 unfold lieV;cases doesB rs own ps es with
 |true=>exact .inl rfl
 |false=>exact .inr ⟨_,rfl⟩
section
variable {P:Program}{w:World}{K:PySem.W.Frag}{mg:Str->Option Value}{base:Heap}{a:Ad}{g:Ga}
theorem ok_law (T:Tx K mg a)(C:Fx K w mg g a):FnOk P w K mg base CX0 26 a.f_law a.d_law ["script"] (sp_law K):=by
 have O:=ok_pot (P:=P) (w:=w) (base:=base) T;have qI:=Y2 (P:=P) (w:=w) (base:=base) T;have xw:=ok_drawn (P:=P) (w:=w) (base:=base) T;have R:=ok_run (P:=P) (w:=w) (base:=base) T;have YO:=ok_spoilt (P:=P) (w:=w) (base:=base) T;have I:=ok_place (P:=P) (w:=w) (base:=base) T;have j7:=ok_lie (P:=P) (w:=w) (base:=base) T C;have Yx:=ok_refused (P:=P) (w:=w) (base:=base) T C;refine T.g_law.F.ok y8 () (fun _ _ _ s H _ Q E hr h=> ?_)
 obtain⟨q,ns,rfl,hS,bB,aG,k⟩:=h;refine⟨_,(@qe _ _ _ _ _ (@qB _ _ (1) _ _ _ _ y8.nd rfl (Or.inl rfl) (@Qb _ _ _ _ (@qa _ _ _ _ _ qi (@qa _ _ _ _ _ qi (@qa _ _ _ _ _ qi (@qa _ _ _ _ _ qi qc ()) ()) ()) ())) () ()) (@qe _ _ _ _ _ (@Jo _ _ _ _ _ _ _ _ vk rfl (@pi_list _ _ _ _ (@qT _ _ _ _ _ _ _ _ op_cat (@Qb _ _ _ _ (@qa _ _ _ _ _ qj qc ())) (@Qn _ _ _ _ _ _ _ _ _ _ sl_list (pv 0) QJ (@QA _ _ _ qj)))) (@qQ _ _ (2) _ y8.nd rfl (Or.inl rfl) ()) (@qe _ _ _ _ _ (@qB _ _ (3) _ _ _ _ y8.nd rfl (Or.inl rfl) (@qv _ _ _ _ _ _ _ _ _ _ _ _ _ _ _ _ O (hr.mono ()) () T.g_law_pot.m T.g_law_pot.F.kp T.g_law_pot.b .nil qN (@qa _ _ _ _ _ (pv 2) (@qa _ _ _ _ _ qj qc ()) ()) () () ()) () ()) (@qe _ _ _ _ _ (@qB _ _ (4) _ _ _ _ y8.nd rfl (Or.inl rfl) (@qv _ _ _ _ _ _ _ _ _ _ _ _ _ _ _ _ xw (hr.mono ()) () T.g_law_drawn_rule.m T.g_law_drawn_rule.F.kp T.g_law_drawn_rule.b .nil qN (@qa _ _ _ _ _ (pv 3) (@qa _ _ _ _ _ (pv 1) qc ()) ()) () () ()) () ()) (@qe _ _ _ _ _ (@qB _ _ (5) _ _ _ _ y8.nd rfl (Or.inl rfl) (@qF _ _ _ _ _ _ _ qO (pv 1) (@qv _ _ _ _ _ _ _ _ _ _ _ _ _ _ _ _ qI (hr.mono ()) () T.g_law_take.m T.g_law_take.F.kp T.g_law_take.b .nil qN (@qa _ _ _ _ _ (pv 3) (@qa _ _ _ _ _ qj qc ()) ()) () () ()) (fun _ _=>rfl)) () ()) (@qe _ _ _ _ _ (@qB _ _ (6) _ _ _ _ y8.nd rfl (Or.inl rfl) (@qv _ _ _ _ _ _ _ _ _ _ _ _ _ _ _ _ R (hr.mono ()) () T.g_law_run.m T.g_law_run.F.kp T.g_law_run.b .nil qN (@qa _ _ _ _ _ (pv 3) (@qa _ _ _ _ _ (pv 4) (@qa _ _ _ _ _ (pv 5) (@qa _ _ _ _ _ (pv 1) qc ()) ()) ()) ()) () () ()) () ()) (@qe _ _ _ _ _ (@qB _ _ (7) _ _ _ _ y8.nd rfl (Or.inl rfl) (@qv _ _ _ _ _ _ _ _ _ _ _ _ _ _ _ _ YO (hr.mono ()) () T.g_law_spoilt.m T.g_law_spoilt.F.kp T.g_law_spoilt.b .nil qN (@qa _ _ _ _ _ (pv 3) (@qa _ _ _ _ _ (pv 6) (@qa _ _ _ _ _ (pv 1) qc ()) ()) ()) () () ()) () ()) (@qe _ _ _ _ _ (@Jo _ _ _ _ _ _ _ _ vk rfl (@pi_list _ _ _ _ (@Qb _ _ _ _ (@qa _ _ _ _ _ (pv 6) (@qa _ _ _ _ _ (pv 7) (@qa _ _ _ _ _ (@qv _ _ _ _ _ _ _ _ _ _ _ _ _ _ _ _ YO (hr.mono ()) () T.g_law_spoilt.m T.g_law_spoilt.F.kp T.g_law_spoilt.b .nil qN (@qa _ _ _ _ _ (pv 3) (@qa _ _ _ _ _ (pv 6) (@qa _ _ _ _ _ (pv 1) qc ()) ()) ()) () () ()) (@qa _ _ _ _ _ (@qv _ _ _ _ _ _ _ _ _ _ _ _ _ _ _ _ YO (hr.mono ()) () T.g_law_spoilt.m T.g_law_spoilt.F.kp T.g_law_spoilt.b .nil qN (@qa _ _ _ _ _ (pv 3) (@qa _ _ _ _ _ (pv 7) (@qa _ _ _ _ _ (pv 1) qc ()) ()) ()) () () ()) qc ()) ()) ()) ()))) (@qQ _ _ (8) _ y8.nd rfl (Or.inl rfl) ()) (@qe _ _ _ _ _ (@qB _ _ (9) _ _ _ _ y8.nd rfl (Or.inl rfl) (@qv _ _ _ _ _ _ _ _ _ _ _ _ _ _ _ _ I (hr.mono ()) () T.g_law_place.m T.g_law_place.F.kp T.g_law_place.b .nil qN (@qa _ _ _ _ _ (pv 4) (@qa _ _ _ _ _ (pv 5) (@qa _ _ _ _ _ (pv 8) qc ()) ()) ()) () () ()) () ()) (@qe _ _ _ _ _ (@qB _ _ (10) _ _ _ _ y8.nd rfl (Or.inl rfl) (@qv _ _ _ _ _ _ _ _ _ _ _ _ _ _ _ _ j7 (hr.mono ()) () T.g_lie_place.m T.g_lie_place.F.kp T.g_lie_place.b .nil passF (@qa _ _ _ _ _ (pv 4) (@qa _ _ _ _ _ (pv 5) (@qa _ _ _ _ _ (pv 8) qc ()) ()) ()) () () ()) () ()) (@qg _ _ _ (@qG _ _ _ _ _ _ _ _ (@Yf _ _ _ _ _ _ _ (@qm _ _ _ _ _ _ _ _ op_ne (pv 10) (pv 9) (qw _)) (@yK _ _ _ _ (@qU _ _ _ (@qk _ _ _ _ _ _ _ _ _ (@qz _ _ rfl) () T.qt uo (@qa _ _ _ _ _ (pv 10) (@qa _ _ _ _ _ (@qV _ _ (.ty "bool") _ _ () T.z_bool boot_bool rfl () ()) qc ()) ()) () () () ()) ()))).pt (@qg _ _ _ (@ql _ _ _ _ jn)) qq)))) ()) (@qe _ _ _ _ _ (@qB _ _ (11) _ _ _ _ y8.nd rfl (Or.inl rfl) (@qF _ _ _ _ _ _ _ qO (@Qb _ _ _ _ (@qa _ _ _ _ _ (@qy _ _ _ _ _ qc) (@qa _ _ _ _ _ (@qy _ _ _ _ _ (@qa _ _ _ _ _ qi qc ())) (@qa _ _ _ _ _ qi (@qa _ _ _ _ _ (@qT _ _ _ _ _ _ _ _ yp (pv 4) (@qy _ _ _ _ _ (@qa _ _ _ _ _ qi qc ()))) (@qa _ _ _ _ _ (@qy _ _ _ _ _ (@qa _ _ _ _ _ qi qc ())) qc ()) ()) ()) ()) ())) (@qv _ _ _ _ _ _ _ _ _ _ _ _ _ _ _ _ qI (hr.mono ()) () T.g_law_take.m T.g_law_take.F.kp T.g_law_take.b .nil qN (@qa _ _ _ _ _ (pv 3) (@qa _ _ _ _ _ qj qc ()) ()) () () ()) (fun _ _=>rfl)) () ()) (@qe _ _ _ _ _ (@qB _ _ (12) _ _ _ _ y8.nd rfl (Or.inl rfl) (@qF _ _ _ _ _ _ _ qO (@Qb _ _ _ _ (@qa _ _ _ _ _ qi (@qa _ _ _ _ _ qi (@qa _ _ _ _ _ qi (@qa _ _ _ _ _ qi (@qa _ _ _ _ _ (@qT _ _ _ _ _ _ _ _ op_repS qi qj) qc ()) ()) ()) ()) ())) (@qv _ _ _ _ _ _ _ _ _ _ _ _ _ _ _ _ qI (hr.mono ()) () T.g_law_take.m T.g_law_take.F.kp T.g_law_take.b .nil qN (@qa _ _ _ _ _ (pv 3) (@qa _ _ _ _ _ qj qc ()) ()) () () ()) (fun _ _=>rfl)) () ()) (@qg _ _ _ (@qG _ _ _ _ _ _ _ _ (@Yf _ _ _ _ _ _ _ (@qm _ _ _ _ _ _ _ _ op_ne (@qv _ _ _ _ _ _ _ _ _ _ _ _ _ _ _ _ Yx (hr.mono ()) () T.g_law_refused.m T.g_law_refused.F.kp T.g_law_refused.b .nil qN (@qa _ _ _ _ _ (pv 11) (@qa _ _ _ _ _ (pv 12) qc ()) ()) () () ()) qi (qw _)) (@Yf _ _ _ _ _ _ _ (@qm _ _ _ _ _ _ _ _ op_ne (@qv _ _ _ _ _ _ _ _ _ _ _ _ _ _ _ _ Yx (hr.mono ()) () T.g_law_refused.m T.g_law_refused.F.kp T.g_law_refused.b .nil qN (@qa _ _ _ _ _ (pv 11) (@qa _ _ _ _ _ (pv 5) qc ()) ()) () () ()) qi (qw _)) (@yK _ _ _ _ (@qm _ _ _ _ _ _ _ _ op_ne (@qv _ _ _ _ _ _ _ _ _ _ _ _ _ _ _ _ Yx (hr.mono ()) () T.g_law_refused.m T.g_law_refused.F.kp T.g_law_refused.b .nil qN (@qa _ _ _ _ _ (pv 4) (@qa _ _ _ _ _ (pv 12) qc ()) ()) () () ()) qi (qw _))))).pt (@qg _ _ _ (@ql _ _ _ _ jn)) qq)))))))))) ()) (@qg _ _ _ (@ql _ _ _ _ jn)))),?_⟩
 dsimp only [cxOf,Cx.nox];have zero:(0:Nat)<=sizeLine:=by decide
 have one:(1:Nat)<=sizeLine:=by decide
 have four:(4:Nat)<=sizeLine:=by decide
 have ah:(5:Nat)<=sizeLine:=by decide
 have big:∀{j:Nat},j<=1001->j<=sizeLine:=fun h=>uP h (by decide)
 have sx:∀{H3:Hp}{z:Str},z.length<=1000->Is H3 (.str z) (.str z):=fun{H3 z} hz=>⟨rfl,qY (by omega)⟩
 refine⟨four,fun L hL=> ?_⟩;have s1:=qb hL (.lst (NMS.map V.str));have e1:upd H L (.lst (NMS.map V.str)) L=some (.lst (NMS.map V.str)):=qh;show tSeq _ _ _ _ (upd H L (.lst (NMS.map V.str)));generalize upd H L (.lst (NMS.map V.str))=H1 at s1 e1⊢;refine⟨one,fun l0 h0=> ?_⟩;have s2:=qb h0 (.lst [.int 0]);refine⟨_,rfl,_,rfl,q,_,rfl,(s1.trans s2).seq hS,fun l1 h1=> ?_⟩;have s3:=qb h1 (.lst (cutV (ns.map V.int) none (some 8)));have aH:(upd (upd H1 l0 (.lst [.int 0])) l1 (.lst (cutV (ns.map V.int) none (some 8)))) l0=some (.lst [.int 0]):=s3 _ _ qh;have aI:(upd (upd H1 l0 (.lst [.int 0])) l1 (.lst (cutV (ns.map V.int) none (some 8)))) l1=some (.lst (cutV (ns.map V.int) none (some 8))):=qh;have ak:∀y∈cutV (ns.map V.int) none (some 8),∃n:Int,y= .int n/\intBits n<=MB:=fun y M=>by
  unfold cutV at M;obtain⟨n,hn,rfl⟩:=List.mem_map.mp (Ul (Um M));exact⟨n,rfl,aG n hn⟩
 have a5:(cutV (ns.map V.int) none (some 8)).length<=63:=by
  unfold cutV;rw [uz,uC,ub];omega
 have am:∀y∈ [V.int 0]++cutV (ns.map V.int) none (some 8),∃n:Int,y= .int n/\intBits n<=MB:=fun y M=>by
  rcases List.mem_append.mp M with M|M
  ·rw [vh] at M;exact⟨0,M,by decide⟩
  ·exact ak y M
 refine⟨l0,l1,_,_,rfl,rfl,aH,aI,big (by show 1+_<=1001;omega),fun lc aJ=> ?_⟩
 generalize cutV (ns.map V.int) none (some 8)=cs at*;have s4:=qb aJ (.lst ([V.int 0]++cs));have S4:=s2.trans (s3.trans s4);have ec:(upd (upd (upd H1 l0 (.lst [.int 0])) l1 (.lst cs)) lc (.lst ([V.int 0]++cs))) lc=some (.lst ([V.int 0]++cs)):=qh;have eL:=S4 _ _ e1;generalize upd (upd (upd H1 l0 (.lst [.int 0])) l1 (.lst cs)) lc (.lst ([V.int 0]++cs))=HC at ec eL⊢;clear s2 s3 s4 aH aI S4 h0 h1 aJ ak a5;refine⟨lc,rfl,⟨_,SqL.of ec⟩,?_⟩
 let J1_:Nat->L2.St->Hp->Prop:=fun i σ H'=>∃(x2 x3 x4 x5 x6 x7 x8 x9 xA xB xC:Option V),σ= [some (.ref q),some (.ref L),x2,x3,x4,x5,x6,x7,x8,x9,xA,xB,xC]/\Same HC H'
 refine for_list (K:=K) (a:=lc) (xs:= [V.int 0]++cs) J1_ ⟨_,_,_,_,_,_,_,_,_,_,_,rfl,Same.refl _⟩ (fun i σ H' _ ⟨_,_,_,_,_,_,_,_,_,_,_,_,sm⟩=>SqL.of (sm _ _ ec)) ?_ ?_
 ·rintro i y σ H' M ⟨x2,x3,x4,x5,x6,x7,x8,x9,xA,xB,xC,rfl,sm⟩;obtain⟨c,rfl,hc⟩:=am y (uJ M);have a6:=sm _ _ eL;refine⟨_,rfl,c,5,rfl,hc,by decide,by decide,fun p HP hp sp Pp=> ?_⟩
  have U:=sp _ _ a6;refine⟨_,rfl,_,rfl,p,L,rfl,Pp.at,U,fun v rs H2 hR a7 iv P2 K2=> ?_⟩;have ab:=Pp.at.four U;refine⟨_,rfl,_,rfl,p,4,rfl,P2,by decide,by decide,fun d3 H3 a0 a1 P3 K3 _=> ?_⟩
  obtain⟨own,_,aK,aL,ad⟩:=nms_at a0 a1;have ae:=K2.trans K3;refine⟨L,_,_,_,rfl,rfl,SqL.of (ae _ _ U ab),aK,?_⟩;have ao:=iv.mono (P2.tk P3 K3);clear aK K3 a0 a1;have ad:own.length<=100:=by omega
  refine⟨_,rfl,_,rfl,_,rfl,_,rfl,p,L,v,own,rs,rfl,P3,ae _ _ U ab,ao,hR,aL,ad,fun u4 ps es H4 Y ap aa i4 P4 K4=> ?_⟩;have aq:=ae.trans K4;refine⟨_,rfl,_,rfl,_,rfl,p,L,u4,ps,es,rfl,P4,aq _ _ U ab,i4,Y,by omega,aa,fun u5 aM aN H5 au a8 av i5 P5 K5=> ?_⟩
  have aw:=aq.trans K5;have ax:=i4.mono (P4.tk P5 K5);refine⟨_,rfl,_,rfl,_,rfl,_,rfl,_,rfl,p,L,u4,ps,es,rfl,P5,aw _ _ U ab,ax,Y,by omega,aa,fun u6 a9 bb H6 aO bc aP i6 P6 K6=> ?_⟩
  have ay:=aw.trans K6;have aA:=i5.mono (P5.tk P6 K6);refine⟨_,rfl,_,rfl,_,rfl,p,L,u5,aM,aN,rfl,P6,ay _ _ U ab,aA,au,by omega,av,fun u7 bd bf H7 aQ bg aR i7 P7 K7=>⟨four,fun ls aS=> ?_⟩⟩
  have af:=P6.tk P7 K7;have q8:=qb aS (.lst [u4,u5,u6,u7]);have e8:(upd H7 ls (.lst [u4,u5,u6,u7])) ls=some (.lst [u4,u5,u6,u7]):=qh;have r8:∀y∈ [u4,u5,u6,u7],RunIs (upd H7 ls (.lst [u4,u5,u6,u7])) y:=fun y M=>by
   simp only [uB,uD,vb] at M;rcases M with rfl|rfl|rfl|rfl
   ·exact RunIs.mono q8.tk ⟨ps,es,Y,by omega,aa,(ax.mono (P5.tk P6 K6)).mono af⟩
   ·exact RunIs.mono q8.tk ⟨aM,aN,au,by omega,av,aA.mono af⟩
   ·exact RunIs.mono q8.tk ⟨a9,bb,aO,by omega,aP,i6.mono af⟩
   ·exact RunIs.mono q8.tk ⟨bd,bf,aQ,by omega,aR,i7⟩
  have P8:=P7.same q8;have K8:=ay.trans (K7.trans (Kept.of q8));have ag:=ao.mono (P3.tk P8 (K4.trans (K5.trans (K6.trans (K7.trans (Kept.of q8))))));generalize upd H7 ls (.lst [u4,u5,u6,u7])=H8 at e8 r8 P8 K8 ag⊢;clear q8 af i7 i6 aA i5 ax i4 ao iv aS P7 P6 P5 P4 P3 P2 K7 K6 K5 K4 K2 ae aq aw ay aQ aO au Y bg bc a8 ap aR aP av aa;refine⟨ls,rfl,⟨_,SqL.of e8⟩,?_⟩
  let J2_:Nat->L2.St->Hp->Prop:=fun j σ H'=>∃(x8 x9 xA:Option V),σ= [some (.ref q),some (.ref L),some (.int c),some (.ref p),some v,some (.str own),some u4,some u5,x8,x9,xA,xB,xC]/\Same H8 H'
  refine for_list (K:=K) (a:=ls) (xs:= [u4,u5,u6,u7]) J2_ ⟨_,_,_,rfl,Same.refl _⟩ (fun i σ H' _ ⟨_,_,_,_,sm⟩=>SqL.of (sm _ _ e8)) ?_ ?_
  ·rintro j y σ H9 M ⟨x8,x9,xA,rfl,s9⟩;obtain⟨ps,es,Y,ap,aa,iy⟩:=(r8 y (uJ M)).mono s9.tk;refine⟨_,rfl,_,rfl,_,rfl,v,y,own,rs,ps,es,rfl,ag.mono s9.tk,hR,ad,iy,Y,ap,aa,fun aT aU=> ?_⟩;have aV:=s9.trans aU;refine⟨_,rfl,_,rfl,_,rfl,.inl ⟨v,y,own,rs,ps,es,rfl,ag.mono aV.tk,hR,aL,ad,iy.mono aU.tk,(fun x hx=>(Y x hx).nd),aa.nd,fun bh ac=> ?_⟩⟩;have aW:=aV.trans ac;rcases lie_is (rs:=rs) (own:=own) (ps:=ps) (es:=es) with hl|⟨n,hl⟩
   ·rw [hl];refine⟨_,rfl,_,rfl,rfl,_,rfl,qo (by decide) ⟨_,rfl,_,"bool",_,false,rfl,.non,kit_nb,_,rfl,iteF ?_⟩⟩
    exact⟨_,_,_,rfl,aW⟩
   ·rw [hl];refine⟨_,rfl,_,rfl,rfl,_,rfl,qo (by rw [u0 rfl];rfl) ⟨_,rfl,_,"bool",_,false,rfl,.int n,kit_ib,_,rfl,iteF ?_⟩⟩
    exact⟨_,_,_,rfl,aW⟩
  ·rintro σ H9 ⟨x8,x9,xA,rfl,s9⟩;have P9:=P8.same s9;have K9:=K8.trans (Kept.of s9);have aB:=ag.mono s9.tk;clear r8 e8 s9;refine⟨zero,fun t1 h1=>⟨one,fun t2 h2=>⟨_,rfl,one,fun t3 h3=> ?_⟩⟩⟩;have i1:Is (upd H9 t1 (.tup [])) (.tup []) (.ref t1):=Is.new (ds:= []) rfl h1;have q1:=qb h1 (.tup []);generalize upd H9 t1 (.tup [])=G1 at i1 q1 h2 h3⊢;have i2:Is (upd G1 t2 (.tup [.str "say z"])) (.tup [.str "say z"]) (.ref t2):=Is.new (IsL.one (sx (by decide))) h2
   have q2:=qb h2 (.tup [.str "say z"]);generalize upd G1 t2 (.tup [.str "say z"])=G2 at i2 q2 h3⊢;have i3:Is (upd G2 t3 (.tup [.str "text"])) (.tup [.str "text"]) (.ref t3):=Is.new (IsL.one (sx (by decide))) h3
   have q3:=qb h3 (.tup [.str "text"]);generalize upd G2 t3 (.tup [.str "text"])=G3 at i3 q3⊢;have Q3:=q1.trans (q2.trans q3)
   try unfold tC
   refine jy (aB.mono Q3.tk) i3 (big (by rw [ub];show _+1<=1001;omega)) fun z4 G4 q4 i4=> ?_
   refine⟨one,fun t5 h5=>⟨ah,fun lo aC=> ?_⟩⟩;have i5:Is (upd G4 t5 (.tup [.str "go 2"])) (.tup [.str "go 2"]) (.ref t5):=Is.new (IsL.one (sx (by decide))) h5
   have q5:=qb h5 (.tup [.str "go 2"]);generalize upd G4 t5 (.tup [.str "go 2"])=G5 at i5 q5 aC⊢;have q6:=qb aC (.lst [.ref t1,.ref t2,.str "say a",z4,.ref t5]);have e6:(upd G5 lo (.lst [.ref t1,.ref t2,.str "say a",z4,.ref t5])) lo=some (.lst [.ref t1,.ref t2,.str "say a",z4,.ref t5]):=qh;have aD:L2.IsL (upd G5 lo (.lst [.ref t1,.ref t2,.str "say a",z4,.ref t5])) (ODD rs) [.ref t1,.ref t2,.str "say a",z4,.ref t5]:=
    ⟨_,_,rfl,i1.mono (q2.trans (q3.trans (q4.trans (q5.trans q6)))).tk,_,_,rfl,i2.mono (q3.trans (q4.trans (q5.trans q6))).tk,_,_,rfl,sx (by decide),_,_,rfl,i4.mono (q5.trans q6).tk,_,_,rfl,i5.mono q6.tk,rfl⟩
   have Q6:=Q3.trans (q4.trans (q5.trans q6));generalize upd G5 lo (.lst [.ref t1,.ref t2,.str "say a",z4,.ref t5])=G6 at e6 aD Q6⊢;clear i1 i2 i3 i4 i5 q1 q2 q3 q4 q5 q6 Q3 h1 h2 h3 h5 aC;have P6:=P9.same Q6;have K6:=K9.trans (Kept.of Q6);have aX:=aB.mono Q6.tk;refine⟨_,rfl,p,5,rfl,P6,by decide,by decide,fun d7 H7 a0 a1 P7 K7 _=> ?_⟩
   obtain⟨n7,rfl⟩:∃n:Nat,d7=(n:Int):=⟨d7.toNat,by omega⟩
   obtain⟨od,aE⟩:∃x,(ODD rs)[n7]? =some x:=⟨(ODD rs)[n7]'(by show n7<5;omega),by simp [show n7<(ODD rs).length from(by show n7<5;omega)]⟩
   have al:=odd_bad a7 od (uJ aE);have aY:=P6.tk P7 K7;obtain⟨wo,aZ,bm⟩:=(aD.mono aY).get aE;refine⟨lo,_,_,wo,rfl,rfl,SqL.of (K7 _ _ e6 (P6.ne_l e6 (show(5:Nat)≠1 by decide))),qS aZ,?_⟩
   have bo:=aX.mono aY;have bp:=K6.trans K7;clear aD e6 Q6 K6 K7 P6 aX aB P9 K9 aE aZ;refine⟨_,_,rfl,rfl,mulOk_of (by decide) (by decide) (by decide),ah,fun l4 h4=> ?_⟩
   have q8:=qb h4 (.lst (STG.map V.str));have e8:(upd H7 l4 (.lst (STG.map V.str))) l4=some (.lst (STG.map V.str)):=qh;have P8:=P7.same q8;refine⟨_,rfl,p,5,rfl,P8,by decide,by decide,fun d8 aT b0 b1 bq aF _=> ?_⟩
   obtain⟨st,bt,bu,bC⟩:=stg_at b0 b1;refine⟨l4,_,_,_,rfl,rfl,SqL.of (aF _ _ e8 (P7.free h4).symm),bt,?_⟩;have a2:=q8.tk.trans (P8.tk bq aF);have bv:=bp.trans ((Kept.of q8).trans aF);have bw:=bo.mono a2;have a3:=bm.mono a2;have bx:∀HF,Same aT HF->J1_ (i+1) [some (.ref q),some (.ref L),some (.int c),some (.ref p),some v,some (.str own),some u4,some u5,x8,x9,xA,some wo,some (.str st)] HF:=fun HF s=>⟨_,_,_,_,_,_,_,_,_,_,_,rfl,sm.trans (Kept.same (bv.trans (Kept.of s)) sp hp)⟩;refine⟨_,rfl,_,rfl,wo,.str st,od,.str st,0,rfl,a3,sx (by omega),.inl ⟨rfl,al⟩,fun bh ac=>⟨rfl,_,rfl,qo (by decide+kernel) ?_⟩⟩
   refine⟨_,rfl,_,rfl,wo,.str own,od,.str own,0,rfl,a3.mono ac.tk,sx (by omega),.inl ⟨rfl,al⟩,fun bD a4=>⟨rfl,_,rfl,qo (by decide+kernel) ?_⟩⟩
   refine⟨_,rfl,_,rfl,v,.str st,QV rs,.str st,1,rfl,(bw.mono ac.tk).mono a4.tk,sx (by omega),.inr ⟨rfl,by rw [hR.read];simp,bu⟩,fun bE bA=>⟨rfl,_,rfl,qo (by decide+kernel) ?_⟩⟩
   exact bx _ (ac.trans (a4.trans bA))
 ·rintro σ H' _;exact k H'
end
end K47
namespace K47
open PySem L2 PyProof.Rows
theorem tx_mk {K:PySem.W.Frag}{h:Heap}{mg:Str->Option Value}(X:K.In h)(G:h.Ns mainGlobals mg){I f1 f2 f3 f4 f5 f6 f7 f8 f9 ag ah ak al am ao ap aq au av aw ax ay aA aB aC aD aE aF aG aH aI aJ aK aL aM aN aO aP aQ aR aS aT aU aV aW aX aY aZ a0 a1 a2 a3 a4 a5 a6 a7 a8 a9:Addr}{t1 t2 t3 t4 t5 t6 t7 t8 t9 bb:Tok}
  (ad:PySem.W.nsIn K mainGlobals "Machine"=some (some (.ref I))) (ae:Cls K I) (ab:PySem.W.makesIn K I=true/\PySem.W.keepIn K (.ref I)=true)
  (h1:FZg K "is_text" X8 f1)
  (h2:FZg K "is_tree" JH f2)
  (h3:FZg K "is_name" XW f3)
  (h4:FZg K "is_row_of_names" Q8 f4)
  (h5:FZg K "is_answer" jC f5)
  (h6:FZg K "part_of" Xs f6)
  (h7:FZg K "pieces_of" jH f7)
  (h8:FZg K "row_of" xJ f8)
  (h9:FZg K "read_lines" Y0 f9)
  (bc:FZg K "rule_rows" j9 ag)
  (bd:FZg K "text_made" Jf ah)
  (bf:FZg K "self_made" j6 ak)
  (bg:FZg K "copy_made" jM al)
  (bh:FZg K "row_made" JL am)
  (bm:FZg K "put_made" J4 ao)
  (bo:FZg K "join_made" jW ap)
  (bp:FZg K "first_made" jd aq)
  (bq:FZg K "rest_made" jL au)
  (bt:FZg K "size_made" jT av)
  (bu:FZg K "cut_made" JX aw)
  (bv:FZg K "glue_made" j8 ax)
  (bw:FZg K "is_jump_taken" yI ay)
  (bx:FZg K "asked_or_fault" yn aA)
  (af:FZm K I "__init__" "Machine.__init__" yW aB)
  (bA:FZm K I "now" "Machine.now" Yq aC)
  (bB:FZm K I "answer" "Machine.answer" yo aD)
  (bC:FZm K I "asked" "Machine.asked" ja aE)
  (bD:FZm K I "lines" "Machine.lines" YZ aF)
  (bE:FZm K I "go_on" "Machine.go_on" yG aG)
  (bF:FZm K I "is_waiting" "Machine.is_waiting" QN aH)
  (bG:FZm K I "do_row" "Machine.do_row" yk aI)
  (bH:FZm K I "hold" "Machine.hold" yV aJ)
  (bI:FZg K "asks_that_stand" yd aK)
  (bJ:FZg K "does" s_does aL)
  (bK:FZg K "lie_place" jV aM)
  (bL:FZg K "_law_pot" xS aN)
  (bM:FZg K "_law_take" J1 aO)
  (bN:FZg K "_law_word" JP aP)
  (bO:FZg K "_law_line" jj aQ)
  (bP:FZg K "_law_rule" jg aR)
  (bQ:FZg K "_law_maker" jK aS)
  (bR:FZg K "_law_is_name" Yu aT)
  (bS:FZg K "_law_size" J7 aU)
  (bT:FZg K "_law_depth" j0 aV)
  (bU:FZg K "_law_parts_right" Q2 aW)
  (bV:FZg K "_law_is_tree" Yp aX)
  (bW:FZg K "_law_next" J8 aY)
  (bX:FZg K "_law_held" J3 aZ)
  (bY:FZg K "_law_cut_or_glued" Q0 a0)
  (bZ:FZg K "_law_ask" XD a1)
  (b3:FZg K "_law_go" ZD a2)
  (b4:FZg K "_law_told" JY a3)
  (b5:FZg K "_law_run" XI a4)
  (b6:FZg K "_law_spoilt" jc a5)
  (b7:FZg K "_law_place" jN a6)
  (b8:FZg K "_law_drawn_rule" yl a7)
  (b9:FZg K "_law_refused" Yl a8)
  (ca:FZg K "law" s_law a9)
  (U:PySem.W.findIn K (.ref I) "rows"=some none)
  (Y:PySem.W.findIn K (.ref I) "rule"=some none)
  (ac:PySem.W.findIn K (.ref I) "own"=some none)
  (L:PySem.W.findIn K (.ref I) "boxes"=some none)
  (M:PySem.W.findIn K (.ref I) "place"=some none)
  (aa:PySem.W.findIn K (.ref I) "done"=some none)
  (O:PySem.W.findIn K (.ref I) "given"=some none)
  (R:PySem.W.findIn K (.ref I) "there"=some none)
  (g1:PySem.W.nsIn K mainGlobals "MOST_SIGNS"=some (some (.int 300 t1)))
  (g2:PySem.W.nsIn K mainGlobals "MOST_PARTS"=some (some (.int 40 t2)))
  (g3:PySem.W.nsIn K mainGlobals "MOST_SIZE"=some (some (.int 600 t3)))
  (g4:PySem.W.nsIn K mainGlobals "MOST_DEPTH"=some (some (.int 12 t4)))
  (g5:PySem.W.nsIn K mainGlobals "MOST_NAME_SIGNS"=some (some (.int 24 t5)))
  (g6:PySem.W.nsIn K mainGlobals "LETTERS"=some (some (.str "abcdefghijklmnopqrstuvwxyz" t6)))
  (g7:PySem.W.nsIn K mainGlobals "NAME_SIGNS"=some (some (.str "abcdefghijklmnopqrstuvwxyz0123456789./" t7)))
  (g8:PySem.W.nsIn K mainGlobals "PERCENT"=some (some (.int 37 t8)))
  (g9:PySem.W.nsIn K mainGlobals "MOST_LINES"=some (some (.int 40 t9)))
  (cb:PySem.W.nsIn K mainGlobals "MOST_DONE"=some (some (.int 300 bb)))
  (zz:∀x∈(["ord","len","isinstance","str","tuple","all","int","range","zip","dict","enumerate","abs","min","sum","max","ValueError","bool"]:List Str),PySem.W.nsIn K mainGlobals x=some none):∃a,Tx K mg a:=by
 obtain⟨d1,F1⟩:=Qi X G h1 ["value"] ()
 obtain⟨d2,F2⟩:=Qi X G h2 ["value"] ()
 obtain⟨d3,F3⟩:=Qi X G h3 ["value"] ()
 obtain⟨d4,F4⟩:=Qi X G h4 ["tree"] ()
 obtain⟨d5,F5⟩:=Qi X G h5 ["ask","answer"] ()
 obtain⟨d6,F6⟩:=Qi X G h6 ["kind","piece","count"] ()
 obtain⟨d7,F7⟩:=Qi X G h7 ["line","form"] ()
 obtain⟨d8,F8⟩:=Qi X G h8 ["line","count"] ()
 obtain⟨d9,F9⟩:=Qi X G h9 ["value"] ()
 obtain⟨cc,cd⟩:=Qi X G bc ["tree"] ()
 obtain⟨ce,cf⟩:=Qi X G bd ["boxes","own","parts"] ()
 obtain⟨cg,ch⟩:=Qi X G bf ["boxes","own","parts"] ()
 obtain⟨ci,cj⟩:=Qi X G bg ["boxes","own","parts"] ()
 obtain⟨ck,cm⟩:=Qi X G bh ["boxes","own","parts"] ()
 obtain⟨cn,cp⟩:=Qi X G bm ["boxes","own","parts"] ()
 obtain⟨cq,cr⟩:=Qi X G bo ["boxes","own","parts"] ()
 obtain⟨cs,cu⟩:=Qi X G bp ["boxes","own","parts"] ()
 obtain⟨cv,cw⟩:=Qi X G bq ["boxes","own","parts"] ()
 obtain⟨cx,cy⟩:=Qi X G bt ["boxes","own","parts"] ()
 obtain⟨cz,cA⟩:=Qi X G bu ["boxes","own","parts"] ()
 obtain⟨cB,cC⟩:=Qi X G bv ["boxes","own","parts"] ()
 obtain⟨cD,cE⟩:=Qi X G bw ["boxes","word","parts"] ()
 obtain⟨cF,cG⟩:=Qi X G bx ["word","held"] ()
 obtain⟨cH,cI⟩:=Zx af ["self","rule","own"] ()
 obtain⟨cJ,cK⟩:=Zx bA ["self"] ()
 obtain⟨cL,cM⟩:=Zx bB ["self","tree"] ()
 obtain⟨cN,cO⟩:=Zx bC ["self"] ()
 obtain⟨cP,cQ⟩:=Zx bD ["self"] ()
 obtain⟨cR,cS⟩:=Zx bE ["self"] ()
 obtain⟨cT,cU⟩:=Zx bF ["self"] ()
 obtain⟨cV,cW⟩:=Zx bG ["self","row"] ()
 obtain⟨cX,cY⟩:=Zx bH ["self","box","tree"] ()
 obtain⟨cZ,c0⟩:=Qi X G bI ["machine","asks"] ()
 obtain⟨c1,c2⟩:=Qi X G bJ ["rule","own","run"] ()
 obtain⟨c3,c4⟩:=Qi X G bK ["rule","own","run"] ()
 obtain⟨c5,c6⟩:=Qi X G bL ["cell","salt"] ()
 obtain⟨c7,c8⟩:=Qi X G bM ["pot","many"] ()
 obtain⟨c9,da⟩:=Qi X G bN ["pot","names"] ()
 obtain⟨dc,dd⟩:=Qi X G bO ["pot","names","many","k"] ()
 obtain⟨de,df⟩:=Qi X G bP ["pot","names"] ()
 obtain⟨dh,di⟩:=Qi X G bQ ["pot","names"] ()
 obtain⟨dj,dk⟩:=Qi X G bR ["value"] ()
 obtain⟨dl,dm⟩:=Qi X G bS ["tree"] ()
 obtain⟨dn,dq⟩:=Qi X G bT ["tree"] ()
 obtain⟨dr,dt⟩:=Qi X G bU ["value"] ()
 obtain⟨du,dv⟩:=Qi X G bV ["value"] ()
 obtain⟨dw,dy⟩:=Qi X G bW ["boxes","words","at"] ()
 obtain⟨dz,dA⟩:=Qi X G bX ["boxes","words","line","own"] ()
 obtain⟨dB,dC⟩:=Qi X G bY ["word","two","three"] ()
 obtain⟨dD,dE⟩:=Qi X G bZ ["boxes","words"] ()
 obtain⟨dF,dG⟩:=Qi X G b3 ["rule","own","answers"] ()
 obtain⟨dH,dI⟩:=Qi X G b4 ["pot","ask","names"] ()
 obtain⟨dJ,dL⟩:=Qi X G b5 ["pot","rule","own","names"] ()
 obtain⟨dM,dN⟩:=Qi X G b6 ["pot","run","names"] ()
 obtain⟨dO,dP⟩:=Qi X G b7 ["rule","own","run"] ()
 obtain⟨dQ,dR⟩:=Qi X G b8 ["pot","names"] ()
 obtain⟨dS,dU⟩:=Qi X G b9 ["rule","own"] ()
 obtain⟨dV,dW⟩:=Qi X G ca ["script"] ()
 have z:∀x∈(["ord","len","isinstance","str","tuple","all","int","range","zip","dict","enumerate","abs","min","sum","max","ValueError","bool"]:List Str),mg x=none:=fun x hx=>PySem.W.mg_none_of X G (zz x hx);simp only [uB,uD,vb,forall_eq_or_imp,forall_eq] at z;obtain⟨z1,z2,z3,z4,z5,z6,z7,z8,z9,dX,dY,dZ,d0,ea,eb,ec,ed⟩:=z;exact⟨⟨f1,d1,f2,d2,f3,d3,f4,d4,f5,d5,f6,d6,f7,d7,f8,d8,f9,d9,ag,cc,ah,ce,ak,cg,al,ci,am,ck,ao,cn,ap,cq,aq,cs,au,cv,av,cx,aw,cz,ax,cB,ay,cD,aA,cF,aB,cH,aC,cJ,aD,cL,aE,cN,aF,cP,aG,cR,aH,cT,aI,cV,aJ,cX,aK,cZ,aL,c1,aM,c3,aN,c5,aO,c7,aP,c9,aQ,dc,aR,de,aS,dh,aT,dj,aU,dl,aV,dn,aW,dr,aX,du,aY,dw,aZ,dz,a0,dB,a1,dD,a2,dF,a3,dH,a4,dJ,a5,dM,a6,dO,a7,dQ,a8,dS,a9,dV,I⟩,⟨F1,F2,F3,F4,F5,F6,F7,F8,F9,cd,cf,ch,cj,cm,cp,cr,cu,cw,cy,cA,cC,cE,cG,cI,cK,cM,cO,cQ,cS,cU,cW,cY,c0,c2,c4,c6,c8,da,dd,df,di,dk,dm,dq,dt,dv,dy,dA,dC,dE,dG,dI,dL,dN,dP,dR,dU,dW,ae,⟨ab.1,af.1,af.2.1,ab.2⟩,uI X G ad,U,Y,ac,L,M,aa,O,R,⟨_,uI X G g1⟩,⟨_,uI X G g2⟩,⟨_,uI X G g3⟩,⟨_,uI X G g4⟩,⟨_,uI X G g5⟩,⟨_,uI X G g6⟩,⟨_,uI X G g7⟩,⟨_,uI X G g8⟩,⟨_,uI X G g9⟩,⟨_,uI X G cb⟩,z1,z2,z3,z4,z5,z6,z7,z8,z9,dX,dY,dZ,d0,ea,eb,ec,ed⟩⟩
theorem mk1 {K:PySem.W.Frag}{h:Heap}{mg:Str->Option Value}(X:K.In h)(G:h.Ns mainGlobals mg){I f:Addr}{x y:Str}(z:∃m,PySem.W.nsIn K mainGlobals y=some (some (.ref m))/\PySem.W.nsIn K I x=some (some (.ref m)))(e:mg y=some (.ref f)):PySem.W.nsIn K I x=some (some (.ref f)):=by
 obtain⟨m,h1,h2⟩:=z;have:=(uI X G h1).symm.trans e;injection this with this
 injection this with this
 rw [<-this];exact h2
def MKP:List (Str×Str):= [("text","text_made"),("self","self_made"),("copy","copy_made"),("row","row_made"),("put","put_made"),("join","join_made"),("first","first_made"),("rest","rest_made"),("size","size_made"),("cut","cut_made"),("glue","glue_made")]
def keyS (e:DictEntry):Option Str:=match e.key with
 | .str x _=>some x
 |_=>none
theorem none_of {K:PySem.W.Frag}{a:Addr}{es:Array DictEntry}{n:Nat}(O:K.lookup a=some ⟨.type "dict",none,.dict es n,#[]⟩)(R:es.toList.map keyS=FRM.map fun x=>some x.1){z:Str}(U:jx z=none):PySem.W.nsIn K a z=some none:=by
 have h1:∀e∈es.toList,∃x t,e.key= .str x t/\x≠z:=by
  intro e L;have hm:keyS e∈es.toList.map keyS:=List.mem_map.mpr ⟨e,L,rfl⟩;rw [R] at hm;obtain⟨x,M,ex⟩:=List.mem_map.mp hm;have I:=XT U x M;unfold keyS at ex;split at ex
  ·rename_i y t Y
   cases ex;exact⟨_,_,Y,I⟩
  ·cases ex
 unfold PySem.W.nsIn;rw [O];dsimp only;have f1:es.toList.find? (fun e=>e.key.isStr z)=none:=by
  rw [UC];intro e L;obtain⟨x,t,M,I⟩:=h1 e L;rw [M];exact fun q=>I (ua q)
 have f2:es.toList.any (·.refKey)=false:=by
  rw [List.any_eq_false];intro e L;obtain⟨x,t,M,I⟩:=h1 e L;unfold DictEntry.refKey;rw [M];exact u8
 rw [f1,f2]
 rfl
theorem fx_mk {w:World}{K:PySem.W.Frag}{h:Heap}{mg:Str->Option Value}{a:Ad}(T:Tx K mg a)(X:K.In h)(G:h.Ns mainGlobals mg){aB aA aF Y I L R M aW xBadKeep xClash:Addr}{eF eM:Array DictEntry}{nF nM:Nat}
  (gB:PySem.W.nsIn K mainGlobals "BOXES"=some (some (.ref aB))) (gA:PySem.W.nsIn K mainGlobals "ASKING"=some (some (.ref aA))) (gF:PySem.W.nsIn K mainGlobals "FORMS"=some (some (.ref aF))) (gM:PySem.W.nsIn K mainGlobals "MAKERS"=some (some (.ref Y)))
  (lB:TZ K aB BX) (lA:TZ K aA ["ask","has","names"]) (lF:K.lookup aF=some ⟨.type "dict",none,.dict eF nF,#[]⟩) (lM:K.lookup Y=some ⟨.type "dict",none,.dict eM nM,#[]⟩)
  (kF:PySem.W.KeysLit w.params eF.toList) (kM:PySem.W.KeysLit w.params eM.toList) (zF:(aF==sysModules)=false) (zM:(Y==sysModules)=false)
  (fF:∀x∈FRM,TZn K aF x.1 (x.2.map Kd.t)) (fM:∀p∈MKP,∃m,PySem.W.nsIn K mainGlobals p.2=some (some (.ref m))/\PySem.W.nsIn K Y p.1=some (some (.ref m))) (oM:∀z∈NOMK,PySem.W.nsIn K Y z=some none)
  (kk:eF.toList.map keyS=FRM.map fun x=>some x.1)
  (g1:PySem.W.nsIn K mainGlobals "BadRule"=some (some (.ref I))) (b1:PySem.W.excIn K I VE "ValueError.__new__"=true) (e1:PySem.W.exmOne K (.ref I) (.ref aW)=some true) (x1:AwV.YR K I) (v1:PySem.W.kitOne K (.ref I) (.type "ValueError")=some true) (o1:PySem.W.kitAny K (.ref I) [.ref M,.ref xBadKeep,.ref xClash,.ref R]=some false)
  (g2:PySem.W.nsIn K mainGlobals "BadName"=some (some (.ref L))) (b2:PySem.W.excIn K L VE "ValueError.__new__"=true) (e2:PySem.W.exmOne K (.ref L) (.ref aW)=some true) (x2:AwV.YR K L) (v2:PySem.W.kitOne K (.ref L) (.type "ValueError")=some true) (o2:PySem.W.kitAny K (.ref L) [.ref M,.ref xBadKeep,.ref xClash,.ref R]=some false)
  (g3:PySem.W.nsIn K mainGlobals "NoAsk"=some (some (.ref R))) (b3:PySem.W.excIn K R VE "ValueError.__new__"=true)
  (g4:PySem.W.nsIn K mainGlobals "BadAnswer"=some (some (.ref M))) (b4:PySem.W.excIn K M VE "ValueError.__new__"=true)
  (eb:PySem.W.exmOne K (.ref M) (.ref M)=some true) (gW:PySem.W.nsIn K mainGlobals "WrightError"=some (some (.ref aW)))
  (O:PySem.W.nsIn K mainGlobals "BadKeep"=some (some (.ref xBadKeep)))
  (U:PySem.W.nsIn K mainGlobals "Clash"=some (some (.ref xClash)))
  (k12:PySem.W.kitOne K (.ref I) (.ref L)=some false)
  (k21:PySem.W.kitOne K (.ref L) (.ref I)=some false):∃g,Fx K w mg g a:=by
 refine⟨⟨aB,aA,aF,Y,I,L,R,M,aW,xBadKeep,xClash⟩,⟨uI X G gB,uI X G gA,uI X G gF,uI X G gM,fun H=>lB.sq (by decide),fun H=>lA.sq (by decide),⟨zF,eF,nF,lF,kF⟩,fun x hx=> ?_,⟨zM,eM,nM,lM,kM⟩,mk1 X G (fM ("text","text_made") (by decide+kernel)) T.g_text_made.m,mk1 X G (fM ("self","self_made") (by decide+kernel)) T.g_self_made.m,mk1 X G (fM ("copy","copy_made") (by decide+kernel)) T.g_copy_made.m,mk1 X G (fM ("row","row_made") (by decide+kernel)) T.g_row_made.m,mk1 X G (fM ("put","put_made") (by decide+kernel)) T.g_put_made.m,mk1 X G (fM ("join","join_made") (by decide+kernel)) T.g_join_made.m,mk1 X G (fM ("first","first_made") (by decide+kernel)) T.g_first_made.m,mk1 X G (fM ("rest","rest_made") (by decide+kernel)) T.g_rest_made.m,mk1 X G (fM ("size","size_made") (by decide+kernel)) T.g_size_made.m,mk1 X G (fM ("cut","cut_made") (by decide+kernel)) T.g_cut_made.m,mk1 X G (fM ("glue","glue_made") (by decide+kernel)) T.g_glue_made.m,oM,fun z hz=>none_of lF kk hz,uI X G g1,b1,uI X G g2,b2,uI X G g3,b3,uI X G g4,b4,eb,uI X G gW,uI X G O,uI X G U,(fun k=>match k with|0=>e1|1=>e2),(fun k=>match k with|0=>x1|1=>x2),(fun k=>match k with|0=>v1|1=>v2),(fun k=>match k with|0=>o1|1=>o2),(fun i j h=>match i,j,h with|0,0,h=>absurd rfl h|0,1,_=>k12|1,0,_=>k21|1,1,h=>absurd rfl h)⟩⟩
 obtain⟨q,h1,h2⟩:=fF x hx;exact⟨q,h1,fun H=>by rw [JQ];exact h2.sq (by rw [ub];exact uP (form_few x hx) (by decide))⟩
end K47
open PySem PySem.W PyProof.Rows L2
set_option maxRecDepth 100000 in
set_option maxHeartbeats 0 in
theorem PySem.Challenge.cw_askwright_k47_places_of_lies_holds : PySem.Challenge.rw_askwright_k47_places_of_lies.Holds := by
 w_on;o_law;k_head;(case hw=>w_witness2)
 k_fill
 refine L2.walk_ofB (l:=PySem.Challenge.rw_askwright_k47_places_of_lies) (n:=63) (k:=26) (x:="script") (CX:=L2.CX0) (sp:=K47.sp_law) rfl (by decide) rfl ⟨rfl,by decide,by decide⟩ (fun w h Y=>PySem.W.kIn_of Y) ?F ?S ?C
 case F=>
  intro w mg fa h KX G hmg
  have T:∃a,K47.Tx (L2.KOf KX) mg a:=by
   dsimp only [L2.KOf]
   refine' K47.tx_mk KX G ..
   all_goals first|exact⟨by k_is,_,_,_,_,_,_,_,_,_,by k_is,by k_is,by k_is⟩|exact⟨by k_is,by k_is,_,_,_,_,_,_,_,_,_,by k_is,by k_is,by k_is⟩|(show _=_;k_is)|exact⟨by k_is,by k_is,by k_is,by k_is⟩|exact⟨by k_is,by k_is⟩|(intro x hx;simp only [uB,uD,vb] at hx;rcases hx with rfl|rfl|rfl|rfl|rfl|rfl|rfl|rfl|rfl|rfl|rfl|rfl|rfl|rfl|rfl|rfl|rfl<;>k_is)|skip
  obtain⟨a,T⟩:=T
  have C:∃g,K47.Fx (L2.KOf KX) w mg g a:=by
   dsimp only [L2.KOf] at T⊢
   refine' K47.fx_mk T KX G (kF:= ?kF) (kM:= ?kM) (fF:= ?fF) (fM:= ?fM) (oM:= ?oM) (kk:= ?kk) (b1:= ?b1) (e1:= ?e1) (x1:= ?x1) (v1:= ?v1) (o1:= ?o1) (b2:= ?b2) (e2:= ?e2) (x2:= ?x2) (v2:= ?v2) (o2:= ?o2) (b3:= ?b3) (b4:= ?b4) (eb:= ?eb) (k12:= ?k12) (k21:= ?k21) ..
   all_goals try (first|(show _=some (some _);k_is)|(show _=some (Obj.mk _ _ _ _);k_is)|exact⟨_,_,_,_,by k_is,rfl⟩)
   (case kF=>(repeat (first|exact trivial|refine⟨⟨_,_,rfl,rfl⟩,?_⟩)));(case kM=>(repeat (first|exact trivial|refine⟨⟨_,_,rfl,rfl⟩,?_⟩)))
   case fF=>
    intro x hx
    unfold FRM at hx
    simp only [uB,uD,vb] at hx
    rcases hx with rfl|rfl|rfl|rfl|rfl|rfl|rfl|rfl|rfl|rfl|rfl|rfl|rfl|rfl|rfl|rfl|rfl|rfl|rfl|rfl<;>exact⟨_,by k_is,_,_,_,_,by k_is,rfl⟩
   case fM=>
    intro x hx
    unfold K47.MKP at hx
    simp only [uB,uD,vb] at hx
    rcases hx with rfl|rfl|rfl|rfl|rfl|rfl|rfl|rfl|rfl|rfl|rfl<;>exact⟨_,by k_is,by k_is⟩
   case oM=>
    intro x hx
    unfold K47.NOMK at hx
    simp only [uB,uD,vb] at hx
    rcases hx with rfl|rfl|rfl|rfl|rfl|rfl|rfl|rfl|rfl<;>k_is
   (case kk=>rfl);(case b1=>k_exc);(case e1=>kts_exm);(case x1=>exact⟨by k_is,by k_is,by k_is,by k_is,by k_is,by k_is,by k_is⟩);(case v1=>kit_is);(case o1=>kit_is);(case b2=>k_exc);(case e2=>kts_exm);(case x2=>exact⟨by k_is,by k_is,by k_is,by k_is,by k_is,by k_is,by k_is⟩);(case v2=>kit_is);(case o2=>kit_is);(case b3=>k_exc);(case b4=>k_exc);(case eb=>kts_exm);(case k12=>kit_is);(case k21=>kit_is)
   all_goals rfl
  obtain⟨g,C⟩:=C
  have e0:=hmg.symm.trans T.g_law.m
  cases e0
  exact⟨_,T.g_law.law (fun _ _ _ _ _ _ _=>rfl),(by obtain⟨_,_,_,_,_,_,_,_,_,e,_⟩:=T.g_law.F.ex;rw [e];rfl),fun base kb nb=>K47.ok_law T C⟩
 case S=>exact fun w H a ns hl hb hO hS=>⟨a,ns,rfl,hS,hl,hb,fun _=>rfl⟩
 case C=>exact fun _ _ _ _ z=>z
