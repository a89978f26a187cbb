import PyProof.Rows.All
import Wide.All
import OpenK.AllK
import Wide.FinOn
import Lean
import PyProof.EqAt
import PyProof.EqKinds
import PyProof.TupleCall
import PySem.Str
import PyProof.ZipIter
import PyProof.Draws
import PyProof.StrLawsChain
import PyProof.StrLawsTight
import KE.KIntText
import OpenK.KTop
import PyProof.StationsW
import PyProof.ExcClass2
import PyProof.ExcBaseAll.ValueError
import PyProof.Rows.Catch
import OpenK.KOwn
import KE.KTryMore
import KE.FramesApart
import PyProof.RulesAs
import PyProof.NsDelKeeps
import PyProof.ExcArgs
import PyProof.Rows.SortStr
import KE.KDictSum
import PyProof.DictWalks
import PyProof.IsiH_list
import KE.KDictOf
import PyProof.NeKinds
import PyProof.StrCalls6
import PyProof.FString
import KE.KUnpack
import KE.KItemsList
import KE.KRevIter
import KE.IntBitsLaws
import PyProof.FString5
import PySem.Challenge.RW_askwright_k12_replayed_and_done
namespace PySem.W.Fast
def tw5399449797641228508:=0
def tw335391674812738952:=0
def tw3861098031214070379:=0
def tw3840697484807872205:=0
def tw16313028687331973732:=0
def tw10106272167754263506:=0
def tw11211373948114425943:=0
def tw4064248251003986237:=0
def tw5563193981792808077:=0
def tw5621010516068959714:=0
def tw13637636367882538706:=0
def tw6030060373762232907:=0
def tw15959519178348105096:=0
def tw14574516692906007270:=0
def tw16706592280248694500:=0
def tw213384807669965161:=0
def tw18277502423695940907:=0
def tw3760030771408031701:=0
def tw14447973629264954530:=0
def tw17016284571585307066:=0
def tw10125135579656877712:=0
def tw6900738820371465867:=0
def tw8958890468058610693:=0
def tw3055715741822982173:=0
def tw5898374374050884290:=0
def tw6089620593084704389:=0
def tw3164043611588612913:=0
def tw6875424560032453602:=0
def tw3017788173409805076:=0
def tw17590377639952973338:=0
def tw17161263642250964718:=0
def tw2568185495220716529:=0
def tw9514008573642068697:=0
def tw3886493949257581202:=0
def tw16402263248573567143:=0
def tw13731812361252609717:=0
def tw17348306469987161033:=0
def tw15244365007597884567:=0
def tw1529374872040298665:=0
def tw4072591668978466733:=0
def tw4018974987759528109:=0
def tw11891202645852925752:=0
def tw15946842270444380898:=0
def tw10209689152386544401:=0
def tw5142513971634667184:=0
def tw15821681548384359262:=0
def tw14725795501840122833:=0
def tw10750354413162422595:=0
def tw2212715168633705023:=0
def tw12202617578684946415:=0
def tw7882010216445560491:=0
def tw6267763322620482310:=0
def tw10439225498393382135:=0
def tw11297129473339002044:=0
def tw13224496004659299986:=0
def tw2943411446080877461:=0
def tw829508623344249011:=0
def tw13630056740974786259:=0
def tw9938455652182937182:=0
def tw3453303132284357998:=0
def tw7722087968143994888:=0
def tw13844614792025904079:=0
def tw4507481061848899382:=0
def tw2424305731919637337:=0
def tw13521187816219785615:=0
def tw4940167998656801254:=0
def tw4328837899829980492:=0
def tw9702746189499790795:=0
def tw9253962783204271744:=0
def tw12649696715006575656:=0
def tw1568525490606008108:=0
def tw16985927435266313683:=0
def tw10323265325886466490:=0
def tw9412106891338609300:=0
def tw14209376825472950190:=0
def tw15771357187812786214:=0
def tw14591839546610496688:=0
def tw36913179410862083:=0
def tw8203317147232776434:=0
def tw12046714352723082650:=0
def tw760483281754455996:=0
def tw13323814746005857854:=0
def tw3298881831781014331:=0
def tw12026208306183864889:=0
def tw16993256886239740519:=0
def tw15776938375153372949:=0
def tw776600707837595892:=0
def tw763139102533743052:=0
def tw1537006797787237535:=0
def tw14959232768071351208:=0
def tw2255167002763083197:=0
def tw7793022010926812940:=0
def tw11778690940254642134:=0
def tw11134773286604909517:=0
def tw9740425357532287546:=0
def tw13066220478786759263:=0
def tw17647929601014939781:=0
def tw15203126203914321269:=0
def tw12927196532109793004:=0
def tw8971825351042962275:=0
def tw2518471985860997626:=0
def tw8742898095205765930:=0
def tw7433700646343245088:=0
def tw816670096376176398:=0
def tw6590745515945099665:=0
def tw8773058459081277386:=0
def tw17761412304399275869:=0
def tw8996390630045804281:=0
def tw2612123823894716970:=0
def tw7158005943542418093:=0
def tw6812184651309063315:=0
def tw12205947053978868363:=0
def tw15052779015178937905:=0
def tw173090263613970883:=0
def tw1787088559473039144:=0
def tw11019890496220684400:=0
def tw7259986439862969679:=0
def tw6999810458580833269:=0
def tw4541948316841323536:=0
def tw8978778398198140706:=0
def tw11547126386465929002:=0
def tw11575193888603952811:=0
def tw3924359524288841792:=0
def tw9855404580020280482:=0
def tw12981968348048370933:=0
def tw8324524539001764536:=0
def tw5873082507076940331:=0
def tw18404153281281648247:=0
def tw17517023732690090957:=0
def tw10024238562933268140:=0
def tw1614966707149043706:=0
def tw1726044851695447835:=0
def tw1862942104458190450:=0
def tw3620213568908798866:=0
def tw10879416727008943803:=0
def tw17795465663847246010:=0
def tw7454410644451916555:=0
def tw2016117179051709619:=0
def tw5333246095799302542:=0
def tw13881035008612249968:=0
def tw3895277187744815043:=0
def tw5199420675101206681:=0
def tw13943106409563069884:=0
def tw6690813818985117437:=0
def tw108448141536243003:=0
def tw16278100716227603741:=0
def tw2625224031277667781:=0
def tw15320129079258644516:=0
def tw16213771582534298382:=0
def tw1945349532722569597:=0
def tw5162862940140343175:=0
def tw14818905684784671543:=0
def tw7266995354370938902:=0
def tw15756056378155168482:=0
def tw5589702099816206181:=0
def tw15436879949272811620:=0
def tw24752022276053167:=0
def tw12448871124231444682:=0
def tw9204420236840867887:=0
def tw5107483688486342688:=0
def tw5382933349266826756:=0
def tw14597044549760630188:=0
def tw10502609158765705052:=0
def tw13199933576787865902:=0
def tw3698583908362713269:=0
def tw15729708539376814220:=0
def tw14034415809734045412:=0
def tw10496098039136123168:=0
def tw14109175627775169902:=0
def tw12577682090587972088:=0
def tw5162183869760587105:=0
def tw18294866421425584087:=0
def tw271574004319369243:=0
def tw9068645058406418356:=0
def tw14363742885770194283:=0
def tw16679237530955315316:=0
def tw1351708207462820779:=0
def tw9549928738074632497:=0
def tw4180869238666376326:=0
def tw2169809351981039034:=0
def tw15647867429290171781:=0
def tw12401871691974426854:=0
def tw8356379048399056713:=0
def tw18220684032607287769:=0
def tw13368743595533422205:=0
def tw4725397867613945965:=0
def tw7162294868718185563:=0
def tw7408141490536398452:=0
def tw248228440464476097:=0
def tw13835616689379239866:=0
def tw2767919767570188376:=0
def tw11207531381240873903:=0
def tw6583142317098613873:=0
def tw765106644691099939:=0
def tw13539584850080648335:=0
def tw11185740018203543787:=0
def tw15430128072794161295:=0
def tw14190772117993124220:=0
def tw17858236214002994097:=0
def tw15456241965359215409:=0
def tw15392059290746525477:=0
def tw8103127878153874028:=0
def tw11468128151980917775:=0
def tw12346260978576549456:=0
def tw16286434772049120174:=0
def tw3381434244432743629:=0
def tw15898494288247234440:=0
def tw1367416874494252636:=0
def tw10135883006592705594:=0
def tw17186892404558526614:=0
def tw13347497829076859293:=0
def tw5735119761054454184:=0
def tw5738012989248356648:=0
def tw16720091914341016128:=0
def tw12240496315464727028:=0
def tw9301216752334397545:=0
def tw396237100100509854:=0
def tw12779860988856240498:=0
def tw10569400794582511740:=0
def tw5887421582462002175:=0
def tw17515405942864252563:=0
def tw14113458044823283893:=0
def tw13134529644678130369:=0
def tw3020156542550648854:=0
def tw2771118023931443176:=0
def tw11652899801692791771:=0
def tw5681578975327820869:=0
def tw1853486595847509198:=0
def tw4049226508861637533:=0
def tw16258363790412639869:=0
def tw3117127554968696299:=0
def tw16216577101359392362:=0
def tw13797841690427367614:=0
def tw13673481909704724816:=0
def tw10536744316846424164:=0
def tw8390291878570253939:=0
def tw4036983366818037332:=0
def tw15022596139825948284:=0
def tw11638385720110730600:=0
def tw7922803738077961575:=0
def tw9906388755740673094:=0
def tw6519908929168479703:=0
def tw3240262269914239007:=0
def tw3032500708911481280:=0
def tw10802815036410718383:=0
def tw3920495606778520446:=0
def tw575856344721877373:=0
def tw16837686383327436357:=0
def tw17650327337501679490:=0
def tw8753380200569691540:=0
def tw956033871866699776:=0
def tw1821472799864047014:=0
def tw2608017343551605771:=0
def tw8474682660773398045:=0
def tw12038723100583969352:=0
def tw10318711210485010944:=0
def tw12571688734003138549:=0
def tw14945324291543752702:=0
def tw6060219978264943658:=0
def tw7277345223654626501:=0
def tw5457216068987563434:=0
def tw2917718399882923650:=0
def tw15868365331037217078:=0
def tw2553159119223164623:=0
def tw10794353974260454705:=0
def tw8886778705394060693:=0
def tw2231896266177545210:=0
def tw6979109164278588806:=0
def tw5744459412993456732:=0
def tw12871076490561086159:=0
def tw6423451941803132996:=0
def tw1611209660355027303:=0
def tw13148272036244871333:=0
def tw3349935384632284735:=0
def tw15692774267101891347:=0
def tw8445011642734731028:=0
def tw1910812607242290542:=0
def tw4680997902548304301:=0
def tw7371311498660770715:=0
def tw15673254617701797505:=0
def tw7484159272278144967:=0
def tw9904391934615345702:=0
def tw18143804816371344797:=0
def tw17491274659474696316:=0
def tw12738370316534076948:=0
def tw1014363495807534579:=0
def tw16548372836643664492:=0
def tw15150171058725452083:=0
def tw1067825252966556074:=0
def tw14934089206880704775:=0
def tw3477680739317361100:=0
def tw6973428379745065080:=0
def tw983970805857448095:=0
def tw6547954179912104229:=0
def tw455728864444690521:=0
def tw556095237296247536:=0
def tw8704905249637683334:=0
def tw1714234949512073928:=0
def tw7967671499958851395:=0
def tw10542969004978373066:=0
def tw11856326587544000221:=0
def tw9102750181184553120:=0
def tw17218784245575319813:=0
def tw16096178730772342743:=0
def tw12813899750122956971:=0
def tw10206291931961910135:=0
def tw11169929338490468911:=0
def tw5748732401648791750:=0
def tw11351861411291596093:=0
def tw14621506212460902856:=0
def tw7464832073506347819:=0
def tw7767328585146713445:=0
def tw2073774499206512040:=0
def tw11534161782987141304:=0
def tw9207567087613124728:=0
def tw17741080591576578443:=0
def tw14720155192758544021:=0
def tw15200005760666275052:=0
def tw4058637278003170184:=0
def tw7796804597516095314:=0
def tw922069981210562073:=0
def tw12404202889646143343:=0
def tw14199355413749192792:=0
def tw4651649708754514867:=0
def tw11243880086259676169:=0
def tw3574952082318913307:=0
def tw2571837495766186170:=0
def tw3552410930507069790:=0
def tw9752890529644634774:=0
def tw15176903911095089933:=0
def tw12412356526749535092:=0
def tw8905582914910418274:=0
def tw17311089663434312487:=0
def tw3936812308165857197:=0
def tw543458374942732611:=0
def tw10797287297819468808:=0
def tw3551669626842217452:=0
def tw15180059777626783276:=0
def tw10370470850161316643:=0
def tw2944493046856926971:=0
def tw15650446329879322304:=0
def tw16701106340419787966:=0
def tw10654892991852878573:=0
def tw890511290609725955:=0
def tw10673172410654264572:=0
def tw12519370807412019676:=0
def tw9205260793416030198:=0
def tw7917987081826912478:=0
end PySem.W.Fast
local macro_rules | `(tactic| trivial) => `(tactic| first | rfl | exact .inl rfl | exact .inr rfl | exact .inr (.inl rfl) | decide +kernel | (intro _; rfl) | omega | exact ⟨rfl,rfl,rfl,by decide +kernel,rfl,by decide +kernel,by decide +kernel⟩ | (intro _ _ _ _ _ _ us hl; rcases us with _|⟨_,_|⟨_,_|⟨_,_|⟨_,_|⟨_,_|⟨_,_⟩⟩⟩⟩⟩⟩ <;> first | rfl | cases hl) | (intro _ _ _ _ h; repeat' first | (obtain ⟨e,_⟩ := h; subst e; rfl) | (obtain ⟨_,h⟩ := h)))
local macro_rules | `(()) => `(by trivial)
set_option compiler.extract_closed false
noncomputable section
set_option Elab.async false
set_option linter.all false
set_option maxRecDepth 100000
set_option maxHeartbeats 4000000
def u7:=@decide_eq_true
def ua:=@Bool.false_ne_true
def ub:=@PySem.Heap.get?_push_of_some
def uc:=@decide_eq_false
def ud:=@of_decide_eq_true
def ue:=@List.size_toArray
def uf:=@List.length_map
def ug:=@List.length_append
def uh:=@List.length_cons
def ui:=@Nat.le_refl
def uj:=@PySem.wpAny_pure
def uk:=@List.map_cons
def ul:=@List.getElem?_eq_getElem
def um:=@Bool.and_eq_true
def uo:=@PySem.Heap.lt_size
def uq:=@List.mem_cons_of_mem
def uv:=@PySem.boot_len
def uw:=@PySem.Heap.get?_push_size
def uz:=@PyProof.Rows.boot_isinstance
def uA:=@List.mem_cons
def uB:=@decide_eq_decide
def uC:=@List.eq_nil_of_length_eq_zero
def uD:=@Nat.zero_le
def uE:=@List.mem_cons_self
def uF:=@List.map_append
def uG:=@List.mem_nil_iff
def uH:=@PySem.F.plainAttrs_str
def uI:=@List.getElem?_map
def uJ:=@PySem.Around.in1_units
def uK:=@Nat.le_trans
def uL:=@PySem.sizeLine_eq
def uM:=@Nat.ne_of_lt
def uN:=@List.map_map
def uO:=@PySem.W.mg_of
def uP:=@List.length_take
def uQ:=@List.length_drop
def uR:=@Option.some.inj
def uS:=@List.mem_append_right
def uT:=@List.mem_of_getElem?
def uU:=@PySem.wpAny_with_toks
def uV:=@PySem.wpAny_field
def uW:=@List.length_nil
def uX:=@PySem.PassesOwn.never
def uY:=@PyProof.Rows.boot_tuple
def uZ:=@List.getElem?_append_right
def v4:=@PySem.wpAny_callSpecial?_slot
def v6:=@List.lookup_cons
def v7:=@List.not_mem_nil
def v9:=@or_false
def vb:=@PySem.wpAny_truthy_bool
def vc:=@PySem.Heap.size_push
def vd:=@List.drop_eq_getElem_cons
def vf:=@List.take_of_length_le
def vg:=@PySem.wpAny_setField_rec
def vh:=@PySem.call_meets
def vi:=@List.map_nil
def vj:=@PySem.wpAny_mono
def vk:=@Bool.and_true
def vm:=@PySem.F.plainAttrs_list
def vn:=@PySem.W.kia_one
def vo:=@List.getElem?_append_left
def vp:=@Bool.true_and
def vq:=@List.sum_cons
def vr:=@Array.length_toList
def vt:=@PySem.wpAny_newObj_type
def vv:=@PySem.F.entry_str_split
def vw:=@PyProof.Rows.boot_str
def vx:=@PyProof.Rows.callWith_type1
def vy:=@List.all_cons
def vA:=@List.mem_singleton
def vB:=@PySem.F.slot_str_split
def vC:=@PySem.F.slot_str_split
def vD:=@PySem.F.type_str_split
def vE:=@PySem.mem_of_lookup
def vF:=@PyProof.Rows.slot_tuple_getitem
def vG:=@Bool.eq_iff_iff
def vH:=@List.all_map
def vI:=@Array.eq_empty_of_size_eq_zero
def vJ:=@PySem.F.slot_str_join
def vK:=@PySem.F.type_str_join
def vL:=@PySem.typeIs_str
def vM:=@PySem.wpAny_call_entry
def vN:=@List.getElem_mem
def vO:=@List.take_append_of_le_length
def vP:=@Nat.lt_irrefl
def vQ:=@List.append_nil
def vR:=@PySem.wpAny_loadPart'
def vS:=@PySem.F.slot_tuple_iterator_next
def vT:=@Array.append_assoc
def vU:=@PySem.wpAny_pyIter_tuple
def vV:=@Nat.lt_of_le_of_lt
def vW:=@PySem.F.args_str_split_2
def vX:=@List.eq_nil_or_concat
def vY:=@List.concat_eq_append
def vZ:=@Nat.eq_zero_or_pos
def U0:=@Bool.false_and
def U1:=@PySem.wpAny_passesOwn
def U2:=@List.find?_cons
def U3:=@List.take_add_one
def U4:=@PySem.SeqAt.RcAt.tuples
def U5:=@PySem.F.slot_list_append
def U6:=@PySem.F.type_list_append
def U7:=@Nat.ne_of_gt
def U8:=@List.replicate_succ
def U9:=@List.cons_append
def Ua:=@List.take_length
def Ub:=@PySem.wpAny_seqItems
def Uc:=@List.drop_zero
def Ud:=@List.drop_of_length_le
def Ue:=@PySem.wpAny_Call_Name_kw
def Uf:=@PySem.W.callWith_K
def Ug:=@Bool.false_eq_true
def Uh:=@Int.emod_lt_of_pos
def Ui:=@PySem.wpAny_execs_nil
def Uj:=@PySem.W.methodCall_KW
def Uk:=@List.length_replicate
def Ul:=@List.forIn_cons
def Um:=@PySem.SeqAt.EqAt.same
def Uo:=@PySem.F.slot_enumerate_next
def Up:=@PySem.F.slot_int_rmul
def Uq:=@Ne.symm
def Ur:=@List.mem_of_mem_take
def Us:=@PySem.wpAny_binaryOp_repeat_ref
def Ut:=@PySem.wpAny_isInstance
def Uu:=@Nat.le_add_right
def Uv:=@Nat.log2_le_self
def Uw:=@List.filterMap_cons
def Ux:=@PySem.codeAny_mono
def Uy:=@PySem.F.args_tuple_add_2
def Uz:=@PySem.wpAny_rule
def UA:=@List.sum_nil
def UB:=@PySem.SeqAt.EqAt.int_str
def UC:=@PySem.SeqAt.EqAt.str_int
def UD:=@PySem.F.entry_tuple_add
def UE:=@PySem.SeqAt.EqAt.int_int
def UF:=@PySem.SeqAt.EqAt.str_str
def UG:=@PySem.wpAny_attempt
def UH:=@Int.emod_nonneg
def UI:=@List.flatten_cons
def UJ:=@List.any_cons
def UK:=@PySem.typeIs_int
def UL:=@if_true
namespace L2
open PySem PySem.Spec PyProof.Rows
abbrev Key:=Sum Int Str
def keyIs:Key->Value->Bool
 | .inl k,v=>Value.isInt k v
 | .inr x,v=>Value.isStrOf x v
def keyH (w:World):Key->Int
 | .inl k=>hashInt k
 | .inr x=>hashStr w x
theorem QB:∀{k:Key}{v:Value},keyIs k v=true->(∃i t,k=Sum.inl i/\v=Value.int i t)∨(∃x t,k=Sum.inr x/\v=Value.str x t)
 | .inl i,v,h=>by
  obtain⟨t,e⟩:=Value.isInt_shape (k:=i) (v:=v) h;exact .inl ⟨i,t,rfl,e⟩
 | .inr x,v,h=>by
  obtain⟨t,e⟩:=Value.isStrOf_shape (x:=x) (v:=v) h;exact .inr ⟨x,t,rfl,e⟩
theorem keyIs_int (i:Int)(t:Tok):keyIs (.inl i) (.int i t)=true:=by simp [keyIs,Value.isInt]
theorem keyIs_str (x:Str)(t:Tok):keyIs (.inr x) (.str x t)=true:=by simp [keyIs,Value.isStrOf]
theorem key_ll (a b:Int):decide ((Sum.inl a:Key)=Sum.inl b)=(a==b):=by
 by_cases e:a=b
 ·subst e;simp
 ·have h:¬(Sum.inl a:Key)=Sum.inl b:=fun q=>e (Sum.inl.inj q);rw [uc h];exact(beq_eq_false_iff_ne.mpr e).symm
theorem key_rr (a b:Str):decide ((Sum.inr a:Key)=Sum.inr b)=decide (a=b):=by
 by_cases e:a=b
 ·subst e;simp
 ·have h:¬(Sum.inr a:Key)=Sum.inr b:=fun q=>e (Sum.inr.inj q);rw [uc h,uc e]
theorem key_lr (a:Int)(b:Str):decide ((Sum.inl a:Key)=Sum.inr b)=false:=uc (fun q=>nomatch q)
theorem key_rl (a:Str)(b:Int):decide ((Sum.inr a:Key)=Sum.inl b)=false:=uc (fun q=>nomatch q)
def Qu (prog:Program)(w:World):PySem.KeyKind prog w Key where
 is:=keyIs
 hash:=keyH w
 inj:=fun v a b ha hb=>by
  rcases QB ha with⟨i,t,rfl,rfl⟩|⟨x,t,rfl,rfl⟩
  ·rcases QB hb with⟨j,u,rfl,e⟩|⟨y,u,rfl,e⟩
   ·injection e with e1 _;rw [e1]
   ·exact nomatch e
  ·rcases QB hb with⟨j,u,rfl,e⟩|⟨y,u,rfl,e⟩
   ·exact nomatch e
   ·injection e with e1 _;rw [e1]
 byValue:=fun k v h=>by
  rcases QB h with⟨i,t,rfl,rfl⟩|⟨x,t,rfl,rfl⟩<;>rfl
 pyHash:=fun hv h=>by
  rcases QB hv with⟨i,t,rfl,rfl⟩|⟨x,t,rfl,rfl⟩
  ·exact wpAny_pyHash_int h
  ·exact wpAny_pyHash_str h
 eqBool:=fun hu hv h=>by
  rcases QB hu with⟨i,t,rfl,rfl⟩|⟨x,t,rfl,rfl⟩
  ·rcases QB hv with⟨j,u,rfl,rfl⟩|⟨y,u,rfl,rfl⟩
   ·rw [key_ll] at h;exact wpAny_eqBool_int h
   ·rw [key_lr] at h;exact UB i t y u _ _ _ _ h
  ·rcases QB hv with⟨j,u,rfl,rfl⟩|⟨y,u,rfl,rfl⟩
   ·rw [key_rl] at h;exact UC x t j u _ _ _ _ h
   ·rw [key_rr] at h;exact wpAny_eqBool_str h
 «strs»:=fun k x t v h=>by
  rcases QB h with⟨i,u,rfl,e⟩|⟨y,u,rfl,e⟩
  ·exact nomatch e
  ·injection e with e1 _
   subst e1
   cases v<;>rfl
theorem mixKind_int (prog:Program)(w:World)(i:Int)(t:Tok):(Qu prog w).is (.inl i) (.int i t)=true:=keyIs_int i t
theorem XF (prog:Program)(w:World)(x:Str)(t:Tok):(Qu prog w).is (.inr x) (.str x t)=true:=keyIs_str x t
inductive V where
 |non|bl (b:Bool)|int (i:Int)|str (x:Str)|byt (b:Array UInt8)|flt (b:UInt64)|ref (a:Addr)|ty (n:String)
 deriving DecidableEq
def RelV:V->Value->Prop
 | .non,u=>u=Value.none
 | .bl b,u=>u=Value.bool b
 | .int i,u=>∃t,u=Value.int i t
 | .str x,u=>∃t,u=Value.str x t
 | .byt b,u=>∃t,u=Value.bytes b t
 | .flt b,u=>∃t,u=Value.float b t
 | .ref a,u=>u=Value.ref a
 | .ty n,u=>u=Value.type n
abbrev Vals:List V->List Value->Prop:=Paired RelV
theorem Vals.length {xs:List V}{us:List Value}(r:Vals xs us):xs.length=us.length:=Paired.length r
theorem Vals.get:∀{xs:List V}{us:List Value}{i:Nat}{x:V},Vals xs us->xs[i]? =some x->∃u,us[i]? =some u/\RelV x u
 |_,_,_,_,.nil,e=>by simp at e
 |_,_,0,_,.cons r _,e=>by simp at e;subst e;exact⟨_,rfl,r⟩
 |_,_,i+1,x,.cons _ t,e=>by
  obtain⟨u,h1,h2⟩:=Vals.get (i:=i) (x:=x) t (by simpa using e)
  exact⟨u,by simpa using h1,h2⟩
theorem Vals.set {x:V}{u:Value}(r:RelV x u):∀{xs:List V}{us:List Value} (i:Nat),Vals xs us->Vals (xs.set i x) (us.set i u)
 |_,_,_,.nil=> .nil
 |_,_,0,.cons _ t=> .cons r t
 |_,_,i+1,.cons q t=> .cons q (Vals.set r i t)
theorem Vals.append:∀{xs ys:List V}{us ws:List Value},Vals xs us->Vals ys ws->Vals (xs++ys) (us++ws)
 |_,_,_,_,.nil,s=>s
 |_,_,_,_,.cons r t,s=> .cons r (Vals.append t s)
theorem Vals.take:∀{xs:List V}{us:List Value} (n:Nat),Vals xs us->Vals (xs.take n) (us.take n)
 |_,_,0,_=> .nil
 |_,_,_+1,.nil=> .nil
 |_,_,n+1,.cons r t=> .cons r (Vals.take n t)
theorem Vals.drop:∀{xs:List V}{us:List Value} (n:Nat),Vals xs us->Vals (xs.drop n) (us.drop n)
 |_,_,0,r=>r
 |_,_,_+1,.nil=> .nil
 |_,_,n+1,.cons _ t=>Vals.drop n t
def RelO:Option V->Option Value->Prop
 |some v,some u=>RelV v u
 |none,none=>True
 |_,_=>False
def KV {κ:Type}:List (κ×V)->List (κ×Value)->Prop:=Paired fun(p:κ×V) (q:κ×Value)=>p.1=q.1/\RelV p.2 q.2
def kV:Key->V
 | .inl i=> .int i
 | .inr x=> .str x
inductive HO where
 |lst (xs:List V)
 |tup (xs:List V)
 |dK (kvs:List (Key×V))|dT (kvs:List (List Key×V))
 |set (S:Int->Bool) (n:Nat)
 |ins (C dx:Addr) (fs:List (Str×V))
 |own (x:Addr)
 |xd (fs:List (Str×V))
 |met (f x:Addr)
 |rng (lo hi:Int)
 |frz (o:Obj) (u:HO)
 |tbl (ps:Array Value)
 |ext (φ:Heap->Prop)
abbrev Hp:=Addr->Option HO
def upd (H:Hp)(a:Addr)(o:HO):Hp:=fun b=>if b=a then some o else H b
theorem qg {H:Hp}{a:Addr}{o:HO}:upd H a o a=some o:=by unfold upd;rw [if_pos rfl]
theorem qy {H:Hp}{a b:Addr}{o:HO}(h:b≠a):upd H a o b=H b:=by unfold upd;rw [if_neg h]
theorem ne_of {H:Hp}{a b:Addr}{o u:HO}(h:H a=some o)(h':H b=some u)(d:o≠u):a≠b:=by
 intro e;subst e;rw [h] at h';exact d (uR h')
theorem qr {H:Hp}{a b:Addr}{o:HO}(h:H a=some o)(h':H b=none):a≠b:=by
 intro e;subst e;rw [h] at h';cases h'
section
variable (P:Program)(w:World)
def Q2 (H:Hp)(h:Heap)(a:Addr):HO->Prop
 | .lst xs=>xs.length<=sizeLine/\∃(its:List Value) (n:Nat),Vals xs its/\h.get? a=some {cls:= .type "list",data:= .seq its.toArray n}
 | .tup xs=>xs.length<=sizeLine/\∃its:List Value,Vals xs its/\IsTup h a its.toArray
 | .dK kvs=>kvs.length<=sizeLine/\(a==sysModules)=false/\∃vs,KV kvs vs/\h.DictOf (Qu P w) a vs
 | .dT kvs=>kvs.length<=sizeLine/\(a==sysModules)=false/\∃xs:List (List Key×Addr×Value),
   Paired (fun(p:List Key×V) (q:List Key×Addr×Value)=>p.1=q.1/\H q.2.1=some (.tup (p.1.map kV))/\RelV p.2 q.2.2) kvs xs/\
   ∃o es ep,h.get? a=some o/\o.ExactDict/\o.data= .dict es ep/\es.toList=xs.map (entryOfKey (tupleKind (Qu P w)))/\(xs.map (·.1)).Nodup
 | .set S n=>h.SetOf (intKind P w) a S n
 | .ins C dx fs=>H dx=some (.own a)/\fs.length<=1000/\dx≠a/\h.get? a=some (PySem.W.instObj C dx)/\
   ∃mA,h.Ns1 dx mA/\(∀f,RelO (fs.lookup f) (mA f))/\PySem.Within mA (fs.map (·.1))
 | .own _=>∃o,h.get? a=some o
 | .xd fs=>∃mA,h.Ns1 a mA/\∀f,RelO (fs.lookup f) (mA f)
 | .rng lo hi=>∃t u v,h.get? a=some {cls:= .type "range",data:= .fields #[.int lo t,.int hi u,.int 1 v]}
 | .frz o u=>h.get? a=some o/\Q2 H h a u
 | .tbl ps=>h.get? a=some {cls:= .none,data:= .fields ps}
 | .met f x=>h.get? a=some (PySem.W.methodObj (.ref f) (.ref x))
 | .ext φ=>φ h/\(∃o,h.get? a=some o)/\∀h1 h2:Heap,φ h1->(∀o,h1.get? a=some o->h2.get? a=some o)->φ h2
def HOk (H:Hp)(h:Heap):Prop:=∀a o,H a=some o->Q2 P w H h a o
end
section
variable {P:Program}{w:World}{H H':Hp}{h h':Heap}{a:Addr}{o:HO}
theorem Q2.lt (x:Q2 P w H h a o):a<h.objs.size:=by
 cases o with
 |lst xs=>obtain⟨_,_,_,_,e⟩:=x;exact uo e
 |tup xs=>obtain⟨_,_,_,p⟩:=x;exact p.lt
 |dK kvs=>obtain⟨_,_,_,_,o,_,_,e,_⟩:=x;exact uo e
 |dT kvs=>obtain⟨_,_,_,_,o,_,_,e,_⟩:=x;exact uo e
 |set S n=>obtain⟨o,_,_,_,e,_⟩:=x;exact uo e
 |ins C dx fs=>obtain⟨_,_,_,e,_⟩:=x;exact uo e
 |own y=>obtain⟨_,e⟩:=x;exact uo e
 |xd fs=>obtain⟨_,⟨_,_,_,e,_⟩,_⟩:=x;exact uo e
 |rng lo hi=>obtain⟨_,_,_,e⟩:=x;exact uo e
 |frz I u=>obtain⟨e,_⟩:=x;exact uo e
 |tbl ps=>exact uo (show h.get? a=some _ from x)
 |met f y=>exact uo (show h.get? a=some _ from x)
 |ext φ=>obtain⟨_,⟨_,e⟩,_⟩:=x;exact uo e
theorem Paired.mapP {α β:Type}{F G:α->β->Prop}:∀{I:List α}{L:List β},Paired F I L->(∀a b,F a b->G a b)->Paired G I L
 |_,_,.nil,_=> .nil
 |_,_,.cons r t,f=> .cons (f _ _ r) (Paired.mapP t f)
theorem Q2.stay (x:Q2 P w H h a o)(k:∀b u,(b=a∨H b=some (.own a))->h.get? b=some u->h'.get? b=some u)
  (M:∀b,H b=some (.own a)->H' b=some (.own a)) (O:∀b xs,H b=some (.tup xs)->H' b=some (.tup xs)):Q2 P w H' h' a o:=by
 induction o with
 |lst xs=>obtain⟨z,its,n,r,e⟩:=x;exact⟨z,its,n,r,k _ _ (.inl rfl) e⟩
 |tup xs=>obtain⟨z,its,r,I,e,c⟩:=x;exact⟨z,its,r,I,k _ _ (.inl rfl) e,c⟩
 |dK kvs=>obtain⟨z,y,vs,r,I,es,L,e,c⟩:=x;exact⟨z,y,vs,r,I,es,L,k _ _ (.inl rfl) e,c⟩
 |dT kvs=>
  obtain⟨z,y,xs,r,I,es,L,e,c⟩:=x;exact⟨z,y,xs,Paired.mapP r fun p q z=>⟨z.1,O _ _ z.2.1,z.2.2⟩,I,es,L,k _ _ (.inl rfl) e,c⟩
 |set S n=>obtain⟨I,es,L,t,e,c⟩:=x;exact⟨I,es,L,t,k _ _ (.inl rfl) e,c⟩
 |ins C dx fs=>
  obtain⟨d,z,ne,e,mA,⟨od,es,L,R,c⟩,r⟩:=x;exact⟨M _ d,z,ne,k _ _ (.inl rfl) e,mA,⟨od,es,L,k _ _ (.inr d) R,c⟩,r⟩
 |own y=>obtain⟨I,e⟩:=x;exact⟨I,k _ _ (.inl rfl) e⟩
 |xd fs=>obtain⟨mA,⟨od,es,L,e,c⟩,r⟩:=x;exact⟨mA,⟨od,es,L,k _ _ (.inl rfl) e,c⟩,r⟩
 |rng lo hi=>obtain⟨t,u,v,e⟩:=x;exact⟨t,u,v,k _ _ (.inl rfl) e⟩
 |frz I u U=>obtain⟨e,q⟩:=x;exact⟨k _ _ (.inl rfl) e,U q⟩
 |tbl ps=>
  have e:h.get? a=some {cls:= .none,data:= .fields ps}:=x;show h'.get? a=some {cls:= .none,data:= .fields ps};exact k a _ (.inl rfl) e
 |met f y=>
  have e:h.get? a=some (PySem.W.methodObj (.ref f) (.ref y)):=x;show h'.get? a=some (PySem.W.methodObj (.ref f) (.ref y));exact k a _ (.inl rfl) e
 |ext φ=>obtain⟨p,⟨o,e⟩,st⟩:=x;exact⟨st _ _ p fun o q=>k _ _ (.inl rfl) q,⟨o,k _ _ (.inl rfl) e⟩,st⟩
theorem HOk.lt (x:HOk P w H h)(e:H a=some o):a<h.objs.size:=(x a o e).lt
theorem HOk.fresh (x:HOk P w H h)(e:h.objs.size<=a):H a=none:=by
 cases q:H a with
 |none=>rfl
 |some u=>exact absurd (Nat.lt_of_lt_of_le (x.lt q) e) (vP _)
theorem HOk.kept (x:HOk P w H h)(k:∀b u,h.get? b=some u->h'.get? b=some u):HOk P w H h':=fun a o e=>
 (x a o e).stay (fun b u _ q=>k b u q) (fun _ q=>q) fun _ _ q=>q
theorem HOk.laid (x:HOk P w H h)(k:∀b u,h.get? b=some u->h'.get? b=some u)(L:h.objs.size<=a)(new:Q2 P w (upd H a o) h' a o):HOk P w (upd H a o) h':=fun b u e=>by
 have hn:=x.fresh L;by_cases I:b=a
 ·subst I;rw [qg] at e;cases e;exact new
 ·rw [qy I] at e;exact(x b u e).stay (fun c v _ q=>k c v q) (fun c q=>by rw [qy (qr q hn)];exact q) fun c xs q=>by rw [qy (qr q hn)];exact q
end
def Rd (H:Hp)(a:Addr)(u:HO):Prop:=H a=some u∨∃o,H a=some (.frz o u)
theorem Rd.of {H:Hp}{a:Addr}{u:HO}(h:H a=some u):Rd H a u:= .inl h
theorem Rd.ok {P:Program}{w:World}{H:Hp}{h:Heap}{a:Addr}{u:HO}(r:Rd H a u)(x:HOk P w H h):Q2 P w H h a u:=by
 rcases r with r|⟨o,r⟩
 ·exact x a u r
 ·obtain⟨_,q⟩:=x a _ r;exact q
def Mut:Option HO->Prop
 |some (.lst _)=>True
 |some (.dK _)=>True
 |some (.dT _)=>True
 |some (.set _ _)=>True
 |some (.ins _ _ _)=>True
 |some (.ext _)=>True
 |_=>False
section
variable {P:Program}{w:World}{H:Hp}{h h':Heap}{x e:Addr}{o':HO}
theorem HOk.write (ok:HOk P w H h)(O:Mut (H x))(Z:e=x∨H e=some (.own x))(k:∀b u,b≠e->h.get? b=some u->h'.get? b=some u)(Y:∃u,h'.get? e=some u)
  (new:Q2 P w (upd H x o') h' x o'):HOk P w (upd H x o') h':=fun b u q=>by
 have L:∀c y,H c=some (.own y)->c≠x:=fun c y r z=>by subst z;rw [r] at O;exact O
 have M:∀c xs,H c=some (.tup xs)->c≠x:=fun c xs r z=>by subst z;rw [r] at O;exact O
 by_cases R:b=x
 ·subst R;rw [qg] at q;cases q;exact new
 ·rw [qy R] at q;by_cases I:b=e
  ·have q':H b=some (.own x):=by
    rcases Z with z|z
    ·exact absurd (I.trans z) R
    ·rw [I];exact z
   rw [q] at q';cases q';obtain⟨v,hv⟩:=Y;exact⟨v,by rw [I];exact hv⟩
  ·refine(ok b u q).stay (fun c v U r=>k c v ?_ r) (fun c r=>by rw [qy (L c b r)];exact r) fun c xs r=>by rw [qy (M c xs r)];exact r
   rcases U with rfl|U
   ·exact I
   ·rintro rfl;rcases Z with z|z
    ·exact L c b U z
    ·rw [U] at z;cases z;exact R rfl
end
structure Un (fs ex:List Addr)(H H':Hp)(h h':Heap):Prop where
 keep:∀b o,h.get? b=some o->H b=none->b∉fs->b∉ex->h'.get? b=some o
 slot:∀b o,h.get? b=some o->H b=none->b∈fs->b∉ex->∃sl,h'.get? b=some {o with slots:=sl}
 free:∀b o,h.get? b=some o->H b=none->b∉ex->H' b=none
 there:∀b o,h.get? b=some o->b∉ex->∃o',h'.get? b=some o'
 tups:∀b xs,H b=some (.tup xs)->H' b=some (.tup xs)
 frzs:∀b o u,H b=some (.frz o u)->H' b=some (.frz o u)
 tbls:∀b ps,H b=some (.tbl ps)->∃more,H' b=some (.tbl (ps++more))
section
variable {fs fs' ex ex':List Addr}{H H1 H2:Hp}{h h1 h2 h':Heap}{a x e:Addr}{o:HO}
theorem Un.any (u:Un fs ex H H1 h h1){b:Addr}{I:Obj}(q:h.get? b=some I)(n:H b=none)(L:b∉ex):∃sl,h1.get? b=some {I with slots:=sl}:=by
 by_cases M:b∈fs
 ·exact u.slot b I q n M L
 ·exact⟨I.slots,u.keep b I q n M L⟩
theorem Un.trans (a:Un fs ex H H1 h h1)(b:Un fs ex H1 H2 h1 h2):Un fs ex H H2 h h2 where
 keep:=fun c I q n O L=>b.keep c I (a.keep c I q n O L) (a.free c I q n L) O L
 slot:=fun c I q n O L=>by
  obtain⟨sl,M⟩:=a.slot c I q n O L;obtain⟨R,U⟩:=b.slot c _ M (a.free c I q n L) O L;exact⟨R,U⟩
 free:=fun c I q n L=>by
  obtain⟨o',M⟩:=a.there c I q L;exact b.free c o' M (a.free c I q n L) L
 there:=fun c I q L=>by
  obtain⟨o',M⟩:=a.there c I q L;exact b.there c o' M L
 tups:=fun c xs q=>b.tups c xs (a.tups c xs q)
 frzs:=fun c I xs q=>b.frzs c I xs (a.frzs c I xs q)
 tbls:=fun c ps q=>by
  obtain⟨Y,M⟩:=a.tbls c ps q;obtain⟨Z,U⟩:=b.tbls c _ M;exact⟨Y++Z,by rw [U,vT]⟩
theorem Un.kept (k:∀b u,h.get? b=some u->h'.get? b=some u):Un fs ex H H h h':=
 ⟨fun b I q _ _ _=>k b I q,fun b I q _ _ _=>⟨I.slots,k b I q⟩,fun _ _ _ n _=>n,fun b I q _=>⟨I,k b I q⟩,fun _ _ q=>q,fun _ _ _ q=>q,fun _ ps q=>⟨#[],by rw [q];simp⟩⟩
theorem Un.refl:Un fs ex H H h h:=Un.kept fun _ _ q=>q
theorem Un.laid (k:∀b u,h.get? b=some u->h'.get? b=some u)(I:h.objs.size<=a)(hn:H a=none):Un fs ex H (upd H a o) h h' where
 keep:=fun b u q _ _ _=>k b u q
 slot:=fun b u q _ _ _=>⟨u.slots,k b u q⟩
 free:=fun b u q n _=>by rw [qy (uM (Nat.lt_of_lt_of_le (uo q) I))];exact n
 there:=fun b u q _=>⟨u,k b u q⟩
 tups:=fun b xs q=>by rw [qy (qr q hn)];exact q
 frzs:=fun b u xs q=>by rw [qy (qr q hn)];exact q
 tbls:=fun b ps q=>⟨#[],by rw [qy (qr q hn),q];simp⟩
theorem Un.write (L:Mut (H x))(U:e=x∨H e=some (.own x))(k:∀b u,b≠e->h.get? b=some u->h'.get? b=some u)(M:∃u,h'.get? e=some u):Un fs ex H (upd H x o) h h':=by
 have O:∀b,H b=none->b≠x:=fun b n z=>by subst z;rw [n] at L;exact L
 have R:∀b,H b=none->b≠e:=fun b n z=>by
  subst z;rcases U with r|r
  ·exact O b n r
  ·rw [n] at r;cases r
 have hm:∀b u,H b=some u->¬Mut (some u)->b≠x:=fun b u q nm z=>by subst z;rw [q] at L;exact nm L
 refine⟨fun b u q n _ _=>k b u (R b n) q,fun b u q n _ _=>⟨u.slots,k b u (R b n) q⟩,fun b u q n _=>by rw [qy (O b n)];exact n,fun b u q _=> ?_,
  fun b xs q=>by rw [qy (hm b _ q fun z=>z)];exact q,fun b u xs q=>by rw [qy (hm b _ q fun z=>z)];exact q,fun b ps q=>⟨#[],by rw [qy (hm b _ q fun z=>z),q];simp⟩⟩
 by_cases I:b=e
 ·subst I;exact M
 ·exact⟨u,k b u I q⟩
end
def trk (h:Heap)(H:Hp):List Addr:=(List.range h.objs.size).filter fun a=>(H a).isSome
def hidT (h:Heap)(H:Hp):Heap:=PySem.W.hideAll h (trk h H)
theorem hidT_size (h:Heap)(H:Hp):(hidT h H).objs.size=h.objs.size:=PySem.W.hideAll_size _ _
theorem hidT_get {h:Heap}{H:Hp}{b:Addr}{o:Obj}(e:h.get? b=some o)(n:H b=none):(hidT h H).get? b=some o:=
 PySem.W.hideAll_get _ e fun hm=>by
  have q:(H b).isSome=true:=(List.mem_filter.mp hm).2;rw [n] at q;simp at q
theorem of_hidT {h:Heap}{H:Hp}{b:Addr}{o:Obj}(e:(hidT h H).get? b=some o):h.get? b=some o/\H b=none:=by
 have I:h.get? b=some o:=PySem.W.of_hideAll (trk h H) e;refine⟨I,?_⟩;cases q:H b with
 |none=>rfl
 |some x=>
  have hm:b∈trk h H:=List.mem_filter.mpr ⟨List.mem_range.mpr (uo I),by simp [q]⟩
  have z:(hidT h H).get? b=none:=PySem.W.hideAll_none (trk h H) hm;rw [z] at e;cases e
structure Mod (K:PySem.W.Frag)(mg:Str->Option Value)(base:Heap):Prop where
 kin:K.In base
 glob:base.Ns mainGlobals mg
 blt:∃mb,base.Ns builtinsNs mb/\∀x:Str,x≠"__name__"->mb x=bootBuiltins x
 nolimit:base.NoLimit
structure Cx where
 prog:Program
 w:World
 K:PySem.W.Frag
 mg:Str->Option Value
 base:Heap
 A:Around
 N:List Str
 s₀:Shared
 H₀:Hp
 env:Env
 outer:List Env
 stack:List Env
 ex:List Addr
 fn:Str->Bool
 calm:Bool
 pn:List (Addr×Obj)
 xe:Value->Shared->Prop
def frs (l:List Env):List Addr:=l.filterMap (·.frame)
abbrev Cx.fs (X:Cx):List Addr:=frs X.outer
def Vis (sc:Scope)(x:Str):Prop:=sc.names.lookup x=some .local∨sc.names.lookup x=some .cell∨sc.names.lookup x=some .free
def Loc (sc:Scope)(x:Str):Prop:=sc.names.lookup x=some .local∨sc.names.lookup x=some .cell
def Look (env:Env)(h:Heap)(m:Str->Option Value)(x:Str)(u:Value):Prop:=
 (env.kindOf x=some .local/\m x=some u)∨((env.kindOf x=some .cell∨env.kindOf x=some .free)/\∃c,env.cells.lookup x=some c/\h.IsCell c (some u))
structure Cx.Ok (X:Cx):Prop where
 mod:Mod X.K X.mg X.base
 kind:X.env.scope.kind= .function
 glob:X.env.globals=mainGlobals
 blt:X.env.builtins=builtinsNs
 above:X.s₀.heap.objs.size<=X.env.locals
 inj:∀x y c,X.env.cells.lookup x=some c->X.env.cells.lookup y=some c->x=y
 has:∀x,(X.env.kindOf x=some .cell∨X.env.kindOf x=some .free)->∃c,X.env.cells.lookup x=some c
 cab:∀x c,X.fn x=true->X.env.cells.lookup x=some c->X.s₀.heap.objs.size<=c
 hd:X.calm=true->X.A.handled=none
 frames:X.A.frames=some X.stack
 stk:X.stack=X.outer∨(X.stack=X.env::X.outer/\X.env.frame=some X.env.locals)
 exf:∀b∈X.ex,b≠X.env.locals/\∀x c,X.env.cells.lookup x=some c->c≠b
 bs:∀b o,X.base.get? b=some o->X.s₀.heap.get? b=some o/\X.H₀ b=none
 bsz:X.base.objs.size<=X.s₀.heap.objs.size
 noex:∀b o,X.base.get? b=some o->b∉X.ex
 exfs:∀b∈X.ex,b∉X.fs
 funs:X.s₀.heap.FunFrames X.base X.outer
 frf:∀b∈X.fs,X.H₀ b=none
structure Inv (X:Cx)(pins:List (Addr×Obj))(σ:List (Option V))(H:Hp)(s:Shared):Prop where
 ok:X.Ok
 os:s.os=X.s₀.os
 bare:AllBare s.gens
 base:Un X.fs X.ex X.H₀ H X.s₀.heap s.heap
 loc:∃m,s.heap.Ns X.env.locals m/\∀(i:Nat) (x:Str) (v:V),X.N[i]? =some x->σ[i]? =some (some v)->Vis X.env.scope x->∃u,RelV v u/\Look X.env s.heap m x u
 cell:∀x c,X.env.cells.lookup x=some c->∃v,s.heap.IsCell c v
 free:H X.env.locals=none
 freeC:∀x c,X.env.cells.lookup x=some c->H c=none
 pin:∀p∈X.pn++pins,s.heap.get? p.1=some p.2/\H p.1=none/\p.1≠X.env.locals/\p.1∉X.fs/\∀v,p.2.data≠ .cell v
 hok:HOk X.prog X.w H s.heap
 len:σ.length=X.N.length
 tk:0<s.toks
section
variable {X:Cx}{pins:List (Addr×Obj)}{σ:List (Option V)}{H H':Hp}{s:Shared}{h':Heap}
theorem Cx.Ok.nofr (ok:X.Ok){b:Addr}{o:Obj}(e:X.base.get? b=some o):b∉X.fs:=fun I=>by
 have:=(ok.funs.mem I).1;rw [e] at this;cases this
theorem Inv.bs (I:Inv X pins σ H s):∀b o,X.base.get? b=some o->s.heap.get? b=some o/\H b=none:=fun b o e=>
 ⟨I.base.keep b o (I.ok.bs b o e).1 (I.ok.bs b o e).2 (I.ok.nofr e) (I.ok.noex b o e),I.base.free b o (I.ok.bs b o e).1 (I.ok.bs b o e).2 (I.ok.noex b o e)⟩
theorem Inv.bk (I:Inv X pins σ H s):∀b o,X.base.get? b=some o->s.heap.get? b=some o:=fun b o e=>(I.bs b o e).1
theorem Inv.mod (I:Inv X pins σ H s):Mod X.K X.mg X.base:=I.ok.mod
theorem Inv.kIn (I:Inv X pins σ H s):X.K.In s.heap:=I.ok.mod.kin.keeps I.bk
theorem Inv.lt (I:Inv X pins σ H s):X.env.locals<s.heap.objs.size:=let⟨_,hn,_⟩:=I.loc;hn.lt
theorem Inv.sz (I:Inv X pins σ H s):X.s₀.heap.objs.size<=s.heap.objs.size:=uK I.ok.above (Nat.le_of_lt I.lt)
theorem Inv.nofs (I:Inv X pins σ H s){a:Addr}(h:s.heap.objs.size<=a):a∉X.fs:=fun L=>by
 obtain⟨_,o,M,_⟩:=I.ok.funs.mem L;exact absurd (Nat.lt_of_lt_of_le (uo M) (uK I.sz h)) (vP _)
theorem Inv.cne (I:Inv X pins σ H s):∀x c,X.env.cells.lookup x=some c->c≠X.env.locals:=fun x c e z=>by
 obtain⟨v,o,O,hd⟩:=I.cell x c e;obtain⟨m,⟨o',es,R,L,M,_⟩,_⟩:=I.loc;rw [z,L] at O;cases O;rw [M] at hd;cases hd
theorem Inv.funs (I:Inv X pins σ H s):s.heap.FunFrames X.base X.outer:=by
 have all:∀(l:List Env),(∀b∈frs l,b∈X.fs)->X.s₀.heap.FunFrames X.base l->s.heap.FunFrames X.base l:=by
  intro l
  induction l with
  |nil=>intro _ _;trivial
  |cons env r Y=>
   intro U Z;obtain⟨hk,⟨L,o,M,hn,ho,hd⟩,hr⟩:=Z;have O:L∈X.fs:=U L (by unfold frs;rw [Uw,M];exact uE)
   obtain⟨sl,e⟩:=I.base.slot L o ho (I.ok.frf L O) O fun z=>I.ok.exfs L z O;exact⟨hk,⟨L,_,M,hn,e,hd⟩,Y (fun b R=>U b (by unfold frs;rw [Uw,M];exact uq _ R)) hr⟩
 exact all X.outer (fun _ R=>R) I.ok.funs
theorem Inv.stack (I:Inv X pins σ H s):s.heap.FunFrames X.base X.stack:=by
 rcases I.ok.stk with e|⟨e,L⟩
 ·rw [e];exact I.funs
 ·rw [e];obtain⟨m,hn,_⟩:=I.loc;refine .cons (by rw [I.ok.kind];decide) L hn ?_ I.funs
  exact Heap.get?_none_of_le (uK I.ok.bsz I.ok.above)
theorem Inv.stkSub (I:Inv X pins σ H s):∀b∈frs X.stack,b∈X.env.locals::X.fs:=fun b L=>by
 rcases I.ok.stk with e|⟨e,M⟩
 ·rw [e] at L;exact uq _ L
 ·rw [e] at L;unfold frs at L;rw [Uw,M] at L;exact L
theorem Inv.stkFree (I:Inv X pins σ H s):∀b∈frs X.stack,H b=none:=fun b L=>by
 rcases List.mem_cons.mp (I.stkSub b L) with e|L
 ·rw [e];exact I.free
 ·obtain⟨_,o,M,_⟩:=I.ok.funs.mem L;exact I.base.free b o M (I.ok.frf b L) fun z=>I.ok.exfs b z L
theorem Inv.step {g':Array GenState}{t':Nat}{d':Drawn}{ch:List Addr}(I:Inv X pins σ H s)
  (M:∀b∈ch,(b∈X.ex∨X.s₀.heap.objs.size<=b)/\b≠X.env.locals/\(∀x c,X.env.cells.lookup x=some c->c≠b)/\∀p∈X.pn++pins,p.1≠b)
  (keep:∀b o,b≠X.env.locals->b∉X.fs->b∉ch->s.heap.get? b=some o->H b=none->h'.get? b=some o)
  (slot:∀b o,b≠X.env.locals->b∈X.fs->b∉ch->s.heap.get? b=some o->H b=none->∃sl,h'.get? b=some {o with slots:=sl}) (free:∀b o,b∉ch->s.heap.get? b=some o->H b=none->H' b=none)
  (there:∀b o,b∉ch->s.heap.get? b=some o->∃o',h'.get? b=some o')
  (tups:∀b xs,H b=some (.tup xs)->H' b=some (.tup xs)) (frzs:∀b o u,H b=some (.frz o u)->H' b=some (.frz o u)) (tbls:∀b ps,H b=some (.tbl ps)->∃more,H' b=some (.tbl (ps++more)))
  (ns:∀m,s.heap.Ns X.env.locals m->h'.Ns X.env.locals m) (hok:HOk X.prog X.w H' h') (hg:AllBare g') (ht:0<t':=by((try dsimp only);first|assumption|exact Inv.tk (by assumption)|exact Nat.succ_pos _|exact Nat.lt_of_lt_of_le (Inv.tk (by assumption)) (by assumption)|exact Nat.add_pos_left (Inv.tk (by assumption)) _|omega)):
  Inv X pins σ H' {s with heap:=h',gens:=g',drawn:=d',toks:=t'}:=by
 have aa:∀b o,X.s₀.heap.get? b=some o->b≠X.env.locals:=fun b o e=>uM (Nat.lt_of_lt_of_le (uo e) I.ok.above);have U:∀b o,X.s₀.heap.get? b=some o->b∉X.ex->b∉ch:=fun b o e L Z=>by
  rcases(M b Z).1 with z|z
  ·exact L z
  ·exact absurd (Nat.lt_of_lt_of_le (uo e) z) (vP _)
 have O:∀x c,X.env.cells.lookup x=some c->∀v,s.heap.IsCell c v->h'.IsCell c v:=fun x c e v ⟨o,ho,hd⟩=>by
  have R:c∉ch:=fun z=>(M c z).2.2.1 x c e rfl;by_cases hc:c∈X.fs
  ·obtain⟨sl,q⟩:=slot c o (I.cne x c e) hc R ho (I.freeC x c e);exact⟨_,q,hd⟩
  ·exact⟨o,keep c o (I.cne x c e) hc R ho (I.freeC x c e),hd⟩
 refine⟨I.ok,I.os,hg,⟨fun b o e n Z L=> ?_,fun b o e n Z L=> ?_,fun b o e n L=> ?_,fun b o e L=> ?_,fun b xs e=>tups b xs (I.base.tups b xs e),fun b o xs e=>frzs b o xs (I.base.frzs b o xs e),fun b ps e=> ?_⟩,?_,fun x c e=> ?_,?_,fun x c e=> ?_,fun p hp=> ?_,hok,I.len,ht⟩
 ·exact keep b o (aa b o e) Z (U b o e L) (I.base.keep b o e n Z L) (I.base.free b o e n L)
 ·obtain⟨sl,Y⟩:=I.base.slot b o e n Z L;obtain⟨ab,e2⟩:=slot b _ (aa b o e) Z (U b o e L) Y (I.base.free b o e n L);exact⟨ab,e2⟩
 ·obtain⟨o',Y⟩:=I.base.there b o e L;exact free b o' (U b o e L) Y (I.base.free b o e n L)
 ·obtain⟨o',Y⟩:=I.base.there b o e L;exact there b o' (U b o e L) Y
 ·obtain⟨m1,Y⟩:=I.base.tbls b ps e;obtain⟨m2,e2⟩:=tbls b _ Y;exact⟨m1++m2,by rw [e2,vT]⟩
 ·obtain⟨m,hn,hl⟩:=I.loc;refine⟨m,ns m hn,fun i x v Y e2 e3=> ?_⟩;obtain⟨u,r,l⟩:=hl i x v Y e2 e3;refine⟨u,r,?_⟩;rcases l with l|⟨k,c,e,z⟩
  ·exact .inl l
  ·exact .inr ⟨k,c,e,O x c e _ z⟩
 ·obtain⟨v,z⟩:=I.cell x c e;exact⟨v,O x c e v z⟩
 ·obtain⟨m,⟨o,_,_,ho,_⟩,_⟩:=I.loc;exact free _ o (fun z=>(M _ z).2.1 rfl) ho I.free
 ·obtain⟨v,o,ho,hd⟩:=I.cell x c e;exact free c o (fun z=>(M c z).2.2.1 x c e rfl) ho (I.freeC x c e)
 ·obtain⟨e,n,ne,nf,d⟩:=I.pin p hp;have R:p.1∉ch:=fun z=>(M p.1 z).2.2.2 p hp rfl;exact⟨keep p.1 p.2 ne nf R e n,free p.1 p.2 R e n,ne,nf,d⟩
theorem Inv.un {t':Nat}(I:Inv X pins σ H s)(u:Un X.fs [] H H' s.heap h')(hok:HOk X.prog X.w H' h')(ht:0<t':=by((try dsimp only);first|assumption|exact Inv.tk (by assumption)|exact Nat.succ_pos _|exact Nat.lt_of_lt_of_le (Inv.tk (by assumption)) (by assumption)|exact Nat.add_pos_left (Inv.tk (by assumption)) _|omega)):Inv X pins σ H' {s with heap:=h',toks:=t'}:=by
 obtain⟨m,⟨o,es,ep,U,r⟩,_⟩:=id I.loc;obtain⟨sl,Y⟩:=u.any U I.free (by simp)
 exact I.step (g':=s.gens) (d':=s.drawn) (ch:= []) (fun _ z=>nomatch z) (fun b o _ M _ e n=>u.keep b o e n M (by simp)) (fun b o _ M _ e n=>u.slot b o e n M (by simp)) (fun b o _ e n=>u.free b o e n (by simp)) (fun b o _ e=>u.there b o e (by simp)) u.tups u.frzs u.tbls (fun m' hm=>by
  obtain⟨o',O,R,L,Z⟩:=hm;rw [U] at L;cases L;exact⟨_,O,R,Y,Z⟩) hok I.bare
theorem Inv.call {g':Array GenState}{t':Nat}{d':Drawn}{ch:List Addr}(I:Inv X pins σ H s)(u:Un (frs X.stack) ch H H' s.heap h')(hok:HOk X.prog X.w H' h')(hg:AllBare g')
  (M:∀b∈ch,(b∈X.ex∨X.s₀.heap.objs.size<=b)/\b≠X.env.locals/\(∀x c,X.env.cells.lookup x=some c->c≠b)/\∀p∈X.pn++pins,p.1≠b) (ht:0<t':=by((try dsimp only);first|assumption|exact Inv.tk (by assumption)|exact Nat.succ_pos _|exact Nat.lt_of_lt_of_le (Inv.tk (by assumption)) (by assumption)|exact Nat.add_pos_left (Inv.tk (by assumption)) _|omega)):
  Inv X pins σ H' {s with heap:=h',gens:=g',drawn:=d',toks:=t'}:=by
 obtain⟨m,⟨o,es,ep,Z,r⟩,_⟩:=id I.loc;obtain⟨sl,R⟩:=u.any Z I.free fun z=>(M _ z).2.1 rfl;exact I.step (ch:=ch) M (fun b o R hb L e n=>u.keep b o e n (fun z=>(List.mem_cons.mp (I.stkSub b z)).elim R hb) L) (fun b o _ _ L e n=>u.any e n L) (fun b o L e n=>u.free b o e n L) (fun b o L e=>u.there b o e L) u.tups u.frzs u.tbls (fun m' hm=>by
  obtain⟨o',U,Y,O,r'⟩:=hm;rw [Z] at O;cases O;exact⟨_,U,Y,R,r'⟩) hok hg
theorem Inv.turned {t':Nat}{it:Addr}(I:Inv X pins σ H s)(k:∀b o,b≠it->s.heap.get? b=some o->h'.get? b=some o)(hn:H it=none)(O:it≠X.env.locals)
  (h1:it∈X.ex∨X.s₀.heap.objs.size<=it) (h2:∀x c,X.env.cells.lookup x=some c->c≠it) (R:∀p∈X.pn++pins,p.1≠it) (ht:0<t':=by((try dsimp only);first|assumption|exact Inv.tk (by assumption)|exact Nat.succ_pos _|exact Nat.lt_of_lt_of_le (Inv.tk (by assumption)) (by assumption)|exact Nat.add_pos_left (Inv.tk (by assumption)) _|omega)):Inv X pins σ H {s with heap:=h',toks:=t'}:=by
 have M:∀b u,H b=some u->b≠it:=fun b u e z=>by rw [z,hn] at e;cases e
 refine I.step (g':=s.gens) (d':=s.drawn) (ch:= [it]) (fun b U=> ?_) (fun b o _ _ L e _=>k b o (fun z=>L (by simp [z])) e) (fun b o _ _ L e _=>⟨o.slots,k b o (fun z=>L (by simp [z])) e⟩) (fun _ _ _ _ n=>n)
  (fun b o L e=>⟨o,k b o (fun z=>L (by simp [z])) e⟩) (fun _ _ e=>e) (fun _ _ _ e=>e) (fun b ps e=>⟨#[],by rw [e];simp⟩) (fun m hm=> ?_) (fun b u e=> ?_) I.bare
 ·have e:b=it:=by simpa using U
  subst e;exact⟨h1,O,h2,R⟩
 ·obtain⟨o,es,Y,Z,r⟩:=hm;exact⟨o,es,Y,k _ o (Uq O) Z,r⟩
 ·refine(I.hok b u e).stay (fun c v L q=>k c v ?_ q) (fun _ q=>q) fun _ _ q=>q;rcases L with z|z
  ·rw [z];exact M b u e
  ·exact M c _ z
theorem Inv.tok (I:Inv X pins σ H s)(t:Nat)(L:0<t:=by((try dsimp only);first|assumption|exact Inv.tk (by assumption)|exact Nat.succ_pos _|exact Nat.lt_of_lt_of_le (Inv.tk (by assumption)) (by assumption)|exact Nat.add_pos_left (Inv.tk (by assumption)) _|omega)):Inv X pins σ H {s with toks:=t}:=I.un (h':=s.heap) (t':=t) Un.refl I.hok
theorem Inv.kept {t':Nat}(I:Inv X pins σ H s)(k:∀b u,s.heap.get? b=some u->h'.get? b=some u)(L:0<t':=by((try dsimp only);first|assumption|exact Inv.tk (by assumption)|exact Nat.succ_pos _|exact Nat.lt_of_lt_of_le (Inv.tk (by assumption)) (by assumption)|exact Nat.add_pos_left (Inv.tk (by assumption)) _|omega)):Inv X pins σ H {s with heap:=h',toks:=t'}:=I.un (Un.kept k) (I.hok.kept k)
theorem Inv.laid {a:Addr}{o:HO}{t':Nat}(I:Inv X pins σ H s)(k:∀b u,s.heap.get? b=some u->h'.get? b=some u)(L:s.heap.objs.size<=a)(new:Q2 X.prog X.w (upd H a o) h' a o)(M:0<t':=by((try dsimp only);first|assumption|exact Inv.tk (by assumption)|exact Nat.succ_pos _|exact Nat.lt_of_lt_of_le (Inv.tk (by assumption)) (by assumption)|exact Nat.add_pos_left (Inv.tk (by assumption)) _|omega)):
  Inv X pins σ (upd H a o) {s with heap:=h',toks:=t'}:=I.un (Un.laid k L (I.hok.fresh L)) (I.hok.laid k L new)
theorem Inv.write {x e:Addr}{o:HO}{t':Nat}(I:Inv X pins σ H s)(M:Mut (H x))(O:e=x∨H e=some (.own x))(k:∀b u,b≠e->s.heap.get? b=some u->h'.get? b=some u)(L:∃u,h'.get? e=some u)
  (new:Q2 X.prog X.w (upd H x o) h' x o) (R:0<t':=by((try dsimp only);first|assumption|exact Inv.tk (by assumption)|exact Nat.succ_pos _|exact Nat.lt_of_lt_of_le (Inv.tk (by assumption)) (by assumption)|exact Nat.add_pos_left (Inv.tk (by assumption)) _|omega)):Inv X pins σ (upd H x o) {s with heap:=h',toks:=t'}:=I.un (Un.write M O k L) (I.hok.write M O k L new)
theorem Inv.pins_of {L:List (Addr×Obj)}(I:Inv X pins σ H s)(h:∀p∈L,s.heap.get? p.1=some p.2/\H p.1=none/\p.1≠X.env.locals/\p.1∉X.fs/\∀v,p.2.data≠ .cell v):Inv X L σ H s:=
 ⟨I.ok,I.os,I.bare,I.base,I.loc,I.cell,I.free,I.freeC,fun p M=>(List.mem_append.mp M).elim (fun z=>I.pin p (List.mem_append_left _ z)) (h p),I.hok,I.len,I.tk⟩
theorem nodup_ix {N:List Str}(I:N.Nodup){i j:Nat}{x:Str}(a:N[i]? =some x)(b:N[j]? =some x):i=j:=by
 obtain⟨h1,L⟩:=List.getElem?_eq_some_iff.mp a;obtain⟨h2,M⟩:=List.getElem?_eq_some_iff.mp b;exact(List.getElem_inj I).mp (L.trans M.symm)
theorem store_ok2 {M:Model}{A:Around}{E:Value->Shared->Prop}{i:Nat}{x:Str}{v:V}{u:Value}{Q:Unit->Shared->Prop}(I:Inv X pins σ H s)(hN:X.N.Nodup)(hi:X.N[i]? =some x)(Y:Loc X.env.scope x)(r:RelV v u)
  (h:∀s',Inv X pins (σ.set i (some v)) H s'->(∃a,Heap.SameBut a s.heap s'.heap/\(a=X.env.locals∨X.env.cells.lookup x=some a))->Q Unit.unit s') (hf:X.fn x=true∨X.env.scope.names.lookup x=some .local:=by first|exact .inl rfl|exact .inr rfl|assumption):wpAny M A (storeName X.env x u) Q E s:=by
 obtain⟨m,hn,hl⟩:=id I.loc;have ab:(X.env.scope.kind== .class||(X.env.scope.kind== .module&&X.env.locals !=X.env.globals))=false:=by rw [I.ok.kind];rfl
 have ac:i<σ.length:=by rw [I.len];exact(List.getElem?_eq_some_iff.mp hi).1
 have cne:=I.cne;have O:∀{a:Addr}{h':Heap},(∃o,s.heap.get? a=some o/\H a=none)->Heap.SameBut a s.heap h'->HOk X.prog X.w H h':=fun{a h'} ha L b ob e=>by
  obtain⟨_,_,Z⟩:=ha;refine(I.hok b ob e).stay (fun c w' U q=>(L.2 c ?_).trans q) (fun _ q=>q) fun _ _ q=>q;rintro rfl;rcases U with rfl|U
  ·rw [Z] at e;cases e
  ·rw [Z] at U;cases U
 rcases Y with hk|hk
 ·refine wpAny_storeName_local hk hn (fun h' ah L=> ?_) ab;obtain⟨oL,_,_,ak,_⟩:=id hn;refine h _ ⟨I.ok,I.os,I.bare,⟨fun b o e n hb Y=> ?_,fun b o e n hb Y=> ?_,I.base.free,fun b o e Y=> ?_,I.base.tups,I.base.frzs,I.base.tbls⟩,⟨_,ah,fun j y v' R e2 e3=> ?_⟩,fun y c e=> ?_,I.free,I.freeC,fun p hp=> ?_,O ⟨oL,ak,I.free⟩ L,by simpa using I.len,by first|exact I.tk|exact Nat.succ_pos _⟩ ⟨_,L,.inl rfl⟩
  ·exact(L.2 b (uM (Nat.lt_of_lt_of_le (uo e) I.ok.above))).trans (I.base.keep b o e n hb Y)
  ·obtain⟨sl,R⟩:=I.base.slot b o e n hb Y;exact⟨sl,(L.2 b (uM (Nat.lt_of_lt_of_le (uo e) I.ok.above))).trans R⟩
  ·obtain⟨o',R⟩:=I.base.there b o e Y;exact⟨o',(L.2 b (uM (Nat.lt_of_lt_of_le (uo e) I.ok.above))).trans R⟩
  ·by_cases hj:j=i
   ·subst hj;rw [hi] at R;cases R;rw [List.getElem?_set_self ac] at e2;cases e2;exact⟨u,r,.inl ⟨hk,by simp⟩⟩
   ·rw [List.getElem?_set_ne (Uq hj)] at e2;obtain⟨u',r',q⟩:=hl j y v' R e2 e3;refine⟨u',r',?_⟩;rcases q with⟨k,e⟩|⟨k,c,e,z⟩
    ·refine .inl ⟨k,?_⟩;have:y≠x:=fun e=>hj (nodup_ix hN R (e▸hi));simp [this,e]
    ·exact .inr ⟨k,c,e,z.sameBut L (cne y c e)⟩
  ·obtain⟨w',z⟩:=I.cell y c e;exact⟨w',z.sameBut L (cne y c e)⟩
  ·obtain⟨e,n,ne,nf,d⟩:=I.pin p hp;exact⟨(L.2 p.1 ne).trans e,n,ne,nf,d⟩
 ·have aa:X.fn x=true:=by
   rcases hf with z|z
   ·exact z
   ·rw [z] at hk;cases hk
  obtain⟨c,U⟩:=I.ok.has x (.inl hk);obtain⟨w',z⟩:=I.cell x c U;refine wpAny_storeName_cell I.ok.kind hk U z (fun h' ad L=> ?_);obtain⟨oc,ae,af⟩:=id z;refine h {s with heap:=h'} ⟨I.ok,I.os,I.bare,⟨fun b o e n hb Y=> ?_,fun b o e n hb Y=> ?_,I.base.free,fun b o e Y=> ?_,I.base.tups,I.base.frzs,I.base.tbls⟩,⟨m,hn.sameBut L (Uq (cne x c U)),fun j y v' R e2 e3=> ?_⟩,fun y c' e=> ?_,I.free,I.freeC,fun p hp=> ?_,O ⟨oc,ae,I.freeC x c U⟩ L,by simpa using I.len,by first|exact I.tk|exact Nat.succ_pos _⟩ ⟨c,L,.inr U⟩
  ·exact(L.2 b (uM (Nat.lt_of_lt_of_le (uo e) (I.ok.cab x c aa U)))).trans (I.base.keep b o e n hb Y)
  ·obtain⟨sl,R⟩:=I.base.slot b o e n hb Y;exact⟨sl,(L.2 b (uM (Nat.lt_of_lt_of_le (uo e) (I.ok.cab x c aa U)))).trans R⟩
  ·obtain⟨o',R⟩:=I.base.there b o e Y;exact⟨o',(L.2 b (uM (Nat.lt_of_lt_of_le (uo e) (I.ok.cab x c aa U)))).trans R⟩
  ·by_cases hj:j=i
   ·subst hj;rw [hi] at R;cases R;rw [List.getElem?_set_self ac] at e2;cases e2;exact⟨u,r,.inr ⟨.inl hk,c,U,ad⟩⟩
   ·rw [List.getElem?_set_ne (Uq hj)] at e2;obtain⟨u',r',q⟩:=hl j y v' R e2 e3;refine⟨u',r',?_⟩;rcases q with q|⟨k,c',e,z'⟩
    ·exact .inl q
    ·refine .inr ⟨k,c',e,z'.sameBut L ?_⟩;rintro rfl;exact hj (nodup_ix hN R (I.ok.inj _ _ _ e U▸hi))
  ·by_cases ag:c'=c
   ·subst ag;exact⟨_,ad⟩
   ·obtain⟨w2,z2⟩:=I.cell y c' e;exact⟨w2,z2.sameBut L ag⟩
  ·obtain⟨e,n,ne,nf,d⟩:=I.pin p hp;refine⟨(L.2 p.1 ?_).trans e,n,ne,nf,d⟩;intro q;rw [q,ae] at e;have q':oc=p.2:=uR e;exact d w' (by rw [<-q'];exact af)
theorem ZD {M:Model}{A:Around}{E:Value->Shared->Prop}{i:Nat}{x:Str}{v:V}{u:Value}{Q:Unit->Shared->Prop}(I:Inv X pins σ H s)(L:X.N.Nodup)(hi:X.N[i]? =some x)(O:Loc X.env.scope x)(r:RelV v u)
  (h:∀s',Inv X pins (σ.set i (some v)) H s'->Q Unit.unit s') (R:X.fn x=true∨X.env.scope.names.lookup x=some .local:=by first|exact .inl rfl|exact .inr rfl|assumption):wpAny M A (storeName X.env x u) Q E s:=
 store_ok2 I L hi O r (fun s' U _=>h s' U) R
theorem Inv.call' {s':Shared}{ch:List Addr}(I:Inv X pins σ H s)(M:s'.os=s.os)(u:Un (frs X.stack) ch H H' s.heap s'.heap)(hok:HOk X.prog X.w H' s'.heap)(O:AllBare s'.gens)
  (L:∀b∈ch,(b∈X.ex∨X.s₀.heap.objs.size<=b)/\b≠X.env.locals/\(∀x c,X.env.cells.lookup x=some c->c≠b)/\∀p∈X.pn++pins,p.1≠b) (R:0<s'.toks:=by((try dsimp only);first|assumption|exact Inv.tk (by assumption)|exact Nat.succ_pos _|exact Nat.lt_of_lt_of_le (Inv.tk (by assumption)) (by assumption)|exact Nat.add_pos_left (Inv.tk (by assumption)) _|omega)):Inv X pins σ H' s':=by
 obtain⟨h',g',d',t',o'⟩:=s';have e:o'=s.os:=M;subst e;exact I.call (g':=g') (t':=t') (d':=d') u hok O L
end
abbrev XK:=Value->Option Addr->Hp->Prop
abbrev St:=List (Option V)
abbrev VK:=V->Hp->Prop
abbrev TE:=St->Hp->VK->Prop
abbrev TT:=St->Hp->(Bool->Hp->Prop)->Prop
abbrev TA:=St->Hp->(List V->Hp->Prop)->Prop
structure Ends where
 nx:St->Hp->Prop
 rt:VK
 bk:St->Hp->Prop:=fun _ _=>False
 ct:St->Hp->Prop:=fun _ _=>False
abbrev TS:=Ends->St->Hp->Prop
def EP (X:Cx)(pins:List (Addr×Obj))(σ:St)(Q:VK)(u:Value)(s':Shared):Prop:=∃v H',Inv X pins σ H' s'/\RelV v u/\Q v H'
def TP (X:Cx)(pins:List (Addr×Obj))(σ:St)(Q:Bool->Hp->Prop)(b:Bool)(s':Shared):Prop:=∃H',Inv X pins σ H' s'/\Q b H'
def AP (X:Cx)(pins:List (Addr×Obj))(σ:St)(Q:List V->Hp->Prop)(us:List Value)(s':Shared):Prop:=∃vs H',Inv X pins σ H' s'/\Vals vs us/\Q vs H'
def SP (X:Cx)(pins:List (Addr×Obj))(D:Ends)(f:Flow)(s':Shared):Prop:=
 match f with
 | .next=>∃σ' H',Inv X pins σ' H' s'/\D.nx σ' H'
 | .brk=>∃σ' H',Inv X pins σ' H' s'/\D.bk σ' H'
 | .cont=>∃σ' H',Inv X pins σ' H' s'/\D.ct σ' H'
 | .ret u=>∃v σ' H',Inv X pins σ' H' s'/\RelV v u/\D.rt v H'
def PE (X:Cx)(e:Expr)(t:TE):Prop:=
 ∀(pins:List (Addr×Obj)) (s:Shared) (σ:St) (H:Hp) (Q:VK),Inv X pins σ H s->t σ H Q->wpAny (model X.prog X.w) X.A (eval e X.env) (EP X pins σ Q) X.xe s
def PT (X:Cx)(e:Expr)(t:TT):Prop:=
 ∀(pins:List (Addr×Obj)) (s:Shared) (σ:St) (H:Hp) (Q:Bool->Hp->Prop),Inv X pins σ H s->t σ H Q->wpAny (model X.prog X.w) X.A (isTrue e X.env (eval e X.env)) (TP X pins σ Q) X.xe s
def PW (X:Cx)(e:Expr)(t:TT):Prop:=
 ∀(whole:Sem Value) (pins:List (Addr×Obj)) (s:Shared) (σ:St) (H:Hp) (Q:Bool->Hp->Prop),Inv X pins σ H s->t σ H Q->wpAny (model X.prog X.w) X.A (isTrue e X.env whole) (TP X pins σ Q) X.xe s
theorem PW.pt {X:Cx}{e:Expr}{t:TT}(h:PW X e t):PT X e t:=h _
def PA (X:Cx)(es:List Expr)(t:TA):Prop:=
 ∀(pos:Pos) (pins:List (Addr×Obj)) (s:Shared) (σ:St) (H:Hp) (Q:List V->Hp->Prop),Inv X pins σ H s->t σ H Q->wpAny (model X.prog X.w) X.A (spliced (backTo pos (starEach es X.env))) (AP X pins σ Q) X.xe s
def PS (X:Cx)(st:Stmt)(t:TS):Prop:=
 ∀(pins:List (Addr×Obj)) (s:Shared) (σ:St) (H:Hp) (D:Ends),Inv X pins σ H s->t D σ H->wpAny (model X.prog X.w) X.A (exec st X.env) (SP X pins D) X.xe s
def PSs (X:Cx)(st:List Stmt)(t:TS):Prop:=
 ∀(pins:List (Addr×Obj)) (s:Shared) (σ:St) (H:Hp) (D:Ends),Inv X pins σ H s->t D σ H->wpAny (model X.prog X.w) X.A (execs st X.env) (SP X pins D) X.xe s
theorem thn {α:Type}{t:Sem α}{Q I:α->Shared->Prop}{M:Model}{A:Around}{E:Value->Shared->Prop}{s:Shared}(h:wpAny M A t Q E s)(L:∀a s,Q a s->I a s):wpAny M A t I E s:=vj h L fun _ _ x=>x
section
variable {X:Cx}
theorem bin {a b:Expr}{ta tb:TE}(ha:PE X a ta)(L:PE X b tb){pins:List (Addr×Obj)}{s:Shared}{σ:St}{H:Hp}{R:V->V->Hp->Prop}(I:Inv X pins σ H s)(h:ta σ H fun x H1=>tb σ H1 fun y H2=>R x y H2)
  {α:Type}{Q:α->Shared->Prop}{f:Value->Value->Sem α}
  (M:∀v u s2 x y H2,Inv X pins σ H2 s2->RelV x v->RelV y u->R x y H2->wpAny (model X.prog X.w) X.A (f v u) Q X.xe s2):
  wpAny (model X.prog X.w) X.A (eval a X.env) (fun v O=>wpAny (model X.prog X.w) X.A (eval b X.env) (fun u U=>wpAny (model X.prog X.w) X.A (f v u) Q X.xe U) X.xe O) X.xe s:=by
 refine thn (ha pins s σ H _ I h) fun v s1 ⟨x,H1,Y,Z,q1⟩=> ?_;refine thn (L pins s1 σ H1 _ Y q1) fun u s2 ⟨y,H2,I2,r2,q2⟩=> ?_;exact M v u s2 x y H2 I2 Z r2 q2
def tVar (i:Nat):TE:=fun σ H Q=>∃v,σ[i]? =some (some v)/\Q v H
def tC (v:V):TE:=fun _ H Q=>Q v H
theorem pe_var {i:Nat}{x:Str}{pos:Pos}(Y:X.N[i]? =some x)(Z:Vis X.env.scope x)(hd:(x==("__debug__":Str))=false:=by decide)(R:(x==("__classdict__":Str))=false:=by decide):PE X (.Name x pos) (tVar i):=by
 intro pins s σ H Q I h;obtain⟨v,e,h⟩:=h;obtain⟨m,hn,hl⟩:=I.loc;obtain⟨u,r,l⟩:=hl i x v Y e Z;have M:EP X pins σ Q u s:=⟨v,H,I,r,h⟩;rcases l with⟨O,hm⟩|⟨O,c,U,L⟩
 ·exact wpAny_Name (wpAny_loadName_local I.ok.kind O hn hm M) hd
 ·rcases O with O|O
  ·exact wpAny_Name (wpAny_loadName_cell I.ok.kind O U L M) hd
  ·exact wpAny_Name (wpAny_loadName_free I.ok.kind O U L M R) hd
theorem qh {i j pos}:PE X (.Constant (.int i) j pos) (tC (.int i)):=fun _ _ _ H _ I h=>wpAny_Constant_int ⟨.int i,H,I.tok _,⟨_,rfl⟩,h⟩
theorem yP {b j pos}:PE X (.Constant (.bool b) j pos) (tC (.bl b)):=fun _ _ _ H _ I h=>Constant_bool ⟨.bl b,H,I,rfl,h⟩
theorem Qg {j pos}:PE X (.Constant .none j pos) (tC .non):=fun _ _ _ H _ I h=>Constant_none ⟨.non,H,I,rfl,h⟩
theorem qi {x j pos}:PE X (.Constant (.str x) j pos) (tC (.str x)):=fun _ _ _ H _ I h=>Calls.Constant_str ⟨.str x,H,I.tok _,⟨_,rfl⟩,h⟩
def Gl (X:Cx)(x:Str):Prop:=X.env.kindOf x=some .globalImplicit
theorem JR {E:Value->Shared->Prop}{pins:List (Addr×Obj)}{s:Shared}{σ:St}{H:Hp}{x:Str}{u:Value}{pos:Pos}{Q:Value->Shared->Prop}(I:Inv X pins σ H s)(L:Gl X x)(hm:X.mg x=some u)(h:Q u s)
  (hd:(x==("__debug__":Str))=false:=by decide):wpAny (model X.prog X.w) X.A (eval (.Name x pos) X.env) Q E s:=
 Calls.Name_function_global I.ok.kind L (Calls.loadGlobal_global (by rw [I.ok.glob];exact I.mod.glob.keeps I.bk) hm h) hd
theorem XI {E:Value->Shared->Prop}{pins:List (Addr×Obj)}{s:Shared}{σ:St}{H:Hp}{x:Str}{u:Value}{pos:Pos}{Q:Value->Shared->Prop}(I:Inv X pins σ H s)(L:Gl X x)(hm:X.mg x=none)(M:bootBuiltins x=some u)(h:Q u s)
  (hn:x≠"__name__":=by decide) (hd:(x==("__debug__":Str))=false:=by decide):wpAny (model X.prog X.w) X.A (eval (.Name x pos) X.env) Q E s:=by
 obtain⟨mb,h1,h2⟩:=I.mod.blt;exact Calls.Name_function_global I.ok.kind L (Calls.loadGlobal_builtin (by rw [I.ok.glob];exact I.mod.glob.keeps I.bk) hm (by rw [I.ok.blt];exact h1.keeps I.bk) ((h2 x hn).trans M) h) hd
theorem pe_glob {x:Str}{v:V}{u:Value}{pos:Pos}(L:Gl X x)(hm:X.mg x=some u)(r:RelV v u)(hd:(x==("__debug__":Str))=false:=by decide):PE X (.Name x pos) (tC v):=
 fun _ _ _ H _ I h=>JR I L hm ⟨v,H,I,r,h⟩ hd
theorem qY {x:Str}{v:V}{u:Value}{pos:Pos}(L:Gl X x)(hm:X.mg x=none)(M:bootBuiltins x=some u)(r:RelV v u)(hn:x≠"__name__":=by decide)(hd:(x==("__debug__":Str))=false:=by decide):PE X (.Name x pos) (tC v):=
 fun _ _ _ H _ I h=>XI I L hm M ⟨v,H,I,r,h⟩ hn hd
variable {a b:Expr}{ta tb:TE}{pos:Pos}
def PC (X:Cx)(op:CmpOp)(a b:Expr)(t:TE):Prop:=
 ∀(pins:List (Addr×Obj)) (s:Shared) (σ:St) (H:Hp) (Q:VK),Inv X pins σ H s->t σ H Q->
  wpAny (model X.prog X.w) X.A (eval a X.env) (fun v s₁=>wpAny (model X.prog X.w) X.A (eval b X.env) (fun u s₂=>wpAny (model X.prog X.w) X.A (compareOp op v u) (EP X pins σ Q) X.xe s₂) X.xe s₁) X.xe s
def tB (t:TE):TT:=fun σ H Q=>t σ H fun x H1=>∃c,x= .bl c/\Q c H1
theorem pt_cmp {L:CmpOp}{t:TE}(h:PC X L a b t)(h1:behindInMarks L b=false:=by first|exact nobehind _ (by decide) (by decide)|rfl):PT X (.Compare a [L] [b] pos) (tB t):=by
 intro pins s σ H Q I M;refine wpAny_isTrue_Compare1 (thn (h pins s σ H _ I M) fun v s1 h1=>thn h1 fun u s2 h2=>thn h2 fun c U ⟨x,H1,O,R,q1⟩=> ?_) h1;obtain⟨d,rfl,q⟩:=q1;cases R;exact vb ⟨H1,O,q⟩
theorem qV {e:Expr}{t:TE}(h:PE X e t)(M:∀L,isTrue e X.env L=(do let v<-L;standAt e.pos;holding [v] (truthy v)):=by intro _;rfl):PT X e (tB t):=by
 intro pins s σ H Q I O;refine isTrue_plain (thn (h pins s σ H _ I O) fun v s1 ⟨x,H1,R,U,q1⟩=> ?_) (M _);obtain⟨d,rfl,q⟩:=q1;cases U;exact vb ⟨H1,R,q⟩
variable {tA tB':TT}{rest:List Expr}
def tAnd (t u:TT):TT:=fun σ H Q=>t σ H fun c H1=>if c=true then u σ H1 Q else Q false H1
def tOr (t u:TT):TT:=fun σ H Q=>t σ H fun c H1=>if c=true then Q true H1 else u σ H1 Q
def tNot (t:TT):TT:=fun σ H Q=>t σ H fun c H1=>Q (!c) H1
theorem Yl (ha:PT X a tA):PW X (.BoolOp .And [a] pos) tA:=by
 intro L pins s σ H Q I h;refine isTrue_and (thn (ha pins s σ H Q I h) fun c s1 e=> ?_);cases c with
 |true=>exact isTrue_and_nil e
 |false=>exact e
theorem yr (ha:PT X a tA):PW X (.BoolOp .Or [a] pos) tA:=by
 intro L pins s σ H Q I h;refine isTrue_or (thn (ha pins s σ H Q I h) fun c s1 e=> ?_);cases c with
 |false=>exact isTrue_or_nil e
 |true=>exact e
theorem jo (ha:PT X a tA)(M:PW X (.BoolOp .And (b::rest) pos) tB'):PW X (.BoolOp .And (a::b::rest) pos) (tAnd tA tB'):=by
 intro O pins s σ H Q I h;refine isTrue_and (thn (ha pins s σ H _ I h) fun c s1 ⟨H1,L,q1⟩=> ?_);cases c with
 |true=>exact M O pins s1 σ H1 Q L q1
 |false=>exact⟨H1,L,q1⟩
theorem y0 (ha:PT X a tA)(M:PW X (.BoolOp .Or (b::rest) pos) tB'):PW X (.BoolOp .Or (a::b::rest) pos) (tOr tA tB'):=by
 intro O pins s σ H Q I h;refine isTrue_or (thn (ha pins s σ H _ I h) fun c s1 ⟨H1,L,q1⟩=> ?_);cases c with
 |true=>exact⟨H1,L,q1⟩
 |false=>exact M O pins s1 σ H1 Q L q1
theorem Qk (ha:PT X a tA):PT X (.UnaryOp .Not a pos) (tNot tA):=by
 intro pins s σ H Q I h;exact isTrue_not (ha pins s σ H (fun c H1=>Q (!c) H1) I h)
def tAndV (ta tb:TE):TE:=fun σ H Q=>ta σ H fun x H1=>∃c,x= .bl c/\if c=true then tb σ H1 Q else Q (.bl false) H1
def tOrV (ta tb:TE):TE:=fun σ H Q=>ta σ H fun x H1=>∃c,x= .bl c/\if c=true then Q (.bl true) H1 else tb σ H1 Q
def tNotV (ta:TE):TE:=fun σ H Q=>ta σ H fun x H1=>∃c,x= .bl c/\Q (.bl (!c)) H1
theorem jm {op}{t:TE}(h:PE X a t):PE X (.BoolOp op [a] pos) t:=fun pins s σ H Q I L=>BoolOp_one (h pins s σ H Q I L)
theorem xf (ha:PE X a ta)(M:PE X (.BoolOp .And (b::rest) pos) tb):PE X (.BoolOp .And (a::b::rest) pos) (tAndV ta tb):=by
 intro pins s σ H Q I h;refine BoolOp_and (thn (ha pins s σ H _ I h) fun v s1 ⟨x,H1,L,O,q1⟩=> ?_);obtain⟨c,rfl,q1⟩:=q1;cases O;refine vb ?_;cases c with
 |true=>exact M pins s1 σ H1 Q L q1
 |false=>exact⟨.bl false,H1,L,rfl,q1⟩
theorem pe_or (ha:PE X a ta)(M:PE X (.BoolOp .Or (b::rest) pos) tb):PE X (.BoolOp .Or (a::b::rest) pos) (tOrV ta tb):=by
 intro pins s σ H Q I h;refine BoolOp_or (thn (ha pins s σ H _ I h) fun v s1 ⟨x,H1,L,O,q1⟩=> ?_);obtain⟨c,rfl,q1⟩:=q1;cases O;refine vb ?_;cases c with
 |false=>exact M pins s1 σ H1 Q L q1
 |true=>exact⟨.bl true,H1,L,rfl,q1⟩
theorem pe_not (ha:PE X a ta):PE X (.UnaryOp .Not a pos) (tNotV ta):=by
 intro pins s σ H Q I h;refine UnaryOp_ (thn (ha pins s σ H _ I h) fun v s1 ⟨x,H1,L,M,q1⟩=> ?_);obtain⟨c,rfl,q1⟩:=q1;cases M;exact not_of (vb ⟨.bl (!c),H1,L,rfl,q1⟩)
def tIf (t:TT)(ta tb:TE):TE:=fun σ H Q=>t σ H fun c H1=>if c=true then ta σ H1 Q else tb σ H1 Q
theorem yS {c:Expr}(M:PT X c tA)(ha:PE X a ta)(O:PE X b tb):PE X (.IfExp c a b pos) (tIf tA ta tb):=by
 intro pins s σ H Q I h;refine wpAny_IfExp (thn (M pins s σ H _ I h) fun d s1 ⟨H1,L,q1⟩=> ?_);cases d with
 |true=>exact ha pins s1 σ H1 Q L q1
 |false=>exact O pins s1 σ H1 Q L q1
end
def SqL (K:PySem.W.Frag)(H:Hp)(a:Addr)(xs:List V):Prop:=
 Rd H a (.lst xs)∨
  ∃(o:Obj) (its:Array Value) (n:Nat),K.lookup a=some o/\o.cls= .type "list"/\o.dict=none/\o.data= .seq its n/\its.size<=sizeLine/\Vals xs its.toList
def SqT (K:PySem.W.Frag)(H:Hp)(a:Addr)(xs:List V):Prop:=
 Rd H a (.tup xs)∨
  ∃(o:Obj) (its:Array Value) (n:Nat),K.lookup a=some o/\o.cls= .type "tuple"/\o.data= .seq its n/\its.size<=sizeLine/\Vals xs its.toList
noncomputable def absV:Value->Option V
 | .none=>some .non
 | .bool b=>some (.bl b)
 | .int i _=>some (.int i)
 | .str x _=>some (.str x)
 | .bytes b _=>some (.byt b)
 | .float b _=>some (.flt b)
 | .ref a=>some (.ref a)
 | .type n=>some (.ty n)
 |_=>none
theorem RelV.abs {x:V}{u:Value}(r:RelV x u):absV u=some x:=by
 cases x with
 |non=>cases r;rfl
 |bl _=>cases r;rfl
 |int _=>obtain⟨t,rfl⟩:=r;rfl
 |str _=>obtain⟨t,rfl⟩:=r;rfl
 |byt _=>obtain⟨t,rfl⟩:=r;rfl
 |flt _=>obtain⟨t,rfl⟩:=r;rfl
 |ref _=>cases r;rfl
 |ty _=>cases r;rfl
theorem RelV.inj {x y:V}{u:Value}(r:RelV x u)(q:RelV y u):x=y:=uR (r.abs.symm.trans q.abs)
theorem Vals.inj:∀{xs ys:List V}{us:List Value},Vals xs us->Vals ys us->xs=ys
 |_,_,_,.nil,.nil=>rfl
 |_,_,_,.cons r t,.cons r' t'=>by rw [r.inj r',Vals.inj t t']
section
variable {X:Cx}{pins:List (Addr×Obj)}{σ:St}{H:Hp}{s:Shared}{a:Addr}{xs ys:List V}
theorem SqL.of {K:PySem.W.Frag}(h:H a=some (.lst xs)):SqL K H a xs:= .inl (.inl h)
theorem SqT.of {K:PySem.W.Frag}(h:H a=some (.tup xs)):SqT K H a xs:= .inl (.inl h)
theorem Inv.list (I:Inv X pins σ H s)(h:SqL X.K H a xs):∃its:List Value,Vals xs its/\PlainL s.heap a its.toArray/\xs.length<=sizeLine:=by
 rcases h with h|⟨o,its,n,L,M,hd,O,R,r⟩
 ·obtain⟨z,its,n,r,e⟩:=h.ok I.hok;exact⟨its,r,⟨_,n,e,rfl,rfl,rfl⟩,z⟩
 ·refine⟨its.toList,r,⟨o,n,I.kIn a o L,M,hd,by simpa using O⟩,?_⟩
  have e:=r.length;simp only [vr] at e;omega
theorem Inv.tuple (I:Inv X pins σ H s)(h:SqT X.K H a xs):∃its:List Value,Vals xs its/\IsTup s.heap a its.toArray/\xs.length<=sizeLine:=by
 rcases h with h|⟨o,its,n,L,M,O,R,r⟩
 ·obtain⟨z,its,r,p⟩:=h.ok I.hok;exact⟨its,r,p,z⟩
 ·refine⟨its.toList,r,⟨o,I.kIn a o L,M,n,by simpa using O⟩,?_⟩
  have e:=r.length;simp only [vr] at e;omega
theorem Inv.list_inj (I:Inv X pins σ H s)(h:SqL X.K H a xs)(h':SqL X.K H a ys):xs=ys:=by
 obtain⟨its,r,⟨o,n,e,_,_,d⟩,_⟩:=I.list h;obtain⟨its',M,⟨o',R,L,_,_,d'⟩,_⟩:=I.list h';rw [e] at L;cases L;rw [d] at d';injection d' with O _
 have:its=its':=by simpa using congrArg Array.toList O
 subst this;exact r.inj M
theorem Inv.tuple_inj (I:Inv X pins σ H s)(h:SqT X.K H a xs)(h':SqT X.K H a ys):xs=ys:=by
 obtain⟨its,r,⟨o,e,_,n,d⟩,_⟩:=I.tuple h;obtain⟨its',M,⟨o',L,_,R,d'⟩,_⟩:=I.tuple h';rw [e] at L;cases L;rw [d] at d';injection d' with O _
 have:its=its':=by simpa using congrArg Array.toList O
 subst this;exact r.inj M
end
abbrev Cx.wish (X:Cx)(E:Value->Shared->Prop):Cx:={X with xe:=E}
abbrev Cx.nox (X:Cx):Cx:=X.wish fun _ _=>False
theorem Cx.Ok.wish {X:Cx}(ok:X.Ok)(E:Value->Shared->Prop):(X.wish E).Ok:=
 ⟨ok.mod,ok.kind,ok.glob,ok.blt,ok.above,ok.inj,ok.has,ok.cab,ok.hd,ok.frames,ok.stk,ok.exf,ok.bs,ok.bsz,ok.noex,ok.exfs,ok.funs,ok.frf⟩
theorem Cx.Ok.unwish {X:Cx}{E:Value->Shared->Prop}(ok:(X.wish E).Ok):X.Ok:=
 ⟨ok.mod,ok.kind,ok.glob,ok.blt,ok.above,ok.inj,ok.has,ok.cab,ok.hd,ok.frames,ok.stk,ok.exf,ok.bs,ok.bsz,ok.noex,ok.exfs,ok.funs,ok.frf⟩
section
variable {X:Cx}{pins:List (Addr×Obj)}{σ:St}{H:Hp}{s:Shared}{E:Value->Shared->Prop}
theorem Inv.wish (I:Inv X pins σ H s)(E:Value->Shared->Prop):Inv (X.wish E) pins σ H s:=⟨I.ok.wish E,I.os,I.bare,I.base,I.loc,I.cell,I.free,I.freeC,I.pin,I.hok,I.len,I.tk⟩
theorem Inv.unwish (I:Inv (X.wish E) pins σ H s):Inv X pins σ H s:=⟨I.ok.unwish,I.os,I.bare,I.base,I.loc,I.cell,I.free,I.freeC,I.pin,I.hok,I.len,I.tk⟩
theorem SP.unwish {D:Ends}{f:Flow}{s':Shared}(h:SP (X.wish E) pins D f s'):SP X pins D f s':=by
 cases f with
 |next=>obtain⟨L,H',I,q⟩:=h;exact⟨L,H',I.unwish,q⟩
 |brk=>obtain⟨L,H',I,q⟩:=h;exact⟨L,H',I.unwish,q⟩
 |cont=>obtain⟨L,H',I,q⟩:=h;exact⟨L,H',I.unwish,q⟩
 |ret u=>obtain⟨v,L,H',I,r,q⟩:=h;exact⟨v,L,H',I.unwish,r,q⟩
theorem PSs.nox {st:List Stmt}{t:TS}(h:PSs X.nox st t):PSs X st t:=fun pins s σ H D I hw=>
 vj (h pins s σ H D (I.wish _) hw) (fun _ _ q=>q.unwish) fun _ _ z=>False.elim z
end
section
variable {X:Cx}{st:Stmt}{rest:List Stmt}{t u:TS}{e:Expr}{te:TE}{pos:Pos}
def tNext:TS:=fun D σ H=>D.nx σ H
def tSeq (t u:TS):TS:=fun D σ H=>t {D with nx:=u D} σ H
theorem qp:PSs X [] tNext:=fun _ _ σ H _ I h=>Ui ⟨σ,H,I,h⟩
theorem qc (h1:PS X st t)(h2:PSs X rest u):PSs X (st::rest) (tSeq t u):=by
 intro pins s σ H D I h;refine wpAny_execs_cons (thn (h1 pins s σ H {D with nx:=u D} I h) fun f s1 q=> ?_)
 cases f with
 |next=>
  obtain⟨L,H',M,q⟩:=q;exact h2 pins s1 L H' D M q
 |ret v=>exact q
 |brk=>exact q
 |cont=>exact q
theorem qf (h1:PS X st t):PSs X [st] t:=by
 intro pins s σ H D I h;refine wpAny_execs_cons (thn (h1 pins s σ H D I h) fun f s1 q=> ?_);cases f with
 |next=>exact Ui q
 |ret v=>exact q
 |brk=>exact q
 |cont=>exact q
def tCont:TS:=fun D σ H=>D.ct σ H
theorem ps_continue:PS X (.Continue pos) tCont:=fun _ _ σ H _ I h=>wpAny_Continue ⟨σ,H,I,h⟩
theorem Inv.quiet {pins:List (Addr×Obj)}{σ:St}{H:Hp}{s:Shared}(I:Inv X pins σ H s):interactive X.env=false:=by simp [interactive,I.ok.kind]
def tDrop (te:TE):TS:=fun D σ H=>te σ H fun _ H1=>D.nx σ H1
theorem yq (L:PE X e te)(M:swapsWith e none pos.line X.env=pure false:=by rfl):PS X (.Expr e pos) (tDrop te):=by
 intro pins s σ H D I h;exact wpAny_Expr_any (thn (L pins s σ H _ I h) fun v s1 ⟨x,H1,O,R,q1⟩=>⟨σ,H1,O,q1⟩) I.quiet M
def tRet (te:TE):TS:=fun D σ H=>te σ H D.rt
theorem ql (L:PE X e te):PS X (.Return (some e) pos) (tRet te):=by
 intro pins s σ H D I h;exact wpAny_Return_some (thn (L pins s σ H _ I h) fun v s1 ⟨x,H1,M,O,q1⟩=>⟨x,σ,H1,M,O,q1⟩)
def tRetN:TS:=fun D _ H=>D.rt .non H
theorem ps_retN:PS X (.Return none pos) tRetN:=fun _ _ σ H _ I h=>wpAny_Return_none ⟨.non,σ,H,I,rfl,h⟩
def tIfS (c:TT)(t u:TS):TS:=fun D σ H=>c σ H fun b H1=>if b=true then t D σ H1 else u D σ H1
theorem qH {c:Expr}{a b:List Stmt}{tc:TT}(M:PT X c tc)(ha:PSs X a t)(O:PSs X b u):PS X (.If c a b pos) (tIfS tc t u):=by
 intro pins s σ H D I h;refine wpAny_If (thn (M pins s σ H _ I h) fun d s1 ⟨H1,L,q1⟩=> ?_);cases d with
 |true=>exact ha pins s1 σ H1 D L q1
 |false=>exact O pins s1 σ H1 D L q1
def tNever:TS:=fun _ _ _=>False
theorem ps_never:PS X st tNever:=fun _ _ _ _ _ _ h=>h.elim
end
abbrev TG:=V->St->Hp->(St->Hp->Prop)->Prop
abbrev TGs:=List V->St->Hp->(St->Hp->Prop)->Prop
def PG (X:Cx)(target:Expr)(t:TG):Prop:=
 ∀(pins:List (Addr×Obj)) (s:Shared) (σ:St) (H:Hp) (v:V) (u:Value) (Q:St->Hp->Prop),Inv X pins σ H s->RelV v u->t v σ H Q->
  wpAny (model X.prog X.w) X.A (assign target X.env u) (fun _ s'=>∃σ' H',Inv X pins σ' H' s'/\Q σ' H') X.xe s
def PGs (X:Cx)(ts:List Expr)(t:TGs):Prop:=
 ∀(pins:List (Addr×Obj)) (s:Shared) (σ:St) (H:Hp) (vs:List V) (us:List Value) (Q:St->Hp->Prop),Inv X pins σ H s->Vals vs us->t vs σ H Q->
  wpAny (model X.prog X.w) X.A (assignInOrder ((assignEach ts X.env).map (·.2)) us) (fun _ s'=>∃σ' H',Inv X pins σ' H' s'/\Q σ' H') X.xe s
abbrev TSet:=V->V->V->Hp->(Hp->Prop)->Prop
def PSet (X:Cx)(t:TSet):Prop:=
 ∀(pins:List (Addr×Obj)) (s:Shared) (σ:St) (H:Hp) (o i v:V) (ov iv u:Value) (Q:Hp->Prop),Inv X pins σ H s->RelV o ov->RelV i iv->RelV v u->t o i v H Q->
  wpAny (model X.prog X.w) X.A (setItem ov iv u) (fun _ s'=>∃H',Inv X pins σ H' s'/\Q H') X.xe s
abbrev TIp:=V->V->Hp->VK->Prop
def PIp (X:Cx)(op:Operator)(t:TIp):Prop:=
 ∀(pins:List (Addr×Obj)) (s:Shared) (σ:St) (H:Hp) (x y:V) (v u:Value) (Q:VK),Inv X pins σ H s->RelV x v->RelV y u->t x y H Q->
  wpAny (model X.prog X.w) X.A (inplaceOp op v u) (EP X pins σ Q) X.xe s
section
variable {X:Cx}{pos:Pos}
def Y3 (i:Nat):TG:=fun v σ H Q=>Q (σ.set i (some v)) H
theorem qN {i:Nat}{x:Str}(L:X.N.Nodup)(hi:X.N[i]? =some x)(M:Loc X.env.scope x)(O:X.fn x=true∨X.env.scope.names.lookup x=some .local:=by first|exact .inl rfl|exact .inr rfl|assumption):PG X (.Name x pos) (Y3 i):=by
 intro pins s σ H v u Q I r h;exact wpAny_assign_Name (ZD I L hi M r (fun s' R=>⟨_,H,R,h⟩) O)
def gNil:TGs:=fun vs σ H Q=>vs= []/\Q σ H
def gCons (t:TG)(u:TGs):TGs:=fun vs σ H Q=>∃v r,vs=v::r/\t v σ H fun σ' H'=>u r σ' H' Q
theorem Y2:PGs X [] gNil:=by
 intro pins s σ H vs us Q I r h;obtain⟨e,h⟩:=h;subst e;cases r;exact assignInOrder_nil ⟨σ,H,I,h⟩
theorem Ql {e:Expr}{es:List Expr}{t:TG}{u:TGs}(h1:PG X e t)(h2:PGs X es u)
  (L:(assignEach (e::es) X.env).map (·.2)=assign e X.env::(assignEach es X.env).map (·.2):=by rfl):PGs X (e::es) (gCons t u):=by
 intro pins s σ H vs us Q I r h;obtain⟨v,Y,M,h⟩:=h;subst M;cases r with
 |cons r O=>
  rw [L];refine assignInOrder_cons (thn (h1 pins s σ H _ _ _ I r h) fun _ s1 ⟨R,H1,U,q1⟩=> ?_);exact h2 pins s1 R H1 _ _ Q U O q1
def gTup (K:PySem.W.Frag)(n:Nat)(t:TGs):TG:=fun v σ H Q=>∃a xs,v= .ref a/\SqT K H a xs/\xs.length=n/\t xs σ H Q
theorem XA {es:List Expr}{k:Nat}{t:TGs}{n:Nat}(O:X.calm=true)(h:PGs X es t)
  (hn:(assignEach es X.env).length=n:=by rfl) (L:(assignEach es X.env).findIdx? (·.1)=none:=by rfl):PG X (.Tuple es k pos) (gTup X.K n t):=by
 intro pins s σ H v u Q I r M;obtain⟨a,xs,R,U,Y,M⟩:=M;subst R;cases r;obtain⟨its,rv,Z,hz⟩:=I.tuple U;refine assign_Tuple_tuple (I.ok.hd O) Z (by simp [hn,<-Y,rv.length]) L fun h' hx=> ?_
 have I1:Inv X pins σ H {s with heap:=h'}:=I.kept (t':=s.toks) fun b o e=>hx b o (uM (uo e)) e
 exact h pins _ σ H xs _ Q I1 (by simpa using rv) M
def gSub (to ti:TE)(t:TSet):TG:=fun v σ H Q=>to σ H fun o H1=>ti σ H1 fun i H2=>t o i v H2 fun H3=>Q σ H3
theorem pg_sub {o i:Expr}{to O:TE}{t:TSet}(R:PE X o to)(hi:PE X i O)(U:PSet X t)
  (ha:∀v,assign (.Subscript o i pos) X.env v=(do
   let L<-holding [v] (eval o X.env)
   let M<-holding [v,L] (eval i X.env)
   standAt pos
   holding [v,L,M] (setItem L M v)
   release [v,L,M] []):=by intro _;rfl):PG X (.Subscript o i pos) (gSub to O t):=by
 intro pins s σ H v u Q I r h;rw [ha];refine wpAny_bind (wpAny_holding (thn (R pins s σ H _ I h) fun L s1 ⟨x,H1,Y,Z,q1⟩=> ?_));refine wpAny_bind (wpAny_holding (thn (hi pins s1 σ H1 _ Y q1) fun M s2 ⟨y,H2,I2,r2,q2⟩=> ?_));refine wpAny_bind (wpAny_standAt (wpAny_bind (wpAny_holding (thn (U pins s2 σ H2 x y v L M u _ I2 Z r2 r q2) fun _ s3 ⟨H3,I3,q3⟩=> ?_))));exact wpAny_release ⟨σ,H3,I3,q3⟩
def tAsg (te:TE)(g:TG):TS:=fun D σ H=>te σ H fun x H1=>g x σ H1 D.nx
theorem Xf {tg e:Expr}{te:TE}{g:TG}(L:PE X e te)(M:PG X tg g)(O:swapsWithSole [tg] e pos.line X.env=pure false:=by rfl)(R:swappedStores [tg] e X.env=pure none:=by rfl)
  (h1:(assignEach [tg] X.env).map (·.2)= [assign tg X.env]:=by rfl):PS X (.Assign [tg] e pos) (tAsg te g):=by
 intro pins s σ H D I h;refine wpAny_Assign_stores (thn (L pins s σ H _ I h) fun v s1 ⟨x,H1,U,Y,q1⟩=> ?_) O R;rw [h1];exact thn (M pins s1 σ H1 x v _ U Y q1) fun _ s2 q=>q
theorem qx {i:Nat}{x:Str}{e:Expr}{te:TE}{pos':Pos}(L:X.N.Nodup)(hi:X.N[i]? =some x)(M:Loc X.env.scope x)(O:PE X e te)(R:swapsWith e (some (.Name x pos')) pos.line X.env=pure false:=by rfl)(U:X.fn x=true∨X.env.scope.names.lookup x=some .local:=by first|exact .inl rfl|exact .inr rfl|assumption):
  PS X (.Assign [.Name x pos'] e pos) (tAsg te (Y3 i)):=by
 intro pins s σ H D I h;refine wpAny_Assign_Name (thn (O pins s σ H _ I h) fun v s1 ⟨y,H1,Y,Z,q1⟩=> ?_) R;exact ZD Y L hi M Z (fun s2 I2=>⟨_,H1,I2,q1⟩) U
def tAug (i:Nat)(te:TE)(ti:TIp):TS:=fun D σ H=>∃x,σ[i]? =some (some x)/\te σ H fun y H1=>ti x y H1 fun z H2=>D.nx (σ.set i (some z)) H2
theorem ps_aug {i:Nat}{x:Str}{e:Expr}{te:TE}{O:Operator}{Y:TIp}{pos':Pos}(Z:X.N.Nodup)(hi:X.N[i]? =some x)(R:Loc X.env.scope x)(he:PE X e te)(ho:PIp X O Y)(hf:X.fn x=true∨X.env.scope.names.lookup x=some .local:=by first|exact .inl rfl|exact .inr rfl|assumption):
  PS X (.AugAssign (.Name x pos') O e pos) (tAug i te Y):=by
 intro pins s σ H D I h;obtain⟨v,e1,h⟩:=h;obtain⟨m,hn,hl⟩:=I.loc;have U:Vis X.env.scope x:=by rcases R with k|k;exact .inl k;exact .inr (.inl k)
 obtain⟨u,r,l⟩:=hl i x v hi e1 U;refine wpAny_AugAssign_Name ?_;have go:wpAny (model X.prog X.w) X.A (eval e X.env) (fun w s₂=>wpAny (model X.prog X.w) X.A (inplaceOp O u w) (fun r s₃=>wpAny (model X.prog X.w) X.A (storeName X.env x r) (fun _=>SP X pins D .next) X.xe s₃) X.xe s₂) X.xe s:=by
  refine thn (he pins s σ H _ I h) fun w s1 ⟨y,H1,I1,r1,q1⟩=> ?_;refine thn (ho pins s1 σ H1 v y u w _ I1 r r1 q1) fun z s2 ⟨zv,H2,I2,r2,q2⟩=> ?_;exact ZD I2 Z hi R r2 (fun s3 I3=>⟨_,H2,I3,q2⟩) hf
 rcases l with⟨L,hm⟩|⟨L,c,hc,M⟩
 ·exact wpAny_loadName_local I.ok.kind L hn hm go
 ·rcases L with L|L
  ·exact wpAny_loadName_cell I.ok.kind L hc M go
  ·rcases R with k|k
   ·have:X.env.scope.names.lookup x=some .free:=L;rw [k] at this;cases this
   ·have:X.env.scope.names.lookup x=some .free:=L;rw [k] at this;cases this
def ipI (f:Int->Int->Int):TIp:=fun x y H Q=>∃i j,x= .int i/\y= .int j/\Q (.int (f i j)) H
theorem ip_add:PIp X .Add (ipI fun i j=>i+j):=by
 intro pins s σ H x y v u Q I L M h;obtain⟨i,j,O,R,q⟩:=h;subst O;subst R;obtain⟨t,rfl⟩:=L;obtain⟨t',rfl⟩:=M;exact iadd_int ⟨.int _,H,I.tok _,⟨_,rfl⟩,q⟩
def tWhile (c:TT)(tb:TS):TS:=fun D σ H=>∃W:Nat->St->Hp->Prop,(∃m,W m σ H)/\∀m σ H,W m σ H->
 c σ H fun b H1=>if b=true then∃N:St->Hp->Prop,(∀σ' H',N σ' H'->∃m',m'<m/\W m' σ' H')/\tb {D with nx:=N,ct:=N,bk:=D.nx} σ H1 else D.nx σ H1
theorem xy {c:Expr}{L:List Stmt}{tc:TT}{tb:TS}(hp:PassesOwn (model X.prog X.w) X.A X.env X.xe)(hc:PT X c tc)(hb:PSs X L tb):PS X (.While c L [] pos) (tWhile tc tb):=by
 intro pins s σ H D I h;obtain⟨W,⟨m0,w0⟩,M⟩:=h;refine wpAny_While (codeAny_whileLoop (fun n s'=>∃σ' H',Inv X pins σ' H' s'/\W n σ' H') ?_ m0 ⟨σ,H,I,w0⟩);rintro n s1 ⟨U,H1,I1,w1⟩;refine U1 hp (thn (hc pins s1 U H1 _ I1 (M n U H1 w1)) fun b s2 ⟨H2,I2,q2⟩=> ?_);cases b with
 |true=>
  obtain⟨N,hN,q2⟩:=q2;rw [if_pos rfl];refine U1 hp (thn (hb pins s2 U H2 _ I2 q2) fun f s3 q3=> ?_);cases f with
  |next=>
   obtain⟨O,R,Y,Z⟩:=q3;obtain⟨m',hm,w3⟩:=hN O R Z;exact⟨m',hm,O,R,Y,w3⟩
  |cont=>
   obtain⟨O,R,Y,Z⟩:=q3;obtain⟨m',hm,w3⟩:=hN O R Z;exact⟨m',hm,O,R,Y,w3⟩
  |brk=>exact q3
  |ret v=>exact q3
 |false=>
  rw [if_neg ua];exact Ui ⟨U,H2,I2,q2⟩
end
structure It where
 go:Nat->Hp->Prop
 yld:Nat->Hp->V->Hp->Prop
 stop:Nat->Hp->Prop
def FpOk (X:Cx)(pins:List (Addr×Obj))(H:Hp)(b:Addr):Prop:=
 H b=none/\b≠X.env.locals/\b∉X.fs/\(b∈X.ex∨X.s₀.heap.objs.size<=b)/\(∀x c,X.env.cells.lookup x=some c->c≠b)/\∀p∈X.pn++pins,p.1≠b
theorem Inv.fpOk {X:Cx}{pins:List (Addr×Obj)}{σ:St}{H H':Hp}{s:Shared}{b:Addr}(I:Inv X pins σ H s)(L:s.heap.objs.size<=b)(hn:H' b=none):FpOk X pins H' b:=by
 refine⟨hn,U7 (Nat.lt_of_lt_of_le I.lt L),I.nofs L,.inr (uK I.sz L),fun x c e z=> ?_,fun p M z=> ?_⟩
 ·obtain⟨v,q⟩:=I.cell x c e;exact absurd (Nat.lt_of_lt_of_le q.lt (by rw [z];exact L)) (vP _)
 ·exact absurd (Nat.lt_of_lt_of_le (uo (I.pin p M).1) (by rw [z];exact L)) (vP _)
structure Turn (P:Program)(w:World)(K:PySem.W.Frag)(tg:Expr)(J:It)(fp:List Addr)(it:Addr)(tn:Nat->Heap->Prop):Prop where
 mem:it∈fp
 obj:∀i h,tn i h->∀b∈fp,∃o,h.get? b=some o/\∀v,o.data≠ .cell v
 keep:∀i h h',tn i h->(∀b∈fp,∀o,h.get? b=some o->h'.get? b=some o)->tn i h'
 item:∀(X:Cx),X.prog=P->X.w=w->X.K=K->X.calm=true->∀(i:Nat) (pins:List (Addr×Obj)) (s:Shared) (σ:St) (H:Hp) (E:Value->Shared->Prop),Inv X pins σ H s->(∀b∈fp,FpOk X pins H b)->tn i s.heap->J.go i H->
  wpAny (model P w) X.A (pyNext (.ref it)) (fun r s1=>∃u,r=some u/\
   wpAny (model P w) X.A (letOwnedTupleGo tg (.ref it) u) (fun _ s2=>∃x H',Inv X pins σ H' s2/\RelV x u/\J.yld i H x H'/\tn (i+1) s2.heap/\∀b∈fp,H' b=none) E s1) E s
 done:∀(X:Cx),X.prog=P->X.w=w->X.K=K->X.calm=true->∀(i:Nat) (pins:List (Addr×Obj)) (s:Shared) (σ:St) (H:Hp) (E:Value->Shared->Prop),Inv X pins σ H s->(∀b∈fp,FpOk X pins H b)->tn i s.heap->J.stop i H->
  wpAny (model P w) X.A (pyNext (.ref it)) (fun r s1=>r=none/\Inv X pins σ H s1) E s
 self:∀(A:Around) (i:Nat) (s:Shared) (Q:Value->Shared->Prop) (E:Value->Shared->Prop),tn i s.heap->Q (.ref it) s->wpAny (model P w) A (pyIter (.ref it)) Q E s
abbrev TI:=St->Hp->(It->Hp->Prop)->Prop
def PIE (X:Cx)(pins:List (Addr×Obj))(σ:St)(tg:Expr)(R:It->Hp->Prop)(itv:Value)(s2:Shared):Prop:=
 ∃(it:Addr) (fp:List Addr) (tn:Nat->Heap->Prop) (J:It) (H':Hp),itv= .ref it/\Inv X pins σ H' s2/\Turn X.prog X.w X.K tg J fp it tn/\tn 0 s2.heap/\(∀b∈fp,FpOk X pins H' b)/\R J H'
def PI (X:Cx)(tg iter:Expr)(wi:TI):Prop:=
 ∀(pins:List (Addr×Obj)) (s:Shared) (σ:St) (H:Hp) (R:It->Hp->Prop),Inv X pins σ H s->wi σ H R->
  wpAny (model X.prog X.w) X.A (eval iter X.env) (fun v s1=>wpAny (model X.prog X.w) X.A (pyIter v) (PIE X pins σ tg R) X.xe s1) X.xe s
theorem go_of {M:Model}{A:Around}{E:Value->Shared->Prop}{s:Shared}{tg:Expr}{it:Addr}{u:Value}{o:Obj}{n:String}{vs:Array Value}{Q:Unit->Shared->Prop}(L:s.heap.get? it=some o)(O:o.cls= .type n)(hd:o.data= .fields vs)
  (hn: ["enumerate","zip","dict_itemiterator","dict_reverseitemiterator","odict_iterator","itertools.zip_longest","itertools.pairwise"].contains n=false) (I:Q Unit.unit s):wpAny M A (letOwnedTupleGo tg (.ref it) u) Q E s:=by
 unfold letOwnedTupleGo;cases tg<;>first
  |exact uj I
  |(cases u<;>first
    |exact uj I
    |(refine wpAny_bind (wpAny_load L ?_)
      rw [O,hd];show wpAny M A (if(["enumerate","zip","dict_itemiterator","dict_reverseitemiterator","odict_iterator","itertools.zip_longest","itertools.pairwise"].contains n&&vs[0]? ==some (rawInt _))=true then _ else _) Q E s
      rw [if_neg (by intro h;rw [hn,U0] at h;cases h)]
      exact uj I))
def Itt (K:PySem.W.Frag)(a:Addr):It:=
 ⟨fun i H=>∃xs x,SqT K H a xs/\xs[i]? =some x,fun i H x H'=>H'=H/\∀xs,SqT K H a xs->xs[i]? =some x,fun i H=>∃xs,SqT K H a xs/\xs.length<=i⟩
def Itr (lo:Int)(n:Nat):It:=⟨fun i _=>i<n,fun i H x H'=>H'=H/\x= .int (lo+i),fun i _=>n<=i⟩
theorem zi {P:Program}{w:World}{K:PySem.W.Frag}{tg:Expr}(a it:Addr):Turn P w K tg (Itt K a) [it] it (fun i h=>h.IsTupleIter it a i) where
 mem:=by simp
 obj:=fun i h st b L=>by
  have e:b=it:=by simpa using L
  subst e;obtain⟨o,e,c,d⟩:=st;exact⟨o,e,fun v z=>by rw [d] at z;cases z⟩
 keep:=fun i h h' st k=>st.at fun o e=>k it (by simp) o e
 item:=by
  intro X U Y Z hc i pins s σ H E I O st hg;subst U Y Z;obtain⟨xs,x,R,hx⟩:=hg;obtain⟨its,rv,p,hz⟩:=I.tuple R;obtain⟨u,hu,ru⟩:=rv.get hx;obtain⟨f0,f1,f2,f3,f4,f5⟩:=O it (by simp)
  refine wpAny_pyNext_tuple_item st (show s.heap.IsTuple a its.toArray from p) (x:=u) (by simpa using hu) fun h' M sb=> ?_
  have I1:Inv X pins σ H {s with heap:=h'}:=I.turned (t':=s.toks) (fun b o L e=>(sb.2 b L).trans e) f0 f1 f3 f4 f5
  obtain⟨o,e,c,d⟩:=id M;exact⟨u,rfl,go_of (s:={s with heap:=h'}) e c d (by decide) ⟨x,H,I1,ru,⟨rfl,fun ys hy=>by rw [I.tuple_inj hy R];exact hx⟩,M,fun b L=>(O b L).1⟩⟩
 done:=by
  intro X U Y Z hc i pins s σ H E I O st hg;subst U Y Z;obtain⟨xs,R,hx⟩:=hg;obtain⟨its,rv,p,hz⟩:=I.tuple R;obtain⟨f0,f1,f2,f3,f4,f5⟩:=O it (by simp)
  have hl:=rv.length;exact wpAny_pyNext_tuple_end (I.ok.hd hc) st (show s.heap.IsTuple a its.toArray from p) (by simp;omega) fun h' eb=>⟨rfl,I.turned (t':=s.toks) (fun b o L e=>eb b o L e) f0 f1 f3 f4 f5⟩
 self:=fun _ _ _ _ _ st h=>wpAny_pyIter_tupleiter st h
theorem turn_range {P:Program}{w:World}{K:PySem.W.Frag}{tg:Expr}(it:Addr)(lo:Int)(n:Nat):Turn P w K tg (Itr lo n) [it] it (fun i h=>IsRangeIter h it (lo+(i:Nat)*1) ((n:Int)-(i:Nat)) 1) where
 mem:=by simp
 obj:=fun i h st b L=>by
  have e:b=it:=by simpa using L
  subst e;exact⟨_,st,fun v z=>by
   have z':Data.fields _=Data.cell v:=z;cases z'⟩
 keep:=fun i h h' st k=>k it (by simp) _ st
 item:=by
  intro X R U Y Z i pins s σ H E I O st hg;subst R U Y;obtain⟨f0,f1,f2,f3,f4,f5⟩:=O it (by simp)
  have W:=Walks.range (prog:=X.prog) (w:=X.w) (I.ok.hd Z) it lo 1 n;refine uU (n:=1) I.tk (W.item i s _ _ hg st fun v h' tk hv M kk=> ?_);intro htk;obtain⟨t,rfl⟩:=hv;have I1:Inv X pins σ H {s with heap:=h',toks:=tk}:=I.turned (fun b o L e=>kk b o (by simpa using L) e) f0 f1 f3 f4 f5
  refine⟨_,rfl,go_of (s:={s with heap:=h',toks:=tk}) (n:="range_iterator") M rfl rfl (by decide) ⟨.int (lo+i),H,I1,⟨t,?_⟩,⟨rfl,rfl⟩,M,fun b L=>(O b L).1⟩⟩
  rw [Int.mul_one]
 done:=by
  intro X R U Y Z i pins s σ H E I O st hg;subst R U Y;obtain⟨f0,f1,f2,f3,f4,f5⟩:=O it (by simp)
  exact wpAny_pyNext_range_end (I.ok.hd Z) st (by have:n<=i:=hg;omega) fun h' eb=>⟨rfl,I.turned (t':=s.toks) (fun b o L e=>eb b o L e) f0 f1 f3 f4 f5⟩
 self:=fun _ _ _ _ _ st h=>wpAny_pyIter_rangeiter st h
section
variable {X:Cx}{tg:Expr}
def iTup (K:PySem.W.Frag)(tl:TE):TI:=fun σ H R=>tl σ H fun x H1=>∃a,x= .ref a/\(∃xs,SqT K H1 a xs)/\R (Itt K a) H1
theorem pi_tup {l:Expr}{tl:TE}(M:PE X l tl):PI X tg l (iTup X.K tl):=by
 intro pins s σ H R I h;refine thn (M pins s σ H _ I h) fun v s1 ⟨x,H1,L,O,q1⟩=> ?_;obtain⟨a,e,⟨xs,U⟩,q⟩:=q1;subst e;cases O;obtain⟨its,rv,p,Z⟩:=L.tuple U;refine vU (show s1.heap.IsTuple a its.toArray from p) ?_
 refine⟨s1.heap.objs.size,[s1.heap.objs.size],_,_,H1,rfl,L.kept (t':=s1.toks) fun b o e=>ub _ e,zi a _,⟨_,uw _ rfl,rfl,rfl⟩,fun b Y=> ?_,q⟩;have e:b=s1.heap.objs.size:=by simpa using Y
 subst e;exact L.fpOk (ui _) (L.hok.fresh (ui _))
theorem range_it {pins:List (Addr×Obj)}{σ:St}{H:Hp}{s:Shared}{R:It->Hp->Prop}{E:Value->Shared->Prop}{lo hi:Int}{t u v:Tok}{tk:Nat}(I:Inv X pins σ H s)(h1: -(2^62)<=lo)(h2:lo<2^62)(M: -(2^62)<=hi)(h4:hi<2^62)
  (q:R (Itr lo (hi-lo).toNat) H) (htk:0<tk:=by((try dsimp only);first|assumption|exact Inv.tk (by assumption)|exact Nat.succ_pos _|exact Nat.lt_of_lt_of_le (Inv.tk (by assumption)) (by assumption)|exact Nat.add_pos_left (Inv.tk (by assumption)) _|omega)):wpAny (model X.prog X.w) X.A (pyIter (.ref s.heap.objs.size)) (PIE X pins σ tg R) E {s with heap:=s.heap.push {cls:= .type "range",data:= .fields #[.int lo t,.int hi u,.int 1 v]},toks:=tk}:=by
 refine wpAny_pyIter_range (IsRange.new ..) (small_one h1 h2 M h4) ?_;have L:Inv X pins σ H {s with heap:=s.heap.push {cls:= .type "range",data:= .fields #[.int lo t,.int hi u,.int 1 v]},toks:=tk}:=I.kept fun b o e=>ub _ e
 refine⟨(s.heap.push {cls:= .type "range",data:= .fields #[.int lo t,.int hi u,.int 1 v]}).objs.size,[(s.heap.push {cls:= .type "range",data:= .fields #[.int lo t,.int hi u,.int 1 v]}).objs.size],_,_,H,rfl,
  L.kept (t':=tk) fun b o e=>ub _ e,turn_range _ lo (hi-lo).toNat,?_,fun b O=> ?_,q⟩
 ·have U:lo+((0:Nat):Int)*1=lo:=by simp
  have Y:(((hi-lo).toNat:Nat):Int)-((0:Nat):Int)=Builtin.Range.rangeSize lo hi 1:=by rw [rangeSize_one];split<;>omega
  show IsRangeIter _ _ (lo+((0:Nat):Int)*1) ((((hi-lo).toNat:Nat):Int)-((0:Nat):Int)) 1;rw [U,Y];exact uw _ rfl
 ·have e:b=(s.heap.push {cls:= .type "range",data:= .fields #[.int lo t,.int hi u,.int 1 v]}).objs.size:=by simpa using O
  subst e;exact L.fpOk (ui _) (L.hok.fresh (ui _))
def iRng1 (ta:TA):TI:=fun σ H R=>ta σ H fun vs H1=>∃j:Int,vs= [.int j]/\ -(2^62)<=j/\j<2^62/\R (Itr 0 j.toNat) H1
def iRng2 (ta:TA):TI:=fun σ H R=>ta σ H fun vs H1=>∃i j:Int,vs= [.int i,.int j]/\(-(2^62)<=i/\i<2^62/\ -(2^62)<=j/\j<2^62)/\R (Itr i (j-i).toNat) H1
theorem yf {a:Expr}{ta:TA}{p pos:Pos}(L:Gl X "range")(hm:X.mg "range"=none)(ha:PA X [a] ta)(M:starEach [a] X.env= [(false,eval a X.env)]:=by rfl):PI X tg (.Call (.Name "range" p) [a] [] pos) (iRng1 ta):=by
 intro pins s σ H R I h;refine Call_ (XI I L hm boot_range (vx (thn (ha pos pins s σ H _ I h) fun us s1 ⟨vs,H1,O,U,q1⟩=> ?_) M rfl));obtain⟨j,e,q1,q2,q⟩:=q1;subst e;cases U with
 |cons r Y=>
  cases Y;obtain⟨t,rfl⟩:=r;exact call_range_1 (range_it O (by omega) (by omega) q1 q2 (by simpa using q))
theorem pi_range2 {a b:Expr}{ta:TA}{p pos:Pos}(O:Gl X "range")(hm:X.mg "range"=none)(ha:PA X [a,b] ta)(U:starEach [a,b] X.env= [(false,eval a X.env),(false,eval b X.env)]:=by rfl)(L:starEach [b] X.env= [(false,eval b X.env)]:=by rfl):
  PI X tg (.Call (.Name "range" p) [a,b] [] pos) (iRng2 ta):=by
 intro pins s σ H R I h;refine Call_ (XI I O hm boot_range (vx (thn (ha pos pins s σ H _ I h) fun us s1 ⟨vs,H1,Y,Z,q1⟩=> ?_) (by rw [U,L]) (by rw [L];rfl)))
 obtain⟨i,j,e,⟨q1,q2,q3,q4⟩,q⟩:=q1;subst e;cases Z with
 |cons r M=>
  cases M with
  |cons r' M=>
   cases M;obtain⟨t,rfl⟩:=r;obtain⟨t',rfl⟩:=r';exact call_range_2 (range_it Y q1 q2 q3 q4 q)
def tFor (wi:TI)(g:TG)(tb:TS):TS:=fun D σ H=>wi σ H fun J H1=>∃W:Nat->Nat->St->Hp->Prop,(∃m,W 0 m σ H1)/\∀i m σ H,W i m σ H->
 (J.stop i H/\D.nx σ H)∨(J.go i H/\∃N:St->Hp->Prop,(∀σ' H',N σ' H'->∃m',m'<m/\W (i+1) m' σ' H')/\∀x H',J.yld i H x H'->g x σ H' fun σ2 H2=>tb {D with nx:=N,ct:=N,bk:=D.nx} σ2 H2)
def pinsAt (fp:List Addr)(h:Heap):List (Addr×Obj):=fp.filterMap fun b=>(h.get? b).map fun o=>(b,o)
theorem je {fp:List Addr}{h:Heap}{b:Addr}{o:Obj}(I:b∈fp)(e:h.get? b=some o):(b,o)∈pinsAt fp h:=List.mem_filterMap.mpr ⟨b,I,by rw [e];rfl⟩
theorem of_pinsAt {fp:List Addr}{h:Heap}{p:Addr×Obj}(I:p∈pinsAt fp h):p.1∈fp/\h.get? p.1=some p.2:=by
 obtain⟨b,L,e⟩:=List.mem_filterMap.mp I;cases q:h.get? b with
 |none=>rw [q] at e;cases e
 |some o=>
  rw [q] at e;have M:(b,o)=p:=uR e;subst M;exact⟨L,q⟩
theorem Inv.pinned {pins:List (Addr×Obj)}{σ:St}{H:Hp}{s:Shared}{fp:List Addr}(I:Inv X pins σ H s)(O:∀b∈fp,FpOk X pins H b)(R:∀b∈fp,∃o,s.heap.get? b=some o/\∀v,o.data≠ .cell v):Inv X (pins++pinsAt fp s.heap) σ H s:=
 I.pins_of fun p U=>(List.mem_append.mp U).elim (fun z=>I.pin p (uS _ z)) fun z=>by
  obtain⟨L,e⟩:=of_pinsAt z;obtain⟨Y,Z,f2,_⟩:=O p.1 L;obtain⟨o,M,d⟩:=R p.1 L;rw [e] at M;cases M;exact⟨e,Y,Z,f2,d⟩
theorem Inv.unpinned {pins pl:List (Addr×Obj)}{σ:St}{H:Hp}{s:Shared}(I:Inv X (pins++pl) σ H s):Inv X pins σ H s:=I.pins_of fun p L=>I.pin p (uS _ (List.mem_append_left _ L))
theorem js {L:Expr}{aa:List Stmt}{wi:TI}{g:TG}{tb:TS}{pos:Pos}(hp:PassesOwn (model X.prog X.w) X.A X.env X.xe)(hc:X.calm=true)(hi:PI X tg L wi)(hg:PG X tg g)(M:PSs X aa tb)
  (hs:∀x,foldedSetIterable L X.env x=pure x:=by intro _;rfl):PS X (.For tg L aa [] pos) (tFor wi g tb):=by
 intro pins s σ H D I h;refine wpAny_For (thn (hi pins s σ H _ I h) fun v s1 h1=>thn h1 fun ak s2 h2=> ?_) hs;obtain⟨it,fp,tn,J,H2,e,I2,T,af,f2,W,⟨m0,w0⟩,ac⟩:=h2;subst e;have O:∀{H':Hp},(∀b∈fp,H' b=none)->∀b∈fp,FpOk X pins H' b:=fun hn b M=>⟨hn b M,(f2 b M).2⟩;refine codeAny_forLoop_any (fun n s'=>∃i σ' H',Inv X pins σ' H' s'/\tn i s'.heap/\(∀b∈fp,H' b=none)/\W i n σ' H') ?_ m0 ⟨0,σ,H2,I2,af,fun b M=>(f2 b M).1,w0⟩;rintro n s3 ⟨i,σ3,H3,I3,ad,ae,w3⟩;rcases ac i n σ3 H3 w3 with⟨stop,qn⟩|⟨go,N,hN,step⟩
 ·refine U1 hp (thn (T.done X rfl rfl rfl hc i pins s3 σ3 H3 X.xe I3 (O ae) ad stop) fun r s4 ⟨hr,I4⟩=> ?_);subst hr;exact Ui ⟨σ3,H3,I4,qn⟩
 ·refine U1 hp (thn (T.item X rfl rfl rfl hc i pins s3 σ3 H3 X.xe I3 (O ae) ad go) fun r s4 ⟨u,hr,h4⟩=> ?_);subst hr;refine U1 hp (thn h4 fun _ s5 ⟨x,H5,I5,r5,y5,ab,ag⟩=> ?_);have ah:=I5.pinned (O ag) (T.obj _ _ ab);refine U1 hp (thn (hg _ s5 σ3 H5 x u _ ah r5 (step x H5 y5)) fun _ s6 ⟨σ6,H6,I6,q6⟩=> ?_);refine U1 hp (thn (M _ s6 σ6 H6 _ I6 q6) fun f s7 q7=> ?_);have R:∀{U:St}{Y:Hp},Inv X (pins++pinsAt fp s5.heap) U Y s7->N U Y->∃m,m<n/\∃i σ' H',Inv X pins σ' H' s7/\tn i s7.heap/\(∀b∈fp,H' b=none)/\W i m σ' H':=fun{U Y} Z n7=>by
   obtain⟨m',hm,w7⟩:=hN U Y n7;refine⟨m',hm,i+1,U,Y,Z.unpinned,T.keep _ _ _ ab fun b M o e=>(Z.pin (b,o) (uS _ (uS _ (je M e)))).1,fun b M=> ?_,w7⟩;obtain⟨o,e,d⟩:=T.obj _ _ ab b M;exact(Z.pin (b,o) (uS _ (uS _ (je M e)))).2.1
  cases f with
  |next=>obtain⟨U,Y,Z,n7⟩:=q7;exact R Z n7
  |cont=>obtain⟨U,Y,Z,n7⟩:=q7;exact R Z n7
  |brk=>obtain⟨U,Y,Z,q7⟩:=q7;exact⟨U,Y,Z.unpinned,q7⟩
  |ret v=>obtain⟨x7,U,Y,Z,r7,q7⟩:=q7;exact⟨x7,U,Y,Z.unpinned,r7,q7⟩
end
theorem for_tup {K:PySem.W.Frag}{a:Addr}{xs:List V}{g:TG}{tb:TS}{D:Ends}{σ:St}{H:Hp}(I:Nat->St->Hp->Prop)(U:I 0 σ H)(Y:∀i σ H,i<=xs.length->I i σ H->SqT K H a xs)
  (Z:∀i x σ H,xs[i]? =some x->I i σ H->g x σ H fun M H2=>tb {D with nx:=I (i+1),ct:=I (i+1),bk:=D.nx} M H2) (hd:∀σ H,I xs.length σ H->D.nx σ H):
  ∃W:Nat->Nat->St->Hp->Prop,(∃m,W 0 m σ H)/\∀i m σ H,W i m σ H->
   ((Itt K a).stop i H/\D.nx σ H)∨((Itt K a).go i H/\∃N:St->Hp->Prop,(∀O H',N O H'->∃R,R<m/\W (i+1) R O H')/\∀x H',(Itt K a).yld i H x H'->g x σ H' fun M H2=>tb {D with nx:=N,ct:=N,bk:=D.nx} M H2):=by
 refine⟨fun i m σ H=>m=xs.length-i/\i<=xs.length/\I i σ H,⟨xs.length,by simp,uD _,U⟩,?_⟩
 rintro i m σ H ⟨rfl,hi,p⟩;have q:=Y i σ H hi p;by_cases L:i<xs.length
 ·refine .inr ⟨⟨xs,xs[i],q,by simp [L]⟩,I (i+1),fun O H' p'=>⟨xs.length-(i+1),by omega,rfl,L,p'⟩,fun x H' y=> ?_⟩
  obtain⟨e,y⟩:=y;subst e;exact Z i x σ _ (y xs q) p
 ·have e:i=xs.length:=by omega
  subst e;exact .inl ⟨⟨xs,q,ui _⟩,hd σ H p⟩
theorem Ya {lo:Int}{n:Nat}{g:TG}{tb:TS}{D:Ends}{σ:St}{H:Hp}(I:Nat->St->Hp->Prop)(U:I 0 σ H)
  (Y:∀i σ H,i<n->I i σ H->g (.int (lo+i)) σ H fun M H2=>tb {D with nx:=I (i+1),ct:=I (i+1),bk:=D.nx} M H2) (hd:∀σ H,I n σ H->D.nx σ H):
  ∃W:Nat->Nat->St->Hp->Prop,(∃m,W 0 m σ H)/\∀i m σ H,W i m σ H->
   ((Itr lo n).stop i H/\D.nx σ H)∨((Itr lo n).go i H/\∃N:St->Hp->Prop,(∀O H',N O H'->∃R,R<m/\W (i+1) R O H')/\∀x H',(Itr lo n).yld i H x H'->g x σ H' fun M H2=>tb {D with nx:=N,ct:=N,bk:=D.nx} M H2):=by
 refine⟨fun i m σ H=>m=n-i/\i<=n/\I i σ H,⟨n,by simp,uD _,U⟩,?_⟩
 rintro i m σ H ⟨rfl,hi,p⟩;by_cases L:i<n
 ·refine .inr ⟨L,I (i+1),fun O H' Z=>⟨n-(i+1),by omega,rfl,L,Z⟩,fun x H' y=> ?_⟩
  obtain⟨e,y⟩:=y;subst e y;exact Y i σ _ L p
 ·have e:i=n:=by omega
  subst e;exact .inl ⟨ui _,hd σ H p⟩
abbrev R2:=V->V->Hp->VK->Prop
def OpR (X:Cx)(f:Value->Value->Sem Value)(r:R2):Prop:=
 ∀(pins:List (Addr×Obj)) (s:Shared) (σ:St) (H:Hp) (x y:V) (v u:Value) (Q:VK),Inv X pins σ H s->RelV x v->RelV y u->r x y H Q->
  wpAny (model X.prog X.w) X.A (f v u) (EP X pins σ Q) X.xe s
def UnR (X:Cx)(f:Value->Sem Value)(r:V->Hp->VK->Prop):Prop:=
 ∀(pins:List (Addr×Obj)) (s:Shared) (σ:St) (H:Hp) (x:V) (v:Value) (Q:VK),Inv X pins σ H s->RelV x v->r x H Q->
  wpAny (model X.prog X.w) X.A (f v) (EP X pins σ Q) X.xe s
def Yh (X:Cx)(f:Value)(r:List V->Hp->VK->Prop):Prop:=
 ∀(pins:List (Addr×Obj)) (s:Shared) (σ:St) (H:Hp) (xs:List V) (us:List Value) (Q:VK),Inv X pins σ H s->Vals xs us->r xs H Q->
  wpAny (model X.prog X.w) X.A (call f us) (EP X pins σ Q) X.xe s
def TruR (X:Cx)(r:V->Hp->(Bool->Hp->Prop)->Prop):Prop:=
 ∀(pins:List (Addr×Obj)) (s:Shared) (σ:St) (H:Hp) (x:V) (v:Value) (Q:Bool->Hp->Prop),Inv X pins σ H s->RelV x v->r x H Q->
  wpAny (model X.prog X.w) X.A (truthy v) (TP X pins σ Q) X.xe s
def tOp (r:R2)(ta tb:TE):TE:=fun σ H Q=>ta σ H fun x H1=>tb σ H1 fun y H2=>r x y H2 Q
def tUn (r:V->Hp->VK->Prop)(ta:TE):TE:=fun σ H Q=>ta σ H fun x H1=>r x H1 Q
def rI (C:Int->Int->Prop)(g:Int->Int->V):R2:=fun x y H Q=>∃i j,x= .int i/\y= .int j/\C i j/\Q (g i j) H
def rI0 (g:Int->Int->V):R2:=fun x y H Q=>∃i j,x= .int i/\y= .int j/\Q (g i j) H
def rU (g:Int->V):V->Hp->VK->Prop:=fun x H Q=>∃i,x= .int i/\Q (g i) H
section
variable {X:Cx}{a b c:Expr}{ta tb tc:TE}{pos:Pos}
theorem binT (ha:PE X a ta)(L:PE X b tb){pins:List (Addr×Obj)}{s:Shared}{σ:St}{H:Hp}{R:V->V->Hp->Prop}(I:Inv X pins σ H s)
  (h:ta σ H fun x H1=>tb σ H1 fun y H2=>R x y H2) {Q:Value->Shared->Prop}{f:Value->Value->Sem Value}
  (M:∀v u s2 x y H2,Inv X pins σ H2 s2->RelV x v->RelV y u->R x y H2->wpAny (model X.prog X.w) X.A (f v u) Q X.xe s2):
  wpAny (model X.prog X.w) X.A (eval a X.env) (fun v O=>wpAny (model X.prog X.w) X.A (eval b X.env) (fun u U=>wpAny (model X.prog X.w) X.A (f v u) Q X.xe U) X.xe O) X.xe s:=by
 refine thn (ha pins s σ H _ I h) fun v s1 ⟨x,H1,Y,Z,q1⟩=> ?_;refine thn (L pins s1 σ H1 _ Y q1) fun u s2 ⟨y,H2,I2,r2,q2⟩=> ?_;exact M v u s2 x y H2 I2 Z r2 q2
theorem qO {L:Operator}{r:R2}(M:OpR X (binaryOp L) r)(ha:PE X a ta)(O:PE X b tb):PE X (.BinOp a L b pos) (tOp r ta tb):=by
 intro pins s σ H Q I h;exact wpAny_BinOp (binT ha O I h fun v u s2 x y H2 R U Y q=>M pins s2 σ H2 x y v u Q R U Y q)
theorem pe_un {L:UnaryOp}{r:V->Hp->VK->Prop}(M:UnR X (unaryOp L) r)(ha:PE X a ta):PE X (.UnaryOp L a pos) (tUn r ta):=by
 intro pins s σ H Q I h;exact UnaryOp_ (thn (ha pins s σ H _ I h) fun v s1 ⟨x,H1,O,R,q1⟩=>M pins s1 σ H1 x v Q O R q1)
theorem opI {f:Value->Value->Sem Value}{C:Int->Int->Prop}{g:Int->Int->Int}
  (rule:∀(i j:Int) (t u:Tok) (s:Shared) (Q:Value->Shared->Prop) (E:Value->Shared->Prop),C i j->Q (.int (g i j) s.toks) {s with toks:=s.toks+1}->wpAny (model X.prog X.w) X.A (f (.int i t) (.int j u)) Q E s):
  OpR X f (rI C fun i j=> .int (g i j)):=by
 intro pins s σ H x y v u Q I L M h;obtain⟨i,j,rfl,rfl,O,q⟩:=h;obtain⟨t,rfl⟩:=L;obtain⟨t',rfl⟩:=M;exact rule i j t t' s _ _ O ⟨.int (g i j),H,I.tok _,⟨_,rfl⟩,q⟩
theorem opI0 {f:Value->Value->Sem Value}{g:Int->Int->Int}
  (rule:∀(i j:Int) (t u:Tok) (s:Shared) (Q:Value->Shared->Prop) (E:Value->Shared->Prop),Q (.int (g i j) s.toks) {s with toks:=s.toks+1}->wpAny (model X.prog X.w) X.A (f (.int i t) (.int j u)) Q E s):
  OpR X f (rI0 fun i j=> .int (g i j)):=by
 intro pins s σ H x y v u Q I L M h;obtain⟨i,j,rfl,rfl,q⟩:=h;obtain⟨t,rfl⟩:=L;obtain⟨t',rfl⟩:=M;exact rule i j t t' s _ _ ⟨.int (g i j),H,I.tok _,⟨_,rfl⟩,q⟩
theorem opB0 {f:Value->Value->Sem Value}{g:Int->Int->Bool}
  (rule:∀(i j:Int) (t u:Tok) (s:Shared) (Q:Value->Shared->Prop) (E:Value->Shared->Prop),Q (.bool (g i j)) s->wpAny (model X.prog X.w) X.A (f (.int i t) (.int j u)) Q E s):
  OpR X f (rI0 fun i j=> .bl (g i j)):=by
 intro pins s σ H x y v u Q I L M h;obtain⟨i,j,rfl,rfl,q⟩:=h;obtain⟨t,rfl⟩:=L;obtain⟨t',rfl⟩:=M;exact rule i j t t' s _ _ ⟨.bl (g i j),H,I,rfl,q⟩
def CDiv (i j:Int):Prop:=0<j/\j<1073741824
def CPow (i j:Int):Prop:=0<=j/\j<=1000000/\i.natAbs<2^64
def CMul (i j:Int):Prop:=(-(2^64)<i/\i<2^64)∨(-(2^64)<j/\j<2^64)
theorem CMul.ok {i j:Int}(h:CMul i j):IntMulOk i j:=by
 rcases h with⟨h1,h2⟩|⟨h1,h2⟩
 ·exact .of_left (intBits_le_64 h1 h2)
 ·exact .of_right (intBits_le_64 h1 h2)
theorem Qd:OpR X (binaryOp .Add) (rI0 fun i j=> .int (i+j)):=opI0 fun _ _ _ _ _ _ _ q=>add_int q
theorem op_sub:OpR X (binaryOp .Sub) (rI0 fun i j=> .int (i-j)):=opI0 fun _ _ _ _ _ _ _ q=>sub_int q
theorem zU:OpR X (binaryOp .Mult) (rI CMul fun i j=> .int (i*j)):=opI fun _ _ _ _ _ _ _ I q=>mul_int q I.ok
theorem op_fdiv:OpR X (binaryOp .FloorDiv) (rI CDiv fun i j=> .int (i/j)):=opI fun i j _ _ _ _ _ I q=>by
 have h1:(0:Int)<j:=I.1;have h2:j<1073741824:=I.2;exact floordiv_int (by omega) (by rw [Int.fdiv_eq_ediv_of_nonneg i (by omega)];exact q) (.inl (PyProof.noPylong_small (by omega)))
theorem zf:OpR X (binaryOp .Mod) (rI (fun _ j=>0<j) fun i j=> .int (i%j)):=opI fun i j _ _ _ _ _ I q=>by
 have h1:(0:Int)<j:=I;exact mod_int' (by omega) (by rw [Int.fmod_eq_emod_of_nonneg i (by omega)];exact q)
theorem op_pow:OpR X (binaryOp .Pow) (rI CPow fun i j=> .int (i^j.toNat)):=opI fun _ _ _ _ _ _ _ I q=>pow_int_small I.1 I.2.1 I.2.2 q
theorem unI {f:Value->Sem Value}{g:Int->Int}
  (rule:∀(i:Int) (t:Tok) (s:Shared) (Q:Value->Shared->Prop) (E:Value->Shared->Prop),Q (.int (g i) s.toks) {s with toks:=s.toks+1}->wpAny (model X.prog X.w) X.A (f (.int i t)) Q E s):
  UnR X f (rU fun i=> .int (g i)):=by
 intro pins s σ H x v Q I L h;obtain⟨i,rfl,q⟩:=h;obtain⟨t,rfl⟩:=L;exact rule i t s _ _ ⟨.int (g i),H,I.tok _,⟨_,rfl⟩,q⟩
theorem un_neg:UnR X (unaryOp .USub) (rU fun i=> .int (-i)):=unI fun _ _ _ _ _ q=>neg_int q
noncomputable def scal:V->V->Bool
 | .non,.non=>true| .non,.int _=>true| .int _,.non=>true| .non,.bl _=>true| .bl _,.non=>true| .non,.str _=>true| .str _,.non=>true
 | .int _,.int _=>true| .bl _,.bl _=>true| .str _,.str _=>true| .byt _,.byt _=>true
 | .int _,.str _=>true| .str _,.int _=>true| .bl _,.str _=>true| .str _,.bl _=>true
 |_,_=>false
def rEq:R2:=fun x y H Q=>scal x y=true/\Q (.bl (decide (x=y))) H
def rNe:R2:=fun x y H Q=>scal x y=true/\Q (.bl (!decide (x=y))) H
theorem dec_int {i j:Int}:decide (V.int i=V.int j)=(i==j):=by
 rw [vG];simp
theorem dec_bl {i j:Bool}:decide (V.bl i=V.bl j)=(i==j):=by
 rw [vG];simp
theorem dec_str {i j:Str}:decide (V.str i=V.str j)=(i==j):=by
 rw [vG];simp
theorem dec_byt {i j:Array UInt8}:decide (V.byt i=V.byt j)=(i.toList==j.toList):=by
 rw [vG];cases i;cases j;simp
theorem Qa {pins:List (Addr×Obj)}{σ:St}{H:Hp}{s:Shared}{Q:VK}{k L:Bool}(I:Inv X pins σ H s)(q:Q (.bl k) H)(e:k=L):EP X pins σ Q (.bool L) s:=by
 subst e;exact⟨.bl k,H,I,rfl,q⟩
theorem Qh:OpR X (compareOp .Eq) rEq:=by
 intro pins s σ H x y v u Q I O L h;obtain⟨M,q⟩:=h;cases x with
 |non=>
  cases O;cases y with
  |non=>cases L;exact PySem.EqNone.eq_none_none (Qa I q (by simp))
  |bl j=>cases L;exact PySem.EqNone.eq_none_bool (Qa I q (by simp))
  |int j=>obtain⟨t',rfl⟩:=L;exact PySem.EqNone.eq_none_int (Qa I q (by simp))
  |str j=>obtain⟨t',rfl⟩:=L;exact PySem.EqNone.eq_none_str (Qa I q (by simp))
  |_=>exact absurd (show false=true from M) ua
 |bl i=>
  cases O;cases y with
  |non=>cases L;exact PySem.EqNone.eq_bool_none (Qa I q (by simp))
  |bl j=>cases L;exact eq_bool (Qa I q dec_bl)
  |str j=>obtain⟨t',rfl⟩:=L;exact PySem.EqMixed.eq_bool_str (Qa I q (by simp))
  |_=>exact absurd (show false=true from M) ua
 |int i=>
  obtain⟨t,rfl⟩:=O;cases y with
  |non=>cases L;exact PySem.EqNone.eq_int_none (Qa I q (by simp))
  |int j=>obtain⟨t',rfl⟩:=L;exact eq_int (Qa I q dec_int)
  |str j=>obtain⟨t',rfl⟩:=L;exact PySem.EqMixed.eq_int_str (Qa I q (by simp))
  |_=>exact absurd (show false=true from M) ua
 |str i=>
  obtain⟨t,rfl⟩:=O;cases y with
  |non=>cases L;exact PySem.EqNone.eq_str_none (Qa I q (by simp))
  |bl j=>cases L;exact PySem.EqMixed.eq_str_bool (Qa I q (by simp))
  |int j=>obtain⟨t',rfl⟩:=L;exact PySem.EqMixed.eq_str_int (Qa I q (by simp))
  |str j=>obtain⟨t',rfl⟩:=L;exact eq_str (Qa I q dec_str)
  |_=>exact absurd (show false=true from M) ua
 |byt i=>
  obtain⟨t,rfl⟩:=O;cases y with
  |byt j=>obtain⟨t',rfl⟩:=L;exact PySem.W.eq_bytes (Qa I q dec_byt)
  |_=>exact absurd (show false=true from M) ua
 |_=>cases y<;>exact absurd (show false=true from M) ua
theorem op_ne:OpR X (compareOp .NotEq) rNe:=by
 intro pins s σ H x y v u Q I O L h;obtain⟨M,q⟩:=h;cases x with
 |non=>
  cases O;cases y with
  |non=>cases L;exact PySem.EqNone.ne_none_none (Qa I q (by simp))
  |bl j=>cases L;exact PySem.EqNone.ne_none_bool (Qa I q (by simp))
  |int j=>obtain⟨t',rfl⟩:=L;exact PySem.EqNone.ne_none_int (Qa I q (by simp))
  |str j=>obtain⟨t',rfl⟩:=L;exact PySem.EqNone.ne_none_str (Qa I q (by simp))
  |_=>exact absurd (show false=true from M) ua
 |bl i=>
  cases O;cases y with
  |non=>cases L;exact PySem.EqNone.ne_bool_none (Qa I q (by simp))
  |bl j=>cases L;exact ne_bool (Qa I q (congrArg not dec_bl))
  |str j=>obtain⟨t',rfl⟩:=L;exact PySem.EqMixed.ne_bool_str (Qa I q (by simp))
  |_=>exact absurd (show false=true from M) ua
 |int i=>
  obtain⟨t,rfl⟩:=O;cases y with
  |non=>cases L;exact PySem.EqNone.ne_int_none (Qa I q (by simp))
  |int j=>obtain⟨t',rfl⟩:=L;exact ne_int (Qa I q (congrArg not dec_int))
  |str j=>obtain⟨t',rfl⟩:=L;exact PySem.EqMixed.ne_int_str (Qa I q (by simp))
  |_=>exact absurd (show false=true from M) ua
 |str i=>
  obtain⟨t,rfl⟩:=O;cases y with
  |non=>cases L;exact PySem.EqNone.ne_str_none (Qa I q (by simp))
  |bl j=>cases L;exact PySem.EqMixed.ne_str_bool (Qa I q (by simp))
  |int j=>obtain⟨t',rfl⟩:=L;exact PySem.EqMixed.ne_str_int (Qa I q (by simp))
  |str j=>obtain⟨t',rfl⟩:=L;exact ne_str (Qa I q (congrArg not dec_str))
  |_=>exact absurd (show false=true from M) ua
 |byt i=>
  obtain⟨t,rfl⟩:=O;cases y with
  |byt j=>obtain⟨t',rfl⟩:=L;exact PySem.W.ne_bytes (Qa I q (congrArg not dec_byt))
  |_=>exact absurd (show false=true from M) ua
 |_=>cases y<;>exact absurd (show false=true from M) ua
theorem op_lt:OpR X (compareOp .Lt) (rI0 fun i j=> .bl (decide (i<j))):=opB0 fun _ _ _ _ _ _ _ q=>lt_int q
theorem zX:OpR X (compareOp .LtE) (rI0 fun i j=> .bl (decide (i<=j))):=opB0 fun _ _ _ _ _ _ _ q=>le_int q
theorem xo:OpR X (compareOp .Gt) (rI0 fun i j=> .bl (decide (j<i))):=opB0 fun _ _ _ _ _ _ _ q=>gt_int q
theorem op_ge:OpR X (compareOp .GtE) (rI0 fun i j=> .bl (decide (j<=i))):=opB0 fun _ _ _ _ _ _ _ q=>ge_int q
theorem XQ:OpR X (compareOp .Lt) (fun x y H Q=>∃i j,x= .str i/\y= .str j/\Q (.bl (decide (i.cps.toList<j.cps.toList))) H):=by
 intro pins s σ H x y v u Q I L M h;obtain⟨i,j,rfl,rfl,q⟩:=h;obtain⟨t,rfl⟩:=L;obtain⟨t',rfl⟩:=M;exact lt_str (Qa I q rfl)
theorem op_in_str:OpR X (compareOp .In) (fun x y H Q=>∃i j,x= .str i/\y= .str j/\Q (.bl (!(Builtin.Str.occurrences j i 0 j.length 1).isEmpty)) H):=by
 intro pins s σ H x y v u Q I L M h;obtain⟨i,j,rfl,rfl,q⟩:=h;obtain⟨t,rfl⟩:=L;obtain⟨t',rfl⟩:=M;exact in_str (Qa I q rfl)
theorem zo:OpR X (compareOp .Is) (fun x y H Q=>y= .non/\Q (.bl (decide (x= .non))) H):=by
 intro pins s σ H x y v u Q I L M h;obtain⟨rfl,q⟩:=h;cases M;refine is_none_gen (Qa I q ?_);cases x<;>first
  |(cases L;rfl)
  |(obtain⟨t,rfl⟩:=L;rfl)
theorem op_notN:OpR X (compareOp .IsNot) (fun x y H Q=>y= .non/\Q (.bl (!decide (x= .non))) H):=by
 intro pins s σ H x y v u Q I L M h;obtain⟨rfl,q⟩:=h;cases M;refine isnot_none_gen (Qa I q ?_);cases x<;>first
  |(cases L;rfl)
  |(obtain⟨t,rfl⟩:=L;rfl)
theorem qu (b:Expr){I:CmpOp}(h:I≠ .In:=by decide)(h2:I≠ .NotIn:=by decide):behindInMarks I b=false:=by
 have L:(I==CmpOp.In)=false:=by cases I<;>first|rfl|exact absurd rfl h
 have M:(I==CmpOp.NotIn)=false:=by cases I<;>first|rfl|exact absurd rfl h2
 cases b<;>simp [behindInMarks,L,M]
theorem Qs {L:CmpOp}{r:R2}(M:OpR X (compareOp L) r)(ha:PE X a ta)(O:PE X b tb)(hm:behindInMarks L b=false):PE X (.Compare a [L] [b] pos) (tOp r ta tb):=by
 intro pins s σ H Q I h;exact wpAny_Compare1 (binT ha O I h fun v u s2 x y H2 R U Y q=>M pins s2 σ H2 x y v u Q R U Y q) hm
def tTest (t:TE):TT:=fun σ H Q=>t σ H fun x H'=>∃k,x= .bl k/\Q k H'
theorem qk {L:CmpOp}{r:R2}(M:OpR X (compareOp L) r)(ha:PE X a ta)(O:PE X b tb)(hm:behindInMarks L b=false):PT X (.Compare a [L] [b] pos) (tTest (tOp r ta tb)):=by
 intro pins s σ H Q I h;refine wpAny_isTrue_Compare1 (thn (ha pins s σ H _ I h) fun v s1 ⟨x,H1,R,U,q1⟩=>thn (O pins s1 σ H1 _ R q1) fun u s2 ⟨y,H2,Y,Z,q2⟩=>
  thn (M pins s2 σ H2 x y v u _ Y U Z q2) fun c s3 ⟨z,H3,I3,r3,k,e,q3⟩=> ?_) hm
 subst e;cases r3;exact vb ⟨H3,I3,q3⟩
def tChain (r r':R2)(ta tb tc:TE):TE:=fun σ H Q=>ta σ H fun x H1=>tb σ H1 fun y H2=>r x y H2 fun z H3=>∃k,z= .bl k/\
 (if k=true then tc σ H3 fun w' H4=>r' y w' H4 Q else Q (.bl false) H3)
theorem pe_chain {M L:CmpOp}{r R:R2}(ho:OpR X (compareOp M) r)(O:OpR X (compareOp L) R)(ha:PE X a ta)(hb:PE X b tb)(hc:PE X c tc)
  (hm:lastMarks [M,L] [b,c]=false:=by with_unfolding_all rfl):PE X (.Compare a [M,L] [b,c] pos) (tChain r R ta tb tc):=by
 intro pins s σ H Q I h;refine Compare_chain (thn (ha pins s σ H _ I h) fun v s1 ⟨x,H1,I1,r1,q1⟩=>chain_link (thn (hb pins s1 σ H1 _ I1 q1) fun u s2 ⟨y,H2,I2,U,q2⟩=>
  thn (ho pins s2 σ H2 x y v u _ I2 r1 U q2) fun d s3 ⟨z,Y,Z,r3,k,e,q3⟩=> ?_)) hm
 subst e;cases r3;refine vb ?_;cases k with
 |false=>exact ite_ff ⟨.bl false,Y,Z,rfl,q3⟩
 |true=>exact ite_tt (chain_last (thn (hc pins s3 σ Y _ Z q3) fun w' s4 ⟨z',H4,I4,r4,q4⟩=>O pins s4 σ H4 y z' u w' Q I4 U r4 q4))
theorem pt_chain {M L:CmpOp}{r R:R2}(ho:OpR X (compareOp M) r)(O:OpR X (compareOp L) R)(ha:PE X a ta)(hb:PE X b tb)(hc:PE X c tc)
  (hm:lastMarks [M,L] [b,c]=false:=by with_unfolding_all rfl):PT X (.Compare a [M,L] [b,c] pos) (tTest (tChain r R ta tb tc)):=by
 intro pins s σ H Q I h;refine isTrue_chain (thn (ha pins s σ H _ I h) fun v s1 ⟨x,H1,I1,r1,q1⟩=>test_link (thn (hb pins s1 σ H1 _ I1 q1) fun u s2 ⟨y,H2,I2,U,q2⟩=>
  thn (ho pins s2 σ H2 x y v u _ I2 r1 U q2) fun d s3 ⟨z,Y,Z,r3,k,e,q3⟩=> ?_)) hm
 subst e;cases r3;refine vb ?_;cases k with
 |false=>
  obtain⟨k',e',q'⟩:=q3;cases e';exact ite_ff ⟨Y,Z,q'⟩
 |true=>
  refine ite_tt (test_last (thn (hc pins s3 σ Y _ Z q3) fun w' s4 ⟨z',H4,I4,r4,q4⟩=>thn (O pins s4 σ H4 y z' u w' _ I4 U r4 q4) fun d' s5 ⟨z2,H5,I5,r5,k2,e2,q5⟩=> ?_));subst e2;cases r5;exact vb ⟨H5,I5,q5⟩
def TruV (K:PySem.W.Frag)(x:V)(H:Hp)(k:Bool):Prop:=
 match x with
 | .non=>k=false
 | .bl b=>k=b
 | .int i=>k=(i !=0)
 | .str y=>y.length<=sizeLine/\k=((y.length:Int) !=0)
 | .byt y=>y.size<=sizeLine/\k=((y.size:Int) !=0)
 | .ref p=>(∃xs,SqL K H p xs/\k= !xs.isEmpty)∨(∃xs,SqT K H p xs/\k= !xs.isEmpty)∨∃kvs,H p=some (.dK kvs)/\k= !kvs.isEmpty
 |_=>False
theorem isEmpty_kv {κ:Type}{kvs:List (κ×V)}{vs:List (κ×Value)}(r:KV kvs vs):(!vs.isEmpty)= !kvs.isEmpty:=by
 cases r<;>rfl
theorem zG {xs:List V}{its:List Value}(r:Vals xs its):(!its.toArray.isEmpty)= !xs.isEmpty:=by
 cases r<;>simp
theorem J2:(sizeLine:Nat)<2^63:=by rw [uL];decide
theorem tru_ok:TruR X (fun x H Q=>∃k,TruV X.K x H k/\Q k H):=by
 intro pins s σ H x v Q I O h;obtain⟨k,e,q⟩:=h;have hl:=J2;have hs:sizeLine=16777216:=uL;cases x with
 |non=>
  cases O;have L:k=false:=e;subst L;exact truthy_none ⟨H,I,q⟩
 |bl b=>
  cases O;have L:k=b:=e;subst L;exact vb ⟨H,I,q⟩
 |int i=>
  obtain⟨t,rfl⟩:=O;have L:k=(i !=0):=e;subst L;exact PySem.P.truthy_int ⟨H,I,q⟩
 |str y=>
  obtain⟨t,rfl⟩:=O;obtain⟨Y,L⟩:y.length<=sizeLine/\k=((y.length:Int) !=0):=e;subst L;exact PySem.P.truthy_str (by omega) ⟨H,I.tok _,q⟩
 |byt y=>
  obtain⟨t,rfl⟩:=O;obtain⟨Y,L⟩:y.size<=sizeLine/\k=((y.size:Int) !=0):=e;subst L;exact PySem.W.truthy_bytes (by omega) ⟨H,I.tok _,q⟩
 |ref p=>
  cases O;have L:(∃xs,SqL X.K H p xs/\k= !xs.isEmpty)∨(∃xs,SqT X.K H p xs/\k= !xs.isEmpty)∨∃kvs,H p=some (.dK kvs)/\k= !kvs.isEmpty:=e;rcases L with⟨xs,R,L⟩|⟨xs,R,L⟩|⟨kvs,R,L⟩
  ·subst L;obtain⟨its,r,pl,U⟩:=I.list R;have M:=r.length;exact wpAny_truthy_list pl.isList (by simp only [ue];omega) ⟨H,I.tok _,by rw [zG r];exact q⟩
  ·subst L;obtain⟨its,r,pl,U⟩:=I.tuple R;have M:=r.length;exact truthy_tuple pl (by simp only [ue];omega) ⟨H,I.tok _,by rw [zG r];exact q⟩
  ·subst L;obtain⟨U,Z,vs,r,m⟩:kvs.length<=sizeLine/\(p==sysModules)=false/\∃vs,KV kvs vs/\s.heap.DictOf (Qu X.prog X.w) p vs:=I.hok p _ R;have M:kvs.length=vs.length:=Paired.length r;exact wpAny_truthy_dict Z m (by omega) ⟨H,I.tok _,by rw [isEmpty_kv r];exact q⟩
 |_=>exact(show False from e).elim
theorem pt_truth (ha:PE X a ta)(M:∀L,isTrue a X.env L=(do let v<-L;standAt a.pos;holding [v] (truthy v))):
  PT X a (fun σ H Q=>ta σ H fun x H'=>∃k,TruV X.K x H' k/\Q k H'):=by
 intro pins s σ H Q I h;exact isTrue_plain (thn (ha pins s σ H _ I h) fun v s1 ⟨x,H1,O,R,q1⟩=>tru_ok pins s1 σ H1 x v Q O R q1) (M _)
theorem Qn:OpR X (binaryOp .Add) (fun x y H Q=>∃i j,x= .str i/\y= .str j/\i.length+j.length<=sizeLine/\Q (.str (i++j)) H):=by
 intro pins s σ H x y v u Q I L M h;obtain⟨i,j,rfl,rfl,O,q⟩:=h;obtain⟨t,rfl⟩:=L;obtain⟨t',rfl⟩:=M;exact uU (n:=1) I.tk (add_str (fun t' tk htk=>⟨.str (i++j),H,I.tok _,⟨_,rfl⟩,q⟩) O)
theorem jN {x:V}{us:List Value}(r:Vals [x] us):∃u,us= [u]/\RelV x u:=by
 cases r with
 |cons I L=>cases L;exact⟨_,rfl,I⟩
theorem vals2 {x y:V}{us:List Value}(r:Vals [x,y] us):∃u I,us= [u,I]/\RelV x u/\RelV y I:=by
 cases r with
 |cons L M=>
  cases M with
  |cons O R=>cases R;exact⟨_,_,rfl,L,O⟩
theorem call_abs:Yh X (.builtin "abs") (fun xs H Q=>∃i,xs= [.int i]/\Q (.int (if i<0 then-i else i)) H):=by
 intro pins s σ H xs us Q I r h;obtain⟨i,rfl,q⟩:=h;obtain⟨u,rfl,t,rfl⟩:=jN r;exact uU (n:=1) I.tk (call_abs_int fun u tk htk=>⟨.int (if i<0 then-i else i),H,I.tok _,⟨_,rfl⟩,q⟩)
theorem call_min2 (M:X.calm=true):Yh X (.builtin "min") (fun xs H Q=>∃i j,xs= [.int i,.int j]/\Q (.int (if j<i then j else i)) H):=by
 intro pins s σ H xs us Q I r h;obtain⟨i,j,rfl,q⟩:=h;obtain⟨u,O,rfl,⟨t,rfl⟩,⟨t',rfl⟩⟩:=vals2 r;refine uU (n:=1) I.tk (min_two_ints (I.ok.hd M) fun h' tk k htk=>⟨_,H,I.kept k,?_,q⟩);by_cases L:j<i
 ·rw [if_pos L,if_pos L];exact⟨_,rfl⟩
 ·rw [if_neg L,if_neg L];exact⟨_,rfl⟩
theorem call_int1:Yh X (.type "int") (fun xs H Q=>(∃i,xs= [.int i]/\Q (.int i) H)∨∃k,xs= [.bl k]/\Q (.int (if k then 1 else 0)) H):=by
 intro pins s σ H xs us Q I r h;rcases h with⟨i,rfl,q⟩|⟨k,rfl,q⟩
 ·obtain⟨u,rfl,t,rfl⟩:=jN r;exact call_int_int ⟨.int i,H,I,⟨_,rfl⟩,q⟩
 ·obtain⟨u,rfl,L⟩:=jN r;cases L;exact call_int_bool ⟨.int (if k then 1 else 0),H,I.tok _,⟨_,rfl⟩,q⟩
theorem yh:Yh X (.type "str") (fun xs H Q=>∃i,xs= [.int i]/\i.natAbs.log2<1920/\Q (.str (toString i)) H):=by
 intro pins s σ H xs us Q I r h;obtain⟨i,rfl,L,q⟩:=h;obtain⟨u,rfl,t,rfl⟩:=jN r;exact PySem.P.str_of_int L ⟨.str _,H,I.tok _,⟨_,rfl⟩,q⟩
theorem call_ord:Yh X (.builtin "ord") (fun xs H Q=>∃x,xs= [.str x]/\x.length=1/\Q (.int (x.cps.getD 0 0:Nat)) H):=by
 intro pins s σ H xs us Q I r h;obtain⟨x,rfl,L,q⟩:=h;obtain⟨u,rfl,t,rfl⟩:=jN r;exact ord_of_one L ⟨.int _,H,I.tok _,⟨_,rfl⟩,q⟩
def LenV (K:PySem.W.Frag)(x:V)(H:Hp)(n:Nat):Prop:=
 match x with
 | .str y=>y.length<=sizeLine/\n=y.length
 | .byt y=>y.size<=sizeLine/\n=y.size
 | .ref p=>(∃xs,SqL K H p xs/\n=xs.length)∨∃xs,SqT K H p xs/\n=xs.length
 |_=>False
theorem xx:Yh X (.builtin "len") (fun xs H Q=>∃x n,xs= [x]/\LenV X.K x H n/\Q (.int n) H):=by
 intro pins s σ H xs us Q I r h;obtain⟨x,n,rfl,e,q⟩:=h;obtain⟨u,rfl,O⟩:=jN r;have hl:=J2;have hs:sizeLine=16777216:=uL;cases x with
 |str y=>
  obtain⟨t,rfl⟩:=O;obtain⟨Y,M⟩:y.length<=sizeLine/\n=y.length:=e;subst M;exact len_str (by omega) ⟨.int _,H,I.tok _,⟨_,rfl⟩,q⟩
 |byt y=>
  obtain⟨t,rfl⟩:=O;obtain⟨Y,M⟩:y.size<=sizeLine/\n=y.size:=e;subst M;exact PySem.W.len_bytes (by omega) ⟨.int _,H,I.tok _,⟨_,rfl⟩,q⟩
 |ref p=>
  cases O;have M:(∃xs,SqL X.K H p xs/\n=xs.length)∨∃xs,SqT X.K H p xs/\n=xs.length:=e;rcases M with⟨xs,R,M⟩|⟨xs,R,M⟩
  ·subst M;obtain⟨its,U,pl,Z⟩:=I.list R;have L:=U.length;exact Calls.call_len_list pl.isList (by simp only [ue];omega) ⟨.int xs.length,H,I.tok _,⟨_,by simp only [ue];rw [L]⟩,q⟩
  ·subst M;obtain⟨its,U,pl,Z⟩:=I.tuple R;have L:=U.length;exact len_tuple pl (by simp only [ue];omega) ⟨.int xs.length,H,I.tok _,⟨_,by simp only [ue];rw [L]⟩,q⟩
 |_=>exact(show False from e).elim
end
structure ObjM (h:Heap)(x dx C:Addr)(mA:Str->Option Value):Prop where
 obj:h.get? x=some (PySem.W.instObj C dx)
 ns:h.Ns1 dx mA
 ne:dx≠x
theorem lookIn_ns {h:Heap}{dx:Addr}{mA:Str->Option Value}(n:h.Ns1 dx mA):∃od,h.get? dx=some od/\∀name,PySem.W.lookIn name od=some (mA name):=by
 obtain⟨o,es,U,L,hd,M,_,hm⟩:=n;refine⟨o,L,fun name=> ?_⟩;have e:=hm name;unfold nsFind findBy at e;rw [<-Array.find?_toList] at e;unfold PySem.W.lookIn;rw [hd];dsimp only;split
 ·rename_i y q
  rw [q] at e;exact congrArg some e
 ·rename_i q
  rw [q] at e;have a:es.toList.any (·.refKey)=false:=by
   rw [List.any_eq_false];intro y O;obtain⟨z,t,I⟩:=M y (Array.mem_toList_iff.mp O);simp [DictEntry.refKey,I]
  have R:¬es.toList.any (·.refKey)=true:=by rw [a];exact ua
  rw [if_neg R];exact congrArg some e
theorem ObjM.look {h:Heap}{x dx C:Addr}{mA:Str->Option Value}(I:ObjM h x dx C mA):∃od,PySem.W.InstAt h x (PySem.W.instObj C dx) C (some od)/\∀name,PySem.W.lookIn name od=some (mA name):=
 let⟨od,ho,hl⟩:=lookIn_ns I.ns
 ⟨od,⟨I.obj,rfl,rfl,ho⟩,hl⟩
section
variable {prog:Program}{w:World}{A:Around}{E:Value->Shared->Prop}{s:Shared}{K:PySem.W.Frag}{x dx C f:Addr}{mA:Str->Option Value}{name:Str}{v:Value}
theorem get_map {L:Bool}{Q:Value->Shared->Prop}(X:K.In s.heap)(I:ObjM s.heap x dx C mA)(O:PySem.W.plainGet K C name=true)(R:PySem.W.hasDictIn K C=true)
  (ha:PySem.W.findIn K (.ref C) name=some none) (U:mA name=some v) (M:PySem.W.handedIn v=true) (h:Q v {s with toks:=s.toks+1}):
  wpAny (model prog w) A (getAttr (.ref x) name L) Q E s:=by
 obtain⟨od,J,Y⟩:=I.look;exact PySem.W.get_value X J (PySem.W.plainGet_of O).1 (PySem.W.findObj_own R ha rfl (by rw [Y,U])) M h
theorem get_meth {pl:Sem Bool}{Q:Value×List Value->Shared->Prop}(X:K.In s.heap)(I:ObjM s.heap x dx C mA)(L:PySem.W.plainGet K C name=true)
  (M:PySem.W.findIn K (.ref C) name=some (some (.ref f))) (O:PySem.W.isFn K (.ref f)=true) (R:mA name=none) (h:Q (.ref f,[.ref x]) s):
  wpAny (model prog w) A (getMethod (.ref x) name pl) Q E s:=by
 obtain⟨od,J,U⟩:=I.look;exact PySem.W.method_fn X J (PySem.W.plainGet_of L).1 (PySem.W.plainGet_of L).2 M (beq_iff_eq.mp O) (by show(PySem.W.lookIn name od).map (·.isSome)=some false;rw [U,R];rfl) h
theorem set_map {ns:List Str}{Q:Unit->Shared->Prop}(X:K.In s.heap)(I:ObjM s.heap x dx C mA)
  (Z:PySem.W.findIn K (.ref C) "__setattr__"=some (some (.builtin "object.__setattr__"))) (hp:PySem.W.plainOver K C=true) (ht:PySem.W.takerIn K C name=some none) (hh:PySem.W.hasDictIn K C=true)
  (hw:PySem.Within mA ns) (hsz:ns.length<=sizeLine)
  (h:∀h',ObjM h' x dx C (fun y=>if y=name then some v else mA y)->Heap.SameBut dx s.heap h'->Q Unit.unit {s with heap:=h',toks:=s.toks+2}):
  wpAny (model prog w) A (setAttr (.ref x) name v) Q E s:=by
 obtain⟨od,J,hl⟩:=I.look;refine PySem.W.set_plain X J Z (PySem.W.osa_open (s:={s with toks:=s.toks+1}) (r:=none) X J hp ht fun b=> ?_)
 obtain⟨cd,hc,O⟩:=PySem.W.any_some hh;have hx:s.heap.get? x=some ⟨.ref C,some dx,.plain,#[]⟩:=I.obj;refine wpAny_bind (uj (wpAny_bind (wpAny_bind (wpAny_loadPart hx (wpAny_bind (PySem.W.Looks.here (s:={s with toks:=s.toks+1}) (PySem.W.looks_clsIn X hc) ?_))))))
 rw [O];refine uj (a:=some dx) (wpAny_bind (uj (wpAny_bind ?_)));refine wpAny_nsSet1 (s:={s with toks:=s.toks+1}) I.ns fun h' L M=> ?_
 obtain⟨oD,aa,ab,R,U,Y⟩:=L.count (PySem.Within.cons name v hw);refine wpAny_bind (wpAny_lookBehind R (by rw [U];exact pastItsLine_dict (uK Y (by rw [uh];omega))) ?_)
 exact uj (h _ ⟨(M.2 _ (Uq I.ne)).trans I.obj,L,I.ne⟩ M)
theorem make_map {R:Result->Shared->Prop}{vs:List Value}{kw:List (Str×Value)}(X:K.In s.heap)(hm:PySem.W.makesIn K C=true)
  (hi:PySem.W.findIn K (.ref C) "__init__"=some (some (.ref f))) (I:PySem.W.typeIn K (.ref f)=some (.type "function"))
  (h:codeAny (model prog w) (A.under (.builtin "type.__call__" ⟨.ref C::vs,kw⟩)) (.call (.ref f) ⟨.ref (s.heap.objs.size+1)::vs,kw⟩) (PySem.W.InitBack (s.heap.objs.size+1) R)
   {s with heap:=(s.heap.push PySem.W.emptyDict).push (PySem.W.instObj C s.heap.objs.size)}):
  codeAny (model prog w) A (.call (.ref C) ⟨vs,kw⟩) R s:=by
 obtain⟨L,g,d,t,os⟩:=s;exact PySem.W.make_core (PySem.W.makes_of X hm) (PySem.W.looks_findIn X hi) (fun self=>PySem.W.bind_fn X self I) (.inl rfl) h
end
noncomputable def putF (f:Str)(v:V):List (Str×V)->List (Str×V)
 | []=> [(f,v)]
 |(g,x)::r=>if g=f then(g,v)::r else(g,x)::putF f v r
theorem qM (f g:Str)(v:V):∀fs:List (Str×V),(putF f v fs).lookup g=if g=f then some v else fs.lookup g
 | []=>by
  show List.lookup g [(f,v)]=_;by_cases h:g=f
  ·have I:(g==f)=true:=beq_iff_eq.mpr h;simp only [List.lookup,I,if_pos h]
  ·have I:(g==f)=false:=beq_eq_false_iff_ne.mpr h;simp only [List.lookup,I,if_neg h]
 |(k,x)::r=>by
  have M:=qM f g v r;rw [show putF f v ((k,x)::r)=(if k=f then(k,v)::r else(k,x)::putF f v r) from rfl]
  by_cases L:k=f
  ·rw [if_pos L];by_cases h:g=k
   ·have I:(g==k)=true:=beq_iff_eq.mpr h;simp only [List.lookup,I,if_pos (h.trans L)]
   ·have I:(g==k)=false:=beq_eq_false_iff_ne.mpr h;simp only [List.lookup,I,if_neg (fun e:g=f=>h (e.trans L.symm))]
  ·rw [if_neg L];by_cases h:g=k
   ·have I:(g==k)=true:=beq_iff_eq.mpr h;simp only [List.lookup,I,if_neg (fun e:g=f=>L (h.symm.trans e))]
   ·have I:(g==k)=false:=beq_eq_false_iff_ne.mpr h;simp only [List.lookup,I];exact M
theorem Xy (f:Str)(v:V):∀fs:List (Str×V),f∈(putF f v fs).map (·.1)/\∀g,g∈fs.map (·.1)->g∈(putF f v fs).map (·.1)
 | []=>⟨by simp [putF],fun g h=>by simp at h⟩
 |(k,x)::r=>by
  obtain⟨L,M⟩:=Xy f v r;rw [show putF f v ((k,x)::r)=(if k=f then(k,v)::r else(k,x)::putF f v r) from rfl]
  by_cases I:k=f
  ·rw [if_pos I];subst I;exact⟨by simp,fun g h=>by simpa using h⟩
  ·rw [if_neg I];refine⟨?_,fun g h=> ?_⟩
   ·rw [uk];exact uq _ L
   ·rw [uk] at h⊢;rcases List.mem_cons.mp h with e|e
    ·exact List.mem_cons.mpr (.inl e)
    ·exact uq _ (M g e)
theorem XB (f:Str)(v:V):∀fs:List (Str×V),(putF f v fs).length<=fs.length+1
 | []=>by simp [putF]
 |(k,x)::r=>by
  have L:=XB f v r;rw [show putF f v ((k,x)::r)=(if k=f then(k,v)::r else(k,x)::putF f v r) from rfl]
  by_cases I:k=f
  ·rw [if_pos I,uh,uh];omega
  ·rw [if_neg I,uh,uh];omega
theorem RelO.some_of {v:V}{o:Option Value}(r:RelO (some v) o):∃u,o=some u/\RelV v u:=by
 cases o with
 |none=>exact(show False from r).elim
 |some u=>exact⟨u,rfl,r⟩
theorem RelO.none_of {o:Option Value}(r:RelO none o):o=none:=by
 cases o with
 |none=>rfl
 |some u=>exact(show False from r).elim
theorem handed_of {v:V}{u:Value}(r:RelV v u):PySem.W.handedIn u=true:=by
 cases v with
 |non=>cases(show u=Value.none from r);rfl
 |bl b=>cases(show u=Value.bool b from r);rfl
 |int i=>obtain⟨t,e⟩:=(show∃t,u=Value.int i t from r);cases e;rfl
 |str x=>obtain⟨t,e⟩:=(show∃t,u=Value.str x t from r);cases e;rfl
 |byt b=>obtain⟨t,e⟩:=(show∃t,u=Value.bytes b t from r);cases e;rfl
 |flt b=>obtain⟨t,e⟩:=(show∃t,u=Value.float b t from r);cases e;rfl
 |ref a=>cases(show u=Value.ref a from r);rfl
 |ty n=>cases(show u=Value.type n from r);rfl
section
variable {P:Program}{w:World}{H H':Hp}{h h':Heap}{a C dx:Addr}{fs fs':List (Str×V)}
theorem Zm (hok:HOk P w H h)(e:H a=some (.ins C dx fs)):∃mA,ObjM h a dx C mA/\(∀f,RelO (fs.lookup f) (mA f))/\PySem.Within mA (fs.map (·.1))/\fs.length<=1000/\H dx=some (.own a):=by
 obtain⟨d,z,ne,I,mA,n,r,q⟩:=(show Q2 P w H h a (.ins C dx fs) from hok a _ e)
 exact⟨mA,⟨I,n,ne⟩,r,q,z,d⟩
end
structure Cls (K:PySem.W.Frag)(C:Addr):Prop where
 pg:PySem.W.plainGet K C Str.empty=true
 hd:PySem.W.hasDictIn K C=true
 po:PySem.W.plainOver K C=true
 sa:PySem.W.findIn K (.ref C) "__setattr__"=some (some (.builtin "object.__setattr__"))
theorem Cls.get {K:PySem.W.Frag}{C:Addr}(c:Cls K C)(f:Str):PySem.W.plainGet K C f=true:=c.pg
def yD (K:PySem.W.Frag)(C:Addr)(f:Str):Prop:=PySem.W.findIn K (.ref C) f=some none
theorem yD.taker {K:PySem.W.Frag}{C:Addr}{f:Str}(n:yD K C f):PySem.W.takerIn K C f=some none:=by
 unfold PySem.W.takerIn;rw [show PySem.W.findIn K (.ref C) f=some none from n]
 rfl
structure Meth (K:PySem.W.Frag)(C:Addr)(m:Str)(f:Addr):Prop where
 at_:PySem.W.findIn K (.ref C) m=some (some (.ref f))
 fn:PySem.W.isFn K (.ref f)=true
 kp:PySem.W.keepIn K (.ref f)=true
section
variable {X:Cx}{pins:List (Addr×Obj)}{σ:St}{H:Hp}{s:Shared}{a C dx:Addr}{fs:List (Str×V)}{f:Str}{v:V}{A:Around}{E:Value->Shared->Prop}
theorem zg {b:Bool}{Q:Value->Shared->Prop}(I:Inv X pins σ H s)(e:H a=some (.ins C dx fs))(c:Cls X.K C)(n:yD X.K C f)(l:fs.lookup f=some v)
  (h:∀u s',Inv X pins σ H s'->RelV v u->Q u s'):wpAny (model X.prog X.w) A (getAttr (.ref a) f b) Q E s:=by
 obtain⟨mA,O,r,_,_,_⟩:=Zm I.hok e;obtain⟨u,L,ru⟩:=RelO.some_of (v:=v) (o:=mA f) (by rw [<-l];exact r f)
 exact get_map I.kIn O (c.get f) c.hd n L (handed_of ru) (h u _ (I.tok _) ru)
theorem jh {m:Str}{g:Addr}{pl:Sem Bool}{Q:Value×List Value->Shared->Prop}(I:Inv X pins σ H s)(e:H a=some (.ins C dx fs))(c:Cls X.K C)(k:Meth X.K C m g)(l:fs.lookup m=none)
  (h:Q (.ref g,[.ref a]) s):wpAny (model X.prog X.w) A (getMethod (.ref a) m pl) Q E s:=by
 obtain⟨mA,O,r,_,_,_⟩:=Zm I.hok e;have hn:mA m=none:=RelO.none_of (by rw [<-l];exact r m)
 exact get_meth I.kIn O (c.get m) k.at_ k.fn hn h
theorem zy {y:V}{u:Value}{Q:Unit->Shared->Prop}(I:Inv X pins σ H s)(e:H a=some (.ins C dx fs))(c:Cls X.K C)(n:yD X.K C f)(hl:fs.length<1000)(U:RelV y u)
  (h:∀s',Inv X pins σ (upd H a (.ins C dx (putF f y fs))) s'->Q Unit.unit s'):wpAny (model X.prog X.w) A (setAttr (.ref a) f u) Q E s:=by
 obtain⟨mA,O,r,M,_,R⟩:=Zm I.hok e;have Y:(fs.map (·.1)).length<=sizeLine:=by rw [uf,uL];omega
 refine set_map I.kIn O c.sa c.po n.taker c.hd M Y fun h' L Z=>h _ ?_;have hd:∃o,h'.get? dx=some o:=let⟨o,_,_,e',_⟩:=L.ns;⟨o,e'⟩;refine I.write (x:=a) (e:=dx) (by rw [e];exact True.intro) (.inr R) (fun b q hb z=>(Z.2 b hb).trans z) hd ?_
 refine⟨by rw [qy O.ne];exact R,?_,O.ne,L.obj,_,L.ns,fun g=> ?_,fun g hg=> ?_⟩
 ·have:=XB f y fs;omega
 ·show RelO ((putF f y fs).lookup g) (if g=f then some u else mA g)
  rw [qM];by_cases q:g=f
  ·rw [if_pos q,if_pos q];exact U
  ·rw [if_neg q,if_neg q];exact r g
 ·by_cases q:g=f
  ·rw [q];exact(Xy f y fs).1
  ·refine(Xy f y fs).2 g (M g fun z=>hg ?_);show(if g=f then some u else mA g)=none
   rw [if_neg q];exact z
theorem Inv.made (I:Inv X pins σ H s):Inv X pins σ (upd (upd H s.heap.objs.size (.own (s.heap.objs.size+1))) (s.heap.objs.size+1) (.ins C s.heap.objs.size []))
  {s with heap:=(s.heap.push PySem.W.emptyDict).push (PySem.W.instObj C s.heap.objs.size)}:=by
 have L:(s.heap.push PySem.W.emptyDict).get? s.heap.objs.size=some PySem.W.emptyDict:=uw s.heap rfl;have M:((s.heap.push PySem.W.emptyDict).push (PySem.W.instObj C s.heap.objs.size)).get? (s.heap.objs.size+1)=some (PySem.W.instObj C s.heap.objs.size):=by
  have:=uw (s.heap.push PySem.W.emptyDict) (o:=PySem.W.instObj C s.heap.objs.size) rfl
  rwa [vc] at this
 have O:(s.heap.push PySem.W.emptyDict).Ns s.heap.objs.size (fun _=>none):=⟨PySem.W.emptyDict,#[],_,L,rfl,(fun e R=>absurd R (by simp)),fun _=>rfl⟩
 have U:=I.laid (a:=s.heap.objs.size) (o:= .own (s.heap.objs.size+1)) (h':=s.heap.push PySem.W.emptyDict) (t':=s.toks) (fun b u q=>ub _ q) (ui _) ⟨_,L⟩;refine U.laid (a:=s.heap.objs.size+1) (o:= .ins C s.heap.objs.size []) (t':=s.toks) (fun b u q=>ub _ q) (Nat.le_of_eq (vc _ _)) ?_;have ne:s.heap.objs.size≠s.heap.objs.size+1:=uM (Nat.lt_succ_self _);refine⟨by rw [qy ne,qg],uD _,ne,M,fun _=>none,(Heap.Ns1.of_empty O).at fun o q=>ub _ q,fun _=>True.intro,fun y Y=>absurd rfl Y⟩
theorem attr_of {prog:Program}{w:World}{env:Env}{e:Expr}{f:Str}{pos:Pos}{s:Shared}{Q:Value->Shared->Prop}(I:attributeBase e f env (eval e env)=eval e env)
  (h:wpAny (model prog w) A (eval e env) (fun o L=>wpAny (model prog w) A (getAttr o f true) Q E L) E s):wpAny (model prog w) A (eval (.Attribute e f pos) env) Q E s:=
 Attribute_any_ h (by rw [arm_eval_Attribute,I])
end
def tFld (K:PySem.W.Frag)(ta:TE)(f:Str):TE:=fun σ H Q=>ta σ H fun x H1=>∃a C dx fs v,x= .ref a/\H1 a=some (.ins C dx fs)/\Cls K C/\yD K C f/\fs.lookup f=some v/\Q v H1
def sFld (K:PySem.W.Frag)(ta tv:TE)(f:Str):TS:=fun D σ H=>tv σ H fun y H1=>ta σ H1 fun x H2=>∃a C dx fs,x= .ref a/\H2 a=some (.ins C dx fs)/\Cls K C/\yD K C f/\fs.length<1000/\
 D.nx σ (upd H2 a (.ins C dx (putF f y fs)))
def InOp (X:Cx)(op:Operator)(rd:V->V->Hp->VK->Prop):Prop:=
 ∀(pins:List (Addr×Obj)) (s:Shared) (σ:St) (H:Hp) (x y:V) (u v:Value) (Q:VK),Inv X pins σ H s->RelV x u->RelV y v->rd x y H Q->wpAny (model X.prog X.w) X.A (inplaceOp op u v) (EP X pins σ Q) X.xe s
def sFldAug (K:PySem.W.Frag)(ta tv:TE)(rd:V->V->Hp->VK->Prop)(f:Str):TS:=fun D σ H=>ta σ H fun x H1=>∃a C dx fs v,x= .ref a/\H1 a=some (.ins C dx fs)/\Cls K C/\yD K C f/\fs.lookup f=some v/\
 tv σ H1 fun y H2=>rd v y H2 fun z H3=>∃dx' fs',H3 a=some (.ins C dx' fs')/\fs'.length<1000/\D.nx σ (upd H3 a (.ins C dx' (putF f z fs')))
section
variable {X:Cx}{o e value:Expr}{f:Str}{pos pos' tpos:Pos}{ta tv:TE}
theorem QL (L:PE X e ta)(M:attributeBase e f X.env (eval e X.env)=eval e X.env):PE X (.Attribute e f pos) (tFld X.K ta f):=by
 intro pins s σ H Q I h;refine attr_of M (thn (L pins s σ H _ I h) fun u s1 ⟨x,H1,O,R,a,C,dx,fs,v,ex,U,c,n,l,q⟩=> ?_);subst ex;obtain rfl:u=Value.ref a:=R;exact zg O U c n l fun Z s2 Y ru=>⟨v,H1,Y,ru,q⟩
theorem Q3 (ha:PE X o ta)(L:PE X value tv)(M:swapsWith value (some (.Attribute o f pos')) pos.line X.env=pure false):PS X (.Assign [.Attribute o f pos'] value pos) (sFld X.K ta tv f):=by
 intro pins s σ H D I h;refine plainObj_wpAny_Assign_Attribute (thn (L pins s σ H _ I h) fun u s1 ⟨y,H1,O,R,q⟩=>thn (ha pins s1 σ H1 _ O q) fun U s2 ⟨x,H2,Y,Z,a,C,dx,fs,ex,ea,c,n,l,q2⟩=> ?_) M;subst ex;obtain rfl:U=Value.ref a:=Z;exact zy Y ea c n l R fun s3 I3=>⟨σ,_,I3,q2⟩
theorem YE {O:Operator}{R:V->V->Hp->VK->Prop}(ha:PE X o ta)(U:PE X value tv)(L:InOp X O R):PS X (.AugAssign (.Attribute o f tpos) O value pos) (sFldAug X.K ta tv R f):=by
 intro pins s σ H D I h;refine wpAny_AugAssign_AttributeAny (thn (ha pins s σ H _ I h) fun Y s1 ⟨x,H1,Z,rx,a,C,dx,fs,v,ex,ea,c,n,l,q⟩=> ?_);subst ex;obtain rfl:Y=Value.ref a:=rx;refine zg Z ea c n l fun u s2 I2 ru=>thn (U pins s2 σ H1 _ I2 q) fun w3 s3 ⟨y,H2,I3,ry,q3⟩=>thn (L pins s3 σ H2 v y u w3 _ I3 ru ry q3) fun w4 s4 ⟨z,H3,I4,rz,aa,fs',M,l',q4⟩=> ?_;exact zy I4 M c n l' rz fun s5 I5=>⟨σ,_,I5,q4⟩
def rAdd:V->V->Hp->VK->Prop:=fun x y H Q=>∃i j,x= .int i/\y= .int j/\Q (.int (i+j)) H
theorem in_add:InOp X .Add rAdd:=by
 rintro pins s σ H x y u v Q I L M ⟨i,j,rfl,rfl,q⟩;obtain⟨t,rfl⟩:=(show∃t,u=Value.int i t from L)
 obtain⟨t',rfl⟩:=(show∃t',v=Value.int j t' from M)
 exact PyProof.Rows.iadd_int ⟨.int (i+j),H,I.tok _,⟨_,rfl⟩,q⟩
theorem methcall_of {pl:Sem Bool}{m:Str}{apos:Pos}{args:List Expr}{pins:List (Addr×Obj)}{s:Shared}{σ:St}{H:Hp}{Q:Value->Shared->Prop}{te:TE}(M:PE X e te)(I:Inv X pins σ H s)
  (h:te σ H fun x H1=>∃a C dx fs g,x= .ref a/\H1 a=some (.ins C dx fs)/\Cls X.K C/\Meth X.K C m g/\fs.lookup m=none/\
   ∀s1,Inv X pins σ H1 s1->wpAny (model X.prog X.w) X.A (callWith pos (.ref g) [.ref a] (backTo pos (starEach args X.env)) (backToKw pos (keywordEach [] X.env))) Q X.xe s1)
  (O:eval (.Call (.Attribute e m apos) args [] pos) X.env=(do
   let ov<-eval e X.env
   standAt apos.atName
   let(f,first)<-holding [ov] (getMethod ov m pl)
   callWith pos f first (backTo pos (starEach args X.env)) (backToKw pos (keywordEach [] X.env)))):
  wpAny (model X.prog X.w) X.A (eval (.Call (.Attribute e m apos) args [] pos) X.env) Q X.xe s:=by
 refine Uj (pl:=pl) (thn (M pins s σ H _ I h) fun u s1 ⟨x,H1,L,R,a,C,dx,fs,g,ex,U,c,k,l,q⟩=> ?_) O;subst ex;obtain rfl:u=Value.ref a:=R;exact jh L U c k l (q s1 L)
end
section
variable {X:Cx}{pins:List (Addr×Obj)}{σ:St}{H:Hp}{s:Shared}{A:Around}{E:Value->Shared->Prop}{Q:Value->Shared->Prop}{c:Value}{b:Bool}
inductive TyOf (K:PySem.W.Frag) (H:Hp):V->Value->Prop where
 |non:TyOf K H .non (.type "NoneType")
 |bl (x:Bool):TyOf K H (.bl x) (.type "bool")
 |int (i:Int):TyOf K H (.int i) (.type "int")
 |str (x:Str):TyOf K H (.str x) (.type "str")
 |flt (x:UInt64):TyOf K H (.flt x) (.type "float")
 |lst {a:Addr}{xs:List V} (e:H a=some (.lst xs)):TyOf K H (.ref a) (.type "list")
 |frz {a:Addr}{o:Obj}{xs:List V} (e:H a=some (.frz o (.lst xs))):TyOf K H (.ref a) (.type "list")
 |tup {a:Addr}{xs:List V} (e:H a=some (.tup xs)):TyOf K H (.ref a) (.type "tuple")
 |dK {a:Addr}{kvs:List (Key×V)} (e:H a=some (.dK kvs)):TyOf K H (.ref a) (.type "dict")
 |dT {a:Addr}{kvs:List (List Key×V)} (e:H a=some (.dT kvs)):TyOf K H (.ref a) (.type "dict")
 |ins {a C dx:Addr}{fs:List (Str×V)} (e:H a=some (.ins C dx fs)) (cl:Cls K C) (ha:PySem.W.findIn K (.ref C) "__class__"=some (some (.builtin "object.__class__")))
   (hn:PySem.W.specialIn K (.builtin "object.__class__") "__get__"=some (some (.builtin "getset_descriptor.__get__"))) (htk:PySem.W.takesIn K (.builtin "object.__class__")=some true)
   (hm:PySem.W.mroIn K C (.type "object")=some true):TyOf K H (.ref a) (.ref C)
theorem isinst_ok {x:V}{u t:Value}(I:Inv X pins σ H s)(L:RelV x u)(ty:TyOf X.K H x t)(e:PySem.W.kitOne X.K t c=some b)(h:∀tk,Q (.bool b) {s with toks:=tk}):
  wpAny (model X.prog X.w) A (call (.builtin "isinstance") [u,c]) Q E s:=by
 cases ty with
 |non=>cases(show u=Value.none from L);exact vn PySem.W.kitx_none I.kIn True.intro e (fun z=>nomatch z) h
 |bl y=>cases(show u=Value.bool y from L);exact vn PySem.W.kitx_bool I.kIn True.intro e (fun z=>nomatch z) h
 |int i=>obtain⟨t,q⟩:=(show∃t,u=Value.int i t from L);cases q;exact vn PySem.W.kitx_int I.kIn True.intro e (fun z=>nomatch z) h
 |str y=>obtain⟨t,q⟩:=(show∃t,u=Value.str y t from L);cases q;exact vn PySem.W.kitx_str I.kIn True.intro e (fun z=>nomatch z) h
 |flt y=>obtain⟨t,q⟩:=(show∃t,u=Value.float y t from L);cases q;exact vn PySem.W.kitx_float I.kIn True.intro e (fun z=>nomatch z) h
 | @lst a xs ea=>
  cases(show u=Value.ref a from L)
  obtain⟨_,_,n,_,h1⟩:=(show Q2 X.prog X.w H s.heap a (.lst xs) from I.hok a _ ea)
  exact vn PySem.W.kitx_list I.kIn ⟨_,h1,rfl⟩ e (fun z=>nomatch z) h
 | @frz a ob xs ea=>
  cases(show u=Value.ref a from L)
  obtain⟨_,_,_,n,_,h1⟩:=(show Q2 X.prog X.w H s.heap a (.frz ob (.lst xs)) from I.hok a _ ea)
  exact vn PySem.W.kitx_list I.kIn ⟨_,h1,rfl⟩ e (fun z=>nomatch z) h
 | @tup a xs ea=>
  cases(show u=Value.ref a from L)
  obtain⟨_,_,_,p⟩:=(show Q2 X.prog X.w H s.heap a (.tup xs) from I.hok a _ ea)
  obtain⟨o,h1,h2,_⟩:=p;exact vn PySem.W.kitx_tuple I.kIn ⟨o,h1,h2⟩ e (fun z=>nomatch z) h
 | @dK a kvs ea=>
  cases(show u=Value.ref a from L)
  obtain⟨_,_,vs,_,p⟩:=(show Q2 X.prog X.w H s.heap a (.dK kvs) from I.hok a _ ea)
  obtain⟨o,es,M,h1,h2,_⟩:=p;exact vn PySem.W.kitx_dict I.kIn ⟨o,h1,h2.1⟩ e (fun z=>nomatch z) h
 | @dT a kvs ea=>
  cases(show u=Value.ref a from L)
  obtain⟨_,_,xs,_,o,es,M,h1,h2,_⟩:=(show Q2 X.prog X.w H s.heap a (.dT kvs) from I.hok a _ ea)
  exact vn PySem.W.kitx_dict I.kIn ⟨o,h1,h2.1⟩ e (fun z=>nomatch z) h
 | @ins a C dx fs ea cl ha hn htk hm=>
  cases(show u=Value.ref a from L)
  obtain⟨mA,O,_⟩:=Zm I.hok ea;obtain⟨od,J,_⟩:=O.look;exact vn (PySem.W.kitx_own (cl.get _) cl.hd ha hn htk hm) I.kIn J e (fun z=>nomatch z) h
end
structure Room (k:Nat)(A:Around):Prop where
 hd:A.handled=none
 dp:A.depth+3*k+5<recursionLimit
 un:A.units+16*k+200<cLine
theorem Room.mono {j k:Nat}{A:Around}(r:Room k A)(h:j<=k):Room j A:=⟨r.hd,by have:=r.dp;omega,by have:=r.un;omega⟩
theorem Room.deeper {k:Nat}{A:Around}(r:Room (k+1) A)(env:Env):Room k (A.deeper env):=
 ⟨r.hd,by have:=r.dp;show A.depth+1+3*k+5<_;omega,by have:=r.un;show A.units+3+16*k+200<_;omega⟩
theorem make_depth {A:Around}{C:Addr}{us:List Value}{kw:List (Str×Value)}:(A.under (.builtin "type.__call__" ⟨.ref C::us,kw⟩)).depth=A.depth+1:=by
 first|rfl|simp [Around.under,Code.weight,Code.isCreation,Code.isGuard,Code.isCaller,Code.frames,Code.isFrame,guardIds]
theorem make_units {A:Around}{C:Addr}{us:List Value}{kw:List (Str×Value)}:(A.under (.builtin "type.__call__" ⟨.ref C::us,kw⟩)).units=A.units+1:=by
 first|rfl|simp [Around.under,Code.cUnits,Code.frames,Code.isFrame]
theorem Room.make {k:Nat}{A:Around}(r:Room (k+1) A)(C:Addr)(us:List Value)(kw:List (Str×Value)):Room k (A.under (.builtin "type.__call__" ⟨.ref C::us,kw⟩)):=
 ⟨r.hd,by have:=r.dp;rw [make_depth];omega,by have:=r.un;rw [make_units];omega⟩
theorem Room.depth {k:Nat}{A:Around}(r:Room k A):A.depth<recursionLimit:=by have:=r.dp;omega
theorem Room.units {k:Nat}{A:Around}(r:Room k A):A.units+64<cLine:=by have:=r.un;omega
theorem Room.units0 {k:Nat}{A:Around}(r:Room k A):A.units<cLine:=by have:=r.un;omega
def tNil:TA:=fun _ H Q=>Q [] H
def QI (ta:TE)(tr:TA):TA:=fun σ H Q=>ta σ H fun x H1=>tr σ H1 fun xs H2=>Q (x::xs) H2
section
variable {X:Cx}{e:Expr}{es:List Expr}{te:TE}{t:TA}{pos:Pos}
theorem qe:PA X [] tNil:=fun _ _ _ _ H Q I h=>Calls.spliced_nil ⟨[],H,I,.nil,h⟩
theorem qa (ha:PE X e te)(L:PA X es t)(M:starEach (e::es) X.env=(false,eval e X.env)::starEach es X.env:=by rfl):PA X (e::es) (QI te t):=by
 intro pos pins s σ H Q I h;rw [M];show wpAny _ _ (spliced ((false,eval e X.env)::backTo pos (starEach es X.env))) _ _ s;refine Calls.spliced_cons (thn (ha pins s σ H _ I h) fun u s1 ⟨x,H1,O,R,q1⟩=> ?_);exact thn (L pos pins s1 σ H1 _ O q1) fun us s2 ⟨xs,H2,U,Y,q2⟩=>⟨x::xs,H2,U,.cons R Y,q2⟩
def tTup (t:TA):TE:=fun σ H Q=>t σ H fun xs H1=>xs.length<=sizeLine/\∀p,H1 p=none->Q (.ref p) (upd H1 p (.tup xs))
def tLst (t:TA):TE:=fun σ H Q=>t σ H fun xs H1=>xs.length<=sizeLine/\∀p,H1 p=none->Q (.ref p) (upd H1 p (.lst xs))
theorem qD {x1}(h:PA X es t):PE X (.Tuple es x1 pos) (tTup t):=by
 intro pins s σ H Q I M;refine wpAny_Tuple_spliced (thn (h pos pins s σ H _ I M) fun us s1 ⟨xs,H1,L,r,z,q⟩=>⟨by rw [<-r.length];exact z,?_⟩)
 have O:H1 s1.heap.objs.size=none:=L.hok.fresh (ui _);refine⟨.ref s1.heap.objs.size,upd H1 s1.heap.objs.size (.tup xs),L.laid (t':=s1.toks) (fun b u e=>ub _ e) (ui _) ?_,rfl,q _ O⟩;exact⟨z,us,r,⟨_,uw _ rfl,rfl,_,rfl⟩⟩
theorem Qo (h:PA X es t):PE X (.List es pos) (tLst t):=by
 intro pins s σ H Q I M;refine wpAny_List_spliced (thn (h pos pins s σ H _ I M) fun us s1 ⟨xs,H1,L,r,z,q⟩=>⟨by rw [<-r.length];exact z,?_⟩)
 have O:H1 s1.heap.objs.size=none:=L.hok.fresh (ui _);refine⟨.ref s1.heap.objs.size,upd H1 s1.heap.objs.size (.lst xs),L.laid (t':=s1.toks) (fun b u e=>ub _ e) (ui _) ?_,rfl,q _ O⟩;exact⟨z,us,0,r,uw _ rfl⟩
end
abbrev Sp:=List V->Hp->VK->XK->Prop
abbrev CXT:=List Env->Hp->Shared->XK->Value->Shared->Prop
structure Env0 (P:Program)(w:World)(K:PySem.W.Frag)(mg:Str->Option Value)(base:Heap)(A:Around)(outer:List Env)(s:Shared)(H:Hp):Prop where
 frames:A.frames=some outer
 mod:Mod K mg base
 bs:∀b o,base.get? b=some o->s.heap.get? b=some o/\H b=none
 bsz:base.objs.size<=s.heap.objs.size
 funs:s.heap.FunFrames base outer
 frf:∀b∈frs outer,H b=none
 hok:HOk P w H s.heap
 bare:AllBare s.gens
def CE (outer:List Env)(P:Program)(w:World)(H:Hp)(s:Shared)(Q:VK)(u:Value)(s':Shared):Prop:=
 ∃v H',s'.os=s.os/\AllBare s'.gens/\0<s'.toks/\Un (frs outer) [] H H' s.heap s'.heap/\HOk P w H' s'.heap/\RelV v u/\Q v H'
def CR (CX:CXT)(outer:List Env)(P:Program)(w:World)(H:Hp)(s:Shared)(Q:VK)(E:XK)(r:Result)(s':Shared):Prop:=
 match r with
 | .ok (.ret u)=>CE outer P w H s Q u s'
 | .ok _=>False
 | .error e=>CX outer H s E e s'
structure FnOk (P:Program)(w:World)(K:PySem.W.Frag)(mg:Str->Option Value)(base:Heap)(CX:CXT)(k:Nat)(f:Addr)(fd:FuncData)(ps:List Str)(sp:Sp):Prop where
 len:∀vs H Q E,sp vs H Q E->vs.length=ps.length
 run:∀(A:Around) (outer:List Env) (s:Shared) (H:Hp) (args:Args) (us:List Value) (vs:List V) (Q:VK) (E:XK),Room k A->Env0 P w K mg base A outer s H->BindsTo s fd args (ps.zip us)->Vals vs us->sp vs H Q E->(0<s.toks∨∃x r,ps=x::r/\fd.scope.names.lookup x=some .local)->
  codeAny (model P w) A (.call (.ref f) args) (CR CX outer P w H s Q E) s
theorem Env0.make {P:Program}{w:World}{K:PySem.W.Frag}{mg:Str->Option Value}{base:Heap}{A:Around}{outer:List Env}{s:Shared}{H:Hp}(e:Env0 P w K mg base A outer s H)(C:Addr)(us:List Value)(kw:List (Str×Value)):
  Env0 P w K mg base (A.under (.builtin "type.__call__" ⟨.ref C::us,kw⟩)) outer s H:=⟨by first|exact e.frames|(simpa [Around.under,Code.envs,Code.isFrame,pushEnvs] using e.frames),e.mod,e.bs,e.bsz,e.funs,e.frf,e.hok,e.bare⟩
section
variable {X:Cx}{pins:List (Addr×Obj)}{σ:St}{H:Hp}{s s':Shared}
theorem Inv.env0 (I:Inv X pins σ H s):Env0 X.prog X.w X.K X.mg X.base X.A X.stack s H:=
 ⟨I.ok.frames,I.ok.mod,I.bs,uK I.ok.bsz I.sz,I.stack,I.stkFree,I.hok,I.bare⟩
theorem Inv.after {Q:VK}{u:Value}(I:Inv X pins σ H s)(h:CE X.stack X.prog X.w H s Q u s'):EP X pins σ Q u s':=by
 obtain⟨v,H',os,bare,htk,un,hok,r,q⟩:=h;obtain⟨M,g,d,t,L⟩:=s';obtain rfl:L=s.os:=os;exact⟨v,H',I.call (h':=M) (g':=g) (d':=d) (t':=t) (ch:= []) un hok bare (fun b z=>absurd z (by simp)),r,q⟩
end
def tCall (sp:Sp)(dvs:List V)(E:XK)(t:TA):TE:=fun σ H Q=>t σ H fun vs H1=>sp (vs++dvs) H1 Q E
def tMeth (C:Addr)(m:Str)(sp:Sp)(dvs:List V)(E:XK)(ta:TE)(t:TA):TE:=fun σ H Q=>ta σ H fun x H1=>∃a dx fs,x= .ref a/\H1 a=some (.ins C dx fs)/\fs.lookup m=none/\
 t σ H1 fun vs H2=>sp (x::(vs++dvs)) H2 Q E
def tMake (C:Addr)(sp:Sp)(dvs:List V)(E:XK)(t:TA):TE:=fun σ H Q=>t σ H fun vs H1=>∀x dx,H1 x=none->H1 dx=none->dx≠x->
 sp (.ref x::(vs++dvs)) (upd (upd H1 dx (.own x)) x (.ins C dx [])) (fun v H2=>v= .non/\Q (.ref x) H2) E
def jj (K:PySem.W.Frag)(fd:FuncData)(ps:List Str)(ds:List Value):Prop:=
 ∀(s:Shared) (us:List Value),K.In s.heap->(us++ds).length=ps.length->BindsTo s fd ⟨us,[]⟩ (ps.zip (us++ds))
theorem jj.all {K:PySem.W.Frag}{fd:FuncData}{ps:List Str}(h:∀us:List Value,us.length=ps.length->bindArgs fd ⟨us,[]⟩=pure (ps.zip us)):jj K fd ps []:=fun s us _ I=>by
 rw [vQ] at I⊢;exact .of_eq (h us I)
def Js (CX:CXT)(X:Cx)(E:XK):Prop:=∀(pins:List (Addr×Obj)) (σ:St) (H:Hp) (s:Shared) (e:Value) (s':Shared),Inv X pins σ H s->CX X.stack H s E e s'->X.xe e s'
section
variable {X:Cx}{CX:CXT}{k:Nat}{f C:Addr}{fd:FuncData}{ps:List Str}{sp:Sp}{dvs:List V}{ds:List Value}{E:XK}{x m:Str}{p pos apos:Pos}{e o:Expr}{es:List Expr}{ta:TE}{t:TA}
theorem run_fn {pins:List (Addr×Obj)}{σ:St}{H:Hp}{s:Shared}{Q:VK}{us:List Value}{vs:List V}(F:FnOk X.prog X.w X.K X.mg X.base CX k f fd ps sp)(O:Room k X.A)(R:jj X.K fd ps ds)(hd:Vals dvs ds)(U:Js CX X E)
  (I:Inv X pins σ H s) (r:Vals vs us) (h:sp (vs++dvs) H Q E):wpAny (model X.prog X.w) X.A (call (.ref f) us) (EP X pins σ Q) X.xe s:=by
 have M:Vals (vs++dvs) (us++ds):=r.append hd;have Y:(us++ds).length=ps.length:=by rw [<-M.length];exact F.len _ _ _ _ h
 refine wpAny_call (Ux (F.run X.A X.stack s H ⟨us,[]⟩ (us++ds) (vs++dvs) Q E O I.env0 (R s us I.kIn Y) M h (.inl I.tk)) fun r s' L=> ?_);cases r with
 |error e=>exact U pins σ H s e s' I L
 |ok Z=>
  cases Z with
  |ret u=>exact I.after L
  |next=>exact False.elim L
  |brk=>exact False.elim L
  |cont=>exact False.elim L
theorem qt (F:FnOk X.prog X.w X.K X.mg X.base CX k f fd ps sp)(R:Room k X.A)(U:Gl X x)(hm:X.mg x=some (.ref f))(Y:PySem.W.keepIn X.K (.ref f)=true)(Z:jj X.K fd ps ds)(hd:Vals dvs ds)(hx:Js CX X E)
  (ha:PA X (e::es) t) (L:(x==("__debug__":Str))=false:=by decide) (he:starEach (e::es) X.env=(false,eval e X.env)::starEach es X.env:=by rfl) (M:(backTo pos (starEach es X.env)).any (·.1)=false:=by rfl):
  PE X (.Call (.Name x p) (e::es) [] pos) (tCall sp dvs E t):=by
 intro pins s σ H Q I h;refine Ue (JR I U hm ?_ L);refine Uf (h₀:=X.base) I.ok.mod.kin Y (thn (ha pos pins s σ H _ I h) fun us s1 ⟨vs,H1,O,r,q⟩=>⟨O.kIn,?_⟩) he M;exact run_fn F R Z hd hx O r q
theorem pe_call0 (F:FnOk X.prog X.w X.K X.mg X.base CX k f fd ps sp)(M:Room k X.A)(O:Gl X x)(hm:X.mg x=some (.ref f))(R:PySem.W.keepIn X.K (.ref f)=true)(U:jj X.K fd ps ds)(hd:Vals dvs ds)(Y:Js CX X E)
  (L:(x==("__debug__":Str))=false:=by decide):PE X (.Call (.Name x p) [] [] pos) (tCall sp dvs E tNil):=by
 intro pins s σ H Q I h;refine Ue (JR I O hm ?_ L);exact PySem.W.callWith_K0 I.kIn R (run_fn (us:= []) F M U hd Y I .nil h)
theorem pe_meth {pl:Sem Bool}(U:PE X o ta)(c:Cls X.K C)(hm:Meth X.K C m f)(F:FnOk X.prog X.w X.K X.mg X.base CX k f fd ps sp)(Y:Room k X.A)(Z:jj X.K fd ps ds)(hd:Vals dvs ds)(hx:Js CX X E)(ha:PA X (e::es) t)
  (L:starEach (e::es) X.env=(false,eval e X.env)::starEach es X.env:=by rfl) (M:(backTo pos (starEach es X.env)).any (·.1)=false:=by rfl)
  (ht:eval (.Call (.Attribute o m apos) (e::es) [] pos) X.env=(do
   let ov<-eval o X.env
   standAt apos.atName
   let(f,first)<-holding [ov] (getMethod ov m pl)
   callWith pos f first (backTo pos (starEach (e::es) X.env)) (backToKw pos (keywordEach [] X.env))):=by rfl):
  PE X (.Call (.Attribute o m apos) (e::es) [] pos) (tMeth C m sp dvs E ta t):=by
 intro pins s σ H Q I h;refine Uj (pl:=pl) (thn (U pins s σ H _ I h) fun u s1 ⟨x,H1,O,rx,a,dx,fs,ex,ea,l,q⟩=> ?_) ht;subst ex;obtain rfl:u=Value.ref a:=rx;refine jh O ea c hm l ?_;refine Uf (first:= [.ref a]) (h₀:=X.base) I.ok.mod.kin hm.kp (thn (ha pos pins s1 σ H1 _ O q) fun us s2 ⟨vs,H2,R,r,q2⟩=>⟨R.kIn,?_⟩) L M;exact run_fn (us:= .ref a::us) (vs:= .ref a::vs) F Y Z hd hx R (.cons rfl r) q2
theorem yc {pl:Sem Bool}(M:PE X o ta)(c:Cls X.K C)(hm:Meth X.K C m f)(F:FnOk X.prog X.w X.K X.mg X.base CX k f fd ps sp)(O:Room k X.A)(R:jj X.K fd ps ds)(hd:Vals dvs ds)(U:Js CX X E)
  (Y:eval (.Call (.Attribute o m apos) [] [] pos) X.env=(do
   let ov<-eval o X.env
   standAt apos.atName
   let(f,first)<-holding [ov] (getMethod ov m pl)
   callWith pos f first (backTo pos (starEach [] X.env)) (backToKw pos (keywordEach [] X.env))):=by rfl):
  PE X (.Call (.Attribute o m apos) [] [] pos) (tMeth C m sp dvs E ta tNil):=by
 intro pins s σ H Q I h;refine Uj (pl:=pl) (thn (M pins s σ H _ I h) fun u s1 ⟨x,H1,L,Z,a,dx,fs,ex,ea,l,q⟩=> ?_) Y;subst ex;obtain rfl:u=Value.ref a:=Z;refine jh L ea c hm l ?_;exact PySem.W.callWith_K0 (first:= [.ref a]) L.kIn hm.kp (run_fn (us:= [.ref a]) (vs:= [.ref a]) F O R hd U L (.cons rfl .nil) q)
structure Mk (K:PySem.W.Frag)(C f:Addr):Prop where
 makes:PySem.W.makesIn K C=true
 init:PySem.W.findIn K (.ref C) "__init__"=some (some (.ref f))
 fn:PySem.W.isFn K (.ref f)=true
 kp:PySem.W.keepIn K (.ref C)=true
theorem run_make {pins:List (Addr×Obj)}{σ:St}{H:Hp}{s:Shared}{Q:VK}{us:List Value}{vs:List V}(M:Mk X.K C f)(F:FnOk X.prog X.w X.K X.mg X.base CX k f fd ps sp)(Y:Room (k+1) X.A)(Z:jj X.K fd ps ds)(hd:Vals dvs ds)
  (hx:Js CX X E) (I:Inv X pins σ H s) (r:Vals vs us)
  (h:∀x dx,H x=none->H dx=none->dx≠x->sp (.ref x::(vs++dvs)) (upd (upd H dx (.own x)) x (.ins C dx [])) (fun v H2=>v= .non/\Q (.ref x) H2) E):
  wpAny (model X.prog X.w) X.A (call (.ref C) us) (EP X pins σ Q) X.xe s:=by
 have R:=h (s.heap.objs.size+1) s.heap.objs.size (I.hok.fresh (Nat.le_succ _)) (I.hok.fresh (ui _)) (uM (Nat.lt_succ_self _));have O:=Inv.made (C:=C) I;have U:Vals (V.ref (s.heap.objs.size+1)::(vs++dvs)) (Value.ref (s.heap.objs.size+1)::(us++ds)):= .cons rfl (r.append hd);have hl:(Value.ref (s.heap.objs.size+1)::us++ds).length=ps.length:=by
  have e:=U.length;rw [F.len _ _ _ _ R] at e;exact e.symm
 refine wpAny_call (make_map (f:=f) I.kIn M.makes M.init (beq_iff_eq.mp M.fn) (Ux (F.run _ X.stack _ _ ⟨Value.ref (s.heap.objs.size+1)::us,[]⟩ (Value.ref (s.heap.objs.size+1)::(us++ds)) _ _ E (Y.make C us [])
  (O.env0.make C us []) (Z _ (Value.ref (s.heap.objs.size+1)::us) O.kIn hl) U R (.inl O.tk)) fun r s' L=> ?_))
 cases r with
 |error e=>exact hx pins σ _ _ e s' O L
 |ok fl=>
  cases fl with
  |ret u=>
   obtain⟨v,H',I3,rv,ev,q3⟩:=O.after L;subst ev;exact⟨rv,⟨V.ref (s.heap.objs.size+1),H',I3,rfl,q3⟩⟩
  |next=>exact False.elim L
  |brk=>exact False.elim L
  |cont=>exact False.elim L
theorem pe_make (M:Mk X.K C f)(F:FnOk X.prog X.w X.K X.mg X.base CX k f fd ps sp)(U:Room (k+1) X.A)(Y:Gl X x)(hm:X.mg x=some (.ref C))(Z:jj X.K fd ps ds)(hd:Vals dvs ds)(hx:Js CX X E)
  (ha:PA X (e::es) t) (L:(x==("__debug__":Str))=false:=by decide) (he:starEach (e::es) X.env=(false,eval e X.env)::starEach es X.env:=by rfl) (O:(backTo pos (starEach es X.env)).any (·.1)=false:=by rfl):
  PE X (.Call (.Name x p) (e::es) [] pos) (tMake C sp dvs E t):=by
 intro pins s σ H Q I h;refine Ue (JR I Y hm ?_ L);refine Uf (h₀:=X.base) I.ok.mod.kin M.kp (thn (ha pos pins s σ H _ I h) fun us s1 ⟨vs,H1,R,r,q⟩=>⟨R.kIn,?_⟩) he O;exact run_make M F U Z hd hx R r q
end
structure qA (N P:List Str)(sc:Scope):Prop where
 kind:sc.kind= .function
 co:sc.isCoroutine=false
 gen:sc.isGenerator=false
 nd:N.Nodup
 pre:N.take P.length=P
 par:∀x∈P,sc.names.lookup x=some .local∨sc.names.lookup x=some .cell
 nofree:∀y∈sc.names,y.2≠ .free
theorem bindL_out {kindOf:Str->Option NameKind}{x:Str}:∀{binds:List (Str×Value)}{m:Str->Option Value},(∀v,(x,v)∉binds)->bindL kindOf binds m x=m x
 | [],_,_=>rfl
 |(n,v)::r,m,h=>by
  unfold bindL;rw [bindL_out fun w I=>h w (uq _ I)];split
  ·have:x≠n:=by rintro rfl;exact h v uE
   simp [this]
  ·rfl
theorem bindC_out {kindOf:Str->Option NameKind}{x:Str}:∀{binds:List (Str×Value)}{m:Str->Option Value},(∀v,(x,v)∉binds)->bindC kindOf binds m x=m x
 | [],_,_=>rfl
 |(n,v)::r,m,h=>by
  unfold bindC;rw [bindC_out fun w I=>h w (uq _ I)];split
  ·rfl
  ·have:x≠n:=by rintro rfl;exact h v uE
   simp [this]
theorem bindL_get {kindOf:Str->Option NameKind}{x:Str}{v:Value}:∀{P:List Str}{vs:List Value}{i:Nat}{m:Str->Option Value},P.Nodup->P[i]? =some x->vs[i]? =some v->kindOf x=some .local->
  bindL kindOf (P.zip vs) m x=some v
 | [],_,_,_,_,h,_,_=>by simp at h
 |_::_,[],_,_,_,_,h,_=>by simp at h
 |p::P,w::vs,0,m,nd,h1,h2,hk=>by
  simp at h1 h2;subst h1;subst h2;show bindL kindOf ((p,w)::P.zip vs) m p=_;unfold bindL;rw [bindL_out fun v I=>(List.nodup_cons.mp nd).1 (List.of_mem_zip I).1,if_pos hk];simp
 |p::P,w::vs,i+1,m,nd,h1,h2,hk=>by
  show bindL kindOf ((p,w)::P.zip vs) m x=_;unfold bindL;exact bindL_get (i:=i) (List.nodup_cons.mp nd).2 (by simpa using h1) (by simpa using h2) hk
theorem bindC_get {kindOf:Str->Option NameKind}{x:Str}{v:Value}:∀{P:List Str}{vs:List Value}{i:Nat}{m:Str->Option Value},P.Nodup->P[i]? =some x->vs[i]? =some v->kindOf x≠some .local->
  bindC kindOf (P.zip vs) m x=some v
 | [],_,_,_,_,h,_,_=>by simp at h
 |_::_,[],_,_,_,_,h,_=>by simp at h
 |p::P,w::vs,0,m,nd,h1,h2,hk=>by
  simp at h1 h2;subst h1;subst h2;show bindC kindOf ((p,w)::P.zip vs) m p=_;unfold bindC;rw [bindC_out fun v I=>(List.nodup_cons.mp nd).1 (List.of_mem_zip I).1,if_neg hk];simp
 |p::P,w::vs,i+1,m,nd,h1,h2,hk=>by
  show bindC kindOf ((p,w)::P.zip vs) m x=_;unfold bindC;exact bindC_get (i:=i) (List.nodup_cons.mp nd).2 (by simpa using h1) (by simpa using h2) hk
def Zk (N:List Str)(vs:List V):St:=vs.map some++List.replicate (N.length-vs.length) none
def cxOf (CX:CXT)(P:Program)(w:World)(K:PySem.W.Frag)(mg:Str->Option Value)(base:Heap)(N:List Str)(qual:Str)(scope:Scope)(f:Addr)(cd:Value)(A:Around)(outer:List Env)(s:Shared)(H:Hp)(E:XK):Cx where
 prog:=P
 w:=w
 K:=K
 mg:=mg
 base:=base
 A:=A.deeper (envOfC qual scope s.heap.objs.size f cd)
 N:=N
 s₀:=s
 H₀:=H
 env:=envOfC qual scope s.heap.objs.size f cd
 outer:=outer
 stack:=envOfC qual scope s.heap.objs.size f cd::outer
 ex:= []
 calm:=true
 fn:=fun _=>true
 pn:= []
 xe:=fun e s'=>wpAny (model P w) (A.deeper (envOfC qual scope s.heap.objs.size f cd)) (leaving (envOfC qual scope s.heap.objs.size f cd) e) (fun _ s''=>CX outer H s E e s'') (fun e' s''=>CX outer H s E e' s'') s'
theorem cell_has {sc:Scope}{n:Nat}{x:Str}(h:sc.names.lookup x=some .cell):∃c,(cellsFrom n sc.names []).lookup x=some c:=by
 have q:=PySem.W.cellsFrom_some sc.names n [] (.inl h);exact Option.isSome_iff_exists.mp q
theorem inv_start {CX:CXT}{P:Program}{w:World}{K:PySem.W.Frag}{mg:Str->Option Value}{base:Heap}{N ps:List Str}{qual:Str}{scope:Scope}{f:Addr}{U:Value}{A:Around}{outer:List Env}{s s1:Shared}{H:Hp}{E:XK}{us:List Value}{vs:List V}
  (S:qA N ps scope) (hd:A.handled=none) (I:Env0 P w K mg base A outer s H) (hl:vs.length=ps.length) (r:Vals vs us)
  (x:InCallC s s.heap.objs.size (bindL (envOfC qual scope s.heap.objs.size f U).kindOf (ps.zip us) fun _=>none) (cellsFrom (s.heap.objs.size+1) scope.names []) (bindC (envOfC qual scope s.heap.objs.size f U).kindOf (ps.zip us) fun _=>none) s1) (Y:0<s1.toks):
  Inv (cxOf CX P w K mg base N qual scope f U A outer s H E) [] (Zk N vs) H s1:=by
 have aa:ps.length<=N.length:=by have:=congrArg List.length S.pre;rw [uP] at this;omega
 obtain⟨h1,tk,rfl,Z⟩:=x.done;have L:∀b:Addr,b∉(cxOf CX P w K mg base N qual scope f U A outer s H E).ex:=fun b z=>absurd (show b∈([]:List Addr) from z) (by simp)
 refine⟨⟨I.mod,S.kind,rfl,rfl,ui _,fun y z c h1 h2=> ?_,fun y M=> ?_,fun y c _ h=> ?_,fun _=>hd,Around.frames_deeper I.frames,.inr ⟨rfl,rfl⟩,fun b z=>absurd z (L b),I.bs,I.bsz,fun b _ _=>L b,fun b z=>absurd z (L b),I.funs,I.frf⟩,
  rfl,I.bare,Un.kept Z,⟨_,x.toInCall.ns,fun i y v h1 h2 h3=> ?_⟩,fun y c h=>⟨_,x.cell y c h⟩,I.hok.fresh (ui _),fun y c h=> ?_,fun p O=>absurd (show p∈([]:List (Addr×Obj)) from O) (by simp),I.hok.kept Z,?_,Y⟩
 ·exact name_of_addr x.apart (vE h1) (vE h2)
 ·have M:scope.names.lookup y=some .cell∨scope.names.lookup y=some .free:=M;rcases M with M|M
  ·exact cell_has M
  ·exact absurd rfl (S.nofree _ (vE M))
 ·exact Nat.le_of_lt (x.above y c (vE h))
 ·have hi:i<vs.length:=by
   unfold Zk at h2;by_cases hi:i<vs.length
   ·exact hi
   ·rw [uZ (by simpa using hi)] at h2
    rw [List.getElem?_replicate] at h2;split at h2<;>cases h2
  have ha:vs[i]? =some v:=by
   unfold Zk at h2;rw [vo (by simpa using hi),uI] at h2
   cases e:vs[i]? with
   |none=>rw [e] at h2;cases h2
   |some a=>rw [e] at h2;cases h2;rfl
  obtain⟨u,hu,rv⟩:=r.get ha;have O:ps[i]? =some y:=by
   rw [<-S.pre,List.getElem?_take_of_lt (by omega)];exact h1
  have R:ps.Nodup:=by rw [<-S.pre];exact S.nd.sublist (List.take_sublist _ _)
  refine⟨u,rv,?_⟩;rcases S.par y (uT O) with k|k
  ·exact .inl ⟨k,bindL_get R O hu k⟩
  ·obtain⟨c,e⟩:=cell_has (n:=s.heap.objs.size+1) k;refine .inr ⟨.inl k,c,e,?_⟩;have q:=x.cell y c e;rw [bindC_get R O hu (by show scope.names.lookup y≠_;rw [k];decide)] at q
   exact q
 ·exact I.hok.fresh (Nat.le_of_lt (x.above y c (vE h)))
 ·unfold Zk;show _=N.length;rw [ug,uf,Uk];omega
theorem bindParams1 {M:Model}{A:Around}{E:Value->Shared->Prop}{s₀ s:Shared}{m O:Str->Option Value}{env:Env}(f:Str×Value->PUnit->Sem (ForInStep PUnit))(Z:∀n v u,f (n,v) u=(do storeName env n v;pure (.yield ⟨⟩)))(I:env.scope.kind= .function)
  (n:Str) (v:Value) (r:List (Str×Value)) (Q:PUnit->Shared->Prop) (x:InCallC s₀ env.locals m env.cells O s) (R:env.kindOf n=some .local)
  (U:∀x∈r,env.kindOf x.1=some .local∨(env.kindOf x.1=some .cell/\(env.cells.lookup x.1).isSome=true))
  (h:∀s',InCallC s₀ env.locals (bindL env.kindOf ((n,v)::r) m) env.cells (bindC env.kindOf ((n,v)::r) O) s'->0<s'.toks->Q ⟨⟩ s'):wpAny M A (forIn ((n,v)::r) ⟨⟩ f) Q E s:=by
 rw [Ul,Z];refine wpAny_bind (wpAny_bind (wpAny_storeName_local R x.toInCall.ns (fun h' Y L=>uj ?_) (by rw [I];rfl)))
 have x1:InCallC s₀ env.locals (fun y=>if y=n then some v else m y) env.cells O {s with heap:=h',toks:=s.toks+1}:=by
  refine⟨⟨?_,Y,fun b o e=> ?_,x.toInCall.fresh⟩,fun k c hc=> ?_,x.apart,x.above⟩
  ·obtain⟨h₁,tk,rfl⟩:=x.toInCall.same;exact⟨h',_,rfl⟩
  ·have:=x.toInCall.keep b o e;exact L.extBut b o (uM (Nat.lt_of_lt_of_le (uo e) x.toInCall.fresh)) (x.toInCall.keep b o e)
  ·exact(x.cell k c hc).sameBut L (U7 (x.above k c (mem_of_lookup hc)))
 refine uU (n:=1) (Nat.succ_le_succ (uD _)) (wpAny_bindParams f Z I r _ _ _ _ x1 U fun s' y h1=>h s' ?_ h1);unfold bindL bindC;rw [if_pos R,if_pos R];exact y
theorem newEnv_tk {M:Model}{A:Around}{E:Value->Shared->Prop}{s:Shared}{scope:Scope}{globals:Addr}{binds:List (Str×Value)}{qual:Str}{func:Option Addr}{I:Value}{builtins:Addr}{Q:Env->Shared->Prop}
  (R:scope.kind= .function)
  (U:∀x∈binds,scope.names.lookup x.1=some .local∨(scope.names.lookup x.1=some .cell/\((cellsFrom (s.heap.objs.size+1) scope.names []).lookup x.1).isSome=true))
  (htk:0<s.toks∨∃n v r,binds=(n,v)::r/\scope.names.lookup n=some .local)
  (Z:∀O,O=newEnv scope s.heap.objs.size globals (cellsFrom (s.heap.objs.size+1) scope.names []) qual func I none builtins->
   ∀s',InCallC s O.locals (bindL O.kindOf binds fun _=>none) O.cells (bindC O.kindOf binds fun _=>none) s'->0<s'.toks->Q O s'):
  wpAny M A (newFunctionEnv scope globals [] binds qual func I none builtins) Q E s:=by
 rcases htk with htk|⟨n,v,r,rfl,hl⟩
 ·exact uU (n:=1) htk (wpAny_newFunctionEnv_cells R U fun env he s' x h1=>Z env he s' x h1)
 ·simp only [newFunctionEnv,Option.isSome_none,Ug,if_false];refine wpAny_bind (wpAny_alloc ?_);refine wpAny_bind (wpAny_layCells _ (fun name kind cells=>by cases Y:kind==NameKind.cell<;>simp [Y]) _ _ _ _ ?_)
  have L:=cellsFrom_ok scope.names (s.heap.push {cls:= .type "frame",data:= .dict #[]}) (s.heap.objs.size+1) [] ⟨fun _ _ hm=>(nomatch hm),List.Pairwise.nil⟩ (by rw [vc];exact ui _);rw [vc] at L;rw [show({s with heap:=s.heap.push {cls:= .type "frame",data:= .dict #[]}}:Shared).heap.objs.size=s.heap.objs.size+1 from vc ..]
  exact wpAny_bind (bindParams1 (s₀:=s) (env:=newEnv scope s.heap.objs.size globals (cellsFrom (s.heap.objs.size+1) scope.names []) qual func I none builtins)
   _ (fun _ _ _=>rfl) R n v r _
   ⟨⟨⟨_,_,by rfl⟩,(Heap.Ns.new s.heap (.type "frame")).keeps (pushCells_keeps _ _),fun b o e=>pushCells_keeps _ _ b o (ub _ e),ui _⟩,
    fun m c hc=>(L.empty m c (mem_of_lookup hc)).1,L.apart,fun n c hm=>(L.empty n c hm).2⟩
   hl (fun y hy=>U y (uq _ hy)) fun s' x h1=>uj (Z _ rfl s' x h1))
theorem fn_of {CX:CXT}{P:Program}{w:World}{K:PySem.W.Frag}{mg:Str->Option Value}{base:Heap}{k:Nat}{f:Addr}{name qual:Str}{L:Arguments}{M:List Stmt}{scope:Scope}{dV kV doc pm cdv ct oc:Value}{an od:Option Addr}
  {osl:Array (Option Value)}{N ps:List Str}{sp:Sp} (lk:K.lookup f=some ⟨oc,od,.func (PySem.W.fnOf name qual L M scope dV kV doc pm an cdv ct),osl⟩) (ac:PySem.W.codeIn K cdv qual=true) (S:qA N ps scope)
  (len:∀vs H Q E,sp vs H Q E->vs.length=ps.length)
  (O:∀(A:Around) (outer:List Env) (s:Shared) (H:Hp) (vs:List V) (Q:VK) (E:XK),Room k (A.deeper (envOfC qual scope s.heap.objs.size f cdv))->sp vs H Q E->
   ∃t,PSs (cxOf CX P w K mg base N qual scope f cdv A outer s H E) M t/\t {nx:=fun _ H'=>Q .non H',rt:=Q} (Zk N vs) H):
  FnOk P w K mg base CX (k+1) f (PySem.W.fnOf name qual L M scope dV kV doc pm an cdv ct) ps sp:=by
 refine⟨len,fun A outer s H args us vs Q E hr Y hb r Z htk=> ?_⟩;have hl:=len _ _ _ _ Z;have KX:K.In s.heap:=Y.mod.kin.keeps fun b o e=>(Y.bs b o e).1;have ad:s.heap.NoLimit:=Y.mod.nolimit.keeps fun b o e=>(Y.bs b o e).1;have R:∀y∈ps.zip us,scope.names.lookup y.1=some .local∨(scope.names.lookup y.1=some .cell/\((cellsFrom (s.heap.objs.size+1) scope.names []).lookup y.1).isSome=true):=fun⟨n,v⟩ hy=>by
  rcases S.par n (List.of_mem_zip hy).1 with q|q
  ·exact .inl q
  ·exact .inr ⟨q,PySem.W.cellsFrom_some _ _ _ (.inl q)⟩
 have aa:0<s.toks∨∃n v r,ps.zip us=(n,v)::r/\scope.names.lookup n=some .local:=by
  rcases htk with h|⟨y,q,e,hy⟩
  ·exact .inl h
  ·have:us.length=ps.length:=by rw [<-r.length];exact hl
   subst e
   match us,this with
   |u::us',_=>exact .inr ⟨y,u,q.zip us',rfl,hy⟩
 refine codeAny_call_function hr.depth (KX _ _ lk) rfl S.co S.gen rfl (PySem.W.codeRec_of KX ac) (hb _ _ _ _ ?_);refine newEnv_tk S.kind R aa fun env he s1 x ae=> ?_;subst he;refine⟨ad.keeps x.toInCall.keep,codeAny_func ?_⟩;obtain⟨t,ht,hq⟩:=O A outer s H vs Q E (hr.deeper _) Z;have I:Inv (cxOf CX P w K mg base N qual scope f cdv A outer s H E) [] (Zk N vs) H s1:=inv_start S hr.hd Y hl r x ae;refine vj (ht [] s1 (Zk N vs) H _ I hq) (fun fl s' U=> ?_) fun e s' U=>U;have ab:∀{σ':St}{H':Hp}{v:V}{u:Value},Inv (cxOf CX P w K mg base N qual scope f cdv A outer s H E) [] σ' H' s'->RelV v u->Q v H'->CE outer P w H s Q u s':=
  fun{σ' H' v u} J rv q=>⟨v,H',J.os,J.bare,J.tk,J.base,J.hok,rv,q⟩
 cases fl with
 |ret u=>
  obtain⟨v,σ',H',J,rv,q⟩:=U;exact ab J rv q
 |next=>
  obtain⟨σ',H',J,q⟩:=U;exact ab (v:=V.non) (u:=Value.none) J rfl q
 |brk=>
  obtain⟨_,_,_,q⟩:=U;exact False.elim q
 |cont=>
  obtain⟨_,_,_,q⟩:=U;exact False.elim q
section
variable {X:Cx}{x:Str}{p pos:Pos}{e:Expr}{es:List Expr}{t:TA}{id T:String}{r:List V->Hp->VK->Prop}
def tCB (r:List V->Hp->VK->Prop)(t:TA):TE:=fun σ H Q=>t σ H fun vs H1=>r vs H1 Q
theorem qj (O:Yh X (.builtin id) r)(R:Gl X x)(hm:X.mg x=none)(U:bootBuiltins x=some (.builtin id))(ha:PA X (e::es) t)(hn:x≠"__name__":=by decide)(L:(x==("__debug__":Str))=false:=by decide)
  (Y:starEach (e::es) X.env=(false,eval e X.env)::starEach es X.env:=by rfl) (M:(backTo pos (starEach es X.env)).any (·.1)=false:=by rfl):PE X (.Call (.Name x p) (e::es) [] pos) (tCB r t):=by
 intro pins s σ H Q I h;refine Ue (XI I R hm U ?_ hn L);exact PyProof.Rows.callWith_builtin1 (thn (ha pos pins s σ H _ I h) fun us s1 ⟨vs,H1,Z,r1,q1⟩=>O pins s1 σ H1 vs us Q Z r1 q1) Y M
theorem qR (O:Yh X (.type T) r)(R:Gl X x)(hm:X.mg x=none)(U:bootBuiltins x=some (.type T))(ha:PA X (e::es) t)(hn:x≠"__name__":=by decide)(L:(x==("__debug__":Str))=false:=by decide)
  (Y:starEach (e::es) X.env=(false,eval e X.env)::starEach es X.env:=by rfl) (M:(backTo pos (starEach es X.env)).any (·.1)=false:=by rfl):PE X (.Call (.Name x p) (e::es) [] pos) (tCB r t):=by
 intro pins s σ H Q I h;refine Ue (XI I R hm U ?_ hn L);exact vx (thn (ha pos pins s σ H _ I h) fun us s1 ⟨vs,H1,Z,r1,q1⟩=>O pins s1 σ H1 vs us Q Z r1 q1) Y M
end
end L2
namespace HT
open PySem PyProof.Rows
section
variable {prog:Program}{w:World}{A:Around}{E:Value->Shared->Prop}{s:Shared}
theorem cat_tup {t b:Addr}{vs ws:List Value}{Q:Value->Shared->Prop}(ht:IsTup s.heap t vs.toArray)(hb:IsTup s.heap b ws.toArray)(hv:vs≠ [])
  (h1:ws= []->Q (.ref t) s) (h2:ws≠ []->Q (.ref s.heap.objs.size) {s with heap:=s.heap.push {cls:= .type "tuple",data:= .seq (vs++ws).toArray}})
  (hsz:vs.length+ws.length<=sizeLine):wpAny (model prog w) A (binaryOp .Add (.ref t) (.ref b)) Q E s:=by
 obtain⟨⟨cls,dd,data,sl⟩,U,hc,n,hd⟩:=id ht;obtain⟨⟨aa,L,Z,M⟩,I,O,n2,R⟩:=id hb;simp only at hc hd O R;subst hc hd O R;have e:vs.toArray++ws.toArray=(vs++ws).toArray:=by simp
 by_cases Y:ws= []
 ·exact concat_meets ⟨_,U,rfl⟩ ⟨_,I,rfl⟩ noFill_tuple_add seq_tuple_add PySem.F.slot_tuple_add UD (Uy _ _)
   (tuple_addW1 t b vs.toArray ws.toArray n n2 dd L sl M (by simpa using hv) (by simp [Y])) ⟨U,I,h1 Y⟩
 ·refine concat_meets ⟨_,U,rfl⟩ ⟨_,I,rfl⟩ noFill_tuple_add seq_tuple_add PySem.F.slot_tuple_add UD (Uy _ _)
   (tuple_addW2 t b vs.toArray ws.toArray n n2 dd L sl M (by simpa using hv) (by simpa using Y) (by rw [ue,ue];exact hsz)) ⟨U,I,?_⟩
  rw [e];exact h2 Y
def sIx (n d:Nat):Option Int->Nat
 |none=>d
 |some v=>if v<0 then(v+(n:Int)).toNat else min v.toNat n
theorem sIx_none (n d:Nat):sIx n d none=d:=rfl
theorem sIx_nat (n d k:Nat):sIx n d (some (k:Int))=min k n:=by
 show(if(k:Int)<0 then((k:Int)+(n:Int)).toNat else min (k:Int).toNat n)=min k n
 rw [if_neg (by omega),Int.toNat_natCast]
theorem sIx_le (n d:Nat)(hd:d<=n)(o:Option Int):sIx n d o<=n:=by
 cases o with
 |none=>exact hd
 |some v=>
  show(if v<0 then(v+(n:Int)).toNat else min v.toNat n)<=n
  by_cases I:v<0
  ·rw [if_pos I];omega
  ·rw [if_neg I];exact Nat.min_le_right _ _
theorem clip_eq (v:Int)(n d:Nat):(if v<0 then max (v+(n:Int)) 0 else min v (n:Int))=((sIx n d (some v):Nat):Int):=by
 show(if v<0 then max (v+(n:Int)) 0 else min v (n:Int))=(((if v<0 then(v+(n:Int)).toNat else min v.toNat n):Nat):Int)
 by_cases I:v<0
 ·simp only [if_pos I];omega
 ·simp only [if_neg I];omega
theorem adjust_gen (lo hi:Option Int)(n:Nat):Builtin.Slice.sliceAdjust lo hi 1 (n:Int)=(((sIx n 0 lo:Nat):Int),((sIx n n hi:Nat):Int)):=by
 have h1:¬((1:Int)<0):=by omega
 unfold Builtin.Slice.sliceAdjust;simp only [h1,if_false];refine Prod.ext ?_ ?_
 ·cases lo with
  |none=>rfl
  |some v=>exact clip_eq v n 0
 ·cases hi with
  |none=>rfl
  |some v=>exact clip_eq v n n
theorem places_gen (i j:Nat):Builtin.Slice.slicePlaces (i:Int) (j:Int) 1=j-i:=by
 unfold Builtin.Slice.slicePlaces;have h1:(1:Int)>0:=by omega
 simp only [h1,UL,Int.ediv_one];split<;>omega
theorem X2 {v:Value}{o:Option Int}{Q:Option Int->Shared->Prop}(p:IsPart v o)(h:Q o s):wpAny (model prog w) A (Builtin.Slice.slicePartIndex v) Q E s:=by
 cases p with
 |none=>exact slicePart_none h
 |int i t=>exact slicePart_int h
theorem Yw {sl:Addr}{M O:Value}{lo hi:Option Int}{n:Nat}{Q:Int×Int×Nat->Shared->Prop}(R:s.heap.IsSliceOf sl M O .none)(pl:IsPart M lo)(U:IsPart O hi)
  (h:Q (((sIx n 0 lo:Nat):Int),1,sIx n n hi-sIx n 0 lo) s):wpAny (model prog w) A (Builtin.Slice.sliceApplied (.ref sl) (pure (n:Int))) Q E s:=by
 obtain⟨os,I,Y,L⟩:=id R;unfold Builtin.Slice.sliceApplied Builtin.Slice.sliceFields;refine wpAny_bind (wpAny_bind (uV I L (x:=M) rfl (wpAny_bind (uV I L (x:=O) rfl (wpAny_bind (uV I L (x:= .none) rfl (uj ?_)))))));refine wpAny_bind (slicePart_none ?_);show wpAny _ _ (if((1:Int)==0)=true then _ else _) _ _ s
 rw [if_neg (by decide)]
 refine wpAny_bind (X2 pl (wpAny_bind (X2 U (wpAny_bind (uj ?_)))));show wpAny _ _ (match Builtin.Slice.sliceAdjust lo hi 1 (n:Int) with|(lo,hi)=>pure (lo,(1:Int),Builtin.Slice.slicePlaces lo hi 1)) _ _ s
 rw [adjust_gen lo hi n];show wpAny _ _ (pure (((sIx n 0 lo:Nat):Int),(1:Int),Builtin.Slice.slicePlaces ((sIx n 0 lo:Nat):Int) ((sIx n n hi:Nat):Int) 1)) _ _ s;rw [places_gen];exact uj h
theorem pick_gen (xs:Array Value)(i k:Nat):((List.range k).filterMap fun(m:Nat)=>xs[((i:Int)+(m:Int)*1).toNat]?).toArray=((xs.toList.drop i).take k).toArray:=by
 have e:(fun(m:Nat)=>xs[((i:Int)+(m:Int)*1).toNat]?)=fun m=>xs[i+m]? :=by
  funext m
  have:((i:Int)+(m:Int)*1).toNat=i+m:=by omega
  rw [this]
 rw [e];have:=pick_run xs i k;rw [List.filterMap_map] at this;have I:((fun x=>xs[x]?)∘fun x=>i+x)=fun m=>xs[i+m]? :=rfl;rw [I] at this;rw [this]
theorem getItem_tuple_cut {t sl:Addr}{items:Array Value}{Y Z:Value}{lo hi:Option Int}{Q:Value->Shared->Prop}(L:IsTup s.heap t items)(hs:s.heap.IsSliceOf sl Y Z .none)(pl:IsPart Y lo)(pu:IsPart Z hi)
  (hw:¬(sIx items.size 0 lo=0/\sIx items.size items.size hi=items.size))
  (h:Q (.ref s.heap.objs.size) {s with heap:=s.heap.push {cls:= .type "tuple",data:= .seq ((items.toList.drop (sIx items.size 0 lo)).take (sIx items.size items.size hi-sIx items.size 0 lo)).toArray}})
  (hsz:items.size<=sizeLine):wpAny (model prog w) A (getItem (.ref t) (.ref sl)) Q E s:=by
 have I:sizeOk (.seq ((items.toList.drop (sIx items.size 0 lo)).take (sIx items.size items.size hi-sIx items.size 0 lo)).toArray):=by
  show((items.toList.drop (sIx items.size 0 lo)).take (sIx items.size items.size hi-sIx items.size 0 lo)).toArray.size<=sizeLine;rw [ue,uP,uQ,vr];omega
 have hj:sIx items.size items.size hi<=items.size:=sIx_le _ _ (ui _) hi;obtain⟨os,M,O,aa⟩:=id hs;have R:s.TypeIs (.ref sl) "slice":=⟨os,M,O⟩;unfold getItem
 try with_reducible refine wpAny_holding ?_
 first|refine wpAny_bind (uj ?_)|skip
 refine wpAny_bind (wpAny_sequenceKey L.typeIs (by decide) ?_)
 refine wpAny_bind (v4 (name:=Str.ofString "__getitem__") L.typeIs vF
  (vM vF L.typeIs entry_tuple_getitem ?_ (args_tuple_getitem _ _)))
 show wpAny _ _ (Builtin.Tuple.tupleItemsOf (.ref t)>>=_) _ _ s;refine wpAny_bind (tupleItemsOf_ L ?_);refine wpAny_bind (wpAny_typeOf R ?_);rw [if_pos (by decide)]
 refine wpAny_bind (Yw hs pl pu ?_);have U:¬((((sIx items.size 0 lo:Nat):Int)==0&&(1:Int)==1&&(sIx items.size items.size hi-sIx items.size 0 lo)==items.size)=true):=by
  intro q;rw [um,um] at q;have q1:((sIx items.size 0 lo:Nat):Int)=0:=eq_of_beq q.1.1;have q2:sIx items.size items.size hi-sIx items.size 0 lo=items.size:=eq_of_beq q.2;exact hw ⟨by omega,by omega⟩
 show wpAny _ _ (if(((sIx items.size 0 lo:Nat):Int)==0&&(1:Int)==1&&(sIx items.size items.size hi-sIx items.size 0 lo)==items.size)=true then _ else _) _ _ s
 rw [if_neg U,pick_gen]
 first
  |exact wpAny_bind (m:=Builtin.Tuple.tupleExact _) (vt (uj ⟨_,rfl,uj h⟩) I)
  |exact wpAny_bind (m:=Builtin.Tuple.tupleExact _) (vt (wpAny_bind (uj (uj ⟨_,rfl,uj h⟩))) I)
  |exact wpAny_bind (wpAny_bind (m:=Builtin.Tuple.tupleExact _) (vt (uj (uj ⟨_,rfl,uj h⟩)) I))
  |exact wpAny_bind (wpAny_bind (m:=Builtin.Tuple.tupleExact _) (vt (uj ⟨_,rfl,uj h⟩) I))
end
end HT
namespace L2
open PySem PySem.Spec PyProof.Rows
abbrev TO:=St->Hp->(Option Int->Hp->Prop)->Prop
def PO (X:Cx)(e:Option Expr)(t:TO):Prop:=
 ∀(pins:List (Addr×Obj)) (s:Shared) (σ:St) (H:Hp) (Q:Option Int->Hp->Prop),Inv X pins σ H s->t σ H Q->
  wpAny (model X.prog X.w) X.A (evalPart e X.env) (fun u s'=>∃o H',Inv X pins σ H' s'/\IsPart u o/\Q o H') X.xe s
def JI:TO:=fun _ H Q=>Q none H
def tPart (t:TE):TO:=fun σ H Q=>t σ H fun x H1=>∃i,x= .int i/\Q (some i) H1
theorem zD {ns:List Int}:∀{us:List Value},Vals (ns.map V.int) us->IntsAre us ns:=by
 induction ns with
 |nil=>intro us r;rw [vi] at r;cases r;exact .nil
 |cons n ns I=>
  intro us r;rw [uk] at r;cases r with
  |cons L M=>
   obtain⟨t,e⟩:=L;subst e;exact .cons n t (I M)
section
variable {X:Cx}{e:Expr}{te:TE}{lo hi:Option Expr}{tl th:TO}{pos p2:Pos}
theorem QT:PO X none JI:=by
 intro pins s σ H Q I h;rw [evalPart_none];exact uj ⟨none,H,I,.none,h⟩
theorem QR (h:PE X e te):PO X (some e) (tPart te):=by
 intro pins s σ H Q I L;rw [evalPart_some];refine thn (h pins s σ H _ I L) fun u s1 ⟨x,H1,M,O,q1⟩=> ?_;obtain⟨i,rfl,q⟩:=q1;obtain⟨t,rfl⟩:=O;exact⟨some i,H1,M,.int i t,q⟩
def SlR (X:Cx)(r:V->Option Int->Option Int->Hp->VK->Prop):Prop:=
 ∀(pins:List (Addr×Obj)) (s:Shared) (σ:St) (H:Hp) (x:V) (v vl vu:Value) (lo hi:Option Int) (sl:Addr) (Q:VK),Inv X pins σ H s->RelV x v->s.heap.IsSliceOf sl vl vu .none->IsPart vl lo->IsPart vu hi->r x lo hi H Q->
  ∃T id,typeLookup (.type T) "__getitem__"=pure (some (.builtin id))/\s.TypeIs v T/\wpAny (model X.prog X.w) X.A (getItem v (.ref sl)) (EP X pins σ Q) X.xe s
theorem SlR.or {r L:V->Option Int->Option Int->Hp->VK->Prop}(h:SlR X r)(h':SlR X L):SlR X (fun x lo hi H Q=>r x lo hi H Q∨L x lo hi H Q):=by
 intro pins s σ H x v M O lo hi sl Q I R U pl Y q;rcases q with q|q
 ·exact h pins s σ H x v M O lo hi sl Q I R U pl Y q
 ·exact h' pins s σ H x v M O lo hi sl Q I R U pl Y q
def tSl (r:V->Option Int->Option Int->Hp->VK->Prop)(te:TE)(tl th:TO):TE:=fun σ H Q=>te σ H fun x H1=>tl σ H1 fun l H2=>th σ H2 fun u H3=>r x l u H3 Q
theorem QC {r:V->Option Int->Option Int->Hp->VK->Prop}(U:SlR X r)(Y:PE X e te)(Z:PO X lo tl)(hu:PO X hi th):PE X (.Subscript e (.Slice lo hi none p2) pos) (tSl r te tl th):=by
 intro pins s σ H Q I h;refine Subscript_ (thn (Y pins s σ H _ I h) fun v s1 ⟨x,H1,I1,r1,q1⟩=> ?_);refine wpAny_Slice (thn (Z pins s1 σ H1 _ I1 q1) fun M s2 ⟨l,H2,I2,pl,q2⟩=>thn (hu pins s2 σ H2 _ I2 q2) fun O L ⟨u,R,I3,pu,q3⟩=> ?_);rw [evalPart_none];refine uj ?_;have I4:Inv X pins σ R {L with heap:=L.heap.push {cls:= .type "slice",data:= .fields #[M,O,.none]}}:=I3.kept (t':=L.toks) fun b ob q=>ub _ q
 obtain⟨T,id,hT,ht,hg⟩:=U pins {L with heap:=L.heap.push {cls:= .type "slice",data:= .fields #[M,O,.none]}} σ R x v M O l u L.heap.objs.size Q I4 r1 (Heap.IsSliceOf.new ..) pl pu q3
 show wpAny (model X.prog X.w) X.A (subscriptTail e (.Slice lo hi none p2) v (.ref L.heap.objs.size)) (EP X pins σ Q) X.xe {L with heap:=L.heap.push {cls:= .type "slice",data:= .fields #[M,O,.none]}}
 exact tail_any (ops:= [.ref L.heap.objs.size,v]) ht hT hg (by with_unfolding_all rfl)
def cutV (xs:List V)(lo hi:Option Int):List V:=(xs.drop (HT.sIx xs.length 0 lo)).take (HT.sIx xs.length xs.length hi-HT.sIx xs.length 0 lo)
theorem xS (xs:List V)(lo hi:Option Int):(cutV xs lo hi).length<=xs.length:=by
 unfold cutV;rw [uP,uQ];omega
def rSlT (K:PySem.W.Frag):V->Option Int->Option Int->Hp->VK->Prop:=fun x lo hi H Q=>∃a xs,x= .ref a/\SqT K H a xs/\
 ¬(HT.sIx xs.length 0 lo=0/\HT.sIx xs.length xs.length hi=xs.length)/\∀p,H p=none->Q (.ref p) (upd H p (.tup (cutV xs lo hi)))
theorem sl_tup:SlR X (rSlT X.K):=by
 intro pins s σ H x v vl vu lo hi sl Q I R U pl Y h;obtain⟨a,xs,rfl,Z,hw,q⟩:=h;cases R;obtain⟨its,r,M,O⟩:=I.tuple Z;have L:its.toArray.size=xs.length:=by rw [ue];exact r.length.symm
 refine⟨"tuple",_,PyProof.Rows.slot_tuple_getitem.lookup,M.typeIs,?_⟩;refine HT.getItem_tuple_cut M U pl Y (by rw [L];exact hw) ?_ (by rw [L];exact O)
 rw [L];refine⟨.ref s.heap.objs.size,_,I.laid (t':=s.toks) (o:= .tup (cutV xs lo hi)) (fun b ob q=>ub _ q) (ui _) ?_,rfl,q _ (I.hok.fresh (ui _))⟩;exact⟨uK (xS xs lo hi) O,_,(r.drop (HT.sIx xs.length 0 lo)).take (HT.sIx xs.length xs.length hi-HT.sIx xs.length 0 lo),IsTup.new _ _⟩
def rCatT (K:PySem.W.Frag):R2:=fun x y H Q=>∃a b xs ys,x= .ref a/\y= .ref b/\SqT K H a xs/\SqT K H b ys/\xs≠ []/\xs.length+ys.length<=sizeLine/\
 (ys= []->Q (.ref a) H)/\(ys≠ []->∀p,H p=none->Q (.ref p) (upd H p (.tup (xs++ys))))
theorem Vals.nil_iff {xs:List V}{us:List Value}(r:Vals xs us):us= []↔xs= []:=by
 cases r with
 |nil=>simp
 |cons _ _=>simp
theorem op_catT:OpR X (binaryOp .Add) (rCatT X.K):=by
 intro pins s σ H x y v u Q I U Y h;obtain⟨a,b,xs,ys,rfl,rfl,ha,Z,hx,O,q1,q2⟩:=h;cases U;cases Y;obtain⟨its,M,p1,_⟩:=I.tuple ha;obtain⟨R,L,p2,_⟩:=I.tuple Z;refine HT.cat_tup p1 p2 (fun z=>hx (M.nil_iff.mp z)) (fun z=>⟨.ref a,H,I,rfl,q1 (L.nil_iff.mp z)⟩) (fun z=> ?_) (by rw [<-M.length,<-L.length];exact O)
 refine⟨.ref s.heap.objs.size,_,I.laid (t':=s.toks) (o:= .tup (xs++ys)) (fun b ob q=>ub _ q) (ui _) ?_,rfl,q2 (fun w=>z (L.nil_iff.mpr w)) _ (I.hok.fresh (ui _))⟩;exact⟨by rw [ug];exact O,_,M.append L,IsTup.new _ _⟩
end
def ixN (n:Nat)(i:Int):Option Nat:=if 0<=i then(if i<n then some i.toNat else none) else if-(n:Int)<=i then some (i+n).toNat else none
def atI {α:Type}(xs:List α)(i:Int):Option α:=(ixN xs.length i).bind fun j=>xs[j]?
theorem ixN_seq {n:Nat}{i:Int}{j:Nat}(h:ixN n i=some j):seqIndex? i n=some j/\j<n/\ -(n:Int)<=i/\i<n:=by
 unfold ixN at h;by_cases I:0<=i
 ·rw [if_pos I] at h;by_cases h1:i<n
  ·rw [if_pos h1] at h;have e:i.toNat=j:=uR h;exact⟨by rw [seqIndex_of I h1,e],by omega,by omega,h1⟩
  ·rw [if_neg h1] at h;cases h
 ·rw [if_neg I] at h;by_cases h1: -(n:Int)<=i
  ·rw [if_pos h1] at h;have e:(i+n).toNat=j:=uR h;exact⟨by rw [seqIndex_neg (by omega) h1,e],by omega,h1,by omega⟩
  ·rw [if_neg h1] at h;cases h
theorem Zq {α:Type}{xs:List α}{i:Int}{v:α}(h:atI xs i=some v):∃j,seqIndex? i xs.length=some j/\xs[j]? =some v/\j<xs.length/\ -(xs.length:Int)<=i/\i<xs.length:=by
 unfold atI at h;cases e:ixN xs.length i with
 |none=>rw [e] at h;cases h
 |some j=>
  rw [e] at h;obtain⟨h1,h2,I,h4⟩:=ixN_seq e;exact⟨j,h1,h,h2,I,h4⟩
theorem qQ {α:Type}{xs:List α}{j:Nat}{v:α}(h:xs[j]? =some v):atI xs (j:Int)=some v:=by
 have I:j<xs.length:=(List.getElem?_eq_some_iff.mp h).1;have e:ixN xs.length (j:Int)=some j:=by
  unfold ixN;rw [if_pos (by omega),if_pos (by omega)];simp
 unfold atI;rw [e];exact h
theorem ZH {α:Type}(xs:List α)(v:α):atI (xs++ [v]) (-1)=some v:=by
 have I:(xs++ [v]).length=xs.length+1:=by simp
 have e:ixN (xs++ [v]).length (-1)=some xs.length:=by
  unfold ixN;rw [I,if_neg (by decide),if_pos (by omega)]
  congr 1
  omega
 unfold atI;rw [e];show(xs++ [v])[xs.length]? =some v;simp
def PlainIx (b:Expr):Prop:=∀o i,subscripted b false o i=operate [o,i] (getItem o i)
def IxR (X:Cx)(r:R2):Prop:=
 ∀(value slice:Expr) (pins:List (Addr×Obj)) (s:Shared) (σ:St) (H:Hp) (x y:V) (v u:Value) (Q:VK),Inv X pins σ H s->RelV x v->RelV y u->r x y H Q->
  subscripted slice false v u=operate [v,u] (getItem v u)->wpAny (model X.prog X.w) X.A (subscriptTail value slice v u) (EP X pins σ Q) X.xe s
def MtR (X:Cx)(id:String)(r:V->List V->Hp->VK->Prop):Prop:=
 ∀(pins:List (Addr×Obj)) (s:Shared) (σ:St) (H:Hp) (x:V) (xs:List V) (v:Value) (us:List Value) (Q:VK),Inv X pins σ H s->RelV x v->Vals xs us->r x xs H Q->
  wpAny (model X.prog X.w) X.A (call (.builtin id) (v::us)) (EP X pins σ Q) X.xe s
section
variable {X:Cx}{a b:Expr}{ta tb:TE}{pos:Pos}
theorem IxR.or {r M:R2}(h:IxR X r)(h':IxR X M):IxR X (fun x y H Q=>r x y H Q∨M x y H Q):=by
 intro value L pins s σ H x y v u Q I O R q U;rcases q with q|q
 ·exact h value L pins s σ H x y v u Q I O R q U
 ·exact h' value L pins s σ H x y v u Q I O R q U
theorem qG {r:R2}(L:IxR X r)(ha:PE X a ta)(M:PE X b tb)(O:PlainIx b):PE X (.Subscript a b pos) (tOp r ta tb):=by
 intro pins s σ H Q I h;exact Subscript_ (binT ha M I h fun v u s2 x y H2 R U Y q=>L a b pins s2 σ H2 x y v u Q R U Y q (O _ _))
def rIxL (K:PySem.W.Frag):R2:=fun x y H Q=>∃p xs i v,x= .ref p/\y= .int i/\SqL K H p xs/\atI xs i=some v/\Q v H
def rIxT (K:PySem.W.Frag):R2:=fun x y H Q=>∃p xs i v,x= .ref p/\y= .int i/\SqT K H p xs/\atI xs i=some v/\Q v H
def rIxS:R2:=fun x y H Q=>∃z i c,x= .str z/\y= .int i/\z.length<=sizeLine/\atI z.cps.toList i=some c/\Q (.str ⟨#[c]⟩) H
theorem qP:IxR X (rIxL X.K):=by
 intro value M pins s σ H x y v u Q I rx ry h U;obtain⟨p,xs,i,z,rfl,rfl,hq,he,q⟩:=h;cases rx;obtain⟨t,rfl⟩:=ry;obtain⟨its,r,pl,hz⟩:=I.list hq;obtain⟨j,h1,h2,h3,h4,h5⟩:=Zq he;obtain⟨w,Y,O⟩:=r.get h2;have hl:=r.length;have hn:=J2;have L:EP X pins σ Q w s:=⟨z,H,I,O,q⟩;by_cases Z:0<=i
 ·have R:i.toNat=j:=by
   rw [seqIndex_of Z h5] at h1;exact uR h1
  exact item_listR pl.isList Z (by omega) (by rw [R];simpa using Y) L U
 ·have R:(i+(its.toArray.size:Int)).toNat=j:=by
   rw [seqIndex_neg (by omega) h4] at h1
   rw [ue,<-hl];exact uR h1
  exact subscriptTail_builtinR (x:=w) pl.isList.typeIs slot_list_getitem.lookup
   (wpAny_getItem_list_neg (Q:=fun r s'=>r=w/\EP X pins σ Q r s') pl.isList (by omega) (by rw [ue]<;>omega) (by omega) (by rw [R];simpa using Y) ⟨rfl,L⟩) U
theorem qT:IxR X (rIxT X.K):=by
 intro value L pins s σ H x y v u Q I R U h Y;obtain⟨p,xs,i,z,rfl,rfl,Z,he,q⟩:=h;cases R;obtain⟨t,rfl⟩:=U;obtain⟨its,r,pl,hz⟩:=I.tuple Z;obtain⟨j,h1,h2,h3,h4,h5⟩:=Zq he;obtain⟨w,ew,M⟩:=r.get h2;have hl:=r.length;have hn:=J2;have O:EP X pins σ Q w s:=⟨z,H,I,M,q⟩;exact subscriptTail_builtinR (x:=w) pl.typeIs slot_tuple_getitem.lookup
  (getItem_tuple (j:=j) (Q:=fun r s'=>r=w/\EP X pins σ Q r s') pl (by omega) (by omega) (by rw [ue,<-hl];exact h1) (by simpa using ew) ⟨rfl,O⟩) Y
theorem ix_str:IxR X rIxS:=by
 intro value L pins s σ H x y v u Q I M O h R;obtain⟨z,i,c,rfl,rfl,hz,U,q⟩:=h;obtain⟨t,rfl⟩:=M;obtain⟨t',rfl⟩:=O;obtain⟨j,h1,h2,h3,h4,Y⟩:=Zq U;have Z:z.cps.toList.length=z.length:=by simp [Str.length]
 rw [Z] at h1 h4 Y;have hn:=J2;exact tail_any (vL s z t) slot_str_getitem.lookup (getItem_str (c:=c) (by
  have e1:decide (i< -(2^63:Int))=false:=uc (by omega)
  have e2:decide (i≥2^63)=false:=uc (by omega)
  rw [e1,e2,Bool.or_false]) (by rw [h1];simpa using h2) ⟨.str ⟨#[c]⟩,H,I.tok _,⟨_,rfl⟩,q⟩) R
def rIx (K:PySem.W.Frag):R2:=fun x y H Q=>rIxL K x y H Q∨rIxT K x y H Q∨rIxS x y H Q
theorem yt:IxR X (rIx X.K):=qP.or (qT.or ix_str)
theorem mapSeq_set (its:List Value)(n j:Nat)(u:Value):Obj.mapSeq (·.setIfInBounds j u) {cls:= .type "list",data:= .seq its.toArray n}={cls:= .type "list",data:= .seq (its.set j u).toArray n}:=by
 simp [Obj.mapSeq]
theorem Inv.lst {pins:List (Addr×Obj)}{σ:St}{H:Hp}{s:Shared}{p:Addr}{xs:List V}(I:Inv X pins σ H s)(h:H p=some (.lst xs)):
  ∃(its:List Value) (n:Nat),Vals xs its/\s.heap.get? p=some {cls:= .type "list",data:= .seq its.toArray n}/\xs.length<=sizeLine:=by
 obtain⟨z,its,n,r,e⟩:=I.hok p _ h;exact⟨its,n,r,e,z⟩
theorem Inv.lstUpd {pins:List (Addr×Obj)}{σ:St}{H:Hp}{s:Shared}{p:Addr}{xs ys:List V}{its its':List Value}{n L:Nat}{f:Obj->Obj}(I:Inv X pins σ H s)(h:H p=some (.lst xs))
  (O:s.heap.get? p=some {cls:= .type "list",data:= .seq its.toArray n}) (M:f {cls:= .type "list",data:= .seq its.toArray n}={cls:= .type "list",data:= .seq its'.toArray L}) (r:Vals ys its') (R:ys.length<=sizeLine) (t:Nat) (Y:0<t:=by((try dsimp only);first|assumption|exact Inv.tk (by assumption)|exact Nat.succ_pos _|exact Nat.lt_of_lt_of_le (Inv.tk (by assumption)) (by assumption)|exact Nat.add_pos_left (Inv.tk (by assumption)) _|omega)):
  Inv X pins σ (upd H p (.lst ys)) {s with heap:=s.heap.update p f,toks:=t}:=by
 have e:(s.heap.update p f).get? p=some {cls:= .type "list",data:= .seq its'.toArray L}:=by
  rw [Heap.get?_update_self f O (by rw [M]<;>rfl),M]
 refine I.write (x:=p) (e:=p) (by rw [h];trivial) (.inl rfl) (fun b u U q=>(Heap.get?_update_other _ _ (Uq U)).trans q) ⟨_,e⟩ ?_
 exact⟨R,its',L,r,e⟩
def rSetL:V->V->V->Hp->(Hp->Prop)->Prop:=fun o i v H Q=>∃p xs k j,o= .ref p/\i= .int k/\H p=some (.lst xs)/\ixN xs.length k=some j/\Q (upd H p (.lst (xs.set j v)))
theorem set_list:PSet X rSetL:=by
 intro pins s σ H o i v ov iv u Q I ro ri rv h;obtain⟨p,xs,k,j,rfl,rfl,R,hj,q⟩:=h;cases ro;obtain⟨t,rfl⟩:=ri;obtain⟨its,n,r,L,hz⟩:=I.lst R;obtain⟨h1,h2,U,h4⟩:=ixN_seq hj;have M:=r.length;have hn:=J2;have Y:Inv X pins σ (upd H p (.lst (xs.set j v))) {s with heap:=s.heap.update p (Obj.mapSeq (·.setIfInBounds j u))}:=
  I.lstUpd R L (mapSeq_set its n j u) (r.set rv j) (by rw [List.length_set];exact hz) s.toks
 by_cases Z:0<=k
 ·have O:k.toNat=j:=by
   rw [seqIndex_of Z h4] at h1;exact uR h1
  exact PySem.W.ki_setAt L Z (by omega) (by rw [ue,<-M];exact h4) (by rw [O];exact⟨_,Y,q⟩)
 ·have O:(k+(its.toArray.size:Int)).toNat=j:=by
   rw [seqIndex_neg (by omega) U] at h1
   rw [ue,<-M];exact uR h1
  exact PySem.W.ki_setBack L (by omega) (by rw [ue,<-M];exact U) (by omega) (by rw [O];exact⟨_,Y,q⟩)
theorem slice_bounds (lo hi:Option Int)(n:Nat):(sliceBounds lo hi none n).1=((HT.sIx n 0 lo:Nat):Int)/\(sliceBounds lo hi none n).2.1=((HT.sIx n n hi:Nat):Int)/\(sliceBounds lo hi none n).2.2=1:=by
 refine⟨?_,?_,rfl⟩
 ·cases lo with
  |none=>simp [sliceBounds,HT.sIx]
  |some i=>
   simp only [sliceBounds,HT.sIx,Option.getD_none,show(1:Int)>0 by decide,UL]
   by_cases h:i<0
   ·simp only [h,UL]<;>omega
   ·simp only [h,if_false]<;>omega
 ·cases hi with
  |none=>simp [sliceBounds,HT.sIx]
  |some i=>
   simp only [sliceBounds,HT.sIx,Option.getD_none,show(1:Int)>0 by decide,UL]
   by_cases h:i<0
   ·simp only [h,UL]<;>omega
   ·simp only [h,if_false]<;>omega
theorem ZL (its:List Value)(lo hi:Option Int):slicePick its.toArray lo hi none=((its.drop (HT.sIx its.length 0 lo)).take (HT.sIx its.length its.length hi-HT.sIx its.length 0 lo)).toArray:=by
 obtain⟨h1,h2,I⟩:=slice_bounds lo hi its.toArray.size;unfold slicePick;rw [h1,h2,I];simp only [sliceRange_one,pick_run,ue]<;>rfl
def rSlL (K:PySem.W.Frag):V->Option Int->Option Int->Hp->VK->Prop:=fun x lo hi H Q=>∃a xs,x= .ref a/\SqL K H a xs/\∀p,H p=none->Q (.ref p) (upd H p (.lst (cutV xs lo hi)))
theorem sl_list:SlR X (rSlL X.K):=by
 intro pins s σ H x v vl vu lo hi sl Q I O R pl U h;obtain⟨a,xs,rfl,Y,q⟩:=h;cases O;obtain⟨its,r,M,Z⟩:=I.list Y;have L:=r.length;refine⟨"list",_,slot_list_getitem.lookup,M.isList.typeIs,?_⟩;refine wpAny_getItem_list_slice M.isList R pl U .none (by simp) ?_ (by rw [ue]<;>omega)
 rw [ZL,<-L];refine⟨.ref s.heap.objs.size,_,I.laid (t':=s.toks) (o:= .lst (cutV xs lo hi)) (fun b ob q=>ub _ q) (ui _) ?_,rfl,q _ (I.hok.fresh (ui _))⟩;exact⟨uK (xS xs lo hi) Z,_,0,(r.drop (HT.sIx xs.length 0 lo)).take (HT.sIx xs.length xs.length hi-HT.sIx xs.length 0 lo),uw _ rfl⟩
def xh:V->Bool
 | .non=>true
 | .bl _=>true
 | .int _=>true
 | .str _=>true
 |_=>false
noncomputable def eqV:V->V->Bool
 | .non,.non=>true
 | .bl a,.bl b=>a==b
 | .bl a,.int b=>(if a then 1 else 0)==b
 | .int a,.bl b=>a==(if b then 1 else 0)
 | .int a,.int b=>a==b
 | .str a,.str b=>a==b
 |_,_=>false
theorem eqAt_V {A:Around}{s:Shared}{y x:V}{u v:Value}(L:RelV y u)(I:RelV x v)(O:xh y=true)(M:xh x=true):SeqAt.EqAt A s u v (eqV y x):=by
 cases y with
 |non=>
  cases L;cases x with
  |non=>cases I;exact Um _
  |bl b=>cases I;exact SeqAt.EqAt.none_bool b
  |int b=>obtain⟨t,rfl⟩:=I;exact SeqAt.EqAt.none_int b t
  |str b=>obtain⟨t,rfl⟩:=I;exact SeqAt.EqAt.none_str b t
  |_=>exact absurd (show false=true from M) ua
 |bl a=>
  cases L;cases x with
  |non=>cases I;exact SeqAt.EqAt.bool_none a
  |bl b=>cases I;exact SeqAt.EqAt.bool_bool a b
  |int b=>obtain⟨t,rfl⟩:=I;exact SeqAt.EqAt.bool_int a b t
  |str b=>obtain⟨t,rfl⟩:=I;exact SeqAt.EqAt.bool_str a b t
  |_=>exact absurd (show false=true from M) ua
 |int a=>
  obtain⟨t',rfl⟩:=L;cases x with
  |non=>cases I;exact SeqAt.EqAt.int_none a t'
  |bl b=>cases I;exact SeqAt.EqAt.int_bool a t' b
  |int b=>obtain⟨t,rfl⟩:=I;exact UE a t' b t
  |str b=>obtain⟨t,rfl⟩:=I;exact UB a t' b t
  |_=>exact absurd (show false=true from M) ua
 |str a=>
  obtain⟨t',rfl⟩:=L;cases x with
  |non=>cases I;exact SeqAt.EqAt.str_none a t'
  |bl b=>cases I;exact SeqAt.EqAt.str_bool a t' b
  |int b=>obtain⟨t,rfl⟩:=I;exact UC a t' b t
  |str b=>obtain⟨t,rfl⟩:=I;exact UF a t' b t
  |_=>exact absurd (show false=true from M) ua
 |_=>exact absurd (show false=true from O) ua
noncomputable def eqU (x:V)(u:Value):Bool:=match u with
 | .none=>eqV .non x
 | .bool b=>eqV (.bl b) x
 | .int i _=>eqV (.int i) x
 | .str z _=>eqV (.str z) x
 |_=>false
theorem eqU_of {x y:V}{u:Value}(r:RelV y u)(f:xh y=true):eqU x u=eqV y x:=by
 cases y with
 |non=>cases r;rfl
 |bl b=>cases r;rfl
 |int i=>obtain⟨t,rfl⟩:=r;rfl
 |str z=>obtain⟨t,rfl⟩:=r;rfl
 |_=>exact absurd (show false=true from f) ua
theorem any_eqU {x:V}:∀{xs:List V}{us:List Value},Vals xs us->xs.all xh=true->us.any (eqU x)=xs.any fun y=>eqV y x
 |_,_,.nil,_=>rfl
 |y::xs,u::us,.cons r t,f=>by
  rw [vy,um] at f;rw [UJ,UJ,eqU_of r f.1,any_eqU t f.2]
theorem Zp {A:Around}{s:Shared}{x:V}{v:Value}(L:RelV x v)(M:xh x=true):∀{xs:List V}{us:List Value},Vals xs us->xs.all xh=true->∀u∈us,SeqAt.EqAt A s u v (eqU x u)
 |_,_,.nil,_=>fun u I=>by cases I
 |y::xs,u::us,.cons r t,f=>fun O I=>by
  rw [vy,um] at f;rcases List.mem_cons.mp I with rfl|I
  ·rw [eqU_of r f.1];exact eqAt_V r L f.1 M
  ·exact Zp L M t f.2 O I
def inV (x:V)(xs:List V):Bool:=xs.any fun y=>eqV y x
def rIn (K:PySem.W.Frag)(neg:Bool):R2:=fun x y H Q=>∃p xs,y= .ref p/\(SqL K H p xs∨SqT K H p xs)/\xh x=true/\xs.all xh=true/\Q (.bl (if neg then !inV x xs else inV x xs)) H
theorem Qq:OpR X (compareOp .In) (rIn X.K false):=by
 intro pins s σ H x y v u Q I O U h;obtain⟨p,xs,rfl,L,R,fs,q⟩:=h;cases U;rcases L with L|L
 ·obtain⟨its,r,pl,Y⟩:=I.list L;refine SeqAt.in_listAt (eqU x) pl.isList (fun w M=>Zp O R r fs w (by simpa using M)) ⟨.bl _,H,I,rfl,?_⟩
  rw [show its.toArray.any (eqU x)=its.any (eqU x) by simp,any_eqU r fs]
  exact q
 ·obtain⟨its,r,pl,Y⟩:=I.tuple L;refine SeqAt.in_tupleAt (eqU x) pl (fun w M=>Zp O R r fs w (by simpa using M)) ⟨.bl _,H,I,rfl,?_⟩
  rw [show its.toArray.any (eqU x)=its.any (eqU x) by simp,any_eqU r fs]
  exact q
theorem J8:OpR X (compareOp .NotIn) (fun x y H Q=>∃i j,x= .str i/\y= .str j/\Q (.bl (!(!(Builtin.Str.occurrences j i 0 j.length 1).isEmpty))) H):=by
 intro pins s σ H x y v u Q I L M h;obtain⟨i,j,rfl,rfl,q⟩:=h;obtain⟨t,rfl⟩:=L;obtain⟨t',rfl⟩:=M;exact notIn_str ⟨.bl _,H,I,rfl,q⟩
theorem qE:Yh X (.builtin "len") (fun xs H Q=>∃p ys,xs= [.ref p]/\(SqL X.K H p ys∨SqT X.K H p ys)/\Q (.int ys.length) H):=by
 intro pins s σ H xs us Q I r h;obtain⟨p,ys,rfl,M,q⟩:=h;obtain⟨u,rfl,R⟩:=jN r;cases R;have hn:=J2;rcases M with M|M
 ·obtain⟨its,O,pl,U⟩:=I.list M;have L:=O.length;exact Calls.call_len_list pl.isList (by simp only [ue]<;>omega) ⟨.int ys.length,H,I.tok _,⟨s.toks+1,by rw [ue,L]⟩,q⟩
 ·obtain⟨its,O,pl,U⟩:=I.tuple M;have L:=O.length;exact len_tuple pl (by simp only [ue]<;>omega) ⟨.int ys.length,H,I.tok _,⟨s.toks+1,by rw [ue,L]⟩,q⟩
theorem YU:Yh X (.builtin "len") (fun xs H Q=>∃z,xs= [.str z]/\z.length<=sizeLine/\Q (.int z.length) H):=by
 intro pins s σ H xs us Q I r h;obtain⟨z,rfl,L,q⟩:=h;obtain⟨u,rfl,t,rfl⟩:=jN r;have hn:=J2;exact len_str (by omega) ⟨.int z.length,H,I.tok _,⟨_,rfl⟩,q⟩
theorem qU:Yh X (.type "tuple") (fun xs H Q=>∃p ys,xs= [.ref p]/\((SqL X.K H p ys/\∀l,H l=none->Q (.ref l) (upd H l (.tup ys)))∨(SqT X.K H p ys/\Q (.ref p) H))):=by
 intro pins s σ H xs us Q I r h;obtain⟨p,ys,rfl,h⟩:=h;obtain⟨u,rfl,Y⟩:=jN r;cases Y;rcases h with⟨L,q⟩|⟨L,q⟩
 ·obtain⟨its,M,pl,O⟩:=I.list L;have R:=M.length;refine call_tuple_list pl.isList (fun h' kp=> ?_) (by simp only [ue]<;>omega)
  have U:Inv X pins σ H {s with heap:=h'}:=I.kept (t':=s.toks) kp
  have Z:Inv X pins σ (upd H h'.objs.size (.tup ys)) {s with heap:=h'.push {cls:= .type "tuple",data:= .seq its.toArray}}:=
   U.laid (t':=s.toks) (fun b o e=>ub _ e) (ui _) (show Q2 X.prog X.w _ _ _ (.tup ys) from⟨O,its,M,IsTup.new _ _⟩)
  exact⟨.ref h'.objs.size,_,Z,rfl,q _ (U.hok.fresh (ui _))⟩
 ·obtain⟨its,M,pl,O⟩:=I.tuple L;exact call_tuple_same pl ⟨.ref p,H,I,rfl,q⟩
def tyV (K:PySem.W.Frag)(T:String)(x:V)(H:Hp):Prop:=match x with
 | .str _=>T="str"
 | .int _=>T="int"
 | .ref p=>(T="list"/\∃xs,SqL K H p xs)∨(T="tuple"/\∃o,K.lookup p=some o/\o.cls= .type "tuple"/\o.dict=none)∨
   (T="dict"/\((∃kvs,H p=some (.dK kvs))∨∃kvs,H p=some (.dT kvs)))∨(T="set"/\∃S n,H p=some (.set S n))
 |_=>False
theorem tyV_is {pins:List (Addr×Obj)}{σ:St}{H:Hp}{s:Shared}{T:String}{x:V}{v:Value}(I:Inv X pins σ H s)(r:RelV x v)(ty:tyV X.K T x H):
  s.TypeIs v T/\∀a,v= .ref a->∃O,s.heap.get? a=some O/\O.dict=none:=by
 cases x with
 |str z=>
  obtain⟨t,rfl⟩:=r;cases(show T="str" from ty)
  exact⟨vL s z t,fun _ e=>nomatch e⟩
 |int i=>
  obtain⟨t,rfl⟩:=r;cases(show T="int" from ty)
  exact⟨UK s i t,fun _ e=>nomatch e⟩
 |ref p=>
  cases r;rcases ty with⟨rfl,xs,R⟩|⟨rfl,o,L,U,hd⟩|⟨rfl,L⟩|⟨rfl,S,n,L⟩
  ·obtain⟨its,_,pl,_⟩:=I.list R;refine⟨pl.isList.typeIs,fun a e=> ?_⟩;cases e;obtain⟨o,n,e,c,hd,_⟩:=pl;exact⟨o,e,hd⟩
  ·refine⟨⟨o,I.kIn p o L,U⟩,fun a e=> ?_⟩;cases e;exact⟨o,I.kIn _ o L,hd⟩
  ·have z:∃o,s.heap.get? p=some o/\o.ExactDict:=by
    rcases L with⟨kvs,L⟩|⟨kvs,L⟩
    ·obtain⟨_,_,_,_,o,_,_,e,ex,_⟩:=I.hok p _ L;exact⟨o,e,ex⟩
    ·obtain⟨_,_,_,_,o,_,_,e,ex,_⟩:=I.hok p _ L;exact⟨o,e,ex⟩
   obtain⟨o,e,ex⟩:=z;refine⟨⟨o,e,ex.1⟩,fun a M=> ?_⟩;cases M;exact⟨o,e,ex.2.1⟩
  ·obtain⟨o,_,_,_,e,ex,_⟩:=I.hok p _ L;refine⟨⟨o,e,ex.1⟩,fun a M=> ?_⟩;cases M;exact⟨o,e,ex.2.1⟩
 |_=>exact False.elim ty
def tBM0 (K:PySem.W.Frag)(T:String)(r:V->List V->Hp->VK->Prop)(to:TE):TE:=fun σ H Q=>to σ H fun x H1=>tyV K T x H1/\r x [] H1 Q
def tBM (K:PySem.W.Frag)(T:String)(r:V->List V->Hp->VK->Prop)(to:TE)(t:TA):TE:=fun σ H Q=>to σ H fun x H1=>tyV K T x H1/\t σ H1 fun xs H2=>r x xs H2 Q
variable {o e:Expr}{es:List Expr}{to:TE}{t:TA}{name:Str}{apos cpos:Pos}{T id:String}{r:V->List V->Hp->VK->Prop}
theorem pe_bm0 (Y:PlainAttrs T)(slot:Slot T name id)(O:typeOf (.builtin id)=pure (.type "method_descriptor"))(hm:MtR X id r)(Z:PE X o to)
  (L:attributeBase o name X.env (eval o X.env)=eval o X.env:=by rfl) (M:(apos.endLine==cpos.line)=true:=by rfl):PE X (.Call (.Attribute o name apos) [] [] cpos) (tBM0 X.K T r to):=by
 intro pins s σ H Q I h;refine wpAny_Call_method0_late L M (thn (Z pins s σ H _ I h) fun v s1 ⟨x,H1,R,U,ty,q1⟩=> ?_);obtain⟨h1,h2⟩:=tyV_is R U ty;exact⟨T,id,Y,slot,O,h1,h2,Calls.callWith_builtin rfl (PySem.evalArgs_none (hm pins s1 σ H1 x [] v [] Q R U .nil q1))⟩
theorem Yo (pa:PlainAttrs T)(slot:Slot T name id)(U:typeOf (.builtin id)=pure (.type "method_descriptor"))(hm:MtR X id r)(ho:PE X o to)(ha:PA X (e::es) t)
  (M:attributeBase o name X.env (eval o X.env)=eval o X.env:=by rfl)
  (R:((backTo cpos (starEach (e::es) X.env)).all (fun x=> !x.1)&&(backToKw cpos (keywordEach [] X.env)).all (fun x=>x.1.isSome)
   &&decide ((e::es).length+([]:List Keyword).length+(if([]:List Keyword).isEmpty then 0 else 1)<30))=true:=by rfl)
  (O:(apos.endLine==cpos.line)=true:=by rfl) (hs:starEach (e::es) X.env=(false,eval e X.env)::starEach es X.env:=by rfl) (L:(backTo cpos (starEach es X.env)).any (·.1)=false:=by rfl):
  PE X (.Call (.Attribute o name apos) (e::es) [] cpos) (tBM X.K T r to t):=by
 intro pins s σ H Q I h;refine wpAny_Call_method_late M R O rfl (thn (ho pins s σ H _ I h) fun v s1 ⟨x,H1,Y,Z,ty,q1⟩=> ?_);obtain⟨h1,h2⟩:=tyV_is Y Z ty;refine⟨T,id,pa,slot,U,h1,h2,?_⟩;have hA:=ha cpos pins s1 σ H1 _ Y q1;rw [hs] at hA⊢;refine Calls.callWith_builtin (by show(false||(backTo cpos (starEach es X.env)).any (·.1))=false;rw [L]<;>rfl) (Calls.evalArgs_plain ?_)
 exact thn hA fun us s2 ⟨vs,H2,I2,r2,q2⟩=>hm pins s2 σ H2 x vs v us Q I2 Z r2 q2
end
def MtM (X:Cx)(id:String)(r:V->List V->Hp->VK->Prop):Prop:=
 ∀(pins:List (Addr×Obj)) (s:Shared) (σ:St) (H:Hp) (x:V) (xs:List V) (v:Value) (us:List Value) (Q:VK),Inv X pins σ H s->RelV x v->Vals xs us->r x xs H Q->
  wpAny (model X.prog X.w) X.A (call (.builtin id) (v::us)) (EP X pins σ Q) X.xe s
theorem Vals.one:∀{x:V}{us:List Value},Vals [x] us->∃u,us= [u]/\RelV x u
 |_,_,.cons r .nil=>⟨_,rfl,r⟩
theorem Vals.zero:∀{us:List Value},Vals [] us->us= []
 |_,.nil=>rfl
theorem Vals.dropLast {xs:List V}{us:List Value}(h:Vals xs us):Vals xs.dropLast us.dropLast:=by
 induction h with
 |nil=>exact .nil
 |cons r t I=>
  cases t with
  |nil=>exact .nil
  |cons q t'=>exact .cons r I
theorem Vals.rep {xs:List V}{us:List Value}(h:Vals xs us):∀k:Nat,Vals (List.replicate k xs).flatten (List.replicate k us).flatten
 |0=> .nil
 |k+1=>by
  rw [U8,U8,UI,UI];exact Vals.append h (Vals.rep h k)
theorem erase_last {α:Type}(l:List α):l.eraseIdx (l.length-1)=l.dropLast:=by
 induction l with
 |nil=>rfl
 |cons a r I=>
  cases r with
  |nil=>rfl
  |cons b r=>
   have e:(a::b::r).length-1=((b::r).length-1)+1:=by
    have h1:(a::b::r).length=r.length+2:=rfl;have h2:(b::r).length=r.length+1:=rfl;omega
   rw [e,List.eraseIdx_cons_succ,I]
   all_goals rfl
theorem foldl_rep (its:List Value):∀(k:Nat) (I:List Value),
  List.foldl (fun L M=>L++M) I.toArray (List.replicate k its.toArray)=(I++(List.replicate k its).flatten).toArray
 |0,I=>by simp
 |k+1,I=>by
  have e:I.toArray++its.toArray=(I++its).toArray:=by simp
  have O:(I++its)++(List.replicate k its).flatten=I++(List.replicate (k+1) its).flatten:=by
   rw [U8,UI,List.append_assoc]
  rw [<-O,<-foldl_rep its k (I++its),<-e,U8,List.foldl_cons]
section
variable {X:Cx}{pins:List (Addr×Obj)}{σ:St}{H:Hp}{s:Shared}{l b:Addr}{xs ys zs:List V}
theorem Inv.lset {its its':List Value}{n:Nat}{f:Array Value->Array Value}{t':Nat}(I:Inv X pins σ H s)(L:H l=some (.lst xs))
  (e:s.heap.get? l=some {cls:= .type "list",data:= .seq its.toArray n}) (M:f its.toArray=its'.toArray) (O:Vals ys its') (R:ys.length<=sizeLine) (Z:0<t':=by((try dsimp only);first|assumption|exact Inv.tk (by assumption)|exact Nat.succ_pos _|exact Nat.lt_of_lt_of_le (Inv.tk (by assumption)) (by assumption)|exact Nat.add_pos_left (Inv.tk (by assumption)) _|omega)):
  Inv X pins σ (upd H l (.lst ys)) {s with heap:=s.heap.update l (Obj.mapSeq f),toks:=t'}:=by
 have q:=PySem.IsL.update e f;rw [M] at q;refine I.write (x:=l) (e:=l) (by rw [L];exact trivial) (.inl rfl) (fun b' u U Y=>(Heap.get?_update_other s.heap (Obj.mapSeq f) (Uq U)).trans Y) ⟨_,q⟩ ?_
 exact⟨R,its',_,O,q⟩
theorem Inv.lnew {its:List Value}{t':Nat}(I:Inv X pins σ H s)(L:Vals ys its)(M:ys.length<=sizeLine)(O:0<t':=by((try dsimp only);first|assumption|exact Inv.tk (by assumption)|exact Nat.succ_pos _|exact Nat.lt_of_lt_of_le (Inv.tk (by assumption)) (by assumption)|exact Nat.add_pos_left (Inv.tk (by assumption)) _|omega)):
  Inv X pins σ (upd H s.heap.objs.size (.lst ys)) {s with heap:=s.heap.push {cls:= .type "list",data:= .seq its.toArray},toks:=t'}:=
 I.laid (fun _ _ q=>ub _ q) (ui _) ⟨M,its,0,L,uw _ rfl⟩
theorem Inv.fresh (I:Inv X pins σ H s):H s.heap.objs.size=none:=I.hok.fresh (ui _)
theorem Inv.lstM (I:Inv X pins σ H s)(L:H l=some (.lst xs)):xs.length<=sizeLine/\∃(its:List Value) (n:Nat),Vals xs its/\xs.length=its.length/\s.heap.get? l=some {cls:= .type "list",data:= .seq its.toArray n}:=by
 obtain⟨z,its,n,r,e⟩:=I.hok l _ L;exact⟨z,its,n,r,r.length,e⟩
theorem notLongL {n:Nat}(h:n<=sizeLine):Builtin.List.listTooLong n=false:=by
 unfold Builtin.List.listTooLong;exact uc (by omega)
end
section
variable {X:Cx}
def rAppend:V->List V->Hp->VK->Prop:=fun x vs H Q=>∃l xs y,x= .ref l/\vs= [y]/\H l=some (.lst xs)/\xs.length<sizeLine/\Q .non (upd H l (.lst (xs++ [y])))
theorem YW:MtM X "list.append" rAppend:=by
 intro pins s σ H x vs v us Q I M rv h;obtain⟨l,xs,y,rfl,rfl,L,O,q⟩:=h;cases M;obtain⟨u,rfl,ru⟩:=rv.one;obtain⟨z,its,n,r,R,e⟩:=I.lstM L;refine vh F.slot_list_append ⟨_,e,rfl⟩ F.entry_list_append (F.args_list_append_2 _ _) (PySem.list_append l its.toArray n u (by rw [ue];omega)) ⟨e,?_⟩
 refine⟨.non,_,I.lset (its':=its++ [u]) L e (by simp) (r.append (.cons ru .nil)) ?_,rfl,q⟩
 rw [ug,List.length_singleton];omega
def rExtend:V->List V->Hp->VK->Prop:=fun x vs H Q=>∃l b xs zs,x= .ref l/\vs= [.ref b]/\H l=some (.lst xs)/\H b=some (.lst zs)/\xs.length+zs.length<=sizeLine/\Q .non (upd H l (.lst (xs++zs)))
theorem mt_extend:MtM X "list.extend" rExtend:=by
 intro pins s σ H x vs v us Q I R rv h;obtain⟨l,b,xs,zs,rfl,rfl,O,U,hz,q⟩:=h;cases R;obtain⟨u,rfl,ru⟩:=rv.one;cases ru;obtain⟨z,its,n,r,hl,e⟩:=I.lstM O;obtain⟨z2,L,Y,Z,aa,e2⟩:=I.lstM U;have hsz:its.toArray.size+L.toArray.size<=sizeLine:=by rw [ue,ue];omega
 have M:¬(!its.toArray.isEmpty&&Builtin.List.listTooLong (its.toArray.size+L.toArray.size))=true:=by
  rw [notLongL hsz,Bool.and_false];exact ua
 refine vh F.slot_list_extend ⟨_,e,rfl⟩ F.entry_list_extend (F.args_list_extend_2 _ _)
  (AutoSeq1.list_extend_list_list_0 l its.toArray n b L.toArray Y M (by rw [ue];omega) (by omega)) ⟨e,e2,?_⟩
 refine⟨.non,_,I.lset (its':=its++L) O e (by simp) (r.append Z) ?_,rfl,q⟩
 rw [ug];omega
def rPop:V->List V->Hp->VK->Prop:=fun x vs H Q=>∃l xs y,x= .ref l/\vs= []/\H l=some (.lst xs)/\xs[xs.length-1]? =some y/\Q y (upd H l (.lst xs.dropLast))
theorem mt_pop:MtM X "list.pop" rPop:=by
 intro pins s σ H x vs v us Q I R rv h;obtain⟨l,xs,y,rfl,rfl,O,U,q⟩:=h;cases R;have L:=rv.zero;subst L;obtain⟨z,its,n,r,Y,e⟩:=I.lstM O;obtain⟨u,Z,ru⟩:=r.get U;have M:its.toArray[its.toArray.size-1]? =some u:=by
  show its.toArray[its.length-1]? =some u;rw [<-Array.getElem?_toList,<-Y];exact Z
 refine vh F.slot_list_pop ⟨_,e,rfl⟩ F.entry_list_pop (F.args_list_pop_1 _) (MeetsSeq.list_pop_last l its.toArray n u M (by rw [ue];omega)) ⟨e,?_⟩
 refine⟨y,_,I.lset (its':=its.dropLast) O e ?_ r.dropLast ?_,ru,q⟩
 ·show its.toArray.eraseIdxIfInBounds (its.toArray.size-1)=its.dropLast.toArray;rw [ue,List.eraseIdxIfInBounds_toArray,erase_last]
 ·rw [List.length_dropLast];omega
def rCat:R2:=fun x y H Q=>∃l b xs zs,x= .ref l/\y= .ref b/\H l=some (.lst xs)/\H b=some (.lst zs)/\xs.length+zs.length<=sizeLine/\∀p,H p=none->Q (.ref p) (upd H p (.lst (xs++zs)))
theorem op_cat:OpR X (binaryOp .Add) rCat:=by
 intro pins s σ H x y v u Q I M O h;obtain⟨l,b,xs,zs,rfl,rfl,R,U,hz,q⟩:=h;cases M;cases O;obtain⟨z,its,n,r,hl,e⟩:=I.lstM R;obtain⟨z2,L,n2,Y,Z,e2⟩:=I.lstM U;refine PySem.P.add_list e e2 ?_ (by rw [ue,ue];omega)
 have ea:its.toArray++L.toArray=(its++L).toArray:=by simp
 rw [ea];exact⟨.ref _,_,I.lnew (t':=s.toks) (r.append Y) (by rw [ug];omega),rfl,q _ I.fresh⟩
theorem len_rep {α:Type}(xs:List α)(k:Nat):(List.replicate k xs).flatten.length=k*xs.length:=by
 induction k with
 |zero=>simp
 |succ k I=>rw [U8,UI,ug,I,Nat.succ_mul,Nat.add_comm]
end
section
variable {prog:Program}{w:World}{A:Around}{E:Value->Shared->Prop}{s:Shared}
set_option maxRecDepth 100000 in
end
section
variable {κ:Type}[DecidableEq κ]
def valV (kvs:List (κ×V))(k:κ):Option V:=(kvs.find? fun kv=>decide (kv.1=k)).map (·.2)
def putK (kvs:List (κ×V))(k:κ)(v:V):List (κ×V):=
 if(kvs.any fun kv=>decide (kv.1=k))=true then kvs.map (fun kv=>if kv.1=k then(kv.1,v) else kv) else kvs++ [(k,v)]
theorem xz {p:κ×V}{r:List (κ×V)}{k:κ}(e:p.1=k):valV (p::r) k=some p.2:=by simp [valV,U2,e]
theorem Za {p:κ×V}{r:List (κ×V)}{k:κ}(e:¬p.1=k):valV (p::r) k=valV r k:=by simp [valV,U2,e]
theorem valV_any (k:κ):∀kvs:List (κ×V),(kvs.any fun I=>decide (I.1=k))=(valV kvs k).isSome
 | []=>rfl
 |p::r=>by
  rw [UJ];by_cases e:p.1=k
  ·simp only [xz e,u7 e,Bool.true_or,Option.isSome_some]
  ·rw [Za e,uc e,Bool.false_or];exact valV_any k r
theorem jB (kvs:List (κ×V))(k:κ)(v:V):(putK kvs k v).length<=kvs.length+1:=by
 unfold putK;split
 ·rw [uf];omega
 ·rw [ug,uh,uW];omega
theorem RelO.isSome_eq {o:Option V}{u:Option Value}(r:RelO o u):o.isSome=u.isSome:=by
 cases o with
 |none=>cases u with
  |none=>rfl
  |some _=>exact(show False from r).elim
 |some _=>cases u with
  |none=>exact(show False from r).elim
  |some _=>rfl
theorem RelO.getD {o:Option V}{u:Option Value}{d:V}{d':Value}(r:RelO o u)(I:RelV d d'):RelV (o.getD d) (u.getD d'):=by
 cases o with
 |none=>cases u with
  |none=>exact I
  |some _=>exact(show False from r).elim
 |some _=>cases u with
  |none=>exact(show False from r).elim
  |some _=>exact r
theorem KV.val {kvs:List (κ×V)}{vs:List (κ×Value)}(r:KV kvs vs)(k:κ):RelO (valV kvs k) (valueAt vs k):=by
 unfold KV at r
 induction r with
 |nil=>exact True.intro
 | @cons p q ps qs h t ih=>
  obtain⟨h1,h2⟩:=h;by_cases e:p.1=k
  ·have I:q.1=k:=h1.symm.trans e;have b:valueAt (q::qs) k=some q.2:=by simp [valueAt,U2,I]
   rw [xz e,b];exact h2
  ·have I:¬q.1=k:=fun z=>e (h1.trans z);have b:valueAt (q::qs) k=valueAt qs k:=by simp [valueAt,U2,I]
   rw [Za e,b];exact ih
theorem KV.any {kvs:List (κ×V)}{vs:List (κ×Value)}(r:KV kvs vs)(k:κ):(kvs.any fun I=>decide (I.1=k))=vs.any fun I=>decide (I.1=k):=by
 unfold KV at r
 induction r with
 |nil=>rfl
 |cons h t L=>rw [UJ,UJ,L,h.1]
theorem KV.repl {kvs:List (κ×V)}{vs:List (κ×Value)}(r:KV kvs vs)(k:κ){y:V}{u:Value}(L:RelV y u):
  KV (kvs.map fun I=>if I.1=k then(I.1,y) else I) (vs.map fun I=>if I.1=k then(I.1,u) else I):=by
 unfold KV at r⊢
 induction r with
 |nil=>exact .nil
 | @cons p q ps qs h t ih=>
  rw [uk,uk];refine .cons ?_ ih;obtain⟨h1,h2⟩:=h;by_cases e:p.1=k
  ·rw [if_pos e,if_pos (h1.symm.trans e)];exact⟨h1,L⟩
  ·rw [if_neg e,if_neg (fun z=>e (h1.trans z))];exact⟨h1,h2⟩
theorem KV.put {kvs:List (κ×V)}{vs:List (κ×Value)}(r:KV kvs vs)(k:κ){y:V}{u:Value}(I:RelV y u):KV (putK kvs k y) (stored vs k u):=by
 unfold putK stored;rw [r.any k];by_cases e:(vs.any fun L=>decide (L.1=k))=true
 ·rw [if_pos e,if_pos e];exact r.repl k I
 ·rw [if_neg e,if_neg e];exact Paired.snoc r ⟨rfl,I⟩
theorem KV.keys {kvs:List (κ×V)}{vs:List (κ×Value)}(r:KV kvs vs):kvs.map (·.1)=vs.map (·.1):=by
 unfold KV at r
 induction r with
 |nil=>rfl
 |cons h t I=>rw [uk,uk,I,h.1]
theorem KV.length {kvs:List (κ×V)}{vs:List (κ×Value)}(r:KV kvs vs):kvs.length=vs.length:=Paired.length r
end
theorem kV_is {P:Program}{w:World}{k:Key}{u:Value}(r:RelV (kV k) u):(Qu P w).is k u=true:=by
 cases k with
 |inl i=>obtain⟨t,e⟩:=(show∃t,u=Value.int i t from r);subst e;exact mixKind_int P w i t
 |inr x=>obtain⟨t,e⟩:=(show∃t,u=Value.str x t from r);subst e;exact XF P w x t
theorem items_are {P:Program}{w:World}:∀{ks:List Key}{us:List Value},Vals (ks.map kV) us->ItemsAre (Qu P w) ks us
 | [],_,r=>by rw [vi] at r;cases r;exact .nil
 |k::ks,_,r=>by
  rw [uk] at r;cases r with
  |cons h t=>exact .cons (kV_is h) (items_are t)
abbrev KT (H:Hp):List (List Key×V)->List (List Key×Addr×Value)->Prop:=Paired fun p q=>p.1=q.1/\H q.2.1=some (.tup (p.1.map kV))/\RelV p.2 q.2.2
theorem KT.val {H:Hp}{kvs:List (List Key×V)}{xs:List (List Key×Addr×Value)}(r:KT H kvs xs)(k:List Key):RelO (valV kvs k) ((atKey xs k).map (·.2)):=by
 induction r with
 |nil=>exact True.intro
 | @cons p q ps qs h t ih=>
  obtain⟨h1,_,h2⟩:=h;by_cases e:p.1=k
  ·have I:q.1=k:=h1.symm.trans e;have b:atKey (q::qs) k=some q.2:=by simp [atKey,U2,I]
   rw [xz e,b];exact h2
  ·have I:¬q.1=k:=fun z=>e (h1.trans z);have b:atKey (q::qs) k=atKey qs k:=by simp [atKey,U2,I]
   rw [Za e,b];exact ih
theorem KT.repl {H:Hp}{kvs:List (List Key×V)}{xs:List (List Key×Addr×Value)}(r:KT H kvs xs)(k:List Key){y:V}{u:Value}(L:RelV y u):
  KT H (kvs.map fun I=>if I.1=k then(I.1,y) else I) (xs.map (putAt k u)):=by
 induction r with
 |nil=>exact .nil
 | @cons p q ps qs h t ih=>
  rw [uk,uk];refine .cons ?_ ih;obtain⟨h1,h2,M⟩:=h;unfold putAt;by_cases e:p.1=k
  ·rw [if_pos e,if_pos (h1.symm.trans e)];exact⟨h1,h2,L⟩
  ·rw [if_neg e,if_neg (fun z=>e (h1.trans z))];exact⟨h1,h2,M⟩
theorem KT.put {H:Hp}{kvs:List (List Key×V)}{xs:List (List Key×Addr×Value)}(r:KT H kvs xs)(k:List Key){b:Addr}{y:V}{u:Value}(L:H b=some (.tup (k.map kV)))(I:RelV y u):
  KT H (putK kvs k y) (storedH xs k b u):=by
 have e:(kvs.any fun M=>decide (M.1=k))=(atKey xs k).isSome:=by
  rw [valV_any,(r.val k).isSome_eq,Option.isSome_map]
 unfold putK storedH;rw [e];by_cases q:(atKey xs k).isSome=true
 ·rw [if_pos q,if_pos q];exact r.repl k I
 ·rw [if_neg q,if_neg q];exact Paired.snoc r ⟨rfl,L,I⟩
theorem KT.keeps {H H':Hp}{kvs:List (List Key×V)}{xs:List (List Key×Addr×Value)}(r:KT H kvs xs)(I:∀b ys,H b=some (.tup ys)->H' b=some (.tup ys)):KT H' kvs xs:=
 Paired.mapP r fun _ _ z=>⟨z.1,I _ _ z.2.1,z.2.2⟩
section
variable {P:Program}{w:World}{H:Hp}{h:Heap}{a:Addr}
theorem rd_of {u:HO}(ok:HOk P w H h)(e:Rd H a u):Q2 P w H h a u:=e.ok ok
theorem dk_rd {kvs:List (Key×V)}(ok:HOk P w H h)(e:Rd H a (.dK kvs)):kvs.length<=sizeLine/\(a==sysModules)=false/\∃vs,KV kvs vs/\h.DictOf (Qu P w) a vs:=
 show Q2 P w H h a (.dK kvs) from rd_of ok e
theorem dk_of {kvs:List (Key×V)}(ok:HOk P w H h)(e:H a=some (.dK kvs)):kvs.length<=sizeLine/\(a==sysModules)=false/\∃vs,KV kvs vs/\h.DictOf (Qu P w) a vs:=dk_rd ok (.inl e)
theorem key_of {ks:List Key}(ok:HOk P w H h)(e:H a=some (.tup (ks.map kV))):(tupleKind (Qu P w)).is h ks a:=by
 obtain⟨_,its,r,o,h1,h2,n,I⟩:=(show Q2 P w H h a (.tup (ks.map kV)) from ok a _ e)
 exact⟨o,its.toArray,n,h1,h2,I,by simpa using items_are r⟩
theorem dt_rd {kvs:List (List Key×V)}(ok:HOk P w H h)(e:Rd H a (.dT kvs)):kvs.length<=sizeLine/\(a==sysModules)=false/\
  ∃xs,KT H kvs xs/\h.DictOfH (tupleKind (Qu P w)) a xs:=by
 obtain⟨z,y,xs,r,o,es,L,h1,h2,M,h4,O⟩:=(show Q2 P w H h a (.dT kvs) from rd_of ok e)
 refine⟨z,y,xs,r,o,es,L,h1,h2,M,h4,fun x I=> ?_,O⟩;have all:∀{l:List (List Key×V)}{m:List (List Key×Addr×Value)},KT H l m->∀x∈m,(tupleKind (Qu P w)).is h x.1 x.2.1:=by
  intro l m q
  induction q with
  |nil=>intro x I;exact nomatch I
  | @cons p q ps qs hq t ih=>
   intro x I;rcases List.mem_cons.mp I with e|I
   ·subst e;exact key_of ok (by rw [<-hq.1];exact hq.2.1)
   ·exact ih x I
 exact all r x I
theorem dt_of {kvs:List (List Key×V)}(ok:HOk P w H h)(e:H a=some (.dT kvs)):kvs.length<=sizeLine/\(a==sysModules)=false/\
  ∃xs,KT H kvs xs/\h.DictOfH (tupleKind (Qu P w)) a xs:=dt_rd ok (.inl e)
end
def DGet (H:Hp)(a:Addr)(y:V)(r:Option V):Prop:=
 (∃kvs k,Rd H a (.dK kvs)/\y=kV k/\r=valV kvs k)∨∃kvs k b,Rd H a (.dT kvs)/\y= .ref b/\H b=some (.tup (k.map kV))/\r=valV kvs k
def DPut (H:Hp)(a:Addr)(y v:V)(H':Hp):Prop:=
 (∃kvs k,H a=some (.dK kvs)/\y=kV k/\kvs.length<sizeLine/\H'=upd H a (.dK (putK kvs k v)))∨
 ∃kvs k b,H a=some (.dT kvs)/\y= .ref b/\H b=some (.tup (k.map kV))/\kvs.length<sizeLine/\H'=upd H a (.dT (putK kvs k v))
theorem DGet.k {H:Hp}{a:Addr}{kvs:List (Key×V)}{k:Key}(e:H a=some (.dK kvs)):DGet H a (kV k) (valV kvs k):= .inl ⟨kvs,k,.inl e,rfl,rfl⟩
section
variable {X:Cx}{pins:List (Addr×Obj)}{σ:St}{H:Hp}{s:Shared}{a:Addr}{y v:V}{u r:Value}{o:Option V}{A:Around}{E:Value->Shared->Prop}
theorem Inv.big (I:Inv X pins σ H s):sysModules<s.heap.objs.size:=by
 have h:mainGlobals<s.heap.objs.size:=(I.mod.glob.keeps I.bk).lt;exact Nat.lt_trans (by decide) h
theorem d_getItem {Q:Value->Shared->Prop}(hu:A.units+1<cLine)(I:Inv X pins σ H s)(g:DGet H a y (some v))(Z:RelV y u)(h:∀O s',Inv X pins σ H s'->RelV v O->Q O s'):
  wpAny (model X.prog X.w) A (getItem (.ref a) u) Q E s:=by
 rcases g with⟨kvs,k,e,R,l⟩|⟨kvs,k,b,e,R,eb,l⟩
 ·subst R;obtain⟨z,hd,vs,L,dd⟩:=dk_rd I.hok e;obtain⟨O,U,M⟩:=RelO.some_of (v:=v) (o:=valueAt vs k) (by rw [l];exact L.val k)
  exact wpAny_getItem_of (kV_is Z) dd.mapOf U (h O _ (I.tok _) M)
 ·subst R;cases(show u=Value.ref b from Z)
  obtain⟨z,hd,xs,L,dd⟩:=dt_rd I.hok e;obtain⟨O,U,M⟩:=RelO.some_of (v:=v) (o:=(atKey xs k).map (·.2)) (by rw [l];exact L.val k)
  obtain⟨p,hp,Y⟩:=Option.map_eq_some_iff.mp U;refine wpAny_getItem_heap (tupleKind_room_in1 hu) (key_of I.hok eb) dd hp ?_;rw [Y];exact h O _ (I.tok _) M
theorem d_write {h':Heap}{t':Nat}{L:HO}(I:Inv X pins σ H s)(M:Mut (H a))(O:Heap.SameBut a s.heap h')(R:∃q,h'.get? a=some q)(new:Q2 X.prog X.w (upd H a L) h' a L)(Y:0<t':=by((try dsimp only);first|assumption|exact Inv.tk (by assumption)|exact Nat.succ_pos _|exact Nat.lt_of_lt_of_le (Inv.tk (by assumption)) (by assumption)|exact Nat.add_pos_left (Inv.tk (by assumption)) _|omega)):
  Inv X pins σ (upd H a L) {s with heap:=h',toks:=t'}:=
 I.write (x:=a) (e:=a) M (.inl rfl) (fun b q U z=>(O.2 b U).trans z) R new
theorem dk_new {P:Program}{w:World}{H':Hp}{h':Heap}{kvs:List (Key×V)}{vs:List (Key×Value)}(z:kvs.length<=sizeLine)(hd:(a==sysModules)=false)(I:KV kvs vs)(dd:h'.DictOf (Qu P w) a vs):
  Q2 P w H' h' a (.dK kvs):=⟨z,hd,vs,I,dd⟩
theorem d_setItem {H':Hp}{Q:Unit->Shared->Prop}(hu:A.units+1<cLine)(I:Inv X pins σ H s)(g:DPut H a y v H')(ry:RelV y u)(rv:RelV v r)(h:∀s',Inv X pins σ H' s'->Q Unit.unit s'):
  wpAny (model X.prog X.w) A (setItem (.ref a) u r) Q E s:=by
 rcases g with⟨kvs,k,e,R,l,U⟩|⟨kvs,k,b,e,R,eb,l,U⟩
 ·subst R U;obtain⟨z,hd,vs,L,dd⟩:=dk_of I.hok e;have Y:vs.length<=sizeLine:=by rw [<-L.length];exact z
  have Z:(putK kvs k v).length<=sizeLine:=by have:=jB kvs k v;omega
  refine wpAny_setItem_pairs (hsz:=Y) (kV_is ry) dd fun h' M hs=>h _ ?_;have he:∃q,h'.get? a=some q:=let⟨q,_,_,O,_⟩:=M;⟨q,O⟩;exact d_write I (by rw [e];exact True.intro) hs he (dk_new Z hd (L.put k rv) M)
 ·subst R U;cases(show u=Value.ref b from ry)
  obtain⟨z,hd,xs,L,dd⟩:=dt_of I.hok e;have Y:xs.length<=sizeLine:=by rw [<-Paired.length L];exact z
  have Z:(putK kvs k v).length<=sizeLine:=by have:=jB kvs k v;omega
  refine wpAny_setItem_heap (hsz:=Y) (tupleKind_room_in1 hu) (key_of I.hok eb) dd fun h' M hs=>h _ ?_;obtain⟨q,es,ep,O,h2,h3,h4,_,h5⟩:=M;refine d_write I (by rw [e];exact True.intro) hs ⟨q,O⟩ ⟨Z,hd,_,(L.put k eb rv).keeps fun c ys ec=> ?_,q,es,ep,O,h2,h3,h4,h5⟩
  rw [qy (ne_of ec e (fun z=>nomatch z))];exact ec
end
def NoSl (i:Expr):Prop:=∀ov iv,subscripted i false ov iv=operate [ov,iv] (getItem ov iv)
theorem subD_of {prog:Program}{w:World}{A:Around}{E:Value->Shared->Prop}{s:Shared}{env:Env}{value I:Expr}{pos:Pos}{T id:String}{Q:Value->Shared->Prop}
  (Z:typeLookup (.type T) "__getitem__"=pure (some (.builtin id))) (hs:NoSl I)
  (h:wpAny (model prog w) A (eval value env) (fun o R=>wpAny (model prog w) A (eval I env) (fun i M=>M.TypeIs o T/\wpAny (model prog w) A (getItem o i) Q E M) E R) E s):
  wpAny (model prog w) A (eval (.Subscript value I pos) env) Q E s:=by
 refine Subscript_ (vj h (fun o R h₁=>vj h₁ (fun i M O=> ?_) fun _ _ x=>x) fun _ _ x=>x);obtain⟨U,O⟩:=O;unfold subscriptTail;refine wpAny_bind ?_;rw [getitemInPython_of_ne U.not_modules];refine wpAny_bind (wpAny_specialOf U Z ?_);have L:wpAny (model prog w) A (subscripted I false o i) (fun r Y=>wpAny (model prog w) A (letTemporaryGo value o r>>=fun _=>pure r) Q E Y) E M:=by
  rw [hs o i];exact wpAny_operating (vj O (fun r Y h₃=>wpAny_bind (wpAny_letTemporaryGo (uj h₃))) fun _ _ x=>x)
 first
  |exact uj (wpAny_bind L)
  |exact wpAny_bind (uj (wpAny_bind L))
  |exact wpAny_bind L
theorem dict_typeIs {X:Cx}{pins:List (Addr×Obj)}{σ:St}{H:Hp}{s:Shared}{a:Addr}{y:V}{o:Option V}(I:Inv X pins σ H s)(g:DGet H a y o):s.TypeIs (.ref a) "dict":=by
 rcases g with⟨kvs,k,e,_,_⟩|⟨kvs,k,b,e,_,_,_⟩
 ·obtain⟨_,_,vs,_,dd⟩:=dk_rd I.hok e;exact dd.typeIs
 ·obtain⟨_,_,xs,_,dd⟩:=dt_rd I.hok e;exact dd.typeIs
def tDGet (td ty:TE):TE:=fun σ H Q=>td σ H fun x H1=>ty σ H1 fun y H2=>∃a v,x= .ref a/\DGet H2 a y (some v)/\Q v H2
def sDPut (td ty tv:TE):TS:=fun D σ H=>tv σ H fun v H1=>td σ H1 fun x H2=>ty σ H2 fun y H3=>∃a H4,x= .ref a/\DPut H3 a y v H4/\D.nx σ H4
section
variable {X:Cx}{o i e value:Expr}{pos pos' tpos:Pos}{td ty tv:TE}
theorem Qi (O:X.A.units+1<cLine)(R:PE X o td)(hi:PE X i ty)(U:NoSl i):PE X (.Subscript o i pos) (tDGet td ty):=by
 intro pins s σ H Q I h;refine subD_of PySem.F.slot_dict_getitem.lookup U (thn (R pins s σ H _ I h) fun u s1 ⟨x,H1,Y,Z,q1⟩=>thn (hi pins s1 σ H1 _ Y q1) fun iv s2 ⟨y,H2,M,ry,a,v,ex,g,q2⟩=> ?_);subst ex;obtain rfl:u=Value.ref a:=Z;exact⟨dict_typeIs M g,d_getItem O M g ry fun w' s3 I3 L=>⟨v,H2,I3,L,q2⟩⟩
theorem ps_dput (L:X.A.units+1<cLine)(M:PE X o td)(hi:PE X i ty)(O:PE X value tv)(R:swapsWith value (some (.Subscript o i pos')) pos.line X.env=pure false):
  PS X (.Assign [.Subscript o i pos'] value pos) (sDPut td ty tv):=by
 intro pins s σ H D I h;refine wpAny_Assign_Subscript (thn (O pins s σ H _ I h) fun r s1 ⟨v,H1,U,rv,q1⟩=>thn (M pins s1 σ H1 _ U q1) fun u s2 ⟨x,H2,Y,Z,q2⟩=>thn (hi pins s2 σ H2 _ Y q2) fun iv s3 ⟨y,H3,I3,ry,a,H4,ex,g,q3⟩=> ?_) R;subst ex;obtain rfl:u=Value.ref a:=Z;exact d_setItem L I3 g ry rv fun s4 I4=>⟨σ,H4,I4,q3⟩
end
theorem dk_empty {P:Program}{w:World}{H:Hp}(h:Heap)(I:sysModules<h.objs.size):Q2 P w H (h.push {cls:= .type "dict",data:= .dict #[]}) h.objs.size (.dK []):=
 ⟨uD _,beq_eq_false_iff_ne.mpr (Uq (uM I)),[],.nil,Heap.DictOf.new h⟩
def tPairs:List (TE×TE)->St->Hp->(List (V×V)->Hp->Prop)->Prop
 | [],_,H,Q=>Q [] H
 |(tk,tv)::r,σ,H,Q=>tk σ H fun x H1=>tv σ H1 fun y H2=>tPairs r σ H2 fun ps H3=>Q ((x,y)::ps) H3
abbrev VV:List (V×V)->List (Value×Value)->Prop:=Paired fun p q=>RelV p.1 q.1/\RelV p.2 q.2
def PPs (X:Cx)(pos:Pos)(keys:List (Option Expr))(values:List Expr)(trs:List (TE×TE)):Prop:=
 ∀(pins:List (Addr×Obj)) (s:Shared) (σ:St) (H:Hp) (Q:List (V×V)->Hp->Prop),Inv X pins σ H s->tPairs trs σ H Q->
  wpAny (model X.prog X.w) X.A (evalPairs (pairTrees keys values X.env pos)) (fun vs s'=>∃ps H',Inv X pins σ H' s'/\VV ps vs/\Q ps H') X.xe s
theorem pps_nil {X:Cx}{pos:Pos}:PPs X pos [] [] []:=fun pins s σ H Q I h=>pairTrees_nil_walk ⟨[],H,I,.nil,h⟩
theorem Yi {X:Cx}{pos:Pos}{k v:Expr}{ks:List (Option Expr)}{vs:List Expr}{tk tv:TE}{L:List (TE×TE)}(O:PE X k tk)(R:PE X v tv)(U:PPs X pos ks vs L):
  PPs X pos (some k::ks) (v::vs) ((tk,tv)::L):=fun pins s σ H Q I h=>
 pairTrees_cons_walk (thn (O pins s σ H _ I h) fun u s1 ⟨x,H1,Y,Z,q1⟩=>thn (R pins s1 σ H1 _ Y q1) fun w2 s2 ⟨y,H2,I2,ry,q2⟩=>
  thn (U pins s2 σ H2 _ I2 q2) fun ws s3 ⟨ps,H3,I3,M,q3⟩=>⟨(x,y)::ps,H3,I3,.cons ⟨Z,ry⟩ M,q3⟩)
def YO (kvs more:List (Key×V)):List (Key×V):=more.foldl (fun acc kv=>putK acc kv.1 kv.2) kvs
theorem KV.merge:∀{more:List (Key×V)}{rs:List (Key×Value)}{kvs:List (Key×V)}{vs:List (Key×Value)},KV more rs->KV kvs vs->KV (YO kvs more) (merged vs rs):=by
 intro more rs kvs vs r;unfold KV at r
 induction r generalizing kvs vs with
 |nil=>intro q;exact q
 | @cons p q ps qs h t ih=>
  intro I;have e:KV (putK kvs p.1 p.2) (stored vs q.1 q.2):=by
   have:=I.put p.1 h.2;rw [<-h.1];exact this
  exact ih e
theorem Jr:∀(more kvs:List (Key×V)),(YO kvs more).length<=kvs.length+more.length
 | [],kvs=>by show kvs.length<=kvs.length+0;omega
 |p::r,kvs=>by
  have h1:=Jr r (putK kvs p.1 p.2);have h2:=jB kvs p.1 p.2;show(YO (putK kvs p.1 p.2) r).length<=_;rw [uh];omega
theorem zw {P:Program}{w:World}:∀{kvs:List (Key×V)}{ws:List (Value×Value)},VV (kvs.map fun I=>(kV I.1,I.2)) ws->∃rs,Carries (Qu P w) ws rs/\KV kvs rs
 | [],_,r=>by rw [vi] at r;cases r;exact⟨[],True.intro,.nil⟩
 |p::kvs,_,r=>by
  rw [uk] at r;cases r with
  | @cons a b as bs h t=>
   obtain⟨rs,c,q⟩:=zw (P:=P) (w:=w) t;obtain⟨b1,b2⟩:=b;exact⟨(p.1,b2)::rs,⟨kV_is h.1,rfl,c⟩,.cons ⟨rfl,h.2⟩ q⟩
def tDisp (trs:List (TE×TE)):TE:=fun σ H Q=>∀p,H p=none->tPairs trs σ (upd H p (.dK [])) fun ps H2=>H2 p=some (.dK [])/\∃kvs:List (Key×V),ps=kvs.map (fun kv=>(kV kv.1,kv.2))/\kvs.length<=15/\Q (.ref p) (upd H2 p (.dK (YO [] kvs)))
theorem pe_disp {X:Cx}{pos:Pos}{keys:List (Option Expr)}{L:List Expr}{M:List (TE×TE)}(h:PPs X pos keys L M)(O:keys.all (·.isSome)=true)(hl:keys.length=L.length)(h0:keys≠ [])
  (U:keys.length<=15):PE X (.Dict keys L pos) (tDisp M):=by
 intro pins s σ H Q I q;have hn:=I.hok.fresh (ui s.heap.objs.size);have I1:=I.laid (a:=s.heap.objs.size) (o:= .dK []) (h':=s.heap.push {cls:= .type "dict",data:= .dict #[]}) (t':=s.toks) (fun _ _ q=>ub _ q) (ui _) (dk_empty s.heap I.big);refine wpAny_Dict_walk (knd:=Qu X.prog X.w) O hl h0 U (thn (h pins _ σ _ _ I1 (q _ hn)) fun ws s2 ⟨ps,H2,Z,Y,e,kvs,ep,lk,q2⟩=> ?_);subst ep;obtain⟨rs,c,rk⟩:=zw (P:=X.prog) (w:=X.w) Y;obtain⟨z,hd,aa,r0,dd⟩:=dk_of Z.hok e;cases r0;refine⟨rs,c,dd,fun h' R hs=>⟨.ref s.heap.objs.size,_,?_,rfl,q2⟩⟩;have hz:(YO [] kvs).length<=sizeLine:=by
  have h1:=Jr kvs [];rw [uW] at h1;rw [uL];omega
 have he:∃q,h'.get? s.heap.objs.size=some q:=let⟨q,_,_,hq,_⟩:=R;⟨q,hq⟩;exact d_write Z (by rw [e];exact True.intro) hs he (dk_new hz hd (rk.merge .nil) R)
structure M2 (X:Cx)(o:Expr)(m:Str)(apos:Pos)(e f:Expr)(cpos:Pos):Prop where
 base:attributeBase o m X.env (eval o X.env)=eval o X.env
 few:((backTo cpos (starEach [e,f] X.env)).all (fun x=> !x.1)&&(backToKw cpos (keywordEach [] X.env)).all (fun x=>x.1.isSome)
  &&decide (([e,f]:List Expr).length+([]:List Keyword).length+(if([]:List Keyword).isEmpty then 0 else 1)<30))=true
 line:(apos.endLine==cpos.line)=true
 trees:backTo cpos (starEach [e,f] X.env)= [(false,eval e X.env),(false,eval f X.env)]
def IsD (H:Hp)(a:Addr):Prop:=(∃kvs,Rd H a (.dK kvs))∨∃kvs,Rd H a (.dT kvs)
theorem isD_at {X:Cx}{pins:List (Addr×Obj)}{σ:St}{H:Hp}{s:Shared}{a:Addr}(I:Inv X pins σ H s)(d:IsD H a):
  s.TypeIs (.ref a) "dict"/\(∀b,Value.ref a= .ref b->∃L,s.heap.get? b=some L/\L.dict=none)/\(a==sysModules)=false:=by
 rcases d with⟨kvs,e⟩|⟨kvs,e⟩
 ·obtain⟨_,hd,vs,_,dd⟩:=dk_rd I.hok e;refine⟨dd.typeIs,fun b q=> ?_,hd⟩;cases q;obtain⟨L,_,_,h1,h2,_⟩:=dd;exact⟨L,h1,h2.2.1⟩
 ·obtain⟨_,hd,xs,_,dd⟩:=dt_rd I.hok e;refine⟨dd.typeIs,fun b q=> ?_,hd⟩;cases q;obtain⟨L,_,_,h1,h2,_⟩:=dd;exact⟨L,h1,h2.2.1⟩
section
variable {X:Cx}{pins:List (Addr×Obj)}{σ:St}{H:Hp}{s:Shared}{a:Addr}{y d:V}{u r:Value}{o:Option V}{A:Around}{E:Value->Shared->Prop}
theorem d_get2 {Q:Value->Shared->Prop}(Y:A.units+1<cLine)(I:Inv X pins σ H s)(g:DGet H a y o)(O:RelV y u)(R:RelV d r)(h:∀U s',Inv X pins σ H s'->RelV (o.getD d) U->Q U s'):
  wpAny (model X.prog X.w) A (call (.builtin "dict.get") [.ref a,u,r]) Q E s:=by
 rcases g with⟨kvs,k,e,M,l⟩|⟨kvs,k,b,e,M,Z,l⟩
 ·subst M;obtain⟨z,hd,vs,L,dd⟩:=dk_rd I.hok e;refine call_meetsIn PySem.F.slot_dict_get dd.typeIs PySem.F.entry_dict_get (PySem.F.args_dict_get_3 _ _ _) (meets_dict_get_default (Qu X.prog X.w) a (kV_is O) hd r) ⟨_,dd.mapOf,h _ _ (I.tok _) ?_⟩;rw [l];exact(L.val k).getD R
 ·subst M;cases(show u=Value.ref b from O)
  obtain⟨z,hd,xs,L,dd⟩:=dt_rd I.hok e;refine call_meetsIn PySem.F.slot_dict_get dd.typeIs PySem.F.entry_dict_get (PySem.F.args_dict_get_3 _ _ _) (meetsH_dict_get_default (tupleKind (Qu X.prog X.w)) a b hd r) ⟨tupleKind_room_in1 Y,k,xs,key_of I.hok Z,dd,h _ _ (I.tok _) ?_⟩;rw [l];exact(L.val k).getD R
end
def tDGet2 (td ty tx:TE):TE:=fun σ H Q=>td σ H fun x H1=>∃a,x= .ref a/\IsD H1 a/\ty σ H1 fun y H2=>tx σ H2 fun z H3=>∃o,DGet H3 a y o/\Q (o.getD z) H3
section
variable {X:Cx}{o e f:Expr}{apos cpos:Pos}{td ty tx:TE}
theorem Zs (O:X.A.units+1<cLine)(R:PE X o td)(U:PE X e ty)(Y:PE X f tx)(m:M2 X o "get" apos e f cpos):PE X (.Call (.Attribute o "get" apos) [e,f] [] cpos) (tDGet2 td ty tx):=by
 intro pins s σ H Q I h;refine wpAny_Call_method m.base m.few m.line PySem.F.plainAttrs_dict PySem.F.slot_dict_get PySem.F.type_dict_get (thn (R pins s σ H _ I h) fun u s1 ⟨x,H1,M,Z,a,ex,d,q1⟩=> ?_);subst ex;obtain rfl:u=Value.ref a:=Z;obtain⟨t1,t2,_⟩:=isD_at M d;refine⟨t1,t2,?_⟩;rw [m.trees];refine Calls.callWith_builtin rfl (Calls.evalArgs_plain (Calls.spliced_cons (thn (U pins s1 σ H1 _ M q1) fun iv s2 ⟨y,H2,I2,ry,q2⟩=>
  Calls.spliced_cons (thn (Y pins s2 σ H2 _ I2 q2) fun fv s3 ⟨z,H3,I3,rz,ov,g,q3⟩=>Calls.spliced_nil ?_))))
 exact d_get2 O I3 g ry rz fun w' s4 I4 L=>⟨_,H3,I4,L,q3⟩
end
end L2
namespace Att
open PySem PySem.W PySem.Calls PyProof.Rows
theorem xR {P:Params}{h:Heap}:∀(ns:List Int) (vs:List Value),WellAll P h vs (ns.map WData.int)->IntsAre vs ns:=by
 intro ns
 induction ns with
 |nil=>
  intro vs w;rw [vi] at w;cases w;exact .nil
 |cons n ns I=>
  intro vs w;rw [uk] at w;cases w with
  |cons a b=>
   cases a;exact .cons _ _ (I _ b)
theorem script_of {l:OpenLaw}{n:Nat}(hn:l.most=some n){P:Params}{h:Heap}{args:List WData}{I:List Value}
  (L:l.row.toRowW.claim.pre args=true) (U:WellAll P h I args):
  ∃a vs ns,I= [Value.ref a]/\args= [WData.list (ns.map WData.int)]/\h.get? a=some {cls:= .type "list",data:= .seq vs.toArray}/\IntsAre vs ns/\ns.length<=n:=by
 have Y:WShape.hasAll [] args [.list .int]=true:=(pre_splitW L).1;have Z:l.pre.holds [] {args:=args}=true:=(pre_splitW L).2;obtain⟨d,r,rfl,h1,h2⟩:=hasAllW_cons Y;obtain rfl:=hasAllW_nil h2;obtain⟨xs,rfl,h3⟩:=hasW_list h1;obtain⟨ns,rfl⟩:=items_int h3;have M:ns.length<=n:=by
  unfold OpenLaw.pre at Z;have h4:(WTm.not (.lt (.lit (.int (n:Int))) (.len (.arg 0)))).holds [] {args:= [.list (ns.map .int)]}=true:=by
   have h4:=(holds_andW Z).1;rw [hn] at h4;exact h4
  have R:=condW_of h4 (w_not (w_lt w_lit (w_len_list (w_arg rfl))));rw [uf] at R;refine Nat.le_of_not_lt fun q=> ?_;have q':(n:Int)<((ns.length:Nat):Int):=by omega
  first
   |(rw [u7 q'] at R;exact absurd R (by decide))
   |(simp at R;omega)
 cases U with
 |cons w1 w2=>
  cases w2;cases w1 with
  |list ho O=>exact⟨_,_,ns,rfl,rfl,ho,xR ns _ O,M⟩
theorem post_true (l:OpenLaw)(args:List WData):l.row.toRowW.claim.post args (.bool true) args=true:=
 postW_of (r:=l.row.toRowW) (X:=(true==true))
  (show WShape.has [] (.bool true) .bool=true by first|rfl|decide|simp [WShape.has,WShape.arms,WShape.armsAll])
  (show(WTm.eq .res (.lit (.bool true))).value [] {args:=args,res:=some (.bool true),after:=args}=some (.bool (true==true)) from w_eq_bool (w_res rfl) w_lit) rfl
end Att
namespace L2
open PySem PySem.Spec PyProof.Rows
theorem vals_ints:∀{vs:List Value}{ns:List Int},IntsAre vs ns->Vals (ns.map V.int) vs
 |_,_,.nil=> .nil
 |_,_,.cons n t h=> .cons ⟨t,rfl⟩ (vals_ints h)
def Only (H:Hp):Prop:=∀b,H b=none∨∃o xs,H b=some (.frz o (.lst xs))
theorem law_call {P:Program}{w:World}{K:PySem.W.Frag}{mg mb:Str->Option Value}{CX:CXT}{k:Nat}{fa a:Addr}{fd:FuncData}{x:Str}{sp:Sp}{I:Shared}{vs:List Value}{ns:List Int}
  (KX:K.In I.heap) (Y:I.heap.Ns mainGlobals mg) (M:I.heap.Ns builtinsNs mb) (ae:∀x:Str,x≠"__name__"->mb x=bootBuiltins x) (Z:I.heap.NoLimit) (hg:I.gens= #[])
  (ha:I.heap.get? a=some {cls:= .type "list",data:= .seq vs.toArray}) (hi:IntsAre vs ns) (hl:ns.length<=sizeLine) (hr:Room k callerA)
  (F:∀base:Heap,K.In base->base.Ns mainGlobals mg->FnOk P w K mg base CX k fa fd [x] sp) (U:∀(s:Shared) (u:Value),BindsTo s fd ⟨[u],[]⟩ [(x,u)])
  (aa:fd.scope.names.lookup x=some .local) (af:∀H:Hp,Only H->SqL K H a (ns.map V.int)->sp [.ref a] H (fun v _=>v= .bl true) fun _ _ _=>False)
  (ag:∀H e s',CX [] H I (fun _ _ _=>False) e s'->False):
  codeAny (model P w) callerA (.call (.ref fa) ⟨[.ref a],[]⟩) (fun r s'=>r= .ok (.ret (.bool true))/\OldK I.heap s'.heap/\s'.os=I.os/\AllBare s'.gens) I:=by
 have rv:=vals_ints hi;have ab:=hi.length;have R:∀H:Hp,Only H->SqL K H a (ns.map V.int)->HOk P w H I.heap->(∀b,H b≠none->b=a)->(H a≠none->K.lookup a=none)->
   codeAny (model P w) callerA (.call (.ref fa) ⟨[.ref a],[]⟩) (fun r s'=>r= .ok (.ret (.bool true))/\OldK I.heap s'.heap/\s'.os=I.os/\AllBare s'.gens) I:=by
  intro H hO hS hok hA hK;have L:∀{b:Addr}{o:Obj},I.heap.get? b=some o->H b=none->(hidT I.heap H).get? b=some o:=fun e n=>hidT_get e n;have ah:∀{b:Addr}{o:Obj}{es:Array DictEntry}{ep:Nat},I.heap.get? b=some o->o.data= .dict es ep->H b=none:=fun{b o es ep} e d=>by
   cases q:H b with
   |none=>rfl
   |some u=>
    have e':b=a:=hA b (by rw [q];simp)
    subst e';rw [ha] at e;cases e;have d':Data.seq vs.toArray _=Data.dict es ep:=d;cases d'
  have O:∀{b:Addr}{m:Str->Option Value},I.heap.Ns b m->(hidT I.heap H).Ns b m:=fun{b m} ⟨o,es,ep,e,d,r⟩=>⟨o,es,ep,L e (ah e d),d,r⟩;have ac:K.In (hidT I.heap H):=fun b o e=>L (KX b o e) (by
   cases q:H b with
   |none=>rfl
   |some u=>
    have e':b=a:=hA b (by rw [q];simp)
    subst e';rw [hK (by rw [q];simp)] at e;cases e)
  have hM:Mod K mg (hidT I.heap H):=⟨ac,O Y,⟨mb,O M,ae⟩,let⟨mc,h1,h2⟩:=Z;⟨mc,O h1,h2⟩⟩;have e0:Env0 P w K mg (hidT I.heap H) callerA [] I H:=⟨rfl,hM,fun b o e=>of_hidT e,Nat.le_of_eq (hidT_size _ _),trivial,fun b M=>absurd (show b∈([]:List Addr) from M) (by simp),hok,.of_eq hg⟩
  refine Ux ((F _ ac (O Y)).run callerA [] I H ⟨[.ref a],[]⟩ [.ref a] [.ref a] _ _ hr e0 (U I (.ref a)) (.cons rfl .nil) (af H hO hS) (.inr ⟨_,_,rfl,aa⟩)) fun r s' h=> ?_;cases r with
  |error e=>exact(ag H e s' h).elim
  |ok fl=>
   cases fl with
   |next=>exact False.elim h
   |brk=>exact False.elim h
   |cont=>exact False.elim h
   |ret u=>
    obtain⟨v,H',os,bare,htk,un,ad,r',q⟩:=h;have q':v= .bl true:=q;subst q';obtain rfl:u=Value.bool true:=r';refine⟨rfl,OldK.of_keep fun b o e=> ?_,os,bare⟩;cases q:H b with
    |none=>exact un.keep b o e q (by intro z;exact absurd (show b∈([]:List Addr) from z) (by simp)) (by simp)
    |some u=>
     rcases hO b with z|⟨ob,xs,z⟩
     ·rw [q] at z;cases z
     ·have z2:=un.frzs b ob _ z;obtain⟨e1,_⟩:=hok b _ z;obtain⟨e2,_⟩:=ad b _ z2;rw [e] at e1;cases e1;exact e2
 cases hk:K.lookup a with
 |some o=>
  have e:=KX a o hk;rw [ha] at e;cases e;refine R (fun _=>none) (fun _=> .inl rfl) (.inr ⟨_,vs.toArray,_,hk,rfl,rfl,rfl,by rw [ue,ab];exact hl,by simpa using rv⟩) (fun b u z=>by have z':(none:Option HO)=some u:=z;cases z') (fun b z=>absurd rfl z) fun z=>absurd rfl z
 |none=>
  refine R (fun b=>if b=a then some (.frz {cls:= .type "list",data:= .seq vs.toArray} (.lst (ns.map V.int))) else none) (fun b=> ?_) (.inl (.inr ⟨{cls:= .type "list",data:= .seq vs.toArray},if_pos rfl⟩)) (fun b u z=> ?_) (fun b z=> ?_) fun _=>hk
  ·by_cases M:b=a
   ·exact .inr ⟨_,_,if_pos M⟩
   ·exact .inl (if_neg M)
  ·by_cases M:b=a
   ·have z':=(if_pos M).symm.trans z;cases z';subst M;exact⟨ha,by rw [uf];exact hl,vs,_,rv,ha⟩
   ·have z':=(if_neg M).symm.trans z;cases z'
  ·by_cases M:b=a
   ·exact M
   ·exact absurd (if_neg M) z
abbrev KOf {K:PySem.W.Frag}{h:Heap}(_:K.In h):PySem.W.Frag:=K
def yX (s:Stmt)(j:Nat):Stmt:=match s with
 | .ClassDef _ _ _ body _ _ _ _ _ _ _=>body.getD j (.Pass ⟨0,0,0,0⟩)
 |_=> .Pass ⟨0,0,0,0⟩
def jT (s:Stmt):Arguments:=match s with
 | .FunctionDef _ a _ _ _ _ _ _ _ _=>a
 |_=>{posonlyargs:= [],args:= [],vararg:=none,kwonlyargs:= [],kw_defaults:= [],kwarg:=none,defaults:= []}
def Ys (s:Stmt):List Stmt:=match s with
 | .FunctionDef _ _ b _ _ _ _ _ _ _=>b
 |_=> []
def qm (s:Stmt):Scope:=match s with
 | .FunctionDef _ _ _ _ _ _ sc _ _ _=>sc
 |_=>{kind:= .function,names:= [],isGenerator:=false,isCoroutine:=false}
abbrev CX0:CXT:=fun _ _ _ _ _ _=>False
abbrev E0:XK:=fun _ _ _=>False
theorem qK {X:Cx}:Js CX0 X E0:=fun _ _ _ _ _ _ _ h=>h.elim
structure Fun (K:PySem.W.Frag)(x qual:Str)(st:Stmt)(f:Addr)(fd:FuncData):Prop where
 ex:∃(oc:Value) (od:Option Addr) (kV doc pm:Value) (an:Option Addr) (cdv ct:Value) (osl:Array (Option Value)),
  fd=PySem.W.fnOf x qual (jT st) (Ys st) (qm st) .none kV doc pm an cdv ct/\K.lookup f=some ⟨oc,od,.func fd,osl⟩/\PySem.W.codeIn K cdv qual=true
 kp:PySem.W.keepIn K (.ref f)=true
section
variable {P:Program}{w:World}{K:PySem.W.Frag}{mg:Str->Option Value}{base:Heap}
theorem Fun.ok {x qual:Str}{st:Stmt}{f:Addr}{fd:FuncData}{N ps:List Str}{k:Nat}{sp:Sp}(F:Fun K x qual st f fd)(S:qA N ps (qm st))(len:∀vs H Q E,sp vs H Q E->vs.length=ps.length)
  (I:∀(cdv:Value) (A:Around) (outer:List Env) (s:Shared) (H:Hp) (vs:List V) (Q:VK) (E:XK),Room k (A.deeper (envOfC qual (qm st) s.heap.objs.size f cdv))->sp vs H Q E->
   ∃t,PSs (cxOf CX0 P w K mg base N qual (qm st) f cdv A outer s H E).nox (Ys st) t/\t {nx:=fun _ H'=>Q .non H',rt:=Q} (Zk N vs) H):FnOk P w K mg base CX0 (k+1) f fd ps sp:=by
 obtain⟨oc,od,kV,doc,pm,an,cdv,ct,osl,rfl,O,L⟩:=F.ex;refine fn_of O L S len fun A outer s H vs Q E R M=> ?_;obtain⟨t,h,q⟩:=I cdv A outer s H vs Q E R M;exact⟨t,h.nox,q⟩
theorem Fun.binds {x qual:Str}{st:Stmt}{f:Addr}{fd:FuncData}{ps:List Str}(F:Fun K x qual st f fd)
  (h:∀(kV doc pm:Value) (an:Option Addr) (cdv ct:Value) (us:List Value),us.length=ps.length->bindArgs (PySem.W.fnOf x qual (jT st) (Ys st) (qm st) .none kV doc pm an cdv ct) ⟨us,[]⟩=pure (ps.zip us)):jj K fd ps []:=by
 obtain⟨oc,od,kV,doc,pm,an,cdv,ct,osl,rfl,L,I⟩:=F.ex;exact .all (h kV doc pm an cdv ct)
theorem fun_mk {x qual:Str}{st:Stmt}{f:Addr}{oc:Value}{od an:Option Addr}{osl:Array (Option Value)}{kV doc pm cdv ct:Value}(l:K.lookup f=some ⟨oc,od,.func (PySem.W.fnOf x qual (jT st) (Ys st) (qm st) .none kV doc pm an cdv ct),osl⟩)
  (c:PySem.W.codeIn K cdv qual=true) (k:PySem.W.keepIn K (.ref f)=true):Fun K x qual st f (PySem.W.fnOf x qual (jT st) (Ys st) (qm st) .none kV doc pm an cdv ct):=⟨⟨oc,od,kV,doc,pm,an,cdv,ct,osl,rfl,l,c⟩,k⟩
end
theorem QU {A:Around}{k:Nat}(I:Room k A):A.units+1<cLine:=vV (Nat.add_le_add_left (by decide:1<=64) _) I.units
theorem Ye {n:Nat}(h:n<=1000):n<sizeLine:=vV h (by decide)
section
variable {X:Cx}
theorem pv (i:Nat){x:Str}{pos:Pos}(L:X.N[i]? =some x:=by rfl)(M:Vis X.env.scope x:=by first|exact Or.inl rfl|exact Or.inr (Or.inl rfl)|exact Or.inr (Or.inr rfl))(hd:(x==("__debug__":Str))=false:=by decide)
  (I:(x==("__classdict__":Str))=false:=by decide):PE X (.Name x pos) (tVar i):=pe_var L M hd I
end
theorem iteF {A B:Prop}(h:B):if false=true then A else B:=by
 rw [if_neg ua];exact h
theorem iteT {A B:Prop}(h:A):if true=true then A else B:=by
 rw [if_pos rfl];exact h
theorem ite2 {c A B:Prop}[Decidable c](h1:c->A)(h2:¬c->B):if c then A else B:=by
 by_cases h:c
 ·rw [if_pos h];exact h1 h
 ·rw [if_neg h];exact h2 h
def Same (H H':Hp):Prop:=∀b o,H b=some o->H' b=some o
theorem Same.refl (H:Hp):Same H H:=fun _ _ h=>h
theorem Same.trans {H H1 H2:Hp}(a:Same H H1)(b:Same H1 H2):Same H H2:=fun c o h=>b c o (a c o h)
theorem Same.free {H H':Hp}(e:Same H H'){l:Addr}(h:H' l=Option.none):H l=Option.none:=by
 cases q:H l with
 |none=>rfl
 |some o=>
  rw [e l o q] at h;cases h
theorem Same.seq {K:PySem.W.Frag}{H H':Hp}{a:Addr}{xs:List V}(e:Same H H')(h:SqL K H a xs):SqL K H' a xs:=by
 rcases h with(h|⟨o,h⟩)|h
 ·exact .inl (.inl (e _ _ h))
 ·exact .inl (.inr ⟨o,e _ _ h⟩)
 ·exact .inr h
end L2
namespace L2
open PySem
inductive D where
 |non|bl (b:Bool)|int (i:Int)|str (z:Str)|lst|dct|tup (xs:List D)
def Qj (c:Nat):Bool:=decide (32<=c)&&decide (c<=126)&&decide (c≠37)
def QV (z:Str):Bool:=decide (z.length<=300)&&z.cps.toList.all Qj
mutual
def good:D->Bool
 | .str z=>QV z
 | .tup xs=>decide (xs.length<=40)&&goodL xs
 |_=>false
def goodL:List D->Bool
 | []=>true
 |x::r=>good x&&goodL r
end
mutual
def sz:D->Nat
 | .str z=>z.length+1
 | .tup xs=>1+szL xs
 |_=>0
def szL:List D->Nat
 | []=>0
 |x::r=>sz x+szL r
end
mutual
def dp:D->Nat
 | .str _=>1
 | .tup xs=>1+dpL xs
 |_=>0
def dpL:List D->Nat
 | []=>0
 |x::r=>max (dp x) (dpL r)
end
mutual
def nd:D->Nat
 | .tup xs=>1+ndL xs
 |_=>1
def ndL:List D->Nat
 | []=>0
 |x::r=>nd x+ndL r
end
def isT (d:D):Bool:=good d&&decide (sz d<=600)&&decide (dp d<=12)
theorem JJ:∀(xs ys:List D),szL (xs++ys)=szL xs+szL ys
 | [],ys=>by simp [szL]
 |x::r,ys=>by simp only [U9,szL,JJ r ys];omega
theorem JA:∀(xs ys:List D),ndL (xs++ys)=ndL xs+ndL ys
 | [],ys=>by simp [ndL]
 |x::r,ys=>by simp only [U9,ndL,JA r ys];omega
theorem zh:∀(xs ys:List D),dpL (xs++ys)=max (dpL xs) (dpL ys)
 | [],ys=>by simp [dpL]
 |x::r,ys=>by simp only [U9,dpL,zh r ys];omega
theorem goodL_all:∀(xs:List D),goodL xs=xs.all good
 | []=>rfl
 |x::r=>by simp only [goodL,vy,goodL_all r]
theorem Yz {k:Nat}:∀(xs:List D),dpL xs<=k↔∀x∈xs,dp x<=k
 | []=>by simp [dpL]
 |x::r=>by
  have L:=Yz (k:=k) r;have e:dpL (x::r)=max (dp x) (dpL r):=by simp only [dpL]
  rw [e];constructor
  ·intro h y I;rcases List.mem_cons.mp I with rfl|I
   ·omega
   ·exact L.mp (by omega) y I
  ·intro h;have h1:=h x uE;have h2:=L.mpr fun y I=>h y (uq _ I);omega
theorem dp_pos {d:D}(h:good d=true):1<=dp d:=by
 cases d<;>simp_all [good,dp]
def wOk (w:List (D×Nat)):Bool:=w.all fun p=>good p.1&&decide (p.2+dp p.1<=13)
def wSz (w:List (D×Nat)):Nat:=szL (w.map (·.1))
def G (w:List (D×Nat))(n:Nat):Bool:=wOk w&&decide (n+wSz w<=600)
theorem G_start (d:D):G [(d,1)] 0=isT d:=by
 simp only [G,wOk,wSz,isT,vy,List.all_nil,uk,vi,szL,vk,Nat.zero_add,Nat.add_zero];have e:decide (1+dp d<=13)=decide (dp d<=12):=by
  rw [uB];omega
 rw [e];cases good d<;>cases decide (sz d<=600)<;>cases decide (dp d<=12)<;>rfl
theorem G_nil {n:Nat}(h:n<=600):G [] n=true:=by simp [G,wOk,wSz,szL,h]
theorem G_snoc (w:List (D×Nat))(d:D)(k n:Nat):G (w++ [(d,k)]) n=(wOk w&&(good d&&decide (k+dp d<=13))&&decide (n+(wSz w+sz d)<=600)):=by
 simp only [G,wOk,wSz,List.all_append,vy,List.all_nil,vk,uF,uk,vi,JJ,szL,Nat.add_zero]
 rfl
theorem G_bad {w:List (D×Nat)}{d:D}{k n:Nat}(h:good d=false):G (w++ [(d,k)]) n=false:=by
 rw [G_snoc,h];simp
theorem G_deep {w:List (D×Nat)}{d:D}{k n:Nat}(h:12<k):G (w++ [(d,k)]) n=false:=by
 rw [G_snoc];cases I:good d with
 |false=>simp
 |true=>
  have:=dp_pos I;have e:decide (k+dp d<=13)=false:=uc (by omega)
  rw [e];simp
theorem G_big {w:List (D×Nat)}{d:D}{k n:Nat}(h:600<n+sz d):G (w++ [(d,k)]) n=false:=by
 rw [G_snoc];have e:decide (n+(wSz w+sz d)<=600)=false:=uc (by omega)
 rw [e];simp
theorem G_big1 {w:List (D×Nat)}{xs:List D}{k n:Nat}(h:600<n+1):G (w++ [(.tup xs,k)]) n=false:=G_big (by simp only [sz];omega)
theorem wOk_map (xs:List D)(k:Nat):wOk (xs.map fun x=>(x,k+1))=(goodL xs&&xs.all fun x=>decide (k+1+dp x<=13)):=by
 induction xs with
 |nil=>rfl
 |cons x r I=>
  simp only [uk,wOk,vy,goodL] at I⊢;rw [I];cases good x<;>cases decide (k+1+dp x<=13)<;>cases goodL r<;>simp
theorem wSz_map (xs:List D)(k:Nat):wSz (xs.map fun x=>(x,k+1))=szL xs:=by
 unfold wSz;rw [uN]
 congr 1
 induction xs with
 |nil=>rfl
 |cons x r I=>simp only [uk,I];rfl
theorem G_tup {w:List (D×Nat)}{xs:List D}{k n:Nat}(L:xs.length<=40)(hk:k<=12):G (w++ [(.tup xs,k)]) n=G (w++xs.map fun x=>(x,k+1)) (n+1):=by
 rw [G_snoc];unfold G;have M:wOk (w++xs.map fun x=>(x,k+1))=(wOk w&&wOk (xs.map fun x=>(x,k+1))):=by unfold wOk;rw [List.all_append]
 have O:wSz (w++xs.map fun x=>(x,k+1))=wSz w+szL xs:=by
  have:=wSz_map xs k;unfold wSz at this⊢;rw [uF,JJ,this]
 have R:decide (k+dp (.tup xs)<=13)=xs.all fun x=>decide (k+1+dp x<=13):=by
  have q:=Yz (k:=12-k) xs;have U:dp (.tup xs)=1+dpL xs:=by simp only [dp]
  rw [U,vG];constructor
  ·intro h;have h:=ud h;refine List.all_eq_true.mpr fun x I=>u7 ?_;have h2:=q.mp (by omega) x I
   omega
  ·intro h;refine u7 ?_;have h2:=q.mpr fun x I=>by
    have h3:=ud (List.all_eq_true.mp h x I);omega
   omega
 rw [M,O,R,wOk_map];have Y:good (.tup xs)=goodL xs:=by simp only [good,u7 L,vp]
 have Z:decide (n+(wSz w+sz (.tup xs))<=600)=decide (n+1+(wSz w+szL xs)<=600):=by
  rw [uB];simp only [sz];omega
 rw [Y,Z]
theorem G_str {w:List (D×Nat)}{z:Str}{k n:Nat}(I:QV z=true)(R:k<=12):G (w++ [(.str z,k)]) n=G w (n+(1+z.length)):=by
 rw [G_snoc];unfold G;have L:good (.str z)=true:=by simp only [good,I]
 have M:decide (k+dp (.str z)<=13)=true:=u7 (by simp only [dp];omega)
 have O:decide (n+(wSz w+sz (.str z))<=600)=decide (n+(1+z.length)+wSz w<=600):=by
  rw [uB];simp only [sz];omega
 rw [L,M,O];simp
end L2
namespace AwZ
open PySem PyProof.Rows
open PySem.AutoSeq1 (wpAny_loadPart')
section
variable {prog:Program}{w:World}{A:Around}{E:Value->Shared->Prop}{s:Shared}
theorem tdraw {j t:Addr}{i:Nat}{its:Array Value}{x:Value}{Q:Value->Shared->Prop}(M:s.heap.IsTupleIter j t i)(U:s.heap.IsTuple t its)(Y:its[i]? =some x)
  (q:∀h2,h2.IsTupleIter j t (i+1)->Heap.SameBut j s.heap h2->Q x {s with heap:=h2}):wpAny (model prog w) A (Builtin.SmallTypes.nextOf (.ref j)) Q E s:=by
 obtain⟨u,L,Z,I⟩:=id M;obtain⟨ut,O,_,nt,R⟩:=U;unfold Builtin.SmallTypes.nextOf;refine wpAny_bind (v4 (name:=Str.ofString "__next__") M.typeIs vS
  (vM vS M.typeIs F.entry_tuple_iterator_next ?_ (F.args_tuple_iterator_next_1 _)))
 show wpAny _ _ (field (.ref j) 0>>=_) _ _ s;refine wpAny_bind (uV L I (x:= .ref t) rfl ?_);show wpAny _ _ (if(Value.ref t==Value.none)=true then _ else _) _ _ s
 rw [if_neg (show¬(Value.ref t==Value.none)=true from ua)]
 show wpAny _ _ (field (.ref j) 1>>=_) _ _ s;refine wpAny_bind (uV L I (x:= .int i 0) rfl ?_);show wpAny _ _ (seqItems? (.ref t)>>=_) _ _ s;refine wpAny_bind (Ub O R ?_);simp only [Int.toNat_natCast,Y];refine wpAny_bind (wpAny_setField L I (by simp) (uj ⟨x,rfl,uj (q _ ?_ (Heap.SameBut.update ..))⟩))
 exact⟨_,Heap.get?_update_self _ L (Obj.isFreed_of_fields (Obj.data_mapFields I _)),(Obj.cls_mapFields ..).trans Z,by rw [Obj.data_mapFields I];simp [rawInt]⟩
theorem tdraw_end {j t:Addr}{i:Nat}{its:Array Value}{Q:Value->Shared->Prop}(U:A.handled=none)(I:s.heap.IsTupleIter j t i)(Y:s.heap.IsTuple t its)(Z:its[i]? =none)
  (q:∀h2 e,Heap.ExtBut j s.heap h2->(∃u,h2.get? e=some u/\u.cls= .type "StopIteration")->E (.ref e) {s with heap:=h2}):wpAny (model prog w) A (Builtin.SmallTypes.nextOf (.ref j)) Q E s:=by
 obtain⟨u,L,cu,M⟩:=id I;obtain⟨ut,O,_,nt,R⟩:=Y;unfold Builtin.SmallTypes.nextOf;refine wpAny_bind (v4 (name:=Str.ofString "__next__") I.typeIs vS
  (vM vS I.typeIs F.entry_tuple_iterator_next ?_ (F.args_tuple_iterator_next_1 _)))
 show wpAny _ _ (field (.ref j) 0>>=_) _ _ s;refine wpAny_bind (uV L M (x:= .ref t) rfl ?_);show wpAny _ _ (if(Value.ref t==Value.none)=true then _ else _) _ _ s
 rw [if_neg (show¬(Value.ref t==Value.none)=true from ua)]
 show wpAny _ _ (field (.ref j) 1>>=_) _ _ s;refine wpAny_bind (uV L M (x:= .int i 0) rfl ?_);show wpAny _ _ (seqItems? (.ref t)>>=_) _ _ s;refine wpAny_bind (Ub O R ?_);simp only [Int.toNat_natCast,Z];refine wpAny_bind (Uz (wpAny_bind (wpAny_setField L M (by simp) ?_)))
 show wpAny _ _ (newExc (.type "StopIteration") []>>=_) _ _ _;refine wpAny_bind ?_;simp only [newExc,newTuple];refine wpAny_bind (vt ?_ (by size_fits))
 refine wpAny_bind (m:=firstArgMember _ _) (wpAny_of_eq (a:=Value.none) (by first|rfl|(simp only [firstArgMember];rfl)) ?_)
 refine vt ?_ (by size_fits)
 simp only [raiseNew];refine wpAny_bind (wpAny_handled ?_)
 first|rw [show A.in1.handled=none from U]|rw [U]
 refine wpAny_bind (uj (wpAny_throw ?_));exact q _ _ (((Heap.SameBut.update ..).extBut.push _).push _) ⟨_,uw _ rfl,rfl⟩
structure Apt (z p r i j a b:Addr):Prop where
 pz:p≠z
 rz:r≠z
 iz:i≠z
 jz:j≠z
 pr:p≠r
 pi:p≠i
 pj:p≠j
 ri:r≠i
 rj:r≠j
 ij:i≠j
 az:a≠z
 ar:a≠r
 ai:a≠i
 aj:a≠j
 bz:b≠z
 br:b≠r
 bi:b≠i
 bj:b≠j
theorem ziptl {z p r i j a b:Addr}{k:Nat}{xs ys:Array Value}{x y u v:Value}{Q:Value->Shared->Prop}(D:Apt z p r i j a b)
  (O:IsZip s.heap z p r .none) (hp:IsPair s.heap p (.ref i) (.ref j)) (hr:IsPair s.heap r u v)
  (hi:s.heap.IsTupleIter i a k) (hj:s.heap.IsListIter j b k) (ha:s.heap.IsTuple a xs) (hb:s.heap.IsList b ys) (hx:xs[k]? =some x) (hy:ys[k]? =some y)
  (q:∀h2,IsZip h2 z p r (rawInt s.heap.objs.size)->IsPair h2 r x y->h2.IsTupleIter i a (k+1)->h2.IsListIter j b (k+1)->IsPair h2 s.heap.objs.size x y->h2.objs.size=s.heap.objs.size+1->
   (∀c o,c≠z->c≠r->c≠i->c≠j->s.heap.get? c=some o->h2.get? c=some o)->Q (.ref s.heap.objs.size) {s with heap:=h2}):
  wpAny (model prog w) A (Builtin.«zip.__next__» ⟨[.ref z],[]⟩) (fun aa t=>∃v,aa= .done (.ret v)/\Q v t) E s:=by
 show wpAny _ _ (field (.ref z) 2>>=_) _ _ _;refine wpAny_bind (uV O rfl (x:= .bool false) rfl ?_);show wpAny _ _ (field (.ref z) 3>>=_) _ _ _;refine wpAny_bind (uV O rfl (x:= .ref p) rfl ?_);refine wpAny_bind (Ub hp rfl ?_);show wpAny _ _ (Builtin.SmallTypes.ownedTupleIsFree (.ref z)>>=_) _ _ s;refine wpAny_bind ?_;unfold Builtin.SmallTypes.ownedTupleIsFree;refine wpAny_bind (uV O rfl (x:= .none) rfl (uj ?_));simp only [UL];refine wpAny_bind (Uz ?_);refine wpAny_bind (uV O rfl (x:= .ref r) rfl ?_);refine wpAny_bind (vg O (by simp) fun h1 z1 s1=> ?_)
 replace z1:IsZip h1 z p r .ellipsis:=z1
 refine wpAny_bind ?_;simp only [List.zipIdx_cons,List.zipIdx_nil,Ul,List.forIn_nil];refine wpAny_bind (wpAny_bind (wpAny_onRaise ?_));show wpAny _ _ (Builtin.SmallTypes.nextOf (.ref i)>>=_) _ _ _;refine wpAny_bind (tdraw (hi.extBut s1.extBut D.iz) (ha.extBut s1.extBut D.az) hx fun h2 i2 s2=>uj ?_);have r2:IsPair h2 r u v:=s2.extBut _ _ D.ri (s1.extBut _ _ D.rz hr);refine wpAny_bind (Ub r2 rfl ?_);refine wpAny_bind (wpAny_updateSeq_pair r2 fun h3 r3 M=> ?_)
 replace r3:IsPair h3 r x v:=r3
 refine wpAny_bind (wpAny_letGo (uj ?_));refine wpAny_bind (wpAny_bind (wpAny_onRaise ?_));show wpAny _ _ (Builtin.SmallTypes.nextOf (.ref j)>>=_) _ _ _;refine wpAny_bind (wpAny_nextOf_list_item (((hj.extBut s1.extBut D.jz).extBut s2.extBut D.ij.symm).extBut M.extBut D.rj.symm)
  (((hb.extBut s1.extBut D.bz).extBut s2.extBut D.bi).extBut M.extBut D.br) hy fun h4 j4 R=>uj ?_)
 have r4:IsPair h4 r x v:=R.extBut _ _ D.rj r3;refine wpAny_bind (Ub r4 rfl ?_);refine wpAny_bind (wpAny_updateSeq_pair r4 fun I r5 U=> ?_)
 replace r5:IsPair I r x y:=r5
 refine wpAny_bind (wpAny_letGo (uj (uj ?_)));refine wpAny_bind (Ub r5 rfl ?_);refine wpAny_bind (wpAny_newTuple ?_);have sz:I.objs.size=s.heap.objs.size:=by rw [U.1,R.1,M.1,s2.1,s1.1]
 have z5:IsZip I z p r .ellipsis:=U.extBut _ _ D.rz.symm (R.extBut _ _ D.jz.symm (M.extBut _ _ D.rz.symm (s2.extBut _ _ D.iz.symm z1)));have k5:∀c o,c≠z->c≠r->c≠i->c≠j->s.heap.get? c=some o->I.get? c=some o:=fun c o L c2 c3 c4 e=>
  U.extBut _ _ c2 (R.extBut _ _ c4 (M.extBut _ _ c2 (s2.extBut _ _ c3 (s1.extBut _ _ L e))))
 have i5:I.IsTupleIter i a (k+1):=((i2.extBut M.extBut D.ri.symm).extBut R.extBut D.ij).extBut U.extBut D.ri.symm;have j5:I.IsListIter j b (k+1):=j4.extBut U.extBut D.rj.symm;have Y:z<I.objs.size:=uo z5;show wpAny _ _ (Builtin.SmallTypes.ownedTupleHandOut (.ref z) (.ref I.objs.size)>>=_) _ _ _;refine wpAny_bind ?_;unfold Builtin.SmallTypes.ownedTupleHandOut;have z6:IsZip (I.push {cls:= .type "tuple",data:= .seq #[x,y]}) z p r .ellipsis:=ub _ z5;refine wpAny_bind (vg z6 (by simp) fun h7 z7 s7=> ?_)
 replace z7:IsZip h7 z p r (rawInt I.objs.size):=z7
 refine vg z7 (by simp) fun Z z8 s8=> ?_
 replace z8:IsZip Z z p r (rawInt I.objs.size):=z8
 have up:∀c o,c≠z->I.get? c=some o->Z.get? c=some o:=fun c o L e=>s8.extBut _ _ L (s7.extBut _ _ L (ub _ e));have t8:IsPair Z I.objs.size x y:=s8.extBut _ _ (U7 Y) (s7.extBut _ _ (U7 Y) (uw _ rfl));have n8:Z.objs.size=I.objs.size+1:=by rw [s8.1,s7.1,vc]
 rw [sz] at z8 t8 n8;refine uj ⟨_,rfl,?_⟩;show Q (.ref I.objs.size) _;rw [sz];exact q Z z8 (up _ _ D.rz r5) (by obtain⟨o,e,g⟩:=i5;exact⟨o,up _ o D.iz e,g⟩) (j5.at fun o e=>up _ o D.jz e) t8 n8 fun c o L c2 c3 c4 e=>up c o L (k5 c o L c2 c3 c4 e)
theorem zip_go {z p r i j a b:Addr}{k:Nat}{xs ys:Array Value}{x y u v:Value}{Q:Option Value->Shared->Prop}(D:Apt z p r i j a b)
  (I:IsZip s.heap z p r .none) (M:IsPair s.heap p (.ref i) (.ref j)) (O:IsPair s.heap r u v)
  (hi:s.heap.IsTupleIter i a k) (R:s.heap.IsListIter j b k) (ha:s.heap.IsTuple a xs) (U:s.heap.IsList b ys) (Y:xs[k]? =some x) (Z:ys[k]? =some y)
  (q:∀h2,IsZip h2 z p r (rawInt s.heap.objs.size)->IsPair h2 r x y->h2.IsTupleIter i a (k+1)->h2.IsListIter j b (k+1)->IsPair h2 s.heap.objs.size x y->h2.objs.size=s.heap.objs.size+1->
   (∀c o,c≠z->c≠r->c≠i->c≠j->s.heap.get? c=some o->h2.get? c=some o)->Q (some (.ref s.heap.objs.size)) {s with heap:=h2}):
  wpAny (model prog w) A (pyNext (.ref z)) Q E s:=by
 have L:s.TypeIs (.ref z) "zip":=⟨_,I,rfl⟩;unfold pyNext;exact wpAny_bind (UG (v4 (name:=Str.ofString "__next__") L F.slot_zip_next
  (vM F.slot_zip_next L F.entry_zip_next (ziptl D I M O hi R ha U Y Z fun h2 b1 b2 b3 b4 b5 b6 b7=>uj (q h2 b1 b2 b3 b4 b5 b6 b7)) (F.args_zip_next_1 _))))
theorem zip_stop {z p r i j a b:Addr}{k:Nat}{xs:Array Value}{Q:Option Value->Shared->Prop}(hh:A.handled=none)(D:Apt z p r i j a b)
  (I:IsZip s.heap z p r .none) (hp:IsPair s.heap p (.ref i) (.ref j)) (hi:s.heap.IsTupleIter i a k) (ha:s.heap.IsTuple a xs) (hx:xs[k]? =none)
  (q:∀h2,(∀c o,c≠z->c≠r->c≠i->c≠j->s.heap.get? c=some o->h2.get? c=some o)->Q none {s with heap:=h2}):wpAny (model prog w) A (pyNext (.ref z)) Q E s:=by
 have O:s.TypeIs (.ref z) "zip":=⟨_,I,rfl⟩;unfold pyNext;refine wpAny_bind (UG (v4 (name:=Str.ofString "__next__") O F.slot_zip_next
  (vM F.slot_zip_next O F.entry_zip_next ?_ (F.args_zip_next_1 _))))
 show wpAny _ _ (field (.ref z) 2>>=_) _ _ _;refine wpAny_bind (uV I rfl (x:= .bool false) rfl ?_);show wpAny _ _ (field (.ref z) 3>>=_) _ _ _;refine wpAny_bind (uV I rfl (x:= .ref p) rfl ?_);refine wpAny_bind (Ub hp rfl ?_);show wpAny _ _ (Builtin.SmallTypes.ownedTupleIsFree (.ref z)>>=_) _ _ s;refine wpAny_bind ?_;unfold Builtin.SmallTypes.ownedTupleIsFree;refine wpAny_bind (uV I rfl (x:= .none) rfl (uj ?_));simp only [UL];refine wpAny_bind (Uz ?_);refine wpAny_bind (uV I rfl (x:= .ref r) rfl ?_);refine wpAny_bind (vg I (by simp) fun h1 L s1=> ?_)
 replace L:IsZip h1 z p r .ellipsis:=L
 refine wpAny_bind ?_;simp only [List.zipIdx_cons,List.zipIdx_nil,Ul,List.forIn_nil];refine wpAny_bind (wpAny_bind (wpAny_onRaise ?_));show wpAny _ _ (Builtin.SmallTypes.nextOf (.ref i)>>=_) _ _ _;refine wpAny_bind (tdraw_end hh (hi.extBut s1.extBut D.iz) (ha.extBut s1.extBut D.az) hx fun h2 e s2 he=> ?_);obtain⟨oe,M,R⟩:=he;have U:IsZip h2 z p r .ellipsis:=s2 _ _ D.iz.symm L;have ez:e≠z:=fun x=>by subst x;rw [U] at M;cases M;simp at R
 refine vg U (by simp) fun h3 _ Y=> ?_
 refine wpAny_bind (Ut (T:="StopIteration") (b:=true) ⟨oe,Y.extBut _ _ ez M,R⟩ isSubtype_stop ?_);exact uj (q _ fun c o Z _ c3 _ x=>Y.extBut _ _ Z (s2 _ _ c3 (s1.extBut _ _ Z x)))
abbrev q1 (h:Heap)(a:Addr):Heap:=h.push {cls:= .type "tuple_iterator",data:= .fields #[.ref a,.int 0 0]}
abbrev q2 (h:Heap)(a b:Addr):Heap:=(q1 h a).push {cls:= .type "list_iterator",data:= .fields #[.ref b,.int 0 0]}
abbrev q3 (h:Heap)(a b:Addr):Heap:=(q2 h a b).push {cls:= .type "tuple",data:= .seq #[.ref h.objs.size,.ref (q1 h a).objs.size]}
abbrev q4 (h:Heap)(a b:Addr):Heap:=(q3 h a b).push {cls:= .type "tuple",data:= .seq #[.none,.none]}
abbrev q5 (h:Heap)(a b:Addr):Heap:=(q4 h a b).push {cls:= .type "zip",data:= .fields #[.none,.bool false,.bool false,.ref (q2 h a b).objs.size,.ref (q3 h a b).objs.size]}
theorem zip_made (a b:Addr)(xs ys:Array Value):Meets (Builtin.«zip.__new__» ⟨[.type "zip",.ref a,.ref b],[]⟩) (fun _ R s=>s.heap.IsTuple a xs/\s.heap.IsList b ys/\R (.ok (.ret (.ref (q4 s.heap a b).objs.size))) {s with heap:=q5 s.heap a b}):=
 .of_wp fun prog w A R s h=>by
  obtain⟨I,g,d,tk,os⟩:=s;obtain⟨ha,L,h⟩:=h;have sub:=sub_zip;have h1:Heap.IsTuple (Shared.heap ⟨I,g,d,tk,os⟩) a xs:=ha;have h2:Heap.IsList (Shared.heap ⟨I.push {cls:= .type "tuple_iterator",data:= .fields #[.ref a,.int 0 0]},g,d,tk,os⟩) b ys:=Heap.IsList.push L _
  wp_walk using vU h1,wpAny_pyIter_list h2
  exact⟨_,rfl,h⟩
theorem zip_call {a b:Addr}{xs ys:Array Value}{Q:Value->Shared->Prop}(ha:s.heap.IsTuple a xs)(hb:s.heap.IsList b ys)
  (h:∀h2,IsZip h2 (s.heap.objs.size+4) (s.heap.objs.size+2) (s.heap.objs.size+3) .none->IsPair h2 (s.heap.objs.size+2) (.ref s.heap.objs.size) (.ref (s.heap.objs.size+1))->
   IsPair h2 (s.heap.objs.size+3) .none .none->h2.IsTupleIter s.heap.objs.size a 0->h2.IsListIter (s.heap.objs.size+1) b 0->h2.objs.size=s.heap.objs.size+5->
   (∀c o,s.heap.get? c=some o->h2.get? c=some o)->Q (.ref (s.heap.objs.size+4)) {s with heap:=h2}):wpAny (model prog w) A (call (.type "zip") [.ref a,.ref b]) Q E s:=by
 refine callType_new F.called_zip (by decide) (F.typeCall_zip_2 _ _) (F.newCall_zip_2 _ _) (fun obj=>F.args_object_init_3 obj _ _) F.entry_zip_new (zip_made a b xs ys) ⟨ha,hb,?_⟩
 have I:(q1 s.heap a).objs.size=s.heap.objs.size+1:=vc ..;have L:(q2 s.heap a b).objs.size=s.heap.objs.size+2:=by rw [vc,I]
 have M:(q3 s.heap a b).objs.size=s.heap.objs.size+3:=by rw [vc,L]
 have O:(q4 s.heap a b).objs.size=s.heap.objs.size+4:=by rw [vc,M]
 have z5:(q5 s.heap a b).objs.size=s.heap.objs.size+5:=by rw [vc,O]
 have R:(q5 s.heap a b).get? (q4 s.heap a b).objs.size=some _:=uw _ rfl;have U:(q5 s.heap a b).get? (q3 s.heap a b).objs.size=some _:=ub _ (uw _ rfl);have Y:(q5 s.heap a b).get? (q2 s.heap a b).objs.size=some _:=ub _ (ub _ (uw _ rfl));have Z:(q5 s.heap a b).get? (q1 s.heap a).objs.size=some _:=ub _ (ub _ (ub _ (uw _ rfl)));have g1:(q5 s.heap a b).get? s.heap.objs.size=some _:=ub _ (ub _ (ub _ (ub _ (uw _ rfl))));show _/\_;rw [L,M,O] at R;rw [I,L] at Y;rw [M] at U;rw [I] at Z;rw [O];exact⟨⟨_,R,rfl⟩,h _ R Y U ⟨_,g1,rfl,rfl⟩ ⟨_,Z,rfl,rfl⟩ z5 fun c o x=>ub _ (ub _ (ub _ (ub _ (ub _ x))))⟩
theorem enumt {e j t:Addr}{i:Nat}{c:Int}{its:Array Value}{x I:Value}{Q:Value->Shared->Prop}(he:IsEnum s.heap e j c I)(gj:s.heap.IsTupleIter j t i)(gt:s.heap.IsTuple t its)(gx:its[i]? =some x)(Y:e≠j)
  (q:∀h2,IsEnumOut h2 e j (c+1) x s.heap.objs.size->h2.IsTupleIter j t (i+1)->h2.get? s.heap.objs.size=some {cls:= .type "tuple",data:= .seq #[.int c s.toks,x]}->h2.objs.size=s.heap.objs.size+1->
   (∀b o,b≠e->b≠j->s.heap.get? b=some o->h2.get? b=some o)->Q (.ref s.heap.objs.size) {s with heap:=h2,toks:=s.toks+1}):
  wpAny (model prog w) A (Builtin.«enumerate.__next__» ⟨[.ref e],[]⟩) (fun aa t=>∃v,aa= .done (.ret v)/\Q v t) E s:=by
 obtain⟨L,g,d,tk,os⟩:=s;show wpAny _ _ (field (.ref e) 2>>=_) _ _ _;refine wpAny_bind (uV he rfl (x:= .ref j) rfl ?_);refine wpAny_bind (tdraw gj gt gx fun h1 j1 s1=> ?_)
 replace s1:Heap.SameBut j L h1:=s1
 have Z:IsEnum h1 e j c I:=(s1.2 e Y).trans he;show wpAny _ _ (field (.ref e) 3>>=_) _ _ ⟨h1,g,d,tk,os⟩;refine wpAny_bind (uV Z rfl (x:=rawInt c) rfl ?_);show wpAny _ _ (field (.ref e) 4>>=_) _ _ ⟨h1,g,d,tk,os⟩;refine wpAny_bind (uV Z rfl (x:= .none) rfl ?_);show wpAny _ _ (mkInt c>>=_) _ _ ⟨h1,g,d,tk,os⟩;refine wpAny_bind (wpAny_mkInt ?_);show wpAny _ _ (setField (.ref e) 3 (rawInt (c+1))>>=_) _ _ ⟨h1,g,d,tk+1,os⟩;refine wpAny_bind (vg Z (by simp) fun h2 e2 s2=> ?_)
 replace s2:Heap.SameBut e h1 h2:=s2
 replace e2:IsEnum h2 e j (c+1) I:=e2
 show wpAny _ _ (setField (.ref e) 4 .none>>=_) _ _ ⟨h2,g,d,tk+1,os⟩;refine wpAny_bind (vg e2 (by simp) fun O e3 R=> ?_)
 replace R:Heap.SameBut e h2 O:=R
 replace e3:IsEnum O e j (c+1) I:=e3
 show wpAny _ _ (newTuple [.int c tk,x]>>=_) _ _ ⟨O,g,d,tk+1,os⟩;refine wpAny_bind (wpAny_newTuple ?_);have e4:IsEnum (O.push {cls:= .type "tuple",data:= .seq #[.int c tk,x]}) e j (c+1) I:=ub _ e3;generalize U:O.push {cls:= .type "tuple",data:= .seq #[.int c tk,x]}=h4 at e4;have sz:O.objs.size=L.objs.size:=by rw [R.1,s2.1,s1.1]
 have el:e<L.objs.size:=uo he;have t4:h4.get? L.objs.size=some {cls:= .type "tuple",data:= .seq #[.int c tk,x]}:=by rw [<-U,<-sz];exact uw _ rfl
 have n4:h4.objs.size=L.objs.size+1:=by rw [<-U,vc,sz]
 have k4:∀b o,b≠e->b≠j->L.get? b=some o->h4.get? b=some o:=fun b o M bj y=>by
  rw [<-U];exact ub _ (R.extBut b o M (s2.extBut b o M (s1.extBut b o bj y)))
 have j4:h4.IsTupleIter j t (i+1):=by
  obtain⟨o,y,r⟩:=j1;exact⟨o,by rw [<-U];exact ub _ (R.extBut j o (Uq Y) (s2.extBut j o (Uq Y) y)),r⟩
 show wpAny _ _ (Builtin.SmallTypes.ownedTupleIsFree (.ref e)>>=_) _ _ ⟨h4,g,d,tk+1,os⟩;rw [sz];clear U e3 R e2 s2 Z s1 j1 sz O h2 h1;refine wpAny_bind ?_;unfold Builtin.SmallTypes.ownedTupleIsFree;refine wpAny_bind (uV e4 rfl (x:= .none) rfl (uj ?_));simp only [UL];refine wpAny_bind (Uz ?_);refine wpAny_bind (uV e4 rfl (x:=I) rfl ?_);refine wpAny_bind (vg e4 (by simp) fun h5 e5 s5=> ?_)
 replace s5:Heap.SameBut e h4 h5:=s5
 replace e5:IsEnum h5 e j (c+1) x:=e5
 show wpAny _ _ (Builtin.SmallTypes.ownedTupleHandOut (.ref e) (.ref L.objs.size)>>=_) _ _ ⟨h5,g,d,tk+1,os⟩;refine wpAny_bind ?_;unfold Builtin.SmallTypes.ownedTupleHandOut;refine wpAny_bind (vg e5 (by simp) fun h6 e6 s6=> ?_)
 replace s6:Heap.SameBut e h5 h6:=s6
 replace e6:IsEnumOut h6 e j (c+1) x L.objs.size:=e6
 refine vg e6 (by simp) fun h7 e7 s7=> ?_
 replace s7:Heap.SameBut e h6 h7:=s7
 replace e7:IsEnumOut h7 e j (c+1) x L.objs.size:=e7
 have up:∀b o,b≠e->h4.get? b=some o->h7.get? b=some o:=fun b o M y=>s7.extBut b o M (s6.extBut b o M (s5.extBut b o M y));refine wpAny_bind (wpAny_letGo (uj ⟨_,rfl,q h7 e7 ?_ (up _ _ (U7 el) t4) ?_ fun b o M bj y=>up b o M (k4 b o M bj y)⟩))
 ·obtain⟨o,y,r⟩:=j4;exact⟨o,up j o (Uq Y) y,r⟩
 ·rw [s7.1,s6.1,s5.1,n4]
theorem enum_go {e j t:Addr}{i:Nat}{c:Int}{its:Array Value}{x I:Value}{Q:Option Value->Shared->Prop}(L:IsEnum s.heap e j c I)(M:s.heap.IsTupleIter j t i)(O:s.heap.IsTuple t its)(R:its[i]? =some x)(U:e≠j)
  (q:∀h2,IsEnumOut h2 e j (c+1) x s.heap.objs.size->h2.IsTupleIter j t (i+1)->h2.get? s.heap.objs.size=some {cls:= .type "tuple",data:= .seq #[.int c s.toks,x]}->h2.objs.size=s.heap.objs.size+1->
   (∀b o,b≠e->b≠j->s.heap.get? b=some o->h2.get? b=some o)->Q (some (.ref s.heap.objs.size)) {s with heap:=h2,toks:=s.toks+1}):wpAny (model prog w) A (pyNext (.ref e)) Q E s:=by
 have te:s.TypeIs (.ref e) "enumerate":=⟨_,L,rfl⟩;unfold pyNext;exact wpAny_bind (UG (v4 (name:=Str.ofString "__next__") te Uo
  (vM Uo te F.entry_enumerate_next (enumt L M O R U fun h2 b1 b2 Y Z b5=>uj (q h2 b1 b2 Y Z b5)) (F.args_enumerate_next_1 _))))
theorem enum_stop {e j t:Addr}{i:Nat}{c:Int}{its:Array Value}{I:Value}{Q:Option Value->Shared->Prop}(M:A.handled=none)(L:IsEnum s.heap e j c I)(O:s.heap.IsTupleIter j t i)(R:s.heap.IsTuple t its)(U:its[i]? =none)
  (q:∀h2,Heap.ExtBut j s.heap h2->Q none {s with heap:=h2}):wpAny (model prog w) A (pyNext (.ref e)) Q E s:=by
 have te:s.TypeIs (.ref e) "enumerate":=⟨_,L,rfl⟩;unfold pyNext;refine wpAny_bind (UG (v4 (name:=Str.ofString "__next__") te Uo
  (vM Uo te F.entry_enumerate_next ?_ (F.args_enumerate_next_1 _))))
 show wpAny _ _ (field (.ref e) 2>>=_) _ _ _;refine wpAny_bind (uV L rfl (x:= .ref j) rfl ?_);refine wpAny_bind (tdraw_end M O R U fun h2 y s2 Y=> ?_);obtain⟨o,g,c⟩:=Y;refine wpAny_bind (Ut (T:="StopIteration") (b:=true) ⟨o,g,c⟩ isSubtype_stop ?_);exact uj (q _ s2)
theorem w_tc (T:String)(args:List Value)(kw:List (Str×Value)):(Code.builtin "type.__call__" ⟨.type T::args,kw⟩).weight=0:=rfl
theorem new_kw {T L:String}{Bn:Builtin}{args:List Value}{kw:List (Str×Value)}{S:PySem.Spec}{Q:Value->Shared->Prop}(I:TypeCalled T L "object.__init__")
  (ac:(some L !=some "object.__new__")=true) (ad:checkTypeCall T ⟨args,kw⟩=pure Unit.unit) (U:checkBuiltinCall L ⟨.type T::args,kw⟩=pure Unit.unit)
  (hok:∀obj,argsOk "object.__init__" ⟨obj::args,kw⟩) (en:entryFor table L=some Bn) (g:Meets (Bn ⟨.type T::args,kw⟩) S)
  (h:S A.in1 (wants (fun obj s1=>s1.TypeIs obj T/\Q obj s1) E) s):wpAny (model prog w) A (call (.type T) args kw) Q E s:=by
 obtain⟨c,tl,hm⟩:=I.mro;have Y:=I.made;have ab:=I.sub;refine wpAny_call (codeAny_of_tree ?_);show wpAny _ _ (callAny (.type T) _) _ _ _;refine uj ⟨Code.quiet_builtin _ (by decide+kernel),codeAny_builtin F.entry_type_call ?_⟩
 rw [Around.under_plain (w_tc T args kw) (units_type_call_type T args kw)];have g1:=I.notType;have g2:=I.canCreate
 repeat (any_goals (first|assumption|wp_step))
 refine Ux (codeAny_call_builtin I.plain en (wpAny_of_eq U (g prog w A.in1 _ s h))) fun r s1 Z=> ?_;cases r with
 |error e=>exact Z
 |ok fl=>
  cases fl with
  |ret obj=>
   obtain⟨hT,O⟩:=Z;have ae:=I.init.lookup;have af:=I.init.bind obj
   repeat (any_goals (first|assumption|wp_step))
   have gi:Meets (Builtin.«object.__init__» ⟨obj::args,kw⟩) (fun _ R s=>s.TypeIs obj T/\R (.ok (.ret .none)) s):=by
    refine Meets.of_wp fun prog w A R s hs=> ?_;obtain⟨hT,O⟩:=hs;cases hc:(!args.isEmpty|| !kw.isEmpty) with
    |false=>
     show wpAny _ _ (if(!args.isEmpty|| !kw.isEmpty)=true then _ else _) _ _ _
     rw [if_neg (by rw [hc];exact ua)]
     exact uj ⟨_,rfl,O⟩
    |true=>
     repeat (any_goals (first|assumption|wp_step))
     exact⟨_,rfl,O⟩
   refine Ux (codeAny_call_builtin I.init.plain F.entry_object_init (I.init.check _ _ _ _ _ _ _ _ hT (hok obj) (gi prog w A.in1 (wants (fun r s2=>r= .none/\Q obj s2) E) s1 ⟨hT,rfl,O⟩))) fun r2 s2 M=> ?_;cases r2 with
   |error e=>exact M
   |ok aa=>
    cases aa with
    |ret r=>
     obtain⟨rfl,O⟩:=M
     repeat (any_goals (first|assumption|wp_step))
    |_=>exact M.elim
  |_=>exact Z.elim
end
end AwZ
namespace L2
open PySem PySem.Spec PyProof.Rows
def Its (x:Str):It:=⟨fun i _=>i<x.cps.size,fun i H v H'=>H'=H/\∃c,x.cps[i]? =some c/\v= .str ⟨#[c]⟩,fun i _=>i=x.cps.size⟩
theorem turn_str {P:Program}{w:World}{K:PySem.W.Frag}{tg:Expr}{x:Str}{t:Tok}{it:Addr}(ty:String)(L:ty="str_ascii_iterator"∨ty="str_iterator"):
  Turn P w K tg (Its x) [it] it (fun i h=>h.IsStrIter it ty x t i) where
 mem:=by simp
 obj:=fun i h st b M=>by
  have e:b=it:=by simpa using M
  subst e;obtain⟨o,e,c,d⟩:=st;exact⟨o,e,fun v z=>by rw [d] at z;cases z⟩
 keep:=fun i h h' st k=>by
  obtain⟨o,e,r⟩:=st;exact⟨o,k it (by simp) o e,r⟩
 item:=by
  intro X Y Z hK O i pins s σ H E I U st hg;subst Y Z hK;obtain⟨f0,f1,f2,f3,f4,f5⟩:=U it (by simp)
  have W:Walks X.prog X.w X.A it [it] [it] x.cps.size (SignAt x) (fun i h=>h.IsStrIter it ty x t i):=by
   rcases L with rfl|rfl
   ·exact Walks.strAscii (I.ok.hd O) it x t
   ·exact Walks.strWide (I.ok.hd O) it x t
  refine uU (n:=1) I.tk (W.item i s _ _ hg st fun v h' tk hv R kk=> ?_);intro htk;obtain⟨c,u,hx,rfl⟩:=hv;have I1:Inv X pins σ H {s with heap:=h',toks:=tk}:=I.turned (fun b o M e=>kk b o (by simpa using M) e) f0 f1 f3 f4 f5
  obtain⟨o,e,c',d⟩:=id R;refine⟨_,rfl,go_of (s:={s with heap:=h',toks:=tk}) e c' d (by rcases L with rfl|rfl<;>decide) ⟨.str ⟨#[c]⟩,H,I1,⟨u,rfl⟩,⟨rfl,c,hx,rfl⟩,R,fun b M=>(U b M).1⟩⟩
 done:=by
  intro X Y Z hK O i pins s σ H E I U st hg;subst Y Z hK;have aa:i=x.cps.size:=hg;subst aa;obtain⟨f0,f1,f2,f3,f4,f5⟩:=U it (by simp)
  have W:Walks X.prog X.w X.A it [it] [it] x.cps.size (SignAt x) (fun i h=>h.IsStrIter it ty x t i):=by
   rcases L with rfl|rfl
   ·exact Walks.strAscii (I.ok.hd O) it x t
   ·exact Walks.strWide (I.ok.hd O) it x t
  exact uU (n:=1) I.tk (W.done s _ _ st fun h' tk kk htk=>⟨rfl,I.turned (fun b o M e=>kk b o (by simpa using M) e) f0 f1 f3 f4 f5⟩)
 self:=fun _ _ _ _ _ st h=>by
  rcases L with rfl|rfl
  ·exact wpAny_pyIter_striter_ascii st h
  ·exact wpAny_pyIter_striter_wide st h
section
variable {X:Cx}{tg:Expr}
def iStr (tl:TE):TI:=fun σ H R=>tl σ H fun x H1=>∃z,x= .str z/\R (Its z) H1
theorem pi_str {l:Expr}{tl:TE}(M:PE X l tl):PI X tg l (iStr tl):=by
 intro pins s σ H R I h;refine thn (M pins s σ H _ I h) fun v s1 ⟨x,H1,L,O,q1⟩=> ?_;obtain⟨z,e,q⟩:=q1;subst e;obtain⟨t,rfl⟩:=O;have fp:∀(o:Obj),∀b∈ [s1.heap.objs.size],FpOk X pins H1 b:=fun o b U=>by
  have e:b=s1.heap.objs.size:=by simpa using U
  subst e;exact L.fpOk (ui _) (L.hok.fresh (ui _))
 cases ha:z.cps.all (·<128)
 ·refine wpAny_pyIter_wide ha ?_;exact⟨s1.heap.objs.size,[s1.heap.objs.size],_,_,H1,rfl,L.kept (t':=s1.toks) fun b o e=>ub _ e,turn_str "str_iterator" (.inr rfl),⟨_,uw _ rfl,rfl,rfl⟩,fp default,q⟩
 ·refine wpAny_pyIter_ascii ha ?_;exact⟨s1.heap.objs.size,[s1.heap.objs.size],_,_,H1,rfl,L.kept (t':=s1.toks) fun b o e=>ub _ e,turn_str "str_ascii_iterator" (.inl rfl),⟨_,uw _ rfl,rfl,rfl⟩,fp default,q⟩
def rSlS:V->Option Int->Option Int->Hp->VK->Prop:=fun x lo hi H Q=>∃z,x= .str z/\z.length<=sizeLine/\Q (.str (Txt.slice z lo hi)) H
def tokOf:Value->Option (Int×Tok)
 | .int i t=>some (i,t)
 |_=>none
theorem sl_str:SlR X rSlS:=by
 intro pins s σ H x v L M lo hi sl Q I U Y pl Z h;obtain⟨z,rfl,hz,q⟩:=h;obtain⟨t,rfl⟩:=U;refine⟨"str",_,F.slot_str_getitem.lookup,vL _ _ _,?_⟩;have O:L=partValue (tokOf L)/\lo=(tokOf L).map (·.1):=by cases pl<;>exact⟨rfl,rfl⟩
 have R:M=partValue (tokOf M)/\hi=(tokOf M).map (·.1):=by cases Z<;>exact⟨rfl,rfl⟩
 obtain⟨o,e1,e2,e3⟩:=Y;refine uU (n:=1) I.tk ?_;refine wpAny_getItem_str_slice (l:=tokOf L) (u:=tokOf M) (st:=none) ⟨o,e1,e2,by rw [e3,<-O.1,<-R.1];rfl⟩ rfl ?_
 refine post_val_or_str ⟨?_,fun t' k=> ?_⟩
 ·exact uK (Txt.slice_le z _ _) hz
 ·intro htk;exact⟨.str (Txt.slice z lo hi),H,I.tok k,⟨t',by rw [O.2,R.2];rfl⟩,q⟩
theorem op_isnotB:OpR X (compareOp .IsNot) (fun x y H Q=>∃c,y= .bl c/\Q (.bl (!decide (x= .bl c))) H):=by
 intro pins s σ H x y v u Q I L M h;obtain⟨c,rfl,q⟩:=h;cases M;have O:plainIs v (.bool c)=true:=by
  cases x<;>first
   |(cases L;rfl)
   |(obtain⟨t,rfl⟩:=L;rfl)
 refine wpAny_isNot_plain O (Qa I q ?_);cases x with
 |bl b=>cases L;cases b<;>cases c<;>rfl
 |non=>cases L;rfl
 |ref a=>cases L;rfl
 |ty n=>cases L;rfl
 |int i=>obtain⟨t,rfl⟩:=L;rfl
 |str i=>obtain⟨t,rfl⟩:=L;rfl
 |byt i=>obtain⟨t,rfl⟩:=L;rfl
 |flt i=>obtain⟨t,rfl⟩:=L;rfl
theorem qz {K:PySem.W.Frag}(M:X.K=K):Yh X (.builtin "isinstance") (fun xs H Q=>∃x T t b,xs= [x,.ty T]/\TyOf K H x t/\PySem.W.kitOne K t (.type T)=some b/\Q (.bl b) H):=by
 intro pins s σ H xs us Q I r h;obtain⟨x,T,t,b,rfl,ty,e,q⟩:=h;obtain⟨u,O,rfl,ru,L⟩:=vals2 r;cases L;subst M;exact uU (n:=1) I.tk (isinst_ok I ru ty e fun tk htk=>⟨.bl b,H,I.tok tk,rfl,q⟩)
theorem all_range:∀bs:List Bool,(List.range bs.length).all (fun i=>bs.getD i true)=bs.all id
 | []=>rfl
 |b::r=>by
  rw [uh,List.range_succ_eq_map,vy,vH,vy];have e:(List.range r.length).all ((fun i=>(b::r).getD i true)∘Nat.succ)=(List.range r.length).all fun i=>r.getD i true:=by
   congr 1
  rw [e,all_range r]
  rfl
theorem yg (Z:X.calm=true):Yh X (.builtin "all") (fun xs H Q=>∃(p:Addr) (bs:List Bool),xs= [.ref p]/\SqL X.K H p (bs.map V.bl)/\Q (.bl (bs.all id)) H):=by
 intro pins s σ H xs us Q I r h;obtain⟨p,bs,rfl,hp,q⟩:=h;obtain⟨u,rfl,ru⟩:=jN r;cases ru;obtain⟨its,rv,pl,hz⟩:=I.list hp;have R:p<s.heap.objs.size:=by obtain⟨o,n,e,_⟩:=pl;exact uo e
 refine uU (n:=1) I.tk ?_;refine call_all_walk (wpAny_pyIter_list pl.isList ?_);have up:∀b o,s.heap.get? b=some o->(s.heap.push {cls:= .type "list_iterator",data:= .fields #[.ref p,.int 0 0]}).get? b=some o:=fun b o e=>ub _ e;have hl:its.length=bs.length:=by have:=rv.length;simpa using this.symm
 refine⟨s.heap.objs.size,_,_,_,_,_,fun i=>bs.getD i true,rfl,Walks.list (show X.A.in1.handled=none from I.ok.hd Z) s.heap.objs.size p (uM R) its.toArray,⟨⟨_,uw _ rfl,rfl,rfl⟩,pl.isList.push _⟩,?_,?_⟩
 ·intro i v s' Q' E' hv hQ;have L:its[i]? =some v:=by simpa using hv
  have hi:i<its.length:=(List.getElem?_eq_some_iff.mp L).1;obtain⟨u,Y,e2⟩:=rv.get (i:=i) (x:= .bl (bs[i]'(by omega))) (by simp [show i<bs.length by omega])
  rw [L] at Y;cases Y;cases e2;have:bs.getD i true=bs[i]'(by omega):=by simp [List.getD,show i<bs.length by omega]
  have M:Q' (bs.getD i true) s':=hQ;rw [this] at M;exact vb M
 ·intro h' tk kk htk;have O:(List.range its.toArray.size).all (fun i=>bs.getD i true)=bs.all id:=by
   rw [ue,hl];exact all_range bs
  rw [O];have I1:=I.kept (t':=s.toks) (h':=s.heap.push {cls:= .type "list_iterator",data:= .fields #[.ref p,.int 0 0]}) up;have U:=I.fpOk (ui _) (I.hok.fresh (ui s.heap.objs.size));obtain⟨f0,f1,f2,f3,f4,f5⟩:=U;exact⟨.bl (bs.all id),H,I1.turned (it:=s.heap.objs.size) (fun b o hb e=>kk b o (by simpa using hb) e) f0 f1 f3 f4 f5,rfl,q⟩
end
section
variable {X:Cx}
theorem pe_gI {x:Str}{i:Int}{pos:Pos}(I:Gl X x)(hm:∃t,X.mg x=some (.int i t))(hd:(x==("__debug__":Str))=false:=by decide):PE X (.Name x pos) (tC (.int i)):=by
 obtain⟨t,hm⟩:=hm;exact pe_glob I hm ⟨t,rfl⟩ hd
theorem pe_gS {x z:Str}{pos:Pos}(I:Gl X x)(hm:∃t,X.mg x=some (.str z t))(hd:(x==("__debug__":Str))=false:=by decide):PE X (.Name x pos) (tC (.str z)):=by
 obtain⟨t,hm⟩:=hm;exact pe_glob I hm ⟨t,rfl⟩ hd
theorem pe_gR {x:Str}{a:Addr}{pos:Pos}(I:Gl X x)(hm:X.mg x=some (.ref a))(hd:(x==("__debug__":Str))=false:=by decide):PE X (.Name x pos) (tC (.ref a)):=pe_glob I hm rfl hd
end
theorem qb {H:Hp}{p:Addr}(h:H p=none)(o:HO):Same H (upd H p o):=fun b u q=>by rw [qy (qr q h)];exact q
def Kept (p:Addr)(H H':Hp):Prop:=∀b o,H b=some o->b≠p->H' b=some o
theorem Kept.refl (p:Addr)(H:Hp):Kept p H H:=fun _ _ h _=>h
theorem Kept.trans {p:Addr}{H H1 H2:Hp}(a:Kept p H H1)(b:Kept p H1 H2):Kept p H H2:=fun c o h n=>b c o (a c o h n) n
theorem Kept.upd (p:Addr)(H:Hp)(o:HO):Kept p H (L2.upd H p o):=fun b u h n=>by rw [qy n];exact h
theorem Kept.same {p:Addr}{H H1 H':Hp}(k:Kept p H1 H')(s:Same H H1)(n:H p=none):Same H H':=fun b o h=>k b o (s b o h) (qr h n)
theorem Jj {α:Type}{xs:List α}{i:Int}(I:0<=i)(h1:i<xs.length):∃c,atI xs i=some c:=by
 obtain⟨n,rfl⟩:∃n:Nat,i=(n:Int):=⟨i.toNat,by omega⟩
 have hn:n<xs.length:=by omega
 exact⟨xs[n],qQ (ul hn)⟩
noncomputable def clOf (cells:List (Str×Addr)):List (Str×NameKind)->List (Str×Addr)->List (Str×Addr)
 | [],cs=>cs
 |(n,k)::r,cs=>clOf cells r (if k== .free then(match cells.lookup n with|some a=>(n,a)::cs|none=>cs) else cs)
theorem Zj {cells:List (Str×Addr)}:∀{names:List (Str×NameKind)}{cs:List (Str×Addr)},(∀y c,cs.lookup y=some c->cells.lookup y=some c)->∀y c,(clOf cells names cs).lookup y=some c->cells.lookup y=some c
 | [],_,h=>h
 |(n,k)::r,cs,h=>by
  unfold clOf;refine Zj fun y c e=> ?_;split at e
  ·split at e
   ·rename_i a ha
    rw [v6] at e;split at e
    ·rename_i L
     have I:y=n:=beq_iff_eq.mp L;subst I;cases e;exact ha
    ·exact h y c e
   ·exact h y c e
  ·exact h y c e
theorem clOf_keep {cells:List (Str×Addr)}:∀{names:List (Str×NameKind)}{cs:List (Str×Addr)}{y:Str},(∃c,cs.lookup y=some c)->∃c,(clOf cells names cs).lookup y=some c
 | [],_,_,h=>h
 |(n,k)::r,cs,y,h=>by
  unfold clOf;refine clOf_keep ?_;split
  ·split
   ·rw [v6];split
    ·exact⟨_,rfl⟩
    ·exact h
   ·exact h
  ·exact h
theorem Zv {cells:List (Str×Addr)}:∀{names:List (Str×NameKind)}{cs:List (Str×Addr)}{y:Str},(y,NameKind.free)∈names->(∃c,cells.lookup y=some c)->∃c,(clOf cells names cs).lookup y=some c
 | [],_,_,h,_=>nomatch h
 |(n,k)::r,cs,y,h,I=>by
  unfold clOf;rcases List.mem_cons.mp h with e|h
  ·cases e;refine clOf_keep ?_;obtain⟨c,I⟩:=I;rw [if_pos (),I]
   exact⟨c,by simp [v6]⟩
  ·exact Zv h I
theorem JT {env:Env}:∀{names:List (Str×NameKind)}{cs:List (Str×Addr)},(∀y,(y,NameKind.free)∈names->∃c,env.cells.lookup y=some c)->
  (forIn names cs fun x r=>(do
   if x.2== .free then
    let a<-cellOf env x.1
    pure (ForInStep.yield ((x.1,a)::r))
   else pure (ForInStep.yield r):Sem (ForInStep (List (Str×Addr)))))=(pure (clOf env.cells names cs):Sem (List (Str×Addr)))
 | [],cs,_=>rfl
 |(n,k)::r,cs,h=>by
  rw [Ul];have M:∀y,(y,NameKind.free)∈r->∃c,env.cells.lookup y=some c:=fun y R=>h y (uq _ R);unfold clOf;by_cases I:(k==NameKind.free)=true
  ·have L:k= .free:=by simpa using I
   subst L;obtain⟨c,O⟩:=h n uE;have e:cellOf env n=pure c:=by unfold cellOf;rw [O]
   simp only [I,UL,e,O,pure_bind];exact JT M
  ·simp only [if_neg I,pure_bind];exact JT M
theorem X6 {scope:Scope}{env:Env}(h:∀y,(y,NameKind.free)∈scope.names->∃c,env.cells.lookup y=some c):closureFor scope env=pure (clOf env.cells scope.names []):=by
 unfold closureFor;have q:=JT (cs:= []) h;show(forIn scope.names ([]:List (Str×Addr)) (fun x r=>(do
   if x.2== .free then
    let a<-cellOf env x.1
    pure (ForInStep.yield ((x.1,a)::r))
   else pure (ForInStep.yield r):Sem (ForInStep (List (Str×Addr)))))>>=fun cs=>pure cs)=_
 rw [q,pure_bind]
theorem J7 {env:Env}(O:env.scope.kind= .function):∀{names:List (Str×NameKind)}{x:Str},names.lookup x=some .free->env.kindOf x=some .cell->
  (names.map fun(n,k)=>if(k==NameKind.free&&env.scope.kind== .function&&env.kindOf n==some .cell) then(n,NameKind.cell) else(n,k)).lookup x=some .cell
 | [],_,h,_=>by simp at h
 |(n,k)::r,x,h,hc=>by
  have R:= @J7 env O r x;show List.lookup x ((if(k==NameKind.free&&env.scope.kind== .function&&env.kindOf n==some .cell)=true then(n,NameKind.cell) else(n,k))::_)=_
  cases I:x==n with
  |true=>
   simp only [v6,I] at h;cases h;have M:x=n:=beq_iff_eq.mp I;subst M;rw [if_pos (by rw [O,hc];rfl)]
   simp [v6]
  |false=>
   simp only [v6,I] at h;by_cases L:(k==NameKind.free&&env.scope.kind== .function&&env.kindOf n==some .cell)=true
   ·rw [if_pos L];simp only [v6,I];exact R h hc
   ·rw [if_neg L];simp only [v6,I];exact R h hc
theorem XG {env:Env}:∀{names:List (Str×NameKind)}{x:Str},(∀y∈names,y.2≠ .cell)->
  ((names.map fun(n,k)=>if(k==NameKind.free&&env.scope.kind== .function&&env.kindOf n==some .cell) then(n,NameKind.cell) else(n,k)).lookup x=some .cell∨
   (names.map fun(n,k)=>if(k==NameKind.free&&env.scope.kind== .function&&env.kindOf n==some .cell) then(n,NameKind.cell) else(n,k)).lookup x=some .free)->(x,NameKind.free)∈names
 | [],_,_,h=>by simp at h
 |(n,k)::r,x,hn,h=>by
  have R:= @XG env r x (fun y U=>hn y (uq _ U));have g:List.lookup x ((if(k==NameKind.free&&env.scope.kind== .function&&env.kindOf n==some .cell)=true then(n,NameKind.cell) else(n,k))::(r.map fun(n,k)=>if(k==NameKind.free&&env.scope.kind== .function&&env.kindOf n==some .cell) then(n,NameKind.cell) else(n,k)))=some .cell∨
   List.lookup x ((if(k==NameKind.free&&env.scope.kind== .function&&env.kindOf n==some .cell)=true then(n,NameKind.cell) else(n,k))::(r.map fun(n,k)=>if(k==NameKind.free&&env.scope.kind== .function&&env.kindOf n==some .cell) then(n,NameKind.cell) else(n,k)))=some .free:=h
  have O:k≠ .cell:=hn (n,k) uE;by_cases M:(k==NameKind.free&&env.scope.kind== .function&&env.kindOf n==some .cell)=true
  ·rw [if_pos M] at g;have Y:k= .free:=by
    rw [um,um] at M
    simpa using M.1.1
   subst Y;cases L:x==n with
   |true=>
    have I:x=n:=beq_iff_eq.mp L;subst I;exact uE
   |false=>
    simp only [v6,L] at g;exact uq _ (R g)
  ·rw [if_neg M] at g;cases L:x==n with
   |true=>
    have I:x=n:=beq_iff_eq.mp L;subst I;simp only [v6,L] at g;rcases g with g|g
    ·exact absurd (uR g) O
    ·rw [show k=NameKind.free from uR g]
     exact uE
   |false=>
    simp only [v6,L] at g;exact uq _ (R g)
abbrev blk (X:Cx)(scope:Scope)(Nb:List Str)(cl:List (Str×Addr))(C:Addr)(s₀:Shared)(H₀:Hp)(fp:List Addr)(pn:List (Addr×Obj)):Cx:=
 {X with N:=Nb,s₀:=s₀,H₀:=H₀,env:=compEnvC scope cl C X.env,outer:=X.stack,ex:=fp,fn:=fun _=>false,pn:=pn,xe:=fun _ _=>False}
structure LcS (X:Cx)(scope:Scope)(Nb:List Str)(nt:Nat)(fr:List Nat):Prop where
 kind:scope.kind= .function
 cell:∀y∈scope.names,y.2≠ .cell
 names:∀y∈scope.names,y.2= .local->scope.names.lookup y.1=some .local
 free:∀y∈scope.names,y.2= .free->X.env.kindOf y.1=some .cell
 len:Nb.length=nt+fr.length
 fr:∀(k j:Nat) (x:Str),fr[k]? =some j->Nb[nt+k]? =some x->X.N[j]? =some x/\scope.names.lookup x=some .free
def sigB (nt:Nat)(fr:List Nat)(σ:St):St:=List.replicate nt none++fr.map fun j=>(σ[j]?).join
section
variable {pr:Program}{wo:World}{ar:Around}{RR:Result->Shared->Prop}{st:Shared}
abbrev nb (pr:Program)(wo:World)(ar:Around)(en:Env)(RR:Result->Shared->Prop):Value->Shared->Prop:=notedBy (model pr wo) ar en fun x t=>RR (.error x) t
abbrev tsts (en:Env)(cs:List Expr):Sem Bool:=forIn cs true fun c b=>if b=true then do let y<-isTrue c en (eval c en);pure (ForInStep.yield y) else pure (ForInStep.yield b)
theorem compLoop_by {U tg O:Expr}{cs:List Expr}{sc:Scope}{ps:Pos}{L M:Value}{I:Env}(J:Nat->Shared->Prop)
  (R:∀k t,J k t->wpAny (model pr wo) ar (pyNext L) (fun r Y=>match r with
   |none=>RR (.ok .next) Y
   |some v=>wpAny (model pr wo) ar (letOwnedTupleGo tg L v) (fun _ t2=>wpAny (model pr wo) ar (assign tg I v) (fun _ t3=>wpAny (model pr wo) ar (tsts I cs) (fun b Z=>
     if b=true then wpAny (model pr wo) ar (eval U I) (fun x t5=>wpAny (model pr wo) ar (call (.builtin "list.append") [M,x]) (fun _ t6=>∃m,m<k/\J m t6) (nb pr wo ar I RR) t5) (nb pr wo ar I RR) Z
     else∃m,m<k/\J m Z) (nb pr wo ar I RR) t3) (nb pr wo ar I RR) t2) (nb pr wo ar I RR) Y) (nb pr wo ar I RR) t)
  (k:Nat) (h0:J k st):codeAny (model pr wo) ar (.compLoop (.ListComp U [⟨tg,O,cs,0⟩] sc ps) 0 L M I) RR st:=by
 refine codeAny_loop rfl J (fun k t hJ=> ?_) k h0;show wpAny _ ar ((compTurn (.ListComp U [⟨tg,O,cs,0⟩] sc ps) 0 L M I).onRaise fun x=>do noteFrame x I;theTreesLotGoes x) _ _ t
 rw [compTurn_list];refine wpAny_noted (wpAny_bind (wpAny_standAt (wpAny_bind (thn (R k t hJ) fun r Y q1=> ?_))));cases r with
 |none=>exact uj q1
 |some v=>
  refine wpAny_bind (thn q1 fun _ t2 q2=>wpAny_bind (thn q2 fun _ t3 q3=>wpAny_bind (thn q3 fun b Z q4=> ?_)));cases b with
  |false=>exact uj ⟨rfl,q4⟩
  |true=>exact wpAny_bind (wpAny_bind (thn q4 fun x t5 q5=>wpAny_bind (thn q5 fun _ t6 q6=>uj (uj ⟨rfl,q6⟩))))
end
def PIfs (X:Cx)(ifs:List Expr)(t:TT):Prop:=
 ∀(pins:List (Addr×Obj)) (s:Shared) (σ:St) (H:Hp) (Q:Bool->Hp->Prop),Inv X pins σ H s->t σ H Q->wpAny (model X.prog X.w) X.A (tsts X.env ifs) (TP X pins σ Q) X.xe s
def tYes:TT:=fun _ H Q=>Q true H
theorem QG {X:Cx}:PIfs X [] tYes:=fun _ _ _ H _ I h=>wpAny_tests_nil ⟨H,I,h⟩
def lcGo (D:Addr)(J:It)(g:TG)(tc:TT)(te:TE)(σb:St)(H1:Hp)(Q:VK):Prop:=
 ∃(n:Nat) (W:Nat->St->List V->Hp->Prop),n<=sizeLine/\W 0 σb [] (upd H1 D (.lst []))/\
  (∀i σ ys H,i<n->W i σ ys H->H D=some (.lst ys)->ys.length<=i->J.go i H/\∀x H',J.yld i H x H'->g x σ H' fun σ2 H2=>tc σ2 H2 fun b H3=>
   if b=true then te σ2 H3 fun y H4=>H4 D=some (.lst ys)/\W (i+1) σ2 (ys++ [y]) (upd H4 D (.lst (ys++ [y]))) else H3 D=some (.lst ys)/\W (i+1) σ2 ys H3)/\
  ∀σ ys H,W n σ ys H->H D=some (.lst ys)->J.stop n H/\Q (.ref D) H
def tLC (nt:Nat)(fr:List Nat)(wi:TI)(g:TG)(tc:TT)(te:TE):TE:=fun σ H Q=>wi σ H fun J H1=>∀D,H1 D=none->lcGo D J g tc te (sigB nt fr σ) H1 Q
section
variable {X:Cx}{scope:Scope}{Nb:List Str}{nt:Nat}{fr:List Nat}
theorem inv_blk {pins:List (Addr×Obj)}{σ:St}{H:Hp}{s:Shared}{fp:List Addr}{C:Addr}{h4:Heap}{tk:Nat}(S:LcS X scope Nb nt fr)(I:Inv X pins σ H s)(hC:C=s.heap.objs.size)
  (ad:h4.Ns C fun _=>none) (M:∀b o,s.heap.get? b=some o->h4.get? b=some o) (hf:∀b∈fp,FpOk X pins H b) (ho:∀b∈fp,∃o,s.heap.get? b=some o) (ht:0<tk:=by((try dsimp only);first|assumption|exact Inv.tk (by assumption)|exact Nat.succ_pos _|exact Nat.lt_of_lt_of_le (Inv.tk (by assumption)) (by assumption)|exact Nat.add_pos_left (Inv.tk (by assumption)) _|omega)):
  Inv (blk X scope Nb (clOf X.env.cells scope.names []) C s H fp (X.pn++pins)) [] (sigB nt fr σ) H {s with heap:=h4,toks:=tk}:=by
 subst hC;have sub:∀y c,(clOf X.env.cells scope.names []).lookup y=some c->X.env.cells.lookup y=some c:=Zj fun y c e=>by simp at e
 have O:∀y,(y,NameKind.free)∈scope.names->X.env.kindOf y=some .cell:=fun y hy=>S.free _ hy rfl;have aa:∀b o,s.heap.get? b=some o->b≠s.heap.objs.size:=fun b o e z=>by rw [z] at e;exact absurd (uo e) (vP _)
 have L:∀b,b≠X.env.locals->b∉X.fs->b∉frs X.stack:=fun b h1 h2 z=>(List.mem_cons.mp (I.stkSub b z)).elim h1 h2;refine⟨⟨I.ok.mod,S.kind,I.ok.glob,I.ok.blt,ui _,fun x y c h1 h2=>I.ok.inj x y c (sub x c h1) (sub y c h2),fun x hx=> ?_,fun x c z=>(by cases z),I.ok.hd,I.ok.frames,.inl rfl,fun b Y=> ?_,I.bs,uK I.ok.bsz I.sz,fun b o e Y=> ?_,fun b Y=> ?_,I.stack,I.stkFree⟩,
  rfl,I.bare,Un.kept M,⟨_,ad,fun i x v e1 R e3=> ?_⟩,fun x c e=> ?_,I.hok.fresh (ui _),fun x c e=>I.freeC x c (sub x c e),fun p hp=> ?_,I.hok.kept M,?_,ht⟩
 ·have hm:=XG (env:=X.env) S.cell hx;exact Zv hm (I.ok.has x (.inl (O x hm)))
 ·obtain⟨o,e⟩:=ho b Y;exact⟨aa b o e,fun x c e'=>(hf b Y).2.2.2.2.1 x c (sub x c e')⟩
 ·rcases(hf b Y).2.2.2.1 with z|z
  ·exact I.ok.noex b o e z
  ·exact absurd (Nat.lt_of_lt_of_le (uo e) (uK I.ok.bsz z)) (vP _)
 ·exact L b (hf b Y).2.1 (hf b Y).2.2.1
 ·
  have hi:nt<=i:=by
   rcases Nat.lt_or_ge i nt with z|z
   ·unfold sigB at R;rw [vo (by simpa using z),List.getElem?_replicate] at R
    split at R<;>cases R
   ·exact z
  obtain⟨k,rfl⟩:∃k,i=nt+k:=⟨i-nt,by omega⟩
  unfold sigB at R;rw [uZ (by simp)] at R
  simp only [Uk,Nat.add_sub_cancel_left,uI] at R;cases ej:fr[k]? with
  |none=>rw [ej] at R;cases R
  |some j=>
   rw [ej] at R;have U:(σ[j]?).join=some v:=uR R;have ab:σ[j]? =some (some v):=by
    cases q:σ[j]? with
    |none=>rw [q] at U;cases U
    |some z=>rw [q] at U;exact congrArg some U
   obtain⟨n1,n2⟩:=S.fr k j x ej e1;have kx:X.env.kindOf x=some .cell:=O x (vE n2);obtain⟨m,hn,hl⟩:=I.loc;obtain⟨u,r,l⟩:=hl j x v n1 ab (.inr (.inl kx));refine⟨u,r,.inr ⟨.inl (J7 I.ok.kind n2 kx),?_⟩⟩;rcases l with⟨z,_⟩|⟨_,c,ec,Z⟩
   ·rw [kx] at z;cases z
   ·obtain⟨c',ac⟩:=Zv (cells:=X.env.cells) (cs:= []) (vE n2) ⟨c,ec⟩;have:=sub x c' ac;rw [ec] at this;cases this;obtain⟨o,q,d⟩:=Z;exact⟨c,ac,o,M c o q,d⟩
 ·obtain⟨v,o,q,d⟩:=I.cell x c (sub x c e);exact⟨v,o,M c o q,d⟩
 ·have ae:p∈X.pn++pins:=by simpa using hp
  obtain⟨e,n,ne,nf,d⟩:=I.pin p ae;exact⟨M _ _ e,n,aa _ _ e,L _ ne nf,d⟩
 ·show(sigB nt fr σ).length=Nb.length;unfold sigB;rw [S.len];simp
theorem lc_core {tg Y ah:Expr}{ak:List Expr}{wi:TI}{g:TG}{tc:TT}{te:TE}{pos:Pos}{R:Value->Addr->Result->Shared->Prop}{pins:List (Addr×Obj)}{s:Shared}{σ:St}{H:Hp}{Q:VK}(S:LcS X scope Nb nt fr)(al:X.calm=true)(hi:PI X tg Y wi)
  (hg:∀cl C s₀ H₀ fp pn,PG (blk X scope Nb cl C s₀ H₀ fp pn) tg g) (hc:∀cl C s₀ H₀ fp pn,PIfs (blk X scope Nb cl C s₀ H₀ fp pn) ak tc) (he:∀cl C s₀ H₀ fp pn,PE (blk X scope Nb cl C s₀ H₀ fp pn) ah te)
  (I:Inv X pins σ H s) (h:tLC nt fr wi g tc te σ H Q)
  (hR:∀(D C:Addr) (H':Hp) (s1:Shared) (m:Str->Option Value),Inv X pins σ H' s1->s1.heap.Ns C m->FpOk X pins H' C->Q (.ref D) H'->R (.ref D) C (.ok .next) s1):
  wpAny (model X.prog X.w) X.A (eval Y X.env) (fun x s₁=>wpAny (model X.prog X.w) X.A (pyIter x) (fun it s₂=>wpAny (model X.prog X.w) X.A (newList []) (fun au s₃=>
   wpAny (model X.prog X.w) X.A (newFunctionEnv scope X.env.globals (clOf X.env.cells scope.names []) [] X.env.qual none .none (some X.env)) (fun ae s₄=>
    codeAny (model X.prog X.w) X.A (.compStart (.ListComp ah [⟨tg,Y,ak,0⟩] scope pos) 0 it au {ae with scope:=relabel scope X.env}) (R au ae.locals) s₄) X.xe s₃) X.xe s₂) X.xe s₁) X.xe s:=by
 refine thn (hi pins s σ H _ I h) fun v s1 h1=>thn h1 fun aQ s2 h2=> ?_;obtain⟨it,fp,tn,J,H2,e,I2,T,am,f2,q2⟩:=h2;subst e;have av:H2 s2.heap.objs.size=none:=I2.hok.fresh (ui _);obtain⟨n,W,hn,w0,step,aD⟩:=q2 _ av;generalize hD:s2.heap.objs.size=D at*;refine vt ?_;rw [hD];have I3:Inv X pins σ (upd H2 D (.lst [])) {s2 with heap:=s2.heap.push {cls:= .type "list",data:= .seq ([]:List Value).toArray}}:=by
  have:=I2.lnew (ys:= []) (its:= []) (t':=s2.toks) .nil (uD _);rw [hD] at this;exact this
 refine wpAny_newFunctionEnv S.cell (by intro y hy;simp at hy) (fun h4 ab ao=> ?_) S.kind
 dsimp only at ab ao⊢;generalize aw:s2.heap.push {cls:= .type "list",dict:=none,data:= .seq ([]:List Value).toArray}=O at ab ao I3⊢;have hC:O.objs.size=D+1:=by rw [<-aw,vc,hD]
 have ac:∀b o,O.get? b=some o->h4.get? b=some o:=fun b o e=>ao.extBut b o (uM (uo e)) (ub _ e);have U:∀b o,s2.heap.get? b=some o->O.get? b=some o:=fun b o e=>by rw [<-aw];exact ub _ e
 have ap:∀b∈fp,∃o,s2.heap.get? b=some o:=fun b L=>let⟨o,e,_⟩:=T.obj _ _ am b L;⟨o,e⟩;have aE:∀b∈fp,b≠D:=fun b L z=>by
  obtain⟨o,e⟩:=ap b L;have q:=uo e;rw [z,hD] at q;exact vP _ q
 have f3:∀b∈fp,FpOk X pins (upd H2 D (.lst [])) b:=fun b L=>⟨by rw [qy (aE b L)];exact(f2 b L).1,(f2 b L).2⟩
 have IB:=inv_blk (C:=O.objs.size) (h4:=h4) (tk:=s2.toks+([]:List (Str×Value)).length) (fp:=fp) S I3 rfl ab ac f3 fun b L=>let⟨o,e⟩:=ap b L;⟨o,U b o e⟩;generalize M:blk X scope Nb (clOf X.env.cells scope.names []) O.objs.size {s2 with heap:=O} (upd H2 D (.lst [])) fp (X.pn++pins)=Z at IB
 have gB:=hg (clOf X.env.cells scope.names []) O.objs.size {s2 with heap:=O} (upd H2 D (.lst [])) fp (X.pn++pins)
 have cB:=hc (clOf X.env.cells scope.names []) O.objs.size {s2 with heap:=O} (upd H2 D (.lst [])) fp (X.pn++pins)
 have eB:=he (clOf X.env.cells scope.names []) O.objs.size {s2 with heap:=O} (upd H2 D (.lst [])) fp (X.pn++pins)
 rw [M] at gB cB eB;have xP:Z.prog=X.prog:=by rw [<-M]
 have xW:Z.w=X.w:=by rw [<-M]
 have xK:Z.K=X.K:=by rw [<-M]
 have xA:Z.A=X.A:=by rw [<-M]
 have xC:Z.calm=true:=by rw [<-M];exact al
 have xE:Z.env=compEnvC scope (clOf X.env.cells scope.names []) O.objs.size X.env:=by rw [<-M]
 have xX:Z.xe=fun _ _=>False:=by rw [<-M]
 have ad:∀{H':Hp},(∀b∈fp,H' b=none)->∀b∈fp,FpOk Z [] H' b:=fun hn b L=>by
  obtain⟨g1,g2,g3,g4,g5,g6⟩:=f2 b L;obtain⟨o,e⟩:=ap b L;subst M;refine⟨hn b L,fun z=> ?_,fun z=>(List.mem_cons.mp (I2.stkSub b z)).elim g2 g3,.inl L,fun x c ec=>g5 x c (Zj (fun y c e=>by simp at e) x c ec),fun p hp=>g6 p (by simpa using hp)⟩
  have aa:=uo (U b o e);have z':b=O.objs.size:=z;rw [z'] at aa;exact vP _ aa
 have af:∀s5:Shared,s5={s2 with heap:=h4,toks:=s2.toks+([]:List (Str×Value)).length}->
   codeAny (model X.prog X.w) X.A (.compLoop (.ListComp ah [⟨tg,Y,ak,0⟩] scope pos) 0 (.ref it) (.ref D) (compEnvC scope (clOf X.env.cells scope.names []) O.objs.size X.env))
    (R (.ref D) O.objs.size) s5:=by
  rintro s5 rfl;refine compLoop_by (fun k s'=>∃i σ' ys H',Inv Z [] σ' H' s'/\tn i s'.heap/\(∀b∈fp,H' b=none)/\H' D=some (.lst ys)/\i<=n/\k=n-i/\ys.length<=i/\W i σ' ys H') ?_ n
   ⟨0,sigB nt fr σ,[],_,IB,T.keep _ _ _ am fun b L o e=>ac b o (U b o e),fun b L=>(f3 b L).1,qg,uD _,rfl,ui _,w0⟩
  rintro k s' ⟨i,σ',ys,H',I',ax,ay,aA,aF,rfl,aG,w'⟩;rcases Nat.lt_or_ge i n with aa|aH
  ·obtain⟨go,next⟩:=step i σ' ys H' aa w' aA aG;have ti:=T.item Z xP xW xK xC i [] s' σ' H' (fun _ _=>False) I' (ad ay) ax go;rw [xA] at ti;refine vj ti (fun r s1 h1=> ?_) fun _ _ z=>z.elim;obtain⟨u,rfl,h1⟩:=h1;refine vj h1 (fun _ aB aI=> ?_) fun _ _ z=>z.elim;obtain⟨x,H5,I5,r5,y5,aq,aJ⟩:=aI;have aK:=I5.pinned (ad aJ) (T.obj _ _ aq);have ga:=gB _ aB σ' H5 x u _ aK r5 (next x H5 y5);rw [xP,xW,xA,xE,xX] at ga;refine vj ga (fun _ s3 aL=> ?_) fun _ _ z=>z.elim;obtain⟨σ6,H6,I6,q6⟩:=aL;have ca:=cB _ s3 σ6 H6 _ I6 q6;rw [xP,xW,xA,xE,xX] at ca;refine vj ca (fun ok s4 aM=> ?_) fun _ _ z=>z.elim;obtain⟨H7,I7,q7⟩:=aM;have ag:∀{σ8:St}{H8:Hp}{s8:Shared},Inv Z ([]++pinsAt fp aB.heap) σ8 H8 s8->Inv Z [] σ8 H8 s8/\tn (i+1) s8.heap/\∀b∈fp,H8 b=none:=fun{σ8 H8 s8} I8=>by
    refine⟨I8.unpinned,T.keep _ _ _ aq fun b L o e=>(I8.pin (b,o) (uS _ (uS _ (je L e)))).1,fun b L=> ?_⟩;obtain⟨o,e,d⟩:=T.obj _ _ aq b L;exact(I8.pin (b,o) (uS _ (uS _ (je L e)))).2.1
   cases ok with
   |false=>
    rw [if_neg ua] at q7⊢;obtain⟨b1,b2,b3⟩:=ag I7;exact⟨n-(i+1),by omega,i+1,σ6,ys,H7,b1,b2,b3,q7.1,aa,rfl,by omega,q7.2⟩
   |true=>
    rw [if_pos rfl] at q7⊢;have ea:=eB _ s4 σ6 H7 _ I7 q7;rw [xP,xW,xA,xE,xX] at ea;refine vj ea (fun y s5 h5=> ?_) fun _ _ z=>z.elim;obtain⟨yv,H8,I8,r8,aN,q8⟩:=h5;have ma:=YW (X:=Z) _ s5 σ6 H8 (.ref D) [yv] (.ref D) [y] (fun _ H9=>H9=upd H8 D (.lst (ys++ [yv]))) I8 rfl (.cons r8 .nil) ⟨D,ys,yv,rfl,rfl,aN,by omega,rfl⟩
    rw [xP,xW,xA,xX] at ma;refine vj ma (fun _ s6 h6=> ?_) fun _ _ z=>z.elim;obtain⟨_,H9,I9,_,rfl⟩:=h6;obtain⟨b1,b2,b3⟩:=ag I9;exact⟨n-(i+1),by omega,i+1,σ6,ys++ [yv],_,b1,b2,b3,qg,aa,rfl,by rw [ug,List.length_singleton];omega,q8⟩
  ·have aC:i=n:=Nat.le_antisymm aF aH;subst aC;obtain⟨stop,hq⟩:=aD σ' ys H' w' aA;have td:=T.done Z xP xW xK xC i [] s' σ' H' (fun _ _=>False) I' (ad ay) ax stop;rw [xA] at td;refine vj td (fun r s1 h1=> ?_) fun _ _ z=>z.elim;obtain⟨rfl,I6⟩:=h1;obtain⟨m,hm,_⟩:=id I6.loc;rw [xE] at hm;have aO:H' O.objs.size=none:=by have:=I6.free;rw [xE] at this;exact this
   have u6:Un (frs X.stack) fp (upd H2 D (.lst [])) H' O s1.heap:=by have:=I6.base;subst M;exact this
   have u2:Un (frs X.stack) fp H2 (upd H2 D (.lst [])) s2.heap O:=Un.laid (fun b o e=>U b o e) (by rw [hD];exact ui _) av
   have aP:s1.os=s2.os:=by have:=I6.os;subst M;exact this
   have hok:HOk X.prog X.w H' s1.heap:=by
    have:=I6.hok;subst M;exact this
   refine hR D O.objs.size H' s1 m (I2.call' (s':=s1) (ch:=fp) aP (u2.trans u6) hok I6.bare fun b L=> ?_) hm (I2.fpOk (by omega) aO) hq
   obtain⟨g1,g2,g3,g4,g5,g6⟩:=f2 b L;exact⟨g4,g2,g5,g6⟩
 exact codeAny_compStart_list (af _ rfl) (T.self _ 0 _ _ _ (T.keep _ _ _ am fun b L o e=>ac b o (U b o e)) (af _ rfl))
theorem jk {tg L U:Expr}{Y:List Expr}{wi:TI}{g:TG}{tc:TT}{te:TE}{pos:Pos}(S:LcS X scope Nb nt fr)(M:X.calm=true)(hi:PI X tg L wi)
  (hg:∀cl C s₀ H₀ fp pn,PG (blk X scope Nb cl C s₀ H₀ fp pn) tg g) (hc:∀cl C s₀ H₀ fp pn,PIfs (blk X scope Nb cl C s₀ H₀ fp pn) Y tc) (he:∀cl C s₀ H₀ fp pn,PE (blk X scope Nb cl C s₀ H₀ fp pn) U te)
  (hs:∀x,foldedSetIterable L X.env x=pure x:=by intro _;rfl):PE X (.ListComp U [⟨tg,L,Y,0⟩] scope pos) (tLC nt fr wi g tc te):=by
 intro pins s σ H Q I h;have O:closureFor scope X.env=pure (clOf X.env.cells scope.names []):=X6 fun y hy=>I.ok.has y (.inl (S.free _ hy rfl));rw [eval_ListComp];refine wpAny_comprehension_free (use:=none) rfl hs O S.kind S.names ?_;refine lc_core (R:=fun Z C=>compPost (model X.prog X.w) X.A X.xe none (EP X pins σ Q) Z C) S M hi hg hc he I h fun D C H' s1 m I1 hm fc q=> ?_;obtain⟨f0,f1,f2,f3,f4,f5⟩:=fc;exact⟨m,hm,fun h' aa=>⟨.ref D,H',I1.turned (t':=s1.toks) (it:=C) (fun b o hb e=>(aa.2 b hb).trans e) f0 f1 f3 f4 f5,rfl,q⟩⟩
theorem ps_setLC {i:Nat}{y:Str}{tg L M:Expr}{O:List Expr}{wi:TI}{g:TG}{tc:TT}{te:TE}{pos U py:Pos}(hN:X.N.Nodup)(aa:X.N[i]? =some y)(hy:Loc X.env.scope y)(S:LcS X scope Nb nt fr)(Y:X.calm=true)(hi:PI X tg L wi)
  (hg:∀cl C s₀ H₀ fp pn,PG (blk X scope Nb cl C s₀ H₀ fp pn) tg g) (hc:∀cl C s₀ H₀ fp pn,PIfs (blk X scope Nb cl C s₀ H₀ fp pn) O tc) (he:∀cl C s₀ H₀ fp pn,PE (blk X scope Nb cl C s₀ H₀ fp pn) M te)
  (hs:∀x,foldedSetIterable L X.env x=pure x:=by intro _;rfl) (ab:swapsWith (.ListComp M [⟨tg,L,O,0⟩] scope pos) (some (.Name y py)) U.line X.env=pure true:=by rfl)
  (hf:X.fn y=true∨X.env.scope.names.lookup y=some .local:=by first|exact .inl rfl|exact .inr rfl|assumption):
  PS X (.Assign [.Name y py] (.ListComp M [⟨tg,L,O,0⟩] scope pos) U) (tAsg (tLC nt fr wi g tc te) (Y3 i)):=by
 intro pins s σ H D I h;have Z:closureFor scope X.env=pure (clOf X.env.cells scope.names []):=X6 fun y hy=>I.ok.has y (.inl (S.free _ hy rfl));rw [exec_Assign_Name_used _ _ _ _ ab];refine wpAny_bind (wpAny_standAt (wpAny_bind ?_));show wpAny _ X.A (do let _<-comprehension (.ListComp M [⟨tg,L,O,0⟩] scope pos) scope X.env _ (newList []) false (eval L X.env) (some (assign (.Name y py) X.env))) _ _ s
 refine wpAny_bind (vj (wpAny_comprehension_free (use:=some (assign (.Name y py) X.env)) (Q:=fun _ s'=>SP X pins D .next s') rfl hs Z S.kind S.names ?_) (fun _ s' hq=>uj (uj hq)) fun _ _ e=>e);refine lc_core (R:=fun ac C=>compPost (model X.prog X.w) X.A X.xe (some (assign (.Name y py) X.env)) (fun _ s'=>SP X pins D .next s') ac C) S Y hi hg hc he I h fun A C H' s1 m I1 hm fc q=> ?_;obtain⟨f0,f1,f2,f3,f4,f5⟩:=fc;show wpAny _ X.A (assign (.Name y py) X.env (.ref A)) _ _ s1;refine wpAny_assign_Name (store_ok2 (v:= .ref A) I1 hN aa hy (show RelV (.ref A) (.ref A) from rfl) (fun s' I' ⟨a,sb,ha⟩=> ?_) hf)
 have ad:C≠a:=by
  rcases ha with rfl|ha
  ·exact f1
  ·exact fun z=>f4 y a ha z.symm
 refine⟨m,hm.sameBut sb ad,fun h' ae=>⟨_,H',I'.turned (t':=s'.toks) (it:=C) (fun b o hb e=>(ae.2 b hb).trans e) f0 f1 f3 f4 f5,q⟩⟩
end
theorem lcs0 {X:Cx}{sc:Scope}{x:Str}(I:sc.kind= .function:=by rfl)(L:∀y∈sc.names,y.2≠ .cell:=by decide+kernel)(hn:∀y∈sc.names,y.2= .local->sc.names.lookup y.1=some .local:=by decide+kernel)
  (M:∀y∈sc.names,y.2≠ .free:=by decide+kernel):LcS X sc [x] 1 []:=⟨I,L,hn,fun y O e=>absurd e (M y O),rfl,fun k j x h=>by simp at h⟩
theorem lcsN {X:Cx}{sc:Scope}{Nb:List Str}{nt:Nat}{fr:List Nat}(I:Scope)(L:List Str)(M:X.env.scope=I:=by rfl)(O:X.N=L:=by rfl)(R:sc.kind= .function:=by rfl)(U:∀y∈sc.names,y.2≠ .cell:=by decide+kernel)
  (hn:∀y∈sc.names,y.2= .local->sc.names.lookup y.1=some .local:=by decide+kernel) (Y:∀y∈sc.names,y.2= .free->I.names.lookup y.1=some .cell:=by decide+kernel) (Z:Nb.length=nt+fr.length:=by rfl)
  (hz:((fr.zip (Nb.drop nt)).all fun p=>decide (L[p.1]? =some p.2)&&decide (sc.names.lookup p.2=some .free))=true:=by decide+kernel):LcS X sc Nb nt fr:=by
 subst M O;refine⟨R,U,hn,Y,Z,fun k j x h1 h2=> ?_⟩;have hm:(fr.zip (Nb.drop nt))[k]? =some (j,x):=by
  rw [List.getElem?_zip_eq_some];exact⟨h1,by rw [List.getElem?_drop];exact h2⟩
 have q:=List.all_eq_true.mp hz _ (uT hm);rw [um] at q;exact⟨ud q.1,ud q.2⟩
theorem lc_str {z:Str}{D:Addr}{H1:Hp}{te:TE}{tl:St}{Q:VK}(f:Nat->V)(Y:z.length<=sizeLine)(O:H1 D=none)
  (L:∀(i c:Nat) H (R:VK),z.cps[i]? =some c->Same H1 H->R (f c) H->te (some (.str ⟨#[c]⟩)::tl) H R)
  (Z:∀H',Same H1 H'->H' D=some (.lst (z.cps.toList.map f))->Q (.ref D) H'):lcGo D (Its z) (Y3 0) tYes te (none::tl) H1 Q:=by
 refine⟨z.cps.size,fun i σ ys H=>(∃w,σ=w::tl)/\ys=(z.cps.toList.take i).map f/\Same H1 H,Y,⟨⟨none,rfl⟩,rfl,qb O _⟩,?_,?_⟩
 ·rintro i σ ys H hi ⟨⟨w,rfl⟩,rfl,I⟩ M hy;refine⟨hi,?_⟩;rintro x H' ⟨rfl,c,U,rfl⟩;dsimp only [Y3,tYes,List.set];rw [if_pos rfl];refine L i c H' _ U I ⟨M,⟨some (.str ⟨#[c]⟩),rfl⟩,?_,?_⟩
  ·rw [U3,show z.cps.toList[i]? =some c by simpa using U]
   simp
  ·intro b o e;rw [qy (qr e O)];exact I b o e
 ·rintro σ ys H ⟨_,rfl,I⟩ M;refine⟨rfl,Z H I ?_⟩;rw [M,vf (by simp)]
mutual
def Is (H:Hp):D->V->Prop
 | .non,v=>v= .non
 | .bl b,v=>v= .bl b
 | .int i,v=>v= .int i
 | .str z,v=>v= .str z/\z.length<=sizeLine
 | .lst,v=>∃a xs,v= .ref a/\H a=some (.lst xs)
 | .dct,v=>∃a kvs,v= .ref a/\H a=some (.dK kvs)
 | .tup xs,v=>∃a vs,v= .ref a/\H a=some (.tup vs)/\IsL H xs vs
def IsL (H:Hp):List D->List V->Prop
 | [],vs=>vs= []
 |x::xs,vs=>∃v r,vs=v::r/\Is H x v/\IsL H xs r
end
structure Tk (H H':Hp):Prop where
 tup:∀b xs,H b=some (.tup xs)->H' b=some (.tup xs)
 lst:∀b xs,H b=some (.lst xs)->∃ys,H' b=some (.lst ys)
 dct:∀b xs,H b=some (.dK xs)->∃ys,H' b=some (.dK ys)
theorem Same.tk {H H':Hp}(s:Same H H'):Tk H H':=⟨fun b xs e=>s b _ e,fun b xs e=>⟨xs,s b _ e⟩,fun b xs e=>⟨xs,s b _ e⟩⟩
theorem Tk.refl (H:Hp):Tk H H:=(Same.refl H).tk
theorem Tk.trans {H H1 H2:Hp}(a:Tk H H1)(b:Tk H1 H2):Tk H H2:=⟨fun c xs e=>b.tup c xs (a.tup c xs e),fun c xs e=>let⟨ys,e1⟩:=a.lst c xs e;b.lst c ys e1,fun c xs e=>let⟨ys,e1⟩:=a.dct c xs e;b.dct c ys e1⟩
theorem Kept.tk {p:Addr}{H H':Hp}{xs ys:List V}(k:Kept p H H')(h:H p=some (.lst xs))(h':H' p=some (.lst ys)):Tk H H':=by
 refine⟨fun b zs e=>k b _ e fun z=> ?_,fun b zs e=> ?_,fun b zs e=>⟨zs,k b _ e fun z=> ?_⟩⟩
 ·rw [z,h] at e;cases e
 ·by_cases z:b=p
  ·exact⟨ys,z▸h'⟩
  ·exact⟨zs,k b _ e z⟩
 ·rw [z,h] at e;cases e
mutual
theorem Is.mono {H H':Hp}(t:Tk H H'):∀{d:D}{v:V},Is H d v->Is H' d v
 | .non,_,h=>h
 | .bl _,_,h=>h
 | .int _,_,h=>h
 | .str _,_,h=>h
 | .lst,_,h=>by
  obtain⟨a,vs,e,ha⟩:=h;obtain⟨ys,q⟩:=t.lst a vs ha;exact⟨a,ys,e,q⟩
 | .dct,_,h=>by
  obtain⟨a,vs,e,ha⟩:=h;obtain⟨ys,q⟩:=t.dct a vs ha;exact⟨a,ys,e,q⟩
 | .tup xs,_,h=>by
  obtain⟨a,vs,e,ha,I⟩:=h;exact⟨a,vs,e,t.tup a vs ha,IsL.mono t I⟩
theorem IsL.mono {H H':Hp}(t:Tk H H'):∀{ds:List D}{vs:List V},IsL H ds vs->IsL H' ds vs
 | [],_,h=>h
 |_::_,_,h=>by
  obtain⟨v,r,e,h1,h2⟩:=h;exact⟨v,r,e,Is.mono t h1,IsL.mono t h2⟩
end
theorem IsL.length {H:Hp}:∀{ds:List D}{vs:List V},IsL H ds vs->vs.length=ds.length
 | [],_,h=>by cases(show _= [] from h);rfl
 |_::_,_,h=>by
  obtain⟨v,r,rfl,_,h2⟩:=h;rw [uh,uh,IsL.length h2]
theorem IsL.get {H:Hp}:∀{ds:List D}{vs:List V}{i:Nat}{d:D},IsL H ds vs->ds[i]? =some d->∃v,vs[i]? =some v/\Is H d v
 | [],_,_,_,_,e=>by simp at e
 |x::_,_,0,d,h,e=>by
  obtain⟨v,r,rfl,h1,_⟩:=h;have:x=d:=by simpa using e
  exact⟨v,rfl,this▸h1⟩
 |_::_,_,i+1,d,h,e=>by
  obtain⟨v,r,rfl,_,h2⟩:=h;obtain⟨u,I,L⟩:=IsL.get (i:=i) (d:=d) h2 (by simpa using e)
  exact⟨u,by simpa using I,L⟩
theorem IsL.append {H:Hp}:∀{ds es:List D}{vs us:List V},IsL H ds vs->IsL H es us->IsL H (ds++es) (vs++us)
 | [],_,_,_,h,k=>by cases(show _= [] from h);exact k
 |_::_,_,_,_,h,k=>by
  obtain⟨v,r,rfl,h1,h2⟩:=h;exact⟨v,_,rfl,h1,IsL.append h2 k⟩
theorem IsL.take {H:Hp}:∀{ds:List D}{vs:List V} (n:Nat),IsL H ds vs->IsL H (ds.take n) (vs.take n)
 |_,_,0,_=>by simp [IsL]
 | [],_,n+1,h=>by cases(show _= [] from h);simp [IsL]
 |_::_,_,n+1,h=>by
  obtain⟨v,r,rfl,h1,h2⟩:=h;exact⟨v,_,rfl,h1,IsL.take n h2⟩
theorem IsL.drop {H:Hp}:∀{ds:List D}{vs:List V} (n:Nat),IsL H ds vs->IsL H (ds.drop n) (vs.drop n)
 |_,_,0,h=>h
 | [],_,n+1,h=>by cases(show _= [] from h);simp [IsL]
 |_::_,_,n+1,h=>by
  obtain⟨v,r,rfl,h1,h2⟩:=h;exact IsL.drop n h2
theorem IsL.one {H:Hp}{d:D}{v:V}(h:Is H d v):IsL H [d] [v]:=⟨v,[],rfl,h,rfl⟩
theorem Is.new {H:Hp}{ds:List D}{vs:List V}{p:Addr}(h:IsL H ds vs)(I:H p=none):Is (upd H p (.tup vs)) (.tup ds) (.ref p):=
 ⟨p,vs,rfl,qg,h.mono (qb I _).tk⟩
def tyD:D->Value
 | .non=> .type "NoneType"
 | .bl _=> .type "bool"
 | .int _=> .type "int"
 | .str _=> .type "str"
 | .lst=> .type "list"
 | .dct=> .type "dict"
 | .tup _=> .type "tuple"
theorem Is.ty {K:PySem.W.Frag}{H:Hp}{d:D}{v:V}(h:Is H d v):TyOf K H v (tyD d):=by
 cases d with
 |non=>cases(show v= .non from h);exact .non
 |bl b=>cases(show v= .bl b from h);exact .bl b
 |int i=>cases(show v= .int i from h);exact .int i
 |str z=>
  obtain⟨rfl,_⟩:=h;exact .str z
 |lst=>
  obtain⟨a,vs,rfl,ha⟩:=h;exact .lst ha
 |dct=>
  obtain⟨a,vs,rfl,ha⟩:=h;exact .dK ha
 |tup xs=>
  obtain⟨a,vs,rfl,ha,_⟩:=h;exact .tup ha
end L2
namespace PySem.AwM
open PySem.AutoSeq1 PySem.MeetsSeq PySem.MeetsSeq3
theorem ZI (a:Int)(t:Tok)(l:Addr)(items:Array Value)(n:Nat)(dd:Option Addr)(sl:Array (Option Value)):
  Meets (Builtin.«int.__rmul__» ⟨[.int a t,.ref l],[]⟩) (fun _ R s=>s.heap.get? l=some {cls:= .type "tuple",dict:=dd,data:= .seq items n,slots:=sl}/\R (.ok (.ret Value.notImplemented)) s):=
 .of_wp fun prog w A R s h=>by obtain⟨I,g,d,tk,os⟩:=s;obtain⟨L,q⟩:=h;wp_walk;exact⟨_,rfl,q⟩
theorem tuple_mul (l:Addr)(items:Array Value)(n:Nat)(dd:Option Addr)(sl:Array (Option Value))(k:Int)(u:Tok)(h1:1<k)(h2:k<2^63)(Y:items.isEmpty=false)(hz:items.size*k.toNat<=sizeLine)
  (L:¬(decide (k< -(2^63))||decide (k≥2^63))=true) (M:¬(items.isEmpty||k==1)=true) (O:¬(decide (k<=0)||items.isEmpty)=true) (U:¬(items.size:Int)*k>(2^63-1)/8) (Z:¬Builtin.Tuple.tupleTooMany ((items.size:Int)*k)=true)
  (aa:((List.replicate k.toNat items).foldl (·++ ·) #[]).size<=sizeLine):
  Meets (Builtin.«tuple.__mul__» ⟨[.ref l,.int k u],[]⟩) (fun _ R s=>s.heap.get? l=some {cls:= .type "tuple",dict:=dd,data:= .seq items n,slots:=sl}/\
   R (.ok (.ret (Value.ref s.heap.objs.size))) {s with heap:=s.heap.push {cls:=Value.type "tuple",data:=Data.seq ((List.replicate k.toNat items).foldl (·++ ·) #[])},toks:=s.toks}):=
 .of_wp fun prog w A R s h=>by
  obtain⟨hp,g,d,tk,os⟩:=s;obtain⟨I,h⟩:=h;have f1:=idx_int;have f2:=sub_tuple_tuple;have f3:=sub_list_list;have f4:=sub_tuple_list;have f5:=sub_list_tuple;
  wp_walk using vR I
  rw [if_neg L]
  wp_walk using vR I
  rw [if_neg M]
  wp_walk using vR I
  rw [if_neg O]
  wp_walk using vR I
  rw [if_neg U]
  wp_walk using vR I
  exact⟨_,rfl,h⟩
end PySem.AwM
namespace L2
open PySem PySem.Spec PyProof.Rows
section
variable {X:Cx}
theorem op_gt_str:OpR X (compareOp .Gt) (fun x y H Q=>∃i j,x= .str i/\y= .str j/\Q (.bl (decide (j.cps.toList<i.cps.toList))) H):=by
 intro pins s σ H x y v u Q I L M h;obtain⟨i,j,rfl,rfl,q⟩:=h;obtain⟨t,rfl⟩:=L;obtain⟨t',rfl⟩:=M;exact PySem.P.gt_str (Qa I q rfl)
theorem call_sumL (O:X.calm=true):Yh X (.builtin "sum") (fun xs H Q=>∃(p:Addr) (ns:List Int),xs= [.ref p]/\SqL X.K H p (ns.map V.int)/\Q (.int ns.sum) H):=by
 intro pins s σ H xs us Q I r h;obtain⟨p,ns,rfl,R,q⟩:=h;obtain⟨u,rfl,ru⟩:=jN r;cases ru;obtain⟨its,rv,pl,hz⟩:=I.list R;have hi:IntsAre its ns:=zD rv;obtain⟨ys,M⟩:=hi.allInts.items;have L:s.heap.IsList p (intItems ys):=M▸pl.isList;refine uU (n:=1) I.tk (sum_intListG (I.ok.hd O) L fun h' tk t' U=> ?_);intro htk;have Y:ns=ys.toList.map (·.1):=by
  have q1:=hi.numsOf;rw [<-nums_intItems,<-M];exact(show numsOf its.toArray.toList=ns from q1).symm
 have Z:preSum (numAt ys) ys.size=ns.sum:=by
  rw [preSum_eq,vf (by simp),Y]
 rw [Z];exact⟨.int ns.sum,H,I.kept U,⟨t',rfl⟩,q⟩
theorem yk:fillsNumberSlot (.type "tuple") "mul"=pure false:=
 PySem.fillsNumberSlot_seq (id:="tuple.__mul__") (r:=some (.builtin "tuple.__rmul__")) F.slot_tuple_mul.lookup (by decide+kernel) F.slot_tuple_rmul.lookup (by decide+kernel)
theorem Y5:seqRepeat? (.type "tuple")=pure (some (.builtin "tuple.__mul__")):=by
 unfold seqRepeat?;rw [PySem.seqSlot_of (T:="tuple") (name:="__mul__") (id:="tuple.__mul__") F.slot_tuple_mul.lookup (by decide+kernel),PySem.seqSlot_of (T:="tuple") (name:="__rmul__") (id:="tuple.__rmul__") F.slot_tuple_rmul.lookup (by decide+kernel)];rfl
def rRepT (K:PySem.W.Frag):R2:=fun x y H Q=>∃l k xs,x= .ref l/\y= .int k/\SqT K H l xs/\xs≠ []/\1<k/\k<1000000/\xs.length*k.toNat<=sizeLine/\
 ∀p,H p=none->Q (.ref p) (upd H p (.tup (List.replicate k.toNat xs).flatten))
theorem op_repT:OpR X (binaryOp .Mult) (rRepT X.K):=by
 intro pins s σ H x y v u Q I rx ry h;obtain⟨l,k,xs,rfl,rfl,hH,aa,h1,h2,Y,q⟩:=h;cases rx;obtain⟨t,rfl⟩:=ry;obtain⟨its,r,p,z⟩:=I.tuple hH;obtain⟨⟨cls,dd,data,sl⟩,e,hc,n,hd⟩:=id p;simp only at hc hd;subst hc hd;have Z:=r.length;have M:List.foldl (fun x1 x2=>x1++x2) #[] (List.replicate k.toNat its.toArray)=(List.replicate k.toNat its).flatten.toArray:=by
  have:=foldl_rep its k.toNat [];rw [List.nil_append] at this;exact this
 have L:its.toArray.isEmpty=false:=by
  cases its with
  |nil=>exact absurd (uC Z) aa
  |cons a b=>rfl
 have ab:(k==1)=false:=beq_eq_false_iff_ne.mpr (by omega)
 have R:(its.toArray.size:Int)*k<=sizeLine:=by
  have e1:k=((k.toNat:Nat):Int):=by omega
  rw [e1,ue,<-Z]
  exact_mod_cast Y
 have O:(sizeLine:Int)<=(2^63-1)/8:=by decide
 have c1:¬(decide (k< -(2^63))||decide (k≥2^63))=true:=by
  rw [uc (by omega),uc (by omega)];exact ua
 have c2:¬(its.toArray.isEmpty||k==1)=true:=by rw [L,ab];exact ua
 have c3:¬(decide (k<=0)||its.toArray.isEmpty)=true:=by rw [uc (by omega),L];exact ua
 have c4:¬(its.toArray.size:Int)*k>(2^63-1)/8:=by
  intro w;exact absurd (Int.lt_of_lt_of_le w R) (Int.not_lt.mpr O)
 have c5:¬Builtin.Tuple.tupleTooMany ((its.toArray.size:Int)*k)=true:=by
  unfold Builtin.Tuple.tupleTooMany;intro w;have w':=ud w;omega
 have c6:((List.replicate k.toNat its.toArray).foldl (·++ ·) #[]).size<=sizeLine:=by
  rw [M,ue,len_rep,<-Z,Nat.mul_comm];exact Y
 refine Us (T:="tuple") (U:="int") (by decide) p.typeIs (fun s'=>UK s' k t) yk F.fills_int_mul Up Y5 F.slot_int_index.lookup
  (vh Up (UK s k t) F.entry_int_rmul (F.args_int_rmul_2 _ _) (AwM.ZI k t l its.toArray n dd sl)
   ⟨e,rfl,p.typeIs,vh F.slot_tuple_mul p.typeIs F.entry_tuple_mul (F.args_tuple_mul_2 _ _) (AwM.tuple_mul l its.toArray n dd sl k t h1 (by omega) L (by rw [ue,<-Z];exact Y) c1 c2 c3 c4 c5 c6) ⟨e,?_⟩⟩)
 rw [M];refine⟨.ref s.heap.objs.size,_,I.laid (t':=s.toks) (o:= .tup (List.replicate k.toNat xs).flatten) (fun b ob w=>ub _ w) (ui _) ?_,rfl,q _ (I.hok.fresh (ui _))⟩;exact⟨by rw [len_rep,Nat.mul_comm];exact Y,_,r.rep k.toNat,IsTup.new _ _⟩
def rEqNil (K:PySem.W.Frag):R2:=fun x y H Q=>∃a b xs,x= .ref a/\y= .ref b/\SqT K H a xs/\SqT K H b []/\Q (.bl xs.isEmpty) H
theorem op_eqNil (M:X.A.units<cLine):OpR X (compareOp .Eq) (rEqNil X.K):=by
 intro pins s σ H x y v u Q I O R h;obtain⟨a,b,xs,rfl,rfl,ha,U,q⟩:=h;cases O;cases R;obtain⟨its,r,p,_⟩:=I.tuple ha;obtain⟨L,Y,p2,_⟩:=I.tuple U;cases Y;refine SeqAt.eq_tupleAt (e:=fun _=>true) p p2 M (fun j _ h2=>absurd h2 (Nat.not_lt_zero _)) ⟨.bl xs.isEmpty,H,I,?_,q⟩;show Value.bool _=Value.bool _;cases r with
 |nil=>rfl
 |cons _ _=>simp
def rCatG (K:PySem.W.Frag):R2:=fun x y H Q=>∃a b xs ys,x= .ref a/\y= .ref b/\SqT K H a xs/\SqT K H b ys/\xs.length+ys.length<=sizeLine/\
 (xs= []->Q (.ref b) H)/\(xs≠ []->ys= []->Q (.ref a) H)/\(xs≠ []->ys≠ []->∀p,H p=none->Q (.ref p) (upd H p (.tup (xs++ys))))
theorem yL:OpR X (binaryOp .Add) (rCatG X.K):=by
 intro pins s σ H x y v u Q I M O h;obtain⟨a,b,xs,ys,rfl,rfl,ha,R,hz,q0,q1,q2⟩:=h;by_cases L:xs= []
 ·cases M;cases O;obtain⟨its,r1,p1,_⟩:=I.tuple ha;obtain⟨U,r2,p2,_⟩:=I.tuple R;subst L;cases r1;obtain⟨⟨c1,d1,t1,l1⟩,o1,Y,n1,Z⟩:=id p1;obtain⟨⟨c2,d2,t2,l2⟩,o2,e2,n2,f2⟩:=id p2;simp only at Y Z e2 f2;subst Y Z e2 f2;exact concat_meets p1.typeIs p2.typeIs noFill_tuple_add seq_tuple_add PySem.F.slot_tuple_add UD (Uy _ _) (tuple_addW0 a b _ _ n1 n2 d1 d2 l1 l2 rfl) ⟨o1,o2,⟨.ref b,H,I,rfl,q0 rfl⟩⟩
 ·exact op_catT pins s σ H (.ref a) (.ref b) v u Q I M O ⟨a,b,xs,ys,rfl,rfl,ha,R,L,hz,q1 L,q2 L⟩
end
theorem Tk.updL {H:Hp}{p:Addr}{xs ys:List V}(h:H p=some (.lst xs)):Tk H (upd H p (.lst ys)):=by
 refine⟨fun b zs e=> ?_,fun b zs e=> ?_,fun b zs e=>⟨zs,?_⟩⟩
 ·rw [qy (fun z=>by rw [z,h] at e;cases e)];exact e
 ·by_cases z:b=p
  ·exact⟨ys,by rw [z];exact qg⟩
  ·exact⟨zs,by rw [qy z];exact e⟩
 ·rw [qy (fun z=>by rw [z,h] at e;cases e)];exact e
theorem lc_data {J:It}{A:Addr}{H1:Hp}{te:TE}{tl:St}{Q:VK}{ds:List D}(f:D->D)(hn:ds.length<=sizeLine)(hA:H1 A=none)
  (Y:∀i H,Same H1 H->i<ds.length->J.go i H) (hy:∀i H x H' d,Same H1 H->ds[i]? =some d->J.yld i H x H'->H'=H/\Is H d x) (L:∀H,Same H1 H->J.stop ds.length H)
  (Z:∀d x H (R:VK),d∈ds->Same H1 H->Is H d x->(∀y H',Same H H'->Is H' (f d) y->R y H')->te (some x::tl) H R)
  (hQ:∀H' ys,Same H1 H'->H' A=some (.lst ys)->IsL H' (ds.map f) ys->Q (.ref A) H'):lcGo A J (Y3 0) tYes te (none::tl) H1 Q:=by
 refine⟨ds.length,fun i σ ys H=>(∃w,σ=w::tl)/\IsL H ((ds.take i).map f) ys/\Same H1 H,hn,⟨⟨none,rfl⟩,rfl,qb hA _⟩,?_,?_⟩
 ·rintro i σ ys H hi ⟨⟨w,rfl⟩,O,M⟩ I ab;refine⟨Y i H M hi,fun x H' y=> ?_⟩;obtain⟨rfl,hx⟩:=hy i H x H' ds[i] M (ul hi) y;dsimp only [Y3,tYes,List.set];rw [if_pos rfl];refine Z ds[i] x H' _ (vN hi) M hx fun y' H4 U aa=>⟨U _ _ I,⟨some x,rfl⟩,?_,fun b o e=> ?_⟩
  ·have t:Tk H4 (upd H4 A (.lst (ys++ [y']))):=Tk.updL (U _ _ I);have e:(ds.take (i+1)).map f=(ds.take i).map f++ [f ds[i]]:=by
    rw [U3,ul hi,uF]
    rfl
   rw [e];exact((O.mono U.tk).mono t).append (IsL.one (aa.mono t))
  ·rw [qy (qr e hA)];exact U b o (M b o e)
 ·rintro σ ys H ⟨_,O,M⟩ I;refine⟨L H M,hQ H ys M I ?_⟩;rw [vf (ui _)] at O;exact O
theorem Y7 {K:PySem.W.Frag}{a A:Addr}{H1:Hp}{te:TE}{tl:St}{Q:VK}{ds:List D}{vs:List V}(f:D->D)(ha:H1 a=some (.tup vs))(M:IsL H1 ds vs)(hn:ds.length<=sizeLine)(U:H1 A=none)
  (L:∀d x H (R:VK),d∈ds->Same H1 H->Is H d x->(∀y H',Same H H'->Is H' (f d) y->R y H')->te (some x::tl) H R)
  (Y:∀H' ys,Same H1 H'->H' A=some (.lst ys)->IsL H' (ds.map f) ys->Q (.ref A) H'):lcGo A (Itt K a) (Y3 0) tYes te (none::tl) H1 Q:=by
 have ln:=M.length;refine lc_data f hn U (fun i H I hi=>⟨vs,vs[i]'(by omega),SqT.of (I _ _ ha),ul _⟩) (fun i H x H' d I hd y=> ?_) (fun H I=>⟨vs,SqT.of (I _ _ ha),by omega⟩) L Y
 obtain⟨rfl,y⟩:=y;obtain⟨v,Z,e2⟩:=M.get hd;have O:=y vs (SqT.of (I _ _ ha));rw [Z] at O;cases O;exact⟨rfl,e2.mono I.tk⟩
theorem IsL.bls {H:Hp}:∀{bs:List Bool}{vs:List V},IsL H (bs.map D.bl) vs->vs=bs.map V.bl
 | [],_,h=>h
 |_::_,_,h=>by
  obtain⟨v,r,rfl,h1,h2⟩:=h;rw [IsL.bls h2,show v=_ from h1];rfl
theorem IsL.ints {H:Hp}:∀{ns:List Int}{vs:List V},IsL H (ns.map D.int) vs->vs=ns.map V.int
 | [],_,h=>h
 |_::_,_,h=>by
  obtain⟨v,r,rfl,h1,h2⟩:=h;rw [IsL.ints h2,show v=_ from h1];rfl
theorem QF {K:PySem.W.Frag}{H:Hp}{ds:List D}{v:V}{i:Int}{d:D}{Q:VK}(h:Is H (.tup ds) v)(hi:atI ds i=some d)(q:∀x,Is H d x->Q x H):rIxT K v (.int i) H Q:=by
 obtain⟨a,vs,rfl,ha,I⟩:=h;obtain⟨j,h1,h2,U,h4,Y⟩:=Zq hi;obtain⟨x,M,O⟩:=I.get h2;refine⟨a,vs,i,x,rfl,rfl,SqT.of ha,?_,q x O⟩;have R:=I.length;unfold atI at hi⊢;rw [R];cases e:ixN ds.length i with
 |none=>rw [e] at hi;cases hi
 |some k=>
  rw [e] at hi;obtain⟨L,_⟩:=ixN_seq e;rw [h1] at L;cases L;exact M
def inS (i j:Str):Bool:= !(Builtin.Str.occurrences j i 0 j.length 1).isEmpty
theorem for_str {z:Str}{g:TG}{tb:TS}{E:Ends}{σ:St}{H:Hp}(I:Nat->St->Hp->Prop)(U:I 0 σ H)
  (Y:∀(i c:Nat) σ H,z.cps[i]? =some c->I i σ H->g (.str ⟨#[c]⟩) σ H fun M H2=>tb {E with nx:=I (i+1),ct:=I (i+1),bk:=E.nx} M H2) (hd:∀σ H,I z.cps.size σ H->E.nx σ H):
  ∃W:Nat->Nat->St->Hp->Prop,(∃m,W 0 m σ H)/\∀i m σ H,W i m σ H->
   ((Its z).stop i H/\E.nx σ H)∨((Its z).go i H/\∃N:St->Hp->Prop,(∀O H',N O H'->∃R,R<m/\W (i+1) R O H')/\∀x H',(Its z).yld i H x H'->g x σ H' fun M H2=>tb {E with nx:=N,ct:=N,bk:=E.nx} M H2):=by
 refine⟨fun i m σ H=>m=z.cps.size-i/\i<=z.cps.size/\I i σ H,⟨z.cps.size,by simp,uD _,U⟩,?_⟩
 rintro i m σ H ⟨rfl,hi,p⟩;by_cases L:i<z.cps.size
 ·refine .inr ⟨L,I (i+1),fun O H' Z=>⟨z.cps.size-(i+1),by omega,rfl,L,Z⟩,fun x H' y=> ?_⟩
  obtain⟨rfl,c,hc,rfl⟩:=y;exact Y i c σ _ hc p
 ·have e:i=z.cps.size:=by omega
  exact .inl ⟨e,hd σ H (e▸p)⟩
theorem IsL.unsnoc {H:Hp}:∀{ds:List D}{d:D}{vs:List V},IsL H (ds++ [d]) vs->∃us x,vs=us++ [x]/\IsL H ds us/\Is H d x
 | [],d,_,h=>by
  obtain⟨v,r,rfl,h1,h2⟩:=h;cases(show r= [] from h2)
  exact⟨[],v,rfl,rfl,h1⟩
 |e::r,d,_,h=>by
  obtain⟨v,q,rfl,h1,h2⟩:=h;obtain⟨us,x,rfl,I,h4⟩:=IsL.unsnoc h2;exact⟨v::us,x,rfl,⟨v,us,rfl,h1,I⟩,h4⟩
def isStr:D->Bool
 | .str _=>true
 |_=>false
def jQ:D->Bool
 | .tup _=>true
 |_=>false
section
variable {K:PySem.W.Frag}
theorem kit_no {T U:String}{b:Bool}(h:(Value.type T==Value.type U)=false)(hm:PySem.W.kitMeta U=true)(I:(fastBuiltinMro T).map (·.contains (Value.type U))=some b):PySem.W.kitOne K (.type T) (.type U)=some b:=by
 unfold PySem.W.kitOne;rw [if_neg (by rw [h];exact ua)]
 show(if PySem.W.kitMeta U=true then PySem.W.subIn K (.type T) (.type U) else none)=some b
 rw [if_pos hm];exact I
theorem Zo {T:String}(h:(Value.type T==Value.type T)=true):PySem.W.kitOne K (.type T) (.type T)=some true:=by
 unfold PySem.W.kitOne;rw [if_pos h]
theorem Qv (d:D):PySem.W.kitOne K (tyD d) (.type "str")=some (isStr d):=by
 cases d with
 |str z=>exact Zo (by decide)
 |_=>exact kit_no (b:=false) (by decide) (by decide+kernel) (by decide+kernel)
theorem yl (d:D):PySem.W.kitOne K (tyD d) (.type "tuple")=some (jQ d):=by
 cases d with
 |tup z=>exact Zo (by decide)
 |_=>exact kit_no (b:=false) (by decide) (by decide+kernel) (by decide+kernel)
end
theorem zT (c k:Nat):decide ((⟨#[c]⟩:Str).cps.toList< [k])=decide (c<k):=by
 rw [uB];simp [List.cons_lt_cons_iff]
theorem one_gt (c k:Nat):decide ([k]<(⟨#[c]⟩:Str).cps.toList)=decide (k<c):=by
 rw [uB];simp [List.cons_lt_cons_iff]
def iTupB (K:PySem.W.Frag)(tl:TE):TI:=fun σ H R=>tl σ H fun x H1=>∃a xs,x= .ref a/\SqT K H1 a xs/\(xs.length<=sizeLine->R (Itt K a) H1)
theorem Ym {X:Cx}{tg l:Expr}{tl:TE}(M:PE X l tl):PI X tg l (iTupB X.K tl):=by
 intro pins s σ H R I h;refine thn (M pins s σ H _ I h) fun v s1 ⟨x,H1,L,O,q1⟩=> ?_;obtain⟨a,xs,e,U,q⟩:=q1;subst e;cases O;obtain⟨its,rv,p,Y⟩:=L.tuple U;refine vU (show s1.heap.IsTuple a its.toArray from p) ?_
 refine⟨s1.heap.objs.size,[s1.heap.objs.size],_,_,H1,rfl,L.kept (t':=s1.toks) fun b o e=>ub _ e,zi a _,⟨_,uw _ rfl,rfl,rfl⟩,fun b Z=> ?_,q Y⟩;have e:b=s1.heap.objs.size:=by simpa using Z
 subst e;exact L.fpOk (ui _) (L.hok.fresh (ui _))
theorem call_lenB {X:Cx}:Yh X (.builtin "len") (fun xs H Q=>∃p ys,xs= [.ref p]/\(SqL X.K H p ys∨SqT X.K H p ys)/\(ys.length<=sizeLine->Q (.int ys.length) H)):=by
 intro pins s σ H xs us Q I r h;obtain⟨p,ys,e,L,q⟩:=h;have M:ys.length<=sizeLine:=by
  rcases L with L|L
  ·exact(I.list L).choose_spec.2.2
  ·exact(I.tuple L).choose_spec.2.2
 exact qE pins s σ H xs us Q I r ⟨p,ys,e,L,q M⟩
theorem xU {xs:List V}{n:Nat}(h:n<=xs.length):cutV xs none (some (n:Int))=xs.take n:=by
 unfold cutV;rw [HT.sIx_none,HT.sIx_nat,Nat.min_eq_left h,Uc,Nat.sub_zero]
theorem YS {xs:List V}{n:Nat}(h:n<=xs.length):cutV xs (some (n:Int)) none=xs.drop n:=by
 unfold cutV;rw [HT.sIx_none,HT.sIx_nat,Nat.min_eq_left h];exact vf (by rw [uQ];exact ui _)
end L2
namespace L2
open PySem PySem.Spec PyProof.Rows Builtin Builtin.Str
noncomputable def posL (c:Nat):List Nat->Nat->List Nat
 | [],_=> []
 |a::r,i=>if a=c then i::posL c r (i+1) else posL c r (i+1)
noncomputable def cutL (c:Nat):Nat->List Nat->List (List Nat)
 |0,L=> [L]
 |_+1,[]=> [[]]
 |n+1,a::r=>if a=c then []::cutL c n r else match cutL c (n+1) r with
  |p::q=>(a::p)::q
  | []=> [[a]]
def ofL (l:List Nat):Str:=⟨l.toArray⟩
theorem QO (z:Str):ofL z.cps.toList=z:=by
 unfold ofL;simp
theorem JS (c:Nat):∀(n:Nat) (L:List Nat),∃p q,cutL c n L=p::q
 |0,L=>⟨L,[],by simp [cutL]⟩
 |n+1,[]=>⟨[],[],by simp [cutL]⟩
 |n+1,a::r=>by
  by_cases h:a=c
  ·exact⟨[],cutL c n r,by simp [cutL,h]⟩
  ·obtain⟨p,q,e⟩:=JS c (n+1) r;exact⟨a::p,q,by simp [cutL,h,e]⟩
theorem ZJ {c:Nat}{n:Nat}{r:List Nat}:∀{p:List Nat},c∉p->cutL c (n+1) (p++c::r)=p::cutL c n r
 | [],_=>by simp [cutL]
 |a::p,h=>by
  have h1:a≠c:=fun e=>h (by simp [e])
  have I:=ZJ (n:=n) (r:=r) (p:=p) (fun z=>h (uq _ z));show cutL c (n+1) (a::(p++c::r))=_;rw [cutL,if_neg h1,I]
theorem Xq {c:Nat}{n:Nat}:∀{p:List Nat},c∉p->cutL c n p= [p]
 | [],_=>by cases n<;>simp [cutL]
 |a::p,h=>by
  have h1:a≠c:=fun e=>h (by simp [e])
  cases n with
  |zero=>simp [cutL]
  |succ n=>
   have I:=Xq (n:=n+1) (p:=p) (fun z=>h (uq _ z));rw [cutL,if_neg h1,I]
theorem subAt_sign (x:Str)(c i:Nat)(h:i<x.length):subAt x ⟨#[c]⟩ i=decide (x.cps.toList[i]? =some c):=by
 rw [StrLaws.subAt_eq];have I:i<x.cps.toList.length:=by simpa [Str.length] using h
 have L:(x.cps.toList.drop i).take 1= [x.cps.toList[i]]:=by
  rw [vd I]
  rfl
 show((x.cps.toList.drop i).take 1== [c])=_;rw [L,ul I];generalize x.cps.toList[i]=k;by_cases e:k=c
 ·simp [e]
 ·simp [e]
theorem occ_go (x:Str)(c n:Nat):∀(m k:Nat) (I:Array Nat) (free:Nat),k+m=x.length+1->free<=k->
  (forIn (List.range' k m) (I,free) (StrLaws.occBody x ⟨#[c]⟩ x.length n)).run.fst.toList=I.toList++(posL c (x.cps.toList.drop k) k).take (n-I.size)
 |0,k,I,free,hk,_=>by
  have Z:x.cps.toList.length<=k:=by simp [Str.length] at hk⊢;omega
  rw [Ud Z];simp [posL]
 |m+1,k,I,free,hk,hf=>by
  rw [List.range'_succ,Ul];unfold StrLaws.occBody;have Y:x.cps.toList.length=x.length:=by simp [Str.length]
  by_cases O:k<x.length
  ·have R:k<x.cps.toList.length:=by omega
   rw [vd R];have U:=subAt_sign x c k O;rw [ul R] at U;by_cases e:x.cps.toList[k]=c
   ·have L:subAt x ⟨#[c]⟩ k=true:=by rw [U,e];simp
    by_cases hn:I.size<n
    ·rw [if_pos ⟨⟨⟨hn,hf⟩,by show k+1<=x.length;omega⟩,L⟩]
     have M:=occ_go x c n m (k+1) (I.push k) (k+1) (by omega) (ui _)
     show(forIn (List.range' (k+1) m) (I.push k,k+1) (StrLaws.occBody x ⟨#[c]⟩ x.length n)).run.fst.toList=_;rw [M];rw [posL,if_pos e,Array.toList_push,Array.size_push];obtain⟨j,hj⟩:∃j,n-I.size=j+1:=⟨n-I.size-1,by omega⟩
     rw [hj,List.take_succ_cons,show n-(I.size+1)=j by omega]
     simp
    ·rw [if_neg (fun z=>hn z.1.1.1)];have M:=occ_go x c n m (k+1) I free (by omega) (by omega)
     show(forIn (List.range' (k+1) m) (I,free) (StrLaws.occBody x ⟨#[c]⟩ x.length n)).run.fst.toList=_;rw [M,show n-I.size=0 by omega]
     simp
   ·have L:¬subAt x ⟨#[c]⟩ k=true:=by rw [U];intro z;exact e (uR (ud z))
    rw [if_neg (fun z=>L z.2)];have M:=occ_go x c n m (k+1) I free (by omega) (by omega)
    show(forIn (List.range' (k+1) m) (I,free) (StrLaws.occBody x ⟨#[c]⟩ x.length n)).run.fst.toList=_;rw [M,posL,if_neg e]
  ·rw [if_neg (fun z=>O (by have:=z.1.2;show k<x.length;have h1:k+1<=x.length:=this;omega))]
   have M:=occ_go x c n m (k+1) I free (by omega) (by omega)
   show(forIn (List.range' (k+1) m) (I,free) (StrLaws.occBody x ⟨#[c]⟩ x.length n)).run.fst.toList=_;rw [M];have h1:x.cps.toList.length<=k:=by omega
   rw [Ud h1,Ud (by omega)]
   simp [posL]
theorem Ze (x:Str)(c n:Nat):occurrences x ⟨#[c]⟩ 0 x.length n=(posL c x.cps.toList 0).take n:=by
 rw [StrLaws.occ_eq];have:=occ_go x c n (x.length+1) 0 #[] 0 (by omega) (ui _)
 simpa using this
def att (p:List Nat):List (List Nat)->List (List Nat)
 |q::r=>(p++q)::r
 | []=> [p]
theorem parts_go (x:Str)(c:Nat):∀(m n a b:Nat),a<=b->b+m=x.length->
  StrLaws.partsFrom x 1 a ((posL c (x.cps.toList.drop b) b).take n)=(att ((x.cps.toList.drop a).take (b-a)) (cutL c n (x.cps.toList.drop b))).map ofL:=by
 have U:x.cps.toList.length=x.length:=by simp [Str.length]
 have I:∀i j,strSub x i j=ofL ((x.cps.toList.drop i).take (j-i)):=fun i j=>by
  rw [<-QO (strSub x i j),StrLaws.strSub_toList]
 intro m
 induction m with
 |zero=>
  intro n a b O Z;have h1:x.cps.toList.drop b= []:=Ud (by omega)
  rw [h1];have e1:cutL c n []= [[]]:=by cases n<;>simp [cutL]
  rw [e1];simp only [posL,List.take_nil,StrLaws.partsFrom,att,vQ,uk,vi];rw [I,show x.length-a=b-a by omega]
 |succ m Y=>
  intro n a b O Z;have L:b<x.cps.toList.length:=by omega
  rw [vd L];cases n with
  |zero=>
   simp only [List.take_zero,StrLaws.partsFrom,cutL,att,uk,vi];rw [I,<-vd L];have M:(x.cps.toList.drop a).take (x.length-a)=x.cps.toList.drop a:=vf (by rw [uQ];omega)
   have R:x.cps.toList.drop b=(x.cps.toList.drop a).drop (b-a):=by rw [List.drop_drop];congr 1;omega
   rw [M,R,List.take_append_drop]
  |succ n=>
   by_cases e:x.cps.toList[b]=c
   ·rw [posL,if_pos e,List.take_succ_cons,StrLaws.partsFrom,cutL,if_pos e];rw [Y n (b+1) (b+1) (ui _) (by omega)]
    obtain⟨p,q,M⟩:=JS c n (x.cps.toList.drop (b+1));rw [M,I];simp [att]
   ·rw [posL,if_neg e,Y (n+1) a (b+1) (by omega) (by omega),cutL,if_neg e]
    obtain⟨p,q,M⟩:=JS c (n+1) (x.cps.toList.drop (b+1));rw [M];simp only [att,uk]
    congr 2
    have R:b+1-a=(b-a)+1:=by omega
    have hx:b-a<(x.cps.toList.drop a).length:=by rw [uQ];omega
    rw [R,List.take_succ_eq_append_getElem hx];simp [show a+(b-a)=b by omega]
theorem parts_cut (x:Str)(c n:Nat):partsBetween x (occurrences x ⟨#[c]⟩ 0 x.length n) 1=(cutL c n x.cps.toList).map ofL:=by
 rw [StrLaws.partsBetween_eq,Ze];have:=parts_go x c x.length n 0 0 (ui _) (by omega)
 rw [Uc] at this;rw [this];obtain⟨p,q,e⟩:=JS c n x.cps.toList;rw [e];simp [att]
theorem Xj {c:Nat}:∀{L:List Nat}{i:Nat},posL c L i= []->c∉L
 | [],_,_=>by simp
 |a::r,i,h=>by
  by_cases e:a=c
  ·simp [posL,e] at h
  ·rw [posL,if_neg e] at h;have:=Xj h;simp [Uq e,this]
theorem Jq:∀(l:List Str) (k:Nat),Vals (l.map V.str) (strsFrom k l)
 | [],_=> .nil
 |x::r,k=> .cons ⟨k,rfl⟩ (Jq r (k+1))
theorem XJ:∀{l:List Str}{us:List Value},Vals (l.map V.str) us->∃ps:List (Str×Tok),us=strValues ps/\ps.map (·.1)=l
 | [],_,.nil=>⟨[],rfl,rfl⟩
 |x::r,_,.cons ⟨t,e⟩ h=>by
  obtain⟨ps,I,L⟩:=XJ h;subst e;exact⟨(x,t)::ps,by rw [I];rfl,by rw [uk,L]⟩
theorem zO (z:Str):¬Builtin.Str.strKind z<Builtin.Str.strKind " ":=by
 have h1:Builtin.Str.strKind " "=1:=by decide+kernel
 rw [h1];unfold Builtin.Str.strKind;split
 ·omega
 ·split<;>omega
theorem Zi (c:Nat):∀(n:Nat) (L:List Nat),(cutL c n L).length<=L.length+1
 |0,L=>by simp [cutL]
 |n+1,[]=>by simp [cutL]
 |n+1,a::r=>by
  by_cases h:a=c
  ·have:=Zi c n r;simp [cutL,h];omega
  ·have:=Zi c (n+1) r;obtain⟨p,q,e⟩:=JS c (n+1) r;rw [e] at this;simp only [cutL,if_neg h,e];simp at this⊢;omega
def spl (n:Nat)(z:Str):List Str:=(cutL 32 n z.cps.toList).map ofL
theorem spl_len (n:Nat)(z:Str):(spl n z).length<=z.length+1:=by
 unfold spl;rw [uf];have:=Zi 32 n z.cps.toList
 simpa [Str.length] using this
theorem ji:(" ":Str)=⟨#[32]⟩:=by decide+kernel
theorem spl_one {z:Str}{n:Nat}(hn:z.length<=n∨z.length<1∨True)(h:(occurrences z " " 0 z.length n).isEmpty=true)(I:n≠0):spl n z= [z]:=by
 rw [ji,Ze,List.isEmpty_iff] at h;have h1:posL 32 z.cps.toList 0= []:=by
  cases e:posL 32 z.cps.toList 0 with
  |nil=>rfl
  |cons a r=>
   rw [e] at h;obtain⟨k,rfl⟩:∃k,n=k+1:=⟨n-1,by omega⟩
   simp at h
 unfold spl;rw [Xq (Xj h1)];simp [QO]
section
variable {X:Cx}
def rSplit:V->List V->Hp->VK->Prop:=fun x vs H Q=>∃z,x= .str z/\vs= [.str " "]/\z.length<=1000/\∀p,H p=none->Q (.ref p) (upd H p (.lst ((spl (z.length+1) z).map V.str)))
theorem ja {pins:List (Addr×Obj)}{σ:St}{H:Hp}{s:Shared}{Q:VK}{ys:List V}{its:List Value}{t':Nat}(I:Inv X pins σ H s)(L:Vals ys its)(M:ys.length<=sizeLine)(q:∀p,H p=none->Q (.ref p) (upd H p (.lst ys)))(O:0<t':=by((try dsimp only);first|assumption|exact Inv.tk (by assumption)|exact Nat.succ_pos _|exact Nat.lt_of_lt_of_le (Inv.tk (by assumption)) (by assumption)|exact Nat.add_pos_left (Inv.tk (by assumption)) _|omega)):
  EP X pins σ Q (.ref s.heap.objs.size) {s with heap:=s.heap.push {cls:= .type "list",data:= .seq its.toArray},toks:=t'}:=
 ⟨.ref s.heap.objs.size,_,I.lnew L M,rfl,q _ I.fresh⟩
theorem zY:MtM X "str.split" rSplit:=by
 intro pins s σ H x vs v us Q I O rv h;obtain⟨z,rfl,rfl,R,q⟩:=h;obtain⟨t,rfl⟩:=O;obtain⟨u,rfl,t',rfl⟩:=rv.one;have L:z.length<=sizeLine:=by rw [uL];omega
 have one:spl (z.length+1) z= [z]->∀(T:Nat),0<T->EP X pins σ Q (.ref s.heap.objs.size) {s with heap:=s.heap.push {cls:= .type "list",data:= .seq [Value.str z t].toArray},toks:=T}:=fun e T U=>by
  rw [e] at q;exact ja (ys:= [V.str z]) I (.cons (show RelV (V.str z) _ from⟨t,rfl⟩) .nil) (by show 1<=sizeLine;decide) q
 cases h1:(decide (z.length<(" ":Str).length)||decide (Builtin.Str.strKind z<Builtin.Str.strKind " ")) with
 |true=>
  refine vh vB (vL _ _ _) vv (vW _ _) (meets_str_split_cannot_occur z " " t t' h1) ?_;have h2:z.length<1:=by
   rw [Bool.or_eq_true] at h1;rcases h1 with h1|h1
   ·exact ud h1
   ·exact absurd (ud h1) (zO z)
  refine one ?_ s.toks I.tk;have e:z.cps.toList= []:=uC (by simpa [Str.length] using h2)
  unfold spl;rw [e,cutL];rw [<-QO z,e]
  rfl
 |false=>
  cases M:(occurrences z " " 0 z.length (z.length+1)).isEmpty with
  |true=>
   refine vh vB (vL _ _ _) vv (vW _ _) (meets_str_split_not_found z " " t t' h1 (by decide) M) ?_
   exact one (spl_one (.inr (.inr trivial)) M (by omega)) s.toks I.tk
  |false=>
   have Y:=spl_len (z.length+1) z;have e:partsBetween z (occurrences z " " 0 z.length (z.length+1)) (" ":Str).length=spl (z.length+1) z:=by
    rw [ji];exact parts_cut z 32 (z.length+1)
   refine vh vB (vL _ _ _) vv (vW _ _) (meets_str_split_sep z " " t t' h1 (by decide) M L (by rw [e,uL];omega)) ?_
   rw [e];exact ja I (Jq _ _) (by rw [uf,uL];omega) q
theorem jG (x y:Str)(k:Int)(t u v:Tok)(M:(decide (k< -(2^63:Int))||decide (k≥2^63))=false)(h1:(decide (x.length<y.length)||decide (Builtin.Str.strKind x<Builtin.Str.strKind y))=false)(O:(y.length==0)=false)
  (U:(occurrences x y 0 x.length (limitOf x k)).isEmpty=true):Meets («str.split» ⟨[.str x t,.str y u,.int k v],[]⟩) (listOfItself x t):=by
 obtain⟨L,I⟩:=split_sep_max_tree x y k t u v M;refine .of_wp fun prog w A R s h=> ?_;rw [I,h1,O,U];show wpAny _ _ (do rule "str.split.same-object";ret (<-newList [.str x t])) _ _ s
 exact wpAny_bind (Uz (wpAny_bind (wpAny_newList (uj ⟨_,rfl,h⟩) (by show 1<=sizeLine;decide))))
theorem YD (x y:Str)(k:Int)(t u v:Tok)(M:(decide (k< -(2^63:Int))||decide (k≥2^63))=false)(h1:(decide (x.length<y.length)||decide (Builtin.Str.strKind x<Builtin.Str.strKind y))=true):
  Meets («str.split» ⟨[.str x t,.str y u,.int k v],[]⟩) (listOfItself x t):=by
 obtain⟨L,I⟩:=split_sep_max_tree x y k t u v M;refine .of_wp fun prog w A R s h=> ?_;rw [I,h1];show wpAny _ _ (do rule "str.split.sep-cannot-occur";ret (<-newList [.str x t])) _ _ s
 exact wpAny_bind (Uz (wpAny_bind (wpAny_newList (uj ⟨_,rfl,h⟩) (by show 1<=sizeLine;decide))))
def rSplitN:V->List V->Hp->VK->Prop:=fun x vs H Q=>∃(z:Str) (n:Nat),x= .str z/\vs= [.str " ",.int (n:Int)]/\z.length<=1000/\0<n/\n<=1000/\∀p,H p=none->Q (.ref p) (upd H p (.lst ((spl n z).map V.str)))
theorem mt_splitN:MtM X "str.split" rSplitN:=by
 intro pins s σ H x vs v us Q I Y rv h;obtain⟨z,n,rfl,rfl,hz,Z,hn,q⟩:=h;obtain⟨t,rfl⟩:=Y;obtain⟨u,u',rfl,⟨t',rfl⟩,⟨M,rfl⟩⟩:=vals2 rv;have R:z.length<=sizeLine:=by rw [uL];omega
 have U:(decide ((n:Int)< -(2^63:Int))||decide ((n:Int)≥2^63))=false:=by
  rw [uc (by omega),uc (by omega)];rfl
 have L:limitOf z (n:Int)=n:=by
  unfold limitOf;rw [if_neg (by omega)]
  omega
 have one:spl n z= [z]->∀(T:Nat),0<T->EP X pins σ Q (.ref s.heap.objs.size) {s with heap:=s.heap.push {cls:= .type "list",data:= .seq [Value.str z t].toArray},toks:=T}:=fun e T hT=>by
  rw [e] at q;exact ja (ys:= [V.str z]) I (.cons (show RelV (V.str z) _ from⟨t,rfl⟩) .nil) (by show 1<=sizeLine;decide) q
 cases h1:(decide (z.length<(" ":Str).length)||decide (Builtin.Str.strKind z<Builtin.Str.strKind " ")) with
 |true=>
  refine vh vB (vL _ _ _) vv (F.args_str_split_3 _ _ _) (YD z " " n t t' M U h1) ?_;have h2:z.length<1:=by
   rw [Bool.or_eq_true] at h1;rcases h1 with h1|h1
   ·exact ud h1
   ·exact absurd (ud h1) (zO z)
  refine one ?_ s.toks I.tk;have e:z.cps.toList= []:=uC (by simpa [Str.length] using h2)
  obtain⟨j,rfl⟩:∃j,n=j+1:=⟨n-1,by omega⟩
  unfold spl;rw [e,cutL];rw [<-QO z,e]
  rfl
 |false=>
  cases O:(occurrences z " " 0 z.length (limitOf z (n:Int))).isEmpty with
  |true=>
   refine vh vB (vL _ _ _) vv (F.args_str_split_3 _ _ _) (jG z " " n t t' M U h1 (by decide) O) ?_
   rw [L] at O;exact one (spl_one (.inr (.inr trivial)) O (by omega)) s.toks I.tk
  |false=>
   have hl:=spl_len n z;have e:partsBetween z (occurrences z " " 0 z.length (limitOf z (n:Int))) (" ":Str).length=spl n z:=by
    rw [ji,L];exact parts_cut z 32 n
   refine vh vB (vL _ _ _) vv (F.args_str_split_3 _ _ _) (meets_str_split_sep_max z " " n t t' M U h1 (by decide) O R (by rw [e,uL];omega)) ?_
   rw [e];exact ja I (Jq _ _) (by rw [uf,uL];omega) q
def xm (c:Nat):List Nat->List Nat
 | []=> []
 |a::r=>if a=c then [] else a::xm c r
theorem headL_pos {c:Nat}:∀{L:List Nat}{i j:Nat}{r:List Nat},posL c L i=j::r->i<=j/\xm c L=L.take (j-i)
 | [],_,_,_,h=>by simp [posL] at h
 |a::q,i,j,r,h=>by
  by_cases e:a=c
  ·rw [posL,if_pos e] at h;cases h;exact⟨ui _,by simp [xm,e]⟩
  ·rw [posL,if_neg e] at h;obtain⟨h1,h2⟩:=headL_pos h;refine⟨by omega,?_⟩
   rw [xm,if_neg e,h2,show j-i=(j-(i+1))+1 by omega,List.take_succ_cons]
theorem JC {c:Nat}:∀{L:List Nat},c∉L->xm c L=L
 | [],_=>rfl
 |a::r,h=>by
  have h1:a≠c:=fun e=>h (by simp [e])
  rw [xm,if_neg h1,JC fun z=>h (uq _ z)]
def hd (z:Str):Str:=ofL (xm 32 z.cps.toList)
theorem fin_tup {pins:List (Addr×Obj)}{σ:St}{H:Hp}{s:Shared}{Q:VK}{ys:List V}{its:List Value}{t':Nat}(I:Inv X pins σ H s)(L:Vals ys its)(M:ys.length<=sizeLine)(q:∀p,H p=none->Q (.ref p) (upd H p (.tup ys)))(O:0<t':=by((try dsimp only);first|assumption|exact Inv.tk (by assumption)|exact Nat.succ_pos _|exact Nat.lt_of_lt_of_le (Inv.tk (by assumption)) (by assumption)|exact Nat.add_pos_left (Inv.tk (by assumption)) _|omega)):
  EP X pins σ Q (.ref s.heap.objs.size) {s with heap:=s.heap.push {cls:= .type "tuple",data:= .seq its.toArray},toks:=t'}:=
 ⟨.ref s.heap.objs.size,_,I.laid (o:= .tup ys) (fun _ _ w=>ub _ w) (ui _) ⟨M,its,L,IsTup.new _ _⟩,rfl,q _ I.fresh⟩
def rPart:V->List V->Hp->VK->Prop:=fun x vs H Q=>∃z,x= .str z/\vs= [.str " "]/\z.length<=1000/\∀p a b,H p=none->Q (.ref p) (upd H p (.tup [.str (hd z),.str a,.str b]))
theorem mt_part:MtM X "str.partition" rPart:=by
 intro pins s σ H x vs v us Q I U rv h;obtain⟨z,rfl,rfl,Y,q⟩:=h;obtain⟨t,rfl⟩:=U;obtain⟨u,rfl,t',rfl⟩:=rv.one;have M:z.length<=sizeLine:=by rw [uL];omega
 refine vh F.slot_str_partition (vL _ _ _) F.entry_str_partition (F.args_str_partition_2 _ _) (meets_str_partition z " " t t' (by decide) M) ?_
 cases L:occurrences z " " 0 z.length 1 with
 |nil=>
  have O:hd z=z:=by
   rw [ji,Ze] at L;have h1:posL 32 z.cps.toList 0= []:=by
    cases e:posL 32 z.cps.toList 0 with
    |nil=>rfl
    |cons a r=>rw [e] at L;simp at L
   unfold hd;rw [JC (Xj h1),QO]
  refine fin_tup (ys:= [.str (hd z),.str Str.empty,.str Str.empty]) (t':=s.toks+1) I (.cons (show RelV (V.str (hd z)) _ from⟨t,by rw [O]⟩) (.cons (show RelV (V.str _) _ from⟨_,rfl⟩) (.cons (show RelV (V.str _) _ from⟨_,rfl⟩) .nil))) (by show 3<=sizeLine;decide) fun p R=>q p _ _ R
 |cons i r=>
  have O:hd z=strSub z 0 i:=by
   rw [ji,Ze] at L;cases e:posL 32 z.cps.toList 0 with
   |nil=>rw [e] at L;simp at L
   |cons a Z=>
    rw [e] at L;have:a=i:=by simp at L;exact L.1
    subst this;obtain⟨_,h2⟩:=headL_pos e;unfold hd;rw [h2,<-QO (strSub z 0 a),StrLaws.strSub_toList,Uc]
  refine fin_tup (ys:= [.str (hd z),.str " ",.str _]) (t':=s.toks+1+1) I (.cons (show RelV (V.str (hd z)) _ from⟨s.toks,by rw [O]⟩) (.cons (show RelV (V.str _) _ from⟨t',rfl⟩) (.cons (show RelV (V.str _) _ from⟨s.toks+1,rfl⟩) .nil))) (by show 3<=sizeLine;decide) fun p R=>q p _ _ R
def rJoin (K:PySem.W.Frag):V->List V->Hp->VK->Prop:=fun x vs H Q=>∃(sep:Str) (p:Addr) (l:List Str),x= .str sep/\vs= [.ref p]/\SqL K H p (l.map V.str)/\(l.map (·.length)).sum+l.length*sep.length<=1000000/\Q (.str (Str.join sep l)) H
theorem ZB:MtM X "str.join" (rJoin X.K):=by
 intro pins s σ H x vs v us Q I U rv h;obtain⟨O,p,l,rfl,rfl,Y,Z,q⟩:=h;obtain⟨t,rfl⟩:=U;obtain⟨u,rfl,ru⟩:=rv.one;cases ru;obtain⟨its,r,pl,hl⟩:=I.list Y;obtain⟨ps,rfl,R⟩:=XJ r;have M:tooLong ((ps.map (·.1)).toArray.foldl (·+ ·.length+O.length) 0)=false:=by
  rw [R];have:=StrLaws.joinTotal O l;rw [this];unfold tooLong;refine uc ?_;rw [uL];omega
 refine vh F.slot_str_join (vL _ _ _) F.entry_str_join (F.args_str_join_2 _ _) (meets_str_join_list O t p ps M) ⟨pl.isList,?_⟩;have L:(glued O (ps.map (·.1))).length<=sizeLine:=joinFit_length M
 match ps,R,L with
 | [],R,L=>
  subst R;exact⟨L,.str _,H,I.tok _,⟨_,rfl⟩,q⟩
 | [a],R,_=>
  subst R;exact⟨.str _,H,I,⟨a.2,rfl⟩,q⟩
 |a::b::r,R,L=>
  subst R;refine⟨L,.str _,H,I.tok _,⟨_,rfl⟩,?_⟩;rw [StrLaws.glued_eq_join];exact q
theorem call_intS:Yh X (.type "int") (fun xs H Q=>∃z n,xs= [.str z]/\PySem.intText? z=some n/\z.length<=640/\Q (.int n) H):=by
 intro pins s σ H xs us Q I r h;obtain⟨z,n,rfl,hn,L,q⟩:=h;obtain⟨u,rfl,t,rfl⟩:=jN r;exact PySem.W.KIN.call_text hn L ⟨.int n,H,I.tok _,⟨_,rfl⟩,q⟩
end
end L2
namespace L2
open PySem PySem.Spec PyProof.Rows
theorem Inv.turnedL {X:Cx}{pins:List (Addr×Obj)}{σ:St}{H:Hp}{s:Shared}{h':Heap}{t':Nat}{fp:List Addr}(I:Inv X pins σ H s)(k:∀b o,b∉fp->s.heap.get? b=some o->h'.get? b=some o)(M:∀b∈fp,FpOk X pins H b)(Z:0<t':=by((try dsimp only);first|assumption|exact Inv.tk (by assumption)|exact Nat.succ_pos _|exact Nat.lt_of_lt_of_le (Inv.tk (by assumption)) (by assumption)|exact Nat.add_pos_left (Inv.tk (by assumption)) _|omega)):Inv X pins σ H {s with heap:=h',toks:=t'}:=by
 have O:∀b u,H b=some u->b∉fp:=fun b u e z=>by
  have:=(M b z).1;rw [this] at e;cases e
 have nL:X.env.locals∉fp:=fun z=>(M _ z).2.1 rfl;refine I.step (g':=s.gens) (d':=s.drawn) (ch:=fp) (fun b R=>⟨(M b R).2.2.2.1,(M b R).2.1,(M b R).2.2.2.2.1,(M b R).2.2.2.2.2⟩) (fun b o _ _ L e _=>k b o L e) (fun b o _ _ L e _=>⟨o.slots,k b o L e⟩) (fun _ _ _ _ n=>n)
  (fun b o L e=>⟨o,k b o L e⟩) (fun _ _ e=>e) (fun _ _ _ e=>e) (fun b ps e=>⟨#[],by rw [e];simp⟩) (fun m hm=> ?_) (fun b u e=> ?_) I.bare
 ·obtain⟨o,es,U,Y,r⟩:=hm;exact⟨o,es,U,k _ o nL Y,r⟩
 ·refine(I.hok b u e).stay (fun c v L q=>k c v ?_ q) (fun _ q=>q) fun _ _ q=>q;rcases L with z|z
  ·rw [z];exact O b u e
  ·exact O c _ z
theorem Inv.handed {X:Cx}{pins:List (Addr×Obj)}{σ:St}{H:Hp}{s:Shared}{h':Heap}{t':Nat}{fp:List Addr}{ys:List V}{its:List Value}(I:Inv X pins σ H s)(O:∀b∈fp,FpOk X pins H b)(R:∀b∈fp,b<s.heap.objs.size)(U:Vals ys its)(Y:ys.length<=sizeLine)
  (hn:h'.get? s.heap.objs.size=some {cls:= .type "tuple",data:= .seq its.toArray}) (hs:h'.objs.size=s.heap.objs.size+1) (k:∀b o,b∉fp->s.heap.get? b=some o->h'.get? b=some o) (ht:0<t':=by((try dsimp only);first|assumption|exact Inv.tk (by assumption)|exact Nat.succ_pos _|exact Nat.lt_of_lt_of_le (Inv.tk (by assumption)) (by assumption)|exact Nat.add_pos_left (Inv.tk (by assumption)) _|omega)):
  Inv X pins σ (upd H s.heap.objs.size (.tup ys)) {s with heap:=h',toks:=t'}/\∀b∈fp,FpOk X pins (upd H s.heap.objs.size (.tup ys)) b:=by
 have Z:Inv X pins σ (upd H s.heap.objs.size (.tup ys)) {s with heap:=s.heap.push {cls:= .type "tuple",data:= .seq its.toArray},toks:=t'}:=
  I.laid (o:= .tup ys) (fun _ _ w=>ub _ w) (ui _) ⟨Y,its,U,IsTup.new _ _⟩
 have L:∀b∈fp,FpOk X pins (upd H s.heap.objs.size (.tup ys)) b:=fun b M=>by
  obtain⟨f0,f1,f2,f3,f4,f5⟩:=O b M;have:=R b M;exact⟨by rw [qy (uM this)];exact f0,f1,f2,f3,f4,f5⟩
 refine⟨Z.turnedL (h':=h') (t':=t') (fun b o M e=> ?_) L,L⟩;rcases Heap.get?_push_cases (show(s.heap.push {cls:= .type "tuple",data:= .seq its.toArray}).get? b=some o from e) with⟨rfl,rfl⟩|e'
 ·exact hn
 ·exact k b o M e'
def Itz (K:PySem.W.Frag)(a b:Addr):It:=
 ⟨fun i H=>∃xs ys x y,SqT K H a xs/\SqL K H b ys/\xs[i]? =some x/\ys[i]? =some y,
  fun i H v H'=>∃p x y,v= .ref p/\H p=none/\H'=upd H p (.tup [x,y])/\(∀xs,SqT K H a xs->xs[i]? =some x)/\∀ys,SqL K H b ys->ys[i]? =some y,
  fun i H=>∃xs,SqT K H a xs/\xs.length=i⟩
def Ite (K:PySem.W.Frag)(a:Addr)(c:Int):It:=
 ⟨fun i H=>∃xs x,SqT K H a xs/\xs[i]? =some x,fun i H v H'=>∃p x,v= .ref p/\H p=none/\H'=upd H p (.tup [.int (c+i),x])/\∀xs,SqT K H a xs->xs[i]? =some x,fun i H=>∃xs,SqT K H a xs/\xs.length=i⟩
def tnZ (a b z p r i j:Addr)(k:Nat)(h:Heap):Prop:=
 IsZip h z p r .none/\IsPair h p (.ref i) (.ref j)/\(∃u v,IsPair h r u v)/\h.IsTupleIter i a k/\h.IsListIter j b k/\AwZ.Apt z p r i j a b
theorem turn_zip {P:Program}{w:World}{K:PySem.W.Frag}{Z:List Expr}{c:Nat}{tp:Pos}(a b z p r i j:Addr):Turn P w K (.Tuple Z c tp) (Itz K a b) [z,p,r,i,j] z (tnZ a b z p r i j) where
 mem:=by simp
 obj:=fun k h st x Y=>by
  obtain⟨h1,h2,⟨u,v,O⟩,⟨o4,e4,c4,d4⟩,⟨o5,e5,c5,d5⟩,D⟩:=st;simp only [uA,uG,v9] at Y;rcases Y with rfl|rfl|rfl|rfl|rfl
  ·exact⟨_,h1,fun v z=>by cases z⟩
  ·exact⟨_,h2,fun v z=>by cases z⟩
  ·exact⟨_,O,fun v z=>by cases z⟩
  ·exact⟨o4,e4,fun v z=>by rw [d4] at z;cases z⟩
  ·exact⟨o5,e5,fun v z=>by rw [d5] at z;cases z⟩
 keep:=fun k h h' st R=>by
  obtain⟨h1,h2,⟨u,v,O⟩,⟨o4,e4,r4⟩,⟨o5,e5,r5⟩,D⟩:=st;exact⟨R z (by simp) _ h1,R p (by simp) _ h2,⟨u,v,R r (by simp) _ O⟩,⟨o4,R i (by simp) _ e4,r4⟩,⟨o5,R j (by simp) _ e5,r5⟩,D⟩
 item:=by
  intro X hP hw hK L k pins s σ H E I hf st hg;subst hP hw hK;obtain⟨xs,ys,x,y,ha,hb,Y,hy⟩:=hg;obtain⟨its,ra,pa,za⟩:=I.tuple ha;obtain⟨ag,rb,pb,zb⟩:=I.list hb;obtain⟨ux,ac,ad⟩:=ra.get Y;obtain⟨uy,ae,af⟩:=rb.get hy;obtain⟨h1,h2,⟨u,v,O⟩,h4,h5,D⟩:=st;have l1:=uo h1;have l2:=uo h2;have l3:=uo O;have l4:i<s.heap.objs.size:=by obtain⟨o,e,_⟩:=h4;exact uo e
  have l5:j<s.heap.objs.size:=by obtain⟨o,e,_⟩:=h5;exact uo e
  refine AwZ.zip_go D h1 h2 O h4 h5 (show s.heap.IsTuple a its.toArray from pa) pb.isList (x:=ux) (y:=uy) (by simpa using ac) (by simpa using ae) fun h' g1 g2 g3 g4 g5 g6 g7=> ?_
  have g8:IsPair h' p (.ref i) (.ref j):=g7 _ _ D.pz D.pr D.pi D.pj h2;obtain⟨I1,aa⟩:=I.handed (t':=s.toks) (ys:= [x,y]) (its:= [ux,uy]) hf (fun c L=>by
   simp only [uA,uG,v9] at L;rcases L with rfl|rfl|rfl|rfl|rfl<;>assumption) (.cons ad (.cons af .nil)) (by show 2<=sizeLine;decide) g5 g6 (fun c o L e=>by
    simp only [uA,uG,v9,not_or] at L;exact g7 c o L.1 L.2.2.1 L.2.2.2.1 L.2.2.2.2 e)
  refine⟨_,rfl,wpAny_letOwnedTupleGo_zip (s:={s with heap:=h'}) g1 fun ab z2 s2=> ?_⟩
  have M:∀c o,c≠z->h'.get? c=some o->ab.get? c=some o:=fun c o L e=>s2.extBut c o L e;refine⟨.ref s.heap.objs.size,_,I1.turnedL (fp:= [z]) (h':=ab) (t':=s.toks) (fun c o L e=>M c o (by simpa using L) e) (fun c L=>aa c (by simp at L;simp [L])),rfl,⟨_,x,y,rfl,I.fresh,rfl,fun zs U=> ?_,fun zs U=> ?_⟩,⟨z2,M _ _ D.pz g8,⟨_,_,M _ _ D.rz g2⟩,?_,?_,D⟩,fun c L=>(aa c L).1⟩
  ·rw [I.tuple_inj U ha];exact Y
  ·rw [I.list_inj U hb];exact hy
  ·obtain⟨o,e,q⟩:=g3;exact⟨o,M _ _ D.iz e,q⟩
  ·obtain⟨o,e,q⟩:=g4;exact⟨o,M _ _ D.jz e,q⟩
 done:=by
  intro X hP hw hK L k pins s σ H E I hf st hg;subst hP hw hK;obtain⟨xs,ha,Y⟩:=hg;obtain⟨its,ra,pa,za⟩:=I.tuple ha;have hl:=ra.length;obtain⟨h1,h2,⟨u,v,O⟩,h4,h5,D⟩:=st;refine AwZ.zip_stop (A:=X.A) (I.ok.hd L) D h1 h2 h4 (show s.heap.IsTuple a its.toArray from pa) (by simp;omega) fun h' R=>⟨rfl,?_⟩
  exact I.turnedL (t':=s.toks) (fun c o L e=>by
   simp only [uA,uG,v9,not_or] at L;exact R c o L.1 L.2.2.1 L.2.2.2.1 L.2.2.2.2 e) hf
 self:=fun _ _ _ _ _ st h=>wpAny_pyIter_zip st.1 h
section
variable {X:Cx}
theorem apt_mk {n a b:Nat}(ha:a<n)(I:b<n):AwZ.Apt (n+4) (n+2) (n+3) n (n+1) a b:=by
 constructor<;>exact(show _≠((_:Nat)) by omega)
theorem five_le {n x:Nat}(h:x=n+4∨x=n+2∨x=n+3∨x=n∨x=n+1):n<=x:=by omega
theorem two_le {n m x:Nat}(hm:m=n+1)(h:x=m∨x=n):n<=x:=by omega
def iZip (K:PySem.W.Frag)(ta:TA):TI:=fun σ H R=>ta σ H fun vs H1=>∃a b xs ys,vs= [.ref a,.ref b]/\SqT K H1 a xs/\SqL K H1 b ys/\R (Itz K a b) H1
theorem pi_zip {M:List Expr}{c:Nat}{tp p pos:Pos}{Z L:Expr}{ta:TA}(hg:Gl X "zip")(hm:X.mg "zip"=none)(ha:PA X [Z,L] ta)(hs:starEach [Z,L] X.env= [(false,eval Z X.env),(false,eval L X.env)]:=by rfl)(O:starEach [L] X.env= [(false,eval L X.env)]:=by rfl):
  PI X (.Tuple M c tp) (.Call (.Name "zip" p) [Z,L] [] pos) (iZip X.K ta):=by
 intro pins s σ H R I h;refine Call_ (XI I hg hm boot_zip (vx (thn (ha pos pins s σ H _ I h) fun us s1 ⟨vs,H1,U,r1,q1⟩=> ?_) (by rw [hs,O]) (by rw [O];rfl)))
 obtain⟨a,b,xs,ys,e,hA,hB,q⟩:=q1;subst e;obtain⟨u,u',rfl,ru,aa⟩:=vals2 r1;cases ru;cases aa;obtain⟨its,ra,pa,za⟩:=U.tuple hA;obtain⟨ab,rb,pb,zb⟩:=U.list hB;have la:a<s1.heap.objs.size:=by obtain⟨o,e,_⟩:=id pa;exact uo e
 have lb:b<s1.heap.objs.size:=by obtain⟨o,n,e,_⟩:=id pb;exact uo e
 refine AwZ.zip_call (show s1.heap.IsTuple a its.toArray from pa) pb.isList fun h2 g1 g2 g3 g4 g5 g6 g7=> ?_
 refine wpAny_pyIter_zip (s:={s1 with heap:=h2}) g1 ?_
 refine⟨_,[s1.heap.objs.size+4,s1.heap.objs.size+2,s1.heap.objs.size+3,s1.heap.objs.size,s1.heap.objs.size+1],_,_,H1,rfl,U.kept (t':=s1.toks) g7,turn_zip a b _ _ _ _ _,⟨g1,g2,⟨_,_,g3⟩,g4,g5,?_⟩,fun x hx=> ?_,q⟩
 ·exact apt_mk la lb
 ·have Y:s1.heap.objs.size<=x:=by
   simp only [uA,uG,v9] at hx;exact five_le hx
  exact U.fpOk Y (U.hok.fresh Y)
def tnE (a e j:Addr)(c:Int)(k:Nat)(h:Heap):Prop:=(∃old,IsEnum h e j (c+k) old)/\h.IsTupleIter j a k/\e≠j
theorem turn_enum {P:Program}{w:World}{K:PySem.W.Frag}{R:List Expr}{cc:Nat}{tp:Pos}(a e j:Addr)(c:Int):Turn P w K (.Tuple R cc tp) (Ite K a c) [e,j] e (tnE a e j c) where
 mem:=by simp
 obj:=fun k h st x O=>by
  obtain⟨⟨M,h1⟩,⟨o4,e4,c4,d4⟩,D⟩:=st;simp only [uA,uG,v9] at O;rcases O with rfl|rfl
  ·exact⟨_,h1,fun v z=>by cases z⟩
  ·exact⟨o4,e4,fun v z=>by rw [d4] at z;cases z⟩
 keep:=fun k h h' st kk=>by
  obtain⟨⟨M,h1⟩,⟨o4,e4,r4⟩,D⟩:=st;exact⟨⟨M,kk e (by simp) _ h1⟩,⟨o4,kk j (by simp) _ e4,r4⟩,D⟩
 item:=by
  intro X hP hw hK L k pins s σ H E I hf st hg;subst hP hw hK;obtain⟨xs,x,ha,O⟩:=hg;obtain⟨its,ra,pa,za⟩:=I.tuple ha;obtain⟨ux,aa,ab⟩:=ra.get O;obtain⟨⟨M,h1⟩,h4,D⟩:=st;have l1:=uo h1;have l4:j<s.heap.objs.size:=by obtain⟨o,e,_⟩:=h4;exact uo e
  refine AwZ.enum_go h1 h4 (show s.heap.IsTuple a its.toArray from pa) (x:=ux) (by simpa using aa) D fun h' g1 g3 g5 g6 g7=> ?_
  obtain⟨I1,U⟩:=I.handed (t':=s.toks+1) (ys:= [.int (c+k),x]) (its:= [.int (c+k) s.toks,ux]) hf (fun c L=>by
   simp only [uA,uG,v9] at L;rcases L with rfl|rfl<;>assumption) (.cons (show RelV (V.int (c+k)) _ from⟨_,rfl⟩) (.cons ab .nil)) (by show 2<=sizeLine;decide) g5 g6 (fun c o L e=>by
    simp only [uA,uG,v9,not_or] at L;exact g7 c o L.1 L.2 e)
  refine⟨_,rfl,wpAny_letOwnedTupleGo_enum (s:={s with heap:=h',toks:=s.toks+1}) g1 fun Y z2 s2=> ?_⟩
  have Z:∀c o,c≠e->h'.get? c=some o->Y.get? c=some o:=fun c o L e=>s2.extBut c o L e;refine⟨.ref s.heap.objs.size,_,I1.turnedL (fp:= [e]) (h':=Y) (t':=s.toks+1) (fun c o L e=>Z c o (by simpa using L) e) (fun c L=>U c (by simp at L;simp [L])),rfl,⟨_,x,rfl,I.fresh,rfl,fun zs ac=> ?_⟩,⟨⟨ux,?_⟩,?_,D⟩,fun c L=>(U c L).1⟩
  ·rw [I.tuple_inj ac ha];exact O
  ·have e1:c+((k+1:Nat):Int)=c+(k:Int)+1:=by omega
   rw [e1];exact z2
  ·obtain⟨o,e,q⟩:=g3;exact⟨o,Z _ _ (Uq D) e,q⟩
 done:=by
  intro X hP hw hK L k pins s σ H E I hf st hg;subst hP hw hK;obtain⟨xs,ha,O⟩:=hg;obtain⟨its,ra,pa,za⟩:=I.tuple ha;have hl:=ra.length;obtain⟨⟨M,h1⟩,h4,D⟩:=st;refine AwZ.enum_stop (A:=X.A) (I.ok.hd L) h1 h4 (show s.heap.IsTuple a its.toArray from pa) (by simp;omega) fun h' kk=>⟨rfl,?_⟩
  exact I.turnedL (t':=s.toks) (fun c o L e=>by
   simp only [uA,uG,v9,not_or] at L;exact kk c o L.2 e) hf
 self:=fun _ _ _ _ _ st h=>by
  obtain⟨⟨M,h1⟩,_⟩:=st;exact wpAny_pyIter_enum h1 h
def KDict (K:PySem.W.Frag)(w:World)(a:Addr):Prop:=(a==sysModules)=false/\∃es n,K.lookup a=some ⟨.type "dict",none,.dict es n,#[]⟩/\PySem.W.KeysLit w.params es.toList
def rNotK (K:PySem.W.Frag)(w:World):R2:=fun x y H Q=>∃z a r,x= .str z/\y= .ref a/\KDict K w a/\PySem.W.nsIn K a z=some r/\Q (.bl (!r.isSome)) H
theorem op_notK:OpR X (compareOp .NotIn) (rNotK X.K X.w):=by
 intro pins s σ H x y v u Q I M O h;obtain⟨z,a,r,rfl,rfl,⟨R,es,n,L,U⟩,hn,q⟩:=h;obtain⟨t,rfl⟩:=M;cases O;have hm:=PySem.W.mapOf_K (prog:=X.prog) (w:=X.w) I.kIn L U;refine wpAny_notIn_of (strKind_is X.prog X.w z t) R hm ⟨.bl (!r.isSome),H,I.tok _,?_,q⟩;rw [PySem.W.find_K L hn]
 rfl
def rIxK (K:PySem.W.Frag)(w:World):R2:=fun x y H Q=>∃z a u v,x= .ref a/\y= .str z/\KDict K w a/\PySem.W.nsIn K a z=some (some u)/\RelV v u/\Q v H
theorem ix_K:IxR X (rIxK X.K X.w):=by
 intro value L pins s σ H x y v u Q I O R h U;obtain⟨z,a,u',Y,rfl,rfl,⟨_,es,n,M,Z⟩,hn,hr,q⟩:=h;obtain⟨t,rfl⟩:=R;cases O;have hm:=PySem.W.mapOf_K (prog:=X.prog) (w:=X.w) I.kIn M Z;exact tail_any hm.typeIs slot_dict_getitem.lookup (wpAny_getItem_of (strKind_is X.prog X.w z t) hm (PySem.W.find_K M hn) ⟨Y,H,I.tok _,hr,q⟩) U
end
section
variable {X:Cx}{K:PySem.W.Frag}
theorem pg_tupK {es:List Expr}{k:Nat}{t:TGs}{n:Nat}{pos:Pos}(L:X.K=K)(M:X.calm=true)(h:PGs X es t)
  (hn:(assignEach es X.env).length=n:=by rfl) (I:(assignEach es X.env).findIdx? (·.1)=none:=by rfl):PG X (.Tuple es k pos) (gTup K n t):=by subst L;exact XA M h hn I
end
theorem ZF {lo:Int}{n:Nat}{L:Addr}{H1:Hp}{te:TE}{tl:St}{Q:VK}(C:Nat->List V->Hp->Prop)(hn:n<=sizeLine)(U:C 0 [] (upd H1 L (.lst [])))
  (Y:∀i ys H,i<n->C i ys H->H L=some (.lst ys)->ys.length<=i->∀R:VK,(∀y I,I L=some (.lst ys)->C (i+1) (ys++ [y]) (upd I L (.lst (ys++ [y])))->R y I)->te (some (.int (lo+(i:Int)))::tl) H R)
  (Z:∀ys H,C n ys H->H L=some (.lst ys)->Q (.ref L) H):lcGo L (Itr lo n) (Y3 0) tYes te (none::tl) H1 Q:=by
 refine⟨n,fun i σ ys H=>(∃x,σ=x::tl)/\C i ys H,hn,⟨⟨none,rfl⟩,U⟩,?_,?_⟩
 ·rintro i σ ys H hi ⟨⟨x,rfl⟩,M⟩ O hy;refine⟨hi,?_⟩;rintro x' H' ⟨rfl,rfl⟩;dsimp only [Y3,tYes,List.set];rw [if_pos rfl];exact Y i ys H' hi M O hy _ fun y I e c=>⟨e,⟨_,rfl⟩,c⟩
 ·rintro σ ys H ⟨_,M⟩ O;exact⟨ui _,Z ys H M O⟩
theorem lc_zip {K:PySem.W.Frag}{a b A:Addr}{H1:Hp}{te:TE}{tl:St}{Q:VK}{xs ys:List V}(f:Nat->D)(ha:∀H,Same H1 H->SqT K H a xs)(hb:∀H,Same H1 H->SqL K H b ys)(ab:xs.length=ys.length)(hn:xs.length<=sizeLine)(hA:H1 A=none)
  (O:∀i x y H (R:VK),xs[i]? =some x->ys[i]? =some y->Same H1 H->(∀v H',Same H H'->Is H' (f i) v->R v H')->te (some x::some y::tl) H R)
  (hQ:∀H' vs,Same H1 H'->H' A=some (.lst vs)->L2.IsL H' ((List.range xs.length).map f) vs->Q (.ref A) H'):lcGo A (Itz K a b) (gTup K 2 (gCons (Y3 0) (gCons (Y3 1) gNil))) tYes te (none::none::tl) H1 Q:=by
 refine⟨xs.length,fun i σ us H=>(∃u v,σ=u::v::tl)/\L2.IsL H ((List.range i).map f) us/\Same H1 H,hn,⟨⟨none,none,rfl⟩,rfl,qb hA _⟩,?_,?_⟩
 ·rintro i σ us H hi ⟨⟨u,v,rfl⟩,U,I⟩ L ac;have hx:xs[i]? =some xs[i]:=ul hi;have hy:ys[i]? =some (ys[i]'(by omega)):=ul _
  refine⟨⟨xs,ys,_,_,ha H I,hb H I,hx,hy⟩,fun x H' y=> ?_⟩;obtain⟨p,Y,Z,rfl,hp,rfl,e1,e2⟩:=y;have e1:=e1 xs (ha H I);have e2:=e2 ys (hb H I);have s2:Same H (upd H p (.tup [Y,Z])):=qb hp _;refine⟨p,_,rfl,SqT.of qg,rfl,Y,_,rfl,Z,_,rfl,rfl,?_⟩;dsimp only [tYes];rw [if_pos rfl];refine O i Y Z _ _ e1 e2 (I.trans s2) fun y4 H4 M aa=>⟨M _ _ (s2 _ _ L),⟨_,_,rfl⟩,?_,fun b o e=> ?_⟩
  ·have t:Tk H4 (upd H4 A (.lst (us++ [y4]))):=Tk.updL (M _ _ (s2 _ _ L));rw [List.range_succ,uF];exact((U.mono (s2.trans M).tk).mono t).append (IsL.one (aa.mono t))
  ·rw [qy (qr e hA)];exact M b o (s2 b o (I b o e))
 ·rintro σ us H ⟨_,U,I⟩ L;exact⟨⟨xs,ha H I,rfl⟩,hQ H us I L U⟩
theorem Y4 (z:Str)(l:List Str):inV (.str z) (l.map V.str)=decide (z∈l):=by
 unfold inV;rw [List.any_map,vG,List.any_eq_true,decide_eq_true_eq];constructor
 ·rintro⟨x,L,e⟩;have I:(x==z)=true:=e;rw [beq_iff_eq] at I;exact I▸L
 ·intro h;exact⟨z,h,by show(z==z)=true;exact beq_self_eq_true z⟩
theorem XN (l:List Str):(l.map V.str).all xh=true:=by
 rw [vH,List.all_eq_true];intro x _
 rfl
inductive Pt where
 |s (z:Str)|n (i:Int)
def Pt.d:Pt->D
 | .s z=> .str z
 | .n i=> .int i
def Pt.t:Pt->Str
 | .s z=>z
 | .n i=>toString i
inductive Kd where
 |box|line|words
 deriving DecidableEq
def Kd.t:Kd->Str
 | .box=>"box"
 | .line=>"line"
 | .words=>"words"
def BX:List Str:= ["a","b","c","d","e","f","g","h"]
def FRM:List (Str×List Kd):= [("text",[.box,.words]),("self",[.box]),("copy",[.box,.box]),("row",[.box]),("put",[.box,.box]),("join",[.box,.box]),("first",[.box,.box]),("rest",[.box,.box]),
 ("size",[.box,.box]),("cut",[.box,.box,.box]),("glue",[.box,.box,.box]),("ask",[.box,.box]),("has",[.box,.box]),("names",[.box,.box]),("go",[.line]),("like",[.box,.box,.line]),
 ("rowed",[.box,.line]),("none",[.box,.line]),("say",[.box]),("fault",[])]
def ptOk (n m:Nat):Kd->Pt->Prop
 | .box,.s z=>z∈BX
 | .line,.n i=>1<=i/\i<=n
 | .words,.s z=>z.length<=m/\z.cps.toList.all Qj=true
 |_,_=>False
def yY (n m:Nat):List Kd->List Pt->Prop
 | [],[]=>True
 |k::ks,p::ps=>ptOk n m k p/\yY n m ks ps
 |_,_=>False
abbrev Rw:=Str×List Pt
def QD (n m:Nat)(r:Rw):Prop:=∃ks,(r.1,ks)∈FRM/\yY n m ks r.2
def txs (r:Rw):List Str:=r.1::r.2.map Pt.t
def qB (r:Rw):Str:=Str.join " " (txs r)
def rowD (r:Rw):D:= .tup [.str r.1,.tup (r.2.map Pt.d)]
theorem yB:∀(x y:Str) (r:List Str),(Str.join " " (x::y::r)).cps.toList=x.cps.toList++32::(Str.join " " (y::r)).cps.toList:=by
 intro x y r;show((x.cps++(" ":Str).cps)++(Str.join " " (y::r)).cps).toList=_;rw [Array.toList_append,Array.toList_append,ji];simp
abbrev Free (z:Str):Prop:=32∉z.cps.toList
theorem Zd:∀(l:List Str) (z:Str) (n:Nat),(∀p∈l,Free p)->(n=0∨Free z)->spl (l.length+n) (Str.join " " (l++ [z]))=l++ [z]
 | [],z,n,_,hz=>by
  show spl (0+n) z= [z];rw [Nat.zero_add];unfold spl;rcases hz with rfl|hz
  ·rw [cutL];show [ofL z.cps.toList]= [z];rw [QO]
  ·rw [Xq hz];show [ofL z.cps.toList]= [z];rw [QO]
 |p::l,z,n,hl,hz=>by
  have I:=Zd l z n (fun q L=>hl q (uq _ L)) hz;have M:Free p:=hl p uE;obtain⟨y,r,e⟩:∃y r,l++ [z]=y::r:=by cases l<;>exact⟨_,_,rfl⟩
  show spl ((l.length+1)+n) (Str.join " " (p::(l++ [z])))=p::(l++ [z]);rw [e] at I⊢;unfold spl at I⊢;rw [yB,show l.length+1+n=(l.length+n)+1 by omega,ZJ M,uk,I,QO]
theorem hd_join (w:Str)(r:List Str)(h:Free w):hd (Str.join " " (w::r))=w:=by
 have I:∀(p q:List Nat),32∉p->xm 32 (p++32::q)=p:=by
  intro p
  induction p with
  |nil=>intro q _;simp [xm]
  |cons a p L=>
   intro q h;have h1:a≠32:=fun e=>h (by simp [e])
   show xm 32 (a::(p++32::q))=a::p;rw [xm,if_neg h1,L q fun z=>h (uq _ z)]
 cases r with
 |nil=>
  show ofL (xm 32 w.cps.toList)=w;rw [JC h,QO]
 |cons y r=>
  unfold hd;rw [yB,I _ _ h,QO]
theorem xw:∀(l:List Str),l≠ []->(Str.join " " l).length+1=(l.map (·.length)).sum+l.length
 | [],h=>absurd rfl h
 | [x],_=>by simp [Str.join]
 |x::y::r,_=>by
  have I:=xw (y::r) (by simp)
  have e:(Str.join " " (x::y::r)).length=x.length+(1+(Str.join " " (y::r)).length):=by
   have:=congrArg List.length (yB x y r);rw [ug,uh] at this;simp only [vr] at this;show(Str.join " " (x::y::r)).cps.size=_;rw [this];show x.cps.size+((Str.join " " (y::r)).cps.size+1)=x.cps.size+(1+(Str.join " " (y::r)).cps.size);omega
  rw [e,uk,vq,uh];omega
theorem join_all:∀(l:List Str),(∀p∈l,p.cps.toList.all Qj=true)->(Str.join " " l).cps.toList.all Qj=true
 | [],_=>by decide
 | [x],h=>h x (by simp)
 |x::y::r,h=>by
  have I:=join_all (y::r) fun p L=>h p (uq _ L);rw [yB,List.all_append,vy,h x uE,I]
  rfl
theorem yH {i:Int}(h1:1<=i)(h2:i<=40):(toString i:Str).length<=2/\Free (toString i:Str)/\(toString i:Str).cps.toList.all Qj=true:=by
 obtain⟨k,rfl⟩:∃k:Fin 41,i=((k.val:Nat):Int):=⟨⟨i.toNat,by omega⟩,by simp;omega⟩
 have I:∀k:Fin 41,(toString ((k.val:Nat):Int):Str).length<=2/\decide (Free (toString ((k.val:Nat):Int):Str))=true/\(toString ((k.val:Nat):Int):Str).cps.toList.all Qj=true:=by decide+kernel
 obtain⟨a,b,c⟩:=I k;exact⟨a,ud b,c⟩
theorem num_back {i:Int}(h1:1<=i)(h2:i<=40):PySem.intText? (toString i:Str)=some i:=PySem.W.KIN.num_reads (by omega) (by omega)
theorem Qr {z:Str}(h:z∈BX):z.length=1/\Free z/\z.cps.toList.all Qj=true:=by
 have I:∀z∈BX,z.length=1/\decide (Free z)=true/\z.cps.toList.all Qj=true:=by decide+kernel
 obtain⟨a,b,c⟩:=I z h;exact⟨a,ud b,c⟩
theorem Zg:∀x∈FRM,decide (Free x.1)=true/\x.1.cps.toList.all Qj=true:=by decide+kernel
theorem ZA:∀x∈FRM,(decide (Kd.words∈x.2)=false)∨x=(("text":Str),[Kd.box,Kd.words]):=by decide+kernel
theorem form_nd:∀x∈FRM,∀y∈FRM,x.1=y.1->x=y:=by decide+kernel
def Kd.most (m:Nat):Kd->Nat
 | .box=>1
 | .line=>2
 | .words=>m
theorem ptOk_len {n m:Nat}(hn:n<=40){k:Kd}{p:Pt}(h:ptOk n m k p):p.t.length<=k.most m:=by
 cases k<;>cases p<;>simp only [ptOk] at h
 ·exact Nat.le_of_eq (Qr h).1
 ·exact(yH h.1 (by omega)).1
 ·exact h.1
theorem ptOk_all {n m:Nat}(hn:n<=40){k:Kd}{p:Pt}(h:ptOk n m k p):p.t.cps.toList.all Qj=true:=by
 cases k<;>cases p<;>simp only [ptOk] at h
 ·exact(Qr h).2.2
 ·exact(yH h.1 (by omega)).2.2
 ·exact h.2
theorem ptOk_free {n m:Nat}(hn:n<=40){k:Kd}{p:Pt}(h:ptOk n m k p)(I:k≠ .words):Free p.t:=by
 cases k<;>cases p<;>simp only [ptOk] at h
 ·exact(Qr h).2.1
 ·exact(yH h.1 (by omega)).2.1
 ·exact absurd rfl I
theorem YX {n m:Nat}:∀{ks:List Kd}{ps:List Pt},yY n m ks ps->ps.length=ks.length
 | [],[],_=>rfl
 |_::_,_::_,h=>by rw [uh,uh,YX h.2]
 | [],_::_,h=>h.elim
 |_::_,[],h=>h.elim
theorem ptsOk_get {n m:Nat}:∀{ks:List Kd}{ps:List Pt}{i:Nat}{k:Kd}{p:Pt},yY n m ks ps->ks[i]? =some k->ps[i]? =some p->ptOk n m k p
 |_::_,_::_,0,k,p,h,e1,e2=>by
  cases e1;cases e2;exact h.1
 |_::_,_::_,i+1,k,p,h,e1,e2=>ptsOk_get (i:=i) h.2 (by simpa using e1) (by simpa using e2)
 | [],[],_,_,_,_,e1,_=>by simp at e1
 | [],_::_,_,_,_,h,_,_=>h.elim
 |_::_,[],_,_,_,h,_,_=>h.elim
theorem ptsOk_sum {n m:Nat}(hn:n<=40):∀{ks:List Kd}{ps:List Pt},yY n m ks ps->((ps.map Pt.t).map (·.length)).sum<=(ks.map (Kd.most m)).sum
 | [],[],_=>ui _
 |_::_,_::_,h=>by
  have h1:=ptOk_len hn h.1;have h2:=ptsOk_sum hn h.2;simp only [uk,vq];omega
 | [],_::_,h=>h.elim
 |_::_,[],h=>h.elim
theorem ptsOk_all {n m:Nat}(hn:n<=40):∀{ks:List Kd}{ps:List Pt},yY n m ks ps->∀p∈ps.map Pt.t,p.cps.toList.all Qj=true
 | [],[],_=>fun p I=>by simp at I
 |_::_,_::_,h=>fun p I=>by
  rw [uk] at I;rcases List.mem_cons.mp I with rfl|I
  ·exact ptOk_all hn h.1
  ·exact ptsOk_all hn h.2 p I
 | [],_::_,h=>h.elim
 |_::_,[],h=>h.elim
theorem zP {n m:Nat}(hn:n<=40):∀{ks:List Kd}{ps:List Pt},yY n m ks ps->Kd.words∉ks->∀p∈ps.map Pt.t,Free p
 | [],[],_,_=>fun p I=>by simp at I
 |_::_,_::_,h,hk=>fun p I=>by
  rw [uk] at I;rcases List.mem_cons.mp I with rfl|I
  ·exact ptOk_free hn h.1 fun e=>hk (by simp [e])
  ·exact zP hn h.2 (fun z=>hk (uq _ z)) p I
 | [],_::_,h,_=>h.elim
 |_::_,[],h,_=>h.elim
theorem form_len:∀x∈FRM,∀m:Fin 41,3<m.val->x.1.length+(x.2.map (Kd.most m.val)).sum+x.2.length<=7+m.val:=by decide+kernel
theorem line_len {n m:Nat}{r:Rw}(hn:n<=40)(hm:4<=m)(L:m<=40)(h:QD n m r):(qB r).length<=7+m:=by
 obtain⟨ks,M,I⟩:=h;have h1:=xw (txs r) (by simp [txs])
 have h2:=ptsOk_sum hn I;have O:=form_len _ M ⟨m,by omega⟩ hm
 have h4:=YX I;simp only [txs,uk,vq,uh,uf] at h1;show(Str.join " " (txs r)).length<=7+m;simp only at O;unfold txs;omega
theorem line_all {n m:Nat}{r:Rw}(hn:n<=40)(h:QD n m r):(qB r).cps.toList.all Qj=true:=by
 obtain⟨ks,L,M⟩:=h;refine join_all _ fun p I=> ?_;rcases List.mem_cons.mp I with rfl|I
 ·exact(Zg _ L).2
 ·exact ptsOk_all hn M p I
theorem line_hd {n m:Nat}{r:Rw}(h:QD n m r):hd (qB r)=r.1:=by
 obtain⟨ks,I,L⟩:=h;exact hd_join _ _ (ud (Zg _ I).1)
theorem line_spl {n m:Nat}{r:Rw}{ks:List Kd}(hn:n<=40)(R:(r.1,ks)∈FRM)(M:yY n m ks r.2):spl (if Kd.words∈ks then ks.length else(qB r).length+1) (qB r)=txs r:=by
 have U:Free r.1:=ud (Zg _ R).1;by_cases h:Kd.words∈ks
 ·rw [if_pos h];rcases ZA _ R with e|e
  ·simp at e;exact absurd h e
  ·have Z:ks= [.box,.words]:=congrArg Prod.snd e;subst Z;obtain⟨w,ps⟩:=r
   match ps,M with
   | [p,q],M=>
    have:=Zd [w,p.t] q.t 0 (fun z Y=>by
     simp only [uA,uG,v9] at Y;rcases Y with rfl|rfl
     ·exact U
     ·exact ptOk_free hn M.1 (by decide)) (.inl rfl)
    exact this
 ·rw [if_neg h];have O:∀p∈txs r,Free p:=fun p L=>by
   rcases List.mem_cons.mp L with rfl|L
   ·exact U
   ·exact zP hn M h p L
  rcases vX (txs r) with e|⟨l,z,e⟩
  ·simp [txs] at e
  ·rw [vY] at e;have I:=xw (txs r) (by simp [txs])
   unfold qB;rw [e] at O I⊢;have hl:l.length<=(Str.join " " (l++ [z])).length:=by
    rw [ug] at I;simp only [uh,uW] at I;omega
   have:=Zd l z ((Str.join " " (l++ [z])).length+1-l.length) (fun q hq=>O q (List.mem_append_left _ hq)) (.inr (O z (by simp)))
   rw [show l.length+((Str.join " " (l++ [z])).length+1-l.length)=(Str.join " " (l++ [z])).length+1 by omega] at this
   exact this
def VE:List Value:= [.type "ValueError",.type "Exception",.type "BaseException",.type "object"]
def CX1 (P:Program)(w:World):CXT:=fun outer H s E e s'=>∃(ea C:Addr) (a0:Value) (H':Hp) (B:Heap),e= .ref ea/\s'.os=s.os/\AllBare s'.gens/\0<s'.toks/\Un (frs outer) [] H H' s.heap s'.heap/\HOk P w H' B/\
 Heap.FlyingW B outer ea (.ref C) a0 s'.heap/\(∀b o,s.heap.get? b=some o->b∉frs outer->∃o',B.get? b=some o')/\E (.ref ea) (some C) H'
theorem cls_in {K:PySem.W.Frag}{h:Heap}{C:Addr}{M:List Value}{I:String}(X:K.In h)(q:PySem.W.excIn K C M I=true):
  ∃bm N nm R bs hdct sn sub ab col dd k0 k1 k2 k3 k5 mN,h.get? C=some (excClassObj nm R C N bs bm hdct sn sub ab col dd k0 k1 k2 k3 k5 I)/\h.Ns N mN/\mN "__init__"=none/\OwnTail h M bm:=by
 unfold PySem.W.excIn at q;split at q
 ·rename_i dd Y sl Z
  split at q
  ·rename_i C' bm k0 k1 k2 k3 n k5 hm U
   simp only [um,beq_iff_eq,Bool.not_eq_true'] at q;obtain⟨⟨⟨⟨⟨rfl,rfl⟩,L⟩,ht⟩,hok⟩,O⟩:=q;obtain⟨nm,bs,aa,ns,R,hd,sn,sub,ab,col,ac⟩:=Y;dsimp only at hm L hok O;subst hm L;obtain⟨l⟩:=sl;simp only at U;subst U;exact⟨bm,ns,nm,R,bs,hd,sn,sub,ab,col,dd,k0,k1,k2,k3,k5,_,X _ _ Z,.of_isNs (PySem.W.isNs_of_in X hok),PySem.W.nsMap_none_of_in X hok O,PySem.W.tail_of_in X ht⟩
  ·cases q
 ·cases q
theorem funs_gone {h base B:Heap}:∀{l:List Env},h.FunFrames base l->(∀b∈frs l,B.get? b=none)->h.FunFrames B l
 | [],_,_=>trivial
 |env::r,⟨hk,⟨L,o,hf,hn,ho,hd⟩,hr⟩,hB=>by
  have e:frs (env::r)=L::frs r:=by unfold frs;rw [Uw,hf]
  rw [e] at hB;exact⟨hk,⟨L,o,hf,hB L uE,ho,hd⟩,funs_gone hr fun b I=>hB b (uq _ I)⟩
def tRaise (E:XK)(C:Addr)(ta:TE):TS:=fun _ σ H=>QI ta tNil σ H fun vs H1=>vs.length=1/\∀e,E (.ref e) (some C) H1
theorem ps_raise {P:Program}{w:World}{K:PySem.W.Frag}{mg:Str->Option Value}{base:Heap}{N:List Str}{qual:Str}{scope:Scope}{f:Addr}{O:Value}{A:Around}{outer:List Env}{s₀:Shared}{H₀:Hp}{E:XK}
  {x:Str}{C:Addr}{np cpos pos:Pos}{U:Expr}{ta:TE} (hx:PySem.W.excIn K C VE "ValueError.__new__"=true) (hg:Gl (cxOf (CX1 P w) P w K mg base N qual scope f O A outer s₀ H₀ E) x) (hm:mg x=some (.ref C))
  (ha:PE (cxOf (CX1 P w) P w K mg base N qual scope f O A outer s₀ H₀ E) U ta) (hd:(x==("__debug__":Str))=false:=by decide)
  (hs:starEach [U] (envOfC qual scope s₀.heap.objs.size f O)= [(false,eval U (envOfC qual scope s₀.heap.objs.size f O))]:=by rfl):
  PS (cxOf (CX1 P w) P w K mg base N qual scope f O A outer s₀ H₀ E) (.Raise (some (.Call (.Name x np) [U] [] cpos)) none pos) (tRaise E C ta):=by
 intro pins s σ H D I h;obtain⟨bm,Nn,nm,q,bs,hdct,sn,sub,ab,col,dd,k0,k1,k2,k3,k5,mN,hC,hN,ao,T⟩:=cls_in I.mod.kin hx;have hT:bm.contains (.type "BaseException")=true:=T.hasType (by decide)
 refine wpAny_Raise_call_subT (C:=C) (nm:=nm) (q:=q) (N:=Nn) (bs:=bs) (bm:=bm) (hdct:=hdct) (sn:=sn) (sub:=sub) (ab:=ab) (col:=col) (dd:=dd) (k0:=k0) (k1:=k1) (k2:=k2) (k3:=k3) (k5:=k5)
  (mN:=mN) F.excBase_ValueError hT (I.ok.hd rfl) (by show(backTo cpos (starEach [U] (envOfC qual scope s₀.heap.objs.size f O))).any (·.1)=false;rw [hs];rfl) ao (JR I hg hm ⟨rfl,?_⟩ hd)
 have ap:PA (cxOf (CX1 P w) P w K mg base N qual scope f O A outer s₀ H₀ E) [U] (QI ta tNil):=qa ha qe hs;have hp:=ap cpos pins s σ H (fun vs H1=>vs.length=1/\∀e,E (.ref e) (some C) H1) I h;show wpAny _ _ (evalArgs (.ref C) true (backTo cpos (starEach [U] (envOfC qual scope s₀.heap.objs.size f O))) []) _ _ s;have aq:starEach [U] (cxOf (CX1 P w) P w K mg base N qual scope f O A outer s₀ H₀ E).env= [(false,eval U (envOfC qual scope s₀.heap.objs.size f O))]:=hs;rw [aq] at hp;rw [hs];refine Calls.evalArgs_plain (vj hp (fun vs s₂ h₂=> ?_) fun _ _ y=>y);obtain⟨ws,H2,Z,r2,q2⟩:=h₂;obtain⟨hl,q2⟩:=q2;have bk:=Z.bk;have au:vs.length<=sizeLine:=by rw [<-r2.length,hl];decide
 refine⟨rfl,au,bk _ _ hC,hN.keeps bk,T.keeps bk,fun h' e aa=> ?_⟩;show wpAny (model P w) (A.deeper (envOfC qual scope s₀.heap.objs.size f O)) (leaving (envOfC qual scope s₀.heap.objs.size f O) (.ref e)) (fun _ ae=>CX1 P w outer H₀ s₀ E (.ref e) ae) (fun e' ae=>CX1 P w outer H₀ s₀ E e' ae) _;have av:(A.deeper (envOfC qual scope s₀.heap.objs.size f O)).frames=some (envOfC qual scope s₀.heap.objs.size f O::outer):=Z.ok.frames;have ag:s₂.heap.FunFrames base (envOfC qual scope s₀.heap.objs.size f O::outer):=Z.stack;have af:∀b∈frs (envOfC qual scope s₀.heap.objs.size f O::outer),H2 b=none:=Z.stkFree;have ah:frs (envOfC qual scope s₀.heap.objs.size f O::outer)=s₀.heap.objs.size::frs outer:=rfl;have am:s₀.heap.objs.size<=s₀.heap.objs.size:=Z.ok.above;have M:Un (frs outer) [] H₀ H2 s₀.heap s₂.heap:=Z.base;refine wpAny_leaves_madeW (base:=TI.gone s₂.heap (frs (envOfC qual scope s₀.heap.objs.size f O::outer))) (h:=s₂.heap) (L:=s₀.heap.objs.size) av rfl (fun b o e=>(TI.gone_some e).2) (funs_gone ag fun b R=>TI.gone_none R) aa fun ak t ad ax _ aw=> ?_;have ac:∀b o,b∉frs (envOfC qual scope s₀.heap.objs.size f O::outer)->s₂.heap.get? b=some o->ak.get? b=some o:=fun b o R e=>ad.1 b o (by rw [TI.gone_get R];exact e)
 have slots:∀b o,s₂.heap.get? b=some o->(∀vs,o.data≠ .fields vs)->∃sl,ak.get? b=some {o with slots:=sl}:=fun b o e hn=>aw b o (aa.keeps b o e) hn
 have nd:∀b∈frs outer,∀o,s₂.heap.get? b=some o->∀vs,o.data≠ .fields vs:=fun b R o e=>by
  obtain⟨_,o',e',hn⟩:=ag.mem (show b∈(envOfC qual scope s₀.heap.objs.size f O::outer).filterMap (·.frame) from by rw [show(envOfC qual scope s₀.heap.objs.size f O::outer).filterMap (·.frame)=frs (envOfC qual scope s₀.heap.objs.size f O::outer) from rfl,ah];exact uq _ R)
  rw [e] at e';cases e';exact hn
 have Y:∀b o,s₀.heap.get? b=some o->b∉frs outer->b∉frs (envOfC qual scope s₀.heap.objs.size f O::outer):=fun b o e R hm=>by
  rw [ah] at hm;rcases List.mem_cons.mp hm with rfl|hm
  ·exact absurd (uo e) (vP _)
  ·exact R hm
 refine⟨e,C,.ref t,H2,_,rfl,Z.os,Z.bare,(by first|exact Z.tk|exact Nat.lt_of_lt_of_le Z.tk (Uu _ _)|((try dsimp only);first|assumption|exact Inv.tk (by assumption)|exact Nat.succ_pos _|exact Nat.lt_of_lt_of_le (Inv.tk (by assumption)) (by assumption)|exact Nat.add_pos_left (Inv.tk (by assumption)) _|omega)),⟨?_,?_,M.free,?_,M.tups,M.frzs,M.tbls⟩,?_,ad,?_,q2 e⟩
 ·intro b o e1 hn R hx;exact ac b o (Y b o e1 R) (M.keep b o e1 hn R hx)
 ·intro b o e1 hn R hx;obtain⟨sl,e2⟩:=M.slot b o e1 hn R hx;obtain⟨al,e3⟩:=slots b _ e2 (nd b R _ e2);exact⟨al,e3⟩
 ·intro b o e1 hx;obtain⟨o',e2⟩:=M.there b o e1 hx;by_cases R:b∈frs outer
  ·obtain⟨al,e3⟩:=slots b _ e2 (nd b R _ e2);exact⟨_,e3⟩
  ·exact⟨o',ac b o' (Y b o e1 R) e2⟩
 ·intro b u R;refine(Z.hok b u R).stay (fun c v hc q=> ?_) (fun _ q=>q) fun _ _ q=>q;rw [TI.gone_get]
  ·exact q
  ·intro hm;have hn:=af c hm;rcases hc with z|z
   ·rw [z,R] at hn;cases hn
   ·rw [z] at hn;cases hn
 ·intro b o e1 R;obtain⟨o',e2⟩:=M.there b o e1 (by simp)
  exact⟨o',by rw [TI.gone_get (Y b o e1 R)];exact e2⟩
abbrev Cx.marked (X:Cx)(ee:Addr)(xe:Value->Shared->Prop):Cx:={X with A:=X.A.mark (some (.ref ee)),calm:=false,xe:=xe}
section
variable {X:Cx}{pins:List (Addr×Obj)}{σ:St}{H:Hp}{s:Shared}{ee:Addr}{xe:Value->Shared->Prop}
theorem Cx.Ok.marked (ok:X.Ok):(X.marked ee xe).Ok:=
 ⟨ok.mod,ok.kind,ok.glob,ok.blt,ok.above,ok.inj,ok.has,ok.cab,(fun z=>absurd z ua),ok.frames,ok.stk,ok.exf,ok.bs,ok.bsz,ok.noex,ok.exfs,ok.funs,ok.frf⟩
theorem Inv.marked (I:Inv X pins σ H s):Inv (X.marked ee xe) pins σ H s:=⟨I.ok.marked,I.os,I.bare,I.base,I.loc,I.cell,I.free,I.freeC,I.pin,I.hok,I.len,I.tk⟩
theorem Inv.unmarked (ok:X.Ok)(I:Inv (X.marked ee xe) pins σ H s):Inv X pins σ H s:=⟨ok,I.os,I.bare,I.base,I.loc,I.cell,I.free,I.freeC,I.pin,I.hok,I.len,I.tk⟩
theorem SP.unmarked (ok:X.Ok){D:Ends}{f:Flow}{s':Shared}(h:SP (X.marked ee xe) pins D f s'):SP X pins D f s':=by
 cases f with
 |next=>obtain⟨L,H',I,q⟩:=h;exact⟨L,H',I.unmarked ok,q⟩
 |brk=>obtain⟨L,H',I,q⟩:=h;exact⟨L,H',I.unmarked ok,q⟩
 |cont=>obtain⟨L,H',I,q⟩:=h;exact⟨L,H',I.unmarked ok,q⟩
 |ret u=>obtain⟨v,L,H',I,r,q⟩:=h;exact⟨v,L,H',I.unmarked ok,r,q⟩
def Cat (X:Cx)(pins:List (Addr×Obj))(σ:St)(E:XK)(e:Value)(s':Shared):Prop:=∃H1 s1,Inv X pins σ H1 s1/\CX1 X.prog X.w X.stack H1 s1 E e s'
theorem catch_ok {D:Ends}{e:Value}{s':Shared}{c:Str}{np af:Pos}{Cc C':Addr}{b₀:Stmt}{R:List Stmt}{ts:TS}(am:Cat X pins σ (fun _ C H2=>C=some Cc/\ts D σ H2) e s')(U:X.stack=X.env::X.outer/\X.env.frame=some X.env.locals)
  (hg:Gl X c) (hm:X.mg c=some (.ref C')) (hx:PySem.W.exmOne X.K (.ref Cc) (.ref C')=some true) (hs:∀ee xe,PSs (X.marked ee xe) (b₀::R) ts) (ao:(c==("__debug__":Str))=false):
  wpAny (model X.prog X.w) X.A (noteFrame e X.env) (fun _ s2=>wpAny (model X.prog X.w) X.A (setFlight e none) (fun _ s3=>wpAny (model X.prog X.w) X.A (handleBy e X.env [.ExceptHandler (some (.Name c np)) none (b₀::R) af]) (SP X pins D) X.xe s3) X.xe s2) X.xe s':=by
 obtain⟨H1,s1,I,ea,C,a0,H',B,rfl,ap,ac,htk,L,ag,O,hold,hC,aq⟩:=am;cases hC;have step:∀hk,B.StaysIn hk->s'.heap.UpToSlots hk->Inv X pins σ H' {s' with heap:=hk}:=by
  intro hk hB hU;have nd:∀b∈frs X.stack,∀o,s'.heap.get? b=some o->∀vs,o.data≠ .fields vs:=fun b hb o e=>by
   obtain⟨_,o',e',hn⟩:=O.2.2.1.mem (show b∈X.stack.filterMap (·.frame) from hb)
   rw [e] at e';cases e';exact hn
  have au:∀b o o',B.get? b=some o'->s'.heap.get? b=some o->hk.get? b=some o:=fun b o o' e1 Y=>by
   have:=O.1 b o' e1;rw [Y] at this;cases this;exact hB b o e1
  refine I.call' (s':={s' with heap:=hk}) (ch:= []) ap ⟨?_,?_,L.free,?_,L.tups,L.frzs,L.tbls⟩ (ag.kept fun b u e=>hB b u e) ac (fun b z=>by simp at z)
  ·intro b o e1 hn hb Z;obtain⟨o',Y⟩:=hold b o e1 hb;exact au b o o' Y (L.keep b o e1 hn hb Z)
  ·intro b o e1 hn hb Z;obtain⟨sl,Y⟩:=L.slot b o e1 hn hb Z;obtain⟨ah,e3⟩:=hU b _ Y (nd b hb _ Y);exact⟨ah,e3⟩
  ·intro b o e1 Z;by_cases hb:b∈frs X.stack
   ·obtain⟨o',Y⟩:=L.there b o e1 Z;obtain⟨ah,e3⟩:=hU b _ Y (nd b hb _ Y);exact⟨_,e3⟩
   ·obtain⟨o',Y⟩:=hold b o e1 hb;exact⟨o',hB b o' Y⟩
 rw [U.1] at O;have av:X.A.frames=some (X.env::X.outer):=by rw [I.ok.frames,U.1]
 refine wpAny_looks_onW (base:=B) av U.2 O fun h1 ad aa=> ?_;refine wpAny_landsW ad fun h2 M ab=> ?_;have I2:=step h2 M.1 (aa.trans ab);refine wpAny_handleBy_cons (codeAny_handlers_test ?_) (by intro q;cases q)
 refine JR (X:=X.marked ea X.xe) I2.marked hg hm ?_ ao;obtain⟨oe,he,ak⟩:=M.there;have LT:PySem.W.Looks (model X.prog X.w) h2 (typeOf (.ref ea)) (.ref Cc):=ak▸(PySem.W.Looks.ld he).andThen .now;refine PySem.W.exm_one I2.kIn LT hx _ _ _ _ (fun b o e=>e) ?_;refine codeAny_handlers_suite (lands_againW M fun h3 ae al=> ?_);have I3:=step h3 ae.1 ((aa.trans ab).trans al);exact vj (hs ea _ pins _ σ H' D I3.marked aq) (fun f s4 h4=>h4.unmarked I.ok) fun _ _ z=>z
end
theorem Fun.okX {P:Program}{w:World}{K:PySem.W.Frag}{mg:Str->Option Value}{base:Heap}{x qual:Str}{st:Stmt}{f:Addr}{fd:FuncData}{N ps:List Str}{k:Nat}{sp:Sp}(F:Fun K x qual st f fd)(S:qA N ps (qm st))(len:∀vs H Q E,sp vs H Q E->vs.length=ps.length)
  (I:∀(cdv:Value) (A:Around) (outer:List Env) (s:Shared) (H:Hp) (vs:List V) (Q:VK) (E:XK),Room k (A.deeper (envOfC qual (qm st) s.heap.objs.size f cdv))->sp vs H Q E->
   ∃t,PSs (cxOf (CX1 P w) P w K mg base N qual (qm st) f cdv A outer s H E) (Ys st) t/\t {nx:=fun _ H'=>Q .non H',rt:=Q} (Zk N vs) H):FnOk P w K mg base (CX1 P w) (k+1) f fd ps sp:=by
 obtain⟨oc,od,kV,doc,pm,an,cdv,ct,osl,rfl,O,L⟩:=F.ex;exact fn_of O L S len fun A outer s H vs Q E R M=>I cdv A outer s H vs Q E R M
end L2
namespace PySem.AwM
open PySem.AutoSeq1 PySem.MeetsSeq PySem.MeetsSeq3
theorem tuple_mul1 (l:Addr)(items:Array Value)(n:Nat)(dd:Option Addr)(sl:Array (Option Value))(u:Tok):
  Meets (Builtin.«tuple.__mul__» ⟨[.ref l,.int 1 u],[]⟩) (fun _ R s=>s.heap.get? l=some {cls:= .type "tuple",dict:=dd,data:= .seq items n,slots:=sl}/\R (.ok (.ret (Value.ref l))) s):=
 .of_wp fun prog w A R s h=>by
  obtain⟨L,g,d,tk,os⟩:=s;obtain⟨I,h⟩:=h;have M:=idx_int;have O:=sub_tuple_tuple;have U:=sub_list_list;have Y:=sub_tuple_list;have Z:=sub_list_tuple;have c2:(items.isEmpty||(1:Int)==1)=true:=by simp
  wp_walk using vR I
  exact⟨_,rfl,h⟩
theorem tuple_mul0 (l:Addr)(items:Array Value)(n:Nat)(dd:Option Addr)(sl:Array (Option Value))(u:Tok)(I:items.isEmpty=false):
  Meets (Builtin.«tuple.__mul__» ⟨[.ref l,.int 0 u],[]⟩) (fun _ R s=>s.heap.get? l=some {cls:= .type "tuple",dict:=dd,data:= .seq items n,slots:=sl}/\
   R (.ok (.ret (Value.ref s.heap.objs.size))) {s with heap:=s.heap.push {cls:=Value.type "tuple",data:=Data.seq #[]},toks:=s.toks}):=
 .of_wp fun prog w A R s h=>by
  obtain⟨M,g,d,tk,os⟩:=s;obtain⟨L,h⟩:=h;have O:=idx_int;have U:=sub_tuple_tuple;have Y:=sub_list_list;have Z:=sub_tuple_list;have f5:=sub_list_tuple;have c2:¬(items.isEmpty||(0:Int)==1)=true:=by rw [I];decide
  have c3:(decide ((0:Int)<=0)||items.isEmpty)=true:=by simp
  wp_walk using vR L
  exact⟨_,rfl,h⟩
end PySem.AwM
namespace L2
open PySem PySem.Spec PyProof.Rows
section
variable {X:Cx}
def rRepG (K:PySem.W.Frag):R2:=fun x y H Q=>∃l k xs,x= .ref l/\y= .int k/\SqT K H l xs/\xs≠ []/\0<=k/\k<1000000/\xs.length*k.toNat<=sizeLine/\(k=1->Q (.ref l) H)/\
 (k≠1->∀p,H p=none->Q (.ref p) (upd H p (.tup (List.replicate k.toNat xs).flatten)))
theorem op_repG:OpR X (binaryOp .Mult) (rRepG X.K):=by
 intro pins s σ H x y v u Q I O R h;obtain⟨l,k,xs,rfl,rfl,Y,L,h0,h2,hz,q1,q⟩:=h;by_cases h1:1<k
 ·exact op_repT pins s σ H (.ref l) (.int k) v u Q I O R ⟨l,k,xs,rfl,rfl,Y,L,h1,h2,hz,q (by omega)⟩
 cases O;obtain⟨t,rfl⟩:=R;obtain⟨its,r,p,z⟩:=I.tuple Y;obtain⟨⟨cls,dd,data,sl⟩,e,Z,n,hd⟩:=id p;simp only at Z hd;subst Z hd;have hl:=r.length;have M:its.toArray.isEmpty=false:=by
  cases its with
  |nil=>exact absurd (uC hl) L
  |cons a b=>rfl
 rcases(show k=0∨k=1 by omega) with rfl|rfl
 ·refine Us (T:="tuple") (U:="int") (by decide) p.typeIs (fun s'=>UK s' 0 t) yk F.fills_int_mul Up Y5 F.slot_int_index.lookup
   (vh Up (UK s 0 t) F.entry_int_rmul (F.args_int_rmul_2 _ _) (AwM.ZI 0 t l its.toArray n dd sl)
    ⟨e,rfl,p.typeIs,vh F.slot_tuple_mul p.typeIs F.entry_tuple_mul (F.args_tuple_mul_2 _ _) (AwM.tuple_mul0 l its.toArray n dd sl t M) ⟨e,?_⟩⟩)
  refine⟨.ref s.heap.objs.size,_,I.laid (t':=s.toks) (o:= .tup []) (fun b ob w=>ub _ w) (ui _) ?_,rfl,q (by decide) _ (I.hok.fresh (ui _))⟩
  exact⟨uD _,[],.nil,IsTup.new _ _⟩
 ·refine Us (T:="tuple") (U:="int") (by decide) p.typeIs (fun s'=>UK s' 1 t) yk F.fills_int_mul Up Y5 F.slot_int_index.lookup
   (vh Up (UK s 1 t) F.entry_int_rmul (F.args_int_rmul_2 _ _) (AwM.ZI 1 t l its.toArray n dd sl)
    ⟨e,rfl,p.typeIs,vh F.slot_tuple_mul p.typeIs F.entry_tuple_mul (F.args_tuple_mul_2 _ _) (AwM.tuple_mul1 l its.toArray n dd sl t) ⟨e,⟨.ref l,H,I,rfl,q1 rfl⟩⟩⟩)
end
end L2
namespace HT
open PySem PyProof.Rows
section
variable {prog:Program}{w:World}{A:Around}{E:Value->Shared->Prop}{s:Shared}
theorem getItem_tuple_all {t sl:Addr}{items:Array Value}{U Y:Value}{lo hi:Option Int}{Q:Value->Shared->Prop}(I:IsTup s.heap t items)(Z:s.heap.IsSliceOf sl U Y .none)(pl:IsPart U lo)(pu:IsPart Y hi)
  (hw:sIx items.size 0 lo=0/\sIx items.size items.size hi=items.size) (h:Q (.ref t) s):wpAny (model prog w) A (getItem (.ref t) (.ref sl)) Q E s:=by
 obtain⟨os,M,O,aa⟩:=id Z;have R:s.TypeIs (.ref sl) "slice":=⟨os,M,O⟩;unfold getItem
 try with_reducible refine wpAny_holding ?_
 first|refine wpAny_bind (uj ?_)|skip
 refine wpAny_bind (wpAny_sequenceKey I.typeIs (by decide) ?_)
 refine wpAny_bind (v4 (name:=Str.ofString "__getitem__") I.typeIs vF
  (vM vF I.typeIs entry_tuple_getitem ?_ (args_tuple_getitem _ _)))
 show wpAny _ _ (Builtin.Tuple.tupleItemsOf (.ref t)>>=_) _ _ s;refine wpAny_bind (tupleItemsOf_ I ?_);refine wpAny_bind (wpAny_typeOf R ?_);rw [if_pos (by decide)]
 refine wpAny_bind (Yw Z pl pu ?_);have L:((((sIx items.size 0 lo:Nat):Int)==0&&(1:Int)==1&&(sIx items.size items.size hi-sIx items.size 0 lo)==items.size)=true):=by
  rw [hw.1,hw.2];simp
 show wpAny _ _ (if(((sIx items.size 0 lo:Nat):Int)==0&&(1:Int)==1&&(sIx items.size items.size hi-sIx items.size 0 lo)==items.size)=true then _ else _) _ _ s
 rw [if_pos L];unfold Builtin.Tuple.tupleIsExact;refine wpAny_bind (wpAny_bind (wpAny_typeOf I.typeIs (uj ?_)));rw [if_pos (by decide)]
 exact wpAny_bind (Uz (uj ⟨_,rfl,uj h⟩))
end
end HT
namespace L2
open PySem PySem.Spec PyProof.Rows
section
variable {X:Cx}
def rSlG (K:PySem.W.Frag):V->Option Int->Option Int->Hp->VK->Prop:=fun x lo hi H Q=>∃a xs,x= .ref a/\SqT K H a xs/\
 (HT.sIx xs.length 0 lo=0/\HT.sIx xs.length xs.length hi=xs.length->Q (.ref a) H)/\
 (¬(HT.sIx xs.length 0 lo=0/\HT.sIx xs.length xs.length hi=xs.length)->∀p,H p=none->Q (.ref p) (upd H p (.tup (cutV xs lo hi))))
theorem yO:SlR X (rSlG X.K):=by
 intro pins s σ H x v vl vu lo hi sl Q I O R pl U h;obtain⟨a,xs,rfl,Y,q1,q2⟩:=h;by_cases M:HT.sIx xs.length 0 lo=0/\HT.sIx xs.length xs.length hi=xs.length
 ·cases O;obtain⟨its,r,Z,hz⟩:=I.tuple Y;have L:its.toArray.size=xs.length:=by rw [ue];exact r.length.symm
  refine⟨"tuple",_,PyProof.Rows.slot_tuple_getitem.lookup,Z.typeIs,?_⟩;exact HT.getItem_tuple_all Z R pl U (by rw [L];exact M) ⟨.ref a,H,I,rfl,q1 M⟩
 ·exact sl_tup pins s σ H (.ref a) v vl vu lo hi sl Q I O R pl U ⟨a,xs,rfl,Y,M,q2 M⟩
end
section
variable {X:Cx}{pins:List (Addr×Obj)}{σ:St}{H:Hp}{s:Shared}
theorem vals_refs:∀{cs:List Addr}{its:List Value},Vals (cs.map V.ref) its->its=cs.map Value.ref
 | [],_,h=>by cases h;rfl
 |c::cs,_,h=>by
  cases h with
  |cons I L=>
   rw [vals_refs L,show _=Value.ref c from I]
   rfl
end
end L2
namespace PySem.AwK
open PySem Builtin Builtin.ObjectAttr
theorem lk_keys:typeLookup (.type "list") "keys"=pure none:=by rw [typeLookup_type,builtinLookup_eq_fast];kernel_rfl
section
variable {prog:Program}{w:World}{A:Around}{E:Value->Shared->Prop}{s:Shared}
theorem ZG:isSubtype (.type "AttributeError") (.type "AttributeError")=pure true:=by rw [isSubtype_type];kernel_rfl
theorem raise_attr {α:Type}{o:Value}{name L:Str}{Q:α->Shared->Prop}(hh:A.handled=none)(hm:L.length<=sizeLine)
  (hq:∀h' U e,(∀b I,s.heap.get? b=some I->h'.get? b=some I)->(∃Y,h'.get? e=some Y/\Y.cls= .type "AttributeError")->E (.ref e) {s with heap:=h',toks:=U}):
  wpAny (model prog w) A (raiseAttrError o name L:Sem α) Q E s:=by
 unfold raiseAttrError;refine wpAny_bind (wpAny_mkStr (wpAny_bind ?_) hm);unfold newExc newTuple;refine wpAny_bind (vt ?_ (by show(1:Nat)<=sizeLine;rw [uL];decide))
 refine wpAny_bind (m:=firstArgMember _ _) (wpAny_of_eq (a:=Value.none) (by kernel_rfl) ?_)
 obtain⟨h1,R⟩:∃h1,h1=s.heap.push {cls:= .type "tuple",data:= .seq #[Value.str L s.toks]}:=⟨_,rfl⟩;have k1:∀b I,s.heap.get? b=some I->h1.get? b=some I:=fun b I e=>by rw [R];exact ub _ e
 show wpAny (model prog w) A (newObj (.type "AttributeError") (.fields #[.ref s.heap.objs.size,.none,.none,.none,.bool false,.none,unsetMember,unsetMember])) _ E {s with heap:=s.heap.push {cls:= .type "tuple",data:= .seq #[Value.str L s.toks]},toks:=s.toks+1}
 rw [<-R];refine vt ?_ (by unfold sizeOk;first|trivial|(rw [uL];simp)|decide)
 obtain⟨h2,M⟩:∃h2,h2=h1.push {cls:= .type "AttributeError",data:= .fields #[.ref s.heap.objs.size,.none,.none,.none,.bool false,.none,unsetMember,unsetMember]}:=⟨_,rfl⟩;have k2:∀b I,h1.get? b=some I->h2.get? b=some I:=fun b I e=>by rw [M];exact ub _ e
 have O:h2.get? h1.objs.size=some {cls:= .type "AttributeError",data:= .fields #[.ref s.heap.objs.size,.none,.none,.none,.bool false,.none,unsetMember,unsetMember]}:=by rw [M];exact uw _ rfl
 show wpAny (model prog w) A (do let x<-mkText name;noteAttr (.ref h1.objs.size) o x;raiseNew (.ref h1.objs.size)) Q E {s with heap:=h1.push {cls:= .type "AttributeError",data:= .fields #[.ref s.heap.objs.size,.none,.none,.none,.bool false,.none,unsetMember,unsetMember]},toks:=s.toks+1}
 rw [<-M];have ne:∀b I,h1.get? b=some I->b≠h1.objs.size:=fun b I e=>uM (uo e);generalize h1.objs.size=e at O ne⊢;refine wpAny_bind (wpAny_mkText (wpAny_bind ?_));have Z:∀g d t os,(⟨h2,g,d,t,os⟩:Shared).TypeIs (.ref e) "AttributeError":=fun _ _ _ _=>⟨_,O,rfl⟩;unfold noteAttr lacksNameAndObj;refine wpAny_bind (wpAny_bind (Ut (Z _ _ _ _) ZG ?_));simp only [Bool.not_true,Ug,if_false];refine wpAny_bind (wpAny_load O ?_);dsimp only;rw [if_neg (by simp [unsetMember,rawInt]),if_neg (by simp [unsetMember,doubtfulMember,rawInt])]
 refine uj ?_;rw [if_pos rfl];refine wpAny_bind (Uz (wpAny_bind (wpAny_typeOf (Z _ _ _ _) ?_)));show wpAny (model prog w) A (layMembers e 6 #[Value.str name (s.toks+1),o]) _ E _;unfold layMembers;refine wpAny_bind (wpAny_load O ?_);dsimp only;refine wpAny_update O ?_;have e3:=Heap.get?_update_self (Obj.mapFields fun vs=>vs.extract 0 6++ #[Value.str name (s.toks+1),o]) O rfl;have k3:∀b I,b≠e->h2.get? b=some I->(h2.update e (Obj.mapFields fun vs=>vs.extract 0 6++ #[Value.str name (s.toks+1),o])).get? b=some I:=fun b I hb q=>(Heap.get?_update_other _ _ (Uq hb)).trans q;exact wpAny_raiseNew_none hh (hq _ _ e (fun b I q=>k3 b I (ne b I (k1 b I q)) (k2 b I (k1 b I q))) ⟨_,e3,rfl⟩)
end
section
variable {prog:Program}{w:World}{A:Around}{E:Value->Shared->Prop}{h:Heap}{g:Array GenState}{d:Drawn}{t:Nat}{os:OsState}{a:Addr}{its:Array Value}{n:Nat}{sl:Array (Option Value)}
theorem nk_entry {tk:Tok}{Q:Fin->Shared->Prop}(O:A.handled=none)(R:h.get? a=some {cls:= .type "list",dict:=none,data:= .seq its n,slots:=sl})
  (U:∀h' I e,(∀b L,h.get? b=some L->h'.get? b=some L)->(∃M,h'.get? e=some M/\M.cls= .type "AttributeError")->E (.ref e) ⟨h',g,d,I,os⟩):
  wpAny (model prog w) A (Builtin.«object.__getattribute__» ⟨[.ref a,.str "keys" tk],[]⟩) Q E ⟨h,g,d,t,os⟩:=by
 have Y:(⟨h,g,d,t,os⟩:Shared).TypeIs (.ref a) "list":=⟨_,R,rfl⟩;have Z:=lk_keys
 repeat (any_goals (first|assumption|wp_step))
 exact raise_attr O (by rw [uL];decide+kernel) U
theorem nk_call {tk:Tok}{R:Result->Shared->Prop}(U:A.handled=none)(L:h.get? a=some {cls:= .type "list",dict:=none,data:= .seq its n,slots:=sl})
  (Y:∀h' I e,(∀b M,h.get? b=some M->h'.get? b=some M)->(∃O,h'.get? e=some O/\O.cls= .type "AttributeError")->R (.error (.ref e)) ⟨h',g,d,I,os⟩):
  codeAny (model prog w) A (.call (.builtin "list.__getattribute__") ⟨[.ref a,.str "keys" tk],[]⟩) R ⟨h,g,d,t,os⟩:=
 codeAny_call_builtin F.slot_list_getattribute.plain F.entry_list_ga (F.slot_list_getattribute.check _ _ _ _ _ _ _ _ (show(⟨h,g,d,t,os⟩:Shared).TypeIs (.ref a) "list" from⟨_,L,rfl⟩) (F.args_list_getattribute_2 _ _) (nk_entry U L Y))
theorem no_keys {Q:Option Value->Shared->Prop}(R:A.handled=none)(L:h.get? a=some {cls:= .type "list",dict:=none,data:= .seq its n,slots:=sl})
  (U:∀h' I,(∀b M,h.get? b=some M->h'.get? b=some M)->Q none ⟨h',g,d,I,os⟩):wpAny (model prog w) A (getAttr? (.ref a) "keys") Q E ⟨h,g,d,t,os⟩:=by
 have Y:∀t,(⟨h,g,d,t,os⟩:Shared).TypeIs (.ref a) "list":=fun t=>⟨_,L,rfl⟩;unfold getAttr? getAttrBy?;refine wpAny_bind (wpAny_mkText (wpAny_bind (UG ?_)));unfold getAttrBy;refine wpAny_holding (wpAny_bind (wpAny_typeOf (Y _) ?_));rw [F.slot_list_getattribute.lookup];refine wpAny_bind (uj ?_);show wpAny (model prog w) A (getAttrByItsOwn (.ref a) _ (.type "list") (.builtin "list.__getattribute__") false false) _ _ _;unfold getAttrByItsOwn;refine wpAny_bind (m:=hookBefore _) (uj ?_);refine wpAny_bind (UG (wpAny_holding ?_));show wpAny (model prog w) A (boundAndCalled (.builtin "list.__getattribute__") (.ref a) _) _ _ _;unfold boundAndCalled;rw [F.slot_list_getattribute.bind];refine wpAny_bind (uj (wpAny_call (nk_call R L fun h' I e k ⟨oe,Z,e2⟩=> ?_)));have O:∀t,(⟨h',g,d,t,os⟩:Shared).TypeIs (.ref e) "AttributeError":=fun t=>⟨_,Z,e2⟩;show wpAny (model prog w) A (getattributeRaised (.ref a) _ (.type "list") (.ref e) none false false) _ _ ⟨h',g,d,I,os⟩;unfold getattributeRaised;refine wpAny_bind (Ut (O _) ZG ?_);rw [if_pos rfl];have lg:hookBehind (.type "list") none=pure none:=by
  show typeLookup (.type "list") "__getattr__"=pure none;rw [typeLookup_type,builtinLookup_eq_fast]
  kernel_rfl
 rw [lg];refine wpAny_bind (uj ?_);show wpAny (model prog w) A (attributeErrorLeaves (.ref a) _ (.ref e) false false) _ _ _;unfold attributeErrorLeaves;refine wpAny_throw ?_;refine wpAny_bind (Ut (O _) ZG ?_);rw [if_pos rfl];exact uj (U h' I k)
end
theorem zC:entryFor table "dict.update.loop"=some Builtin.«dict.update.loop»:=entryFor_of_fast (by kernel_rfl)
theorem jd:plainId "dict.update.loop"=true:=by decide+kernel
section
variable {prog:Program}{w:World}{A:Around}{E:Value->Shared->Prop}{K:Type}[DecidableEq K]{knd:KeyKind prog w K}
def addAll (cur:List (K×Value)):List (K×Value)->List (K×Value)
 | []=>cur
 |p::r=>addAll (stored cur p.1 p.2) r
structure PairAt (h:Heap)(d it:Addr)(v:Value)(p:K×Value):Prop where
 at_:∃(t:Addr) (o:Obj) (k:Value) (n:Nat),v= .ref t/\t≠d/\t≠it/\h.get? t=some o/\o.cls= .type "tuple"/\o.data= .seq #[k,p.2] n/\knd.is p.1 k=true
theorem pairs_loop (hh:A.handled=none){d it l:Addr}{items:Array Value}{ps:List (K×Value)}{R:Result->Shared->Prop}(ak:d≠l)(al:it≠l)(O:d≠it)(hn:items.size=ps.length)(hz:2*ps.length<=sizeLine)(res:Value):
  ∀(m i:Nat) (s:Shared) (I:List (K×Value)),i+m=ps.length->s.heap.IsListIter it l i->s.heap.IsList l items->s.heap.DictOf knd d I->I.length<=i->
  (∀(j:Nat) (v:Value) (p:K×Value),items[j]? =some v->ps[j]? =some p->PairAt (knd:=knd) s.heap d it v p)->
  (∀h' U,h'.DictOf knd d (addAll I (ps.drop i))->(∀b o,b≠d->b≠it->s.heap.get? b=some o->h'.get? b=some o)->R (.ok (.ret res)) {s with heap:=h',toks:=U})->
  codeAny (model prog w) A (.builtin "dict.update.loop" ⟨[.ref d,.ref it,rawInt i,res],[]⟩) R s:=by
 intro m
 induction m with
 |zero=>
  intro i s I hm Y hl hd hc hp hR;refine codeAny_builtin zC ?_;rw [Around.under_plainId jd _];show wpAny _ A.in1 (pyNext (.ref it)>>=_) _ _ s;refine wpAny_bind (wpAny_pyNext_list_end (A:=A.in1) hh Y hl (by rw [Array.getElem?_eq_none (by omega)]) fun h' eb=> ?_)
  have Z:h'.DictOf knd d I:=by
   obtain⟨o,es,ep,ho,r⟩:=hd;exact⟨o,es,ep,eb d o O ho,r⟩
  have:=hR h' s.toks (by rw [List.drop_eq_nil_of_le (by omega)];exact Z) fun b o M L e=>eb b o L e
  show wpAny (model prog w) A.in1 (Dict.addKeywords d []>>=fun _=>ret res) _ _ _;refine wpAny_bind (m:=Dict.addKeywords d []) (uj ?_);exact uj this
 |succ m ih=>
  intro i s I hm Y hl hd hc hp hR;refine codeAny_builtin zC ?_;rw [Around.under_plainId jd _];have hi:i<items.size:=by omega
  have ab:i<ps.length:=by omega
  have hx:items[i]? =some items[i]:=Array.getElem?_eq_getElem hi;have am:ps[i]? =some ps[i]:=ul ab;obtain⟨t,o,k,n,ev,aw,ao,ho,ap,aq,hk⟩:=(hp i _ _ hx am).at_;rw [ev] at hx;show wpAny _ A.in1 (pyNext (.ref it)>>=_) _ _ s;refine wpAny_bind (wpAny_pyNext_list_item (A:=A.in1) Y hl hx fun h1 ac aa=> ?_);have ad:h1.get? t=some o:=(aa.2 t ao).trans ho;have hT:(({s with heap:=h1}:Shared)).TypeIs (.ref t) "tuple":=⟨_,ad,ap⟩
  have ae:h1.DictOf knd d I:=hd.sameBut aa O;dsimp only;refine wpAny_bind (wpAny_holding (wpAny_bind (wpAny_tryCatch ?_)));unfold Dict.pairItems;refine wpAny_bind (wpAny_typeOf hT ?_);rw [if_pos (by decide)]
  refine wpAny_bind ?_;unfold seqItems?;refine wpAny_bind (wpAny_load ad ?_);rw [aq];refine uj (uj ?_);show wpAny (model prog w) A.in1 (holding [k,ps[i].2] (dictSet d k ps[i].2)) _ _ _;refine wpAny_holding (wpAny_dictSet_pairs hk ae (fun h2 au af=> ?_) (by omega))
  have ag:h2.IsListIter it l (i+1):=by
   obtain⟨oi,e,c⟩:=ac;exact⟨oi,(af.2 it (Uq O)).trans e,c⟩
  have keep:∀b ob,b≠d->b≠it->s.heap.get? b=some ob->h2.get? b=some ob:=fun b ob M L e=>(af.2 b M).trans ((aa.2 b L).trans e);have av:h2.IsList l items:=by
   obtain⟨ol,e,c⟩:=hl;exact⟨ol,keep l ol (Uq ak) (Uq al) e,c⟩
  refine uj ⟨plainId_quiet jd _,?_⟩;have ah:(stored I ps[i].1 ps[i].2).length<=i+1:=by
   unfold stored;split
   ·rw [uf];omega
   ·rw [ug];show I.length+1<=i+1;omega
  refine ih (i+1) _ _ (by omega) ag av au ah (fun j v p h1 h2=> ?_) fun h' U Z kp=> ?_
  ·obtain⟨t',o',k',n',e1,e2,e3,e4,e5⟩:=(hp j v p h1 h2).at_;exact⟨⟨t',o',k',n',e1,e2,e3,keep t' o' e2 e3 e4,e5⟩⟩
  ·refine hR h' U ?_ fun b ob M L e=>kp b ob M L (keep b ob M L e);rw [vd ab];exact Z
theorem dict_pairs (hh:A.handled=none){s:Shared}{l:Addr}{items:Array Value}{n:Nat}{sl:Array (Option Value)}{ps:List (K×Value)}{Q:Value->Shared->Prop}(hl:s.heap.get? l=some {cls:= .type "list",dict:=none,data:= .seq items n,slots:=sl})(hn:items.size=ps.length)(hz:2*ps.length<=sizeLine)
  (hp:∀(j:Nat) (v:Value) (p:K×Value),items[j]? =some v->ps[j]? =some p->∃(t:Addr) (o:Obj) (k:Value) (n:Nat),v= .ref t/\s.heap.get? t=some o/\o.cls= .type "tuple"/\o.data= .seq #[k,p.2] n/\knd.is p.1 k=true)
  (hQ:∀h' O,h'.DictOf knd s.heap.objs.size (addAll [] ps)->(∀b o,s.heap.get? b=some o->h'.get? b=some o)->Q (.ref s.heap.objs.size) {s with heap:=h',toks:=O}):
  wpAny (model prog w) A (call (.type "dict") [.ref l]) Q E s:=by
 refine callType_codes (Q₁:=fun obj s₁=>obj= .ref s.heap.objs.size/\s₁={s with heap:=s.heap.push {cls:= .type "dict",data:= .dict #[]}}) F.kt_called_dict (F.kt_typeCall_dict_1 _) F.entry_dict_init (kt_code_dict_new _ ⟨rfl,rfl⟩) ?_
 rintro obj s₁ ⟨rfl,rfl⟩;have L:(s.heap.push {cls:= .type "dict",data:= .dict #[]}).DictOf knd s.heap.objs.size []:=Heap.DictOf.new s.heap;refine⟨L.typeIs,F.args_dict_init_2 _ _,?_⟩;unfold Builtin.«dict.__init__»;refine wpAny_bind ?_;unfold Builtin.Dict.selfAndRest;refine wpAny_bind (wpAny_notOrdered_dict L.typeIs ?_);refine(show wpAny _ _ (pure (s.heap.objs.size,[Value.ref l])) _ _ _ from ?_)
 refine uj ?_;refine(show wpAny _ _ (Builtin.Dict.updateFrom "dict.__init__" s.heap.objs.size (.ref l) [] .none) _ _ _ from ?_)
 unfold Builtin.Dict.updateFrom;have M:(s.heap.push {cls:= .type "dict",data:= .dict #[]}).get? l=some {cls:= .type "list",dict:=none,data:= .seq items n,slots:=sl}:=ub _ hl;refine wpAny_bind (wpAny_typeOf (T:="list") ⟨_,M,rfl⟩ ?_);rw [if_pos (by decide)]
 refine wpAny_bind (no_keys (A:=A.in1.in1) hh M fun h2 ae k2=> ?_);rw [if_pos (show(none:Option Value).isNone=true from rfl)]
 have R:l<s.heap.objs.size:=uo hl;have Y:h2.IsList l items:=⟨_,k2 _ _ M,rfl,n,rfl⟩;refine wpAny_bind (Uz (wpAny_bind (wpAny_pyIter_list Y ?_)));have U:h2.DictOf knd s.heap.objs.size []:=by
  obtain⟨o,es,ep,Z,r⟩:=L;exact⟨o,es,ep,k2 _ _ Z,r⟩
 have I:s.heap.objs.size<h2.objs.size:=by
  obtain⟨o,es,ep,Z,r⟩:=U;exact uo Z
 have k1:∀b o,s.heap.get? b=some o->h2.get? b=some o:=fun b o e=>k2 b o (ub _ e);have k3:∀b o,h2.get? b=some o->(h2.push {cls:= .type "list_iterator",data:= .fields #[.ref l,.int 0 0]}).get? b=some o:=fun b o e=>ub _ e;have aa:(h2.push {cls:= .type "list_iterator",data:= .fields #[.ref l,.int 0 0]}).IsList l items:=⟨_,k3 _ _ (k2 _ _ M),rfl,n,rfl⟩;have ab:(h2.push {cls:= .type "list_iterator",data:= .fields #[.ref l,.int 0 0]}).DictOf knd s.heap.objs.size []:=U.push _;refine uj ⟨plainId_quiet jd _,pairs_loop (A:=A.in1) hh (d:=s.heap.objs.size) (it:=h2.objs.size) (l:=l) (items:=items) (ps:=ps) (U7 R) (U7 (Nat.lt_trans R I)) (uM I) hn hz .none ps.length 0 _ [] (by omega) ⟨_,uw _ rfl,rfl,rfl⟩ aa ab (ui _) (fun j v p h1 ac=> ?_) fun h' O ad kp=> ?_⟩
 ·obtain⟨t,o,k,n',e1,e2,e3,e4,e5⟩:=hp j v p h1 ac;have ht:=uo e2;exact⟨⟨t,o,k,n',e1,uM ht,uM (Nat.lt_trans ht I),k3 _ _ (k1 _ _ e2),e3,e4,e5⟩⟩
 ·refine⟨rfl,hQ h' O ad fun b o e=> ?_⟩;have hb:=uo e;exact kp b o (uM hb) (uM (Nat.lt_trans hb I)) (k3 _ _ (k1 _ _ e))
end
end PySem.AwK
namespace L2
open PySem PySem.Spec PyProof.Rows
section
variable {X:Cx}
def inrK (ps:List (Str×V)):List (Key×V):=ps.map fun p=>(Sum.inr p.1,p.2)
theorem inrK_keys (ps:List (Str×V)):(inrK ps).map (·.1)=(ps.map (·.1)).map Sum.inr:=by
 unfold inrK;rw [uN,uN]
 rfl
theorem stored_new {kvs:List (Key×Value)}{k:Key}{v:Value}(h:k∉kvs.map (·.1)):stored kvs k v=kvs++ [(k,v)]:=by
 unfold stored;rw [if_neg];intro q;obtain⟨p,I,e⟩:=List.any_eq_true.mp q;exact h (List.mem_map.mpr ⟨p,I,ud e⟩)
theorem zn:∀{ps I:List (Key×Value)},((I++ps).map (·.1)).Nodup->AwK.addAll I ps=I++ps
 | [],I,_=>(vQ I).symm
 |p::r,I,h=>by
  unfold AwK.addAll;have L:p.1∉I.map (·.1):=by
   rw [uF,uk] at h;intro q;exact(List.nodup_append.mp h).2.2 _ q _ uE rfl
  rw [stored_new L,zn (by rw [List.append_assoc];exact h),List.append_assoc]
  rfl
theorem pairs_are {P:Program}{w:World}{H:Hp}{h:Heap}(ok:HOk P w H h):∀{ts:List Addr}{ps:List (Str×V)},ts.length=ps.length->(∀(i:Nat) (t:Addr) (p:Str×V),ts[i]? =some t->ps[i]? =some p->H t=some (.tup [.str p.1,p.2]))->
  ∃pv:List (Key×Value),KV (inrK ps) pv/\∀(j:Nat) (v:Value) (p:Key×Value),(ts.map Value.ref)[j]? =some v->pv[j]? =some p->∃(t:Addr) (o:Obj) (k:Value) (n:Nat),v= .ref t/\h.get? t=some o/\o.cls= .type "tuple"/\o.data= .seq #[k,p.2] n/\(Qu P w).is p.1 k=true
 | [],[],_,_=>⟨[],.nil,fun j v p e=>by simp at e⟩
 |t::ts,p::ps,hl,hp=>by
  obtain⟨pv,h1,h2⟩:=pairs_are ok (ts:=ts) (ps:=ps) (by simpa using hl) fun i t' M I L=>hp (i+1) t' M (by simpa using I) (by simpa using L)
  obtain⟨_,its,rv,o,O,R,n,hd⟩:=(show Q2 P w H h t (.tup [.str p.1,p.2]) from ok t _ (hp 0 t p rfl rfl))
  cases rv with
  |cons U rv=>
  cases rv with
  |cons Y rv=>
  cases rv with
  |nil=>
  obtain⟨tk,rfl⟩:=U
  rename_i u
  refine⟨(Sum.inr p.1,u)::pv,.cons ⟨rfl,Y⟩ h1,fun j v q I L=> ?_⟩;cases j with
  |zero=>
   simp only [uk,List.getElem?_cons_zero,Option.some.injEq] at I L;subst I L;exact⟨t,o,_,n,rfl,O,R,hd,XF _ _ _ _⟩
  |succ j=>exact h2 j v q (by simpa using I) (by simpa using L)
 | [],_::_,hl,_=>by simp at hl
 |_::_,[],hl,_=>by simp at hl
def PairsL (H:Hp)(l:Addr)(ps:List (Str×V)):Prop:=∃ts:List Addr,H l=some (.lst (ts.map V.ref))/\ts.length=ps.length/\∀(i:Nat) (t:Addr) (p:Str×V),ts[i]? =some t->ps[i]? =some p->H t=some (.tup [.str p.1,p.2])
theorem dict_of {pins:List (Addr×Obj)}{σ:St}{H:Hp}{s:Shared}{l:Addr}{ps:List (Str×V)}{Q:Value->Shared->Prop}(U:X.calm=true)(I:Inv X pins σ H s)(Y:PairsL H l ps)(hn:(ps.map (·.1)).Nodup)(hz:ps.length<=1000)
  (h:∀h' L pv,0<L->(∀b o,s.heap.get? b=some o->h'.get? b=some o)->KV (inrK ps) pv->h'.DictOf (Qu X.prog X.w) s.heap.objs.size pv->Q (.ref s.heap.objs.size) {s with heap:=h',toks:=L}):
  wpAny (model X.prog X.w) X.A (call (.type "dict") [.ref l]) Q X.xe s:=by
 obtain⟨ts,Z,e2,e3⟩:=Y;obtain⟨_,its,n,rv,ho⟩:=(show Q2 X.prog X.w H s.heap l (.lst (ts.map V.ref)) from I.hok l _ Z)
 cases vals_refs rv;obtain⟨pv,r,hp⟩:=pairs_are I.hok e2 e3;have aa:pv.length=ps.length:=by
  rw [<-r.length];unfold inrK;rw [uf]
 have O:(pv.map (·.1)).Nodup:=by
  rw [<-r.keys,inrK_keys];exact List.Pairwise.map _ (fun a b R e=>R (Sum.inr.inj e)) hn
 refine uU (n:=1) I.tk ?_;refine AwK.dict_pairs (knd:=Qu X.prog X.w) (I.ok.hd U) (ps:=pv) ho (by rw [ue,uf];omega) (by rw [uL];omega) (fun j v p h1 h2=>hp j v p (by simpa using h1) h2) fun h' L M kp=> ?_
 rw [zn (by simpa using O),List.nil_append] at M
 exact fun htk=>h h' L pv htk kp r M
theorem zQ (R:X.calm=true):Yh X (.type "dict") (fun xs H Q=>∃(l:Addr) (ps:List (Str×V)),xs= [.ref l]/\PairsL H l ps/\(ps.map (·.1)).Nodup/\ps.length<=1000/\∀q,H q=none->Q (.ref q) (upd H q (.dK (inrK ps)))):=by
 intro pins s σ H xs us Q I r h;obtain⟨l,ps,rfl,U,hn,Y,q⟩:=h;obtain⟨u,rfl,ru⟩:=jN r;cases ru;refine dict_of R I U hn Y fun h' Z pv htk kp L dd=> ?_;have M:(s.heap.objs.size==sysModules)=false:=by
  rw [beq_eq_false_iff_ne];exact U7 I.big
 have O:(inrK ps).length<=sizeLine:=by unfold inrK;rw [uf,uL];omega
 exact⟨.ref s.heap.objs.size,_,I.laid kp (ui _) (dk_new O M L dd),rfl,q _ I.fresh⟩
end
mutual
def puD:D->Bool
 | .str _=>true
 | .int _=>true
 | .tup xs=>puL xs
 |_=>false
def puL:List D->Bool
 | []=>true
 |x::r=>puD x&&puL r
end
mutual
def eqD:D->D->Bool
 | .str a,.str b=>a==b
 | .int a,.int b=>a==b
 | .tup xs,.tup ys=>eqL xs ys
 |_,_=>false
def eqL:List D->List D->Bool
 | [],[]=>true
 |x::r,y::q=>eqD x y&&eqL r q
 |_,_=>false
end
mutual
theorem eqD_iff:∀{d e:D},puD d=true->(eqD d e=true↔d=e)
 | .str a,e,_=>by cases e<;>simp [eqD]
 | .int a,e,_=>by cases e<;>simp [eqD]
 | .tup xs,.tup ys,h=>by
  have:=eqL_iff (xs:=xs) (ys:=ys) (by simpa [puD] using h)
  simp only [eqD,this,D.tup.injEq]
 | .tup xs,.non,_=>by simp [eqD]
 | .tup xs,.bl _,_=>by simp [eqD]
 | .tup xs,.int _,_=>by simp [eqD]
 | .tup xs,.str _,_=>by simp [eqD]
 | .tup xs,.lst,_=>by simp [eqD]
 | .tup xs,.dct,_=>by simp [eqD]
 | .non,_,h=>by simp [puD] at h
 | .bl _,_,h=>by simp [puD] at h
 | .lst,_,h=>by simp [puD] at h
 | .dct,_,h=>by simp [puD] at h
theorem eqL_iff:∀{xs ys:List D},puL xs=true->(eqL xs ys=true↔xs=ys)
 | [],[],_=>by simp [eqL]
 | [],_::_,_=>by simp [eqL]
 |_::_,[],_=>by simp [eqL]
 |x::r,y::q,h=>by
  have h':puD x=true/\puL r=true:=by simpa [puL] using h
  simp only [eqL,um,eqD_iff h'.1,eqL_iff h'.2,List.cons.injEq]
end
mutual
theorem Is.det {H:Hp}:∀{d e:D}{v:V},puD d=true->puD e=true->Is H d v->Is H e v->d=e
 | .str a,e,v,_,he,h1,h2=>by
  obtain⟨rfl,_⟩:=(show v= .str a/\_ from h1)
  cases e with
  |str b=>obtain⟨q,_⟩:=(show V.str a=V.str b/\_ from h2);cases q;rfl
  |int b=>cases(show V.str a=V.int b from h2)
  |tup ys=>obtain⟨p,us,q,_⟩:=(show∃p us,V.str a=V.ref p/\_ from h2);cases q
  |_=>simp [puD] at he
 | .int a,e,v,_,he,h1,h2=>by
  cases(show v= .int a from h1)
  cases e with
  |str b=>obtain⟨q,_⟩:=(show V.int a=V.str b/\_ from h2);cases q
  |int b=>cases(show V.int a=V.int b from h2);rfl
  |tup ys=>obtain⟨p,us,q,_⟩:=(show∃p us,V.int a=V.ref p/\_ from h2);cases q
  |_=>simp [puD] at he
 | .tup xs,e,v,hd,he,h1,h2=>by
  obtain⟨p,vs,rfl,O,R⟩:=(show∃p vs,v=V.ref p/\H p=some (.tup vs)/\IsL H xs vs from h1)
  cases e with
  |str b=>obtain⟨q,_⟩:=(show V.ref p=V.str b/\_ from h2);cases q
  |int b=>cases(show V.ref p=V.int b from h2)
  |tup ys=>
   obtain⟨L,us,q,I,M⟩:=(show∃L us,V.ref p=V.ref L/\H L=some (.tup us)/\IsL H ys us from h2)
   cases q;rw [O] at I;cases I;rw [IsL.det (by simpa [puD] using hd) (by simpa [puD] using he) R M]
  |_=>simp [puD] at he
 | .non,_,_,hd,_,_,_=>by simp [puD] at hd
 | .bl _,_,_,hd,_,_,_=>by simp [puD] at hd
 | .lst,_,_,hd,_,_,_=>by simp [puD] at hd
 | .dct,_,_,hd,_,_,_=>by simp [puD] at hd
theorem IsL.det {H:Hp}:∀{xs ys:List D}{vs:List V},puL xs=true->puL ys=true->IsL H xs vs->IsL H ys vs->xs=ys
 | [],[],_,_,_,_,_=>rfl
 | [],_::_,_,_,_,h1,h2=>by
  cases(show _= [] from h1)
  obtain⟨v,r,q,_⟩:=(show∃v r,[]=v::r/\_ from h2)
  cases q
 |_::_,[],_,_,_,h1,h2=>by
  cases(show _= [] from h2)
  obtain⟨v,r,q,_⟩:=(show∃v r,[]=v::r/\_ from h1)
  cases q
 |x::xs,y::ys,_,hd,he,h1,h2=>by
  obtain⟨v,r,rfl,M,O⟩:=h1;obtain⟨R,U,q,b1,b2⟩:=h2;cases q;have I:puD x=true/\puL xs=true:=by simpa [puL] using hd
  have L:puD y=true/\puL ys=true:=by simpa [puL] using he
  rw [Is.det I.1 L.1 M b1,IsL.det I.2 L.2 O b2]
end
theorem eqL_all:∀(xs ys:List D),eqL xs ys=((List.range (min xs.length ys.length)).all (fun j=>eqD (xs.getD j .non) (ys.getD j .non))&&xs.length==ys.length)
 | [],[]=>by simp [eqL]
 | [],_::_=>by simp [eqL]
 |_::_,[]=>by simp [eqL]
 |x::r,y::q=>by
  have I:=eqL_all r q;rw [uh,uh,show min (r.length+1) (q.length+1)=min r.length q.length+1 by omega,List.range_succ_eq_map,vy,vH]
  have e:(List.range (min r.length q.length)).all ((fun j=>eqD ((x::r).getD j .non) ((y::q).getD j .non))∘Nat.succ)=(List.range (min r.length q.length)).all fun j=>eqD (r.getD j .non) (q.getD j .non):=by congr 1
  rw [e];have L:(r.length+1==q.length+1)=(r.length==q.length):=by rw [vG];simp
  rw [L,Bool.and_assoc,<-I]
  rfl
section
variable {X:Cx}{pins:List (Addr×Obj)}{σ:St}{H:Hp}{s:Shared}
theorem eqAt_str (I:Inv X pins σ H s){z:Str}{t:Tok}{e:D}{u:V}{b:Value}{A:Around}(M:puD e=true)(h2:Is H e u)(L:RelV u b)(O:A.units<cLine):SeqAt.EqAt A s (.str z t) b (eqD (.str z) e):=by
 cases e with
 |str y=>
  obtain⟨rfl,_⟩:=(show u= .str y/\_ from h2)
  obtain⟨R,rfl⟩:=L;exact UF _ _ _ _
 |int y=>
  cases(show u= .int y from h2)
  obtain⟨R,rfl⟩:=L;exact UC _ _ _ _
 |tup ys=>
  obtain⟨p,us,rfl,U,Y⟩:=(show∃p us,u=V.ref p/\H p=some (.tup us)/\IsL H ys us from h2)
  cases L;obtain⟨its,_,q,_⟩:=I.tuple (.inl (.of U));exact SeqAt.EqAt.str_tuple _ _ q O
 |_=>simp [puD] at M
theorem eqAt_int (I:Inv X pins σ H s){z:Int}{t:Tok}{e:D}{u:V}{b:Value}{A:Around}(M:puD e=true)(h2:Is H e u)(L:RelV u b)(O:A.units<cLine):SeqAt.EqAt A s (.int z t) b (eqD (.int z) e):=by
 cases e with
 |str y=>
  obtain⟨rfl,_⟩:=(show u= .str y/\_ from h2)
  obtain⟨R,rfl⟩:=L;exact UB _ _ _ _
 |int y=>
  cases(show u= .int y from h2)
  obtain⟨R,rfl⟩:=L;exact UE _ _ _ _
 |tup ys=>
  obtain⟨p,us,rfl,U,Y⟩:=(show∃p us,u=V.ref p/\H p=some (.tup us)/\IsL H ys us from h2)
  cases L;obtain⟨its,_,q,_⟩:=I.tuple (.inl (.of U));exact SeqAt.EqAt.int_tuple _ _ q O
 |_=>simp [puD] at M
theorem Xw:∀{xs:List D}{j:Nat}{x:D},puL xs=true->xs[j]? =some x->puD x=true
 | [],_,_,_,e=>by simp at e
 |y::r,0,x,h,e=>by
  have h':puD y=true/\puL r=true:=by simpa [puL] using h
  have:y=x:=by simpa using e
  exact this▸h'.1
 |y::r,j+1,x,h,e=>by
  have h':puD y=true/\puL r=true:=by simpa [puL] using h
  exact Xw h'.2 (by simpa using e)
theorem eqAt_tup (I:Inv X pins σ H s){xs:List D}{e:D}{v u:V}{a b:Value}{A:Around}(hd:puD (.tup xs)=true)(Y:puD e=true)(h1:Is H (.tup xs) v)(h2:Is H e u)(r1:RelV v a)(R:RelV u b)(Z:A.units<cLine)
  (ih:∀x∈xs,∀(e:D) (v u:V) (a b:Value),puD x=true->puD e=true->Is H x v->Is H e u->RelV v a->RelV u b->SeqAt.EqAt A.in1 s a b (eqD x e)):SeqAt.EqAt A s a b (eqD (.tup xs) e):=by
 obtain⟨p,vs,rfl,hp,hl⟩:=(show∃p vs,v=V.ref p/\H p=some (.tup vs)/\IsL H xs vs from h1)
 cases r1;obtain⟨its,rv,q,_⟩:=I.tuple (.inl (.of hp));cases e with
 |str y=>
  obtain⟨rfl,_⟩:=(show u= .str y/\_ from h2)
  obtain⟨t2,rfl⟩:=R;exact SeqAt.EqAt.tuple_str _ _ q Z
 |int y=>
  cases(show u= .int y from h2)
  obtain⟨t2,rfl⟩:=R;exact SeqAt.EqAt.tuple_int _ _ q Z
 |tup ys=>
  by_cases hv:V.ref p=u
  ·have:=Is.det (e:= .tup ys) hd Y h1 (hv▸h2);subst hv;cases R;rw [<-this,(eqD_iff hd).mpr rfl];exact Um _
  ·obtain⟨p',us,rfl,aa,L⟩:=(show∃p' us,u=V.ref p'/\H p'=some (.tup us)/\IsL H ys us from h2)
   cases R;obtain⟨its',M,q',_⟩:=I.tuple (.inl (.of aa));have l1:its.length=xs.length:=by rw [<-rv.length,hl.length]
   have l2:its'.length=ys.length:=by rw [<-M.length,L.length]
   have ab:puL xs=true:=by simpa [puD] using hd
   have ac:puL ys=true:=by simpa [puD] using Y
   have ad:=U4 (e:=fun j=>eqD (xs.getD j .non) (ys.getD j .non)) q q' Z fun j a1 a2=>by
    have O:j<xs.length:=by rw [<-l1];simpa using a1
    have U:j<ys.length:=by rw [<-l2];simpa using a2
    obtain⟨v1,e1,i1⟩:=hl.get (i:=j) (d:=xs[j]) (by simp [O])
    obtain⟨v2,e2,i2⟩:=L.get (i:=j) (d:=ys[j]) (by simp [U])
    obtain⟨b1,f1,g1⟩:=rv.get e1;obtain⟨b2,f2,g2⟩:=M.get e2;have k1:its.toArray[j]=b1:=by
     have:=f1;rw [ul (by rw [l1];exact O)] at this
     simpa using this
    have k2:its'.toArray[j]=b2:=by
     have:=f2;rw [ul (by rw [l2];exact U)] at this
     simpa using this
    have d1:xs.getD j .non=xs[j]:=by simp [List.getD,O]
    have d2:ys.getD j .non=ys[j]:=by simp [List.getD,U]
    show SeqAt.EqAt _ s _ _ (eqD (xs.getD j .non) (ys.getD j .non));rw [k1,k2,d1,d2];exact ih _ (vN O) _ _ _ _ _ (Xw (j:=j) ab (by simp [O])) (Xw (j:=j) ac (by simp [U])) i1 i2 g1 g2
   have e1:eqD (.tup xs) (.tup ys)=((List.range (min its.toArray.size its'.toArray.size)).all (fun j=>eqD (xs.getD j .non) (ys.getD j .non))&&its.toArray.size==its'.toArray.size):=by
    rw [ue,ue,l1,l2,<-eqL_all];simp only [eqD]
   rw [e1];exact SeqAt.EqAt.of_refs (fun z=>hv (by rw [z])) ad
 |_=>simp [puD] at Y
theorem eqAt_D (I:Inv X pins σ H s):∀(n:Nat) (d e:D) (v u:V) (a b:Value) (A:Around),dp d<=n->puD d=true->puD e=true->Is H d v->Is H e u->RelV v a->RelV u b->A.units+n<cLine->SeqAt.EqAt A s a b (eqD d e):=by
 intro n
 induction n with
 |zero=>
  intro d e v u a b A hn hd M h1 h2 O R U;cases d with
  |int z=>
   cases(show v= .int z from h1)
   obtain⟨t,rfl⟩:=O;exact eqAt_int I M h2 R U
  |str z=>simp [dp] at hn
  |tup xs=>simp [dp] at hn
  |_=>simp [puD] at hd
 |succ n Y=>
  intro d e v u a b A hn hd M h1 h2 O R U;have L:A.units<cLine:=vV (Uu _ _) U;cases d with
  |int z=>
   cases(show v= .int z from h1)
   obtain⟨t,rfl⟩:=O;exact eqAt_int I M h2 R L
  |str z=>
   obtain⟨rfl,_⟩:=(show v= .str z/\_ from h1)
   obtain⟨t,rfl⟩:=O;exact eqAt_str I M h2 R L
  |tup xs=>
   have hm:dpL xs<=n:=by
    have:dp (.tup xs)=1+dpL xs:=by simp only [dp]
    omega
   exact eqAt_tup I hd M h1 h2 O R L fun x Z e v u a b k1 k2 k3 k4 k5 k6=>Y x e v u a b A.in1 ((Yz xs).mp hm x Z) k1 k2 k3 k4 k5 k6 (by rw [uJ];omega)
  |_=>simp [puD] at hd
end
section
variable {X:Cx}
def trD:D->Bool
 | .str _=>true
 | .tup xs=>puL xs
 |_=>false
theorem parts_eq {pins:List (Addr×Obj)}{σ:St}{H:Hp}{s:Shared}(I:Inv X pins σ H s){A:Around}{n:Nat}{xs ys:List D}{vs us:List V}{its its':List Value}(hn:dpL xs<=n)(hd:puL xs=true)(he:puL ys=true)(U:IsL H xs vs)(L:IsL H ys us)(rv:Vals vs its)(M:Vals us its')(hu:A.units+n<cLine):
  ∀j (Y:j<its.toArray.size) (Z:j<its'.toArray.size),SeqAt.EqAt A s its.toArray[j] its'.toArray[j] (eqD (xs.getD j .non) (ys.getD j .non)):=fun j Y Z=>by
 have l1:its.length=xs.length:=by rw [<-rv.length,U.length]
 have l2:its'.length=ys.length:=by rw [<-M.length,L.length]
 have O:j<xs.length:=by rw [<-l1];simpa using Y
 have R:j<ys.length:=by rw [<-l2];simpa using Z
 obtain⟨v1,e1,i1⟩:=U.get (i:=j) (d:=xs[j]) (by simp [O])
 obtain⟨v2,e2,i2⟩:=L.get (i:=j) (d:=ys[j]) (by simp [R])
 obtain⟨b1,f1,g1⟩:=rv.get e1;obtain⟨b2,f2,g2⟩:=M.get e2;have k1:its.toArray[j]=b1:=by
  have:=f1;rw [ul (by rw [l1];exact O)] at this
  simpa using this
 have k2:its'.toArray[j]=b2:=by
  have:=f2;rw [ul (by rw [l2];exact R)] at this
  simpa using this
 have d1:xs.getD j .non=xs[j]:=by simp [List.getD,O]
 have d2:ys.getD j .non=ys[j]:=by simp [List.getD,R]
 rw [k1,k2,d1,d2];exact eqAt_D I n _ _ _ _ _ _ A ((Yz xs).mp hn _ (vN O)) (Xw (j:=j) hd (by simp [O])) (Xw (j:=j) he (by simp [R])) i1 i2 g1 g2 hu
theorem rc_D {pins:List (Addr×Obj)}{σ:St}{H:Hp}{s:Shared}(I:Inv X pins σ H s){A:Around}{d e:D}{x y:V}{v u:Value}(h1:Is H d x)(h2:Is H e y)(p1:trD d=true)(p2:trD e=true)(hn:dp d<=60)(rx:RelV x v)(R:RelV y u)(hu:A.units+64<cLine):
  SeqAt.RcAt A s v u (eqD d e)/\SeqAt.RcNeAt A s v u (!eqD d e):=by
 have L:A.units<cLine:=by omega
 cases d with
 |str z=>
  obtain⟨rfl,_⟩:=(show x= .str z/\_ from h1)
  obtain⟨t,rfl⟩:=rx;cases e with
  |str w=>
   obtain⟨rfl,_⟩:=(show y= .str w/\_ from h2)
   obtain⟨t2,rfl⟩:=R;exact⟨SeqAt.RcAt.str_str _ _ _ _,SeqAt.RcNeAt.str_str _ _ _ _⟩
  |tup ys=>
   obtain⟨p,us,rfl,U,Y⟩:=(show∃p us,y=V.ref p/\H p=some (.tup us)/\IsL H ys us from h2)
   cases R;obtain⟨its,_,q,_⟩:=I.tuple (.inl (.of U));exact⟨SeqAt.RcAt.str_tuple _ _ q L,SeqAt.RcNeAt.str_tuple _ _ q L⟩
  |_=>simp [trD] at p2
 |tup xs=>
  obtain⟨p,vs,rfl,U,Y⟩:=(show∃p vs,x=V.ref p/\H p=some (.tup vs)/\IsL H xs vs from h1)
  cases rx;obtain⟨its,rv,q,_⟩:=I.tuple (.inl (.of U));cases e with
  |str w=>
   obtain⟨rfl,_⟩:=(show y= .str w/\_ from h2)
   obtain⟨t2,rfl⟩:=R;exact⟨SeqAt.RcAt.tuple_str _ _ q L,SeqAt.RcNeAt.tuple_str _ _ q L⟩
  |tup ys=>
   obtain⟨Z,us,rfl,aa,M⟩:=(show∃Z us,y=V.ref Z/\H Z=some (.tup us)/\IsL H ys us from h2)
   cases R;obtain⟨its',O,q',_⟩:=I.tuple (.inl (.of aa));have hm:dpL xs<=60:=by
    have:dp (.tup xs)=1+dpL xs:=by simp only [dp]
    omega
   have l1:its.length=xs.length:=by rw [<-rv.length,Y.length]
   have l2:its'.length=ys.length:=by rw [<-O.length,M.length]
   have pe:=parts_eq I (A:=A.in1) hm (by simpa [trD] using p1) (by simpa [trD] using p2) Y M rv O (by rw [uJ];omega)
   have e1:eqD (.tup xs) (.tup ys)=((List.range (min its.toArray.size its'.toArray.size)).all (fun j=>eqD (xs.getD j .non) (ys.getD j .non))&&its.toArray.size==its'.toArray.size):=by
    rw [ue,ue,l1,l2,<-eqL_all];simp only [eqD]
   rw [e1];exact⟨U4 q q' L pe,SeqAt.RcNeAt.tuples q q' L pe⟩
  |_=>simp [trD] at p2
 |_=>simp [trD] at p1
def rCmpD (g:Bool->Bool):V->V->Hp->VK->Prop:=fun x y H Q=>∃d e:D,Is H d x/\Is H e y/\trD d=true/\trD e=true/\dp d<=60/\Q (.bl (g (eqD d e))) H
theorem op_eqD (L:X.A.units+64<cLine):OpR X (compareOp .Eq) (rCmpD id):=by
 intro pins s σ H x y v u Q I M O h;obtain⟨d,e,h1,h2,p1,p2,hn,q⟩:=h;exact(rc_D I h1 h2 p1 p2 hn M O L).1 X.prog X.w X.xe _ ⟨.bl _,H,I,rfl,q⟩
end
theorem QK {X:Cx}:Yh X (.builtin "len") (fun xs H Q=>(∃z:Str,xs= [.str z]/\z.length<=sizeLine/\Q (.int z.length) H)∨∃p ys,xs= [.ref p]/\(SqL X.K H p ys∨SqT X.K H p ys)/\(ys.length<=sizeLine->Q (.int ys.length) H)):=by
 intro pins s σ H xs us Q I r h;rcases h with⟨z,e,L,q⟩|h
 ·exact xx pins s σ H xs us Q I r ⟨_,z.length,e,⟨L,rfl⟩,q⟩
 ·exact call_lenB pins s σ H xs us Q I r h
def gLstU (K:PySem.W.Frag)(n:Nat)(t:TGs):TG:=fun v σ H Q=>∃a xs,v= .ref a/\SqL K H a xs/\xs.length=n/\t xs σ H Q
theorem pg_lstU {X:Cx}{es:List Expr}{k:Nat}{t:TGs}{n:Nat}{pos:Pos}(O:X.calm=true)(h:PGs X es t)
  (hn:(assignEach es X.env).length=n:=by rfl) (L:(assignEach es X.env).findIdx? (·.1)=none:=by rfl):PG X (.Tuple es k pos) (gLstU X.K n t):=by
 intro pins s σ H v u Q I r M;obtain⟨a,xs,R,U,Y,M⟩:=M;subst R;cases r;obtain⟨its,rv,Z,hz⟩:=I.list U;rw [assign_Tuple];refine wpAny_bind (wpAny_standAt ?_);unfold unpack;rw [L,hn,<-Y,show xs.length=its.toArray.size by simp [rv.length]]
 refine wpAny_bind (wpAny_holding (PySem.W.kun_itemsOf (I.ok.hd O) Z.isList fun h' hx=> ?_));have I1:Inv X pins σ H {s with heap:=h'}:=I.kept (t':=s.toks) fun b o e=>hx b o (uM (uo e)) e
 exact h pins _ σ H xs _ Q I1 (by simpa using rv) M
theorem passF {X:Cx}:Js (CX1 X.prog X.w) X E0:=fun _ _ _ _ _ _ _ h=>by
 obtain⟨_,_,_,_,_,_,_,_,_,_,_,_,_,z⟩:=h;exact False.elim z
end L2
namespace L2
open PySem PyProof.Rows
theorem Tk.updD {H:Hp}{p:Addr}{xs ys:List (Key×V)}(h:H p=some (.dK xs)):Tk H (upd H p (.dK ys)):=by
 refine⟨fun b zs e=> ?_,fun b zs e=>⟨zs,?_⟩,fun b zs e=> ?_⟩
 ·rw [qy (fun z=>by rw [z,h] at e;cases e)];exact e
 ·rw [qy (fun z=>by rw [z,h] at e;cases e)];exact e
 ·by_cases z:b=p
  ·exact⟨ys,by rw [z];exact qg⟩
  ·exact⟨zs,by rw [qy z];exact e⟩
theorem Tk.updI {H:Hp}{p C dx L I:Addr}{xs ys:List (Str×V)}(h:H p=some (.ins C dx xs)):Tk H (upd H p (.ins L I ys)):=
 ⟨fun b zs e=>by rw [qy (fun z=>by rw [z,h] at e;cases e)];exact e,fun b zs e=>⟨zs,by rw [qy (fun z=>by rw [z,h] at e;cases e)];exact e⟩,fun b zs e=>⟨zs,by rw [qy (fun z=>by rw [z,h] at e;cases e)];exact e⟩⟩
def okHd:D->Bool
 | .non=>true
 |d=>trD d
section
variable {X:Cx}
def rEqM:V->V->Hp->VK->Prop:=fun x y H Q=>∃(d:D) (z:Str),Is H d x/\y= .str z/\z.length<=1000/\okHd d=true/\dp d<=60/\Q (.bl (eqD d (.str z))) H
theorem op_eqM (R:X.A.units+64<cLine):OpR X (compareOp .Eq) rEqM:=by
 intro pins s σ H x y v u Q I L M h;obtain⟨d,z,hd,rfl,Y,O,U,q⟩:=h;cases d with
 |non=>
  cases(show x= .non from hd)
  exact Qh pins s σ H .non (.str z) v u Q I L M ⟨rfl,by simpa [eqD] using q⟩
 |str a=>exact op_eqD R pins s σ H x _ v u Q I L M ⟨_,.str z,hd,⟨rfl,by rw [uL];omega⟩,O,rfl,U,q⟩
 |tup a=>exact op_eqD R pins s σ H x _ v u Q I L M ⟨_,.str z,hd,⟨rfl,by rw [uL];omega⟩,O,rfl,U,q⟩
 |_=>simp [okHd,trD] at O
def rInM (K:PySem.W.Frag):V->V->Hp->VK->Prop:=fun x y H Q=>∃(d:D) (p:Addr) (ls:List Str),Is H d x/\y= .ref p/\(SqL K H p (ls.map V.str)∨SqT K H p (ls.map V.str))/\(∀z∈ls,z.length<=1000)/\okHd d=true/\dp d<=60/\Q (.bl (ls.any fun z=>eqD d (.str z))) H
theorem flat_ss (us:List Str):(us.map V.str).all xh=true:=by
 rw [vH,List.all_eq_true];exact fun _ _=>rfl
theorem op_inM (hu:X.A.units+64<cLine):OpR X (compareOp .In) (rInM X.K):=by
 intro pins s σ H x y v u Q I Z ry h;obtain⟨d,p,L,hd,rfl,M,aa,hk,hp,q⟩:=h;cases d with
 |non=>
  cases(show x= .non from hd)
  refine Qq pins s σ H .non _ v u Q I Z ry ⟨p,_,rfl,M,rfl,flat_ss _,?_⟩;have e:inV .non (L.map V.str)=L.any fun z=>eqD .non (.str z):=by
   unfold inV;rw [List.any_map]
   rfl
  rw [if_neg ua,e];exact q
 |str a=>
  obtain⟨rfl,_⟩:=hd;refine Qq pins s σ H _ _ v u Q I Z ry ⟨p,_,rfl,M,rfl,flat_ss _,?_⟩;have e:inV (.str a) (L.map V.str)=L.any fun z=>eqD (.str a) (.str z):=by
   unfold inV;rw [List.any_map];refine congrArg (fun f=>L.any f) (funext fun z=> ?_);show(z==a)=(a==z);rw [vG,beq_iff_eq,beq_iff_eq];exact eq_comm
  rw [if_neg ua,e];exact q
 |tup xs=>
  have e:(L.any fun z=>eqD (.tup xs) (.str z))=false:=by
   rw [List.any_eq_false];intro z _;simp [eqD]
  rw [e] at q;obtain⟨Y,vs,rfl,ha,hl⟩:=hd;cases Z;cases ry;obtain⟨ab,ac,ad,_⟩:=I.tuple (.inl (.of ha));have ae:X.A.units<cLine:=by omega
  have O:∀{its:List Value},Vals (L.map V.str) its->∀w∈its,∀A:Around,A.units+1<cLine->SeqAt.EqAt A s w (.ref Y) false:=by
   intro its r w R A hA;obtain⟨j,hj⟩:=List.mem_iff_getElem?.mp R;have U:j<L.length:=by
    have:=(List.getElem?_eq_some_iff.mp hj).1;have:=r.length;rw [uf] at this;omega
   obtain⟨u',e1,e2⟩:=r.get (i:=j) (x:=V.str L[j]) (by rw [uI,ul U];rfl)
   rw [hj] at e1;cases e1;have:=eqAt_D I 1 (.str L[j]) (.tup xs) (.str L[j]) (.ref Y) _ (.ref Y) A (by simp [dp]) rfl (by simpa [okHd,trD,puD] using hk) ⟨rfl,by have:=aa _ (vN U);rw [uL];omega⟩ ⟨Y,vs,rfl,ha,hl⟩ e2 rfl (by omega)
   simpa [eqD] using this
  rcases M with M|M
  ·obtain⟨its,r,pl,hz⟩:=I.list M;refine SeqAt.in_listAt (fun _=>false) pl.isList (fun w R=>O r w (by simpa using R) _ ?_) ⟨.bl _,H,I,rfl,?_⟩
   ·first|omega|(rw [uJ];omega)|(rw [uJ,uJ];omega)|(rw [uJ,uJ,uJ];omega)
   ·rw [show its.toArray.any (fun _=>false)=false by rw [List.any_toArray];exact List.any_eq_false.mpr fun _ _=>ua]
    exact q
  ·obtain⟨its,r,pl,hz⟩:=I.tuple M;refine SeqAt.in_tupleAt (fun _=>false) pl (fun w R=>O r w (by simpa using R) _ ?_) ⟨.bl _,H,I,rfl,?_⟩
   ·first|omega|(rw [uJ];omega)|(rw [uJ,uJ];omega)|(rw [uJ,uJ,uJ];omega)
   ·rw [show its.toArray.any (fun _=>false)=false by rw [List.any_toArray];exact List.any_eq_false.mpr fun _ _=>ua]
    exact q
 |_=>simp [okHd,trD] at hk
end
end L2
namespace L2
open PySem PySem.Spec PyProof.Rows Builtin Builtin.Str
def tCallX (P:Program)(w:World)(K:PySem.W.Frag)(mg:Str->Option Value)(base:Heap)(k:Nat)(tf:TE)(t:TA):TE:=fun σ H Q=>tf σ H fun v H1=>∃(f:Addr) (fd:FuncData) (ps:List Str) (sp:Sp),v= .ref f/\
 FnOk P w K mg base CX0 k f fd ps sp/\jj K fd ps []/\PySem.W.keepIn K (.ref f)=true/\t σ H1 fun vs H2=>sp vs H2 Q E0
theorem pe_callX {X:Cx}{o i e:Expr}{es:List Expr}{L pos:Pos}{O:TE}{t:TA}{k:Nat}{P:Program}{w:World}{K:PySem.W.Frag}{mg:Str->Option Value}{base:Heap}(Y:X.prog=P/\X.w=w/\X.K=K/\X.mg=mg/\X.base=base)(Z:PE X (.Subscript o i L) O)(hr:Room k X.A)(ha:PA X (e::es) t)
  (he:starEach (e::es) X.env=(false,eval e X.env)::starEach es X.env:=by rfl) (M:(backTo pos (starEach es X.env)).any (·.1)=false:=by rfl):
  PE X (.Call (.Subscript o i L) (e::es) [] pos) (tCallX P w K mg base k O t):=by
 obtain⟨rfl,rfl,rfl,rfl,rfl⟩:=Y;intro pins s σ H Q I h;show wpAny _ _ (do callWith pos (<-eval (.Subscript o i L) X.env) [] (backTo pos (starEach (e::es) X.env)) (backToKw pos (keywordEach [] X.env))) _ _ s
 refine wpAny_bind (thn (Z pins s σ H _ I h) fun u s1 ⟨v,H1,R,rv,f,fd,ps,sp,ev,F,hb,hk,q⟩=> ?_);subst ev;obtain rfl:u=Value.ref f:=rv;refine Uf (h₀:=X.base) R.ok.mod.kin hk (thn (ha pos pins s1 σ H1 _ R q) fun us s2 ⟨vs,H2,U,r,q2⟩=>⟨U.kIn,?_⟩) he M;exact run_fn (ds:= []) (dvs:= []) F hr hb .nil qK U r (by rw [vQ];exact q2)
theorem ZC (z y:Str)(hi I:Nat):∀(l:List Nat) (st:Array Nat×Nat),(forIn l st (StrLaws.occBody z y hi I)).run.fst.size<=st.fst.size+l.length
 | [],st=>ui _
 |a::l,st=>by
  rw [Ul];unfold StrLaws.occBody;split
  ·refine uK (ZC z y hi I l _) ?_;simp only [Array.size_push,uh];omega
  ·refine uK (ZC z y hi I l _) ?_;simp only [uh];omega
theorem occ_len (z y:Str)(n:Nat):(occurrences z y 0 z.length n).length<=z.length+1:=by
 rw [StrLaws.occ_eq];have:=ZC z y z.length n (List.range' 0 (z.length+1-0)) (#[],0);rw [vr];refine uK this ?_;simp
noncomputable def spG (z y:Str):List Str:=if(decide (z.length<y.length)||decide (Builtin.Str.strKind z<Builtin.Str.strKind y))=true then [z] else if(occurrences z y 0 z.length (z.length+1)).isEmpty=true then [z] else partsBetween z (occurrences z y 0 z.length (z.length+1)) y.length
theorem spG_len (z y:Str):(spG z y).length<=z.length+2:=by
 unfold spG;have h:=occ_len z y (z.length+1);split
 ·simp
 ·split
  ·simp
  ·simp only [partsBetween,uf,List.length_zip,uh,ug,uW];omega
theorem spG_mem {z y p:Str}(h:p∈spG z y):p.length<=z.length:=by
 unfold spG at h;split at h
 ·rw [vA] at h;subst h;exact ui _
 ·split at h
  ·rw [vA] at h;subst h;exact ui _
  ·simp only [partsBetween,List.mem_map] at h;obtain⟨q,_,e⟩:=h;rw [<-e];exact strSub_length_le _ _ _
section
variable {X:Cx}
def rSplitG:V->List V->Hp->VK->Prop:=fun x vs H Q=>∃z y,x= .str z/\vs= [.str y]/\0<y.length/\z.length<=1000/\∀p,H p=none->Q (.ref p) (upd H p (.lst ((spG z y).map V.str)))
theorem mt_splitG:MtM X "str.split" rSplitG:=by
 intro pins s σ H x vs v us Q I R rv h;obtain⟨z,y,rfl,rfl,Y,Z,q⟩:=h;obtain⟨t,rfl⟩:=R;obtain⟨u,rfl,t',rfl⟩:=rv.one;have O:z.length<=sizeLine:=by rw [uL];omega
 have L:(y.length==0)=false:=by simp;omega
 have one:spG z y= [z]->∀(T:Nat),0<T->EP X pins σ Q (.ref s.heap.objs.size) {s with heap:=s.heap.push {cls:= .type "list",data:= .seq [Value.str z t].toArray},toks:=T}:=fun e T hT=>by
  rw [e] at q;exact ja (ys:= [V.str z]) I (.cons (show RelV (V.str z) _ from⟨t,rfl⟩) .nil) (by show 1<=sizeLine;decide) q
 cases h1:(decide (z.length<y.length)||decide (Builtin.Str.strKind z<Builtin.Str.strKind y)) with
 |true=>
  refine vh vB (vL _ _ _) vv (vW _ _) (meets_str_split_cannot_occur z y t t' h1) ?_;exact one (by unfold spG;rw [if_pos h1]) s.toks I.tk
 |false=>
  cases M:(occurrences z y 0 z.length (z.length+1)).isEmpty with
  |true=>
   refine vh vB (vL _ _ _) vv (vW _ _) (meets_str_split_not_found z y t t' h1 L M) ?_;exact one (by unfold spG;rw [if_neg (by rw [h1];decide),if_pos M]) s.toks I.tk
  |false=>
   have U:=spG_len z y;have e:spG z y=partsBetween z (occurrences z y 0 z.length (z.length+1)) y.length:=by unfold spG;rw [if_neg (by rw [h1];decide),if_neg (by rw [M];decide)]
   rw [e] at q U;refine vh vB (vL _ _ _) vv (vW _ _) (meets_str_split_sep z y t t' h1 L M O (by rw [uL];omega)) ?_
   exact ja I (Jq _ _) (by rw [uf,uL];omega) q
def rJoinT (K:PySem.W.Frag):V->List V->Hp->VK->Prop:=fun x vs H Q=>∃(sep:Str) (p:Addr) (l:List Str),x= .str sep/\vs= [.ref p]/\SqT K H p (l.map V.str)/\(l.map (·.length)).sum+l.length*sep.length<=1000000/\Q (.str (Str.join sep l)) H
theorem mt_joinT:MtM X "str.join" (rJoinT X.K):=by
 intro pins s σ H x vs v us Q I U rv h;obtain⟨O,p,l,rfl,rfl,Y,Z,q⟩:=h;obtain⟨t,rfl⟩:=U;obtain⟨u,rfl,ru⟩:=rv.one;cases ru;obtain⟨its,r,pl,hl⟩:=I.tuple Y;obtain⟨ps,rfl,R⟩:=XJ r;have M:tooLong ((ps.map (·.1)).toArray.foldl (·+ ·.length+O.length) 0)=false:=by
  rw [R];have:=StrLaws.joinTotal O l;rw [this];unfold tooLong;refine uc ?_;rw [uL];omega
 refine vh F.slot_str_join (vL _ _ _) F.entry_str_join (F.args_str_join_2 _ _) (meets_str_join_tuple O t p ps M) ⟨(let⟨o,h1,h2,n,h3⟩:=pl;⟨o,n,h1,h2,h3⟩),?_⟩;have L:(glued O (ps.map (·.1))).length<=sizeLine:=joinFit_length M
 match ps,R,L with
 | [],R,L=>
  subst R;exact⟨L,.str _,H,I.tok _,⟨_,rfl⟩,q⟩
 | [a],R,_=>
  subst R;exact⟨.str _,H,I,⟨a.2,rfl⟩,q⟩
 |a::b::r,R,L=>
  subst R;refine⟨L,.str _,H,I.tok _,⟨_,rfl⟩,?_⟩;rw [StrLaws.glued_eq_join];exact q
theorem sl_any:SlR X (fun x lo hi H Q=>rSlS x lo hi H Q∨rSlG X.K x lo hi H Q):=sl_str.or yO
end
end L2
namespace L2
open PySem PySem.Spec PyProof.Rows
open Builtin.Int (intBits)
theorem Xg:∀(ns:List Int) (x:Int),x∈ns->PySem.W.WData.weight (.int x)<=PySem.W.WData.weightAll (ns.map PySem.W.WData.int)
 |n::ns,x,h=>by
  rw [uk];unfold PySem.W.WData.weightAll;rcases List.mem_cons.mp h with rfl|h
  ·omega
  ·have:=Xg ns x h;omega
theorem jw {ns:List Int}(h:PySem.W.WData.layableAll [PySem.W.WData.list (ns.map PySem.W.WData.int)]=true){x:Int}(I:x∈ns):intBits x<=1048576:=by
 have h1:PySem.W.WData.layable (PySem.W.WData.list (ns.map PySem.W.WData.int))=true:=by
  unfold PySem.W.WData.layableAll at h
  simpa using h
 unfold PySem.W.WData.layable at h1;rw [um] at h1;have h2:PySem.W.WData.weight (PySem.W.WData.list (ns.map PySem.W.WData.int))<=2^20:=ud h1.2;unfold PySem.W.WData.weight at h2;have L:=Xg ns x I;unfold PySem.W.WData.weight at L;have h4:intBits x=if(x==0)=true then 0 else x.natAbs.log2+1:=by
  unfold intBits;simp
 rw [h4];omega
end L2
namespace Att
open PySem PySem.W PySem.Calls PyProof.Rows
open Builtin.Int (intBits)
open L2 (jw)
theorem attach_callB {l:OpenLaw}{n:Nat}{q:Program}{I:List Str}{XP:(Str->Option Value)->Heap->Prop}{YP:World->Heap->Prop}{d:DefRec}
  (hn:l.most=some n) (aa:d.params.defaults= [])
  (call:∀(w:World) (s₀ L:Shared) (mg mb:Str->Option Value) (O:Addr) (o:Obj) (pm Z doc:Value) (a:Addr) (vs:List Value) (ns:List Int),
   Ground q I [] XP w s₀ mg mb L.heap->YP w L.heap->
   L.heap.get? O=some o->o.data= .func (docDef d.name d.params d.body d.scope pm Z doc)->L.heap.CodeRec Z d.name->mg d.name=some (.ref O)->
   L.heap.get? a=some {cls:= .type "list",data:= .seq vs.toArray}->IntsAre vs ns->ns.length<=n->(∀x∈ns,intBits x<=1048576)->L.gens= #[]->
   codeAny (model l.prog w) callerA (.call (.ref O) ⟨[.ref a],[]⟩) (fun r s'=>r= .ok (.ret (.bool true))/\OldK L.heap s'.heap/\s'.os=L.os/\AllBare s'.gens) L):
  WalkO q I XP YP l.row.toRowW d [] (fun f vs=>PySem.call f vs):=by
 intro w s₀ L mg mb G Y O o pm Z doc dV kV ho hd ab hD ac hg args ad as hpre hlay hrd hwl hlo;obtain rfl:dV= .none:=Dflts.none hD aa;obtain rfl:kV= .none:=Dflts.noKw hD;obtain⟨a,vs,ns,rfl,rfl,R,M,U⟩:=script_of hn hpre hwl;refine enter_call (Ux (call w s₀ L mg mb O o pm Z doc a vs ns G Y ho (fd_plain hd) ab ac R M U (fun x hx=>jw hlay hx) hg) fun r s' hq=> ?_);obtain⟨rfl,h2,h3,h4⟩:=hq;exact⟨.inl ⟨.bool true,.bool true,[],rfl,fun _=>rfl,.bool true,post_true l _,fun _=>⟨List.Pairwise.nil,fun _ hm=>(nomatch hm)⟩⟩,h2,h3,h4⟩
end Att
namespace L2
open PySem PySem.Spec PyProof.Rows
open Builtin.Int (intBits)
theorem walk_ofB {l:PySem.W.OpenLaw}{n k:Nat}{q:Program}{L:List Str}{XP:(Str->Option Value)->Heap->Prop}{YP:World->Heap->Prop}{d:DefRec}{K:Params->PySem.W.Frag}{CX:CXT}{sp:PySem.W.Frag->Sp}{x:Str}
  (hn:l.most=some n) (aa:n<=sizeLine) (ab:d.params.defaults= []) (hr:Room k callerA)
  (hY:∀(w:World) (h:Heap),YP w h->(K w.params).In h)
  (F:∀(w:World) (mg:Str->Option Value) (Z:Addr) (h:Heap),(K w.params).In h->h.Ns mainGlobals mg->mg d.name=some (.ref Z)->
   ∃fd:FuncData,(∀(s:Shared) (u:Value),BindsTo s fd ⟨[u],[]⟩ [(x,u)])/\fd.scope.names.lookup x=some .local/\
    ∀base:Heap,(K w.params).In base->base.Ns mainGlobals mg->FnOk l.prog w (K w.params) mg base CX k Z fd [x] (sp (K w.params)))
  (ac:∀(w:World) (H:Hp) (a:Addr) (ns:List Int),ns.length<=n->(∀x∈ns,intBits x<=1048576)->Only H->SqL (K w.params) H a (ns.map V.int)->sp (K w.params) [.ref a] H (fun v _=>v= .bl true) fun _ _ _=>False)
  (ad:∀(H:Hp) (s:Shared) (e:Value) (s':Shared),CX [] H s (fun _ _ _=>False) e s'->False):
  PySem.W.WalkO q L XP YP l.row.toRowW d [] (fun f vs=>PySem.call f vs):=by
 refine Att.attach_callB hn ab fun w s₀ s₁ mg mb Z o pm cd doc a vs ns G Y ho hd af ae O M I R hg=> ?_;have KX:=hY w _ Y;obtain⟨fd,hb,U,hF⟩:=F w mg Z _ KX G.T.g ae;exact law_call KX G.T.g G.T.b G.T.builtins G.T.nolimit hg O M (uK I aa) hr hF hb U (fun H hO hS=>ac w H a ns I R hO hS) fun H e s'=>ad H s₁ e s'
section
variable {X:Cx}
theorem xH:OpR X (binaryOp .Mult) (rI IntMulOk fun i j=> .int (i*j)):=opI fun _ _ _ _ _ _ _ I q=>mul_int q I
def rInK (K:PySem.W.Frag)(w:World):R2:=fun x y H Q=>∃z a r,x= .str z/\y= .ref a/\KDict K w a/\PySem.W.nsIn K a z=some r/\Q (.bl r.isSome) H
theorem op_inK:OpR X (compareOp .In) (rInK X.K X.w):=by
 intro pins s σ H x y v u Q I M O h;obtain⟨z,a,r,rfl,rfl,⟨R,es,n,L,U⟩,hn,q⟩:=h;obtain⟨t,rfl⟩:=M;cases O;have hm:=PySem.W.mapOf_K (prog:=X.prog) (w:=X.w) I.kIn L U;refine wpAny_in_of (strKind_is X.prog X.w z t) R hm ⟨.bl r.isSome,H,I.tok _,?_,q⟩;rw [PySem.W.find_K L hn]
 rfl
end
end L2
namespace L2
open PySem PySem.Spec PyProof.Rows
section
variable {X:Cx}
theorem op_le_str:OpR X (compareOp .LtE) (fun x y H Q=>∃i j,x= .str i/\y= .str j/\Q (.bl (!decide (j.cps.toList<i.cps.toList))) H):=by
 intro pins s σ H x y v u Q I L M h;obtain⟨i,j,rfl,rfl,q⟩:=h;obtain⟨t,rfl⟩:=L;obtain⟨t',rfl⟩:=M;exact PySem.P.le_str (Qa I q rfl)
theorem call_maxL (Y:X.calm=true):Yh X (.builtin "max") (fun xs H Q=>∃(p:Addr) (ns:List Int),xs= [.ref p]/\SqL X.K H p (ns.map V.int)/\ns≠ []/\∀M,M∈ns->(∀x∈ns,x<=M)->Q (.int M) H):=by
 intro pins s σ H xs us Q I r h;obtain⟨p,ns,rfl,Z,L,q⟩:=h;obtain⟨u,rfl,ru⟩:=jN r;cases ru;obtain⟨its,rv,pl,hz⟩:=I.list Z;have hi:IntsAre its ns:=zD rv;obtain⟨ys,U⟩:=hi.allInts.items;have O:s.heap.IsList p (intItems ys):=U▸pl.isList;have R:ns=ys.toList.map (·.1):=by
  have q1:=hi.numsOf;rw [<-nums_intItems,<-U];exact(show numsOf its.toArray.toList=ns from q1).symm
 have hsz:0<ys.size:=by
  rcases vZ ys.size with h|h
  ·exact absurd (by rw [R,uC (l:=ys.toList) (by simpa using h)];rfl) L
  ·exact h
 refine uU (n:=1) I.tk (max_intList (I.ok.hd Y) O hsz fun v h' tk hv hk=> ?_);intro htk;obtain⟨t,rfl⟩:=intItems_at hv;obtain⟨h1,h2⟩:=argBest_gt (numAt ys) (ys.size-1);refine⟨.int _,H,I.kept hk,⟨t,rfl⟩,q _ ?_ fun a ha=> ?_⟩
 ·rw [R,numAt_eq];exact getD_mem (by rw [uf,vr];omega)
 ·rw [R] at ha;obtain⟨j,hj,rfl⟩:=mem_getD ha;rw [uf,vr] at hj;rw [<-numAt_eq];exact h2 j (by omega)
end
mutual
def nD:D->Bool
 | .non=>true
 | .str _=>true
 | .int _=>true
 | .tup xs=>nL xs
 |_=>false
def nL:List D->Bool
 | []=>true
 |x::r=>nD x&&nL r
end
theorem nL_get:∀{xs:List D}{j:Nat}{x:D},nL xs=true->xs[j]? =some x->nD x=true
 | [],_,_,_,e=>by simp at e
 |y::r,0,x,h,e=>by
  have h':nD y=true/\nL r=true:=by simpa [nL] using h
  have:y=x:=by simpa using e
  exact this▸h'.1
 |y::r,j+1,x,h,e=>by
  have h':nD y=true/\nL r=true:=by simpa [nL] using h
  exact nL_get h'.2 (by simpa using e)
section
variable {X:Cx}{pins:List (Addr×Obj)}{σ:St}{H:Hp}{s:Shared}
theorem parts_R {xs:List D}{vs us:List V}{its its':List Value}{A:Around}(hd:nL xs=true)(O:IsL H xs vs)(L:IsL H xs us)(rv:Vals vs its)(M:Vals us its')
  (Y:∀x∈xs,∀(v u:V) (a b:Value),nD x=true->Is H x v->Is H x u->RelV v a->RelV u b->SeqAt.EqAt A s a b true):
  ∀j (R:j<its.toArray.size) (Z:j<its'.toArray.size),SeqAt.EqAt A s its.toArray[j] its'.toArray[j] true:=fun j R Z=>by
 have U:its.length=xs.length:=by rw [<-rv.length,O.length]
 have l2:its'.length=xs.length:=by rw [<-M.length,L.length]
 have I:j<xs.length:=by rw [<-U];simpa using R
 obtain⟨v1,e1,i1⟩:=O.get (i:=j) (d:=xs[j]) (by simp [I])
 obtain⟨v2,e2,i2⟩:=L.get (i:=j) (d:=xs[j]) (by simp [I])
 obtain⟨b1,f1,g1⟩:=rv.get e1;obtain⟨b2,f2,g2⟩:=M.get e2;have k1:its.toArray[j]=b1:=by
  have:=f1;rw [ul (by rw [U];exact I)] at this
  simpa using this
 have k2:its'.toArray[j]=b2:=by
  have:=f2;rw [ul (by rw [l2];exact I)] at this
  simpa using this
 rw [k1,k2];exact Y _ (vN I) _ _ _ _ (nL_get (j:=j) hd (by simp [I])) i1 i2 g1 g2
theorem all_true (n:Nat):(List.range n).all (fun _=>true)=true:=by simp
theorem eqAt_R (I:Inv X pins σ H s):∀(n:Nat) (d:D) (v u:V) (a b:Value) (A:Around),dp d<=n->nD d=true->Is H d v->Is H d u->RelV v a->RelV u b->A.units+n<cLine->SeqAt.EqAt A s a b true:=by
 intro n
 induction n with
 |zero=>
  intro d v u a b A hn hd h1 h2 L M hu;cases d with
  |int z=>
   cases(show v= .int z from h1)
   cases(show u= .int z from h2)
   obtain⟨t,rfl⟩:=L;obtain⟨t',rfl⟩:=M;have:=UE (A:=A) (s:=s) z t z t'
   simpa using this
  |non=>
   cases(show v= .non from h1)
   cases(show u= .non from h2)
   cases L;cases M;exact Um _
  |str z=>simp [dp] at hn
  |tup xs=>simp [dp] at hn
  |_=>simp [nD] at hd
 |succ n Y=>
  intro d v u a b A hn hd h1 h2 L M hu;have Z:A.units<cLine:=vV (Uu _ _) hu;cases d with
  |int z=>exact Y (.int z) v u a b A (uD _) hd h1 h2 L M (by omega)
  |non=>exact Y .non v u a b A (uD _) hd h1 h2 L M (by omega)
  |str z=>
   obtain⟨rfl,_⟩:=(show v= .str z/\_ from h1)
   obtain⟨rfl,_⟩:=(show u= .str z/\_ from h2)
   obtain⟨t,rfl⟩:=L;obtain⟨t',rfl⟩:=M;have:=UF (A:=A) (s:=s) z t z t'
   simpa using this
  |tup xs=>
   have hm:dpL xs<=n:=by
    have:dp (.tup xs)=1+dpL xs:=by simp only [dp]
    omega
   obtain⟨p,vs,rfl,hp,hl⟩:=(show∃p vs,v=V.ref p/\H p=some (.tup vs)/\IsL H xs vs from h1)
   obtain⟨p',us,rfl,aa,O⟩:=(show∃p vs,u=V.ref p/\H p=some (.tup vs)/\IsL H xs vs from h2)
   cases L;cases M;by_cases hv:p=p'
   ·subst hv;exact Um _
   ·obtain⟨its,rv,q,_⟩:=I.tuple (.inl (.of hp));obtain⟨its',R,q',_⟩:=I.tuple (.inl (.of aa));have l1:its.length=xs.length:=by rw [<-rv.length,hl.length]
    have l2:its'.length=xs.length:=by rw [<-R.length,O.length]
    have U:=U4 (e:=fun _=>true) q q' Z (parts_R (by simpa [nD] using hd) hl O rv R fun x hx v u a b k1 k3 k4 k5 k6=>Y x v u a b A.in1 ((Yz xs).mp hm x hx) k1 k3 k4 k5 k6 (by rw [uJ];omega))
    rw [all_true,ue,ue,l1,l2] at U;exact SeqAt.EqAt.of_refs hv (by simpa using U)
  |_=>simp [nD] at hd
end
end L2
namespace AwZ
open PySem PySem.Spec PyProof.Rows
theorem tc_enum0 (a:Value):checkTypeCall "enumerate" ⟨[a],[]⟩=pure Unit.unit:=by kernel_rfl
theorem nc_enum0 (a:Value):checkBuiltinCall "enumerate.__new__" ⟨[.type "enumerate",a],[]⟩=pure Unit.unit:=by kernel_rfl
theorem enum0_made (l:Addr)(its:Array Value):Meets (Builtin.«enumerate.__new__» ⟨[.type "enumerate",.ref l],[]⟩) (fun _ R s=>s.heap.IsTuple l its/\
   R (.ok (.ret (.ref (q1 s.heap l).objs.size))) {s with heap:=(q1 s.heap l).push {cls:= .type "enumerate",data:= .fields #[.none,.bool false,.ref s.heap.objs.size,rawInt 0,.none,.none]}}):=
 .of_wp fun prog w A R s h=>by
  obtain⟨I,g,d,tk,os⟩:=s;obtain⟨L,h⟩:=h;have sub:=sub_enumerate;have h1:Heap.IsTuple (Shared.heap ⟨I,g,d,tk,os⟩) l its:=L
  wp_walk
  refine wpAny_stack_any fun st=>uj ?_;split
  ·rename_i c _ _ _ _ _
   cases(c==Value.type "enumerate")
   ·wp_walk using vU h1
    exact⟨_,rfl,h⟩
   ·wp_walk using vU h1
    exact⟨_,rfl,h⟩
  ·wp_walk using vU h1
   exact⟨_,rfl,h⟩
end AwZ
namespace L2
open PySem PySem.Spec PyProof.Rows
section
variable {X:Cx}{pins:List (Addr×Obj)}{σ:St}{H:Hp}{s:Shared}
def rSame (g:Bool):R2:=fun x y H Q=>∃ds:List D,Is H (.tup ds) x/\Is H (.tup ds) y/\nL ds=true/\dpL ds<=60/\Q (.bl g) H
theorem rc_R (I:Inv X pins σ H s){ds:List D}{x y:V}{v u:Value}(h1:Is H (.tup ds) x)(h2:Is H (.tup ds) y)(hn:nL ds=true)(hd:dpL ds<=60)(rx:RelV x v)(ry:RelV y u)(hu:X.A.units+64<cLine):
  SeqAt.RcAt X.A s v u true/\SeqAt.RcNeAt X.A s v u false:=by
 obtain⟨p,vs,rfl,hp,R⟩:=(show∃p vs,x=V.ref p/\H p=some (.tup vs)/\IsL H ds vs from h1)
 obtain⟨p',us,rfl,O,L⟩:=(show∃p vs,y=V.ref p/\H p=some (.tup vs)/\IsL H ds vs from h2)
 cases rx;cases ry;obtain⟨its,rv,q,_⟩:=I.tuple (.inl (.of hp));obtain⟨its',M,U,_⟩:=I.tuple (.inl (.of O));have l1:its.length=ds.length:=by rw [<-rv.length,R.length]
 have l2:its'.length=ds.length:=by rw [<-M.length,L.length]
 have Y:=parts_R hn R L rv M fun x hx v u a b k1 k3 k4 k5 k6=>eqAt_R I 60 x v u a b X.A.in1 ((Yz ds).mp hd x hx) k1 k3 k4 k5 k6 (by rw [uJ];omega)
 have Z:=U4 (e:=fun _=>true) q U (by omega) Y
 have e2:=SeqAt.RcNeAt.tuples (e:=fun _=>true) q U (by omega) Y
 rw [all_true,ue,ue,l1,l2] at Z e2;exact⟨by simpa using Z,by simpa using e2⟩
theorem op_neR (L:X.A.units+64<cLine):OpR X (compareOp .NotEq) (rSame false):=by
 intro pins s σ H x y v u Q I M O h;obtain⟨ds,h1,h2,hn,hd,q⟩:=h;exact(rc_R I h1 h2 hn hd M O L).2 X.prog X.w X.xe _ ⟨.bl false,H,I,rfl,q⟩
def iEn0 (K:PySem.W.Frag)(te:TE):TI:=fun σ H R=>te σ H fun x H2=>∃a xs,x= .ref a/\SqT K H2 a xs/\(xs.length<=sizeLine->R (Ite K a 0) H2)
theorem pi_enum0 {M:List Expr}{c:Nat}{tp p pos:Pos}{e:Expr}{te:TE}(hg:Gl X "enumerate")(hm:X.mg "enumerate"=none)(he:PE X e te)(Z:starEach [e] X.env= [(false,eval e X.env)]:=by rfl):
  PI X (.Tuple M c tp) (.Call (.Name "enumerate" p) [e] [] pos) (iEn0 X.K te):=by
 intro pins s σ H R I h;have ha:PA X [e] (QI te tNil):=qa he qe Z;refine Call_ (XI I hg hm boot_enumerate (vx (thn (ha pos pins s σ H (fun vs H2=>match vs with| [x]=>∃a xs,x= .ref a/\SqT X.K H2 a xs/\(xs.length<=sizeLine->R (Ite X.K a 0) H2)|_=>False) I h) fun us s2 ⟨vs,H2,U,Y,q1⟩=> ?_) (by rw [Z];rfl) ()))
 match vs,Y,q1 with
 | [x],Y,q1=>
 obtain⟨a,xs,rfl,hA,q⟩:=q1;obtain⟨u,rfl,ru⟩:=jN Y;cases ru;obtain⟨its,ra,pa,za⟩:=U.tuple hA;refine AwZ.new_kw (kw:= []) F.called_enumerate (by decide) (AwZ.tc_enum0 _) (AwZ.nc_enum0 _) (fun obj=>F.args_object_init_2 _ _) F.entry_enumerate_new (AwZ.enum0_made a its.toArray) ⟨show s2.heap.IsTuple a its.toArray from pa,?_⟩
 have hz:(AwZ.q1 s2.heap a).objs.size=s2.heap.objs.size+1:=vc ..;have L:IsEnum ((AwZ.q1 s2.heap a).push {cls:= .type "enumerate",data:= .fields #[.none,.bool false,.ref s2.heap.objs.size,rawInt 0,.none,.none]}) (AwZ.q1 s2.heap a).objs.size s2.heap.objs.size 0 .none:=uw _ rfl;refine⟨⟨_,L,rfl⟩,?_⟩;refine wpAny_pyIter_enum (s:={s2 with heap:=_}) L ?_
 refine⟨_,[(AwZ.q1 s2.heap a).objs.size,s2.heap.objs.size],_,_,H2,rfl,U.kept (t':=s2.toks) (fun b o e=>ub _ (ub _ e)),turn_enum a _ _ 0,⟨⟨.none,L⟩,⟨_,ub _ (uw _ rfl),rfl,rfl⟩,fun e=>U7 (Nat.lt_succ_self _) (hz.symm.trans e)⟩,fun x hx=> ?_,q za⟩;have O:s2.heap.objs.size<=x:=by
  simp only [uA,uG,v9] at hx;exact two_le hz hx
 exact U.fpOk O (U.hok.fresh O)
mutual
def eqN:D->D->Bool
 | .non,.non=>true
 | .str a,.str b=>a==b
 | .int a,.int b=>a==b
 | .tup xs,.tup ys=>eqNL xs ys
 |_,_=>false
def eqNL:List D->List D->Bool
 | [],[]=>true
 |x::r,y::q=>eqN x y&&eqNL r q
 |_,_=>false
end
mutual
theorem Xm:∀{d e:D},nD d=true->(eqN d e=true↔d=e)
 | .non,e,_=>by cases e<;>simp [eqN]
 | .str a,e,_=>by cases e<;>simp [eqN]
 | .int a,e,_=>by cases e<;>simp [eqN]
 | .tup xs,.tup ys,h=>by
  have:=eqNL_iff (xs:=xs) (ys:=ys) (by simpa [nD] using h)
  simp only [eqN,this,D.tup.injEq]
 | .tup xs,.non,_=>by simp [eqN]
 | .tup xs,.bl _,_=>by simp [eqN]
 | .tup xs,.int _,_=>by simp [eqN]
 | .tup xs,.str _,_=>by simp [eqN]
 | .tup xs,.lst,_=>by simp [eqN]
 | .tup xs,.dct,_=>by simp [eqN]
 | .bl _,_,h=>by simp [nD] at h
 | .lst,_,h=>by simp [nD] at h
 | .dct,_,h=>by simp [nD] at h
theorem eqNL_iff:∀{xs ys:List D},nL xs=true->(eqNL xs ys=true↔xs=ys)
 | [],[],_=>by simp [eqNL]
 | [],_::_,_=>by simp [eqNL]
 |_::_,[],_=>by simp [eqNL]
 |x::r,y::q,h=>by
  have h':nD x=true/\nL r=true:=by simpa [nL] using h
  simp only [eqNL,um,Xm h'.1,eqNL_iff h'.2,List.cons.injEq]
end
mutual
theorem Is.detN {H:Hp}:∀{d e:D}{v:V},nD d=true->nD e=true->Is H d v->Is H e v->d=e
 | .non,e,v,_,he,h1,h2=>by
  cases(show v= .non from h1)
  cases e with
  |non=>rfl
  |str b=>obtain⟨q,_⟩:=(show V.non=V.str b/\_ from h2);cases q
  |int b=>cases(show V.non=V.int b from h2)
  |tup ys=>obtain⟨p,us,q,_⟩:=(show∃p us,V.non=V.ref p/\_ from h2);cases q
  |_=>simp [nD] at he
 | .str a,e,v,_,he,h1,h2=>by
  obtain⟨rfl,_⟩:=(show v= .str a/\_ from h1)
  cases e with
  |non=>cases(show V.str a=V.non from h2)
  |str b=>obtain⟨q,_⟩:=(show V.str a=V.str b/\_ from h2);cases q;rfl
  |int b=>cases(show V.str a=V.int b from h2)
  |tup ys=>obtain⟨p,us,q,_⟩:=(show∃p us,V.str a=V.ref p/\_ from h2);cases q
  |_=>simp [nD] at he
 | .int a,e,v,_,he,h1,h2=>by
  cases(show v= .int a from h1)
  cases e with
  |non=>cases(show V.int a=V.non from h2)
  |str b=>obtain⟨q,_⟩:=(show V.int a=V.str b/\_ from h2);cases q
  |int b=>cases(show V.int a=V.int b from h2);rfl
  |tup ys=>obtain⟨p,us,q,_⟩:=(show∃p us,V.int a=V.ref p/\_ from h2);cases q
  |_=>simp [nD] at he
 | .tup xs,e,v,hd,he,h1,h2=>by
  obtain⟨p,vs,rfl,O,R⟩:=(show∃p vs,v=V.ref p/\H p=some (.tup vs)/\IsL H xs vs from h1)
  cases e with
  |non=>cases(show V.ref p=V.non from h2)
  |str b=>obtain⟨q,_⟩:=(show V.ref p=V.str b/\_ from h2);cases q
  |int b=>cases(show V.ref p=V.int b from h2)
  |tup ys=>
   obtain⟨L,us,q,I,M⟩:=(show∃L us,V.ref p=V.ref L/\H L=some (.tup us)/\IsL H ys us from h2)
   cases q;rw [O] at I;cases I;rw [IsL.detN (by simpa [nD] using hd) (by simpa [nD] using he) R M]
  |_=>simp [nD] at he
 | .bl _,_,_,hd,_,_,_=>by simp [nD] at hd
 | .lst,_,_,hd,_,_,_=>by simp [nD] at hd
 | .dct,_,_,hd,_,_,_=>by simp [nD] at hd
theorem IsL.detN {H:Hp}:∀{xs ys:List D}{vs:List V},nL xs=true->nL ys=true->IsL H xs vs->IsL H ys vs->xs=ys
 | [],[],_,_,_,_,_=>rfl
 | [],_::_,_,_,_,h1,h2=>by
  cases(show _= [] from h1)
  obtain⟨v,r,q,_⟩:=(show∃v r,[]=v::r/\_ from h2)
  cases q
 |_::_,[],_,_,_,h1,h2=>by
  cases(show _= [] from h2)
  obtain⟨v,r,q,_⟩:=(show∃v r,[]=v::r/\_ from h1)
  cases q
 |x::xs,y::ys,_,hd,he,h1,h2=>by
  obtain⟨v,r,rfl,M,O⟩:=h1;obtain⟨R,U,q,b1,b2⟩:=h2;cases q;have I:nD x=true/\nL xs=true:=by simpa [nL] using hd
  have L:nD y=true/\nL ys=true:=by simpa [nL] using he
  rw [Is.detN I.1 L.1 M b1,IsL.detN I.2 L.2 O b2]
end
theorem Zy:∀(xs ys:List D),eqNL xs ys=((List.range (min xs.length ys.length)).all (fun j=>eqN (xs.getD j .non) (ys.getD j .non))&&xs.length==ys.length)
 | [],[]=>by simp [eqNL]
 | [],_::_=>by simp [eqNL]
 |_::_,[]=>by simp [eqNL]
 |x::r,y::q=>by
  have I:=Zy r q;rw [uh,uh,show min (r.length+1) (q.length+1)=min r.length q.length+1 by omega,List.range_succ_eq_map,vy,vH]
  have e:(List.range (min r.length q.length)).all ((fun j=>eqN ((x::r).getD j .non) ((y::q).getD j .non))∘Nat.succ)=(List.range (min r.length q.length)).all fun j=>eqN (r.getD j .non) (q.getD j .non):=by congr 1
  rw [e];have L:(r.length+1==q.length+1)=(r.length==q.length):=by rw [vG];simp
  rw [L,Bool.and_assoc,<-I]
  rfl
theorem eqAt_nonN (I:Inv X pins σ H s){e:D}{u:V}{b:Value}{A:Around}(M:nD e=true)(h2:Is H e u)(L:RelV u b)(O:A.units<cLine):SeqAt.EqAt A s .none b (eqN .non e):=by
 cases e with
 |non=>
  cases(show u= .non from h2)
  cases L;exact Um _
 |str y=>
  obtain⟨rfl,_⟩:=(show u= .str y/\_ from h2)
  obtain⟨R,rfl⟩:=L;exact SeqAt.EqAt.none_str _ _
 |int y=>
  cases(show u= .int y from h2)
  obtain⟨R,rfl⟩:=L;exact SeqAt.EqAt.none_int _ _
 |tup ys=>
  obtain⟨p,us,rfl,U,Y⟩:=(show∃p us,u=V.ref p/\H p=some (.tup us)/\IsL H ys us from h2)
  cases L;obtain⟨its,_,q,_⟩:=I.tuple (.inl (.of U));exact SeqAt.EqAt.none_tuple q O
 |_=>simp [nD] at M
theorem eqAt_strN (I:Inv X pins σ H s){z:Str}{t:Tok}{e:D}{u:V}{b:Value}{A:Around}(M:nD e=true)(h2:Is H e u)(L:RelV u b)(O:A.units<cLine):SeqAt.EqAt A s (.str z t) b (eqN (.str z) e):=by
 cases e with
 |non=>
  cases(show u= .non from h2)
  cases L;exact SeqAt.EqAt.str_none _ _
 |str y=>
  obtain⟨rfl,_⟩:=(show u= .str y/\_ from h2)
  obtain⟨R,rfl⟩:=L;exact UF _ _ _ _
 |int y=>
  cases(show u= .int y from h2)
  obtain⟨R,rfl⟩:=L;exact UC _ _ _ _
 |tup ys=>
  obtain⟨p,us,rfl,U,Y⟩:=(show∃p us,u=V.ref p/\H p=some (.tup us)/\IsL H ys us from h2)
  cases L;obtain⟨its,_,q,_⟩:=I.tuple (.inl (.of U));exact SeqAt.EqAt.str_tuple _ _ q O
 |_=>simp [nD] at M
theorem eqAt_intN (I:Inv X pins σ H s){z:Int}{t:Tok}{e:D}{u:V}{b:Value}{A:Around}(M:nD e=true)(h2:Is H e u)(L:RelV u b)(O:A.units<cLine):SeqAt.EqAt A s (.int z t) b (eqN (.int z) e):=by
 cases e with
 |non=>
  cases(show u= .non from h2)
  cases L;exact SeqAt.EqAt.int_none _ _
 |str y=>
  obtain⟨rfl,_⟩:=(show u= .str y/\_ from h2)
  obtain⟨R,rfl⟩:=L;exact UB _ _ _ _
 |int y=>
  cases(show u= .int y from h2)
  obtain⟨R,rfl⟩:=L;exact UE _ _ _ _
 |tup ys=>
  obtain⟨p,us,rfl,U,Y⟩:=(show∃p us,u=V.ref p/\H p=some (.tup us)/\IsL H ys us from h2)
  cases L;obtain⟨its,_,q,_⟩:=I.tuple (.inl (.of U));exact SeqAt.EqAt.int_tuple _ _ q O
 |_=>simp [nD] at M
theorem parts_N {xs ys:List D}{vs us:List V}{its its':List Value}{A:Around}(hd:nL xs=true)(he:nL ys=true)(R:IsL H xs vs)(I:IsL H ys us)(rv:Vals vs its)(L:Vals us its')
  (ih:∀x∈xs,∀(e:D) (v u:V) (a b:Value),nD x=true->nD e=true->Is H x v->Is H e u->RelV v a->RelV u b->SeqAt.EqAt A s a b (eqN x e)):
  ∀j (U:j<its.toArray.size) (Y:j<its'.toArray.size),SeqAt.EqAt A s its.toArray[j] its'.toArray[j] (eqN (xs.getD j .non) (ys.getD j .non)):=fun j U Y=>by
 have Z:its.length=xs.length:=by rw [<-rv.length,R.length]
 have l2:its'.length=ys.length:=by rw [<-L.length,I.length]
 have M:j<xs.length:=by rw [<-Z];simpa using U
 have O:j<ys.length:=by rw [<-l2];simpa using Y
 obtain⟨v1,e1,i1⟩:=R.get (i:=j) (d:=xs[j]) (by simp [M])
 obtain⟨v2,e2,i2⟩:=I.get (i:=j) (d:=ys[j]) (by simp [O])
 obtain⟨b1,f1,g1⟩:=rv.get e1;obtain⟨b2,f2,g2⟩:=L.get e2;have k1:its.toArray[j]=b1:=by
  have:=f1;rw [ul (by rw [Z];exact M)] at this
  simpa using this
 have k2:its'.toArray[j]=b2:=by
  have:=f2;rw [ul (by rw [l2];exact O)] at this
  simpa using this
 have d1:xs.getD j .non=xs[j]:=by simp [List.getD,M]
 have d2:ys.getD j .non=ys[j]:=by simp [List.getD,O]
 rw [k1,k2,d1,d2];exact ih _ (vN M) _ _ _ _ _ (nL_get (j:=j) hd (by simp [M])) (nL_get (j:=j) he (by simp [O])) i1 i2 g1 g2
theorem eqAt_tupN (I:Inv X pins σ H s){xs:List D}{e:D}{v u:V}{a b:Value}{A:Around}(hd:nD (.tup xs)=true)(U:nD e=true)(h1:Is H (.tup xs) v)(h2:Is H e u)(r1:RelV v a)(L:RelV u b)(R:A.units<cLine)
  (ih:∀x∈xs,∀(e:D) (v u:V) (a b:Value),nD x=true->nD e=true->Is H x v->Is H e u->RelV v a->RelV u b->SeqAt.EqAt A.in1 s a b (eqN x e)):SeqAt.EqAt A s a b (eqN (.tup xs) e):=by
 obtain⟨p,vs,rfl,hp,hl⟩:=(show∃p vs,v=V.ref p/\H p=some (.tup vs)/\IsL H xs vs from h1)
 cases r1;obtain⟨its,rv,q,_⟩:=I.tuple (.inl (.of hp));cases e with
 |non=>
  cases(show u= .non from h2)
  cases L;exact SeqAt.EqAt.tuple_none q R
 |str y=>
  obtain⟨rfl,_⟩:=(show u= .str y/\_ from h2)
  obtain⟨t2,rfl⟩:=L;exact SeqAt.EqAt.tuple_str _ _ q R
 |int y=>
  cases(show u= .int y from h2)
  obtain⟨t2,rfl⟩:=L;exact SeqAt.EqAt.tuple_int _ _ q R
 |tup ys=>
  by_cases Y:V.ref p=u
  ·have:=Is.detN (e:= .tup ys) hd U h1 (Y▸h2);subst Y;cases L;rw [<-this,(Xm hd).mpr rfl];exact Um _
  ·obtain⟨Z,us,rfl,aa,M⟩:=(show∃Z us,u=V.ref Z/\H Z=some (.tup us)/\IsL H ys us from h2)
   cases L;obtain⟨its',O,q',_⟩:=I.tuple (.inl (.of aa));have l1:its.length=xs.length:=by rw [<-rv.length,hl.length]
   have l2:its'.length=ys.length:=by rw [<-O.length,M.length]
   have ab:=U4 (e:=fun j=>eqN (xs.getD j .non) (ys.getD j .non)) q q' R (parts_N (by simpa [nD] using hd) (by simpa [nD] using U) hl M rv O ih)
   have e1:eqN (.tup xs) (.tup ys)=((List.range (min its.toArray.size its'.toArray.size)).all (fun j=>eqN (xs.getD j .non) (ys.getD j .non))&&its.toArray.size==its'.toArray.size):=by
    rw [ue,ue,l1,l2,<-Zy];simp only [eqN]
   rw [e1];exact SeqAt.EqAt.of_refs (fun z=>Y (by rw [z])) ab
 |_=>simp [nD] at U
theorem eqAt_N (I:Inv X pins σ H s):∀(n:Nat) (d e:D) (v u:V) (a b:Value) (A:Around),dp d<=n->nD d=true->nD e=true->Is H d v->Is H e u->RelV v a->RelV u b->A.units+n<cLine->SeqAt.EqAt A s a b (eqN d e):=by
 intro n
 induction n with
 |zero=>
  intro d e v u a b A hn hd M h1 h2 O R U;cases d with
  |non=>
   cases(show v= .non from h1)
   cases O;exact eqAt_nonN I M h2 R U
  |int z=>
   cases(show v= .int z from h1)
   obtain⟨t,rfl⟩:=O;exact eqAt_intN I M h2 R U
  |str z=>simp [dp] at hn
  |tup xs=>simp [dp] at hn
  |_=>simp [nD] at hd
 |succ n Y=>
  intro d e v u a b A hn hd M h1 h2 O R U;have L:A.units<cLine:=vV (Uu _ _) U;cases d with
  |non=>
   cases(show v= .non from h1)
   cases O;exact eqAt_nonN I M h2 R L
  |int z=>
   cases(show v= .int z from h1)
   obtain⟨t,rfl⟩:=O;exact eqAt_intN I M h2 R L
  |str z=>
   obtain⟨rfl,_⟩:=(show v= .str z/\_ from h1)
   obtain⟨t,rfl⟩:=O;exact eqAt_strN I M h2 R L
  |tup xs=>
   have hm:dpL xs<=n:=by
    have:dp (.tup xs)=1+dpL xs:=by simp only [dp]
    omega
   exact eqAt_tupN I hd M h1 h2 O R L fun x Z e v u a b k1 k2 k3 k4 k5 k6=>Y x e v u a b A.in1 ((Yz xs).mp hm x Z) k1 k2 k3 k4 k5 k6 (by rw [uJ];omega)
  |_=>simp [nD] at hd
def rCmpN (g:Bool->Bool):R2:=fun x y H Q=>∃ds es:List D,Is H (.tup ds) x/\Is H (.tup es) y/\nL ds=true/\nL es=true/\dpL ds<=60/\Q (.bl (g (eqNL ds es))) H
theorem rc_N (I:Inv X pins σ H s){ds es:List D}{x y:V}{v u:Value}(h1:Is H (.tup ds) x)(h2:Is H (.tup es) y)(hn:nL ds=true)(O:nL es=true)(hd:dpL ds<=60)(rx:RelV x v)(ry:RelV y u)(hu:X.A.units+64<cLine):
  SeqAt.RcAt X.A s v u (eqNL ds es)/\SeqAt.RcNeAt X.A s v u (!eqNL ds es):=by
 obtain⟨p,vs,rfl,hp,U⟩:=(show∃p vs,x=V.ref p/\H p=some (.tup vs)/\IsL H ds vs from h1)
 obtain⟨p',us,rfl,R,L⟩:=(show∃p vs,y=V.ref p/\H p=some (.tup vs)/\IsL H es vs from h2)
 cases rx;cases ry;obtain⟨its,rv,q,_⟩:=I.tuple (.inl (.of hp));obtain⟨its',M,Y,_⟩:=I.tuple (.inl (.of R));have l1:its.length=ds.length:=by rw [<-rv.length,U.length]
 have l2:its'.length=es.length:=by rw [<-M.length,L.length]
 have Z:=parts_N (A:=X.A.in1) hn O U L rv M fun x hx e v u a b k1 k2 k3 k4 k5 k6=>eqAt_N I 60 x e v u a b X.A.in1 ((Yz ds).mp hd x hx) k1 k2 k3 k4 k5 k6 (by rw [uJ];omega)
 have e1:=U4 (e:=fun j=>eqN (ds.getD j .non) (es.getD j .non)) q Y (by omega) Z
 have e2:=SeqAt.RcNeAt.tuples (e:=fun j=>eqN (ds.getD j .non) (es.getD j .non)) q Y (by omega) Z
 rw [ue,ue,l1,l2,<-Zy] at e1 e2;exact⟨e1,e2⟩
theorem op_eqN (M:X.A.units+64<cLine):OpR X (compareOp .Eq) (rCmpN id):=by
 intro pins s σ H x y v u Q I O R h;obtain⟨ds,es,h1,h2,hn,L,hd,q⟩:=h;exact(rc_N I h1 h2 hn L hd O R M).1 X.prog X.w X.xe _ ⟨.bl _,H,I,rfl,q⟩
theorem op_neTN (M:X.A.units+64<cLine):OpR X (compareOp .NotEq) (rCmpN not):=by
 intro pins s σ H x y v u Q I O R h;obtain⟨ds,es,h1,h2,hn,L,hd,q⟩:=h;exact(rc_N I h1 h2 hn L hd O R M).2 X.prog X.w X.xe _ ⟨.bl _,H,I,rfl,q⟩
end
end L2
namespace L2
open PySem PyProof.Rows
section
variable {X:Cx}{pins:List (Addr×Obj)}{σ:St}{H:Hp}{s:Shared}
theorem meth_cat {pl:Sem Bool}{k:Nat}{C f:Addr}{fd:FuncData}{ps:List Str}{sp:Sp}{m:Str}{o:Expr}{apos pos:Pos}{e:Expr}{es:List Expr}{ta:TE}{t:TA}{Q:VK}{E:XK}(he:PE X.nox o ta)(c:Cls X.K C)(hm:Meth X.K C m f)(F:FnOk X.prog X.w X.K X.mg X.base (CX1 X.prog X.w) k f fd ps sp)(hr:Room k X.A)
  (hb:jj X.K fd ps []) (ha:PA X.nox (e::es) t) (I:Inv X pins σ H s) (h:ta σ H fun x H1=>∃a dx fs,x= .ref a/\H1 a=some (.ins C dx fs)/\fs.lookup m=none/\t σ H1 fun vs H2=>sp (x::vs) H2 Q E)
  (R:starEach (e::es) X.env=(false,eval e X.env)::starEach es X.env) (U:(backTo pos (starEach es X.env)).any (·.1)=false)
  (ht:eval (.Call (.Attribute o m apos) (e::es) [] pos) X.env=(do
   let ov<-eval o X.env
   standAt apos.atName
   let(f,first)<-holding [ov] (getMethod ov m pl)
   callWith pos f first (backTo pos (starEach (e::es) X.env)) (backToKw pos (keywordEach [] X.env)))):
  wpAny (model X.prog X.w) X.A (eval (.Call (.Attribute o m apos) (e::es) [] pos) X.env) (EP X pins σ Q) (Cat X pins σ E) s:=by
 refine Uj (pl:=pl) (vj (he pins s σ H _ (I.wish _) h) (fun u s1 h1=> ?_) fun _ _ z=>z.elim) ht;obtain⟨x,H1,Y,rx,a,dx,fs,ex,ea,l,q⟩:=h1;have I1:Inv X pins σ H1 s1:=Y.unwish;subst ex;obtain rfl:u=Value.ref a:=rx;refine jh I1 ea c hm l ?_;refine Uf (first:= [.ref a]) (h₀:=X.base) I.ok.mod.kin hm.kp (vj (ha pos pins s1 σ H1 _ (I1.wish _) q) (fun us s2 h2=> ?_) fun _ _ z=>z.elim) R U;obtain⟨vs,H2,Z,r,q2⟩:=h2;have L:Inv X pins σ H2 s2:=Z.unwish;refine⟨L.kIn,?_⟩;have r2:Vals (V.ref a::vs) (Value.ref a::us):= .cons rfl r;have hl:(Value.ref a::us).length=ps.length:=by rw [<-r2.length];exact F.len _ _ _ _ q2
 have M:=hb s2 (Value.ref a::us) L.kIn (by rw [vQ];exact hl)
 rw [vQ] at M;refine wpAny_call (Ux (F.run X.A X.stack s2 H2 ⟨Value.ref a::us,[]⟩ (Value.ref a::us) (V.ref a::vs) Q E hr L.env0 M r2 q2 (.inl L.tk)) fun r s' O=> ?_);cases r with
 |error e=>exact⟨H2,s2,L,O⟩
 |ok fl=>
  cases fl with
  |ret u=>exact L.after O
  |next=>exact False.elim O
  |brk=>exact False.elim O
  |cont=>exact False.elim O
def tTryM (C:Addr)(m:Str)(sp:Sp)(ta:TE)(t:TA)(Cc:Addr)(ts:TS):TS:=fun D σ H=>ta σ H fun x H1=>∃a dx fs,x= .ref a/\H1 a=some (.ins C dx fs)/\fs.lookup m=none/\t σ H1 fun vs H2=>sp (x::vs) H2 (fun _ H3=>D.nx σ H3) (fun _ C' H3=>C'=some Cc/\ts D σ H3)
theorem ps_tryM {pl:Sem Bool}{k:Nat}{C f:Addr}{fd:FuncData}{ps:List Str}{sp:Sp}{m c:Str}{o:Expr}{apos np cpos M O pos:Pos}{e:Expr}{es:List Expr}{ta:TE}{t:TA}{Cc C':Addr}{b₀:Stmt}{L:List Stmt}{ts:TS}(ho:PE X.nox o ta)(cl:Cls X.K C)(hm:Meth X.K C m f)(F:FnOk X.prog X.w X.K X.mg X.base (CX1 X.prog X.w) k f fd ps sp)(hr:Room k X.A)
  (hb:jj X.K fd ps []) (ha:PA X.nox (e::es) t) (R:X.stack=X.env::X.outer/\X.env.frame=some X.env.locals) (U:Gl X c) (Y:X.mg c=some (.ref C'))
  (hx:PySem.W.exmOne X.K (.ref Cc) (.ref C')=some true) (hs:∀ee xe,PSs (X.marked ee xe) (b₀::L) ts) (Z:(c==("__debug__":Str))=false:=by decide)
  (he:starEach (e::es) X.env=(false,eval e X.env)::starEach es X.env:=by rfl) (aa:(backTo cpos (starEach es X.env)).any (·.1)=false:=by rfl) (ab:swapsWith (.Call (.Attribute o m apos) (e::es) [] cpos) none M.line X.env=pure false:=by rfl)
  (ht:eval (.Call (.Attribute o m apos) (e::es) [] cpos) X.env=(do
   let ov<-eval o X.env
   standAt apos.atName
   let(f,first)<-holding [ov] (getMethod ov m pl)
   callWith cpos f first (backTo cpos (starEach (e::es) X.env)) (backToKw cpos (keywordEach [] X.env))):=by rfl):
  PS X (.Try [.Expr (.Call (.Attribute o m apos) (e::es) [] cpos) M] [.ExceptHandler (some (.Name c np)) none (b₀::L) O] [] [] pos) (tTryM C m sp ta t Cc ts):=by
 intro pins s σ H D I h;refine wpAny_Try_except (wpAny_execs_cons ?_);refine vj (wpAny_Expr_any (Q:=SP X pins D) (vj (meth_cat ho cl hm F hr hb ha I h he aa ht) (fun v s1 ⟨y,H1,I1,r1,q1⟩=>⟨σ,H1,I1,q1⟩) fun _ _ z=>z) I.quiet ab) (fun fl s1 q=> ?_) fun e' s1 q=>catch_ok q R U Y hx hs Z;cases fl with
 |next=>exact Ui (Ui q)
 |ret v=>exact q
 |brk=>exact q
 |cont=>exact q
end
end L2
namespace L2
open PySem PySem.Spec PyProof.Rows
structure FF (K:PySem.W.Frag)(mg:Str->Option Value)(x:Str)(st:Stmt)(ps:List Str)(f:Addr)(fd:FuncData):Prop where
 F:Fun K x x st f fd
 b:jj K fd ps []
 m:mg x=some (.ref f)
structure FM (K:PySem.W.Frag)(C:Addr)(x q:Str)(st:Stmt)(ps:List Str)(f:Addr)(fd:FuncData):Prop where
 F:Fun K x q st f fd
 b:jj K fd ps []
 h:Meth K C x f
def FZ (K:PySem.W.Frag)(x q:Str)(st:Stmt)(f:Addr):Prop:=∃(oc kV dc pm cd ct:Value) (od an:Option Addr) (sl:Array (Option Value)),K.lookup f=some ⟨oc,od,.func (PySem.W.fnOf x q (jT st) (Ys st) (qm st) .none kV dc pm an cd ct),sl⟩/\PySem.W.codeIn K cd q=true/\PySem.W.keepIn K (.ref f)=true
def FZg (K:PySem.W.Frag)(x:Str)(st:Stmt)(f:Addr):Prop:=PySem.W.nsIn K mainGlobals x=some (some (.ref f))/\FZ K x x st f
def FZm (K:PySem.W.Frag)(C:Addr)(x q:Str)(st:Stmt)(f:Addr):Prop:=PySem.W.findIn K (.ref C) x=some (some (.ref f))/\PySem.W.isFn K (.ref f)=true/\FZ K x q st f
def BOk (x q:Str)(st:Stmt)(ps:List Str):Prop:=∀(kV doc pm:Value) (an:Option Addr) (cdv ct:Value) (us:List Value),us.length=ps.length->bindArgs (PySem.W.fnOf x q (jT st) (Ys st) (qm st) .none kV doc pm an cdv ct) ⟨us,[]⟩=pure (ps.zip us)
theorem Qf {K:PySem.W.Frag}{h:Heap}{mg:Str->Option Value}(X:K.In h)(G:h.Ns mainGlobals mg){x:Str}{st:Stmt}{f:Addr}(z:FZg K x st f)(ps:List Str)(I:BOk x x st ps):∃fd,FF K mg x st ps f fd:=by
 obtain⟨a,oc,kV,L,pm,M,ct,od,an,sl,l,c,k⟩:=z;have F:=fun_mk (st:=st) l c k;exact⟨_,F,F.binds I,uO X G a⟩
theorem XU {K:PySem.W.Frag}{C:Addr}{x q:Str}{st:Stmt}{f:Addr}(z:FZm K C x q st f)(ps:List Str)(I:BOk x q st ps):∃fd,FM K C x q st ps f fd:=by
 obtain⟨a,i,oc,kV,L,pm,M,ct,od,an,sl,l,c,k⟩:=z;have F:=fun_mk (st:=st) l c k;exact⟨_,F,F.binds I,⟨a,i,k⟩⟩
theorem FF.law {K:PySem.W.Frag}{mg:Str->Option Value}{x:Str}{st:Stmt}{ps:List Str}{f:Addr}{fd:FuncData}(T:FF K mg x st ps f fd){y:Str}(h:∀(kV doc pm:Value) (an:Option Addr) (cdv ct u:Value),bindArgs (PySem.W.fnOf x x (jT st) (Ys st) (qm st) .none kV doc pm an cdv ct) ⟨[u],[]⟩=pure [(y,u)])(s:Shared)(u:Value):BindsTo s fd ⟨[u],[]⟩ [(y,u)]:=by
 obtain⟨oc,od,kV,doc,pm,an,cdv,ct,osl,rfl,L,I⟩:=T.F.ex;exact .of_eq (h kV doc pm an cdv ct u)
def txt? (u:Value):Option Str:=match u with
 | .str z _=>some z
 |_=>none
def TZ (K:PySem.W.Frag)(q:Addr)(l:List Str):Prop:=∃(d:Option Addr) (i:Array Value) (n:Nat) (sl:Array (Option Value)),K.lookup q=some ⟨.type "tuple",d,.seq i n,sl⟩/\i.toList.map txt? =l.map some
theorem strs_of:∀{l:List Str}{us:List Value},us.map txt? =l.map some->Vals (l.map V.str) us
 | [],[],_=> .nil
 |z::l,u::us,h=>by
  rw [uk,uk] at h;injection h with h1 h2
  cases u with
  |str y t=>
   have:y=z:=uR h1;subst this;exact .cons ⟨t,rfl⟩ (strs_of h2)
  |_=>cases h1
 | [],_::_,h=>by simp at h
 |_::_,[],h=>by simp at h
theorem TZ.sq {K:PySem.W.Frag}{H:Hp}{q:Addr}{l:List Str}(h:TZ K q l)(M:l.length<=100):SqT K H q (l.map V.str):=by
 obtain⟨d,its,n,sl,L,e⟩:=h;have I:its.size=l.length:=by rw [<-vr];simpa using congrArg List.length e
 exact .inr ⟨_,its,n,L,rfl,rfl,by rw [I];exact Nat.le_of_lt (Ye (by omega)),strs_of e⟩
def TZn (K:PySem.W.Frag)(a:Addr)(x:Str)(l:List Str):Prop:=∃q,PySem.W.nsIn K a x=some (some (.ref q))/\TZ K q l
end L2
namespace L2
open PySem PyProof.Rows
theorem jt {t u:TS}{D:Ends}{σ:St}{H:Hp}(h:∀N:St->Hp->Prop,(∀I H',u D I H'->N I H')->t {D with nx:=N} σ H):tSeq t u D σ H:=h (u D) fun _ _ h=>h
theorem Yu {a b:TS}{D:Ends}{N:St->Hp->Prop}(h:∀σ H,tSeq a b D σ H->N σ H):∃I:St->Hp->Prop,(∀σ H,b D σ H->I σ H)/\∀σ H,a {D with nx:=I} σ H->N σ H:=⟨_,fun _ _ h=>h,h⟩
end L2
namespace K12
open PySem L2 PyProof.Rows
open Builtin.Int (intBits)
def top (i:Nat):Stmt:=PySem.Challenge.pw_askwright_k12_replayed_and_done.main.body.getD i (.Pass ⟨0,0,0,0⟩)
abbrev XC:Stmt:=top 15
abbrev Jl:Stmt:=top 16
abbrev Xk:Stmt:=top 17
abbrev ya:Stmt:=top 19
abbrev jM:Stmt:=top 20
abbrev xD:Stmt:=top 26
abbrev jW:Stmt:=top 27
abbrev xt:Stmt:=top 28
abbrev YT:Stmt:=top 29
abbrev jJ:Stmt:=top 30
abbrev jP:Stmt:=top 33
abbrev jX:Stmt:=top 34
abbrev j6:Stmt:=top 35
abbrev JB:Stmt:=top 36
abbrev JW:Stmt:=top 37
abbrev j7:Stmt:=top 38
abbrev Y6:Stmt:=top 39
abbrev jR:Stmt:=top 40
abbrev jA:Stmt:=top 41
abbrev JX:Stmt:=top 42
abbrev jO:Stmt:=top 43
abbrev yJ:Stmt:=top 45
abbrev yi:Stmt:=top 46
abbrev yW:Stmt:=yX (top 47) 0
abbrev Yp:Stmt:=yX (top 47) 1
abbrev yp:Stmt:=yX (top 47) 2
abbrev yC:Stmt:=yX (top 47) 3
abbrev Y1:Stmt:=yX (top 47) 4
abbrev jq:Stmt:=yX (top 47) 5
abbrev yM:Stmt:=yX (top 47) 6
abbrev QJ:Stmt:=yX (top 47) 7
abbrev yn:Stmt:=yX (top 47) 8
abbrev yU:Stmt:=yX (top 47) 9
abbrev JK:Stmt:=top 48
abbrev Q6:Stmt:=top 49
abbrev s_does:Stmt:=top 50
abbrev Yt:Stmt:=top 52
abbrev xG:Stmt:=top 53
abbrev JY:Stmt:=top 54
abbrev YH:Stmt:=top 55
abbrev J0:Stmt:=top 56
abbrev jb:Stmt:=top 57
abbrev jc:Stmt:=top 58
abbrev J1:Stmt:=top 59
abbrev j0:Stmt:=top 60
abbrev yb:Stmt:=top 61
abbrev JM:Stmt:=top 62
abbrev jY:Stmt:=top 63
abbrev Yq:Stmt:=top 64
abbrev Yk:Stmt:=top 65
abbrev JG:Stmt:=top 66
abbrev QZ:Stmt:=top 67
abbrev JD:Stmt:=top 68
abbrev Xp:Stmt:=top 69
abbrev Zh:Stmt:=top 70
abbrev Jz:Stmt:=top 71
abbrev YG:Stmt:=top 72
abbrev JO:Stmt:=top 73
abbrev xL:Stmt:=top 74
abbrev jV:Stmt:=top 75
abbrev jU:Stmt:=top 76
abbrev s_law:Stmt:=top 77
set_option genInjectivity false in
set_option genSizeOf false in
structure Ad where
 f_is_text:Addr
 d_is_text:FuncData
 f_is_tree:Addr
 d_is_tree:FuncData
 f_is_name:Addr
 d_is_name:FuncData
 Yf:Addr
 Yc:FuncData
 xV:Addr
 xB:FuncData
 f_part_of:Addr
 d_part_of:FuncData
 xT:Addr
 Xo:FuncData
 f_row_of:Addr
 d_row_of:FuncData
 xc:Addr
 xg:FuncData
 xZ:Addr
 xY:FuncData
 jD:Addr
 XE:FuncData
 jE:Addr
 xI:FuncData
 jL:Addr
 Xr:FuncData
 JE:Addr
 zV:FuncData
 JZ:Addr
 zq:FuncData
 j9:Addr
 Xc:FuncData
 YJ:Addr
 xb:FuncData
 jK:Addr
 XO:FuncData
 jH:Addr
 Xa:FuncData
 Jy:Addr
 zx:FuncData
 j8:Addr
 Xu:FuncData
 YL:Addr
 YZ:FuncData
 YC:Addr
 Yv:FuncData
 yV:Addr
 ju:FuncData
 Jh:Addr
 Jd:FuncData
 Yy:Addr
 YB:FuncData
 Y8:Addr
 Y0:FuncData
 Xe:Addr
 XM:FuncData
 XX:Addr
 XV:FuncData
 YN:Addr
 YQ:FuncData
 yw:Addr
 yy:FuncData
 YA:Addr
 Yx:FuncData
 jn:Addr
 jr:FuncData
 zk:Addr
 zr:FuncData
 y3:Addr
 y7:FuncData
 f_does:Addr
 d_does:FuncData
 Ji:Addr
 Jn:FuncData
 f_law_pot:Addr
 d_law_pot:FuncData
 ze:Addr
 zj:FuncData
 xa:Addr
 J6:FuncData
 zA:Addr
 zt:FuncData
 zd:Addr
 X4:FuncData
 X7:Addr
 zB:FuncData
 X1:Addr
 X0:FuncData
 Xz:Addr
 xN:FuncData
 Qx:Addr
 Qw:FuncData
 Yd:Addr
 y9:FuncData
 yF:Addr
 yK:FuncData
 Jb:Addr
 Jp:FuncData
 Jv:Addr
 Jg:FuncData
 X9:Addr
 zE:FuncData
 yR:Addr
 yQ:FuncData
 zI:Addr
 X5:FuncData
 f_law_ask:Addr
 d_law_ask:FuncData
 f_law_go:Addr
 d_law_go:FuncData
 X8:Addr
 zm:FuncData
 J4:Addr
 J9:FuncData
 zH:Addr
 zL:FuncData
 f_law_due:Addr
 d_law_due:FuncData
 Xs:Addr
 XH:FuncData
 XL:Addr
 xQ:FuncData
 f_law:Addr
 d_law:FuncData
 qw:Addr
structure Tx (K:PySem.W.Frag)(mg:Str->Option Value)(a:Ad):Prop where
 g_is_text:FF K mg "is_text" XC ["value"] a.f_is_text a.d_is_text
 g_is_tree:FF K mg "is_tree" Jl ["value"] a.f_is_tree a.d_is_tree
 g_is_name:FF K mg "is_name" Xk ["value"] a.f_is_name a.d_is_name
 g_is_row_of_names:FF K mg "is_row_of_names" ya ["tree"] a.Yf a.Yc
 g_is_answer:FF K mg "is_answer" jM ["ask","answer"] a.xV a.xB
 g_part_of:FF K mg "part_of" xD ["kind","piece","count"] a.f_part_of a.d_part_of
 g_pieces_of:FF K mg "pieces_of" jW ["line","form"] a.xT a.Xo
 g_row_of:FF K mg "row_of" xt ["line","count"] a.f_row_of a.d_row_of
 g_read_lines:FF K mg "read_lines" YT ["value"] a.xc a.xg
 g_rule_rows:FF K mg "rule_rows" jJ ["tree"] a.xZ a.xY
 g_text_made:FF K mg "text_made" jP ["boxes","own","parts"] a.jD a.XE
 g_self_made:FF K mg "self_made" jX ["boxes","own","parts"] a.jE a.xI
 g_copy_made:FF K mg "copy_made" j6 ["boxes","own","parts"] a.jL a.Xr
 g_row_made:FF K mg "row_made" JB ["boxes","own","parts"] a.JE a.zV
 g_put_made:FF K mg "put_made" JW ["boxes","own","parts"] a.JZ a.zq
 g_join_made:FF K mg "join_made" j7 ["boxes","own","parts"] a.j9 a.Xc
 g_first_made:FF K mg "first_made" Y6 ["boxes","own","parts"] a.YJ a.xb
 g_rest_made:FF K mg "rest_made" jR ["boxes","own","parts"] a.jK a.XO
 g_size_made:FF K mg "size_made" jA ["boxes","own","parts"] a.jH a.Xa
 g_cut_made:FF K mg "cut_made" JX ["boxes","own","parts"] a.Jy a.zx
 g_glue_made:FF K mg "glue_made" jO ["boxes","own","parts"] a.j8 a.Xu
 g_is_jump_taken:FF K mg "is_jump_taken" yJ ["boxes","word","parts"] a.YL a.YZ
 g_asked_or_fault:FF K mg "asked_or_fault" yi ["word","held"] a.YC a.Yv
 g_Machine_init:FM K a.qw "__init__" "Machine.__init__" yW ["self","rule","own"] a.yV a.ju
 g_Machine_now:FM K a.qw "now" "Machine.now" Yp ["self"] a.Jh a.Jd
 g_Machine_answer:FM K a.qw "answer" "Machine.answer" yp ["self","tree"] a.Yy a.YB
 g_Machine_asked:FM K a.qw "asked" "Machine.asked" yC ["self"] a.Y8 a.Y0
 g_Machine_lines:FM K a.qw "lines" "Machine.lines" Y1 ["self"] a.Xe a.XM
 g_Machine_copy:FM K a.qw "copy" "Machine.copy" jq ["self"] a.XX a.XV
 g_Machine_go_on:FM K a.qw "go_on" "Machine.go_on" yM ["self"] a.YN a.YQ
 g_Machine_is_waiting:FM K a.qw "is_waiting" "Machine.is_waiting" QJ ["self"] a.yw a.yy
 g_Machine_do_row:FM K a.qw "do_row" "Machine.do_row" yn ["self","row"] a.YA a.Yx
 g_Machine_hold:FM K a.qw "hold" "Machine.hold" yU ["self","box","tree"] a.jn a.jr
 g_replayed:FF K mg "replayed" JK ["rule","own","answers"] a.zk a.zr
 g_asks_that_stand:FF K mg "asks_that_stand" Q6 ["machine","asks"] a.y3 a.y7
 g_does:FF K mg "does" s_does ["rule","own","run"] a.f_does a.d_does
 g_law_cell_at:FF K mg "_law_cell_at" Yt ["script","k"] a.Ji a.Jn
 g_law_pot:FF K mg "_law_pot" xG ["cell","salt"] a.f_law_pot a.d_law_pot
 g_law_take:FF K mg "_law_take" JY ["pot","many"] a.ze a.zj
 g_law_longer:FF K mg "_law_longer" YH ["pot"] a.xa a.J6
 g_law_word:FF K mg "_law_word" J0 ["pot","names"] a.zA a.zt
 g_law_line:FF K mg "_law_line" jb ["pot","names","many","k"] a.zd a.X4
 g_law_rule:FF K mg "_law_rule" jc ["pot","names"] a.X7 a.zB
 g_law_back:FF K mg "_law_back" J1 ["pot","rule"] a.X1 a.X0
 g_law_names:FF K mg "_law_names" j0 [] a.Xz a.xN
 g_law_parts_right:FF K mg "_law_parts_right" yb ["value"] a.Qx a.Qw
 g_law_size:FF K mg "_law_size" JM ["tree"] a.Yd a.y9
 g_law_depth:FF K mg "_law_depth" jY ["tree"] a.yF a.yK
 g_law_is_tree:FF K mg "_law_is_tree" Yq ["value"] a.Jb a.Jp
 g_law_is_name:FF K mg "_law_is_name" Yk ["value"] a.Jv a.Jg
 g_law_next:FF K mg "_law_next" JG ["boxes","words","at"] a.X9 a.zE
 g_law_cut_or_glued:FF K mg "_law_cut_or_glued" QZ ["word","two","three"] a.yR a.yQ
 g_law_held:FF K mg "_law_held" JD ["boxes","words","line","own"] a.zI a.X5
 g_law_ask:FF K mg "_law_ask" Xp ["boxes","words"] a.f_law_ask a.d_law_ask
 g_law_go:FF K mg "_law_go" Zh ["rule","own","answers"] a.f_law_go a.d_law_go
 g_law_said:FF K mg "_law_said" Jz ["boxes","words"] a.X8 a.zm
 g_law_answer:FF K mg "_law_answer" YG ["pot","ask","names"] a.J4 a.J9
 g_law_fits:FF K mg "_law_fits" JO ["ask","tree"] a.zH a.zL
 g_law_due:FF K mg "_law_due" xL ["rule","own","run"] a.f_law_due a.d_law_due
 g_law_other:FF K mg "_law_other" jV ["pot","run","names"] a.Xs a.XH
 g_law_right:FF K mg "_law_right" jU ["pot","rule","own","names"] a.XL a.xQ
 g_law:FF K mg "law" s_law ["script"] a.f_law a.d_law
 qq:Cls K a.qw
 M_Machine:Mk K a.qw a.yV
 m_Machine:mg "Machine"=some (.ref a.qw)
 yd:yD K a.qw "rows"
 XW:yD K a.qw "rule"
 Jk:yD K a.qw "own"
 Qp:yD K a.qw "boxes"
 Qc:yD K a.qw "place"
 QM:yD K a.qw "done"
 yG:yD K a.qw "given"
 qJ:yD K a.qw "there"
 m_MOST_SIGNS:∃t,mg "MOST_SIGNS"=some (.int 300 t)
 m_MOST_PARTS:∃t,mg "MOST_PARTS"=some (.int 40 t)
 m_MOST_SIZE:∃t,mg "MOST_SIZE"=some (.int 600 t)
 m_MOST_DEPTH:∃t,mg "MOST_DEPTH"=some (.int 12 t)
 Jx:∃t,mg "MOST_NAME_SIGNS"=some (.int 24 t)
 m_LETTERS:∃t,mg "LETTERS"=some (.str "abcdefghijklmnopqrstuvwxyz" t)
 m_NAME_SIGNS:∃t,mg "NAME_SIGNS"=some (.str "abcdefghijklmnopqrstuvwxyz0123456789./" t)
 m_PERCENT:∃t,mg "PERCENT"=some (.int 37 t)
 m_MOST_LINES:∃t,mg "MOST_LINES"=some (.int 40 t)
 m_MOST_DONE:∃t,mg "MOST_DONE"=some (.int 300 t)
 z_ord:mg "ord"=none
 Qy:mg "len"=none
 qv:mg "isinstance"=none
 ym:mg "str"=none
 Qm:mg "tuple"=none
 z_all:mg "all"=none
 z_int:mg "int"=none
 Yn:mg "range"=none
 z_zip:mg "zip"=none
 z_dict:mg "dict"=none
 z_list:mg "list"=none
 z_enumerate:mg "enumerate"=none
 z_abs:mg "abs"=none
 z_min:mg "min"=none
 z_sum:mg "sum"=none
 z_max:mg "max"=none
 z_bool:mg "bool"=none
theorem zp:qA ["value","sign"] ["value"] (qm XC):=by trivial
theorem QW:qA ["value","size","waiting","pair","part","depth"] ["value"] (qm Jl):=by trivial
theorem sc_is_name:qA ["value"] ["value"] (qm Xk):=by trivial
theorem Ju:qA ["tree"] ["tree"] (qm ya):=by trivial
theorem sc_is_answer:qA ["ask","answer"] ["ask","answer"] (qm jM):=by trivial
theorem zc:qA ["kind","piece","count","numbers"] ["kind","piece","count"] (qm xD):=by trivial
theorem sc_pieces_of:qA ["line","form"] ["line","form"] (qm jW):=by trivial
theorem YY:qA ["line","count","word","form","pieces","parts"] ["line","count"] (qm xt):=by trivial
theorem yz:qA ["value","rows","line","row"] ["value"] (qm YT):=by trivial
theorem J3:qA ["tree","read"] ["tree"] (qm jJ):=by trivial
theorem sc_text_made:qA ["boxes","own","parts"] ["boxes","own","parts"] (qm jP):=by trivial
theorem sc_self_made:qA ["boxes","own","parts"] ["boxes","own","parts"] (qm jX):=by trivial
theorem sc_copy_made:qA ["boxes","own","parts"] ["boxes","own","parts"] (qm j6):=by trivial
theorem sc_row_made:qA ["boxes","own","parts"] ["boxes","own","parts"] (qm JB):=by trivial
theorem xM:qA ["boxes","own","parts","row"] ["boxes","own","parts"] (qm JW):=by trivial
theorem YM:qA ["boxes","own","parts","one","other"] ["boxes","own","parts"] (qm j7):=by trivial
theorem Jo:qA ["boxes","own","parts","whole"] ["boxes","own","parts"] (qm Y6):=by trivial
theorem J5:qA ["boxes","own","parts","whole"] ["boxes","own","parts"] (qm jR):=by trivial
theorem sc_size_made:qA ["boxes","own","parts"] ["boxes","own","parts"] (qm jA):=by trivial
theorem jx:qA ["boxes","own","parts","whole","between"] ["boxes","own","parts"] (qm JX):=by trivial
theorem YI:qA ["boxes","own","parts","row","between"] ["boxes","own","parts"] (qm jO):=by trivial
theorem xl:qA ["boxes","word","parts"] ["boxes","word","parts"] (qm yJ):=by trivial
theorem JL:qA ["word","held"] ["word","held"] (qm yi):=by trivial
theorem Xx:qA ["self","rule","own"] ["self","rule","own"] (qm yW):=by trivial
theorem XY:qA ["self"] ["self"] (qm Yp):=by trivial
theorem Yb:qA ["self","tree","ask"] ["self","tree"] (qm yp):=by trivial
theorem xj:qA ["self"] ["self"] (qm yC):=by trivial
theorem xi:qA ["self"] ["self"] (qm yM):=by trivial
theorem YK:qA ["self"] ["self"] (qm QJ):=by trivial
theorem Q8:qA ["self","row","word","parts"] ["self","row"] (qm yn):=by trivial
theorem Xl:qA ["self","box","tree"] ["self","box","tree"] (qm yU):=by trivial
theorem Yj:qA ["rule","own","answers","machine","used"] ["rule","own","answers"] (qm JK):=by trivial
theorem Q0:qA ["machine","asks","count","pair"] ["machine","asks"] (qm Q6):=by trivial
theorem sc_does:qA ["rule","own","run","machine"] ["rule","own","run"] (qm s_does):=by trivial
theorem XT:qA ["script","k"] ["script","k"] (qm Yt):=by trivial
theorem yA:qA ["cell","salt","step","big","k"] ["cell","salt"] (qm xG):=by trivial
theorem XD:qA ["pot","many","digit"] ["pot","many"] (qm JY):=by trivial
theorem Qt:qA ["pot","step","top","big","k"] ["pot"] (qm YH):=by trivial
theorem xJ:qA ["pot","names","some"] ["pot","names"] (qm J0):=by trivial
theorem QQ:qA ["pot","names","many","k","words","word","one","two","three","at"] ["pot","names","many","k"] (qm jb):=by trivial
theorem yN:qA ["pot","names","body","many","lines"] ["pot","names"] (qm jc):=by trivial
theorem jF:qA ["pot","rule","at","word"] ["pot","rule"] (qm J1):=by trivial
theorem sc_law_names:qA [] [] (qm j0):=by trivial
theorem Je:qA ["value"] ["value"] (qm yb):=by trivial
theorem sc_law_size:qA ["tree"] ["tree"] (qm JM):=by trivial
theorem sc_law_depth:qA ["tree"] ["tree"] (qm jY):=by trivial
theorem XZ:qA ["value"] ["value"] (qm Yq):=by trivial
theorem XS:qA ["value"] ["value"] (qm Yk):=by trivial
theorem Q5:qA ["boxes","words","at","held","goes"] ["boxes","words","at"] (qm JG):=by trivial
theorem jZ:qA ["word","two","three"] ["word","two","three"] (qm QZ):=by trivial
theorem yE:qA ["boxes","words","line","own","word","one","two"] ["boxes","words","line","own"] (qm JD):=by trivial
theorem X3:qA ["boxes","words","held"] ["boxes","words"] (qm Xp):=by trivial
theorem Qb:qA ["rule","own","answers","boxes","asks","at","turn","words","held","fault","ask"] ["rule","own","answers"] (qm Zh):=by trivial
theorem sc_law_said:qA ["boxes","words"] ["boxes","words"] (qm Jz):=by trivial
theorem Ja:qA ["pot","ask","names","some"] ["pot","ask","names"] (qm YG):=by trivial
theorem sc_law_fits:qA ["ask","tree"] ["ask","tree"] (qm JO):=by trivial
theorem Q4:qA ["rule","own","run","answers","ask","tree","asks","now","done"] ["rule","own","run"] (qm xL):=by trivial
theorem Qe:qA ["pot","run","names","asks","end","way","ends","at","ask","tree"] ["pot","run","names"] (qm jV):=by trivial
theorem qX:qA ["pot","rule","own","names","answers","turn","asks","now","done","run","more","other","found"] ["pot","rule","own","names"] (qm jU):=by trivial
theorem zu:qA ["script","names","k","pot","rule"] ["script"] (qm s_law):=by trivial
structure Ga where
 (boxes asking forms makers ba na:Addr)
def NOMK:List Str:= ["ask","has","names","go","like","rowed","none","say","fault"]
structure Fx (K:PySem.W.Frag)(w:World)(mg:Str->Option Value)(g:Ga)(a:Ad):Prop where
 m_BOXES:mg "BOXES"=some (.ref g.boxes)
 m_ASKING:mg "ASKING"=some (.ref g.asking)
 m_FORMS:mg "FORMS"=some (.ref g.forms)
 m_MAKERS:mg "MAKERS"=some (.ref g.makers)
 boxes:∀H,SqT K H g.boxes (BX.map V.str)
 asking:∀H,SqT K H g.asking [.str "ask",.str "has",.str "names"]
 kd:KDict K w g.forms
 forms:∀x∈FRM,∃q,PySem.W.nsIn K g.forms x.1=some (some (.ref q))/\∀H,SqT K H q (x.2.map fun k=>V.str k.t)
 km:KDict K w g.makers
 k_text:PySem.W.nsIn K g.makers "text"=some (some (.ref a.jD))
 k_self:PySem.W.nsIn K g.makers "self"=some (some (.ref a.jE))
 k_copy:PySem.W.nsIn K g.makers "copy"=some (some (.ref a.jL))
 k_row:PySem.W.nsIn K g.makers "row"=some (some (.ref a.JE))
 k_put:PySem.W.nsIn K g.makers "put"=some (some (.ref a.JZ))
 k_join:PySem.W.nsIn K g.makers "join"=some (some (.ref a.j9))
 k_first:PySem.W.nsIn K g.makers "first"=some (some (.ref a.YJ))
 k_rest:PySem.W.nsIn K g.makers "rest"=some (some (.ref a.jK))
 k_size:PySem.W.nsIn K g.makers "size"=some (some (.ref a.jH))
 k_cut:PySem.W.nsIn K g.makers "cut"=some (some (.ref a.Jy))
 k_glue:PySem.W.nsIn K g.makers "glue"=some (some (.ref a.j8))
 k_no:∀z∈NOMK,PySem.W.nsIn K g.makers z=some none
 Xv:mg "BadAnswer"=some (.ref g.ba)
 x_BadAnswer:PySem.W.excIn K g.ba VE "ValueError.__new__"=true
 e_BadAnswer:PySem.W.exmOne K (.ref g.ba) (.ref g.ba)=some true
 m_NoAsk:mg "NoAsk"=some (.ref g.na)
 x_NoAsk:PySem.W.excIn K g.na VE "ValueError.__new__"=true
def PotB (m:Nat)(H:Hp)(p:Addr):Prop:=∃x:Int,H p=some (.lst [.int x])/\0<=x/\intBits x<=m
def Qz (H:Hp)(p:Addr):Prop:=∃x:Int,H p=some (.lst [.int x])/\0<=x
theorem PotB.at {m:Nat}{H:Hp}{p:Addr}(h:PotB m H p):Qz H p:=let⟨x,e,r,_⟩:=h;⟨x,e,r⟩
theorem Qz.same {H H':Hp}{p:Addr}(h:Qz H p)(s:Same H H'):Qz H' p:=by
 obtain⟨x,e,r⟩:=h;exact⟨x,s _ _ e,r⟩
theorem Qz.free {H:Hp}{p l:Addr}(h:Qz H p)(n:H l=none):p≠l:=by
 obtain⟨x,e,r⟩:=h;exact qr e n
theorem Qz.tk {H H':Hp}{p:Addr}(h:Qz H p)(h':Qz H' p)(k:Kept p H H'):Tk H H':=by
 obtain⟨x,e,_⟩:=h;obtain⟨L,I,_⟩:=h';exact k.tk e I
def MB:Nat:=1048576
def sp_take:Sp:=fun vs H Q _=>∃(p:Addr) (many:Int),vs= [.ref p,.int many]/\Qz H p/\0<many/\many<1073741824/\∀(d:Int) (H':Hp),0<=d->d<many->Qz H' p->Kept p H H'->(PotB MB H p->PotB MB H' p)->Q (.int d) H'
def sp_pot:Sp:=fun vs H Q _=>∃(c t:Int),vs= [.int c,.int t]/\intBits c<=MB/\0<=t/\t<1000/\∀(p:Addr) (H':Hp),H p=none->Same H H'->PotB MB H' p->Q (.ref p) H'
def sp_cell (K:PySem.W.Frag):Sp:=fun vs H Q _=>∃(q:Addr) (ns:List Int) (k:Nat),vs= [.ref q,.int (k:Int)]/\SqL K H q (ns.map V.int)/\(∀x∈ns,intBits x<=MB)/\∀x:Int,intBits x<=MB->Q (.int x) H
def sp_longer:Sp:=fun vs H Q _=>∃p:Addr,vs= [.ref p]/\PotB MB H p/\∀H',Qz H' p->Kept p H H'->Q .non H'
theorem qS {n:Nat}(h:n<=1000):n<=sizeLine:=Nat.le_of_lt (Ye h)
theorem fits {n:Nat}(h:n<=16000000):n<=sizeLine:=by rw [uL];omega
theorem mulL {i j:Int}(h1: -(2^64)<i)(h2:i<2^64):IntMulOk i j:=CMul.ok (.inl ⟨h1,h2⟩)
theorem mulR {i j:Int}(h1: -(2^64)<j)(h2:j<2^64):IntMulOk i j:=CMul.ok (.inr ⟨h1,h2⟩)
theorem xF {α:Type}{xs:List α}{i:Int}{c:α}(h:atI xs i=some c):c∈xs:=by
 unfold atI at h;obtain⟨j,_,e⟩:=Option.bind_eq_some_iff.mp h;exact uT e
theorem big_bits {n:Nat}{b s:Int}(I:0<=b)(h:intBits b<=32*n)(L:0<=s)(s1:s<2147483629):intBits (b*2147483629+s)<=32*(n+1):=by
 have h1:=intBits_le_iff.mp h;refine intBits_le_iff.mpr ?_;have e:(2:Nat)^(32*(n+1))=2^(32*n)*4294967296:=by rw [Nat.mul_add,Nat.pow_add]
 rw [e];generalize 2^(32*n)=N at h1;omega
section
variable {P:Program}{w:World}{K:PySem.W.Frag}{mg:Str->Option Value}{base:Heap}{a:Ad}
theorem YR (T:Tx K mg a):FnOk P w K mg base CX0 1 a.ze a.zj ["pot","many"] sp_take:=by
 refine T.g_law_take.F.ok XD () (fun _ _ _ _ H _ Q E Y h=> ?_)
 obtain⟨p,many,rfl,⟨x,I,L⟩,hm,M,k⟩:=h;refine⟨_,(@qc _ _ _ _ _ (@qx _ _ (2) _ _ _ _ XD.nd rfl (Or.inl rfl) (@qO _ _ _ _ _ _ _ _ zf (@qG _ _ _ _ _ _ _ qP (pv 0) qh (fun _ _=>rfl)) (pv 1)) () ()) (@qc _ _ _ _ _ (@Xf _ _ _ _ _ _ (@qO _ _ _ _ _ _ _ _ op_fdiv (@qG _ _ _ _ _ _ _ qP (pv 0) qh (fun _ _=>rfl)) (pv 1)) (@pg_sub _ _ _ _ _ _ _ (pv 0) qh set_list ()) () () ()) (@qf _ _ _ (@ql _ _ _ _ (pv 2))))),?_⟩
 refine⟨_,rfl,p,_,_,_,rfl,rfl,SqL.of I,rfl,_,rfl,_,_,rfl,rfl,hm,?_⟩;refine⟨_,rfl,p,_,_,_,rfl,rfl,SqL.of I,rfl,_,rfl,_,_,rfl,rfl,⟨hm,M⟩,_,rfl,p,_,_,_,rfl,rfl,I,rfl,?_⟩;refine⟨_,rfl,?_⟩;refine k _ _ (UH _ (by omega)) (Uh _ hm) ⟨x/many,qg,Int.ediv_nonneg L (by omega)⟩ (Kept.upd _ _ _) fun⟨y,O,R,U⟩=>⟨x/many,qg,Int.ediv_nonneg L (by omega),?_⟩
 have e:=O.symm.trans I;cases e;refine intBits_le_of_natAbs ?_ U;have h1:x/many<=x:=Int.ediv_le_self _ L;have h2:0<=x/many:=Int.ediv_nonneg L (by omega)
 omega
theorem ok_pot (T:Tx K mg a):FnOk P w K mg base CX0 1 a.f_law_pot a.d_law_pot ["cell","salt"] sp_pot:=by
 refine T.g_law_pot.F.ok yA () (fun _ _ _ _ H _ Q E hr h=> ?_)
 obtain⟨c,t,rfl,hc,h0,h1,k⟩:=h;refine⟨_,(@qc _ _ _ _ _ (@qH _ _ _ _ _ _ _ _ (@qk _ _ _ _ _ _ _ _ op_ge (@qj _ _ _ _ _ _ _ _ _ call_abs () T.z_abs boot_abs (@qa _ _ _ _ _ (pv 0) qe ()) () () () ()) (@qO _ _ _ _ _ _ _ _ op_pow qh qh) (qu _)) (@qf _ _ _ (@ql _ _ _ _ (@Qo _ _ _ _ (@qa _ _ _ _ _ (@qj _ _ _ _ _ _ _ _ _ call_abs () T.z_abs boot_abs (@qa _ _ _ _ _ (pv 0) qe ()) () () () ()) qe ())))) qp) (@qc _ _ _ _ _ (@qx _ _ (2) _ _ _ _ yA.nd rfl (Or.inl rfl) (@qO _ _ _ _ _ _ _ _ zf (@qO _ _ _ _ _ _ _ _ zU (@qO _ _ _ _ _ _ _ _ Qd (@qO _ _ _ _ _ _ _ _ Qd (@qO _ _ _ _ _ _ _ _ zf (pv 0) qh) (@qO _ _ _ _ _ _ _ _ zU qh (pv 1))) qh) qh) qh) () ()) (@qc _ _ _ _ _ (@qx _ _ (3) _ _ _ _ yA.nd rfl (Or.inl rfl) qh () ()) (@qc _ _ _ _ _ (@js _ _ _ _ _ _ _ _ uX rfl (@yf _ _ _ _ _ _ () T.Yn (@qa _ _ _ _ _ qh qe ()) ()) (@qN _ _ (4) _ yA.nd rfl (Or.inl rfl) ()) (@qc _ _ _ _ _ (@qx _ _ (2) _ _ _ _ yA.nd rfl (Or.inl rfl) (@qO _ _ _ _ _ _ _ _ zf (@qO _ _ _ _ _ _ _ _ Qd (@qO _ _ _ _ _ _ _ _ Qd (@qO _ _ _ _ _ _ _ _ zU (pv 2) (pv 2)) (@qO _ _ _ _ _ _ _ _ zU qh (pv 4))) qh) qh) () ()) (@qf _ _ _ (@qx _ _ (3) _ _ _ _ yA.nd rfl (Or.inl rfl) (@qO _ _ _ _ _ _ _ _ Qd (@qO _ _ _ _ _ _ _ _ zU (pv 3) qh) (pv 2)) () ()))) ()) (@qf _ _ _ (@ql _ _ _ _ (@Qo _ _ _ _ (@qa _ _ _ _ _ (pv 3) qe ())))))))),?_⟩
 refine⟨_,rfl,_,rfl,_,_,rfl,rfl,⟨by decide,by decide,by decide⟩,_,_,rfl,rfl,_,rfl,?_⟩
 refine ite2 (fun _=> ?_) (fun _=> ?_)
 ·refine⟨_,rfl,_,rfl,(by show 1<=sizeLine;decide),fun p L=> ?_⟩
  refine k p _ L (qb L _) ⟨_,qg,?_,?_⟩
  ·split<;>omega
  ·refine intBits_le_of_natAbs ?_ hc;split<;>omega
 ·refine⟨_,rfl,_,_,rfl,rfl,(by show(0:Int)<2147483647;decide),_,rfl,_,_,rfl,rfl,(.inl ⟨by decide,by decide⟩),_,_,rfl,rfl,_,_,rfl,rfl,_,_,rfl,rfl,(.inr ⟨by decide,by decide⟩),_,_,rfl,rfl,(by show(0:Int)<2147483647;decide),9,rfl,by decide,by decide,?_⟩
  let J1_:Nat->L2.St->Hp->Prop:=fun i σ H'=>∃(x b:Int) (R:Option V),σ= [some (.int c),some (.int t),some (.int x),some (.int b),R]/\0<=x/\x<2147483647/\0<=b/\intBits b<=32*i/\H'=H
  refine Ya (n:=9) J1_ ⟨_,_,none,rfl,UH _ (by decide),Uh _ (by decide),by decide,by decide,rfl⟩ ?_ ?_
  ·rintro i σ H' hi ⟨x,b,R,rfl,U,Y,O,I,rfl⟩;have M:CMul x x:= .inl ⟨by omega,by omega⟩
   refine⟨_,rfl,_,rfl,_,_,rfl,rfl,M,_,rfl,_,_,rfl,rfl,(.inl ⟨by decide,by decide⟩),_,_,rfl,rfl,_,_,rfl,rfl,_,_,rfl,rfl,(by show(0:Int)<2147483629;decide),_,rfl,_,_,rfl,rfl,(.inr ⟨by decide,by decide⟩),_,rfl,_,_,rfl,rfl,?_⟩
   have Z:0<=(x*x+40692*(0+(i:Int))+3)%2147483629:=UH _ (by decide)
   have q1:(x*x+40692*(0+(i:Int))+3)%2147483629<2147483629:=Uh _ (by decide)
   exact⟨_,_,_,rfl,Z,Int.lt_trans q1 (by decide),Int.add_nonneg (Int.mul_nonneg O (by decide)) Z,big_bits O I Z q1,rfl⟩
  ·rintro σ H' ⟨x,b,R,rfl,U,Y,O,I,rfl⟩;exact⟨_,rfl,(by show 1<=sizeLine;decide),fun p L=>k p _ L (qb L _) ⟨_,qg,O,uK I (by decide)⟩⟩
theorem ok_cell (T:Tx K mg a):FnOk P w K mg base CX0 1 a.Ji a.Jn ["script","k"] (sp_cell K):=by
 refine T.g_law_cell_at.F.ok XT () (fun _ _ _ _ H _ Q E U h=> ?_)
 obtain⟨q,ns,i,rfl,I,M,k⟩:=h;refine⟨_,(@qc _ _ _ _ _ (@qH _ _ _ _ _ _ _ _ (@qk _ _ _ _ _ _ _ _ op_lt (pv 1) (@qj _ _ _ _ _ _ _ _ _ qE () T.Qy uv (@qa _ _ _ _ _ (pv 0) qe ()) () () () ()) (qu _)) (@qf _ _ _ (@ql _ _ _ _ (@qG _ _ _ _ _ _ _ qP (pv 0) (pv 1) (fun _ _=>rfl)))) qp) (@qf _ _ _ (@ql _ _ _ _ qh))),?_⟩
 refine⟨_,rfl,_,rfl,q,_,rfl,.inl I,_,_,rfl,rfl,_,rfl,?_⟩;refine ite2 (fun c=> ?_) (fun c=> ?_)
 ·have O:(i:Int)<((ns.map V.int).length:Int):=ud c;obtain⟨v,L⟩:=Jj (by omega) O
  obtain⟨y,R,rfl⟩:=List.mem_map.mp (xF L);exact⟨_,rfl,_,rfl,q,_,_,_,rfl,rfl,I,L,k _ (M _ R)⟩
 ·exact k 0 (by decide)
theorem ok_longer (T:Tx K mg a):FnOk P w K mg base CX0 1 a.xa a.J6 ["pot"] sp_longer:=by
 refine T.g_law_longer.F.ok Qt () (fun _ _ _ _ H _ Q E hr h=> ?_)
 obtain⟨p,rfl,⟨x,L,hx,O⟩,k⟩:=h;refine⟨_,(@qc _ _ _ _ _ (@qx _ _ (1) _ _ _ _ Qt.nd rfl (Or.inl rfl) (@qO _ _ _ _ _ _ _ _ Qd (@qO _ _ _ _ _ _ _ _ zf (@qG _ _ _ _ _ _ _ qP (pv 0) qh (fun _ _=>rfl)) qh) qh) () ()) (@qc _ _ _ _ _ (@qx _ _ (2) _ _ _ _ Qt.nd rfl (Or.inl rfl) qh () ()) (@qc _ _ _ _ _ (@xy _ _ _ _ _ _ uX (@qk _ _ _ _ _ _ _ _ zX (pv 2) (@qG _ _ _ _ _ _ _ qP (pv 0) qh (fun _ _=>rfl)) (qu _)) (@qf _ _ _ (@qx _ _ (2) _ _ _ _ Qt.nd rfl (Or.inl rfl) (@qO _ _ _ _ _ _ _ _ xH (pv 2) qh) () ()))) (@qc _ _ _ _ _ (@qx _ _ (3) _ _ _ _ Qt.nd rfl (Or.inl rfl) qh () ()) (@qc _ _ _ _ _ (@js _ _ _ _ _ _ _ _ uX rfl (@yf _ _ _ _ _ _ () T.Yn (@qa _ _ _ _ _ qh qe ()) ()) (@qN _ _ (4) _ Qt.nd rfl (Or.inl rfl) ()) (@qc _ _ _ _ _ (@qx _ _ (1) _ _ _ _ Qt.nd rfl (Or.inl rfl) (@qO _ _ _ _ _ _ _ _ zf (@qO _ _ _ _ _ _ _ _ Qd (@qO _ _ _ _ _ _ _ _ Qd (@qO _ _ _ _ _ _ _ _ xH (pv 1) (pv 1)) (@qO _ _ _ _ _ _ _ _ xH qh (pv 4))) qh) qh) () ()) (@qf _ _ _ (@qx _ _ (3) _ _ _ _ Qt.nd rfl (Or.inl rfl) (@qO _ _ _ _ _ _ _ _ Qd (@qO _ _ _ _ _ _ _ _ xH (pv 3) qh) (pv 1)) () ()))) ()) (@qf _ _ _ (@Xf _ _ _ _ _ _ (@qO _ _ _ _ _ _ _ _ Qd (@qG _ _ _ _ _ _ _ qP (pv 0) qh (fun _ _=>rfl)) (@qO _ _ _ _ _ _ _ _ xH (pv 2) (pv 3))) (@pg_sub _ _ _ _ _ _ _ (pv 0) qh set_list ()) () () ()))))))),?_⟩
 dsimp only [cxOf,Cx.nox];refine⟨_,rfl,p,_,_,_,rfl,rfl,SqL.of L,rfl,_,_,rfl,rfl,(by show(0:Int)<2147483647;decide),_,_,rfl,rfl,?_⟩
 have s0:0<=x%2147483647+17:=Int.add_nonneg (UH _ (by decide)) (by decide)
 have s1:x%2147483647+17<2147483664:=by have:=Uh x (show(0:Int)<2147483647 by decide);omega
 let J3_:Nat->L2.St->Hp->Prop:=fun m σ H'=>∃t:Int,σ= [some (.ref p),some (.int (x%2147483647+17)),some (.int t),none,none]/\1<=t/\(t=1∨∃u,0<=u/\u<=x/\t=u*2147483629)/\H'=H/\m=(x+1-t).toNat
 refine⟨J3_,⟨_,1,rfl,by decide,.inl rfl,rfl,rfl⟩,?_⟩
 ·rintro m σ H' ⟨t,rfl,ht,hu,rfl,rfl⟩;refine⟨_,rfl,_,rfl,p,_,_,_,rfl,rfl,SqL.of L,rfl,_,_,rfl,rfl,_,rfl,?_⟩;refine ite2 (fun c=> ?_) (fun c=> ?_)
  ·have c':t<=x:=ud c;refine⟨fun σ' H2=>σ'= [some (.ref p),some (.int (x%2147483647+17)),some (.int (t*2147483629)),none,none]/\H2=H',?_,?_⟩
   ·rintro σ' H2 ⟨rfl,rfl⟩;exact⟨_,by show(x+1-t*2147483629).toNat<(x+1-t).toNat;omega,_,rfl,by omega,.inr ⟨t,by omega,c',rfl⟩,rfl,rfl⟩
   ·exact⟨_,rfl,_,_,rfl,rfl,mulR (by decide) (by decide),rfl,rfl⟩
  ·have bt:intBits t<=MB+32:=by
    rcases hu with rfl|⟨u,u0,u1,rfl⟩
    ·exact uK (by decide:intBits 1<=1) (by decide)
    ·exact intBits_mul_le (intBits_le_of_natAbs (by omega) O) (by decide)
   refine⟨27,rfl,by decide,by decide,?_⟩
   let J2_:Nat->L2.St->Hp->Prop:=fun i σ H2=>∃(y b:Int) (R:Option V),σ= [some (.ref p),some (.int y),some (.int t),some (.int b),R]/\0<=y/\y<2147483664/\0<=b/\intBits b<=32*i/\H2=H'
   refine Ya (n:=27) J2_ ⟨_,_,none,rfl,s0,s1,by decide,by decide,rfl⟩ ?_ ?_
   ·rintro i σ H2 hi ⟨y,b,R,rfl,U,Y,M,I,rfl⟩;refine⟨_,rfl,_,rfl,_,_,rfl,rfl,mulL (by omega) (by omega),_,rfl,_,_,rfl,rfl,mulL (by decide) (by decide),_,_,rfl,rfl,_,_,rfl,rfl,_,_,rfl,rfl,(by show(0:Int)<2147483629;decide),_,rfl,_,_,rfl,rfl,mulR (by decide) (by decide),_,rfl,_,_,rfl,rfl,?_⟩
    have Z:0<=(y*y+40692*(0+(i:Int))+3)%2147483629:=UH _ (by decide)
    have q1:(y*y+40692*(0+(i:Int))+3)%2147483629<2147483629:=Uh _ (by decide)
    exact⟨_,_,_,rfl,Z,Int.lt_trans q1 (by decide),Int.add_nonneg (Int.mul_nonneg M (by decide)) Z,big_bits M I Z q1,rfl⟩
   ·rintro σ H2 ⟨y,b,R,rfl,U,Y,M,I,rfl⟩;refine⟨_,rfl,p,_,_,_,rfl,rfl,SqL.of L,rfl,_,rfl,_,rfl,_,_,rfl,rfl,mulOk_of_bits bt I (by decide),_,_,rfl,rfl,_,rfl,p,_,_,_,rfl,rfl,L,rfl,?_⟩
    exact k _ ⟨_,qg,Int.add_nonneg hx (Int.mul_nonneg (by omega) M)⟩ (Kept.upd _ _ _)
end
end K12
namespace K12
open PySem L2 PyProof.Rows
theorem jC {z:Str}(h:300<z.length):QV z=false:=by
 unfold QV;rw [uc (by omega)]
 rfl
def isTx:D->Bool
 | .str z=>QV z
 |_=>false
def sp_is_text:Sp:=fun vs H Q _=>∃v d,vs= [v]/\Is H d v/\Q (.bl (isTx d)) H
def sp_is_tree:Sp:=fun vs H Q _=>∃v d,vs= [v]/\Is H d v/\∀H',Same H H'->Q (.bl (isT d)) H'
def pr (p:D×Nat):D:= .tup [p.1,.int (p.2:Int)]
theorem okText_bad {z:Str}{i c:Nat}(h:z.cps[i]? =some c)(I:Qj c=false):QV z=false:=by
 unfold QV;have hm:c∈z.cps.toList:=by
  have:z.cps.toList[i]? =some c:=by simpa using h
  exact uT this
 have:z.cps.toList.all Qj=false:=by
  rw [List.all_eq_false];exact⟨c,hm,by rw [I];exact ua⟩
 rw [this,Bool.and_false]
section
variable {P:Program}{w:World}{K:PySem.W.Frag}{mg:Str->Option Value}{base:Heap}{a:Ad}
theorem zK (T:Tx K mg a):FnOk P w K mg base CX0 1 a.f_is_text a.d_is_text ["value"] sp_is_text:=by
 refine T.g_is_text.F.ok zp () (fun _ _ _ _ H _ Q E hr h=> ?_)
 obtain⟨v,d,rfl,Y,k⟩:=h;refine⟨_,(@qc _ _ _ _ _ (@qH _ _ _ _ _ _ _ _ (@y0 _ _ _ _ _ _ _ (@Qk _ _ _ _ (@qV _ _ _ (@qj _ _ _ _ _ _ _ _ _ (@qz _ _ rfl) () T.qv uz (@qa _ _ _ _ _ (pv 0) (@qa _ _ _ _ _ (@qY _ _ (.ty "str") _ _ () T.ym vw rfl () ()) qe ()) ()) () () () ()) ())) (@yr _ _ _ _ (@qk _ _ _ _ _ _ _ _ xo (@qj _ _ _ _ _ _ _ _ _ YU () T.Qy uv (@qa _ _ _ _ _ (pv 0) qe ()) () () () ()) (@pe_gI _ _ _ _ () T.m_MOST_SIGNS ()) (qu _)))).pt (@qf _ _ _ (@ql _ _ _ _ yP)) qp) (@qc _ _ _ _ _ (@js _ _ _ _ _ _ _ _ uX rfl (@pi_str _ _ _ _ (pv 0)) (@qN _ _ (1) _ zp.nd rfl (Or.inl rfl) ()) (@qf _ _ _ (@qH _ _ _ _ _ _ _ _ (@y0 _ _ _ _ _ _ _ (@qk _ _ _ _ _ _ _ _ XQ (pv 1) qi (qu _)) (@y0 _ _ _ _ _ _ _ (@qk _ _ _ _ _ _ _ _ op_gt_str (pv 1) qi (qu _)) (@yr _ _ _ _ (@qk _ _ _ _ _ _ _ _ Qh (@qj _ _ _ _ _ _ _ _ _ call_ord () T.z_ord boot_ord (@qa _ _ _ _ _ (pv 1) qe ()) () () () ()) (@pe_gI _ _ _ _ () T.m_PERCENT ()) (qu _))))).pt (@qf _ _ _ (@ql _ _ _ _ yP)) qp)) ()) (@qf _ _ _ (@ql _ _ _ _ yP)))),?_⟩
 refine⟨_,rfl,v,"str",tyD d,isStr d,rfl,Y.ty,Qv d,_,rfl,?_⟩;cases d with
 |str z=>
  obtain⟨rfl,hz⟩:=Y;refine iteF ?_;refine⟨_,rfl,z,rfl,hz,_,_,rfl,rfl,_,rfl,?_⟩;refine ite2 (fun c=> ?_) (fun c=> ?_)
  ·have c':(300:Int)<(z.length:Int):=ud c;have e:isTx (.str z)=false:=jC (by omega)
   rw [e] at k;exact k
  ·have c':¬(300:Int)<(z.length:Int):=fun q=>c (u7 q);refine⟨_,rfl,z,rfl,?_⟩
   let J1_:Nat->L2.St->Hp->Prop:=fun i σ H'=>(∃x,σ= [some (.str z),x])/\H'=H/\(z.cps.toList.take i).all Qj=true
   refine for_str J1_ ⟨⟨_,rfl⟩,rfl,rfl⟩ ?_ ?_
   ·rintro i c σ H' Z ⟨⟨x,rfl⟩,rfl,I⟩;have L:Qj c=false->Q (.bl false) H':=fun e=>by
     have e':isTx (.str z)=false:=okText_bad Z e;rw [e'] at k;exact k
    refine⟨_,rfl,_,_,rfl,rfl,_,rfl,?_⟩;rw [show decide ((⟨#[c]⟩:Str).cps.toList<(" ":Str).cps.toList)=decide (c<32) from zT c 32]
    refine ite2 (fun O=> ?_) (fun O=> ?_)
    ·refine iteT (L ?_);have:=ud O;unfold Qj;rw [uc (by omega)]
     rfl
    ·have aa:¬c<32:=fun q=>O (u7 q);refine⟨_,rfl,_,_,rfl,rfl,_,rfl,?_⟩;rw [show decide (("~":Str).cps.toList<(⟨#[c]⟩:Str).cps.toList)=decide (126<c) from one_gt c 126]
     refine ite2 (fun R=> ?_) (fun R=> ?_)
     ·refine iteT (L ?_);have:=ud R;unfold Qj;rw [uc (p:=c<=126) (by omega),Bool.and_false]
      rfl
     ·have ab:¬126<c:=fun q=>R (u7 q);refine⟨_,rfl,_,rfl,rfl,rfl,_,rfl,?_⟩;refine ite2 (fun U=> ?_) (fun U=> ?_)
      ·have M:c=37:=by
        have:=ud U;have:=V.int.inj this;exact Int.ofNat.inj this
       exact L (by subst M;rfl)
      ·have M:c≠37:=fun q=>U (u7 (by rw [q];rfl))
       refine⟨⟨_,rfl⟩,rfl,?_⟩;rw [U3,show z.cps.toList[i]? =some c by simpa using Z,List.all_append,I]
       show(true&&(Qj c&&true))=true;unfold Qj;rw [u7 (by omega),u7 (p:=c<=126) (by omega),u7 M]
       rfl
   ·rintro σ H' ⟨⟨x,rfl⟩,rfl,I⟩;have e:isTx (.str z)=true:=by
     show QV z=true;unfold QV;rw [vf (by simp)] at I
     rw [I,u7 (by omega)]
     rfl
    rw [e] at k;exact k
 |_=>exact iteT (iteT k)
theorem map_snoc {α β:Type}(f:α->β)(xs:List α)(x:α):(xs++ [x]).map f=xs.map f++ [f x]:=by simp
theorem last_at {α:Type}(us:List α)(x:α):(us++ [x])[(us++ [x]).length-1]? =some x:=by simp
theorem drop_last {α:Type}(us:List α)(x:α):(us++ [x]).dropLast=us:=by simp
def Wt (v:V)(d:D)(H:Hp)(L:Addr)(m:Nat)(σ:L2.St)(H':Hp):Prop:=
 ∃(n:Nat) (w:List (D×Nat)) (ws:List V) (x3 x4 x5:Option V),σ= [some v,some (.int n),some (.ref L),x3,x4,x5]/\Same H H'/\H' L=some (.lst ws)/\IsL H' (w.map pr) ws/\G w n=isT d/\n<=600/\w.length<=1+40*n/\m=ndL (w.map (·.1))
theorem JV (T:Tx K mg a):FnOk P w K mg base CX0 2 a.f_is_tree a.d_is_tree ["value"] sp_is_tree:=by
 have xO:=zK (P:=P) (w:=w) (base:=base) T;refine T.g_is_tree.F.ok QW () (fun _ _ _ _ H vs Q E hr h=> ?_)
 obtain⟨v,d,rfl,hv,k⟩:=h;refine⟨_,(@qc _ _ _ _ _ (@qx _ _ (1) _ _ _ _ QW.nd rfl (Or.inl rfl) qh () ()) (@qc _ _ _ _ _ (@qx _ _ (2) _ _ _ _ QW.nd rfl (Or.inl rfl) (@Qo _ _ _ _ (@qa _ _ _ _ _ (@qD _ _ _ _ _ (@qa _ _ _ _ _ (pv 0) (@qa _ _ _ _ _ qh qe ()) ())) qe ())) () ()) (@qc _ _ _ _ _ (@xy _ _ _ _ _ _ uX (@pt_truth _ _ _ (pv 2) (fun _=>rfl)) (@qc _ _ _ _ _ (@qx _ _ (3) _ _ _ _ QW.nd rfl (Or.inl rfl) (@pe_bm0 _ _ _ _ _ _ _ _ _ vm PySem.F.slot_list_pop PySem.F.type_list_pop mt_pop (pv 2) () ()) () ()) (@qc _ _ _ _ _ (@qx _ _ (4) _ _ _ _ QW.nd rfl (Or.inl rfl) (@qG _ _ _ _ _ _ _ qT (pv 3) qh (fun _ _=>rfl)) () ()) (@qc _ _ _ _ _ (@qx _ _ (5) _ _ _ _ QW.nd rfl (Or.inr rfl) (@qG _ _ _ _ _ _ _ qT (pv 3) qh (fun _ _=>rfl)) () ()) (@qc _ _ _ _ _ (@qH _ _ _ _ _ _ _ _ (@jo _ _ _ _ _ _ _ (@qV _ _ _ (@qj _ _ _ _ _ _ _ _ _ (@qz _ _ rfl) () T.qv uz (@qa _ _ _ _ _ (pv 4) (@qa _ _ _ _ _ (@qY _ _ (.ty "tuple") _ _ () T.Qm uY rfl () ()) qe ()) ()) () () () ()) ()) (@Yl _ _ _ _ (@qk _ _ _ _ _ _ _ _ zX (@qj _ _ _ _ _ _ _ _ _ xx () T.Qy uv (@qa _ _ _ _ _ (pv 4) qe ()) () () () ()) (@pe_gI _ _ _ _ () T.m_MOST_PARTS ()) (qu _)))).pt (@qc _ _ _ _ _ (@ps_aug _ _ (1) _ _ _ _ _ _ QW.nd rfl (Or.inl rfl) qh ip_add ()) (@qf _ _ _ (@yq _ _ _ _ (@Yo _ _ _ _ _ _ _ _ _ _ _ _ vm PySem.F.slot_list_extend PySem.F.type_list_extend mt_extend (pv 2) (@qa _ _ _ _ _ (@jk _ _ (["below","depth"]) (1) ([5]) _ _ _ _ _ _ _ _ _ (lcsN (qm Jl) ["value","size","waiting","pair","part","depth"]) rfl (@Ym _ _ _ _ (pv 4)) (fun _ _ _ _ _ _=>(@qN _ _ (0) _ (show List.Nodup (["below","depth"]:List Str) by decide+kernel) rfl (Or.inl rfl) ())) (fun _ _ _ _ _ _=> @QG _) (fun _ _ _ _ _ _=>(@qD _ _ _ _ _ (@qa _ _ _ _ _ (pv 0) (@qa _ _ _ _ _ (@qO _ _ _ _ _ _ _ _ Qd (pv 1) qh) qe ()) ()))) ()) qe ()) () () () () ()) ()))) (@qf _ _ _ (@qH _ _ _ _ _ _ _ _ (@qV _ _ _ (@qt _ _ _ _ _ _ _ _ _ _ _ _ _ _ _ _ xO (hr.mono ()) () T.g_is_text.m T.g_is_text.F.kp T.g_is_text.b .nil qK (@qa _ _ _ _ _ (pv 4) qe ()) () () ()) ()) (@qf _ _ _ (@ps_aug _ _ (1) _ _ _ _ _ _ QW.nd rfl (Or.inl rfl) (@qO _ _ _ _ _ _ _ _ Qd qh (@qj _ _ _ _ _ _ _ _ _ xx () T.Qy uv (@qa _ _ _ _ _ (pv 4) qe ()) () () () ())) ip_add ())) (@qf _ _ _ (@ql _ _ _ _ yP))))) (@qf _ _ _ (@qH _ _ _ _ _ _ _ _ (@y0 _ _ _ _ _ _ _ (@qk _ _ _ _ _ _ _ _ xo (pv 5) (@pe_gI _ _ _ _ () T.m_MOST_DEPTH ()) (qu _)) (@yr _ _ _ _ (@qk _ _ _ _ _ _ _ _ xo (pv 1) (@pe_gI _ _ _ _ () T.m_MOST_SIZE ()) (qu _)))).pt (@qf _ _ _ (@ql _ _ _ _ yP)) qp))))))) (@qf _ _ _ (@ql _ _ _ _ yP))))),?_⟩
 dsimp only [cxOf,Cx.nox];have no:∀{H':Hp}{w:List (D×Nat)}{n:Nat},Same H H'->G w n=isT d->G w n=false->Q (.bl false) H':=fun{H' w n} sm e1 e2=>by
  have q:=k H' sm;rw [<-e1,e2] at q;exact q
 refine⟨_,rfl,(by show 2<=sizeLine;decide),fun t1 h1=>⟨(by show 1<=sizeLine;decide),fun L hL=> ?_⟩⟩
 have s1:Same H (upd H t1 (.tup [v,.int 1])):=qb h1 _;have s2:Same H (upd (upd H t1 (.tup [v,.int 1])) L (.lst [.ref t1])):=s1.trans (qb hL _);have ak:H L=none:=s1.free hL;have i1:Is (upd H t1 (.tup [v,.int 1])) (pr (d,1)) (.ref t1):=Is.new (ds:= [d,.int 1]) ⟨v,_,rfl,hv,_,_,rfl,rfl,rfl⟩ h1;refine⟨Wt v d H L,⟨_,0,[(d,1)],[.ref t1],none,none,none,rfl,s2,qg,IsL.one (i1.mono (qb hL _).tk),G_start d,by omega,by simp,rfl⟩,?_⟩
 rintro m σ H' ⟨n,w,ws,x3,x4,x5,rfl,sm,hl,hw,hG,hn,ap,rfl⟩;refine⟨_,rfl,!ws.isEmpty,.inl ⟨ws,SqL.of hl,rfl⟩,?_⟩;rcases vX w with rfl|⟨w',⟨e,j⟩,rfl⟩
 ·cases(show ws= [] from hw)
  refine iteF ?_;have q:=k H' sm;rw [<-hG,G_nil hn] at q;exact q
 ·rw [vY] at*;rw [map_snoc] at hw;obtain⟨us,x,rfl,hu,hx⟩:=hw.unsnoc;have ne:(!(us++ [x]).isEmpty)=true:=by simp
  rw [ne];refine iteT ⟨fun σ' aq=>∃m',m'<ndL ((w'++ [(e,j)]).map (·.1))/\Wt v d H L m' σ' aq,fun _ _ h=>h,?_⟩;have hm:ndL ((w'++ [(e,j)]).map (·.1))=ndL (w'.map (·.1))+nd e:=by
   rw [map_snoc,JA];simp [ndL]
  have av:w'.length<=40*n:=by
   rw [ug,List.length_singleton] at ap;omega
  have lu:=hu.length;rw [uf] at lu;refine⟨_,rfl,.inl ⟨rfl,_,SqL.of hl⟩,L,_,x,rfl,rfl,hl,last_at us x,?_⟩;rw [drop_last];have t2:Tk H' (upd H' L (.lst us)):=Tk.updL hl;have M:Same H (upd H' L (.lst us)):=fun b o z=>by rw [qy (qr z ak)];exact sm b o z
  have ae:Is (upd H' L (.lst us)) (.tup [e,.int (j:Int)]) x:=hx.mono t2;have af:IsL (upd H' L (.lst us)) (w'.map pr) us:=hu.mono t2;have O:upd H' L (.lst us) L=some (.lst us):=qg;generalize upd H' L (.lst us)=H2 at t2 M ae af O⊢;clear t2 hl hx hu sm;refine⟨_,rfl,QF (i:=0) ae rfl fun y hy=> ?_⟩;refine⟨_,rfl,QF (i:=1) ae rfl fun y1 au=> ?_⟩;cases(show y1= .int (j:Int) from au)
  have ad:∀(U:Nat) (w2:List (D×Nat)) (aa:List V) (I:Hp),Same H I->I L=some (.lst aa)->IsL I (w2.map pr) aa->(j<=12->U<=600->G w2 U=isT d)->(12<j∨600<U->isT d=false)->w2.length<=1+40*U->ndL (w2.map (·.1))<ndL ((w'++ [(e,j)]).map (·.1))->
    ∃ab,[some v,some (V.int (U:Int)),some (V.ref L),some x,some y,some (V.int (j:Int))][5]? =some (some ab)/\∃i Y,ab=V.int i/\V.int 12=V.int Y/\∃k,V.bl (decide (Y<i))=V.bl k/\
     if k=true then if true=true then Q (.bl false) I else∃m',m'<ndL ((w'++ [(e,j)]).map (·.1))/\Wt v d H L m' [some v,some (V.int (U:Int)),some (V.ref L),some x,some y,some (V.int (j:Int))] I
     else∃al,[some v,some (V.int (U:Int)),some (V.ref L),some x,some y,some (V.int (j:Int))][1]? =some (some al)/\∃i Y,al=V.int i/\V.int 600=V.int Y/\∃k,V.bl (decide (Y<i))=V.bl k/\
      if k=true then Q (.bl false) I else∃m',m'<ndL ((w'++ [(e,j)]).map (·.1))/\Wt v d H L m' [some v,some (V.int (U:Int)),some (V.ref L),some x,some y,some (V.int (j:Int))] I:=by
   intro U w2 aa I s3 l3 i3 g3 b3 am m3;have ao:isT d=false->Q (.bl false) I:=fun e=>by
    have q:=k I s3;rw [e] at q;exact q
   refine⟨_,rfl,_,_,rfl,rfl,_,rfl,?_⟩;refine ite2 (fun c=>iteT (ao (b3 (.inl ?_)))) (fun c=>⟨_,rfl,_,_,rfl,rfl,_,rfl,?_⟩)
   ·have:=ud c;omega
   ·have c':¬(12:Int)<(j:Int):=fun q=>c (u7 q);refine ite2 (fun c2=>ao (b3 (.inr ?_))) (fun c2=> ?_)
    ·have:=ud c2;omega
    ·have aw:¬(600:Int)<(U:Int):=fun q=>c2 (u7 q);exact⟨_,m3,U,w2,aa,_,_,_,rfl,s3,l3,i3,g3 (by omega) (by omega),by omega,am,rfl⟩
  refine⟨_,rfl,y,"tuple",tyD e,jQ e,rfl,hy.ty,yl e,_,rfl,?_⟩;cases e with
  |tup xs=>
   refine iteT ?_;obtain⟨a0,vs,rfl,ac,ag⟩:=hy;have lv:=ag.length;refine⟨_,rfl,_,vs.length,rfl,.inr ⟨vs,SqT.of ac,rfl⟩,_,_,rfl,rfl,_,rfl,?_⟩;refine ite2 (fun c=> ?_) (fun c=> ?_)
   ·have c':(vs.length:Int)<=40:=ud c;refine⟨_,rfl,_,_,rfl,rfl,?_⟩;refine⟨_,rfl,.inl ⟨rfl,_,SqL.of O⟩,_,rfl,a0,vs,rfl,SqT.of ac,fun ax A0 ah=> ?_⟩;refine Y7 (tl:= [some (.int (j:Int))]) (fun Z=> .tup [Z,.int ((j+1:Nat):Int)]) ac ag (fits (by omega)) ah (fun Z x0 I R _ s3 i3 r=> ?_) fun I ys s3 l3 i3=> ?_
    ·refine⟨_,rfl,_,rfl,_,_,rfl,rfl,(by show 2<=sizeLine;decide),fun p hp=> ?_⟩
     exact r _ _ (qb hp _) (Is.new (ds:= [Z,.int ((j+1:Nat):Int)]) ⟨x0,_,rfl,i3,_,_,rfl,rfl,rfl⟩ hp)
    ·have ly:=i3.length;rw [uf] at ly;have eA:A0≠L:=fun z=>by rw [z,O] at ah;cases ah
     refine⟨L,A0,us,ys,rfl,rfl,s3 _ _ O,l3,fits (by omega),?_⟩
     have t4:Tk I (upd I L (.lst (us++ys))):=Tk.updL (s3 _ _ O);have em:(w'++xs.map fun Z=>(Z,j+1)).map pr=w'.map pr++xs.map fun Z=> .tup [Z,.int ((j+1:Nat):Int)]:=by
      rw [uF,uN];rfl
     have ef:(w'++xs.map fun Z=>(Z,j+1)).map (·.1)=w'.map (·.1)++xs:=by
      rw [uF,uN]
      congr 1
      exact List.map_id xs
     refine ad (n+1) (w'++xs.map fun Z=>(Z,j+1)) (us++ys) _ (fun b o z=>by rw [qy (qr z ak)];exact s3 b o (M b o z)) qg (by rw [em];exact((af.mono s3.tk).mono t4).append (i3.mono t4)) (fun h1 h2=> ?_) (fun h=> ?_) ?_ ?_
     ·rw [<-hG,G_tup (by omega) h1]
     ·rw [<-hG];rcases h with h|h
      ·exact G_deep h
      ·exact G_big1 h
     ·rw [ug,uf];omega
     ·rw [ef,hm,JA];simp only [nd];omega
   ·have c':¬(vs.length:Int)<=40:=fun q=>c (u7 q);refine⟨_,rfl,_,.tup xs,rfl,(show Is _ (.tup xs) (.ref a0) from⟨a0,vs,rfl,ac,ag⟩),_,rfl,?_⟩
    refine iteF ?_;refine no M hG (G_bad ?_);simp only [good];rw [uc (by omega)]
    rfl
  |str z=>
   refine iteF ?_;obtain⟨rfl,hz⟩:=hy;refine⟨_,rfl,_,.str z,rfl,⟨rfl,hz⟩,_,rfl,?_⟩;cases ht:QV z with
   |false=>
    have e1:isTx (.str z)=false:=ht;rw [e1];refine iteF ?_;refine no M hG (G_bad ?_);simp only [good];exact ht
   |true=>
    have e1:isTx (.str z)=true:=ht;rw [e1];refine iteT ?_;refine⟨_,rfl,_,rfl,_,z.length,rfl,⟨hz,rfl⟩,_,_,rfl,rfl,_,_,rfl,rfl,?_⟩;have en:(n:Int)+(1+(z.length:Int))=((n+(1+z.length):Nat):Int):=by omega
    show∃ab,[some v,some (V.int ((n:Int)+(1+(z.length:Int)))),some (V.ref L),some x,some (V.str z),some (V.int (j:Int))][5]? =some (some ab)/\_;rw [en];refine ad (n+(1+z.length)) w' us _ M O af (fun h1 h2=> ?_) (fun h=> ?_) (by omega) (by rw [hm];simp only [nd];omega)
    ·rw [<-hG,G_str ht h1]
    ·rw [<-hG];rcases h with h|h
     ·exact G_deep h
     ·refine G_big ?_;simp only [sz];omega
  |_=>
   refine iteF ?_;refine⟨_,rfl,_,_,rfl,hy,_,rfl,?_⟩;exact iteF (no M hG (G_bad rfl))
def LET:Str:="abcdefghijklmnopqrstuvwxyz"
def NSG:Str:="abcdefghijklmnopqrstuvwxyz0123456789./"
noncomputable def nm (z:Str):Bool:=decide (1<=(z.length:Int))&&decide ((z.length:Int)<=24)&&inS ⟨#[z.cps.getD 0 0]⟩ LET&&(z.cps.toList.map fun c=>inS ⟨#[c]⟩ NSG).all id
def isNm:D->Bool
 | .str z=>nm z
 |_=>false
def sp_name:Sp:=fun vs H Q _=>∃v d,vs= [v]/\Is H d v/\∀H',Same H H'->Q (.bl (isNm d)) H'
theorem xu {z:Str}(h:1<=z.length):atI z.cps.toList 0=some (z.cps.getD 0 0):=by
 have h':0<z.cps.size:=h;have q:z.cps.toList[0]? =some (z.cps.getD 0 0):=by simp [Array.getD,h']
 exact qQ q
theorem allMap (z:Str):(z.cps.toList.map fun c=>V.bl (inS ⟨#[c]⟩ NSG))=(z.cps.toList.map fun c=>inS ⟨#[c]⟩ NSG).map V.bl:=by
 rw [uN]
 rfl
theorem nm_len {z:Str}(h:¬(1<=(z.length:Int)/\(z.length:Int)<=24)):nm z=false:=by
 unfold nm;by_cases h1:1<=(z.length:Int)
 ·have h2:¬(z.length:Int)<=24:=fun q=>h ⟨h1,q⟩;rw [uc h2];simp
 ·rw [uc h1];simp
theorem nm_first {z:Str}(h:inS ⟨#[z.cps.getD 0 0]⟩ LET=false):nm z=false:=by
 unfold nm;rw [h];simp
theorem nm_rest {z:Str}(h1:1<=(z.length:Int))(h2:(z.length:Int)<=24)(h:inS ⟨#[z.cps.getD 0 0]⟩ LET=true):nm z=(z.cps.toList.map fun c=>inS ⟨#[c]⟩ NSG).all id:=by
 unfold nm;rw [h,u7 h1,u7 h2];simp
theorem ok_name (T:Tx K mg a):FnOk P w K mg base CX0 1 a.f_is_name a.d_is_name ["value"] sp_name:=by
 refine T.g_is_name.F.ok sc_is_name () (fun _ _ _ _ H _ Q E hr h=> ?_)
 obtain⟨x,d,rfl,Y,k⟩:=h;refine⟨_,(@qc _ _ _ _ _ (@qH _ _ _ _ _ _ _ _ (@y0 _ _ _ _ _ _ _ (@Qk _ _ _ _ (@qV _ _ _ (@qj _ _ _ _ _ _ _ _ _ (@qz _ _ rfl) () T.qv uz (@qa _ _ _ _ _ (pv 0) (@qa _ _ _ _ _ (@qY _ _ (.ty "str") _ _ () T.ym vw rfl () ()) qe ()) ()) () () () ()) ())) (@yr _ _ _ _ (@Qk _ _ _ _ (@pt_chain _ _ _ _ _ _ _ _ _ _ _ _ zX zX qh (@qj _ _ _ _ _ _ _ _ _ YU () T.Qy uv (@qa _ _ _ _ _ (pv 0) qe ()) () () () ()) (@pe_gI _ _ _ _ () T.Jx ()) ())))).pt (@qf _ _ _ (@ql _ _ _ _ yP)) qp) (@qc _ _ _ _ _ (@qH _ _ _ _ _ _ _ _ (@qk _ _ _ _ _ _ _ _ J8 (@qG _ _ _ _ _ _ _ ix_str (pv 0) qh (fun _ _=>rfl)) (@pe_gS _ _ _ _ () T.m_LETTERS ()) (by with_unfolding_all rfl)) (@qf _ _ _ (@ql _ _ _ _ yP)) qp) (@qf _ _ _ (@ql _ _ _ _ (@qj _ _ _ _ _ _ _ _ _ (@yg _ rfl) () T.z_all boot_all (@qa _ _ _ _ _ (@jk _ _ (["sign"]) (1) ([]) _ _ _ _ _ _ _ _ _ (lcs0) rfl (@pi_str _ _ _ _ (pv 0)) (fun _ _ _ _ _ _=>(@qN _ _ (0) _ (show List.Nodup (["sign"]:List Str) by decide+kernel) rfl (Or.inl rfl) ())) (fun _ _ _ _ _ _=> @QG _) (fun _ _ _ _ _ _=>(@Qs _ _ _ _ _ _ _ _ op_in_str (pv 0) (@pe_gS _ _ _ _ () T.m_NAME_SIGNS ()) (by with_unfolding_all rfl))) ()) qe ()) () () () ()))))),?_⟩
 refine⟨_,rfl,x,"str",tyD d,isStr d,rfl,Y.ty,Qv d,_,rfl,?_⟩;cases hd:isStr d with
 |false=>
  refine iteT (iteT ?_);have:=k H (Same.refl H);have e:isNm d=false:=by cases d<;>first|rfl|simp [isStr] at hd
  rw [e] at this;exact this
 |true=>
  obtain⟨z,rfl⟩:∃z,d= .str z:=by cases d<;>simp [isStr] at hd;exact⟨_,rfl⟩
  obtain⟨rfl,L⟩:=Y;have k:∀H',Same H H'->Q (.bl (nm z)) H':=k;refine iteF ?_;refine⟨_,rfl,z,rfl,L,_,_,rfl,rfl,_,rfl,?_⟩;have stop:nm z=false->Q (.bl false) H:=fun e=>by
   have:=k H (Same.refl H);rw [e] at this;exact this
  refine ite2 (fun M=> ?_) (fun M=> ?_)
  ·have O:1<=(z.length:Int):=ud M;refine⟨_,_,rfl,rfl,_,rfl,?_⟩;by_cases I:(z.length:Int)<=24
   ·rw [u7 I];refine iteF ?_;refine⟨_,rfl,_,_,_,rfl,rfl,L,xu (by omega),_,_,rfl,rfl,_,rfl,?_⟩
    cases e:inS ⟨#[z.cps.getD 0 0]⟩ LET with
    |false=>
     have U:(!(Builtin.Str.occurrences ("abcdefghijklmnopqrstuvwxyz":Str) ⟨#[z.cps.getD 0 0]⟩ 0 ("abcdefghijklmnopqrstuvwxyz":Str).length 1).isEmpty)=false:=e;rw [U];refine iteT ?_;exact stop (nm_first e)
    |true=>
     have U:(!(Builtin.Str.occurrences ("abcdefghijklmnopqrstuvwxyz":Str) ⟨#[z.cps.getD 0 0]⟩ 0 ("abcdefghijklmnopqrstuvwxyz":Str).length 1).isEmpty)=true:=e;rw [U];refine iteF ?_;refine⟨_,rfl,z,rfl,fun D hD=> ?_⟩;refine lc_str (fun c=> .bl (inS ⟨#[c]⟩ NSG)) (L) hD (fun i c H' R hc Z r=>⟨_,rfl,_,_,rfl,rfl,r⟩) fun H' Z hl=> ?_;refine⟨D,z.cps.toList.map fun c=>inS ⟨#[c]⟩ NSG,rfl,SqL.of (by rw [hl,allMap]),?_⟩
     have:=k H' Z;rw [nm_rest O I e] at this;exact this
   ·rw [uc I];refine iteT ?_;exact stop (nm_len fun q=>I q.2)
  ·refine⟨_,rfl,?_⟩;refine iteT ?_;exact stop (nm_len fun q=>M (u7 q.1))
end
def sp_part:Sp:=fun vs H Q _=>∃(n m:Nat) (kd:Kd) (q:Pt),vs= [.str kd.t,.str q.t,.int (n:Int)]/\n<=40/\m<=125/\ptOk n m kd q/\∀(v:V) (H':Hp),Same H H'->Is H' q.d v->Q v H'
section
variable {P:Program}{w:World}{K:PySem.W.Frag}{mg:Str->Option Value}{base:Heap}{a:Ad}{g:Ga}
theorem ok_part (T:Tx K mg a)(C:Fx K w mg g a):FnOk P w K mg base CX0 1 a.f_part_of a.d_part_of ["kind","piece","count"] sp_part:=by
 refine T.g_part_of.F.ok zc () (fun _ _ _ s H _ Q E hr h=> ?_)
 obtain⟨n,m,kd,q,rfl,hn,hm,I,k⟩:=h;refine⟨_,(@qc _ _ _ _ _ (@qH _ _ _ _ _ _ _ _ (@qk _ _ _ _ _ _ _ _ Qh (pv 0) qi (qu _)) (@qf _ _ _ (@ql _ _ _ _ (pv 1))) qp) (@qc _ _ _ _ _ (@qH _ _ _ _ _ _ _ _ (@qk _ _ _ _ _ _ _ _ Qh (pv 0) qi (qu _)) (@qf _ _ _ (@ql _ _ _ _ (@yS _ _ _ _ _ _ _ _ (@qk _ _ _ _ _ _ _ _ Qq (pv 1) (@pe_gR _ _ _ _ () C.m_BOXES ()) (by with_unfolding_all rfl)) (pv 1) Qg))) qp) (@qc _ _ _ _ _ (@ps_setLC _ _ (["number"]) (1) ([]) (3) _ _ _ _ _ _ _ _ _ _ _ _ zc.nd rfl (Or.inl rfl) (lcs0) rfl (@pi_range2 _ _ _ _ _ _ _ () T.Yn (@qa _ _ _ _ _ qh (@qa _ _ _ _ _ (@qO _ _ _ _ _ _ _ _ Qd (pv 2) qh) qe ()) ()) () ()) (fun _ _ _ _ _ _=>(@qN _ _ (0) _ (show List.Nodup (["number"]:List Str) by decide+kernel) rfl (Or.inl rfl) ())) (fun _ _ _ _ _ _=> @QG _) (fun _ _ _ _ _ _=>(@qR _ _ _ _ _ _ _ _ _ yh () T.ym vw (@qa _ _ _ _ _ (pv 0) qe ()) () () () ())) () () ()) (@qf _ _ _ (@ql _ _ _ _ (@yS _ _ _ _ _ _ _ _ (@qk _ _ _ _ _ _ _ _ Qq (pv 1) (pv 3) (by with_unfolding_all rfl)) (@qR _ _ _ _ _ _ _ _ _ call_intS () T.z_int boot_int (@qa _ _ _ _ _ (pv 1) qe ()) () () () ()) Qg)))))),?_⟩
 refine⟨_,rfl,rfl,_,rfl,?_⟩;cases kd with
 |words=>
  have e:decide (V.str Kd.words.t=V.str ("words":Str))=true:=by decide+kernel
  rw [e];refine iteT ⟨_,rfl,?_⟩;cases q with
  |n i=>exact I.elim
  |s z=>exact k _ H (Same.refl _) ⟨rfl,qS (by have:=I.1;show z.length<=1000;omega)⟩
 |box=>
  have e:decide (V.str Kd.box.t=V.str ("words":Str))=false:=by decide+kernel
  rw [e];refine iteF ⟨_,rfl,rfl,_,rfl,?_⟩;have e:decide (V.str Kd.box.t=V.str ("box":Str))=true:=by decide+kernel
  rw [e];cases q with
  |n i=>exact I.elim
  |s z=>
   have Y:z∈BX:=I;refine iteT ⟨_,rfl,g.boxes,_,rfl,.inr (C.boxes _),rfl,XN _,_,rfl,?_⟩;have e:inV (.str (Pt.s z).t) (BX.map V.str)=true:=by rw [Y4];exact u7 Y
   rw [if_neg ua,e];refine iteT ⟨_,rfl,?_⟩;exact k _ H (Same.refl _) ⟨rfl,qS (by rw [(Qr Y).1];decide)⟩
 |line=>
  have e:decide (V.str Kd.line.t=V.str ("words":Str))=false:=by decide+kernel
  rw [e];refine iteF ⟨_,rfl,rfl,_,rfl,?_⟩;have e:decide (V.str Kd.line.t=V.str ("box":Str))=false:=by decide+kernel
  rw [e];cases q with
  |s z=>exact I.elim
  |n j=>
   refine iteF ?_;refine⟨_,rfl,_,_,rfl,rfl,1,(n:Int)+1,rfl,⟨by decide,by decide,by omega,by omega⟩,fun L Z=> ?_⟩
   rw [show((n:Int)+1-1).toNat=n by omega]
   refine ZF (lo:=1) (tl:= []) (fun i ys H'=>ys=(List.range i).map (fun i:Nat=>V.str (toString (1+(i:Int))))/\Same H H') (fits (by omega)) ⟨rfl,qb Z _⟩ ?_ ?_
   ·rintro i ys H' hi ⟨rfl,O⟩ M U R hR;refine⟨_,rfl,_,rfl,?_,hR _ _ M ⟨?_,?_⟩⟩
    ·have h1:(1+(i:Int)).natAbs<=41:=by omega
     have h2:=Uv (1+(i:Int)).natAbs;omega
    ·rw [List.range_succ,uF]
     rfl
    ·intro b o e;rw [qy (qr e Z)];exact O b o e
   ·rintro ys H' ⟨rfl,O⟩ M;have U:(List.range n).map (fun i:Nat=>V.str (toString (1+(i:Int))))=((List.range n).map fun i:Nat=>(toString (1+(i:Int)):Str)).map V.str:=by rw [uN];rfl
    refine⟨_,rfl,_,rfl,L,_,rfl,.inl (SqL.of M),rfl,by rw [U];exact XN _,_,rfl,?_⟩
    have e:inV (.str (Pt.n j).t) ((List.range n).map (fun i:Nat=>V.str (toString (1+(i:Int)))))=true:=by
     rw [U,Y4];refine u7 (List.mem_map.mpr ⟨(j-1).toNat,List.mem_range.mpr ?_,?_⟩)
     ·have:=I.1;have:=I.2;omega
     ·have:=I.1;rw [show(1:Int)+(((j-1).toNat:Nat):Int)=j by omega]
      rfl
    rw [if_neg ua,e];have hj:=yH I.1 (by have:=I.2;omega)
    exact iteT ⟨_,rfl,_,j,rfl,num_back I.1 (by have:=I.2;omega),uK hj.1 (by decide),k _ _ O rfl⟩
def sp_pieces (K:PySem.W.Frag):Sp:=fun vs H Q _=>∃(n m:Nat) (r:Rw) (ks:List Kd) (q:Addr),vs= [.str (qB r),.ref q]/\n<=40/\(qB r).length<=1000/\(r.1,ks)∈FRM/\yY n m ks r.2/\SqT K H q (ks.map fun k=>V.str k.t)/\∀p,H p=none->Q (.ref p) (upd H p (.lst ((txs r).map V.str)))
theorem Jw (ks:List Kd):(ks.map fun k=>V.str k.t)=(ks.map Kd.t).map V.str:=by rw [uN];rfl
theorem words_in (ks:List Kd):inV (.str "words") (ks.map fun k=>V.str k.t)=decide (Kd.words∈ks):=by
 rw [Jw,Y4,uB,List.mem_map];constructor
 ·rintro⟨k,I,e⟩;cases k with
  |words=>exact I
  |box=>exact absurd e (by decide+kernel)
  |line=>exact absurd e (by decide+kernel)
 ·intro h;exact⟨_,h,rfl⟩
theorem Zc:∀x∈FRM,x.2.length<=3:=by decide+kernel
theorem ok_pieces (T:Tx K mg a):FnOk P w K mg base CX0 1 a.xT a.Xo ["line","form"] (sp_pieces K):=by
 refine T.g_pieces_of.F.ok sc_pieces_of () (fun _ _ _ _ H _ Q E hr h=> ?_)
 obtain⟨n,m,r,ks,q,rfl,hn,O,R,I,U,k⟩:=h;refine⟨_,(@qc _ _ _ _ _ (@qH _ _ _ _ _ _ _ _ (@qk _ _ _ _ _ _ _ _ Qq qi (pv 1) (by with_unfolding_all rfl)) (@qf _ _ _ (@ql _ _ _ _ (@Yo _ _ _ _ _ _ _ _ _ _ _ _ uH vC vD mt_splitN (pv 0) (@qa _ _ _ _ _ qi (@qa _ _ _ _ _ (@qj _ _ _ _ _ _ _ _ _ qE () T.Qy uv (@qa _ _ _ _ _ (pv 1) qe ()) () () () ()) qe ()) ()) () () () () ()))) qp) (@qf _ _ _ (@ql _ _ _ _ (@Yo _ _ _ _ _ _ _ _ _ _ _ _ uH vC vD zY (pv 0) (@qa _ _ _ _ _ qi qe ()) () () () () ())))),?_⟩
 have M:=line_spl hn R I;have Y:=Zc _ R;refine⟨_,rfl,q,_,rfl,.inr U,rfl,by rw [Jw];exact XN _,_,rfl,?_⟩
 rw [if_neg ua,words_in];refine ite2 (fun c=> ?_) (fun c=> ?_)
 ·have L:Kd.words∈ks:=ud c;rw [if_pos L] at M;have Z:0<ks.length:=List.length_pos_iff.mpr fun e=>by rw [e] at L;simp at L
  refine⟨_,rfl,rfl,_,rfl,q,_,rfl,.inr U,_,ks.length,rfl,by rw [uf],O,Z,by simp only at Y;omega,fun p I=> ?_⟩
  rw [M];exact k p I
 ·have L:Kd.words∉ks:=fun z=>c (u7 z);rw [if_neg L] at M;refine⟨_,rfl,rfl,_,rfl,rfl,O,fun p I=> ?_⟩;rw [M];exact k p I
def sp_row_of:Sp:=fun vs H Q _=>∃(n m:Nat) (r:Rw),vs= [.str (qB r),.int (n:Int)]/\n<=40/\m<=125/\(qB r).length<=300/\QD n m r/\∀(v:V) (H':Hp),Same H H'->Is H' (rowD r) v->Q v H'
theorem qo {c:Bool}{A B:Prop}(h:c=false)(b:B):if c=true then A else B:=by rw [if_neg (by rw [h];exact ua)];exact b
theorem qC {c:Bool}{A B:Prop}(h:c=true)(a:A):if c=true then A else B:=by rw [if_pos h];exact a
theorem vals_pt {H:Hp}:∀{ps:List Pt}{vs:List V},L2.IsL H (ps.map Pt.d) vs->vs.all xh=true/\inV .non vs=false
 | [],_,h=>by cases(show _= [] from h);exact⟨rfl,rfl⟩
 |q::ps,_,h=>by
  obtain⟨v,r,rfl,h1,h2⟩:=h;obtain⟨L,M⟩:=vals_pt h2;have I:xh v=true/\eqV v .non=false:=by
   cases q with
   |s z=>obtain⟨rfl,_⟩:=h1;exact⟨rfl,rfl⟩
   |n i=>cases(show v= .int i from h1);exact⟨rfl,rfl⟩
  refine⟨?_,?_⟩
  ·rw [vy,I.1,L];rfl
  ·show(eqV v .non||inV .non r)=false
   rw [I.2,M];rfl
theorem range_parts (ps:List Pt)(f:Nat->D)(h:∀i q,ps[i]? =some q->f i=q.d):(List.range ps.length).map f=ps.map Pt.d:=by
 apply List.ext_getElem
 ·simp
 ·intro i h1 h2;simp only [uf,List.length_range] at h1;simp only [List.getElem_map,List.getElem_range];exact h i ps[i] (ul h1)
theorem ok_row_of (T:Tx K mg a)(C:Fx K w mg g a):FnOk P w K mg base CX0 2 a.f_row_of a.d_row_of ["line","count"] sp_row_of:=by
 have xO:=zK (P:=P) (w:=w) (base:=base) T;have L:=ok_part (P:=P) (w:=w) (base:=base) T C;have I:=ok_pieces (P:=P) (w:=w) (base:=base) T;refine T.g_row_of.F.ok YY () (fun _ _ _ _ H vs Q E hr h=> ?_)
 obtain⟨n,m,r,rfl,hn,hm,al,hok,k⟩:=h;have af:=line_all hn hok;have ag:=line_hd hok;obtain⟨ks,hk,hp⟩:=hok;obtain⟨q,aa,M⟩:=C.forms _ hk;have hf:=Zc _ hk;have ab:=YX hp;simp only at hf;refine⟨_,(@qc _ _ _ _ _ (@qH _ _ _ _ _ _ _ _ (@Qk _ _ _ _ (@qV _ _ _ (@qt _ _ _ _ _ _ _ _ _ _ _ _ _ _ _ _ xO (hr.mono ()) () T.g_is_text.m T.g_is_text.F.kp T.g_is_text.b .nil qK (@qa _ _ _ _ _ (pv 0) qe ()) () () ()) ())) (@qf _ _ _ (@ql _ _ _ _ Qg)) qp) (@qc _ _ _ _ _ (@qx _ _ (2) _ _ _ _ YY.nd rfl (Or.inl rfl) (@qG _ _ _ _ _ _ _ qT (@Yo _ _ _ _ _ _ _ _ _ _ _ _ uH PySem.F.slot_str_partition PySem.F.type_str_partition mt_part (pv 0) (@qa _ _ _ _ _ qi qe ()) () () () () ()) qh (fun _ _=>rfl)) () ()) (@qc _ _ _ _ _ (@qH _ _ _ _ _ _ _ _ (@qk _ _ _ _ _ _ _ _ op_notK (pv 2) (@pe_gR _ _ _ _ () C.m_FORMS ()) (by with_unfolding_all rfl)) (@qf _ _ _ (@ql _ _ _ _ Qg)) qp) (@qc _ _ _ _ _ (@qx _ _ (3) _ _ _ _ YY.nd rfl (Or.inl rfl) (@qG _ _ _ _ _ _ _ ix_K (@pe_gR _ _ _ _ () C.m_FORMS ()) (pv 2) (fun _ _=>rfl)) () ()) (@qc _ _ _ _ _ (@qx _ _ (4) _ _ _ _ YY.nd rfl (Or.inl rfl) (@qt _ _ _ _ _ _ _ _ _ _ _ _ _ _ _ _ I (hr.mono ()) () T.g_pieces_of.m T.g_pieces_of.F.kp T.g_pieces_of.b .nil qK (@qa _ _ _ _ _ (pv 0) (@qa _ _ _ _ _ (pv 3) qe ()) ()) () () ()) () ()) (@qc _ _ _ _ _ (@qH _ _ _ _ _ _ _ _ (@qk _ _ _ _ _ _ _ _ op_ne (@qj _ _ _ _ _ _ _ _ _ qE () T.Qy uv (@qa _ _ _ _ _ (pv 4) qe ()) () () () ()) (@qO _ _ _ _ _ _ _ _ Qd qh (@qj _ _ _ _ _ _ _ _ _ qE () T.Qy uv (@qa _ _ _ _ _ (pv 3) qe ()) () () () ())) (qu _)) (@qf _ _ _ (@ql _ _ _ _ Qg)) qp) (@qc _ _ _ _ _ (@qx _ _ (5) _ _ _ _ YY.nd rfl (Or.inl rfl) (@qR _ _ _ _ _ _ _ _ _ qU () T.Qm uY (@qa _ _ _ _ _ (@jk _ _ (["kind","piece","count"]) (2) ([1]) _ _ _ _ _ _ _ _ _ (lcsN (qm xt) ["line","count","word","form","pieces","parts"]) rfl (@pi_zip _ _ _ _ _ _ _ _ _ () T.z_zip (@qa _ _ _ _ _ (pv 3) (@qa _ _ _ _ _ (@QC _ _ _ _ _ _ _ _ _ _ sl_list (pv 4) (@QR _ _ _ qh) QT) qe ()) ()) () ()) (fun _ _ _ _ _ _=>(@pg_tupK _ (K) _ _ _ (2) _ rfl rfl (Ql (@qN _ _ (0) _ (show List.Nodup (["kind","piece","count"]:List Str) by decide+kernel) rfl (Or.inl rfl) ()) (Ql (@qN _ _ (1) _ (show List.Nodup (["kind","piece","count"]:List Str) by decide+kernel) rfl (Or.inl rfl) ()) Y2)) () ())) (fun _ _ _ _ _ _=> @QG _) (fun _ _ _ _ _ _=>(@qt _ _ _ _ _ _ _ _ _ _ _ _ _ _ _ _ L (hr.mono ()) () T.g_part_of.m T.g_part_of.F.kp T.g_part_of.b .nil qK (@qa _ _ _ _ _ (pv 0) (@qa _ _ _ _ _ (pv 1) (@qa _ _ _ _ _ (pv 2) qe ()) ()) ()) () () ())) ()) qe ()) () () () ()) () ()) (@qf _ _ _ (@ql _ _ _ _ (@yS _ _ _ _ _ _ _ _ (@qk _ _ _ _ _ _ _ _ Qq Qg (pv 5) (by with_unfolding_all rfl)) Qg (@qD _ _ _ _ _ (@qa _ _ _ _ _ (pv 2) (@qa _ _ _ _ _ (pv 5) qe ()) ())))))))))))),?_⟩
 dsimp only [cxOf,Cx.nox];have e0:isTx (.str (qB r))=true:=by
  show QV (qB r)=true;unfold QV;rw [af,u7 (by omega)]
  rfl
 refine⟨_,rfl,_,.str (qB r),rfl,⟨rfl,qS (by omega)⟩,_,rfl,?_⟩
 rw [e0];refine iteF ?_;refine⟨_,rfl,rfl,_,rfl,rfl,by omega,fun t1 x1 x2 g1=> ?_⟩
 refine⟨t1,_,0,_,rfl,rfl,SqT.of qg,rfl,?_⟩;rw [ag];have s1:Same H (upd H t1 (.tup [.str r.1,.str x1,.str x2])):=qb g1 _;generalize upd H t1 (.tup [.str r.1,.str x1,.str x2])=H1 at s1⊢;refine⟨_,rfl,r.1,g.forms,_,rfl,rfl,C.kd,aa,_,rfl,?_⟩;refine iteF ?_;refine⟨_,rfl,r.1,g.forms,_,.ref q,rfl,rfl,C.kd,aa,rfl,?_⟩;refine⟨_,rfl,_,rfl,n,m,r,ks,q,rfl,hn,by omega,hk,hp,M _,fun p2 g2=> ?_⟩
 have s2:Same H1 (upd H1 p2 (.lst ((txs r).map V.str))):=qb g2 _;have e2:(upd H1 p2 (.lst ((txs r).map V.str))) p2=some (.lst ((txs r).map V.str)):=qg;generalize upd H1 p2 (.lst ((txs r).map V.str))=H2 at s2 e2⊢;refine⟨_,rfl,p2,_,rfl,.inl (SqL.of e2),_,rfl,q,_,rfl,.inr (M _),_,_,rfl,rfl,rfl,_,rfl,?_⟩;refine qo ?_ ?_
 ·have ac:(((txs r).map V.str).length:Int)=1+((ks.map fun k=>V.str k.t).length:Int):=by
   simp only [txs,uf,uh];omega
  rw [ac];simp
 refine⟨_,rfl,_,rfl,_,rfl,p2,_,rfl,SqL.of e2,fun p3 g3=> ?_⟩;have ad:cutV ((txs r).map V.str) (some 1) none=(r.2.map Pt.t).map V.str:=by
  rw [show(some (1:Int))=some (((1:Nat)):Int) from rfl,YS (by simp [txs])]
  rfl
 rw [ad];have s3:Same H2 (upd H2 p3 (.lst ((r.2.map Pt.t).map V.str))):=qb g3 _;have e3:(upd H2 p3 (.lst ((r.2.map Pt.t).map V.str))) p3=some (.lst ((r.2.map Pt.t).map V.str)):=qg;generalize upd H2 p3 (.lst ((r.2.map Pt.t).map V.str))=H3 at s3 e3⊢;refine⟨q,p3,_,_,rfl,M _,SqL.of e3,fun A1 gA=> ?_⟩;refine lc_zip (K:=K) (tl:= [some (.int (n:Int))]) (xs:=ks.map fun k:Kd=>V.str k.t) (ys:=(r.2.map Pt.t).map V.str) (fun i=>(r.2.map Pt.d).getD i .non) (fun H' _=>M H') (fun H' sm=>SqL.of (sm _ _ e3)) (by simp [ab]) (by rw [uf];exact qS (by omega)) gA ?_ ?_
 ·intro i x y H4 R hx hy s4 hR;rw [uI] at hx hy;cases Y:ks[i]? with
  |none=>rw [Y] at hx;cases hx
  |some kd=>
   rw [Y] at hx;cases hx;rw [uI] at hy;cases O:r.2[i]? with
   |none=>rw [O] at hy;cases hy
   |some q1=>
    rw [O] at hy;cases hy;refine⟨_,rfl,_,rfl,_,rfl,n,m,kd,q1,rfl,hn,hm,ptsOk_get hp Y O,fun v U s5 hv=>hR v U s5 ?_⟩;have e:(r.2.map Pt.d).getD i .non=q1.d:=by simp [List.getD,O]
    simp only [e];exact hv
 intro U vs s5 e5 h5;have ae:L2.IsL U (r.2.map Pt.d) vs:=by
  rw [uf,<-ab] at h5;rw [range_parts r.2 _ (fun i q1 hi=>by simp [List.getD,hi])] at h5
  exact h5
 refine⟨A1,vs,rfl,.inl ⟨SqL.of e5,fun Z g6=> ?_⟩⟩;have s6:Same U (upd U Z (.tup vs)):=qb g6 _;have i6:Is (upd U Z (.tup vs)) (.tup (r.2.map Pt.d)) (.ref Z):=Is.new ae g6;have e6:(upd U Z (.tup vs)) Z=some (.tup vs):=qg;generalize upd U Z (.tup vs)=H6 at s6 i6 e6⊢;obtain⟨f1,f2⟩:=vals_pt ae;refine⟨_,rfl,Z,vs,rfl,.inr (SqT.of e6),rfl,f1,_,rfl,?_⟩;refine qo (by rw [if_neg ua];exact f2) ?_
 refine⟨_,rfl,_,rfl,(by show 2<=sizeLine;decide),fun t7 g7=> ?_⟩
 have ah:r.1.length<=sizeLine:=by
  have ak:∀x∈FRM,x.1.length<=100:=by decide+kernel
  have:=ak _ hk;exact qS (by simp only at this;omega)
 exact k _ _ (s1.trans (s2.trans (s3.trans (s5.trans (s6.trans (qb g7 _)))))) (Is.new (ds:= [.str r.1,.tup (r.2.map Pt.d)]) ⟨_,_,rfl,⟨rfl,ah⟩,_,_,rfl,i6,rfl⟩ g7)
def QY (rs:List Rw):D:= .tup (rs.map fun r=> .str (qB r))
structure QA (rs:List Rw):Prop where
 n0:1<=rs.length
 n1:rs.length<=40
 ok:∀r∈rs,QD rs.length 125 r
 tree:isT (QY rs)=true
theorem Jt:∀{ds:List D}{d:D},goodL ds=true->d∈ds->good d=true
 |x::xs,d,h,hm=>by
  simp only [goodL,um] at h;rcases List.mem_cons.mp hm with rfl|hm
  ·exact h.1
  ·exact Jt h.2 hm
theorem QA.text {rs:List Rw}(h:QA rs){r:Rw}(I:r∈rs):QV (qB r)=true:=by
 have h1:=h.tree;unfold isT at h1;rw [um,um] at h1;have h2:=h1.1.1;unfold QY at h2;simp only [good,um] at h2;have:=Jt h2.2 (List.mem_map.mpr ⟨r,I,rfl⟩)
 simpa only [good] using this
theorem QA.len {rs:List Rw}(h:QA rs){r:Rw}(I:r∈rs):(qB r).length<=300:=by
 have h1:=h.text I;rcases Nat.lt_or_ge 300 (qB r).length with h2|h2
 ·rw [jC h2] at h1;cases h1
 ·exact h2
def sp_read:Sp:=fun vs H Q _=>∃(v:V) (rs:List Rw),vs= [v]/\QA rs/\Is H (QY rs) v/\∀(u:V) (H':Hp),Same H H'->Is H' (.tup [.tup (rs.map rowD),.non]) u->Q u H'
theorem ok_read (T:Tx K mg a)(C:Fx K w mg g a):FnOk P w K mg base CX0 3 a.xc a.xg ["value"] sp_read:=by
 have YF:=JV (P:=P) (w:=w) (base:=base) T;have I:=ok_row_of (P:=P) (w:=w) (base:=base) T C;refine T.g_read_lines.F.ok yz () (fun _ _ _ _ H vs Q E hr h=> ?_)
 obtain⟨v,rs,rfl,Y,U,k⟩:=h;refine⟨_,(@qc _ _ _ _ _ (@qH _ _ _ _ _ _ _ _ (@y0 _ _ _ _ _ _ _ (@Qk _ _ _ _ (@qV _ _ _ (@qj _ _ _ _ _ _ _ _ _ (@qz _ _ rfl) () T.qv uz (@qa _ _ _ _ _ (pv 0) (@qa _ _ _ _ _ (@qY _ _ (.ty "tuple") _ _ () T.Qm uY rfl () ()) qe ()) ()) () () () ()) ())) (@yr _ _ _ _ (@Qk _ _ _ _ (@pt_chain _ _ _ _ _ _ _ _ _ _ _ _ zX zX qh (@qj _ _ _ _ _ _ _ _ _ qE () T.Qy uv (@qa _ _ _ _ _ (pv 0) qe ()) () () () ()) (@pe_gI _ _ _ _ () T.m_MOST_LINES ()) ())))).pt (@qf _ _ _ (@ql _ _ _ _ (@qD _ _ _ _ _ (@qa _ _ _ _ _ (@qD _ _ _ _ _ qe) (@qa _ _ _ _ _ qh qe ()) ())))) qp) (@qc _ _ _ _ _ (@qx _ _ (1) _ _ _ _ yz.nd rfl (Or.inl rfl) (@Qo _ _ _ _ qe) () ()) (@qc _ _ _ _ _ (@js _ _ _ _ _ _ _ _ uX rfl (@pi_tup _ _ _ _ (pv 0)) (@qN _ _ (2) _ yz.nd rfl (Or.inl rfl) ()) (@qc _ _ _ _ _ (@qx _ _ (3) _ _ _ _ yz.nd rfl (Or.inl rfl) (@qt _ _ _ _ _ _ _ _ _ _ _ _ _ _ _ _ I (hr.mono ()) () T.g_row_of.m T.g_row_of.F.kp T.g_row_of.b .nil qK (@qa _ _ _ _ _ (pv 2) (@qa _ _ _ _ _ (@qj _ _ _ _ _ _ _ _ _ qE () T.Qy uv (@qa _ _ _ _ _ (pv 0) qe ()) () () () ()) qe ()) ()) () () ()) () ()) (@qc _ _ _ _ _ (@qH _ _ _ _ _ _ _ _ (@qk _ _ _ _ _ _ _ _ zo (pv 3) Qg (qu _)) (@qf _ _ _ (@ql _ _ _ _ (@qD _ _ _ _ _ (@qa _ _ _ _ _ (@qR _ _ _ _ _ _ _ _ _ qU () T.Qm uY (@qa _ _ _ _ _ (pv 1) qe ()) () () () ()) (@qa _ _ _ _ _ (@qO _ _ _ _ _ _ _ _ Qd (@qj _ _ _ _ _ _ _ _ _ qE () T.Qy uv (@qa _ _ _ _ _ (pv 1) qe ()) () () () ()) qh) qe ()) ())))) qp) (@qf _ _ _ (@yq _ _ _ _ (@Yo _ _ _ _ _ _ _ _ _ _ _ _ vm U5 U6 YW (pv 1) (@qa _ _ _ _ _ (pv 3) qe ()) () () () () ()) ())))) ()) (@qf _ _ _ (@ql _ _ _ _ (@qD _ _ _ _ _ (@qa _ _ _ _ _ (@qR _ _ _ _ _ _ _ _ _ qU () T.Qm uY (@qa _ _ _ _ _ (pv 1) qe ()) () () () ()) (@qa _ _ _ _ _ (@yS _ _ _ _ _ _ _ _ (@qV _ _ _ (@qt _ _ _ _ _ _ _ _ _ _ _ _ _ _ _ _ YF (hr.mono ()) () T.g_is_tree.m T.g_is_tree.F.kp T.g_is_tree.b .nil qK (@qa _ _ _ _ _ (pv 0) qe ()) () () ()) ()) Qg qh) qe ()) ()))))))),?_⟩
 dsimp only [cxOf,Cx.nox];refine⟨_,rfl,v,"tuple",_,true,rfl,U.ty,yl (QY rs),_,rfl,?_⟩;refine iteF ?_;have M:=U;obtain⟨va,us,rfl,ha,hu⟩:=M;have ac:us.length=rs.length:=by rw [hu.length,uf]
 have n0:=Y.n0;have n1:=Y.n1;refine⟨_,rfl,va,us,rfl,.inr (SqT.of ha),_,_,rfl,rfl,_,rfl,?_⟩;refine qC (u7 (by omega)) ?_
 refine⟨_,_,rfl,rfl,_,rfl,?_⟩;refine qo (by rw [u7 (by omega)];rfl) ?_
 refine⟨(by show 0<=sizeLine;decide),fun Z g1=> ?_⟩
 refine⟨_,rfl,va,rfl,⟨us,SqT.of (qb g1 _ _ _ ha)⟩,?_⟩
 let J1_:Nat->L2.St->Hp->Prop:=fun i σ H'=>∃(ws:List V) (x2 x3:Option V),σ= [some (.ref va),some (.ref Z),x2,x3]/\H' Z=some (.lst ws)/\L2.IsL H' ((rs.take i).map rowD) ws/\Same H H'
 refine for_tup (K:=K) (a:=va) (xs:=us) J1_
  ⟨[],none,none,rfl,qg,rfl,qb g1 _⟩ (fun i σ H' _ ⟨_,_,_,_,_,_,O⟩=>SqT.of (O _ _ ha)) ?_ ?_
 ·rintro i x σ H' hx ⟨ws,x2,x3,rfl,e1,hw,O⟩;have R:i<rs.length:=by
   obtain⟨h,_⟩:=List.getElem?_eq_some_iff.mp hx;omega
  obtain⟨x',aa,ad⟩:=hu.get (i:=i) (d:= .str (qB rs[i])) (by rw [uI,ul R];rfl)
  rw [hx] at aa;cases aa;obtain⟨rfl,_⟩:=ad;have ae:ws.length=i:=by rw [hw.length,uf,uP];omega
  have L:rs[i]∈rs:=vN R;refine⟨_,rfl,_,rfl,va,us,rfl,.inr (SqT.of (O _ _ ha)),rs.length,125,rs[i],by rw [ac];rfl,n1,by decide,Y.len L,Y.ok _ L,fun v H2 s2 U=> ?_⟩
  have M:=U;obtain⟨ab,af,rfl,_,_⟩:=M;refine⟨_,rfl,rfl,_,rfl,?_⟩;refine qo (uc fun z=>by cases z) ?_
  have e2:=s2 _ _ e1;refine⟨_,rfl,.inl ⟨rfl,_,SqL.of e2⟩,_,rfl,Z,ws,_,rfl,rfl,e2,Ye (by omega),?_⟩
  have t3:Tk H2 (upd H2 Z (.lst (ws++ [.ref ab]))):=Tk.updL e2;refine⟨ws++ [.ref ab],_,_,rfl,qg,?_,fun b o e=> ?_⟩
  ·rw [U3,ul R,uF];exact((hw.mono s2.tk).mono t3).append (IsL.one (U.mono t3))
  ·rw [qy (qr e g1)];exact s2 b o (O b o e)
 ·rintro σ H' ⟨ws,x2,x3,rfl,e1,hw,O⟩;rw [vf (by omega)] at hw
  refine⟨_,rfl,Z,ws,rfl,.inl ⟨SqL.of e1,fun t1 g2=> ?_⟩⟩;have s2:Same H' (upd H' t1 (.tup ws)):=qb g2 _;have i2:Is (upd H' t1 (.tup ws)) (.tup (rs.map rowD)) (.ref t1):=Is.new hw g2;generalize upd H' t1 (.tup ws)=H2 at s2 i2⊢;refine⟨_,rfl,_,QY rs,rfl,U.mono (O.trans s2).tk,fun H3 s3=> ?_⟩;refine⟨_,rfl,?_⟩;refine qC Y.tree ?_;refine⟨(by show 2<=sizeLine;decide),fun t4 g4=> ?_⟩
  exact k _ _ (O.trans (s2.trans (s3.trans (qb g4 _)))) (Is.new (ds:= [.tup (rs.map rowD),.non]) ⟨_,_,rfl,i2.mono s3.tk,_,_,rfl,rfl,rfl⟩ g4)
def sp_rows:Sp:=fun vs H Q _=>∃(v:V) (rs:List Rw),vs= [v]/\QA rs/\Is H (QY rs) v/\∀(u:V) (H':Hp),Same H H'->Is H' (.tup (rs.map rowD)) u->Q u H'
theorem ok_rows (T:Tx K mg a)(C:Fx K w mg g a):FnOk P w K mg base CX0 4 a.xZ a.xY ["tree"] sp_rows:=by
 have I:=ok_read (P:=P) (w:=w) (base:=base) T C;refine T.g_rule_rows.F.ok J3 () (fun _ _ _ _ H _ Q E O h=> ?_)
 obtain⟨v,rs,rfl,R,U,k⟩:=h;refine⟨_,(@qc _ _ _ _ _ (@qx _ _ (1) _ _ _ _ J3.nd rfl (Or.inl rfl) (@qt _ _ _ _ _ _ _ _ _ _ _ _ _ _ _ _ I (O.mono ()) () T.g_read_lines.m T.g_read_lines.F.kp T.g_read_lines.b .nil qK (@qa _ _ _ _ _ (pv 0) qe ()) () () ()) () ()) (@qc _ _ _ _ _ (@qH _ _ _ _ _ _ _ _ (@qk _ _ _ _ _ _ _ _ op_notN (@qG _ _ _ _ _ _ _ qT (pv 1) qh (fun _ _=>rfl)) Qg (qu _)) (@qf _ _ _ ps_never) qp) (@qf _ _ _ (@ql _ _ _ _ (@qG _ _ _ _ _ _ _ qT (pv 1) qh (fun _ _=>rfl)))))),?_⟩
 refine⟨_,rfl,v,rs,rfl,R,U,fun u H1 s1 M=> ?_⟩;refine⟨_,rfl,?_⟩;dsimp only [tC];refine QF (i:=1) (d:= .non) M rfl fun x L=> ?_;cases(show x= .non from L)
 refine⟨rfl,_,rfl,?_⟩;refine qo rfl ?_;refine⟨_,rfl,?_⟩;dsimp only [tC];refine QF (i:=0) (d:= .tup (rs.map rowD)) M rfl fun x L=> ?_;exact k x H1 s1 L
def kvB (f:Str->V):List (Key×V):=BX.map fun z=>(Sum.inr z,f z)
theorem val_B {f:Str->V}:∀{zs:List Str}{z:Str},z∈zs->valV (zs.map fun z=>((Sum.inr z:Key),f z)) (Sum.inr z)=some (f z)
 |y::ys,z,h=>by
  rw [uk];by_cases e:y=z
  ·subst e;exact xz rfl
  ·have h':z∈ys:=by
    rcases List.mem_cons.mp h with rfl|h
    ·exact absurd rfl e
    ·exact h
   have:=val_B (f:=f) h';unfold valV at this⊢;rw [U2];have I:decide ((Sum.inr y:Key)=Sum.inr z)=false:=uc fun q=>e (Sum.inr.inj q);simp only [I];exact this
theorem val_none {f:Str->V}{zs:List Str}{z:Str}(h:z∉zs):valV (zs.map fun z=>((Sum.inr z:Key),f z)) (Sum.inr z)=none:=by
 unfold valV;rw [Option.map_eq_none_iff,List.find?_eq_none];intro p I;obtain⟨y,L,rfl⟩:=List.mem_map.mp I;intro q;exact h (by rw [<-Sum.inr.inj (ud q)];exact L)
theorem put_B {f:Str->V}{z:Str}{u:V}(h:z∈BX):putK (kvB f) (Sum.inr z) u=kvB fun y=>if y=z then u else f y:=by
 unfold putK;rw [if_pos]
 ·unfold kvB;rw [uN];refine List.map_congr_left fun y _=> ?_;by_cases e:y=z
  ·simp [e]
  ·simp [e]
 ·rw [List.any_eq_true];exact⟨(Sum.inr z,f z),List.mem_map.mpr ⟨z,h,rfl⟩,by simp⟩
def QH (H:Hp)(d:Addr)(B:Str->D):Prop:=∃f:Str->V,H d=some (.dK (kvB f))/\∀z∈BX,Is H (B z) (f z)
def setB (B:Str->D)(z:Str)(e:D):Str->D:=fun y=>if y=z then e else B y
theorem QH.same {H H':Hp}{d:Addr}{B:Str->D}(h:QH H d B)(s:Same H H'):QH H' d B:=let⟨f,e,i⟩:=h;⟨f,s _ _ e,fun z I=>(i z I).mono s.tk⟩
theorem QH.move {H H':Hp}{d:Addr}{B:Str->D}(h:QH H d B)(t:Tk H H')(e:H' d=H d):QH H' d B:=let⟨f,e1,i⟩:=h;⟨f,e.trans e1,fun z I=>(i z I).mono t⟩
theorem QH.get {H:Hp}{d:Addr}{B:Str->D}{z:Str}(h:QH H d B)(I:z∈BX):∃v,DGet H d (.str z) (some v)/\Is H (B z) v:=by
 obtain⟨f,e,i⟩:=h;refine⟨f z,?_,i z I⟩;have:=DGet.k (k:=(Sum.inr z:Key)) e;rw [show valV (kvB f) (Sum.inr z)=some (f z) from val_B I] at this
 exact this
theorem QH.lack {H:Hp}{d:Addr}{B:Str->D}{z:Str}(h:QH H d B)(I:z∉BX):DGet H d (.str z) none:=by
 obtain⟨f,e,i⟩:=h;have:=DGet.k (k:=(Sum.inr z:Key)) e;rw [show valV (kvB f) (Sum.inr z)=none from val_none I] at this
 exact this
theorem QH.put {H:Hp}{d:Addr}{B:Str->D}{z:Str}{u:V}{e:D}(h:QH H d B)(L:z∈BX)(M:Is H e u):∃kvs,DPut H d (.str z) u (upd H d (.dK kvs))/\QH (upd H d (.dK kvs)) d (setB B z e)/\Tk H (upd H d (.dK kvs)):=by
 obtain⟨f,I,i⟩:=h;refine⟨kvB fun y=>if y=z then u else f y,.inl ⟨_,Sum.inr z,I,rfl,by show BX.length<sizeLine;rw [uL];decide,by rw [put_B L]⟩,⟨_,qg,fun y O=> ?_⟩,Tk.updD I⟩
 have t:Tk H (upd H d (.dK (kvB fun y=>if y=z then u else f y))):=Tk.updD I
 unfold setB;by_cases c:y=z
 ·rw [if_pos c,if_pos c];exact M.mono t
 ·rw [if_neg c,if_neg c];exact(i y O).mono t
def yx:List D->Bool
 | []=>true
 | .str _::r=>yx r
 |_=>false
def yu:List D->List Str
 | .str z::r=>z::yu r
 |_=> []
def b0 (ps:List Pt):Str:=(ps.getD 0 (.s "")).t
def b1 (ps:List Pt):Str:=(ps.getD 1 (.s "")).t
def b2 (ps:List Pt):Str:=(ps.getD 2 (.s "")).t
def zR:D->D
 | .str z=>if z.length=0 then .non else .str ⟨#[z.cps.getD 0 0]⟩
 | .tup (x::_)=>x
 |_=> .non
noncomputable def restD:D->D
 | .str z=>if z.length=0 then .non else .str (Txt.slice z (some 1) none)
 | .tup (_::r)=> .tup r
 |_=> .non
def lenD:D->Nat
 | .str z=>z.length
 | .tup xs=>xs.length
 |_=>0
def putD:D->D->D
 | .tup xs,e=> .tup (xs++ [e])
 |_,_=> .non
def joinD:D->D->D
 | .str x,.str y=> .str (x++y)
 |_,_=> .non
noncomputable def cutD:D->D->D
 | .str z,.str y=>if y.length=0 then .non else .tup ((spG z y).map .str)
 |_,_=> .non
noncomputable def glueD:D->D->D
 | .tup xs,.str y=>if yx xs=true then .str (Str.join y (yu xs)) else .non
 |_,_=> .non
noncomputable def made (w:Str)(B:Str->D)(own:Str)(ps:List Pt):D:=
 if w="text" then .str (b1 ps) else if w="self" then .str own else if w="copy" then B (b1 ps) else if w="row" then .tup [] else
 if w="put" then putD (B (b0 ps)) (B (b1 ps)) else if w="join" then joinD (B (b0 ps)) (B (b1 ps)) else if w="first" then zR (B (b1 ps)) else if w="rest" then restD (B (b1 ps)) else
 if w="size" then .str (toString ((lenD (B (b1 ps)):Nat):Int)) else if w="cut" then cutD (B (b1 ps)) (B (b2 ps)) else glueD (B (b1 ps)) (B (b2 ps))
theorem qL {n m:Nat}{w:Str}{ps:List Pt}{ks:List Kd}(h:QD n m (w,ps))(I:(w,ks)∈FRM):yY n m ks ps:=by
 obtain⟨L,h1,h2⟩:=h;have:=form_nd _ h1 _ I rfl;cases this;exact h2
theorem sh_b {n m:Nat}{ps:List Pt}(h:yY n m [.box] ps):∃x,ps= [.s x]/\x∈BX:=by
 match ps,h with
 | [.s x],h=>exact⟨x,rfl,h.1⟩
 | [.n _],h=>exact h.1.elim
theorem yZ {n m:Nat}{ps:List Pt}(h:yY n m [.box,.box] ps):∃x y,ps= [.s x,.s y]/\x∈BX/\y∈BX:=by
 match ps,h with
 | [.s x,.s y],h=>exact⟨x,y,rfl,h.1,h.2.1⟩
 | [.n _,_],h=>exact h.1.elim
 | [.s _,.n _],h=>exact h.2.1.elim
theorem sh_bbb {n m:Nat}{ps:List Pt}(h:yY n m [.box,.box,.box] ps):∃x y z,ps= [.s x,.s y,.s z]/\x∈BX/\y∈BX/\z∈BX:=by
 match ps,h with
 | [.s x,.s y,.s z],h=>exact⟨x,y,z,rfl,h.1,h.2.1,h.2.2.1⟩
 | [.n _,_,_],h=>exact h.1.elim
 | [.s _,.n _,_],h=>exact h.2.1.elim
 | [.s _,.s _,.n _],h=>exact h.2.2.1.elim
theorem sh_bw {n m:Nat}{ps:List Pt}(h:yY n m [.box,.words] ps):∃x y,ps= [.s x,.s y]/\x∈BX/\y.length<=m/\y.cps.toList.all Qj=true:=by
 match ps,h with
 | [.s x,.s y],h=>exact⟨x,y,rfl,h.1,h.2.1⟩
 | [.n _,_],h=>exact h.1.elim
 | [.s _,.n _],h=>exact h.2.1.elim
theorem sh_l {n m:Nat}{ps:List Pt}(h:yY n m [.line] ps):∃i:Int,ps= [.n i]/\1<=i/\i<=n:=by
 match ps,h with
 | [.n i],h=>exact⟨i,rfl,h.1⟩
 | [.s _],h=>exact h.1.elim
theorem sh_bl {n m:Nat}{ps:List Pt}(h:yY n m [.box,.line] ps):∃x,∃i:Int,ps= [.s x,.n i]/\x∈BX/\1<=i/\i<=n:=by
 match ps,h with
 | [.s x,.n i],h=>exact⟨x,i,rfl,h.1,h.2.1⟩
 | [.n _,_],h=>exact h.1.elim
 | [.s _,.s _],h=>exact h.2.1.elim
theorem sh_bbl {n m:Nat}{ps:List Pt}(h:yY n m [.box,.box,.line] ps):∃x y,∃i:Int,ps= [.s x,.s y,.n i]/\x∈BX/\y∈BX/\1<=i/\i<=n:=by
 match ps,h with
 | [.s x,.s y,.n i],h=>exact⟨x,y,i,rfl,h.1,h.2.1,h.2.2.1⟩
 | [.n _,_,_],h=>exact h.1.elim
 | [.s _,.n _,_],h=>exact h.2.1.elim
 | [.s _,.s _,.s _],h=>exact h.2.2.1.elim
def PtsAt (H:Hp)(t:Addr)(ps:List Pt):Prop:=Is H (.tup (ps.map Pt.d)) (.ref t)
def Tr (B:Str->D):Prop:=∀z∈BX,isT (B z)=true
def JQ (w:Str):Sp:=fun vs H Q _=>∃(d t:Addr) (own:Str) (B:Str->D) (ps:List Pt) (n:Nat),vs= [.ref d,.str own,.ref t]/\QH H d B/\Tr B/\own.length<=100/\QD n 125 (w,ps)/\PtsAt H t ps/\
 ∀(v:V) (H':Hp),Same H H'->Is H' (made w B own ps) v->Q v H'
theorem box_at {K:PySem.W.Frag}{H:Hp}{t:Addr}{ps:List Pt}{i:Nat}{z:Str}{Q:VK}(h:PtsAt H t ps)(e:ps[i]? =some (.s z))(q:Q (.str z) H):rIxT K (.ref t) (.int (i:Int)) H Q:=
 QF (d:= .str z) h (qQ (by rw [uI,e];rfl)) fun x I=>by obtain⟨rfl,_⟩:=I;exact q
theorem YV {d:D}(h:isT d=true):dp d<=12:=by
 unfold isT at h;rw [um] at h;exact ud h.2
theorem isT_sz {d:D}(h:isT d=true):sz d<=600:=by
 unfold isT at h;rw [um,um] at h;exact ud h.1.2
theorem QE {d:D}(h:isT d=true):lenD d<=600:=by
 have h1:=isT_sz h;cases d with
 |str z=>simp only [sz] at h1;show z.length<=600;omega
 |tup xs=>
  unfold isT at h;rw [um,um] at h;have h2:=h.1.1;simp only [good,um] at h2;have:=ud h2.1;show xs.length<=600;omega
 |_=>exact uD _
theorem jS (z y:Str):(z++y:Str).length=z.length+y.length:=by
 show(z.cps++y.cps).size=z.cps.size+y.cps.size;exact Array.size_append
theorem bget {K:PySem.W.Frag}{H:Hp}{t d:Addr}{B:Str->D}{ps:List Pt}{i:Nat}{z:Str}{Q:VK}(I:QH H d B)(h:PtsAt H t ps)(e:ps[i]? =some (.s z))(L:z∈BX)(q:∀v,Is H (B z) v->Q v H):rIxT K (.ref t) (.int (i:Int)) H (fun y H2=>∃a v,V.ref d= .ref a/\DGet H2 a y (some v)/\Q v H2):=by
 obtain⟨v,M,O⟩:=I.get L;exact box_at h e ⟨d,v,rfl,M,q v O⟩
theorem ok_text (T:Tx K mg a):FnOk P w K mg base CX0 1 a.jD a.XE ["boxes","own","parts"] (JQ "text"):=by
 refine T.g_text_made.F.ok sc_text_made () (fun _ _ _ _ H _ Q E M h=> ?_)
 obtain⟨d,t,own,B,ps,n,rfl,O,R,U,I,L,k⟩:=h;refine⟨_,(@qf _ _ _ (@ql _ _ _ _ (@qG _ _ _ _ _ _ _ qT (pv 2) qh (fun _ _=>rfl)))),?_⟩;obtain⟨x,y,rfl,Y,Z,hs⟩:=sh_bw (qL I (by decide+kernel))
 exact⟨_,rfl,box_at (i:=1) L rfl (k _ H (Same.refl _) ⟨rfl,qS (by show y.length<=1000;omega)⟩)⟩
theorem ok_self (T:Tx K mg a):FnOk P w K mg base CX0 1 a.jE a.xI ["boxes","own","parts"] (JQ "self"):=by
 refine T.g_self_made.F.ok sc_self_made () (fun _ _ _ _ H _ Q E L h=> ?_)
 obtain⟨d,t,own,B,ps,n,rfl,M,O,R,I,U,k⟩:=h;refine⟨_,(@qf _ _ _ (@ql _ _ _ _ (pv 1))),?_⟩;exact⟨_,rfl,k _ H (Same.refl _) ⟨rfl,qS (by show own.length<=1000;omega)⟩⟩
theorem ok_row (T:Tx K mg a):FnOk P w K mg base CX0 1 a.JE a.zV ["boxes","own","parts"] (JQ "row"):=by
 refine T.g_row_made.F.ok sc_row_made () (fun _ _ _ _ H _ Q E M h=> ?_)
 obtain⟨d,t,own,B,ps,n,rfl,O,R,U,L,Y,k⟩:=h;refine⟨_,(@qf _ _ _ (@ql _ _ _ _ (@qD _ _ _ _ _ qe))),?_⟩;exact⟨(by show 0<=sizeLine;decide),fun l I=>k _ _ (qb I _) (Is.new (ds:= []) rfl I)⟩
theorem ok_copy (T:Tx K mg a):FnOk P w K mg base CX0 1 a.jL a.Xr ["boxes","own","parts"] (JQ "copy"):=by
 refine T.g_copy_made.F.ok sc_copy_made () (fun _ _ _ _ H _ Q E L h=> ?_)
 obtain⟨d,t,own,B,ps,n,rfl,M,Y,Z,I,O,k⟩:=h;refine⟨_,(@qf _ _ _ (@ql _ _ _ _ (@Qi _ _ _ _ _ _ (QU L) (pv 0) (@qG _ _ _ _ _ _ _ qT (pv 2) qh (fun _ _=>rfl)) (fun _ _=>rfl)))),?_⟩;obtain⟨x,y,rfl,hx,R⟩:=yZ (qL I (by decide+kernel))
 refine⟨_,rfl,_,rfl,?_⟩;exact bget (i:=1) M O rfl R fun v U=>k _ H (Same.refl _) U
theorem ok_put (T:Tx K mg a):FnOk P w K mg base CX0 1 a.JZ a.zq ["boxes","own","parts"] (JQ "put"):=by
 refine T.g_put_made.F.ok xM () (fun _ _ _ _ H _ Q E Z h=> ?_)
 obtain⟨d,t,own,B,ps,n,rfl,hB,hT,ho,R,I,k⟩:=h;refine⟨_,(@qc _ _ _ _ _ (@qx _ _ (3) _ _ _ _ xM.nd rfl (Or.inl rfl) (@Qi _ _ _ _ _ _ (QU Z) (pv 0) (@qG _ _ _ _ _ _ _ qT (pv 2) qh (fun _ _=>rfl)) (fun _ _=>rfl)) () ()) (@qc _ _ _ _ _ (@qH _ _ _ _ _ _ _ _ (@Qk _ _ _ _ (@qV _ _ _ (@qj _ _ _ _ _ _ _ _ _ (@qz _ _ rfl) () T.qv uz (@qa _ _ _ _ _ (pv 3) (@qa _ _ _ _ _ (@qY _ _ (.ty "tuple") _ _ () T.Qm uY rfl () ()) qe ()) ()) () () () ()) ())) (@qf _ _ _ (@ql _ _ _ _ Qg)) qp) (@qf _ _ _ (@ql _ _ _ _ (@qO _ _ _ _ _ _ _ _ yL (pv 3) (@qD _ _ _ _ _ (@qa _ _ _ _ _ (@Qi _ _ _ _ _ _ (QU Z) (pv 0) (@qG _ _ _ _ _ _ _ qT (pv 2) qh (fun _ _=>rfl)) (fun _ _=>rfl)) qe ()))))))),?_⟩
 obtain⟨x,y,rfl,hx,hy⟩:=yZ (qL R (by decide+kernel))
 refine⟨_,rfl,_,rfl,?_⟩;refine bget (i:=0) hB I rfl hx fun v U=> ?_;refine⟨_,rfl,v,"tuple",tyD (B x),jQ (B x),rfl,U.ty,yl _,_,rfl,?_⟩;have L:=QE (hT x hx);have O:∀(v:V) (H':Hp),Same H H'->Is H' (putD (B x) (B y)) v->Q v H':=k;generalize B x=dx at U O L⊢;cases dx with
 |tup xs=>
  refine iteF ?_;obtain⟨r,rs,rfl,er,Y⟩:=U;refine⟨_,rfl,_,rfl,_,rfl,?_⟩;refine bget (i:=1) hB I rfl hy fun u iu=> ?_;refine⟨(by show 1<=sizeLine;decide),fun l M=>⟨r,l,rs,[u],rfl,rfl,SqT.of (qb M _ _ _ er),SqT.of qg,?_,fun e=> ?_,fun _ e=>(by cases e),fun _ _ p I=> ?_⟩⟩
  ·rw [Y.length];have:xs.length<=600:=L;exact qS (by show xs.length+1<=1000;omega)
  ·subst e;have e2:xs= []:=uC Y.length.symm;subst e2;exact O _ _ (qb M _) (Is.new (ds:= [B y]) (IsL.one iu) M)
  ·have t1:Tk H (upd H l (.tup [u])):=(qb M _).tk;exact O _ _ ((qb M _).trans (qb I _)) (Is.new (ds:=xs++ [B y]) ((Y.mono t1).append (IsL.one (iu.mono t1))) I)
 |_=>exact iteT (O _ H (Same.refl _) rfl)
theorem ok_join (T:Tx K mg a):FnOk P w K mg base CX0 1 a.j9 a.Xc ["boxes","own","parts"] (JQ "join"):=by
 refine T.g_join_made.F.ok YM () (fun _ _ _ _ H _ Q E Y h=> ?_)
 obtain⟨d,t,own,B,ps,n,rfl,Z,hT,ho,O,hp,k⟩:=h;refine⟨_,(@qc _ _ _ _ _ (@qx _ _ (3) _ _ _ _ YM.nd rfl (Or.inl rfl) (@Qi _ _ _ _ _ _ (QU Y) (pv 0) (@qG _ _ _ _ _ _ _ qT (pv 2) qh (fun _ _=>rfl)) (fun _ _=>rfl)) () ()) (@qc _ _ _ _ _ (@qx _ _ (4) _ _ _ _ YM.nd rfl (Or.inl rfl) (@Qi _ _ _ _ _ _ (QU Y) (pv 0) (@qG _ _ _ _ _ _ _ qT (pv 2) qh (fun _ _=>rfl)) (fun _ _=>rfl)) () ()) (@qc _ _ _ _ _ (@qH _ _ _ _ _ _ _ _ (@y0 _ _ _ _ _ _ _ (@Qk _ _ _ _ (@qV _ _ _ (@qj _ _ _ _ _ _ _ _ _ (@qz _ _ rfl) () T.qv uz (@qa _ _ _ _ _ (pv 3) (@qa _ _ _ _ _ (@qY _ _ (.ty "str") _ _ () T.ym vw rfl () ()) qe ()) ()) () () () ()) ())) (@yr _ _ _ _ (@Qk _ _ _ _ (@qV _ _ _ (@qj _ _ _ _ _ _ _ _ _ (@qz _ _ rfl) () T.qv uz (@qa _ _ _ _ _ (pv 4) (@qa _ _ _ _ _ (@qY _ _ (.ty "str") _ _ () T.ym vw rfl () ()) qe ()) ()) () () () ()) ())))).pt (@qf _ _ _ (@ql _ _ _ _ Qg)) qp) (@qf _ _ _ (@ql _ _ _ _ (@qO _ _ _ _ _ _ _ _ Qn (pv 3) (pv 4))))))),?_⟩
 obtain⟨x,y,rfl,hx,hy⟩:=yZ (qL O (by decide+kernel))
 refine⟨_,rfl,_,rfl,?_⟩;refine bget (i:=0) Z hp rfl hx fun v R=> ?_;refine⟨_,rfl,_,rfl,?_⟩;refine bget (i:=1) Z hp rfl hy fun u U=> ?_;have lx:=QE (hT x hx);have ly:=QE (hT y hy);have I:∀(v:V) (H':Hp),Same H H'->Is H' (joinD (B x) (B y)) v->Q v H':=k;generalize B x=dx at R I lx⊢;generalize B y=L at U I ly⊢;refine⟨_,rfl,v,"str",tyD dx,isStr dx,rfl,R.ty,Qv _,_,rfl,?_⟩;cases dx with
 |str z=>
  refine iteF ⟨_,rfl,u,"str",tyD L,isStr L,rfl,U.ty,Qv _,_,rfl,?_⟩;cases L with
  |str M=>
   refine iteF ?_;obtain⟨rfl,_⟩:=R;obtain⟨rfl,_⟩:=U;have h1:z.length<=600:=lx;have h2:M.length<=600:=ly;exact⟨_,rfl,_,rfl,_,_,rfl,rfl,fits (by omega),I _ H (Same.refl _) ⟨rfl,by rw [show(z++M).length=z.length+M.length from jS z M];exact fits (by omega)⟩⟩
  |_=>exact iteT (I _ H (Same.refl _) rfl)
 |_=>exact iteT (I _ H (Same.refl _) (by cases L<;>rfl))
theorem ok_first (T:Tx K mg a):FnOk P w K mg base CX0 1 a.YJ a.xb ["boxes","own","parts"] (JQ "first"):=by
 refine T.g_first_made.F.ok Jo () (fun _ _ _ _ H _ Q E hr h=> ?_)
 obtain⟨d,t,own,B,ps,n,rfl,hB,Y,ho,M,hp,k⟩:=h;refine⟨_,(@qc _ _ _ _ _ (@qx _ _ (3) _ _ _ _ Jo.nd rfl (Or.inl rfl) (@Qi _ _ _ _ _ _ (QU hr) (pv 0) (@qG _ _ _ _ _ _ _ qT (pv 2) qh (fun _ _=>rfl)) (fun _ _=>rfl)) () ()) (@qf _ _ _ (@ql _ _ _ _ (@yS _ _ _ _ _ _ _ _ (@qk _ _ _ _ _ _ _ _ xo (@qj _ _ _ _ _ _ _ _ _ QK () T.Qy uv (@qa _ _ _ _ _ (pv 3) qe ()) () () () ()) qh (qu _)) (@qG _ _ _ _ _ _ _ yt (pv 3) qh (fun _ _=>rfl)) Qg)))),?_⟩
 obtain⟨x,y,rfl,hx,O⟩:=yZ (qL M (by decide+kernel))
 refine⟨_,rfl,_,rfl,?_⟩;refine bget (i:=1) hB hp rfl O fun v L=> ?_;have ly:=QE (Y y O);have Z:=Y y O;have I:∀(v:V) (H':Hp),Same H H'->Is H' (zR (B y)) v->Q v H':=k;generalize B y=dy at L I ly Z⊢;cases dy with
 |str z=>
  obtain⟨rfl,hz⟩:=L;refine⟨_,rfl,.inl ⟨z,rfl,hz,_,_,rfl,rfl,_,rfl,?_⟩⟩;refine ite2 (fun c=> ?_) (fun c=> ?_)
  ·have R:1<=z.length:=by have:=ud c;omega
   have k2:Is H (zR (.str z)) (.str ⟨#[z.cps.getD 0 0]⟩):=by
    show Is H (if z.length=0 then D.non else _) _
    rw [if_neg (by omega)]
    exact⟨rfl,qS (by show 1<=1000;decide)⟩
   exact⟨_,rfl,.inr (.inr ⟨z,0,_,rfl,rfl,hz,xu R,I _ H (Same.refl _) k2⟩)⟩
  ·have R:z.length=0:=by
    rcases vZ z.length with e|e
    ·exact e
    ·exact absurd (u7 (by omega)) c
   exact I _ H (Same.refl _) (by show Is H (if z.length=0 then D.non else _) _;rw [if_pos R];rfl)
 |tup xs=>
  have U:=L;obtain⟨r,rs,rfl,er,ir⟩:=U;refine⟨_,rfl,.inr ⟨r,rs,rfl,.inr (SqT.of er),fun _=>⟨_,_,rfl,rfl,_,rfl,?_⟩⟩⟩;have hl:=ir.length;cases xs with
  |nil=>exact qo (uc (by rw [hl];decide)) (I _ H (Same.refl _) rfl)
  |cons e es=>
   refine qC (u7 (by rw [hl,uh];omega)) ?_
   exact⟨_,rfl,.inr (.inl (QF (i:=0) (d:=e) L (qQ (j:=0) rfl) fun q hq=>I _ H (Same.refl _) hq))⟩
 |_=>simp [isT,good] at Z
theorem JN:∀xs:List D,yx xs=xs.all isStr
 | []=>rfl
 | .str _::r=>by show yx r=_;rw [JN r];rfl
 | .non::_| .bl _::_| .int _::_| .lst::_| .dct::_| .tup _::_=>rfl
theorem Zl:∀{xs:List D},yx xs=true->xs=(yu xs).map D.str
 | [],_=>rfl
 | .str z::r,h=>by
  show D.str z::r=D.str z::(yu r).map D.str;rw [<-Zl (show yx r=true from h)]
theorem IsL.strs {H:Hp}:∀{l:List Str}{vs:List V},L2.IsL H (l.map D.str) vs->vs=l.map V.str
 | [],_,h=>h
 |_::_,_,h=>by
  obtain⟨v,r,rfl,h1,h2⟩:=h;rw [IsL.strs h2,h1.1];rfl
theorem IsL.ofStrs {H:Hp}:∀{l:List Str},(∀z∈l,z.length<=sizeLine)->L2.IsL H (l.map D.str) (l.map V.str)
 | [],_=>rfl
 |z::l,h=>⟨_,_,rfl,⟨rfl,h z uE⟩,IsL.ofStrs fun y I=>h y (uq _ I)⟩
theorem Zr:∀(l:List Str),(l.map (·.length)).sum+l.length=szL (l.map D.str)
 | []=>rfl
 |z::l=>by
  have:=Zr l;simp only [uk,vq,uh,szL,sz];omega
theorem join_le (I:Str):∀(l:List Str),(Str.join I l).length<=(l.map (·.length)).sum+l.length*I.length
 | []=>uD _
 | [x]=>by simp [Str.join]
 |x::y::r=>by
  have L:=join_le I (y::r);have e:(Str.join I (x::y::r)).length=x.length+I.length+(Str.join I (y::r)).length:=by
   show((x.cps++I.cps)++(Str.join I (y::r)).cps).size=_;rw [Array.size_append,Array.size_append]
   rfl
  rw [e,uk,vq,uh,Nat.succ_mul];omega
theorem ok_rest (T:Tx K mg a):FnOk P w K mg base CX0 1 a.jK a.XO ["boxes","own","parts"] (JQ "rest"):=by
 refine T.g_rest_made.F.ok J5 () (fun _ _ _ _ H _ Q E hr h=> ?_)
 obtain⟨d,t,own,B,ps,n,rfl,hB,hT,ho,M,L,k⟩:=h;refine⟨_,(@qc _ _ _ _ _ (@qx _ _ (3) _ _ _ _ J5.nd rfl (Or.inl rfl) (@Qi _ _ _ _ _ _ (QU hr) (pv 0) (@qG _ _ _ _ _ _ _ qT (pv 2) qh (fun _ _=>rfl)) (fun _ _=>rfl)) () ()) (@qf _ _ _ (@ql _ _ _ _ (@yS _ _ _ _ _ _ _ _ (@qk _ _ _ _ _ _ _ _ xo (@qj _ _ _ _ _ _ _ _ _ QK () T.Qy uv (@qa _ _ _ _ _ (pv 3) qe ()) () () () ()) qh (qu _)) (@QC _ _ _ _ _ _ _ _ _ _ sl_any (pv 3) (@QR _ _ _ qh) QT) Qg)))),?_⟩
 obtain⟨x,y,rfl,hx,O⟩:=yZ (qL M (by decide+kernel))
 refine⟨_,rfl,_,rfl,?_⟩;refine bget (i:=1) hB L rfl O fun v R=> ?_;have ly:=QE (hT y O);have hg:=hT y O;have I:∀(v:V) (H':Hp),Same H H'->Is H' (restD (B y)) v->Q v H':=k;generalize B y=dy at R I ly hg⊢;cases dy with
 |str z=>
  obtain⟨rfl,U⟩:=R;refine⟨_,rfl,.inl ⟨z,rfl,U,_,_,rfl,rfl,_,rfl,?_⟩⟩;refine ite2 (fun c=> ?_) (fun c=> ?_)
  ·have h0:1<=z.length:=by have:=ud c;omega
   have k2:Is H (restD (.str z)) (.str (Txt.slice z (some 1) none)):=by
    show Is H (if z.length=0 then D.non else _) _
    rw [if_neg (by omega)]
    exact⟨rfl,uK (Txt.slice_le z _ _) U⟩
   exact⟨_,rfl,_,rfl,.inl ⟨z,rfl,U,I _ H (Same.refl _) k2⟩⟩
  ·have h0:z.length=0:=by
    rcases vZ z.length with e|e
    ·exact e
    ·exact absurd (u7 (by omega)) c
   exact I _ H (Same.refl _) (by show Is H (if z.length=0 then D.non else _) _;rw [if_pos h0];rfl)
 |tup xs=>
  have Y:=R;obtain⟨r,rs,rfl,er,ir⟩:=Y;refine⟨_,rfl,.inr ⟨r,rs,rfl,.inr (SqT.of er),fun _=>⟨_,_,rfl,rfl,_,rfl,?_⟩⟩⟩;have hl:=ir.length;cases xs with
  |nil=>exact qo (uc (by rw [hl];decide)) (I _ H (Same.refl _) rfl)
  |cons e es=>
   refine qC (u7 (by rw [hl,uh];omega)) ?_
   obtain⟨v0,Z,rfl,i0,i1⟩:=ir;refine⟨_,rfl,_,rfl,.inr ⟨r,v0::Z,rfl,SqT.of er,fun h=> ?_,fun _ p L=> ?_⟩⟩
   ·exfalso;have:=h.1;simp [HT.sIx] at this
   ·have e1:cutV (v0::Z) (some 1) none=Z:=by
     rw [show(some (1:Int))=some (((1:Nat)):Int) from rfl,YS (by simp)]
     rfl
    rw [e1];exact I _ _ (qb L _) (Is.new i1 L)
 |_=>simp [isT,good] at hg
theorem ok_size (T:Tx K mg a):FnOk P w K mg base CX0 1 a.jH a.Xa ["boxes","own","parts"] (JQ "size"):=by
 refine T.g_size_made.F.ok sc_size_made () (fun _ _ _ _ H _ Q E hr h=> ?_)
 obtain⟨d,t,own,B,ps,n,rfl,hB,Y,ho,I,hp,k⟩:=h;refine⟨_,(@qf _ _ _ (@ql _ _ _ _ (@qR _ _ _ _ _ _ _ _ _ yh () T.ym vw (@qa _ _ _ _ _ (@qj _ _ _ _ _ _ _ _ _ QK () T.Qy uv (@qa _ _ _ _ _ (@Qi _ _ _ _ _ _ (QU hr) (pv 0) (@qG _ _ _ _ _ _ _ qT (pv 2) qh (fun _ _=>rfl)) (fun _ _=>rfl)) qe ()) () () () ()) qe ()) () () () ()))),?_⟩
 obtain⟨x,y,rfl,hx,L⟩:=yZ (qL I (by decide+kernel))
 refine⟨_,rfl,_,rfl,?_⟩;refine bget (i:=1) hB hp rfl L fun v M=> ?_;have O:=QE (Y y L);have Z:=Y y L;have R:∀(v:V) (H':Hp),Same H H'->Is H' (.str (toString ((lenD (B y):Nat):Int))) v->Q v H':=k;generalize B y=dy at M R O Z⊢;have sm:∀n:Nat,n<=600->((n:Int)).natAbs.log2<1920/\((toString (n:Int):Str)).length<=sizeLine:=by
  intro n hn;have h2:=Uv ((n:Int)).natAbs;exact⟨by omega,int_text_fits (by omega)⟩
 cases dy with
 |str z=>
  obtain⟨rfl,hz⟩:=M;have h2:=sm z.length O;exact .inl ⟨z,rfl,hz,_,rfl,h2.1,R _ H (Same.refl _) ⟨rfl,h2.2⟩⟩
 |tup xs=>
  have U:=M;obtain⟨r,rs,rfl,er,ir⟩:=U;have h2:=sm xs.length O;refine .inr ⟨r,rs,rfl,.inr (SqT.of er),fun _=>⟨_,rfl,?_,?_⟩⟩
  ·rw [ir.length];exact h2.1
  ·rw [ir.length];exact R _ H (Same.refl _) ⟨rfl,h2.2⟩
 |_=>simp [isT,good] at Z
theorem ok_cut (T:Tx K mg a):FnOk P w K mg base CX0 1 a.Jy a.zx ["boxes","own","parts"] (JQ "cut"):=by
 refine T.g_cut_made.F.ok jx () (fun _ _ _ _ H _ Q E Z h=> ?_)
 obtain⟨d,t,own,B,ps,n,rfl,hB,hT,ho,R,M,k⟩:=h;refine⟨_,(@qc _ _ _ _ _ (@qx _ _ (3) _ _ _ _ jx.nd rfl (Or.inl rfl) (@Qi _ _ _ _ _ _ (QU Z) (pv 0) (@qG _ _ _ _ _ _ _ qT (pv 2) qh (fun _ _=>rfl)) (fun _ _=>rfl)) () ()) (@qc _ _ _ _ _ (@qx _ _ (4) _ _ _ _ jx.nd rfl (Or.inl rfl) (@Qi _ _ _ _ _ _ (QU Z) (pv 0) (@qG _ _ _ _ _ _ _ qT (pv 2) qh (fun _ _=>rfl)) (fun _ _=>rfl)) () ()) (@qc _ _ _ _ _ (@qH _ _ _ _ _ _ _ _ (@y0 _ _ _ _ _ _ _ (@Qk _ _ _ _ (@qV _ _ _ (@qj _ _ _ _ _ _ _ _ _ (@qz _ _ rfl) () T.qv uz (@qa _ _ _ _ _ (pv 3) (@qa _ _ _ _ _ (@qY _ _ (.ty "str") _ _ () T.ym vw rfl () ()) qe ()) ()) () () () ()) ())) (@y0 _ _ _ _ _ _ _ (@Qk _ _ _ _ (@qV _ _ _ (@qj _ _ _ _ _ _ _ _ _ (@qz _ _ rfl) () T.qv uz (@qa _ _ _ _ _ (pv 4) (@qa _ _ _ _ _ (@qY _ _ (.ty "str") _ _ () T.ym vw rfl () ()) qe ()) ()) () () () ()) ())) (@yr _ _ _ _ (@qk _ _ _ _ _ _ _ _ Qh (pv 4) qi (qu _))))).pt (@qf _ _ _ (@ql _ _ _ _ Qg)) qp) (@qf _ _ _ (@ql _ _ _ _ (@qR _ _ _ _ _ _ _ _ _ qU () T.Qm uY (@qa _ _ _ _ _ (@Yo _ _ _ _ _ _ _ _ _ _ _ _ uH vC vD mt_splitG (pv 3) (@qa _ _ _ _ _ (pv 4) qe ()) () () () () ()) qe ()) () () () ())))))),?_⟩
 dsimp only [cxOf,Cx.nox];obtain⟨x0,x,y,rfl,aa,hx,hy⟩:=sh_bbb (qL R (by decide+kernel))
 refine⟨_,rfl,_,rfl,?_⟩;refine bget (i:=1) hB M rfl hx fun v U=> ?_;refine⟨_,rfl,_,rfl,?_⟩;refine bget (i:=2) hB M rfl hy fun u Y=> ?_;have lx:=QE (hT x hx);have ly:=QE (hT y hy);have L:∀(v:V) (H':Hp),Same H H'->Is H' (cutD (B x) (B y)) v->Q v H':=k;generalize B x=dx at U L lx⊢;generalize B y=O at Y L ly⊢;refine⟨_,rfl,v,"str",tyD dx,isStr dx,rfl,U.ty,Qv _,_,rfl,?_⟩;cases dx with
 |str z=>
  refine iteF ⟨_,rfl,u,"str",tyD O,isStr O,rfl,Y.ty,Qv _,_,rfl,?_⟩;cases O with
  |str I=>
   refine iteF ?_;obtain⟨rfl,_⟩:=U;obtain⟨rfl,_⟩:=Y;have h1:z.length<=600:=lx;have h2:I.length<=600:=ly;refine⟨_,rfl,rfl,_,rfl,?_⟩;refine ite2 (fun c=> ?_) (fun c=> ?_)
   ·have e:I="":=by have:=ud c;injection this
    subst e;exact L _ H (Same.refl _) rfl
   ·have h3:I.length≠0:=fun h=>c (u7 (by
     have:I="":=by
      have h4:I.cps= #[]:=vI h;cases I;simp only at h4;subst h4
      decide+kernel
     rw [this]))
    refine⟨_,rfl,rfl,_,rfl,z,I,rfl,rfl,by omega,by omega,fun p M=>⟨p,_,rfl,.inl ⟨SqL.of qg,fun l hl=> ?_⟩⟩⟩
    have s1:Same H (upd H p (.lst ((spG z I).map V.str))):=qb M _;refine L _ _ (s1.trans (qb hl _)) ?_;show Is _ (if I.length=0 then D.non else .tup ((spG z I).map D.str)) _
    rw [if_neg h3];exact Is.new (IsL.ofStrs fun q hq=>qS (by have:=spG_mem hq;omega)) hl
  |_=>exact iteT (L _ H (Same.refl _) rfl)
 |_=>exact iteT (L _ H (Same.refl _) (by cases O<;>rfl))
theorem ok_glue (T:Tx K mg a):FnOk P w K mg base CX0 1 a.j8 a.Xu ["boxes","own","parts"] (JQ "glue"):=by
 refine T.g_glue_made.F.ok YI () (fun _ _ _ _ H _ Q E hr h=> ?_)
 obtain⟨d,t,own,B,ps,n,rfl,hB,hT,ho,aa,hp,k⟩:=h;refine⟨_,(@qc _ _ _ _ _ (@qx _ _ (3) _ _ _ _ YI.nd rfl (Or.inl rfl) (@Qi _ _ _ _ _ _ (QU hr) (pv 0) (@qG _ _ _ _ _ _ _ qT (pv 2) qh (fun _ _=>rfl)) (fun _ _=>rfl)) () ()) (@qc _ _ _ _ _ (@qx _ _ (4) _ _ _ _ YI.nd rfl (Or.inl rfl) (@Qi _ _ _ _ _ _ (QU hr) (pv 0) (@qG _ _ _ _ _ _ _ qT (pv 2) qh (fun _ _=>rfl)) (fun _ _=>rfl)) () ()) (@qc _ _ _ _ _ (@qH _ _ _ _ _ _ _ _ (@y0 _ _ _ _ _ _ _ (@Qk _ _ _ _ (@qV _ _ _ (@qj _ _ _ _ _ _ _ _ _ (@qz _ _ rfl) () T.qv uz (@qa _ _ _ _ _ (pv 3) (@qa _ _ _ _ _ (@qY _ _ (.ty "tuple") _ _ () T.Qm uY rfl () ()) qe ()) ()) () () () ()) ())) (@yr _ _ _ _ (@Qk _ _ _ _ (@qV _ _ _ (@qj _ _ _ _ _ _ _ _ _ (@qz _ _ rfl) () T.qv uz (@qa _ _ _ _ _ (pv 4) (@qa _ _ _ _ _ (@qY _ _ (.ty "str") _ _ () T.ym vw rfl () ()) qe ()) ()) () () () ()) ())))).pt (@qf _ _ _ (@ql _ _ _ _ Qg)) qp) (@qc _ _ _ _ _ (@qH _ _ _ _ _ _ _ _ (@Qk _ _ _ _ (@qV _ _ _ (@qj _ _ _ _ _ _ _ _ _ (@yg _ rfl) () T.z_all boot_all (@qa _ _ _ _ _ (@jk _ _ (["part"]) (1) ([]) _ _ _ _ _ _ _ _ _ (lcs0) rfl (@Ym _ _ _ _ (pv 3)) (fun _ _ _ _ _ _=>(@qN _ _ (0) _ (show List.Nodup (["part"]:List Str) by decide+kernel) rfl (Or.inl rfl) ())) (fun _ _ _ _ _ _=> @QG _) (fun _ _ _ _ _ _=>(@qj _ _ _ _ _ _ _ _ _ (@qz _ _ rfl) () T.qv uz (@qa _ _ _ _ _ (pv 0) (@qa _ _ _ _ _ (@qY _ _ (.ty "str") _ _ () T.ym vw rfl () ()) qe ()) ()) () () () ())) ()) qe ()) () () () ()) ())) (@qf _ _ _ (@ql _ _ _ _ Qg)) qp) (@qf _ _ _ (@ql _ _ _ _ (@Yo _ _ _ _ _ _ _ _ _ _ _ _ uH vJ vK mt_joinT (pv 4) (@qa _ _ _ _ _ (pv 3) qe ()) () () () () ()))))))),?_⟩
 dsimp only [cxOf,Cx.nox];obtain⟨x0,x,y,rfl,ad,hx,hy⟩:=sh_bbb (qL aa (by decide+kernel))
 refine⟨_,rfl,_,rfl,?_⟩;refine bget (i:=1) hB hp rfl hx fun v iv=> ?_;refine⟨_,rfl,_,rfl,?_⟩;refine bget (i:=2) hB hp rfl hy fun u iu=> ?_;have lx:=QE (hT x hx);have hg:=hT x hx;have ly:=QE (hT y hy);have L:∀(v:V) (H':Hp),Same H H'->Is H' (glueD (B x) (B y)) v->Q v H':=k;generalize B x=dx at iv L lx hg⊢;generalize B y=Z at iu L ly⊢;refine⟨_,rfl,v,"tuple",tyD dx,jQ dx,rfl,iv.ty,yl _,_,rfl,?_⟩;cases dx with
 |tup xs=>
  refine iteF ⟨_,rfl,u,"str",tyD Z,isStr Z,rfl,iu.ty,Qv _,_,rfl,?_⟩;cases Z with
  |str M=>
   refine iteF ?_;obtain⟨r,rs,rfl,er,ir⟩:=iv;obtain⟨rfl,_⟩:=iu;have h1:xs.length<=600:=lx;have h2:M.length<=600:=ly;refine⟨_,rfl,r,rs,rfl,SqT.of er,fun ae A0 ab=> ?_⟩;refine Y7 (tl:= []) (fun d=> .bl (isStr d)) er ir (fits (by omega)) ab (fun d0 x0 H3 R af s3 i3 q=>⟨_,rfl,x0,"str",tyD d0,isStr d0,rfl,i3.ty,Qv _,q _ H3 (Same.refl _) rfl⟩) fun H1 ys s1 l1 i1=> ?_
   have ey:ys=(xs.map isStr).map V.bl:=IsL.bls (by rw [uN];exact i1)
   subst ey;refine⟨A0,xs.map isStr,rfl,SqL.of l1,_,rfl,?_⟩;have O:(xs.map isStr).all id=yx xs:=by rw [JN,vH];rfl
   rw [O];cases I:yx xs with
   |false=>exact iteT (L _ H1 s1 (by show Is H1 (if yx xs=true then _ else D.non) _;rw [I];rfl))
   |true=>
    have U:=Zl I;have ac:rs=(yu xs).map V.str:=IsL.strs (by rw [<-U];exact ir)
    have hsz:=isT_sz hg;have Y:=Zr (yu xs);rw [<-U] at Y;simp only [sz] at hsz;have ag:(yu xs).length*M.length<=600*600:=Nat.mul_le_mul (by omega) h2
    have hj:=join_le M (yu xs);refine iteF ⟨_,rfl,rfl,_,rfl,M,r,yu xs,rfl,rfl,SqT.of (by rw [s1 _ _ er,ac]),by omega,?_⟩
    refine L _ H1 s1 ?_;show Is H1 (if yx xs=true then .str (Str.join M (yu xs)) else D.non) _
    rw [I];exact⟨rfl,fits (by omega)⟩
  |_=>exact iteT (L _ H (Same.refl _) rfl)
 |_=>exact iteT (L _ H (Same.refl _) (by cases Z<;>rfl))
noncomputable def jump (w:Str)(B:Str->D)(ps:List Pt):Bool:=if w="like" then eqD (B (b0 ps)) (B (b1 ps)) else if w="rowed" then jQ (B (b0 ps)) else if w="none" then decide (lenD (B (b0 ps))=0) else true
def JMP:List Str:= ["go","like","rowed","none"]
def ASK:List Str:= ["ask","has","names"]
def flt (w:Str):D:= .tup [.str "fault",.str w]
noncomputable def askF (w:Str)(held:D):D:=if w="names" then(if isStr held=true then .tup [.str "asks",.tup [.str "names",held]] else flt "kind") else if isNm held=true then .tup [.str "asks",.tup [.str (if w="ask" then "thing" else "has"),held]] else flt "name"
def sp_jump:Sp:=fun vs H Q _=>∃(d t:Addr) (w:Str) (B:Str->D) (ps:List Pt) (n:Nat),vs= [.ref d,.str w,.ref t]/\QH H d B/\Tr B/\w∈JMP/\QD n 125 (w,ps)/\PtsAt H t ps/\Q (.bl (jump w B ps)) H
def sp_asked:Sp:=fun vs H Q _=>∃(w:Str) (v:V) (d:D),vs= [.str w,v]/\w∈ASK/\Is H d v/\∀(u:V) (H':Hp),Same H H'->Is H' (askF w d) u->Q u H'
mutual
theorem good_pu:∀{d:D},good d=true->puD d=true
 | .str _,_=>rfl
 | .tup xs,h=>by
  simp only [good,um] at h;show puL xs=true;exact goodL_pu h.2
 | .non,h| .bl _,h| .int _,h| .lst,h| .dct,h=>by simp [good] at h
theorem goodL_pu:∀{xs:List D},goodL xs=true->puL xs=true
 | [],_=>rfl
 |x::r,h=>by
  simp only [goodL,um] at h;simp only [puL,good_pu h.1,goodL_pu h.2,Bool.and_self]
end
theorem good_tr {d:D}(h:good d=true):trD d=true:=by
 cases d with
 |str z=>rfl
 |tup xs=>exact good_pu (d:= .tup xs) h
 |_=>simp [good] at h
theorem QP {d:D}(h:isT d=true):good d=true:=by
 unfold isT at h;rw [um,um] at h;exact h.1.1
theorem isT_tr {d:D}(h:isT d=true):trD d=true:=good_tr (QP h)
theorem ok_jump (T:Tx K mg a):FnOk P w K mg base CX0 1 a.YL a.YZ ["boxes","word","parts"] sp_jump:=by
 refine T.g_is_jump_taken.F.ok xl () (fun _ _ _ _ H _ Q E O h=> ?_)
 obtain⟨d,t,w,B,ps,n,rfl,R,U,hw,L,Y,k⟩:=h;refine⟨_,(@qc _ _ _ _ _ (@qH _ _ _ _ _ _ _ _ (@qk _ _ _ _ _ _ _ _ Qh (pv 1) qi (qu _)) (@qf _ _ _ (@ql _ _ _ _ (@Qs _ _ _ _ _ _ _ _ (@op_eqD _ O.units) (@Qi _ _ _ _ _ _ (QU O) (pv 0) (@qG _ _ _ _ _ _ _ qT (pv 2) qh (fun _ _=>rfl)) (fun _ _=>rfl)) (@Qi _ _ _ _ _ _ (QU O) (pv 0) (@qG _ _ _ _ _ _ _ qT (pv 2) qh (fun _ _=>rfl)) (fun _ _=>rfl)) (qu _)))) qp) (@qc _ _ _ _ _ (@qH _ _ _ _ _ _ _ _ (@qk _ _ _ _ _ _ _ _ Qh (pv 1) qi (qu _)) (@qf _ _ _ (@ql _ _ _ _ (@qj _ _ _ _ _ _ _ _ _ (@qz _ _ rfl) () T.qv uz (@qa _ _ _ _ _ (@Qi _ _ _ _ _ _ (QU O) (pv 0) (@qG _ _ _ _ _ _ _ qT (pv 2) qh (fun _ _=>rfl)) (fun _ _=>rfl)) (@qa _ _ _ _ _ (@qY _ _ (.ty "tuple") _ _ () T.Qm uY rfl () ()) qe ()) ()) () () () ()))) qp) (@qc _ _ _ _ _ (@qH _ _ _ _ _ _ _ _ (@qk _ _ _ _ _ _ _ _ Qh (pv 1) qi (qu _)) (@qf _ _ _ (@ql _ _ _ _ (@Qs _ _ _ _ _ _ _ _ Qh (@qj _ _ _ _ _ _ _ _ _ QK () T.Qy uv (@qa _ _ _ _ _ (@Qi _ _ _ _ _ _ (QU O) (pv 0) (@qG _ _ _ _ _ _ _ qT (pv 2) qh (fun _ _=>rfl)) (fun _ _=>rfl)) qe ()) () () () ()) qh (qu _)))) qp) (@qf _ _ _ (@ql _ _ _ _ yP))))),?_⟩
 dsimp only [cxOf,Cx.nox];refine⟨_,rfl,rfl,_,rfl,?_⟩;simp only [JMP,uA,v7,v9] at hw;rcases hw with rfl|rfl|rfl|rfl
 ·refine qo (by decide+kernel) ?_
  refine⟨_,rfl,rfl,_,rfl,qo (by decide+kernel) ?_⟩
  refine⟨_,rfl,rfl,_,rfl,qo (by decide+kernel) ?_⟩
  exact k
 ·refine qC (by decide+kernel) ?_
  obtain⟨x,y,i,rfl,I,hy,_⟩:=sh_bbl (qL L (by decide+kernel))
  refine⟨_,rfl,_,rfl,?_⟩;dsimp only [tC];refine bget (i:=0) R Y rfl I fun v M=> ?_;refine⟨_,rfl,_,rfl,?_⟩;dsimp only [tC];refine bget (i:=1) R Y rfl hy fun u iu=> ?_;refine⟨B x,B y,M,iu,isT_tr (U x I),isT_tr (U y hy),?_,k⟩
  ·have:=YV (U x I);omega
 ·refine qo (by decide+kernel) ?_
  refine⟨_,rfl,rfl,_,rfl,qC (by decide+kernel) ?_⟩
  obtain⟨x,i,rfl,I,_⟩:=sh_bl (qL L (by decide+kernel))
  refine⟨_,rfl,_,rfl,?_⟩;refine bget (i:=0) R Y rfl I fun v M=> ?_;exact⟨v,"tuple",tyD (B x),jQ (B x),rfl,M.ty,yl _,k⟩
 ·refine qo (by decide+kernel) ?_
  refine⟨_,rfl,rfl,_,rfl,qo (by decide+kernel) ?_⟩
  refine⟨_,rfl,rfl,_,rfl,qC (by decide+kernel) ?_⟩
  obtain⟨x,i,rfl,I,_⟩:=sh_bl (qL L (by decide+kernel))
  refine⟨_,rfl,_,rfl,?_⟩;refine bget (i:=0) R Y rfl I fun v M=> ?_;have Z:Q (.bl (decide (lenD (B x)=0))) H:=k;have hg:=U x I;generalize B x=dx at M Z hg⊢;have hn:∀n:Nat,decide (V.int (n:Int)=V.int 0)=decide (n=0):=fun n=>by
   rw [uB];constructor
   ·intro h;injection h with h;omega
   ·rintro rfl;rfl
  cases dx with
  |str z=>
   obtain⟨rfl,hz⟩:=M;refine .inl ⟨z,rfl,hz,rfl,?_⟩;rw [hn];exact Z
  |tup xs=>
   obtain⟨r,rs,rfl,er,ir⟩:=M;refine .inr ⟨r,rs,rfl,.inr (SqT.of er),fun _=>⟨rfl,?_⟩⟩;rw [hn,ir.length];exact Z
  |_=>simp [isT,good] at hg
theorem ok_asked (T:Tx K mg a):FnOk P w K mg base CX0 2 a.YC a.Yv ["word","held"] sp_asked:=by
 have Y9:=ok_name (P:=P) (w:=w) (base:=base) T;refine T.g_asked_or_fault.F.ok JL () (fun _ _ _ _ H _ Q E hr h=> ?_)
 obtain⟨w,v,d,rfl,hw,U,k⟩:=h;refine⟨_,(@qc _ _ _ _ _ (@qH _ _ _ _ _ _ _ _ (@qk _ _ _ _ _ _ _ _ Qh (pv 0) qi (qu _)) (@qf _ _ _ (@ql _ _ _ _ (@yS _ _ _ _ _ _ _ _ (@qV _ _ _ (@qj _ _ _ _ _ _ _ _ _ (@qz _ _ rfl) () T.qv uz (@qa _ _ _ _ _ (pv 1) (@qa _ _ _ _ _ (@qY _ _ (.ty "str") _ _ () T.ym vw rfl () ()) qe ()) ()) () () () ()) ()) (@qD _ _ _ _ _ (@qa _ _ _ _ _ qi (@qa _ _ _ _ _ (@qD _ _ _ _ _ (@qa _ _ _ _ _ qi (@qa _ _ _ _ _ (pv 1) qe ()) ())) qe ()) ())) (@qD _ _ _ _ _ (@qa _ _ _ _ _ qi (@qa _ _ _ _ _ qi qe ()) ()))))) qp) (@qc _ _ _ _ _ (@qH _ _ _ _ _ _ _ _ (@Qk _ _ _ _ (@qV _ _ _ (@qt _ _ _ _ _ _ _ _ _ _ _ _ _ _ _ _ Y9 (hr.mono ()) () T.g_is_name.m T.g_is_name.F.kp T.g_is_name.b .nil qK (@qa _ _ _ _ _ (pv 1) qe ()) () () ()) ())) (@qf _ _ _ (@ql _ _ _ _ (@qD _ _ _ _ _ (@qa _ _ _ _ _ qi (@qa _ _ _ _ _ qi qe ()) ())))) qp) (@qf _ _ _ (@ql _ _ _ _ (@qD _ _ _ _ _ (@qa _ _ _ _ _ qi (@qa _ _ _ _ _ (@qD _ _ _ _ _ (@qa _ _ _ _ _ (@yS _ _ _ _ _ _ _ _ (@qk _ _ _ _ _ _ _ _ Qh (pv 0) qi (qu _)) qi qi) (@qa _ _ _ _ _ (pv 1) qe ()) ())) qe ()) ())))))),?_⟩
 have two:(2:Nat)<=sizeLine:=by decide
 have st:∀{H:Hp} (z:Str),z.length<=100->Is H (.str z) (.str z):=fun z Y=>⟨rfl,qS (by omega)⟩
 have fl:∀(z:Str) (H:Hp) (l:Addr),z.length<=100->H l=none->Is (upd H l (.tup [.str "fault",.str z])) (flt z) (.ref l):=fun z H l Y L=>Is.new (ds:= [.str "fault",.str z]) ⟨_,_,rfl,st _ (by decide),_,_,rfl,st _ Y,rfl⟩ L
 refine⟨_,rfl,rfl,_,rfl,?_⟩;by_cases c:w="names"
 ·subst c;refine qC (by decide+kernel) ?_
  have Z:askF "names" d=if isStr d=true then .tup [.str "asks",.tup [.str "names",d]] else flt "kind":=by unfold askF;rw [if_pos rfl]
  rw [Z] at k;refine⟨_,rfl,v,"str",tyD d,isStr d,rfl,U.ty,Qv _,_,rfl,?_⟩;cases O:isStr d with
  |true=>
   rw [O] at k;refine iteT ⟨_,rfl,two,fun l L=>⟨two,fun M I=> ?_⟩⟩;have t1:Same H (upd H l (.tup [.str "names",v])):=qb L _;refine k _ _ (t1.trans (qb I _)) ?_;exact Is.new (ds:= [.str "asks",.tup [.str "names",d]]) ⟨_,_,rfl,st _ (by decide),_,_,rfl,Is.new (ds:= [.str "names",d]) ⟨_,_,rfl,st _ (by decide),_,_,rfl,U,rfl⟩ L,rfl⟩ I
  |false=>
   rw [O] at k;exact iteF ⟨two,fun l L=>k _ _ (qb L _) (fl "kind" H l (by decide) L)⟩
 ·refine qo (uc fun h=>c (by injection h)) ?_
  have Z:askF w d=if isNm d=true then .tup [.str "asks",.tup [.str (if w="ask" then "thing" else "has"),d]] else flt "name":=by unfold askF;rw [if_neg c]
  rw [Z] at k;refine⟨_,rfl,v,d,rfl,U,fun H1 s1=>⟨_,rfl,?_⟩⟩;cases O:isNm d with
  |false=>
   rw [O] at k;exact iteT ⟨two,fun l L=>k _ _ (s1.trans (qb L _)) (fl "name" H1 l (by decide) L)⟩
  |true=>
   rw [O] at k;refine iteF ⟨_,rfl,rfl,_,rfl,?_⟩;have R:∀z:Str,z.length<=100->z=(if w="ask" then("thing":Str) else "has")->∀l,H1 l=none->∀M,(upd H1 l (.tup [.str z,v])) M=none->Q (.ref M) (upd (upd H1 l (.tup [.str z,v])) M (.tup [.str "asks",.ref l])):=by
    intro z Y ez l L M I;have t1:Same H1 (upd H1 l (.tup [.str z,v])):=qb L _;refine k _ _ (s1.trans (t1.trans (qb I _))) ?_;rw [<-ez];exact Is.new (ds:= [.str "asks",.tup [.str z,d]]) ⟨_,_,rfl,st _ (by decide),_,_,rfl,Is.new (ds:= [.str z,d]) ⟨_,_,rfl,st _ Y,_,_,rfl,U.mono s1.tk,rfl⟩ L,rfl⟩ I
   refine ite2 (fun c2=> ?_) (fun c2=> ?_)
   ·have e:w="ask":=by have:=ud c2;injection this
    exact⟨_,rfl,two,fun l L=>⟨two,fun M I=>R "thing" (by decide) (by rw [if_pos e]) l L M I⟩⟩
   ·have e:w≠"ask":=fun e=>c2 (u7 (by rw [e]))
    exact⟨_,rfl,two,fun l L=>⟨two,fun M I=>R "has" (by decide) (by rw [if_neg e]) l L M I⟩⟩
end
structure Mc where
 (x db dg:Addr)
 rs:List Rw
 own:Str
structure Rn where
 B:Str->D
 p:Int
 n:Nat
 gs:List D
 th:D
def MTH:List Str:= ["now","answer","asked","lines","copy","go_on","is_waiting","do_row","hold"]
structure Fl (fs:List (Str×V))(rv ru:V)(own:Str)(db dg:Addr)(place:Int)(done:Nat)(tv:V):Prop where
 rows:fs.lookup ("rows":Str)=some rv
 rule:fs.lookup ("rule":Str)=some ru
 own:fs.lookup ("own":Str)=some (.str own)
 boxes:fs.lookup ("boxes":Str)=some (.ref db)
 place:fs.lookup ("place":Str)=some (.int place)
 done:fs.lookup ("done":Str)=some (.int (done:Int))
 given:fs.lookup ("given":Str)=some (.ref dg)
 there:fs.lookup ("there":Str)=some tv
 meth:∀m∈MTH,fs.lookup m=none
 len:fs.length<=20
theorem xp {f:Str}{v:V}:∀{fs:List (Str×V)}{u:V},fs.lookup f=some u->(putF f v fs).length=fs.length
 |(g,x)::r,u,h=>by
  unfold putF;by_cases c:g=f
  ·rw [if_pos c];rfl
  ·rw [if_neg c,uh,uh];have e:(f==g)=false:=by simp;exact fun z=>c z.symm
   rw [v6,e] at h;rw [xp (u:=u) h]
 | [],u,h=>by simp at h
section
variable {fs:List (Str×V)}{rv ru:V}{own:Str}{db dg:Addr}{place:Int}{done:Nat}{tv:V}
theorem Fl.set_there {u:V}(h:Fl fs rv ru own db dg place done tv):Fl (putF "there" (u) fs) rv ru own db dg place done u:=by
 refine⟨?_,?_,?_,?_,?_,?_,?_,?_,fun m hm=> ?_,by rw [xp h.there];exact h.len⟩
 all_goals rw [qM]
 all_goals first|rw [if_pos rfl]|(rw [if_neg (by decide+kernel)];first|exact h.rows|exact h.rule|exact h.own|exact h.boxes|exact h.place|exact h.done|exact h.given|exact h.there)|(rw [if_neg (fun e=>by subst e;revert hm;decide+kernel)];exact h.meth m hm)
theorem Fl.set_place {q:Int}(h:Fl fs rv ru own db dg place done tv):Fl (putF "place" (.int q) fs) rv ru own db dg q done tv:=by
 refine⟨?_,?_,?_,?_,?_,?_,?_,?_,fun m hm=> ?_,by rw [xp h.place];exact h.len⟩
 all_goals rw [qM]
 all_goals first|rw [if_pos rfl]|(rw [if_neg (by decide+kernel)];first|exact h.rows|exact h.rule|exact h.own|exact h.boxes|exact h.place|exact h.done|exact h.given|exact h.there)|(rw [if_neg (fun e=>by subst e;revert hm;decide+kernel)];exact h.meth m hm)
theorem Fl.set_done {k:Nat}(h:Fl fs rv ru own db dg place done tv):Fl (putF "done" (.int ((k:Nat):Int)) fs) rv ru own db dg place k tv:=by
 refine⟨?_,?_,?_,?_,?_,?_,?_,?_,fun m hm=> ?_,by rw [xp h.done];exact h.len⟩
 all_goals rw [qM]
 all_goals first|rw [if_pos rfl]|(rw [if_neg (by decide+kernel)];first|exact h.rows|exact h.rule|exact h.own|exact h.boxes|exact h.place|exact h.done|exact h.given|exact h.there)|(rw [if_neg (fun e=>by subst e;revert hm;decide+kernel)];exact h.meth m hm)
end
def QX (C:Addr)(H:Hp)(m:Mc)(r:Rn):Prop:=
 ∃(dx:Addr) (fs:List (Str×V)) (rv ru tv:V) (gv:List V),H m.x=some (.ins C dx fs)/\Fl fs rv ru m.own m.db m.dg r.p r.n tv/\Is H (.tup (m.rs.map rowD)) rv/\Is H (QY m.rs) ru/\QH H m.db r.B/\H m.dg=some (.lst gv)/\L2.IsL H r.gs gv/\Is H r.th tv
structure Mv (m:Mc)(H H':Hp):Prop where
 kept:∀b o,H b=some o->b≠m.x->b≠m.db->b≠m.dg->H' b=some o
 tk:Tk H H'
theorem Mv.refl (m:Mc)(H:Hp):Mv m H H:=⟨fun _ _ e _ _ _=>e,Tk.refl H⟩
theorem Mv.trans {m:Mc}{H H1 H2:Hp}(h:Mv m H H1)(h2:Mv m H1 H2):Mv m H H2:=⟨fun b o e n1 I L=>h2.kept b o (h.kept b o e n1 I L) n1 I L,h.tk.trans h2.tk⟩
theorem Mv.of {m:Mc}{H H':Hp}(s:Same H H'):Mv m H H':=⟨fun b o e _ _ _=>s b o e,s.tk⟩
theorem QX.same {C:Addr}{H H':Hp}{m:Mc}{r:Rn}(h:QX C H m r)(s:Same H H'):QX C H' m r:=
 let⟨dx,fs,rv,ru,tv,gv,e,f,i,j,b,g,gl,t⟩:=h;⟨dx,fs,rv,ru,tv,gv,s _ _ e,f,i.mono s.tk,j.mono s.tk,b.same s,s _ _ g,gl.mono s.tk,t.mono s.tk⟩
theorem QH.ne {H:Hp}{x db C dx:Addr}{fs:List (Str×V)}{B:Str->D}(e:H x=some (.ins C dx fs))(h:QH H db B):db≠x:=fun z=>by
 obtain⟨f,I,_⟩:=h;rw [z,e] at I;cases I
theorem QS {C:Addr}{H:Hp}{m:Mc}{r:Rn}{dx:Addr}{fs fs':List (Str×V)}{rv ru tv:V}{I:List V}(e:H m.x=some (.ins C dx fs))(f:Fl fs' rv ru m.own m.db m.dg r.p r.n tv)(i:Is H (.tup (m.rs.map rowD)) rv)(j:Is H (QY m.rs) ru)(b:QH H m.db r.B)(L:H m.dg=some (.lst I))(M:L2.IsL H r.gs I)(t:Is H r.th tv):
  QX C (upd H m.x (.ins C dx fs')) m r/\Mv m H (upd H m.x (.ins C dx fs')):=by
 have tk:Tk H (upd H m.x (.ins C dx fs')):=Tk.updI e;have n1:m.db≠m.x:=QH.ne e b;have O:m.dg≠m.x:=fun z=>by rw [z,e] at L;cases L
 exact⟨⟨dx,fs',rv,ru,tv,I,qg,f,i.mono tk,j.mono tk,b.move tk (qy n1),by rw [qy O];exact L,M.mono tk,t.mono tk⟩,⟨fun c o h R _ _=>by rw [qy R];exact h,tk⟩⟩
def qZ:D->Bool
 | .tup (.str w::_)=>decide (w="asks")
 |_=>false
def Th (d:D):Prop:=d= .non∨∃w e,d= .tup [.str w,e]
inductive Out where
 |go (B:Str->D) (p:Int)|stop (e:D)
def Out.B (B:Str->D):Out->Str->D
 | .go B' _=>B'
 | .stop _=>B
def Out.P (p:Int):Out->Int
 | .go _ p'=>p'
 | .stop _=>p
def Out.T:Out->D
 | .go _ _=> .non
 | .stop e=>e
def Zn (B:Str->D)(z:Str)(e:D)(p:Int):Out:=match e with
 | .non=> .stop (flt "kind")
 |e=>if isT e=true then .go (setB B z e) (p+1) else .stop (flt "big")
def sp_now (C:Addr):Sp:=fun vs H Q _=>∃(m:Mc) (r:Rn),vs= [.ref m.x]/\QX C H m r/\∀v,Is H r.th v->Q v H
def sp_asks (C:Addr):Sp:=fun vs H Q _=>∃(m:Mc) (r:Rn),vs= [.ref m.x]/\QX C H m r/\∀v H',Same H H'->Is H' (.tup r.gs) v->Q v H'
def sp_wait (C:Addr):Sp:=fun vs H Q _=>∃(m:Mc) (r:Rn),vs= [.ref m.x]/\QX C H m r/\Th r.th/\Q (.bl (qZ r.th)) H
def sp_hold (C:Addr):Sp:=fun vs H Q _=>∃(m:Mc) (r:Rn) (z:Str) (v:V) (e:D),vs= [.ref m.x,.str z,v]/\QX C H m r/\r.th= .non/\z∈BX/\Is H e v/\
 ∀H',Mv m H H'->QX C H' m ⟨(Zn r.B z e r.p).B r.B,(Zn r.B z e r.p).P r.p,r.n,r.gs,(Zn r.B z e r.p).T⟩->Q .non H'
section
variable {P:Program}{w:World}{K:PySem.W.Frag}{mg:Str->Option Value}{base:Heap}{a:Ad}{g:Ga}
theorem ok_now (T:Tx K mg a):FnOk P w K mg base CX0 1 a.Jh a.Jd ["self"] (sp_now a.qw):=by
 refine T.g_Machine_now.F.ok XY () (fun _ _ _ _ H _ Q E I h=> ?_)
 obtain⟨m,r,rfl,⟨dx,fs,rv,ru,tv,L,e,f,M,O,R,U,Y,it⟩,k⟩:=h;refine⟨_,(@qf _ _ _ (@ql _ _ _ _ (@QL _ _ _ _ _ (pv 0) rfl))),?_⟩;exact⟨_,rfl,m.x,_,dx,fs,tv,rfl,e,T.qq,T.qJ,f.there,k _ it⟩
theorem ok_asks (T:Tx K mg a):FnOk P w K mg base CX0 1 a.Y8 a.Y0 ["self"] (sp_asks a.qw):=by
 refine T.g_Machine_asked.F.ok xj () (fun _ _ _ _ H _ Q E R h=> ?_)
 obtain⟨m,r,rfl,⟨dx,fs,rv,ru,tv,L,e,f,U,Y,Z,M,O,it⟩,k⟩:=h;refine⟨_,(@qf _ _ _ (@ql _ _ _ _ (@qR _ _ _ _ _ _ _ _ _ qU () T.Qm uY (@qa _ _ _ _ _ (@QL _ _ _ _ _ (pv 0) rfl) qe ()) () () () ()))),?_⟩
 exact⟨_,rfl,m.x,_,dx,fs,_,rfl,e,T.qq,T.yG,f.given,m.dg,L,rfl,.inl ⟨SqL.of M,fun l I=>k _ _ (qb I _) (Is.new O I)⟩⟩
theorem Zb (T:Tx K mg a):FnOk P w K mg base CX0 1 a.yw a.yy ["self"] (sp_wait a.qw):=by
 refine T.g_Machine_is_waiting.F.ok YK () (fun _ _ _ _ H _ Q E Z h=> ?_)
 obtain⟨m,⟨B,p,n,gs,th⟩,rfl,⟨dx,fs,rv,ru,tv,gv,e,f,ir,M,O,hg,R,it⟩,I,k⟩:=h;simp only at f O R it I k;refine⟨_,(@qf _ _ _ (@ql _ _ _ _ (@xf _ _ _ _ _ _ _ (@Qs _ _ _ _ _ _ _ _ op_notN (@QL _ _ _ _ _ (pv 0) rfl) Qg (qu _)) (@jm _ _ _ _ _ (@Qs _ _ _ _ _ _ _ _ Qh (@qG _ _ _ _ _ _ _ yt (@QL _ _ _ _ _ (pv 0) rfl) qh (fun _ _=>rfl)) qi (qu _)))))),?_⟩;refine⟨_,rfl,m.x,_,dx,fs,tv,rfl,e,T.qq,T.qJ,f.there,rfl,?_⟩;rcases I with rfl|⟨w1,e1,rfl⟩
 ·cases(show tv= .non from it)
  exact⟨_,rfl,qo (by decide+kernel) k⟩
 ·have L:=it;obtain⟨t0,us,rfl,et,M⟩:=L;refine⟨_,rfl,qC (by simp) ⟨_,rfl,m.x,_,dx,fs,_,rfl,e,T.qq,T.qJ,f.there,?_⟩⟩
  refine .inr (.inl (QF (i:=0) (d:= .str w1) it (qQ (j:=0) rfl) fun q U=> ?_));obtain⟨rfl,_⟩:=U;refine⟨rfl,?_⟩;have Y:decide (V.str w1=V.str ("asks":Str))=decide (w1="asks"):=by
   rw [uB];exact⟨fun h=>by injection h,fun h=>by rw [h]⟩
  rw [Y];exact k
theorem ok_hold (T:Tx K mg a):FnOk P w K mg base CX0 3 a.jn a.jr ["self","box","tree"] (sp_hold a.qw):=by
 have YF:=JV (P:=P) (w:=w) (base:=base) T;refine T.g_Machine_hold.F.ok Xl () (fun _ _ _ _ H _ Q E hr h=> ?_)
 obtain⟨m,⟨B,p,n,gs,th⟩,z,v,d,rfl,⟨dx,fs,rv,ru,tv,gv,e,f,ir,iu,O,R,gl,it⟩,U,hz,I,k⟩:=h;simp only at f O gl it U k;subst U;refine⟨_,(@qf _ _ _ (@qH _ _ _ _ _ _ _ _ (@qk _ _ _ _ _ _ _ _ zo (pv 2) Qg (qu _)) (@qf _ _ _ (@Q3 _ _ _ _ _ _ _ _ (pv 0) (@qD _ _ _ _ _ (@qa _ _ _ _ _ qi (@qa _ _ _ _ _ qi qe ()) ())) rfl)) (@qf _ _ _ (@qH _ _ _ _ _ _ _ _ (@Qk _ _ _ _ (@qV _ _ _ (@qt _ _ _ _ _ _ _ _ _ _ _ _ _ _ _ _ YF (hr.mono ()) () T.g_is_tree.m T.g_is_tree.F.kp T.g_is_tree.b .nil qK (@qa _ _ _ _ _ (pv 2) qe ()) () () ()) ())) (@qf _ _ _ (@Q3 _ _ _ _ _ _ _ _ (pv 0) (@qD _ _ _ _ _ (@qa _ _ _ _ _ qi (@qa _ _ _ _ _ qi qe ()) ())) rfl)) (@qc _ _ _ _ _ (@ps_dput _ _ _ _ _ _ _ _ _ (QU hr) (@QL _ _ _ _ _ (pv 0) rfl) (pv 1) (pv 2) rfl) (@qf _ _ _ (@YE _ _ _ _ _ _ _ _ _ _ (pv 0) qh in_add))))))),?_⟩
 dsimp only [cxOf,Cx.nox];have two:(2:Nat)<=sizeLine:=by decide
 have st:∀{H:Hp} (z:Str),z.length<=100->Is H (.str z) (.str z):=fun z hz=>⟨rfl,qS (by omega)⟩
 have fl:∀(z:Str) (H:Hp) (l:Addr),z.length<=100->H l=none->Is (upd H l (.tup [.str "fault",.str z])) (flt z) (.ref l):=fun z H l hz L=>Is.new (ds:= [.str "fault",.str z]) ⟨_,_,rfl,st _ (by decide),_,_,rfl,st _ hz,rfl⟩ L
 refine⟨_,rfl,rfl,_,rfl,?_⟩;have M:fs.length<1000:=by have:=f.len;omega
 by_cases c:d= .non
 ·subst c;cases(show v= .non from I)
  refine qC (by decide+kernel) ⟨two,fun l L=> ?_⟩
  have s1:Same H (upd H l (.tup [.str "fault",.str "kind"])):=qb L _;refine⟨_,rfl,m.x,_,dx,fs,rfl,s1 _ _ e,T.qq,T.qJ,M,?_⟩;obtain⟨Y,Z⟩:=QS (r:=⟨B,p,n,gs,flt "kind"⟩) (s1 _ _ e) (f.set_there (u:= .ref l)) (ir.mono s1.tk) (iu.mono s1.tk) (O.same s1) (s1 _ _ R) (gl.mono s1.tk) (fl "kind" H l (by decide) L)
  exact k _ ((Mv.of s1).trans Z) Y
 ·have hv:v≠ .non:=by
   rintro rfl;cases d with
   |non=>exact c rfl
   |bl b=>cases(show V.non= .bl b from I)
   |int i=>cases(show V.non= .int i from I)
   |str z=>obtain⟨h,_⟩:=I;cases h
   |lst=>obtain⟨_,_,h,_⟩:=I;cases h
   |dct=>obtain⟨_,_,h,_⟩:=I;cases h
   |tup xs=>obtain⟨_,_,h,_⟩:=I;cases h
  have eo:Zn B z d p=if isT d=true then .go (setB B z d) (p+1) else .stop (flt "big"):=by
   cases d with
   |non=>exact absurd rfl c
   |_=>rfl
  rw [eo] at k;refine qo (uc hv) ?_;refine⟨_,rfl,v,d,rfl,I,fun H1 s1=>⟨_,rfl,?_⟩⟩;cases ht:isT d with
  |false=>
   rw [ht] at k;refine iteT ⟨two,fun l L=> ?_⟩;have s2:Same H (upd H1 l (.tup [.str "fault",.str "big"])):=s1.trans (qb L _);refine⟨_,rfl,m.x,_,dx,fs,rfl,s2 _ _ e,T.qq,T.qJ,M,?_⟩;obtain⟨Y,Z⟩:=QS (r:=⟨B,p,n,gs,flt "big"⟩) (s2 _ _ e) (f.set_there (u:= .ref l)) (ir.mono s2.tk) (iu.mono s2.tk) (O.same s2) (s2 _ _ R) (gl.mono s2.tk) (fl "big" H1 l (by decide) L)
   exact k _ ((Mv.of s2).trans Z) Y
  |true=>
   rw [ht] at k;refine iteF ?_;have ab:=I.mono s1.tk;obtain⟨kvs,aa,ac,t2⟩:=(O.same s1).put hz ab;have n1:m.db≠m.x:=QH.ne e O;have n3:m.dg≠m.db:=fun z=>by
    obtain⟨ff,e2,_⟩:=O;rw [z,e2] at R;cases R
   have e1:=s1 _ _ e;have e3:(upd H1 m.db (.dK kvs)) m.x=some (.ins a.qw dx fs):=by rw [qy n1.symm];exact e1
   refine⟨_,rfl,_,rfl,m.x,_,dx,fs,_,rfl,e1,T.qq,T.Qp,f.boxes,_,rfl,m.db,_,rfl,aa,?_⟩;refine⟨_,rfl,m.x,_,dx,fs,_,rfl,e3,T.qq,T.Qc,f.place,p,1,rfl,rfl,dx,fs,e3,M,?_⟩;obtain⟨Y,Z⟩:=QS (r:=⟨setB B z d,p+1,n,gs,.non⟩) e3 (f.set_place (q:=p+1)) ((ir.mono s1.tk).mono t2) ((iu.mono s1.tk).mono t2) ac (by rw [qy n3];exact s1 _ _ R) ((gl.mono s1.tk).mono t2) it
   exact k _ ((Mv.of s1).trans (Mv.trans ⟨fun b o h _ a2 _=>by rw [qy a2];exact h,t2⟩ Z)) Y
def MKR:List Str:= ["text","self","copy","row","put","join","first","rest","size","cut","glue"]
def jv (ps:List Pt):Int:=match ps.getLast? with
 |some (.n i)=>i
 |_=>0
noncomputable def rowO (own:Str)(r:Rw)(B:Str->D)(p:Int):Out:=
 if r.1∈MKR then Zn B (b0 r.2) (made r.1 B own r.2) p else if r.1∈ASK then .stop (askF r.1 (B (b1 r.2))) else if r.1="say" then .stop (.tup [.str "said",B (b0 r.2)]) else
 if r.1="fault" then .stop (flt "told") else if jump r.1 B r.2=true then .go B (jv r.2) else .go B (p+1)
theorem frm_mk:∀x∈FRM,x.1∈MKR->x.2.head? =some .box:=by decide+kernel
theorem JF:∀x∈FRM,x.1∈ASK->x.1∉MKR/\x.1∈NOMK/\x.2= [.box,.box]:=by decide+kernel
theorem frm_say:∀x∈FRM,x.1="say"->x.2= [.box]:=by decide+kernel
theorem frm_all:∀x∈FRM,x.1∈MKR∨(x.1∉MKR/\x.1∈NOMK/\(x.1∈ASK∨x.1∉ASK/\(x.1="say"∨x.1="fault"∨x.1≠"say"/\x.1≠"fault"/\x.1∈JMP))):=by decide+kernel
theorem frm_jmp:∀x∈FRM,x.1∈JMP->x.2.getLast? =some .line:=by decide+kernel
theorem mk_b0 {n m:Nat}{r:Rw}(h:QD n m r)(L:r.1∈MKR):∃z ps,r.2= .s z::ps/\z∈BX:=by
 obtain⟨ks,M,I⟩:=h;have:=frm_mk _ M L
 match ks,I,this with
 | .box::ks,I,_=>
  match h2:r.2,I with
  | .s z::ps,I=>exact⟨z,ps,rfl,I.1⟩
  | .n _::_,I=>exact I.1.elim
theorem zN {n m:Nat}:∀{ks:List Kd}{ps:List Pt},yY n m ks ps->ks.getLast? =some .line->∃I i,ps=I++ [.n i]/\1<=i/\i<=(n:Int)
 | [k],[p],h,e=>by
  cases e;cases p with
  |n i=>exact⟨[],i,rfl,h.1⟩
  |s z=>exact h.1.elim
 |k::k2::ks,p::p2::ps,h,e=>by
  rw [List.getLast?_cons_cons] at e;obtain⟨I,i,L,hi⟩:=zN (ks:=k2::ks) (ps:=p2::ps) h.2 e;exact⟨p::I,i,by rw [L];rfl,hi⟩
 | [k],p::_::_,h,_=>h.2.elim
 |k::_::_,[p],h,_=>h.2.elim
 | [],[],_,e=>by cases e
 | [],_::_,h,_=>h.elim
 |_::_,[],h,_=>h.elim
theorem ZK {n m:Nat}{r:Rw}(h:QD n m r)(L:r.1∈JMP):∃I i,r.2=I++ [.n i]/\1<=i/\i<=(n:Int)/\jv r.2=i:=by
 obtain⟨ks,M,O⟩:=h;obtain⟨I,i,e,h1,h2⟩:=zN O (frm_jmp _ M L);refine⟨I,i,e,h1,h2,?_⟩;unfold jv;rw [e,List.getLast?_concat]
def sp_dorow (C:Addr):Sp:=fun vs H Q _=>∃(m:Mc) (r:Rn) (rw:Rw) (v:V) (k:Nat),vs= [.ref m.x,v]/\QX C H m r/\r.th= .non/\Tr r.B/\m.own.length<=100/\QD k 125 rw/\Is H (rowD rw) v/\
 ∀H',Mv m H H'->QX C H' m ⟨(rowO m.own rw r.B r.p).B r.B,(rowO m.own rw r.B r.p).P r.p,r.n,r.gs,(rowO m.own rw r.B r.p).T⟩->Q .non H'
theorem mk_of (T:Tx K mg a)(C:Fx K w mg g a){x:Str}(h:x∈MKR):∃f fd,PySem.W.nsIn K g.makers x=some (some (.ref f))/\FnOk P w K mg base CX0 1 f fd ["boxes","own","parts"] (JQ x)/\jj K fd ["boxes","own","parts"] []/\PySem.W.keepIn K (.ref f)=true:=by
 simp only [MKR,uA,v7,v9] at h;rcases h with rfl|rfl|rfl|rfl|rfl|rfl|rfl|rfl|rfl|rfl|rfl
 ·exact⟨_,_,C.k_text,ok_text T,T.g_text_made.b,T.g_text_made.F.kp⟩
 ·exact⟨_,_,C.k_self,ok_self T,T.g_self_made.b,T.g_self_made.F.kp⟩
 ·exact⟨_,_,C.k_copy,ok_copy T,T.g_copy_made.b,T.g_copy_made.F.kp⟩
 ·exact⟨_,_,C.k_row,ok_row T,T.g_row_made.b,T.g_row_made.F.kp⟩
 ·exact⟨_,_,C.k_put,ok_put T,T.g_put_made.b,T.g_put_made.F.kp⟩
 ·exact⟨_,_,C.k_join,ok_join T,T.g_join_made.b,T.g_join_made.F.kp⟩
 ·exact⟨_,_,C.k_first,ok_first T,T.g_first_made.b,T.g_first_made.F.kp⟩
 ·exact⟨_,_,C.k_rest,ok_rest T,T.g_rest_made.b,T.g_rest_made.F.kp⟩
 ·exact⟨_,_,C.k_size,ok_size T,T.g_size_made.b,T.g_size_made.F.kp⟩
 ·exact⟨_,_,C.k_cut,ok_cut T,T.g_cut_made.b,T.g_cut_made.F.kp⟩
 ·exact⟨_,_,C.k_glue,ok_glue T,T.g_glue_made.b,T.g_glue_made.F.kp⟩
theorem ok_dorow (T:Tx K mg a)(C:Fx K w mg g a):FnOk P w K mg base CX0 4 a.YA a.Yx ["self","row"] (sp_dorow a.qw):=by
 have Xd:=ok_jump (P:=P) (w:=w) (base:=base) T;have xk:=ok_asked (P:=P) (w:=w) (base:=base) T;have XR:=ok_hold (P:=P) (w:=w) (base:=base) T;refine T.g_Machine_do_row.F.ok Q8 () (fun _ _ _ _ H _ Q E hr h=> ?_)
 obtain⟨m,⟨B,p,n,gs,th⟩,r,v,nn,rfl,M,aa,hT,ho,Y,iv,k⟩:=h;simp only at aa hT k;subst aa;refine⟨_,(@qc _ _ _ _ _ (@qx _ _ (2) _ _ _ _ Q8.nd rfl (Or.inl rfl) (@qG _ _ _ _ _ _ _ qT (pv 1) qh (fun _ _=>rfl)) () ()) (@qc _ _ _ _ _ (@qx _ _ (3) _ _ _ _ Q8.nd rfl (Or.inl rfl) (@qG _ _ _ _ _ _ _ qT (pv 1) qh (fun _ _=>rfl)) () ()) (@qf _ _ _ (@qH _ _ _ _ _ _ _ _ (@qk _ _ _ _ _ _ _ _ op_inK (pv 2) (@pe_gR _ _ _ _ () C.m_MAKERS ()) (by with_unfolding_all rfl)) (@qf _ _ _ (@yq _ _ _ _ (@pe_meth _ _ _ _ _ _ _ _ _ _ _ _ _ _ _ _ _ _ _ _ (pv 0) T.qq T.g_Machine_hold.h XR (hr.mono ()) T.g_Machine_hold.b .nil qK (@qa _ _ _ _ _ (@qG _ _ _ _ _ _ _ qT (pv 3) qh (fun _ _=>rfl)) (@qa _ _ _ _ _ (@pe_callX _ _ _ _ _ _ _ _ _ (1) _ _ _ _ _ ⟨rfl,rfl,rfl,rfl,rfl⟩ (@qG _ _ _ _ _ _ _ ix_K (@pe_gR _ _ _ _ () C.m_MAKERS ()) (pv 2) (fun _ _=>rfl)) (hr.mono ()) (@qa _ _ _ _ _ (@QL _ _ _ _ _ (pv 0) rfl) (@qa _ _ _ _ _ (@QL _ _ _ _ _ (pv 0) rfl) (@qa _ _ _ _ _ (pv 3) qe ()) ()) ()) () ()) qe ()) ()) () () ()) ())) (@qf _ _ _ (@qH _ _ _ _ _ _ _ _ (@qk _ _ _ _ _ _ _ _ Qq (pv 2) (@pe_gR _ _ _ _ () C.m_ASKING ()) (by with_unfolding_all rfl)) (@qf _ _ _ (@Q3 _ _ _ _ _ _ _ _ (pv 0) (@qt _ _ _ _ _ _ _ _ _ _ _ _ _ _ _ _ xk (hr.mono ()) () T.g_asked_or_fault.m T.g_asked_or_fault.F.kp T.g_asked_or_fault.b .nil qK (@qa _ _ _ _ _ (pv 2) (@qa _ _ _ _ _ (@Qi _ _ _ _ _ _ (QU hr) (@QL _ _ _ _ _ (pv 0) rfl) (@qG _ _ _ _ _ _ _ qT (pv 3) qh (fun _ _=>rfl)) (fun _ _=>rfl)) qe ()) ()) () () ()) rfl)) (@qf _ _ _ (@qH _ _ _ _ _ _ _ _ (@qk _ _ _ _ _ _ _ _ Qh (pv 2) qi (qu _)) (@qf _ _ _ (@Q3 _ _ _ _ _ _ _ _ (pv 0) (@qD _ _ _ _ _ (@qa _ _ _ _ _ qi (@qa _ _ _ _ _ (@Qi _ _ _ _ _ _ (QU hr) (@QL _ _ _ _ _ (pv 0) rfl) (@qG _ _ _ _ _ _ _ qT (pv 3) qh (fun _ _=>rfl)) (fun _ _=>rfl)) qe ()) ())) rfl)) (@qf _ _ _ (@qH _ _ _ _ _ _ _ _ (@qk _ _ _ _ _ _ _ _ Qh (pv 2) qi (qu _)) (@qf _ _ _ (@Q3 _ _ _ _ _ _ _ _ (pv 0) (@qD _ _ _ _ _ (@qa _ _ _ _ _ qi (@qa _ _ _ _ _ qi qe ()) ())) rfl)) (@qf _ _ _ (@qH _ _ _ _ _ _ _ _ (@qV _ _ _ (@qt _ _ _ _ _ _ _ _ _ _ _ _ _ _ _ _ Xd (hr.mono ()) () T.g_is_jump_taken.m T.g_is_jump_taken.F.kp T.g_is_jump_taken.b .nil qK (@qa _ _ _ _ _ (@QL _ _ _ _ _ (pv 0) rfl) (@qa _ _ _ _ _ (pv 2) (@qa _ _ _ _ _ (pv 3) qe ()) ()) ()) () () ()) ()) (@qf _ _ _ (@Q3 _ _ _ _ _ _ _ _ (pv 0) (@qG _ _ _ _ _ _ _ qT (pv 3) (@pe_un _ _ _ _ _ _ un_neg qh) (fun _ _=>rfl)) rfl)) (@qf _ _ _ (@YE _ _ _ _ _ _ _ _ _ _ (pv 0) qh in_add)))))))))))))),?_⟩
 dsimp only [cxOf,Cx.nox];have two:(2:Nat)<=sizeLine:=by decide
 obtain⟨L,ps⟩:=r;obtain⟨t0,us,rfl,et,iu⟩:=iv;obtain⟨v1,u1,rfl,⟨rfl,ak⟩,v2,u2,rfl,i2,e2⟩:=iu;cases(show u2= [] from e2)
 refine⟨_,rfl,t0,_,0,_,rfl,rfl,SqT.of et,rfl,?_⟩;refine⟨_,rfl,t0,_,1,_,rfl,rfl,SqT.of et,rfl,?_⟩;obtain⟨t1,al,rfl,am,ao⟩:=id i2;have U:PtsAt H t1 ps:=i2;have ae:=Y;obtain⟨ks,hk,hp⟩:=ae;have hM:=M;obtain⟨dx,fs,rv,ru,tv,gv,e,f,ir,ij,ib,hg,gl,it⟩:=hM;simp only at f ib gl it;have Z:fs.length<1000:=by have:=f.len;omega
 rcases frm_all _ hk with O|⟨O,af,R⟩
 ·obtain⟨fa,fd,hn,hF,hb,ag⟩:=mk_of (P:=P) (base:=base) T C O;obtain⟨z,qs,rfl,ah⟩:=mk_b0 Y O;have eo:rowO m.own (L,.s z::qs) B p=Zn B z (made L B m.own (.s z::qs)) p:=by unfold rowO;rw [if_pos O];rfl
  rw [eo] at k;refine⟨_,rfl,L,g.makers,_,rfl,rfl,C.km,hn,_,rfl,?_⟩;refine iteT ?_;refine⟨_,rfl,m.x,dx,fs,rfl,e,f.meth _ (by decide+kernel),_,rfl,?_⟩
  dsimp only [tC];refine box_at (i:=0) U rfl ?_;refine⟨_,rfl,L,g.makers,_,.ref fa,rfl,rfl,C.km,hn,rfl,fa,fd,_,JQ L,rfl,hF,hb,ag,?_⟩;refine⟨_,rfl,m.x,_,dx,fs,_,rfl,e,T.qq,T.Qp,f.boxes,_,rfl,m.x,_,dx,fs,_,rfl,e,T.qq,T.Jk,f.own,_,rfl,?_⟩;refine⟨m.db,t1,m.own,B,.s z::qs,nn,rfl,ib,hT,ho,Y,U,fun v H1 s1 hv=> ?_⟩;exact⟨m,⟨B,p,n,gs,.non⟩,z,v,_,rfl,M.same s1,rfl,ah,hv,fun H2 m2 M2=>k H2 ((Mv.of s1).trans m2) M2⟩
 ·refine⟨_,rfl,L,g.makers,_,rfl,rfl,C.km,C.k_no _ af,_,rfl,?_⟩;refine iteF ?_;refine⟨_,rfl,g.asking,_,rfl,.inr (C.asking _),rfl,rfl,_,rfl,?_⟩;have ei:inV (.str L) [.str "ask",.str "has",.str "names"]=decide (L∈ASK):=Y4 (z:=L) (l:=ASK);rw [if_neg ua,ei];rcases R with I|⟨I,R⟩
  ·refine qC (u7 I) ?_;obtain⟨_,_,ek⟩:=JF _ hk I;simp only at ek;subst ek;obtain⟨z0,z1,rfl,h0,h1⟩:=yZ hp;have eo:rowO m.own (L,[.s z0,.s z1]) B p= .stop (askF L (B z1)):=by unfold rowO;rw [if_neg O,if_pos I];rfl
   rw [eo] at k;refine⟨_,rfl,_,rfl,m.x,_,dx,fs,_,rfl,e,T.qq,T.Qp,f.boxes,_,rfl,?_⟩;dsimp only [tC];refine bget (i:=1) ib U rfl h1 fun v hv=> ?_;refine⟨L,v,B z1,rfl,I,hv,fun u H1 s1 hu=> ?_⟩;refine⟨_,rfl,m.x,_,dx,fs,rfl,s1 _ _ e,T.qq,T.qJ,Z,?_⟩;obtain⟨m1,m2⟩:=QS (r:=⟨B,p,n,gs,askF L (B z1)⟩) (s1 _ _ e) (f.set_there (u:=u)) (ir.mono s1.tk) (ij.mono s1.tk) (ib.same s1) (s1 _ _ hg) (gl.mono s1.tk) hu;exact k _ ((Mv.of s1).trans m2) m1
  ·refine qo (uc I) ?_;refine⟨_,rfl,rfl,_,rfl,?_⟩;have es:∀y:Str,decide (V.str L=V.str y)=decide (L=y):=fun y=>by
    rw [uB];exact⟨fun h=>by injection h,fun h=>by rw [h]⟩
   rcases R with rfl|rfl|⟨hs,hf,hj⟩
   ·refine qC (u7 rfl) ?_;have ek:=frm_say _ hk rfl;simp only at ek;subst ek;obtain⟨z0,rfl,h0⟩:=sh_b hp;have eo:rowO m.own ("say",[.s z0]) B p= .stop (.tup [.str "said",B z0]):=by unfold rowO;rw [if_neg O,if_neg I,if_pos rfl];rfl
    rw [eo] at k;refine⟨_,rfl,m.x,_,dx,fs,_,rfl,e,T.qq,T.Qp,f.boxes,_,rfl,?_⟩;dsimp only [tC];refine bget (i:=0) ib U rfl h0 fun v hv=> ?_;refine⟨two,fun l hl=> ?_⟩;have s1:Same H (upd H l (.tup [.str "said",v])):=qb hl _;refine⟨_,rfl,m.x,_,dx,fs,rfl,s1 _ _ e,T.qq,T.qJ,Z,?_⟩;obtain⟨m1,m2⟩:=QS (r:=⟨B,p,n,gs,.tup [.str "said",B z0]⟩) (s1 _ _ e) (f.set_there (u:= .ref l)) (ir.mono s1.tk) (ij.mono s1.tk) (ib.same s1) (s1 _ _ hg) (gl.mono s1.tk) (Is.new (ds:= [.str "said",B z0]) ⟨_,_,rfl,⟨rfl,qS (by decide)⟩,_,_,rfl,hv,rfl⟩ hl)
    exact k _ ((Mv.of s1).trans m2) m1
   ·have ab:¬(("fault":Str)="say"):=by decide+kernel
    refine qo (uc fun h=>ab (by injection h)) ?_
    refine⟨_,rfl,rfl,_,rfl,qC (u7 rfl) ?_⟩;have eo:rowO m.own ("fault",ps) B p= .stop (flt "told"):=by unfold rowO;rw [if_neg O,if_neg I,if_neg ab,if_pos rfl]
    rw [eo] at k;refine⟨two,fun l hl=> ?_⟩;have s1:Same H (upd H l (.tup [.str "fault",.str "told"])):=qb hl _;refine⟨_,rfl,m.x,_,dx,fs,rfl,s1 _ _ e,T.qq,T.qJ,Z,?_⟩;obtain⟨m1,m2⟩:=QS (r:=⟨B,p,n,gs,flt "told"⟩) (s1 _ _ e) (f.set_there (u:= .ref l)) (ir.mono s1.tk) (ij.mono s1.tk) (ib.same s1) (s1 _ _ hg) (gl.mono s1.tk) (Is.new (ds:= [.str "fault",.str "told"]) ⟨_,_,rfl,⟨rfl,qS (by decide)⟩,_,_,rfl,⟨rfl,qS (by decide)⟩,rfl⟩ hl)
    exact k _ ((Mv.of s1).trans m2) m1
   ·refine qo (by rw [es];exact uc hs) ?_
    refine⟨_,rfl,rfl,_,rfl,qo (by rw [es];exact uc hf) ?_⟩
    have eo:rowO m.own (L,ps) B p=if jump L B ps=true then .go B (jv ps) else .go B (p+1):=by unfold rowO;rw [if_neg O,if_neg I,if_neg hs,if_neg hf]
    rw [eo] at k;obtain⟨qs,i,ac,h1,h2,hl⟩:=ZK Y hj;simp only at ac hl;refine⟨_,rfl,m.x,_,dx,fs,_,rfl,e,T.qq,T.Qp,f.boxes,_,rfl,_,rfl,m.db,t1,L,B,ps,nn,rfl,ib,hT,hj,Y,U,_,rfl,?_⟩;cases ad:jump L B ps with
    |true=>
     rw [ad] at k;refine iteT ⟨_,rfl,1,rfl,?_⟩;refine QF (i:= -1) (d:= .int i) U (by rw [ac,uF];exact ZH _ _) fun q hq=> ?_
     cases(show q= .int i from hq)
     refine⟨_,rfl,m.x,_,dx,fs,rfl,e,T.qq,T.Qc,Z,?_⟩;obtain⟨m1,m2⟩:=QS (r:=⟨B,i,n,gs,.non⟩) e (f.set_place (q:=i)) ir ij ib hg gl it;refine k _ m2 ?_;show QX _ _ _ ⟨B,jv ps,n,gs,.non⟩;rw [hl];exact m1
    |false=>
     rw [ad] at k;refine iteF ⟨_,rfl,m.x,_,dx,fs,_,rfl,e,T.qq,T.Qc,f.place,p,1,rfl,rfl,dx,fs,e,Z,?_⟩;obtain⟨m1,m2⟩:=QS (r:=⟨B,p+1,n,gs,.non⟩) e (f.set_place (q:=p+1)) ir ij ib hg gl it;exact k _ m2 m1
def yj (rs:List Rw)(p:Int):Rw:=rs.getD (p.toNat-1) ("fault",[])
noncomputable def runS (rs:List Rw)(own:Str)(gs:List D):Nat->(Str->D)->Int->Nat->Rn
 |0,B,p,n=>⟨B,p,n,gs,if p>rs.length then flt "silent" else flt "long"⟩
 |f+1,B,p,n=>if p>rs.length then⟨B,p,n,gs,flt "silent"⟩ else match rowO own (yj rs p) B p with
  | .go B' p'=>runS rs own gs f B' p' (n+1)
  | .stop e=>⟨B,p,if qZ e=true then n else n+1,gs,e⟩
theorem row_at {rs:List Rw}{p:Int}(h1:1<=p)(h2:p<=rs.length):rs[p.toNat-1]? =some (yj rs p):=by
 unfold yj;have h:p.toNat-1<rs.length:=by omega
 simp [List.getD,h]
theorem ZE {rs:List Rw}{p:Int}(h1:1<=p)(h2:p<=rs.length):yj rs p∈rs:=uT (row_at h1 h2)
theorem Zu {B:Str->D}{z:Str}{e:D}(h:Tr B)(I:isT e=true):Tr (setB B z e):=fun y L=>by
 unfold setB;by_cases c:y=z
 ·rw [if_pos c];exact I
 ·rw [if_neg c];exact h y L
def OutOk (n:Int):Out->Prop
 | .go B p=>Tr B/\1<=p/\p<=n+1
 | .stop e=>∃w d,e= .tup [.str w,d]
theorem holdO_ok {B:Str->D}{z:Str}{e:D}{p n:Int}(h:Tr B)(h1:1<=p)(h2:p<=n):OutOk n (Zn B z e p):=by
 have I:OutOk n (if isT e=true then .go (setB B z e) (p+1) else .stop (flt "big")):=by
  by_cases c:isT e=true
  ·rw [if_pos c];exact⟨Zu h c,by omega,by omega⟩
  ·rw [if_neg c];exact⟨_,_,rfl⟩
 cases e with
 |non=>exact⟨_,_,rfl⟩
 |_=>exact I
theorem askF_ok (w:Str)(d:D):∃u e,askF w d= .tup [.str u,e]:=by
 unfold askF;split
 ·split
  ·exact⟨_,_,rfl⟩
  ·exact⟨_,_,rfl⟩
 ·split
  ·exact⟨_,_,rfl⟩
  ·exact⟨_,_,rfl⟩
theorem rowO_ok {own:Str}{n:Nat}{r:Rw}{B:Str->D}{p:Int}(R:QD n 125 r)(h:Tr B)(h1:1<=p)(h2:p<=n):OutOk n (rowO own r B p):=by
 unfold rowO;by_cases I:r.1∈MKR
 ·rw [if_pos I];exact holdO_ok h h1 h2
 rw [if_neg I];by_cases L:r.1∈ASK
 ·rw [if_pos L];exact askF_ok _ _
 rw [if_neg L];by_cases M:r.1="say"
 ·rw [if_pos M];exact⟨_,_,rfl⟩
 rw [if_neg M];by_cases O:r.1="fault"
 ·rw [if_pos O];exact⟨_,_,rfl⟩
 rw [if_neg O];by_cases U:jump r.1 B r.2=true
 ·rw [if_pos U];obtain⟨ks,Z,hp⟩:=id R;have hj:r.1∈JMP:=by
   rcases frm_all _ Z with q|⟨_,_,q|⟨_,q|q|q⟩⟩
   ·exact absurd q I
   ·exact absurd q L
   ·exact absurd q M
   ·exact absurd q O
   ·exact q.2.2
  obtain⟨qs,i,_,a1,a2,Y⟩:=ZK R hj;exact⟨h,by rw [Y];exact a1,by rw [Y];omega⟩
 ·rw [if_neg U];exact⟨h,by omega,by omega⟩
def sp_goon (C:Addr):Sp:=fun vs H Q _=>∃(m:Mc) (r:Rn),vs= [.ref m.x]/\QX C H m r/\r.th= .non/\Tr r.B/\m.own.length<=100/\QA m.rs/\1<=r.p/\r.p<=m.rs.length+1/\r.n<=300/\
 ∀(H':Hp),Mv m H H'->QX C H' m (runS m.rs m.own r.gs (300-r.n) r.B r.p r.n)->Q .non H'
theorem ok_goon (T:Tx K mg a)(C:Fx K w mg g a):FnOk P w K mg base CX0 5 a.YN a.YQ ["self"] (sp_goon a.qw):=by
 have xn:=ok_dorow (P:=P) (w:=w) (base:=base) T C;have qW:=Zb (P:=P) (w:=w) (base:=base) T;refine T.g_Machine_go_on.F.ok xi () (fun _ _ _ _ H _ Q E hr h=> ?_)
 obtain⟨⟨x,db,dg,rs,own⟩,⟨B0,p0,n0,gs,th⟩,rfl,M0,ao,ap,ho,hR,ay,aq,aA,k⟩:=h;simp only at ao ap ho hR ay aq aA k;subst ao;refine⟨_,(@qf _ _ _ (@xy _ _ _ _ _ _ uX (@qk _ _ _ _ _ _ _ _ zo (@QL _ _ _ _ _ (pv 0) rfl) Qg (qu _)) (@qf _ _ _ (@qH _ _ _ _ _ _ _ _ (@qk _ _ _ _ _ _ _ _ xo (@QL _ _ _ _ _ (pv 0) rfl) (@qj _ _ _ _ _ _ _ _ _ qE () T.Qy uv (@qa _ _ _ _ _ (@QL _ _ _ _ _ (pv 0) rfl) qe ()) () () () ()) (qu _)) (@qf _ _ _ (@Q3 _ _ _ _ _ _ _ _ (pv 0) (@qD _ _ _ _ _ (@qa _ _ _ _ _ qi (@qa _ _ _ _ _ qi qe ()) ())) rfl)) (@qf _ _ _ (@qH _ _ _ _ _ _ _ _ (@qk _ _ _ _ _ _ _ _ Qh (@QL _ _ _ _ _ (pv 0) rfl) (@pe_gI _ _ _ _ () T.m_MOST_DONE ()) (qu _)) (@qf _ _ _ (@Q3 _ _ _ _ _ _ _ _ (pv 0) (@qD _ _ _ _ _ (@qa _ _ _ _ _ qi (@qa _ _ _ _ _ qi qe ()) ())) rfl)) (@qc _ _ _ _ _ (@yq _ _ _ _ (@pe_meth _ _ _ _ _ _ _ _ _ _ _ _ _ _ _ _ _ _ _ _ (pv 0) T.qq T.g_Machine_do_row.h xn (hr.mono ()) T.g_Machine_do_row.b .nil qK (@qa _ _ _ _ _ (@qG _ _ _ _ _ _ _ qT (@QL _ _ _ _ _ (pv 0) rfl) (@qO _ _ _ _ _ _ _ _ op_sub (@QL _ _ _ _ _ (pv 0) rfl) qh) (fun _ _=>rfl)) qe ()) () () ()) ()) (@qf _ _ _ (@qH _ _ _ _ _ _ _ _ (@Qk _ _ _ _ (@qV _ _ _ (@yc _ _ _ _ _ _ _ _ _ _ _ _ _ _ _ _ _ (pv 0) T.qq T.g_Machine_is_waiting.h qW (hr.mono ()) T.g_Machine_is_waiting.b .nil qK ()) ())) (@qf _ _ _ (@YE _ _ _ _ _ _ _ _ _ _ (pv 0) qh in_add)) qp))))))))),?_⟩
 dsimp only [cxOf,Cx.nox];have two:(2:Nat)<=sizeLine:=by decide
 have n1:=hR.n1;generalize au:runS rs own gs (300-n0) B0 p0 n0=res at k
 let J1_:Nat->L2.St->Hp->Prop:=fun m σ H'=>∃(B:Str->D) (p:Int) (n:Nat) (th:D),σ= [some (.ref x)]/\QX a.qw H' ⟨x,db,dg,rs,own⟩ ⟨B,p,n,gs,th⟩/\Mv ⟨x,db,dg,rs,own⟩ H H'/\Tr B/\1<=p/\p<=rs.length+1/\n<=300/\((th= .non/\runS rs own gs (300-n) B p n=res/\m=301-n)∨((∃u e,th= .tup [.str u,e])/\⟨B,p,n,gs,th⟩=res/\m=0))
 refine⟨J1_,⟨_,B0,p0,n0,.non,rfl,M0,Mv.refl _ _,ap,by omega,by omega,by omega,.inl ⟨rfl,au,rfl⟩⟩,?_⟩
 rintro m σ H' ⟨B,p,n,th,rfl,M,mv,hT,Z,af,hn,hc⟩;have hM:=M;obtain⟨dx,fs,rv,ru,tv,gv,e,f,ir,ij,ib,hg,gl,it⟩:=hM;simp only at e f ir ij ib hg gl it;have av:fs.length<1000:=by have:=f.len;omega
 refine⟨_,rfl,x,_,dx,fs,tv,rfl,e,T.qq,T.qJ,f.there,rfl,_,rfl,?_⟩;rcases hc with⟨rfl,L,rfl⟩|⟨⟨u,d,rfl⟩,L,rfl⟩
 ·cases(show tv= .non from it)
  have ac:∀{H:Hp},Is H .non .non:=rfl;refine qC (by decide+kernel) ?_
  refine⟨fun σ' H2=>∃(B:Str->D) (p:Int) (R:Nat) (th:D),σ'= [some (.ref x)]/\QX a.qw H2 ⟨x,db,dg,rs,own⟩ ⟨B,p,R,gs,th⟩/\Mv ⟨x,db,dg,rs,own⟩ H H2/\Tr B/\1<=p/\p<=rs.length+1/\R<=300/\((th= .non/\runS rs own gs (300-R) B p R=res/\n<R)∨((∃u e,th= .tup [.str u,e])/\⟨B,p,R,gs,th⟩=res)),?_,?_⟩
  ·rintro σ' H2 ⟨B2,p2,R,aH,rfl,M2,aa,aw,a1,a2,a3,aB⟩;rcases aB with⟨rfl,q1,q2⟩|⟨q0,q1⟩
   ·exact⟨301-R,by omega,B2,p2,R,_,rfl,M2,aa,aw,a1,a2,a3,.inl ⟨rfl,q1,rfl⟩⟩
   ·exact⟨0,by omega,B2,p2,R,_,rfl,M2,aa,aw,a1,a2,a3,.inr ⟨q0,q1,rfl⟩⟩
  ·have aC:=ir;obtain⟨ta,us,rfl,aD,iu⟩:=aC;have aI:us.length=rs.length:=by rw [iu.length,uf]
   have fl:∀(z:Str) (H:Hp) (l:Addr),z.length<=100->H l=none->Is (upd H l (.tup [.str "fault",.str z])) (flt z) (.ref l):=fun z H l hz hl=>Is.new (ds:= [.str "fault",.str z]) ⟨_,_,rfl,⟨rfl,qS (by decide)⟩,_,_,rfl,⟨rfl,qS (by omega)⟩,rfl⟩ hl
   have U:∀(z:Str),z.length<=100->⟨B,p,n,gs,flt z⟩=res->∀l,H' l=none->(fun H2=>∃(B:Str->D) (p:Int) (R:Nat) (th:D),[some (V.ref x)]= [some (V.ref x)]/\QX a.qw H2 ⟨x,db,dg,rs,own⟩ ⟨B,p,R,gs,th⟩/\Mv ⟨x,db,dg,rs,own⟩ H H2/\Tr B/\1<=p/\p<=rs.length+1/\R<=300/\((th= .non/\runS rs own gs (300-R) B p R=res/\n<R)∨((∃u e,th= .tup [.str u,e])/\⟨B,p,R,gs,th⟩=res))) (upd (upd H' l (.tup [.str "fault",.str z])) x (.ins a.qw dx (putF "there" (.ref l) fs))):=by
    intro z hz aE l hl;have s1:Same H' (upd H' l (.tup [.str "fault",.str z])):=qb hl _;obtain⟨m1,m2⟩:=QS (m:=⟨x,db,dg,rs,own⟩) (r:=⟨B,p,n,gs,flt z⟩) (s1 _ _ e) (f.set_there (u:= .ref l)) (ir.mono s1.tk) (ij.mono s1.tk) (ib.same s1) (s1 _ _ hg) (gl.mono s1.tk) (fl z H' l hz hl);exact⟨B,p,n,flt z,rfl,m1,mv.trans ((Mv.of s1).trans m2),hT,Z,af,hn,.inr ⟨⟨_,_,rfl⟩,aE⟩⟩
   refine⟨_,rfl,x,_,dx,fs,_,rfl,e,T.qq,T.Qc,f.place,_,rfl,x,_,dx,fs,_,rfl,e,T.qq,T.yd,f.rows,ta,us,rfl,.inr (SqT.of aD),_,_,rfl,rfl,_,rfl,?_⟩;refine ite2 (fun c=> ?_) (fun c=> ?_)
   ·have c':p>rs.length:=by have:=ud c;omega
    have er:⟨B,p,n,gs,flt "silent"⟩=res:=by
     rw [<-L];cases h3:300-n with
     |zero=>unfold runS;rw [if_pos c']
     |succ q=>unfold runS;rw [if_pos c']
    refine⟨two,fun l hl=> ?_⟩;have s1:Same H' (upd H' l (.tup [.str "fault",.str "silent"])):=qb hl _;exact⟨_,rfl,x,_,dx,fs,rfl,s1 _ _ e,T.qq,T.qJ,av,U "silent" (by decide) er l hl⟩
   ·have c':¬p>rs.length:=fun h=>c (u7 (by omega))
    refine⟨_,rfl,x,_,dx,fs,_,rfl,e,T.qq,T.QM,f.done,rfl,_,rfl,?_⟩;refine ite2 (fun c2=> ?_) (fun c2=> ?_)
    ·have e3:n=300:=by have:=ud c2;injection this with h;omega
     have er:⟨B,p,n,gs,flt "long"⟩=res:=by
      rw [<-L,e3];show _=runS rs own gs 0 B p 300;unfold runS;rw [if_neg c']
     refine⟨two,fun l hl=> ?_⟩;have s1:Same H' (upd H' l (.tup [.str "fault",.str "long"])):=qb hl _;exact⟨_,rfl,x,_,dx,fs,rfl,s1 _ _ e,T.qq,T.qJ,av,U "long" (by decide) er l hl⟩
    ·have e3:n<300:=by
      rcases Nat.lt_or_ge n 300 with h|h
      ·exact h
      ·exact absurd (u7 (by rw [show n=300 by omega];rfl)) c2
     have ag:p<=rs.length:=by omega
     have ax:=hR.ok _ (ZE Z ag);have hok:=rowO_ok (own:=own) ax hT Z ag;have I:res=match rowO own (yj rs p) B p with
       | .go B' p'=>runS rs own gs (300-(n+1)) B' p' (n+1)
       | .stop e=>⟨B,p,if qZ e=true then n else n+1,gs,e⟩:=by
      rw [<-L,show 300-n=(300-(n+1))+1 by omega,runS,if_neg c']
     refine⟨_,rfl,x,dx,fs,rfl,e,f.meth _ (by decide+kernel),?_⟩
     refine⟨_,rfl,x,_,dx,fs,_,rfl,e,T.qq,T.yd,f.rows,_,rfl,x,_,dx,fs,_,rfl,e,T.qq,T.Qc,f.place,_,_,rfl,rfl,?_⟩;have aF:atI (rs.map rowD) (p-1)=some (rowD (yj rs p)):=by
      rw [show p-1=((p.toNat-1:Nat):Int) by omega]
      exact qQ (by rw [uI,row_at Z ag];rfl)
     refine QF (d:=rowD (yj rs p)) ir aF fun q hq=> ?_;refine⟨⟨x,db,dg,rs,own⟩,⟨B,p,n,gs,.non⟩,yj rs p,q,rs.length,rfl,M,rfl,hT,ho,ax,hq,fun H2 m2 M2=> ?_⟩;have aG:=M2;obtain⟨ab,Y,aJ,aK,aL,aM,e2,f2,ah,ak,ad,al,am,ac⟩:=aG;simp only at e2 f2 ah ak ad al am ac;have ae:Y.length<1000:=by have:=f2.len;omega
     have aa:=mv.trans m2;generalize hO:rowO own (yj rs p) B p=O at hok I M2 ac ad f2;cases O with
     |go B' p'=>
      obtain⟨q1,q2,q3⟩:=hok;refine⟨_,rfl,x,ab,Y,rfl,e2,f2.meth _ (by decide+kernel),_,_,rfl,M2,.inl rfl,_,rfl,?_⟩
      refine qC rfl ?_;refine⟨_,rfl,x,_,ab,Y,_,rfl,e2,T.qq,T.QM,f2.done,(n:Int),1,rfl,rfl,ab,Y,e2,ae,?_⟩;obtain⟨m3,m4⟩:=QS (m:=⟨x,db,dg,rs,own⟩) (r:=⟨B',p',n+1,gs,.non⟩) e2 (f2.set_done (k:=n+1)) ah ak ad al am ac;exact⟨B',p',n+1,.non,rfl,m3,aa.trans m4,q1,q2,q3,by omega,.inl ⟨rfl,I.symm,by omega⟩⟩
     |stop d=>
      obtain⟨u,d2,rfl⟩:=hok;refine⟨_,rfl,x,ab,Y,rfl,e2,f2.meth _ (by decide+kernel),_,_,rfl,M2,.inr ⟨_,_,rfl⟩,_,rfl,?_⟩
      cases hw:qZ (.tup [.str u,d2]) with
      |true=>
       simp only [hw] at I;refine qo (by show(!qZ (.tup [.str u,d2]))=false;rw [hw];rfl) ?_
       exact⟨B,p,n,_,rfl,M2,aa,hT,Z,af,hn,.inr ⟨⟨_,_,rfl⟩,I.symm⟩⟩
      |false=>
       simp only [hw] at I;refine qC (by show(!qZ (.tup [.str u,d2]))=true;rw [hw];rfl) ?_
       refine⟨_,rfl,x,_,ab,Y,_,rfl,e2,T.qq,T.QM,f2.done,(n:Int),1,rfl,rfl,ab,Y,e2,ae,?_⟩;obtain⟨m3,m4⟩:=QS (m:=⟨x,db,dg,rs,own⟩) (r:=⟨B,p,n+1,gs,.tup [.str u,d2]⟩) e2 (f2.set_done (k:=n+1)) ah ak ad al am ac;exact⟨B,p,n+1,_,rfl,m3,aa.trans m4,hT,Z,af,by omega,.inr ⟨⟨_,_,rfl⟩,I.symm⟩⟩
 ·have:tv≠ .non:=by obtain⟨_,_,h,_⟩:=it;rw [h];exact fun z=>by cases z
  refine qo (uc this) ?_;refine k H' mv ?_;rw [<-L];exact M
def emp (z:Str):D:= .tup [.str z,.str ""]
theorem prs_of {H:Hp}:∀{zs:List Str}{ys:List V},L2.IsL H (zs.map emp) ys->∃ts:List Addr,ys=ts.map V.ref/\ts.length=zs.length/\∀(i:Nat) (t:Addr) (z:Str),ts[i]? =some t->zs[i]? =some z->H t=some (.tup [.str z,.str ""])
 | [],_,h=>by
  cases(show _= [] from h)
  exact⟨[],rfl,rfl,fun i t z h=>by simp at h⟩
 |y::zs,_,h=>by
  obtain⟨v,r,rfl,⟨t,us,rfl,L,U,u1,rfl,⟨rfl,_⟩,Y,M,rfl,⟨rfl,_⟩,O⟩,h2⟩:=h;cases(show M= [] from O)
  obtain⟨ts,rfl,R,hi⟩:=prs_of h2;refine⟨t::ts,rfl,by rw [uh,R];rfl,fun i q z h1 I=> ?_⟩
  cases i with
  |zero=>
   cases h1;cases I;exact L
  |succ j=>exact hi j q z (by simpa using h1) (by simpa using I)
theorem prs_box {H:Hp}{A:Addr}{ys:List V}(e:H A=some (.lst ys))(h:L2.IsL H (BX.map emp) ys):PairsL H A (BX.map fun z=>(z,V.str "")):=by
 obtain⟨ts,rfl,L,hi⟩:=prs_of h;refine⟨ts,e,by rw [L,uf],fun i t p h1 h2=> ?_⟩
 rw [uI] at h2;cases I:BX[i]? with
 |none=>rw [I] at h2;cases h2
 |some z=>
  rw [I] at h2;cases h2;exact hi i t z h1 I
def B0:Str->D:=fun _=> .str ""
theorem box_new {H:Hp}{q:Addr}(I:H q=none):QH (upd H q (.dK (inrK (BX.map fun z=>(z,V.str ""))))) q B0:=by
 refine⟨fun _=> .str "",?_,fun z _=>⟨rfl,qS (by decide)⟩⟩
 rw [qg];unfold inrK kvB;rw [uN]
 rfl
theorem B0_tr:Tr B0:=fun _ _=>(by decide+kernel:isT (.str "")=true)
theorem bx_nodup:((BX.map fun z=>(z,V.str "")).map (·.1)).Nodup:=by
 rw [uN];show(BX.map id).Nodup;rw [List.map_id]
 decide+kernel
theorem putF_le (f:Str)(v:V):∀fs:List (Str×V),(putF f v fs).length<=fs.length+1
 | []=>ui _
 |(g,x)::r=>by
  unfold putF;by_cases c:g=f
  ·rw [if_pos c];simp
  ·rw [if_neg c];have:=putF_le f v r;simp only [uh];omega
def FLD:List Str:= ["rows","rule","own","boxes","place","done","given","there"]
theorem mth_fld:∀m∈MTH,m∉FLD:=by decide+kernel
theorem fl_new {rv v:V}{own:Str}{db dg:Addr}(I:(putF "there" .non (putF "given" (.ref dg) (putF "done" (.int 0) (putF "place" (.int 1) (putF "boxes" (.ref db) (putF "own" (.str own) (putF "rule" v (putF "rows" rv [])))))))).length<=20):
  Fl (putF "there" .non (putF "given" (.ref dg) (putF "done" (.int 0) (putF "place" (.int 1) (putF "boxes" (.ref db) (putF "own" (.str own) (putF "rule" v (putF "rows" rv [])))))))) rv v own db dg 1 0 .non:=by
 refine⟨?_,?_,?_,?_,?_,?_,?_,?_,fun m hm=> ?_,I⟩
 ·iterate 7 rw [qM,if_neg (by decide+kernel)]
  rw [qM,if_pos rfl]
 ·iterate 6 rw [qM,if_neg (by decide+kernel)]
  rw [qM,if_pos rfl]
 ·iterate 5 rw [qM,if_neg (by decide+kernel)]
  rw [qM,if_pos rfl]
 ·iterate 4 rw [qM,if_neg (by decide+kernel)]
  rw [qM,if_pos rfl]
 ·iterate 3 rw [qM,if_neg (by decide+kernel)]
  rw [qM,if_pos rfl]
 ·iterate 2 rw [qM,if_neg (by decide+kernel)]
  rw [qM,if_pos rfl]
  rfl
 ·rw [qM,if_neg (by decide+kernel),qM,if_pos rfl]
 ·rw [qM,if_pos rfl]
 ·have h:=mth_fld m hm
  iterate 8 rw [qM,if_neg (fun e=>h (by rw [e];decide+kernel))]
  rfl
structure Ini (n:Nat)(H:Hp)(C x dx:Addr)(fs:List (Str×V))(H':Hp):Prop where
 len:fs.length<=n
 at':H' x=some (.ins C dx fs)
 kept:∀b o,H b=some o->b≠x->H' b=some o
theorem Ini.put {n:Nat}{H H':Hp}{C x dx:Addr}{fs:List (Str×V)}(I:Ini n H C x dx fs H')(f:Str)(v:V):Ini (n+1) H C x dx (putF f v fs) (upd H' x (.ins C dx (putF f v fs)))/\Tk H' (upd H' x (.ins C dx (putF f v fs))):=
 ⟨⟨uK (putF_le f v fs) (Nat.succ_le_succ I.len),qg,fun b o h n=>by rw [qy n];exact I.kept b o h n⟩,Tk.updI I.at'⟩
theorem Ini.same {n:Nat}{H H' H2:Hp}{C x dx:Addr}{fs:List (Str×V)}(I:Ini n H C x dx fs H')(s:Same H' H2):Ini n H C x dx fs H2:=⟨I.len,s _ _ I.at',fun b o h n=>s _ _ (I.kept b o h n)⟩
theorem lc_box {K:PySem.W.Frag}{b A:Addr}{H1:Hp}{te:TE}{tl:L2.St}{Q:VK}(L:∀H,SqT K H b (BX.map V.str))(U:H1 A=none)
  (M:∀(z:Str) H (R:VK),z.length<=sizeLine->Same H1 H->(∀y H',Same H H'->Is H' (emp z) y->R y H')->te (some (.str z)::tl) H R)
  (Y:∀H' ys,Same H1 H'->H' A=some (.lst ys)->L2.IsL H' (BX.map emp) ys->Q (.ref A) H'):lcGo A (Itt K b) (Y3 0) tYes te (none::tl) H1 Q:=by
 have Z:∀H,L2.IsL H (BX.map D.str) (BX.map V.str):=fun H=>IsL.ofStrs fun z O=>qS (by rw [(Qr O).1];decide)
 refine lc_data (ds:=BX.map D.str) (fun d=>match d with| .str z=>emp z|d=>d) (qS (by decide)) U (fun i H I hi=>⟨BX.map V.str,(BX.map V.str)[i]'(by simpa using hi),L H,ul _⟩) (fun i H x H' d I hd y=> ?_) (fun H I=>⟨BX.map V.str,L H,by simp⟩) (fun d x H R hd I hx r=> ?_) (fun H' ys I e h=>Y H' ys I e ?_)
 ·obtain⟨rfl,y⟩:=y;obtain⟨v,e1,e2⟩:=(Z H').get hd;have:=y _ (L H');rw [e1] at this;cases this;exact⟨rfl,e2⟩
 ·obtain⟨z,_,rfl⟩:=List.mem_map.mp hd;obtain⟨rfl,O⟩:=hx;exact M z H R O I r
 ·rw [uN] at h;exact h
def sp_minit (C:Addr):Sp:=fun vs H Q _=>∃(x dx:Addr) (v:V) (rs:List Rw) (own:Str),vs= [.ref x,v,.str own]/\H x=some (.ins C dx [])/\QA rs/\Is H (QY rs) v/\nm own=true/\own.length<=100/\
 ∀(H':Hp) (db dg:Addr),(∀b o,H b=some o->b≠x->H' b=some o)->H db=none->H dg=none->QX C H' ⟨x,db,dg,rs,own⟩ (runS rs own [] 300 B0 1 0)->Q .non H'
theorem ok_minit (T:Tx K mg a)(C:Fx K w mg g a):FnOk P w K mg base CX0 6 a.yV a.ju ["self","rule","own"] (sp_minit a.qw):=by
 have Y9:=ok_name (P:=P) (w:=w) (base:=base) T;have I:=ok_rows (P:=P) (w:=w) (base:=base) T C;have yI:=ok_goon (P:=P) (w:=w) (base:=base) T C;refine T.g_Machine_init.F.ok Xx () (fun _ _ _ _ H _ Q E hr h=> ?_)
 obtain⟨x,dx,v,rs,own,rfl,hx,hR,hv,ao,ap,k⟩:=h;refine⟨_,(@qc _ _ _ _ _ (@Q3 _ _ _ _ _ _ _ _ (pv 0) (@qt _ _ _ _ _ _ _ _ _ _ _ _ _ _ _ _ I (hr.mono ()) () T.g_rule_rows.m T.g_rule_rows.F.kp T.g_rule_rows.b .nil qK (@qa _ _ _ _ _ (pv 1) qe ()) () () ()) rfl) (@qc _ _ _ _ _ (@qH _ _ _ _ _ _ _ _ (@Qk _ _ _ _ (@qV _ _ _ (@qt _ _ _ _ _ _ _ _ _ _ _ _ _ _ _ _ Y9 (hr.mono ()) () T.g_is_name.m T.g_is_name.F.kp T.g_is_name.b .nil qK (@qa _ _ _ _ _ (pv 2) qe ()) () () ()) ())) (@qf _ _ _ ps_never) qp) (@qc _ _ _ _ _ (@Q3 _ _ _ _ _ _ _ _ (pv 0) (pv 1) rfl) (@qc _ _ _ _ _ (@Q3 _ _ _ _ _ _ _ _ (pv 0) (pv 2) rfl) (@qc _ _ _ _ _ (@Q3 _ _ _ _ _ _ _ _ (pv 0) (@qR _ _ _ _ _ _ _ _ _ (@zQ _ rfl) () T.z_dict boot_dict (@qa _ _ _ _ _ (@jk _ _ (["box"]) (1) ([]) _ _ _ _ _ _ _ _ _ (lcs0) rfl (@Ym _ _ _ _ (@pe_gR _ _ _ _ () C.m_BOXES ())) (fun _ _ _ _ _ _=>(@qN _ _ (0) _ (show List.Nodup (["box"]:List Str) by decide+kernel) rfl (Or.inl rfl) ())) (fun _ _ _ _ _ _=> @QG _) (fun _ _ _ _ _ _=>(@qD _ _ _ _ _ (@qa _ _ _ _ _ (pv 0) (@qa _ _ _ _ _ qi qe ()) ()))) ()) qe ()) () () () ()) rfl) (@qc _ _ _ _ _ (@Q3 _ _ _ _ _ _ _ _ (pv 0) qh rfl) (@qc _ _ _ _ _ (@Q3 _ _ _ _ _ _ _ _ (pv 0) qh rfl) (@qc _ _ _ _ _ (@Q3 _ _ _ _ _ _ _ _ (pv 0) (@Qo _ _ _ _ qe) rfl) (@qc _ _ _ _ _ (@Q3 _ _ _ _ _ _ _ _ (pv 0) Qg rfl) (@qf _ _ _ (@yq _ _ _ _ (@yc _ _ _ _ _ _ _ _ _ _ _ _ _ _ _ _ _ (pv 0) T.qq T.g_Machine_go_on.h yI (hr.mono ()) T.g_Machine_go_on.b .nil qK ()) ()))))))))))),?_⟩
 dsimp only [cxOf,Cx.nox];refine⟨_,rfl,v,rs,rfl,hR,hv,fun rv H1 s1 ir=> ?_⟩;refine⟨_,rfl,x,_,dx,[],rfl,s1 _ _ hx,T.qq,T.yd,by decide,?_⟩
 have I0:Ini 0 H a.qw x dx [] H1:=⟨ui _,s1 _ _ hx,fun b o h _=>s1 _ _ h⟩;obtain⟨I1,t1⟩:=I0.put "rows" rv;have aq:=ir.mono t1;refine⟨_,rfl,_,.str own,rfl,⟨rfl,qS (by omega)⟩,fun H3 s3=>⟨_,rfl,qo (by show(!nm own)=false;rw [ao];rfl) ?_⟩⟩
 have I3:=I1.same s3;have au:=aq.mono s3.tk;refine⟨_,rfl,_,rfl,x,_,dx,_,rfl,I3.at',T.qq,T.XW,by have:=I3.len;omega,?_⟩
 obtain⟨I4,t4⟩:=I3.put "rule" v;have av:=au.mono t4;refine⟨_,rfl,_,rfl,x,_,dx,_,rfl,I4.at',T.qq,T.Jk,by have:=I4.len;omega,?_⟩
 obtain⟨I5,t5⟩:=I4.put "own" (.str own);have aw:=av.mono t5;refine⟨g.boxes,_,rfl,C.boxes _,fun aI A0 ax=> ?_⟩;refine lc_box (tl:= []) C.boxes ax (fun z H6 R hz s6 r=>⟨_,rfl,(by show 2<=sizeLine;decide),fun l hl=>r _ _ (qb hl _) (Is.new (ds:= [.str z,.str ""]) ⟨_,_,rfl,⟨rfl,hz⟩,_,_,rfl,⟨rfl,qS (by decide)⟩,rfl⟩ hl)⟩) fun H6 ys s6 e6 i6=> ?_
 refine⟨A0,_,rfl,prs_box e6 i6,bx_nodup,by decide,fun db U=> ?_⟩
 have I6:=I5.same s6;have s7:Same H6 (upd H6 db (.dK (inrK (BX.map fun z=>(z,V.str ""))))):=qb U _;have I7:=I6.same s7;have b7:=box_new U;have ay:=(aw.mono s6.tk).mono s7.tk;have nx:∀b o,H b=some o->b≠x->b≠db:=fun b o h n=>qr (I6.kept b o h n) U;have O:x≠db:=qr I6.at' U;refine⟨_,rfl,x,_,dx,_,rfl,I7.at',T.qq,T.Qp,by have:=I7.len;omega,?_⟩
 obtain⟨I8,t8⟩:=I7.put "boxes" (.ref db);have b8:=b7.move t8 (qy O.symm);have aA:=ay.mono t8;refine⟨_,rfl,x,_,dx,_,rfl,I8.at',T.qq,T.Qc,by have:=I8.len;omega,?_⟩
 obtain⟨I9,t9⟩:=I8.put "place" (.int 1);have b9:=b8.move t9 (qy O.symm);have aB:=aA.mono t9;refine⟨_,rfl,x,_,dx,_,rfl,I9.at',T.qq,T.QM,by have:=I9.len;omega,?_⟩
 obtain⟨Y,ae⟩:=I9.put "done" (.int 0);have aC:=b9.move ae (qy O.symm);have af:=aB.mono ae;refine⟨(by show 0<=sizeLine;decide),fun dg Z=> ?_⟩
 have aa:=qb Z (.lst []);have ab:=Y.same aa;have aD:=aC.same aa;have ag:=af.mono aa.tk;have ac:dg≠x:=(qr Y.at' Z).symm;refine⟨_,rfl,x,_,dx,_,rfl,ab.at',T.qq,T.yG,by have:=ab.len;omega,?_⟩
 obtain⟨ad,ah⟩:=ab.put "given" (.ref dg);have aE:=aD.move ah (qy O.symm);have ak:=ag.mono ah;refine⟨_,rfl,x,_,dx,_,rfl,ad.at',T.qq,T.qJ,by have:=ad.len;omega,?_⟩
 obtain⟨L,al⟩:=ad.put "there" .non;have aF:=aE.move al (qy O.symm);have am:=ak.mono al;have hl:=L.len;refine⟨_,rfl,x,dx,_,rfl,L.at',(fl_new (by omega)).meth _ (by decide+kernel),?_⟩
 have aG:Is _ (QY rs) v:=hv.mono ⟨fun b xs e=>L.kept b _ e (fun z=>by rw [z,hx] at e;cases e),fun b xs e=>⟨_,L.kept b _ e (fun z=>by rw [z,hx] at e;cases e)⟩,fun b xs e=>⟨_,L.kept b _ e (fun z=>by rw [z,hx] at e;cases e)⟩⟩
 have frs:∀{b:Addr}{H2:Hp},(∀c o,H c=some o->c≠x->H2 c=some o)->H2 b=none->b≠x->H b=none:=fun{b H2} k1 h1 n1=>by
  cases hc:H b with
  |none=>rfl
  |some o=>rw [k1 b o hc n1] at h1;cases h1
 have aH:∀b o,H b=some o->b≠x->b≠dg:=fun b o h n=>qr (Y.kept b o h n) Z;refine⟨⟨x,db,dg,rs,own⟩,⟨B0,1,0,[],.non⟩,rfl,⟨dx,_,rv,v,.non,[],L.at',fl_new (by omega),am,aG,aF,?_,rfl,rfl⟩,rfl,B0_tr,ap,hR,Int.le_refl 1,by show(1:Int)<=(rs.length:Int)+1;omega,uD _,fun H' m M=>k H' db dg (fun b o h n=>m.kept b o (L.kept b o h n) n (nx b o h n) (aH b o h n)) (frs I6.kept U O.symm) (frs Y.kept Z ac) M⟩
 rw [qy ac,qy ac,qg]
theorem zT (x y:Nat):decide (([x]:List Nat)< [y])=decide (x<y):=by
 rw [uB];constructor
 ·intro h;rcases List.cons_lt_cons_iff.mp h with h|⟨_,h⟩
  ·exact h
  ·exact absurd h (by simp)
 ·intro h;exact List.cons_lt_cons_iff.mpr (.inl h)
def sp_pr (n:Nat):Sp:=fun vs H Q _=>∃v d,vs= [v]/\Is H d v/\dp d<n/\∀H',Same H H'->Q (.bl (good d)) H'
def sp_sz (n:Nat):Sp:=fun vs H Q _=>∃v d,vs= [v]/\Is H d v/\good d=true/\dp d<n/\∀H',Same H H'->Q (.int (sz d:Int)) H'
def sp_dp (n:Nat):Sp:=fun vs H Q _=>∃v d,vs= [v]/\Is H d v/\good d=true/\dp d<n/\∀H',Same H H'->Q (.int (dp d:Int)) H'
def sp_lt:Sp:=fun vs H Q _=>∃v d,vs= [v]/\Is H d v/\dp d<=20/\∀H',Same H H'->Q (.bl (isT d)) H'
theorem dp_row {xs:List D}{d:D}(h:d∈xs):dp d<dp (.tup xs):=by
 have:=(Yz xs).mp (ui _) d h;simp only [dp];omega
theorem pr_none {f:Addr}{fd:FuncData}{l:Nat}{x:Str}:FnOk P w K mg base CX0 l f fd [x] (sp_pr 0):=by
 have I:∀vs H Q E,¬sp_pr 0 vs H Q E:=fun vs H Q E h=>by
  obtain⟨v,d,_,_,h1,_⟩:=h;omega
 exact⟨fun vs H Q E h=>absurd h (I vs H Q E),fun A outer s H args us vs Q E _ _ _ _ h=>absurd h (I vs H Q E)⟩
theorem sz_none {f:Addr}{fd:FuncData}{l:Nat}{x:Str}:FnOk P w K mg base CX0 l f fd [x] (sp_sz 0):=by
 have I:∀vs H Q E,¬sp_sz 0 vs H Q E:=fun vs H Q E h=>by
  obtain⟨v,d,_,_,_,h1,_⟩:=h;omega
 exact⟨fun vs H Q E h=>absurd h (I vs H Q E),fun A outer s H args us vs Q E _ _ _ _ h=>absurd h (I vs H Q E)⟩
theorem dp_none {f:Addr}{fd:FuncData}{l:Nat}{x:Str}:FnOk P w K mg base CX0 l f fd [x] (sp_dp 0):=by
 have I:∀vs H Q E,¬sp_dp 0 vs H Q E:=fun vs H Q E h=>by
  obtain⟨v,d,_,_,_,h1,_⟩:=h;omega
 exact⟨fun vs H Q E h=>absurd h (I vs H Q E),fun A outer s H args us vs Q E _ _ _ _ h=>absurd h (I vs H Q E)⟩
theorem ok_pr1 (T:Tx K mg a){n:Nat}(Q9:FnOk P w K mg base CX0 (n+1) a.Qx a.Qw ["value"] (sp_pr n)):FnOk P w K mg base CX0 (n+2) a.Qx a.Qw ["value"] (sp_pr (n+1)):=by
 refine T.g_law_parts_right.F.ok Je () (fun _ _ _ _ H vs Q E hr h=> ?_)
 obtain⟨v,d,rfl,M,hd,k⟩:=h;refine⟨_,(@qc _ _ _ _ _ (@qH _ _ _ _ _ _ _ _ (@qV _ _ _ (@qj _ _ _ _ _ _ _ _ _ (@qz _ _ rfl) () T.qv uz (@qa _ _ _ _ _ (pv 0) (@qa _ _ _ _ _ (@qY _ _ (.ty "str") _ _ () T.ym vw rfl () ()) qe ()) ()) () () () ()) ()) (@qf _ _ _ (@ql _ _ _ _ (@xf _ _ _ _ _ _ _ (@Qs _ _ _ _ _ _ _ _ zX (@qj _ _ _ _ _ _ _ _ _ QK () T.Qy uv (@qa _ _ _ _ _ (pv 0) qe ()) () () () ()) qh (qu _)) (@jm _ _ _ _ _ (@qj _ _ _ _ _ _ _ _ _ (@yg _ rfl) () T.z_all boot_all (@qa _ _ _ _ _ (@jk _ _ (["sign"]) (1) ([]) _ _ _ _ _ _ _ _ _ (lcs0) rfl (@pi_str _ _ _ _ (pv 0)) (fun _ _ _ _ _ _=>(@qN _ _ (0) _ (show List.Nodup (["sign"]:List Str) by decide+kernel) rfl (Or.inl rfl) ())) (fun _ _ _ _ _ _=> @QG _) (fun _ _ _ _ _ _=>(@xf _ _ _ _ _ _ _ (@pe_chain _ _ _ _ _ _ _ _ _ _ _ _ op_le_str op_le_str qi (pv 0) qi ()) (@jm _ _ _ _ _ (@pe_not _ _ _ _ (@pe_chain _ _ _ _ _ _ _ _ _ _ _ _ XQ XQ qi (pv 0) qi ()))))) ()) qe ()) () () () ()))))) qp) (@qc _ _ _ _ _ (@qH _ _ _ _ _ _ _ _ (@y0 _ _ _ _ _ _ _ (@Qk _ _ _ _ (@qV _ _ _ (@qj _ _ _ _ _ _ _ _ _ (@qz _ _ rfl) () T.qv uz (@qa _ _ _ _ _ (pv 0) (@qa _ _ _ _ _ (@qY _ _ (.ty "tuple") _ _ () T.Qm uY rfl () ()) qe ()) ()) () () () ()) ())) (@yr _ _ _ _ (@qk _ _ _ _ _ _ _ _ xo (@qj _ _ _ _ _ _ _ _ _ QK () T.Qy uv (@qa _ _ _ _ _ (pv 0) qe ()) () () () ()) qh (qu _)))).pt (@qf _ _ _ (@ql _ _ _ _ yP)) qp) (@qf _ _ _ (@ql _ _ _ _ (@qj _ _ _ _ _ _ _ _ _ (@yg _ rfl) () T.z_all boot_all (@qa _ _ _ _ _ (@jk _ _ (["part"]) (1) ([]) _ _ _ _ _ _ _ _ _ (lcs0) rfl (@Ym _ _ _ _ (pv 0)) (fun _ _ _ _ _ _=>(@qN _ _ (0) _ (show List.Nodup (["part"]:List Str) by decide+kernel) rfl (Or.inl rfl) ())) (fun _ _ _ _ _ _=> @QG _) (fun _ _ _ _ _ _=>(@qt _ _ _ _ _ _ _ _ _ _ _ _ _ _ _ _ Q9 (hr.mono ()) () T.g_law_parts_right.m T.g_law_parts_right.F.kp T.g_law_parts_right.b .nil qK (@qa _ _ _ _ _ (pv 0) qe ()) () () ())) ()) qe ()) () () () ()))))),?_⟩
 dsimp only [cxOf,Cx.nox];refine⟨_,rfl,v,"str",tyD d,isStr d,rfl,M.ty,Qv d,_,rfl,?_⟩;cases d with
 |str z=>
  refine iteT ?_;obtain⟨rfl,hz⟩:=M;refine⟨_,rfl,.inl ⟨z,rfl,hz,_,_,rfl,rfl,_,rfl,?_⟩⟩;refine ite2 (fun c=> ?_) (fun c=> ?_)
  ·have Y:(z.length:Int)<=300:=ud c;refine⟨_,rfl,z,rfl,fun Z I=> ?_⟩;refine lc_str (tl:= []) (fun c=> .bl (Qj c)) hz I (fun i c H' R hc sm r=> ?_) fun H' sm hl=> ?_
   ·have e1:(" ":Str).cps.toList= [32]:=by decide+kernel
    have e2:("~":Str).cps.toList= [126]:=by decide+kernel
    have U:("$":Str).cps.toList= [36]:=by decide+kernel
    have e4:("&":Str).cps.toList= [38]:=by decide+kernel
    have f1:(!decide (([c]:List Nat)<(" ":Str).cps.toList))=decide (32<=c):=by rw [e1,zT,<-decide_not,uB];omega
    have f2:(!decide (("~":Str).cps.toList<([c]:List Nat)))=decide (c<=126):=by rw [e2,zT,<-decide_not,uB];omega
    have f3:decide (("$":Str).cps.toList<([c]:List Nat))=decide (36<c):=by rw [U,zT]
    have f4:decide (([c]:List Nat)<("&":Str).cps.toList)=decide (c<38):=by rw [e4,zT]
    refine⟨_,rfl,_,_,rfl,rfl,_,rfl,?_⟩;refine ite2 (fun c1=> ?_) (fun c1=> ?_)
    ·have h1:=ud (f1.symm.trans c1);refine⟨_,_,rfl,rfl,_,rfl,?_⟩;refine ite2 (fun c2=> ?_) (fun c2=> ?_)
     ·have h2:=ud (f2.symm.trans c2);refine⟨_,rfl,_,_,rfl,rfl,_,rfl,?_⟩;refine ite2 (fun c3=> ?_) (fun c3=> ?_)
      ·have h3:=ud (f3.symm.trans c3);refine⟨_,_,rfl,rfl,_,rfl,?_⟩;have e:Qj c= !decide (([c]:List Nat)<("&":Str).cps.toList):=by
        unfold Qj;rw [f4,u7 h1,u7 h2,vp,vp,<-decide_not,uB];omega
       rw [e] at r;exact r
      ·have h3:¬36<c:=fun h=>c3 (f3.trans (u7 h));refine⟨_,rfl,?_⟩;have e:Qj c=true:=by
        unfold Qj;rw [u7 h1,u7 h2,u7 (by omega)]
        rfl
       rw [e] at r;exact r
     ·have h2:¬c<=126:=fun h=>c2 (f2.trans (u7 h));have e:Qj c=false:=by
       unfold Qj;rw [uc h2,Bool.and_false,U0]
      rw [e] at r;exact r
    ·have h1:¬32<=c:=fun h=>c1 (f1.trans (u7 h));have e:Qj c=false:=by
      unfold Qj;rw [uc h1,U0,U0]
     rw [e] at r;exact⟨_,rfl,r⟩
   ·refine⟨Z,z.cps.toList.map Qj,rfl,SqL.of (by rw [hl,uN];rfl),?_⟩
    have e:good (.str z)=(z.cps.toList.map Qj).all id:=by
     show QV z=_;unfold QV;rw [u7 (by omega),vp,vH]
     rfl
    rw [<-e];exact k H' sm
  ·have Y:¬(z.length:Int)<=300:=fun q=>c (u7 q);have:=k H (Same.refl _);rw [show good (.str z)=false from jC (by omega)] at this
   exact this
 |tup xs=>
  refine iteF ⟨_,rfl,v,"tuple",_,true,rfl,M.ty,yl (.tup xs),_,rfl,?_⟩;refine iteF ?_;obtain⟨a0,vs,rfl,L,O⟩:=M;have lv:=O.length;have U:good (.tup xs)=(decide (xs.length<=40)&&goodL xs):=by simp only [good]
  refine⟨_,rfl,.inr ⟨a0,vs,rfl,.inr (SqT.of L),fun aa=>⟨_,_,rfl,rfl,_,rfl,?_⟩⟩⟩;refine ite2 (fun c=> ?_) (fun c=> ?_)
  ·have Y:(40:Int)<vs.length:=ud c;have:=k H (Same.refl _);rw [U,uc (by omega),U0] at this
   exact this
  ·have Y:¬(40:Int)<vs.length:=fun q=>c (u7 q);refine⟨_,rfl,a0,vs,rfl,SqT.of L,fun aa Z I=> ?_⟩;refine Y7 (tl:= []) (fun d=> .bl (good d)) L O (qS (by omega)) I (fun d0 x0 H3 R ab s3 i3 r=> ?_) fun H1 ys s1 l1 i1=> ?_
   ·refine⟨_,rfl,x0,d0,rfl,i3,?_,fun H4 s4=>r _ H4 s4 rfl⟩;have:=dp_row ab;omega
   have ey:ys=(xs.map good).map V.bl:=IsL.bls (by rw [uN];exact i1)
   refine⟨Z,xs.map good,rfl,SqL.of (by rw [l1,ey]),?_⟩
   have:=k H1 s1;rw [U,u7 (by omega),vp,goodL_all] at this
   rw [vH];exact this
 |_=>exact iteF ⟨_,rfl,v,"tuple",_,false,rfl,M.ty,yl _,_,rfl,iteT (k H (Same.refl _))⟩
theorem ok_pr (T:Tx K mg a):∀n:Nat,FnOk P w K mg base CX0 (n+1) a.Qx a.Qw ["value"] (sp_pr n)
 |0=>pr_none
 |n+1=>ok_pr1 T (ok_pr T n)
theorem ok_sz1 (T:Tx K mg a){n:Nat}(JP:FnOk P w K mg base CX0 (n+1) a.Yd a.y9 ["tree"] (sp_sz n)):FnOk P w K mg base CX0 (n+2) a.Yd a.y9 ["tree"] (sp_sz (n+1)):=by
 refine T.g_law_size.F.ok sc_law_size () (fun _ _ _ _ H vs Q E hr h=> ?_)
 obtain⟨v,d,rfl,O,Z,hd,k⟩:=h;refine⟨_,(@qc _ _ _ _ _ (@qH _ _ _ _ _ _ _ _ (@qV _ _ _ (@qj _ _ _ _ _ _ _ _ _ (@qz _ _ rfl) () T.qv uz (@qa _ _ _ _ _ (pv 0) (@qa _ _ _ _ _ (@qY _ _ (.ty "str") _ _ () T.ym vw rfl () ()) qe ()) ()) () () () ()) ()) (@qf _ _ _ (@ql _ _ _ _ (@qO _ _ _ _ _ _ _ _ Qd (@qj _ _ _ _ _ _ _ _ _ QK () T.Qy uv (@qa _ _ _ _ _ (pv 0) qe ()) () () () ()) qh))) qp) (@qf _ _ _ (@ql _ _ _ _ (@qO _ _ _ _ _ _ _ _ Qd qh (@qj _ _ _ _ _ _ _ _ _ (@call_sumL _ rfl) () T.z_sum boot_sum (@qa _ _ _ _ _ (@jk _ _ (["part"]) (1) ([]) _ _ _ _ _ _ _ _ _ (lcs0) rfl (@Ym _ _ _ _ (pv 0)) (fun _ _ _ _ _ _=>(@qN _ _ (0) _ (show List.Nodup (["part"]:List Str) by decide+kernel) rfl (Or.inl rfl) ())) (fun _ _ _ _ _ _=> @QG _) (fun _ _ _ _ _ _=>(@qt _ _ _ _ _ _ _ _ _ _ _ _ _ _ _ _ JP (hr.mono ()) () T.g_law_size.m T.g_law_size.F.kp T.g_law_size.b .nil qK (@qa _ _ _ _ _ (pv 0) qe ()) () () ())) ()) qe ()) () () () ()))))),?_⟩
 refine⟨_,rfl,v,"str",tyD d,isStr d,rfl,O.ty,Qv d,_,rfl,?_⟩;cases d with
 |str z=>
  refine iteT ?_;obtain⟨rfl,hz⟩:=O;refine⟨_,rfl,.inl ⟨z,rfl,hz,_,_,rfl,rfl,?_⟩⟩;have:=k H (Same.refl _);simp only [sz] at this;exact this
 |tup xs=>
  refine iteF ?_;obtain⟨a0,vs,rfl,L,U⟩:=O;have I:=Z;simp only [good,um] at I;have aa:=ud I.1;refine⟨_,rfl,a0,vs,rfl,SqT.of L,fun ab A0 Y=> ?_⟩;refine Y7 (tl:= []) (fun d=> .int (sz d:Int)) L U (qS (by omega)) Y (fun d0 x0 H3 R M s3 i3 r=> ?_) fun H1 ys s1 l1 i1=> ?_
  ·refine⟨_,rfl,x0,d0,rfl,i3,Jt I.2 M,?_,fun H4 s4=>r _ H4 s4 rfl⟩;have:=dp_row M;omega
  have ey:ys=(xs.map fun d=>(sz d:Int)).map V.int:=IsL.ints (by rw [uN];exact i1)
  refine⟨A0,xs.map fun d=>(sz d:Int),rfl,SqL.of (by rw [l1,ey]),_,_,rfl,rfl,?_⟩
  have:=k H1 s1;have es:∀l:List D,(l.map fun d=>(sz d:Int)).sum=(szL l:Int):=by
   intro l
   induction l with
   |nil=>rfl
   |cons x r ih=>simp only [uk,vq,ih,szL];omega
  rw [es];simp only [sz] at this;show Q (.int ((1:Int)+(szL xs:Int))) H1;rw [show(1:Int)+(szL xs:Int)=((1+szL xs:Nat):Int) by omega]
  exact this
 |_=>simp [good] at Z
theorem ok_sz (T:Tx K mg a):∀n:Nat,FnOk P w K mg base CX0 (n+1) a.Yd a.y9 ["tree"] (sp_sz n)
 |0=>sz_none
 |n+1=>ok_sz1 T (ok_sz T n)
theorem ok_dp1 (T:Tx K mg a){n:Nat}(jy:FnOk P w K mg base CX0 (n+1) a.yF a.yK ["tree"] (sp_dp n)):FnOk P w K mg base CX0 (n+2) a.yF a.yK ["tree"] (sp_dp (n+1)):=by
 refine T.g_law_depth.F.ok sc_law_depth () (fun _ _ _ _ H vs Q E hr h=> ?_)
 obtain⟨v,d,rfl,hv,hg,hd,k⟩:=h;refine⟨_,(@qc _ _ _ _ _ (@qH _ _ _ _ _ _ _ _ (@y0 _ _ _ _ _ _ _ (@qV _ _ _ (@qj _ _ _ _ _ _ _ _ _ (@qz _ _ rfl) () T.qv uz (@qa _ _ _ _ _ (pv 0) (@qa _ _ _ _ _ (@qY _ _ (.ty "str") _ _ () T.ym vw rfl () ()) qe ()) ()) () () () ()) ()) (@yr _ _ _ _ (@qk _ _ _ _ _ _ _ _ (@op_eqNil _ hr.units0) (pv 0) (@qD _ _ _ _ _ qe) (qu _)))).pt (@qf _ _ _ (@ql _ _ _ _ qh)) qp) (@qf _ _ _ (@ql _ _ _ _ (@qO _ _ _ _ _ _ _ _ Qd qh (@qj _ _ _ _ _ _ _ _ _ (@call_maxL _ rfl) () T.z_max boot_max (@qa _ _ _ _ _ (@jk _ _ (["part"]) (1) ([]) _ _ _ _ _ _ _ _ _ (lcs0) rfl (@Ym _ _ _ _ (pv 0)) (fun _ _ _ _ _ _=>(@qN _ _ (0) _ (show List.Nodup (["part"]:List Str) by decide+kernel) rfl (Or.inl rfl) ())) (fun _ _ _ _ _ _=> @QG _) (fun _ _ _ _ _ _=>(@qt _ _ _ _ _ _ _ _ _ _ _ _ _ _ _ _ jy (hr.mono ()) () T.g_law_depth.m T.g_law_depth.F.kp T.g_law_depth.b .nil qK (@qa _ _ _ _ _ (pv 0) qe ()) () () ())) ()) qe ()) () () () ()))))),?_⟩
 refine⟨_,rfl,v,"str",tyD d,isStr d,rfl,hv.ty,Qv d,_,rfl,?_⟩;cases d with
 |str z=>exact iteT (k H (Same.refl _))
 |tup xs=>
  refine iteF ?_;obtain⟨a0,vs,rfl,I,L⟩:=hv;have O:=hg;simp only [good,um] at O;have af:=ud O.1;have lv:=L.length;refine⟨_,rfl,(by show 0<=sizeLine;decide),fun l hl=>⟨a0,l,vs,rfl,rfl,SqT.of (qb hl _ _ _ I),SqT.of qg,_,rfl,?_⟩⟩
  have Y:Same H (upd H l (.tup [])):=qb hl _;cases xs with
  |nil=>
   cases(show vs= [] from L)
   exact iteT (k _ Y)
  |cons U Z=>
   have ac:vs.isEmpty=false:=by cases vs with|nil=>simp at lv|cons _ _=>rfl
   refine qo ac ?_;refine⟨_,rfl,a0,vs,rfl,SqT.of (Y _ _ I),fun ag A0 ad=> ?_⟩;refine Y7 (tl:= []) (fun d=> .int (dp d:Int)) (Y _ _ I) (L.mono Y.tk) (qS (by omega)) ad (fun d0 U H3 R aa s3 i3 r=> ?_) fun H1 ys s1 l1 i1=> ?_
   ·refine⟨_,rfl,U,d0,rfl,i3,Jt O.2 aa,?_,fun H4 s4=>r _ H4 s4 rfl⟩;have:=dp_row aa;omega
   have ey:ys=((U::Z).map fun d=>(dp d:Int)).map V.int:=IsL.ints (by rw [uN];exact i1)
   refine⟨A0,(U::Z).map fun d=>(dp d:Int),rfl,SqL.of (by rw [l1,ey]),by simp,fun M hM ab=>⟨_,_,rfl,rfl,?_⟩⟩
   obtain⟨dM,ae,rfl⟩:=List.mem_map.mp hM;have eM:dpL (U::Z)=dp dM:=by
    apply Nat.le_antisymm
    ·refine(Yz _).mpr fun y hy=> ?_;have:=ab _ (List.mem_map.mpr ⟨y,hy,rfl⟩);omega
    ·exact(Yz _).mp (ui _) dM ae
   have:=k H1 (Y.trans s1);rw [show dp (.tup (U::Z))=1+dpL (U::Z) by simp only [dp],eM] at this
   show Q (.int ((1:Int)+(dp dM:Int))) H1;rw [show(1:Int)+(dp dM:Int)=((1+dp dM:Nat):Int) by omega]
   exact this
 |_=>simp [good] at hg
theorem ok_dp (T:Tx K mg a):∀n:Nat,FnOk P w K mg base CX0 (n+1) a.yF a.yK ["tree"] (sp_dp n)
 |0=>dp_none
 |n+1=>ok_dp1 T (ok_dp T n)
theorem ok_lt (T:Tx K mg a):FnOk P w K mg base CX0 23 a.Jb a.Jp ["value"] sp_lt:=by
 have U:FnOk P w K mg base CX0 22 a.Qx a.Qw ["value"] (sp_pr 21):=ok_pr T 21;have Y:FnOk P w K mg base CX0 22 a.Yd a.y9 ["tree"] (sp_sz 21):=ok_sz T 21;have Z:FnOk P w K mg base CX0 22 a.yF a.yK ["tree"] (sp_dp 21):=ok_dp T 21;refine T.g_law_is_tree.F.ok XZ () (fun _ _ _ _ H _ Q E L h=> ?_)
 obtain⟨v,d,rfl,M,hd,k⟩:=h;refine⟨_,(@qf _ _ _ (@ql _ _ _ _ (@xf _ _ _ _ _ _ _ (@qt _ _ _ _ _ _ _ _ _ _ _ _ _ _ _ _ U (L.mono ()) () T.g_law_parts_right.m T.g_law_parts_right.F.kp T.g_law_parts_right.b .nil qK (@qa _ _ _ _ _ (pv 0) qe ()) () () ()) (@xf _ _ _ _ _ _ _ (@Qs _ _ _ _ _ _ _ _ zX (@qt _ _ _ _ _ _ _ _ _ _ _ _ _ _ _ _ Y (L.mono ()) () T.g_law_size.m T.g_law_size.F.kp T.g_law_size.b .nil qK (@qa _ _ _ _ _ (pv 0) qe ()) () () ()) qh (qu _)) (@jm _ _ _ _ _ (@Qs _ _ _ _ _ _ _ _ zX (@qt _ _ _ _ _ _ _ _ _ _ _ _ _ _ _ _ Z (L.mono ()) () T.g_law_depth.m T.g_law_depth.F.kp T.g_law_depth.b .nil qK (@qa _ _ _ _ _ (pv 0) qe ()) () () ()) qh (qu _))))))),?_⟩
 unfold isT at k;refine⟨_,rfl,v,d,rfl,M,by omega,fun H1 s1=>⟨_,rfl,?_⟩⟩
 cases I:good d with
 |false=>
  have:=k H1 s1;rw [I] at this;exact iteF this
 |true=>
  refine iteT ⟨_,rfl,v,d,rfl,M.mono s1.tk,I,by omega,fun H2 s2=>⟨_,_,rfl,rfl,_,rfl,?_⟩⟩
  refine ite2 (fun c=> ?_) (fun c=> ?_)
  ·have O:sz d<=600:=by have:=ud c;omega
   refine⟨_,rfl,v,d,rfl,M.mono (s1.trans s2).tk,I,by omega,fun R s3=>⟨_,_,rfl,rfl,?_⟩⟩
   have:=k R (s1.trans (s2.trans s3));rw [I,u7 O,vp,vp] at this;show Q (.bl (decide ((dp d:Int)<=12))) R;rw [show decide ((dp d:Int)<=12)=decide (dp d<=12) by rw [uB];omega]
   exact this
  ·have O:¬sz d<=600:=fun q=>c (u7 (by omega))
   have:=k H2 (s1.trans s2);rw [I,uc O,vp,U0] at this;exact this
def wds (r:Rw):List Str:=spl ((qB r).length+1) (qB r)
theorem Q7 {n m:Nat}{r:Rw}{ks:List Kd}(hn:n<=40)(I:(r.1,ks)∈FRM)(L:yY n m ks r.2)(M:Kd.words∉ks):wds r=txs r:=by
 have:=line_spl hn I L;rw [if_neg M] at this;exact this
theorem spl_cons {p:Str}(I:Free p)(n:Nat)(y:Str)(r:List Str):spl (n+1) (Str.join " " (p::y::r))=p::spl n (Str.join " " (y::r)):=by
 unfold spl;rw [L2.yB,ZJ I,uk,QO]
theorem xq {x y:Str}(L:x∈BX):∃tl,wds ("text",[.s x,.s y])=("text":Str)::x::tl/\tl≠ []:=by
 have M:=xw (txs ("text",[.s x,.s y])) (by simp [txs])
 have e:qB ("text",[.s x,.s y])=Str.join " " ["text",x,y]:=rfl;have O:Free ("text":Str):=ud (Zg ("text",[.box,.words]) (by decide+kernel)).1
 have I:=(Qr L).2.1;have R:2<=(qB ("text",[.s x,.s y])).length+1:=by
  simp only [txs,uk,vi,uh,uW,vq,UA] at M;have:(qB ("text",[.s x,.s y])).length=(Str.join " " (txs ("text",[.s x,.s y]))).length:=rfl;simp only [txs,uk,vi] at this;rw [this];omega
 obtain⟨n,hn⟩:∃n,(qB ("text",[.s x,.s y])).length+1=n+1+1:=⟨(qB ("text",[.s x,.s y])).length-1,by omega⟩
 unfold wds;rw [hn,e,spl_cons O,spl_cons I];refine⟨_,rfl,?_⟩;unfold spl;obtain⟨p,q,U⟩:=JS 32 n (Str.join " " [y]).cps.toList;rw [U];simp
def WdAt (H:Hp)(p:Addr)(r:Rw):Prop:=H p=some (.lst ((wds r).map V.str))
theorem QN {K:PySem.W.Frag}{H:Hp}{p:Addr}{r:Rw}{i:Nat}{z:Str}{Q:VK}(h:WdAt H p r)(e:(wds r)[i]? =some z)(q:Q (.str z) H):rIxL K (.ref p) (.int (i:Int)) H Q:=
 ⟨p,_,_,_,rfl,rfl,SqL.of h,qQ (by rw [uI,e];rfl),q⟩
theorem wds0 {n m:Nat}{r:Rw}(hn:n<=40)(h:QD n m r):(wds r)[0]? =some r.1:=by
 obtain⟨ks,I,L⟩:=id h;by_cases M:Kd.words∈ks
 ·rcases ZA _ I with e|e
  ·simp at e;exact absurd M e
  ·have R:ks= [.box,.words]:=congrArg Prod.snd e;have O:r.1="text":=congrArg Prod.fst e;subst R;obtain⟨Z,ps⟩:=r;simp only at O;subst O;obtain⟨x,y,rfl,U,_⟩:=sh_bw L;obtain⟨tl,Y,_⟩:=xq (y:=y) U;rw [Y]
   rfl
 ·rw [Q7 hn I L M]
  rfl
def sp_lname:Sp:=fun vs H Q _=>∃v d,vs= [v]/\Is H d v/\∀H',Same H H'->Q (.bl (isNm d)) H'
def sp_said:Sp:=fun vs H Q _=>∃(d p:Addr) (B:Str->D) (r:Rw) (n:Nat),vs= [.ref d,.ref p]/\n<=40/\QH H d B/\WdAt H p r/\QD n 125 r/\(r.1="say"∨r.1="fault")/\
 ∀(v:V) (H':Hp),Same H H'->Is H' (if r.1="say" then .tup [.str "said",B (b0 r.2)] else flt "told") v->Q v H'
noncomputable def askL (w:Str)(held:D):D:=if w="names" then(if isStr held=true then .tup [.str "names",held] else .str "kind") else if isNm held=true then .tup [.str (if w="ask" then "thing" else "has"),held] else .str "name"
def sp_lask:Sp:=fun vs H Q _=>∃(d p:Addr) (B:Str->D) (r:Rw) (n:Nat),vs= [.ref d,.ref p]/\n<=40/\QH H d B/\WdAt H p r/\QD n 125 r/\r.1∈ASK/\
 ∀(v:V) (H':Hp),Same H H'->Is H' (askL r.1 (B (b1 r.2))) v->Q v H'
def sp_next:Sp:=fun vs H Q _=>∃(d p:Addr) (B:Str->D) (r:Rw) (n:Nat) (at':Int),vs= [.ref d,.ref p,.int at']/\n<=40/\QH H d B/\Tr B/\WdAt H p r/\QD n 125 r/\r.1∈JMP/\
 ∀H',Same H H'->Q (.int (if jump r.1 B r.2=true then jv r.2-1 else at'+1)) H'
theorem num_nobox:∀k:Fin 41,(toString ((k.val:Nat):Int):Str)∉BX:=by decide+kernel
theorem num_no {i:Int}(h1:1<=i)(h2:i<=40):(toString i:Str)∉BX:=by
 obtain⟨k,rfl⟩:∃k:Fin 41,i=((k.val:Nat):Int):=⟨⟨i.toNat,by omega⟩,by simp;omega⟩
 exact num_nobox k
theorem ok_lname (T:Tx K mg a):FnOk P w K mg base CX0 1 a.Jv a.Jg ["value"] sp_lname:=by
 refine T.g_law_is_name.F.ok XS () (fun _ _ _ _ H _ Q E hr h=> ?_)
 obtain⟨x,d,rfl,Z,k⟩:=h;refine⟨_,(@qc _ _ _ _ _ (@qH _ _ _ _ _ _ _ _ (@y0 _ _ _ _ _ _ _ (@Qk _ _ _ _ (@qV _ _ _ (@qj _ _ _ _ _ _ _ _ _ (@qz _ _ rfl) () T.qv uz (@qa _ _ _ _ _ (pv 0) (@qa _ _ _ _ _ (@qY _ _ (.ty "str") _ _ () T.ym vw rfl () ()) qe ()) ()) () () () ()) ())) (@y0 _ _ _ _ _ _ _ (@qk _ _ _ _ _ _ _ _ Qh (pv 0) qi (qu _)) (@y0 _ _ _ _ _ _ _ (@qk _ _ _ _ _ _ _ _ xo (@qj _ _ _ _ _ _ _ _ _ YU () T.Qy uv (@qa _ _ _ _ _ (pv 0) qe ()) () () () ()) qh (qu _)) (@yr _ _ _ _ (@qk _ _ _ _ _ _ _ _ J8 (@qG _ _ _ _ _ _ _ ix_str (pv 0) qh (fun _ _=>rfl)) qi (by with_unfolding_all rfl)))))).pt (@qf _ _ _ (@ql _ _ _ _ yP)) qp) (@qf _ _ _ (@ql _ _ _ _ (@qj _ _ _ _ _ _ _ _ _ (@yg _ rfl) () T.z_all boot_all (@qa _ _ _ _ _ (@jk _ _ (["sign"]) (1) ([]) _ _ _ _ _ _ _ _ _ (lcs0) rfl (@pi_str _ _ _ _ (pv 0)) (fun _ _ _ _ _ _=>(@qN _ _ (0) _ (show List.Nodup (["sign"]:List Str) by decide+kernel) rfl (Or.inl rfl) ())) (fun _ _ _ _ _ _=> @QG _) (fun _ _ _ _ _ _=>(@Qs _ _ _ _ _ _ _ _ op_in_str (pv 0) qi (by with_unfolding_all rfl))) ()) qe ()) () () () ())))),?_⟩
 refine⟨_,rfl,x,"str",tyD d,isStr d,rfl,Z.ty,Qv d,_,rfl,?_⟩;cases hd:isStr d with
 |false=>
  refine iteT ?_;have:=k H (Same.refl H);have e:isNm d=false:=by cases d<;>first|rfl|simp [isStr] at hd
  rw [e] at this;exact this
 |true=>
  obtain⟨z,rfl⟩:∃z,d= .str z:=by cases d<;>simp [isStr] at hd;exact⟨_,rfl⟩
  obtain⟨rfl,L⟩:=Z;have k:∀H',Same H H'->Q (.bl (nm z)) H':=k;have stop:nm z=false->Q (.bl false) H:=fun e=>by
   have:=k H (Same.refl H);rw [e] at this;exact this
  refine iteF ⟨_,rfl,rfl,_,rfl,?_⟩;refine ite2 (fun M=> ?_) (fun M=> ?_)
  ·have e:z="":=by have:=ud M;injection this
   subst e;exact stop (by decide+kernel)
  ·have O:1<=(z.length:Int):=by
    rcases vZ z.length with h|h
    ·exfalso;refine M (u7 ?_);have h4:z.cps= #[]:=vI h;cases z;simp only at h4;subst h4
     decide+kernel
    ·omega
   refine⟨_,rfl,z,rfl,L,_,_,rfl,rfl,_,rfl,?_⟩;refine ite2 (fun U=> ?_) (fun U=> ?_)
   ·have I:(24:Int)<z.length:=ud U;exact stop (nm_len fun q=>by omega)
   ·have I:(z.length:Int)<=24:=by
     rcases Int.lt_or_le (24:Int) z.length with h|h
     ·exact absurd (u7 h) U
     ·exact h
    refine⟨_,rfl,_,_,_,rfl,rfl,L,xu (by omega),_,_,rfl,rfl,_,rfl,?_⟩
    cases e:inS ⟨#[z.cps.getD 0 0]⟩ LET with
    |false=>
     have Y:(!(Builtin.Str.occurrences ("abcdefghijklmnopqrstuvwxyz":Str) ⟨#[z.cps.getD 0 0]⟩ 0 ("abcdefghijklmnopqrstuvwxyz":Str).length 1).isEmpty)=false:=e;rw [Y];refine iteT ?_;exact stop (nm_first e)
    |true=>
     have Y:(!(Builtin.Str.occurrences ("abcdefghijklmnopqrstuvwxyz":Str) ⟨#[z.cps.getD 0 0]⟩ 0 ("abcdefghijklmnopqrstuvwxyz":Str).length 1).isEmpty)=true:=e;rw [Y];refine iteF ?_;refine⟨_,rfl,z,rfl,fun D hD=> ?_⟩;refine lc_str (fun c=> .bl (inS ⟨#[c]⟩ NSG)) (L) hD (fun i c H' R hc sm r=>⟨_,rfl,_,_,rfl,rfl,r⟩) fun H' sm hl=> ?_;refine⟨D,z.cps.toList.map fun c=>inS ⟨#[c]⟩ NSG,rfl,SqL.of (by rw [hl,allMap]),?_⟩
     have:=k H' sm;rw [nm_rest O I e] at this;exact this
theorem ok_said (T:Tx K mg a):FnOk P w K mg base CX0 1 a.X8 a.zm ["boxes","words"] sp_said:=by
 refine T.g_law_said.F.ok sc_law_said () (fun _ _ _ _ H _ Q E hr h=> ?_)
 obtain⟨d,p,B,⟨r1,ps⟩,n,rfl,hn,hB,O,I,R,k⟩:=h;refine⟨_,(@qc _ _ _ _ _ (@qH _ _ _ _ _ _ _ _ (@qk _ _ _ _ _ _ _ _ Qh (@qG _ _ _ _ _ _ _ qP (pv 1) qh (fun _ _=>rfl)) qi (qu _)) (@qf _ _ _ (@ql _ _ _ _ (@qD _ _ _ _ _ (@qa _ _ _ _ _ qi (@qa _ _ _ _ _ qi qe ()) ())))) qp) (@qf _ _ _ (@ql _ _ _ _ (@qD _ _ _ _ _ (@qa _ _ _ _ _ qi (@qa _ _ _ _ _ (@Qi _ _ _ _ _ _ (QU hr) (pv 0) (@qG _ _ _ _ _ _ _ qP (pv 1) qh (fun _ _=>rfl)) (fun _ _=>rfl)) qe ()) ()))))),?_⟩
 have two:(2:Nat)<=sizeLine:=by decide
 refine⟨_,rfl,?_⟩;dsimp only [tC];refine QN (i:=0) O (wds0 hn I) ⟨rfl,_,rfl,?_⟩;simp only at R;rcases R with rfl|rfl
 ·refine qo (uc fun h=>absurd (show("say":Str)="fault" from V.str.inj h) (by decide+kernel)) ?_
  obtain⟨ks,U,Y⟩:=id I;have Z:=frm_say _ U rfl;simp only at Z;subst Z;obtain⟨M,rfl,h0⟩:=sh_b Y;refine⟨_,rfl,_,rfl,?_⟩;dsimp only [tC];have ew:(wds ("say",[.s M]))[1]? =some M:=by rw [Q7 hn U Y (by decide)];rfl
  obtain⟨v,gv,iv⟩:=hB.get h0;refine QN (i:=1) O ew ⟨d,v,rfl,gv,two,fun l L=> ?_⟩;exact k _ _ (qb L _) (Is.new (ds:= [.str "said",B M]) ⟨_,_,rfl,⟨rfl,qS (by decide)⟩,_,_,rfl,iv,rfl⟩ L)
 ·refine qC (u7 rfl) ⟨two,fun l L=> ?_⟩;exact k _ _ (qb L _) (Is.new (ds:= [.str "fault",.str "told"]) ⟨_,_,rfl,⟨rfl,qS (by decide)⟩,_,_,rfl,⟨rfl,qS (by decide)⟩,rfl⟩ L)
theorem ok_lask (T:Tx K mg a):FnOk P w K mg base CX0 2 a.f_law_ask a.d_law_ask ["boxes","words"] sp_lask:=by
 have Yr:=ok_lname (P:=P) (w:=w) (base:=base) T;refine T.g_law_ask.F.ok X3 () (fun _ _ _ _ H _ Q E hr h=> ?_)
 obtain⟨d,p,B,⟨I,ps⟩,n,rfl,hn,hB,R,M,hs,k⟩:=h;refine⟨_,(@qc _ _ _ _ _ (@qx _ _ (2) _ _ _ _ X3.nd rfl (Or.inl rfl) (@Qi _ _ _ _ _ _ (QU hr) (pv 0) (@qG _ _ _ _ _ _ _ qP (pv 1) qh (fun _ _=>rfl)) (fun _ _=>rfl)) () ()) (@qc _ _ _ _ _ (@qH _ _ _ _ _ _ _ _ (@jo _ _ _ _ _ _ _ (@qk _ _ _ _ _ _ _ _ Qh (@qG _ _ _ _ _ _ _ qP (pv 1) qh (fun _ _=>rfl)) qi (qu _)) (@Yl _ _ _ _ (@Qk _ _ _ _ (@qV _ _ _ (@qj _ _ _ _ _ _ _ _ _ (@qz _ _ rfl) () T.qv uz (@qa _ _ _ _ _ (pv 2) (@qa _ _ _ _ _ (@qY _ _ (.ty "str") _ _ () T.ym vw rfl () ()) qe ()) ()) () () () ()) ())))).pt (@qf _ _ _ (@ql _ _ _ _ qi)) qp) (@qc _ _ _ _ _ (@qH _ _ _ _ _ _ _ _ (@jo _ _ _ _ _ _ _ (@qk _ _ _ _ _ _ _ _ op_ne (@qG _ _ _ _ _ _ _ qP (pv 1) qh (fun _ _=>rfl)) qi (qu _)) (@Yl _ _ _ _ (@Qk _ _ _ _ (@qV _ _ _ (@qt _ _ _ _ _ _ _ _ _ _ _ _ _ _ _ _ Yr (hr.mono ()) () T.g_law_is_name.m T.g_law_is_name.F.kp T.g_law_is_name.b .nil qK (@qa _ _ _ _ _ (pv 2) qe ()) () () ()) ())))).pt (@qf _ _ _ (@ql _ _ _ _ qi)) qp) (@qf _ _ _ (@ql _ _ _ _ (@qD _ _ _ _ _ (@qa _ _ _ _ _ (@Qi _ _ _ _ _ _ (QU hr) (@pe_disp _ _ _ _ _ (@Yi _ _ _ _ _ _ _ _ _ qi qi (@Yi _ _ _ _ _ _ _ _ _ qi qi (@Yi _ _ _ _ _ _ _ _ _ qi qi pps_nil))) rfl rfl (by simp) (by decide)) (@qG _ _ _ _ _ _ _ qP (pv 1) qh (fun _ _=>rfl)) (fun _ _=>rfl)) (@qa _ _ _ _ _ (pv 2) qe ()) ()))))))),?_⟩
 dsimp only [cxOf,Cx.nox];have two:(2:Nat)<=sizeLine:=by decide
 simp only at hs k;obtain⟨ks,hk,hp⟩:=id M;obtain⟨_,_,ek⟩:=JF _ hk hs;simp only at ek;subst ek;obtain⟨z0,L,rfl,h0,h1⟩:=yZ hp;have ew:wds (I,[.s z0,.s L])= [I,z0,L]:=Q7 hn hk hp (by decide)
 obtain⟨v,gv,iv⟩:=hB.get h1;have k':∀(v:V) (H':Hp),Same H H'->Is H' (askL I (B L)) v->Q v H':=k;refine⟨_,rfl,_,rfl,?_⟩;dsimp only [tC];refine QN (i:=2) R (by rw [ew];rfl) ⟨d,v,rfl,gv,?_⟩
 have U:∀(H1:Hp),Same H H1->askL I (B L)= .tup [.str (if I="names" then "names" else if I="ask" then "thing" else "has"),B L]->∀q,H1 q=none->∃z:Str,valV (YO [] [((Sum.inr "ask":Key),V.str "thing"),(Sum.inr "has",V.str "has"),(Sum.inr "names",V.str "names")]) (Sum.inr I)=some (.str z)/\∀l,(upd (upd H1 q (.dK [])) q (.dK (YO [] [((Sum.inr "ask":Key),V.str "thing"),(Sum.inr "has",V.str "has"),(Sum.inr "names",V.str "names")]))) l=none->Q (.ref l) (upd (upd (upd H1 q (.dK [])) q (.dK (YO [] [((Sum.inr "ask":Key),V.str "thing"),(Sum.inr "has",V.str "has"),(Sum.inr "names",V.str "names")]))) l (.tup [.str z,v])):=by
  intro H1 s1 e q Y;have s2:Same H (upd (upd H1 q (.dK [])) q (.dK (YO [] [((Sum.inr "ask":Key),V.str "thing"),(Sum.inr "has",V.str "has"),(Sum.inr "names",V.str "names")]))):=fun b o h=>by
   have h1:=s1 b o h;have nb:b≠q:=qr h1 Y;rw [qy nb,qy nb];exact h1
  refine⟨if I="names" then "names" else if I="ask" then "thing" else "has",?_,fun l Z=> ?_⟩
  ·simp only [ASK,uA,v7,v9] at hs;rcases hs with rfl|rfl|rfl
   ·rfl
   ·rfl
   ·rfl
  ·refine k' _ _ (s2.trans (qb Z _)) ?_;rw [e];exact Is.new (ds:= [.str (if I="names" then "names" else if I="ask" then "thing" else "has"),B L]) ⟨_,_,rfl,⟨rfl,qS (by split<;>first|decide|(split<;>decide))⟩,_,_,rfl,iv.mono s2.tk,rfl⟩ Z
 have es:∀y:Str,decide (V.str I=V.str y)=decide (I=y):=fun y=>by
  rw [uB];exact⟨fun h=>by injection h,fun h=>by rw [h]⟩
 show∃_,_;refine⟨_,rfl,?_⟩;dsimp only [tC];refine QN (i:=0) R (wds0 hn M) ⟨rfl,_,rfl,?_⟩;by_cases c:I="names"
 ·refine qC (by rw [es];exact u7 c) ⟨_,rfl,v,"str",tyD (B L),isStr (B L),rfl,iv.ty,Qv _,_,rfl,?_⟩
  cases O:isStr (B L) with
  |false=>exact iteT (k' _ H (Same.refl _) (by unfold askL;rw [if_pos c,O];exact⟨rfl,qS (by decide)⟩))
  |true=>
   refine iteF ?_;refine⟨_,rfl,?_⟩;dsimp only [tC];refine QN (i:=0) R (wds0 hn M) ⟨rfl,_,rfl,?_⟩;refine qo (by rw [es];rw [u7 c];rfl) ?_
   have EE:askL I (B L)= .tup [.str (if I="names" then "names" else if I="ask" then "thing" else "has"),B L]:=by unfold askL;rw [if_pos c,O,if_pos c];rfl
   refine fun q Y=>⟨qg,[((Sum.inr "ask":Key),V.str "thing"),(Sum.inr "has",V.str "has"),(Sum.inr "names",V.str "names")],rfl,by decide,_,rfl,?_⟩
   dsimp only [tC];obtain⟨z,ez,fz⟩:=U H (Same.refl H) EE q Y;have nb:p≠q:=qr ((Same.refl H) _ _ R) Y;refine QN (i:=0) (r:=(I,[.s z0,.s L])) (by unfold WdAt;rw [qy nb,qy nb];exact(Same.refl H) _ _ R) (wds0 hn M) ⟨q,.str z,rfl,?_,_,rfl,two,fun l Z=>fz l Z⟩
   have dg:=DGet.k (a:=q) (k:=(Sum.inr I:Key)) (H:=upd (upd H q (.dK [])) q (.dK (YO [] [((Sum.inr "ask":Key),V.str "thing"),(Sum.inr "has",V.str "has"),(Sum.inr "names",V.str "names")]))) qg;rw [ez] at dg;exact dg
 ·refine qo (by rw [es];exact uc c) ?_
  refine⟨_,rfl,?_⟩;dsimp only [tC];refine QN (i:=0) R (wds0 hn M) ⟨rfl,_,rfl,?_⟩;refine qC (by rw [es];rw [uc c];rfl) ⟨_,rfl,v,B L,rfl,iv,fun H1 s1=>⟨_,rfl,?_⟩⟩
  cases O:isNm (B L) with
  |false=>exact iteT (k' _ H1 s1 (by unfold askL;rw [if_neg c,O];exact⟨rfl,qS (by decide)⟩))
  |true=>
   refine iteF ?_;have EE:askL I (B L)= .tup [.str (if I="names" then "names" else if I="ask" then "thing" else "has"),B L]:=by unfold askL;rw [if_neg c,O,if_neg c];rfl
   refine fun q Y=>⟨qg,[((Sum.inr "ask":Key),V.str "thing"),(Sum.inr "has",V.str "has"),(Sum.inr "names",V.str "names")],rfl,by decide,_,rfl,?_⟩
   dsimp only [tC];obtain⟨z,ez,fz⟩:=U H1 s1 EE q Y;have nb:p≠q:=qr (s1 _ _ R) Y;refine QN (i:=0) (r:=(I,[.s z0,.s L])) (by unfold WdAt;rw [qy nb,qy nb];exact s1 _ _ R) (wds0 hn M) ⟨q,.str z,rfl,?_,_,rfl,two,fun l Z=>fz l Z⟩
   have dg:=DGet.k (a:=q) (k:=(Sum.inr I:Key)) (H:=upd (upd H1 q (.dK [])) q (.dK (YO [] [((Sum.inr "ask":Key),V.str "thing"),(Sum.inr "has",V.str "has"),(Sum.inr "names",V.str "names")]))) qg;rw [ez] at dg;exact dg
theorem frm_jks:∀x∈FRM,x.1∈JMP->x=(("go":Str),[Kd.line])∨x=(("like":Str),[Kd.box,.box,.line])∨x=(("rowed":Str),[Kd.box,.line])∨x=(("none":Str),[Kd.box,.line]):=by decide+kernel
theorem tvl {K:PySem.W.Frag}{H:Hp}{p:Addr}{r:Rw}{n m:Nat}{σ:L2.St}{y:Str}{k:VK}(L:σ[1]? =some (some (.ref p)))(M:WdAt H p r)(hn:n<=40)(I:QD n m r)(q:k (.bl (decide (r.1=y))) H):tOp rEq (tOp (rIxL K) (tVar 1) (tC (.int 0))) (tC (.str y)) σ H k:=by
 refine⟨_,L,?_⟩;dsimp only [tC];refine QN (i:=0) M (wds0 hn I) ⟨rfl,?_⟩;rw [show decide (V.str r.1=V.str y)=decide (r.1=y) by rw [uB];exact⟨fun h=>by injection h,fun h=>by rw [h]⟩]
 exact q
theorem tst {K:PySem.W.Frag}{H:Hp}{p:Addr}{r:Rw}{n m:Nat}{σ:L2.St}{y:Str}{k:Bool->Hp->Prop}(L:σ[1]? =some (some (.ref p)))(M:WdAt H p r)(hn:n<=40)(I:QD n m r)(q:k (decide (r.1=y)) H):tTest (tOp rEq (tOp (rIxL K) (tVar 1) (tC (.int 0))) (tC (.str y))) σ H k:=
 tvl L M hn I ⟨_,rfl,q⟩
theorem ok_next (T:Tx K mg a):FnOk P w K mg base CX0 1 a.X9 a.zE ["boxes","words","at"] sp_next:=by
 refine T.g_law_next.F.ok Q5 () (fun _ _ _ _ H _ Q E hr h=> ?_)
 obtain⟨d,p,B,⟨R,ps⟩,n,at',rfl,hn,hB,hT,L,I,hs,k⟩:=h;refine⟨_,(@qc _ _ _ _ _ (@qx _ _ (3) _ _ _ _ Q5.nd rfl (Or.inl rfl) (@Zs _ _ _ _ _ _ _ _ _ (QU hr) (pv 0) (@qG _ _ _ _ _ _ _ qP (pv 1) qh (fun _ _=>rfl)) qi ⟨rfl,rfl,rfl,rfl⟩) () ()) (@qc _ _ _ _ _ (@qx _ _ (4) _ _ _ _ Q5.nd rfl (Or.inl rfl) (@Qs _ _ _ _ _ _ _ _ Qh (@qG _ _ _ _ _ _ _ qP (pv 1) qh (fun _ _=>rfl)) qi (qu _)) () ()) (@qc _ _ _ _ _ (@qH _ _ _ _ _ _ _ _ (@qk _ _ _ _ _ _ _ _ Qh (@qG _ _ _ _ _ _ _ qP (pv 1) qh (fun _ _=>rfl)) qi (qu _)) (@qf _ _ _ (@qx _ _ (4) _ _ _ _ Q5.nd rfl (Or.inl rfl) (@Qs _ _ _ _ _ _ _ _ (@op_eqD _ hr.units) (pv 3) (@Qi _ _ _ _ _ _ (QU hr) (pv 0) (@qG _ _ _ _ _ _ _ qP (pv 1) qh (fun _ _=>rfl)) (fun _ _=>rfl)) (qu _)) () ())) qp) (@qc _ _ _ _ _ (@qH _ _ _ _ _ _ _ _ (@qk _ _ _ _ _ _ _ _ Qh (@qG _ _ _ _ _ _ _ qP (pv 1) qh (fun _ _=>rfl)) qi (qu _)) (@qf _ _ _ (@qx _ _ (4) _ _ _ _ Q5.nd rfl (Or.inl rfl) (@qj _ _ _ _ _ _ _ _ _ (@qz _ _ rfl) () T.qv uz (@qa _ _ _ _ _ (pv 3) (@qa _ _ _ _ _ (@qY _ _ (.ty "tuple") _ _ () T.Qm uY rfl () ()) qe ()) ()) () () () ()) () ())) qp) (@qc _ _ _ _ _ (@qH _ _ _ _ _ _ _ _ (@qk _ _ _ _ _ _ _ _ Qh (@qG _ _ _ _ _ _ _ qP (pv 1) qh (fun _ _=>rfl)) qi (qu _)) (@qf _ _ _ (@qx _ _ (4) _ _ _ _ Q5.nd rfl (Or.inl rfl) (@pe_or _ _ _ _ _ _ _ (@Qs _ _ _ _ _ _ _ _ (@op_eqM _ hr.units) (pv 3) qi (qu _)) (@jm _ _ _ _ _ (@Qs _ _ _ _ _ _ _ _ (@op_eqD _ hr.units) (pv 3) (@qD _ _ _ _ _ qe) (qu _)))) () ())) qp) (@qc _ _ _ _ _ (@qH _ _ _ _ _ _ _ _ (@qV _ _ _ (pv 4) ()) (@qf _ _ _ (@ql _ _ _ _ (@qO _ _ _ _ _ _ _ _ op_sub (@qR _ _ _ _ _ _ _ _ _ call_intS () T.z_int boot_int (@qa _ _ _ _ _ (@qG _ _ _ _ _ _ _ qP (pv 1) (@pe_un _ _ _ _ _ _ un_neg qh) (fun _ _=>rfl)) qe ()) () () () ()) qh))) qp) (@qf _ _ _ (@ql _ _ _ _ (@qO _ _ _ _ _ _ _ _ Qd (pv 2) qh))))))))),?_⟩
 dsimp only [cxOf,Cx.nox];simp only at hs k;obtain⟨ks,hk,hp⟩:=id I;obtain⟨qs,i,ac,h1,h2,hl⟩:=ZK I hs;simp only at ac hl;have af:Kd.words∉ks:=by
  rcases frm_jks _ hk hs with e|e|e|e<;>(have:=congrArg Prod.snd e;simp only at this;subst this;decide)
 have ew:wds (R,ps)=R::ps.map Pt.t:=Q7 hn hk hp af;have ah:(wds (R,ps))[0]? =some R:=wds0 hn I;have aa:atI ((wds (R,ps)).map V.str) (-1)=some (.str (toString i)):=by
  rw [ew,ac,uk,uN,uF,<-U9];exact ZH _ _
 have es:∀y:Str,decide (V.str R=V.str y)=decide (R=y):=fun y=>by
  rw [uB];exact⟨fun h=>by injection h,fun h=>by rw [h]⟩
 have Y:∀q ad,ps=q::ad->(wds (R,ps))[1]? =some q.t:=fun q ad e=>by rw [ew,e];rfl
 have O:∀(H1:Hp) (held:V),Same H H1->tSeq (tIfS (tB (tVar 4)) (tRet (tOp (rI0 fun i j=> .int (i-j)) (tCB (fun xs H Q=>∃z n,xs= [.str z]/\PySem.intText? z=some n/\z.length<=640/\Q (.int n) H) (QI (tOp (rIxL K) (tVar 1) (tUn (rU fun i=>V.int (-i)) (tC (.int 1)))) tNil)) (tC (.int 1)))) tNext) (tRet (tOp (rI0 fun i j=> .int (i+j)) (tVar 2) (tC (.int 1)))) {nx:=fun _ H'=>Q V.non H',rt:=Q} [some (.ref d),some (.ref p),some (.int at'),some held,some (.bl (jump R B ps))] H1:=by
  intro H1 held s1;have:=k H1 s1;refine⟨_,rfl,_,rfl,?_⟩;cases hj:jump R B ps with
  |true=>
   rw [hj,if_pos rfl,hl] at this;refine iteT ⟨_,rfl,1,rfl,p,_,_,_,rfl,rfl,SqL.of (s1 _ _ L),aa,toString i,i,rfl,num_back h1 (by omega),?_,_,_,rfl,rfl,this⟩
   have:=(yH h1 (by omega)).1
   omega
  |false=>
   rw [hj,if_neg ua] at this;exact iteF ⟨_,rfl,_,_,rfl,rfl,this⟩
 refine⟨_,rfl,d,rfl,(let⟨f,e,_⟩:=hB; .inl ⟨_,.inl e⟩),_,rfl,?_⟩;dsimp only [tC];have M:=frm_jks _ hk hs;simp only at M;rcases M with e|e|e|e
 ·cases e;obtain⟨j,rfl,ag,ak⟩:=sh_l hp;refine QN (i:=1) L (Y _ _ rfl) ⟨none,hB.lack (num_no ag (by omega)),?_⟩
  refine tvl rfl L hn I ?_;refine tst rfl L hn I (qo (show decide (("go":Str)="like")=false by decide+kernel) ?_)
  refine tst rfl L hn I (qo (show decide (("go":Str)="rowed")=false by decide+kernel) ?_)
  refine tst rfl L hn I (qo (show decide (("go":Str)="none")=false by decide+kernel) ?_)
  exact O H _ (Same.refl _)
 ·cases e;obtain⟨x,y,j,rfl,U,hy,_⟩:=sh_bbl hp;obtain⟨v,gv,iv⟩:=hB.get U;obtain⟨u,gu,iu⟩:=hB.get hy;refine QN (i:=1) L (Y _ _ rfl) ⟨some v,gv,?_⟩;refine tvl rfl L hn I ?_;refine tst rfl L hn I (qC (show decide (("like":Str)="like")=true by decide+kernel) ?_)
  refine⟨_,rfl,_,rfl,_,rfl,?_⟩;dsimp only [tC];refine QN (i:=2) L (by rw [ew];rfl) ⟨d,u,rfl,gu,B x,B y,iv,iu,isT_tr (hT x U),isT_tr (hT y hy),by have:=YV (hT x U);omega,?_⟩
  refine tst rfl L hn I (qo (show decide (("like":Str)="rowed")=false by decide+kernel) ?_)
  refine tst rfl L hn I (qo (show decide (("like":Str)="none")=false by decide+kernel) ?_)
  exact O H _ (Same.refl _)
 ·cases e;obtain⟨x,j,rfl,U,_⟩:=sh_bl hp;obtain⟨v,gv,iv⟩:=hB.get U;refine QN (i:=1) L (Y _ _ rfl) ⟨some v,gv,?_⟩;refine tvl rfl L hn I ?_;refine tst rfl L hn I (qo (show decide (("rowed":Str)="like")=false by decide+kernel) ?_)
  refine tst rfl L hn I (qC (show decide (("rowed":Str)="rowed")=true by decide+kernel) ?_)
  refine⟨_,rfl,v,"tuple",tyD (B x),jQ (B x),rfl,iv.ty,yl _,?_⟩;refine tst rfl L hn I (qo (show decide (("rowed":Str)="none")=false by decide+kernel) ?_)
  exact O H _ (Same.refl _)
 ·cases e;obtain⟨x,j,rfl,U,_⟩:=sh_bl hp;obtain⟨v,gv,iv⟩:=hB.get U;refine QN (i:=1) L (Y _ _ rfl) ⟨some v,gv,?_⟩;refine tvl rfl L hn I ?_;refine tst rfl L hn I (qo (show decide (("none":Str)="like")=false by decide+kernel) ?_)
  refine tst rfl L hn I (qo (show decide (("none":Str)="rowed")=false by decide+kernel) ?_)
  refine tst rfl L hn I (qC (show decide (("none":Str)="none")=true by decide+kernel) ?_)
  have ab:=isT_tr (hT x U);have ae:dp (B x)<=60:=by have:=YV (hT x U);omega
  refine⟨_,rfl,B x,"",iv,rfl,by decide,(by cases Z:B x<;>first|rfl|(rw [Z] at ab;exact ab)),ae,_,rfl,?_⟩
  have ej:jump "none" B [.s x,.n j]=decide (lenD (B x)=0):=by
   unfold jump;rw [if_neg (by decide+kernel),if_neg (by decide+kernel),if_pos rfl]
   rfl
  have hg:=hT x U;cases Z:B x with
  |str z=>
   rw [Z] at ej;have e1:eqD (.str z) (.str "")=decide (lenD (.str z)=0):=by
    show(z==("":Str))=decide (z.length=0);by_cases c:z.length=0
    ·have h4:z.cps= #[]:=vI c;rw [u7 c];cases z;simp only at h4;subst h4
     decide+kernel
    ·rw [uc c];have:z≠"":=fun e=>c (by rw [e];decide+kernel)
     simpa using this
   rw [e1];cases hc:decide (lenD (.str z)=0) with
   |true=>
    rw [hc] at ej;refine iteT ?_;rw [<-ej];exact O H _ (Same.refl _)
   |false=>
    rw [hc] at ej;refine iteF ⟨_,rfl,(by show 0<=sizeLine;decide),fun l hl=> ?_⟩
    have s1:Same H (upd H l (.tup [])):=qb hl _;refine⟨.str z,.tup [],by rw [<-Z];exact iv.mono s1.tk,Is.new (ds:= []) rfl hl,rfl,rfl,by simp [dp],?_⟩
    show tSeq _ _ _ _ _;have:=O (upd H l (.tup [])) v s1;rw [ej] at this;exact this
  |tup xs=>
   rw [Z] at ej;refine iteF ⟨_,rfl,(by show 0<=sizeLine;decide),fun l hl=> ?_⟩
   have s1:Same H (upd H l (.tup [])):=qb hl _;refine⟨.tup xs,.tup [],by rw [<-Z];exact iv.mono s1.tk,Is.new (ds:= []) rfl hl,by rw [<-Z];exact ab,rfl,by rw [<-Z];exact ae,?_⟩
   have:=O (upd H l (.tup [])) v s1;rw [ej] at this;have e1:decide (lenD (.tup xs)=0)=eqD (.tup xs) (.tup []):=by cases xs<;>rfl
   rw [e1] at this;exact this
  |_=>rw [Z] at hg;simp [isT,good] at hg
def sp_cg:Sp:=fun vs H Q _=>∃(w:Str) (v2 v3:V) (d2 d3:D),vs= [.str w,v2,v3]/\(w="cut"∨w="glue")/\Is H d2 v2/\Is H d3 v3/\isT d2=true/\isT d3=true/\∀(v:V) (H':Hp),Same H H'->Is H' (if w="cut" then cutD d2 d3 else glueD d2 d3) v->Q v H'
theorem ok_cg (T:Tx K mg a):FnOk P w K mg base CX0 1 a.yR a.yQ ["word","two","three"] sp_cg:=by
 refine T.g_law_cut_or_glued.F.ok jZ () (fun _ _ _ _ H _ Q E hr h=> ?_)
 obtain⟨w,v,u,dx,dy,rfl,hw,Z,iu,hg,aa,k⟩:=h;refine⟨_,(@qc _ _ _ _ _ (@qH _ _ _ _ _ _ _ _ (@Qk _ _ _ _ (@qV _ _ _ (@qj _ _ _ _ _ _ _ _ _ (@qz _ _ rfl) () T.qv uz (@qa _ _ _ _ _ (pv 2) (@qa _ _ _ _ _ (@qY _ _ (.ty "str") _ _ () T.ym vw rfl () ()) qe ()) ()) () () () ()) ())) (@qf _ _ _ (@ql _ _ _ _ Qg)) qp) (@qc _ _ _ _ _ (@qH _ _ _ _ _ _ _ _ (@qk _ _ _ _ _ _ _ _ Qh (pv 0) qi (qu _)) (@qc _ _ _ _ _ (@qH _ _ _ _ _ _ _ _ (@y0 _ _ _ _ _ _ _ (@Qk _ _ _ _ (@qV _ _ _ (@qj _ _ _ _ _ _ _ _ _ (@qz _ _ rfl) () T.qv uz (@qa _ _ _ _ _ (pv 1) (@qa _ _ _ _ _ (@qY _ _ (.ty "str") _ _ () T.ym vw rfl () ()) qe ()) ()) () () () ()) ())) (@yr _ _ _ _ (@qk _ _ _ _ _ _ _ _ Qh (pv 2) qi (qu _)))).pt (@qf _ _ _ (@ql _ _ _ _ Qg)) qp) (@qf _ _ _ (@ql _ _ _ _ (@qR _ _ _ _ _ _ _ _ _ qU () T.Qm uY (@qa _ _ _ _ _ (@Yo _ _ _ _ _ _ _ _ _ _ _ _ uH vC vD mt_splitG (pv 1) (@qa _ _ _ _ _ (pv 2) qe ()) () () () () ()) qe ()) () () () ())))) qp) (@qc _ _ _ _ _ (@qH _ _ _ _ _ _ _ _ (@y0 _ _ _ _ _ _ _ (@Qk _ _ _ _ (@qV _ _ _ (@qj _ _ _ _ _ _ _ _ _ (@qz _ _ rfl) () T.qv uz (@qa _ _ _ _ _ (pv 1) (@qa _ _ _ _ _ (@qY _ _ (.ty "tuple") _ _ () T.Qm uY rfl () ()) qe ()) ()) () () () ()) ())) (@yr _ _ _ _ (@Qk _ _ _ _ (@qV _ _ _ (@qj _ _ _ _ _ _ _ _ _ (@yg _ rfl) () T.z_all boot_all (@qa _ _ _ _ _ (@jk _ _ (["part"]) (1) ([]) _ _ _ _ _ _ _ _ _ (lcs0) rfl (@Ym _ _ _ _ (pv 1)) (fun _ _ _ _ _ _=>(@qN _ _ (0) _ (show List.Nodup (["part"]:List Str) by decide+kernel) rfl (Or.inl rfl) ())) (fun _ _ _ _ _ _=> @QG _) (fun _ _ _ _ _ _=>(@qj _ _ _ _ _ _ _ _ _ (@qz _ _ rfl) () T.qv uz (@qa _ _ _ _ _ (pv 0) (@qa _ _ _ _ _ (@qY _ _ (.ty "str") _ _ () T.ym vw rfl () ()) qe ()) ()) () () () ())) ()) qe ()) () () () ()) ())))).pt (@qf _ _ _ (@ql _ _ _ _ Qg)) qp) (@qf _ _ _ (@ql _ _ _ _ (@Yo _ _ _ _ _ _ _ _ _ _ _ _ uH vJ vK mt_joinT (pv 2) (@qa _ _ _ _ _ (pv 1) qe ()) () () () () ())))))),?_⟩
 dsimp only [cxOf,Cx.nox];have lx:=QE hg;have ly:=QE aa;refine⟨_,rfl,u,"str",tyD dy,isStr dy,rfl,iu.ty,Qv _,_,rfl,?_⟩;cases dy with
 |str I=>
  obtain⟨rfl,_⟩:=iu;have h2:I.length<=600:=ly;refine iteF ⟨_,rfl,rfl,_,rfl,?_⟩;rcases hw with rfl|rfl
  ·refine qC (by decide+kernel) ?_
   have L:∀(v:V) (H':Hp),Same H H'->Is H' (cutD dx (.str I)) v->Q v H':=k;refine⟨_,rfl,v,"str",tyD dx,isStr dx,rfl,Z.ty,Qv _,_,rfl,?_⟩;cases dx with
   |str z=>
    refine iteF ?_;obtain⟨rfl,_⟩:=Z;have h1:z.length<=600:=lx;refine⟨_,rfl,rfl,_,rfl,?_⟩;refine ite2 (fun c=> ?_) (fun c=> ?_)
    ·have e:I="":=by have:=ud c;injection this
     subst e;exact L _ H (Same.refl _) rfl
    ·have h3:I.length≠0:=fun h=>c (u7 (by
      have:I="":=by
       have h4:I.cps= #[]:=vI h;cases I;simp only at h4;subst h4
       decide+kernel
      rw [this]))
     refine⟨_,rfl,rfl,_,rfl,z,I,rfl,rfl,by omega,by omega,fun p hp=>⟨p,_,rfl,.inl ⟨SqL.of qg,fun l hl=> ?_⟩⟩⟩
     have s1:Same H (upd H p (.lst ((spG z I).map V.str))):=qb hp _;refine L _ _ (s1.trans (qb hl _)) ?_;show Is _ (if I.length=0 then D.non else .tup ((spG z I).map D.str)) _
     rw [if_neg h3];exact Is.new (IsL.ofStrs fun q hq=>qS (by have:=spG_mem hq;omega)) hl
   |_=>exact iteT (L _ H (Same.refl _) rfl)
  ·refine qo (by decide+kernel) ?_
   have L:∀(v:V) (H':Hp),Same H H'->Is H' (glueD dx (.str I)) v->Q v H':=k;refine⟨_,rfl,v,"tuple",tyD dx,jQ dx,rfl,Z.ty,yl _,_,rfl,?_⟩;cases dx with
   |tup xs=>
    refine iteF ?_;obtain⟨r,rs,rfl,er,ir⟩:=Z;have h1:xs.length<=600:=lx;refine⟨_,rfl,r,rs,rfl,SqT.of er,fun ad A0 ab=> ?_⟩;refine Y7 (tl:= []) (fun d=> .bl (isStr d)) er ir (fits (by omega)) ab (fun d0 x0 H3 R ae s3 i3 q=>⟨_,rfl,x0,"str",tyD d0,isStr d0,rfl,i3.ty,Qv _,q _ H3 (Same.refl _) rfl⟩) fun H1 ys s1 l1 i1=> ?_
    have ey:ys=(xs.map isStr).map V.bl:=IsL.bls (by rw [uN];exact i1)
    subst ey;refine⟨A0,xs.map isStr,rfl,SqL.of l1,_,rfl,?_⟩;have O:(xs.map isStr).all id=yx xs:=by rw [JN,vH];rfl
    rw [O];cases M:yx xs with
    |false=>exact iteT (L _ H1 s1 (by show Is H1 (if yx xs=true then _ else D.non) _;rw [M];rfl))
    |true=>
     have U:=Zl M;have ac:rs=(yu xs).map V.str:=IsL.strs (by rw [<-U];exact ir)
     have hsz:=isT_sz hg;have Y:=Zr (yu xs);rw [<-U] at Y;simp only [sz] at hsz;have af:(yu xs).length*I.length<=600*600:=Nat.mul_le_mul (by omega) h2
     have hj:=join_le I (yu xs);refine iteF ⟨_,rfl,rfl,_,rfl,I,r,yu xs,rfl,rfl,SqT.of (by rw [s1 _ _ er,ac]),by omega,?_⟩
     refine L _ H1 s1 ?_;show Is H1 (if yx xs=true then .str (Str.join I (yu xs)) else D.non) _
     rw [M];exact⟨rfl,fits (by omega)⟩
   |_=>exact iteT (L _ H (Same.refl _) rfl)
 |_=>exact iteT (k _ H (Same.refl _) (by split<;>cases dx<;>rfl))
theorem QH.any {H:Hp}{d:Addr}{B:Str->D}(h:QH H d B)(z:Str):∃o,DGet H d (.str z) o:=by
 by_cases c:z∈BX
 ·obtain⟨v,I,_⟩:=h.get c;exact⟨_,I⟩
 ·exact⟨_,h.lack c⟩
theorem QH.isD {H:Hp}{d:Addr}{B:Str->D}(h:QH H d B):IsD H d:=let⟨f,e,_⟩:=h; .inl ⟨_,.inl e⟩
def sp_held:Sp:=fun vs H Q _=>∃(d p:Addr) (B:Str->D) (r:Rw) (n:Nat) (own:Str),vs= [.ref d,.ref p,.str (qB r),.str own]/\n<=40/\own.length<=100/\(qB r).length<=300/\QH H d B/\Tr B/\WdAt H p r/\QD n 125 r/\r.1∈MKR/\
 ∀(v:V) (H':Hp),Same H H'->Is H' (made r.1 B own r.2) v->Q v H'
theorem last_wd {ws:List Str}(h:ws≠ []):∃z,atI (ws.map V.str) (-1)=some (.str z):=by
 rcases vX ws with e|⟨l,z,e⟩
 ·exact absurd e h
 ·refine⟨z,?_⟩;rw [e,vY,uF];exact ZH _ _
theorem text_tail {x y:Str}(I:x.length=1):Txt.slice (qB ("text",[.s x,.s y])) (some 7) none=y:=by
 have e:(qB ("text",[.s x,.s y])).cps.toList=("text":Str).cps.toList++32::(x.cps.toList++32::y.cps.toList):=by
  show(Str.join " " ["text",x,y]).cps.toList=_;rw [L2.yB,L2.yB]
  rfl
 have h4:("text":Str).cps.toList= [116,101,120,116]:=by decide+kernel
 have h1:∃c,x.cps.toList= [c]:=by
  have:x.cps.toList.length=1:=by simpa [Str.length] using I
  match x.cps.toList,this with
  | [c],_=>exact⟨c,rfl⟩
 obtain⟨c,L⟩:=h1;rw [h4,L] at e;generalize qB ("text",[.s x,.s y])=z at e⊢;have O:z.cps.toList.length=7+y.cps.toList.length:=by rw [e];simp;omega
 have M:Txt.slice z (some 7) none=⟨((z.cps.toList.drop (7:Int).toNat).take ((z.cps.toList.length:Int)-7).toNat).toArray⟩:=StrLaws.sliceText_from ⟨by omega,by omega⟩
 rw [M,vf (by rw [uQ];omega),e]
 show(⟨y.cps.toList.toArray⟩:Str)=y;simp
def SEC:List Str:= ["copy","put","join","first","rest","size","cut","glue"]
theorem frm_sec:∀x∈FRM,x.1∈SEC->x.2= [Kd.box,.box]∨x.2= [Kd.box,.box,.box]:=by decide+kernel
theorem ok_held (T:Tx K mg a):FnOk P w K mg base CX0 2 a.zI a.X5 ["boxes","words","line","own"] sp_held:=by
 have Jf:=ok_cg (P:=P) (w:=w) (base:=base) T;refine T.g_law_held.F.ok yE () (fun _ _ _ _ H _ Q E hr h=> ?_)
 obtain⟨d,p,B,⟨r1,ps⟩,n,own,rfl,hn,ho,av,hB,hT,hw,R,hs,k⟩:=h;refine⟨_,(@qc _ _ _ _ _ (@qx _ _ (4) _ _ _ _ yE.nd rfl (Or.inl rfl) (@qG _ _ _ _ _ _ _ qP (pv 1) qh (fun _ _=>rfl)) () ()) (@qc _ _ _ _ _ (@qx _ _ (5) _ _ _ _ yE.nd rfl (Or.inl rfl) (@Qi _ _ _ _ _ _ (QU hr) (pv 0) (@qG _ _ _ _ _ _ _ qP (pv 1) qh (fun _ _=>rfl)) (fun _ _=>rfl)) () ()) (@qc _ _ _ _ _ (@qx _ _ (6) _ _ _ _ yE.nd rfl (Or.inl rfl) (@Zs _ _ _ _ _ _ _ _ _ (QU hr) (pv 0) (@qG _ _ _ _ _ _ _ qP (pv 1) (@pe_un _ _ _ _ _ _ un_neg qh) (fun _ _=>rfl)) qi ⟨rfl,rfl,rfl,rfl⟩) () ()) (@qc _ _ _ _ _ (@qH _ _ _ _ _ _ _ _ (@qk _ _ _ _ _ _ _ _ xo (@qj _ _ _ _ _ _ _ _ _ xx () T.Qy uv (@qa _ _ _ _ _ (pv 1) qe ()) () () () ()) qh (qu _)) (@qf _ _ _ (@qx _ _ (6) _ _ _ _ yE.nd rfl (Or.inl rfl) (@Zs _ _ _ _ _ _ _ _ _ (QU hr) (pv 0) (@qG _ _ _ _ _ _ _ qP (pv 1) qh (fun _ _=>rfl)) qi ⟨rfl,rfl,rfl,rfl⟩) () ())) qp) (@qc _ _ _ _ _ (@qH _ _ _ _ _ _ _ _ (@qk _ _ _ _ _ _ _ _ Qq (pv 4) (@Qo _ _ _ _ (@qa _ _ _ _ _ qi (@qa _ _ _ _ _ qi (@qa _ _ _ _ _ qi (@qa _ _ _ _ _ qi qe ()) ()) ()) ())) (by with_unfolding_all rfl)) (@qf _ _ _ (@ql _ _ _ _ (@Qi _ _ _ _ _ _ (QU hr) (@pe_disp _ _ _ _ _ (@Yi _ _ _ _ _ _ _ _ _ qi (@QC _ _ _ _ _ _ _ _ _ _ sl_str (pv 2) (@QR _ _ _ qh) QT) (@Yi _ _ _ _ _ _ _ _ _ qi (pv 3) (@Yi _ _ _ _ _ _ _ _ _ qi (pv 6) (@Yi _ _ _ _ _ _ _ _ _ qi (@qD _ _ _ _ _ qe) pps_nil)))) rfl rfl (by simp) (by decide)) (pv 4) (fun _ _=>rfl)))) qp) (@qc _ _ _ _ _ (@qH _ _ _ _ _ _ _ _ (@jo _ _ _ _ _ _ _ (@qk _ _ _ _ _ _ _ _ Qh (pv 4) qi (qu _)) (@Yl _ _ _ _ (@qV _ _ _ (@qj _ _ _ _ _ _ _ _ _ (@qz _ _ rfl) () T.qv uz (@qa _ _ _ _ _ (pv 5) (@qa _ _ _ _ _ (@qY _ _ (.ty "tuple") _ _ () T.Qm uY rfl () ()) qe ()) ()) () () () ()) ()))).pt (@qf _ _ _ (@ql _ _ _ _ (@qO _ _ _ _ _ _ _ _ yL (pv 5) (@qD _ _ _ _ _ (@qa _ _ _ _ _ (pv 6) qe ()))))) qp) (@qc _ _ _ _ _ (@qH _ _ _ _ _ _ _ _ (@jo _ _ _ _ _ _ _ (@qk _ _ _ _ _ _ _ _ Qh (pv 4) qi (qu _)) (@jo _ _ _ _ _ _ _ (@qV _ _ _ (@qj _ _ _ _ _ _ _ _ _ (@qz _ _ rfl) () T.qv uz (@qa _ _ _ _ _ (pv 5) (@qa _ _ _ _ _ (@qY _ _ (.ty "str") _ _ () T.ym vw rfl () ()) qe ()) ()) () () () ()) ()) (@Yl _ _ _ _ (@qV _ _ _ (@qj _ _ _ _ _ _ _ _ _ (@qz _ _ rfl) () T.qv uz (@qa _ _ _ _ _ (pv 6) (@qa _ _ _ _ _ (@qY _ _ (.ty "str") _ _ () T.ym vw rfl () ()) qe ()) ()) () () () ()) ())))).pt (@qf _ _ _ (@ql _ _ _ _ (@qO _ _ _ _ _ _ _ _ Qn (pv 5) (pv 6)))) qp) (@qc _ _ _ _ _ (@qH _ _ _ _ _ _ _ _ (@jo _ _ _ _ _ _ _ (@qk _ _ _ _ _ _ _ _ Qh (pv 4) qi (qu _)) (@Yl _ _ _ _ (@qk _ _ _ _ _ _ _ _ xo (@qj _ _ _ _ _ _ _ _ _ QK () T.Qy uv (@qa _ _ _ _ _ (pv 6) qe ()) () () () ()) qh (qu _)))).pt (@qf _ _ _ (@ql _ _ _ _ (@qG _ _ _ _ _ _ _ yt (pv 6) qh (fun _ _=>rfl)))) qp) (@qc _ _ _ _ _ (@qH _ _ _ _ _ _ _ _ (@jo _ _ _ _ _ _ _ (@qk _ _ _ _ _ _ _ _ Qh (pv 4) qi (qu _)) (@Yl _ _ _ _ (@qk _ _ _ _ _ _ _ _ xo (@qj _ _ _ _ _ _ _ _ _ QK () T.Qy uv (@qa _ _ _ _ _ (pv 6) qe ()) () () () ()) qh (qu _)))).pt (@qf _ _ _ (@ql _ _ _ _ (@QC _ _ _ _ _ _ _ _ _ _ sl_any (pv 6) (@QR _ _ _ qh) QT))) qp) (@qc _ _ _ _ _ (@qH _ _ _ _ _ _ _ _ (@qk _ _ _ _ _ _ _ _ Qh (pv 4) qi (qu _)) (@qf _ _ _ (@ql _ _ _ _ (@qR _ _ _ _ _ _ _ _ _ yh () T.ym vw (@qa _ _ _ _ _ (@qj _ _ _ _ _ _ _ _ _ QK () T.Qy uv (@qa _ _ _ _ _ (pv 6) qe ()) () () () ()) qe ()) () () () ()))) qp) (@qc _ _ _ _ _ (@qH _ _ _ _ _ _ _ _ (@qk _ _ _ _ _ _ _ _ Qq (pv 4) (@Qo _ _ _ _ (@qa _ _ _ _ _ qi (@qa _ _ _ _ _ qi qe ()) ())) (by with_unfolding_all rfl)) (@qf _ _ _ (@ql _ _ _ _ (@qt _ _ _ _ _ _ _ _ _ _ _ _ _ _ _ _ Jf (hr.mono ()) () T.g_law_cut_or_glued.m T.g_law_cut_or_glued.F.kp T.g_law_cut_or_glued.b .nil qK (@qa _ _ _ _ _ (pv 4) (@qa _ _ _ _ _ (pv 6) (@qa _ _ _ _ _ (@Qi _ _ _ _ _ _ (QU hr) (pv 0) (@qG _ _ _ _ _ _ _ qP (pv 1) qh (fun _ _=>rfl)) (fun _ _=>rfl)) qe ()) ()) ()) () () ()))) qp) (@qf _ _ _ (@ql _ _ _ _ Qg))))))))))))),?_⟩
 dsimp only [cxOf,Cx.nox];simp only at hs k;obtain⟨z0,qs,ad,af⟩:=mk_b0 R hs;simp only at ad;obtain⟨ks,hk,hp⟩:=id R;have ag:(wds (r1,ps))[1]? =some z0:=by
  by_cases al:Kd.words∈ks
  ·rcases ZA _ hk with e|e
   ·simp at e;exact absurd al e
   ·have e1:ks= [.box,.words]:=congrArg Prod.snd e;have e2:r1="text":=congrArg Prod.fst e;subst e1 e2;obtain⟨x,y,rfl,hx,_⟩:=sh_bw hp;cases ad;obtain⟨tl,e3,_⟩:=xq (y:=y) hx;rw [e3]
    rfl
  ·rw [Q7 hn hk hp al,ad]
   rfl
 have ao:wds (r1,ps)≠ []:=fun e=>by rw [e] at ag;cases ag
 obtain⟨v1,g1,i1⟩:=hB.get af;obtain⟨zl,ah⟩:=last_wd ao;obtain⟨oL,gL⟩:=hB.any zl;refine⟨_,rfl,?_⟩;dsimp only [tC];refine QN (i:=0) hw (wds0 hn R) ?_;refine⟨_,rfl,_,rfl,?_⟩;dsimp only [tC];refine QN (i:=1) hw ag ⟨d,v1,rfl,g1,?_⟩;refine⟨_,rfl,d,rfl,hB.isD,_,rfl,1,rfl,p,_,_,_,rfl,rfl,SqL.of hw,ah,oL,gL,?_⟩;dsimp only [Y3];refine jt fun N1 h1=> ?_;obtain⟨N2,h2,h1⟩:=Yu h1;obtain⟨N3,h3,h2⟩:=Yu h2;obtain⟨N4,h4,h3⟩:=Yu h3;obtain⟨N5,h5,h4⟩:=Yu h4;obtain⟨N6,h6,h5⟩:=Yu h5;obtain⟨N7,h7,h6⟩:=Yu h6;obtain⟨N8,h8,h7⟩:=Yu h7;have p2:∀{x0 x1 x2 x3 x5 x6:Option V}{w:Str}{H':Hp},decide (V.str w=V.str "put")=false->N3 [x0,x1,x2,x3,some (.str w),x5,x6] H'->N2 [x0,x1,x2,x3,some (.str w),x5,x6] H':=fun hd hn=>h2 _ _ ⟨_,rfl,rfl,_,rfl,qo hd hn⟩;have p3:∀{x0 x1 x2 x3 x5 x6:Option V}{w:Str}{H':Hp},decide (V.str w=V.str "join")=false->N4 [x0,x1,x2,x3,some (.str w),x5,x6] H'->N3 [x0,x1,x2,x3,some (.str w),x5,x6] H':=fun hd hn=>h3 _ _ ⟨_,rfl,rfl,_,rfl,qo hd hn⟩;have p4:∀{x0 x1 x2 x3 x5 x6:Option V}{w:Str}{H':Hp},decide (V.str w=V.str "first")=false->N5 [x0,x1,x2,x3,some (.str w),x5,x6] H'->N4 [x0,x1,x2,x3,some (.str w),x5,x6] H':=fun hd hn=>h4 _ _ ⟨_,rfl,rfl,_,rfl,qo hd hn⟩;have p5:∀{x0 x1 x2 x3 x5 x6:Option V}{w:Str}{H':Hp},decide (V.str w=V.str "rest")=false->N6 [x0,x1,x2,x3,some (.str w),x5,x6] H'->N5 [x0,x1,x2,x3,some (.str w),x5,x6] H':=fun hd hn=>h5 _ _ ⟨_,rfl,rfl,_,rfl,qo hd hn⟩;have p6:∀{x0 x1 x2 x3 x5 x6:Option V}{w:Str}{H':Hp},decide (V.str w=V.str "size")=false->N7 [x0,x1,x2,x3,some (.str w),x5,x6] H'->N6 [x0,x1,x2,x3,some (.str w),x5,x6] H':=fun hd hn=>h6 _ _ ⟨_,rfl,rfl,_,rfl,qo hd hn⟩;refine⟨_,rfl,_,((wds (r1,ps)).map V.str).length,rfl,.inl ⟨_,SqL.of hw,rfl⟩,_,_,rfl,rfl,_,rfl,?_⟩;have aa:r1∈SEC->(wds (r1,ps))[2]? =some (b1 ps)/\b1 ps∈BX/\2<(wds (r1,ps)).length:=by
  intro hq;rcases frm_sec _ hk hq with e|e
  ·simp only at e;subst e;obtain⟨x,y,rfl,hx,hy⟩:=yZ hp;rw [Q7 hn hk hp (by decide)]
   exact⟨rfl,hy,by show 2<3;decide⟩
  ·simp only at e;subst e;obtain⟨x,y,z,rfl,hx,hy,hz⟩:=sh_bbb hp;rw [Q7 hn hk hp (by decide)]
   exact⟨rfl,hy,by show 2<4;decide⟩
 simp only [MKR,uA,v7,v9] at hs;rcases hs with rfl|rfl|rfl|rfl|rfl|rfl|rfl|rfl|rfl|rfl|rfl
 ·obtain⟨x,y,rfl,hx,hy,aw⟩:=sh_bw (qL R (by decide+kernel))
  obtain⟨tl,ew,ap⟩:=xq (y:=y) hx;obtain⟨z2,O⟩:∃z2,(wds ("text",[.s x,.s y]))[2]? =some z2:=by
   rw [ew];cases tl with
   |nil=>exact absurd rfl ap
   |cons q _=>exact⟨q,rfl⟩
  obtain⟨o2,g2⟩:=hB.any z2;have ac:2<(wds ("text",[.s x,.s y])).length:=(List.getElem?_eq_some_iff.mp O).1;refine qC (u7 (by rw [uf];omega)) ⟨_,rfl,d,rfl,hB.isD,_,rfl,?_⟩
  dsimp only [tC];refine QN (i:=2) hw O ⟨o2,g2,?_⟩;generalize o2.getD _=Y;refine h1 _ _ ⟨_,rfl,(by show 4<=sizeLine;decide),fun I L=>⟨I,_,rfl,.inl (SqL.of qg),rfl,rfl,_,rfl,?_⟩⟩
  have s1:Same H (upd H I (.lst [.str "text",.str "self",.str "copy",.str "row"])):=qb L _;generalize upd H I (.lst [.str "text",.str "self",.str "copy",.str "row"])=H1 at s1⊢;refine qC (by decide+kernel) ?_
  refine fun q hq=>⟨_,rfl,_,rfl,_,rfl,qS (by omega),_,rfl,_,rfl,(by show 0<=sizeLine;decide),fun l5 ab=> ?_⟩
  have nq:q≠l5:=qr qg ab;refine⟨by rw [qy nq];exact qg,[((Sum.inr "text":Key),_),(Sum.inr "self",V.str own),(Sum.inr "copy",Y),(Sum.inr "row",.ref l5)],rfl,(by show 4<=15;decide),_,rfl,q,.str (Txt.slice (qB ("text",[.s x,.s y])) (some 7) none),rfl,?_,?_⟩
  ·exact DGet.k (a:=q) (k:=(Sum.inr "text":Key)) qg
  ·have sm:∀kvs,Same H (upd (upd (upd H1 q (.dK [])) l5 (.tup [])) q (.dK kvs)):=fun kvs b o h=>by
    have nb:=qr (s1 b o h) hq;rw [qy nb];exact qb ab _ _ _ (qb hq _ _ _ (s1 b o h))
   refine k _ _ (sm _) ?_;show Is _ (.str y) _;rw [text_tail (Qr hx).1];exact⟨rfl,qS (by omega)⟩
 ·obtain⟨x,rfl,hx⟩:=sh_b (qL R (by decide+kernel))
  have ac:(wds ("self",[.s x])).length=2:=by rw [Q7 hn (ks:= [.box]) (show(("self":Str),[Kd.box])∈FRM by decide+kernel) (qL R (by decide+kernel)) (by decide)];rfl
  refine qo (uc (by rw [uf];omega)) ?_
  generalize oL.getD _=Y;refine h1 _ _ ⟨_,rfl,(by show 4<=sizeLine;decide),fun I L=>⟨I,_,rfl,.inl (SqL.of qg),rfl,rfl,_,rfl,?_⟩⟩
  have s1:Same H (upd H I (.lst [.str "text",.str "self",.str "copy",.str "row"])):=qb L _;generalize upd H I (.lst [.str "text",.str "self",.str "copy",.str "row"])=H1 at s1⊢;refine qC (by decide+kernel) ?_
  refine fun q hq=>⟨_,rfl,_,rfl,_,rfl,qS (by omega),_,rfl,_,rfl,(by show 0<=sizeLine;decide),fun l5 ab=> ?_⟩
  have nq:q≠l5:=qr qg ab;refine⟨by rw [qy nq];exact qg,[((Sum.inr "text":Key),_),(Sum.inr "self",V.str own),(Sum.inr "copy",Y),(Sum.inr "row",.ref l5)],rfl,(by show 4<=15;decide),_,rfl,q,.str own,rfl,?_,?_⟩
  ·exact DGet.k (a:=q) (k:=(Sum.inr "self":Key)) qg
  ·have sm:∀kvs,Same H (upd (upd (upd H1 q (.dK [])) l5 (.tup [])) q (.dK kvs)):=fun kvs b o h=>by
    have nb:=qr (s1 b o h) hq;rw [qy nb];exact qb ab _ _ _ (qb hq _ _ _ (s1 b o h))
   refine k _ _ (sm _) ?_;exact⟨rfl,qS (by show own.length<=1000;omega)⟩
 ·obtain⟨O,Z,ac⟩:=aa (by decide+kernel)
  obtain⟨Y,g2,i2⟩:=hB.get Z;refine qC (u7 (by rw [uf];omega)) ⟨_,rfl,d,rfl,hB.isD,_,rfl,?_⟩
  dsimp only [tC];refine QN (i:=2) hw O ⟨some Y,g2,?_⟩;refine h1 _ _ ⟨_,rfl,(by show 4<=sizeLine;decide),fun I L=>⟨I,_,rfl,.inl (SqL.of qg),rfl,rfl,_,rfl,?_⟩⟩
  have s1:Same H (upd H I (.lst [.str "text",.str "self",.str "copy",.str "row"])):=qb L _;generalize upd H I (.lst [.str "text",.str "self",.str "copy",.str "row"])=H1 at s1⊢;refine qC (by decide+kernel) ?_
  refine fun q hq=>⟨_,rfl,_,rfl,_,rfl,qS (by omega),_,rfl,_,rfl,(by show 0<=sizeLine;decide),fun l5 ab=> ?_⟩
  have nq:q≠l5:=qr qg ab;refine⟨by rw [qy nq];exact qg,[((Sum.inr "text":Key),_),(Sum.inr "self",V.str own),(Sum.inr "copy",Y),(Sum.inr "row",.ref l5)],rfl,(by show 4<=15;decide),_,rfl,q,Y,rfl,?_,?_⟩
  ·exact DGet.k (a:=q) (k:=(Sum.inr "copy":Key)) qg
  ·have sm:∀kvs,Same H (upd (upd (upd H1 q (.dK [])) l5 (.tup [])) q (.dK kvs)):=fun kvs b o h=>by
    have nb:=qr (s1 b o h) hq;rw [qy nb];exact qb ab _ _ _ (qb hq _ _ _ (s1 b o h))
   refine k _ _ (sm _) ?_;exact i2.mono (sm _).tk
 ·obtain⟨x,rfl,hx⟩:=sh_b (qL R (by decide+kernel))
  have ac:(wds ("row",[.s x])).length=2:=by rw [Q7 hn (ks:= [.box]) (show(("row":Str),[Kd.box])∈FRM by decide+kernel) (qL R (by decide+kernel)) (by decide)];rfl
  refine qo (uc (by rw [uf];omega)) ?_
  generalize oL.getD _=Y;refine h1 _ _ ⟨_,rfl,(by show 4<=sizeLine;decide),fun I L=>⟨I,_,rfl,.inl (SqL.of qg),rfl,rfl,_,rfl,?_⟩⟩
  have s1:Same H (upd H I (.lst [.str "text",.str "self",.str "copy",.str "row"])):=qb L _;generalize upd H I (.lst [.str "text",.str "self",.str "copy",.str "row"])=H1 at s1⊢;refine qC (by decide+kernel) ?_
  refine fun q hq=>⟨_,rfl,_,rfl,_,rfl,qS (by omega),_,rfl,_,rfl,(by show 0<=sizeLine;decide),fun l5 ab=> ?_⟩
  have nq:q≠l5:=qr qg ab;refine⟨by rw [qy nq];exact qg,[((Sum.inr "text":Key),_),(Sum.inr "self",V.str own),(Sum.inr "copy",Y),(Sum.inr "row",.ref l5)],rfl,(by show 4<=15;decide),_,rfl,q,.ref l5,rfl,?_,?_⟩
  ·exact DGet.k (a:=q) (k:=(Sum.inr "row":Key)) qg
  ·have sm:∀kvs,Same H (upd (upd (upd H1 q (.dK [])) l5 (.tup [])) q (.dK kvs)):=fun kvs b o h=>by
    have nb:=qr (s1 b o h) hq;rw [qy nb];exact qb ab _ _ _ (qb hq _ _ _ (s1 b o h))
   refine k _ _ (sm _) ?_;refine⟨l5,[],rfl,?_,rfl⟩;rw [qy nq.symm];exact qg
 ·obtain⟨O,Z,ac⟩:=aa (by decide+kernel)
  obtain⟨Y,g2,i2⟩:=hB.get Z;refine qC (u7 (by rw [uf];omega)) ⟨_,rfl,d,rfl,hB.isD,_,rfl,?_⟩
  dsimp only [tC];refine QN (i:=2) hw O ⟨some Y,g2,?_⟩;refine h1 _ _ ⟨_,rfl,(by show 4<=sizeLine;decide),fun I L=>⟨I,_,rfl,.inl (SqL.of qg),rfl,rfl,_,rfl,?_⟩⟩
  have s1:Same H (upd H I (.lst [.str "text",.str "self",.str "copy",.str "row"])):=qb L _;generalize upd H I (.lst [.str "text",.str "self",.str "copy",.str "row"])=H1 at s1⊢;refine qo (by decide+kernel) ?_
  have j1:=i1.mono s1.tk;have j2:=i2.mono s1.tk;have B1:=hB.same s1;obtain⟨x,y,rfl,hx,hy⟩:=yZ (qL R (by decide+kernel))
  cases ad;refine h2 _ _ ⟨_,rfl,rfl,_,rfl,qC (by decide+kernel) ?_⟩
  have lx:=QE (hT z0 af);have k':∀(v:V) (H':Hp),Same H H'->Is H' (putD (B z0) (B y)) v->Q v H':=k;generalize B z0=dx at j1 k' lx⊢;refine⟨_,rfl,v1,"tuple",tyD dx,jQ dx,rfl,j1.ty,yl _,_,rfl,?_⟩;have no:jQ dx=false->Is H1 (putD dx (B y)) .non:=fun h=>by cases dx<;>first|rfl|simp [jQ] at h
  cases ht:jQ dx with
  |false=>
   refine iteF ?_;refine p3 (by decide+kernel) ?_
   refine p4 (by decide+kernel) ?_
   refine p5 (by decide+kernel) ?_
   refine p6 (by decide+kernel) ?_
   refine h7 _ _ ⟨_,rfl,(by show 2<=sizeLine;decide),fun l6 M=>⟨l6,_,rfl,.inl (SqL.of qg),rfl,rfl,_,rfl,qo (by decide+kernel) ?_⟩⟩
   exact h8 _ _ (k' _ _ (s1.trans (qb M _)) ((no ht).mono (qb M _).tk))
  |true=>
   refine iteT ?_;cases dx with
   |tup xs=>
    obtain⟨r,rs,rfl,er,ir⟩:=j1;refine⟨_,rfl,_,rfl,(by show 1<=sizeLine;decide),fun l hl=>⟨r,l,rs,[Y],rfl,rfl,SqT.of (qb hl _ _ _ er),SqT.of qg,?_,fun e=> ?_,fun _ e=>(by cases e),fun _ _ p hp=> ?_⟩⟩
    ·rw [ir.length];have:xs.length<=600:=lx;exact qS (by show xs.length+1<=1000;omega)
    ·subst e;have e2:xs= []:=uC ir.length.symm;subst e2;exact k' _ _ (s1.trans (qb hl _)) (Is.new (ds:= [B y]) (IsL.one j2) hl)
    ·have t1:Tk H1 (upd H1 l (.tup [Y])):=(qb hl _).tk;exact k' _ _ (s1.trans ((qb hl _).trans (qb hp _))) (Is.new (ds:=xs++ [B y]) ((ir.mono t1).append (IsL.one (j2.mono t1))) hp)
   |_=>simp [jQ] at ht
 ·obtain⟨O,Z,ac⟩:=aa (by decide+kernel)
  obtain⟨Y,g2,i2⟩:=hB.get Z;refine qC (u7 (by rw [uf];omega)) ⟨_,rfl,d,rfl,hB.isD,_,rfl,?_⟩
  dsimp only [tC];refine QN (i:=2) hw O ⟨some Y,g2,?_⟩;refine h1 _ _ ⟨_,rfl,(by show 4<=sizeLine;decide),fun I L=>⟨I,_,rfl,.inl (SqL.of qg),rfl,rfl,_,rfl,?_⟩⟩
  have s1:Same H (upd H I (.lst [.str "text",.str "self",.str "copy",.str "row"])):=qb L _;generalize upd H I (.lst [.str "text",.str "self",.str "copy",.str "row"])=H1 at s1⊢;refine qo (by decide+kernel) ?_
  have j1:=i1.mono s1.tk;have j2:=i2.mono s1.tk;have B1:=hB.same s1;obtain⟨x,y,rfl,hx,hy⟩:=yZ (qL R (by decide+kernel))
  cases ad;refine p2 (by decide+kernel) ?_
  refine h3 _ _ ⟨_,rfl,rfl,_,rfl,qC (by decide+kernel) ?_⟩
  have lx:=QE (hT z0 af);have ly:=QE (hT y hy);have k':∀(v:V) (H':Hp),Same H H'->Is H' (joinD (B z0) (B y)) v->Q v H':=k;have U:Is H1 (B y) Y:=j2;generalize B z0=dx at j1 k' lx⊢;generalize B y=dy at U k' ly⊢;refine⟨_,rfl,v1,"str",tyD dx,isStr dx,rfl,j1.ty,Qv _,_,rfl,?_⟩;have no:isStr dx=false->Is H1 (joinD dx dy) .non:=fun h=>by cases dx<;>first|(cases dy<;>rfl)|simp [isStr] at h
  have aq:isStr dy=false->Is H1 (joinD dx dy) .non:=fun h=>by cases dy<;>first|(cases dx<;>rfl)|simp [isStr] at h
  cases ht:isStr dx with
  |false=>
   refine iteF ?_;refine p4 (by decide+kernel) ?_
   refine p5 (by decide+kernel) ?_
   refine p6 (by decide+kernel) ?_
   refine h7 _ _ ⟨_,rfl,(by show 2<=sizeLine;decide),fun l6 M=>⟨l6,_,rfl,.inl (SqL.of qg),rfl,rfl,_,rfl,qo (by decide+kernel) ?_⟩⟩
   exact h8 _ _ (k' _ _ (s1.trans (qb M _)) ((no ht).mono (qb M _).tk))
  |true=>
   refine iteT ⟨_,rfl,Y,"str",tyD dy,isStr dy,rfl,U.ty,Qv _,_,rfl,?_⟩;cases am:isStr dy with
   |false=>
    refine iteF ?_;refine p4 (by decide+kernel) ?_
    refine p5 (by decide+kernel) ?_
    refine p6 (by decide+kernel) ?_
    refine h7 _ _ ⟨_,rfl,(by show 2<=sizeLine;decide),fun l6 M=>⟨l6,_,rfl,.inl (SqL.of qg),rfl,rfl,_,rfl,qo (by decide+kernel) ?_⟩⟩
    exact h8 _ _ (k' _ _ (s1.trans (qb M _)) ((aq am).mono (qb M _).tk))
   |true=>
    refine iteT ?_;cases dx with
    |str z=>
     cases dy with
     |str z2=>
      obtain⟨rfl,_⟩:=j1;obtain⟨rfl,_⟩:=U;have h1:z.length<=600:=lx;have h2:z2.length<=600:=ly;exact⟨_,rfl,_,rfl,_,_,rfl,rfl,fits (by omega),k' _ H1 s1 ⟨rfl,by rw [show(z++z2).length=z.length+z2.length from jS z z2];exact fits (by omega)⟩⟩
     |_=>simp [isStr] at am
    |_=>simp [isStr] at ht
 ·obtain⟨O,Z,ac⟩:=aa (by decide+kernel)
  obtain⟨Y,g2,i2⟩:=hB.get Z;refine qC (u7 (by rw [uf];omega)) ⟨_,rfl,d,rfl,hB.isD,_,rfl,?_⟩
  dsimp only [tC];refine QN (i:=2) hw O ⟨some Y,g2,?_⟩;refine h1 _ _ ⟨_,rfl,(by show 4<=sizeLine;decide),fun I L=>⟨I,_,rfl,.inl (SqL.of qg),rfl,rfl,_,rfl,?_⟩⟩
  have s1:Same H (upd H I (.lst [.str "text",.str "self",.str "copy",.str "row"])):=qb L _;generalize upd H I (.lst [.str "text",.str "self",.str "copy",.str "row"])=H1 at s1⊢;refine qo (by decide+kernel) ?_
  have j1:=i1.mono s1.tk;have j2:=i2.mono s1.tk;have B1:=hB.same s1;obtain⟨x,y,rfl,hx,hy⟩:=yZ (qL R (by decide+kernel))
  cases ad;refine p2 (by decide+kernel) ?_
  refine p3 (by decide+kernel) ?_
  refine h4 _ _ ⟨_,rfl,rfl,_,rfl,qC (by decide+kernel) ?_⟩
  have ly:=QE (hT y hy);have hg:=hT y hy;have k':∀(v:V) (H':Hp),Same H H'->Is H' (zR (B y)) v->Q v H':=k;have U:Is H1 (B y) Y:=j2;generalize B y=dy at U k' ly hg⊢;cases dy with
  |str z=>
   obtain⟨rfl,hz⟩:=U;refine⟨_,rfl,.inl ⟨z,rfl,hz,_,_,rfl,rfl,_,rfl,?_⟩⟩;refine ite2 (fun c=> ?_) (fun c=> ?_)
   ·have h0:1<=z.length:=by have:=ud c;omega
    have k2:Is H1 (zR (.str z)) (.str ⟨#[z.cps.getD 0 0]⟩):=by
     show Is H1 (if z.length=0 then D.non else _) _
     rw [if_neg (by omega)]
     exact⟨rfl,qS (by show 1<=1000;decide)⟩
    exact⟨_,rfl,.inr (.inr ⟨z,0,_,rfl,rfl,hz,xu h0,k' _ H1 s1 k2⟩)⟩
   ·have h0:z.length=0:=by
     rcases vZ z.length with e|e
     ·exact e
     ·exact absurd (u7 (by omega)) c
    refine p5 (by decide+kernel) ?_
    refine p6 (by decide+kernel) ?_
    refine h7 _ _ ⟨_,rfl,(by show 2<=sizeLine;decide),fun l6 M=>⟨l6,_,rfl,.inl (SqL.of qg),rfl,rfl,_,rfl,qo (by decide+kernel) ?_⟩⟩
    exact h8 _ _ (k' _ _ (s1.trans (qb M _)) (by show Is _ (if z.length=0 then D.non else _) _;rw [if_pos h0];rfl))
  |tup xs=>
   have ae:=U;obtain⟨r,rs,rfl,er,ir⟩:=ae;refine⟨_,rfl,.inr ⟨r,rs,rfl,.inr (SqT.of er),fun _=>⟨_,_,rfl,rfl,_,rfl,?_⟩⟩⟩;have hl:=ir.length;cases xs with
   |nil=>
    refine qo (uc (by rw [hl];decide)) ?_
    refine p5 (by decide+kernel) ?_
    refine p6 (by decide+kernel) ?_
    refine h7 _ _ ⟨_,rfl,(by show 2<=sizeLine;decide),fun l6 M=>⟨l6,_,rfl,.inl (SqL.of qg),rfl,rfl,_,rfl,qo (by decide+kernel) ?_⟩⟩
    exact h8 _ _ (k' _ _ (s1.trans (qb M _)) rfl)
   |cons e es=>
    refine qC (u7 (by rw [hl,uh];omega)) ?_
    exact⟨_,rfl,.inr (.inl (QF (i:=0) (d:=e) U (qQ (j:=0) rfl) fun q hq=>k' _ H1 s1 hq))⟩
  |_=>simp [isT,good] at hg
 ·obtain⟨O,Z,ac⟩:=aa (by decide+kernel)
  obtain⟨Y,g2,i2⟩:=hB.get Z;refine qC (u7 (by rw [uf];omega)) ⟨_,rfl,d,rfl,hB.isD,_,rfl,?_⟩
  dsimp only [tC];refine QN (i:=2) hw O ⟨some Y,g2,?_⟩;refine h1 _ _ ⟨_,rfl,(by show 4<=sizeLine;decide),fun I L=>⟨I,_,rfl,.inl (SqL.of qg),rfl,rfl,_,rfl,?_⟩⟩
  have s1:Same H (upd H I (.lst [.str "text",.str "self",.str "copy",.str "row"])):=qb L _;generalize upd H I (.lst [.str "text",.str "self",.str "copy",.str "row"])=H1 at s1⊢;refine qo (by decide+kernel) ?_
  have j1:=i1.mono s1.tk;have j2:=i2.mono s1.tk;have B1:=hB.same s1;obtain⟨x,y,rfl,hx,hy⟩:=yZ (qL R (by decide+kernel))
  cases ad;refine p2 (by decide+kernel) ?_
  refine p3 (by decide+kernel) ?_
  refine p4 (by decide+kernel) ?_
  refine h5 _ _ ⟨_,rfl,rfl,_,rfl,qC (by decide+kernel) ?_⟩
  have ly:=QE (hT y hy);have hg:=hT y hy;have k':∀(v:V) (H':Hp),Same H H'->Is H' (restD (B y)) v->Q v H':=k;have U:Is H1 (B y) Y:=j2;generalize B y=dy at U k' ly hg⊢;cases dy with
  |str z=>
   obtain⟨rfl,hz⟩:=U;refine⟨_,rfl,.inl ⟨z,rfl,hz,_,_,rfl,rfl,_,rfl,?_⟩⟩;refine ite2 (fun c=> ?_) (fun c=> ?_)
   ·have h0:1<=z.length:=by have:=ud c;omega
    have k2:Is H1 (restD (.str z)) (.str (Txt.slice z (some 1) none)):=by
     show Is H1 (if z.length=0 then D.non else _) _
     rw [if_neg (by omega)]
     exact⟨rfl,uK (Txt.slice_le z _ _) hz⟩
    exact⟨_,rfl,_,rfl,.inl ⟨z,rfl,hz,k' _ H1 s1 k2⟩⟩
   ·have h0:z.length=0:=by
     rcases vZ z.length with e|e
     ·exact e
     ·exact absurd (u7 (by omega)) c
    refine p6 (by decide+kernel) ?_
    refine h7 _ _ ⟨_,rfl,(by show 2<=sizeLine;decide),fun l6 M=>⟨l6,_,rfl,.inl (SqL.of qg),rfl,rfl,_,rfl,qo (by decide+kernel) ?_⟩⟩
    exact h8 _ _ (k' _ _ (s1.trans (qb M _)) (by show Is _ (if z.length=0 then D.non else _) _;rw [if_pos h0];rfl))
  |tup xs=>
   have ae:=U;obtain⟨r,rs,rfl,er,ir⟩:=ae;refine⟨_,rfl,.inr ⟨r,rs,rfl,.inr (SqT.of er),fun _=>⟨_,_,rfl,rfl,_,rfl,?_⟩⟩⟩;have hl:=ir.length;cases xs with
   |nil=>
    refine qo (uc (by rw [hl];decide)) ?_
    refine p6 (by decide+kernel) ?_
    refine h7 _ _ ⟨_,rfl,(by show 2<=sizeLine;decide),fun l6 M=>⟨l6,_,rfl,.inl (SqL.of qg),rfl,rfl,_,rfl,qo (by decide+kernel) ?_⟩⟩
    exact h8 _ _ (k' _ _ (s1.trans (qb M _)) rfl)
   |cons e es=>
    refine qC (u7 (by rw [hl,uh];omega)) ?_
    obtain⟨v0,r0,rfl,i0,au⟩:=ir;refine⟨_,rfl,_,rfl,.inr ⟨r,v0::r0,rfl,SqT.of er,fun h=> ?_,fun _ p hp=> ?_⟩⟩
    ·exfalso;have:=h.1;simp [HT.sIx] at this
    ·have e1:cutV (v0::r0) (some 1) none=r0:=by
      rw [show(some (1:Int))=some (((1:Nat)):Int) from rfl,YS (by simp)]
      rfl
     rw [e1];exact k' _ _ (s1.trans (qb hp _)) (Is.new au hp)
  |_=>simp [isT,good] at hg
 ·obtain⟨O,Z,ac⟩:=aa (by decide+kernel)
  obtain⟨Y,g2,i2⟩:=hB.get Z;refine qC (u7 (by rw [uf];omega)) ⟨_,rfl,d,rfl,hB.isD,_,rfl,?_⟩
  dsimp only [tC];refine QN (i:=2) hw O ⟨some Y,g2,?_⟩;refine h1 _ _ ⟨_,rfl,(by show 4<=sizeLine;decide),fun I L=>⟨I,_,rfl,.inl (SqL.of qg),rfl,rfl,_,rfl,?_⟩⟩
  have s1:Same H (upd H I (.lst [.str "text",.str "self",.str "copy",.str "row"])):=qb L _;generalize upd H I (.lst [.str "text",.str "self",.str "copy",.str "row"])=H1 at s1⊢;refine qo (by decide+kernel) ?_
  have j1:=i1.mono s1.tk;have j2:=i2.mono s1.tk;have B1:=hB.same s1;obtain⟨x,y,rfl,hx,hy⟩:=yZ (qL R (by decide+kernel))
  cases ad;refine p2 (by decide+kernel) ?_
  refine p3 (by decide+kernel) ?_
  refine p4 (by decide+kernel) ?_
  refine p5 (by decide+kernel) ?_
  refine h6 _ _ ⟨_,rfl,rfl,_,rfl,qC (by decide+kernel) ?_⟩
  have ly:=QE (hT y hy);have hg:=hT y hy;have k':∀(v:V) (H':Hp),Same H H'->Is H' (.str (toString ((lenD (B y):Nat):Int))) v->Q v H':=k;have U:Is H1 (B y) Y:=j2;generalize B y=dy at U k' ly hg⊢;have sm:∀n:Nat,n<=600->((n:Int)).natAbs.log2<1920/\((toString (n:Int):Str)).length<=sizeLine:=by
   intro n hn;have h2:=Uv ((n:Int)).natAbs;exact⟨by omega,int_text_fits (by omega)⟩
  cases dy with
  |str z=>
   obtain⟨rfl,hz⟩:=U;have h2:=sm z.length ly;exact⟨_,rfl,.inl ⟨z,rfl,hz,_,rfl,h2.1,k' _ H1 s1 ⟨rfl,h2.2⟩⟩⟩
  |tup xs=>
   have ae:=U;obtain⟨r,rs,rfl,er,ir⟩:=ae;have h2:=sm xs.length ly;refine⟨_,rfl,.inr ⟨r,rs,rfl,.inr (SqT.of er),fun _=>⟨_,rfl,?_,?_⟩⟩⟩
   ·rw [ir.length];exact h2.1
   ·rw [ir.length];exact k' _ H1 s1 ⟨rfl,h2.2⟩
  |_=>simp [isT,good] at hg
 ·obtain⟨O,Z,ac⟩:=aa (by decide+kernel)
  obtain⟨Y,g2,i2⟩:=hB.get Z;refine qC (u7 (by rw [uf];omega)) ⟨_,rfl,d,rfl,hB.isD,_,rfl,?_⟩
  dsimp only [tC];refine QN (i:=2) hw O ⟨some Y,g2,?_⟩;refine h1 _ _ ⟨_,rfl,(by show 4<=sizeLine;decide),fun I L=>⟨I,_,rfl,.inl (SqL.of qg),rfl,rfl,_,rfl,?_⟩⟩
  have s1:Same H (upd H I (.lst [.str "text",.str "self",.str "copy",.str "row"])):=qb L _;generalize upd H I (.lst [.str "text",.str "self",.str "copy",.str "row"])=H1 at s1⊢;refine qo (by decide+kernel) ?_
  have j1:=i1.mono s1.tk;have j2:=i2.mono s1.tk;have B1:=hB.same s1;refine p2 (by decide+kernel) ?_
  refine p3 (by decide+kernel) ?_
  refine p4 (by decide+kernel) ?_
  refine p5 (by decide+kernel) ?_
  refine p6 (by decide+kernel) ?_
  refine h7 _ _ ⟨_,rfl,(by show 2<=sizeLine;decide),fun l6 M=>⟨l6,_,rfl,.inl (SqL.of qg),rfl,rfl,_,rfl,qC (by decide+kernel) ?_⟩⟩
  obtain⟨x,y,z,rfl,hx,hy,hz⟩:=sh_bbb (qL R (by decide+kernel))
  have s2:Same H (upd H1 l6 (.lst [.str "cut",.str "glue"])):=s1.trans (qb M _);have B2:=hB.same s2;obtain⟨v3,g3,i3⟩:=B2.get hz;refine⟨_,rfl,_,rfl,_,rfl,_,rfl,?_⟩;dsimp only [tC];have ak:(wds ("cut",[.s x,.s y,.s z]))[3]? =some z:=by rw [Q7 hn (ks:= [.box,.box,.box]) (show(("cut":Str),[Kd.box,.box,.box])∈FRM by decide+kernel) (qL R (by decide+kernel)) (by decide)];rfl
  refine QN (i:=3) (show WdAt _ p ("cut",[.s x,.s y,.s z]) from s2 _ _ hw) ak ⟨d,v3,rfl,g3,?_⟩
  exact⟨"cut",Y,v3,B y,B z,rfl,.inl rfl,i2.mono s2.tk,i3,hT y hy,hT z hz,fun v H' s3 hv=>k v H' (s2.trans s3) hv⟩
 ·obtain⟨O,Z,ac⟩:=aa (by decide+kernel)
  obtain⟨Y,g2,i2⟩:=hB.get Z;refine qC (u7 (by rw [uf];omega)) ⟨_,rfl,d,rfl,hB.isD,_,rfl,?_⟩
  dsimp only [tC];refine QN (i:=2) hw O ⟨some Y,g2,?_⟩;refine h1 _ _ ⟨_,rfl,(by show 4<=sizeLine;decide),fun I L=>⟨I,_,rfl,.inl (SqL.of qg),rfl,rfl,_,rfl,?_⟩⟩
  have s1:Same H (upd H I (.lst [.str "text",.str "self",.str "copy",.str "row"])):=qb L _;generalize upd H I (.lst [.str "text",.str "self",.str "copy",.str "row"])=H1 at s1⊢;refine qo (by decide+kernel) ?_
  have j1:=i1.mono s1.tk;have j2:=i2.mono s1.tk;have B1:=hB.same s1;refine p2 (by decide+kernel) ?_
  refine p3 (by decide+kernel) ?_
  refine p4 (by decide+kernel) ?_
  refine p5 (by decide+kernel) ?_
  refine p6 (by decide+kernel) ?_
  refine h7 _ _ ⟨_,rfl,(by show 2<=sizeLine;decide),fun l6 M=>⟨l6,_,rfl,.inl (SqL.of qg),rfl,rfl,_,rfl,qC (by decide+kernel) ?_⟩⟩
  obtain⟨x,y,z,rfl,hx,hy,hz⟩:=sh_bbb (qL R (by decide+kernel))
  have s2:Same H (upd H1 l6 (.lst [.str "cut",.str "glue"])):=s1.trans (qb M _);have B2:=hB.same s2;obtain⟨v3,g3,i3⟩:=B2.get hz;refine⟨_,rfl,_,rfl,_,rfl,_,rfl,?_⟩;dsimp only [tC];have ak:(wds ("glue",[.s x,.s y,.s z]))[3]? =some z:=by rw [Q7 hn (ks:= [.box,.box,.box]) (show(("glue":Str),[Kd.box,.box,.box])∈FRM by decide+kernel) (qL R (by decide+kernel)) (by decide)];rfl
  refine QN (i:=3) (show WdAt _ p ("glue",[.s x,.s y,.s z]) from s2 _ _ hw) ak ⟨d,v3,rfl,g3,?_⟩
  exact⟨"glue",Y,v3,B y,B z,rfl,.inr rfl,i2.mono s2.tk,i3,hT y hy,hT z hz,fun v H' s3 hv=>k v H' (s2.trans s3) hv⟩
theorem dpL_strs:∀l:List Str,dpL (l.map D.str)<=1
 | []=>by simp [dpL]
 |z::l=>by
  have:=dpL_strs l;simp only [uk,dpL,dp];omega
theorem putD_dp {d e:D}(h1:dp d<=12)(h2:dp e<=12):dp (putD d e)<=20:=by
 cases d with
 |tup xs=>
  show dp (.tup (xs++ [e]))<=20;simp only [dp] at h1⊢;rw [zh];simp only [dpL];omega
 |_=>exact uD _
theorem joinD_dp (d e:D):dp (joinD d e)<=20:=by
 cases d with
 |str x=>
  cases e with
  |str y=>show 1<=20;decide
  |_=>exact uD _
 |_=>exact uD _
theorem firstD_dp {d:D}(h:dp d<=12):dp (zR d)<=20:=by
 cases d with
 |str z=>
  show dp (if z.length=0 then D.non else D.str _)<=20
  by_cases c:z.length=0
  ·rw [if_pos c];exact uD _
  ·rw [if_neg c];show 1<=20;decide
 |tup xs=>
  cases xs with
  |nil=>exact uD _
  |cons x r=>
   have:=dp_row (uE (a:=x) (l:=r));show dp x<=20;omega
 |_=>exact uD _
theorem restD_dp {d:D}(h:dp d<=12):dp (restD d)<=20:=by
 cases d with
 |str z=>
  show dp (if z.length=0 then D.non else D.str _)<=20
  by_cases c:z.length=0
  ·rw [if_pos c];exact uD _
  ·rw [if_neg c];show 1<=20;decide
 |tup xs=>
  cases xs with
  |nil=>exact uD _
  |cons x r=>
   show dp (.tup r)<=20;simp only [dp,dpL] at h⊢;omega
 |_=>exact uD _
theorem cutD_dp (d e:D):dp (cutD d e)<=20:=by
 cases d with
 |str x=>
  cases e with
  |str y=>
   show dp (if y.length=0 then D.non else D.tup ((spG x y).map D.str))<=20
   by_cases c:y.length=0
   ·rw [if_pos c];exact uD _
   ·rw [if_neg c];have:=dpL_strs (spG x y);simp only [dp];omega
  |_=>exact uD _
 |_=>exact uD _
theorem glueD_dp (d e:D):dp (glueD d e)<=20:=by
 cases d with
 |tup xs=>
  cases e with
  |str y=>
   show dp (if yx xs=true then D.str _ else D.non)<=20
   by_cases c:yx xs=true
   ·rw [if_pos c];show 1<=20;decide
   ·rw [if_neg c];exact uD _
  |_=>exact uD _
 |_=>exact uD _
theorem made_dp {n:Nat}{O:Str}{ps:List Pt}{B:Str->D}{own:Str}(U:Tr B)(I:QD n 125 (O,ps))(R:O∈MKR):dp (made O B own ps)<=20:=by
 have tb:∀z∈BX,dp (B z)<=12:=fun z Y=>YV (U z Y);simp only [MKR,uA,v7,v9] at R;rcases R with rfl|rfl|rfl|rfl|rfl|rfl|rfl|rfl|rfl|rfl|rfl
 ·show 1<=20;decide
 ·show 1<=20;decide
 ·obtain⟨x,y,rfl,M,L⟩:=yZ (qL I (by decide+kernel))
  have:=tb y L;show dp (B y)<=20;omega
 ·show 1<=20;decide
 ·obtain⟨x,y,rfl,M,L⟩:=yZ (qL I (by decide+kernel))
  exact putD_dp (tb x M) (tb y L)
 ·exact joinD_dp _ _
 ·obtain⟨x,y,rfl,M,L⟩:=yZ (qL I (by decide+kernel))
  exact firstD_dp (tb y L)
 ·obtain⟨x,y,rfl,M,L⟩:=yZ (qL I (by decide+kernel))
  exact restD_dp (tb y L)
 ·show 1<=20;decide
 ·exact cutD_dp _ _
 ·exact glueD_dp _ _
theorem askF_L (w:Str)(d:D):(∃z:Str,z.length<=100/\askL w d= .str z/\askF w d=flt z)∨(∃e,isStr (askL w d)=false/\askL w d=e/\askF w d= .tup [.str "asks",askL w d]):=by
 unfold askL askF;by_cases c:w="names"
 ·rw [if_pos c,if_pos c];cases h:isStr d with
  |true=>exact .inr ⟨_,rfl,rfl,rfl⟩
  |false=>exact .inl ⟨_,by decide,rfl,rfl⟩
 ·rw [if_neg c,if_neg c];cases h:isNm d with
  |true=>exact .inr ⟨_,rfl,rfl,rfl⟩
  |false=>exact .inl ⟨_,by decide,rfl,rfl⟩
theorem wds1 {n:Nat}{r:Rw}{O:Str}{Z:List Pt}(hn:n<=40)(M:QD n 125 r)(hs:r.1∈MKR)(I:r.2= .s O::Z):(wds r)[1]? =some O:=by
 obtain⟨ks,R,U⟩:=id M;obtain⟨Y,ps⟩:=r;simp only at I hs;by_cases L:Kd.words∈ks
 ·rcases ZA _ R with e|e
  ·simp at e;exact absurd L e
  ·have e1:ks= [.box,.words]:=congrArg Prod.snd e;have e2:Y="text":=congrArg Prod.fst e;subst e1 e2;obtain⟨x,y,rfl,hx,_⟩:=sh_bw U;cases I;obtain⟨tl,e3,_⟩:=xq (y:=y) hx;rw [e3]
   rfl
 ·rw [Q7 hn R U L];show(Y::ps.map Pt.t)[1]? =_;rw [I]
  rfl
theorem rule_get {rs:List Rw}{H:Hp}{v:V}{K:PySem.W.Frag}{at':Nat}{Q:VK}(I:Is H (QY rs) v)(h:at'<rs.length)(q:Q (.str (qB (yj rs ((at':Int)+1)))) H):rIxT K v (.int (at':Int)) H Q:=by
 have e:=row_at (rs:=rs) (p:=(at':Int)+1) (by omega) (by omega)
 have L:((at':Int)+1).toNat-1=at':=by omega
 rw [L] at e;refine QF (d:= .str (qB (yj rs ((at':Int)+1)))) I (qQ (by rw [uI,e];rfl)) fun x M=> ?_
 obtain⟨rfl,_⟩:=M;exact q
def y6:D->Bool
 | .non=>true
 |_=>false
def Zt:D->D
 | .tup [_,d]=>d
 |d=>d
noncomputable def askStep (k:(Str->D)->Int->Nat->List D->List D->List D×D×Nat)(B:Str->D)(z:Str)(p:Int)(n:Nat)(gs:List D)(e:D):List D->List D×D×Nat
 | []=>(gs,e,n)
 |a::as=>if y6 a=true then(gs++ [.tup [Zt e,a]],flt "lack",n+1) else k (setB B z a) (p+1) (n+1) as (gs++ [.tup [Zt e,a]])
noncomputable def goF (rs:List Rw)(own:Str):Nat->(Str->D)->Int->Nat->List D->List D->List D×D×Nat
 |0,_,p,n,_,gs=>(gs,if p>rs.length then flt "silent" else flt "long",n)
 |f+1,B,p,n,as,gs=>if p>rs.length then(gs,flt "silent",n) else match rowO own (yj rs p) B p with
  | .go B' p'=>goF rs own f B' p' (n+1) as gs
  | .stop e=>if qZ e=true then askStep (goF rs own f) B (b0 (yj rs p).2) p n gs e as else(gs,e,n+1)
def jI (d:D):Prop:=d= .non∨isT d=true
theorem ix_or {K:PySem.W.Frag}{H:Hp}{I:Addr}{L:List V}{i:Int}{va:V}{Q:VK}(h:H I=some (.lst L)∨H I=some (.tup L))(e:atI L i=some va)(q:Q va H):rIx K (.ref I) (.int i) H Q:=by
 rcases h with h|h
 ·exact .inl ⟨I,L,_,va,rfl,rfl,SqL.of h,e,q⟩
 ·exact .inr (.inl ⟨I,L,_,va,rfl,rfl,SqT.of h,e,q⟩)
theorem sq_or {K:PySem.W.Frag}{H:Hp}{I:Addr}{L:List V}(h:H I=some (.lst L)∨H I=some (.tup L)):SqL K H I L∨SqT K H I L:=h.elim (fun h=> .inl (SqL.of h)) fun h=> .inr (SqT.of h)
theorem zW {H H':Hp}{I:Addr}{L:List V}(h:H I=some (.lst L)∨H I=some (.tup L))(s:Same H H'):H' I=some (.lst L)∨H' I=some (.tup L):=h.elim (fun h=> .inl (s _ _ h)) fun h=> .inr (s _ _ h)
def sp_lgo:Sp:=fun vs H Q _=>∃(v:V) (own:Str) (la:Addr) (rs:List Rw) (as:List D) (av:List V),vs= [v,.str own,.ref la]/\(H la=some (.lst av)∨H la=some (.tup av))/\L2.IsL H as av/\(∀d∈as,jI d)/\as.length<=1000/\Is H (QY rs) v/\QA rs/\own.length<=100/\
 ∀(u:V) (H':Hp),Same H H'->Is H' (.tup [.tup (goF rs own 300 B0 1 0 as []).1,(goF rs own 300 B0 1 0 as []).2.1,.int ((goF rs own 300 B0 1 0 as []).2.2:Int)]) u->Q u H'
theorem wds1a {n:Nat}{r:Rw}(hn:n<=40)(I:QD n 125 r)(U:r.1∈ASK):∃L Y,r.2= [.s L,.s Y]/\L∈BX/\(wds r)[1]? =some L:=by
 obtain⟨ks,M,O⟩:=id I;obtain⟨_,_,R⟩:=JF _ M U;simp only at R;subst R;obtain⟨x,y,e,Z,hy⟩:=yZ O;refine⟨x,y,e,Z,?_⟩;rw [Q7 hn M O (by decide)]
 show(r.1::r.2.map Pt.t)[1]? =_;rw [e]
 rfl
theorem zZ {H:Hp}{d:D}{u:V}(I:Is H d u)(L:d≠ .non):u≠ .non:=by
 rintro rfl;cases d with
 |non=>exact L rfl
 |bl b=>cases(show V.non= .bl b from I)
 |int i=>cases(show V.non= .int i from I)
 |str z=>obtain⟨h,_⟩:=I;cases h
 |lst=>obtain⟨_,_,h,_⟩:=I;cases h
 |dct=>obtain⟨_,_,h,_⟩:=I;cases h
 |tup xs=>obtain⟨_,_,h,_⟩:=I;cases h
theorem lc_abc {A:Addr}{H1:Hp}{te:TE}{tl:L2.St}{Q:VK}(U:H1 A=none)
  (L:∀(z:Str) H (R:VK),z.length<=sizeLine->Same H1 H->(∀y H',Same H H'->Is H' (emp z) y->R y H')->te (some (.str z)::tl) H R)
  (Y:∀H' ys,Same H1 H'->H' A=some (.lst ys)->L2.IsL H' (BX.map emp) ys->Q (.ref A) H'):lcGo A (Its "abcdefgh") (Y3 0) tYes te (none::tl) H1 Q:=by
 have Z:BX=("abcdefgh":Str).cps.toList.map fun c=>(⟨#[c]⟩:Str):=by decide+kernel
 have O:("abcdefgh":Str).cps.size=BX.length:=by decide+kernel
 refine lc_data (ds:=BX.map D.str) (fun d=>match d with| .str z=>emp z|d=>d) (qS (by decide)) U (fun i H I hi=>by show i<("abcdefgh":Str).cps.size;rw [O];simpa using hi) (fun i H x H' d I hd y=> ?_) (fun H I=>by show(BX.map D.str).length=("abcdefgh":Str).cps.size;rw [O,uf]) (fun d x H R hd I hx r=> ?_) (fun H' ys I e h=>Y H' ys I e ?_)
 ·obtain⟨rfl,c,hc,rfl⟩:=y;refine⟨rfl,?_⟩;rw [Z,uN,uI] at hd;have M:("abcdefgh":Str).cps.toList[i]? =some c:=by simpa using hc
  rw [M] at hd;cases hd;exact⟨rfl,qS (by show 1<=1000;decide)⟩
 ·obtain⟨z,_,rfl⟩:=List.mem_map.mp hd;obtain⟨rfl,hz⟩:=hx;exact L z H R hz I r
 ·rw [uN] at h;exact h
theorem ok_lgo (T:Tx K mg a):FnOk P w K mg base CX0 24 a.f_law_go a.d_law_go ["rule","own","answers"] sp_lgo:=by
 have ah:=ok_said (P:=P) (w:=w) (base:=base) T;have ak:=ok_next (P:=P) (w:=w) (base:=base) T;have au:=ok_lask (P:=P) (w:=w) (base:=base) T;have al:=ok_held (P:=P) (w:=w) (base:=base) T;have Zx:=ok_lt (P:=P) (w:=w) (base:=base) T;refine T.g_law_go.F.ok Qb () (fun _ _ _ _ H _ Q E hr h=> ?_)
 obtain⟨v,own,la,rs,as,av,rfl,a4,a5,a6,cg,hv,hR,bG,k⟩:=h;refine⟨_,(@qc _ _ _ _ _ (@qx _ _ (3) _ _ _ _ Qb.nd rfl (Or.inl rfl) (@qR _ _ _ _ _ _ _ _ _ (@zQ _ rfl) () T.z_dict boot_dict (@qa _ _ _ _ _ (@jk _ _ (["box"]) (1) ([]) _ _ _ _ _ _ _ _ _ (lcs0) rfl (@pi_str _ _ _ _ qi) (fun _ _ _ _ _ _=>(@qN _ _ (0) _ (show List.Nodup (["box"]:List Str) by decide+kernel) rfl (Or.inl rfl) ())) (fun _ _ _ _ _ _=> @QG _) (fun _ _ _ _ _ _=>(@qD _ _ _ _ _ (@qa _ _ _ _ _ (pv 0) (@qa _ _ _ _ _ qi qe ()) ()))) ()) qe ()) () () () ()) () ()) (@qc _ _ _ _ _ (@qx _ _ (4) _ _ _ _ Qb.nd rfl (Or.inl rfl) (@Qo _ _ _ _ qe) () ()) (@qc _ _ _ _ _ (@qx _ _ (5) _ _ _ _ Qb.nd rfl (Or.inl rfl) qh () ()) (@qc _ _ _ _ _ (@js _ _ _ _ _ _ _ _ uX rfl (@yf _ _ _ _ _ _ () T.Yn (@qa _ _ _ _ _ qh qe ()) ()) (@qN _ _ (6) _ Qb.nd rfl (Or.inl rfl) ()) (@qc _ _ _ _ _ (@qH _ _ _ _ _ _ _ _ (@qk _ _ _ _ _ _ _ _ op_ge (pv 5) (@qj _ _ _ _ _ _ _ _ _ qE () T.Qy uv (@qa _ _ _ _ _ (pv 0) qe ()) () () () ()) (qu _)) (@qf _ _ _ (@ql _ _ _ _ (@qD _ _ _ _ _ (@qa _ _ _ _ _ (@qR _ _ _ _ _ _ _ _ _ qU () T.Qm uY (@qa _ _ _ _ _ (pv 4) qe ()) () () () ()) (@qa _ _ _ _ _ (@qD _ _ _ _ _ (@qa _ _ _ _ _ qi (@qa _ _ _ _ _ qi qe ()) ())) (@qa _ _ _ _ _ (pv 6) qe ()) ()) ())))) qp) (@qc _ _ _ _ _ (@qx _ _ (7) _ _ _ _ Qb.nd rfl (Or.inl rfl) (@Yo _ _ _ _ _ _ _ _ _ _ _ _ uH vC vD zY (@qG _ _ _ _ _ _ _ qT (pv 0) (pv 5) (fun _ _=>rfl)) (@qa _ _ _ _ _ qi qe ()) () () () () ()) () ()) (@qc _ _ _ _ _ (@qH _ _ _ _ _ _ _ _ (@qk _ _ _ _ _ _ _ _ Qq (@qG _ _ _ _ _ _ _ qP (pv 7) qh (fun _ _=>rfl)) (@Qo _ _ _ _ (@qa _ _ _ _ _ qi (@qa _ _ _ _ _ qi qe ()) ())) (by with_unfolding_all rfl)) (@qf _ _ _ (@ql _ _ _ _ (@qD _ _ _ _ _ (@qa _ _ _ _ _ (@qR _ _ _ _ _ _ _ _ _ qU () T.Qm uY (@qa _ _ _ _ _ (pv 4) qe ()) () () () ()) (@qa _ _ _ _ _ (@qt _ _ _ _ _ _ _ _ _ _ _ _ _ _ _ _ ah (hr.mono ()) () T.g_law_said.m T.g_law_said.F.kp T.g_law_said.b .nil qK (@qa _ _ _ _ _ (pv 3) (@qa _ _ _ _ _ (pv 7) qe ()) ()) () () ()) (@qa _ _ _ _ _ (@qO _ _ _ _ _ _ _ _ Qd (pv 6) qh) qe ()) ()) ())))) qp) (@qc _ _ _ _ _ (@qH _ _ _ _ _ _ _ _ (@qk _ _ _ _ _ _ _ _ Qq (@qG _ _ _ _ _ _ _ qP (pv 7) qh (fun _ _=>rfl)) (@Qo _ _ _ _ (@qa _ _ _ _ _ qi (@qa _ _ _ _ _ qi (@qa _ _ _ _ _ qi (@qa _ _ _ _ _ qi qe ()) ()) ()) ())) (by with_unfolding_all rfl)) (@qc _ _ _ _ _ (@qx _ _ (5) _ _ _ _ Qb.nd rfl (Or.inl rfl) (@qt _ _ _ _ _ _ _ _ _ _ _ _ _ _ _ _ ak (hr.mono ()) () T.g_law_next.m T.g_law_next.F.kp T.g_law_next.b .nil qK (@qa _ _ _ _ _ (pv 3) (@qa _ _ _ _ _ (pv 7) (@qa _ _ _ _ _ (pv 5) qe ()) ()) ()) () () ()) () ()) (@qf _ _ _ ps_continue)) qp) (@qc _ _ _ _ _ (@qx _ _ (8) _ _ _ _ Qb.nd rfl (Or.inl rfl) Qg () ()) (@qc _ _ _ _ _ (@qx _ _ (9) _ _ _ _ Qb.nd rfl (Or.inl rfl) qi () ()) (@qc _ _ _ _ _ (@qH _ _ _ _ _ _ _ _ (@qk _ _ _ _ _ _ _ _ Qq (@qG _ _ _ _ _ _ _ qP (pv 7) qh (fun _ _=>rfl)) (@Qo _ _ _ _ (@qa _ _ _ _ _ qi (@qa _ _ _ _ _ qi (@qa _ _ _ _ _ qi qe ()) ()) ())) (by with_unfolding_all rfl)) (@qc _ _ _ _ _ (@qx _ _ (10) _ _ _ _ Qb.nd rfl (Or.inl rfl) (@qt _ _ _ _ _ _ _ _ _ _ _ _ _ _ _ _ au (hr.mono ()) () T.g_law_ask.m T.g_law_ask.F.kp T.g_law_ask.b .nil qK (@qa _ _ _ _ _ (pv 3) (@qa _ _ _ _ _ (pv 7) qe ()) ()) () () ()) () ()) (@qf _ _ _ (@qH _ _ _ _ _ _ _ _ (@qV _ _ _ (@qj _ _ _ _ _ _ _ _ _ (@qz _ _ rfl) () T.qv uz (@qa _ _ _ _ _ (pv 10) (@qa _ _ _ _ _ (@qY _ _ (.ty "str") _ _ () T.ym vw rfl () ()) qe ()) ()) () () () ()) ()) (@qf _ _ _ (@qx _ _ (9) _ _ _ _ Qb.nd rfl (Or.inl rfl) (pv 10) () ())) (@qf _ _ _ (@qH _ _ _ _ _ _ _ _ (@qk _ _ _ _ _ _ _ _ Qh (@qj _ _ _ _ _ _ _ _ _ qE () T.Qy uv (@qa _ _ _ _ _ (pv 4) qe ()) () () () ()) (@qj _ _ _ _ _ _ _ _ _ call_lenB () T.Qy uv (@qa _ _ _ _ _ (pv 2) qe ()) () () () ()) (qu _)) (@qf _ _ _ (@ql _ _ _ _ (@qD _ _ _ _ _ (@qa _ _ _ _ _ (@qR _ _ _ _ _ _ _ _ _ qU () T.Qm uY (@qa _ _ _ _ _ (pv 4) qe ()) () () () ()) (@qa _ _ _ _ _ (@qD _ _ _ _ _ (@qa _ _ _ _ _ qi (@qa _ _ _ _ _ (pv 10) qe ()) ())) (@qa _ _ _ _ _ (pv 6) qe ()) ()) ())))) (@qc _ _ _ _ _ (@qx _ _ (8) _ _ _ _ Qb.nd rfl (Or.inl rfl) (@qG _ _ _ _ _ _ _ yt (pv 2) (@qj _ _ _ _ _ _ _ _ _ qE () T.Qy uv (@qa _ _ _ _ _ (pv 4) qe ()) () () () ()) (fun _ _=>rfl)) () ()) (@qc _ _ _ _ _ (@yq _ _ _ _ (@Yo _ _ _ _ _ _ _ _ _ _ _ _ vm U5 U6 YW (pv 4) (@qa _ _ _ _ _ (@qD _ _ _ _ _ (@qa _ _ _ _ _ (pv 10) (@qa _ _ _ _ _ (pv 8) qe ()) ())) qe ()) () () () () ()) ()) (@qf _ _ _ (@qx _ _ (9) _ _ _ _ Qb.nd rfl (Or.inl rfl) qi () ()))))))))) (@qf _ _ _ (@qx _ _ (8) _ _ _ _ Qb.nd rfl (Or.inl rfl) (@qt _ _ _ _ _ _ _ _ _ _ _ _ _ _ _ _ al (hr.mono ()) () T.g_law_held.m T.g_law_held.F.kp T.g_law_held.b .nil qK (@qa _ _ _ _ _ (pv 3) (@qa _ _ _ _ _ (pv 7) (@qa _ _ _ _ _ (@qG _ _ _ _ _ _ _ qT (pv 0) (pv 5) (fun _ _=>rfl)) (@qa _ _ _ _ _ (pv 1) qe ()) ()) ()) ()) () () ()) () ()))) (@qc _ _ _ _ _ (@qH _ _ _ _ _ _ _ _ (@jo _ _ _ _ _ _ _ (@qk _ _ _ _ _ _ _ _ op_notN (pv 8) Qg (qu _)) (@Yl _ _ _ _ (@Qk _ _ _ _ (@qV _ _ _ (@qt _ _ _ _ _ _ _ _ _ _ _ _ _ _ _ _ Zx (hr.mono ()) () T.g_law_is_tree.m T.g_law_is_tree.F.kp T.g_law_is_tree.b .nil qK (@qa _ _ _ _ _ (pv 8) qe ()) () () ()) ())))).pt (@qc _ _ _ _ _ (@qx _ _ (8) _ _ _ _ Qb.nd rfl (Or.inl rfl) Qg () ()) (@qf _ _ _ (@qx _ _ (9) _ _ _ _ Qb.nd rfl (Or.inl rfl) qi () ()))) qp) (@qc _ _ _ _ _ (@qH _ _ _ _ _ _ _ _ (@qk _ _ _ _ _ _ _ _ zo (pv 8) Qg (qu _)) (@qf _ _ _ (@ql _ _ _ _ (@qD _ _ _ _ _ (@qa _ _ _ _ _ (@qR _ _ _ _ _ _ _ _ _ qU () T.Qm uY (@qa _ _ _ _ _ (pv 4) qe ()) () () () ()) (@qa _ _ _ _ _ (@qD _ _ _ _ _ (@qa _ _ _ _ _ qi (@qa _ _ _ _ _ (pv 9) qe ()) ())) (@qa _ _ _ _ _ (@qO _ _ _ _ _ _ _ _ Qd (pv 6) qh) qe ()) ()) ())))) qp) (@qc _ _ _ _ _ (@ps_dput _ _ _ _ _ _ _ _ _ (QU hr) (pv 3) (@qG _ _ _ _ _ _ _ qP (pv 7) qh (fun _ _=>rfl)) (pv 8) rfl) (@qf _ _ _ (@qx _ _ (5) _ _ _ _ Qb.nd rfl (Or.inl rfl) (@qO _ _ _ _ _ _ _ _ Qd (pv 5) qh) () ())))))))))))) ()) (@qf _ _ _ (@ql _ _ _ _ (@qD _ _ _ _ _ (@qa _ _ _ _ _ (@qR _ _ _ _ _ _ _ _ _ qU () T.Qm uY (@qa _ _ _ _ _ (pv 4) qe ()) () () () ()) (@qa _ _ _ _ _ (@qD _ _ _ _ _ (@qa _ _ _ _ _ qi (@qa _ _ _ _ _ (@qG _ _ _ _ _ _ _ qP (@Qo _ _ _ _ (@qa _ _ _ _ _ qi (@qa _ _ _ _ _ qi qe ()) ())) (@qR _ _ _ _ _ _ _ _ _ call_int1 () T.z_int boot_int (@qa _ _ _ _ _ (@Qs _ _ _ _ _ _ _ _ op_ge (pv 5) (@qj _ _ _ _ _ _ _ _ _ qE () T.Qy uv (@qa _ _ _ _ _ (pv 0) qe ()) () () () ()) (qu _)) qe ()) () () () ()) (fun _ _=>rfl)) qe ()) ())) (@qa _ _ _ _ _ qh qe ()) ()) ())))))))),?_⟩
 dsimp only [cxOf,Cx.nox];have three:(3:Nat)<=sizeLine:=by decide
 have two:(2:Nat)<=sizeLine:=by decide
 have n0:=hR.n0;have n1:=hR.n1;generalize a7:goF rs own 300 B0 1 0 as []=res at k;have a8:av.length=as.length:=a5.length;have ay:∀(H':Hp) (gs:List D) (O:List V),Same H H'->L2.IsL H' gs O->∀(H1:Hp) (M:Addr) (ve:V) (e:D) (nn:Int),Same H' H1->H1 M=some (.tup O)->Is H1 e ve->(gs,e,nn.toNat)=res->0<=nn->∀U,H1 U=none->Q (.ref U) (upd H1 U (.tup [.ref M,ve,.int nn])):=by
  intro H' gs O sm gl H1 M ve e nn s1 e1 ie h1 h2 U a9;subst h1;refine k _ _ (sm.trans (s1.trans (qb a9 _))) (Is.new (ds:= [.tup gs,e,.int (nn.toNat:Int)]) ⟨_,_,rfl,⟨M,O,rfl,e1,gl.mono s1.tk⟩,_,_,rfl,ie,_,_,rfl,?_,rfl⟩ a9);show V.int nn=V.int ((nn.toNat:Nat):Int);rw [Int.toNat_of_nonneg h2]
 refine⟨"abcdefgh",rfl,fun A0 bH=> ?_⟩;refine lc_abc (tl:= []) bH (fun z H6 R hz s6 r=>⟨_,rfl,two,fun l hl=>r _ _ (qb hl _) (Is.new (ds:= [.str z,.str ""]) ⟨_,_,rfl,⟨rfl,hz⟩,_,_,rfl,⟨rfl,qS (by decide)⟩,rfl⟩ hl)⟩) fun H6 ys s6 e6 i6=> ?_
 refine⟨A0,_,rfl,prs_box e6 i6,bx_nodup,by decide,fun db aN=> ?_⟩
 have s7:Same H6 (upd H6 db (.dK (inrK (BX.map fun z=>(z,V.str ""))))):=qb aN _;have b7:=box_new aN;refine⟨(by show 0<=sizeLine;decide),fun L hL=> ?_⟩
 have s8:=qb hL (.lst []);have b8:=b7.same s8;have bI:Same H _:=s6.trans (s7.trans s8);have bb:∀b o,H b=some o->b≠db:=fun b o h=>qr (s6 b o h) aN;have bJ:H L=none:=by
  cases hc:H L with
  |none=>rfl
  |some o=>exact absurd hL (by rw [(s6.trans s7) _ _ hc];simp)
 have nL:L≠db:=(qr qg hL).symm;refine⟨300,rfl,by decide,by decide,?_⟩
 let J1_:Nat->L2.St->Hp->Prop:=fun i σ H'=>∃(B:Str->D) (at':Nat) (x6 x7 x8 x9 aO:Option V),σ= [some v,some (.str own),some (.ref la),some (.ref db),some (.ref L),some (.int (at':Int)),x6,x7,x8,x9,aO]/\Same H H'/\QH H' db B/\Tr B/\at'<=rs.length/\∃(gs rest dn:List D) (O:List V),H' L=some (.lst O)/\L2.IsL H' gs O/\as=dn++rest/\dn.length=gs.length/\goF rs own (300-i) B ((at':Int)+1) i rest gs=res
 refine Ya (n:=300) J1_ ⟨B0,0,_,_,_,_,_,rfl,bI,b8,B0_tr,by omega,[],as,[],[],qg,rfl,rfl,rfl,a7⟩ ?_ ?_
 ·rintro i σ H' hi ⟨B,at',x6,x7,x8,x9,aO,rfl,sm,hB,hT,bK,gs,rest,dn,O,eL,gl,ae,am,aw⟩;have aA:=hv.mono sm.tk;have aP:=aA;obtain⟨ta,us,rfl,aQ,iu⟩:=aP;have bL:us.length=rs.length:=by rw [iu.length,uf]
  have af:=ay H' gs O sm gl;have aR:O.length=gs.length:=gl.length;refine⟨_,rfl,_,rfl,ta,us,rfl,.inr (SqT.of aQ),_,_,rfl,rfl,_,rfl,?_⟩;refine ite2 (fun c=> ?_) (fun c=> ?_)
  ·have c':rs.length<=at':=by have:=ud c;omega
   have er:(gs,flt "silent",i)=res:=by
    rw [<-aw];cases Y:300-i with
    |zero=>omega
    |succ q=>
     unfold goF;rw [if_pos (by omega)]
   refine⟨_,rfl,L,O,rfl,.inl ⟨SqL.of eL,fun M h1=>⟨two,fun t3 Y=>⟨_,rfl,three,fun U h2=> ?_⟩⟩⟩⟩;have s1:Same H' (upd H' M (.tup O)):=qb h1 _;have s3:=qb Y (.tup [.str "fault",.str "silent"]);exact af _ M _ (flt "silent") _ (s1.trans s3) (s3 _ _ qg) (Is.new (ds:= [.str "fault",.str "silent"]) ⟨_,_,rfl,⟨rfl,qS (by decide)⟩,_,_,rfl,⟨rfl,qS (by decide)⟩,rfl⟩ Y) (by rw [<-er];show(gs,flt "silent",((0:Int)+(i:Int)).toNat)=_;rw [show((0:Int)+(i:Int)).toNat=i by omega]) (by omega) U h2
  ·have bc:at'<rs.length:=by
    rcases Nat.lt_or_ge at' rs.length with h|h
    ·exact h
    ·exact absurd (u7 (by omega)) c
   have I:res=match rowO own (yj rs ((at':Int)+1)) B ((at':Int)+1) with
     | .go B' p'=>goF rs own (300-(i+1)) B' p' (i+1) rest gs
     | .stop e=>if qZ e=true then askStep (goF rs own (300-(i+1))) B (b0 (yj rs ((at':Int)+1)).2) ((at':Int)+1) i gs e rest else(gs,e,i+1):=by
    rw [<-aw,show 300-i=(300-(i+1))+1 by omega,goF,if_neg (by omega)]
    all_goals (cases rowO own (yj rs ((at':Int)+1)) B ((at':Int)+1)<;>first|rfl|(cases rest<;>rfl))
   have aB:=ZE (rs:=rs) (p:=(at':Int)+1) (by omega) (by omega)
   have Z:=hR.ok _ aB;have bd:=hR.len aB;have hok:=rowO_ok (own:=own) Z hT (p:=(at':Int)+1) (by omega) (by omega)
   refine⟨_,rfl,_,rfl,?_⟩;refine rule_get aA bc ?_;generalize bM:yj rs ((at':Int)+1)=r at I Z bd hok aB⊢;refine⟨rfl,_,rfl,rfl,by omega,fun p hp=> ?_⟩
   have s1:Same H' (upd H' p (.lst ((wds r).map V.str))):=qb hp _;have hW:WdAt (upd H' p (.lst ((wds r).map V.str))) p r:=qg;show Y3 7 _ _ (upd H' p (.lst ((wds r).map V.str))) _;generalize upd H' p (.lst ((wds r).map V.str))=H1 at s1 hW⊢;have be:=s1;have bf:=s1 _ _ eL;have bg:=hB.same s1;have bN:=aA.mono s1.tk;have aS:=wds0 n1 Z;obtain⟨ks,hk,ch⟩:=id Z;refine⟨_,rfl,?_⟩;dsimp only [tC];refine QN (i:=0) hW aS ⟨two,fun l2 bO=>⟨l2,_,rfl,.inl (SqL.of qg),rfl,rfl,_,rfl,?_⟩⟩;have s2:Same H1 (upd H1 l2 (.lst [.str "say",.str "fault"])):=qb bO _;generalize upd H1 l2 (.lst [.str "say",.str "fault"])=H2 at s2⊢;have ei:inV (.str r.1) [.str "say",.str "fault"]=decide (r.1∈(["say","fault"]:List Str)):=Y4 (z:=r.1) (l:= ["say","fault"]);rw [if_neg ua,ei];by_cases aa:r.1="say"∨r.1="fault"
   ·refine qC (u7 (by simpa using aa)) ?_
    have aC:r.1∉MKR:=by rcases aa with h|h<;>rw [h]<;>decide+kernel
    have aT:r.1∉ASK:=by rcases aa with h|h<;>rw [h]<;>decide+kernel
    have eo:rowO own r B ((at':Int)+1)= .stop (if r.1="say" then .tup [.str "said",B (b0 r.2)] else flt "told"):=by
     unfold rowO;rw [if_neg aC,if_neg aT];rcases aa with h|h
     ·rw [if_pos h,if_pos h]
     ·have bh:¬r.1="say":=by rw [h];decide+kernel
      rw [if_neg bh,if_pos h,if_neg bh]
    rw [eo] at I;have aD:qZ (if r.1="say" then .tup [.str "said",B (b0 r.2)] else flt "told")=false:=by
     by_cases h:r.1="say"
     ·rw [if_pos h];rfl
     ·rw [if_neg h];rfl
    simp only [aD,Ug,if_false] at I;have aU:=be.trans s2;refine⟨_,rfl,L,O,rfl,.inl ⟨SqL.of (s2 _ _ bf),fun M h1=> ?_⟩⟩;have s3:Same H2 (upd H2 M (.tup O)):=qb h1 _;refine⟨_,rfl,_,rfl,db,p,B,r,rs.length,rfl,n1,(bg.same s2).same s3,s3 _ _ (s2 _ _ hW),Z,aa,fun u3 H3 s4 bP=>⟨_,rfl,_,_,rfl,rfl,three,fun U h2=> ?_⟩⟩;exact af H3 M _ _ _ (aU.trans (s3.trans s4)) (s4 _ _ qg) bP (by rw [I];show(gs,_,((0:Int)+(i:Int)+1).toNat)=_;rw [show((0:Int)+(i:Int)+1).toNat=i+1 by omega]) (by omega) U h2
   ·refine qo (uc (by simpa using aa)) ?_
    have aU:=be.trans s2;have bQ:=s2 _ _ bf;have bR:=bg.same s2;have bm:WdAt H2 p r:=s2 _ _ hW;have bS:=bN.mono s2.tk;refine⟨_,rfl,?_⟩;dsimp only [tC];refine QN (i:=0) bm aS ⟨(by show 4<=sizeLine;decide),fun l3 bT=>⟨l3,_,rfl,.inl (SqL.of qg),rfl,rfl,_,rfl,?_⟩⟩
    have s3:Same H2 (upd H2 l3 (.lst [.str "go",.str "like",.str "rowed",.str "none"])):=qb bT _;generalize upd H2 l3 (.lst [.str "go",.str "like",.str "rowed",.str "none"])=H3 at s3⊢;have bU:inV (.str r.1) [.str "go",.str "like",.str "rowed",.str "none"]=decide (r.1∈JMP):=Y4 (z:=r.1) (l:=JMP);rw [if_neg ua,bU];have aE:=aU.trans s3;have aV:=s3 _ _ bQ;have aJ:=bR.same s3;have aW:WdAt H3 p r:=s3 _ _ bm;have bV:=bS.mono s3.tk;by_cases cj:r.1∈JMP
    ·refine qC (u7 cj) ?_;have aC:r.1∉MKR:=fun h=>by revert h;simp only [JMP,uA,v7,v9] at cj;rcases cj with h|h|h|h<;>rw [h]<;>decide+kernel
     have aT:r.1∉ASK:=fun h=>by revert h;simp only [JMP,uA,v7,v9] at cj;rcases cj with h|h|h|h<;>rw [h]<;>decide+kernel
     have eo:rowO own r B ((at':Int)+1)=if jump r.1 B r.2=true then .go B (jv r.2) else .go B ((at':Int)+1+1):=by
      unfold rowO;rw [if_neg aC,if_neg aT,if_neg (fun h=>aa (.inl h)),if_neg (fun h=>aa (.inr h))]
     rw [eo] at I hok;refine⟨_,rfl,_,rfl,_,rfl,db,p,B,r,rs.length,_,rfl,n1,aJ,hT,aW,Z,cj,fun H4 s4=> ?_⟩;cases hj:jump r.1 B r.2 with
     |true=>
      rw [hj] at I hok;simp only [UL] at I hok;obtain⟨_,o1,o2⟩:=hok;rw [if_pos rfl];obtain⟨m,hm⟩:∃m:Nat,jv r.2-1=(m:Int):=⟨(jv r.2-1).toNat,by omega⟩
      rw [hm];refine⟨B,m,_,_,_,_,_,rfl,sm.trans (aE.trans s4),aJ.same s4,hT,by omega,gs,rest,dn,O,s4 _ _ aV,(gl.mono aE.tk).mono s4.tk,ae,am,?_⟩
      rw [show(m:Int)+1=jv r.2 by omega]
      exact I.symm
     |false=>
      rw [hj] at I hok;simp only [Ug,if_false] at I hok;obtain⟨_,o1,o2⟩:=hok;rw [if_neg ua];exact⟨B,at'+1,_,_,_,_,_,rfl,sm.trans (aE.trans s4),aJ.same s4,hT,by omega,gs,rest,dn,O,s4 _ _ aV,(gl.mono aE.tk).mono s4.tk,ae,am,I.symm⟩
    ·refine qo (uc cj) ?_;refine⟨_,rfl,?_⟩;dsimp only [tC];refine QN (i:=0) aW aS ⟨three,fun l5 bW=>⟨l5,_,rfl,.inl (SqL.of qg),rfl,rfl,_,rfl,?_⟩⟩;have s5:Same H3 (upd H3 l5 (.lst [.str "ask",.str "has",.str "names"])):=qb bW _;generalize upd H3 l5 (.lst [.str "ask",.str "has",.str "names"])=H5 at s5⊢;have bX:inV (.str r.1) [.str "ask",.str "has",.str "names"]=decide (r.1∈ASK):=Y4 (z:=r.1) (l:=ASK);rw [if_neg ua,bX];have bn:=aE.trans s5;have bo:=s5 _ _ aV;have aK:=aJ.same s5;have aL:WdAt H5 p r:=s5 _ _ aW;have bY:=bV.mono s5.tk;by_cases ca:r.1∈ASK
     ·refine qC (u7 ca) ?_;have aC:r.1∉MKR:=(JF _ hk ca).1;have eo:rowO own r B ((at':Int)+1)= .stop (askF r.1 (B (b1 r.2))):=by
       unfold rowO;rw [if_neg aC,if_pos ca]
      rw [eo] at I;refine⟨_,rfl,_,rfl,db,p,B,r,rs.length,rfl,n1,aK,aL,Z,ca,fun u6 H6 s6 i6=> ?_⟩;have ab:=bn.trans s6;have ac:=s6 _ _ bo;rcases askF_L r.1 (B (b1 r.2)) with⟨z,hz,e1,e2⟩|⟨e3,e1,e2,e4⟩
      ·rw [e1] at i6;rw [e2] at I;refine⟨_,rfl,u6,"str",tyD (.str z),isStr (.str z),rfl,i6.ty,Qv _,_,rfl,iteT ?_⟩;obtain⟨rfl,ci⟩:=i6;refine⟨_,rfl,_,rfl,rfl,_,rfl,qo (by decide+kernel) ?_⟩
       refine⟨_,rfl,rfl,_,rfl,qC (by decide+kernel) ?_⟩
       have aD:qZ (flt z)=false:=rfl;simp only [aD,Ug,if_false] at I;refine⟨_,rfl,L,O,rfl,.inl ⟨SqL.of ac,fun M h1=>⟨_,rfl,two,fun t3 Y=>⟨_,rfl,_,_,rfl,rfl,three,fun U h2=> ?_⟩⟩⟩⟩;have q1:Same H6 (upd H6 M (.tup O)):=qb h1 _;have q3:=qb Y (.tup [.str "fault",.str z]);exact af _ M _ (flt z) _ (ab.trans (q1.trans q3)) (q3 _ _ qg) (Is.new (ds:= [.str "fault",.str z]) ⟨_,_,rfl,⟨rfl,qS (by decide)⟩,_,_,rfl,⟨rfl,qS (by omega)⟩,rfl⟩ Y) (by rw [I];show(gs,_,((0:Int)+(i:Int)+1).toNat)=_;rw [show((0:Int)+(i:Int)+1).toNat=i+1 by omega]) (by omega) U h2
      ·rw [e4] at I;refine⟨_,rfl,u6,"str",_,_,rfl,i6.ty,Qv _,_,rfl,?_⟩;rw [e1];have aD:qZ (.tup [.str "asks",askL r.1 (B (b1 r.2))])=true:=by simp [qZ]
       simp only [aD,UL] at I;refine iteF ⟨_,rfl,L,O,rfl,.inl (SqL.of ac),_,rfl,la,av,rfl,sq_or (zW (zW a4 sm) ab),fun _=>⟨rfl,_,rfl,?_⟩⟩;cases rest with
       |nil=>
        have bp:O.length=av.length:=by rw [aR,a8,ae];simp [am]
        refine qC (u7 (by rw [bp])) ?_
        refine⟨_,rfl,L,O,rfl,.inl ⟨SqL.of ac,fun M h1=>⟨_,rfl,two,fun t3 Y=>⟨_,rfl,three,fun U h2=> ?_⟩⟩⟩⟩;have q1:Same H6 (upd H6 M (.tup O)):=qb h1 _;have q3:=qb Y (.tup [.str "asks",u6]);exact af _ M _ (.tup [.str "asks",askL r.1 (B (b1 r.2))]) _ (ab.trans (q1.trans q3)) (q3 _ _ qg) (Is.new (ds:= [.str "asks",askL r.1 (B (b1 r.2))]) ⟨_,_,rfl,⟨rfl,qS (by decide)⟩,_,_,rfl,i6.mono q1.tk,rfl⟩ Y) (by rw [I];show(gs,_,((0:Int)+(i:Int)).toNat)=_;rw [show((0:Int)+(i:Int)).toNat=i by omega];rfl) (by omega) U h2
       |cons ad aF=>
        have cf:O.length<av.length:=by rw [aR,a8,ae,<-am,ug,uh];omega
        refine qo (uc fun h=>by injection h with h;omega) ?_
        have bZ:=a6 ad (by rw [ae];simp)
        have bq:as[gs.length]? =some ad:=by rw [ae,<-am,uZ (ui _),Nat.sub_self];rfl
        obtain⟨va,b3,bt⟩:=a5.get bq;have bu:=(bt.mono sm.tk).mono ab.tk;obtain⟨z0,z1,b4,aX,aY⟩:=wds1a n1 Z ca;have b5:b0 r.2=z0:=by rw [b4];rfl
        have aZ:=aK.same s6;have a0:WdAt H6 p r:=s6 _ _ aL;refine⟨_,rfl,_,rfl,L,O,rfl,.inl (SqL.of ac),ix_or (va:=va) (zW (zW a4 sm) ab) (qQ (by rw [aR];exact b3)) ?_⟩
        refine⟨_,rfl,.inl ⟨rfl,_,SqL.of ac⟩,_,rfl,_,rfl,two,fun M h1=> ?_⟩;have q1:Same H6 (upd H6 M (.tup [u6,va])):=qb h1 _;have ip:Is (upd H6 M (.tup [u6,va])) (.tup [askL r.1 (B (b1 r.2)),ad]) (.ref M):=Is.new (ds:= [askL r.1 (B (b1 r.2)),ad]) ⟨_,_,rfl,i6,_,_,rfl,bu,rfl⟩ h1;have b6:p≠L:=(qr eL hp).symm;have ao:=q1 _ _ ac;have bv:=aZ.same q1;have bw:WdAt _ p r:=q1 _ _ a0;have bx:=(gl.mono ab.tk).mono q1.tk;have aM:=bu.mono q1.tk;have ap:=ab.trans q1;generalize upd H6 M (.tup [u6,va])=H7 at q1 ip ao bv bw bx aM ap⊢;refine⟨L,O,_,rfl,rfl,ao,Ye (by omega),?_⟩
        have t7:Tk H7 (upd H7 L (.lst (O++ [.ref M]))):=Tk.updL ao;have a1:(upd H7 L (.lst (O++ [.ref M]))) L=some (.lst (O++ [.ref M])):=qg;have a2:Same H (upd H7 L (.lst (O++ [.ref M]))):=fun b o e=>by
         rw [qy (qr e bJ)];exact ap b o (sm b o e)
        have a3:L2.IsL (upd H7 L (.lst (O++ [.ref M]))) (gs++ [.tup [askL r.1 (B (b1 r.2)),ad]]) (O++ [.ref M]):=(bx.mono t7).append (IsL.one (ip.mono t7));have bA:QH (upd H7 L (.lst (O++ [.ref M]))) db B:=bv.move t7 (qy nL.symm);have bB:WdAt (upd H7 L (.lst (O++ [.ref M]))) p r:=by
         show upd H7 L (.lst (O++ [.ref M])) p=_;rw [qy b6];exact bw
        have aq:=aM.mono t7;generalize upd H7 L (.lst (O++ [.ref M]))=H8 at t7 a1 a2 a3 bA bB aq⊢;have af:=ay H8 _ _ a2 a3;have ag:res=if y6 ad=true then(gs++ [.tup [askL r.1 (B (b1 r.2)),ad]],flt "lack",i+1) else goF rs own (300-(i+1)) (setB B z0 ad) ((at':Int)+1+1) (i+1) aF (gs++ [.tup [askL r.1 (B (b1 r.2)),ad]]):=by
         rw [I,<-b5]
         rfl
        refine⟨_,rfl,rfl,_,rfl,?_⟩;by_cases cn:ad= .non
        ·subst cn;cases(show va= .non from aq)
         refine qo (by decide+kernel) ⟨_,rfl,rfl,_,rfl,qC (by decide+kernel) ?_⟩
         refine⟨_,rfl,L,_,rfl,.inl ⟨SqL.of a1,fun U h2=>⟨_,rfl,two,fun t3 Y=>⟨_,rfl,_,_,rfl,rfl,three,fun t4 h4=> ?_⟩⟩⟩⟩;have r2:Same H8 (upd H8 U (.tup (O++ [.ref M]))):=qb h2 _;have r3:=qb Y (.tup [.str "fault",.str "lack"]);exact af _ U _ (flt "lack") _ (r2.trans r3) (r3 _ _ qg) (Is.new (ds:= [.str "fault",.str "lack"]) ⟨_,_,rfl,⟨rfl,qS (by decide)⟩,_,_,rfl,⟨rfl,qS (by decide)⟩,rfl⟩ Y) (by rw [ag];show(_,_,((0:Int)+(i:Int)+1).toNat)=_;rw [show((0:Int)+(i:Int)+1).toNat=i+1 by omega];rfl) (by omega) t4 h4
        ·have ax:isT ad=true:=bZ.resolve_left cn;have aG:va≠ .non:=zZ aq cn;have b9:y6 ad=false:=by
          cases ad with
          |non=>exact absurd rfl cn
          |_=>rfl
         rw [b9,if_neg ua] at ag;refine qC (by rw [uc aG];rfl) ⟨_,rfl,va,ad,rfl,aq,by have:=YV ax;omega,fun H9 s9=>⟨_,rfl,?_⟩⟩
         rw [ax];refine iteF ⟨_,rfl,rfl,_,rfl,qo (uc aG) ?_⟩;obtain⟨kvs,aH,bC,cb⟩:=(bA.same s9).put aX (aq.mono s9.tk);refine⟨_,rfl,_,rfl,_,rfl,?_⟩;dsimp only [tC];refine QN (i:=1) (show WdAt H9 p r from s9 _ _ bB) aY ⟨db,_,rfl,aH,?_⟩
         refine⟨_,rfl,_,_,rfl,rfl,?_⟩;exact⟨setB B z0 ad,at'+1,_,_,_,_,_,rfl,fun b o h=>by rw [qy (bb b o h)];exact s9 b o (a2 b o h),bC,Zu hT ax,by omega,_,aF,dn++ [ad],O++ [.ref M],by rw [qy nL];exact s9 _ _ a1,(a3.mono s9.tk).mono cb,by rw [ae];simp,by simp [am],ag.symm⟩
     ·refine qo (uc ca) ?_;have aI:r.1∈MKR:=by
       rcases frm_all _ hk with q|⟨_,_,q|⟨_,q|q|q⟩⟩
       ·exact q
       ·exact absurd q ca
       ·exact absurd (.inl q) aa
       ·exact absurd (.inr q) aa
       ·exact absurd q.2.2 cj
      obtain⟨z0,qs,bD,aX⟩:=mk_b0 Z aI;have cc:b0 r.2=z0:=by rw [bD];rfl
      have eo:rowO own r B ((at':Int)+1)=Zn B z0 (made r.1 B own r.2) ((at':Int)+1):=by
       unfold rowO;rw [if_pos aI,cc]
      rw [eo] at I hok;have bE:=made_dp (own:=own) hT (show QD rs.length 125 (r.1,r.2) from Z) aI
      refine⟨_,rfl,_,rfl,_,rfl,_,rfl,?_⟩;refine rule_get bY bc ?_;rw [bM];refine⟨_,rfl,db,p,B,r,rs.length,own,rfl,n1,bG,bd,aK,hT,aL,Z,aI,fun u6 H6 s6 i6=> ?_⟩;have ab:=bn.trans s6;have ac:=s6 _ _ bo;have aZ:=aK.same s6;have a0:WdAt H6 p r:=s6 _ _ aL;have aY:(wds r)[1]? =some z0:=wds1 n1 Z aI bD;generalize made r.1 B own r.2=dm at i6 I hok bE;have stop:∀(z:Str) (H7:Hp),z.length<=100->Same H' H7->H7 L=some (.lst O)->(gs,flt z,i+1)=res->∀M,H7 M=none->∀t3,(upd H7 M (.tup O)) t3=none->∀U,(upd (upd H7 M (.tup O)) t3 (.tup [.str "fault",.str z])) U=none->Q (.ref U) (upd (upd (upd H7 M (.tup O)) t3 (.tup [.str "fault",.str z])) U (.tup [.ref M,.ref t3,.int (0+(i:Int)+1)])):=by
       intro z H7 hz ap ao er M h1 t3 Y U h2;have q1:Same H7 (upd H7 M (.tup O)):=qb h1 _;have q3:=qb Y (.tup [.str "fault",.str z]);exact af _ M _ (flt z) _ (ap.trans (q1.trans q3)) (q3 _ _ qg) (Is.new (ds:= [.str "fault",.str z]) ⟨_,_,rfl,⟨rfl,qS (by decide)⟩,_,_,rfl,⟨rfl,qS (by omega)⟩,rfl⟩ Y) (by rw [<-er];show(gs,_,((0:Int)+(i:Int)+1).toNat)=_;rw [show((0:Int)+(i:Int)+1).toNat=i+1 by omega]) (by omega) U h2
      refine⟨_,rfl,rfl,_,rfl,?_⟩;by_cases cn:dm= .non
      ·subst cn;cases(show u6= .non from i6)
       refine qo (by decide+kernel) ⟨_,rfl,rfl,_,rfl,qC (by decide+kernel) ?_⟩
       exact⟨_,rfl,L,O,rfl,.inl ⟨SqL.of ac,fun M h1=>⟨_,rfl,two,fun t3 Y=>⟨_,rfl,_,_,rfl,rfl,three,fun U h2=>stop "kind" H6 (by decide) ab ac (by rw [I];rfl) M h1 t3 Y U h2⟩⟩⟩⟩
      ·have aG:u6≠ .non:=zZ i6 cn;have cd:Zn B z0 dm ((at':Int)+1)=if isT dm=true then .go (setB B z0 dm) ((at':Int)+1+1) else .stop (flt "big"):=by
        cases dm with
        |non=>exact absurd rfl cn
        |_=>rfl
       rw [cd] at I hok;refine qC (by rw [uc aG];rfl) ⟨_,rfl,u6,dm,rfl,i6,bE,fun H7 s7=>⟨_,rfl,?_⟩⟩
       have ap:=ab.trans s7;have ao:=s7 _ _ ac;cases ax:isT dm with
       |false=>
        rw [ax] at I;refine iteT ?_;refine⟨_,rfl,rfl,_,rfl,qC (by decide+kernel) ?_⟩
        exact⟨_,rfl,L,O,rfl,.inl ⟨SqL.of ao,fun M h1=>⟨_,rfl,two,fun t3 Y=>⟨_,rfl,_,_,rfl,rfl,three,fun U h2=>stop "big" H7 (by decide) ap ao (by rw [I];rfl) M h1 t3 Y U h2⟩⟩⟩⟩
       |true=>
        rw [ax] at I hok;simp only [UL] at I hok;obtain⟨o0,o1,o2⟩:=hok;refine iteF ⟨_,rfl,rfl,_,rfl,qo (uc aG) ?_⟩;obtain⟨kvs,aH,ce,t8⟩:=(aZ.same s7).put aX (i6.mono s7.tk);refine⟨_,rfl,_,rfl,_,rfl,?_⟩;dsimp only [tC];refine QN (i:=1) (show WdAt H7 p r from s7 _ _ a0) aY ⟨db,_,rfl,aH,?_⟩
        refine⟨_,rfl,_,_,rfl,rfl,?_⟩;exact⟨setB B z0 dm,at'+1,_,_,_,_,_,rfl,fun b o h=>by rw [qy (bb b o h)];exact ap b o (sm b o h),ce,o0,by omega,gs,rest,dn,O,by rw [qy nL];exact ao,(gl.mono ap.tk).mono t8,ae,am,I.symm⟩
 ·rintro σ H' ⟨B,at',x6,x7,x8,x9,aO,rfl,sm,hB,hT,bK,gs,rest,dn,O,eL,gl,ae,am,aw⟩;have aA:=hv.mono sm.tk;have aP:=aA;obtain⟨ta,us,rfl,aQ,iu⟩:=aP;have bL:us.length=rs.length:=by rw [iu.length,uf]
  refine⟨_,rfl,L,O,rfl,.inl ⟨SqL.of eL,fun M h1=> ?_⟩⟩;have af:=ay H' gs O sm gl;have q1:Same H' (upd H' M (.tup O)):=qb h1 _;have bF:(upd H' M (.tup O)) M=some (.tup O):=qg;generalize upd H' M (.tup O)=H1 at q1 bF⊢;refine⟨two,fun l hl=>⟨_,rfl,_,rfl,ta,us,rfl,.inr (SqT.of (qb hl _ _ _ (q1 _ _ aQ))),_,_,rfl,rfl,.inr ⟨_,rfl,?_⟩⟩⟩;have q2:Same H1 (upd H1 l (.lst [.str "long",.str "silent"])):=qb hl _;have el:(upd H1 l (.lst [.str "long",.str "silent"])) l=some (.lst [.str "long",.str "silent"]):=qg;generalize upd H1 l (.lst [.str "long",.str "silent"])=H2 at q2 el⊢;have er:(gs,(if(at':Int)+1>rs.length then flt "silent" else flt "long"),300)=res:=by
   rw [<-aw]
   rfl
  have last:∀z:Str,z.length<=100->(gs,flt z,300)=res->∀t3,H2 t3=none->∀U,(upd H2 t3 (.tup [.str "fault",.str z])) U=none->Q (.ref U) (upd (upd H2 t3 (.tup [.str "fault",.str z])) U (.tup [.ref M,.ref t3,.int 300])):=by
   intro z hz ez t3 Y U h2;have q3:=qb Y (.tup [.str "fault",.str z]);exact af _ M _ (flt z) 300 (q1.trans (q2.trans q3)) (q3 _ _ (q2 _ _ bF)) (Is.new (ds:= [.str "fault",.str z]) ⟨_,_,rfl,⟨rfl,qS (by decide)⟩,_,_,rfl,⟨rfl,qS (by omega)⟩,rfl⟩ Y) ez (by decide) U h2
  by_cases c:rs.length<=at'
  ·rw [u7 (p:=((us.length:Int)<=(at':Int))) (by omega)]
   rw [if_pos (by omega)] at er
   exact⟨l,_,1,.str "silent",rfl,rfl,SqL.of el,rfl,two,fun t3 Y=>⟨three,fun U h2=>last "silent" (by decide) er t3 Y U h2⟩⟩
  ·rw [uc (p:=((us.length:Int)<=(at':Int))) (by omega)]
   rw [if_neg (by omega)] at er
   exact⟨l,_,0,.str "long",rfl,rfl,SqL.of el,rfl,two,fun t3 Y=>⟨three,fun U h2=>last "long" (by decide) er t3 Y U h2⟩⟩
def Gd (d:D):Prop:=good d=true/\dp d<=20
theorem gd_flt:∀z∈(["kind","big","told","silent","long","name"]:List Str),good (flt z)=true:=by decide+kernel
theorem gd_f {z:Str}(h:z∈(["kind","big","told","silent","long","name"]:List Str)):Gd (flt z):=⟨gd_flt z h,by show dp (.tup [.str "fault",.str z])<=20;simp [dp,dpL]⟩
theorem gd_two {u:Str}{d:D}(I:QV u=true)(h:isT d=true):Gd (.tup [.str u,d]):=by
 have L:=QP h;have hd:=YV h;refine⟨?_,?_⟩
 ·simp only [good,goodL,I,L,vk]
  rfl
 ·simp only [dp,dpL];omega
theorem gd_three {u w:Str}{d:D}(I:QV u=true)(L:QV w=true)(h:isT d=true):Gd (.tup [.str u,.tup [.str w,d]]):=by
 have M:=QP h;have hd:=YV h;refine⟨?_,?_⟩
 ·simp only [good,goodL,I,L,M,vk]
  rfl
 ·simp only [dp,dpL];omega
theorem rowO_gd {own:Str}{n:Nat}{r:Rw}{B:Str->D}{p:Int}{e:D}(hr:QD n 125 r)(h:Tr B)(I:rowO own r B p= .stop e):Gd e:=by
 unfold rowO at I;obtain⟨ks,hk,hp⟩:=id hr;obtain⟨L,ps⟩:=r;by_cases c1:L∈MKR
 ·rw [if_pos c1] at I;simp only at I;generalize made L B own ps=R at I;have Z:(if isT R=true then Out.go (setB B (b0 ps) R) (p+1) else .stop (flt "big"))= .stop e->Gd e:=by
   intro U;by_cases c:isT R=true
   ·rw [if_pos c] at U;cases U
   ·rw [if_neg c] at U;cases U;exact gd_f (by decide+kernel)
  cases R with
  |non=>cases I;exact gd_f (by decide+kernel)
  |_=>exact Z I
 rw [if_neg c1] at I;by_cases c2:L∈ASK
 ·rw [if_pos c2] at I;cases I;obtain⟨_,_,M⟩:=JF _ hk c2;simp only at M;subst M;obtain⟨z0,Y,rfl,h0,h1⟩:=yZ hp;have hT:=h Y h1;show Gd (askF L (B Y));unfold askF;by_cases d1:L="names"
  ·rw [if_pos d1];by_cases O:isStr (B Y)=true
   ·rw [if_pos O];exact gd_three (by decide+kernel) (by decide+kernel) hT
   ·rw [if_neg O];exact gd_f (by decide+kernel)
  ·rw [if_neg d1];by_cases O:isNm (B Y)=true
   ·rw [if_pos O];refine gd_three (by decide+kernel) ?_ hT
    split<;>decide+kernel
   ·rw [if_neg O];exact gd_f (by decide+kernel)
 rw [if_neg c2] at I;by_cases c3:L="say"
 ·rw [if_pos c3] at I;cases I;subst c3;have M:=frm_say _ hk rfl;simp only at M;subst M;obtain⟨z0,rfl,h0⟩:=sh_b hp;exact gd_two (by decide+kernel) (h z0 h0)
 rw [if_neg c3] at I;by_cases c4:L="fault"
 ·rw [if_pos c4] at I;cases I;exact gd_f (by decide+kernel)
 rw [if_neg c4] at I;by_cases c5:jump L B ps=true
 ·rw [if_pos c5] at I;cases I
 ·rw [if_neg c5] at I;cases I
noncomputable def ansS (rs:List Rw)(own:Str)(r:Rn)(a:D):Rn:=if y6 a=true then⟨r.B,r.p,r.n+1,r.gs++ [.tup [Zt r.th,a]],flt "lack"⟩ else runS rs own (r.gs++ [.tup [Zt r.th,a]]) (300-(r.n+1)) (setB r.B (b0 (yj rs r.p).2) a) (r.p+1) (r.n+1)
def jl (rs:List Rw)(own:Str):Rn->List D->Rn
 |r,[]=>r
 |r,a::as=>if qZ r.th=true then jl rs own (ansS rs own r a) as else r
theorem y8 {rs:List Rw}{own:Str}{r:Rn}(h:qZ r.th=false):∀as,jl rs own r as=r
 | []=>rfl
 |a::as=>by unfold jl;rw [h,if_neg ua]
theorem zJ {rs:List Rw}{own:Str}(a:D):∀(as:List D) (r:Rn),jl rs own r (as++ [a])=if qZ (jl rs own r as).th=true then ansS rs own (jl rs own r as) a else jl rs own r as
 | [],r=>by
  show(if qZ r.th=true then jl rs own (ansS rs own r a) [] else r)=_
  rfl
 |b::as,r=>by
  show(if qZ r.th=true then jl rs own (ansS rs own r b) (as++ [a]) else r)=_
  cases h:qZ r.th with
  |true=>
   rw [if_pos rfl,zJ a as];have e:jl rs own r (b::as)=jl rs own (ansS rs own r b) as:=by
    show(if qZ r.th=true then _ else r)=_
    rw [h,if_pos rfl]
   rw [e]
  |false=>
   rw [if_neg ua,y8 h,h,if_neg ua]
def triple (r:Rn):List D×D×Nat:=(r.gs,r.th,r.n)
theorem Zz {rs:List Rw}{own:Str}:∀(f:Nat) (B:Str->D) (p:Int) (n:Nat) (as gs:List D),f+n=300->goF rs own f B p n as gs=triple (jl rs own (runS rs own gs f B p n) as)
 |0,B,p,n,as,gs,_=>by
  have I:qZ (runS rs own gs 0 B p n).th=false:=by
   show qZ (if p>rs.length then flt "silent" else flt "long")=false
   split<;>decide+kernel
  rw [y8 I]
  rfl
 |f+1,B,p,n,as,gs,hf=>by
  unfold goF runS;by_cases c:p>rs.length
  ·rw [if_pos c,if_pos c,y8 (show qZ (flt "silent")=false by decide+kernel)]
   rfl
  ·rw [if_neg c,if_neg c];cases R:rowO own (yj rs p) B p with
   |go L M=>exact Zz f L M (n+1) as gs (by omega)
   |stop e=>
    simp only;cases I:qZ e with
    |false=>
     rw [if_neg ua,if_neg ua,y8 (by exact I)]
     rfl
    |true=>
     rw [if_pos rfl,if_pos rfl];cases as with
     |nil=>rfl
     |cons a as=>
      show(if y6 a=true then _ else goF rs own f _ _ _ as _)=triple (if qZ e=true then jl rs own (ansS rs own ⟨B,p,n,gs,e⟩ a) as else _)
      rw [I,if_pos rfl];unfold ansS;cases hn:y6 a with
      |true=>
       rw [if_pos rfl,if_pos rfl,y8 (show qZ (flt "lack")=false by decide+kernel)]
       rfl
      |false=>
       rw [if_neg ua,if_neg ua];have O:300-(n+1)=f:=by omega
       simp only [O];exact Zz f _ _ _ as _ (by omega)
def qI (rs:List Rw)(own:Str)(as:List D):Rn:=jl rs own (runS rs own [] 300 B0 1 0) as
theorem Xh {rs:List Rw}{own:Str}(as:List D):goF rs own 300 B0 1 0 as []=triple (qI rs own as):=Zz 300 B0 1 0 as [] rfl
structure RnOk (rs:List Rw)(r:Rn):Prop where
 tr:Tr r.B
 p1:1<=r.p
 p2:r.p<=rs.length+1
 n:r.n<=300
 gd:Gd r.th
 two:∃w e,r.th= .tup [.str w,e]
 gs:nL r.gs=true/\dpL r.gs<=30/\r.gs.length<=r.n
 ask:qZ r.th=true->r.p<=rs.length/\(yj rs r.p).1∈ASK/\r.n<300/\∃(u:Str) (d:D),r.th= .tup [.str "asks",.tup [.str u,d]]/\u∈(["thing","has","names"]:List Str)/\isT d=true
mutual
theorem Yg:∀{d:D},good d=true->nD d=true
 | .str _,_=>rfl
 | .tup xs,h=>by
  simp only [good,um] at h;simp only [nD];exact goodL_n h.2
 | .non,h=>by simp [good] at h
 | .bl _,h=>by simp [good] at h
 | .int _,h=>by simp [good] at h
 | .lst,h=>by simp [good] at h
 | .dct,h=>by simp [good] at h
theorem goodL_n:∀{ds:List D},goodL ds=true->nL ds=true
 | [],_=>rfl
 |d::ds,h=>by
  simp only [goodL,um] at h;simp only [nL];rw [Yg h.1,goodL_n h.2]
  rfl
end
theorem nL_app:∀{xs ys:List D},nL xs=true->nL ys=true->nL (xs++ys)=true
 | [],_,_,h=>h
 |x::xs,ys,h,h2=>by
  simp only [nL,um] at h;simp only [U9,nL];rw [h.1,nL_app h.2 h2]
  rfl
theorem dpL_app (n:Nat){xs ys:List D}(h:dpL xs<=n)(h2:dpL ys<=n):dpL (xs++ys)<=n:=by
 rw [Yz] at h h2⊢;intro x I;rcases List.mem_append.mp I with I|I
 ·exact h x I
 ·exact h2 x I
theorem rowO_ask {own:Str}{n:Nat}{r:Rw}{B:Str->D}{p:Int}{e:D}(hr:QD n 125 r)(h:Tr B)(I:rowO own r B p= .stop e)(L:qZ e=true):r.1∈ASK/\∃(u:Str) (d:D),e= .tup [.str "asks",.tup [.str u,d]]/\u∈(["thing","has","names"]:List Str)/\isT d=true:=by
 unfold rowO at I;obtain⟨ks,hk,hp⟩:=id hr;obtain⟨M,ps⟩:=r;by_cases c1:M∈MKR
 ·rw [if_pos c1] at I;simp only at I;generalize made M B own ps=U at I;have aa:(if isT U=true then Out.go (setB B (b0 ps) U) (p+1) else .stop (flt "big"))= .stop e->False:=by
   intro Y;by_cases c:isT U=true
   ·rw [if_pos c] at Y;cases Y
   ·rw [if_neg c] at Y;cases Y;exact absurd L (by decide+kernel)
  cases U with
  |non=>cases I;exact absurd L (by decide+kernel)
  |_=>exact(aa I).elim
 rw [if_neg c1] at I;by_cases Z:M∈ASK
 ·rw [if_pos Z] at I;cases I;refine⟨Z,?_⟩;obtain⟨_,_,ek⟩:=JF _ hk Z;simp only at ek;subst ek;obtain⟨z0,O,rfl,h0,h1⟩:=yZ hp;have hT:=h O h1;have L:qZ (askF M (B O))=true:=L;show∃u d,askF M (B O)=_/\_;unfold askF at L⊢;by_cases d1:M="names"
  ·rw [if_pos d1] at L⊢;by_cases R:isStr (B O)=true
   ·rw [if_pos R];exact⟨_,_,rfl,by decide+kernel,hT⟩
   ·rw [if_neg R] at L;exact absurd L (by decide+kernel)
  ·rw [if_neg d1] at L⊢;by_cases R:isNm (B O)=true
   ·rw [if_pos R];exact⟨_,_,rfl,by split<;>decide+kernel,hT⟩
   ·rw [if_neg R] at L;exact absurd L (by decide+kernel)
 rw [if_neg Z] at I;by_cases c3:M="say"
 ·rw [if_pos c3] at I;cases I;exact absurd L (by simp only [qZ];exact fun h=>absurd (ud h) (by decide+kernel))
 rw [if_neg c3] at I;by_cases c4:M="fault"
 ·rw [if_pos c4] at I;cases I;exact absurd L (by decide+kernel)
 rw [if_neg c4] at I;by_cases c5:jump M B ps=true
 ·rw [if_pos c5] at I;cases I
 ·rw [if_neg c5] at I;cases I
theorem runS_ok {rs:List Rw}{own:Str}(O:QA rs):∀(f:Nat) (B:Str->D) (p:Int) (n:Nat) (gs:List D),f+n=300->Tr B->1<=p->p<=rs.length+1->nL gs=true/\dpL gs<=30/\gs.length<=n->RnOk rs (runS rs own gs f B p n)
 |0,B,p,n,gs,hf,hT,h1,h2,hg=>by
  have L:qZ (if p>rs.length then flt "silent" else flt "long")=false:=by split<;>decide+kernel
  refine⟨hT,h1,h2,by show n<=300;omega,?_,?_,hg,fun h=>absurd (L.symm.trans h) (by decide)⟩
  ·show Gd (if p>rs.length then flt "silent" else flt "long")
   split
   ·exact gd_f (by decide+kernel)
   ·exact gd_f (by decide+kernel)
  ·show∃w e,(if p>rs.length then flt "silent" else flt "long")=_
   split
   ·exact⟨_,_,rfl⟩
   ·exact⟨_,_,rfl⟩
 |f+1,B,p,n,gs,hf,hT,h1,h2,hg=>by
  unfold runS;by_cases c:p>rs.length
  ·rw [if_pos c];exact⟨hT,h1,h2,by show n<=300;omega,gd_f (by decide+kernel),⟨_,_,rfl⟩,hg,fun h=>absurd h (show¬qZ (flt "silent")=true by decide+kernel)⟩
  ·rw [if_neg c];have I:=O.ok _ (ZE h1 (by omega))
   have hok:=rowO_ok (own:=own) I hT h1 (by omega)
   cases M:rowO own (yj rs p) B p with
   |go R U=>
    rw [M] at hok;exact runS_ok O f R U (n+1) gs (by omega) hok.1 hok.2.1 hok.2.2 ⟨hg.1,hg.2.1,by have:=hg.2.2;omega⟩
   |stop e=>
    rw [M] at hok;simp only;refine⟨hT,h1,h2,?_,rowO_gd I hT M,hok,⟨hg.1,hg.2.1,?_⟩,fun L=> ?_⟩
    ·show(if qZ e=true then n else n+1)<=300
     split<;>omega
    ·show gs.length<=(if qZ e=true then n else n+1)
     have:=hg.2.2;split<;>omega
    ·obtain⟨Y,u,d,Z,a3,a4⟩:=rowO_ask I hT M L;refine⟨by show p<=rs.length;omega,Y,?_,u,d,Z,a3,a4⟩
     show(if qZ e=true then n else n+1)<300
     rw [if_pos (show qZ e=true from L)]
     omega
theorem ansS_ok {rs:List Rw}{own:Str}(M:QA rs){r:Rn}{a:D}(h:RnOk rs r)(O:qZ r.th=true)(ha:jI a):RnOk rs (ansS rs own r a):=by
 obtain⟨k1,k2,k3,u,d,e,Y,k5⟩:=h.ask O;have I:nD a=true/\dp a<=12:=by
  rcases ha with rfl|ha
  ·exact⟨rfl,by simp [dp]⟩
  ·exact⟨Yg (QP ha),YV ha⟩
 have R:=YV k5;have L:nL (r.gs++ [D.tup [Zt r.th,a]])=true/\dpL (r.gs++ [D.tup [Zt r.th,a]])<=30/\(r.gs++ [D.tup [Zt r.th,a]]).length<=r.n+1:=by
  rw [e];show nL (r.gs++ [.tup [.tup [.str u,d],a]])=true/\_;refine⟨nL_app h.gs.1 ?_,dpL_app 30 h.gs.2.1 ?_,?_⟩
  ·simp only [nL,nD,Yg (QP k5),I.1,vk]
  ·show dpL [.tup [.tup [.str u,d],a]]<=30;simp only [dpL,dp];have:=I.2;omega
  ·rw [ug];have:=h.gs.2.2;show r.gs.length+1<=r.n+1;omega
 unfold ansS;cases hn:y6 a with
 |true=>
  rw [if_pos rfl];exact⟨h.tr,h.p1,h.p2,by show r.n+1<=300;omega,⟨(by decide+kernel:good (flt "lack")=true),by show dp (.tup [.str "fault",.str "lack"])<=20;simp [dp,dpL]⟩,⟨_,_,rfl⟩,L,fun h=>absurd h (show¬qZ (flt "lack")=true by decide+kernel)⟩
 |false=>
  rw [if_neg ua];have U:isT a=true:=by
   rcases ha with rfl|ha
   ·cases hn
   ·exact ha
  refine runS_ok M _ _ _ _ _ (by omega) (Zu h.tr U) (by have:=h.p1;omega) (by omega) L
theorem goneS_ok {rs:List Rw}{own:Str}(I:QA rs):∀(as:List D) (r:Rn),RnOk rs r->(∀a∈as,jI a)->RnOk rs (jl rs own r as)
 | [],r,h,_=>h
 |a::as,r,h,ha=>by
  unfold jl;cases L:qZ r.th with
  |true=>
   rw [if_pos rfl];exact goneS_ok I as _ (ansS_ok I h L (ha a uE)) fun x M=>ha x (uq _ M)
  |false=>rw [if_neg ua];exact h
theorem ye {rs:List Rw}{own:Str}(I:QA rs){as:List D}(ha:∀a∈as,jI a):RnOk rs (qI rs own as):=
 goneS_ok I as _ (runS_ok I 300 B0 1 0 [] rfl B0_tr (by omega) (by omega) ⟨rfl,by simp [dpL],ui _⟩) ha
def NMS:List Str:= ["a","b1","c/d","e.f","g","h9","k","m/n"]
def WRD:List Str:=NMS++(["","x","b1 g","yes","c/d"]:List Str)
theorem wrd_ok:∀z∈WRD,z.length<=4/\z.cps.toList.all Qj=true:=by decide+kernel
theorem nms_ok:∀z∈NMS,nm z=true/\z.length<=100:=by decide+kernel
def sp_lnames:Sp:=fun vs H Q _=>vs= []/\∀p,H p=none->Q (.ref p) (upd H p (.lst (NMS.map V.str)))
def sp_word (K:PySem.W.Frag):Sp:=fun vs H Q _=>∃p L:Addr,vs= [.ref p,.ref L]/\Qz H p/\H L=some (.lst (NMS.map V.str))/\∀(z:Str) (H':Hp),z∈WRD->Qz H' p->Kept p H H'->Q (.str z) H'
theorem Kept.of {p:Addr}{H H':Hp}(s:Same H H'):Kept p H H':=fun b o e _=>s b o e
theorem Qz.ne_lst {H:Hp}{p l:Addr}(h:Qz H p)(e:H l=some (.lst (WRD.map V.str))):l≠p:=fun z=>by
 obtain⟨x,L,_⟩:=h;rw [<-z,e] at L;have I:(WRD.map V.str).length= [V.int x].length:=by
  injection L with M
  injection M with O
  rw [O]
 exact absurd (show(13:Nat)=1 from I) (by decide)
theorem ok_lnames (T:Tx K mg a):FnOk P w K mg base CX0 1 a.Xz a.xN [] sp_lnames:=by
 refine T.g_law_names.F.ok sc_law_names () (fun _ _ _ _ H _ Q E L h=> ?_)
 obtain⟨rfl,k⟩:=h;refine⟨_,(@qf _ _ _ (@ql _ _ _ _ (@Qo _ _ _ _ (@qa _ _ _ _ _ qi (@qa _ _ _ _ _ qi (@qa _ _ _ _ _ qi (@qa _ _ _ _ _ qi (@qa _ _ _ _ _ qi (@qa _ _ _ _ _ qi (@qa _ _ _ _ _ qi (@qa _ _ _ _ _ qi qe ()) ()) ()) ()) ()) ()) ()) ())))),?_⟩
 exact⟨(by show 8<=sizeLine;decide),fun p I=>k p I⟩
theorem ok_word (T:Tx K mg a):FnOk P w K mg base CX0 2 a.zA a.zt ["pot","names"] (sp_word K):=by
 have Y:=YR (P:=P) (w:=w) (base:=base) T;refine T.g_law_word.F.ok xJ () (fun _ _ _ _ H _ Q E Z h=> ?_)
 obtain⟨p,L,rfl,O,hL,k⟩:=h;refine⟨_,(@qc _ _ _ _ _ (@qx _ _ (2) _ _ _ _ xJ.nd rfl (Or.inl rfl) (@qO _ _ _ _ _ _ _ _ op_cat (pv 1) (@Qo _ _ _ _ (@qa _ _ _ _ _ qi (@qa _ _ _ _ _ qi (@qa _ _ _ _ _ qi (@qa _ _ _ _ _ qi (@qa _ _ _ _ _ qi qe ()) ()) ()) ()) ()))) () ()) (@qf _ _ _ (@ql _ _ _ _ (@qG _ _ _ _ _ _ _ qP (pv 2) (@qt _ _ _ _ _ _ _ _ _ _ _ _ _ _ _ _ Y (Z.mono ()) () T.g_law_take.m T.g_law_take.F.kp T.g_law_take.b .nil qK (@qa _ _ _ _ _ (pv 0) (@qa _ _ _ _ _ (@qj _ _ _ _ _ _ _ _ _ qE () T.Qy uv (@qa _ _ _ _ _ (pv 2) qe ()) () () () ()) qe ()) ()) () () ()) (fun _ _=>rfl))))),?_⟩
 refine⟨_,rfl,(by show 5<=sizeLine;decide),fun q hq=> ?_⟩
 have s1:Same H (upd H q (.lst [.str "",.str "x",.str "b1 g",.str "yes",.str "c/d"])):=qb hq _;refine⟨L,q,_,_,rfl,rfl,s1 _ _ hL,qg,(by show 8+5<=sizeLine;decide),fun l hl=> ?_⟩
 have s2:=s1.trans (qb hl (.lst (NMS.map V.str++ [.str "",.str "x",.str "b1 g",.str "yes",.str "c/d"])));have I:(upd (upd H q (.lst [.str "",.str "x",.str "b1 g",.str "yes",.str "c/d"])) l (.lst (NMS.map V.str++ [.str "",.str "x",.str "b1 g",.str "yes",.str "c/d"]))) l=some (.lst (WRD.map V.str)):=qg;generalize upd (upd H q (.lst [.str "",.str "x",.str "b1 g",.str "yes",.str "c/d"])) l (.lst (NMS.map V.str++ [.str "",.str "x",.str "b1 g",.str "yes",.str "c/d"]))=H2 at s2 I⊢;have P2:=O.same s2;refine⟨_,rfl,_,rfl,_,rfl,l,_,rfl,.inl (SqL.of I),p,13,rfl,P2,by decide,by decide,fun d H' d0 d1 P3 R _=> ?_⟩
 have M:=R _ _ I (O.same s2|>.ne_lst I)
 obtain⟨v,U⟩:=Jj (xs:=WRD.map V.str) d0 (by show d<13;exact d1)
 obtain⟨z,hz,rfl⟩:=List.mem_map.mp (xF U);exact⟨l,_,d,_,rfl,rfl,SqL.of M,U,k z H' hz P3 ((Kept.of s2).trans R)⟩
def WL:List Str:= ["ask","ask","ask","has","names","text","text","copy","put","put","join","first","first","rest","size","cut","glue","like","none","rowed","go","say","fault","self"]
abbrev WT:Str:="ask ask ask has names text text copy put put join first first rest size cut glue like none rowed"
theorem wl_spl:spl ((WT++(" go say fault self":Str)).length+1) (WT++(" go say fault self":Str))=WL:=by decide+kernel
def sp_line (K:PySem.W.Frag):Sp:=fun vs H Q _=>∃(p L:Addr) (many k:Nat),vs= [.ref p,.ref L,.int (many:Int),.int (k:Int)]/\Qz H p/\H L=some (.lst (NMS.map V.str))/\5<=many/\many<=40/\k<=40/\
 ∀(r:Rw) (H':Hp),QD many 4 r->Qz H' p->Kept p H H'->Q (.str (qB r)) H'
theorem abc_at {d:Int}(O:0<=d)(h1:d<5):∃c,atI ("abcdh":Str).cps.toList d=some c/\(⟨#[c]⟩:Str)∈BX:=by
 obtain⟨k,rfl⟩:∃k:Fin 5,d=((k.val:Nat):Int):=⟨⟨d.toNat,by omega⟩,by simp;omega⟩
 have I:∀k:Fin 5,∃c,("abcdh":Str).cps.toList[k.val]? =some c/\(⟨#[c]⟩:Str)∈BX:=by
  have e:∀k:Fin 5,(("abcdh":Str).cps.toList[k.val]?).any (fun c=>decide ((⟨#[c]⟩:Str)∈BX))=true:=by decide+kernel
  intro k;have:=e k;cases h:("abcdh":Str).cps.toList[k.val]? with
  |none=>rw [h] at this;cases this
  |some c=>rw [h] at this;exact⟨c,rfl,ud this⟩
 obtain⟨c,L,M⟩:=I k;exact⟨c,qQ L,M⟩
theorem join3t (x y:Str):(("text "++x:Str)++(" ":Str)++y:Str)=qB ("text",[.s x,.s y]):=by
 show _=Str.join " " ["text",x,y];have e:("text ":Str)="text"++(" ":Str):=by decide+kernel
 rw [e];show(⟨((("text":Str).cps++(" ":Str).cps)++x.cps)++(" ":Str).cps++y.cps⟩:Str)=⟨(("text":Str).cps++(" ":Str).cps)++((x.cps++(" ":Str).cps)++y.cps)⟩;simp [vT]
def GRP:List Str:= ["ask","has","names","copy","put","join","first","rest","size"]
theorem grp_no:∀z∈GRP,z≠"text"/\z∉(["self","say"]:List Str)/\z≠"fault"/\z≠"go"/\z∉(["none","rowed"]:List Str)/\z≠"like"/\z∉(["cut","glue"]:List Str)/\(z,[Kd.box,.box])∈FRM/\z.length<=10:=by decide+kernel
theorem inV_two (z x y:Str):inV (.str z) [.str x,.str y]=decide (z∈([x,y]:List Str)):=Y4 (z:=z) (l:= [x,y])
theorem ok_line (T:Tx K mg a):FnOk P w K mg base CX0 3 a.zd a.X4 ["pot","names","many","k"] (sp_line K):=by
 have qF:=YR (P:=P) (w:=w) (base:=base) T;have jg:=ok_word (P:=P) (w:=w) (base:=base) T;refine T.g_law_line.F.ok QQ () (fun _ _ _ _ H _ Q E hr h=> ?_)
 obtain⟨p,L,many,i,rfl,hP,hL,aD,aE,hi,k⟩:=h;refine⟨_,(@qc _ _ _ _ _ (@qx _ _ (4) _ _ _ _ QQ.nd rfl (Or.inl rfl) qi () ()) (@qc _ _ _ _ _ (@qx _ _ (5) _ _ _ _ QQ.nd rfl (Or.inl rfl) (@qG _ _ _ _ _ _ _ qP (@Yo _ _ _ _ _ _ _ _ _ _ _ _ uH vC vD zY (@qO _ _ _ _ _ _ _ _ Qn (pv 4) qi) (@qa _ _ _ _ _ qi qe ()) () () () () ()) (@qt _ _ _ _ _ _ _ _ _ _ _ _ _ _ _ _ qF (hr.mono ()) () T.g_law_take.m T.g_law_take.F.kp T.g_law_take.b .nil qK (@qa _ _ _ _ _ (pv 0) (@qa _ _ _ _ _ qh qe ()) ()) () () ()) (fun _ _=>rfl)) () ()) (@qc _ _ _ _ _ (@Xf _ _ _ _ _ _ (@jk _ _ (["j","pot"]) (1) ([0]) _ _ _ _ _ _ _ _ _ (lcsN (qm jb) ["pot","names","many","k","words","word","one","two","three","at"]) rfl (@yf _ _ _ _ _ _ () T.Yn (@qa _ _ _ _ _ qh qe ()) ()) (fun _ _ _ _ _ _=>(@qN _ _ (0) _ (show List.Nodup (["j","pot"]:List Str) by decide+kernel) rfl (Or.inl rfl) ())) (fun _ _ _ _ _ _=> @QG _) (fun _ _ _ _ _ _=>(@qG _ _ _ _ _ _ _ ix_str qi (@qt _ _ _ _ _ _ _ _ _ _ _ _ _ _ _ _ qF (hr.mono ()) () T.g_law_take.m T.g_law_take.F.kp T.g_law_take.b .nil qK (@qa _ _ _ _ _ (pv 1) (@qa _ _ _ _ _ qh qe ()) ()) () () ()) (fun _ _=>rfl))) ()) (@pg_lstU _ _ _ _ _ _ rfl (Ql (@qN _ _ (6) _ QQ.nd rfl (Or.inl rfl) ()) (Ql (@qN _ _ (7) _ QQ.nd rfl (Or.inl rfl) ()) (Ql (@qN _ _ (8) _ QQ.nd rfl (Or.inl rfl) ()) Y2))) () ()) () () ()) (@qc _ _ _ _ _ (@qx _ _ (9) _ _ _ _ QQ.nd rfl (Or.inl rfl) (@qR _ _ _ _ _ _ _ _ _ yh () T.ym vw (@qa _ _ _ _ _ (@qj _ _ _ _ _ _ _ _ _ (@call_min2 _ rfl) () T.z_min boot_min (@qa _ _ _ _ _ (pv 2) (@qa _ _ _ _ _ (@qO _ _ _ _ _ _ _ _ Qd (@qO _ _ _ _ _ _ _ _ Qd (pv 3) qh) (@qt _ _ _ _ _ _ _ _ _ _ _ _ _ _ _ _ qF (hr.mono ()) () T.g_law_take.m T.g_law_take.F.kp T.g_law_take.b .nil qK (@qa _ _ _ _ _ (pv 0) (@qa _ _ _ _ _ (pv 2) qe ()) ()) () () ())) qe ()) ()) () () () ()) qe ()) () () () ()) () ()) (@qc _ _ _ _ _ (@qH _ _ _ _ _ _ _ _ (@qk _ _ _ _ _ _ _ _ Qh (pv 5) qi (qu _)) (@qf _ _ _ (@ql _ _ _ _ (@qO _ _ _ _ _ _ _ _ Qn (@qO _ _ _ _ _ _ _ _ Qn (@qO _ _ _ _ _ _ _ _ Qn qi (pv 6)) qi) (@qt _ _ _ _ _ _ _ _ _ _ _ _ _ _ _ _ jg (hr.mono ()) () T.g_law_word.m T.g_law_word.F.kp T.g_law_word.b .nil qK (@qa _ _ _ _ _ (pv 0) (@qa _ _ _ _ _ (pv 1) qe ()) ()) () () ())))) qp) (@qc _ _ _ _ _ (@qH _ _ _ _ _ _ _ _ (@qk _ _ _ _ _ _ _ _ Qq (pv 5) (@Qo _ _ _ _ (@qa _ _ _ _ _ qi (@qa _ _ _ _ _ qi qe ()) ())) (by with_unfolding_all rfl)) (@qf _ _ _ (@ql _ _ _ _ (@qO _ _ _ _ _ _ _ _ Qn (@qO _ _ _ _ _ _ _ _ Qn (pv 5) qi) (pv 6)))) qp) (@qc _ _ _ _ _ (@qH _ _ _ _ _ _ _ _ (@qk _ _ _ _ _ _ _ _ Qh (pv 5) qi (qu _)) (@qf _ _ _ (@ql _ _ _ _ (pv 5))) qp) (@qc _ _ _ _ _ (@qH _ _ _ _ _ _ _ _ (@qk _ _ _ _ _ _ _ _ Qh (pv 5) qi (qu _)) (@qf _ _ _ (@ql _ _ _ _ (@qO _ _ _ _ _ _ _ _ Qn qi (pv 9)))) qp) (@qc _ _ _ _ _ (@qH _ _ _ _ _ _ _ _ (@qk _ _ _ _ _ _ _ _ Qq (pv 5) (@Qo _ _ _ _ (@qa _ _ _ _ _ qi (@qa _ _ _ _ _ qi qe ()) ())) (by with_unfolding_all rfl)) (@qf _ _ _ (@ql _ _ _ _ (@Yo _ _ _ _ _ _ _ _ _ _ _ _ uH vJ vK ZB qi (@qa _ _ _ _ _ (@Qo _ _ _ _ (@qa _ _ _ _ _ (pv 5) (@qa _ _ _ _ _ (pv 6) (@qa _ _ _ _ _ (pv 9) qe ()) ()) ())) qe ()) () () () () ()))) qp) (@qc _ _ _ _ _ (@qH _ _ _ _ _ _ _ _ (@qk _ _ _ _ _ _ _ _ Qh (pv 5) qi (qu _)) (@qf _ _ _ (@ql _ _ _ _ (@Yo _ _ _ _ _ _ _ _ _ _ _ _ uH vJ vK ZB qi (@qa _ _ _ _ _ (@Qo _ _ _ _ (@qa _ _ _ _ _ (pv 5) (@qa _ _ _ _ _ (pv 6) (@qa _ _ _ _ _ (pv 7) (@qa _ _ _ _ _ (pv 9) qe ()) ()) ()) ())) qe ()) () () () () ()))) qp) (@qc _ _ _ _ _ (@qH _ _ _ _ _ _ _ _ (@qk _ _ _ _ _ _ _ _ Qq (pv 5) (@Qo _ _ _ _ (@qa _ _ _ _ _ qi (@qa _ _ _ _ _ qi qe ()) ())) (by with_unfolding_all rfl)) (@qf _ _ _ (@ql _ _ _ _ (@Yo _ _ _ _ _ _ _ _ _ _ _ _ uH vJ vK ZB qi (@qa _ _ _ _ _ (@Qo _ _ _ _ (@qa _ _ _ _ _ (pv 5) (@qa _ _ _ _ _ (pv 6) (@qa _ _ _ _ _ (pv 7) (@qa _ _ _ _ _ (pv 8) qe ()) ()) ()) ())) qe ()) () () () () ()))) qp) (@qf _ _ _ (@ql _ _ _ _ (@Yo _ _ _ _ _ _ _ _ _ _ _ _ uH vJ vK ZB qi (@qa _ _ _ _ _ (@Qo _ _ _ _ (@qa _ _ _ _ _ (pv 5) (@qa _ _ _ _ _ (pv 6) (@qa _ _ _ _ _ (pv 7) qe ()) ()) ())) qe ()) () () () () ())))))))))))))),?_⟩
 dsimp only [cxOf,Cx.nox];have ne:∀{H:Hp}{b:Addr}{l:List V},Qz H p->H b=some (.lst l)->l.length≠1->b≠p:=fun hP e hl z=>by
  obtain⟨x,e2,_⟩:=hP;rw [<-z,e] at e2;injection e2 with e3
  injection e3 with e4
  exact hl (by rw [e4];rfl)
 refine⟨_,rfl,_,_,rfl,rfl,(by decide+kernel),rfl,_,rfl,rfl,(by decide+kernel),fun q hq=> ?_⟩
 rw [show spl _ _=WL from wl_spl]
 have s1:Same H (upd H q (.lst (WL.map V.str))):=qb hq _;have eq:(upd H q (.lst (WL.map V.str))) q=some (.lst (WL.map V.str)):=qg;generalize upd H q (.lst (WL.map V.str))=H1 at s1 eq⊢;have P1:=hP.same s1;refine⟨_,rfl,p,24,rfl,P1,by decide,by decide,fun d H2 d0 d1 P2 K2 _=> ?_⟩
 obtain⟨v,hv⟩:=Jj (xs:=WL.map V.str) d0 (by show d<24;exact d1)
 obtain⟨z,hz,rfl⟩:=List.mem_map.mp (xF hv);refine⟨q,_,d,_,rfl,rfl,SqL.of (K2 _ _ eq (ne P1 eq (by show(24:Nat)≠1;decide))),hv,?_⟩
 have au:Kept p H H2:=(Kept.of s1).trans K2;have aF:=au _ _ hL (ne hP hL (by show(8:Nat)≠1;decide))
 refine⟨3,rfl,by decide,by decide,fun D hD=> ?_⟩
 refine ZF (lo:=0) (tl:= [some (.ref p)]) (fun i ys H'=>∃bs:List Str,ys=bs.map V.str/\bs.length=i/\(∀b∈bs,b∈BX)/\Qz H' p/\(∀b o,H2 b=some o->b≠p->H' b=some o)) (qS (by decide)) ⟨[],rfl,rfl,fun b hb=>by simp at hb,P2.same (qb hD _),fun b o e _=>qb hD _ _ _ e⟩ ?_ ?_
 ·rintro j ys H' hj ⟨bs,rfl,ap,ag,P',K'⟩ aq hy R hR;refine⟨_,rfl,p,5,rfl,P',by decide,by decide,fun d3 H4 e0 e1 P4 K4 _=> ?_⟩
  obtain⟨c,hc,aw⟩:=abc_at e0 e1;refine⟨"abcdh",d3,c,rfl,rfl,(by decide+kernel),hc,?_⟩
  have nD:D≠p:=fun z=>by
   obtain⟨x,e2,_⟩:=P2;rw [z,e2] at hD;cases hD
  refine hR _ H4 (K4 _ _ aq nD) ⟨bs++ [⟨#[c]⟩],by rw [uF];rfl,by rw [ug,ap];rfl,fun b hb=> ?_,?_,fun b o e np=> ?_⟩
  ·rcases List.mem_append.mp hb with h|h
   ·exact ag b h
   ·rw [vA] at h;subst h;exact aw
  ·obtain⟨x,e2,h2⟩:=P4;exact⟨x,by rw [qy nD.symm];exact e2,h2⟩
  ·rw [qy (qr e hD)];exact K4 _ _ (K' b o e np) np
 ·rintro ys H' ⟨bs,rfl,ap,ag,P',K'⟩ aq;obtain⟨x1,x2,x3,rfl⟩:∃x1 x2 x3,bs= [x1,x2,x3]:=by
   match bs,ap with
   | [x1,x2,x3],_=>exact⟨x1,x2,x3,rfl⟩
  have h1:=ag x1 (by simp)
  have h2:=ag x2 (by simp)
  have h3:=ag x3 (by simp)
  refine⟨D,_,rfl,SqL.of aq,rfl,_,_,rfl,_,_,rfl,_,_,rfl,rfl,?_⟩;refine⟨_,rfl,_,rfl,_,_,rfl,rfl,_,rfl,_,rfl,p,many,rfl,P',by omega,by omega,fun d5 H5 f0 f1 P5 K5 _=>⟨_,_,rfl,rfl,_,_,rfl,?_⟩⟩
  obtain⟨j,ej,ah,ao⟩:∃j:Int,j=(if(i:Int)+5+d5<(many:Int) then(i:Int)+5+d5 else(many:Int))/\1<=j/\j<=many:=⟨_,rfl,by split<;>omega,by split<;>omega⟩
  rw [<-ej];have af:=(yH ah (by omega)).1
  have av:j.natAbs.log2<1920:=by have:=Uv j.natAbs;omega
  refine⟨_,rfl,av,?_⟩;have KD:Kept p H H':=fun b o e np=>K' b o (au b o e np) np;have aa:Kept p H H5:=KD.trans K5;have ax:=aa _ _ hL (ne hP hL (by show(8:Nat)≠1;decide))
  have two:(2:Nat)<=sizeLine:=by decide
  clear hv;simp only [WL,uA,v7,v9] at hz;have ay:z="ask"∨z="has"∨z="names"∨z="text"∨z="copy"∨z="put"∨z="join"∨z="first"∨z="rest"∨z="size"∨z="cut"∨z="glue"∨z="like"∨z="none"∨z="rowed"∨z="go"∨z="say"∨z="fault"∨z="self":=by
   rcases hz with h|h|h|h|h|h|h|h|h|h|h|h|h|h|h|h|h|h|h|h|h|h|h|h<;>simp only [h,true_or,or_true]
  have es:∀y:Str,decide (V.str z=V.str y)=decide (z=y):=fun y=>by
   rw [uB];exact⟨fun h=>by injection h,fun h=>by rw [h]⟩
  by_cases hG:z∈GRP
  ·obtain⟨g1,g2,g3,g4,g5,g6,g7,aA,aB⟩:=grp_no z hG;refine⟨_,rfl,rfl,_,rfl,qo (by rw [es];exact uc g1) ?_⟩
   refine⟨_,rfl,two,fun l1 M=>⟨l1,_,rfl,.inl (SqL.of qg),rfl,rfl,_,rfl,?_⟩⟩;have I:=qb M (.lst ([.str "self",.str "say"]:List V));have O:=P5.same I;have U:Kept p H _:=aa.trans (Kept.of I);refine qo (by rw [if_neg ua,inV_two];exact uc g2) ?_
   refine⟨_,rfl,rfl,_,rfl,qo (by rw [es];exact uc g3) ?_⟩
   refine⟨_,rfl,rfl,_,rfl,qo (by rw [es];exact uc g4) ?_⟩
   refine⟨_,rfl,two,fun l2 ab=>⟨l2,_,rfl,.inl (SqL.of qg),rfl,rfl,_,rfl,?_⟩⟩;have Y:=qb ab (.lst ([.str "none",.str "rowed"]:List V));have ac:=O.same Y;have ad:Kept p H _:=U.trans (Kept.of Y);refine qo (by rw [if_neg ua,inV_two];exact uc g5) ?_
   refine⟨_,rfl,rfl,_,rfl,qo (by rw [es];exact uc g6) ?_⟩
   refine⟨_,rfl,two,fun l3 ak=>⟨l3,_,rfl,.inl (SqL.of qg),rfl,rfl,_,rfl,?_⟩⟩;have ae:=qb ak (.lst ([.str "cut",.str "glue"]:List V));have al:=ac.same ae;have am:Kept p H _:=ad.trans (Kept.of ae);refine qo (by rw [if_neg ua,inV_two];exact uc g7) ?_
   refine⟨rfl,_,rfl,_,rfl,_,rfl,(by show 3<=sizeLine;decide),fun q2 Z=> ?_⟩
   refine⟨" ",q2,[z,x1,x2],rfl,rfl,SqL.of qg,?_,?_⟩
   ·simp only [uk,vi,vq,UA,uh,uW];have e1:(" ":Str).length=1:=by decide+kernel
    have e2:=aB;have:=(Qr h1).1;have:=(Qr h2).1;have:=(Qr h3).1;have:=af;omega
   ·exact k (z,[.s x1,.s x2]) _ ⟨[.box,.box],aA,h1,h2,trivial⟩ (al.same (qb Z _)) (am.trans (Kept.of (qb Z _)))
  clear es;have aC:z="text"∨z="cut"∨z="glue"∨z="like"∨z="none"∨z="rowed"∨z="go"∨z="say"∨z="fault"∨z="self":=by
   rcases ay with h|h|h|h|h|h|h|h|h|h|h|h|h|h|h|h|h|h|h<;>first|exact absurd (by rw [h];decide+kernel) hG|simp only [h,true_or,or_true]
  rcases aC with rfl|rfl|rfl|rfl|rfl|rfl|rfl|rfl|rfl|rfl
  ·refine⟨_,rfl,rfl,_,rfl,qC (show decide (V.str ("text":Str)=V.str "text")=true by decide+kernel) ?_⟩
   refine⟨_,rfl,_,_,rfl,rfl,fits (by rw [(Qr h1).1];decide+kernel),_,_,rfl,rfl,fits (by rw [jS,(Qr h1).1];decide+kernel),_,rfl,_,rfl,p,L,rfl,P5,ax,fun y H6 hy P6 K6=> ?_⟩
   obtain⟨y1,y2⟩:=wrd_ok y hy;have hb:=(Qr h1).1;refine⟨_,_,rfl,rfl,fits (by rw [jS,jS,hb];have e5:("text ":Str).length=5:=(by decide+kernel);have e6:(" ":Str).length=1:=(by decide+kernel);omega),?_⟩
   rw [join3t];exact k ("text",[.s x1,.s y]) H6 ⟨[.box,.words],(show(("text":Str),[Kd.box,.words])∈FRM by decide+kernel),h1,⟨y1,y2⟩,trivial⟩ P6 (aa.trans K6)
  ·refine⟨_,rfl,rfl,_,rfl,qo (show decide (V.str ("cut":Str)=V.str "text")=false by decide+kernel) ?_⟩
   refine⟨_,rfl,two,fun l1 M=>⟨l1,_,rfl,.inl (SqL.of qg),rfl,rfl,_,rfl,?_⟩⟩;have I:=qb M (.lst ([.str "self",.str "say"]:List V));have O:=P5.same I;have U:Kept p H _:=aa.trans (Kept.of I);refine qo (by decide+kernel) ?_
   refine⟨_,rfl,rfl,_,rfl,qo (show decide (V.str ("cut":Str)=V.str "fault")=false by decide+kernel) ?_⟩
   refine⟨_,rfl,rfl,_,rfl,qo (show decide (V.str ("cut":Str)=V.str "go")=false by decide+kernel) ?_⟩
   refine⟨_,rfl,two,fun l2 ab=>⟨l2,_,rfl,.inl (SqL.of qg),rfl,rfl,_,rfl,?_⟩⟩;have Y:=qb ab (.lst ([.str "none",.str "rowed"]:List V));have ac:=O.same Y;have ad:Kept p H _:=U.trans (Kept.of Y);refine qo (by decide+kernel) ?_
   refine⟨_,rfl,rfl,_,rfl,qo (show decide (V.str ("cut":Str)=V.str "like")=false by decide+kernel) ?_⟩
   refine⟨_,rfl,two,fun l3 ak=>⟨l3,_,rfl,.inl (SqL.of qg),rfl,rfl,_,rfl,?_⟩⟩;have ae:=qb ak (.lst ([.str "cut",.str "glue"]:List V));have al:=ac.same ae;have am:Kept p H _:=ad.trans (Kept.of ae);refine qC (by decide+kernel) ?_
   refine⟨rfl,_,rfl,_,rfl,_,rfl,_,rfl,(by show 4<=sizeLine;decide),fun q2 Z=> ?_⟩
   refine⟨" ",q2,["cut",x1,x2,x3],rfl,rfl,SqL.of qg,?_,?_⟩
   ·simp only [uk,vi,vq,UA,uh,uW];have e1:(" ":Str).length=1:=by decide+kernel
    have e2:("cut":Str).length<=10:=by decide+kernel
    have:=(Qr h1).1;have:=(Qr h2).1;have:=(Qr h3).1;have:=af;omega
   ·exact k ("cut",[.s x1,.s x2,.s x3]) _ ⟨[.box,.box,.box],(show(("cut":Str),[Kd.box,.box,.box])∈FRM by decide+kernel),h1,h2,h3,trivial⟩ (al.same (qb Z _)) (am.trans (Kept.of (qb Z _)))
  ·refine⟨_,rfl,rfl,_,rfl,qo (show decide (V.str ("glue":Str)=V.str "text")=false by decide+kernel) ?_⟩
   refine⟨_,rfl,two,fun l1 M=>⟨l1,_,rfl,.inl (SqL.of qg),rfl,rfl,_,rfl,?_⟩⟩;have I:=qb M (.lst ([.str "self",.str "say"]:List V));have O:=P5.same I;have U:Kept p H _:=aa.trans (Kept.of I);refine qo (by decide+kernel) ?_
   refine⟨_,rfl,rfl,_,rfl,qo (show decide (V.str ("glue":Str)=V.str "fault")=false by decide+kernel) ?_⟩
   refine⟨_,rfl,rfl,_,rfl,qo (show decide (V.str ("glue":Str)=V.str "go")=false by decide+kernel) ?_⟩
   refine⟨_,rfl,two,fun l2 ab=>⟨l2,_,rfl,.inl (SqL.of qg),rfl,rfl,_,rfl,?_⟩⟩;have Y:=qb ab (.lst ([.str "none",.str "rowed"]:List V));have ac:=O.same Y;have ad:Kept p H _:=U.trans (Kept.of Y);refine qo (by decide+kernel) ?_
   refine⟨_,rfl,rfl,_,rfl,qo (show decide (V.str ("glue":Str)=V.str "like")=false by decide+kernel) ?_⟩
   refine⟨_,rfl,two,fun l3 ak=>⟨l3,_,rfl,.inl (SqL.of qg),rfl,rfl,_,rfl,?_⟩⟩;have ae:=qb ak (.lst ([.str "cut",.str "glue"]:List V));have al:=ac.same ae;have am:Kept p H _:=ad.trans (Kept.of ae);refine qC (by decide+kernel) ?_
   refine⟨rfl,_,rfl,_,rfl,_,rfl,_,rfl,(by show 4<=sizeLine;decide),fun q2 Z=> ?_⟩
   refine⟨" ",q2,["glue",x1,x2,x3],rfl,rfl,SqL.of qg,?_,?_⟩
   ·simp only [uk,vi,vq,UA,uh,uW];have e1:(" ":Str).length=1:=by decide+kernel
    have e2:("glue":Str).length<=10:=by decide+kernel
    have:=(Qr h1).1;have:=(Qr h2).1;have:=(Qr h3).1;have:=af;omega
   ·exact k ("glue",[.s x1,.s x2,.s x3]) _ ⟨[.box,.box,.box],(show(("glue":Str),[Kd.box,.box,.box])∈FRM by decide+kernel),h1,h2,h3,trivial⟩ (al.same (qb Z _)) (am.trans (Kept.of (qb Z _)))
  ·refine⟨_,rfl,rfl,_,rfl,qo (show decide (V.str ("like":Str)=V.str "text")=false by decide+kernel) ?_⟩
   refine⟨_,rfl,two,fun l1 M=>⟨l1,_,rfl,.inl (SqL.of qg),rfl,rfl,_,rfl,?_⟩⟩;have I:=qb M (.lst ([.str "self",.str "say"]:List V));have O:=P5.same I;have U:Kept p H _:=aa.trans (Kept.of I);refine qo (by decide+kernel) ?_
   refine⟨_,rfl,rfl,_,rfl,qo (show decide (V.str ("like":Str)=V.str "fault")=false by decide+kernel) ?_⟩
   refine⟨_,rfl,rfl,_,rfl,qo (show decide (V.str ("like":Str)=V.str "go")=false by decide+kernel) ?_⟩
   refine⟨_,rfl,two,fun l2 ab=>⟨l2,_,rfl,.inl (SqL.of qg),rfl,rfl,_,rfl,?_⟩⟩;have Y:=qb ab (.lst ([.str "none",.str "rowed"]:List V));have ac:=O.same Y;have ad:Kept p H _:=U.trans (Kept.of Y);refine qo (by decide+kernel) ?_
   refine⟨_,rfl,rfl,_,rfl,qC (show decide (V.str ("like":Str)=V.str "like")=true by decide+kernel) ?_⟩
   refine⟨rfl,_,rfl,_,rfl,_,rfl,_,rfl,(by show 4<=sizeLine;decide),fun q2 Z=> ?_⟩
   refine⟨" ",q2,["like",x1,x2,toString j],rfl,rfl,SqL.of qg,?_,?_⟩
   ·simp only [uk,vi,vq,UA,uh,uW];have e1:(" ":Str).length=1:=by decide+kernel
    have e2:("like":Str).length<=10:=by decide+kernel
    have:=(Qr h1).1;have:=(Qr h2).1;have:=(Qr h3).1;have:=af;omega
   ·exact k ("like",[.s x1,.s x2,.n j]) _ ⟨[.box,.box,.line],(show(("like":Str),[Kd.box,.box,.line])∈FRM by decide+kernel),h1,h2,⟨ah,ao⟩,trivial⟩ (ac.same (qb Z _)) (ad.trans (Kept.of (qb Z _)))
  ·refine⟨_,rfl,rfl,_,rfl,qo (show decide (V.str ("none":Str)=V.str "text")=false by decide+kernel) ?_⟩
   refine⟨_,rfl,two,fun l1 M=>⟨l1,_,rfl,.inl (SqL.of qg),rfl,rfl,_,rfl,?_⟩⟩;have I:=qb M (.lst ([.str "self",.str "say"]:List V));have O:=P5.same I;have U:Kept p H _:=aa.trans (Kept.of I);refine qo (by decide+kernel) ?_
   refine⟨_,rfl,rfl,_,rfl,qo (show decide (V.str ("none":Str)=V.str "fault")=false by decide+kernel) ?_⟩
   refine⟨_,rfl,rfl,_,rfl,qo (show decide (V.str ("none":Str)=V.str "go")=false by decide+kernel) ?_⟩
   refine⟨_,rfl,two,fun l2 ab=>⟨l2,_,rfl,.inl (SqL.of qg),rfl,rfl,_,rfl,?_⟩⟩;have Y:=qb ab (.lst ([.str "none",.str "rowed"]:List V));have ac:=O.same Y;have ad:Kept p H _:=U.trans (Kept.of Y);refine qC (by decide+kernel) ?_
   refine⟨rfl,_,rfl,_,rfl,_,rfl,(by show 3<=sizeLine;decide),fun q2 Z=> ?_⟩
   refine⟨" ",q2,["none",x1,toString j],rfl,rfl,SqL.of qg,?_,?_⟩
   ·simp only [uk,vi,vq,UA,uh,uW];have e1:(" ":Str).length=1:=by decide+kernel
    have e2:("none":Str).length<=10:=by decide+kernel
    have:=(Qr h1).1;have:=(Qr h2).1;have:=(Qr h3).1;have:=af;omega
   ·exact k ("none",[.s x1,.n j]) _ ⟨[.box,.line],(show(("none":Str),[Kd.box,.line])∈FRM by decide+kernel),h1,⟨ah,ao⟩,trivial⟩ (ac.same (qb Z _)) (ad.trans (Kept.of (qb Z _)))
  ·refine⟨_,rfl,rfl,_,rfl,qo (show decide (V.str ("rowed":Str)=V.str "text")=false by decide+kernel) ?_⟩
   refine⟨_,rfl,two,fun l1 M=>⟨l1,_,rfl,.inl (SqL.of qg),rfl,rfl,_,rfl,?_⟩⟩;have I:=qb M (.lst ([.str "self",.str "say"]:List V));have O:=P5.same I;have U:Kept p H _:=aa.trans (Kept.of I);refine qo (by decide+kernel) ?_
   refine⟨_,rfl,rfl,_,rfl,qo (show decide (V.str ("rowed":Str)=V.str "fault")=false by decide+kernel) ?_⟩
   refine⟨_,rfl,rfl,_,rfl,qo (show decide (V.str ("rowed":Str)=V.str "go")=false by decide+kernel) ?_⟩
   refine⟨_,rfl,two,fun l2 ab=>⟨l2,_,rfl,.inl (SqL.of qg),rfl,rfl,_,rfl,?_⟩⟩;have Y:=qb ab (.lst ([.str "none",.str "rowed"]:List V));have ac:=O.same Y;have ad:Kept p H _:=U.trans (Kept.of Y);refine qC (by decide+kernel) ?_
   refine⟨rfl,_,rfl,_,rfl,_,rfl,(by show 3<=sizeLine;decide),fun q2 Z=> ?_⟩
   refine⟨" ",q2,["rowed",x1,toString j],rfl,rfl,SqL.of qg,?_,?_⟩
   ·simp only [uk,vi,vq,UA,uh,uW];have e1:(" ":Str).length=1:=by decide+kernel
    have e2:("rowed":Str).length<=10:=by decide+kernel
    have:=(Qr h1).1;have:=(Qr h2).1;have:=(Qr h3).1;have:=af;omega
   ·exact k ("rowed",[.s x1,.n j]) _ ⟨[.box,.line],(show(("rowed":Str),[Kd.box,.line])∈FRM by decide+kernel),h1,⟨ah,ao⟩,trivial⟩ (ac.same (qb Z _)) (ad.trans (Kept.of (qb Z _)))
  ·refine⟨_,rfl,rfl,_,rfl,qo (show decide (V.str ("go":Str)=V.str "text")=false by decide+kernel) ?_⟩
   refine⟨_,rfl,two,fun l1 M=>⟨l1,_,rfl,.inl (SqL.of qg),rfl,rfl,_,rfl,?_⟩⟩;have I:=qb M (.lst ([.str "self",.str "say"]:List V));have O:=P5.same I;have U:Kept p H _:=aa.trans (Kept.of I);refine qo (by decide+kernel) ?_
   refine⟨_,rfl,rfl,_,rfl,qo (show decide (V.str ("go":Str)=V.str "fault")=false by decide+kernel) ?_⟩
   refine⟨_,rfl,rfl,_,rfl,qC (show decide (V.str ("go":Str)=V.str "go")=true by decide+kernel) ?_⟩
   refine⟨_,rfl,_,_,rfl,rfl,fits (by have e5:("go ":Str).length=3:=(by decide+kernel);omega),?_⟩
   exact k ("go",[.n j]) _ ⟨[.line],(show(("go":Str),[Kd.line])∈FRM by decide+kernel),⟨ah,ao⟩,trivial⟩ O U
  ·refine⟨_,rfl,rfl,_,rfl,qo (show decide (V.str ("say":Str)=V.str "text")=false by decide+kernel) ?_⟩
   refine⟨_,rfl,two,fun l1 M=>⟨l1,_,rfl,.inl (SqL.of qg),rfl,rfl,_,rfl,?_⟩⟩;have I:=qb M (.lst ([.str "self",.str "say"]:List V));have O:=P5.same I;have U:Kept p H _:=aa.trans (Kept.of I);refine qC (by decide+kernel) ?_
   refine⟨_,rfl,_,_,rfl,rfl,(by decide+kernel),_,rfl,_,_,rfl,rfl,fits (by rw [jS,(Qr h1).1];decide+kernel),?_⟩
   exact k ("say",[.s x1]) _ ⟨[.box],(show(("say":Str),[Kd.box])∈FRM by decide+kernel),h1,trivial⟩ O U
  ·refine⟨_,rfl,rfl,_,rfl,qo (show decide (V.str ("fault":Str)=V.str "text")=false by decide+kernel) ?_⟩
   refine⟨_,rfl,two,fun l1 M=>⟨l1,_,rfl,.inl (SqL.of qg),rfl,rfl,_,rfl,?_⟩⟩;have I:=qb M (.lst ([.str "self",.str "say"]:List V));have O:=P5.same I;have U:Kept p H _:=aa.trans (Kept.of I);refine qo (by decide+kernel) ?_
   refine⟨_,rfl,rfl,_,rfl,qC (show decide (V.str ("fault":Str)=V.str "fault")=true by decide+kernel) ?_⟩
   exact⟨_,rfl,k ("fault",[]) _ ⟨[],(show(("fault":Str),([]:List Kd))∈FRM by decide+kernel),trivial⟩ O U⟩
  ·refine⟨_,rfl,rfl,_,rfl,qo (show decide (V.str ("self":Str)=V.str "text")=false by decide+kernel) ?_⟩
   refine⟨_,rfl,two,fun l1 M=>⟨l1,_,rfl,.inl (SqL.of qg),rfl,rfl,_,rfl,?_⟩⟩;have I:=qb M (.lst ([.str "self",.str "say"]:List V));have O:=P5.same I;have U:Kept p H _:=aa.trans (Kept.of I);refine qC (by decide+kernel) ?_
   refine⟨_,rfl,_,_,rfl,rfl,(by decide+kernel),_,rfl,_,_,rfl,rfl,fits (by rw [jS,(Qr h1).1];decide+kernel),?_⟩
   exact k ("self",[.s x1]) _ ⟨[.box],(show(("self":Str),[Kd.box])∈FRM by decide+kernel),h1,trivial⟩ O U
theorem ptsOk_up {n L m M:Nat}(h1:n<=L)(h2:m<=M):∀{ks:List Kd}{ps:List Pt},yY n m ks ps->yY L M ks ps
 | [],[],_=>trivial
 |k::ks,q::ps,h=>by
  refine⟨?_,ptsOk_up h1 h2 h.2⟩;have I:=h.1;cases k<;>cases q<;>simp only [ptOk] at I⊢
  ·exact I
  ·exact⟨I.1,by omega⟩
  ·exact⟨by omega,I.2⟩
 | [],_::_,h=>h.elim
 |_::_,[],h=>h.elim
theorem QD.up {n I m L:Nat}{r:Rw}(h1:n<=I)(h2:m<=L)(h:QD n m r):QD I L r:=let⟨ks,hk,hp⟩:=h;⟨ks,hk,ptsOk_up h1 h2 hp⟩
theorem sz_lines (c:Nat):∀rs:List Rw,(∀r∈rs,(qB r).length<=c)->szL (rs.map fun r=> .str (qB r))<=rs.length*(c+1)
 | [],_=>by simp [szL]
 |r::rs,h=>by
  have h1:=h r uE;have h2:=sz_lines c rs fun x I=>h x (uq _ I);simp only [uk,szL,sz,uh,Nat.succ_mul];omega
theorem dp_lines:∀rs:List Rw,dpL (rs.map fun r=> .str (qB r))<=1
 | []=>by simp [dpL]
 |r::rs=>by
  have:=dp_lines rs;simp only [uk,dpL,dp];omega
theorem zS:∀rs:List Rw,(∀r∈rs,QV (qB r)=true)->goodL (rs.map fun r=> .str (qB r))=true
 | [],_=>rfl
 |r::rs,h=>by
  simp only [uk,goodL,good];rw [h r uE,zS rs fun x I=>h x (uq _ I)]
  rfl
theorem rule_tree {rs:List Rw}{m:Nat}(L:rs.length<=40)(hm:m<=125)(h:∀r∈rs,QD rs.length m r)(M:∀r∈rs,(qB r).length<=300)(U:szL (rs.map fun r=> .str (qB r))<=599):isT (QY rs)=true:=by
 have h2:=dp_lines rs;have O:=zS rs fun r I=>by
  unfold QV;rw [line_all L (h r I),u7 (M r I)]
  rfl
 have Y:sz (QY rs)=1+szL (rs.map fun r=> .str (qB r)):=by unfold QY;simp only [sz]
 have Z:dp (QY rs)=1+dpL (rs.map fun r=> .str (qB r)):=by unfold QY;simp only [dp]
 have R:good (QY rs)=true:=by
  unfold QY;simp only [good];rw [O,uf,u7 (by omega)]
  rfl
 unfold isT;rw [R,u7 (p:=sz (QY rs)<=600) (by omega),u7 (p:=dp (QY rs)<=12) (by omega)]
 rfl
structure Drawn (rs:List Rw):Prop where
 n0:5<=rs.length
 n1:rs.length<=40
 ok:∀r∈rs,QD rs.length 4 r
theorem Drawn.rule {rs:List Rw}(h:Drawn rs):QA rs:=by
 have h1:∀r∈rs,(qB r).length<=11:=fun r I=>line_len h.n1 (by decide) (by decide) (h.ok r I)
 have h2:=sz_lines 11 rs h1;have n1:=h.n1;exact⟨by have:=h.n0;omega,n1,fun r I=>QD.up (ui _) (by decide) (h.ok r I),rule_tree n1 (by decide) h.ok (fun r I=>by have:=h1 r I;omega) (by omega)⟩
def sp_rule:Sp:=fun vs H Q _=>∃p L:Addr,vs= [.ref p,.ref L]/\PotB MB H p/\H L=some (.lst (NMS.map V.str))/\∀(v:V) (rs:List Rw) (H':Hp),Drawn rs->Is H' (QY rs) v->Qz H' p->Kept p H H'->Q v H'
noncomputable def mkR (z1 z2 c:Str)(rs:List Rw):List Rw:=("text",[.s "a",.s z1])::("text",[.s "b",.s z2])::("row",[.s "h"])::(rs++ [(("say":Str),[Pt.s c])])
theorem mkR_map (I L c:Str)(rs:List Rw):(([V.str ("text a "++I),.str ("text b "++L),.str "row h"]++rs.map fun r=>V.str (qB r))++ [V.str ("say "++c)])=(mkR I L c rs).map fun r=>V.str (qB r):=by
 have M:("text a "++I:Str)=qB ("text",[.s "a",.s I]):=by
  rw [<-join3t];rw [show("text a ":Str)=("text "++"a":Str)++(" ":Str) by decide+kernel]
 have O:("text b "++L:Str)=qB ("text",[.s "b",.s L]):=by
  rw [<-join3t];rw [show("text b ":Str)=("text "++"b":Str)++(" ":Str) by decide+kernel]
 have R:("row h":Str)=qB ("row",[.s "h"]):=by decide+kernel
 have U:("say "++c:Str)=qB ("say",[.s c]):=by
  rw [show("say ":Str)=("say":Str)++(" ":Str) by decide+kernel]
  rfl
 rw [M,O,R,U];simp [mkR]
theorem mkR_ok {L M c:Str}{rs:List Rw}{n:Nat}(h1:L∈WRD)(h2:M∈WRD)(O:c∈BX)(h:∀r∈rs,QD n 4 r):∀r∈mkR L M c rs,QD n 4 r:=by
 intro r I;simp only [mkR,uA,List.mem_append,v7,v9] at I;rcases I with rfl|rfl|rfl|I|rfl
 ·exact⟨[.box,.words],(show(("text":Str),[Kd.box,.words])∈FRM by decide+kernel),(show("a":Str)∈BX by decide+kernel),wrd_ok L h1,trivial⟩
 ·exact⟨[.box,.words],(show(("text":Str),[Kd.box,.words])∈FRM by decide+kernel),(show("b":Str)∈BX by decide+kernel),wrd_ok M h2,trivial⟩
 ·exact⟨[.box],by decide+kernel,(show("h":Str)∈BX by decide+kernel),trivial⟩
 ·exact h r I
 ·exact⟨[.box],(show(("say":Str),[Kd.box])∈FRM by decide+kernel),O,trivial⟩
theorem rows_is {H:Hp}:∀{rs:List Rw},(∀r∈rs,(qB r).length<=sizeLine)->L2.IsL H (rs.map fun r=> .str (qB r)) (rs.map fun r=>V.str (qB r))
 | [],_=>rfl
 |r::rs,h=>⟨_,_,rfl,⟨rfl,h r uE⟩,rows_is fun y I=>h y (uq _ I)⟩
theorem ok_rule (T:Tx K mg a):FnOk P w K mg base CX0 4 a.X7 a.zB ["pot","names"] sp_rule:=by
 have qF:=YR (P:=P) (w:=w) (base:=base) T;have jg:=ok_word (P:=P) (w:=w) (base:=base) T;have I:=ok_longer (P:=P) (w:=w) (base:=base) T;have M:=ok_line (P:=P) (w:=w) (base:=base) T;refine T.g_law_rule.F.ok yN () (fun _ _ _ _ H _ Q E Z h=> ?_)
 obtain⟨p,L,rfl,aa,hL,k⟩:=h;refine⟨_,(@qc _ _ _ _ _ (@qx _ _ (2) _ _ _ _ yN.nd rfl (Or.inl rfl) (@qO _ _ _ _ _ _ _ _ Qd qh (@qt _ _ _ _ _ _ _ _ _ _ _ _ _ _ _ _ qF (Z.mono ()) () T.g_law_take.m T.g_law_take.F.kp T.g_law_take.b .nil qK (@qa _ _ _ _ _ (pv 0) (@qa _ _ _ _ _ qh qe ()) ()) () () ())) () ()) (@qc _ _ _ _ _ (@qH _ _ _ _ _ _ _ _ (@qk _ _ _ _ _ _ _ _ Qh (@qt _ _ _ _ _ _ _ _ _ _ _ _ _ _ _ _ qF (Z.mono ()) () T.g_law_take.m T.g_law_take.F.kp T.g_law_take.b .nil qK (@qa _ _ _ _ _ (pv 0) (@qa _ _ _ _ _ qh qe ()) ()) () () ()) qh (qu _)) (@qc _ _ _ _ _ (@qx _ _ (2) _ _ _ _ yN.nd rfl (Or.inl rfl) (@qO _ _ _ _ _ _ _ _ Qd qh (@qt _ _ _ _ _ _ _ _ _ _ _ _ _ _ _ _ qF (Z.mono ()) () T.g_law_take.m T.g_law_take.F.kp T.g_law_take.b .nil qK (@qa _ _ _ _ _ (pv 0) (@qa _ _ _ _ _ qh qe ()) ()) () () ())) () ()) (@qf _ _ _ (@yq _ _ _ _ (@qt _ _ _ _ _ _ _ _ _ _ _ _ _ _ _ _ I (Z.mono ()) () T.g_law_longer.m T.g_law_longer.F.kp T.g_law_longer.b .nil qK (@qa _ _ _ _ _ (pv 0) qe ()) () () ()) ()))) qp) (@qc _ _ _ _ _ (@qx _ _ (3) _ _ _ _ yN.nd rfl (Or.inr rfl) (@qO _ _ _ _ _ _ _ _ Qd (pv 2) qh) () ()) (@qc _ _ _ _ _ (@qx _ _ (4) _ _ _ _ yN.nd rfl (Or.inl rfl) (@Qo _ _ _ _ (@qa _ _ _ _ _ (@qO _ _ _ _ _ _ _ _ Qn qi (@qt _ _ _ _ _ _ _ _ _ _ _ _ _ _ _ _ jg (Z.mono ()) () T.g_law_word.m T.g_law_word.F.kp T.g_law_word.b .nil qK (@qa _ _ _ _ _ (pv 0) (@qa _ _ _ _ _ (pv 1) qe ()) ()) () () ())) (@qa _ _ _ _ _ (@qO _ _ _ _ _ _ _ _ Qn qi (@qt _ _ _ _ _ _ _ _ _ _ _ _ _ _ _ _ jg (Z.mono ()) () T.g_law_word.m T.g_law_word.F.kp T.g_law_word.b .nil qK (@qa _ _ _ _ _ (pv 0) (@qa _ _ _ _ _ (pv 1) qe ()) ()) () () ())) (@qa _ _ _ _ _ qi qe ()) ()) ())) () ()) (@qc _ _ _ _ _ (@yq _ _ _ _ (@Yo _ _ _ _ _ _ _ _ _ _ _ _ vm PySem.F.slot_list_extend PySem.F.type_list_extend mt_extend (pv 4) (@qa _ _ _ _ _ (@jk _ _ (["k","pot","names","many"]) (1) ([0,1,3]) _ _ _ _ _ _ _ _ _ (lcsN (qm jc) ["pot","names","body","many","lines"]) rfl (@yf _ _ _ _ _ _ () T.Yn (@qa _ _ _ _ _ (pv 2) qe ()) ()) (fun _ _ _ _ _ _=>(@qN _ _ (0) _ (show List.Nodup (["k","pot","names","many"]:List Str) by decide+kernel) rfl (Or.inl rfl) ())) (fun _ _ _ _ _ _=> @QG _) (fun _ _ _ _ _ _=>(@qt _ _ _ _ _ _ _ _ _ _ _ _ _ _ _ _ M (Z.mono ()) () T.g_law_line.m T.g_law_line.F.kp T.g_law_line.b .nil qK (@qa _ _ _ _ _ (pv 1) (@qa _ _ _ _ _ (pv 2) (@qa _ _ _ _ _ (pv 3) (@qa _ _ _ _ _ (pv 0) qe ()) ()) ()) ()) () () ())) ()) qe ()) () () () () ()) ()) (@qf _ _ _ (@ql _ _ _ _ (@qR _ _ _ _ _ _ _ _ _ qU () T.Qm uY (@qa _ _ _ _ _ (@qO _ _ _ _ _ _ _ _ op_cat (pv 4) (@Qo _ _ _ _ (@qa _ _ _ _ _ (@qO _ _ _ _ _ _ _ _ Qn qi (@qG _ _ _ _ _ _ _ ix_str qi (@qt _ _ _ _ _ _ _ _ _ _ _ _ _ _ _ _ qF (Z.mono ()) () T.g_law_take.m T.g_law_take.F.kp T.g_law_take.b .nil qK (@qa _ _ _ _ _ (pv 0) (@qa _ _ _ _ _ qh qe ()) ()) () () ()) (fun _ _=>rfl))) qe ()))) qe ()) () () () ())))))))),?_⟩
 dsimp only [cxOf,Cx.nox];have Y:∀{H:Hp}{b:Addr}{l:List V},Qz H p->H b=some (.lst l)->l.length≠1->b≠p:=fun hP e hl z=>by
  obtain⟨x,e2,_⟩:=hP;rw [<-z,e] at e2;injection e2 with e3
  injection e3 with e4
  exact hl (by rw [e4];rfl)
 refine⟨_,rfl,p,8,rfl,aa.at,by decide,by decide,fun d1 H1 a0 a1 P1 K1 B1=>⟨_,_,rfl,rfl,?_⟩⟩
 show tSeq _ _ _ _ H1;refine jt fun N0 aw=>aw _ _ ?_;refine jt fun N hN=> ?_;have ag:∀(nb:Nat) (bv:Int) (HX:Hp),bv=(nb:Int)->1<=nb->nb<=36->Kept p H HX->Qz HX p->N [some (.ref p),some (.ref L),some (.int bv),none,none] HX:=by
  intro nb bv HX ax aJ aK KK PX;subst ax;refine hN _ _ ?_;have ab:HX L=some (.lst (NMS.map V.str)):=KK _ _ hL (Y aa.at hL (by show(8:Nat)≠1;decide))
  refine⟨_,rfl,_,_,rfl,rfl,?_⟩;refine⟨_,rfl,_,rfl,p,L,rfl,PX,ab,fun O H5 ah P5 K5=>⟨_,_,rfl,rfl,fits (by have:=(wrd_ok O ah).1;have e7:("text a ":Str).length=7:=(by decide+kernel);omega),?_⟩⟩
  have ac:=K5 _ _ ab (Y PX ab (by show(8:Nat)≠1;decide))
  refine⟨_,rfl,_,rfl,p,L,rfl,P5,ac,fun U H6 ak P6 K6=>⟨_,_,rfl,rfl,fits (by have:=(wrd_ok U ak).1;have e7:("text b ":Str).length=7:=(by decide+kernel);omega),(by show 3<=sizeLine;decide),fun l hl=> ?_⟩⟩
  have ay:=K6 _ _ ac (Y P5 ac (by show(8:Nat)≠1;decide))
  have s7:=qb hl (.lst [.str ("text a "++O),.str ("text b "++U),.str "row h"]);have e7:(upd H6 l (.lst [.str ("text a "++O),.str ("text b "++U),.str "row h"])) l=some (.lst [.str ("text a "++O),.str ("text b "++U),.str "row h"]):=qg;have P7:=P6.same s7;have ad:=s7 _ _ ay;have K7:Kept p H (upd H6 l (.lst [.str ("text a "++O),.str ("text b "++U),.str "row h"])):=KK.trans (K5.trans (K6.trans (Kept.of s7)));refine⟨_,rfl,.inl ⟨rfl,_,SqL.of e7⟩,?_⟩;generalize upd H6 l (.lst [.str ("text a "++O),.str ("text b "++U),.str "row h"])=H7 at e7 P7 ad K7⊢;refine⟨_,rfl,nb,rfl,by omega,by omega,fun D hD=> ?_⟩
  have nD:D≠p:=fun z=>by
   obtain⟨x,e2,_⟩:=P7;rw [z,e2] at hD;cases hD
  refine ZF (lo:=0) (n:=nb) (tl:= [some (.ref p),some (.ref L),some (.int ((nb:Int)+4))]) (fun i ys H'=>∃rs:List Rw,ys=rs.map (fun r=>V.str (qB r))/\rs.length=i/\(∀r∈rs,QD (nb+4) 4 r)/\Qz H' p/\(∀b o,H7 b=some o->b≠p->H' b=some o)) (qS (by omega)) ⟨[],rfl,rfl,fun b hb=>by simp at hb,P7.same (qb hD _),fun b o e _=>qb hD _ _ _ e⟩ ?_ ?_
  ·rintro j ys H' hj ⟨rs,rfl,al,ae,P',K'⟩ af hy R hR;have aA:=K' _ _ ad (Y P7 ad (by show(8:Nat)≠1;decide))
   refine⟨_,rfl,_,rfl,_,rfl,_,rfl,p,L,nb+4,j,?_,P',aA,by omega,by omega,by omega,fun r H8 aB P8 K8=> ?_⟩
   ·rw [show(0:Int)+(j:Int)=(j:Int) by omega,show((nb+4:Nat):Int)=(nb:Int)+4 by omega]
    rfl
   ·refine hR _ H8 (K8 _ _ af nD) ⟨rs++ [r],by rw [uF];rfl,by rw [ug,al];rfl,fun b hb=> ?_,?_,fun b o e np=> ?_⟩
    ·rcases List.mem_append.mp hb with h|h
     ·exact ae b h
     ·rw [vA] at h;subst h;exact aB
    ·obtain⟨x,e2,h2⟩:=P8;exact⟨x,by rw [qy nD.symm];exact e2,h2⟩
    ·rw [qy (qr e hD)];exact K8 _ _ (K' b o e np) np
  ·rintro ys H' ⟨rs,rfl,al,ae,P',K'⟩ af;have nl:l≠p:=Y P7 e7 (by show(3:Nat)≠1;decide)
   have e8:=K' _ _ e7 nl;refine⟨l,D,_,_,rfl,rfl,e8,af,fits (by show 3+(rs.map fun r=>V.str (qB r)).length<=16000000;rw [uf];omega),?_⟩
   have e9:(upd H' l (.lst ([.str ("text a "++O),.str ("text b "++U),.str "row h"]++rs.map fun r=>V.str (qB r)))) l=some (.lst ([.str ("text a "++O),.str ("text b "++U),.str "row h"]++rs.map fun r=>V.str (qB r))):=qg;have P9:Qz (upd H' l (.lst ([.str ("text a "++O),.str ("text b "++U),.str "row h"]++rs.map fun r=>V.str (qB r)))) p:=by
    obtain⟨x,e2,h2⟩:=P';exact⟨x,by rw [qy nl.symm];exact e2,h2⟩
   have K9:Kept p H (upd H' l (.lst ([.str ("text a "++O),.str ("text b "++U),.str "row h"]++rs.map fun r=>V.str (qB r)))):=fun b o e np=>by
    have q6:=(KK.trans (K5.trans K6)) b o e np;rw [qy (qr q6 hl)];exact K' b o (K7 b o e np) np
   generalize upd H' l (.lst ([.str ("text a "++O),.str ("text b "++U),.str "row h"]++rs.map fun r=>V.str (qB r)))=H9 at e9 P9 K9⊢;refine⟨_,rfl,_,rfl,p,5,rfl,P9,by decide,by decide,fun d9 aL g0 g1 aC am _=> ?_⟩
   obtain⟨c9,hc,aD⟩:=abc_at g0 g1;have ne:l≠p:=nl;have aE:=am _ _ e9 ne;refine⟨"abcdh",d9,c9,rfl,rfl,(by decide+kernel),hc,_,_,rfl,rfl,(by show("say ":Str).length+1<=sizeLine;decide+kernel),(by show 1<=sizeLine;decide),fun q1 aF=> ?_⟩
   have ao:=qb aF (.lst [.str ("say "++⟨#[c9]⟩)]);refine⟨l,q1,_,_,rfl,rfl,ao _ _ aE,qg,fits (by simp only [ug,uf,uh,uW];omega),fun q2 aG=>⟨q2,_,rfl,.inl ⟨SqL.of qg,fun q3 ap=> ?_⟩⟩⟩
   have aH:=qb aG (.lst (([.str ("text a "++O),.str ("text b "++U),.str "row h"]++rs.map fun r=>V.str (qB r))++ [.str ("say "++⟨#[c9]⟩)]));have aI:=qb ap (.tup (([.str ("text a "++O),.str ("text b "++U),.str "row h"]++rs.map fun r=>V.str (qB r))++ [.str ("say "++⟨#[c9]⟩)]));have aq:=ao.trans (aH.trans aI);have au:(mkR O U ⟨#[c9]⟩ rs).length=nb+4:=by simp only [mkR,uh,ug,uW];omega
   have av:Drawn (mkR O U ⟨#[c9]⟩ rs):=⟨by omega,by omega,by rw [au];exact mkR_ok ah ak aD ae⟩
   refine k _ (mkR O U ⟨#[c9]⟩ rs) _ av ?_ (aC.same aq) (K9.trans (am.trans (Kept.of aq)));refine Is.new (ds:=(mkR O U ⟨#[c9]⟩ rs).map fun r=> .str (qB r)) ?_ ap;rw [mkR_map];exact rows_is (fun r Z=>qS (by have:=av.rule.len Z;omega))
 refine⟨_,rfl,p,8,rfl,P1,by decide,by decide,fun d2 H2 b0 b1 P2 K2 B2=>⟨rfl,_,rfl,?_⟩⟩
 refine ite2 (fun c=> ?_) (fun c=> ?_)
 ·refine⟨_,rfl,p,17,rfl,P2,by decide,by decide,fun d3 H3 c0 c1 P3 K3 B3=>⟨_,_,rfl,rfl,?_⟩⟩
  refine⟨_,rfl,p,rfl,B3 (B2 (B1 aa)),fun H4 P4 K4=> ?_⟩;exact ag (20+d3).toNat _ H4 (by omega) (by omega) (by omega) (K1.trans (K2.trans (K3.trans K4))) P4
 ·exact ag (1+d1).toNat _ H2 (by omega) (by omega) (by omega) (K1.trans K2) P2
def sp_back:Sp:=fun vs H Q _=>∃(p:Addr) (v:V) (rs:List Rw),vs= [.ref p,v]/\Qz H p/\Is H (QY rs) v/\Drawn rs/\∀(u:V) (rs':List Rw) (H':Hp),Drawn rs'->Is H' (QY rs') u->Qz H' p->Kept p H H'->Q u H'
def BW:List Str:= ["go ","like a b ","none d ","rowed c "]
noncomputable def bwR (z:Str)(i:Int):Rw:=if z="go " then("go",[.n i]) else if z="like a b " then("like",[.s "a",.s "b",.n i]) else if z="none d " then("none",[.s "d",.n i]) else("rowed",[.s "c",.n i])
theorem bw_line {z:Str}(h:z∈BW)(i:Int):(z++toString i:Str)=qB (bwR z i):=by
 simp only [BW,uA,v7,v9] at h;rcases h with rfl|rfl|rfl|rfl
 ·show _=Str.join " " ["go",toString i];rw [show("go ":Str)=("go":Str)++(" ":Str) by decide+kernel]
  rfl
 ·show _=Str.join " " ["like","a","b",toString i];rw [show("like a b ":Str)=("like":Str)++(" ":Str)++(("a":Str)++(" ":Str))++(("b":Str)++(" ":Str)) by decide+kernel]
  show(⟨(((("like":Str).cps++(" ":Str).cps)++(("a":Str).cps++(" ":Str).cps))++(("b":Str).cps++(" ":Str).cps))++(toString i:Str).cps⟩:Str)=⟨(("like":Str).cps++(" ":Str).cps)++((("a":Str).cps++(" ":Str).cps)++((("b":Str).cps++(" ":Str).cps)++(toString i:Str).cps))⟩;simp [vT]
 ·show _=Str.join " " ["none","d",toString i];rw [show("none d ":Str)=("none":Str)++(" ":Str)++(("d":Str)++(" ":Str)) by decide+kernel]
  show(⟨((("none":Str).cps++(" ":Str).cps)++(("d":Str).cps++(" ":Str).cps))++(toString i:Str).cps⟩:Str)=⟨(("none":Str).cps++(" ":Str).cps)++((("d":Str).cps++(" ":Str).cps)++(toString i:Str).cps)⟩;simp [vT]
 ·show _=Str.join " " ["rowed","c",toString i];rw [show("rowed c ":Str)=("rowed":Str)++(" ":Str)++(("c":Str)++(" ":Str)) by decide+kernel]
  show(⟨((("rowed":Str).cps++(" ":Str).cps)++(("c":Str).cps++(" ":Str).cps))++(toString i:Str).cps⟩:Str)=⟨(("rowed":Str).cps++(" ":Str).cps)++((("c":Str).cps++(" ":Str).cps)++(toString i:Str).cps)⟩;simp [vT]
theorem bw_ok {z:Str}(h:z∈BW){i:Int}{n:Nat}(h1:1<=i)(h2:i<=n):QD n 4 (bwR z i):=by
 simp only [BW,uA,v7,v9] at h;rcases h with rfl|rfl|rfl|rfl
 ·exact⟨[.line],(show(("go":Str),[Kd.line])∈FRM by decide+kernel),⟨h1,h2⟩,trivial⟩
 ·exact⟨[.box,.box,.line],(show(("like":Str),[Kd.box,.box,.line])∈FRM by decide+kernel),(show("a":Str)∈BX by decide+kernel),(show("b":Str)∈BX by decide+kernel),⟨h1,h2⟩,trivial⟩
 ·exact⟨[.box,.line],(show(("none":Str),[Kd.box,.line])∈FRM by decide+kernel),(show("d":Str)∈BX by decide+kernel),⟨h1,h2⟩,trivial⟩
 ·exact⟨[.box,.line],(show(("rowed":Str),[Kd.box,.line])∈FRM by decide+kernel),(show("c":Str)∈BX by decide+kernel),⟨h1,h2⟩,trivial⟩
theorem ok_back (T:Tx K mg a):FnOk P w K mg base CX0 2 a.X1 a.X0 ["pot","rule"] sp_back:=by
 have qF:=YR (P:=P) (w:=w) (base:=base) T;refine T.g_law_back.F.ok jF () (fun _ _ _ _ H _ Q E L h=> ?_)
 obtain⟨p,v,rs,rfl,hP,hv,hD,k⟩:=h;refine⟨_,(@qc _ _ _ _ _ (@qx _ _ (2) _ _ _ _ jF.nd rfl (Or.inl rfl) (@qO _ _ _ _ _ _ _ _ Qd qh (@qt _ _ _ _ _ _ _ _ _ _ _ _ _ _ _ _ qF (L.mono ()) () T.g_law_take.m T.g_law_take.F.kp T.g_law_take.b .nil qK (@qa _ _ _ _ _ (pv 0) (@qa _ _ _ _ _ (@qO _ _ _ _ _ _ _ _ op_sub (@qj _ _ _ _ _ _ _ _ _ qE () T.Qy uv (@qa _ _ _ _ _ (pv 1) qe ()) () () () ()) qh) qe ()) ()) () () ())) () ()) (@qc _ _ _ _ _ (@qx _ _ (3) _ _ _ _ jF.nd rfl (Or.inl rfl) (@qG _ _ _ _ _ _ _ qP (@Qo _ _ _ _ (@qa _ _ _ _ _ qi (@qa _ _ _ _ _ qi (@qa _ _ _ _ _ qi (@qa _ _ _ _ _ qi qe ()) ()) ()) ())) (@qt _ _ _ _ _ _ _ _ _ _ _ _ _ _ _ _ qF (L.mono ()) () T.g_law_take.m T.g_law_take.F.kp T.g_law_take.b .nil qK (@qa _ _ _ _ _ (pv 0) (@qa _ _ _ _ _ qh qe ()) ()) () () ()) (fun _ _=>rfl)) () ()) (@qf _ _ _ (@ql _ _ _ _ (@qO _ _ _ _ _ _ _ _ yL (@qO _ _ _ _ _ _ _ _ yL (@QC _ _ _ _ _ _ _ _ _ _ yO (pv 1) QT (@QR _ _ _ (pv 2))) (@qD _ _ _ _ _ (@qa _ _ _ _ _ (@qO _ _ _ _ _ _ _ _ Qn (pv 3) (@qR _ _ _ _ _ _ _ _ _ yh () T.ym vw (@qa _ _ _ _ _ (@qO _ _ _ _ _ _ _ _ Qd qh (@qt _ _ _ _ _ _ _ _ _ _ _ _ _ _ _ _ qF (L.mono ()) () T.g_law_take.m T.g_law_take.F.kp T.g_law_take.b .nil qK (@qa _ _ _ _ _ (pv 0) (@qa _ _ _ _ _ (@qj _ _ _ _ _ _ _ _ _ qE () T.Qy uv (@qa _ _ _ _ _ (pv 1) qe ()) () () () ()) qe ()) ()) () () ())) qe ()) () () () ())) qe ()))) (@QC _ _ _ _ _ _ _ _ _ _ yO (pv 1) (@QR _ _ _ (@qO _ _ _ _ _ _ _ _ Qd (pv 2) qh)) QT)))))),?_⟩
 dsimp only [cxOf,Cx.nox];have aA:=hv;obtain⟨ta,us,rfl,aa,iu⟩:=aA;have aB:us.length=rs.length:=by rw [iu.length,uf]
 have n0:=hD.n0;have n1:=hD.n1;refine⟨_,rfl,_,rfl,ta,us,rfl,.inr (SqT.of aa),_,_,rfl,rfl,p,_,rfl,hP,?_,?_,fun d1 H1 a0 a1 P1 K1 _=>⟨_,_,rfl,rfl,?_⟩⟩
 ·omega
 ·omega
 refine⟨(by show 4<=sizeLine;decide),fun lw O=> ?_⟩
 have aC:=P1.same (qb O (.lst (BW.map V.str)));refine⟨_,rfl,p,4,rfl,aC,by decide,by decide,fun d2 H2 b0 b1 P2 K2 _=> ?_⟩
 have aD:lw≠p:=fun z=>by
  obtain⟨x,e2,_⟩:=P1;rw [z,e2] at O;cases O
 have e2:H2 lw=some (.lst (BW.map V.str)):=K2 _ _ qg aD;obtain⟨vz,hz⟩:=Jj (xs:=BW.map V.str) (i:=d2) b0 (by simpa [BW] using b1)
 obtain⟨z,ab,rfl⟩:=List.mem_map.mp (xF hz);refine⟨lw,_,_,_,rfl,rfl,SqL.of e2,hz,?_⟩;obtain⟨j,rfl⟩:∃j:Nat,d1=(j:Int):=⟨d1.toNat,by omega⟩
 have hj:j+3<rs.length:=by omega
 have s1:=qb O (.lst (BW.map V.str));have ac:Kept p H H2:=K1.trans ((Kept.of s1).trans K2);have ak:ta≠p:=fun z=>by
  obtain⟨x,e9,_⟩:=hP;rw [<-z,aa] at e9;cases e9
 have U:=ac _ _ aa ak;have aE:=iu.mono (hP.tk P2 ac);have cs:HT.sIx us.length us.length (some (3+(j:Int)))=j+3:=by
  rw [show(3+(j:Int))=((j+3:Nat):Int) by omega,HT.sIx_nat]
  omega
 have aF:HT.sIx us.length 0 (some (3+(j:Int)+1))=j+4:=by
  rw [show(3+(j:Int)+1)=((j+4:Nat):Int) by omega,HT.sIx_nat]
  omega
 refine⟨_,rfl,_,rfl,_,rfl,ta,us,rfl,SqT.of U,fun e=>absurd e.2 (by rw [cs];omega),fun _ t1 al=> ?_⟩
 rw [show cutV us none (some (3+(j:Int)))=us.take (j+3) by rw [show(3+(j:Int))=((j+3:Nat):Int) by omega];exact xU (by omega)]
 have s3:=qb al (.tup (us.take (j+3)));have e3:upd H2 t1 (.tup (us.take (j+3))) t1=some (.tup (us.take (j+3))):=qg;have P3:=P2.same s3;have aG:t1≠p:=(P2.free al).symm;have M:=s3 _ _ U;have am:Kept p H (upd H2 t1 (.tup (us.take (j+3)))):=ac.trans (Kept.of s3);have ao:=aE.mono s3.tk;generalize upd H2 t1 (.tup (us.take (j+3)))=H3 at e3 P3 M am ao⊢;refine⟨_,rfl,_,rfl,_,rfl,ta,us,rfl,.inr (SqT.of M),p,_,rfl,P3,by omega,by omega,fun d3 H4 c0 c1 P4 K4 _=>⟨_,_,rfl,rfl,?_⟩⟩
 have ap:=K4 _ _ M ak;have e4:=K4 _ _ e3 aG;have aH:=am.trans K4;have aI:=ao.mono (P3.tk P4 K4);have aQ:z.length<=9:=by
  have:∀y∈BW,y.length<=9:=by decide+kernel
  exact this z ab
 have aR:(toString (1+d3):Str).length<=2:=(yH (by omega) (by omega)).1
 refine⟨_,rfl,?_,_,_,rfl,rfl,fits (by omega),(by show 1<=sizeLine;decide),fun t2 aJ=> ?_⟩
 ·have:=Uv (1+d3).natAbs;omega
 rw [bw_line ab (1+d3)];generalize aK:bwR z (1+d3)=I;have hok:QD rs.length 4 I:=aK▸bw_ok ab (by omega) (by omega)
 have s5:=qb aJ (.tup [V.str (qB I)]);have e5:upd H4 t2 (.tup [V.str (qB I)]) t2=some (.tup [V.str (qB I)]):=qg;have P5:=P4.same s5;have aq:=s5 _ _ e4;have Y:=s5 _ _ ap;have au:Kept p H (upd H4 t2 (.tup [V.str (qB I)])):=aH.trans (Kept.of s5);have av:=aI.mono s5.tk;generalize upd H4 t2 (.tup [V.str (qB I)])=H5 at e5 P5 aq Y au av⊢;have R:(us.take (j+3)).length=j+3:=by rw [uP];omega
 have aL:us.take (j+3)≠ []:=fun e=>by rw [e] at R;simp at R
 refine⟨t1,t2,_,_,rfl,rfl,SqT.of aq,SqT.of e5,fits (by rw [R];show j+3+1<=16000000;omega),fun e=>absurd e aL,fun _ e=>absurd e (by simp),fun _ _ t3 aM=> ?_⟩
 have s6:=qb aM (.tup (us.take (j+3)++ [V.str (qB I)]));have e6:upd H5 t3 (.tup (us.take (j+3)++ [V.str (qB I)])) t3=some (.tup (us.take (j+3)++ [V.str (qB I)])):=qg;have P6:=P5.same s6;have Z:=s6 _ _ Y;have aw:Kept p H (upd H5 t3 (.tup (us.take (j+3)++ [V.str (qB I)]))):=au.trans (Kept.of s6);have ax:=av.mono s6.tk;generalize upd H5 t3 (.tup (us.take (j+3)++ [V.str (qB I)]))=H6 at e6 P6 Z aw ax⊢;refine⟨_,rfl,_,rfl,_,_,rfl,rfl,_,rfl,ta,us,rfl,SqT.of Z,fun e=>absurd e.1 (by rw [aF];omega),fun _ t4 aN=> ?_⟩
 rw [show cutV us (some ((3+(j:Int))+1)) none=us.drop (j+4) by rw [show(3+(j:Int))+1=((j+4:Nat):Int) by omega];exact YS (by omega)]
 have s7:=qb aN (.tup (us.drop (j+4)));have e7:upd H6 t4 (.tup (us.drop (j+4))) t4=some (.tup (us.drop (j+4))):=qg;have P7:=P6.same s7;have ad:=s7 _ _ e6;have ae:Kept p H (upd H6 t4 (.tup (us.drop (j+4)))):=aw.trans (Kept.of s7);have af:=ax.mono s7.tk;generalize upd H6 t4 (.tup (us.drop (j+4)))=H7 at e7 P7 ad ae af⊢;have aO:(us.drop (j+4)).length=rs.length-(j+4):=by rw [uQ,aB]
 have ag:Drawn (rs.take (j+3)++ [I]++rs.drop (j+4)):=by
  have hl:(rs.take (j+3)++ [I]++rs.drop (j+4)).length=rs.length:=by
   simp only [ug,uP,uQ,uh,uW];omega
  refine⟨by omega,by omega,?_⟩
  rw [hl];intro r L;rcases List.mem_append.mp L with L|L
  ·rcases List.mem_append.mp L with L|L
   ·exact hD.ok r (Ur L)
   ·rw [vA] at L;subst L;exact hok
  ·exact hD.ok r (List.mem_of_mem_drop L)
 have aP:(qB I).length<=sizeLine:=qS (by have:=ag.rule.len (r:=I) (by simp);omega)
 have ah:L2.IsL H7 ((rs.take (j+3)++ [I]++rs.drop (j+4)).map fun r=> .str (qB r)) (us.take (j+3)++ [V.str (qB I)]++us.drop (j+4)):=by
  rw [uF,uF,List.map_take,List.map_drop];exact((af.take _).append (IsL.one (show Is H7 (.str (qB I)) (V.str (qB I)) from⟨rfl,aP⟩))).append (af.drop _)
 refine⟨t3,t4,_,_,rfl,rfl,SqT.of ad,SqT.of e7,fits (by rw [ug,R,aO];show j+3+1+(rs.length-(j+4))<=16000000;omega),fun e=>absurd e (by simp),fun _ e=> ?_,fun _ _ t5 ay=> ?_⟩
 ·refine k _ _ _ ag ?_ P7 ae;rw [e,vQ] at ah;exact⟨t3,_,rfl,ad,ah⟩
 ·have s8:=qb ay (.tup (us.take (j+3)++ [V.str (qB I)]++us.drop (j+4)));exact k _ _ _ ag (Is.new ah ay) (P7.same s8) (ae.trans (Kept.of s8))
def isRow:D->Bool
 | .tup xs=>xs.all isNm
 |_=>false
noncomputable def ansB (u:Str)(a:D):Bool:=if y6 a=true then decide (u="thing") else if isT a=true then(if u="has" then(["yes","no"]:List Str).any (fun z=>eqD a (.str z)) else decide (u="thing")||isRow a) else false
theorem Xt {u:Str}{a:D}(h:ansB u a=true):jI a:=by
 unfold ansB at h;cases hn:y6 a with
 |true=>
  cases a with
  |non=>exact .inl rfl
  |_=>cases hn
 |false=>
  rw [hn,if_neg ua] at h;by_cases c:isT a=true
  ·exact .inr c
  ·rw [if_neg c] at h;cases h
def sp_rown:Sp:=fun vs H Q _=>∃(v:V) (d:D),vs= [v]/\Is H d v/\isT d=true/\∀H',Same H H'->Q (.bl (isRow d)) H'
def sp_isans:Sp:=fun vs H Q _=>∃(v1 v2:V) (u:Str) (d a:D),vs= [v1,v2]/\Is H (.tup [.str u,d]) v1/\Is H a v2/\∀H',Same H H'->Q (.bl (ansB u a)) H'
def sp_ans (C ba:Addr):Sp:=fun vs H Q E=>∃(m:Mc) (r:Rn) (v:V) (u:Str) (d a:D),vs= [.ref m.x,v]/\QX C H m r/\RnOk m.rs r/\r.th= .tup [.str "asks",.tup [.str u,d]]/\Is H a v/\QA m.rs/\m.own.length<=100/\
 (ansB u a=true->∀H',Mv m H H'->QX C H' m (ansS m.rs m.own r a)->Q .non H')/\(ansB u a=false->∀(e:Addr) (H':Hp),Same H H'->E (.ref e) (some ba) H')
theorem ok_rown (T:Tx K mg a):FnOk P w K mg base CX0 2 a.Yf a.Yc ["tree"] sp_rown:=by
 have Y:=ok_name (P:=P) (w:=w) (base:=base) T;refine T.g_is_row_of_names.F.ok Ju () (fun _ _ _ _ H vs Q E Z h=> ?_)
 obtain⟨v,d,rfl,O,hT,k⟩:=h;refine⟨_,(@qf _ _ _ (@ql _ _ _ _ (@xf _ _ _ _ _ _ _ (@qj _ _ _ _ _ _ _ _ _ (@qz _ _ rfl) () T.qv uz (@qa _ _ _ _ _ (pv 0) (@qa _ _ _ _ _ (@qY _ _ (.ty "tuple") _ _ () T.Qm uY rfl () ()) qe ()) ()) () () () ()) (@jm _ _ _ _ _ (@qj _ _ _ _ _ _ _ _ _ (@yg _ rfl) () T.z_all boot_all (@qa _ _ _ _ _ (@jk _ _ (["part"]) (1) ([]) _ _ _ _ _ _ _ _ _ (lcs0) rfl (@Ym _ _ _ _ (pv 0)) (fun _ _ _ _ _ _=>(@qN _ _ (0) _ (show List.Nodup (["part"]:List Str) by decide+kernel) rfl (Or.inl rfl) ())) (fun _ _ _ _ _ _=> @QG _) (fun _ _ _ _ _ _=>(@qt _ _ _ _ _ _ _ _ _ _ _ _ _ _ _ _ Y (Z.mono ()) () T.g_is_name.m T.g_is_name.F.kp T.g_is_name.b .nil qK (@qa _ _ _ _ _ (pv 0) qe ()) () () ())) ()) qe ()) () () () ()))))),?_⟩
 refine⟨_,rfl,v,"tuple",tyD d,jQ d,rfl,O.ty,yl _,?_⟩;cases d with
 |tup xs=>
  refine⟨_,rfl,iteT ?_⟩;obtain⟨a0,vs,rfl,I,L⟩:=O;have hl:xs.length<=1000:=by
   have U:=QP hT;simp only [good,um] at U;have:=ud U.1;omega
  refine⟨_,rfl,a0,vs,rfl,SqT.of I,fun aa A0 M=> ?_⟩;refine Y7 (tl:= []) (fun d=> .bl (isNm d)) I L (qS hl) M (fun d0 x0 H3 R ab s3 i3 r=> ?_) fun H1 ys s1 l1 i1=> ?_
  ·exact⟨_,rfl,x0,d0,rfl,i3,fun H4 s4=>r _ H4 s4 rfl⟩
  have ey:ys=(xs.map isNm).map V.bl:=IsL.bls (by rw [uN];exact i1)
  refine⟨A0,xs.map isNm,rfl,SqL.of (by rw [l1,ey]),?_⟩
  have:(xs.map isNm).all id=isRow (.tup xs):=by rw [vH];rfl
  rw [this];exact k H1 s1
 |str z=>exact⟨_,rfl,iteF (k H (Same.refl _))⟩
 |non=>exact⟨_,rfl,iteF (k H (Same.refl _))⟩
 |int z=>exact⟨_,rfl,iteF (k H (Same.refl _))⟩
 |bl z=>exact⟨_,rfl,iteF (k H (Same.refl _))⟩
 |lst=>exact⟨_,rfl,iteF (k H (Same.refl _))⟩
 |dct=>exact⟨_,rfl,iteF (k H (Same.refl _))⟩
theorem ok_isans (T:Tx K mg a):FnOk P w K mg base CX0 3 a.xV a.xB ["ask","answer"] sp_isans:=by
 have YF:=JV (P:=P) (w:=w) (base:=base) T;have JU:=ok_rown (P:=P) (w:=w) (base:=base) T;refine T.g_is_answer.F.ok sc_is_answer () (fun _ _ _ _ H _ Q E O h=> ?_)
 obtain⟨v1,M,u,d,an,rfl,R,L,k⟩:=h;refine⟨_,(@qc _ _ _ _ _ (@qH _ _ _ _ _ _ _ _ (@qk _ _ _ _ _ _ _ _ zo (pv 1) Qg (qu _)) (@qf _ _ _ (@ql _ _ _ _ (@Qs _ _ _ _ _ _ _ _ Qh (@qG _ _ _ _ _ _ _ yt (pv 0) qh (fun _ _=>rfl)) qi (qu _)))) qp) (@qc _ _ _ _ _ (@qH _ _ _ _ _ _ _ _ (@Qk _ _ _ _ (@qV _ _ _ (@qt _ _ _ _ _ _ _ _ _ _ _ _ _ _ _ _ YF (O.mono ()) () T.g_is_tree.m T.g_is_tree.F.kp T.g_is_tree.b .nil qK (@qa _ _ _ _ _ (pv 1) qe ()) () () ()) ())) (@qf _ _ _ (@ql _ _ _ _ yP)) qp) (@qc _ _ _ _ _ (@qH _ _ _ _ _ _ _ _ (@qk _ _ _ _ _ _ _ _ Qh (@qG _ _ _ _ _ _ _ yt (pv 0) qh (fun _ _=>rfl)) qi (qu _)) (@qf _ _ _ (@ql _ _ _ _ (@Qs _ _ _ _ _ _ _ _ (@op_inM _ O.units) (pv 1) (@qD _ _ _ _ _ (@qa _ _ _ _ _ qi (@qa _ _ _ _ _ qi qe ()) ())) (by with_unfolding_all rfl)))) qp) (@qf _ _ _ (@ql _ _ _ _ (@pe_or _ _ _ _ _ _ _ (@Qs _ _ _ _ _ _ _ _ Qh (@qG _ _ _ _ _ _ _ yt (pv 0) qh (fun _ _=>rfl)) qi (qu _)) (@jm _ _ _ _ _ (@qt _ _ _ _ _ _ _ _ _ _ _ _ _ _ _ _ JU (O.mono ()) () T.g_is_row_of_names.m T.g_is_row_of_names.F.kp T.g_is_row_of_names.b .nil qK (@qa _ _ _ _ _ (pv 1) qe ()) () () ())))))))),?_⟩
 have two:(2:Nat)<=sizeLine:=by decide
 have es:∀y:Str,decide (V.str u=V.str y)=decide (u=y):=fun y=>by
  rw [uB];exact⟨fun h=>by injection h,fun h=>by rw [h]⟩
 have U:∀{H:Hp}{Q:VK},Is H (.tup [.str u,d]) v1->Q (.str u) H->rIxT K v1 (.int 0) H Q:=fun{H Q} i q=>QF (i:=0) (d:= .str u) i (qQ (j:=0) rfl) fun x hx=>by
  obtain⟨rfl,_⟩:=hx;exact q
 refine⟨_,rfl,rfl,_,rfl,?_⟩;unfold ansB at k;by_cases Y:an= .non
 ·subst Y;cases(show M= .non from L)
  refine qC (by decide+kernel) ?_
  refine⟨_,rfl,.inr (.inl (U R ⟨rfl,?_⟩))⟩;rw [es];exact k H (Same.refl _)
 ·have Z:M≠ .non:=zZ L Y;have aa:y6 an=false:=by
   cases an with
   |non=>exact absurd rfl Y
   |_=>rfl
  rw [aa,if_neg ua] at k;refine qo (uc Z) ?_;refine⟨_,rfl,M,an,rfl,L,fun H1 s1=>⟨_,rfl,?_⟩⟩;by_cases I:isT an=true
  ·rw [if_pos I] at k;rw [I];refine iteF ?_;refine⟨_,rfl,.inr (.inl (U (R.mono s1.tk) ⟨rfl,_,rfl,?_⟩))⟩;rw [es];by_cases ch:u="has"
   ·rw [if_pos ch] at k;refine qC (u7 ch) ?_;refine⟨_,rfl,two,fun t1 h1=> ?_⟩;have s2:=qb h1 (.tup [.str "yes",.str "no"]);refine⟨an,t1,["yes","no"],(L.mono s1.tk).mono s2.tk,rfl,.inr (SqT.of qg),?_,?_,?_,k _ (s1.trans s2)⟩
    ·intro z hz;simp only [uA,uG,v9] at hz;rcases hz with rfl|rfl<;>decide+kernel
    ·have hg:=QP I;cases an with
     |non=>rfl
     |str z=>rfl
     |tup xs=>
      show puL xs=true;simp only [good,um] at hg;exact goodL_pu hg.2
     |_=>simp [good] at hg
    ·have:=YV I;omega
   ·rw [if_neg ch] at k;refine qo (uc ch) ?_;refine⟨_,rfl,.inr (.inl (U (R.mono s1.tk) ⟨rfl,?_⟩))⟩;refine⟨_,rfl,?_⟩;rw [es];by_cases ct:u="thing"
    ·rw [u7 ct] at k⊢;refine iteT ?_;exact k _ s1
    ·rw [uc ct] at k⊢;refine iteF ?_;exact⟨_,rfl,M,an,rfl,L.mono s1.tk,I,fun H2 s2=>k H2 (s1.trans s2)⟩
  ·rw [if_neg I] at k;have:isT an=false:=by
    cases h:isT an with
    |true=>exact absurd h I
    |false=>rfl
   rw [this];exact iteT (k _ s1)
theorem ok_ans (T:Tx K mg a)(C:Fx K w mg g a):FnOk P w K mg base (CX1 P w) 6 a.Yy a.YB ["self","tree"] (sp_ans a.qw g.ba):=by
 have qW:=Zb (P:=P) (w:=w) (base:=base) T;have I:=ok_isans (P:=P) (w:=w) (base:=base) T;have yI:=ok_goon (P:=P) (w:=w) (base:=base) T C;refine T.g_Machine_answer.F.okX Yb () (fun _ _ _ _ H _ Q E hr h=> ?_)
 obtain⟨m,⟨B,p,n,gs,th⟩,v,u,d,an,rfl,M,hO,ah,iv,hR,aL,k,kB⟩:=h;simp only at ah;subst ah;refine⟨_,(@qc _ _ _ _ _ (@qH _ _ _ _ _ _ _ _ (@Qk _ _ _ _ (@qV _ _ _ (@yc _ _ _ _ _ _ _ _ _ _ _ _ _ _ _ _ _ (pv 0) T.qq T.g_Machine_is_waiting.h qW (hr.mono ()) T.g_Machine_is_waiting.b .nil qK ()) ())) (@qf _ _ _ (@ps_raise _ _ _ _ _ _ _ _ _ _ _ _ _ _ _ _ _ _ _ _ _ _ C.x_NoAsk () C.m_NoAsk qi () ())) qp) (@qc _ _ _ _ _ (@qx _ _ (2) _ _ _ _ Yb.nd rfl (Or.inl rfl) (@qG _ _ _ _ _ _ _ yt (@QL _ _ _ _ _ (pv 0) rfl) qh (fun _ _=>rfl)) () ()) (@qc _ _ _ _ _ (@qH _ _ _ _ _ _ _ _ (@Qk _ _ _ _ (@qV _ _ _ (@qt _ _ _ _ _ _ _ _ _ _ _ _ _ _ _ _ I (hr.mono ()) () T.g_is_answer.m T.g_is_answer.F.kp T.g_is_answer.b .nil qK (@qa _ _ _ _ _ (pv 2) (@qa _ _ _ _ _ (pv 1) qe ()) ()) () () ()) ())) (@qf _ _ _ (@ps_raise _ _ _ _ _ _ _ _ _ _ _ _ _ _ _ _ _ _ _ _ _ _ C.x_BadAnswer () C.Xv qi () ())) qp) (@qc _ _ _ _ _ (@yq _ _ _ _ (@Yo _ _ _ _ _ _ _ _ _ _ _ _ vm U5 U6 YW (@QL _ _ _ _ _ (pv 0) rfl) (@qa _ _ _ _ _ (@qD _ _ _ _ _ (@qa _ _ _ _ _ (pv 2) (@qa _ _ _ _ _ (pv 1) qe ()) ())) qe ()) () () () () ()) ()) (@qc _ _ _ _ _ (@YE _ _ _ _ _ _ _ _ _ _ (pv 0) qh in_add) (@qc _ _ _ _ _ (@qH _ _ _ _ _ _ _ _ (@qk _ _ _ _ _ _ _ _ zo (pv 1) Qg (qu _)) (@qc _ _ _ _ _ (@Q3 _ _ _ _ _ _ _ _ (pv 0) (@qD _ _ _ _ _ (@qa _ _ _ _ _ qi (@qa _ _ _ _ _ qi qe ()) ())) rfl) (@qf _ _ _ ps_retN)) qp) (@qc _ _ _ _ _ (@ps_dput _ _ _ _ _ _ _ _ _ (QU hr) (@QL _ _ _ _ _ (pv 0) rfl) (@qG _ _ _ _ _ _ _ yt (@qG _ _ _ _ _ _ _ yt (@qG _ _ _ _ _ _ _ qT (@QL _ _ _ _ _ (pv 0) rfl) (@qO _ _ _ _ _ _ _ _ op_sub (@QL _ _ _ _ _ (pv 0) rfl) qh) (fun _ _=>rfl)) qh (fun _ _=>rfl)) qh (fun _ _=>rfl)) (pv 1) rfl) (@qc _ _ _ _ _ (@YE _ _ _ _ _ _ _ _ _ _ (pv 0) qh in_add) (@qc _ _ _ _ _ (@Q3 _ _ _ _ _ _ _ _ (pv 0) Qg rfl) (@qf _ _ _ (@yq _ _ _ _ (@yc _ _ _ _ _ _ _ _ _ _ _ _ _ _ _ _ _ (pv 0) T.qq T.g_Machine_go_on.h yI (hr.mono ()) T.g_Machine_go_on.b .nil qK ()) ()))))))))))),?_⟩
 dsimp only [cxOf,Cx.nox];have two:(2:Nat)<=sizeLine:=by decide
 have hw:qZ (.tup [.str "asks",.tup [.str u,d]])=true:=by simp [qZ]
 obtain⟨ac,aa,aM,_⟩:=hO.ask hw;have ad:=hO.p1;have ak:=hO.gs.2.2;have al:=hO.tr;simp only at ac aa aM ad ak al;have hM:=M;obtain⟨dx,fs,rv,ru,tv,Y,e,f,ir,ij,ib,hg,gl,it⟩:=hM;simp only at f ib gl it;have aN:fs.length<1000:=by have:=f.len;omega
 refine⟨_,rfl,m.x,dx,fs,rfl,e,f.meth _ (by decide+kernel),m,_,rfl,M,.inr ⟨_,_,rfl⟩,_,rfl,?_⟩
 refine qo (by show(!qZ (.tup [.str "asks",.tup [.str u,d]]))=false;rw [hw];rfl) ?_
 refine⟨_,rfl,m.x,_,dx,fs,_,rfl,e,T.qq,T.qJ,f.there,.inr (.inl (QF (i:=1) it (qQ (j:=1) rfl) fun q hq=> ?_))⟩;refine⟨_,rfl,_,rfl,q,v,u,d,an,rfl,hq,iv,fun H1 s1=>⟨_,rfl,?_⟩⟩;cases ae:ansB u an with
 |false=>exact iteT ⟨rfl,fun e=>kB ae e H1 s1⟩
 |true=>
 refine iteF ?_;have k:=k ae;have ha:=Xt ae;refine⟨_,rfl,m.x,_,dx,fs,_,rfl,s1 _ _ e,T.qq,T.yG,f.given,.inl ⟨rfl,_,SqL.of (s1 _ _ hg)⟩,_,rfl,_,rfl,two,fun U h1=> ?_⟩;have s2:=qb h1 (.tup [q,v]);have ip:Is (upd H1 U (.tup [q,v])) (.tup [.tup [.str u,d],an]) (.ref U):=Is.new (ds:= [.tup [.str u,d],an]) ⟨_,_,rfl,hq.mono s1.tk,_,_,rfl,iv.mono s1.tk,rfl⟩ h1;have S2:=s1.trans s2;generalize upd H1 U (.tup [q,v])=H2 at s2 ip S2⊢;have bb:Y.length=gs.length:=gl.length;have am:=S2 _ _ hg;refine⟨m.dg,Y,_,rfl,rfl,am,Ye (by omega),?_⟩
 have t3:Tk H2 (upd H2 m.dg (.lst (Y++ [.ref U]))):=Tk.updL am;have aO:m.x≠m.dg:=fun z=>by rw [<-z,e] at hg;cases hg
 have ao:m.db≠m.dg:=fun z=>by
  obtain⟨ff,e2,_⟩:=ib;rw [z,hg] at e2;cases e2
 have e3:(upd H2 m.dg (.lst (Y++ [.ref U]))) m.x=some (.ins a.qw dx fs):=by rw [qy aO];exact S2 _ _ e
 have T3:Tk H (upd H2 m.dg (.lst (Y++ [.ref U]))):=S2.tk.trans t3;have ap:=(ib.same S2).move t3 (qy ao);have aq:L2.IsL (upd H2 m.dg (.lst (Y++ [.ref U]))) (gs++ [.tup [.tup [.str u,d],an]]) (Y++ [.ref U]):=(gl.mono T3).append (IsL.one (ip.mono t3));have au:(upd H2 m.dg (.lst (Y++ [.ref U]))) m.dg=some (.lst (Y++ [.ref U])):=qg;have av:Mv m H (upd H2 m.dg (.lst (Y++ [.ref U]))):=⟨fun b o h _ _ n3=>by rw [qy n3];exact S2 b o h,T3⟩
 generalize upd H2 m.dg (.lst (Y++ [.ref U]))=H3 at t3 e3 T3 ap aq au av⊢;refine⟨_,rfl,m.x,_,dx,fs,_,rfl,e3,T.qq,T.QM,f.done,(n:Int),1,rfl,rfl,dx,fs,e3,aN,?_⟩;obtain⟨M4,aw⟩:=QS (r:=⟨B,p,n+1,gs++ [.tup [.tup [.str u,d],an]],.tup [.str "asks",.tup [.str u,d]]⟩) e3 (f.set_done (k:=n+1)) (ir.mono T3) (ij.mono T3) ap au aq (it.mono T3);have R:=av.trans aw;have ax:=iv.mono R.tk;show tSeq _ _ _ _ (upd H3 m.x (.ins a.qw dx (putF "done" (.int ((n+1:Nat):Int)) fs)));generalize upd H3 m.x (.ins a.qw dx (putF "done" (.int ((n+1:Nat):Int)) fs))=H4 at M4 aw R ax⊢;obtain⟨O,L,bc,bd,be,bf,e4,f4,af,ay,Z,aA,ag,aB⟩:=M4;simp only at f4 Z ag aB;have ab:L.length<1000:=by have:=f4.len;omega
 refine⟨_,rfl,rfl,_,rfl,?_⟩;by_cases cn:an= .non
 ·subst cn;cases(show v= .non from iv)
  refine qC (by decide+kernel) ?_
  refine⟨two,fun l hl=> ?_⟩;have s5:=qb hl (.tup [.str "fault",.str "lack"]);refine⟨_,rfl,m.x,_,O,L,rfl,s5 _ _ e4,T.qq,T.qJ,ab,?_⟩;obtain⟨m1,m2⟩:=QS (r:=⟨B,p,n+1,gs++ [.tup [.tup [.str u,d],.non]],flt "lack"⟩) (s5 _ _ e4) (f4.set_there (u:= .ref l)) (af.mono s5.tk) (ay.mono s5.tk) (Z.same s5) (s5 _ _ aA) (ag.mono s5.tk) (Is.new (ds:= [.str "fault",.str "lack"]) ⟨_,_,rfl,⟨rfl,qS (by decide)⟩,_,_,rfl,⟨rfl,qS (by decide)⟩,rfl⟩ hl)
  exact k _ (R.trans ((Mv.of s5).trans m2)) m1
 ·have hT:isT an=true:=ha.resolve_left cn;have aP:v≠ .non:=zZ iv cn;have aQ:y6 an=false:=by
   cases an with
   |non=>exact absurd rfl cn
   |_=>rfl
  refine qo (uc aP) ?_;obtain⟨z0,z1,aC,aR,_⟩:=wds1a hR.n1 (hR.ok _ (ZE ad ac)) aa;have aS:b0 (yj m.rs p).2=z0:=by rw [aC];rfl
  obtain⟨kvs,aD,aT,t5⟩:=Z.put aR ax;have aU:atI (m.rs.map rowD) (p-1)=some (rowD (yj m.rs p)):=by
   rw [show p-1=((p.toNat-1:Nat):Int) by omega]
   exact qQ (by rw [uI,row_at ad ac];rfl)
  have aV:m.db≠m.x:=QH.ne e4 Z;have aW:m.dg≠m.db:=ao.symm;refine⟨_,rfl,_,rfl,m.x,_,O,L,_,rfl,e4,T.qq,T.Qp,f4.boxes,_,rfl,m.x,_,O,L,_,rfl,e4,T.qq,T.yd,f4.rows,_,rfl,m.x,_,O,L,_,rfl,e4,T.qq,T.Qc,f4.place,_,_,rfl,rfl,?_⟩;refine QF (d:=rowD (yj m.rs p)) af aU fun q5 aX=> ?_;refine .inr (.inl (QF (i:=1) aX (qQ (j:=1) rfl) fun q6 aE=> ?_));rw [aC] at aE;refine .inr (.inl (QF (i:=0) (d:= .str z0) aE (qQ (j:=0) rfl) fun q7 aY=> ?_));obtain⟨rfl,_⟩:=aY;refine⟨m.db,_,rfl,aD,?_⟩;have e5:(upd H4 m.db (.dK kvs)) m.x=some (.ins a.qw O L):=by rw [qy aV.symm];exact e4
  refine⟨_,rfl,m.x,_,O,L,_,rfl,e5,T.qq,T.Qc,f4.place,p,1,rfl,rfl,O,L,e5,ab,?_⟩;obtain⟨M6,aZ⟩:=QS (r:=⟨setB B z0 an,p+1,n+1,gs++ [.tup [.tup [.str u,d],an]],.tup [.str "asks",.tup [.str u,d]]⟩) e5 (f4.set_place (q:=p+1)) (af.mono t5) (ay.mono t5) aT (by rw [qy aW];exact aA) (ag.mono t5) (aB.mono t5)
  have aF:=R.trans (Mv.trans ⟨fun b o h _ a2 _=>by rw [qy a2];exact h,t5⟩ aZ)
  obtain⟨a0,aG,bg,bh,bm,bn,e6,f6,a1,a3,aH,a4,aI,a5⟩:=M6;simp only at f6 aH aI a5;have aJ:aG.length<1000:=by have:=f6.len;omega
  refine⟨_,rfl,m.x,_,a0,aG,rfl,e6,T.qq,T.qJ,aJ,?_⟩;obtain⟨M7,a6⟩:=QS (r:=⟨setB B z0 an,p+1,n+1,gs++ [.tup [.tup [.str u,d],an]],.non⟩) e6 (f6.set_there (u:= .non)) a1 a3 aH a4 aI rfl;have aK:=aF.trans a6;obtain⟨a7,a8,bo,bp,bq,bt,e7,f7,r7⟩:=id M7;refine⟨_,rfl,m.x,a7,a8,rfl,e7,f7.meth _ (by decide+kernel),m,_,rfl,M7,rfl,Zu al hT,aL,hR,by show 1<=p+1;omega,by show p+1<=_;omega,by show n+1<=300;omega,fun H8 a9 M8=>k H8 (aK.trans a9) ?_⟩
  unfold ansS;rw [aQ,if_neg ua];simp only;rw [aS];exact M8
def AnsFor (u:Str)(a:D):Prop:=(u="thing"/\jI a)∨(u="has"/\(a= .str "yes"∨a= .str "no"))∨(u="names"/\∃zs:List Str,a= .tup (zs.map D.str)/\(∀z∈zs,nm z=true)/\isT a=true)
theorem AnsFor.b {u:Str}{a:D}(h:AnsFor u a):ansB u a=true:=by
 rcases h with⟨rfl,h⟩|⟨rfl,rfl|rfl⟩|⟨rfl,zs,rfl,L,h⟩
 ·unfold ansB;rcases h with rfl|h
  ·rfl
  ·cases hn:y6 a with
   |true=>rw [if_pos rfl];rfl
   |false=>rw [if_neg ua,if_pos h,if_neg (by decide+kernel),u7 rfl];rfl
 ·decide+kernel
 ·decide+kernel
 ·unfold ansB;have e:y6 (.tup (zs.map D.str))=false:=rfl;rw [e,if_neg ua,if_pos h,if_neg (by decide+kernel)]
  have:isRow (.tup (zs.map D.str))=true:=by
   show(zs.map D.str).all isNm=true;rw [vH,List.all_eq_true];exact fun z I=>L z I
  rw [this,Bool.or_true]
def SOM:List D:= [.str "x",.str "",.str "c/d",.str "b1 g",.tup [],.tup [.str "x",.str "k"],.tup [.tup [.str "a",.tup []],.str "b1"],.non]
theorem som_ok:∀d∈SOM,jI d:=by
 have h:∀d∈SOM,(y6 d||isT d)=true:=by decide+kernel
 intro d hd;have:=h d hd;cases hn:y6 d with
 |true=>
  cases d with
  |non=>exact .inl rfl
  |_=>cases hn
 |false=>
  rw [hn] at this;exact .inr this
theorem nms_row:∀k:Fin 4,isT (.tup ((NMS.take k.val).map D.str))=true:=by decide+kernel
theorem nms_nm:∀z∈NMS,nm z=true:=by decide+kernel
def sp_lans:Sp:=fun vs H Q _=>∃(p L:Addr) (v:V) (u:Str) (d:D),vs= [.ref p,v,.ref L]/\Qz H p/\H L=some (.lst (NMS.map V.str))/\Is H (.tup [.str u,d]) v/\u∈(["thing","has","names"]:List Str)/\
 ∀(x:V) (an:D) (H':Hp),AnsFor u an->Is H' an x->Qz H' p->Kept p H H'->Q x H'
theorem ok_lans (T:Tx K mg a):FnOk P w K mg base CX0 2 a.J4 a.J9 ["pot","ask","names"] sp_lans:=by
 have qF:=YR (P:=P) (w:=w) (base:=base) T;refine T.g_law_answer.F.ok Ja () (fun _ _ _ _ H vs Q E hr h=> ?_)
 obtain⟨p,L,v,u,d,rfl,R,hL,iv,hu,k⟩:=h;refine⟨_,(@qc _ _ _ _ _ (@qH _ _ _ _ _ _ _ _ (@qk _ _ _ _ _ _ _ _ Qh (@qG _ _ _ _ _ _ _ yt (pv 1) qh (fun _ _=>rfl)) qi (qu _)) (@qf _ _ _ (@ql _ _ _ _ (@qG _ _ _ _ _ _ _ qP (@Qo _ _ _ _ (@qa _ _ _ _ _ qi (@qa _ _ _ _ _ qi qe ()) ())) (@qt _ _ _ _ _ _ _ _ _ _ _ _ _ _ _ _ qF (hr.mono ()) () T.g_law_take.m T.g_law_take.F.kp T.g_law_take.b .nil qK (@qa _ _ _ _ _ (pv 0) (@qa _ _ _ _ _ qh qe ()) ()) () () ()) (fun _ _=>rfl)))) qp) (@qc _ _ _ _ _ (@qH _ _ _ _ _ _ _ _ (@qk _ _ _ _ _ _ _ _ Qh (@qG _ _ _ _ _ _ _ yt (pv 1) qh (fun _ _=>rfl)) qi (qu _)) (@qf _ _ _ (@ql _ _ _ _ (@qR _ _ _ _ _ _ _ _ _ qU () T.Qm uY (@qa _ _ _ _ _ (@QC _ _ _ _ _ _ _ _ _ _ sl_list (pv 2) QT (@QR _ _ _ (@qt _ _ _ _ _ _ _ _ _ _ _ _ _ _ _ _ qF (hr.mono ()) () T.g_law_take.m T.g_law_take.F.kp T.g_law_take.b .nil qK (@qa _ _ _ _ _ (pv 0) (@qa _ _ _ _ _ qh qe ()) ()) () () ()))) qe ()) () () () ()))) qp) (@qc _ _ _ _ _ (@qx _ _ (3) _ _ _ _ Ja.nd rfl (Or.inl rfl) (@Qo _ _ _ _ (@qa _ _ _ _ _ qi (@qa _ _ _ _ _ qi (@qa _ _ _ _ _ qi (@qa _ _ _ _ _ qi (@qa _ _ _ _ _ (@qD _ _ _ _ _ qe) (@qa _ _ _ _ _ (@qD _ _ _ _ _ (@qa _ _ _ _ _ qi (@qa _ _ _ _ _ qi qe ()) ())) (@qa _ _ _ _ _ (@qD _ _ _ _ _ (@qa _ _ _ _ _ (@qD _ _ _ _ _ (@qa _ _ _ _ _ qi (@qa _ _ _ _ _ (@qD _ _ _ _ _ qe) qe ()) ())) (@qa _ _ _ _ _ qi qe ()) ())) (@qa _ _ _ _ _ Qg qe ()) ()) ()) ()) ()) ()) ()) ())) () ()) (@qf _ _ _ (@ql _ _ _ _ (@qG _ _ _ _ _ _ _ qP (pv 3) (@qt _ _ _ _ _ _ _ _ _ _ _ _ _ _ _ _ qF (hr.mono ()) () T.g_law_take.m T.g_law_take.F.kp T.g_law_take.b .nil qK (@qa _ _ _ _ _ (pv 0) (@qa _ _ _ _ _ (@qj _ _ _ _ _ _ _ _ _ qE () T.Qy uv (@qa _ _ _ _ _ (pv 3) qe ()) () () () ()) qe ()) ()) () () ()) (fun _ _=>rfl))))))),?_⟩
 dsimp only [cxOf,Cx.nox];have zero:(0:Nat)<=sizeLine:=by decide
 have two:(2:Nat)<=sizeLine:=by decide
 have aa:L≠p:=fun z=>by
  obtain⟨x,e,_⟩:=R;rw [<-z,hL] at e;injection e with e
  injection e with e
  have h1:(8:Nat)=1:=congrArg List.length e;omega
 have es:∀y:Str,decide (V.str u=V.str y)=decide (u=y):=fun y=>by
  rw [uB];exact⟨fun h=>by injection h,fun h=>by rw [h]⟩
 have iu:∀{Q:VK},Q (.str u) H->rIxT K v (.int 0) H Q:=fun{Q} q=>QF (i:=0) (d:= .str u) iv (qQ (j:=0) rfl) fun x U=>by
  obtain⟨rfl,_⟩:=U;exact q
 refine⟨_,rfl,.inr (.inl (iu ⟨rfl,_,rfl,?_⟩))⟩;rw [es];by_cases c1:u="has"
 ·refine qC (u7 c1) ?_;refine⟨two,fun l M=> ?_⟩;have s1:=qb M (.lst [.str "yes",.str "no"]);refine⟨_,rfl,p,2,rfl,R.same s1,by decide,by decide,fun I H1 a0 a1 P1 Y _=> ?_⟩
  have e1:=Y _ _ qg (R.free M).symm;have U:∃z:Str,atI [V.str "yes",V.str "no"] I=some (.str z)/\(z="yes"∨z="no"):=by
   obtain⟨k,rfl⟩:∃k:Fin 2,I=((k.val:Nat):Int):=⟨⟨I.toNat,by omega⟩,by simp;omega⟩
   match k with
   |0=>exact⟨_,rfl,.inl rfl⟩
   |1=>exact⟨_,rfl,.inr rfl⟩
  obtain⟨z,O,Z⟩:=U;refine⟨l,_,_,_,rfl,rfl,SqL.of e1,O,k _ (.str z) _ (.inr (.inl ⟨c1,?_⟩)) ⟨rfl,?_⟩ P1 ((Kept.of s1).trans Y)⟩
  ·rcases Z with rfl|rfl
   ·exact .inl rfl
   ·exact .inr rfl
  ·rcases Z with rfl|rfl<;>exact qS (by decide+kernel)
 ·refine qo (uc c1) ?_;refine⟨_,rfl,.inr (.inl (iu ⟨rfl,_,rfl,?_⟩))⟩;rw [es];by_cases c2:u="names"
  ·refine qC (u7 c2) ?_;refine⟨_,rfl,_,rfl,p,4,rfl,R,by decide,by decide,fun I H1 a0 a1 P1 Y _=> ?_⟩
   have ab:=Y _ _ hL aa;obtain⟨j,rfl⟩:∃j:Fin 4,I=((j.val:Nat):Int):=⟨⟨I.toNat,by omega⟩,by simp;omega⟩
   refine⟨_,rfl,L,_,rfl,SqL.of ab,fun l M=> ?_⟩;have hj:j.val<=(NMS.map V.str).length:=by have:=j.isLt;show j.val<=8;omega
   rw [xU hj,<-List.map_take];have s2:=qb M (.lst ((NMS.take j.val).map V.str));refine⟨l,_,rfl,.inl ⟨SqL.of qg,fun t ht=> ?_⟩⟩;have s3:=qb ht (.tup ((NMS.take j.val).map V.str));refine k _ (.tup ((NMS.take j.val).map D.str)) _ (.inr (.inr ⟨c2,NMS.take j.val,rfl,fun z O=>nms_nm z (Ur O),nms_row j⟩)) ?_ ((P1.same s2).same s3) (Y.trans (Kept.of (s2.trans s3)));exact Is.new (IsL.ofStrs fun z O=>qS (by have:=(nms_ok z (Ur O)).2;omega)) ht
  ·refine qo (uc c2) ?_;have c3:u="thing":=by
    simp only [uA,v7,v9] at hu;rcases hu with h|h|h
    ·exact h
    ·exact absurd h c1
    ·exact absurd h c2
   have st:∀{H:Hp} (z:Str),z.length<=1000->Is H (.str z) (.str z):=fun z O=>⟨rfl,qS O⟩;refine⟨zero,fun t1 h1=>⟨two,fun t2 h2=>⟨zero,fun t3 h3=>⟨two,fun t4 h4=>⟨two,fun t5 h5=>⟨(by show 8<=sizeLine;decide),fun l M=> ?_⟩⟩⟩⟩⟩⟩
   have s1:=qb h1 (.tup []);have s2:=qb h2 (.tup [.str "x",.str "k"]);have s3:=qb h3 (.tup []);have s4:=qb h4 (.tup [.str "a",.ref t3]);have s5:=qb h5 (.tup [.ref t4,.str "b1"]);have i1:=Is.new (ds:= []) (vs:= []) rfl h1;have i2:=Is.new (ds:= [.str "x",.str "k"]) (vs:= [.str "x",.str "k"]) ⟨_,_,rfl,st "x" (by decide),_,_,rfl,st "k" (by decide),rfl⟩ h2
   have i3:=Is.new (ds:= []) (vs:= []) rfl h3;have i4:=Is.new (ds:= [.str "a",.tup []]) (vs:= [.str "a",.ref t3]) ⟨_,_,rfl,st "a" (by decide),_,_,rfl,i3,rfl⟩ h4
   have i5:=Is.new (ds:= [.tup [.str "a",.tup []],.str "b1"]) (vs:= [.ref t4,.str "b1"]) ⟨_,_,rfl,i4,_,_,rfl,st "b1" (by decide),rfl⟩ h5
   have q2:=(s3.trans (s4.trans s5)).tk;have q1:=s2.tk.trans q2;have S6:=s1.trans (s2.trans (s3.trans (s4.trans s5)));have il:L2.IsL _ SOM [.str "x",.str "",.str "c/d",.str "b1 g",.ref t1,.ref t2,.ref t5,.non]:=
    ⟨_,_,rfl,st "x" (by decide),_,_,rfl,st "" (by decide),_,_,rfl,st "c/d" (by decide),_,_,rfl,st "b1 g" (by decide),_,_,rfl,i1.mono q1,_,_,rfl,i2.mono q2,_,_,rfl,i5,_,_,rfl,rfl,rfl⟩
   have P6:=R.same S6;show tSeq _ _ _ _ (upd _ l (.lst [.str "x",.str "",.str "c/d",.str "b1 g",.ref t1,.ref t2,.ref t5,.non]));have s7:=qb M (.lst [.str "x",.str "",.str "c/d",.str "b1 g",.ref t1,.ref t2,.ref t5,.non]);have P7:=P6.same s7;refine⟨_,rfl,_,rfl,_,rfl,l,_,rfl,.inl (SqL.of qg),p,8,rfl,P7,by decide,by decide,fun I H7 a0 a1 P8 K8 _=> ?_⟩
   have e8:=K8 _ _ qg (P6.free M).symm;have ac:=(il.mono s7.tk).mono (P7.tk P8 K8);obtain⟨j,rfl⟩:∃j:Nat,I=(j:Int):=⟨I.toNat,by omega⟩
   have hj:j<SOM.length:=by show j<8;omega
   obtain⟨x,U,ix⟩:=ac.get (i:=j) (d:=SOM[j]) (ul hj);exact⟨l,_,_,x,rfl,rfl,SqL.of e8,qQ U,k x SOM[j] _ (.inl ⟨c3,som_ok _ (vN hj)⟩) ix P8 ((Kept.of (S6.trans s7)).trans K8)⟩
theorem Zw {rs:List Rw}{own:Str}{gs:List D}:∀(f:Nat) (B:Str->D) (p:Int) (n:Nat),(runS rs own gs f B p n).gs=gs
 |0,B,p,n=>rfl
 |f+1,B,p,n=>by
  unfold runS;by_cases c:p>rs.length
  ·rw [if_pos c]
  ·rw [if_neg c];cases M:rowO own (yj rs p) B p with
   |go I L=>exact Zw f I L (n+1)
   |stop e=>rfl
theorem jf {rs:List Rw}{own:Str}{as:List D}(an:D)(h:qZ (qI rs own as).th=true):qI rs own (as++ [an])=ansS rs own (qI rs own as) an:=by
 unfold qI at h⊢;rw [zJ,if_pos h]
theorem gs_snoc {rs:List Rw}{own:Str}{as:List D}(an:D)(h:qZ (qI rs own as).th=true):(qI rs own (as++ [an])).gs=(qI rs own as).gs++ [.tup [Zt (qI rs own as).th,an]]:=by
 rw [jf an h];unfold ansS;split
 ·rfl
 ·exact Zw _ _ _ _
def Val (rs:List Rw)(own:Str)(as:List D):Prop:=∀(k:Nat) (a:D),as[k]? =some a->∃(u:Str) (d:D),(qI rs own (as.take k)).th= .tup [.str "asks",.tup [.str u,d]]/\ansB u a=true
theorem wt {u:Str}{d e:D}(h:e= .tup [.str "asks",.tup [.str u,d]]):qZ e=true:=by rw [h];simp [qZ]
theorem Val.nil {rs:List Rw}{own:Str}:Val rs own []:=fun k a h=>by simp at h
theorem Val.ok {rs:List Rw}{own:Str}{as:List D}(h:Val rs own as):∀a∈as,jI a:=fun a ha=>by
 obtain⟨k,I⟩:=List.getElem?_of_mem ha;obtain⟨u,d,_,h2⟩:=h k a I;exact Xt h2
theorem Val.take {rs:List Rw}{own:Str}{as:List D}(h:Val rs own as)(n:Nat):Val rs own (as.take n):=fun k a I=>by
 have L:k<n:=by
  have:=(List.getElem?_eq_some_iff.mp I).1;rw [uP] at this;omega
 rw [List.getElem?_take_of_lt L] at I;obtain⟨u,d,h1,h2⟩:=h k a I;rw [List.take_take,Nat.min_eq_left (by omega)]
 exact⟨u,d,h1,h2⟩
theorem Val.snoc {rs:List Rw}{own:Str}{as:List D}{an:D}{u:Str}{d:D}(h:Val rs own as)(e:(qI rs own as).th= .tup [.str "asks",.tup [.str u,d]])(ha:ansB u an=true):Val rs own (as++ [an]):=fun k a I=>by
 have L:=(List.getElem?_eq_some_iff.mp I).1;rw [ug] at L;by_cases c:k<as.length
 ·rw [vo c] at I;rw [vO (by omega)]
  exact h k a I
 ·have M:k=as.length:=by simp at L;omega
  subst M;rw [uZ (ui _),Nat.sub_self] at I;cases I;rw [List.take_left']
  ·exact⟨u,d,e,ha⟩
  ·rfl
theorem Val.last {rs:List Rw}{own:Str}{as:List D}{an:D}(h:Val rs own (as++ [an])):Val rs own as/\∃(u:Str) (d:D),(qI rs own as).th= .tup [.str "asks",.tup [.str u,d]]/\ansB u an=true:=by
 refine⟨?_,?_⟩
 ·have:=h.take as.length
  rwa [List.take_left' rfl] at this
 ·have:=h as.length an (by rw [uZ (ui _),Nat.sub_self];rfl)
  rwa [List.take_left' rfl] at this
theorem gs_all {rs:List Rw}{own:Str}:∀(n:Nat) (as:List D),as.length=n->Val rs own as->(qI rs own as).gs.length=as.length/\(∀k,k<=as.length->(qI rs own (as.take k)).gs=(qI rs own as).gs.take k)/\(∀(k:Nat) (a:D),as[k]? =some a->(qI rs own as).gs[k]? =some (.tup [Zt (qI rs own (as.take k)).th,a]))
 |0,as,hl,h=>by
  have e:as= []:=uC hl;subst e;have Z:(qI rs own []).gs= []:=Zw _ _ _ _;refine⟨by rw [Z],fun k I=> ?_,fun k a I=>by simp at I⟩
  rw [List.take_nil,Z,List.take_nil]
 |n+1,as,hl,h=>by
  obtain⟨bs,a,rfl⟩:∃bs a,as=bs++ [a]:=by
   rcases vX as with e|⟨bs,a,e⟩
   ·rw [e] at hl;cases hl
   ·exact⟨bs,a,by rw [e,vY]⟩
  have O:bs.length=n:=by rw [ug] at hl;simpa using hl
  obtain⟨hb,u,d,R,ha⟩:=h.last;obtain⟨U,i2,i3⟩:=gs_all n bs O hb;have L:=gs_snoc a (wt R);refine⟨by rw [L,ug,ug,U];rfl,fun k I=> ?_,fun k x I=> ?_⟩
  ·by_cases c:k<=bs.length
   ·rw [vO c,i2 k c,L,vO (by omega)]
   ·have Y:k=(bs++ [a]).length:=by rw [ug] at I⊢;simp at I⊢;omega
    subst Y;rw [Ua];have e3:(bs++ [a]).length=(qI rs own (bs++ [a])).gs.length:=by rw [L,ug,ug,U];rfl
    conv=>rhs;rw [e3]
    rw [Ua]
  ·by_cases c:k<bs.length
   ·rw [vo c] at I;rw [vO (by omega),L,vo (by omega)]
    exact i3 k x I
   ·have M:=(List.getElem?_eq_some_iff.mp I).1;rw [ug] at M;have Y:k=bs.length:=by simp at M;omega
    subst Y;rw [uZ (ui _),Nat.sub_self] at I;cases I;rw [List.take_left' rfl,L,<-U,uZ (ui _),Nat.sub_self]
    rfl
theorem gs_len {rs:List Rw}{own:Str}{as:List D}(h:Val rs own as):(qI rs own as).gs.length=as.length:=(gs_all _ as rfl h).1
theorem Val.le {rs:List Rw}{own:Str}{as:List D}(I:QA rs)(h:Val rs own as):as.length<=300:=by
 have h1:=ye (own:=own) I h.ok;have h2:=h1.gs.2.2;have L:=h1.n;rw [gs_len h] at h2;omega
theorem fr {H I:Hp}{b:Addr}(s:Same H I)(h:I b=none):H b=none:=by
 cases L:H b with
 |none=>rfl
 |some o=>rw [s _ _ L] at h;cases h
theorem same_mv {H H1 H2:Hp}{m:Mc}(s:Same H H1)(v:Mv m H1 H2)(h1:H m.x=none)(h2:H m.db=none)(I:H m.dg=none):Same H H2:=fun b o e=>v.kept b o (s b o e) (qr e h1) (qr e h2) (qr e I)
theorem mk_mac {C:Addr}{H:Hp}{v:V}{rs:List Rw}{own:Str}{Q:VK}{E:XK}{x dx:Addr}(Z:Is H (QY rs) v)(hR:QA rs)(L:nm own=true)(M:own.length<=100)(Y:H x=none)(O:H dx=none)(q:∀(db dg:Addr) (H':Hp),H db=none->H dg=none->Same H H'->QX C H' ⟨x,db,dg,rs,own⟩ (qI rs own [])->Q .non H'):
  sp_minit C [.ref x,v,.str own] (upd (upd H dx (.own x)) x (.ins C dx [])) Q E:=by
 have I:Same H (upd (upd H dx (.own x)) x (.ins C dx [])):=fun b o h=>by rw [qy (qr h Y),qy (qr h O)];exact h
 exact⟨x,dx,v,rs,own,rfl,qg,hR,Z.mono I.tk,L,M,fun H1 db dg kept R U M1=>q db dg H1 (fr I R) (fr I U) (fun b o h=>kept b o (I b o h) (qr h Y)) M1⟩
theorem QX.m {C:Addr}{H:Hp}{m:Mc}{r:Rn}{n:Str}{p:Prop}(M:QX C H m r)(hn:n∈MTH)(q:p):∃a dx fs,V.ref m.x= .ref a/\H a=some (.ins C dx fs)/\fs.lookup n=none/\p:=by
 obtain⟨dx,fs,rv,ru,tv,I,e,f,r⟩:=M;exact⟨m.x,dx,fs,rfl,e,f.meth _ hn,q⟩
theorem for_en {K:PySem.W.Frag}{a:Addr}{c:Int}{xs:List V}{g:TG}{tb:TS}{D:Ends}{σ:L2.St}{H:Hp}(I:Nat->L2.St->Hp->Prop)(U:I 0 σ H)(Y:∀i σ H,i<=xs.length->I i σ H->SqT K H a xs)
  (Z:∀i x σ H p,xs[i]? =some x->I i σ H->H p=none->g (.ref p) σ (upd H p (.tup [.int (c+i),x])) fun M H2=>tb {D with nx:=I (i+1),ct:=I (i+1),bk:=D.nx} M H2) (hd:∀σ H,I xs.length σ H->D.nx σ H):
  ∃W:Nat->Nat->L2.St->Hp->Prop,(∃m,W 0 m σ H)/\∀i m σ H,W i m σ H->
   ((Ite K a c).stop i H/\D.nx σ H)∨((Ite K a c).go i H/\∃N:L2.St->Hp->Prop,(∀O H',N O H'->∃R,R<m/\W (i+1) R O H')/\∀x H',(Ite K a c).yld i H x H'->g x σ H' fun M H2=>tb {D with nx:=N,ct:=N,bk:=D.nx} M H2):=by
 refine⟨fun i m σ H=>m=xs.length-i/\i<=xs.length/\I i σ H,⟨xs.length,by simp,uD _,U⟩,?_⟩
 rintro i m σ H ⟨rfl,hi,p⟩;have q:=Y i σ H hi p;by_cases L:i<xs.length
 ·refine .inr ⟨⟨xs,xs[i],q,by simp [L]⟩,I (i+1),fun O H' p'=>⟨xs.length-(i+1),by omega,rfl,L,p'⟩,fun x H' y=> ?_⟩
  obtain⟨p2,y2,rfl,hp,rfl,y⟩:=y;exact Z i y2 σ _ p2 (y xs q) p hp
 ·have e:i=xs.length:=by omega
  subst e;exact .inl ⟨⟨xs,q,rfl⟩,hd σ H p⟩
theorem an_at {C ba:Addr}{H:Hp}{m:Mc}{as:List D}{k:Nat}{an:D}{v:V}{Q:VK}{E:XK}(O:QA m.rs)(L:m.own.length<=100)(R:Val m.rs m.own as)(U:as[k]? =some an)(M:QX C H m (qI m.rs m.own (as.take k)))(Y:Is H an v)
  (q:∀H',Mv m H H'->QX C H' m (qI m.rs m.own (as.take (k+1)))->Q .non H'):sp_ans C ba [.ref m.x,v] H Q E:=by
 obtain⟨u,d,I,ha⟩:=R k an U;refine⟨m,_,v,u,d,an,rfl,M,ye O (R.take k).ok,I,Y,O,L,fun _ H' Z M'=>q H' Z ?_,fun h=>absurd (ha.symm.trans h) (by decide)⟩
 have e:as.take (k+1)=as.take k++ [an]:=by rw [U3,U];rfl
 rw [e,jf an (wt I)];exact M'
def askK:D->Str
 | .tup [.str u,_]=>u
 |_=>""
noncomputable def okP (r:Rn)(p:D×D):Bool:=eqN r.th (.tup [.str "asks",p.1])&&ansB (askK p.1) p.2
noncomputable def goP (rs:List Rw)(own:Str):Rn->List (D×D)->Nat×Rn
 |r,[]=>(0,r)
 |r,p::ps=>if okP r p=true then((goP rs own (ansS rs own r p.2) ps).1+1,(goP rs own (ansS rs own r p.2) ps).2) else(0,r)
def prD (p:D×D):D:= .tup [p.1,p.2]
def sp_stnd (C:Addr):Sp:=fun vs H Q _=>∃(m:Mc) (r:Rn) (v:V) (ps:List (D×D)),vs= [.ref m.x,v]/\QX C H m r/\RnOk m.rs r/\QA m.rs/\m.own.length<=100/\Is H (.tup (ps.map prD)) v/\(∀p∈ps,nD p.1=true)/\
 ∀H',Mv m H H'->QX C H' m (goP m.rs m.own r ps).2->RnOk m.rs (goP m.rs m.own r ps).2->Q (.int ((goP m.rs m.own r ps).1:Int)) H'
theorem ok_stnd (T:Tx K mg a)(C:Fx K w mg g a):FnOk P w K mg base CX0 8 a.y3 a.y7 ["machine","asks"] (sp_stnd a.qw):=by
 have Q1:=ok_now (P:=P) (w:=w) (base:=base) T;have yo:=ok_ans (P:=P) (w:=w) (base:=base) T C;refine T.g_asks_that_stand.F.ok Q0 () (fun _ _ _ _ H _ Q E hr h=> ?_)
 obtain⟨m,r0,v,ps,rfl,M0,ao,hR,ap,iv,aq,k⟩:=h;refine⟨_,(@qc _ _ _ _ _ (@js _ _ _ _ _ _ _ _ uX rfl (@pi_enum0 _ _ _ _ _ _ _ _ () T.z_enumerate (pv 1) ()) (@XA _ _ _ _ _ _ rfl (Ql (@qN _ _ (2) _ Q0.nd rfl (Or.inl rfl) ()) (Ql (@qN _ _ (3) _ Q0.nd rfl (Or.inl rfl) ()) Y2)) () ()) (@qc _ _ _ _ _ (@qH _ _ _ _ _ _ _ _ (@qk _ _ _ _ _ _ _ _ (@op_neTN _ hr.units) (@yc _ _ _ _ _ _ _ _ _ _ _ _ _ _ _ _ _ (pv 0) T.qq T.g_Machine_now.h Q1 (hr.mono ()) T.g_Machine_now.b .nil qK ()) (@qD _ _ _ _ _ (@qa _ _ _ _ _ qi (@qa _ _ _ _ _ (@qG _ _ _ _ _ _ _ qT (pv 3) qh (fun _ _=>rfl)) qe ()) ())) (qu _)) (@qf _ _ _ (@ql _ _ _ _ (pv 2))) qp) (@qf _ _ _ (@ps_tryM _ _ _ _ _ _ _ _ _ _ _ _ _ _ _ _ _ _ _ _ _ _ _ _ _ _ (pv 0) T.qq T.g_Machine_answer.h yo (hr.mono ()) T.g_Machine_answer.b (@qa _ _ _ _ _ (@qG _ _ _ _ _ _ _ qT (pv 3) qh (fun _ _=>rfl)) qe ()) ⟨rfl,rfl⟩ () C.Xv C.e_BadAnswer (fun _ _=>(@qf _ _ _ (@ql _ _ _ _ (pv 2)))) () () () () ()))) ()) (@qf _ _ _ (@ql _ _ _ _ (@qj _ _ _ _ _ _ _ _ _ qE () T.Qy uv (@qa _ _ _ _ _ (pv 1) qe ()) () () () ())))),?_⟩
 dsimp only [cxOf,Cx.nox];obtain⟨pa,us,rfl,Y,iu⟩:=iv;have Z:us.length=ps.length:=by rw [iu.length,uf]
 have two:(2:Nat)<=sizeLine:=by decide
 refine⟨_,rfl,pa,us,rfl,SqT.of Y,fun hsz=> ?_⟩
 let J1_:Nat->L2.St->Hp->Prop:=fun i σ H'=>∃(r:Rn) (x2 x3:Option V),σ= [some (.ref m.x),some (.ref pa),x2,x3]/\i<=ps.length/\QX a.qw H' m r/\RnOk m.rs r/\(goP m.rs m.own r0 ps).1=i+(goP m.rs m.own r (ps.drop i)).1/\(goP m.rs m.own r0 ps).2=(goP m.rs m.own r (ps.drop i)).2/\Mv m H H'
 refine for_en (c:=0) (xs:=us) J1_ ⟨r0,_,_,rfl,uD _,M0,ao,by rw [Uc,Nat.zero_add],by rw [Uc],Mv.refl _ _⟩ (fun i σ H' hi ⟨_,_,_,_,_,_,_,_,_,mv⟩=>SqT.of (mv.tk.tup _ _ Y)) ?_ ?_
 ·rintro i y σ H' p hy ⟨r,x2,x3,rfl,hi,M,U,R,I,mv⟩ hp;have aa:i<ps.length:=by rw [<-Z];exact(List.getElem?_eq_some_iff.mp hy).1
  obtain⟨⟨q,an⟩,hk⟩:∃x,ps[i]? =some x:=⟨ps[i],by simp [aa]⟩
  have au:ps.drop i=(q,an)::ps.drop (i+1):=by
   rw [vd aa];have:=List.getElem?_eq_some_iff.mp hk;rw [this.2]
  have av:nD q=true:=aq (q,an) (uT hk);rw [au] at R I;have s1:=qb hp (.tup [.int (0+(i:Int)),y]);have M1:=M.same s1;have ab:=mv.trans (Mv.of s1);have e1:(upd H' p (.tup [.int (0+(i:Int)),y])) p=some (.tup [.int (0+(i:Int)),y]):=qg;generalize upd H' p (.tup [.int (0+(i:Int)),y])=H1 at s1 M1 ab e1⊢;obtain⟨y',af,iy⟩:=iu.get (i:=i) (d:=prD (q,an)) (by rw [uI,hk];rfl)
  rw [hy] at af;cases af;have ag:Is H1 (.tup [q,an]) y:=iy.mono ab.tk;obtain⟨wd,ed,ac⟩:=U.two;refine⟨p,_,rfl,SqT.of e1,rfl,_,_,rfl,_,_,rfl,rfl,?_⟩;refine⟨_,rfl,M1.m (by decide+kernel) ⟨m,_,rfl,M1,fun v5 i5=> ?_⟩⟩
  refine⟨_,rfl,QF (i:=0) (d:=q) ag (qQ (j:=0) rfl) fun z hz=>⟨two,fun l hl=> ?_⟩⟩;have s2:=qb hl (.tup [.str "asks",z]);have ad:=U.gd;rw [ac] at i5 ad;have L:=Yg ad.1;simp only [nD] at L;have ah:dpL [.str wd,ed]<=60:=by
   have:=ad.2;simp only [dp] at this;omega
  refine⟨[.str wd,ed],[.str "asks",q],i5.mono s2.tk,Is.new (ds:= [.str "asks",q]) ⟨_,_,rfl,⟨rfl,qS (by decide)⟩,_,_,rfl,hz,rfl⟩ hl,L,by simp only [nL,nD,av,vk],ah,_,rfl,?_⟩
  have ae:=ab.trans (Mv.of s2);have M2:=M1.same s2;have ak:eqN r.th (.tup [.str "asks",q])=eqNL [.str wd,ed] [.str "asks",q]:=by rw [ac];simp only [eqN]
  have stop:okP r (q,an)=false->Q (.int (0+(i:Int))) (upd H1 l (.tup [.str "asks",z])):=fun h=>by
   have e3:goP m.rs m.own r ((q,an)::ps.drop (i+1))=(0,r):=by
    show(if okP r (q,an)=true then _ else(0,r))=_
    rw [h,if_neg ua]
   rw [e3] at R I;have:=k _ ae (by rw [I];exact M2) (by rw [I];exact U)
   rw [R] at this;rw [Int.zero_add];exact this
  cases hq:eqNL [.str wd,ed] [.str "asks",q] with
  |false=>
   refine iteT ⟨_,rfl,stop ?_⟩;unfold okP;rw [ak,hq]
   rfl
  |true=>
   refine iteF ?_;have al:r.th= .tup [.str "asks",q]:=by
    rw [ac];exact congrArg D.tup ((eqNL_iff L).mp hq)
   obtain⟨_,_,_,u,d,O,hu,hd⟩:=U.ask (by rw [al];simp [qZ])
   have aw:q= .tup [.str u,d]:=by
    have:=al.symm.trans O;injection this with this
    injection this with _ this
    injection this with this _
   have am:okP r (q,an)=ansB u an:=by
    unfold okP;rw [ak,hq,aw]
    rfl
   refine⟨_,rfl,M2.m (by decide+kernel) ⟨_,rfl,QF (i:=1) (d:=an) (ag.mono s2.tk) (qQ (j:=1) rfl) fun t ht=> ?_⟩⟩
   refine⟨m,r,t,u,d,an,rfl,M2,U,O,ht,hR,ap,fun hb H3 ax M3=> ?_,fun hb e H3 s3=>⟨rfl,_,rfl,?_⟩⟩
   ·have e3:goP m.rs m.own r ((q,an)::ps.drop (i+1))=((goP m.rs m.own (ansS m.rs m.own r an) (ps.drop (i+1))).1+1,(goP m.rs m.own (ansS m.rs m.own r an) (ps.drop (i+1))).2):=by
     show(if okP r (q,an)=true then _ else(0,r))=_
     rw [am,hb,if_pos rfl]
    rw [e3] at R I;exact⟨ansS m.rs m.own r an,_,_,rfl,aa,M3,ansS_ok hR U (by rw [O];simp [qZ]) (Xt hb),by rw [R];show i+(_+1)=i+1+_;omega,I,ae.trans ax⟩
   ·have e3:goP m.rs m.own r ((q,an)::ps.drop (i+1))=(0,r):=by
     show(if okP r (q,an)=true then _ else(0,r))=_
     rw [am,hb,if_neg ua]
    rw [e3] at R I;have:=k _ (ae.trans (Mv.of s3)) (by rw [I];exact M2.same s3) (by rw [I];exact U)
    rw [R] at this;rw [Int.zero_add];exact this
 ·rintro σ H' ⟨r,x2,x3,rfl,hi,M,U,R,I,mv⟩;rw [Z,List.drop_length] at R I;refine⟨_,rfl,pa,us,rfl,.inr (SqT.of (mv.tk.tup _ _ Y)),?_⟩;have:=k _ mv (by rw [I];exact M) (by rw [I];exact U)
  rw [R] at this;rw [Z];exact this
def doesB (rs:List Rw)(own:Str)(ps:List (D×D))(es:List D):Bool:=decide ((goP rs own (qI rs own []) ps).1=ps.length)&&(!qZ (goP rs own (qI rs own []) ps).2.th&&eqN (goP rs own (qI rs own []) ps).2.th (.tup es))
theorem goP_le {rs:List Rw}{own:Str}:∀(ps:List (D×D)) (r:Rn),(goP rs own r ps).1<=ps.length
 | [],r=>ui _
 |p::ps,r=>by
  show(if okP r p=true then((goP rs own (ansS rs own r p.2) ps).1+1,(goP rs own (ansS rs own r p.2) ps).2) else(0,r)).1<=_
  split
  ·have:=goP_le (rs:=rs) (own:=own) ps (ansS rs own r p.2);simp only [uh];omega
  ·exact uD _
def sp_repl:Sp:=fun vs H Q _=>∃(v av:V) (own:Str) (rs:List Rw) (as xs:List D),vs= [v,.str own,av]/\Is H (QY rs) v/\QA rs/\nm own=true/\own.length<=100/\Is H (.tup (as++xs)) av/\Val rs own as/\(xs= []∨qZ (qI rs own as).th=false)/\∀(u:V) (H':Hp),Same H H'->Is H' (.tup [.tup (qI rs own as).gs,(qI rs own as).th,.int (xs.length:Int)]) u->Q u H'
def sp_does:Sp:=fun vs H Q _=>∃(v rv:V) (own:Str) (rs:List Rw) (ps:List (D×D)) (es:List D),vs= [v,.str own,rv]/\Is H (QY rs) v/\QA rs/\nm own=true/\own.length<=100/\Is H (.tup [.tup (ps.map prD),.tup es]) rv/\(∀p∈ps,nD p.1=true)/\nL es=true/\∀H',Same H H'->Q (.bl (doesB rs own ps es)) H'
theorem ok_repl (T:Tx K mg a)(C:Fx K w mg g a):FnOk P w K mg base CX0 8 a.zk a.zr ["rule","own","answers"] sp_repl:=by
 have yT:=ok_minit (P:=P) (w:=w) (base:=base) T C;have Q1:=ok_now (P:=P) (w:=w) (base:=base) T;have Xi:=ok_asks (P:=P) (w:=w) (base:=base) T;have qW:=Zb (P:=P) (w:=w) (base:=base) T;have yo:=ok_ans (P:=P) (w:=w) (base:=base) T C;refine T.g_replayed.F.ok Yj () (fun _ _ _ _ H _ Q E U h=> ?_)
 obtain⟨v,av,own,rs,as,xs,rfl,hv,hR,ab,Y,ia,hV,ac,k⟩:=h;refine⟨_,(@qc _ _ _ _ _ (@qx _ _ (3) _ _ _ _ Yj.nd rfl (Or.inl rfl) (@pe_make _ _ _ _ _ _ _ _ _ _ _ _ _ _ _ _ _ T.M_Machine yT (U.mono ()) () T.m_Machine T.g_Machine_init.b .nil qK (@qa _ _ _ _ _ (pv 0) (@qa _ _ _ _ _ (pv 1) qe ()) ()) () () ()) () ()) (@qc _ _ _ _ _ (@qx _ _ (4) _ _ _ _ Yj.nd rfl (Or.inl rfl) qh () ()) (@qc _ _ _ _ _ (@xy _ _ _ _ _ _ uX (@jo _ _ _ _ _ _ _ (@qk _ _ _ _ _ _ _ _ op_lt (pv 4) (@qj _ _ _ _ _ _ _ _ _ qE () T.Qy uv (@qa _ _ _ _ _ (pv 2) qe ()) () () () ()) (qu _)) (@Yl _ _ _ _ (@qV _ _ _ (@yc _ _ _ _ _ _ _ _ _ _ _ _ _ _ _ _ _ (pv 3) T.qq T.g_Machine_is_waiting.h qW (U.mono ()) T.g_Machine_is_waiting.b .nil qK ()) ()))).pt (@qc _ _ _ _ _ (@yq _ _ _ _ (@pe_meth _ _ _ _ _ _ _ _ _ _ _ _ _ _ _ _ _ _ _ _ (pv 3) T.qq T.g_Machine_answer.h yo (U.mono ()) T.g_Machine_answer.b .nil passF (@qa _ _ _ _ _ (@qG _ _ _ _ _ _ _ qT (pv 2) (pv 4) (fun _ _=>rfl)) qe ()) () () ()) ()) (@qf _ _ _ (@ps_aug _ _ (4) _ _ _ _ _ _ Yj.nd rfl (Or.inl rfl) qh ip_add ())))) (@qf _ _ _ (@ql _ _ _ _ (@qD _ _ _ _ _ (@qa _ _ _ _ _ (@yc _ _ _ _ _ _ _ _ _ _ _ _ _ _ _ _ _ (pv 3) T.qq T.g_Machine_asked.h Xi (U.mono ()) T.g_Machine_asked.b .nil qK ()) (@qa _ _ _ _ _ (@yc _ _ _ _ _ _ _ _ _ _ _ _ _ _ _ _ _ (pv 3) T.qq T.g_Machine_now.h Q1 (U.mono ()) T.g_Machine_now.b .nil qK ()) (@qa _ _ _ _ _ (@qO _ _ _ _ _ _ _ _ op_sub (@qj _ _ _ _ _ _ _ _ _ qE () T.Qy uv (@qa _ _ _ _ _ (pv 2) qe ()) () () () ()) (pv 4)) qe ()) ()) ()))))))),?_⟩
 dsimp only [cxOf,Cx.nox];obtain⟨R,us,rfl,ad,iu⟩:=ia;have ae:us.length=as.length+xs.length:=by rw [iu.length,ug]
 have three:(3:Nat)<=sizeLine:=by decide
 refine⟨_,rfl,_,rfl,fun x dx hx af _=>mk_mac hv hR ab Y hx af fun db dg H1 ag ah S1 M1=>⟨rfl,?_⟩⟩
 let J1_:Nat->L2.St->Hp->Prop:=fun m σ H'=>∃(i:Nat),σ= [some v,some (.str own),some (.ref R),some (.ref x),some (.int (i:Int))]/\i<=as.length/\m=as.length-i/\QX a.qw H' ⟨x,db,dg,rs,own⟩ (qI rs own (as.take i))/\Same H H'
 refine⟨J1_,⟨_,0,rfl,uD _,rfl,M1,S1⟩,?_⟩;rintro m σ H' ⟨i,rfl,hi,rfl,M,sm⟩;have hO:=ye (own:=own) hR (hV.take i).ok;have L:=sm _ _ ad;have Z:i=as.length->tRet (tTup (QI (tMeth a.qw "asked" (sp_asks a.qw) [] E0 (tVar 3) tNil) (QI (tMeth a.qw "now" (sp_now a.qw) [] E0 (tVar 3) tNil) (QI (tOp (rI0 fun i j=>V.int (i-j)) (tCB (fun xs H Q=>∃p ys,xs= [V.ref p]/\(SqL K H p ys∨SqT K H p ys)/\Q (V.int ys.length) H) (QI (tVar 2) tNil)) (tVar 4)) tNil)))) ({nx:=fun x H'=>Q V.non H',rt:=Q}:Ends) [some v,some (.str own),some (.ref R),some (.ref x),some (.int (i:Int))] H':=fun I=>by
  subst I;rw [Ua] at M;refine⟨_,rfl,M.m (by decide+kernel) ⟨⟨x,db,dg,rs,own⟩,_,rfl,M,fun v1 H2 s2 i2=> ?_⟩⟩
  have M2:=M.same s2;refine⟨_,rfl,M2.m (by decide+kernel) ⟨⟨x,db,dg,rs,own⟩,_,rfl,M2,fun v2 i3=> ?_⟩⟩
  refine⟨_,rfl,R,us,rfl,.inr (SqT.of (s2 _ _ L)),_,rfl,_,_,rfl,rfl,three,fun l hl=> ?_⟩;have q:=qb hl (.tup [v1,v2,.int ((us.length:Int)-(as.length:Int))]);refine k _ _ (sm.trans (s2.trans q)) (Is.new (ds:= [.tup (qI rs own as).gs,(qI rs own as).th,.int (xs.length:Int)]) ⟨_,_,rfl,i2,_,_,rfl,i3,_,_,rfl,?_,rfl⟩ hl);show V.int ((us.length:Int)-(as.length:Int))= .int (xs.length:Int);rw [ae]
  congr 1
  omega
 refine⟨_,rfl,_,rfl,R,us,rfl,.inr (SqT.of L),_,_,rfl,rfl,_,rfl,?_⟩;refine ite2 (fun c=> ?_) (fun c=> ?_)
 ·have O:i<as.length+xs.length:=by have:=ud c;omega
  refine⟨_,rfl,M.m (by decide+kernel) ⟨⟨x,db,dg,rs,own⟩,_,rfl,M,.inr hO.two,_,rfl,?_⟩⟩
  by_cases aa:i<as.length
  ·obtain⟨an,hk⟩:∃an,as[i]? =some an:=⟨as[i],by simp [aa]⟩
   obtain⟨u,d,ak,ha⟩:=hV i an hk;refine qC (wt ak) ?_;refine⟨fun σ' H2=>σ'= [some v,some (.str own),some (.ref R),some (.ref x),some (.int ((i+1:Nat):Int))]/\QX a.qw H2 ⟨x,db,dg,rs,own⟩ (qI rs own (as.take (i+1)))/\Same H H2,?_,?_⟩
   ·rintro σ' H2 ⟨rfl,M2,s2⟩;exact⟨as.length-(i+1),by omega,i+1,rfl,by omega,rfl,M2,s2⟩
   ·refine⟨_,rfl,M.m (by decide+kernel) ⟨_,rfl,_,rfl,QF (i:=(i:Int)) (ds:=as++xs) (d:=an) ⟨R,us,rfl,L,iu.mono sm.tk⟩ (qQ (by rw [vo aa];exact hk)) fun y hy=> ?_⟩⟩
    unfold tNil;refine an_at (m:=⟨x,db,dg,rs,own⟩) hR Y hV hk M hy fun H2 mv M2=> ?_;exact⟨_,rfl,_,_,rfl,rfl,rfl,M2,same_mv sm mv hx ag ah⟩
  ·have I:i=as.length:=by omega
   have hw:qZ (qI rs own (as.take i)).th=false:=by
    rw [I,Ua];rcases ac with h|h
    ·rw [h] at O;simp at O;omega
    ·exact h
   exact qo hw (Z I)
 ·have I:i=as.length:=by have:¬((i:Int)<us.length):=fun h=>c (u7 h);omega
  exact Z I
theorem ok_does (T:Tx K mg a)(C:Fx K w mg g a):FnOk P w K mg base CX0 10 a.f_does a.d_does ["rule","own","run"] sp_does:=by
 have yT:=ok_minit (P:=P) (w:=w) (base:=base) T C;have JH:=ok_stnd (P:=P) (w:=w) (base:=base) T C;have Q1:=ok_now (P:=P) (w:=w) (base:=base) T;have qW:=Zb (P:=P) (w:=w) (base:=base) T;refine T.g_does.F.ok sc_does () (fun _ _ _ _ H _ Q E M h=> ?_)
 obtain⟨v,rv,own,rs,ps,es,rfl,hv,hR,ac,O,ir,ad,ae,k⟩:=h;refine⟨_,(@qc _ _ _ _ _ (@qx _ _ (3) _ _ _ _ sc_does.nd rfl (Or.inl rfl) (@pe_make _ _ _ _ _ _ _ _ _ _ _ _ _ _ _ _ _ T.M_Machine yT (M.mono ()) () T.m_Machine T.g_Machine_init.b .nil qK (@qa _ _ _ _ _ (pv 0) (@qa _ _ _ _ _ (pv 1) qe ()) ()) () () ()) () ()) (@qc _ _ _ _ _ (@qH _ _ _ _ _ _ _ _ (@qk _ _ _ _ _ _ _ _ op_lt (@qt _ _ _ _ _ _ _ _ _ _ _ _ _ _ _ _ JH (M.mono ()) () T.g_asks_that_stand.m T.g_asks_that_stand.F.kp T.g_asks_that_stand.b .nil qK (@qa _ _ _ _ _ (pv 3) (@qa _ _ _ _ _ (@qG _ _ _ _ _ _ _ qT (pv 2) qh (fun _ _=>rfl)) qe ()) ()) () () ()) (@qj _ _ _ _ _ _ _ _ _ qE () T.Qy uv (@qa _ _ _ _ _ (@qG _ _ _ _ _ _ _ qT (pv 2) qh (fun _ _=>rfl)) qe ()) () () () ()) (qu _)) (@qf _ _ _ (@ql _ _ _ _ yP)) qp) (@qf _ _ _ (@ql _ _ _ _ (@xf _ _ _ _ _ _ _ (@pe_not _ _ _ _ (@yc _ _ _ _ _ _ _ _ _ _ _ _ _ _ _ _ _ (pv 3) T.qq T.g_Machine_is_waiting.h qW (M.mono ()) T.g_Machine_is_waiting.b .nil qK ())) (@jm _ _ _ _ _ (@Qs _ _ _ _ _ _ _ _ (@op_eqN _ M.units) (@yc _ _ _ _ _ _ _ _ _ _ _ _ _ _ _ _ _ (pv 3) T.qq T.g_Machine_now.h Q1 (M.mono ()) T.g_Machine_now.b .nil qK ()) (@qG _ _ _ _ _ _ _ qT (pv 2) qh (fun _ _=>rfl)) (qu _)))))))),?_⟩
 dsimp only [cxOf,Cx.nox];have af:=ye (own:=own) hR (as:= []) (fun a h=>by simp at h)
 have ag:=goP_le (rs:=rs) (own:=own) ps (qI rs own []);unfold doesB at k;refine⟨_,rfl,_,rfl,fun x dx hx ah _=>mk_mac hv hR ac O hx ah fun db dg H1 ak al S1 M1=>⟨rfl,?_⟩⟩;refine⟨_,rfl,_,rfl,QF (i:=0) (d:= .tup (ps.map prD)) (ir.mono S1.tk) (qQ (j:=0) rfl) fun q hq=> ?_⟩;refine⟨⟨x,db,dg,rs,own⟩,qI rs own [],q,ps,rfl,M1,af,hR,O,hq,ad,fun H2 mv M2 R=> ?_⟩;simp only at M2 R;have U:=same_mv S1 mv hx ak al;refine⟨_,rfl,QF (i:=0) (d:= .tup (ps.map prD)) (ir.mono U.tk) (qQ (j:=0) rfl) fun q2 am=> ?_⟩;obtain⟨p2,Y,rfl,ao,ap⟩:=am;have Z:Y.length=ps.length:=by rw [ap.length,uf]
 generalize goP rs own (qI rs own []) ps=gp at M2 R ag k;refine⟨p2,Y,rfl,.inr (SqT.of ao),_,_,rfl,rfl,_,rfl,?_⟩;by_cases cl:gp.1=ps.length
 ·refine qo (by rw [Z,cl];exact uc (Int.lt_irrefl _)) ?_
  rw [u7 cl,vp] at k;refine⟨_,rfl,M2.m (by decide+kernel) ⟨⟨x,db,dg,rs,own⟩,_,rfl,M2,.inr R.two,_,rfl,_,rfl,?_⟩⟩
  cases hw:qZ gp.2.th with
  |true=>
   refine iteF ?_;have:=k _ U;rw [hw] at this;exact this
  |false=>
   refine iteT ?_;refine⟨_,rfl,M2.m (by decide+kernel) ⟨⟨x,db,dg,rs,own⟩,_,rfl,M2,fun v5 i5=> ?_⟩⟩
   refine⟨_,rfl,?_⟩;unfold tC;refine QF (i:=1) (d:= .tup es) (ir.mono U.tk) (qQ (j:=1) rfl) fun q3 aq=> ?_;obtain⟨wd,ed,aa⟩:=R.two;have L:=R.gd;rw [aa] at i5 L;have I:=Yg L.1;simp only [nD] at I;have ab:dpL [.str wd,ed]<=60:=by
    have:=L.2;simp only [dp] at this;omega
   refine⟨[.str wd,ed],es,i5,aq,I,ae,ab,?_⟩;have:=k _ U;rw [hw,aa] at this;simp only [eqN] at this;exact this
 ·refine qC (by rw [Z];exact u7 (by omega)) ?_
  rw [uc cl] at k;exact k _ U
def sp_fits:Sp:=fun vs H Q _=>∃(v1 v2:V) (u:Str) (d a:D),vs= [v1,v2]/\Is H (.tup [.str u,d]) v1/\Is H a v2/\jI a/\u∈(["thing","has","names"]:List Str)/\∀H',Same H H'->Q (.bl (ansB u a)) H'
def dueB (rs:List Rw)(own:Str)(ps:List (D×D))(es:List D):Bool:=decide ((goP rs own (qI rs own []) ps).1=ps.length)&&eqN (goP rs own (qI rs own []) ps).2.th (.tup es)
def sp_due:Sp:=fun vs H Q _=>∃(v rv:V) (own:Str) (rs:List Rw) (ps:List (D×D)) (es:List D),vs= [v,.str own,rv]/\Is H (QY rs) v/\QA rs/\own.length<=100/\Is H (.tup [.tup (ps.map prD),.tup es]) rv/\(∀p∈ps,nD p.1=true/\jI p.2)/\ps.length<=500/\nL es=true/\∀H',Same H H'->Q (.bl (dueB rs own ps es)) H'
theorem okHd_ans {a:D}(h:jI a):okHd a=true/\dp a<=60:=by
 rcases h with rfl|h
 ·exact⟨rfl,by simp [dp]⟩
 ·have I:=QP h;have hd:=YV h;refine⟨?_,by omega⟩
  cases a with
  |non=>rfl
  |str z=>rfl
  |tup xs=>
   show puL xs=true;simp only [good,um] at I;exact goodL_pu I.2
  |_=>simp [good] at I
theorem ok_fits (T:Tx K mg a):FnOk P w K mg base CX0 3 a.zH a.zL ["ask","tree"] sp_fits:=by
 have Yr:=ok_lname (P:=P) (w:=w) (base:=base) T;refine T.g_law_fits.F.ok sc_law_fits () (fun _ _ _ _ H vs Q E O h=> ?_)
 obtain⟨v1,v2,u,d,an,rfl,U,M,ha,hu,k⟩:=h;refine⟨_,(@qc _ _ _ _ _ (@qH _ _ _ _ _ _ _ _ (@qk _ _ _ _ _ _ _ _ Qh (@qG _ _ _ _ _ _ _ yt (pv 0) qh (fun _ _=>rfl)) qi (qu _)) (@qf _ _ _ (@ql _ _ _ _ (@pe_or _ _ _ _ _ _ _ (@Qs _ _ _ _ _ _ _ _ (@op_eqM _ O.units) (pv 1) qi (qu _)) (@jm _ _ _ _ _ (@Qs _ _ _ _ _ _ _ _ (@op_eqM _ O.units) (pv 1) qi (qu _)))))) qp) (@qc _ _ _ _ _ (@qH _ _ _ _ _ _ _ _ (@qk _ _ _ _ _ _ _ _ Qh (@qG _ _ _ _ _ _ _ yt (pv 0) qh (fun _ _=>rfl)) qi (qu _)) (@qf _ _ _ (@ql _ _ _ _ (@xf _ _ _ _ _ _ _ (@qj _ _ _ _ _ _ _ _ _ (@qz _ _ rfl) () T.qv uz (@qa _ _ _ _ _ (pv 1) (@qa _ _ _ _ _ (@qY _ _ (.ty "tuple") _ _ () T.Qm uY rfl () ()) qe ()) ()) () () () ()) (@jm _ _ _ _ _ (@qj _ _ _ _ _ _ _ _ _ (@yg _ rfl) () T.z_all boot_all (@qa _ _ _ _ _ (@jk _ _ (["part"]) (1) ([]) _ _ _ _ _ _ _ _ _ (lcs0) rfl (@Ym _ _ _ _ (pv 1)) (fun _ _ _ _ _ _=>(@qN _ _ (0) _ (show List.Nodup (["part"]:List Str) by decide+kernel) rfl (Or.inl rfl) ())) (fun _ _ _ _ _ _=> @QG _) (fun _ _ _ _ _ _=>(@qt _ _ _ _ _ _ _ _ _ _ _ _ _ _ _ _ Yr (O.mono ()) () T.g_law_is_name.m T.g_law_is_name.F.kp T.g_law_is_name.b .nil qK (@qa _ _ _ _ _ (pv 0) qe ()) () () ())) ()) qe ()) () () () ()))))) qp) (@qf _ _ _ (@ql _ _ _ _ yP)))),?_⟩
 dsimp only [cxOf,Cx.nox];have kk:=k;have k:=k H (Same.refl _);have k0:=k;have es:∀y:Str,decide (V.str u=V.str y)=decide (u=y):=fun y=>by
  rw [uB];exact⟨fun h=>by injection h,fun h=>by rw [h]⟩
 have iu:∀{Q:VK},Q (.str u) H->rIxT K v1 (.int 0) H Q:=fun{Q} q=>QF (i:=0) (d:= .str u) U (qQ (j:=0) rfl) fun x hx=>by
  obtain⟨rfl,_⟩:=hx;exact q
 obtain⟨hk,I⟩:=okHd_ans ha;refine⟨_,rfl,.inr (.inl (iu ⟨rfl,_,rfl,?_⟩))⟩;rw [es];by_cases ch:u="has"
 ·subst ch;refine qC (u7 rfl) ?_;have e:ansB "has" an=(eqD an (.str "yes")||eqD an (.str "no")):=by
   unfold ansB;rcases ha with rfl|ha
   ·decide+kernel
   ·have hn:y6 an=false:=by
     cases an with
     |non=>exact absurd (QP ha) (by simp [good])
     |_=>rfl
    rw [hn,if_neg ua,if_pos ha,if_pos rfl];simp
  rw [e] at k;refine⟨_,rfl,an,"yes",M,rfl,by decide,hk,I,_,rfl,?_⟩
  cases h1:eqD an (.str "yes") with
  |true=>rw [h1] at k;exact iteT k
  |false=>
   rw [h1] at k;exact iteF ⟨_,rfl,an,"no",M,rfl,by decide,hk,I,k⟩
 refine qo (uc ch) ?_;refine⟨_,rfl,.inr (.inl (iu ⟨rfl,_,rfl,?_⟩))⟩;rw [es];by_cases Y:u="names"
 ·subst Y;refine qC (u7 rfl) ?_;have e:ansB "names" an=isRow an:=by
   unfold ansB;rcases ha with rfl|ha
   ·rfl
   ·have hn:y6 an=false:=by
     cases an with
     |non=>exact absurd (QP ha) (by simp [good])
     |_=>rfl
    rw [hn,if_neg ua,if_pos ha,if_neg (by decide+kernel),uc (by decide+kernel)]
    rfl
  rw [e] at k0 kk;clear k;refine⟨_,rfl,v2,"tuple",tyD an,jQ an,rfl,M.ty,yl _,?_⟩;cases an with
  |tup xs=>
   refine⟨_,rfl,iteT ?_⟩;have hT:isT (.tup xs)=true:=ha.resolve_left (by intro h;cases h)
   obtain⟨a0,vs,rfl,L,Z⟩:=M;have hl:xs.length<=1000:=by
    have hg:=QP hT;simp only [good,um] at hg;have:=ud hg.1;omega
   refine⟨_,rfl,a0,vs,rfl,SqT.of L,fun ab A0 aa=> ?_⟩;refine Y7 (tl:= []) (fun d=> .bl (isNm d)) L Z (qS hl) aa (fun d0 x0 H3 R ac s3 i3 r=> ?_) fun H1 ys s1 l1 U=> ?_
   ·exact⟨_,rfl,x0,d0,rfl,i3,fun H4 s4=>r _ H4 s4 rfl⟩
   have ey:ys=(xs.map isNm).map V.bl:=IsL.bls (by rw [uN];exact U)
   refine⟨A0,xs.map isNm,rfl,SqL.of (by rw [l1,ey]),?_⟩
   have:(xs.map isNm).all id=isRow (.tup xs):=by rw [vH];rfl
   rw [this];exact kk H1 s1
  |str z=>exact⟨_,rfl,iteF k0⟩
  |non=>exact⟨_,rfl,iteF k0⟩
  |int z=>exact⟨_,rfl,iteF k0⟩
  |bl z=>exact⟨_,rfl,iteF k0⟩
  |lst=>exact⟨_,rfl,iteF k0⟩
  |dct=>exact⟨_,rfl,iteF k0⟩
 ·have ct:u="thing":=by
   simp only [uA,uG,v9] at hu;rcases hu with h|h|h
   ·exact h
   ·exact absurd h ch
   ·exact absurd h Y
  subst ct;refine qo (uc Y) ?_;have e:ansB "thing" an=true:=by
   unfold ansB;rcases ha with rfl|ha
   ·rfl
   ·cases hn:y6 an with
    |true=>rw [if_pos rfl];rfl
    |false=>rw [if_neg ua,if_pos ha,if_neg (by decide+kernel),u7 rfl];rfl
  rw [e] at k;exact k
theorem sl_to {K:PySem.W.Frag}{H:Hp}{v:V}{ds:List D}{n:Nat}{Q:VK}(O:Is H (.tup ds) v)(hn:n<=ds.length)(q:∀u H',Same H H'->Is H' (.tup (ds.take n)) u->Q u H'):rSlG K v none (some (n:Int)) H Q:=by
 obtain⟨p,vs,rfl,M,L⟩:=O;have R:vs.length=ds.length:=L.length;refine⟨p,vs,rfl,SqT.of M,fun h=> ?_,fun h l I=> ?_⟩
 ·have e:n=ds.length:=by
   have:=h.2;rw [HT.sIx_nat] at this;omega
  subst e;exact q _ _ (Same.refl _) ⟨p,vs,rfl,M,by rw [Ua];exact L⟩
 ·rw [xU (by omega)]
  exact q _ _ (qb I _) (Is.new (L.take n) I)
theorem sl_from {K:PySem.W.Frag}{H:Hp}{v:V}{ds:List D}{n:Nat}{Q:VK}(O:Is H (.tup ds) v)(hn:n<=ds.length)(q:∀u H',Same H H'->Is H' (.tup (ds.drop n)) u->Q u H'):rSlG K v (some (n:Int)) none H Q:=by
 obtain⟨p,vs,rfl,M,L⟩:=O;have R:vs.length=ds.length:=L.length;refine⟨p,vs,rfl,SqT.of M,fun h=> ?_,fun h l I=> ?_⟩
 ·have e:n=0∨n=ds.length/\ds.length=0:=by
   have:=h.1;rw [HT.sIx_nat] at this;omega
  have e:n=0:=by omega
  subst e;exact q _ _ (Same.refl _) ⟨p,vs,rfl,M,L⟩
 ·rw [YS (by omega)]
  exact q _ _ (qb I _) (Is.new (L.drop n) I)
theorem Xn {K:PySem.W.Frag}{H:Hp}{v u:V}{ds es:List D}{Q:VK}(U:Is H (.tup ds) v)(Y:Is H (.tup es) u)(Z:ds.length+es.length<=sizeLine)(q:∀z H',Same H H'->Is H' (.tup (ds++es)) z->Q z H'):rCatG K v u H Q:=by
 obtain⟨p,vs,rfl,R,O⟩:=U;obtain⟨p2,us,rfl,L,I⟩:=Y;have h1:vs.length=ds.length:=O.length;have h2:us.length=es.length:=I.length;refine⟨p,p2,vs,us,rfl,rfl,SqT.of R,SqT.of L,by omega,fun h=> ?_,fun _ h=> ?_,fun _ _ l M=> ?_⟩
 ·subst h;have e:ds= []:=uC h1.symm;subst e;exact q _ _ (Same.refl _) ⟨p2,us,rfl,L,I⟩
 ·subst h;have e:es= []:=uC h2.symm;subst e;rw [vQ] at q;exact q _ _ (Same.refl _) ⟨p,vs,rfl,R,O⟩
 ·exact q _ _ (qb M _) (Is.new (O.append I) M)
theorem gs0 {rs:List Rw}{own:Str}:(qI rs own []).gs= []:=Zw _ _ _ _
theorem ok_due (T:Tx K mg a):FnOk P w K mg base CX0 26 a.f_law_due a.d_law_due ["rule","own","run"] sp_due:=by
 have L:=ok_fits (P:=P) (w:=w) (base:=base) T;have Jm:=ok_lgo (P:=P) (w:=w) (base:=base) T;refine T.g_law_due.F.ok Q4 () (fun _ _ _ s H _ Q E hr h=> ?_)
 obtain⟨v,rv,own,rs,ps,es,rfl,hv,hR,am,ir,aI,aQ,aJ,k⟩:=h;refine⟨_,(@qc _ _ _ _ _ (@qx _ _ (3) _ _ _ _ Q4.nd rfl (Or.inl rfl) (@Qo _ _ _ _ qe) () ()) (@qc _ _ _ _ _ (@js _ _ _ _ _ _ _ _ uX rfl (@pi_tup _ _ _ _ (@qG _ _ _ _ _ _ _ qT (pv 2) qh (fun _ _=>rfl))) (@XA _ _ _ _ _ _ rfl (Ql (@qN _ _ (4) _ Q4.nd rfl (Or.inl rfl) ()) (Ql (@qN _ _ (5) _ Q4.nd rfl (Or.inl rfl) ()) Y2)) () ()) (@qc _ _ _ _ _ (@Xf _ _ _ _ _ _ (@qt _ _ _ _ _ _ _ _ _ _ _ _ _ _ _ _ Jm (hr.mono ()) () T.g_law_go.m T.g_law_go.F.kp T.g_law_go.b .nil qK (@qa _ _ _ _ _ (pv 0) (@qa _ _ _ _ _ (pv 1) (@qa _ _ _ _ _ (pv 3) qe ()) ()) ()) () () ()) (@XA _ _ _ _ _ _ rfl (Ql (@qN _ _ (6) _ Q4.nd rfl (Or.inl rfl) ()) (Ql (@qN _ _ (7) _ Q4.nd rfl (Or.inl rfl) ()) (Ql (@qN _ _ (8) _ Q4.nd rfl (Or.inl rfl) ()) Y2))) () ()) () () ()) (@qc _ _ _ _ _ (@qH _ _ _ _ _ _ _ _ (@y0 _ _ _ _ _ _ _ (@qk _ _ _ _ _ _ _ _ (@op_neTN _ hr.units) (pv 7) (@qD _ _ _ _ _ (@qa _ _ _ _ _ qi (@qa _ _ _ _ _ (pv 4) qe ()) ())) (qu _)) (@yr _ _ _ _ (@Qk _ _ _ _ (@qV _ _ _ (@qt _ _ _ _ _ _ _ _ _ _ _ _ _ _ _ _ L (hr.mono ()) () T.g_law_fits.m T.g_law_fits.F.kp T.g_law_fits.b .nil qK (@qa _ _ _ _ _ (pv 4) (@qa _ _ _ _ _ (pv 5) qe ()) ()) () () ()) ())))).pt (@qf _ _ _ (@ql _ _ _ _ yP)) qp) (@qf _ _ _ (@yq _ _ _ _ (@Yo _ _ _ _ _ _ _ _ _ _ _ _ vm U5 U6 YW (pv 3) (@qa _ _ _ _ _ (pv 5) qe ()) () () () () ()) ())))) ()) (@qf _ _ _ (@ql _ _ _ _ (@Qs _ _ _ _ _ _ _ _ (@op_eqN _ hr.units) (@QC _ _ _ _ _ _ _ _ _ _ yO (@qt _ _ _ _ _ _ _ _ _ _ _ _ _ _ _ _ Jm (hr.mono ()) () T.g_law_go.m T.g_law_go.F.kp T.g_law_go.b .nil qK (@qa _ _ _ _ _ (pv 0) (@qa _ _ _ _ _ (pv 1) (@qa _ _ _ _ _ (pv 3) qe ()) ()) ()) () () ()) QT (@QR _ _ _ qh)) (pv 2) (qu _)))))),?_⟩
 dsimp only [cxOf,Cx.nox];have two:(2:Nat)<=sizeLine:=by decide
 refine⟨(by show 0<=sizeLine;decide),fun R ao=> ?_⟩
 have s0:=qb ao (.lst []);have e0:upd H R (.lst []) R=some (.lst []):=qg;generalize upd H R (.lst [])=H0 at s0 e0⊢;refine⟨_,rfl,?_⟩;unfold tC;refine QF (i:=0) (d:= .tup (ps.map prD)) (ir.mono s0.tk) (qQ (j:=0) rfl) fun q hq=> ?_;obtain⟨pa,us,rfl,ap,iu⟩:=hq;have aq:us.length=ps.length:=by rw [iu.length,uf]
 refine⟨pa,rfl,⟨us,SqT.of ap⟩,?_⟩;have ext:∀{H1 H2:Hp}{xs ys:List V},Same H H1->H1 R=some (.lst xs)->H2=upd H1 R (.lst ys)->Same H H2:=fun{H1 H2 xs ys} s e h=>fun b o eb=>by
  rw [h,qy (qr eb ao)];exact s b o eb
 let J1_:Nat->L2.St->Hp->Prop:=fun i σ H'=>∃(as:List D) (U:List V) (x4 x5 x6 x7 x8:Option V),σ= [some v,some (.str own),some rv,some (.ref R),x4,x5,x6,x7,x8]/\as.length=i/\i<=ps.length/\H' R=some (.lst U)/\L2.IsL H' as U/\(∀d∈as,jI d)/\(qI rs own as).gs=(ps.take i).map prD/\(goP rs own (qI rs own []) ps).1=i+(goP rs own (qI rs own as) (ps.drop i)).1/\(goP rs own (qI rs own []) ps).2=(goP rs own (qI rs own as) (ps.drop i)).2/\Same H H'/\Tk H0 H'
 refine for_tup (xs:=us) J1_ ⟨[],[],_,_,_,_,_,rfl,rfl,uD _,e0,rfl,(fun d h=>by simp at h),by rw [gs0];rfl,by rw [Uc,Nat.zero_add],by rw [Uc],s0,Tk.refl _⟩ (fun i σ H' hi ⟨_,_,_,_,_,_,_,_,_,_,_,_,_,_,_,_,_,t⟩=>SqT.of (t.tup _ _ ap)) ?_ ?_
 ·rintro i y σ H' hy ⟨as,U,x4,x5,x6,x7,x8,rfl,ae,hi,ac,Y,I,M,g1,g2,sm,t'⟩;have af:i<ps.length:=by rw [<-aq];exact(List.getElem?_eq_some_iff.mp hy).1
  obtain⟨⟨q,an⟩,hk⟩:∃x,ps[i]? =some x:=⟨ps[i],by simp [af]⟩
  have aK:ps.drop i=(q,an)::ps.drop (i+1):=by
   rw [vd af];have:=List.getElem?_eq_some_iff.mp hk;rw [this.2]
  obtain⟨au,ag⟩:=aI (q,an) (uT hk);simp only at au ag;rw [aK] at g1 g2;obtain⟨y',aw,iy⟩:=iu.get (i:=i) (d:=prD (q,an)) (by rw [uI,hk];rfl)
  rw [hy] at aw;cases aw;obtain⟨py,uy,rfl,ey,w1,q1,rfl,j1,w2,q2,rfl,j2,j3⟩:=iy.mono t';cases(show q2= [] from j3)
  have hO:=ye (own:=own) hR I;obtain⟨wd,ed,ad⟩:=hO.two;refine⟨py,_,rfl,SqT.of ey,rfl,_,_,rfl,_,_,rfl,rfl,?_⟩;refine⟨_,rfl,_,rfl,_,rfl,v,own,R,rs,as,U,rfl,.inl ac,Y,I,by omega,hv.mono sm.tk,hR,am,fun u4 H4 s4 i4=> ?_⟩
  rw [Xh] at i4;obtain⟨p4,aR,rfl,e4,z1,r1,rfl,l1,z2,r2,rfl,l2,z3,r3,rfl,l3,l4⟩:=i4;cases(show r3= [] from l4)
  refine⟨p4,_,rfl,SqT.of e4,rfl,_,_,rfl,_,_,rfl,_,_,rfl,rfl,?_⟩;refine⟨_,rfl,_,rfl,two,fun l hl=> ?_⟩;have s5:=qb hl (.tup [.str "asks",w1]);have aL:Is H4 (.tup [.str wd,ed]) z2:=by rw [<-ad];exact l2
  have ah:=hO.gd;rw [ad] at ah;have Z:=Yg ah.1;simp only [nD] at Z;have ax:dpL [.str wd,ed]<=60:=by
   have:=ah.2;simp only [dp] at this;omega
  have ay:Is H4 q w1:=Is.mono s4.tk j1;have aA:Is H4 an w2:=Is.mono s4.tk j2;refine⟨[.str wd,ed],[.str "asks",q],aL.mono s5.tk,Is.new (ds:= [.str "asks",q]) ⟨_,_,rfl,⟨rfl,qS (by decide)⟩,_,_,rfl,ay,rfl⟩ hl,Z,by simp only [nL,nD,au,vk],ax,_,rfl,?_⟩
  have aB:=s4.trans s5;have aa:=sm.trans aB;have aC:eqN (qI rs own as).th (.tup [.str "asks",q])=eqNL [.str wd,ed] [.str "asks",q]:=by rw [ad];simp only [eqN]
  have stop:okP (qI rs own as) (q,an)=false->dueB rs own ps es=false:=fun h=>by
   have e3:goP rs own (qI rs own as) ((q,an)::ps.drop (i+1))=(0,qI rs own as):=by
    show(if okP _ (q,an)=true then _ else(0,_))=_
    rw [h,if_neg ua]
   rw [e3] at g1;unfold dueB;rw [g1,uc (by show¬(i+0=ps.length);omega),U0]
  cases ak:eqNL [.str wd,ed] [.str "asks",q] with
  |false=>
   have:=k _ aa;rw [stop (by unfold okP;rw [aC,ak];rfl)] at this
   exact iteT (iteT this)
  |true=>
   refine iteF ?_;have aD:(qI rs own as).th= .tup [.str "asks",q]:=by
    rw [ad];exact congrArg D.tup ((eqNL_iff Z).mp ak)
   obtain⟨_,_,_,u,d,ab,hu,hd⟩:=hO.ask (by rw [aD];simp [qZ])
   have al:q= .tup [.str u,d]:=by
    have:=aD.symm.trans ab;injection this with this
    injection this with _ this
    injection this with this _
   have aE:okP (qI rs own as) (q,an)=ansB u an:=by
    unfold okP;rw [aC,ak,al]
    rfl
   refine⟨_,rfl,_,rfl,w1,w2,u,d,an,rfl,by rw [<-al];exact ay.mono s5.tk,aA.mono s5.tk,ag,hu,fun H6 s6=>⟨_,rfl,?_⟩⟩
   have aF:=aa.trans s6;cases hb:ansB u an with
   |false=>
    have:=k _ aF;rw [stop (by rw [aE,hb])] at this
    exact iteT this
   |true=>
    refine iteF ?_;have aG:=aB.trans s6;have O:=aG _ _ ac;have aS:U.length=as.length:=Y.length;refine⟨_,rfl,.inl ⟨rfl,_,SqL.of O⟩,_,rfl,R,U,_,rfl,rfl,O,Ye (by omega),?_⟩
    have t7:Tk H6 (upd H6 R (.lst (U++ [w2]))):=Tk.updL O;have T7:Tk H' (upd H6 R (.lst (U++ [w2]))):=aG.tk.trans t7;have e3:goP rs own (qI rs own as) ((q,an)::ps.drop (i+1))=((goP rs own (ansS rs own (qI rs own as) an) (ps.drop (i+1))).1+1,(goP rs own (ansS rs own (qI rs own as) an) (ps.drop (i+1))).2):=by
     show(if okP _ (q,an)=true then _ else(0,_))=_
     rw [aE,hb,if_pos rfl]
    have aH:=wt ab;rw [e3,<-jf an aH] at g1 g2;have aM:=gs_snoc an aH;refine⟨as++ [an],U++ [w2],_,_,_,_,_,rfl,by rw [ug,ae];rfl,af,qg,(Y.mono T7).append (IsL.one ((aA.mono (s5.trans s6).tk).mono t7)),fun x hx=> ?_,?_,by rw [g1];show i+(_+1)=i+1+_;omega,g2,ext aF O rfl,t'.trans T7⟩
    ·rcases List.mem_append.mp hx with hx|hx
     ·exact I x hx
     ·rw [vA] at hx;subst hx;exact ag
    ·rw [aM,M,U3,hk,uF,ab,al]
     rfl
 ·rintro σ H' ⟨as,U,x4,x5,x6,x7,x8,rfl,ae,hi,ac,Y,I,M,g1,g2,sm,t'⟩;rw [aq] at ae M g1 g2;rw [List.drop_length] at g1 g2;rw [Ua] at M;have hO:=ye (own:=own) hR I;refine⟨_,rfl,_,rfl,_,rfl,v,own,R,rs,as,U,rfl,.inl ac,Y,I,by omega,hv.mono sm.tk,hR,am,fun u4 H4 s4 i4=> ?_⟩
  rw [Xh] at i4;refine⟨_,rfl,?_⟩;refine sl_to (n:=2) i4 (by show 2<=3;decide) fun u5 H5 s5 i5=> ?_
  have i5:Is H5 (.tup [.tup (qI rs own as).gs,(qI rs own as).th]) u5:=i5;have aa:=sm.trans (s4.trans s5);have aN:nL [.tup (qI rs own as).gs,(qI rs own as).th]=true:=by simp only [nL,nD,hO.gs.1,Yg hO.gd.1,vk]
  have aO:dpL [.tup (qI rs own as).gs,(qI rs own as).th]<=60:=by
   have h1:=hO.gs.2.1;have h2:=hO.gd.2;simp only [dpL,dp];omega
  have aP:nL [.tup (ps.map prD),.tup es]=true:=by
   rw [<-M];simp only [nL,nD,hO.gs.1,aJ,vk]
  refine⟨_,rfl,[.tup (qI rs own as).gs,(qI rs own as).th],[.tup (ps.map prD),.tup es],i5,ir.mono aa.tk,aN,aP,aO,?_⟩;have e:eqNL [.tup (qI rs own as).gs,(qI rs own as).th] [.tup (ps.map prD),.tup es]=dueB rs own ps es:=by
   unfold dueB;rw [g1,g2,u7 (by show ps.length+0=ps.length;omega),vp]
   rw [M];have e2:eqNL (ps.map prD) (ps.map prD)=true:=by
    have hq:=hO.gs.1;rw [M] at hq;exact(eqNL_iff hq).mpr rfl
   simp only [eqNL,eqN,e2,vp,vk]
   rfl
  show Q (.bl (id (eqNL [.tup (qI rs own as).gs,(qI rs own as).th] [.tup (ps.map prD),.tup es]))) H5;rw [e];exact k _ aa
def PrOk (x:D×D):Prop:=(∃(u:Str) (d:D),x.1= .tup [.str u,d]/\nD d=true)/\jI x.2
def EndOk (es:List D):Prop:=∃(w:Str) (e:D),es= [.str w,e]/\w≠"asks"/\nD e=true
def ENDS:List (List D):= [[.str "said",.str "x"],[.str "fault",.str "told"],[.str "fault",.str "lack"],[.str "said",.tup []],[.str "fault",.str "silent"]]
theorem ends_ok:∀es∈ENDS,EndOk es:=by
 intro es h;simp only [ENDS,uA,uG,v9] at h;rcases h with rfl|rfl|rfl|rfl|rfl
 ·exact⟨_,_,rfl,by decide+kernel,rfl⟩
 ·exact⟨_,_,rfl,by decide+kernel,rfl⟩
 ·exact⟨_,_,rfl,by decide+kernel,rfl⟩
 ·exact⟨_,_,rfl,by decide+kernel,rfl⟩
 ·exact⟨_,_,rfl,by decide+kernel,rfl⟩
def OTH:List D:= [.str "x",.str "yes",.str "no",.tup [],.tup [.str "a"],.non,.tup [.str "x",.str "k"]]
theorem oth_ok:∀d∈OTH,jI d:=by
 have h:∀d∈OTH,(y6 d||isT d)=true:=by decide+kernel
 intro d hd;have:=h d hd;cases hn:y6 d with
 |true=>
  cases d with
  |non=>exact .inl rfl
  |_=>cases hn
 |false=>
  rw [hn] at this;exact .inr this
theorem nms_at {d:Int}(L:0<=d)(h1:d<8):∃z:Str,atI (NMS.map V.str) d=some (.str z)/\nm z=true/\z.length<=100:=by
 obtain⟨v,I⟩:=Jj (xs:=NMS.map V.str) (i:=d) L h1;obtain⟨z,M,rfl⟩:=List.mem_map.mp (xF I);exact⟨z,I,nms_ok z M⟩
def sp_other:Sp:=fun vs H Q _=>∃(p L:Addr) (rv:V) (ps:List (D×D)) (es:List D),vs= [.ref p,rv,.ref L]/\Qz H p/\H L=some (.lst (NMS.map V.str))/\L≠p/\Is H (.tup [.tup (ps.map prD),.tup es]) rv/\(∀x∈ps,PrOk x)/\ps.length<=400/\EndOk es/\
 ∀(u:V) (ps':List (D×D)) (es':List D) (H':Hp),(∀x∈ps',PrOk x)->ps'.length<=ps.length+1->EndOk es'->Is H' (.tup [.tup (ps'.map prD),.tup es']) u->Qz H' p->Kept p H H'->Q u H'
theorem ok_other (T:Tx K mg a):FnOk P w K mg base CX0 2 a.Xs a.XH ["pot","run","names"] sp_other:=by
 have qF:=YR (P:=P) (w:=w) (base:=base) T;refine T.g_law_other.F.ok Qe () (fun _ _ _ _ H _ Q E hr h=> ?_)
 obtain⟨p,L,rv,ps,es,rfl,hP,hL,aD,ir,af,aY,aE,k⟩:=h;refine⟨_,(@qc _ _ _ _ _ (@Xf _ _ _ _ _ _ (pv 1) (@XA _ _ _ _ _ _ rfl (Ql (@qN _ _ (3) _ Qe.nd rfl (Or.inl rfl) ()) (Ql (@qN _ _ (4) _ Qe.nd rfl (Or.inl rfl) ()) Y2)) () ()) () () ()) (@qc _ _ _ _ _ (@qx _ _ (5) _ _ _ _ Qe.nd rfl (Or.inl rfl) (@qt _ _ _ _ _ _ _ _ _ _ _ _ _ _ _ _ qF (hr.mono ()) () T.g_law_take.m T.g_law_take.F.kp T.g_law_take.b .nil qK (@qa _ _ _ _ _ (pv 0) (@qa _ _ _ _ _ qh qe ()) ()) () () ()) () ()) (@qc _ _ _ _ _ (@qH _ _ _ _ _ _ _ _ (@y0 _ _ _ _ _ _ _ (@qk _ _ _ _ _ _ _ _ Qh (pv 5) qh (qu _)) (@yr _ _ _ _ (@qk _ _ _ _ _ _ _ _ (@op_eqNil _ (by have:=hr.units;exact vV (Uu _ _) this)) (pv 3) (@qD _ _ _ _ _ qe) (qu _)))).pt (@qc _ _ _ _ _ (@qx _ _ (6) _ _ _ _ Qe.nd rfl (Or.inl rfl) (@Qo _ _ _ _ (@qa _ _ _ _ _ (@qD _ _ _ _ _ (@qa _ _ _ _ _ qi (@qa _ _ _ _ _ qi qe ()) ())) (@qa _ _ _ _ _ (@qD _ _ _ _ _ (@qa _ _ _ _ _ qi (@qa _ _ _ _ _ qi qe ()) ())) (@qa _ _ _ _ _ (@qD _ _ _ _ _ (@qa _ _ _ _ _ qi (@qa _ _ _ _ _ qi qe ()) ())) (@qa _ _ _ _ _ (@qD _ _ _ _ _ (@qa _ _ _ _ _ qi (@qa _ _ _ _ _ (@qD _ _ _ _ _ qe) qe ()) ())) (@qa _ _ _ _ _ (@qD _ _ _ _ _ (@qa _ _ _ _ _ qi (@qa _ _ _ _ _ qi qe ()) ())) qe ()) ()) ()) ()) ())) () ()) (@qf _ _ _ (@ql _ _ _ _ (@qD _ _ _ _ _ (@qa _ _ _ _ _ (pv 3) (@qa _ _ _ _ _ (@qG _ _ _ _ _ _ _ qP (pv 6) (@qt _ _ _ _ _ _ _ _ _ _ _ _ _ _ _ _ qF (hr.mono ()) () T.g_law_take.m T.g_law_take.F.kp T.g_law_take.b .nil qK (@qa _ _ _ _ _ (pv 0) (@qa _ _ _ _ _ qh qe ()) ()) () () ()) (fun _ _=>rfl)) qe ()) ()))))) qp) (@qc _ _ _ _ _ (@qx _ _ (7) _ _ _ _ Qe.nd rfl (Or.inl rfl) (@qt _ _ _ _ _ _ _ _ _ _ _ _ _ _ _ _ qF (hr.mono ()) () T.g_law_take.m T.g_law_take.F.kp T.g_law_take.b .nil qK (@qa _ _ _ _ _ (pv 0) (@qa _ _ _ _ _ (@qj _ _ _ _ _ _ _ _ _ qE () T.Qy uv (@qa _ _ _ _ _ (pv 3) qe ()) () () () ()) qe ()) ()) () () ()) () ()) (@qc _ _ _ _ _ (@Xf _ _ _ _ _ _ (@qG _ _ _ _ _ _ _ qT (pv 3) (pv 7) (fun _ _=>rfl)) (@XA _ _ _ _ _ _ rfl (Ql (@qN _ _ (8) _ Qe.nd rfl (Or.inl rfl) ()) (Ql (@qN _ _ (9) _ Qe.nd rfl (Or.inl rfl) ()) Y2)) () ()) () () ()) (@qc _ _ _ _ _ (@qH _ _ _ _ _ _ _ _ (@qk _ _ _ _ _ _ _ _ Qh (pv 5) qh (qu _)) (@qf _ _ _ (@ql _ _ _ _ (@qD _ _ _ _ _ (@qa _ _ _ _ _ (@qO _ _ _ _ _ _ _ _ yL (@QC _ _ _ _ _ _ _ _ _ _ yO (pv 3) QT (@QR _ _ _ (pv 7))) (@QC _ _ _ _ _ _ _ _ _ _ yO (pv 3) (@QR _ _ _ (@qO _ _ _ _ _ _ _ _ Qd (pv 7) qh)) QT)) (@qa _ _ _ _ _ (pv 4) qe ()) ())))) qp) (@qc _ _ _ _ _ (@qH _ _ _ _ _ _ _ _ (@qk _ _ _ _ _ _ _ _ Qh (pv 5) qh (qu _)) (@qf _ _ _ (@ql _ _ _ _ (@qD _ _ _ _ _ (@qa _ _ _ _ _ (@qO _ _ _ _ _ _ _ _ yL (@QC _ _ _ _ _ _ _ _ _ _ yO (pv 3) QT (@QR _ _ _ (@qO _ _ _ _ _ _ _ _ Qd (pv 7) qh))) (@QC _ _ _ _ _ _ _ _ _ _ yO (pv 3) (@QR _ _ _ (pv 7)) QT)) (@qa _ _ _ _ _ (pv 4) qe ()) ())))) qp) (@qc _ _ _ _ _ (@qH _ _ _ _ _ _ _ _ (@qk _ _ _ _ _ _ _ _ Qh (pv 5) qh (qu _)) (@qf _ _ _ (@qx _ _ (9) _ _ _ _ Qe.nd rfl (Or.inl rfl) (@qG _ _ _ _ _ _ _ qP (@Qo _ _ _ _ (@qa _ _ _ _ _ qi (@qa _ _ _ _ _ qi (@qa _ _ _ _ _ qi (@qa _ _ _ _ _ (@qD _ _ _ _ _ qe) (@qa _ _ _ _ _ (@qD _ _ _ _ _ (@qa _ _ _ _ _ qi qe ())) (@qa _ _ _ _ _ Qg (@qa _ _ _ _ _ (@qD _ _ _ _ _ (@qa _ _ _ _ _ qi (@qa _ _ _ _ _ qi qe ()) ())) qe ()) ()) ()) ()) ()) ()) ())) (@qt _ _ _ _ _ _ _ _ _ _ _ _ _ _ _ _ qF (hr.mono ()) () T.g_law_take.m T.g_law_take.F.kp T.g_law_take.b .nil qK (@qa _ _ _ _ _ (pv 0) (@qa _ _ _ _ _ qh qe ()) ()) () () ()) (fun _ _=>rfl)) () ())) qp) (@qc _ _ _ _ _ (@qH _ _ _ _ _ _ _ _ (@qk _ _ _ _ _ _ _ _ Qh (pv 5) qh (qu _)) (@qf _ _ _ (@qx _ _ (8) _ _ _ _ Qe.nd rfl (Or.inl rfl) (@qD _ _ _ _ _ (@qa _ _ _ _ _ (@qG _ _ _ _ _ _ _ qP (@Qo _ _ _ _ (@qa _ _ _ _ _ qi (@qa _ _ _ _ _ qi (@qa _ _ _ _ _ qi qe ()) ()) ())) (@qt _ _ _ _ _ _ _ _ _ _ _ _ _ _ _ _ qF (hr.mono ()) () T.g_law_take.m T.g_law_take.F.kp T.g_law_take.b .nil qK (@qa _ _ _ _ _ (pv 0) (@qa _ _ _ _ _ qh qe ()) ()) () () ()) (fun _ _=>rfl)) (@qa _ _ _ _ _ (@qG _ _ _ _ _ _ _ yt (pv 8) qh (fun _ _=>rfl)) qe ()) ())) () ())) qp) (@qc _ _ _ _ _ (@qH _ _ _ _ _ _ _ _ (@qk _ _ _ _ _ _ _ _ Qh (pv 5) qh (qu _)) (@qf _ _ _ (@qx _ _ (8) _ _ _ _ Qe.nd rfl (Or.inl rfl) (@qD _ _ _ _ _ (@qa _ _ _ _ _ (@qG _ _ _ _ _ _ _ yt (pv 8) qh (fun _ _=>rfl)) (@qa _ _ _ _ _ (@qG _ _ _ _ _ _ _ qP (pv 2) (@qt _ _ _ _ _ _ _ _ _ _ _ _ _ _ _ _ qF (hr.mono ()) () T.g_law_take.m T.g_law_take.F.kp T.g_law_take.b .nil qK (@qa _ _ _ _ _ (pv 0) (@qa _ _ _ _ _ qh qe ()) ()) () () ()) (fun _ _=>rfl)) qe ()) ())) () ())) qp) (@qf _ _ _ (@ql _ _ _ _ (@qD _ _ _ _ _ (@qa _ _ _ _ _ (@qO _ _ _ _ _ _ _ _ yL (@qO _ _ _ _ _ _ _ _ yL (@QC _ _ _ _ _ _ _ _ _ _ yO (pv 3) QT (@QR _ _ _ (pv 7))) (@qD _ _ _ _ _ (@qa _ _ _ _ _ (@qD _ _ _ _ _ (@qa _ _ _ _ _ (pv 8) (@qa _ _ _ _ _ (pv 9) qe ()) ())) qe ()))) (@QC _ _ _ _ _ _ _ _ _ _ yO (pv 3) (@QR _ _ _ (@qO _ _ _ _ _ _ _ _ Qd (pv 7) qh)) QT)) (@qa _ _ _ _ _ (pv 4) qe ()) ())))))))))))))),?_⟩
 dsimp only [cxOf,Cx.nox];have zero:(0:Nat)<=sizeLine:=by decide
 have one:(1:Nat)<=sizeLine:=by decide
 have two:(2:Nat)<=sizeLine:=by decide
 have three:(3:Nat)<=sizeLine:=by decide
 have aF:(5:Nat)<=sizeLine:=by decide
 have ap:(7:Nat)<=sizeLine:=by decide
 have big:∀{j:Nat},j<=1000->j<=sizeLine:=fun h=>uK h (by decide)
 obtain⟨pr,ur,rfl,er,w1,q1,rfl,j1,w2,q2,rfl,j2,j3⟩:=ir;cases(show q2= [] from j3)
 have j1:Is H (.tup (ps.map prD)) w1:=j1;have j2:Is H (.tup es) w2:=j2;refine⟨_,rfl,pr,_,rfl,SqT.of er,rfl,_,_,rfl,_,_,rfl,rfl,?_⟩;refine⟨_,rfl,p,6,rfl,hP,by decide,by decide,fun d1 H1 a0 a1 P1 K1 _=> ?_⟩
 have aq:=hP.tk P1 K1;obtain⟨pa,us,rfl,aN,iu⟩:=id j1;have aZ:us.length=ps.length:=by rw [iu.length,uf]
 have e3:∀{u1:V}{x y:D}{H2:Hp}{l:Addr}{v1 v2:V},H2 l=none->Is H2 x v1->Is H2 y v2->Is (upd H2 l (.tup [v1,v2])) (.tup [x,y]) (.ref l):=fun{u1 x y H2 l v1 v2} M i1 i2=>Is.new (ds:= [x,y]) ⟨_,_,rfl,i1,_,_,rfl,i2,rfl⟩ M;have am:∀(x6 x7 x8 x9:Option V) (H2:Hp),Qz H2 p->Kept p H H2->Is H2 (.tup (ps.map prD)) (.ref pa)->
   tSeq (tAsg (tLst (QI (tTup (QI (tC (.str "said")) (QI (tC (.str "x")) tNil))) (QI (tTup (QI (tC (.str "fault")) (QI (tC (.str "told")) tNil))) (QI (tTup (QI (tC (.str "fault")) (QI (tC (.str "lack")) tNil))) (QI (tTup (QI (tC (.str "said")) (QI (tTup tNil) tNil))) (QI (tTup (QI (tC (.str "fault")) (QI (tC (.str "silent")) tNil))) tNil)))))) (Y3 6))
    (tRet (tTup (QI (tVar 3) (QI (tOp (rIxL K) (tVar 6) (tCall sp_take [] E0 (QI (tVar 0) (QI (tC (.int 5)) tNil)))) tNil)))) ({nx:=fun x H'=>Q V.non H',rt:=Q}:Ends) [some (.ref p),some (.ref pr),some (.ref L),some (.ref pa),some w2,some (.int d1),x6,x7,x8,x9] H2:=fun x6 x7 x8 x9 H2 P2 K2 jp=>by
  have U:∀{Y:Hp}{z:Str},z.length<=100->Is Y (.str z) (.str z):=fun{Y z} hz=>⟨rfl,qS (by omega)⟩
  refine⟨two,fun Z h1=>⟨two,fun t2 h2=>⟨two,fun t3 h3=>⟨zero,fun t4 h4=>⟨two,fun t5 h5=>⟨two,fun t6 h6=>⟨aF,fun l M=> ?_⟩⟩⟩⟩⟩⟩⟩;have m1:=e3 (u1:= .non) h1 (U (z:="said") (by decide)) (U (z:="x") (by decide))
  have s1:=qb h1 (.tup [.str "said",.str "x"]);generalize upd H2 Z (.tup [.str "said",.str "x"])=G1 at*;have m2:=e3 (u1:= .non) h2 (U (z:="fault") (by decide)) (U (z:="told") (by decide))
  have s2:=qb h2 (.tup [.str "fault",.str "told"]);generalize upd G1 t2 (.tup [.str "fault",.str "told"])=G2 at*;have m3:=e3 (u1:= .non) h3 (U (z:="fault") (by decide)) (U (z:="lack") (by decide))
  have s3:=qb h3 (.tup [.str "fault",.str "lack"]);generalize upd G2 t3 (.tup [.str "fault",.str "lack"])=G3 at*;have m4:Is (upd G3 t4 (.tup [])) (.tup []) (.ref t4):=Is.new (ds:= []) rfl h4;have s4:=qb h4 (.tup []);generalize upd G3 t4 (.tup [])=G4 at*;have m5:=e3 (u1:= .non) h5 (U (z:="said") (by decide)) m4
  have s5:=qb h5 (.tup [.str "said",.ref t4]);generalize upd G4 t5 (.tup [.str "said",.ref t4])=G5 at*;have m6:=e3 (u1:= .non) h6 (U (z:="fault") (by decide)) (U (z:="silent") (by decide))
  have s6:=qb h6 (.tup [.str "fault",.str "silent"]);generalize upd G5 t6 (.tup [.str "fault",.str "silent"])=G6 at*;have R:=qb M (.lst [.ref Z,.ref t2,.ref t3,.ref t5,.ref t6]);have e7:upd G6 l (.lst [.ref Z,.ref t2,.ref t3,.ref t5,.ref t6]) l=some (.lst [.ref Z,.ref t2,.ref t3,.ref t5,.ref t6]):=qg;generalize upd G6 l (.lst [.ref Z,.ref t2,.ref t3,.ref t5,.ref t6])=G7 at*;have S7:=s1.trans (s2.trans (s3.trans (s4.trans (s5.trans (s6.trans R)))));have il:L2.IsL G7 (ENDS.map D.tup) [.ref Z,.ref t2,.ref t3,.ref t5,.ref t6]:=⟨_,_,rfl,m1.mono (s2.trans (s3.trans (s4.trans (s5.trans (s6.trans R))))).tk,_,_,rfl,m2.mono (s3.trans (s4.trans (s5.trans (s6.trans R)))).tk,_,_,rfl,m3.mono (s4.trans (s5.trans (s6.trans R))).tk,_,_,rfl,m5.mono (s6.trans R).tk,_,_,rfl,m6.mono R.tk,rfl⟩;have P7:=P2.same S7;have nl:l≠p:=fun z=>by
   obtain⟨x,e,_⟩:=P7;rw [<-z,e7] at e;injection e with e
   injection e with e
   have h1:(5:Nat)=1:=congrArg List.length e;omega
  refine⟨_,rfl,_,rfl,_,rfl,p,5,rfl,P7,by decide,by decide,fun d2 H8 b0 b1 P8 K8 _=> ?_⟩
  obtain⟨n,rfl⟩:∃n:Nat,d2=(n:Int):=⟨d2.toNat,by omega⟩
  have I:=P7.tk P8 K8;obtain⟨en,ab⟩:∃en,ENDS[n]? =some en:=⟨ENDS[n]'(by show n<5;omega),by simp [show n<ENDS.length from(by show n<5;omega)]⟩
  obtain⟨v8,au,i8⟩:=il.get (i:=n) (d:= .tup en) (by rw [uI,ab];rfl)
  refine⟨l,_,_,v8,rfl,rfl,SqL.of (K8 _ _ e7 nl),qQ au,two,fun l2 O=> ?_⟩;exact k _ ps en _ af (by omega) (ends_ok en (uT ab)) (e3 (u1:= .non) O ((jp.mono S7.tk).mono I) (i8.mono I)) (P8.same (qb O _)) (K2.trans ((Kept.of S7).trans (K8.trans (Kept.of (qb O _)))))
 have aG:=j1.mono aq;have aO:=j2.mono aq;refine⟨_,rfl,rfl,_,rfl,ite2 (fun c=> ?_) (fun c=> ?_)⟩
 ·exact iteT (am _ _ _ _ H1 P1 K1 aG)
 refine⟨_,rfl,zero,fun t0 aP=> ?_⟩;have s2:=qb aP (.tup []);have u2:upd H1 t0 (.tup []) t0=some (.tup []):=qg;generalize upd H1 t0 (.tup [])=H2 at s2 u2⊢;have ao:H1 pa=some (.tup us):=aq.tup _ _ aN;refine⟨pa,t0,us,rfl,rfl,SqT.of (s2 _ _ ao),SqT.of u2,_,rfl,?_⟩;have P2:=P1.same s2;have K2:=K1.trans (Kept.of s2);have aH:=aG.mono s2.tk;have aQ:=aO.mono s2.tk;cases aR:us.isEmpty with
 |true=>exact iteT (am _ _ _ _ H2 P2 K2 aH)
 |false=>
 refine iteF ?_;have aX:0<us.length:=by
  cases us with
  |nil=>cases aR
  |cons x r=>exact Nat.succ_pos _
 refine⟨_,rfl,_,rfl,pa,us,rfl,.inr (SqT.of (s2 _ _ ao)),p,(us.length:Int),rfl,P2,by omega,by omega,fun d2 Y b0 b1 P3 K3 _=> ?_⟩
 obtain⟨n,rfl⟩:∃n:Nat,d2=(n:Int):=⟨d2.toNat,by omega⟩
 have hn:n<ps.length:=by omega
 have aI:=P2.tk P3 K3;have av:=K2.trans K3;have aa:=aH.mono aI;have aJ:=aQ.mono aI;obtain⟨⟨qd,ad⟩,hk⟩:∃x,ps[n]? =some x:=⟨ps[n],by simp [hn]⟩
 have aK:=af _ (uT hk);obtain⟨⟨u,d,eq,hd⟩,ac⟩:=id aK;simp only at eq ac;subst eq;have tp:∀m,(ps.map prD).take m=(ps.take m).map prD:=fun m=>List.map_take.symm;have aw:∀m,(ps.map prD).drop m=(ps.drop m).map prD:=fun m=>List.map_drop.symm;have a2:(ps.map prD).length=ps.length:=uf ..;have n1:(n:Int)+1=((n+1:Nat):Int):=by omega
 refine⟨_,rfl,_,rfl,QF (i:=(n:Int)) (d:=prD (.tup [.str u,d],ad)) aa (qQ (by rw [uI,hk];rfl)) fun y hy=> ?_⟩
 obtain⟨py,uy,rfl,ey,v1,r1,rfl,i1,v2,r2,rfl,i2,i3⟩:=hy;cases(show r2= [] from i3)
 refine⟨py,_,rfl,SqT.of ey,rfl,_,_,rfl,_,_,rfl,rfl,?_⟩;have i1:Is Y (.tup [.str u,d]) v1:=i1;have i2:Is Y ad v2:=i2;have ax:∀m x,x∈ps.take m->PrOk x:=fun m x hx=>af x (Ur hx);have ay:∀m x,x∈ps.drop m->PrOk x:=fun m x hx=>af x (List.mem_of_mem_drop hx);have ag:∀{as bs:List (D×D)},(∀x∈as,PrOk x)->(∀x∈bs,PrOk x)->∀x∈as++bs,PrOk x:=fun{as bs} h1 h2 x hx=>(List.mem_append.mp hx).elim (h1 x) (h2 x);have done:∀(ae:List (D×D)) (z:V) (H6:Hp),Same Y H6->Is H6 (.tup (ae.map prD)) z->(∀x∈ae,PrOk x)->ae.length<=ps.length+1->∀l,H6 l=none->Q (.ref l) (upd H6 l (.tup [z,w2])):=fun ae z H6 s6 iz h1 h2 l M=>k _ ae es _ h1 h2 aE (e3 (u1:= .non) M iz (aJ.mono s6.tk)) ((P3.same s6).same (qb M _)) (av.trans ((Kept.of s6).trans (Kept.of (qb M _))));refine⟨_,rfl,rfl,_,rfl,ite2 (fun c1=> ?_) (fun c1=> ?_)⟩
 ·refine⟨_,rfl,_,rfl,_,rfl,?_⟩;refine sl_to (n:=n) aa (by omega) fun x1 H4 s4 k4=> ?_
  refine⟨_,rfl,_,rfl,_,_,rfl,rfl,_,rfl,?_⟩;unfold JI;rw [n1];refine sl_from (n:=n+1) (aa.mono s4.tk) (by omega) fun x2 H5 s5 k5=> ?_
  refine Xn (k4.mono s5.tk) k5 (big (by rw [uP,uQ];omega)) fun z H6 s6 k6=> ?_
  refine⟨_,rfl,two,fun l M=> ?_⟩;rw [tp,aw,<-uF] at k6;exact done _ z H6 (s4.trans (s5.trans s6)) k6 (ag (ax _) (ay _)) (by rw [ug,uP,uQ];omega) l M
 refine⟨_,rfl,rfl,_,rfl,ite2 (fun c2=> ?_) (fun c2=> ?_)⟩
 ·refine⟨_,rfl,_,rfl,_,_,rfl,rfl,_,rfl,?_⟩;rw [n1];refine sl_to (n:=n+1) aa (by omega) fun x1 H4 s4 k4=> ?_
  refine⟨_,rfl,_,rfl,_,rfl,?_⟩;unfold JI;refine sl_from (n:=n) (aa.mono s4.tk) (by omega) fun x2 H5 s5 k5=> ?_
  refine Xn (k4.mono s5.tk) k5 (big (by rw [uP,uQ];omega)) fun z H6 s6 k6=> ?_
  refine⟨_,rfl,two,fun l M=> ?_⟩;rw [tp,aw,<-uF] at k6;exact done _ z H6 (s4.trans (s5.trans s6)) k6 (ag (ax _) (ay _)) (by rw [ug,uP,uQ];omega) l M
 have ah:∀(ak al:D) (w8 w9:V) (H4:Hp),Qz H4 p->Kept p Y H4->Is H4 ak w8->Is H4 al w9->PrOk (ak,al)->
   tRet (tTup (QI (tOp (rCatG K) (tOp (rCatG K) (tSl (rSlG K) (tVar 3) JI (tPart (tVar 7))) (tTup (QI (tTup (QI (tVar 8) (QI (tVar 9) tNil))) tNil))) (tSl (rSlG K) (tVar 3) (tPart (tOp (rI0 fun i j=>V.int (i+j)) (tVar 7) (tC (V.int 1)))) JI)) (QI (tVar 4) tNil))) ({nx:=fun x H'=>Q V.non H',rt:=Q}:Ends) [some (.ref p),some (.ref pr),some (.ref L),some (.ref pa),some w2,some (.int d1),none,some (.int (n:Int)),some w8,some w9] H4:=fun ak al w8 w9 H4 P4 K4 i8 i9 hok=>by
  have aA:=P3.tk P4 K4;refine⟨_,rfl,_,rfl,_,rfl,?_⟩;refine sl_to (n:=n) (aa.mono aA) (by omega) fun x1 H5 s5 k5=> ?_
  refine⟨_,rfl,_,rfl,two,fun l1 h1=>⟨one,fun l2 h2=> ?_⟩⟩;have m1:=e3 (u1:= .non) h1 (i8.mono s5.tk) (i9.mono s5.tk);have q1:=qb h1 (.tup [w8,w9]);have m2:Is (upd (upd H5 l1 (.tup [w8,w9])) l2 (.tup [.ref l1])) (.tup ([(ak,al)].map prD)) (.ref l2):=Is.new (IsL.one m1) h2;have q2:=qb h2 (.tup [.ref l1]);have aB:=q1.trans q2;generalize upd (upd H5 l1 (.tup [w8,w9])) l2 (.tup [.ref l1])=H6 at m2 aB⊢;refine Xn (k5.mono aB.tk) m2 (big (by rw [uP,uf];show _+1<=1000;omega)) fun z H7 R k7=> ?_
  refine⟨_,rfl,_,rfl,_,_,rfl,rfl,_,rfl,?_⟩;unfold JI;rw [n1];have S7:=s5.trans (aB.trans R);refine sl_from (n:=n+1) ((aa.mono aA).mono S7.tk) (by omega) fun x2 H8 s8 k8=> ?_
  refine Xn (k7.mono s8.tk) k8 (big (by rw [ug,uP,uQ,uf];show _+1+_<=1000;omega)) fun z2 H9 s9 k9=> ?_
  refine⟨_,rfl,two,fun l M=> ?_⟩;rw [tp,aw,<-uF,<-uF] at k9;have S9:=S7.trans (s8.trans s9);exact k _ _ es _ (ag (ag (ax _) (fun x hx=>by rw [vA] at hx;subst hx;exact hok)) (ay _)) (by rw [ug,ug,uP,uQ];show _+1+_<=_;omega) aE (e3 (u1:= .non) M k9 ((aJ.mono aA).mono S9.tk)) ((P4.same S9).same (qb M _)) (av.trans (K4.trans ((Kept.of S9).trans (Kept.of (qb M _)))))
 have aL:∀{x y:Int},decide (V.int x=V.int y)=true->x=y:=fun{x y} h=>by
  have:=ud h;injection this
 refine⟨_,rfl,rfl,_,rfl,ite2 (fun c3=> ?_) (fun c3=> ?_)⟩
 ·have aS:=aL c3;refine⟨zero,fun Z h1=>⟨one,fun t2 h2=>⟨two,fun t3 h3=>⟨ap,fun l M=> ?_⟩⟩⟩⟩;have U:∀{Y:Hp}{z:Str},z.length<=100->Is Y (.str z) (.str z):=fun{Y z} hz=>⟨rfl,qS (by omega)⟩
  have m1:Is (upd Y Z (.tup [])) (.tup []) (.ref Z):=Is.new (ds:= []) rfl h1;have s1:=qb h1 (.tup []);generalize upd Y Z (.tup [])=G1 at*;have m2:Is (upd G1 t2 (.tup [.str "a"])) (.tup [.str "a"]) (.ref t2):=Is.new (IsL.one (U (z:="a") (by decide))) h2
  have aM:=qb h2 (.tup [.str "a"]);generalize upd G1 t2 (.tup [.str "a"])=G2 at*;have m3:=e3 (u1:= .non) h3 (U (z:="x") (by decide)) (U (z:="k") (by decide))
  have s3:=qb h3 (.tup [.str "x",.str "k"]);generalize upd G2 t3 (.tup [.str "x",.str "k"])=G3 at*;have R:=qb M (.lst [.str "x",.str "yes",.str "no",.ref Z,.ref t2,.non,.ref t3]);have e7:upd G3 l (.lst [.str "x",.str "yes",.str "no",.ref Z,.ref t2,.non,.ref t3]) l=some (.lst [.str "x",.str "yes",.str "no",.ref Z,.ref t2,.non,.ref t3]):=qg;generalize upd G3 l (.lst [.str "x",.str "yes",.str "no",.ref Z,.ref t2,.non,.ref t3])=G7 at*;have S7:=s1.trans (aM.trans (s3.trans R));have il:L2.IsL G7 OTH [.str "x",.str "yes",.str "no",.ref Z,.ref t2,.non,.ref t3]:=⟨_,_,rfl,U (by decide),_,_,rfl,U (by decide),_,_,rfl,U (by decide),_,_,rfl,m1.mono (aM.trans (s3.trans R)).tk,_,_,rfl,m2.mono (s3.trans R).tk,_,_,rfl,rfl,_,_,rfl,m3.mono R.tk,rfl⟩
  have P7:=P3.same S7;have nl:l≠p:=fun z=>by
   obtain⟨x,e,_⟩:=P7;rw [<-z,e7] at e;injection e with e
   injection e with e
   have h1:(7:Nat)=1:=congrArg List.length e;omega
  refine⟨_,rfl,p,7,rfl,P7,by decide,by decide,fun d3 H8 f0 f1 P8 K8 _=> ?_⟩
  obtain⟨n3,rfl⟩:∃n:Nat,d3=(n:Int):=⟨d3.toNat,by omega⟩
  have I:=P7.tk P8 K8;obtain⟨en,ab⟩:∃en,OTH[n3]? =some en:=⟨OTH[n3]'(by show n3<7;omega),by simp [show n3<OTH.length from(by show n3<7;omega)]⟩
  obtain⟨v8,au,i8⟩:=il.get (i:=n3) (d:=en) ab;refine⟨l,_,_,v8,rfl,rfl,SqL.of (K8 _ _ e7 nl),qQ au,?_⟩;subst aS;refine⟨_,rfl,rfl,_,rfl,qo (by decide) ?_⟩
  refine⟨_,rfl,rfl,_,rfl,qo (by decide) ?_⟩
  exact ah _ _ _ _ H8 P8 ((Kept.of S7).trans K8) ((i1.mono S7.tk).mono I) (i8.mono I) ⟨⟨u,d,rfl,hd⟩,oth_ok en (uT ab)⟩
 refine⟨_,rfl,rfl,_,rfl,ite2 (fun c4=> ?_) (fun c4=> ?_)⟩
 ·have aT:=aL c4;refine⟨three,fun l M=> ?_⟩;have R:=qb M (.lst [.str "thing",.str "has",.str "names"]);have e7:upd Y l (.lst [.str "thing",.str "has",.str "names"]) l=some (.lst [.str "thing",.str "has",.str "names"]):=qg;generalize upd Y l (.lst [.str "thing",.str "has",.str "names"])=G7 at*;have P7:=P3.same R;have nl:l≠p:=fun z=>by
   obtain⟨x,e,_⟩:=P7;rw [<-z,e7] at e;injection e with e
   injection e with e
   have h1:(3:Nat)=1:=congrArg List.length e;omega
  refine⟨_,rfl,p,3,rfl,P7,by decide,by decide,fun d3 H8 f0 f1 P8 K8 _=> ?_⟩
  have I:=P7.tk P8 K8;obtain⟨z,hz,aU⟩:∃z:Str,atI [V.str "thing",V.str "has",V.str "names"] d3=some (.str z)/\z.length<=100:=by
   obtain⟨k,rfl⟩:∃k:Fin 3,d3=((k.val:Nat):Int):=⟨⟨d3.toNat,by omega⟩,by simp;omega⟩
   match k with
   |0=>exact⟨_,rfl,by decide⟩
   |1=>exact⟨_,rfl,by decide⟩
   |2=>exact⟨_,rfl,by decide⟩
  refine⟨l,_,_,_,rfl,rfl,SqL.of (K8 _ _ e7 nl),hz,?_⟩;have aV:=(i1.mono R.tk).mono I;refine⟨_,rfl,.inr (.inl (QF (i:=1) (d:=d) aV (qQ (j:=1) rfl) fun y2 aC=>⟨two,fun l2 O=> ?_⟩))⟩;have m1:=e3 (u1:= .non) O (show Is H8 (.str z) (.str z) from⟨rfl,qS (by omega)⟩) aC
  have q2:=qb O (.tup [.str z,y2]);subst aT;refine⟨_,rfl,rfl,_,rfl,qo (by decide) ?_⟩
  exact ah _ _ _ _ _ (P8.same q2) ((Kept.of R).trans (K8.trans (Kept.of q2))) m1 (((i2.mono R.tk).mono I).mono q2.tk) ⟨⟨z,d,rfl,hd⟩,ac⟩
 refine⟨_,rfl,rfl,_,rfl,ite2 (fun c5=> ?_) (fun c5=> ?_)⟩
 ·have aW:=av _ _ hL aD;refine⟨_,rfl,.inr (.inl (QF (i:=0) (d:= .str u) i1 (qQ (j:=0) rfl) fun y2 aC=> ?_))⟩;refine⟨_,rfl,_,rfl,p,8,rfl,P3,by decide,by decide,fun d3 H8 f0 f1 P8 K8 _=> ?_⟩
  have I:=P3.tk P8 K8;obtain⟨z,hz,_,aU⟩:=nms_at f0 f1;refine⟨L,_,_,_,rfl,rfl,SqL.of (K8 _ _ aW aD),hz,two,fun l2 O=> ?_⟩;have m1:=e3 (u1:= .non) O (aC.mono I) (show Is H8 (.str z) (.str z) from⟨rfl,qS (by omega)⟩)
  have q2:=qb O (.tup [y2,.str z]);exact ah _ _ _ _ _ (P8.same q2) (K8.trans (Kept.of q2)) m1 ((i2.mono I).mono q2.tk) ⟨⟨u,.str z,rfl,rfl⟩,ac⟩
 ·exact ah _ _ _ _ Y P3 (Kept.refl _ _) i1 i2 aK
theorem Jc {rs:List Rw}{own:Str}{r:Rn}{p:D×D}{ps:List (D×D)}:goP rs own r (p::ps)=if okP r p=true then((goP rs own (ansS rs own r p.2) ps).1+1,(goP rs own (ansS rs own r p.2) ps).2) else(0,r):=rfl
theorem okP_th {rs:List Rw}{r:Rn}{p:D×D}(I:RnOk rs r)(h:okP r p=true):r.th= .tup [.str "asks",p.1]/\qZ r.th=true/\jI p.2:=by
 unfold okP at h;rw [um] at h;have e:=(Xm (Yg I.gd.1)).mp h.1;exact⟨e,by rw [e];simp [qZ],Xt h.2⟩
theorem goP_ok {rs:List Rw}{own:Str}(I:QA rs):∀(ps:List (D×D)) (r:Rn),RnOk rs r->RnOk rs (goP rs own r ps).2
 | [],r,h=>h
 |p::ps,r,h=>by
  rw [Jc];by_cases c:okP r p=true
  ·rw [if_pos c];obtain⟨_,L,ha⟩:=okP_th h c;exact goP_ok I ps _ (ansS_ok I h L ha)
  ·rw [if_neg c];exact h
theorem does_due {rs:List Rw}{own:Str}{ps:List (D×D)}{es:List D}(O:QA rs)(Y:EndOk es):doesB rs own ps es=dueB rs own ps es:=by
 unfold doesB dueB;have R:=goP_ok (own:=own) O ps (qI rs own []) (ye O (as:= []) (fun a h=>by simp at h))
 generalize goP rs own (qI rs own []) ps=U at R⊢;obtain⟨w,e,rfl,Z,_⟩:=Y;obtain⟨w2,e2,L⟩:=R.two;cases I:qZ U.2.th with
 |false=>rfl
 |true=>
  have e3:eqN U.2.th (.tup [.str w,e])=false:=by
   rw [L] at I⊢;have:w2="asks":=by simpa [qZ] using I
   subst this;have M:(("asks":Str)==w)=false:=by
    rw [beq_eq_false_iff_ne];exact fun h=>Z h.symm
   simp only [eqN,eqNL,M,U0]
  rw [e3]
  rfl
theorem goP_snoc {rs:List Rw}{own:Str}{p:D×D}:∀(ps:List (D×D)) (r:Rn),(goP rs own r ps).1=ps.length->okP (goP rs own r ps).2 p=true->goP rs own r (ps++ [p])=(ps.length+1,ansS rs own (goP rs own r ps).2 p.2)
 | [],r,_,h=>by
  show goP rs own r [p]=_;rw [Jc,if_pos (show okP r p=true from h)]
  rfl
 |q::ps,r,h1,h2=>by
  rw [Jc] at h1 h2;rw [U9,Jc];by_cases c:okP r q=true
  ·rw [if_pos c] at h1 h2⊢;have I:(goP rs own (ansS rs own r q.2) ps).1=ps.length:=by simpa using h1
   rw [goP_snoc ps _ I h2];rw [Jc,if_pos c]
   rfl
  ·rw [if_neg c] at h1;simp at h1
theorem run_pairs {rs:List Rw}{own:Str}(Z:QA rs):∀(n:Nat) (as:List D),as.length=n->Val rs own as->∃ps:List (D×D),(qI rs own as).gs=ps.map prD/\(∀x∈ps,PrOk x)/\ps.length=as.length/\goP rs own (qI rs own []) ps=(as.length,qI rs own as)
 |0,as,hl,h=>by
  have e:as= []:=uC hl;subst e;exact⟨[],gs0,fun x L=>by simp at L,rfl,rfl⟩
 |n+1,as,hl,h=>by
  obtain⟨bs,an,rfl⟩:∃bs a,as=bs++ [a]:=by
   rcases vX as with e|⟨bs,a,e⟩
   ·rw [e] at hl;cases hl
   ·exact⟨bs,a,by rw [e,vY]⟩
  have O:bs.length=n:=by rw [ug] at hl;simpa using hl
  obtain⟨hb,u,d,I,ha⟩:=h.last;obtain⟨ps,g1,g2,R,U⟩:=run_pairs Z n bs O hb;have hO:=ye (own:=own) Z hb.ok;have hok:okP (qI rs own bs) (.tup [.str u,d],an)=true:=by
   unfold okP;have e1:eqN (qI rs own bs).th (.tup [.str "asks",.tup [.str u,d]])=true:=(Xm (Yg hO.gd.1)).mpr I;rw [e1];exact ha
  obtain⟨_,_,_,u1,d1,M,aa,Y⟩:=hO.ask (wt I);have ed:d=d1:=by
   rw [I] at M;injection M with e
   injection e with _ e
   injection e with e _
   injection e with e
   injection e with _ e
   injection e
  refine⟨ps++ [(.tup [.str u,d],an)],?_,fun x L=> ?_,?_,?_⟩
  ·rw [gs_snoc an (wt I),g1,uF,I]
   rfl
  ·rcases List.mem_append.mp L with L|L
   ·exact g2 x L
   ·rw [vA] at L;subst L;exact⟨⟨u,d,rfl,by rw [ed];exact Yg (QP Y)⟩,Xt ha⟩
  ·rw [ug,ug,R]
   rfl
  ·rw [goP_snoc ps _ (by rw [U];exact R.symm) (by rw [U];exact hok),U,jf an (wt I),ug,R]
   rfl
def sp_right:Sp:=fun vs H Q _=>∃(p L:Addr) (v:V) (own:Str) (rs:List Rw),vs= [.ref p,v,.str own,.ref L]/\Qz H p/\H L=some (.lst (NMS.map V.str))/\Is H (QY rs) v/\QA rs/\nm own=true/\own.length<=100/\∀H',Kept p H H'->Q (.bl true) H'
theorem isl_rep {H:Hp}{d:D}{v:V}(h:Is H d v):∀n:Nat,L2.IsL H (List.replicate n d) (List.replicate n v)
 |0=>rfl
 |n+1=>⟨v,_,rfl,h,isl_rep h n⟩
theorem PrOk.nd {x:D×D}(h:PrOk x):nD x.1=true:=by
 obtain⟨⟨u,d,e,hd⟩,_⟩:=h;rw [e];simp only [nD,nL,hd,vk]
theorem EndOk.nd {es:List D}(h:EndOk es):nL es=true:=by
 obtain⟨u,d,e,_,hd⟩:=h;rw [e];simp only [nD,nL,hd,vk]
theorem kit_bb {K:PySem.W.Frag}:PySem.W.kitOne K (.type "bool") (.type "bool")=some true:=Zo (by decide)
theorem rep_is {K:PySem.W.Frag}{H:Hp}{v:V}{d:D}{n:Nat}{k:Int}{Q:VK}(O:Is H (.tup [d]) v)(R:k=(n:Int))(hn:n<=1000)(q:∀u H',Same H H'->Is H' (.tup (List.replicate n d)) u->Q u H'):rRepG K v (.int k) H Q:=by
 subst R;obtain⟨p,vs,rfl,I,w,r,rfl,L,U⟩:=O;cases(show r= [] from U)
 refine⟨p,(n:Int),[w],rfl,rfl,SqT.of I,(by simp),by omega,by omega,?_,fun h=> ?_,fun h l M=> ?_⟩
 ·show 1*(n:Int).toNat<=sizeLine;exact uK (show _<=1000 by omega) (by decide)
 ·have:n=1:=by omega
  subst this;exact q _ _ (Same.refl _) ⟨p,[w],rfl,I,w,[],rfl,L,rfl⟩
 ·have e:(List.replicate (n:Int).toNat [w]).flatten=List.replicate n w:=by simp
  rw [e];exact q _ _ (qb M _) (Is.new (isl_rep L n) M)
theorem ok_right (T:Tx K mg a)(C:Fx K w mg g a):FnOk P w K mg base CX0 28 a.XL a.xQ ["pot","rule","own","names"] sp_right:=by
 have qF:=YR (P:=P) (w:=w) (base:=base) T;have Jm:=ok_lgo (P:=P) (w:=w) (base:=base) T;have I:=ok_lans (P:=P) (w:=w) (base:=base) T;have R:=ok_repl (P:=P) (w:=w) (base:=base) T C;have Z:=ok_does (P:=P) (w:=w) (base:=base) T C;have Y:=ok_due (P:=P) (w:=w) (base:=base) T;have O:=ok_other (P:=P) (w:=w) (base:=base) T;refine T.g_law_right.F.ok qX () (fun _ _ _ _ H _ Q E hr h=> ?_)
 obtain⟨p,L,v,own,rs,rfl,hP,hL,hv,hR,au,ad,k⟩:=h;refine⟨_,(@qc _ _ _ _ _ (@qx _ _ (4) _ _ _ _ qX.nd rfl (Or.inl rfl) (@qD _ _ _ _ _ qe) () ()) (@qc _ _ _ _ _ (@js _ _ _ _ _ _ _ _ uX rfl (@yf _ _ _ _ _ _ () T.Yn (@qa _ _ _ _ _ (@qO _ _ _ _ _ _ _ _ zU (@qt _ _ _ _ _ _ _ _ _ _ _ _ _ _ _ _ qF (hr.mono ()) () T.g_law_take.m T.g_law_take.F.kp T.g_law_take.b .nil qK (@qa _ _ _ _ _ (pv 0) (@qa _ _ _ _ _ qh qe ()) ()) () () ()) (@qG _ _ _ _ _ _ _ qP (@Qo _ _ _ _ (@qa _ _ _ _ _ qh (@qa _ _ _ _ _ qh qe ()) ())) (@qR _ _ _ _ _ _ _ _ _ call_int1 () T.z_int boot_int (@qa _ _ _ _ _ (@Qs _ _ _ _ _ _ _ _ xo (@qj _ _ _ _ _ _ _ _ _ qE () T.Qy uv (@qa _ _ _ _ _ (pv 1) qe ()) () () () ()) qh (qu _)) qe ()) () () () ()) (fun _ _=>rfl))) qe ()) ()) (@qN _ _ (5) _ qX.nd rfl (Or.inl rfl) ()) (@qc _ _ _ _ _ (@Xf _ _ _ _ _ _ (@qt _ _ _ _ _ _ _ _ _ _ _ _ _ _ _ _ Jm (hr.mono ()) () T.g_law_go.m T.g_law_go.F.kp T.g_law_go.b .nil qK (@qa _ _ _ _ _ (pv 1) (@qa _ _ _ _ _ (pv 2) (@qa _ _ _ _ _ (pv 4) qe ()) ()) ()) () () ()) (@XA _ _ _ _ _ _ rfl (Ql (@qN _ _ (6) _ qX.nd rfl (Or.inl rfl) ()) (Ql (@qN _ _ (7) _ qX.nd rfl (Or.inl rfl) ()) (Ql (@qN _ _ (8) _ qX.nd rfl (Or.inl rfl) ()) Y2))) () ()) () () ()) (@qf _ _ _ (@qH _ _ _ _ _ _ _ _ (@qk _ _ _ _ _ _ _ _ Qh (@qG _ _ _ _ _ _ _ qT (pv 7) qh (fun _ _=>rfl)) qi (qu _)) (@qf _ _ _ (@qx _ _ (4) _ _ _ _ qX.nd rfl (Or.inl rfl) (@qO _ _ _ _ _ _ _ _ yL (pv 4) (@qD _ _ _ _ _ (@qa _ _ _ _ _ (@qt _ _ _ _ _ _ _ _ _ _ _ _ _ _ _ _ I (hr.mono ()) () T.g_law_answer.m T.g_law_answer.F.kp T.g_law_answer.b .nil qK (@qa _ _ _ _ _ (pv 0) (@qa _ _ _ _ _ (@qG _ _ _ _ _ _ _ qT (pv 7) qh (fun _ _=>rfl)) (@qa _ _ _ _ _ (pv 3) qe ()) ()) ()) () () ()) qe ()))) () ())) qp))) ()) (@qc _ _ _ _ _ (@qx _ _ (9) _ _ _ _ qX.nd rfl (Or.inl rfl) (@QC _ _ _ _ _ _ _ _ _ _ yO (@qt _ _ _ _ _ _ _ _ _ _ _ _ _ _ _ _ Jm (hr.mono ()) () T.g_law_go.m T.g_law_go.F.kp T.g_law_go.b .nil qK (@qa _ _ _ _ _ (pv 1) (@qa _ _ _ _ _ (pv 2) (@qa _ _ _ _ _ (pv 4) qe ()) ()) ()) () () ()) QT (@QR _ _ _ qh)) () ()) (@qc _ _ _ _ _ (@qx _ _ (10) _ _ _ _ qX.nd rfl (Or.inl rfl) qh () ()) (@qc _ _ _ _ _ (@qH _ _ _ _ _ _ _ _ (@qk _ _ _ _ _ _ _ _ op_ne (@qG _ _ _ _ _ _ _ qT (@qG _ _ _ _ _ _ _ qT (pv 9) qh (fun _ _=>rfl)) qh (fun _ _=>rfl)) qi (qu _)) (@qf _ _ _ (@qx _ _ (10) _ _ _ _ qX.nd rfl (Or.inl rfl) (@qt _ _ _ _ _ _ _ _ _ _ _ _ _ _ _ _ qF (hr.mono ()) () T.g_law_take.m T.g_law_take.F.kp T.g_law_take.b .nil qK (@qa _ _ _ _ _ (pv 0) (@qa _ _ _ _ _ qh qe ()) ()) () () ()) () ())) qp) (@qc _ _ _ _ _ (@qH _ _ _ _ _ _ _ _ (@qk _ _ _ _ _ _ _ _ (@op_neR _ hr.units) (@qt _ _ _ _ _ _ _ _ _ _ _ _ _ _ _ _ R (hr.mono ()) () T.g_replayed.m T.g_replayed.F.kp T.g_replayed.b .nil qK (@qa _ _ _ _ _ (pv 1) (@qa _ _ _ _ _ (pv 2) (@qa _ _ _ _ _ (@qO _ _ _ _ _ _ _ _ yL (pv 4) (@qO _ _ _ _ _ _ _ _ op_repG (@qD _ _ _ _ _ (@qa _ _ _ _ _ qi qe ())) (pv 10))) qe ()) ()) ()) () () ()) (@qO _ _ _ _ _ _ _ _ yL (pv 9) (@qD _ _ _ _ _ (@qa _ _ _ _ _ (pv 10) qe ()))) (qu _)) (@qf _ _ _ (@ql _ _ _ _ yP)) qp) (@qc _ _ _ _ _ (@qH _ _ _ _ _ _ _ _ (@qk _ _ _ _ _ _ _ _ Qh (@qG _ _ _ _ _ _ _ qT (@qG _ _ _ _ _ _ _ qT (pv 9) qh (fun _ _=>rfl)) qh (fun _ _=>rfl)) qi (qu _)) (@qf _ _ _ (@qx _ _ (9) _ _ _ _ qX.nd rfl (Or.inl rfl) (@qD _ _ _ _ _ (@qa _ _ _ _ _ (@qG _ _ _ _ _ _ _ qT (pv 9) qh (fun _ _=>rfl)) (@qa _ _ _ _ _ (@qD _ _ _ _ _ (@qa _ _ _ _ _ qi (@qa _ _ _ _ _ qi qe ()) ())) qe ()) ())) () ())) (@qf _ _ _ (@qH _ _ _ _ _ _ _ _ (@qk _ _ _ _ _ _ _ _ op_isnotB (@qt _ _ _ _ _ _ _ _ _ _ _ _ _ _ _ _ Z (hr.mono ()) () T.g_does.m T.g_does.F.kp T.g_does.b .nil qK (@qa _ _ _ _ _ (pv 1) (@qa _ _ _ _ _ (pv 2) (@qa _ _ _ _ _ (pv 9) qe ()) ()) ()) () () ()) yP (qu _)) (@qf _ _ _ (@ql _ _ _ _ yP)) qp))) (@qc _ _ _ _ _ (@js _ _ _ _ _ _ _ _ uX rfl (@yf _ _ _ _ _ _ () T.Yn (@qa _ _ _ _ _ qh qe ()) ()) (@qN _ _ (5) _ qX.nd rfl (Or.inl rfl) ()) (@qc _ _ _ _ _ (@qx _ _ (11) _ _ _ _ qX.nd rfl (Or.inl rfl) (@qt _ _ _ _ _ _ _ _ _ _ _ _ _ _ _ _ O (hr.mono ()) () T.g_law_other.m T.g_law_other.F.kp T.g_law_other.b .nil qK (@qa _ _ _ _ _ (pv 0) (@qa _ _ _ _ _ (pv 9) (@qa _ _ _ _ _ (pv 3) qe ()) ()) ()) () () ()) () ()) (@qc _ _ _ _ _ (@qx _ _ (12) _ _ _ _ qX.nd rfl (Or.inl rfl) (@qt _ _ _ _ _ _ _ _ _ _ _ _ _ _ _ _ Z (hr.mono ()) () T.g_does.m T.g_does.F.kp T.g_does.b .nil qK (@qa _ _ _ _ _ (pv 1) (@qa _ _ _ _ _ (pv 2) (@qa _ _ _ _ _ (pv 11) qe ()) ()) ()) () () ()) () ()) (@qf _ _ _ (@qH _ _ _ _ _ _ _ _ (@y0 _ _ _ _ _ _ _ (@Qk _ _ _ _ (@qV _ _ _ (@qj _ _ _ _ _ _ _ _ _ (@qz _ _ rfl) () T.qv uz (@qa _ _ _ _ _ (pv 12) (@qa _ _ _ _ _ (@qY _ _ (.ty "bool") _ _ () T.z_bool boot_bool rfl () ()) qe ()) ()) () () () ()) ())) (@yr _ _ _ _ (@qk _ _ _ _ _ _ _ _ op_ne (pv 12) (@qt _ _ _ _ _ _ _ _ _ _ _ _ _ _ _ _ Y (hr.mono ()) () T.g_law_due.m T.g_law_due.F.kp T.g_law_due.b .nil qK (@qa _ _ _ _ _ (pv 1) (@qa _ _ _ _ _ (pv 2) (@qa _ _ _ _ _ (pv 11) qe ()) ()) ()) () () ()) (qu _)))).pt (@qf _ _ _ (@ql _ _ _ _ yP)) qp)))) ()) (@qf _ _ _ (@ql _ _ _ _ yP)))))))))),?_⟩
 dsimp only [cxOf,Cx.nox];have n1:=hR.n1;have one:(1:Nat)<=sizeLine:=by decide
 have two:(2:Nat)<=sizeLine:=by decide
 have big:∀{j:Nat},j<=1001->j<=sizeLine:=fun h=>uK h (by decide)
 have aw:L≠p:=fun z=>by
  obtain⟨x,e,_⟩:=hP;rw [<-z,hL] at e;injection e with e
  injection e with e
  have h1:(8:Nat)=1:=congrArg List.length e;omega
 refine⟨(by show 0<=sizeLine;decide),fun l0 aJ=> ?_⟩
 have s0:=qb aJ (.tup []);have i0:Is (upd H l0 (.tup [])) (.tup []) (.ref l0):=Is.new (ds:= []) rfl aJ;generalize upd H l0 (.tup [])=H0 at s0 i0⊢;have P0:=hP.same s0;refine⟨_,rfl,p,6,rfl,P0,by decide,by decide,fun d1 H1 a0 a1 P1 K1 _=> ?_⟩
 have aY:=hv.mono (s0.tk.trans (P0.tk P1 K1));have aZ:=aY;obtain⟨ta,us,rfl,a2,iu⟩:=aZ;have bu:us.length=rs.length:=by rw [iu.length,uf]
 refine⟨two,fun t1 h1=> ?_⟩;have s1:=qb h1 (.lst [.int 1,.int 7]);have e1:upd H1 t1 (.lst [.int 1,.int 7]) t1=some (.lst [.int 1,.int 7]):=qg;generalize upd H1 t1 (.lst [.int 1,.int 7])=H2 at s1 e1⊢;have P2:=P1.same s1;have a3:Kept p H H2:=(Kept.of s0).trans (K1.trans (Kept.of s1));refine⟨_,rfl,ta,us,rfl,.inr (SqT.of (s1 _ _ a2)),_,_,rfl,rfl,.inr ⟨_,rfl,?_⟩⟩;obtain⟨f,hf,f0,f1⟩:∃f:Int,atI [V.int 1,V.int 7] (if decide ((13:Int)<(us.length:Int))=true then 1 else 0)=some (.int f)/\0<=f/\f<=7:=by
  split
  ·exact⟨7,rfl,by decide,by decide⟩
  ·exact⟨1,rfl,by decide,by decide⟩
 refine⟨t1,_,_,_,rfl,rfl,SqL.of e1,hf,d1,f,rfl,rfl,(.inr ⟨by omega,by omega⟩),?_⟩
 obtain⟨nk,a4,bt⟩:∃nk:Nat,d1*f=(nk:Int)/\nk<=42:=by
  have h1:0<=d1*f:=Int.mul_nonneg a0 f0;have h2:d1*f<=6*7:=Int.mul_le_mul (by omega) f1 f0 (by decide)
  exact⟨(d1*f).toNat,by omega,by omega⟩
 refine⟨(nk:Int),congrArg (fun z=> [V.int z]) a4,by omega,by omega,?_⟩
 have a5:Tk H0 H2:=(P0.tk P1 K1).trans s1.tk;have ap:∀{as:List D}{la:Addr}{av:List V}{H':Hp}{Q':VK},Val rs own as->Qz H' p->Kept p H H'->H' la=some (.tup av)->L2.IsL H' as av->(∀(u:V) (H4:Hp),Same H' H4->Is H4 (.tup [.tup (qI rs own as).gs,(qI rs own as).th,.int ((qI rs own as).n:Int)]) u->Q' u H4)->sp_lgo [.ref ta,.str own,.ref la] H' Q' E0:=fun{as la av H' Q'} hA P' K' aa ab q=>by
  have:=hA.le hR;refine⟨.ref ta,own,la,rs,as,av,rfl,.inr aa,ab,hA.ok,by omega,hv.mono (hP.tk P' K'),hR,ad,fun u4 H4 s4 i4=>q u4 H4 s4 ?_⟩
  rw [Xh] at i4;exact i4
 have ae:∀wd:Str,decide (V.str wd=V.str ("asks":Str))=decide (wd="asks"):=fun wd=>by
  rw [uB];exact⟨fun h=>by injection h,fun h=>by rw [h]⟩
 let J1_:Nat->L2.St->Hp->Prop:=fun i σ H'=>∃(as:List D) (u:V) (x5 x6 x7 x8:Option V),σ= [some (.ref p),some (.ref ta),some (.str own),some (.ref L),some u,x5,x6,x7,x8,none,none,none,none]/\Val rs own as/\Is H' (.tup as) u/\Qz H' p/\Kept p H H'
 refine Ya (n:=nk) J1_ ⟨[],_,_,_,_,_,rfl,Val.nil,i0.mono a5,P2,a3⟩ ?_ ?_
 ·rintro i σ H' hi ⟨as,u,x5,x6,x7,x8,rfl,hA,ac,P',K'⟩;have a6:=hA.le hR;have hO:=ye (own:=own) hR hA.ok;obtain⟨wd,ed,M⟩:=hO.two;obtain⟨la,av,rfl,aa,ab⟩:=id ac;refine⟨_,rfl,_,rfl,_,rfl,ap hA P' K' aa ab fun u4 H4 s4 i4=> ?_⟩;obtain⟨p4,bv,rfl,e4,z1,r1,rfl,l1,z2,r2,rfl,l2,z3,r3,rfl,l3,l4⟩:=i4;cases(show r3= [] from l4)
  have P4:=P'.same s4;have K4:=K'.trans (Kept.of s4);refine⟨p4,_,rfl,SqT.of e4,rfl,_,_,rfl,_,_,rfl,_,_,rfl,rfl,?_⟩;have a7:Is H4 (.tup [.str wd,ed]) z2:=by rw [<-M];exact l2
  refine⟨_,rfl,?_⟩;unfold tC;refine QF (i:=0) (d:= .str wd) a7 (qQ (j:=0) rfl) fun q5 ak=> ?_;obtain⟨rfl,_⟩:=ak;refine⟨rfl,_,rfl,?_⟩;rw [ae];by_cases cw:wd="asks"
  ·refine qC (u7 cw) ?_;obtain⟨_,_,_,uu,d,eu,hu,hd⟩:=hO.ask (by rw [M,cw];rfl)
   have a8:Is H4 (.tup [.str "asks",.tup [.str uu,d]]) z2:=by rw [<-eu];exact l2
   refine⟨_,rfl,_,rfl,_,rfl,QF (i:=1) (d:= .tup [.str uu,d]) a8 (qQ (j:=1) rfl) fun q6 ax=> ?_⟩;refine⟨_,rfl,p,L,q6,uu,d,rfl,P4,K4 _ _ hL aw,ax,hu,fun x an H5 ha ix P5 K5=>⟨one,fun t5 h5=> ?_⟩⟩;have a9:=P4.tk P5 K5;have s5:=qb h5 (.tup [x]);refine Xn (ds:=as) (es:= [an]) (((ac.mono s4.tk).mono a9).mono s5.tk) (Is.new (IsL.one ix) h5) (big (by simp;omega)) fun z H6 s6 i6=> ?_
   have aK:=s5.trans s6;exact⟨_,z,_,_,_,_,rfl,hA.snoc eu ha.b,i6,P5.same aK,K4.trans (K5.trans (Kept.of aK))⟩
  ·refine qo (uc cw) ?_;exact⟨as,_,_,_,_,_,rfl,hA,ac.mono s4.tk,P4,K4⟩
 ·rintro σ H' ⟨as,u,x5,x6,x7,x8,rfl,hA,ac,P',K'⟩;have a6:=hA.le hR;have hO:=ye (own:=own) hR hA.ok;obtain⟨wd,ed,M⟩:=hO.two;obtain⟨ps,aL,aM,bw,bb⟩:=run_pairs (own:=own) hR _ as rfl hA;obtain⟨la,av,rfl,aa,ab⟩:=id ac;refine⟨_,rfl,_,rfl,_,rfl,ap hA P' K' aa ab fun u4 H4 s4 i4=> ?_⟩;refine⟨_,rfl,?_⟩;refine sl_to (n:=2) i4 (by show 2<=3;decide) fun u5 H5 s5 i5=> ?_
  have i5:Is H5 (.tup [.tup (qI rs own as).gs,(qI rs own as).th]) u5:=i5;have S5:=s4.trans s5;have P5:=P'.same S5;have K5:=K'.trans (Kept.of S5);have aN:=ac.mono S5.tk;have bc:qZ (qI rs own as).th=decide (wd="asks"):=by rw [M];rfl
  clear i4 s4 s5 S5 ab aa;have hx:∀{H3:Hp},Is H3 (.str "x") (.str "x"):=fun{H3}=>⟨rfl,qS (by decide)⟩
  have aO:∀i:Int,nL [.tup (qI rs own as).gs,(qI rs own as).th,.int i]=true/\dpL [.tup (qI rs own as).gs,(qI rs own as).th,.int i]<=60:=fun i=>by
   have h1:=hO.gs.2.1;have h2:=hO.gd.2;refine⟨by simp only [nL,nD,hO.gs.1,Yg hO.gd.1,vk],?_⟩
   simp only [dpL,dp];omega
  have aP:nD ed=true:=by
   have:=Yg hO.gd.1;rw [M] at this;simp only [nD,nL,vk,vp] at this;exact this
  show tSeq _ _ _ _ H5;refine jt fun N0 ay=>ay _ _ ?_;refine jt fun N1 bd=>bd _ _ ?_;refine jt fun N2 be=> ?_;have aQ:∀(n:Nat) (kv:Int) (H6:Hp),kv=(n:Int)->n<=2->(n=0∨qZ (qI rs own as).th=false)->Is H6 (.tup [.tup (qI rs own as).gs,(qI rs own as).th]) u5->Is H6 (.tup as) (.ref la)->Qz H6 p->Kept p H H6->N2 [some (.ref p),some (.ref ta),some (.str own),some (.ref L),some (.ref la),x5,x6,x7,x8,some u5,some (.int kv),none,none] H6:=by
   intro n kv H6 hk bx hm i6 bf P6 K6;refine be _ _ ?_;refine⟨_,rfl,_,rfl,_,rfl,?_⟩;refine⟨one,fun t6 h6=>⟨_,rfl,?_⟩⟩;have q6:=qb h6 (.tup [.str "x"]);refine rep_is (d:= .str "x") (Is.new (IsL.one hx) h6) hk (by omega) fun xv H7 s7 i7=> ?_
   have S7:=q6.trans s7;refine Xn (bf.mono S7.tk) i7 (big (by rw [Uk];omega)) fun bg H8 s8 i8=> ?_
   have S8:=S7.trans s8;have K8:=K6.trans (Kept.of S8);have P8:=P6.same S8;unfold tNil;refine⟨.ref ta,bg,own,rs,as,List.replicate n (.str "x"),rfl,hv.mono (hP.tk P8 K8),hR,au,ad,i8,hA,?_,fun u9 H9 s9 i9=> ?_⟩
   ·rcases hm with rfl|h
    ·exact .inl rfl
    ·exact .inr h
   rw [Uk,<-hk] at i9;have S9:=S8.trans s9;have aR:=i6.mono S9.tk;refine⟨_,rfl,_,rfl,one,fun t9 h9=> ?_⟩;have q9:=fun o=>qb h9 o;refine Xn (ds:= [.tup (qI rs own as).gs,(qI rs own as).th]) (es:= [.int _]) (aR.mono (q9 _).tk) (Is.new (IsL.one rfl) h9) (big (by show 2+1<=1001;decide)) fun z aS al aT=> ?_
   have aA:=(q9 _).trans al;refine⟨[.tup (qI rs own as).gs,(qI rs own as).th,.int _],i9.mono aA.tk,aT,(aO _).1,(aO _).2,_,rfl,iteF ?_⟩;have am:=S9.trans aA;have aB:=P6.same am;have aC:=K6.trans (Kept.of am);have U:=i6.mono am.tk;clear aT i9 i8 i7 q6 S7 s7 s8 S8 P8 K8 s9 S9 q9 al aA h9 h6 am aR;show tSeq _ _ _ _ aS;refine jt fun N0 ay=>ay _ _ ?_;refine jt fun N3 bh=> ?_;have aq:∀(rv:V) (es:List D) (Hr:Hp),Is Hr (.tup [.tup (ps.map prD),.tup es]) rv->EndOk es->Qz Hr p->Kept p H Hr->N3 [some (.ref p),some (.ref ta),some (.str own),some (.ref L),some (.ref la),x5,x6,x7,x8,some rv,some (.int kv),none,none] Hr:=by
    intro rv es Hr ir ao Pr Kr;refine bh _ _ ?_;refine⟨6,rfl,by decide,by decide,?_⟩
    let J2_:Nat->L2.St->Hp->Prop:=fun i σ H'=>∃(y5 aD aE aF:Option V),σ= [some (.ref p),some (.ref ta),some (.str own),some (.ref L),some (.ref la),y5,x6,x7,x8,some rv,aD,aE,aF]/\Is H' (.tup [.tup (ps.map prD),.tup es]) rv/\Qz H' p/\Kept p H H'
    refine Ya (n:=6) J2_ ⟨_,_,_,_,rfl,ir,Pr,Kr⟩ ?_ ?_
    ·rintro i σ H' hi ⟨y5,aD,aE,aF,rfl,ir,Pr,Kr⟩;refine⟨_,rfl,_,rfl,_,rfl,p,L,rv,ps,es,rfl,Pr,Kr _ _ hL aw,aw,ir,aM,by omega,ao,fun u8 aU aV H8 af bA ag i8 P8 K8=> ?_⟩
     have aG:=Kr.trans K8;refine⟨_,rfl,_,rfl,_,rfl,.ref ta,u8,own,rs,aU,aV,rfl,hv.mono (hP.tk P8 aG),hR,au,ad,i8,(fun x hx=>(af x hx).nd),ag.nd,fun H9 s9=> ?_⟩;refine⟨_,rfl,_,"bool",_,true,rfl,.bl _,kit_bb,_,rfl,iteF ?_⟩;have bm:=aG.trans (Kept.of s9);have P9:=P8.same s9;refine⟨_,rfl,_,rfl,_,rfl,_,rfl,.ref ta,u8,own,rs,aU,aV,rfl,hv.mono (hP.tk P9 bm),hR,ad,i8.mono s9.tk,(fun x hx=>⟨(af x hx).nd,(af x hx).2⟩),by omega,ag.nd,fun aS al=>⟨rfl,_,rfl,?_⟩⟩
     refine qo (by rw [does_due hR ag];simp) ?_
     have ah:=s9.trans al;exact⟨_,_,_,_,rfl,ir.mono ((Pr.tk P8 K8).trans ah.tk),P8.same ah,aG.trans (Kept.of ah)⟩
    ·rintro σ H' ⟨y5,aD,aE,aF,rfl,ir,Pr,Kr⟩;exact k H' Kr
   refine⟨_,rfl,?_⟩
   try unfold tC
   refine QF (i:=1) (d:=(qI rs own as).th) U (qQ (j:=1) rfl) fun q7 aW=> ?_;rw [M] at aW;refine QF (i:=0) (d:= .str wd) aW (qQ (j:=0) rfl) fun q8 bn=> ?_;obtain⟨rfl,_⟩:=bn;refine⟨rfl,_,rfl,?_⟩;rw [ae];by_cases cw:wd="asks"
   ·refine qC (u7 cw) ?_;refine⟨_,rfl,?_⟩;refine QF (i:=0) (d:= .tup (qI rs own as).gs) U (qQ (j:=0) rfl) fun q9 bo=>⟨two,fun t3 h3=>⟨two,fun t4 h4=> ?_⟩⟩;have q3:=qb h3 (.tup [.str "said",.str "x"]);have aX:=q3.trans (qb h4 (.tup [q9,.ref t3]));refine aq _ [.str "said",.str "x"] _ ?_ ⟨_,_,rfl,by decide+kernel,rfl⟩ (aB.same aX) (aC.trans (Kept.of aX))
    rw [<-aL];exact Is.new (ds:= [.tup (qI rs own as).gs,.tup [.str "said",.str "x"]]) ⟨_,_,rfl,bo.mono q3.tk,_,_,rfl,Is.new (ds:= [.str "said",.str "x"]) ⟨_,_,rfl,⟨rfl,qS (by decide)⟩,_,_,rfl,hx,rfl⟩ h3,rfl⟩ h4
   ·refine qo (uc cw) ?_;rw [aL,M] at U;have ao:EndOk [.str wd,ed]:=⟨_,_,rfl,cw,aP⟩;have bp:doesB rs own ps [.str wd,ed]=true:=by
     unfold doesB;rw [bb,u7 (by show as.length=ps.length;omega),vp]
     show(!qZ (qI rs own as).th&&eqN (qI rs own as).th (.tup [.str wd,ed]))=true;have e1:qZ (qI rs own as).th=false:=by rw [M];exact uc cw
     have e2:eqN (qI rs own as).th (.tup [.str wd,ed])=true:=(Xm (Yg hO.gd.1)).mpr M;rw [e1,e2]
     rfl
    refine⟨_,rfl,_,rfl,_,rfl,.ref ta,u5,own,rs,ps,[.str wd,ed],rfl,hv.mono (hP.tk aB aC),hR,au,ad,U,(fun x hx=>(aM x hx).nd),ao.nd,fun bq aH=>⟨true,rfl,_,rfl,?_⟩⟩;refine qo (by rw [bp];rfl) ?_
    exact aq u5 _ bq (U.mono aH.tk) ao (aB.same aH) (aC.trans (Kept.of aH))
  refine⟨_,rfl,?_⟩;unfold tC;refine QF (i:=1) (d:=(qI rs own as).th) i5 (qQ (j:=1) rfl) fun q5 ak=> ?_;rw [M] at ak;refine QF (i:=0) (d:= .str wd) ak (qQ (j:=0) rfl) fun q6 ax=> ?_;obtain⟨rfl,_⟩:=ax;refine⟨rfl,_,rfl,?_⟩;rw [ae];by_cases cw:wd="asks"
  ·refine qo (by rw [u7 cw];rfl) ?_
   exact aQ 0 0 H5 rfl (by decide) (.inl rfl) i5 aN P5 K5
  ·refine qC (by rw [uc cw];rfl) ?_
   refine⟨_,rfl,p,3,rfl,P5,by decide,by decide,fun d2 H6 b0 b1 P6 aI _=> ?_⟩
   exact aQ d2.toNat d2 H6 (by omega) (by omega) (.inr (by rw [bc];exact uc cw)) (i5.mono (P5.tk P6 aI)) (aN.mono (P5.tk P6 aI)) P6 (K5.trans aI)
end
end K12
namespace K12
open PySem L2 PyProof.Rows
open Builtin.Int (intBits)
def sp_law (K:PySem.W.Frag):Sp:=fun vs H Q _=>∃(q:Addr) (ns:List Int),vs= [.ref q]/\SqL K H q (ns.map V.int)/\ns.length<=63/\(∀x∈ns,intBits x<=MB)/\∀H',Q (.bl true) H'
section
variable {P:Program}{w:World}{K:PySem.W.Frag}{mg:Str->Option Value}{base:Heap}{a:Ad}{g:Ga}
theorem ok_law (T:Tx K mg a)(C:Fx K w mg g a):FnOk P w K mg base CX0 29 a.f_law a.d_law ["script"] (sp_law K):=by
 have I:=ok_lnames (P:=P) (w:=w) (base:=base) T;have Zf:=ok_cell (P:=P) (w:=w) (base:=base) T;have U:=ok_pot (P:=P) (w:=w) (base:=base) T;have qF:=YR (P:=P) (w:=w) (base:=base) T;have O:=ok_rule (P:=P) (w:=w) (base:=base) T;have R:=ok_back (P:=P) (w:=w) (base:=base) T;have M:=ok_right (P:=P) (w:=w) (base:=base) T C;refine T.g_law.F.ok zu () (fun _ _ _ _ H _ Q E Y h=> ?_)
 obtain⟨q,ns,rfl,hS,av,ac,k⟩:=h;refine⟨_,(@qc _ _ _ _ _ (@qx _ _ (1) _ _ _ _ zu.nd rfl (Or.inl rfl) (@pe_call0 _ _ _ _ _ _ _ _ _ _ _ _ _ I (Y.mono ()) () T.g_law_names.m T.g_law_names.F.kp T.g_law_names.b .nil qK ()) () ()) (@qc _ _ _ _ _ (@js _ _ _ _ _ _ _ _ uX rfl (@yf _ _ _ _ _ _ () T.Yn (@qa _ _ _ _ _ (@qO _ _ _ _ _ _ _ _ Qd (@qj _ _ _ _ _ _ _ _ _ (@call_min2 _ rfl) () T.z_min boot_min (@qa _ _ _ _ _ qh (@qa _ _ _ _ _ (@qj _ _ _ _ _ _ _ _ _ qE () T.Qy uv (@qa _ _ _ _ _ (pv 0) qe ()) () () () ()) qe ()) ()) () () () ()) qh) qe ()) ()) (@qN _ _ (2) _ zu.nd rfl (Or.inl rfl) ()) (@qc _ _ _ _ _ (@qx _ _ (3) _ _ _ _ zu.nd rfl (Or.inl rfl) (@qt _ _ _ _ _ _ _ _ _ _ _ _ _ _ _ _ U (Y.mono ()) () T.g_law_pot.m T.g_law_pot.F.kp T.g_law_pot.b .nil qK (@qa _ _ _ _ _ (@qt _ _ _ _ _ _ _ _ _ _ _ _ _ _ _ _ Zf (Y.mono ()) () T.g_law_cell_at.m T.g_law_cell_at.F.kp T.g_law_cell_at.b .nil qK (@qa _ _ _ _ _ (pv 0) (@qa _ _ _ _ _ (pv 2) qe ()) ()) () () ()) (@qa _ _ _ _ _ (@qO _ _ _ _ _ _ _ _ Qd qh (pv 2)) qe ()) ()) () () ()) () ()) (@qc _ _ _ _ _ (@qx _ _ (4) _ _ _ _ zu.nd rfl (Or.inl rfl) (@qt _ _ _ _ _ _ _ _ _ _ _ _ _ _ _ _ O (Y.mono ()) () T.g_law_rule.m T.g_law_rule.F.kp T.g_law_rule.b .nil qK (@qa _ _ _ _ _ (pv 3) (@qa _ _ _ _ _ (pv 1) qe ()) ()) () () ()) () ()) (@qc _ _ _ _ _ (@qH _ _ _ _ _ _ _ _ (@qk _ _ _ _ _ _ _ _ Qh (@qt _ _ _ _ _ _ _ _ _ _ _ _ _ _ _ _ qF (Y.mono ()) () T.g_law_take.m T.g_law_take.F.kp T.g_law_take.b .nil qK (@qa _ _ _ _ _ (pv 3) (@qa _ _ _ _ _ qh qe ()) ()) () () ()) qh (qu _)) (@qf _ _ _ (@qx _ _ (4) _ _ _ _ zu.nd rfl (Or.inl rfl) (@qt _ _ _ _ _ _ _ _ _ _ _ _ _ _ _ _ R (Y.mono ()) () T.g_law_back.m T.g_law_back.F.kp T.g_law_back.b .nil qK (@qa _ _ _ _ _ (pv 3) (@qa _ _ _ _ _ (pv 4) qe ()) ()) () () ()) () ())) qp) (@qf _ _ _ (@qH _ _ _ _ _ _ _ _ (@Qk _ _ _ _ (@qV _ _ _ (@qt _ _ _ _ _ _ _ _ _ _ _ _ _ _ _ _ M (Y.mono ()) () T.g_law_right.m T.g_law_right.F.kp T.g_law_right.b .nil qK (@qa _ _ _ _ _ (pv 3) (@qa _ _ _ _ _ (pv 4) (@qa _ _ _ _ _ (@qG _ _ _ _ _ _ _ qP (pv 1) (@qt _ _ _ _ _ _ _ _ _ _ _ _ _ _ _ _ qF (Y.mono ()) () T.g_law_take.m T.g_law_take.F.kp T.g_law_take.b .nil qK (@qa _ _ _ _ _ (pv 3) (@qa _ _ _ _ _ qh qe ()) ()) () () ()) (fun _ _=>rfl)) (@qa _ _ _ _ _ (pv 1) qe ()) ()) ()) ()) () () ()) ())) (@qf _ _ _ (@ql _ _ _ _ yP)) qp))))) ()) (@qf _ _ _ (@ql _ _ _ _ yP)))),?_⟩
 dsimp only [cxOf,Cx.nox];refine⟨rfl,fun L hL=> ?_⟩;have s1:=qb hL (.lst (NMS.map V.str));have e1:upd H L (.lst (NMS.map V.str)) L=some (.lst (NMS.map V.str)):=qg;generalize upd H L (.lst (NMS.map V.str))=H1 at s1 e1⊢;refine⟨_,rfl,q,_,rfl,.inl (s1.seq hS),_,_,rfl,_,_,rfl,rfl,?_⟩;obtain⟨nk,ah,aw⟩:∃nk:Nat,(if((ns.map V.int).length:Int)<3 then((ns.map V.int).length:Int) else 3)+1=(nk:Int)/\nk<=5:=by
  refine⟨((if((ns.map V.int).length:Int)<3 then((ns.map V.int).length:Int) else 3)+1).toNat,?_,?_⟩<;>split<;>omega
 refine⟨(nk:Int),congrArg (fun z=> [V.int z]) ah,by omega,by omega,?_⟩
 let J1_:Nat->L2.St->Hp->Prop:=fun i σ H'=>∃(x2 x3 x4:Option V),σ= [some (.ref q),some (.ref L),x2,x3,x4]/\Same H H'/\H' L=some (.lst (NMS.map V.str))
 refine Ya (n:=nk) J1_ ⟨_,_,_,rfl,s1,e1⟩ ?_ ?_
 ·rintro i σ H' hi ⟨x2,x3,x4,rfl,sm,eL⟩;rw [show(0:Int)+(i:Int)=(i:Int) by omega]
  refine⟨_,rfl,_,rfl,q,ns,i,rfl,sm.seq hS,ac,fun x hx=>⟨_,rfl,_,_,rfl,rfl,x,_,rfl,hx,by omega,by omega,fun p Hp hp sp Pp=> ?_⟩⟩
  have ak:=sp _ _ eL;refine⟨_,rfl,_,rfl,p,L,rfl,Pp,ak,fun v rs H2 hD iv P2 K2=> ?_⟩;show tSeq _ _ _ _ H2;refine jt fun N0 al=>al _ _ ?_;refine jt fun N hN=> ?_;have ad:∀(v:V) (rs:List Rw) (Z:L2.Hp),Drawn rs->Is Z (QY rs) v->Qz Z p->Kept p Hp Z->N [some (.ref q),some (.ref L),some (.int (i:Int)),some (.ref p),some v] Z:=by
   intro v rs Z aa ab P4 am;refine hN _ _ ?_;refine⟨_,rfl,_,rfl,_,rfl,_,rfl,p,8,rfl,P4,by decide,by decide,fun d7 H7 c0 c1 P7 K7 _=> ?_⟩
   have ae:=am.trans K7;have S7:Same H' H7:=ae.same sp hp;obtain⟨z7,ao,ap,aq⟩:=nms_at c0 c1;refine⟨L,_,_,_,rfl,rfl,SqL.of (S7 _ _ eL),ao,_,rfl,p,L,v,z7,rs,rfl,P7,S7 _ _ eL,ab.mono (P4.tk P7 K7),aa.rule,ap,aq,fun H8 K8=>⟨_,rfl,iteF ?_⟩⟩;have S8:Same H' H8:=(ae.trans K8).same sp hp;exact⟨_,_,_,rfl,sm.trans S8,S8 _ _ eL⟩
  refine⟨_,rfl,p,4,rfl,P2,by decide,by decide,fun d3 H3 a0 a1 P3 K3 _=>⟨rfl,_,rfl,?_⟩⟩
  have af:=iv.mono (P2.tk P3 K3);have ag:=K2.trans K3;refine ite2 (fun c=> ?_) (fun c=> ?_)
  ·exact⟨_,rfl,_,rfl,p,v,rs,rfl,P3,af,hD,fun u au Z aa ab P4 K4=>ad u au Z aa ab P4 (ag.trans K4)⟩
  ·exact ad v rs H3 hD af P3 ag
 ·rintro σ H' ⟨x2,x3,x4,rfl,sm,eL⟩;exact k H'
end
end K12
namespace K12
open PySem L2 PyProof.Rows
theorem tx_mk {K:PySem.W.Frag}{h:Heap}{mg:Str->Option Value}(X:K.In h)(G:h.Ns mainGlobals mg){I f1 f2 f3 f4 f5 f6 f7 f8 f9 af ag ah ak al am ao ap aq au av aw ax ay aA aB aC aD aE aF aG aH aI aJ aK aL aM aN aO aP aQ aR aS aT aU aV aW aX aY aZ a0 a1 a2 a3 a4 a5 a6 a7 a8 a9 bb bc bd:Addr}{t1 t2 t3 t4 t5 t6 t7 t8 t9 be:Tok}
  (ac:PySem.W.nsIn K mainGlobals "Machine"=some (some (.ref I))) (ad:Cls K I) (aa:PySem.W.makesIn K I=true/\PySem.W.keepIn K (.ref I)=true)
  (h1:FZg K "is_text" XC f1)
  (h2:FZg K "is_tree" Jl f2)
  (h3:FZg K "is_name" Xk f3)
  (h4:FZg K "is_row_of_names" ya f4)
  (h5:FZg K "is_answer" jM f5)
  (h6:FZg K "part_of" xD f6)
  (h7:FZg K "pieces_of" jW f7)
  (h8:FZg K "row_of" xt f8)
  (h9:FZg K "read_lines" YT f9)
  (bf:FZg K "rule_rows" jJ af)
  (bg:FZg K "text_made" jP ag)
  (bh:FZg K "self_made" jX ah)
  (bm:FZg K "copy_made" j6 ak)
  (bn:FZg K "row_made" JB al)
  (bo:FZg K "put_made" JW am)
  (bp:FZg K "join_made" j7 ao)
  (bq:FZg K "first_made" Y6 ap)
  (bt:FZg K "rest_made" jR aq)
  (bu:FZg K "size_made" jA au)
  (bv:FZg K "cut_made" JX av)
  (bw:FZg K "glue_made" jO aw)
  (bx:FZg K "is_jump_taken" yJ ax)
  (bA:FZg K "asked_or_fault" yi ay)
  (ae:FZm K I "__init__" "Machine.__init__" yW aA)
  (bB:FZm K I "now" "Machine.now" Yp aB)
  (bC:FZm K I "answer" "Machine.answer" yp aC)
  (bD:FZm K I "asked" "Machine.asked" yC aD)
  (bE:FZm K I "lines" "Machine.lines" Y1 aE)
  (bF:FZm K I "copy" "Machine.copy" jq aF)
  (bG:FZm K I "go_on" "Machine.go_on" yM aG)
  (bH:FZm K I "is_waiting" "Machine.is_waiting" QJ aH)
  (bI:FZm K I "do_row" "Machine.do_row" yn aI)
  (bJ:FZm K I "hold" "Machine.hold" yU aJ)
  (bK:FZg K "replayed" JK aK)
  (bL:FZg K "asks_that_stand" Q6 aL)
  (bM:FZg K "does" s_does aM)
  (bN:FZg K "_law_cell_at" Yt aN)
  (bO:FZg K "_law_pot" xG aO)
  (bP:FZg K "_law_take" JY aP)
  (bQ:FZg K "_law_longer" YH aQ)
  (bR:FZg K "_law_word" J0 aR)
  (bS:FZg K "_law_line" jb aS)
  (bT:FZg K "_law_rule" jc aT)
  (bU:FZg K "_law_back" J1 aU)
  (bV:FZg K "_law_names" j0 aV)
  (bW:FZg K "_law_parts_right" yb aW)
  (bX:FZg K "_law_size" JM aX)
  (bY:FZg K "_law_depth" jY aY)
  (bZ:FZg K "_law_is_tree" Yq aZ)
  (b3:FZg K "_law_is_name" Yk a0)
  (b4:FZg K "_law_next" JG a1)
  (b5:FZg K "_law_cut_or_glued" QZ a2)
  (b6:FZg K "_law_held" JD a3)
  (b7:FZg K "_law_ask" Xp a4)
  (b8:FZg K "_law_go" Zh a5)
  (b9:FZg K "_law_said" Jz a6)
  (ca:FZg K "_law_answer" YG a7)
  (cb:FZg K "_law_fits" JO a8)
  (cc:FZg K "_law_due" xL a9)
  (cd:FZg K "_law_other" jV bb)
  (ce:FZg K "_law_right" jU bc)
  (cf:FZg K "law" s_law bd)
  (U:PySem.W.findIn K (.ref I) "rows"=some none)
  (Y:PySem.W.findIn K (.ref I) "rule"=some none)
  (ab:PySem.W.findIn K (.ref I) "own"=some none)
  (L:PySem.W.findIn K (.ref I) "boxes"=some none)
  (M:PySem.W.findIn K (.ref I) "place"=some none)
  (Z:PySem.W.findIn K (.ref I) "done"=some none)
  (O:PySem.W.findIn K (.ref I) "given"=some none)
  (R:PySem.W.findIn K (.ref I) "there"=some none)
  (g1:PySem.W.nsIn K mainGlobals "MOST_SIGNS"=some (some (.int 300 t1)))
  (g2:PySem.W.nsIn K mainGlobals "MOST_PARTS"=some (some (.int 40 t2)))
  (g3:PySem.W.nsIn K mainGlobals "MOST_SIZE"=some (some (.int 600 t3)))
  (g4:PySem.W.nsIn K mainGlobals "MOST_DEPTH"=some (some (.int 12 t4)))
  (g5:PySem.W.nsIn K mainGlobals "MOST_NAME_SIGNS"=some (some (.int 24 t5)))
  (g6:PySem.W.nsIn K mainGlobals "LETTERS"=some (some (.str "abcdefghijklmnopqrstuvwxyz" t6)))
  (g7:PySem.W.nsIn K mainGlobals "NAME_SIGNS"=some (some (.str "abcdefghijklmnopqrstuvwxyz0123456789./" t7)))
  (g8:PySem.W.nsIn K mainGlobals "PERCENT"=some (some (.int 37 t8)))
  (g9:PySem.W.nsIn K mainGlobals "MOST_LINES"=some (some (.int 40 t9)))
  (cg:PySem.W.nsIn K mainGlobals "MOST_DONE"=some (some (.int 300 be)))
  (zz:∀x∈(["ord","len","isinstance","str","tuple","all","int","range","zip","dict","list","enumerate","abs","min","sum","max","bool"]:List Str),PySem.W.nsIn K mainGlobals x=some none):∃a,Tx K mg a:=by
 obtain⟨d1,F1⟩:=Qf X G h1 ["value"] ()
 obtain⟨d2,F2⟩:=Qf X G h2 ["value"] ()
 obtain⟨d3,F3⟩:=Qf X G h3 ["value"] ()
 obtain⟨d4,F4⟩:=Qf X G h4 ["tree"] ()
 obtain⟨d5,F5⟩:=Qf X G h5 ["ask","answer"] ()
 obtain⟨d6,F6⟩:=Qf X G h6 ["kind","piece","count"] ()
 obtain⟨d7,F7⟩:=Qf X G h7 ["line","form"] ()
 obtain⟨d8,F8⟩:=Qf X G h8 ["line","count"] ()
 obtain⟨d9,F9⟩:=Qf X G h9 ["value"] ()
 obtain⟨ch,ci⟩:=Qf X G bf ["tree"] ()
 obtain⟨cj,ck⟩:=Qf X G bg ["boxes","own","parts"] ()
 obtain⟨cm,cn⟩:=Qf X G bh ["boxes","own","parts"] ()
 obtain⟨cp,cq⟩:=Qf X G bm ["boxes","own","parts"] ()
 obtain⟨cr,cs⟩:=Qf X G bn ["boxes","own","parts"] ()
 obtain⟨cu,cv⟩:=Qf X G bo ["boxes","own","parts"] ()
 obtain⟨cw,cx⟩:=Qf X G bp ["boxes","own","parts"] ()
 obtain⟨cy,cz⟩:=Qf X G bq ["boxes","own","parts"] ()
 obtain⟨cA,cB⟩:=Qf X G bt ["boxes","own","parts"] ()
 obtain⟨cC,cD⟩:=Qf X G bu ["boxes","own","parts"] ()
 obtain⟨cE,cF⟩:=Qf X G bv ["boxes","own","parts"] ()
 obtain⟨cG,cH⟩:=Qf X G bw ["boxes","own","parts"] ()
 obtain⟨cI,cJ⟩:=Qf X G bx ["boxes","word","parts"] ()
 obtain⟨cK,cL⟩:=Qf X G bA ["word","held"] ()
 obtain⟨cM,cN⟩:=XU ae ["self","rule","own"] ()
 obtain⟨cO,cP⟩:=XU bB ["self"] ()
 obtain⟨cQ,cR⟩:=XU bC ["self","tree"] ()
 obtain⟨cS,cT⟩:=XU bD ["self"] ()
 obtain⟨cU,cV⟩:=XU bE ["self"] ()
 obtain⟨cW,cX⟩:=XU bF ["self"] ()
 obtain⟨cY,cZ⟩:=XU bG ["self"] ()
 obtain⟨c0,c1⟩:=XU bH ["self"] ()
 obtain⟨c2,c3⟩:=XU bI ["self","row"] ()
 obtain⟨c4,c5⟩:=XU bJ ["self","box","tree"] ()
 obtain⟨c6,c7⟩:=Qf X G bK ["rule","own","answers"] ()
 obtain⟨c8,c9⟩:=Qf X G bL ["machine","asks"] ()
 obtain⟨da,dc⟩:=Qf X G bM ["rule","own","run"] ()
 obtain⟨dd,de⟩:=Qf X G bN ["script","k"] ()
 obtain⟨df,dh⟩:=Qf X G bO ["cell","salt"] ()
 obtain⟨di,dj⟩:=Qf X G bP ["pot","many"] ()
 obtain⟨dk,dl⟩:=Qf X G bQ ["pot"] ()
 obtain⟨dm,dn⟩:=Qf X G bR ["pot","names"] ()
 obtain⟨dq,dr⟩:=Qf X G bS ["pot","names","many","k"] ()
 obtain⟨dt,du⟩:=Qf X G bT ["pot","names"] ()
 obtain⟨dv,dw⟩:=Qf X G bU ["pot","rule"] ()
 obtain⟨dy,dz⟩:=Qf X G bV [] ()
 obtain⟨dA,dB⟩:=Qf X G bW ["value"] ()
 obtain⟨dC,dD⟩:=Qf X G bX ["tree"] ()
 obtain⟨dE,dF⟩:=Qf X G bY ["tree"] ()
 obtain⟨dG,dH⟩:=Qf X G bZ ["value"] ()
 obtain⟨dI,dJ⟩:=Qf X G b3 ["value"] ()
 obtain⟨dL,dM⟩:=Qf X G b4 ["boxes","words","at"] ()
 obtain⟨dN,dO⟩:=Qf X G b5 ["word","two","three"] ()
 obtain⟨dP,dQ⟩:=Qf X G b6 ["boxes","words","line","own"] ()
 obtain⟨dR,dS⟩:=Qf X G b7 ["boxes","words"] ()
 obtain⟨dU,dV⟩:=Qf X G b8 ["rule","own","answers"] ()
 obtain⟨dW,dX⟩:=Qf X G b9 ["boxes","words"] ()
 obtain⟨dY,dZ⟩:=Qf X G ca ["pot","ask","names"] ()
 obtain⟨d0,ea⟩:=Qf X G cb ["ask","tree"] ()
 obtain⟨eb,ec⟩:=Qf X G cc ["rule","own","run"] ()
 obtain⟨ed,ef⟩:=Qf X G cd ["pot","run","names"] ()
 obtain⟨eg,eh⟩:=Qf X G ce ["pot","rule","own","names"] ()
 obtain⟨ei,ej⟩:=Qf X G cf ["script"] ()
 have z:∀x∈(["ord","len","isinstance","str","tuple","all","int","range","zip","dict","list","enumerate","abs","min","sum","max","bool"]:List Str),mg x=none:=fun x hx=>PySem.W.mg_none_of X G (zz x hx);simp only [uA,uG,v9,forall_eq_or_imp,forall_eq] at z;obtain⟨z1,z2,z3,z4,z5,z6,z7,z8,z9,ek,el,em,en,eo,ep,eq,er⟩:=z;exact⟨⟨f1,d1,f2,d2,f3,d3,f4,d4,f5,d5,f6,d6,f7,d7,f8,d8,f9,d9,af,ch,ag,cj,ah,cm,ak,cp,al,cr,am,cu,ao,cw,ap,cy,aq,cA,au,cC,av,cE,aw,cG,ax,cI,ay,cK,aA,cM,aB,cO,aC,cQ,aD,cS,aE,cU,aF,cW,aG,cY,aH,c0,aI,c2,aJ,c4,aK,c6,aL,c8,aM,da,aN,dd,aO,df,aP,di,aQ,dk,aR,dm,aS,dq,aT,dt,aU,dv,aV,dy,aW,dA,aX,dC,aY,dE,aZ,dG,a0,dI,a1,dL,a2,dN,a3,dP,a4,dR,a5,dU,a6,dW,a7,dY,a8,d0,a9,eb,bb,ed,bc,eg,bd,ei,I⟩,⟨F1,F2,F3,F4,F5,F6,F7,F8,F9,ci,ck,cn,cq,cs,cv,cx,cz,cB,cD,cF,cH,cJ,cL,cN,cP,cR,cT,cV,cX,cZ,c1,c3,c5,c7,c9,dc,de,dh,dj,dl,dn,dr,du,dw,dz,dB,dD,dF,dH,dJ,dM,dO,dQ,dS,dV,dX,dZ,ea,ec,ef,eh,ej,ad,⟨aa.1,ae.1,ae.2.1,aa.2⟩,uO X G ac,U,Y,ab,L,M,Z,O,R,⟨_,uO X G g1⟩,⟨_,uO X G g2⟩,⟨_,uO X G g3⟩,⟨_,uO X G g4⟩,⟨_,uO X G g5⟩,⟨_,uO X G g6⟩,⟨_,uO X G g7⟩,⟨_,uO X G g8⟩,⟨_,uO X G g9⟩,⟨_,uO X G cg⟩,z1,z2,z3,z4,z5,z6,z7,z8,z9,ek,el,em,en,eo,ep,eq,er⟩⟩
theorem mk1 {K:PySem.W.Frag}{h:Heap}{mg:Str->Option Value}(X:K.In h)(G:h.Ns mainGlobals mg){I f:Addr}{x y:Str}(z:∃m,PySem.W.nsIn K mainGlobals y=some (some (.ref m))/\PySem.W.nsIn K I x=some (some (.ref m)))(e:mg y=some (.ref f)):PySem.W.nsIn K I x=some (some (.ref f)):=by
 obtain⟨m,h1,h2⟩:=z;have:=(uO X G h1).symm.trans e;injection this with this
 injection this with this
 rw [<-this];exact h2
def MKP:List (Str×Str):= [("text","text_made"),("self","self_made"),("copy","copy_made"),("row","row_made"),("put","put_made"),("join","join_made"),("first","first_made"),("rest","rest_made"),("size","size_made"),("cut","cut_made"),("glue","glue_made")]
theorem fx_mk {w:World}{K:PySem.W.Frag}{h:Heap}{mg:Str->Option Value}{a:Ad}(T:Tx K mg a)(X:K.In h)(G:h.Ns mainGlobals mg){O R L I M U:Addr}{Y Z:Array DictEntry}{nF nM:Nat}
  (gB:PySem.W.nsIn K mainGlobals "BOXES"=some (some (.ref O))) (gA:PySem.W.nsIn K mainGlobals "ASKING"=some (some (.ref R))) (gF:PySem.W.nsIn K mainGlobals "FORMS"=some (some (.ref L))) (gM:PySem.W.nsIn K mainGlobals "MAKERS"=some (some (.ref I)))
  (lB:TZ K O BX) (lA:TZ K R ["ask","has","names"]) (lF:K.lookup L=some ⟨.type "dict",none,.dict Y nF,#[]⟩) (lM:K.lookup I=some ⟨.type "dict",none,.dict Z nM,#[]⟩)
  (kF:PySem.W.KeysLit w.params Y.toList) (kM:PySem.W.KeysLit w.params Z.toList) (zF:(L==sysModules)=false) (zM:(I==sysModules)=false)
  (fF:∀x∈FRM,TZn K L x.1 (x.2.map Kd.t)) (fM:∀p∈MKP,∃m,PySem.W.nsIn K mainGlobals p.2=some (some (.ref m))/\PySem.W.nsIn K I p.1=some (some (.ref m))) (oM:∀z∈NOMK,PySem.W.nsIn K I z=some none)
  (gX:PySem.W.nsIn K mainGlobals "BadAnswer"=some (some (.ref M))) (bX:PySem.W.excIn K M VE "ValueError.__new__"=true) (bY:PySem.W.exmOne K (.ref M) (.ref M)=some true) (gY:PySem.W.nsIn K mainGlobals "NoAsk"=some (some (.ref U))) (bZ:PySem.W.excIn K U VE "ValueError.__new__"=true):∃g,Fx K w mg g a:=by
 refine⟨⟨O,R,L,I,M,U⟩,⟨uO X G gB,uO X G gA,uO X G gF,uO X G gM,fun H=>lB.sq (by decide),fun H=>lA.sq (by decide),⟨zF,Y,nF,lF,kF⟩,fun x hx=> ?_,⟨zM,Z,nM,lM,kM⟩,mk1 X G (fM ("text","text_made") (by decide+kernel)) T.g_text_made.m,mk1 X G (fM ("self","self_made") (by decide+kernel)) T.g_self_made.m,mk1 X G (fM ("copy","copy_made") (by decide+kernel)) T.g_copy_made.m,mk1 X G (fM ("row","row_made") (by decide+kernel)) T.g_row_made.m,mk1 X G (fM ("put","put_made") (by decide+kernel)) T.g_put_made.m,mk1 X G (fM ("join","join_made") (by decide+kernel)) T.g_join_made.m,mk1 X G (fM ("first","first_made") (by decide+kernel)) T.g_first_made.m,mk1 X G (fM ("rest","rest_made") (by decide+kernel)) T.g_rest_made.m,mk1 X G (fM ("size","size_made") (by decide+kernel)) T.g_size_made.m,mk1 X G (fM ("cut","cut_made") (by decide+kernel)) T.g_cut_made.m,mk1 X G (fM ("glue","glue_made") (by decide+kernel)) T.g_glue_made.m,oM,uO X G gX,bX,bY,uO X G gY,bZ⟩⟩
 obtain⟨q,h1,h2⟩:=fF x hx;exact⟨q,h1,fun H=>by rw [Jw];exact h2.sq (by rw [uf];exact uK (Zc x hx) (by decide))⟩
end K12
open PySem PySem.W PyProof.Rows L2
set_option maxRecDepth 100000 in
set_option maxHeartbeats 0 in
theorem PySem.Challenge.cw_askwright_k12_replayed_and_done_holds : PySem.Challenge.rw_askwright_k12_replayed_and_done.Holds := by
 w_on;o_law;k_head;(case hw=>w_witness2)
 k_fill
 refine L2.walk_ofB (l:=PySem.Challenge.rw_askwright_k12_replayed_and_done) (n:=63) (k:=29) (x:="script") (CX:=L2.CX0) (sp:=K12.sp_law) rfl (by decide) rfl ⟨rfl,by decide,by decide⟩ (fun w h Y=>PySem.W.kIn_of Y) ?F ?S ?C
 case F=>
  intro w mg fa h KX G hmg
  have T:∃a,K12.Tx (L2.KOf KX) mg a:=by
   dsimp only [L2.KOf]
   refine' K12.tx_mk KX G ..
   all_goals first|exact⟨by k_is,_,_,_,_,_,_,_,_,_,by k_is,by k_is,by k_is⟩|exact⟨by k_is,by k_is,_,_,_,_,_,_,_,_,_,by k_is,by k_is,by k_is⟩|(show _=_;k_is)|exact⟨by k_is,by k_is,by k_is,by k_is⟩|exact⟨by k_is,by k_is⟩|(intro x hx;simp only [uA,uG,v9] at hx;rcases hx with rfl|rfl|rfl|rfl|rfl|rfl|rfl|rfl|rfl|rfl|rfl|rfl|rfl|rfl|rfl|rfl|rfl<;>k_is)|skip
  obtain⟨a,T⟩:=T
  have C:∃g,K12.Fx (L2.KOf KX) w mg g a:=by
   dsimp only [L2.KOf] at T⊢
   refine' K12.fx_mk T KX G (kF:= ?kF) (kM:= ?kM) (fF:= ?fF) (fM:= ?fM) (oM:= ?oM) (bX:= ?bX) (bY:= ?bY) (bZ:= ?bZ) ..
   all_goals try (first|(show _=some (some _);k_is)|(show _=some (Obj.mk _ _ _ _);k_is)|exact⟨_,_,_,_,by k_is,rfl⟩)
   (case kF=>(repeat (first|exact trivial|refine⟨⟨_,_,rfl,rfl⟩,?_⟩)));(case kM=>(repeat (first|exact trivial|refine⟨⟨_,_,rfl,rfl⟩,?_⟩)))
   case fF=>
    intro x hx
    unfold FRM at hx
    simp only [uA,uG,v9] at hx
    rcases hx with rfl|rfl|rfl|rfl|rfl|rfl|rfl|rfl|rfl|rfl|rfl|rfl|rfl|rfl|rfl|rfl|rfl|rfl|rfl|rfl<;>exact⟨_,by k_is,_,_,_,_,by k_is,rfl⟩
   case fM=>
    intro x hx
    unfold K12.MKP at hx
    simp only [uA,uG,v9] at hx
    rcases hx with rfl|rfl|rfl|rfl|rfl|rfl|rfl|rfl|rfl|rfl|rfl<;>exact⟨_,by k_is,by k_is⟩
   case oM=>
    intro x hx
    unfold K12.NOMK at hx
    simp only [uA,uG,v9] at hx
    rcases hx with rfl|rfl|rfl|rfl|rfl|rfl|rfl|rfl|rfl<;>k_is
   all_goals first|rfl|k_exc|kts_exm
  obtain⟨g,C⟩:=C
  have e0:=hmg.symm.trans T.g_law.m
  cases e0
  exact⟨_,T.g_law.law (fun _ _ _ _ _ _ _=>rfl),(by obtain⟨_,_,_,_,_,_,_,_,_,e,_⟩:=T.g_law.F.ex;rw [e];rfl),fun base kb nb=>K12.ok_law T C⟩
 case S=>exact fun w H a ns hl hb hO hS=>⟨a,ns,rfl,hS,hl,hb,fun _=>rfl⟩
 case C=>exact fun _ _ _ _ z=>z
