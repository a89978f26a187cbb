import PyProof.Rows.All
import Wide.All
import OpenK.AllK
import Wide.FinOn
import Lean
import PyProof.EqAt
import PyProof.EqKinds
import PyProof.TupleCall
import PySem.Str
import PyProof.ZipIter
import PyProof.Draws
import PyProof.StrLawsChain
import PyProof.StrLawsTight
import KE.KIntText
import OpenK.KTop
import PyProof.StationsW
import PyProof.ExcClass2
import PyProof.ExcBaseAll.ValueError
import PyProof.Rows.Catch
import OpenK.KOwn
import KE.KTryMore
import KE.FramesApart
import PyProof.RulesAs
import PyProof.NsDelKeeps
import PyProof.ExcArgs
import PyProof.Rows.SortStr
import KE.KDictSum
import PyProof.DictWalks
import PyProof.IsiH_list
import KE.KDictOf
import PyProof.NeKinds
import PyProof.StrCalls6
import PyProof.FString
import KE.KUnpack
import KE.KItemsList
import KE.KRevIter
import KE.IntBitsLaws
import PyProof.FString5
import PyProof.TupleKey
import Wide.Seal
import PyProof.Rows.SortShellK
import PyProof.DictRoadsH
import PyProof.Rows.SortRev
import PyProof.Rows.SetFrom
import PyProof.FactsAll.set_2
import PyProof.FactsAll.set_1
import PyProof.Rows.SortShell
import PyProof.Tail
import KE.KMinKey
import PySem.Challenge.RW_askwright_k29_the_first_clash
namespace PySem.W.Fast
def tw1730081798670084586:=0
def tw8369182111548104445:=0
def tw14719049997483577110:=0
def tw12882811093912461912:=0
def tw9238030374402373121:=0
def tw10015841831814748794:=0
def tw1978180467796482094:=0
def tw8857724288892062675:=0
def tw13074681769729033692:=0
def tw5005423296713569963:=0
def tw14445354787369046933:=0
def tw2385727925367110177:=0
def tw2424733551264184119:=0
def tw9209484088035079485:=0
def tw13870491998506924435:=0
def tw7483008639320852650:=0
def tw12336130307078914216:=0
def tw7856794354412999809:=0
def tw4704504982230912669:=0
def tw11364138610357352550:=0
def tw7231267687039373845:=0
def tw16004736208432508787:=0
def tw4533239192719701634:=0
def tw520943036219470204:=0
def tw1781773654936801271:=0
def tw3343390391078537521:=0
def tw5792823642156609911:=0
def tw1590259919611776894:=0
def tw12101939593879942295:=0
def tw4545379003030224313:=0
def tw1660172673514930733:=0
def tw15780710526505456529:=0
def tw12279716832094872919:=0
def tw9020610998438651617:=0
def tw1079001978320804600:=0
def tw2388894806509656173:=0
def tw18183818341244145916:=0
def tw17614036461243003920:=0
def tw4529334267520227066:=0
def tw14887691030372206277:=0
def tw2074745886963313915:=0
def tw7745696284606767441:=0
def tw5216122275457850128:=0
def tw8086000334368837500:=0
def tw9841841232980052714:=0
def tw3703644421555901465:=0
def tw10448515063320661871:=0
def tw14704195436408001520:=0
def tw4420410848155815582:=0
def tw12962870785839718010:=0
def tw4179427829010689818:=0
def tw6166960913049698407:=0
def tw11358448633980898404:=0
def tw13164416788466767542:=0
def tw6394815422505559640:=0
def tw12366368587260662984:=0
def tw17606027112365862887:=0
def tw6394578042849804870:=0
def tw16908251566025195448:=0
def tw12349565945174118318:=0
def tw18190680671379405488:=0
def tw3227556195857422053:=0
def tw15423662868996174559:=0
def tw6933448672460432538:=0
def tw8498385058253855514:=0
def tw12237580144819333379:=0
def tw6572388548648299835:=0
def tw11737236080828179600:=0
def tw6525225887349268915:=0
def tw341082374911462280:=0
def tw13211260239990017128:=0
def tw6493392517386370123:=0
def tw14333687230959437057:=0
def tw7515030772307070555:=0
def tw894604703638740878:=0
def tw401332062231668565:=0
def tw2331949609005209403:=0
def tw12765560657183005473:=0
def tw16568093291240909933:=0
def tw118353757121558254:=0
def tw12746819171964145527:=0
def tw9598582751622525745:=0
def tw16605723871340523608:=0
def tw17655503562192616624:=0
def tw4430900817285326577:=0
def tw10199337007353371909:=0
def tw16975964118549045522:=0
def tw227405421564956007:=0
def tw18177635756859616279:=0
def tw1065003391842312371:=0
def tw6752545454755109908:=0
def tw6479481166719116621:=0
def tw3927157093843261097:=0
def tw7684171074058229441:=0
def tw11544654524204684092:=0
def tw12372792522033726030:=0
def tw17403798669340538472:=0
def tw1220274687856967435:=0
def tw7614121866021558438:=0
def tw12274970890322168137:=0
def tw4790566721390392689:=0
def tw6306317790656380441:=0
def tw5079049398452350814:=0
def tw2584545330679241484:=0
def tw12535379376037702728:=0
def tw16598084660016861905:=0
def tw18353122530216147405:=0
def tw12385217011664857110:=0
def tw3824453556235492377:=0
def tw8390135633525627623:=0
def tw10344426103912246697:=0
def tw68319125667393057:=0
def tw1109290601993537384:=0
def tw12275112977895353306:=0
def tw85001951451028156:=0
def tw17099419947963173542:=0
def tw16170308446822317752:=0
def tw3994308753936702185:=0
def tw11042979227719779852:=0
def tw17377266377080619386:=0
def tw2895747509479980631:=0
def tw17678181130024802754:=0
def tw15037645366262164629:=0
def tw17370800834155517648:=0
def tw6511925154149527174:=0
def tw3753014534871350981:=0
def tw5133576715208212118:=0
def tw16518496311213637328:=0
def tw6085224323261885339:=0
def tw15794209900598301992:=0
def tw11958278996266218303:=0
def tw3825045295825879857:=0
def tw18140280989805873430:=0
def tw11379751228736635825:=0
def tw1559912945379604907:=0
def tw3910150316226832481:=0
def tw6884780842504700262:=0
def tw2036606275155306364:=0
def tw1158112973495708240:=0
def tw639271346218777706:=0
def tw7517350217406319299:=0
def tw4689501612366854686:=0
def tw8005577729176878972:=0
def tw14872146769673783931:=0
def tw8777361833233838349:=0
def tw12155145446618740377:=0
def tw1377793648153473884:=0
def tw3328467945570283855:=0
def tw15979288092584558752:=0
def tw6035903795809805122:=0
def tw15929688835048976462:=0
def tw16905922866166613904:=0
def tw658263705381221764:=0
def tw1381824336920657236:=0
def tw148306143094137449:=0
def tw14645836429942074562:=0
def tw8488281712274310553:=0
def tw8591754897422888745:=0
def tw17167451611615173513:=0
def tw6145040415580684795:=0
def tw13101210511702485045:=0
def tw13890208595456809365:=0
def tw17880417576779186376:=0
def tw6201744504883504950:=0
def tw4761108508403034312:=0
def tw3741249301503632502:=0
def tw10399580939049996416:=0
def tw10984109015954874208:=0
def tw16646074171964605686:=0
def tw5376992734212703355:=0
def tw1693405651253781709:=0
def tw10533022441450380388:=0
def tw1653938149118792212:=0
def tw5672602839266154058:=0
def tw13714247974401242095:=0
def tw4545716093452771496:=0
def tw10525452000871440890:=0
def tw5976479781942399676:=0
def tw2249476518698540528:=0
def tw8077778420357717615:=0
def tw17392863920361428294:=0
def tw4711568889119056154:=0
def tw17624237707033698971:=0
def tw12844111015693281116:=0
def tw4760143336164622522:=0
def tw10251636338424329084:=0
def tw12282651622596534711:=0
def tw5044607448983944538:=0
def tw8589068571347764752:=0
def tw13555519492595454298:=0
def tw5403662174716612236:=0
def tw16507330034785829749:=0
def tw17209790924811640128:=0
def tw2932950471893352878:=0
def tw14486598739131151606:=0
def tw10082421102129440136:=0
def tw4054932417938832134:=0
end PySem.W.Fast
local macro_rules | `(tactic| trivial) => `(tactic| first | rfl | exact .inl rfl | exact .inr rfl | exact .inr (.inl rfl) | decide +kernel | (intro _; rfl) | omega | exact ⟨rfl,rfl,rfl,by decide +kernel,rfl,by decide +kernel,by decide +kernel⟩ | (intro _ _ _ _ _ _ us hl; rcases us with _|⟨_,_|⟨_,_|⟨_,_|⟨_,_|⟨_,_|⟨_,_⟩⟩⟩⟩⟩⟩ <;> first | rfl | cases hl) | (intro _ _ _ _ h; repeat' first | (obtain ⟨e,_⟩ := h; subst e; rfl) | (obtain ⟨_,h⟩ := h)))
set_option hygiene false in
local macro_rules | `(tactic| ac_rfl) => `(tactic| ((try dsimp only);first|assumption|exact Inv.tk (by assumption)|exact Nat.succ_pos _|exact Nat.lt_of_lt_of_le (Inv.tk (by assumption)) (by assumption)|exact Nat.add_pos_left (Inv.tk (by assumption)) _|omega))
local macro_rules | `(()) => `(by trivial)
set_option compiler.extract_closed false
noncomputable section
set_option Elab.async false
set_option linter.all false
set_option maxRecDepth 100000
set_option maxHeartbeats 4000000
def u0:=@List.getElem?_eq_getElem
def u4:=@List.mem_cons_of_mem
def u5:=@List.mem_cons_self
def u7:=@PySem.Heap.get?_push_of_some
def u8:=@decide_eq_false
def u9:=@List.size_toArray
def uc:=@List.length_map
def ud:=@List.mem_of_getElem?
def ue:=@decide_eq_true
def uf:=@PySem.Heap.get?_push_size
def ug:=@Bool.false_ne_true
def uh:=@PySem.Heap.lt_size
def ui:=@List.length_append
def uj:=@List.getElem?_map
def uk:=@of_decide_eq_true
def ul:=@List.length_cons
def um:=@List.map_cons
def uo:=@Option.some.inj
def uq:=@List.length_take
def ur:=@PySem.Around.in1_units
def uu:=@List.mem_append_right
def uv:=@Nat.zero_le
def uw:=@List.map_append
def uy:=@Nat.ne_of_lt
def uz:=@PySem.wpAny_call_entry
def uA:=@PySem.wpAny_holding
def uB:=@List.map_map
def uC:=@PySem.wpAny_callSpecial?_slot
def uD:=@PySem.Heap.SameBut.update
def uE:=@List.take_add_one
def uF:=@decide_eq_true_eq
def uG:=@PySem.wpAny_truthy_bool
def uH:=@PySem.wpAny_with_toks
def uI:=@PySem.wpAny_loadPart'
def uJ:=@PySem.wpAny_newObj_type
def uK:=@List.findIdx?_eq_some_iff_getElem
def uL:=@List.take_of_length_le
def uM:=@decide_eq_decide
def uN:=@List.getElem_mem
def uO:=@PySem.PassesOwn.never
def uP:=@List.mem_cons
def uQ:=@PySem.F.plainAttrs_list
def uR:=@List.length_singleton
def uS:=@Bool.false_eq_true
def uT:=@List.lookup_cons
def uU:=@PySem.Heap.get?_update_other
def uV:=@PySem.Heap.get?_update_self
def uW:=@PySem.Obj.data_mapFields
def uX:=@Int.eq_ofNat_of_zero_le
def uY:=@Classical.byContradiction
def uZ:=@Nat.lt_or_ge
def v0:=@Int.emod_lt_of_pos
def v4:=@Array.getElem?_toList
def v5:=@List.cons_lt_cons_iff
def v6:=@List.mem_nil_iff
def v7:=@List.getElem?_append_left
def v8:=@Nat.le_trans
def va:=@PySem.W.mg_of
def vc:=@PySem.wpAny_mono
def vd:=@List.mem_append_left
def ve:=@PySem.Around.under_plainId
def vg:=@List.mem_singleton
def vh:=@PySem.F.plain_min_loop
def vi:=@PySem.W.kia_one
def vj:=@List.drop_eq_getElem_cons
def vk:=@Int.emod_nonneg
def vm:=@PyProof.Rows.boot_isinstance
def vn:=@PySem.boot_len
def vo:=@List.exists_mem_of_ne_nil
def vq:=@List.take_length
def vr:=@List.take_prefix
def vt:=@PySem.F.slot_list_append
def vv:=@PySem.F.type_list_append
def vw:=@PySem.Heap.size_push
def vy:=@PySem.isSubtype_type
def vz:=@PySem.codeAny_builtin
def vA:=@PySem.wpAny_askSetting
def vB:=@List.getElem?_append_right
def vC:=@List.filterMap_cons
def vD:=@PySem.mem_of_lookup
def vE:=@PyProof.Rows.slot_tuple_getitem
def vF:=@PySem.wpAny_setState_of
def vG:=@List.flatMap_cons
def vH:=@Nat.lt_irrefl
def vI:=@PySem.wpAny_setField
def vJ:=@PyProof.Rows.wpS_pure
def vK:=@Bool.eq_iff_iff
def vL:=@List.append_nil
def vM:=@PySem.Obj.isFreed_of_fields
def vN:=@Nat.not_lt_zero
def vO:=@List.mem_append
def vP:=@PySem.builtinLookup_eq_fast
def vQ:=@PySem.wpAny_Call_Name_kw
def vR:=@PySem.wpAny_field
def vS:=@PySem.wpAny_forIn_list
def vT:=@List.prefix_iff_eq_take
def vU:=@Nat.le_of_lt
def vV:=@PyProof.Rows.callWith_type1
def vW:=@PySem.wpAny_dictEpoch
def vX:=@List.nil_prefix
def vY:=@PySem.F.slot_tuple_iterator_next
def vZ:=@List.take_prefix_take_left
def U0:=@List.cons_append
def U1:=@Array.toList_map
def U2:=@List.prefix_refl
def U3:=@PySem.wpAny_pyIter_tuple
def U4:=@if_false
def U5:=@List.all_cons
def U6:=@PySem.wpAny_attempt
def U7:=@List.getElem?_zip_eq_some
def U8:=@Array.getElem?_eq_getElem
def U9:=@List.mem_of_mem_take
def Ua:=@Ne.symm
def Ub:=@PySem.wpAny_passesOwn
def Uc:=@Int.toNat_natCast
def Ud:=@PySem.SeqAt.EqAt.same
def Ue:=@PyProof.Rows.boot_tuple
def Uf:=@PySem.codeAny_mono
def Ug:=@List.all_map
def Uh:=@PySem.Paired.length
def Ui:=@PySem.plainId_quiet
def Uj:=@List.map_congr_left
def Uk:=@List.map_take
def Ul:=@List.length_drop
def Um:=@PySem.wpAny_typeNameOfWhole_keyiter
def Uo:=@PySem.wpAny_fieldsOf
def Up:=@List.lt_irrefl
def Uq:=@List.range_succ_eq_map
def Ur:=@PySem.SeqAt.EqAt.int_int
def Us:=@PySem.wpAny_setField_rec
def Ut:=@PySem.SeqAt.EqAt.of_refs
def Uu:=@List.findIdx?_cons
def Uv:=@PySem.wpAny_of_eq
def Uw:=@PySem.F.slot_enumerate_next
def Ux:=@List.nodup_cons
def Uy:=@PySem.typeLookup_type
def Uz:=@PySem.Obj.cls_mapFields
def UA:=@or_false
def UB:=@PySem.wpAny_storeSet_of
def UC:=@Bool.and_false
def UD:=@PySem.wpAny_seqItems
def UE:=@PySem.wpAny_tryCatch
def UF:=@Nat.lt_succ_self
def UG:=@PySem.F.args_tuple_add_2
def UH:=@PySem.wpAny_typeOf
def UI:=@List.map_nil
def UJ:=@List.any_map
def UK:=@PySem.wpAny_typeNameOf_keyiter
def UL:=@PySem.AutoSeq1.wpAny_loadPart'
def UM:=@PySem.SeqAt.EqAt.int_str
def UN:=@PySem.SeqAt.EqAt.str_int
def UO:=@PySem.F.entry_tuple_add
def UP:=@PySem.SeqAt.EqAt.str_str
def UQ:=@Nat.lt_of_le_of_lt
def UR:=@PyProof.Rows.get?_update_seq
def US:=@PyProof.Rows.F.plain_set_update_loop
def UT:=@List.mem_filter
def UU:=@of_decide_eq_false
def UV:=@List.getElem?_take
def UW:=@PySem.wpAny_pyIter_list
def UX:=@PySem.wpAny_sequenceKey
def UY:=@beq_iff_eq
def UZ:=@PySem.SeqAt.RcAt.tuples
def V0:=@PySem.wpAny_dictEntries
def V1:=@PySem.wpAny_pyIter_slot
def V2:=@List.append_assoc
def V3:=@Nat.ne_of_gt
def V4:=@Nat.le_add_right
def V5:=@List.all_eq_true
def V6:=@Option.getD_some
def V7:=@Nat.add_assoc
def V8:=@PySem.wpAny_letGo
namespace L2
open PySem PySem.Spec PyProof.Rows
abbrev Key:=Sum Int Str
def keyIs:Key->Value->Bool
 | .inl k,v=>Value.isInt k v
 | .inr x,v=>Value.isStrOf x v
def keyH (w:World):Key->Int
 | .inl k=>hashInt k
 | .inr x=>hashStr w x
theorem Qa:∀{k:Key}{v:Value},keyIs k v=true->(∃i t,k=Sum.inl i/\v=Value.int i t)∨(∃x t,k=Sum.inr x/\v=Value.str x t)
 | .inl i,v,h=>by
  obtain⟨t,e⟩:=Value.isInt_shape (k:=i) (v:=v) h;exact .inl ⟨i,t,rfl,e⟩
 | .inr x,v,h=>by
  obtain⟨t,e⟩:=Value.isStrOf_shape (x:=x) (v:=v) h;exact .inr ⟨x,t,rfl,e⟩
theorem key_ll (a b:Int):decide ((Sum.inl a:Key)=Sum.inl b)=(a==b):=by
 by_cases e:a=b
 ·subst e;simp
 ·have h:¬(Sum.inl a:Key)=Sum.inl b:=fun q=>e (Sum.inl.inj q);rw [u8 h];exact(beq_eq_false_iff_ne.mpr e).symm
theorem key_rr (a b:Str):decide ((Sum.inr a:Key)=Sum.inr b)=decide (a=b):=by
 by_cases e:a=b
 ·subst e;simp
 ·have h:¬(Sum.inr a:Key)=Sum.inr b:=fun q=>e (Sum.inr.inj q);rw [u8 h,u8 e]
theorem key_lr (a:Int)(b:Str):decide ((Sum.inl a:Key)=Sum.inr b)=false:=u8 (fun q=>nomatch q)
theorem key_rl (a:Str)(b:Int):decide ((Sum.inr a:Key)=Sum.inl b)=false:=u8 (fun q=>nomatch q)
def mixKind (prog:Program)(w:World):PySem.KeyKind prog w Key where
 is:=keyIs
 hash:=keyH w
 inj:=fun v a b ha hb=>by
  rcases Qa ha with⟨i,t,rfl,rfl⟩|⟨x,t,rfl,rfl⟩
  ·rcases Qa hb with⟨j,u,rfl,e⟩|⟨y,u,rfl,e⟩
   ·injection e with e1 _;rw [e1]
   ·exact nomatch e
  ·rcases Qa hb with⟨j,u,rfl,e⟩|⟨y,u,rfl,e⟩
   ·exact nomatch e
   ·injection e with e1 _;rw [e1]
 byValue:=fun k v h=>by
  rcases Qa h with⟨i,t,rfl,rfl⟩|⟨x,t,rfl,rfl⟩<;>rfl
 pyHash:=fun hv h=>by
  rcases Qa hv with⟨i,t,rfl,rfl⟩|⟨x,t,rfl,rfl⟩
  ·exact wpAny_pyHash_int h
  ·exact wpAny_pyHash_str h
 eqBool:=fun hu hv h=>by
  rcases Qa hu with⟨i,t,rfl,rfl⟩|⟨x,t,rfl,rfl⟩
  ·rcases Qa hv with⟨j,u,rfl,rfl⟩|⟨y,u,rfl,rfl⟩
   ·rw [key_ll] at h;exact wpAny_eqBool_int h
   ·rw [key_lr] at h;exact UM i t y u _ _ _ _ h
  ·rcases Qa hv with⟨j,u,rfl,rfl⟩|⟨y,u,rfl,rfl⟩
   ·rw [key_rl] at h;exact UN x t j u _ _ _ _ h
   ·rw [key_rr] at h;exact wpAny_eqBool_str h
 «strs»:=fun k x t v h=>by
  rcases Qa h with⟨i,u,rfl,e⟩|⟨y,u,rfl,e⟩
  ·exact nomatch e
  ·injection e with e1 _
   subst e1
   cases v<;>rfl
inductive V where
 |non|bl (b:Bool)|int (i:Int)|str (x:Str)|byt (b:Array UInt8)|flt (b:UInt64)|ref (a:Addr)|ty (n:String)
 deriving DecidableEq
def RelV:V->Value->Prop
 | .non,u=>u=Value.none
 | .bl b,u=>u=Value.bool b
 | .int i,u=>∃t,u=Value.int i t
 | .str x,u=>∃t,u=Value.str x t
 | .byt b,u=>∃t,u=Value.bytes b t
 | .flt b,u=>∃t,u=Value.float b t
 | .ref a,u=>u=Value.ref a
 | .ty n,u=>u=Value.type n
abbrev Vals:List V->List Value->Prop:=Paired RelV
theorem Vals.length {xs:List V}{us:List Value}(r:Vals xs us):xs.length=us.length:=Uh r
theorem Vals.get:∀{xs:List V}{us:List Value}{i:Nat}{x:V},Vals xs us->xs[i]? =some x->∃u,us[i]? =some u/\RelV x u
 |_,_,_,_,.nil,e=>by simp at e
 |_,_,0,_,.cons r _,e=>by simp at e;subst e;exact⟨_,rfl,r⟩
 |_,_,i+1,x,.cons _ t,e=>by
  obtain⟨u,h1,h2⟩:=Vals.get (i:=i) (x:=x) t (by simpa using e)
  exact⟨u,by simpa using h1,h2⟩
theorem Vals.set {x:V}{u:Value}(r:RelV x u):∀{xs:List V}{us:List Value} (i:Nat),Vals xs us->Vals (xs.set i x) (us.set i u)
 |_,_,_,.nil=> .nil
 |_,_,0,.cons _ t=> .cons r t
 |_,_,i+1,.cons q t=> .cons q (Vals.set r i t)
theorem Vals.append:∀{xs ys:List V}{us ws:List Value},Vals xs us->Vals ys ws->Vals (xs++ys) (us++ws)
 |_,_,_,_,.nil,s=>s
 |_,_,_,_,.cons r t,s=> .cons r (Vals.append t s)
theorem Vals.take:∀{xs:List V}{us:List Value} (n:Nat),Vals xs us->Vals (xs.take n) (us.take n)
 |_,_,0,_=> .nil
 |_,_,_+1,.nil=> .nil
 |_,_,n+1,.cons r t=> .cons r (Vals.take n t)
theorem Vals.drop:∀{xs:List V}{us:List Value} (n:Nat),Vals xs us->Vals (xs.drop n) (us.drop n)
 |_,_,0,r=>r
 |_,_,_+1,.nil=> .nil
 |_,_,n+1,.cons _ t=>Vals.drop n t
def RelO:Option V->Option Value->Prop
 |some v,some u=>RelV v u
 |none,none=>True
 |_,_=>False
def KV {κ:Type}:List (κ×V)->List (κ×Value)->Prop:=Paired fun(p:κ×V) (q:κ×Value)=>p.1=q.1/\RelV p.2 q.2
def kV:Key->V
 | .inl i=> .int i
 | .inr x=> .str x
inductive HO where
 |lst (xs:List V)
 |tup (xs:List V)
 |dK (kvs:List (Key×V))|dT (kvs:List (List Key×V))
 |set (S:Int->Bool) (n:Nat)
 |ins (C dx:Addr) (fs:List (Str×V))
 |own (x:Addr)
 |xd (fs:List (Str×V))
 |met (f x:Addr)
 |rng (lo hi:Int)
 |frz (o:Obj) (u:HO)
 |tbl (ps:Array Value)
 |ext (φ:Heap->Prop)
abbrev Hp:=Addr->Option HO
def upd (H:Hp)(a:Addr)(o:HO):Hp:=fun b=>if b=a then some o else H b
theorem qe {H:Hp}{a:Addr}{o:HO}:upd H a o a=some o:=by unfold upd;rw [if_pos rfl]
theorem qi {H:Hp}{a b:Addr}{o:HO}(h:b≠a):upd H a o b=H b:=by unfold upd;rw [if_neg h]
theorem qh {H:Hp}{a b:Addr}{o:HO}(h:H a=some o)(h':H b=none):a≠b:=by
 intro e;subst e;rw [h] at h';cases h'
section
variable (P:Program)(w:World)
def Qe (H:Hp)(h:Heap)(a:Addr):HO->Prop
 | .lst xs=>xs.length<=sizeLine/\∃(its:List Value) (n:Nat),Vals xs its/\h.get? a=some {cls:= .type "list",data:= .seq its.toArray n}
 | .tup xs=>xs.length<=sizeLine/\∃its:List Value,Vals xs its/\IsTup h a its.toArray
 | .dK kvs=>kvs.length<=sizeLine/\(a==sysModules)=false/\∃vs,KV kvs vs/\h.DictOf (mixKind P w) a vs
 | .dT kvs=>kvs.length<=sizeLine/\(a==sysModules)=false/\∃xs:List (List Key×Addr×Value),
   Paired (fun(p:List Key×V) (q:List Key×Addr×Value)=>p.1=q.1/\H q.2.1=some (.tup (p.1.map kV))/\RelV p.2 q.2.2) kvs xs/\
   ∃o es ep,h.get? a=some o/\o.ExactDict/\o.data= .dict es ep/\es.toList=xs.map (entryOfKey (tupleKind (mixKind P w)))/\(xs.map (·.1)).Nodup
 | .set S n=>h.SetOf (intKind P w) a S n
 | .ins C dx fs=>H dx=some (.own a)/\fs.length<=1000/\dx≠a/\h.get? a=some (PySem.W.instObj C dx)/\
   ∃mA,h.Ns1 dx mA/\(∀f,RelO (fs.lookup f) (mA f))/\PySem.Within mA (fs.map (·.1))
 | .own _=>∃o,h.get? a=some o
 | .xd fs=>∃mA,h.Ns1 a mA/\∀f,RelO (fs.lookup f) (mA f)
 | .rng lo hi=>∃t u v,h.get? a=some {cls:= .type "range",data:= .fields #[.int lo t,.int hi u,.int 1 v]}
 | .frz o u=>h.get? a=some o/\Qe H h a u
 | .tbl ps=>h.get? a=some {cls:= .none,data:= .fields ps}
 | .met f x=>h.get? a=some (PySem.W.methodObj (.ref f) (.ref x))
 | .ext φ=>φ h/\(∃o,h.get? a=some o)/\∀h1 h2:Heap,φ h1->(∀o,h1.get? a=some o->h2.get? a=some o)->φ h2
def HOk (H:Hp)(h:Heap):Prop:=∀a o,H a=some o->Qe P w H h a o
end
section
variable {P:Program}{w:World}{H H':Hp}{h h':Heap}{a:Addr}{o:HO}
theorem Qe.lt (x:Qe P w H h a o):a<h.objs.size:=by
 cases o with
 |lst xs=>obtain⟨_,_,_,_,e⟩:=x;exact uh e
 |tup xs=>obtain⟨_,_,_,p⟩:=x;exact p.lt
 |dK kvs=>obtain⟨_,_,_,_,o,_,_,e,_⟩:=x;exact uh e
 |dT kvs=>obtain⟨_,_,_,_,o,_,_,e,_⟩:=x;exact uh e
 |set S n=>obtain⟨o,_,_,_,e,_⟩:=x;exact uh e
 |ins C dx fs=>obtain⟨_,_,_,e,_⟩:=x;exact uh e
 |own y=>obtain⟨_,e⟩:=x;exact uh e
 |xd fs=>obtain⟨_,⟨_,_,_,e,_⟩,_⟩:=x;exact uh e
 |rng lo hi=>obtain⟨_,_,_,e⟩:=x;exact uh e
 |frz B u=>obtain⟨e,_⟩:=x;exact uh e
 |tbl ps=>exact uh (show h.get? a=some _ from x)
 |met f y=>exact uh (show h.get? a=some _ from x)
 |ext φ=>obtain⟨_,⟨_,e⟩,_⟩:=x;exact uh e
theorem Paired.mapP {α β:Type}{F G:α->β->Prop}:∀{B:List α}{L:List β},Paired F B L->(∀a b,F a b->G a b)->Paired G B L
 |_,_,.nil,_=> .nil
 |_,_,.cons r t,f=> .cons (f _ _ r) (Paired.mapP t f)
theorem Qe.stay (x:Qe P w H h a o)(k:∀b u,(b=a∨H b=some (.own a))->h.get? b=some u->h'.get? b=some u)
  (L:∀b,H b=some (.own a)->H' b=some (.own a)) (M:∀b xs,H b=some (.tup xs)->H' b=some (.tup xs)):Qe P w H' h' a o:=by
 induction o with
 |lst xs=>obtain⟨z,its,n,r,e⟩:=x;exact⟨z,its,n,r,k _ _ (.inl rfl) e⟩
 |tup xs=>obtain⟨z,its,r,B,e,c⟩:=x;exact⟨z,its,r,B,k _ _ (.inl rfl) e,c⟩
 |dK kvs=>obtain⟨z,y,vs,r,B,es,ep,e,c⟩:=x;exact⟨z,y,vs,r,B,es,ep,k _ _ (.inl rfl) e,c⟩
 |dT kvs=>
  obtain⟨z,y,xs,r,B,es,ep,e,c⟩:=x;exact⟨z,y,xs,Paired.mapP r fun p q z=>⟨z.1,M _ _ z.2.1,z.2.2⟩,B,es,ep,k _ _ (.inl rfl) e,c⟩
 |set S n=>obtain⟨B,es,ep,t,e,c⟩:=x;exact⟨B,es,ep,t,k _ _ (.inl rfl) e,c⟩
 |ins C dx fs=>
  obtain⟨d,z,ne,e,mA,⟨od,es,ep,O,c⟩,r⟩:=x;exact⟨L _ d,z,ne,k _ _ (.inl rfl) e,mA,⟨od,es,ep,k _ _ (.inr d) O,c⟩,r⟩
 |own y=>obtain⟨B,e⟩:=x;exact⟨B,k _ _ (.inl rfl) e⟩
 |xd fs=>obtain⟨mA,⟨od,es,ep,e,c⟩,r⟩:=x;exact⟨mA,⟨od,es,ep,k _ _ (.inl rfl) e,c⟩,r⟩
 |rng lo hi=>obtain⟨t,u,v,e⟩:=x;exact⟨t,u,v,k _ _ (.inl rfl) e⟩
 |frz B u U=>obtain⟨e,q⟩:=x;exact⟨k _ _ (.inl rfl) e,U q⟩
 |tbl ps=>
  have e:h.get? a=some {cls:= .none,data:= .fields ps}:=x;show h'.get? a=some {cls:= .none,data:= .fields ps};exact k a _ (.inl rfl) e
 |met f y=>
  have e:h.get? a=some (PySem.W.methodObj (.ref f) (.ref y)):=x;show h'.get? a=some (PySem.W.methodObj (.ref f) (.ref y));exact k a _ (.inl rfl) e
 |ext φ=>obtain⟨p,⟨o,e⟩,st⟩:=x;exact⟨st _ _ p fun o q=>k _ _ (.inl rfl) q,⟨o,k _ _ (.inl rfl) e⟩,st⟩
theorem HOk.lt (x:HOk P w H h)(e:H a=some o):a<h.objs.size:=(x a o e).lt
theorem HOk.fresh (x:HOk P w H h)(e:h.objs.size<=a):H a=none:=by
 cases q:H a with
 |none=>rfl
 |some u=>exact absurd (Nat.lt_of_lt_of_le (x.lt q) e) (vH _)
theorem HOk.kept (x:HOk P w H h)(k:∀b u,h.get? b=some u->h'.get? b=some u):HOk P w H h':=fun a o e=>
 (x a o e).stay (fun b u _ q=>k b u q) (fun _ q=>q) fun _ _ q=>q
theorem HOk.laid (x:HOk P w H h)(k:∀b u,h.get? b=some u->h'.get? b=some u)(L:h.objs.size<=a)(new:Qe P w (upd H a o) h' a o):HOk P w (upd H a o) h':=fun b u e=>by
 have hn:=x.fresh L;by_cases B:b=a
 ·subst B;rw [qe] at e;cases e;exact new
 ·rw [qi B] at e;exact(x b u e).stay (fun c v _ q=>k c v q) (fun c q=>by rw [qi (qh q hn)];exact q) fun c xs q=>by rw [qi (qh q hn)];exact q
end
def Rd (H:Hp)(a:Addr)(u:HO):Prop:=H a=some u∨∃o,H a=some (.frz o u)
theorem Rd.of {H:Hp}{a:Addr}{u:HO}(h:H a=some u):Rd H a u:= .inl h
theorem Rd.ok {P:Program}{w:World}{H:Hp}{h:Heap}{a:Addr}{u:HO}(r:Rd H a u)(x:HOk P w H h):Qe P w H h a u:=by
 rcases r with r|⟨o,r⟩
 ·exact x a u r
 ·obtain⟨_,q⟩:=x a _ r;exact q
def Mut:Option HO->Prop
 |some (.lst _)=>True
 |some (.dK _)=>True
 |some (.dT _)=>True
 |some (.set _ _)=>True
 |some (.ins _ _ _)=>True
 |some (.ext _)=>True
 |_=>False
section
variable {P:Program}{w:World}{H:Hp}{h h':Heap}{x e:Addr}{o':HO}
theorem HOk.write (ok:HOk P w H h)(O:Mut (H x))(he:e=x∨H e=some (.own x))(k:∀b u,b≠e->h.get? b=some u->h'.get? b=some u)(Z:∃u,h'.get? e=some u)
  (new:Qe P w (upd H x o') h' x o'):HOk P w (upd H x o') h':=fun b u q=>by
 have L:∀c y,H c=some (.own y)->c≠x:=fun c y r z=>by subst z;rw [r] at O;exact O
 have M:∀c xs,H c=some (.tup xs)->c≠x:=fun c xs r z=>by subst z;rw [r] at O;exact O
 by_cases U:b=x
 ·subst U;rw [qe] at q;cases q;exact new
 ·rw [qi U] at q;by_cases B:b=e
  ·have q':H b=some (.own x):=by
    rcases he with z|z
    ·exact absurd (B.trans z) U
    ·rw [B];exact z
   rw [q] at q';cases q';obtain⟨v,hv⟩:=Z;exact⟨v,by rw [B];exact hv⟩
  ·refine(ok b u q).stay (fun c v Y r=>k c v ?_ r) (fun c r=>by rw [qi (L c b r)];exact r) fun c xs r=>by rw [qi (M c xs r)];exact r
   rcases Y with rfl|Y
   ·exact B
   ·rintro rfl;rcases he with z|z
    ·exact L c b Y z
    ·rw [Y] at z;cases z;exact U rfl
end
structure Un (fs ex:List Addr)(H H':Hp)(h h':Heap):Prop where
 keep:∀b o,h.get? b=some o->H b=none->b∉fs->b∉ex->h'.get? b=some o
 slot:∀b o,h.get? b=some o->H b=none->b∈fs->b∉ex->∃sl,h'.get? b=some {o with slots:=sl}
 free:∀b o,h.get? b=some o->H b=none->b∉ex->H' b=none
 there:∀b o,h.get? b=some o->b∉ex->∃o',h'.get? b=some o'
 tups:∀b xs,H b=some (.tup xs)->H' b=some (.tup xs)
 frzs:∀b o u,H b=some (.frz o u)->H' b=some (.frz o u)
 tbls:∀b ps,H b=some (.tbl ps)->∃more,H' b=some (.tbl (ps++more))
section
variable {fs fs' ex ex':List Addr}{H H1 H2:Hp}{h h1 h2 h':Heap}{a x e:Addr}{o:HO}
theorem Un.any (u:Un fs ex H H1 h h1){b:Addr}{B:Obj}(q:h.get? b=some B)(n:H b=none)(hx:b∉ex):∃sl,h1.get? b=some {B with slots:=sl}:=by
 by_cases L:b∈fs
 ·exact u.slot b B q n L hx
 ·exact⟨B.slots,u.keep b B q n L hx⟩
theorem Un.trans (a:Un fs ex H H1 h h1)(b:Un fs ex H1 H2 h1 h2):Un fs ex H H2 h h2 where
 keep:=fun c B q n M hx=>b.keep c B (a.keep c B q n M hx) (a.free c B q n hx) M hx
 slot:=fun c B q n M hx=>by
  obtain⟨sl,L⟩:=a.slot c B q n M hx;obtain⟨O,U⟩:=b.slot c _ L (a.free c B q n hx) M hx;exact⟨O,U⟩
 free:=fun c B q n hx=>by
  obtain⟨o',L⟩:=a.there c B q hx;exact b.free c o' L (a.free c B q n hx) hx
 there:=fun c B q hx=>by
  obtain⟨o',L⟩:=a.there c B q hx;exact b.there c o' L hx
 tups:=fun c xs q=>b.tups c xs (a.tups c xs q)
 frzs:=fun c B xs q=>b.frzs c B xs (a.frzs c B xs q)
 tbls:=fun c ps q=>by
  obtain⟨Y,L⟩:=a.tbls c ps q;obtain⟨Z,U⟩:=b.tbls c _ L;exact⟨Y++Z,by rw [U,Array.append_assoc]⟩
theorem Un.kept (k:∀b u,h.get? b=some u->h'.get? b=some u):Un fs ex H H h h':=
 ⟨fun b B q _ _ _=>k b B q,fun b B q _ _ _=>⟨B.slots,k b B q⟩,fun _ _ _ n _=>n,fun b B q _=>⟨B,k b B q⟩,fun _ _ q=>q,fun _ _ _ q=>q,fun _ ps q=>⟨#[],by rw [q];simp⟩⟩
theorem Un.refl:Un fs ex H H h h:=Un.kept fun _ _ q=>q
theorem Un.laid (k:∀b u,h.get? b=some u->h'.get? b=some u)(B:h.objs.size<=a)(hn:H a=none):Un fs ex H (upd H a o) h h' where
 keep:=fun b u q _ _ _=>k b u q
 slot:=fun b u q _ _ _=>⟨u.slots,k b u q⟩
 free:=fun b u q n _=>by rw [qi (uy (Nat.lt_of_lt_of_le (uh q) B))];exact n
 there:=fun b u q _=>⟨u,k b u q⟩
 tups:=fun b xs q=>by rw [qi (qh q hn)];exact q
 frzs:=fun b u xs q=>by rw [qi (qh q hn)];exact q
 tbls:=fun b ps q=>⟨#[],by rw [qi (qh q hn),q];simp⟩
theorem Un.write (L:Mut (H x))(U:e=x∨H e=some (.own x))(k:∀b u,b≠e->h.get? b=some u->h'.get? b=some u)(M:∃u,h'.get? e=some u):Un fs ex H (upd H x o) h h':=by
 have hx:∀b,H b=none->b≠x:=fun b n z=>by subst z;rw [n] at L;exact L
 have O:∀b,H b=none->b≠e:=fun b n z=>by
  subst z;rcases U with r|r
  ·exact hx b n r
  ·rw [n] at r;cases r
 have hm:∀b u,H b=some u->¬Mut (some u)->b≠x:=fun b u q nm z=>by subst z;rw [q] at L;exact nm L
 refine⟨fun b u q n _ _=>k b u (O b n) q,fun b u q n _ _=>⟨u.slots,k b u (O b n) q⟩,fun b u q n _=>by rw [qi (hx b n)];exact n,fun b u q _=> ?_,
  fun b xs q=>by rw [qi (hm b _ q fun z=>z)];exact q,fun b u xs q=>by rw [qi (hm b _ q fun z=>z)];exact q,fun b ps q=>⟨#[],by rw [qi (hm b _ q fun z=>z),q];simp⟩⟩
 by_cases B:b=e
 ·subst B;exact M
 ·exact⟨u,k b u B q⟩
end
def trk (h:Heap)(H:Hp):List Addr:=(List.range h.objs.size).filter fun a=>(H a).isSome
def hidT (h:Heap)(H:Hp):Heap:=PySem.W.hideAll h (trk h H)
theorem hidT_size (h:Heap)(H:Hp):(hidT h H).objs.size=h.objs.size:=PySem.W.hideAll_size _ _
theorem hidT_get {h:Heap}{H:Hp}{b:Addr}{o:Obj}(e:h.get? b=some o)(n:H b=none):(hidT h H).get? b=some o:=
 PySem.W.hideAll_get _ e fun hm=>by
  have q:(H b).isSome=true:=(List.mem_filter.mp hm).2;rw [n] at q;simp at q
theorem of_hidT {h:Heap}{H:Hp}{b:Addr}{o:Obj}(e:(hidT h H).get? b=some o):h.get? b=some o/\H b=none:=by
 have B:h.get? b=some o:=PySem.W.of_hideAll (trk h H) e;refine⟨B,?_⟩;cases q:H b with
 |none=>rfl
 |some x=>
  have hm:b∈trk h H:=List.mem_filter.mpr ⟨List.mem_range.mpr (uh B),by simp [q]⟩
  have z:(hidT h H).get? b=none:=PySem.W.hideAll_none (trk h H) hm;rw [z] at e;cases e
structure Mod (K:PySem.W.Frag)(mg:Str->Option Value)(base:Heap):Prop where
 kin:K.In base
 glob:base.Ns mainGlobals mg
 blt:∃mb,base.Ns builtinsNs mb/\∀x:Str,x≠"__name__"->mb x=bootBuiltins x
 nolimit:base.NoLimit
structure Cx where
 prog:Program
 w:World
 K:PySem.W.Frag
 mg:Str->Option Value
 base:Heap
 A:Around
 N:List Str
 s₀:Shared
 H₀:Hp
 env:Env
 outer:List Env
 stack:List Env
 ex:List Addr
 fn:Str->Bool
 calm:Bool
 pn:List (Addr×Obj)
 xe:Value->Shared->Prop
def frs (l:List Env):List Addr:=l.filterMap (·.frame)
abbrev Cx.fs (X:Cx):List Addr:=frs X.outer
def Vis (sc:Scope)(x:Str):Prop:=sc.names.lookup x=some .local∨sc.names.lookup x=some .cell∨sc.names.lookup x=some .free
def Loc (sc:Scope)(x:Str):Prop:=sc.names.lookup x=some .local∨sc.names.lookup x=some .cell
def Look (env:Env)(h:Heap)(m:Str->Option Value)(x:Str)(u:Value):Prop:=
 (env.kindOf x=some .local/\m x=some u)∨((env.kindOf x=some .cell∨env.kindOf x=some .free)/\∃c,env.cells.lookup x=some c/\h.IsCell c (some u))
structure Cx.Ok (X:Cx):Prop where
 mod:Mod X.K X.mg X.base
 kind:X.env.scope.kind= .function
 glob:X.env.globals=mainGlobals
 blt:X.env.builtins=builtinsNs
 above:X.s₀.heap.objs.size<=X.env.locals
 inj:∀x y c,X.env.cells.lookup x=some c->X.env.cells.lookup y=some c->x=y
 has:∀x,(X.env.kindOf x=some .cell∨X.env.kindOf x=some .free)->∃c,X.env.cells.lookup x=some c
 cab:∀x c,X.fn x=true->X.env.cells.lookup x=some c->X.s₀.heap.objs.size<=c
 hd:X.calm=true->X.A.handled=none
 frames:X.A.frames=some X.stack
 stk:X.stack=X.outer∨(X.stack=X.env::X.outer/\X.env.frame=some X.env.locals)
 exf:∀b∈X.ex,b≠X.env.locals/\∀x c,X.env.cells.lookup x=some c->c≠b
 bs:∀b o,X.base.get? b=some o->X.s₀.heap.get? b=some o/\X.H₀ b=none
 bsz:X.base.objs.size<=X.s₀.heap.objs.size
 noex:∀b o,X.base.get? b=some o->b∉X.ex
 exfs:∀b∈X.ex,b∉X.fs
 funs:X.s₀.heap.FunFrames X.base X.outer
 frf:∀b∈X.fs,X.H₀ b=none
structure Inv (X:Cx)(pins:List (Addr×Obj))(σ:List (Option V))(H:Hp)(s:Shared):Prop where
 ok:X.Ok
 os:s.os=X.s₀.os
 bare:AllBare s.gens
 base:Un X.fs X.ex X.H₀ H X.s₀.heap s.heap
 loc:∃m,s.heap.Ns X.env.locals m/\∀(i:Nat) (x:Str) (v:V),X.N[i]? =some x->σ[i]? =some (some v)->Vis X.env.scope x->∃u,RelV v u/\Look X.env s.heap m x u
 cell:∀x c,X.env.cells.lookup x=some c->∃v,s.heap.IsCell c v
 free:H X.env.locals=none
 freeC:∀x c,X.env.cells.lookup x=some c->H c=none
 pin:∀p∈X.pn++pins,s.heap.get? p.1=some p.2/\H p.1=none/\p.1≠X.env.locals/\p.1∉X.fs/\∀v,p.2.data≠ .cell v
 hok:HOk X.prog X.w H s.heap
 len:σ.length=X.N.length
 tk:0<s.toks
section
variable {X:Cx}{pins:List (Addr×Obj)}{σ:List (Option V)}{H H':Hp}{s:Shared}{h':Heap}
theorem Cx.Ok.nofr (ok:X.Ok){b:Addr}{o:Obj}(e:X.base.get? b=some o):b∉X.fs:=fun B=>by
 have:=(ok.funs.mem B).1;rw [e] at this;cases this
theorem Inv.bs (I:Inv X pins σ H s):∀b o,X.base.get? b=some o->s.heap.get? b=some o/\H b=none:=fun b o e=>
 ⟨I.base.keep b o (I.ok.bs b o e).1 (I.ok.bs b o e).2 (I.ok.nofr e) (I.ok.noex b o e),I.base.free b o (I.ok.bs b o e).1 (I.ok.bs b o e).2 (I.ok.noex b o e)⟩
theorem Inv.bk (I:Inv X pins σ H s):∀b o,X.base.get? b=some o->s.heap.get? b=some o:=fun b o e=>(I.bs b o e).1
theorem Inv.mod (I:Inv X pins σ H s):Mod X.K X.mg X.base:=I.ok.mod
theorem Inv.kIn (I:Inv X pins σ H s):X.K.In s.heap:=I.ok.mod.kin.keeps I.bk
theorem Inv.lt (I:Inv X pins σ H s):X.env.locals<s.heap.objs.size:=let⟨_,hn,_⟩:=I.loc;hn.lt
theorem Inv.sz (I:Inv X pins σ H s):X.s₀.heap.objs.size<=s.heap.objs.size:=v8 I.ok.above (vU I.lt)
theorem Inv.nofs (I:Inv X pins σ H s){a:Addr}(h:s.heap.objs.size<=a):a∉X.fs:=fun B=>by
 obtain⟨_,o,L,_⟩:=I.ok.funs.mem B;exact absurd (Nat.lt_of_lt_of_le (uh L) (v8 I.sz h)) (vH _)
theorem Inv.cne (I:Inv X pins σ H s):∀x c,X.env.cells.lookup x=some c->c≠X.env.locals:=fun x c e z=>by
 obtain⟨v,o,M,hd⟩:=I.cell x c e;obtain⟨m,⟨o',es,ep,B,L,_⟩,_⟩:=I.loc;rw [z,B] at M;cases M;rw [L] at hd;cases hd
theorem Inv.funs (I:Inv X pins σ H s):s.heap.FunFrames X.base X.outer:=by
 have all:∀(l:List Env),(∀b∈frs l,b∈X.fs)->X.s₀.heap.FunFrames X.base l->s.heap.FunFrames X.base l:=by
  intro l
  induction l with
  |nil=>intro _ _;trivial
  |cons env r Y=>
   intro U Z;obtain⟨hk,⟨L,o,B,hn,ho,hd⟩,hr⟩:=Z;have M:L∈X.fs:=U L (by unfold frs;rw [vC,B];exact u5)
   obtain⟨sl,e⟩:=I.base.slot L o ho (I.ok.frf L M) M fun z=>I.ok.exfs L z M;exact⟨hk,⟨L,_,B,hn,e,hd⟩,Y (fun b O=>U b (by unfold frs;rw [vC,B];exact u4 _ O)) hr⟩
 exact all X.outer (fun _ O=>O) I.ok.funs
theorem Inv.stack (I:Inv X pins σ H s):s.heap.FunFrames X.base X.stack:=by
 rcases I.ok.stk with e|⟨e,B⟩
 ·rw [e];exact I.funs
 ·rw [e];obtain⟨m,hn,_⟩:=I.loc;refine .cons (by rw [I.ok.kind];decide) B hn ?_ I.funs
  exact Heap.get?_none_of_le (v8 I.ok.bsz I.ok.above)
theorem Inv.stkSub (I:Inv X pins σ H s):∀b∈frs X.stack,b∈X.env.locals::X.fs:=fun b B=>by
 rcases I.ok.stk with e|⟨e,L⟩
 ·rw [e] at B;exact u4 _ B
 ·rw [e] at B;unfold frs at B;rw [vC,L] at B;exact B
theorem Inv.stkFree (I:Inv X pins σ H s):∀b∈frs X.stack,H b=none:=fun b B=>by
 rcases List.mem_cons.mp (I.stkSub b B) with e|B
 ·rw [e];exact I.free
 ·obtain⟨_,o,L,_⟩:=I.ok.funs.mem B;exact I.base.free b o L (I.ok.frf b B) fun z=>I.ok.exfs b z B
theorem Inv.step {g':Array GenState}{t':Nat}{d':Drawn}{ch:List Addr}(I:Inv X pins σ H s)
  (B:∀b∈ch,(b∈X.ex∨X.s₀.heap.objs.size<=b)/\b≠X.env.locals/\(∀x c,X.env.cells.lookup x=some c->c≠b)/\∀p∈X.pn++pins,p.1≠b)
  (keep:∀b o,b≠X.env.locals->b∉X.fs->b∉ch->s.heap.get? b=some o->H b=none->h'.get? b=some o)
  (slot:∀b o,b≠X.env.locals->b∈X.fs->b∉ch->s.heap.get? b=some o->H b=none->∃sl,h'.get? b=some {o with slots:=sl}) (free:∀b o,b∉ch->s.heap.get? b=some o->H b=none->H' b=none)
  (there:∀b o,b∉ch->s.heap.get? b=some o->∃o',h'.get? b=some o')
  (tups:∀b xs,H b=some (.tup xs)->H' b=some (.tup xs)) (frzs:∀b o u,H b=some (.frz o u)->H' b=some (.frz o u)) (tbls:∀b ps,H b=some (.tbl ps)->∃more,H' b=some (.tbl (ps++more)))
  (ns:∀m,s.heap.Ns X.env.locals m->h'.Ns X.env.locals m) (hok:HOk X.prog X.w H' h') (hg:AllBare g') (ht:0<t':=by ac_rfl):
  Inv X pins σ H' {s with heap:=h',gens:=g',drawn:=d',toks:=t'}:=by
 have aa:∀b o,X.s₀.heap.get? b=some o->b≠X.env.locals:=fun b o e=>uy (Nat.lt_of_lt_of_le (uh e) I.ok.above);have O:∀b o,X.s₀.heap.get? b=some o->b∉X.ex->b∉ch:=fun b o e hx Y=>by
  rcases(B b Y).1 with z|z
  ·exact hx z
  ·exact absurd (Nat.lt_of_lt_of_le (uh e) z) (vH _)
 have L:∀x c,X.env.cells.lookup x=some c->∀v,s.heap.IsCell c v->h'.IsCell c v:=fun x c e v ⟨o,Z,hd⟩=>by
  have M:c∉ch:=fun z=>(B c z).2.2.1 x c e rfl;by_cases hc:c∈X.fs
  ·obtain⟨sl,q⟩:=slot c o (I.cne x c e) hc M Z (I.freeC x c e);exact⟨_,q,hd⟩
  ·exact⟨o,keep c o (I.cne x c e) hc M Z (I.freeC x c e),hd⟩
 refine⟨I.ok,I.os,hg,⟨fun b o e n Y hx=> ?_,fun b o e n Y hx=> ?_,fun b o e n hx=> ?_,fun b o e hx=> ?_,fun b xs e=>tups b xs (I.base.tups b xs e),fun b o xs e=>frzs b o xs (I.base.frzs b o xs e),fun b ps e=> ?_⟩,?_,fun x c e=> ?_,?_,fun x c e=> ?_,fun p hp=> ?_,hok,I.len,ht⟩
 ·exact keep b o (aa b o e) Y (O b o e hx) (I.base.keep b o e n Y hx) (I.base.free b o e n hx)
 ·obtain⟨sl,U⟩:=I.base.slot b o e n Y hx;obtain⟨ab,e2⟩:=slot b _ (aa b o e) Y (O b o e hx) U (I.base.free b o e n hx);exact⟨ab,e2⟩
 ·obtain⟨o',U⟩:=I.base.there b o e hx;exact free b o' (O b o e hx) U (I.base.free b o e n hx)
 ·obtain⟨o',U⟩:=I.base.there b o e hx;exact there b o' (O b o e hx) U
 ·obtain⟨m1,U⟩:=I.base.tbls b ps e;obtain⟨m2,e2⟩:=tbls b _ U;exact⟨m1++m2,by rw [e2,Array.append_assoc]⟩
 ·obtain⟨m,hn,hl⟩:=I.loc;refine⟨m,ns m hn,fun i x v U e2 e3=> ?_⟩;obtain⟨u,r,l⟩:=hl i x v U e2 e3;refine⟨u,r,?_⟩;rcases l with l|⟨k,c,e,z⟩
  ·exact .inl l
  ·exact .inr ⟨k,c,e,L x c e _ z⟩
 ·obtain⟨v,z⟩:=I.cell x c e;exact⟨v,L x c e v z⟩
 ·obtain⟨m,⟨o,_,_,Z,_⟩,_⟩:=I.loc;exact free _ o (fun z=>(B _ z).2.1 rfl) Z I.free
 ·obtain⟨v,o,Z,hd⟩:=I.cell x c e;exact free c o (fun z=>(B c z).2.2.1 x c e rfl) Z (I.freeC x c e)
 ·obtain⟨e,n,ne,nf,d⟩:=I.pin p hp;have M:p.1∉ch:=fun z=>(B p.1 z).2.2.2 p hp rfl;exact⟨keep p.1 p.2 ne nf M e n,free p.1 p.2 M e n,ne,nf,d⟩
theorem Inv.un {t':Nat}(I:Inv X pins σ H s)(u:Un X.fs [] H H' s.heap h')(hok:HOk X.prog X.w H' h')(Y:0<t':=by ac_rfl):Inv X pins σ H' {s with heap:=h',toks:=t'}:=by
 obtain⟨m,⟨o,es,ep,O,r⟩,_⟩:=id I.loc;obtain⟨sl,U⟩:=u.any O I.free (by simp)
 exact I.step (g':=s.gens) (d':=s.drawn) (ch:= []) (fun _ z=>nomatch z) (fun b o _ L _ e n=>u.keep b o e n L (by simp)) (fun b o _ L _ e n=>u.slot b o e n L (by simp)) (fun b o _ e n=>u.free b o e n (by simp)) (fun b o _ e=>u.there b o e (by simp)) u.tups u.frzs u.tbls (fun Z hm=>by
  obtain⟨o',es',M,B,r'⟩:=hm;rw [O] at B;cases B;exact⟨_,es',M,U,r'⟩) hok I.bare
theorem Inv.call {g':Array GenState}{t':Nat}{d':Drawn}{ch:List Addr}(I:Inv X pins σ H s)(u:Un (frs X.stack) ch H H' s.heap h')(hok:HOk X.prog X.w H' h')(Z:AllBare g')
  (L:∀b∈ch,(b∈X.ex∨X.s₀.heap.objs.size<=b)/\b≠X.env.locals/\(∀x c,X.env.cells.lookup x=some c->c≠b)/\∀p∈X.pn++pins,p.1≠b) (ht:0<t':=by ac_rfl):
  Inv X pins σ H' {s with heap:=h',gens:=g',drawn:=d',toks:=t'}:=by
 obtain⟨m,⟨o,es,ep,Y,r⟩,_⟩:=id I.loc;obtain⟨sl,O⟩:=u.any Y I.free fun z=>(L _ z).2.1 rfl;exact I.step (ch:=ch) L (fun b o O hb B e n=>u.keep b o e n (fun z=>(List.mem_cons.mp (I.stkSub b z)).elim O hb) B) (fun b o _ _ B e n=>u.any e n B) (fun b o B e n=>u.free b o e n B) (fun b o B e=>u.there b o e B) u.tups u.frzs u.tbls (fun m' hm=>by
  obtain⟨o',es',U,M,r'⟩:=hm;rw [Y] at M;cases M;exact⟨_,es',U,O,r'⟩) hok Z
theorem Inv.turned {t':Nat}{it:Addr}(I:Inv X pins σ H s)(k:∀b o,b≠it->s.heap.get? b=some o->h'.get? b=some o)(hn:H it=none)(M:it≠X.env.locals)
  (h1:it∈X.ex∨X.s₀.heap.objs.size<=it) (h2:∀x c,X.env.cells.lookup x=some c->c≠it) (O:∀p∈X.pn++pins,p.1≠it) (Z:0<t':=by ac_rfl):Inv X pins σ H {s with heap:=h',toks:=t'}:=by
 have L:∀b u,H b=some u->b≠it:=fun b u e z=>by rw [z,hn] at e;cases e
 refine I.step (g':=s.gens) (d':=s.drawn) (ch:= [it]) (fun b U=> ?_) (fun b o _ _ B e _=>k b o (fun z=>B (by simp [z])) e) (fun b o _ _ B e _=>⟨o.slots,k b o (fun z=>B (by simp [z])) e⟩) (fun _ _ _ _ n=>n)
  (fun b o B e=>⟨o,k b o (fun z=>B (by simp [z])) e⟩) (fun _ _ e=>e) (fun _ _ _ e=>e) (fun b ps e=>⟨#[],by rw [e];simp⟩) (fun m hm=> ?_) (fun b u e=> ?_) I.bare
 ·have e:b=it:=by simpa using U
  subst e;exact⟨h1,M,h2,O⟩
 ·obtain⟨o,es,ep,Y,r⟩:=hm;exact⟨o,es,ep,k _ o (Ua M) Y,r⟩
 ·refine(I.hok b u e).stay (fun c v B q=>k c v ?_ q) (fun _ q=>q) fun _ _ q=>q;rcases B with z|z
  ·rw [z];exact L b u e
  ·exact L c _ z
theorem Inv.tok (I:Inv X pins σ H s)(t:Nat)(B:0<t:=by ac_rfl):Inv X pins σ H {s with toks:=t}:=I.un (h':=s.heap) (t':=t) Un.refl I.hok
theorem Inv.kept {t':Nat}(I:Inv X pins σ H s)(k:∀b u,s.heap.get? b=some u->h'.get? b=some u)(B:0<t':=by ac_rfl):Inv X pins σ H {s with heap:=h',toks:=t'}:=I.un (Un.kept k) (I.hok.kept k)
theorem Inv.laid {a:Addr}{o:HO}{t':Nat}(I:Inv X pins σ H s)(k:∀b u,s.heap.get? b=some u->h'.get? b=some u)(B:s.heap.objs.size<=a)(new:Qe X.prog X.w (upd H a o) h' a o)(L:0<t':=by ac_rfl):
  Inv X pins σ (upd H a o) {s with heap:=h',toks:=t'}:=I.un (Un.laid k B (I.hok.fresh B)) (I.hok.laid k B new)
theorem Inv.write {x e:Addr}{o:HO}{t':Nat}(I:Inv X pins σ H s)(L:Mut (H x))(M:e=x∨H e=some (.own x))(k:∀b u,b≠e->s.heap.get? b=some u->h'.get? b=some u)(B:∃u,h'.get? e=some u)
  (new:Qe X.prog X.w (upd H x o) h' x o) (O:0<t':=by ac_rfl):Inv X pins σ (upd H x o) {s with heap:=h',toks:=t'}:=I.un (Un.write L M k B) (I.hok.write L M k B new)
theorem Inv.pins_of {B:List (Addr×Obj)}(I:Inv X pins σ H s)(h:∀p∈B,s.heap.get? p.1=some p.2/\H p.1=none/\p.1≠X.env.locals/\p.1∉X.fs/\∀v,p.2.data≠ .cell v):Inv X B σ H s:=
 ⟨I.ok,I.os,I.bare,I.base,I.loc,I.cell,I.free,I.freeC,fun p L=>(List.mem_append.mp L).elim (fun z=>I.pin p (vd _ z)) (h p),I.hok,I.len,I.tk⟩
theorem nodup_ix {N:List Str}(B:N.Nodup){i j:Nat}{x:Str}(a:N[i]? =some x)(b:N[j]? =some x):i=j:=by
 obtain⟨h1,L⟩:=List.getElem?_eq_some_iff.mp a;obtain⟨h2,M⟩:=List.getElem?_eq_some_iff.mp b;exact(List.getElem_inj B).mp (L.trans M.symm)
theorem store_ok2 {M:Model}{A:Around}{E:Value->Shared->Prop}{i:Nat}{x:Str}{v:V}{u:Value}{Q:Unit->Shared->Prop}(I:Inv X pins σ H s)(hN:X.N.Nodup)(hi:X.N[i]? =some x)(hx:Loc X.env.scope x)(r:RelV v u)
  (h:∀s',Inv X pins (σ.set i (some v)) H s'->(∃a,Heap.SameBut a s.heap s'.heap/\(a=X.env.locals∨X.env.cells.lookup x=some a))->Q Unit.unit s') (hf:X.fn x=true∨X.env.scope.names.lookup x=some .local:=by first|exact .inl rfl|exact .inr rfl|assumption):wpAny M A (storeName X.env x u) Q E s:=by
 obtain⟨m,hn,hl⟩:=id I.loc;have ab:(X.env.scope.kind== .class||(X.env.scope.kind== .module&&X.env.locals !=X.env.globals))=false:=by rw [I.ok.kind];rfl
 have ac:i<σ.length:=by rw [I.len];exact(List.getElem?_eq_some_iff.mp hi).1
 have cne:=I.cne;have L:∀{a:Addr}{h':Heap},(∃o,s.heap.get? a=some o/\H a=none)->Heap.SameBut a s.heap h'->HOk X.prog X.w H h':=fun{a h'} ha B b ob e=>by
  obtain⟨_,_,Y⟩:=ha;refine(I.hok b ob e).stay (fun c w' U q=>(B.2 c ?_).trans q) (fun _ q=>q) fun _ _ q=>q;rintro rfl;rcases U with rfl|U
  ·rw [Y] at e;cases e
  ·rw [Y] at U;cases U
 rcases hx with hk|hk
 ·refine wpAny_storeName_local hk hn (fun h' ah B=> ?_) ab;obtain⟨oL,_,_,ai,_⟩:=id hn;refine h _ ⟨I.ok,I.os,I.bare,⟨fun b o e n hb hx=> ?_,fun b o e n hb hx=> ?_,I.base.free,fun b o e hx=> ?_,I.base.tups,I.base.frzs,I.base.tbls⟩,⟨_,ah,fun j y v' O Z e3=> ?_⟩,fun y c e=> ?_,I.free,I.freeC,fun p hp=> ?_,L ⟨oL,ai,I.free⟩ B,by simpa using I.len,by first|exact I.tk|exact Nat.succ_pos _⟩ ⟨_,B,.inl rfl⟩
  ·exact(B.2 b (uy (Nat.lt_of_lt_of_le (uh e) I.ok.above))).trans (I.base.keep b o e n hb hx)
  ·obtain⟨sl,O⟩:=I.base.slot b o e n hb hx;exact⟨sl,(B.2 b (uy (Nat.lt_of_lt_of_le (uh e) I.ok.above))).trans O⟩
  ·obtain⟨o',O⟩:=I.base.there b o e hx;exact⟨o',(B.2 b (uy (Nat.lt_of_lt_of_le (uh e) I.ok.above))).trans O⟩
  ·by_cases hj:j=i
   ·subst hj;rw [hi] at O;cases O;rw [List.getElem?_set_self ac] at Z;cases Z;exact⟨u,r,.inl ⟨hk,by simp⟩⟩
   ·rw [List.getElem?_set_ne (Ua hj)] at Z;obtain⟨u',r',q⟩:=hl j y v' O Z e3;refine⟨u',r',?_⟩;rcases q with⟨k,e⟩|⟨k,c,e,z⟩
    ·refine .inl ⟨k,?_⟩;have:y≠x:=fun e=>hj (nodup_ix hN O (e▸hi));simp [this,e]
    ·exact .inr ⟨k,c,e,z.sameBut B (cne y c e)⟩
  ·obtain⟨w',z⟩:=I.cell y c e;exact⟨w',z.sameBut B (cne y c e)⟩
  ·obtain⟨e,n,ne,nf,d⟩:=I.pin p hp;exact⟨(B.2 p.1 ne).trans e,n,ne,nf,d⟩
 ·have aa:X.fn x=true:=by
   rcases hf with z|z
   ·exact z
   ·rw [z] at hk;cases hk
  obtain⟨c,U⟩:=I.ok.has x (.inl hk);obtain⟨w',z⟩:=I.cell x c U;refine wpAny_storeName_cell I.ok.kind hk U z (fun h' ad B=> ?_);obtain⟨oc,ae,af⟩:=id z;refine h {s with heap:=h'} ⟨I.ok,I.os,I.bare,⟨fun b o e n hb hx=> ?_,fun b o e n hb hx=> ?_,I.base.free,fun b o e hx=> ?_,I.base.tups,I.base.frzs,I.base.tbls⟩,⟨m,hn.sameBut B (Ua (cne x c U)),fun j y v' O Z e3=> ?_⟩,fun y c' e=> ?_,I.free,I.freeC,fun p hp=> ?_,L ⟨oc,ae,I.freeC x c U⟩ B,by simpa using I.len,by first|exact I.tk|exact Nat.succ_pos _⟩ ⟨c,B,.inr U⟩
  ·exact(B.2 b (uy (Nat.lt_of_lt_of_le (uh e) (I.ok.cab x c aa U)))).trans (I.base.keep b o e n hb hx)
  ·obtain⟨sl,O⟩:=I.base.slot b o e n hb hx;exact⟨sl,(B.2 b (uy (Nat.lt_of_lt_of_le (uh e) (I.ok.cab x c aa U)))).trans O⟩
  ·obtain⟨o',O⟩:=I.base.there b o e hx;exact⟨o',(B.2 b (uy (Nat.lt_of_lt_of_le (uh e) (I.ok.cab x c aa U)))).trans O⟩
  ·by_cases hj:j=i
   ·subst hj;rw [hi] at O;cases O;rw [List.getElem?_set_self ac] at Z;cases Z;exact⟨u,r,.inr ⟨.inl hk,c,U,ad⟩⟩
   ·rw [List.getElem?_set_ne (Ua hj)] at Z;obtain⟨u',r',q⟩:=hl j y v' O Z e3;refine⟨u',r',?_⟩;rcases q with q|⟨k,c',e,z'⟩
    ·exact .inl q
    ·refine .inr ⟨k,c',e,z'.sameBut B ?_⟩;rintro rfl;exact hj (nodup_ix hN O (I.ok.inj _ _ _ e U▸hi))
  ·by_cases ag:c'=c
   ·subst ag;exact⟨_,ad⟩
   ·obtain⟨w2,z2⟩:=I.cell y c' e;exact⟨w2,z2.sameBut B ag⟩
  ·obtain⟨e,n,ne,nf,d⟩:=I.pin p hp;refine⟨(B.2 p.1 ?_).trans e,n,ne,nf,d⟩;intro q;rw [q,ae] at e;have q':oc=p.2:=uo e;exact d w' (by rw [<-q'];exact af)
theorem XX {M:Model}{A:Around}{E:Value->Shared->Prop}{i:Nat}{x:Str}{v:V}{u:Value}{Q:Unit->Shared->Prop}(I:Inv X pins σ H s)(B:X.N.Nodup)(hi:X.N[i]? =some x)(hx:Loc X.env.scope x)(r:RelV v u)
  (h:∀s',Inv X pins (σ.set i (some v)) H s'->Q Unit.unit s') (L:X.fn x=true∨X.env.scope.names.lookup x=some .local:=by first|exact .inl rfl|exact .inr rfl|assumption):wpAny M A (storeName X.env x u) Q E s:=
 store_ok2 I B hi hx r (fun s' O _=>h s' O) L
theorem Inv.call' {s':Shared}{ch:List Addr}(I:Inv X pins σ H s)(L:s'.os=s.os)(u:Un (frs X.stack) ch H H' s.heap s'.heap)(hok:HOk X.prog X.w H' s'.heap)(M:AllBare s'.gens)
  (B:∀b∈ch,(b∈X.ex∨X.s₀.heap.objs.size<=b)/\b≠X.env.locals/\(∀x c,X.env.cells.lookup x=some c->c≠b)/\∀p∈X.pn++pins,p.1≠b) (O:0<s'.toks:=by ac_rfl):Inv X pins σ H' s':=by
 obtain⟨h',g',d',t',o'⟩:=s';have e:o'=s.os:=L;subst e;exact I.call (g':=g') (t':=t') (d':=d') u hok M B
end
abbrev XK:=Value->Option Addr->Hp->Prop
abbrev St:=List (Option V)
abbrev VK:=V->Hp->Prop
abbrev TE:=St->Hp->VK->Prop
abbrev TT:=St->Hp->(Bool->Hp->Prop)->Prop
abbrev TA:=St->Hp->(List V->Hp->Prop)->Prop
structure Ends where
 nx:St->Hp->Prop
 rt:VK
 bk:St->Hp->Prop:=fun _ _=>False
 ct:St->Hp->Prop:=fun _ _=>False
abbrev TS:=Ends->St->Hp->Prop
def EP (X:Cx)(pins:List (Addr×Obj))(σ:St)(Q:VK)(u:Value)(s':Shared):Prop:=∃v H',Inv X pins σ H' s'/\RelV v u/\Q v H'
def TP (X:Cx)(pins:List (Addr×Obj))(σ:St)(Q:Bool->Hp->Prop)(b:Bool)(s':Shared):Prop:=∃H',Inv X pins σ H' s'/\Q b H'
def AP (X:Cx)(pins:List (Addr×Obj))(σ:St)(Q:List V->Hp->Prop)(us:List Value)(s':Shared):Prop:=∃vs H',Inv X pins σ H' s'/\Vals vs us/\Q vs H'
def SP (X:Cx)(pins:List (Addr×Obj))(D:Ends)(f:Flow)(s':Shared):Prop:=
 match f with
 | .next=>∃σ' H',Inv X pins σ' H' s'/\D.nx σ' H'
 | .brk=>∃σ' H',Inv X pins σ' H' s'/\D.bk σ' H'
 | .cont=>∃σ' H',Inv X pins σ' H' s'/\D.ct σ' H'
 | .ret u=>∃v σ' H',Inv X pins σ' H' s'/\RelV v u/\D.rt v H'
def PE (X:Cx)(e:Expr)(t:TE):Prop:=
 ∀(pins:List (Addr×Obj)) (s:Shared) (σ:St) (H:Hp) (Q:VK),Inv X pins σ H s->t σ H Q->wpAny (model X.prog X.w) X.A (eval e X.env) (EP X pins σ Q) X.xe s
def PT (X:Cx)(e:Expr)(t:TT):Prop:=
 ∀(pins:List (Addr×Obj)) (s:Shared) (σ:St) (H:Hp) (Q:Bool->Hp->Prop),Inv X pins σ H s->t σ H Q->wpAny (model X.prog X.w) X.A (isTrue e X.env (eval e X.env)) (TP X pins σ Q) X.xe s
def PW (X:Cx)(e:Expr)(t:TT):Prop:=
 ∀(whole:Sem Value) (pins:List (Addr×Obj)) (s:Shared) (σ:St) (H:Hp) (Q:Bool->Hp->Prop),Inv X pins σ H s->t σ H Q->wpAny (model X.prog X.w) X.A (isTrue e X.env whole) (TP X pins σ Q) X.xe s
theorem PW.pt {X:Cx}{e:Expr}{t:TT}(h:PW X e t):PT X e t:=h _
def PA (X:Cx)(es:List Expr)(t:TA):Prop:=
 ∀(pos:Pos) (pins:List (Addr×Obj)) (s:Shared) (σ:St) (H:Hp) (Q:List V->Hp->Prop),Inv X pins σ H s->t σ H Q->wpAny (model X.prog X.w) X.A (spliced (backTo pos (starEach es X.env))) (AP X pins σ Q) X.xe s
def PS (X:Cx)(st:Stmt)(t:TS):Prop:=
 ∀(pins:List (Addr×Obj)) (s:Shared) (σ:St) (H:Hp) (D:Ends),Inv X pins σ H s->t D σ H->wpAny (model X.prog X.w) X.A (exec st X.env) (SP X pins D) X.xe s
def PSs (X:Cx)(st:List Stmt)(t:TS):Prop:=
 ∀(pins:List (Addr×Obj)) (s:Shared) (σ:St) (H:Hp) (D:Ends),Inv X pins σ H s->t D σ H->wpAny (model X.prog X.w) X.A (execs st X.env) (SP X pins D) X.xe s
theorem thn {α:Type}{t:Sem α}{Q B:α->Shared->Prop}{M:Model}{A:Around}{E:Value->Shared->Prop}{s:Shared}(h:wpAny M A t Q E s)(L:∀a s,Q a s->B a s):wpAny M A t B E s:=vc h L fun _ _ x=>x
section
variable {X:Cx}
def tVar (i:Nat):TE:=fun σ H Q=>∃v,σ[i]? =some (some v)/\Q v H
def tC (v:V):TE:=fun _ H Q=>Q v H
theorem pe_var {i:Nat}{x:Str}{pos:Pos}(U:X.N[i]? =some x)(Y:Vis X.env.scope x)(hd:(x==("__debug__":Str))=false:=by decide)(M:(x==("__classdict__":Str))=false:=by decide):PE X (.Name x pos) (tVar i):=by
 intro pins s σ H Q I h;obtain⟨v,e,h⟩:=h;obtain⟨m,hn,Z⟩:=I.loc;obtain⟨u,r,l⟩:=Z i x v U e Y;have L:EP X pins σ Q u s:=⟨v,H,I,r,h⟩;rcases l with⟨hk,hm⟩|⟨hk,c,O,B⟩
 ·exact wpAny_Name (wpAny_loadName_local I.ok.kind hk hn hm L) hd
 ·rcases hk with hk|hk
  ·exact wpAny_Name (wpAny_loadName_cell I.ok.kind hk O B L) hd
  ·exact wpAny_Name (wpAny_loadName_free I.ok.kind hk O B L M) hd
theorem qg {i j pos}:PE X (.Constant (.int i) j pos) (tC (.int i)):=fun _ _ _ H _ I h=>wpAny_Constant_int ⟨.int i,H,I.tok _,⟨_,rfl⟩,h⟩
theorem QI {b j pos}:PE X (.Constant (.bool b) j pos) (tC (.bl b)):=fun _ _ _ H _ I h=>Constant_bool ⟨.bl b,H,I,rfl,h⟩
theorem Qh {j pos}:PE X (.Constant .none j pos) (tC .non):=fun _ _ _ H _ I h=>Constant_none ⟨.non,H,I,rfl,h⟩
theorem qF {x j pos}:PE X (.Constant (.str x) j pos) (tC (.str x)):=fun _ _ _ H _ I h=>Calls.Constant_str ⟨.str x,H,I.tok _,⟨_,rfl⟩,h⟩
def Gl (X:Cx)(x:Str):Prop:=X.env.kindOf x=some .globalImplicit
theorem J5 {E:Value->Shared->Prop}{pins:List (Addr×Obj)}{s:Shared}{σ:St}{H:Hp}{x:Str}{u:Value}{pos:Pos}{Q:Value->Shared->Prop}(I:Inv X pins σ H s)(B:Gl X x)(hm:X.mg x=some u)(h:Q u s)
  (hd:(x==("__debug__":Str))=false:=by decide):wpAny (model X.prog X.w) X.A (eval (.Name x pos) X.env) Q E s:=
 Calls.Name_function_global I.ok.kind B (Calls.loadGlobal_global (by rw [I.ok.glob];exact I.mod.glob.keeps I.bk) hm h) hd
theorem jU {E:Value->Shared->Prop}{pins:List (Addr×Obj)}{s:Shared}{σ:St}{H:Hp}{x:Str}{u:Value}{pos:Pos}{Q:Value->Shared->Prop}(I:Inv X pins σ H s)(B:Gl X x)(hm:X.mg x=none)(L:bootBuiltins x=some u)(h:Q u s)
  (hn:x≠"__name__":=by decide) (hd:(x==("__debug__":Str))=false:=by decide):wpAny (model X.prog X.w) X.A (eval (.Name x pos) X.env) Q E s:=by
 obtain⟨mb,h1,h2⟩:=I.mod.blt;exact Calls.Name_function_global I.ok.kind B (Calls.loadGlobal_builtin (by rw [I.ok.glob];exact I.mod.glob.keeps I.bk) hm (by rw [I.ok.blt];exact h1.keeps I.bk) ((h2 x hn).trans L) h) hd
theorem pe_glob {x:Str}{v:V}{u:Value}{pos:Pos}(B:Gl X x)(hm:X.mg x=some u)(r:RelV v u)(hd:(x==("__debug__":Str))=false:=by decide):PE X (.Name x pos) (tC v):=
 fun _ _ _ H _ I h=>J5 I B hm ⟨v,H,I,r,h⟩ hd
theorem Q5 {x:Str}{v:V}{u:Value}{pos:Pos}(B:Gl X x)(hm:X.mg x=none)(L:bootBuiltins x=some u)(r:RelV v u)(hn:x≠"__name__":=by decide)(hd:(x==("__debug__":Str))=false:=by decide):PE X (.Name x pos) (tC v):=
 fun _ _ _ H _ I h=>jU I B hm L ⟨v,H,I,r,h⟩ hn hd
variable {a b:Expr}{ta tb:TE}{pos:Pos}
def PC (X:Cx)(op:CmpOp)(a b:Expr)(t:TE):Prop:=
 ∀(pins:List (Addr×Obj)) (s:Shared) (σ:St) (H:Hp) (Q:VK),Inv X pins σ H s->t σ H Q->
  wpAny (model X.prog X.w) X.A (eval a X.env) (fun v s₁=>wpAny (model X.prog X.w) X.A (eval b X.env) (fun u s₂=>wpAny (model X.prog X.w) X.A (compareOp op v u) (EP X pins σ Q) X.xe s₂) X.xe s₁) X.xe s
def tB (t:TE):TT:=fun σ H Q=>t σ H fun x H1=>∃c,x= .bl c/\Q c H1
theorem pt_cmp {op:CmpOp}{t:TE}(h:PC X op a b t)(h1:behindInMarks op b=false:=by first|exact nobehind _ (by decide) (by decide)|rfl):PT X (.Compare a [op] [b] pos) (tB t):=by
 intro pins s σ H Q I B;refine wpAny_isTrue_Compare1 (thn (h pins s σ H _ I B) fun v s1 h1=>thn h1 fun u s2 h2=>thn h2 fun c O ⟨x,H1,L,M,q1⟩=> ?_) h1;obtain⟨d,rfl,q⟩:=q1;cases M;exact uG ⟨H1,L,q⟩
theorem Qx {e:Expr}{t:TE}(h:PE X e t)(L:∀B,isTrue e X.env B=(do let v<-B;standAt e.pos;holding [v] (truthy v)):=by intro _;rfl):PT X e (tB t):=by
 intro pins s σ H Q I M;refine isTrue_plain (thn (h pins s σ H _ I M) fun v s1 ⟨x,H1,O,U,q1⟩=> ?_) (L _);obtain⟨d,rfl,q⟩:=q1;cases U;exact uG ⟨H1,O,q⟩
variable {tA tB':TT}{rest:List Expr}
def tAnd (t u:TT):TT:=fun σ H Q=>t σ H fun c H1=>if c=true then u σ H1 Q else Q false H1
def tOr (t u:TT):TT:=fun σ H Q=>t σ H fun c H1=>if c=true then Q true H1 else u σ H1 Q
def tNot (t:TT):TT:=fun σ H Q=>t σ H fun c H1=>Q (!c) H1
theorem pw_and1 (ha:PT X a tA):PW X (.BoolOp .And [a] pos) tA:=by
 intro B pins s σ H Q I h;refine isTrue_and (thn (ha pins s σ H Q I h) fun c s1 e=> ?_);cases c with
 |true=>exact isTrue_and_nil e
 |false=>exact e
theorem Yz (ha:PT X a tA):PW X (.BoolOp .Or [a] pos) tA:=by
 intro B pins s σ H Q I h;refine isTrue_or (thn (ha pins s σ H Q I h) fun c s1 e=> ?_);cases c with
 |false=>exact isTrue_or_nil e
 |true=>exact e
theorem pw_and (ha:PT X a tA)(L:PW X (.BoolOp .And (b::rest) pos) tB'):PW X (.BoolOp .And (a::b::rest) pos) (tAnd tA tB'):=by
 intro M pins s σ H Q I h;refine isTrue_and (thn (ha pins s σ H _ I h) fun c s1 ⟨H1,B,q1⟩=> ?_);cases c with
 |true=>exact L M pins s1 σ H1 Q B q1
 |false=>exact⟨H1,B,q1⟩
theorem j5 (ha:PT X a tA)(L:PW X (.BoolOp .Or (b::rest) pos) tB'):PW X (.BoolOp .Or (a::b::rest) pos) (tOr tA tB'):=by
 intro M pins s σ H Q I h;refine isTrue_or (thn (ha pins s σ H _ I h) fun c s1 ⟨H1,B,q1⟩=> ?_);cases c with
 |true=>exact⟨H1,B,q1⟩
 |false=>exact L M pins s1 σ H1 Q B q1
theorem yx (ha:PT X a tA):PT X (.UnaryOp .Not a pos) (tNot tA):=by
 intro pins s σ H Q I h;exact isTrue_not (ha pins s σ H (fun c H1=>Q (!c) H1) I h)
def tAndV (ta tb:TE):TE:=fun σ H Q=>ta σ H fun x H1=>∃c,x= .bl c/\if c=true then tb σ H1 Q else Q (.bl false) H1
def tOrV (ta tb:TE):TE:=fun σ H Q=>ta σ H fun x H1=>∃c,x= .bl c/\if c=true then Q (.bl true) H1 else tb σ H1 Q
def tNotV (ta:TE):TE:=fun σ H Q=>ta σ H fun x H1=>∃c,x= .bl c/\Q (.bl (!c)) H1
theorem xj {op}{t:TE}(h:PE X a t):PE X (.BoolOp op [a] pos) t:=fun pins s σ H Q I B=>BoolOp_one (h pins s σ H Q I B)
theorem JR (ha:PE X a ta)(L:PE X (.BoolOp .And (b::rest) pos) tb):PE X (.BoolOp .And (a::b::rest) pos) (tAndV ta tb):=by
 intro pins s σ H Q I h;refine BoolOp_and (thn (ha pins s σ H _ I h) fun v s1 ⟨x,H1,B,M,q1⟩=> ?_);obtain⟨c,rfl,q1⟩:=q1;cases M;refine uG ?_;cases c with
 |true=>exact L pins s1 σ H1 Q B q1
 |false=>exact⟨.bl false,H1,B,rfl,q1⟩
theorem pe_or (ha:PE X a ta)(L:PE X (.BoolOp .Or (b::rest) pos) tb):PE X (.BoolOp .Or (a::b::rest) pos) (tOrV ta tb):=by
 intro pins s σ H Q I h;refine BoolOp_or (thn (ha pins s σ H _ I h) fun v s1 ⟨x,H1,B,M,q1⟩=> ?_);obtain⟨c,rfl,q1⟩:=q1;cases M;refine uG ?_;cases c with
 |false=>exact L pins s1 σ H1 Q B q1
 |true=>exact⟨.bl true,H1,B,rfl,q1⟩
theorem pe_not (ha:PE X a ta):PE X (.UnaryOp .Not a pos) (tNotV ta):=by
 intro pins s σ H Q I h;refine UnaryOp_ (thn (ha pins s σ H _ I h) fun v s1 ⟨x,H1,B,L,q1⟩=> ?_);obtain⟨c,rfl,q1⟩:=q1;cases L;exact not_of (uG ⟨.bl (!c),H1,B,rfl,q1⟩)
def tIf (t:TT)(ta tb:TE):TE:=fun σ H Q=>t σ H fun c H1=>if c=true then ta σ H1 Q else tb σ H1 Q
theorem pe_ifExp {c:Expr}(L:PT X c tA)(ha:PE X a ta)(M:PE X b tb):PE X (.IfExp c a b pos) (tIf tA ta tb):=by
 intro pins s σ H Q I h;refine wpAny_IfExp (thn (L pins s σ H _ I h) fun d s1 ⟨H1,B,q1⟩=> ?_);cases d with
 |true=>exact ha pins s1 σ H1 Q B q1
 |false=>exact M pins s1 σ H1 Q B q1
end
def SqL (K:PySem.W.Frag)(H:Hp)(a:Addr)(xs:List V):Prop:=
 Rd H a (.lst xs)∨
  ∃(o:Obj) (its:Array Value) (n:Nat),K.lookup a=some o/\o.cls= .type "list"/\o.dict=none/\o.data= .seq its n/\its.size<=sizeLine/\Vals xs its.toList
def SqT (K:PySem.W.Frag)(H:Hp)(a:Addr)(xs:List V):Prop:=
 Rd H a (.tup xs)∨
  ∃(o:Obj) (its:Array Value) (n:Nat),K.lookup a=some o/\o.cls= .type "tuple"/\o.data= .seq its n/\its.size<=sizeLine/\Vals xs its.toList
noncomputable def absV:Value->Option V
 | .none=>some .non
 | .bool b=>some (.bl b)
 | .int i _=>some (.int i)
 | .str x _=>some (.str x)
 | .bytes b _=>some (.byt b)
 | .float b _=>some (.flt b)
 | .ref a=>some (.ref a)
 | .type n=>some (.ty n)
 |_=>none
theorem RelV.abs {x:V}{u:Value}(r:RelV x u):absV u=some x:=by
 cases x with
 |non=>cases r;rfl
 |bl _=>cases r;rfl
 |int _=>obtain⟨t,rfl⟩:=r;rfl
 |str _=>obtain⟨t,rfl⟩:=r;rfl
 |byt _=>obtain⟨t,rfl⟩:=r;rfl
 |flt _=>obtain⟨t,rfl⟩:=r;rfl
 |ref _=>cases r;rfl
 |ty _=>cases r;rfl
theorem RelV.inj {x y:V}{u:Value}(r:RelV x u)(q:RelV y u):x=y:=uo (r.abs.symm.trans q.abs)
theorem Vals.inj:∀{xs ys:List V}{us:List Value},Vals xs us->Vals ys us->xs=ys
 |_,_,_,.nil,.nil=>rfl
 |_,_,_,.cons r t,.cons r' t'=>by rw [r.inj r',Vals.inj t t']
section
variable {X:Cx}{pins:List (Addr×Obj)}{σ:St}{H:Hp}{s:Shared}{a:Addr}{xs ys:List V}
theorem SqL.of {K:PySem.W.Frag}(h:H a=some (.lst xs)):SqL K H a xs:= .inl (.inl h)
theorem SqT.of {K:PySem.W.Frag}(h:H a=some (.tup xs)):SqT K H a xs:= .inl (.inl h)
theorem Inv.list (I:Inv X pins σ H s)(h:SqL X.K H a xs):∃its:List Value,Vals xs its/\PlainL s.heap a its.toArray/\xs.length<=sizeLine:=by
 rcases h with h|⟨o,its,n,hk,B,hd,L,hz,r⟩
 ·obtain⟨z,its,n,r,e⟩:=h.ok I.hok;exact⟨its,r,⟨_,n,e,rfl,rfl,rfl⟩,z⟩
 ·refine⟨its.toList,r,⟨o,n,I.kIn a o hk,B,hd,by simpa using L⟩,?_⟩
  have e:=r.length;simp only [Array.length_toList] at e;omega
theorem Inv.tuple (I:Inv X pins σ H s)(h:SqT X.K H a xs):∃its:List Value,Vals xs its/\IsTup s.heap a its.toArray/\xs.length<=sizeLine:=by
 rcases h with h|⟨o,its,n,hk,B,L,hz,r⟩
 ·obtain⟨z,its,r,p⟩:=h.ok I.hok;exact⟨its,r,p,z⟩
 ·refine⟨its.toList,r,⟨o,I.kIn a o hk,B,n,by simpa using L⟩,?_⟩
  have e:=r.length;simp only [Array.length_toList] at e;omega
theorem Inv.list_inj (I:Inv X pins σ H s)(h:SqL X.K H a xs)(h':SqL X.K H a ys):xs=ys:=by
 obtain⟨its,r,⟨o,n,e,_,_,d⟩,_⟩:=I.list h;obtain⟨its',r',⟨o',M,B,_,_,d'⟩,_⟩:=I.list h';rw [e] at B;cases B;rw [d] at d';injection d' with L _
 have:its=its':=by simpa using congrArg Array.toList L
 subst this;exact r.inj r'
theorem Inv.tuple_inj (I:Inv X pins σ H s)(h:SqT X.K H a xs)(h':SqT X.K H a ys):xs=ys:=by
 obtain⟨its,r,⟨o,e,_,n,d⟩,_⟩:=I.tuple h;obtain⟨its',r',⟨o',B,_,M,d'⟩,_⟩:=I.tuple h';rw [e] at B;cases B;rw [d] at d';injection d' with L _
 have:its=its':=by simpa using congrArg Array.toList L
 subst this;exact r.inj r'
end
abbrev Cx.wish (X:Cx)(E:Value->Shared->Prop):Cx:={X with xe:=E}
abbrev Cx.nox (X:Cx):Cx:=X.wish fun _ _=>False
theorem Cx.Ok.wish {X:Cx}(ok:X.Ok)(E:Value->Shared->Prop):(X.wish E).Ok:=
 ⟨ok.mod,ok.kind,ok.glob,ok.blt,ok.above,ok.inj,ok.has,ok.cab,ok.hd,ok.frames,ok.stk,ok.exf,ok.bs,ok.bsz,ok.noex,ok.exfs,ok.funs,ok.frf⟩
theorem Cx.Ok.unwish {X:Cx}{E:Value->Shared->Prop}(ok:(X.wish E).Ok):X.Ok:=
 ⟨ok.mod,ok.kind,ok.glob,ok.blt,ok.above,ok.inj,ok.has,ok.cab,ok.hd,ok.frames,ok.stk,ok.exf,ok.bs,ok.bsz,ok.noex,ok.exfs,ok.funs,ok.frf⟩
section
variable {X:Cx}{pins:List (Addr×Obj)}{σ:St}{H:Hp}{s:Shared}{E:Value->Shared->Prop}
theorem Inv.wish (I:Inv X pins σ H s)(E:Value->Shared->Prop):Inv (X.wish E) pins σ H s:=⟨I.ok.wish E,I.os,I.bare,I.base,I.loc,I.cell,I.free,I.freeC,I.pin,I.hok,I.len,I.tk⟩
theorem Inv.unwish (I:Inv (X.wish E) pins σ H s):Inv X pins σ H s:=⟨I.ok.unwish,I.os,I.bare,I.base,I.loc,I.cell,I.free,I.freeC,I.pin,I.hok,I.len,I.tk⟩
theorem SP.unwish {D:Ends}{f:Flow}{s':Shared}(h:SP (X.wish E) pins D f s'):SP X pins D f s':=by
 cases f with
 |next=>obtain⟨B,H',I,q⟩:=h;exact⟨B,H',I.unwish,q⟩
 |brk=>obtain⟨B,H',I,q⟩:=h;exact⟨B,H',I.unwish,q⟩
 |cont=>obtain⟨B,H',I,q⟩:=h;exact⟨B,H',I.unwish,q⟩
 |ret u=>obtain⟨v,B,H',I,r,q⟩:=h;exact⟨v,B,H',I.unwish,r,q⟩
theorem PSs.nox {st:List Stmt}{t:TS}(h:PSs X.nox st t):PSs X st t:=fun pins s σ H D I hw=>
 vc (h pins s σ H D (I.wish _) hw) (fun _ _ q=>q.unwish) fun _ _ z=>False.elim z
end
section
variable {X:Cx}{st:Stmt}{rest:List Stmt}{t u:TS}{e:Expr}{te:TE}{pos:Pos}
def tNext:TS:=fun D σ H=>D.nx σ H
def tSeq (t u:TS):TS:=fun D σ H=>t {D with nx:=u D} σ H
theorem qr:PSs X [] tNext:=fun _ _ σ H _ I h=>wpAny_execs_nil ⟨σ,H,I,h⟩
theorem qd (h1:PS X st t)(h2:PSs X rest u):PSs X (st::rest) (tSeq t u):=by
 intro pins s σ H D I h;refine wpAny_execs_cons (thn (h1 pins s σ H {D with nx:=u D} I h) fun f s1 q=> ?_)
 cases f with
 |next=>
  obtain⟨B,H',L,q⟩:=q;exact h2 pins s1 B H' D L q
 |ret v=>exact q
 |brk=>exact q
 |cont=>exact q
theorem qf (h1:PS X st t):PSs X [st] t:=by
 intro pins s σ H D I h;refine wpAny_execs_cons (thn (h1 pins s σ H D I h) fun f s1 q=> ?_);cases f with
 |next=>exact wpAny_execs_nil q
 |ret v=>exact q
 |brk=>exact q
 |cont=>exact q
theorem Inv.quiet {pins:List (Addr×Obj)}{σ:St}{H:Hp}{s:Shared}(I:Inv X pins σ H s):interactive X.env=false:=by simp [interactive,I.ok.kind]
def tDrop (te:TE):TS:=fun D σ H=>te σ H fun _ H1=>D.nx σ H1
theorem QY (B:PE X e te)(L:swapsWith e none pos.line X.env=pure false:=by rfl):PS X (.Expr e pos) (tDrop te):=by
 intro pins s σ H D I h;exact wpAny_Expr_any (thn (B pins s σ H _ I h) fun v s1 ⟨x,H1,M,O,q1⟩=>⟨σ,H1,M,q1⟩) I.quiet L
def tRet (te:TE):TS:=fun D σ H=>te σ H D.rt
theorem qo (B:PE X e te):PS X (.Return (some e) pos) (tRet te):=by
 intro pins s σ H D I h;exact wpAny_Return_some (thn (B pins s σ H _ I h) fun v s1 ⟨x,H1,L,M,q1⟩=>⟨x,σ,H1,L,M,q1⟩)
def tRetN:TS:=fun D _ H=>D.rt .non H
theorem ps_retN:PS X (.Return none pos) tRetN:=fun _ _ σ H _ I h=>wpAny_Return_none ⟨.non,σ,H,I,rfl,h⟩
def tIfS (c:TT)(t u:TS):TS:=fun D σ H=>c σ H fun b H1=>if b=true then t D σ H1 else u D σ H1
theorem qN {c:Expr}{a b:List Stmt}{tc:TT}(L:PT X c tc)(ha:PSs X a t)(M:PSs X b u):PS X (.If c a b pos) (tIfS tc t u):=by
 intro pins s σ H D I h;refine wpAny_If (thn (L pins s σ H _ I h) fun d s1 ⟨H1,B,q1⟩=> ?_);cases d with
 |true=>exact ha pins s1 σ H1 D B q1
 |false=>exact M pins s1 σ H1 D B q1
end
abbrev TG:=V->St->Hp->(St->Hp->Prop)->Prop
abbrev TGs:=List V->St->Hp->(St->Hp->Prop)->Prop
def PG (X:Cx)(target:Expr)(t:TG):Prop:=
 ∀(pins:List (Addr×Obj)) (s:Shared) (σ:St) (H:Hp) (v:V) (u:Value) (Q:St->Hp->Prop),Inv X pins σ H s->RelV v u->t v σ H Q->
  wpAny (model X.prog X.w) X.A (assign target X.env u) (fun _ s'=>∃σ' H',Inv X pins σ' H' s'/\Q σ' H') X.xe s
def PGs (X:Cx)(ts:List Expr)(t:TGs):Prop:=
 ∀(pins:List (Addr×Obj)) (s:Shared) (σ:St) (H:Hp) (vs:List V) (us:List Value) (Q:St->Hp->Prop),Inv X pins σ H s->Vals vs us->t vs σ H Q->
  wpAny (model X.prog X.w) X.A (assignInOrder ((assignEach ts X.env).map (·.2)) us) (fun _ s'=>∃σ' H',Inv X pins σ' H' s'/\Q σ' H') X.xe s
abbrev TSet:=V->V->V->Hp->(Hp->Prop)->Prop
def PSet (X:Cx)(t:TSet):Prop:=
 ∀(pins:List (Addr×Obj)) (s:Shared) (σ:St) (H:Hp) (o i v:V) (ov iv u:Value) (Q:Hp->Prop),Inv X pins σ H s->RelV o ov->RelV i iv->RelV v u->t o i v H Q->
  wpAny (model X.prog X.w) X.A (setItem ov iv u) (fun _ s'=>∃H',Inv X pins σ H' s'/\Q H') X.xe s
abbrev TIp:=V->V->Hp->VK->Prop
def PIp (X:Cx)(op:Operator)(t:TIp):Prop:=
 ∀(pins:List (Addr×Obj)) (s:Shared) (σ:St) (H:Hp) (x y:V) (v u:Value) (Q:VK),Inv X pins σ H s->RelV x v->RelV y u->t x y H Q->
  wpAny (model X.prog X.w) X.A (inplaceOp op v u) (EP X pins σ Q) X.xe s
section
variable {X:Cx}{pos:Pos}
def JB (i:Nat):TG:=fun v σ H Q=>Q (σ.set i (some v)) H
theorem qw {i:Nat}{x:Str}(B:X.N.Nodup)(hi:X.N[i]? =some x)(hx:Loc X.env.scope x)(L:X.fn x=true∨X.env.scope.names.lookup x=some .local:=by first|exact .inl rfl|exact .inr rfl|assumption):PG X (.Name x pos) (JB i):=by
 intro pins s σ H v u Q I r h;exact wpAny_assign_Name (XX I B hi hx r (fun s' M=>⟨_,H,M,h⟩) L)
def gNil:TGs:=fun vs σ H Q=>vs= []/\Q σ H
def gCons (t:TG)(u:TGs):TGs:=fun vs σ H Q=>∃v r,vs=v::r/\t v σ H fun σ' H'=>u r σ' H' Q
theorem yF:PGs X [] gNil:=by
 intro pins s σ H vs us Q I r h;obtain⟨e,h⟩:=h;subst e;cases r;exact assignInOrder_nil ⟨σ,H,I,h⟩
theorem qI {e:Expr}{es:List Expr}{t:TG}{u:TGs}(h1:PG X e t)(h2:PGs X es u)
  (B:(assignEach (e::es) X.env).map (·.2)=assign e X.env::(assignEach es X.env).map (·.2):=by rfl):PGs X (e::es) (gCons t u):=by
 intro pins s σ H vs us Q I r h;obtain⟨v,Y,L,h⟩:=h;subst L;cases r with
 |cons r M=>
  rw [B];refine assignInOrder_cons (thn (h1 pins s σ H _ _ _ I r h) fun _ s1 ⟨O,H1,U,q1⟩=> ?_);exact h2 pins s1 O H1 _ _ Q U M q1
def gTup (K:PySem.W.Frag)(n:Nat)(t:TGs):TG:=fun v σ H Q=>∃a xs,v= .ref a/\SqT K H a xs/\xs.length=n/\t xs σ H Q
theorem jb {es:List Expr}{k:Nat}{t:TGs}{n:Nat}(O:X.calm=true)(h:PGs X es t)
  (hn:(assignEach es X.env).length=n:=by rfl) (B:(assignEach es X.env).findIdx? (·.1)=none:=by rfl):PG X (.Tuple es k pos) (gTup X.K n t):=by
 intro pins s σ H v u Q I r L;obtain⟨a,xs,U,hq,Y,L⟩:=L;subst U;cases r;obtain⟨its,M,Z,hz⟩:=I.tuple hq;refine assign_Tuple_tuple (I.ok.hd O) Z (by simp [hn,<-Y,M.length]) B fun h' hx=> ?_
 have I1:Inv X pins σ H {s with heap:=h'}:=I.kept (t':=s.toks) fun b o e=>hx b o (uy (uh e)) e
 exact h pins _ σ H xs _ Q I1 (by simpa using M) L
def gSub (to ti:TE)(t:TSet):TG:=fun v σ H Q=>to σ H fun o H1=>ti σ H1 fun i H2=>t o i v H2 fun H3=>Q σ H3
theorem pg_sub {o i:Expr}{to L:TE}{t:TSet}(M:PE X o to)(hi:PE X i L)(O:PSet X t)
  (ha:∀v,assign (.Subscript o i pos) X.env v=(do
   let B<-holding [v] (eval o X.env)
   let iv<-holding [v,B] (eval i X.env)
   standAt pos
   holding [v,B,iv] (setItem B iv v)
   release [v,B,iv] []):=by intro _;rfl):PG X (.Subscript o i pos) (gSub to L t):=by
 intro pins s σ H v u Q I r h;rw [ha];refine wpAny_bind (uA (thn (M pins s σ H _ I h) fun B s1 ⟨x,H1,U,Y,q1⟩=> ?_));refine wpAny_bind (uA (thn (hi pins s1 σ H1 _ U q1) fun iv s2 ⟨y,H2,Z,r2,q2⟩=> ?_));refine wpAny_bind (wpAny_standAt (wpAny_bind (uA (thn (O pins s2 σ H2 x y v B iv u _ Z Y r2 r q2) fun _ s3 ⟨H3,I3,q3⟩=> ?_))));exact wpAny_release ⟨σ,H3,I3,q3⟩
def tAsg (te:TE)(g:TG):TS:=fun D σ H=>te σ H fun x H1=>g x σ H1 D.nx
theorem xu {tg e:Expr}{te:TE}{g:TG}(B:PE X e te)(L:PG X tg g)(M:swapsWithSole [tg] e pos.line X.env=pure false:=by rfl)(O:swappedStores [tg] e X.env=pure none:=by rfl)
  (h1:(assignEach [tg] X.env).map (·.2)= [assign tg X.env]:=by rfl):PS X (.Assign [tg] e pos) (tAsg te g):=by
 intro pins s σ H D I h;refine wpAny_Assign_stores (thn (B pins s σ H _ I h) fun v s1 ⟨x,H1,U,Y,q1⟩=> ?_) M O;rw [h1];exact thn (L pins s1 σ H1 x v _ U Y q1) fun _ s2 q=>q
theorem qE {i:Nat}{x:Str}{e:Expr}{te:TE}{pos':Pos}(B:X.N.Nodup)(hi:X.N[i]? =some x)(hx:Loc X.env.scope x)(L:PE X e te)(M:swapsWith e (some (.Name x pos')) pos.line X.env=pure false:=by rfl)(O:X.fn x=true∨X.env.scope.names.lookup x=some .local:=by first|exact .inl rfl|exact .inr rfl|assumption):
  PS X (.Assign [.Name x pos'] e pos) (tAsg te (JB i)):=by
 intro pins s σ H D I h;refine wpAny_Assign_Name (thn (L pins s σ H _ I h) fun v s1 ⟨y,H1,U,Y,q1⟩=> ?_) M;exact XX U B hi hx Y (fun s2 Z=>⟨_,H1,Z,q1⟩) O
def tAug (i:Nat)(te:TE)(ti:TIp):TS:=fun D σ H=>∃x,σ[i]? =some (some x)/\te σ H fun y H1=>ti x y H1 fun z H2=>D.nx (σ.set i (some z)) H2
theorem ps_aug {i:Nat}{x:Str}{e:Expr}{te:TE}{op:Operator}{M:TIp}{pos':Pos}(O:X.N.Nodup)(hi:X.N[i]? =some x)(hx:Loc X.env.scope x)(U:PE X e te)(Y:PIp X op M)(Z:X.fn x=true∨X.env.scope.names.lookup x=some .local:=by first|exact .inl rfl|exact .inr rfl|assumption):
  PS X (.AugAssign (.Name x pos') op e pos) (tAug i te M):=by
 intro pins s σ H D I h;obtain⟨v,e1,h⟩:=h;obtain⟨m,hn,hl⟩:=I.loc;have L:Vis X.env.scope x:=by rcases hx with k|k;exact .inl k;exact .inr (.inl k)
 obtain⟨u,r,l⟩:=hl i x v hi e1 L;refine wpAny_AugAssign_Name ?_;have go:wpAny (model X.prog X.w) X.A (eval e X.env) (fun w s₂=>wpAny (model X.prog X.w) X.A (inplaceOp op u w) (fun r s₃=>wpAny (model X.prog X.w) X.A (storeName X.env x r) (fun _=>SP X pins D .next) X.xe s₃) X.xe s₂) X.xe s:=by
  refine thn (U pins s σ H _ I h) fun w s1 ⟨y,H1,I1,r1,q1⟩=> ?_;refine thn (Y pins s1 σ H1 v y u w _ I1 r r1 q1) fun z s2 ⟨zv,H2,I2,r2,q2⟩=> ?_;exact XX I2 O hi hx r2 (fun s3 I3=>⟨_,H2,I3,q2⟩) Z
 rcases l with⟨hk,hm⟩|⟨hk,c,hc,B⟩
 ·exact wpAny_loadName_local I.ok.kind hk hn hm go
 ·rcases hk with hk|hk
  ·exact wpAny_loadName_cell I.ok.kind hk hc B go
  ·rcases hx with k|k
   ·have:X.env.scope.names.lookup x=some .free:=hk;rw [k] at this;cases this
   ·have:X.env.scope.names.lookup x=some .free:=hk;rw [k] at this;cases this
def ipI (f:Int->Int->Int):TIp:=fun x y H Q=>∃i j,x= .int i/\y= .int j/\Q (.int (f i j)) H
theorem ip_add:PIp X .Add (ipI fun i j=>i+j):=by
 intro pins s σ H x y v u Q I B L h;obtain⟨i,j,M,O,q⟩:=h;subst M;subst O;obtain⟨t,rfl⟩:=B;obtain⟨t',rfl⟩:=L;exact iadd_int ⟨.int _,H,I.tok _,⟨_,rfl⟩,q⟩
def tWhile (c:TT)(tb:TS):TS:=fun D σ H=>∃W:Nat->St->Hp->Prop,(∃m,W m σ H)/\∀m σ H,W m σ H->
 c σ H fun b H1=>if b=true then∃N:St->Hp->Prop,(∀σ' H',N σ' H'->∃m',m'<m/\W m' σ' H')/\tb {D with nx:=N,ct:=N,bk:=D.nx} σ H1 else D.nx σ H1
theorem Xy {c:Expr}{B:List Stmt}{tc:TT}{tb:TS}(hp:PassesOwn (model X.prog X.w) X.A X.env X.xe)(hc:PT X c tc)(hb:PSs X B tb):PS X (.While c B [] pos) (tWhile tc tb):=by
 intro pins s σ H D I h;obtain⟨W,⟨m0,w0⟩,L⟩:=h;refine wpAny_While (codeAny_whileLoop (fun n s'=>∃σ' H',Inv X pins σ' H' s'/\W n σ' H') ?_ m0 ⟨σ,H,I,w0⟩);rintro n s1 ⟨U,H1,I1,w1⟩;refine Ub hp (thn (hc pins s1 U H1 _ I1 (L n U H1 w1)) fun b s2 ⟨H2,I2,Y⟩=> ?_);cases b with
 |true=>
  obtain⟨N,hN,Y⟩:=Y;rw [if_pos rfl];refine Ub hp (thn (hb pins s2 U H2 _ I2 Y) fun f s3 Z=> ?_);cases f with
  |next=>
   obtain⟨M,O,I3,n3⟩:=Z;obtain⟨m',hm,w3⟩:=hN M O n3;exact⟨m',hm,M,O,I3,w3⟩
  |cont=>
   obtain⟨M,O,I3,n3⟩:=Z;obtain⟨m',hm,w3⟩:=hN M O n3;exact⟨m',hm,M,O,I3,w3⟩
  |brk=>exact Z
  |ret v=>exact Z
 |false=>
  rw [if_neg ug];exact wpAny_execs_nil ⟨U,H2,I2,Y⟩
end
structure It where
 go:Nat->Hp->Prop
 yld:Nat->Hp->V->Hp->Prop
 stop:Nat->Hp->Prop
def FpOk (X:Cx)(pins:List (Addr×Obj))(H:Hp)(b:Addr):Prop:=
 H b=none/\b≠X.env.locals/\b∉X.fs/\(b∈X.ex∨X.s₀.heap.objs.size<=b)/\(∀x c,X.env.cells.lookup x=some c->c≠b)/\∀p∈X.pn++pins,p.1≠b
theorem Inv.fpOk {X:Cx}{pins:List (Addr×Obj)}{σ:St}{H H':Hp}{s:Shared}{b:Addr}(I:Inv X pins σ H s)(B:s.heap.objs.size<=b)(hn:H' b=none):FpOk X pins H' b:=by
 refine⟨hn,V3 (Nat.lt_of_lt_of_le I.lt B),I.nofs B,.inr (v8 I.sz B),fun x c e z=> ?_,fun p L z=> ?_⟩
 ·obtain⟨v,q⟩:=I.cell x c e;exact absurd (Nat.lt_of_lt_of_le q.lt (by rw [z];exact B)) (vH _)
 ·exact absurd (Nat.lt_of_lt_of_le (uh (I.pin p L).1) (by rw [z];exact B)) (vH _)
structure Turn (P:Program)(w:World)(K:PySem.W.Frag)(tg:Expr)(J:It)(fp:List Addr)(it:Addr)(tn:Nat->Heap->Prop):Prop where
 mem:it∈fp
 obj:∀i h,tn i h->∀b∈fp,∃o,h.get? b=some o/\∀v,o.data≠ .cell v
 keep:∀i h h',tn i h->(∀b∈fp,∀o,h.get? b=some o->h'.get? b=some o)->tn i h'
 item:∀(X:Cx),X.prog=P->X.w=w->X.K=K->X.calm=true->∀(i:Nat) (pins:List (Addr×Obj)) (s:Shared) (σ:St) (H:Hp) (E:Value->Shared->Prop),Inv X pins σ H s->(∀b∈fp,FpOk X pins H b)->tn i s.heap->J.go i H->
  wpAny (model P w) X.A (pyNext (.ref it)) (fun r s1=>∃u,r=some u/\
   wpAny (model P w) X.A (letOwnedTupleGo tg (.ref it) u) (fun _ s2=>∃x H',Inv X pins σ H' s2/\RelV x u/\J.yld i H x H'/\tn (i+1) s2.heap/\∀b∈fp,H' b=none) E s1) E s
 done:∀(X:Cx),X.prog=P->X.w=w->X.K=K->X.calm=true->∀(i:Nat) (pins:List (Addr×Obj)) (s:Shared) (σ:St) (H:Hp) (E:Value->Shared->Prop),Inv X pins σ H s->(∀b∈fp,FpOk X pins H b)->tn i s.heap->J.stop i H->
  wpAny (model P w) X.A (pyNext (.ref it)) (fun r s1=>r=none/\Inv X pins σ H s1) E s
 self:∀(A:Around) (i:Nat) (s:Shared) (Q:Value->Shared->Prop) (E:Value->Shared->Prop),tn i s.heap->Q (.ref it) s->wpAny (model P w) A (pyIter (.ref it)) Q E s
abbrev TI:=St->Hp->(It->Hp->Prop)->Prop
def PIE (X:Cx)(pins:List (Addr×Obj))(σ:St)(tg:Expr)(R:It->Hp->Prop)(itv:Value)(s2:Shared):Prop:=
 ∃(it:Addr) (fp:List Addr) (tn:Nat->Heap->Prop) (J:It) (H':Hp),itv= .ref it/\Inv X pins σ H' s2/\Turn X.prog X.w X.K tg J fp it tn/\tn 0 s2.heap/\(∀b∈fp,FpOk X pins H' b)/\R J H'
def PI (X:Cx)(tg iter:Expr)(wi:TI):Prop:=
 ∀(pins:List (Addr×Obj)) (s:Shared) (σ:St) (H:Hp) (R:It->Hp->Prop),Inv X pins σ H s->wi σ H R->
  wpAny (model X.prog X.w) X.A (eval iter X.env) (fun v s1=>wpAny (model X.prog X.w) X.A (pyIter v) (PIE X pins σ tg R) X.xe s1) X.xe s
theorem go_of {M:Model}{A:Around}{E:Value->Shared->Prop}{s:Shared}{tg:Expr}{it:Addr}{u:Value}{o:Obj}{n:String}{vs:Array Value}{Q:Unit->Shared->Prop}(L:s.heap.get? it=some o)(O:o.cls= .type n)(hd:o.data= .fields vs)
  (hn: ["enumerate","zip","dict_itemiterator","dict_reverseitemiterator","odict_iterator","itertools.zip_longest","itertools.pairwise"].contains n=false) (B:Q Unit.unit s):wpAny M A (letOwnedTupleGo tg (.ref it) u) Q E s:=by
 unfold letOwnedTupleGo;cases tg<;>first
  |exact wpAny_pure B
  |(cases u<;>first
    |exact wpAny_pure B
    |(refine wpAny_bind (wpAny_load L ?_)
      rw [O,hd];show wpAny M A (if(["enumerate","zip","dict_itemiterator","dict_reverseitemiterator","odict_iterator","itertools.zip_longest","itertools.pairwise"].contains n&&vs[0]? ==some (rawInt _))=true then _ else _) Q E s
      rw [if_neg (by intro h;rw [hn,Bool.false_and] at h;cases h)]
      exact wpAny_pure B))
def Itl (K:PySem.W.Frag)(a:Addr):It:=
 ⟨fun i H=>∃xs x,SqL K H a xs/\xs[i]? =some x,fun i H x H'=>H'=H/\∀xs,SqL K H a xs->xs[i]? =some x,fun i H=>∃xs,SqL K H a xs/\xs.length<=i⟩
def Itt (K:PySem.W.Frag)(a:Addr):It:=
 ⟨fun i H=>∃xs x,SqT K H a xs/\xs[i]? =some x,fun i H x H'=>H'=H/\∀xs,SqT K H a xs->xs[i]? =some x,fun i H=>∃xs,SqT K H a xs/\xs.length<=i⟩
def Itr (lo:Int)(n:Nat):It:=⟨fun i _=>i<n,fun i H x H'=>H'=H/\x= .int (lo+i),fun i _=>n<=i⟩
theorem turn_list {P:Program}{w:World}{K:PySem.W.Frag}{tg:Expr}(a it:Addr):Turn P w K tg (Itl K a) [it] it (fun i h=>h.IsListIter it a i) where
 mem:=by simp
 obj:=fun i h st b B=>by
  have e:b=it:=by simpa using B
  subst e;obtain⟨o,e,c,d⟩:=st;exact⟨o,e,fun v z=>by rw [d] at z;cases z⟩
 keep:=fun i h h' st k=>st.at fun o e=>k it (by simp) o e
 item:=by
  intro X O U Y hc i pins s σ H E I M st Z;subst O U Y;obtain⟨xs,x,hq,hx⟩:=Z;obtain⟨its,rv,p,hz⟩:=I.list hq;obtain⟨u,hu,ru⟩:=rv.get hx;obtain⟨f0,f1,f2,f3,f4,f5⟩:=M it (by simp)
  refine wpAny_pyNext_list_item st p.isList (x:=u) (by simpa using hu) fun h' L sb=> ?_
  have I1:Inv X pins σ H {s with heap:=h'}:=I.turned (t':=s.toks) (fun b o B e=>(sb.2 b B).trans e) f0 f1 f3 f4 f5
  obtain⟨o,e,c,d⟩:=id L;exact⟨u,rfl,go_of (s:={s with heap:=h'}) e c d (by decide) ⟨x,H,I1,ru,⟨rfl,fun ys hy=>by rw [I.list_inj hy hq];exact hx⟩,L,fun b B=>(M b B).1⟩⟩
 done:=by
  intro X O U Y hc i pins s σ H E I M st Z;subst O U Y;obtain⟨xs,hq,hx⟩:=Z;obtain⟨its,rv,p,hz⟩:=I.list hq;obtain⟨f0,f1,f2,f3,f4,f5⟩:=M it (by simp)
  have hl:=rv.length;exact wpAny_pyNext_list_end (I.ok.hd hc) st p.isList (by simp;omega) fun h' eb=>⟨rfl,I.turned (t':=s.toks) (fun b o B e=>eb b o B e) f0 f1 f3 f4 f5⟩
 self:=fun _ _ _ _ _ st h=>wpAny_pyIter_listiter st h
theorem xT {P:Program}{w:World}{K:PySem.W.Frag}{tg:Expr}(a it:Addr):Turn P w K tg (Itt K a) [it] it (fun i h=>h.IsTupleIter it a i) where
 mem:=by simp
 obj:=fun i h st b B=>by
  have e:b=it:=by simpa using B
  subst e;obtain⟨o,e,c,d⟩:=st;exact⟨o,e,fun v z=>by rw [d] at z;cases z⟩
 keep:=fun i h h' st k=>st.at fun o e=>k it (by simp) o e
 item:=by
  intro X O U Y hc i pins s σ H E I M st Z;subst O U Y;obtain⟨xs,x,hq,hx⟩:=Z;obtain⟨its,rv,p,hz⟩:=I.tuple hq;obtain⟨u,hu,ru⟩:=rv.get hx;obtain⟨f0,f1,f2,f3,f4,f5⟩:=M it (by simp)
  refine wpAny_pyNext_tuple_item st (show s.heap.IsTuple a its.toArray from p) (x:=u) (by simpa using hu) fun h' L sb=> ?_
  have I1:Inv X pins σ H {s with heap:=h'}:=I.turned (t':=s.toks) (fun b o B e=>(sb.2 b B).trans e) f0 f1 f3 f4 f5
  obtain⟨o,e,c,d⟩:=id L;exact⟨u,rfl,go_of (s:={s with heap:=h'}) e c d (by decide) ⟨x,H,I1,ru,⟨rfl,fun ys hy=>by rw [I.tuple_inj hy hq];exact hx⟩,L,fun b B=>(M b B).1⟩⟩
 done:=by
  intro X O U Y hc i pins s σ H E I M st Z;subst O U Y;obtain⟨xs,hq,hx⟩:=Z;obtain⟨its,rv,p,hz⟩:=I.tuple hq;obtain⟨f0,f1,f2,f3,f4,f5⟩:=M it (by simp)
  have hl:=rv.length;exact wpAny_pyNext_tuple_end (I.ok.hd hc) st (show s.heap.IsTuple a its.toArray from p) (by simp;omega) fun h' eb=>⟨rfl,I.turned (t':=s.toks) (fun b o B e=>eb b o B e) f0 f1 f3 f4 f5⟩
 self:=fun _ _ _ _ _ st h=>wpAny_pyIter_tupleiter st h
theorem turn_range {P:Program}{w:World}{K:PySem.W.Frag}{tg:Expr}(it:Addr)(lo:Int)(n:Nat):Turn P w K tg (Itr lo n) [it] it (fun i h=>IsRangeIter h it (lo+(i:Nat)*1) ((n:Int)-(i:Nat)) 1) where
 mem:=by simp
 obj:=fun i h st b B=>by
  have e:b=it:=by simpa using B
  subst e;exact⟨_,st,fun v z=>by
   have z':Data.fields _=Data.cell v:=z;cases z'⟩
 keep:=fun i h h' st k=>k it (by simp) _ st
 item:=by
  intro X O U Y Z i pins s σ H E I M st hg;subst O U Y;obtain⟨f0,f1,f2,f3,f4,f5⟩:=M it (by simp)
  have W:=Walks.range (prog:=X.prog) (w:=X.w) (I.ok.hd Z) it lo 1 n;refine uH (n:=1) I.tk (W.item i s _ _ hg st fun v h' tk hv L kk=> ?_);intro htk;obtain⟨t,rfl⟩:=hv;have I1:Inv X pins σ H {s with heap:=h',toks:=tk}:=I.turned (fun b o B e=>kk b o (by simpa using B) e) f0 f1 f3 f4 f5
  refine⟨_,rfl,go_of (s:={s with heap:=h',toks:=tk}) (n:="range_iterator") L rfl rfl (by decide) ⟨.int (lo+i),H,I1,⟨t,?_⟩,⟨rfl,rfl⟩,L,fun b B=>(M b B).1⟩⟩
  rw [Int.mul_one]
 done:=by
  intro X O U Y Z i pins s σ H E I M st hg;subst O U Y;obtain⟨f0,f1,f2,f3,f4,f5⟩:=M it (by simp)
  exact wpAny_pyNext_range_end (I.ok.hd Z) st (by have:n<=i:=hg;omega) fun h' eb=>⟨rfl,I.turned (t':=s.toks) (fun b o B e=>eb b o B e) f0 f1 f3 f4 f5⟩
 self:=fun _ _ _ _ _ st h=>wpAny_pyIter_rangeiter st h
section
variable {X:Cx}{tg:Expr}
def iList (K:PySem.W.Frag)(tl:TE):TI:=fun σ H R=>tl σ H fun x H1=>∃a,x= .ref a/\(∃xs,SqL K H1 a xs)/\R (Itl K a) H1
def iTup (K:PySem.W.Frag)(tl:TE):TI:=fun σ H R=>tl σ H fun x H1=>∃a,x= .ref a/\(∃xs,SqT K H1 a xs)/\R (Itt K a) H1
theorem yI {l:Expr}{tl:TE}(L:PE X l tl):PI X tg l (iList X.K tl):=by
 intro pins s σ H R I h;refine thn (L pins s σ H _ I h) fun v s1 ⟨x,H1,B,M,q1⟩=> ?_;obtain⟨a,e,⟨xs,hq⟩,q⟩:=q1;subst e;cases M;obtain⟨its,U,p,hz⟩:=B.list hq;refine UW p.isList ?_;refine⟨s1.heap.objs.size,[s1.heap.objs.size],_,_,H1,rfl,B.kept (t':=s1.toks) fun b o e=>u7 _ e,turn_list a _,⟨_,uf _ rfl,rfl,rfl⟩,fun b O=> ?_,q⟩;have e:b=s1.heap.objs.size:=by simpa using O
 subst e;exact B.fpOk (Nat.le_refl _) (B.hok.fresh (Nat.le_refl _))
theorem pi_tup {l:Expr}{tl:TE}(L:PE X l tl):PI X tg l (iTup X.K tl):=by
 intro pins s σ H R I h;refine thn (L pins s σ H _ I h) fun v s1 ⟨x,H1,B,M,q1⟩=> ?_;obtain⟨a,e,⟨xs,hq⟩,q⟩:=q1;subst e;cases M;obtain⟨its,U,p,hz⟩:=B.tuple hq;refine U3 (show s1.heap.IsTuple a its.toArray from p) ?_
 refine⟨s1.heap.objs.size,[s1.heap.objs.size],_,_,H1,rfl,B.kept (t':=s1.toks) fun b o e=>u7 _ e,xT a _,⟨_,uf _ rfl,rfl,rfl⟩,fun b O=> ?_,q⟩;have e:b=s1.heap.objs.size:=by simpa using O
 subst e;exact B.fpOk (Nat.le_refl _) (B.hok.fresh (Nat.le_refl _))
theorem range_it {pins:List (Addr×Obj)}{σ:St}{H:Hp}{s:Shared}{R:It->Hp->Prop}{E:Value->Shared->Prop}{lo hi:Int}{t u v:Tok}{tk:Nat}(I:Inv X pins σ H s)(h1: -(2^62)<=lo)(h2:lo<2^62)(L: -(2^62)<=hi)(h4:hi<2^62)
  (q:R (Itr lo (hi-lo).toNat) H) (htk:0<tk:=by ac_rfl):wpAny (model X.prog X.w) X.A (pyIter (.ref s.heap.objs.size)) (PIE X pins σ tg R) E {s with heap:=s.heap.push {cls:= .type "range",data:= .fields #[.int lo t,.int hi u,.int 1 v]},toks:=tk}:=by
 refine wpAny_pyIter_range (IsRange.new ..) (small_one h1 h2 L h4) ?_;have B:Inv X pins σ H {s with heap:=s.heap.push {cls:= .type "range",data:= .fields #[.int lo t,.int hi u,.int 1 v]},toks:=tk}:=I.kept fun b o e=>u7 _ e
 refine⟨(s.heap.push {cls:= .type "range",data:= .fields #[.int lo t,.int hi u,.int 1 v]}).objs.size,[(s.heap.push {cls:= .type "range",data:= .fields #[.int lo t,.int hi u,.int 1 v]}).objs.size],_,_,H,rfl,
  B.kept (t':=tk) fun b o e=>u7 _ e,turn_range _ lo (hi-lo).toNat,?_,fun b M=> ?_,q⟩
 ·have O:lo+((0:Nat):Int)*1=lo:=by simp
  have U:(((hi-lo).toNat:Nat):Int)-((0:Nat):Int)=Builtin.Range.rangeSize lo hi 1:=by rw [rangeSize_one];split<;>omega
  show IsRangeIter _ _ (lo+((0:Nat):Int)*1) ((((hi-lo).toNat:Nat):Int)-((0:Nat):Int)) 1;rw [O,U];exact uf _ rfl
 ·have e:b=(s.heap.push {cls:= .type "range",data:= .fields #[.int lo t,.int hi u,.int 1 v]}).objs.size:=by simpa using M
  subst e;exact B.fpOk (Nat.le_refl _) (B.hok.fresh (Nat.le_refl _))
def iRng1 (ta:TA):TI:=fun σ H R=>ta σ H fun vs H1=>∃j:Int,vs= [.int j]/\ -(2^62)<=j/\j<2^62/\R (Itr 0 j.toNat) H1
theorem Jn {a:Expr}{ta:TA}{p pos:Pos}(B:Gl X "range")(hm:X.mg "range"=none)(ha:PA X [a] ta)(L:starEach [a] X.env= [(false,eval a X.env)]:=by rfl):PI X tg (.Call (.Name "range" p) [a] [] pos) (iRng1 ta):=by
 intro pins s σ H R I h;refine Call_ (jU I B hm boot_range (vV (thn (ha pos pins s σ H _ I h) fun us s1 ⟨vs,H1,M,O,q1⟩=> ?_) L rfl));obtain⟨j,e,q1,U,q⟩:=q1;subst e;cases O with
 |cons r Y=>
  cases Y;obtain⟨t,rfl⟩:=r;exact call_range_1 (range_it M (by omega) (by omega) q1 U (by simpa using q))
def tFor (wi:TI)(g:TG)(tb:TS):TS:=fun D σ H=>wi σ H fun J H1=>∃W:Nat->Nat->St->Hp->Prop,(∃m,W 0 m σ H1)/\∀i m σ H,W i m σ H->
 (J.stop i H/\D.nx σ H)∨(J.go i H/\∃N:St->Hp->Prop,(∀σ' H',N σ' H'->∃m',m'<m/\W (i+1) m' σ' H')/\∀x H',J.yld i H x H'->g x σ H' fun σ2 H2=>tb {D with nx:=N,ct:=N,bk:=D.nx} σ2 H2)
def pinsAt (fp:List Addr)(h:Heap):List (Addr×Obj):=fp.filterMap fun b=>(h.get? b).map fun o=>(b,o)
theorem Yq {fp:List Addr}{h:Heap}{b:Addr}{o:Obj}(B:b∈fp)(e:h.get? b=some o):(b,o)∈pinsAt fp h:=List.mem_filterMap.mpr ⟨b,B,by rw [e];rfl⟩
theorem of_pinsAt {fp:List Addr}{h:Heap}{p:Addr×Obj}(B:p∈pinsAt fp h):p.1∈fp/\h.get? p.1=some p.2:=by
 obtain⟨b,L,e⟩:=List.mem_filterMap.mp B;cases q:h.get? b with
 |none=>rw [q] at e;cases e
 |some o=>
  rw [q] at e;have M:(b,o)=p:=uo e;subst M;exact⟨L,q⟩
theorem Inv.pinned {pins:List (Addr×Obj)}{σ:St}{H:Hp}{s:Shared}{fp:List Addr}(I:Inv X pins σ H s)(M:∀b∈fp,FpOk X pins H b)(O:∀b∈fp,∃o,s.heap.get? b=some o/\∀v,o.data≠ .cell v):Inv X (pins++pinsAt fp s.heap) σ H s:=
 I.pins_of fun p U=>(List.mem_append.mp U).elim (fun z=>I.pin p (uu _ z)) fun z=>by
  obtain⟨B,e⟩:=of_pinsAt z;obtain⟨Y,Z,f2,_⟩:=M p.1 B;obtain⟨o,L,d⟩:=O p.1 B;rw [e] at L;cases L;exact⟨e,Y,Z,f2,d⟩
theorem Inv.unpinned {pins pl:List (Addr×Obj)}{σ:St}{H:Hp}{s:Shared}(I:Inv X (pins++pl) σ H s):Inv X pins σ H s:=I.pins_of fun p B=>I.pin p (uu _ (vd _ B))
theorem Q4 {B:Expr}{aa:List Stmt}{wi:TI}{g:TG}{tb:TS}{pos:Pos}(hp:PassesOwn (model X.prog X.w) X.A X.env X.xe)(hc:X.calm=true)(hi:PI X tg B wi)(hg:PG X tg g)(L:PSs X aa tb)
  (hs:∀x,foldedSetIterable B X.env x=pure x:=by intro _;rfl):PS X (.For tg B aa [] pos) (tFor wi g tb):=by
 intro pins s σ H D I h;refine wpAny_For (thn (hi pins s σ H _ I h) fun v s1 h1=>thn h1 fun ai s2 h2=> ?_) hs;obtain⟨it,fp,tn,J,H2,e,I2,T,af,f2,W,⟨m0,w0⟩,ac⟩:=h2;subst e;have M:∀{H':Hp},(∀b∈fp,H' b=none)->∀b∈fp,FpOk X pins H' b:=fun hn b L=>⟨hn b L,(f2 b L).2⟩;refine codeAny_forLoop_any (fun n s'=>∃i σ' H',Inv X pins σ' H' s'/\tn i s'.heap/\(∀b∈fp,H' b=none)/\W i n σ' H') ?_ m0 ⟨0,σ,H2,I2,af,fun b L=>(f2 b L).1,w0⟩;rintro n s3 ⟨i,σ3,H3,I3,ad,ae,w3⟩;rcases ac i n σ3 H3 w3 with⟨stop,qn⟩|⟨go,N,hN,step⟩
 ·refine Ub hp (thn (T.done X rfl rfl rfl hc i pins s3 σ3 H3 X.xe I3 (M ae) ad stop) fun r s4 ⟨hr,I4⟩=> ?_);subst hr;exact wpAny_execs_nil ⟨σ3,H3,I4,qn⟩
 ·refine Ub hp (thn (T.item X rfl rfl rfl hc i pins s3 σ3 H3 X.xe I3 (M ae) ad go) fun r s4 ⟨u,hr,h4⟩=> ?_);subst hr;refine Ub hp (thn h4 fun _ s5 ⟨x,H5,I5,r5,y5,ab,ag⟩=> ?_);have ah:=I5.pinned (M ag) (T.obj _ _ ab);refine Ub hp (thn (hg _ s5 σ3 H5 x u _ ah r5 (step x H5 y5)) fun _ s6 ⟨σ6,H6,I6,q6⟩=> ?_);refine Ub hp (thn (L _ s6 σ6 H6 _ I6 q6) fun f s7 q7=> ?_);have O:∀{U:St}{Y:Hp},Inv X (pins++pinsAt fp s5.heap) U Y s7->N U Y->∃m,m<n/\∃i σ' H',Inv X pins σ' H' s7/\tn i s7.heap/\(∀b∈fp,H' b=none)/\W i m σ' H':=fun{U Y} Z n7=>by
   obtain⟨m',hm,w7⟩:=hN U Y n7;refine⟨m',hm,i+1,U,Y,Z.unpinned,T.keep _ _ _ ab fun b L o e=>(Z.pin (b,o) (uu _ (uu _ (Yq L e)))).1,fun b L=> ?_,w7⟩;obtain⟨o,e,d⟩:=T.obj _ _ ab b L;exact(Z.pin (b,o) (uu _ (uu _ (Yq L e)))).2.1
  cases f with
  |next=>obtain⟨U,Y,Z,n7⟩:=q7;exact O Z n7
  |cont=>obtain⟨U,Y,Z,n7⟩:=q7;exact O Z n7
  |brk=>obtain⟨U,Y,Z,q7⟩:=q7;exact⟨U,Y,Z.unpinned,q7⟩
  |ret v=>obtain⟨x7,U,Y,Z,r7,q7⟩:=q7;exact⟨x7,U,Y,Z.unpinned,r7,q7⟩
end
theorem Yl {K:PySem.W.Frag}{a:Addr}{xs:List V}{g:TG}{tb:TS}{D:Ends}{σ:St}{H:Hp}(B:Nat->St->Hp->Prop)(Y:B 0 σ H)(Z:∀i σ H,i<=xs.length->B i σ H->SqL K H a xs)
  (hs:∀i x σ H,xs[i]? =some x->B i σ H->g x σ H fun M H2=>tb {D with nx:=B (i+1),ct:=B (i+1),bk:=D.nx} M H2) (hd:∀σ H,B xs.length σ H->D.nx σ H):
  ∃W:Nat->Nat->St->Hp->Prop,(∃m,W 0 m σ H)/\∀i m σ H,W i m σ H->
   ((Itl K a).stop i H/\D.nx σ H)∨((Itl K a).go i H/\∃N:St->Hp->Prop,(∀O H',N O H'->∃U,U<m/\W (i+1) U O H')/\∀x H',(Itl K a).yld i H x H'->g x σ H' fun M H2=>tb {D with nx:=N,ct:=N,bk:=D.nx} M H2):=by
 refine⟨fun i m σ H=>m=xs.length-i/\i<=xs.length/\B i σ H,⟨xs.length,by simp,uv _,Y⟩,?_⟩
 rintro i m σ H ⟨rfl,hi,p⟩;have q:=Z i σ H hi p;by_cases L:i<xs.length
 ·refine .inr ⟨⟨xs,xs[i],q,by simp [L]⟩,B (i+1),fun O H' p'=>⟨xs.length-(i+1),by omega,rfl,L,p'⟩,fun x H' y=> ?_⟩
  obtain⟨e,y⟩:=y;subst e;exact hs i x σ _ (y xs q) p
 ·have e:i=xs.length:=by omega
  subst e;exact .inl ⟨⟨xs,q,Nat.le_refl _⟩,hd σ H p⟩
theorem for_tup {K:PySem.W.Frag}{a:Addr}{xs:List V}{g:TG}{tb:TS}{D:Ends}{σ:St}{H:Hp}(B:Nat->St->Hp->Prop)(Y:B 0 σ H)(Z:∀i σ H,i<=xs.length->B i σ H->SqT K H a xs)
  (hs:∀i x σ H,xs[i]? =some x->B i σ H->g x σ H fun M H2=>tb {D with nx:=B (i+1),ct:=B (i+1),bk:=D.nx} M H2) (hd:∀σ H,B xs.length σ H->D.nx σ H):
  ∃W:Nat->Nat->St->Hp->Prop,(∃m,W 0 m σ H)/\∀i m σ H,W i m σ H->
   ((Itt K a).stop i H/\D.nx σ H)∨((Itt K a).go i H/\∃N:St->Hp->Prop,(∀O H',N O H'->∃U,U<m/\W (i+1) U O H')/\∀x H',(Itt K a).yld i H x H'->g x σ H' fun M H2=>tb {D with nx:=N,ct:=N,bk:=D.nx} M H2):=by
 refine⟨fun i m σ H=>m=xs.length-i/\i<=xs.length/\B i σ H,⟨xs.length,by simp,uv _,Y⟩,?_⟩
 rintro i m σ H ⟨rfl,hi,p⟩;have q:=Z i σ H hi p;by_cases L:i<xs.length
 ·refine .inr ⟨⟨xs,xs[i],q,by simp [L]⟩,B (i+1),fun O H' p'=>⟨xs.length-(i+1),by omega,rfl,L,p'⟩,fun x H' y=> ?_⟩
  obtain⟨e,y⟩:=y;subst e;exact hs i x σ _ (y xs q) p
 ·have e:i=xs.length:=by omega
  subst e;exact .inl ⟨⟨xs,q,Nat.le_refl _⟩,hd σ H p⟩
theorem J2 {lo:Int}{n:Nat}{g:TG}{tb:TS}{D:Ends}{σ:St}{H:Hp}(B:Nat->St->Hp->Prop)(Y:B 0 σ H)
  (Z:∀i σ H,i<n->B i σ H->g (.int (lo+i)) σ H fun M H2=>tb {D with nx:=B (i+1),ct:=B (i+1),bk:=D.nx} M H2) (hd:∀σ H,B n σ H->D.nx σ H):
  ∃W:Nat->Nat->St->Hp->Prop,(∃m,W 0 m σ H)/\∀i m σ H,W i m σ H->
   ((Itr lo n).stop i H/\D.nx σ H)∨((Itr lo n).go i H/\∃N:St->Hp->Prop,(∀O H',N O H'->∃U,U<m/\W (i+1) U O H')/\∀x H',(Itr lo n).yld i H x H'->g x σ H' fun M H2=>tb {D with nx:=N,ct:=N,bk:=D.nx} M H2):=by
 refine⟨fun i m σ H=>m=n-i/\i<=n/\B i σ H,⟨n,by simp,uv _,Y⟩,?_⟩
 rintro i m σ H ⟨rfl,hi,p⟩;by_cases L:i<n
 ·refine .inr ⟨L,B (i+1),fun O H' p'=>⟨n-(i+1),by omega,rfl,L,p'⟩,fun x H' y=> ?_⟩
  obtain⟨e,y⟩:=y;subst e y;exact Z i σ _ L p
 ·have e:i=n:=by omega
  subst e;exact .inl ⟨Nat.le_refl _,hd σ H p⟩
abbrev R2:=V->V->Hp->VK->Prop
def OpR (X:Cx)(f:Value->Value->Sem Value)(r:R2):Prop:=
 ∀(pins:List (Addr×Obj)) (s:Shared) (σ:St) (H:Hp) (x y:V) (v u:Value) (Q:VK),Inv X pins σ H s->RelV x v->RelV y u->r x y H Q->
  wpAny (model X.prog X.w) X.A (f v u) (EP X pins σ Q) X.xe s
def UnR (X:Cx)(f:Value->Sem Value)(r:V->Hp->VK->Prop):Prop:=
 ∀(pins:List (Addr×Obj)) (s:Shared) (σ:St) (H:Hp) (x:V) (v:Value) (Q:VK),Inv X pins σ H s->RelV x v->r x H Q->
  wpAny (model X.prog X.w) X.A (f v) (EP X pins σ Q) X.xe s
def yN (X:Cx)(f:Value)(r:List V->Hp->VK->Prop):Prop:=
 ∀(pins:List (Addr×Obj)) (s:Shared) (σ:St) (H:Hp) (xs:List V) (us:List Value) (Q:VK),Inv X pins σ H s->Vals xs us->r xs H Q->
  wpAny (model X.prog X.w) X.A (call f us) (EP X pins σ Q) X.xe s
def TruR (X:Cx)(r:V->Hp->(Bool->Hp->Prop)->Prop):Prop:=
 ∀(pins:List (Addr×Obj)) (s:Shared) (σ:St) (H:Hp) (x:V) (v:Value) (Q:Bool->Hp->Prop),Inv X pins σ H s->RelV x v->r x H Q->
  wpAny (model X.prog X.w) X.A (truthy v) (TP X pins σ Q) X.xe s
def tOp (r:R2)(ta tb:TE):TE:=fun σ H Q=>ta σ H fun x H1=>tb σ H1 fun y H2=>r x y H2 Q
def tUn (r:V->Hp->VK->Prop)(ta:TE):TE:=fun σ H Q=>ta σ H fun x H1=>r x H1 Q
def rI (C:Int->Int->Prop)(g:Int->Int->V):R2:=fun x y H Q=>∃i j,x= .int i/\y= .int j/\C i j/\Q (g i j) H
def rI0 (g:Int->Int->V):R2:=fun x y H Q=>∃i j,x= .int i/\y= .int j/\Q (g i j) H
def rU (g:Int->V):V->Hp->VK->Prop:=fun x H Q=>∃i,x= .int i/\Q (g i) H
section
variable {X:Cx}{a b c:Expr}{ta tb tc:TE}{pos:Pos}
theorem binT (ha:PE X a ta)(B:PE X b tb){pins:List (Addr×Obj)}{s:Shared}{σ:St}{H:Hp}{R:V->V->Hp->Prop}(I:Inv X pins σ H s)
  (h:ta σ H fun x H1=>tb σ H1 fun y H2=>R x y H2) {Q:Value->Shared->Prop}{f:Value->Value->Sem Value}
  (L:∀v u s2 x y H2,Inv X pins σ H2 s2->RelV x v->RelV y u->R x y H2->wpAny (model X.prog X.w) X.A (f v u) Q X.xe s2):
  wpAny (model X.prog X.w) X.A (eval a X.env) (fun v M=>wpAny (model X.prog X.w) X.A (eval b X.env) (fun u O=>wpAny (model X.prog X.w) X.A (f v u) Q X.xe O) X.xe M) X.xe s:=by
 refine thn (ha pins s σ H _ I h) fun v s1 ⟨x,H1,U,Y,q1⟩=> ?_;refine thn (B pins s1 σ H1 _ U q1) fun u s2 ⟨y,H2,Z,r2,q2⟩=> ?_;exact L v u s2 x y H2 Z Y r2 q2
theorem qT {op:Operator}{r:R2}(B:OpR X (binaryOp op) r)(ha:PE X a ta)(L:PE X b tb):PE X (.BinOp a op b pos) (tOp r ta tb):=by
 intro pins s σ H Q I h;exact wpAny_BinOp (binT ha L I h fun v u s2 x y H2 M O U q=>B pins s2 σ H2 x y v u Q M O U q)
theorem pe_un {op:UnaryOp}{r:V->Hp->VK->Prop}(B:UnR X (unaryOp op) r)(ha:PE X a ta):PE X (.UnaryOp op a pos) (tUn r ta):=by
 intro pins s σ H Q I h;exact UnaryOp_ (thn (ha pins s σ H _ I h) fun v s1 ⟨x,H1,L,M,q1⟩=>B pins s1 σ H1 x v Q L M q1)
theorem opI {f:Value->Value->Sem Value}{C:Int->Int->Prop}{g:Int->Int->Int}
  (B:∀(i j:Int) (t u:Tok) (s:Shared) (Q:Value->Shared->Prop) (E:Value->Shared->Prop),C i j->Q (.int (g i j) s.toks) {s with toks:=s.toks+1}->wpAny (model X.prog X.w) X.A (f (.int i t) (.int j u)) Q E s):
  OpR X f (rI C fun i j=> .int (g i j)):=by
 intro pins s σ H x y v u Q I L M h;obtain⟨i,j,rfl,rfl,O,q⟩:=h;obtain⟨t,rfl⟩:=L;obtain⟨t',rfl⟩:=M;exact B i j t t' s _ _ O ⟨.int (g i j),H,I.tok _,⟨_,rfl⟩,q⟩
theorem opI0 {f:Value->Value->Sem Value}{g:Int->Int->Int}
  (B:∀(i j:Int) (t u:Tok) (s:Shared) (Q:Value->Shared->Prop) (E:Value->Shared->Prop),Q (.int (g i j) s.toks) {s with toks:=s.toks+1}->wpAny (model X.prog X.w) X.A (f (.int i t) (.int j u)) Q E s):
  OpR X f (rI0 fun i j=> .int (g i j)):=by
 intro pins s σ H x y v u Q I L M h;obtain⟨i,j,rfl,rfl,q⟩:=h;obtain⟨t,rfl⟩:=L;obtain⟨t',rfl⟩:=M;exact B i j t t' s _ _ ⟨.int (g i j),H,I.tok _,⟨_,rfl⟩,q⟩
theorem opB0 {f:Value->Value->Sem Value}{g:Int->Int->Bool}
  (B:∀(i j:Int) (t u:Tok) (s:Shared) (Q:Value->Shared->Prop) (E:Value->Shared->Prop),Q (.bool (g i j)) s->wpAny (model X.prog X.w) X.A (f (.int i t) (.int j u)) Q E s):
  OpR X f (rI0 fun i j=> .bl (g i j)):=by
 intro pins s σ H x y v u Q I L M h;obtain⟨i,j,rfl,rfl,q⟩:=h;obtain⟨t,rfl⟩:=L;obtain⟨t',rfl⟩:=M;exact B i j t t' s _ _ ⟨.bl (g i j),H,I,rfl,q⟩
def CDiv (i j:Int):Prop:=0<j/\j<1073741824
def CPow (i j:Int):Prop:=0<=j/\j<=1000000/\i.natAbs<2^64
def CMul (i j:Int):Prop:=(-(2^64)<i/\i<2^64)∨(-(2^64)<j/\j<2^64)
theorem CMul.ok {i j:Int}(h:CMul i j):IntMulOk i j:=by
 rcases h with⟨h1,h2⟩|⟨h1,h2⟩
 ·exact .of_left (intBits_le_64 h1 h2)
 ·exact .of_right (intBits_le_64 h1 h2)
theorem yz:OpR X (binaryOp .Add) (rI0 fun i j=> .int (i+j)):=opI0 fun _ _ _ _ _ _ _ q=>add_int q
theorem JH:OpR X (binaryOp .Mult) (rI CMul fun i j=> .int (i*j)):=opI fun _ _ _ _ _ _ _ B q=>mul_int q B.ok
theorem Xe:OpR X (binaryOp .FloorDiv) (rI CDiv fun i j=> .int (i/j)):=opI fun i j _ _ _ _ _ B q=>by
 have h1:(0:Int)<j:=B.1;have h2:j<1073741824:=B.2;exact floordiv_int (by omega) (by rw [Int.fdiv_eq_ediv_of_nonneg i (by omega)];exact q) (.inl (PyProof.noPylong_small (by omega)))
theorem Yu:OpR X (binaryOp .Mod) (rI (fun _ j=>0<j) fun i j=> .int (i%j)):=opI fun i j _ _ _ _ _ B q=>by
 have h1:(0:Int)<j:=B;exact mod_int' (by omega) (by rw [Int.fmod_eq_emod_of_nonneg i (by omega)];exact q)
theorem op_pow:OpR X (binaryOp .Pow) (rI CPow fun i j=> .int (i^j.toNat)):=opI fun _ _ _ _ _ _ _ B q=>pow_int_small B.1 B.2.1 B.2.2 q
theorem unI {f:Value->Sem Value}{g:Int->Int}
  (B:∀(i:Int) (t:Tok) (s:Shared) (Q:Value->Shared->Prop) (E:Value->Shared->Prop),Q (.int (g i) s.toks) {s with toks:=s.toks+1}->wpAny (model X.prog X.w) X.A (f (.int i t)) Q E s):
  UnR X f (rU fun i=> .int (g i)):=by
 intro pins s σ H x v Q I L h;obtain⟨i,rfl,q⟩:=h;obtain⟨t,rfl⟩:=L;exact B i t s _ _ ⟨.int (g i),H,I.tok _,⟨_,rfl⟩,q⟩
theorem un_neg:UnR X (unaryOp .USub) (rU fun i=> .int (-i)):=unI fun _ _ _ _ _ q=>neg_int q
noncomputable def scal:V->V->Bool
 | .non,.non=>true| .non,.int _=>true| .int _,.non=>true| .non,.bl _=>true| .bl _,.non=>true| .non,.str _=>true| .str _,.non=>true
 | .int _,.int _=>true| .bl _,.bl _=>true| .str _,.str _=>true| .byt _,.byt _=>true
 | .int _,.str _=>true| .str _,.int _=>true| .bl _,.str _=>true| .str _,.bl _=>true
 |_,_=>false
def rEq:R2:=fun x y H Q=>scal x y=true/\Q (.bl (decide (x=y))) H
def rNe:R2:=fun x y H Q=>scal x y=true/\Q (.bl (!decide (x=y))) H
theorem dec_int {i j:Int}:decide (V.int i=V.int j)=(i==j):=by
 rw [vK];simp
theorem dec_bl {i j:Bool}:decide (V.bl i=V.bl j)=(i==j):=by
 rw [vK];simp
theorem dec_str {i j:Str}:decide (V.str i=V.str j)=(i==j):=by
 rw [vK];simp
theorem dec_byt {i j:Array UInt8}:decide (V.byt i=V.byt j)=(i.toList==j.toList):=by
 rw [vK];cases i;cases j;simp
theorem qK {pins:List (Addr×Obj)}{σ:St}{H:Hp}{s:Shared}{Q:VK}{k B:Bool}(I:Inv X pins σ H s)(q:Q (.bl k) H)(e:k=B):EP X pins σ Q (.bool B) s:=by
 subst e;exact⟨.bl k,H,I,rfl,q⟩
theorem yS:OpR X (compareOp .Eq) rEq:=by
 intro pins s σ H x y v u Q I M B h;obtain⟨L,q⟩:=h;cases x with
 |non=>
  cases M;cases y with
  |non=>cases B;exact PySem.EqNone.eq_none_none (qK I q (by simp))
  |bl j=>cases B;exact PySem.EqNone.eq_none_bool (qK I q (by simp))
  |int j=>obtain⟨t',rfl⟩:=B;exact PySem.EqNone.eq_none_int (qK I q (by simp))
  |str j=>obtain⟨t',rfl⟩:=B;exact PySem.EqNone.eq_none_str (qK I q (by simp))
  |_=>exact absurd (show false=true from L) ug
 |bl i=>
  cases M;cases y with
  |non=>cases B;exact PySem.EqNone.eq_bool_none (qK I q (by simp))
  |bl j=>cases B;exact eq_bool (qK I q dec_bl)
  |str j=>obtain⟨t',rfl⟩:=B;exact PySem.EqMixed.eq_bool_str (qK I q (by simp))
  |_=>exact absurd (show false=true from L) ug
 |int i=>
  obtain⟨t,rfl⟩:=M;cases y with
  |non=>cases B;exact PySem.EqNone.eq_int_none (qK I q (by simp))
  |int j=>obtain⟨t',rfl⟩:=B;exact eq_int (qK I q dec_int)
  |str j=>obtain⟨t',rfl⟩:=B;exact PySem.EqMixed.eq_int_str (qK I q (by simp))
  |_=>exact absurd (show false=true from L) ug
 |str i=>
  obtain⟨t,rfl⟩:=M;cases y with
  |non=>cases B;exact PySem.EqNone.eq_str_none (qK I q (by simp))
  |bl j=>cases B;exact PySem.EqMixed.eq_str_bool (qK I q (by simp))
  |int j=>obtain⟨t',rfl⟩:=B;exact PySem.EqMixed.eq_str_int (qK I q (by simp))
  |str j=>obtain⟨t',rfl⟩:=B;exact eq_str (qK I q dec_str)
  |_=>exact absurd (show false=true from L) ug
 |byt i=>
  obtain⟨t,rfl⟩:=M;cases y with
  |byt j=>obtain⟨t',rfl⟩:=B;exact PySem.W.eq_bytes (qK I q dec_byt)
  |_=>exact absurd (show false=true from L) ug
 |_=>cases y<;>exact absurd (show false=true from L) ug
theorem op_ne:OpR X (compareOp .NotEq) rNe:=by
 intro pins s σ H x y v u Q I M B h;obtain⟨L,q⟩:=h;cases x with
 |non=>
  cases M;cases y with
  |non=>cases B;exact PySem.EqNone.ne_none_none (qK I q (by simp))
  |bl j=>cases B;exact PySem.EqNone.ne_none_bool (qK I q (by simp))
  |int j=>obtain⟨t',rfl⟩:=B;exact PySem.EqNone.ne_none_int (qK I q (by simp))
  |str j=>obtain⟨t',rfl⟩:=B;exact PySem.EqNone.ne_none_str (qK I q (by simp))
  |_=>exact absurd (show false=true from L) ug
 |bl i=>
  cases M;cases y with
  |non=>cases B;exact PySem.EqNone.ne_bool_none (qK I q (by simp))
  |bl j=>cases B;exact ne_bool (qK I q (congrArg not dec_bl))
  |str j=>obtain⟨t',rfl⟩:=B;exact PySem.EqMixed.ne_bool_str (qK I q (by simp))
  |_=>exact absurd (show false=true from L) ug
 |int i=>
  obtain⟨t,rfl⟩:=M;cases y with
  |non=>cases B;exact PySem.EqNone.ne_int_none (qK I q (by simp))
  |int j=>obtain⟨t',rfl⟩:=B;exact ne_int (qK I q (congrArg not dec_int))
  |str j=>obtain⟨t',rfl⟩:=B;exact PySem.EqMixed.ne_int_str (qK I q (by simp))
  |_=>exact absurd (show false=true from L) ug
 |str i=>
  obtain⟨t,rfl⟩:=M;cases y with
  |non=>cases B;exact PySem.EqNone.ne_str_none (qK I q (by simp))
  |bl j=>cases B;exact PySem.EqMixed.ne_str_bool (qK I q (by simp))
  |int j=>obtain⟨t',rfl⟩:=B;exact PySem.EqMixed.ne_str_int (qK I q (by simp))
  |str j=>obtain⟨t',rfl⟩:=B;exact ne_str (qK I q (congrArg not dec_str))
  |_=>exact absurd (show false=true from L) ug
 |byt i=>
  obtain⟨t,rfl⟩:=M;cases y with
  |byt j=>obtain⟨t',rfl⟩:=B;exact PySem.W.ne_bytes (qK I q (congrArg not dec_byt))
  |_=>exact absurd (show false=true from L) ug
 |_=>cases y<;>exact absurd (show false=true from L) ug
theorem op_lt:OpR X (compareOp .Lt) (rI0 fun i j=> .bl (decide (i<j))):=opB0 fun _ _ _ _ _ _ _ q=>lt_int q
theorem op_le:OpR X (compareOp .LtE) (rI0 fun i j=> .bl (decide (i<=j))):=opB0 fun _ _ _ _ _ _ _ q=>le_int q
theorem op_gt:OpR X (compareOp .Gt) (rI0 fun i j=> .bl (decide (j<i))):=opB0 fun _ _ _ _ _ _ _ q=>gt_int q
theorem op_ge:OpR X (compareOp .GtE) (rI0 fun i j=> .bl (decide (j<=i))):=opB0 fun _ _ _ _ _ _ _ q=>ge_int q
theorem op_lt_str:OpR X (compareOp .Lt) (fun x y H Q=>∃i j,x= .str i/\y= .str j/\Q (.bl (decide (i.cps.toList<j.cps.toList))) H):=by
 intro pins s σ H x y v u Q I B L h;obtain⟨i,j,rfl,rfl,q⟩:=h;obtain⟨t,rfl⟩:=B;obtain⟨t',rfl⟩:=L;exact lt_str (qK I q rfl)
theorem op_in_str:OpR X (compareOp .In) (fun x y H Q=>∃i j,x= .str i/\y= .str j/\Q (.bl (!(Builtin.Str.occurrences j i 0 j.length 1).isEmpty)) H):=by
 intro pins s σ H x y v u Q I B L h;obtain⟨i,j,rfl,rfl,q⟩:=h;obtain⟨t,rfl⟩:=B;obtain⟨t',rfl⟩:=L;exact in_str (qK I q rfl)
theorem jY:OpR X (compareOp .Is) (fun x y H Q=>y= .non/\Q (.bl (decide (x= .non))) H):=by
 intro pins s σ H x y v u Q I B L h;obtain⟨rfl,q⟩:=h;cases L;refine is_none_gen (qK I q ?_);cases x<;>first
  |(cases B;rfl)
  |(obtain⟨t,rfl⟩:=B;rfl)
theorem je:OpR X (compareOp .IsNot) (fun x y H Q=>y= .non/\Q (.bl (!decide (x= .non))) H):=by
 intro pins s σ H x y v u Q I B L h;obtain⟨rfl,q⟩:=h;cases L;refine isnot_none_gen (qK I q ?_);cases x<;>first
  |(cases B;rfl)
  |(obtain⟨t,rfl⟩:=B;rfl)
theorem qC (b:Expr){op:CmpOp}(h:op≠ .In:=by decide)(h2:op≠ .NotIn:=by decide):behindInMarks op b=false:=by
 have B:(op==CmpOp.In)=false:=by cases op<;>first|rfl|exact absurd rfl h
 have L:(op==CmpOp.NotIn)=false:=by cases op<;>first|rfl|exact absurd rfl h2
 cases b<;>simp [behindInMarks,B,L]
theorem QR {op:CmpOp}{r:R2}(B:OpR X (compareOp op) r)(ha:PE X a ta)(L:PE X b tb)(hm:behindInMarks op b=false):PE X (.Compare a [op] [b] pos) (tOp r ta tb):=by
 intro pins s σ H Q I h;exact wpAny_Compare1 (binT ha L I h fun v u s2 x y H2 M O U q=>B pins s2 σ H2 x y v u Q M O U q) hm
def tTest (t:TE):TT:=fun σ H Q=>t σ H fun x H'=>∃k,x= .bl k/\Q k H'
theorem qu {op:CmpOp}{r:R2}(B:OpR X (compareOp op) r)(ha:PE X a ta)(L:PE X b tb)(hm:behindInMarks op b=false):PT X (.Compare a [op] [b] pos) (tTest (tOp r ta tb)):=by
 intro pins s σ H Q I h;refine wpAny_isTrue_Compare1 (thn (ha pins s σ H _ I h) fun v s1 ⟨x,H1,M,O,q1⟩=>thn (L pins s1 σ H1 _ M q1) fun u s2 ⟨y,H2,U,Y,Z⟩=>
  thn (B pins s2 σ H2 x y v u _ U O Y Z) fun c s3 ⟨z,H3,I3,r3,k,e,q3⟩=> ?_) hm
 subst e;cases r3;exact uG ⟨H3,I3,q3⟩
def tChain (r r':R2)(ta tb tc:TE):TE:=fun σ H Q=>ta σ H fun x H1=>tb σ H1 fun y H2=>r x y H2 fun z H3=>∃k,z= .bl k/\
 (if k=true then tc σ H3 fun w' H4=>r' y w' H4 Q else Q (.bl false) H3)
theorem pt_chain {op B:CmpOp}{r r':R2}(Z:OpR X (compareOp op) r)(L:OpR X (compareOp B) r')(ha:PE X a ta)(hb:PE X b tb)(hc:PE X c tc)
  (hm:lastMarks [op,B] [b,c]=false:=by with_unfolding_all rfl):PT X (.Compare a [op,B] [b,c] pos) (tTest (tChain r r' ta tb tc)):=by
 intro pins s σ H Q I h;refine isTrue_chain (thn (ha pins s σ H _ I h) fun v s1 ⟨x,H1,I1,r1,q1⟩=>test_link (thn (hb pins s1 σ H1 _ I1 q1) fun u s2 ⟨y,H2,I2,M,q2⟩=>
  thn (Z pins s2 σ H2 x y v u _ I2 r1 M q2) fun d s3 ⟨z,O,U,r3,k,e,Y⟩=> ?_)) hm
 subst e;cases r3;refine uG ?_;cases k with
 |false=>
  obtain⟨k',e',q'⟩:=Y;cases e';exact ite_ff ⟨O,U,q'⟩
 |true=>
  refine ite_tt (test_last (thn (hc pins s3 σ O _ U Y) fun w' s4 ⟨z',H4,I4,r4,q4⟩=>thn (L pins s4 σ H4 y z' u w' _ I4 M r4 q4) fun d' s5 ⟨z2,H5,I5,r5,k2,e2,q5⟩=> ?_));subst e2;cases r5;exact uG ⟨H5,I5,q5⟩
def TruV (K:PySem.W.Frag)(x:V)(H:Hp)(k:Bool):Prop:=
 match x with
 | .non=>k=false
 | .bl b=>k=b
 | .int i=>k=(i !=0)
 | .str y=>y.length<=sizeLine/\k=((y.length:Int) !=0)
 | .byt y=>y.size<=sizeLine/\k=((y.size:Int) !=0)
 | .ref p=>(∃xs,SqL K H p xs/\k= !xs.isEmpty)∨(∃xs,SqT K H p xs/\k= !xs.isEmpty)∨∃kvs,H p=some (.dK kvs)/\k= !kvs.isEmpty
 |_=>False
theorem isEmpty_kv {κ:Type}{kvs:List (κ×V)}{vs:List (κ×Value)}(r:KV kvs vs):(!vs.isEmpty)= !kvs.isEmpty:=by
 cases r<;>rfl
theorem xV {xs:List V}{its:List Value}(r:Vals xs its):(!its.toArray.isEmpty)= !xs.isEmpty:=by
 cases r<;>simp
theorem jX:(sizeLine:Nat)<2^63:=by rw [sizeLine_eq];decide
theorem tru_ok:TruR X (fun x H Q=>∃k,TruV X.K x H k/\Q k H):=by
 intro pins s σ H x v Q I M h;obtain⟨k,e,q⟩:=h;have Y:=jX;have Z:sizeLine=16777216:=sizeLine_eq;cases x with
 |non=>
  cases M;have B:k=false:=e;subst B;exact truthy_none ⟨H,I,q⟩
 |bl b=>
  cases M;have B:k=b:=e;subst B;exact uG ⟨H,I,q⟩
 |int i=>
  obtain⟨t,rfl⟩:=M;have B:k=(i !=0):=e;subst B;exact PySem.P.truthy_int ⟨H,I,q⟩
 |str y=>
  obtain⟨t,rfl⟩:=M;obtain⟨O,B⟩:y.length<=sizeLine/\k=((y.length:Int) !=0):=e;subst B;exact PySem.P.truthy_str (by omega) ⟨H,I.tok _,q⟩
 |byt y=>
  obtain⟨t,rfl⟩:=M;obtain⟨O,B⟩:y.size<=sizeLine/\k=((y.size:Int) !=0):=e;subst B;exact PySem.W.truthy_bytes (by omega) ⟨H,I.tok _,q⟩
 |ref p=>
  cases M;have B:(∃xs,SqL X.K H p xs/\k= !xs.isEmpty)∨(∃xs,SqT X.K H p xs/\k= !xs.isEmpty)∨∃kvs,H p=some (.dK kvs)/\k= !kvs.isEmpty:=e;rcases B with⟨xs,hx,B⟩|⟨xs,hx,B⟩|⟨kvs,hx,B⟩
  ·subst B;obtain⟨its,r,pl,hz⟩:=I.list hx;have L:=r.length;exact wpAny_truthy_list pl.isList (by simp only [u9];omega) ⟨H,I.tok _,by rw [xV r];exact q⟩
  ·subst B;obtain⟨its,r,pl,hz⟩:=I.tuple hx;have L:=r.length;exact truthy_tuple pl (by simp only [u9];omega) ⟨H,I.tok _,by rw [xV r];exact q⟩
  ·subst B;obtain⟨hz,U,vs,r,m⟩:kvs.length<=sizeLine/\(p==sysModules)=false/\∃vs,KV kvs vs/\s.heap.DictOf (mixKind X.prog X.w) p vs:=I.hok p _ hx;have L:kvs.length=vs.length:=Uh r;exact wpAny_truthy_dict U m (by omega) ⟨H,I.tok _,by rw [isEmpty_kv r];exact q⟩
 |_=>exact(show False from e).elim
theorem x9 (ha:PE X a ta)(L:∀B,isTrue a X.env B=(do let v<-B;standAt a.pos;holding [v] (truthy v))):
  PT X a (fun σ H Q=>ta σ H fun x H'=>∃k,TruV X.K x H' k/\Q k H'):=by
 intro pins s σ H Q I h;exact isTrue_plain (thn (ha pins s σ H _ I h) fun v s1 ⟨x,H1,M,O,q1⟩=>tru_ok pins s1 σ H1 x v Q M O q1) (L _)
theorem QW {x:V}{us:List Value}(r:Vals [x] us):∃u,us= [u]/\RelV x u:=by
 cases r with
 |cons B L=>cases L;exact⟨_,rfl,B⟩
theorem vals2 {x y:V}{us:List Value}(r:Vals [x,y] us):∃u B,us= [u,B]/\RelV x u/\RelV y B:=by
 cases r with
 |cons L M=>
  cases M with
  |cons O U=>cases U;exact⟨_,_,rfl,L,O⟩
theorem call_abs:yN X (.builtin "abs") (fun xs H Q=>∃i,xs= [.int i]/\Q (.int (if i<0 then-i else i)) H):=by
 intro pins s σ H xs us Q I r h;obtain⟨i,rfl,q⟩:=h;obtain⟨u,rfl,t,rfl⟩:=QW r;exact uH (n:=1) I.tk (call_abs_int fun u tk htk=>⟨.int (if i<0 then-i else i),H,I.tok _,⟨_,rfl⟩,q⟩)
theorem call_min2 (L:X.calm=true):yN X (.builtin "min") (fun xs H Q=>∃i j,xs= [.int i,.int j]/\Q (.int (if j<i then j else i)) H):=by
 intro pins s σ H xs us Q I r h;obtain⟨i,j,rfl,q⟩:=h;obtain⟨u,M,rfl,⟨t,rfl⟩,⟨t',rfl⟩⟩:=vals2 r;refine uH (n:=1) I.tk (min_two_ints (I.ok.hd L) fun h' tk k htk=>⟨_,H,I.kept k,?_,q⟩);by_cases B:j<i
 ·rw [if_pos B,if_pos B];exact⟨_,rfl⟩
 ·rw [if_neg B,if_neg B];exact⟨_,rfl⟩
theorem call_int1:yN X (.type "int") (fun xs H Q=>(∃i,xs= [.int i]/\Q (.int i) H)∨∃k,xs= [.bl k]/\Q (.int (if k then 1 else 0)) H):=by
 intro pins s σ H xs us Q I r h;rcases h with⟨i,rfl,q⟩|⟨k,rfl,q⟩
 ·obtain⟨u,rfl,t,rfl⟩:=QW r;exact call_int_int ⟨.int i,H,I,⟨_,rfl⟩,q⟩
 ·obtain⟨u,rfl,B⟩:=QW r;cases B;exact call_int_bool ⟨.int (if k then 1 else 0),H,I.tok _,⟨_,rfl⟩,q⟩
theorem call_ord:yN X (.builtin "ord") (fun xs H Q=>∃x,xs= [.str x]/\x.length=1/\Q (.int (x.cps.getD 0 0:Nat)) H):=by
 intro pins s σ H xs us Q I r h;obtain⟨x,rfl,hz,q⟩:=h;obtain⟨u,rfl,t,rfl⟩:=QW r;exact ord_of_one hz ⟨.int _,H,I.tok _,⟨_,rfl⟩,q⟩
def LenV (K:PySem.W.Frag)(x:V)(H:Hp)(n:Nat):Prop:=
 match x with
 | .str y=>y.length<=sizeLine/\n=y.length
 | .byt y=>y.size<=sizeLine/\n=y.size
 | .ref p=>(∃xs,SqL K H p xs/\n=xs.length)∨∃xs,SqT K H p xs/\n=xs.length
 |_=>False
theorem Xk:yN X (.builtin "len") (fun xs H Q=>∃x n,xs= [x]/\LenV X.K x H n/\Q (.int n) H):=by
 intro pins s σ H xs us Q I r h;obtain⟨x,n,rfl,e,q⟩:=h;obtain⟨u,rfl,M⟩:=QW r;have U:=jX;have Y:sizeLine=16777216:=sizeLine_eq;cases x with
 |str y=>
  obtain⟨t,rfl⟩:=M;obtain⟨O,L⟩:y.length<=sizeLine/\n=y.length:=e;subst L;exact len_str (by omega) ⟨.int _,H,I.tok _,⟨_,rfl⟩,q⟩
 |byt y=>
  obtain⟨t,rfl⟩:=M;obtain⟨O,L⟩:y.size<=sizeLine/\n=y.size:=e;subst L;exact PySem.W.len_bytes (by omega) ⟨.int _,H,I.tok _,⟨_,rfl⟩,q⟩
 |ref p=>
  cases M;have L:(∃xs,SqL X.K H p xs/\n=xs.length)∨∃xs,SqT X.K H p xs/\n=xs.length:=e;rcases L with⟨xs,hx,L⟩|⟨xs,hx,L⟩
  ·subst L;obtain⟨its,r',pl,hz⟩:=I.list hx;have B:=r'.length;exact Calls.call_len_list pl.isList (by simp only [u9];omega) ⟨.int xs.length,H,I.tok _,⟨_,by simp only [u9];rw [B]⟩,q⟩
  ·subst L;obtain⟨its,r',pl,hz⟩:=I.tuple hx;have B:=r'.length;exact len_tuple pl (by simp only [u9];omega) ⟨.int xs.length,H,I.tok _,⟨_,by simp only [u9];rw [B]⟩,q⟩
 |_=>exact(show False from e).elim
end
structure ObjM (h:Heap)(x dx C:Addr)(mA:Str->Option Value):Prop where
 obj:h.get? x=some (PySem.W.instObj C dx)
 ns:h.Ns1 dx mA
 ne:dx≠x
theorem lookIn_ns {h:Heap}{dx:Addr}{mA:Str->Option Value}(n:h.Ns1 dx mA):∃od,h.get? dx=some od/\∀name,PySem.W.lookIn name od=some (mA name):=by
 obtain⟨o,es,ep,L,hd,hk,_,hm⟩:=n;refine⟨o,L,fun name=> ?_⟩;have e:=hm name;unfold nsFind findBy at e;rw [<-Array.find?_toList] at e;unfold PySem.W.lookIn;rw [hd];dsimp only;split
 ·rename_i y q
  rw [q] at e;exact congrArg some e
 ·rename_i q
  rw [q] at e;have a:es.toList.any (·.refKey)=false:=by
   rw [List.any_eq_false];intro y M;obtain⟨z,t,B⟩:=hk y (Array.mem_toList_iff.mp M);simp [DictEntry.refKey,B]
  have O:¬es.toList.any (·.refKey)=true:=by rw [a];exact ug
  rw [if_neg O];exact congrArg some e
theorem ObjM.look {h:Heap}{x dx C:Addr}{mA:Str->Option Value}(I:ObjM h x dx C mA):∃od,PySem.W.InstAt h x (PySem.W.instObj C dx) C (some od)/\∀name,PySem.W.lookIn name od=some (mA name):=
 let⟨od,ho,hl⟩:=lookIn_ns I.ns
 ⟨od,⟨I.obj,rfl,rfl,ho⟩,hl⟩
section
variable {prog:Program}{w:World}{A:Around}{E:Value->Shared->Prop}{s:Shared}{K:PySem.W.Frag}{x dx C f:Addr}{mA:Str->Option Value}{name:Str}{v:Value}
theorem get_map {B:Bool}{Q:Value->Shared->Prop}(X:K.In s.heap)(I:ObjM s.heap x dx C mA)(M:PySem.W.plainGet K C name=true)(O:PySem.W.hasDictIn K C=true)
  (ha:PySem.W.findIn K (.ref C) name=some none) (U:mA name=some v) (L:PySem.W.handedIn v=true) (h:Q v {s with toks:=s.toks+1}):
  wpAny (model prog w) A (getAttr (.ref x) name B) Q E s:=by
 obtain⟨od,J,Y⟩:=I.look;exact PySem.W.get_value X J (PySem.W.plainGet_of M).1 (PySem.W.findObj_own O ha rfl (by rw [Y,U])) L h
theorem get_meth {pl:Sem Bool}{Q:Value×List Value->Shared->Prop}(X:K.In s.heap)(I:ObjM s.heap x dx C mA)(B:PySem.W.plainGet K C name=true)
  (L:PySem.W.findIn K (.ref C) name=some (some (.ref f))) (M:PySem.W.isFn K (.ref f)=true) (O:mA name=none) (h:Q (.ref f,[.ref x]) s):
  wpAny (model prog w) A (getMethod (.ref x) name pl) Q E s:=by
 obtain⟨od,J,U⟩:=I.look;exact PySem.W.method_fn X J (PySem.W.plainGet_of B).1 (PySem.W.plainGet_of B).2 L (beq_iff_eq.mp M) (by show(PySem.W.lookIn name od).map (·.isSome)=some false;rw [U,O];rfl) h
theorem set_map {ns:List Str}{Q:Unit->Shared->Prop}(X:K.In s.heap)(I:ObjM s.heap x dx C mA)
  (Z:PySem.W.findIn K (.ref C) "__setattr__"=some (some (.builtin "object.__setattr__"))) (hp:PySem.W.plainOver K C=true) (ht:PySem.W.takerIn K C name=some none) (hh:PySem.W.hasDictIn K C=true)
  (hw:PySem.Within mA ns) (hsz:ns.length<=sizeLine)
  (h:∀h',ObjM h' x dx C (fun y=>if y=name then some v else mA y)->Heap.SameBut dx s.heap h'->Q Unit.unit {s with heap:=h',toks:=s.toks+2}):
  wpAny (model prog w) A (setAttr (.ref x) name v) Q E s:=by
 obtain⟨od,J,hl⟩:=I.look;refine PySem.W.set_plain X J Z (PySem.W.osa_open (s:={s with toks:=s.toks+1}) (r:=none) X J hp ht fun b=> ?_)
 obtain⟨cd,hc,M⟩:=PySem.W.any_some hh;have hx:s.heap.get? x=some ⟨.ref C,some dx,.plain,#[]⟩:=I.obj;refine wpAny_bind (wpAny_pure (wpAny_bind (wpAny_bind (wpAny_loadPart hx (wpAny_bind (PySem.W.Looks.here (s:={s with toks:=s.toks+1}) (PySem.W.looks_clsIn X hc) ?_))))))
 rw [M];refine wpAny_pure (a:=some dx) (wpAny_bind (wpAny_pure (wpAny_bind ?_)));refine wpAny_nsSet1 (s:={s with toks:=s.toks+1}) I.ns fun h' B L=> ?_
 obtain⟨oD,aa,ab,O,U,Y⟩:=B.count (PySem.Within.cons name v hw);refine wpAny_bind (wpAny_lookBehind O (by rw [U];exact pastItsLine_dict (v8 Y (by rw [ul];omega))) ?_)
 exact wpAny_pure (h _ ⟨(L.2 _ (Ua I.ne)).trans I.obj,B,I.ne⟩ L)
theorem make_map {R:Result->Shared->Prop}{vs:List Value}{kw:List (Str×Value)}(X:K.In s.heap)(hm:PySem.W.makesIn K C=true)
  (hi:PySem.W.findIn K (.ref C) "__init__"=some (some (.ref f))) (B:PySem.W.typeIn K (.ref f)=some (.type "function"))
  (h:codeAny (model prog w) (A.under (.builtin "type.__call__" ⟨.ref C::vs,kw⟩)) (.call (.ref f) ⟨.ref (s.heap.objs.size+1)::vs,kw⟩) (PySem.W.InitBack (s.heap.objs.size+1) R)
   {s with heap:=(s.heap.push PySem.W.emptyDict).push (PySem.W.instObj C s.heap.objs.size)}):
  codeAny (model prog w) A (.call (.ref C) ⟨vs,kw⟩) R s:=by
 obtain⟨L,g,d,t,os⟩:=s;exact PySem.W.make_core (PySem.W.makes_of X hm) (PySem.W.looks_findIn X hi) (fun self=>PySem.W.bind_fn X self B) (.inl rfl) h
end
noncomputable def putF (f:Str)(v:V):List (Str×V)->List (Str×V)
 | []=> [(f,v)]
 |(g,x)::r=>if g=f then(g,v)::r else(g,x)::putF f v r
theorem Q7 (f g:Str)(v:V):∀fs:List (Str×V),(putF f v fs).lookup g=if g=f then some v else fs.lookup g
 | []=>by
  show List.lookup g [(f,v)]=_;by_cases h:g=f
  ·have B:(g==f)=true:=beq_iff_eq.mpr h;simp only [List.lookup,B,if_pos h]
  ·have B:(g==f)=false:=beq_eq_false_iff_ne.mpr h;simp only [List.lookup,B,if_neg h]
 |(k,x)::r=>by
  have L:=Q7 f g v r;rw [show putF f v ((k,x)::r)=(if k=f then(k,v)::r else(k,x)::putF f v r) from rfl]
  by_cases hk:k=f
  ·rw [if_pos hk];by_cases h:g=k
   ·have B:(g==k)=true:=beq_iff_eq.mpr h;simp only [List.lookup,B,if_pos (h.trans hk)]
   ·have B:(g==k)=false:=beq_eq_false_iff_ne.mpr h;simp only [List.lookup,B,if_neg (fun e:g=f=>h (e.trans hk.symm))]
  ·rw [if_neg hk];by_cases h:g=k
   ·have B:(g==k)=true:=beq_iff_eq.mpr h;simp only [List.lookup,B,if_neg (fun e:g=f=>hk (h.symm.trans e))]
   ·have B:(g==k)=false:=beq_eq_false_iff_ne.mpr h;simp only [List.lookup,B];exact L
theorem J0 (f:Str)(v:V):∀fs:List (Str×V),f∈(putF f v fs).map (·.1)/\∀g,g∈fs.map (·.1)->g∈(putF f v fs).map (·.1)
 | []=>⟨by simp [putF],fun g h=>by simp at h⟩
 |(k,x)::r=>by
  obtain⟨B,L⟩:=J0 f v r;rw [show putF f v ((k,x)::r)=(if k=f then(k,v)::r else(k,x)::putF f v r) from rfl]
  by_cases hk:k=f
  ·rw [if_pos hk];subst hk;exact⟨by simp,fun g h=>by simpa using h⟩
  ·rw [if_neg hk];refine⟨?_,fun g h=> ?_⟩
   ·rw [um];exact u4 _ B
   ·rw [um] at h⊢;rcases List.mem_cons.mp h with e|e
    ·exact List.mem_cons.mpr (.inl e)
    ·exact u4 _ (L g e)
theorem JU (f:Str)(v:V):∀fs:List (Str×V),(putF f v fs).length<=fs.length+1
 | []=>by simp [putF]
 |(k,x)::r=>by
  have B:=JU f v r;rw [show putF f v ((k,x)::r)=(if k=f then(k,v)::r else(k,x)::putF f v r) from rfl]
  by_cases hk:k=f
  ·rw [if_pos hk,ul,ul];omega
  ·rw [if_neg hk,ul,ul];omega
theorem RelO.some_of {v:V}{o:Option Value}(r:RelO (some v) o):∃u,o=some u/\RelV v u:=by
 cases o with
 |none=>exact(show False from r).elim
 |some u=>exact⟨u,rfl,r⟩
theorem RelO.QF {o:Option Value}(r:RelO none o):o=none:=by
 cases o with
 |none=>rfl
 |some u=>exact(show False from r).elim
theorem handed_of {v:V}{u:Value}(r:RelV v u):PySem.W.handedIn u=true:=by
 cases v with
 |non=>cases(show u=Value.none from r);rfl
 |bl b=>cases(show u=Value.bool b from r);rfl
 |int i=>obtain⟨t,e⟩:=(show∃t,u=Value.int i t from r);cases e;rfl
 |str x=>obtain⟨t,e⟩:=(show∃t,u=Value.str x t from r);cases e;rfl
 |byt b=>obtain⟨t,e⟩:=(show∃t,u=Value.bytes b t from r);cases e;rfl
 |flt b=>obtain⟨t,e⟩:=(show∃t,u=Value.float b t from r);cases e;rfl
 |ref a=>cases(show u=Value.ref a from r);rfl
 |ty n=>cases(show u=Value.type n from r);rfl
section
variable {P:Program}{w:World}{H H':Hp}{h h':Heap}{a C dx:Addr}{fs fs':List (Str×V)}
theorem Xl (hok:HOk P w H h)(e:H a=some (.ins C dx fs)):∃mA,ObjM h a dx C mA/\(∀f,RelO (fs.lookup f) (mA f))/\PySem.Within mA (fs.map (·.1))/\fs.length<=1000/\H dx=some (.own a):=by
 obtain⟨d,z,ne,B,mA,n,r,q⟩:=(show Qe P w H h a (.ins C dx fs) from hok a _ e)
 exact⟨mA,⟨B,n,ne⟩,r,q,z,d⟩
end
structure Cls (K:PySem.W.Frag)(C:Addr):Prop where
 pg:PySem.W.plainGet K C Str.empty=true
 hd:PySem.W.hasDictIn K C=true
 po:PySem.W.plainOver K C=true
 sa:PySem.W.findIn K (.ref C) "__setattr__"=some (some (.builtin "object.__setattr__"))
theorem Cls.get {K:PySem.W.Frag}{C:Addr}(c:Cls K C)(f:Str):PySem.W.plainGet K C f=true:=c.pg
def yY (K:PySem.W.Frag)(C:Addr)(f:Str):Prop:=PySem.W.findIn K (.ref C) f=some none
theorem yY.taker {K:PySem.W.Frag}{C:Addr}{f:Str}(n:yY K C f):PySem.W.takerIn K C f=some none:=by
 unfold PySem.W.takerIn;rw [show PySem.W.findIn K (.ref C) f=some none from n]
 rfl
structure Meth (K:PySem.W.Frag)(C:Addr)(m:Str)(f:Addr):Prop where
 at_:PySem.W.findIn K (.ref C) m=some (some (.ref f))
 fn:PySem.W.isFn K (.ref f)=true
 kp:PySem.W.keepIn K (.ref f)=true
section
variable {X:Cx}{pins:List (Addr×Obj)}{σ:St}{H:Hp}{s:Shared}{a C dx:Addr}{fs:List (Str×V)}{f:Str}{v:V}{A:Around}{E:Value->Shared->Prop}
theorem getattr_ok {b:Bool}{Q:Value->Shared->Prop}(I:Inv X pins σ H s)(e:H a=some (.ins C dx fs))(c:Cls X.K C)(n:yY X.K C f)(l:fs.lookup f=some v)
  (h:∀u s',Inv X pins σ H s'->RelV v u->Q u s'):wpAny (model X.prog X.w) A (getAttr (.ref a) f b) Q E s:=by
 obtain⟨mA,O,r,_,_,_⟩:=Xl I.hok e;obtain⟨u,hu,B⟩:=RelO.some_of (v:=v) (o:=mA f) (by rw [<-l];exact r f)
 exact get_map I.kIn O (c.get f) c.hd n hu (handed_of B) (h u _ (I.tok _) B)
theorem xO {m:Str}{g:Addr}{pl:Sem Bool}{Q:Value×List Value->Shared->Prop}(I:Inv X pins σ H s)(e:H a=some (.ins C dx fs))(c:Cls X.K C)(k:Meth X.K C m g)(l:fs.lookup m=none)
  (h:Q (.ref g,[.ref a]) s):wpAny (model X.prog X.w) A (getMethod (.ref a) m pl) Q E s:=by
 obtain⟨mA,O,r,_,_,_⟩:=Xl I.hok e;have hn:mA m=none:=RelO.QF (by rw [<-l];exact r m)
 exact get_meth I.kIn O (c.get m) k.at_ k.fn hn h
theorem setattr_ok {y:V}{u:Value}{Q:Unit->Shared->Prop}(I:Inv X pins σ H s)(e:H a=some (.ins C dx fs))(c:Cls X.K C)(n:yY X.K C f)(hl:fs.length<1000)(U:RelV y u)
  (h:∀s',Inv X pins σ (upd H a (.ins C dx (putF f y fs))) s'->Q Unit.unit s'):wpAny (model X.prog X.w) A (setAttr (.ref a) f u) Q E s:=by
 obtain⟨mA,O,r,L,_,M⟩:=Xl I.hok e;have hz:(fs.map (·.1)).length<=sizeLine:=by rw [uc,sizeLine_eq];omega
 refine set_map I.kIn O c.sa c.po n.taker c.hd L hz fun h' B Y=>h _ ?_;have hd:∃o,h'.get? dx=some o:=let⟨o,_,_,e',_⟩:=B.ns;⟨o,e'⟩;refine I.write (x:=a) (e:=dx) (by rw [e];exact True.intro) (.inr M) (fun b q Z z=>(Y.2 b Z).trans z) hd ?_
 refine⟨by rw [qi O.ne];exact M,?_,O.ne,B.obj,_,B.ns,fun g=> ?_,fun g hg=> ?_⟩
 ·have:=JU f y fs;omega
 ·show RelO ((putF f y fs).lookup g) (if g=f then some u else mA g)
  rw [Q7];by_cases q:g=f
  ·rw [if_pos q,if_pos q];exact U
  ·rw [if_neg q,if_neg q];exact r g
 ·by_cases q:g=f
  ·rw [q];exact(J0 f y fs).1
  ·refine(J0 f y fs).2 g (L g fun z=>hg ?_);show(if g=f then some u else mA g)=none
   rw [if_neg q];exact z
theorem Inv.made (I:Inv X pins σ H s):Inv X pins σ (upd (upd H s.heap.objs.size (.own (s.heap.objs.size+1))) (s.heap.objs.size+1) (.ins C s.heap.objs.size []))
  {s with heap:=(s.heap.push PySem.W.emptyDict).push (PySem.W.instObj C s.heap.objs.size)}:=by
 have B:(s.heap.push PySem.W.emptyDict).get? s.heap.objs.size=some PySem.W.emptyDict:=uf s.heap rfl;have L:((s.heap.push PySem.W.emptyDict).push (PySem.W.instObj C s.heap.objs.size)).get? (s.heap.objs.size+1)=some (PySem.W.instObj C s.heap.objs.size):=by
  have:=uf (s.heap.push PySem.W.emptyDict) (o:=PySem.W.instObj C s.heap.objs.size) rfl
  rwa [vw] at this
 have M:(s.heap.push PySem.W.emptyDict).Ns s.heap.objs.size (fun _=>none):=⟨PySem.W.emptyDict,#[],_,B,rfl,(fun e O=>absurd O (by simp)),fun _=>rfl⟩
 have U:=I.laid (a:=s.heap.objs.size) (o:= .own (s.heap.objs.size+1)) (h':=s.heap.push PySem.W.emptyDict) (t':=s.toks) (fun b u q=>u7 _ q) (Nat.le_refl _) ⟨_,B⟩;refine U.laid (a:=s.heap.objs.size+1) (o:= .ins C s.heap.objs.size []) (t':=s.toks) (fun b u q=>u7 _ q) (Nat.le_of_eq (vw _ _)) ?_;have ne:s.heap.objs.size≠s.heap.objs.size+1:=uy (UF _);refine⟨by rw [qi ne,qe],uv _,ne,L,fun _=>none,(Heap.Ns1.of_empty M).at fun o q=>u7 _ q,fun _=>True.intro,fun y Y=>absurd rfl Y⟩
theorem attr_of {prog:Program}{w:World}{env:Env}{e:Expr}{f:Str}{pos:Pos}{s:Shared}{Q:Value->Shared->Prop}(B:attributeBase e f env (eval e env)=eval e env)
  (h:wpAny (model prog w) A (eval e env) (fun o L=>wpAny (model prog w) A (getAttr o f true) Q E L) E s):wpAny (model prog w) A (eval (.Attribute e f pos) env) Q E s:=
 Attribute_any_ h (by rw [arm_eval_Attribute,B])
end
def tFld (K:PySem.W.Frag)(ta:TE)(f:Str):TE:=fun σ H Q=>ta σ H fun x H1=>∃a C dx fs v,x= .ref a/\H1 a=some (.ins C dx fs)/\Cls K C/\yY K C f/\fs.lookup f=some v/\Q v H1
def sFld (K:PySem.W.Frag)(ta tv:TE)(f:Str):TS:=fun D σ H=>tv σ H fun y H1=>ta σ H1 fun x H2=>∃a C dx fs,x= .ref a/\H2 a=some (.ins C dx fs)/\Cls K C/\yY K C f/\fs.length<1000/\
 D.nx σ (upd H2 a (.ins C dx (putF f y fs)))
section
variable {X:Cx}{o e value:Expr}{f:Str}{pos pos' tpos:Pos}{ta tv:TE}
theorem qS (B:PE X e ta)(L:attributeBase e f X.env (eval e X.env)=eval e X.env):PE X (.Attribute e f pos) (tFld X.K ta f):=by
 intro pins s σ H Q I h;refine attr_of L (thn (B pins s σ H _ I h) fun u s1 ⟨x,H1,M,O,a,C,dx,fs,v,ex,U,c,n,l,q⟩=> ?_);subst ex;obtain rfl:u=Value.ref a:=O;exact getattr_ok M U c n l fun u' s2 Y Z=>⟨v,H1,Y,Z,q⟩
theorem ja (ha:PE X o ta)(B:PE X value tv)(L:swapsWith value (some (.Attribute o f pos')) pos.line X.env=pure false):PS X (.Assign [.Attribute o f pos'] value pos) (sFld X.K ta tv f):=by
 intro pins s σ H D I h;refine plainObj_wpAny_Assign_Attribute (thn (B pins s σ H _ I h) fun u s1 ⟨y,H1,M,O,q⟩=>thn (ha pins s1 σ H1 _ M q) fun U s2 ⟨x,H2,Y,Z,a,C,dx,fs,ex,ea,c,n,l,q2⟩=> ?_) L;subst ex;obtain rfl:U=Value.ref a:=Z;exact setattr_ok Y ea c n l O fun s3 I3=>⟨σ,_,I3,q2⟩
end
section
variable {X:Cx}{pins:List (Addr×Obj)}{σ:St}{H:Hp}{s:Shared}{A:Around}{E:Value->Shared->Prop}{Q:Value->Shared->Prop}{c:Value}{b:Bool}
inductive TyOf (K:PySem.W.Frag) (H:Hp):V->Value->Prop where
 |non:TyOf K H .non (.type "NoneType")
 |bl (x:Bool):TyOf K H (.bl x) (.type "bool")
 |int (i:Int):TyOf K H (.int i) (.type "int")
 |str (x:Str):TyOf K H (.str x) (.type "str")
 |flt (x:UInt64):TyOf K H (.flt x) (.type "float")
 |lst {a:Addr}{xs:List V} (e:H a=some (.lst xs)):TyOf K H (.ref a) (.type "list")
 |frz {a:Addr}{o:Obj}{xs:List V} (e:H a=some (.frz o (.lst xs))):TyOf K H (.ref a) (.type "list")
 |tup {a:Addr}{xs:List V} (e:H a=some (.tup xs)):TyOf K H (.ref a) (.type "tuple")
 |dK {a:Addr}{kvs:List (Key×V)} (e:H a=some (.dK kvs)):TyOf K H (.ref a) (.type "dict")
 |dT {a:Addr}{kvs:List (List Key×V)} (e:H a=some (.dT kvs)):TyOf K H (.ref a) (.type "dict")
 |ins {a C dx:Addr}{fs:List (Str×V)} (e:H a=some (.ins C dx fs)) (cl:Cls K C) (ha:PySem.W.findIn K (.ref C) "__class__"=some (some (.builtin "object.__class__")))
   (hn:PySem.W.specialIn K (.builtin "object.__class__") "__get__"=some (some (.builtin "getset_descriptor.__get__"))) (htk:PySem.W.takesIn K (.builtin "object.__class__")=some true)
   (hm:PySem.W.mroIn K C (.type "object")=some true):TyOf K H (.ref a) (.ref C)
theorem isinst_ok {x:V}{u t:Value}(I:Inv X pins σ H s)(B:RelV x u)(ty:TyOf X.K H x t)(e:PySem.W.kitOne X.K t c=some b)(h:∀tk,Q (.bool b) {s with toks:=tk}):
  wpAny (model X.prog X.w) A (call (.builtin "isinstance") [u,c]) Q E s:=by
 cases ty with
 |non=>cases(show u=Value.none from B);exact vi PySem.W.kitx_none I.kIn True.intro e (fun z=>nomatch z) h
 |bl y=>cases(show u=Value.bool y from B);exact vi PySem.W.kitx_bool I.kIn True.intro e (fun z=>nomatch z) h
 |int i=>obtain⟨t,q⟩:=(show∃t,u=Value.int i t from B);cases q;exact vi PySem.W.kitx_int I.kIn True.intro e (fun z=>nomatch z) h
 |str y=>obtain⟨t,q⟩:=(show∃t,u=Value.str y t from B);cases q;exact vi PySem.W.kitx_str I.kIn True.intro e (fun z=>nomatch z) h
 |flt y=>obtain⟨t,q⟩:=(show∃t,u=Value.float y t from B);cases q;exact vi PySem.W.kitx_float I.kIn True.intro e (fun z=>nomatch z) h
 | @lst a xs ea=>
  cases(show u=Value.ref a from B)
  obtain⟨_,_,n,_,h1⟩:=(show Qe X.prog X.w H s.heap a (.lst xs) from I.hok a _ ea)
  exact vi PySem.W.kitx_list I.kIn ⟨_,h1,rfl⟩ e (fun z=>nomatch z) h
 | @frz a ob xs ea=>
  cases(show u=Value.ref a from B)
  obtain⟨_,_,_,n,_,h1⟩:=(show Qe X.prog X.w H s.heap a (.frz ob (.lst xs)) from I.hok a _ ea)
  exact vi PySem.W.kitx_list I.kIn ⟨_,h1,rfl⟩ e (fun z=>nomatch z) h
 | @tup a xs ea=>
  cases(show u=Value.ref a from B)
  obtain⟨_,_,_,p⟩:=(show Qe X.prog X.w H s.heap a (.tup xs) from I.hok a _ ea)
  obtain⟨o,h1,h2,_⟩:=p;exact vi PySem.W.kitx_tuple I.kIn ⟨o,h1,h2⟩ e (fun z=>nomatch z) h
 | @dK a kvs ea=>
  cases(show u=Value.ref a from B)
  obtain⟨_,_,vs,_,p⟩:=(show Qe X.prog X.w H s.heap a (.dK kvs) from I.hok a _ ea)
  obtain⟨o,es,ep,h1,h2,_⟩:=p;exact vi PySem.W.kitx_dict I.kIn ⟨o,h1,h2.1⟩ e (fun z=>nomatch z) h
 | @dT a kvs ea=>
  cases(show u=Value.ref a from B)
  obtain⟨_,_,xs,_,o,es,ep,h1,h2,_⟩:=(show Qe X.prog X.w H s.heap a (.dT kvs) from I.hok a _ ea)
  exact vi PySem.W.kitx_dict I.kIn ⟨o,h1,h2.1⟩ e (fun z=>nomatch z) h
 | @ins a C dx fs ea cl ha hn htk hm=>
  cases(show u=Value.ref a from B)
  obtain⟨mA,O,_⟩:=Xl I.hok ea;obtain⟨od,J,_⟩:=O.look;exact vi (PySem.W.kitx_own (cl.get _) cl.hd ha hn htk hm) I.kIn J e (fun z=>nomatch z) h
end
structure Room (k:Nat)(A:Around):Prop where
 hd:A.handled=none
 dp:A.depth+3*k+5<recursionLimit
 un:A.units+16*k+200<cLine
theorem Room.mono {j k:Nat}{A:Around}(r:Room k A)(h:j<=k):Room j A:=⟨r.hd,by have:=r.dp;omega,by have:=r.un;omega⟩
theorem Room.deeper {k:Nat}{A:Around}(r:Room (k+1) A)(env:Env):Room k (A.deeper env):=
 ⟨r.hd,by have:=r.dp;show A.depth+1+3*k+5<_;omega,by have:=r.un;show A.units+3+16*k+200<_;omega⟩
theorem Room.in1 {k:Nat}{A:Around}(r:Room (k+1) A):Room k A.in1:=
 ⟨r.hd,by have:=r.dp;show A.depth+3*k+5<_;omega,by have:=r.un;show A.units+1+16*k+200<_;omega⟩
theorem make_depth {A:Around}{C:Addr}{us:List Value}{kw:List (Str×Value)}:(A.under (.builtin "type.__call__" ⟨.ref C::us,kw⟩)).depth=A.depth+1:=by
 first|rfl|simp [Around.under,Code.weight,Code.isCreation,Code.isGuard,Code.isCaller,Code.frames,Code.isFrame,guardIds]
theorem make_units {A:Around}{C:Addr}{us:List Value}{kw:List (Str×Value)}:(A.under (.builtin "type.__call__" ⟨.ref C::us,kw⟩)).units=A.units+1:=by
 first|rfl|simp [Around.under,Code.cUnits,Code.frames,Code.isFrame]
theorem Room.make {k:Nat}{A:Around}(r:Room (k+1) A)(C:Addr)(us:List Value)(kw:List (Str×Value)):Room k (A.under (.builtin "type.__call__" ⟨.ref C::us,kw⟩)):=
 ⟨r.hd,by have:=r.dp;rw [make_depth];omega,by have:=r.un;rw [make_units];omega⟩
theorem Room.depth {k:Nat}{A:Around}(r:Room k A):A.depth<recursionLimit:=by have:=r.dp;omega
theorem Room.units {k:Nat}{A:Around}(r:Room k A):A.units+64<cLine:=by have:=r.un;omega
theorem Room.units0 {k:Nat}{A:Around}(r:Room k A):A.units<cLine:=by have:=r.un;omega
def tNil:TA:=fun _ H Q=>Q [] H
def j6 (ta:TE)(tr:TA):TA:=fun σ H Q=>ta σ H fun x H1=>tr σ H1 fun xs H2=>Q (x::xs) H2
section
variable {X:Cx}{e:Expr}{es:List Expr}{te:TE}{t:TA}{pos:Pos}
theorem qc:PA X [] tNil:=fun _ _ _ _ H Q I h=>Calls.spliced_nil ⟨[],H,I,.nil,h⟩
theorem qa (ha:PE X e te)(B:PA X es t)(L:starEach (e::es) X.env=(false,eval e X.env)::starEach es X.env:=by rfl):PA X (e::es) (j6 te t):=by
 intro pos pins s σ H Q I h;rw [L];show wpAny _ _ (spliced ((false,eval e X.env)::backTo pos (starEach es X.env))) _ _ s;refine Calls.spliced_cons (thn (ha pins s σ H _ I h) fun u s1 ⟨x,H1,M,O,q1⟩=> ?_);exact thn (B pos pins s1 σ H1 _ M q1) fun us s2 ⟨xs,H2,U,Y,Z⟩=>⟨x::xs,H2,U,.cons O Y,Z⟩
def tTup (t:TA):TE:=fun σ H Q=>t σ H fun xs H1=>xs.length<=sizeLine/\∀p,H1 p=none->Q (.ref p) (upd H1 p (.tup xs))
def tLst (t:TA):TE:=fun σ H Q=>t σ H fun xs H1=>xs.length<=sizeLine/\∀p,H1 p=none->Q (.ref p) (upd H1 p (.lst xs))
theorem qy {x1}(h:PA X es t):PE X (.Tuple es x1 pos) (tTup t):=by
 intro pins s σ H Q I hq;refine wpAny_Tuple_spliced (thn (h pos pins s σ H _ I hq) fun us s1 ⟨xs,H1,B,r,z,q⟩=>⟨by rw [<-r.length];exact z,?_⟩)
 have L:H1 s1.heap.objs.size=none:=B.hok.fresh (Nat.le_refl _);refine⟨.ref s1.heap.objs.size,upd H1 s1.heap.objs.size (.tup xs),B.laid (t':=s1.toks) (fun b u e=>u7 _ e) (Nat.le_refl _) ?_,rfl,q _ L⟩;exact⟨z,us,r,⟨_,uf _ rfl,rfl,_,rfl⟩⟩
theorem Qq (h:PA X es t):PE X (.List es pos) (tLst t):=by
 intro pins s σ H Q I hq;refine wpAny_List_spliced (thn (h pos pins s σ H _ I hq) fun us s1 ⟨xs,H1,B,r,z,q⟩=>⟨by rw [<-r.length];exact z,?_⟩)
 have L:H1 s1.heap.objs.size=none:=B.hok.fresh (Nat.le_refl _);refine⟨.ref s1.heap.objs.size,upd H1 s1.heap.objs.size (.lst xs),B.laid (t':=s1.toks) (fun b u e=>u7 _ e) (Nat.le_refl _) ?_,rfl,q _ L⟩;exact⟨z,us,0,r,uf _ rfl⟩
end
abbrev Sp:=List V->Hp->VK->XK->Prop
abbrev CXT:=List Env->Hp->Shared->XK->Value->Shared->Prop
structure Env0 (P:Program)(w:World)(K:PySem.W.Frag)(mg:Str->Option Value)(base:Heap)(A:Around)(outer:List Env)(s:Shared)(H:Hp):Prop where
 frames:A.frames=some outer
 mod:Mod K mg base
 bs:∀b o,base.get? b=some o->s.heap.get? b=some o/\H b=none
 bsz:base.objs.size<=s.heap.objs.size
 funs:s.heap.FunFrames base outer
 frf:∀b∈frs outer,H b=none
 hok:HOk P w H s.heap
 bare:AllBare s.gens
def CE (outer:List Env)(P:Program)(w:World)(H:Hp)(s:Shared)(Q:VK)(u:Value)(s':Shared):Prop:=
 ∃v H',s'.os=s.os/\AllBare s'.gens/\0<s'.toks/\Un (frs outer) [] H H' s.heap s'.heap/\HOk P w H' s'.heap/\RelV v u/\Q v H'
def CR (CX:CXT)(outer:List Env)(P:Program)(w:World)(H:Hp)(s:Shared)(Q:VK)(E:XK)(r:Result)(s':Shared):Prop:=
 match r with
 | .ok (.ret u)=>CE outer P w H s Q u s'
 | .ok _=>False
 | .error e=>CX outer H s E e s'
structure FnOk (P:Program)(w:World)(K:PySem.W.Frag)(mg:Str->Option Value)(base:Heap)(CX:CXT)(k:Nat)(f:Addr)(fd:FuncData)(ps:List Str)(sp:Sp):Prop where
 len:∀vs H Q E,sp vs H Q E->vs.length=ps.length
 run:∀(A:Around) (outer:List Env) (s:Shared) (H:Hp) (args:Args) (us:List Value) (vs:List V) (Q:VK) (E:XK),Room k A->Env0 P w K mg base A outer s H->BindsTo s fd args (ps.zip us)->Vals vs us->sp vs H Q E->(0<s.toks∨∃x r,ps=x::r/\fd.scope.names.lookup x=some .local)->
  codeAny (model P w) A (.call (.ref f) args) (CR CX outer P w H s Q E) s
theorem Env0.make {P:Program}{w:World}{K:PySem.W.Frag}{mg:Str->Option Value}{base:Heap}{A:Around}{outer:List Env}{s:Shared}{H:Hp}(e:Env0 P w K mg base A outer s H)(C:Addr)(us:List Value)(kw:List (Str×Value)):
  Env0 P w K mg base (A.under (.builtin "type.__call__" ⟨.ref C::us,kw⟩)) outer s H:=⟨by first|exact e.frames|(simpa [Around.under,Code.envs,Code.isFrame,pushEnvs] using e.frames),e.mod,e.bs,e.bsz,e.funs,e.frf,e.hok,e.bare⟩
section
variable {X:Cx}{pins:List (Addr×Obj)}{σ:St}{H:Hp}{s s':Shared}
theorem Inv.env0 (I:Inv X pins σ H s):Env0 X.prog X.w X.K X.mg X.base X.A X.stack s H:=
 ⟨I.ok.frames,I.ok.mod,I.bs,v8 I.ok.bsz I.sz,I.stack,I.stkFree,I.hok,I.bare⟩
theorem Inv.after {Q:VK}{u:Value}(I:Inv X pins σ H s)(h:CE X.stack X.prog X.w H s Q u s'):EP X pins σ Q u s':=by
 obtain⟨v,H',os,bare,htk,un,hok,r,q⟩:=h;obtain⟨L,g,d,t,B⟩:=s';obtain rfl:B=s.os:=os;exact⟨v,H',I.call (h':=L) (g':=g) (d':=d) (t':=t) (ch:= []) un hok bare (fun b z=>absurd z (by simp)),r,q⟩
end
def tCall (sp:Sp)(dvs:List V)(E:XK)(t:TA):TE:=fun σ H Q=>t σ H fun vs H1=>sp (vs++dvs) H1 Q E
def tMeth (C:Addr)(m:Str)(sp:Sp)(dvs:List V)(E:XK)(ta:TE)(t:TA):TE:=fun σ H Q=>ta σ H fun x H1=>∃a dx fs,x= .ref a/\H1 a=some (.ins C dx fs)/\fs.lookup m=none/\
 t σ H1 fun vs H2=>sp (x::(vs++dvs)) H2 Q E
def tMake (C:Addr)(sp:Sp)(dvs:List V)(E:XK)(t:TA):TE:=fun σ H Q=>t σ H fun vs H1=>∀x dx,H1 x=none->H1 dx=none->dx≠x->
 sp (.ref x::(vs++dvs)) (upd (upd H1 dx (.own x)) x (.ins C dx [])) (fun v H2=>v= .non/\Q (.ref x) H2) E
def yC (K:PySem.W.Frag)(fd:FuncData)(ps:List Str)(ds:List Value):Prop:=
 ∀(s:Shared) (us:List Value),K.In s.heap->(us++ds).length=ps.length->BindsTo s fd ⟨us,[]⟩ (ps.zip (us++ds))
theorem yC.all {K:PySem.W.Frag}{fd:FuncData}{ps:List Str}(h:∀us:List Value,us.length=ps.length->bindArgs fd ⟨us,[]⟩=pure (ps.zip us)):yC K fd ps []:=fun s us _ B=>by
 rw [vL] at B⊢;exact .of_eq (h us B)
def Yy (CX:CXT)(X:Cx)(E:XK):Prop:=∀(pins:List (Addr×Obj)) (σ:St) (H:Hp) (s:Shared) (e:Value) (s':Shared),Inv X pins σ H s->CX X.stack H s E e s'->X.xe e s'
section
variable {X:Cx}{CX:CXT}{k:Nat}{f C:Addr}{fd:FuncData}{ps:List Str}{sp:Sp}{dvs:List V}{ds:List Value}{E:XK}{x m:Str}{p pos apos:Pos}{e o:Expr}{es:List Expr}{ta:TE}{t:TA}
theorem run_fn {pins:List (Addr×Obj)}{σ:St}{H:Hp}{s:Shared}{Q:VK}{us:List Value}{vs:List V}(F:FnOk X.prog X.w X.K X.mg X.base CX k f fd ps sp)(L:Room k X.A)(M:yC X.K fd ps ds)(hd:Vals dvs ds)(hx:Yy CX X E)
  (I:Inv X pins σ H s) (r:Vals vs us) (h:sp (vs++dvs) H Q E):wpAny (model X.prog X.w) X.A (call (.ref f) us) (EP X pins σ Q) X.xe s:=by
 have B:Vals (vs++dvs) (us++ds):=r.append hd;have O:(us++ds).length=ps.length:=by rw [<-B.length];exact F.len _ _ _ _ h
 refine wpAny_call (Uf (F.run X.A X.stack s H ⟨us,[]⟩ (us++ds) (vs++dvs) Q E L I.env0 (M s us I.kIn O) B h (.inl I.tk)) fun r s' hq=> ?_);cases r with
 |error e=>exact hx pins σ H s e s' I hq
 |ok U=>
  cases U with
  |ret u=>exact I.after hq
  |next=>exact False.elim hq
  |brk=>exact False.elim hq
  |cont=>exact False.elim hq
theorem ql (F:FnOk X.prog X.w X.K X.mg X.base CX k f fd ps sp)(O:Room k X.A)(U:Gl X x)(hm:X.mg x=some (.ref f))(hk:PySem.W.keepIn X.K (.ref f)=true)(Y:yC X.K fd ps ds)(hd:Vals dvs ds)(hx:Yy CX X E)
  (ha:PA X (e::es) t) (B:(x==("__debug__":Str))=false:=by decide) (Z:starEach (e::es) X.env=(false,eval e X.env)::starEach es X.env:=by rfl) (L:(backTo pos (starEach es X.env)).any (·.1)=false:=by rfl):
  PE X (.Call (.Name x p) (e::es) [] pos) (tCall sp dvs E t):=by
 intro pins s σ H Q I h;refine vQ (J5 I U hm ?_ B);refine PySem.W.callWith_K (h₀:=X.base) I.ok.mod.kin hk (thn (ha pos pins s σ H _ I h) fun us s1 ⟨vs,H1,M,r,q⟩=>⟨M.kIn,?_⟩) Z L;exact run_fn F O Y hd hx M r q
theorem pe_meth {pl:Sem Bool}(U:PE X o ta)(c:Cls X.K C)(hm:Meth X.K C m f)(F:FnOk X.prog X.w X.K X.mg X.base CX k f fd ps sp)(Y:Room k X.A)(Z:yC X.K fd ps ds)(hd:Vals dvs ds)(hx:Yy CX X E)(ha:PA X (e::es) t)
  (B:starEach (e::es) X.env=(false,eval e X.env)::starEach es X.env:=by rfl) (L:(backTo pos (starEach es X.env)).any (·.1)=false:=by rfl)
  (ht:eval (.Call (.Attribute o m apos) (e::es) [] pos) X.env=(do
   let ov<-eval o X.env
   standAt apos.atName
   let(f,first)<-holding [ov] (getMethod ov m pl)
   callWith pos f first (backTo pos (starEach (e::es) X.env)) (backToKw pos (keywordEach [] X.env))):=by rfl):
  PE X (.Call (.Attribute o m apos) (e::es) [] pos) (tMeth C m sp dvs E ta t):=by
 intro pins s σ H Q I h;refine PySem.W.methodCall_KW (pl:=pl) (thn (U pins s σ H _ I h) fun u s1 ⟨x,H1,M,rx,a,dx,fs,ex,ea,l,q⟩=> ?_) ht;subst ex;obtain rfl:u=Value.ref a:=rx;refine xO M ea c hm l ?_;refine PySem.W.callWith_K (first:= [.ref a]) (h₀:=X.base) I.ok.mod.kin hm.kp (thn (ha pos pins s1 σ H1 _ M q) fun us s2 ⟨vs,H2,O,r,q2⟩=>⟨O.kIn,?_⟩) B L;exact run_fn (us:= .ref a::us) (vs:= .ref a::vs) F Y Z hd hx O (.cons rfl r) q2
theorem x8 {pl:Sem Bool}(L:PE X o ta)(c:Cls X.K C)(hm:Meth X.K C m f)(F:FnOk X.prog X.w X.K X.mg X.base CX k f fd ps sp)(M:Room k X.A)(O:yC X.K fd ps ds)(hd:Vals dvs ds)(hx:Yy CX X E)
  (U:eval (.Call (.Attribute o m apos) [] [] pos) X.env=(do
   let ov<-eval o X.env
   standAt apos.atName
   let(f,first)<-holding [ov] (getMethod ov m pl)
   callWith pos f first (backTo pos (starEach [] X.env)) (backToKw pos (keywordEach [] X.env))):=by rfl):
  PE X (.Call (.Attribute o m apos) [] [] pos) (tMeth C m sp dvs E ta tNil):=by
 intro pins s σ H Q I h;refine PySem.W.methodCall_KW (pl:=pl) (thn (L pins s σ H _ I h) fun u s1 ⟨x,H1,B,Y,a,dx,fs,ex,Z,l,q⟩=> ?_) U;subst ex;obtain rfl:u=Value.ref a:=Y;refine xO B Z c hm l ?_;exact PySem.W.callWith_K0 (first:= [.ref a]) B.kIn hm.kp (run_fn (us:= [.ref a]) (vs:= [.ref a]) F M O hd hx B (.cons rfl .nil) q)
structure Mk (K:PySem.W.Frag)(C f:Addr):Prop where
 makes:PySem.W.makesIn K C=true
 init:PySem.W.findIn K (.ref C) "__init__"=some (some (.ref f))
 fn:PySem.W.isFn K (.ref f)=true
 kp:PySem.W.keepIn K (.ref C)=true
theorem run_make {pins:List (Addr×Obj)}{σ:St}{H:Hp}{s:Shared}{Q:VK}{us:List Value}{vs:List V}(M:Mk X.K C f)(F:FnOk X.prog X.w X.K X.mg X.base CX k f fd ps sp)(U:Room (k+1) X.A)(Y:yC X.K fd ps ds)(hd:Vals dvs ds)
  (hx:Yy CX X E) (I:Inv X pins σ H s) (r:Vals vs us)
  (h:∀x dx,H x=none->H dx=none->dx≠x->sp (.ref x::(vs++dvs)) (upd (upd H dx (.own x)) x (.ins C dx [])) (fun v H2=>v= .non/\Q (.ref x) H2) E):
  wpAny (model X.prog X.w) X.A (call (.ref C) us) (EP X pins σ Q) X.xe s:=by
 have hq:=h (s.heap.objs.size+1) s.heap.objs.size (I.hok.fresh (Nat.le_succ _)) (I.hok.fresh (Nat.le_refl _)) (uy (UF _));have L:=Inv.made (C:=C) I;have O:Vals (V.ref (s.heap.objs.size+1)::(vs++dvs)) (Value.ref (s.heap.objs.size+1)::(us++ds)):= .cons rfl (r.append hd);have Z:(Value.ref (s.heap.objs.size+1)::us++ds).length=ps.length:=by
  have e:=O.length;rw [F.len _ _ _ _ hq] at e;exact e.symm
 refine wpAny_call (make_map (f:=f) I.kIn M.makes M.init (beq_iff_eq.mp M.fn) (Uf (F.run _ X.stack _ _ ⟨Value.ref (s.heap.objs.size+1)::us,[]⟩ (Value.ref (s.heap.objs.size+1)::(us++ds)) _ _ E (U.make C us [])
  (L.env0.make C us []) (Y _ (Value.ref (s.heap.objs.size+1)::us) L.kIn Z) O hq (.inl L.tk)) fun r s' B=> ?_))
 cases r with
 |error e=>exact hx pins σ _ _ e s' L B
 |ok fl=>
  cases fl with
  |ret u=>
   obtain⟨v,H',I3,rv,ev,q3⟩:=L.after B;subst ev;exact⟨rv,⟨V.ref (s.heap.objs.size+1),H',I3,rfl,q3⟩⟩
  |next=>exact False.elim B
  |brk=>exact False.elim B
  |cont=>exact False.elim B
theorem pe_make (M:Mk X.K C f)(F:FnOk X.prog X.w X.K X.mg X.base CX k f fd ps sp)(U:Room (k+1) X.A)(Y:Gl X x)(hm:X.mg x=some (.ref C))(Z:yC X.K fd ps ds)(hd:Vals dvs ds)(hx:Yy CX X E)
  (ha:PA X (e::es) t) (B:(x==("__debug__":Str))=false:=by decide) (he:starEach (e::es) X.env=(false,eval e X.env)::starEach es X.env:=by rfl) (L:(backTo pos (starEach es X.env)).any (·.1)=false:=by rfl):
  PE X (.Call (.Name x p) (e::es) [] pos) (tMake C sp dvs E t):=by
 intro pins s σ H Q I h;refine vQ (J5 I Y hm ?_ B);refine PySem.W.callWith_K (h₀:=X.base) I.ok.mod.kin M.kp (thn (ha pos pins s σ H _ I h) fun us s1 ⟨vs,H1,O,r,q⟩=>⟨O.kIn,?_⟩) he L;exact run_make M F U Z hd hx O r q
theorem X3 (M:Mk X.K C f)(F:FnOk X.prog X.w X.K X.mg X.base CX k f fd ps sp)(L:Room (k+1) X.A)(O:Gl X x)(hm:X.mg x=some (.ref C))(U:yC X.K fd ps ds)(hd:Vals dvs ds)(hx:Yy CX X E)
  (B:(x==("__debug__":Str))=false:=by decide):PE X (.Call (.Name x p) [] [] pos) (tMake C sp dvs E tNil):=by
 intro pins s σ H Q I h;refine vQ (J5 I O hm ?_ B);exact PySem.W.callWith_K0 I.kIn M.kp (run_make (us:= []) M F L U hd hx I .nil h)
end
def PK (X:Cx)(kws:List Keyword)(t:TA):Prop:=
 ∀(pos:Pos) (pins:List (Addr×Obj)) (s:Shared) (σ:St) (H:Hp) (Q:List V->Hp->Prop),Inv X pins σ H s->t σ H Q->wpAny (model X.prog X.w) X.A (evalAll ((backToKw pos (keywordEach kws X.env)).map (·.2))) (AP X pins σ Q) X.xe s
section
variable {X:Cx}{CX:CXT}{k:Nat}{f C:Addr}{fd:FuncData}{ps ks:List Str}{sp:Sp}{E:XK}{x m:Str}{p pos apos kpos:Pos}{e o:Expr}{es:List Expr}{kws:List Keyword}{te ta:TE}{t tk:TA}{nm:Option Str}
theorem pk_nil:PK X [] tNil:=fun _ _ _ _ H Q I h=>wpAny_evalAll_nil ⟨[],H,I,.nil,h⟩
theorem Xp (ha:PE X e te)(B:PK X kws t):PK X (⟨nm,e,kpos⟩::kws) (j6 te t):=by
 intro pos pins s σ H Q I h;show wpAny _ _ (evalAll ((do let v<-eval e X.env;standAt pos;pure v)::(backToKw pos (keywordEach kws X.env)).map (·.2))) _ _ s
 refine wpAny_evalAll_cons (wpAny_bind (thn (ha pins s σ H _ I h) fun u s1 ⟨x,H1,L,M,q1⟩=>wpAny_bind (wpAny_standAt (wpAny_pure ?_))));exact thn (B pos pins s1 σ H1 _ L q1) fun us s2 ⟨xs,H2,O,U,Y⟩=>⟨x::xs,H2,O,.cons M U,Y⟩
variable {g:List Value->List Value->List Value}{gV:List V->List V->List V}
end
structure qz (N P:List Str)(sc:Scope):Prop where
 kind:sc.kind= .function
 co:sc.isCoroutine=false
 gen:sc.isGenerator=false
 nd:N.Nodup
 pre:N.take P.length=P
 par:∀x∈P,sc.names.lookup x=some .local∨sc.names.lookup x=some .cell
 nofree:∀y∈sc.names,y.2≠ .free
theorem bindL_out {kindOf:Str->Option NameKind}{x:Str}:∀{binds:List (Str×Value)}{m:Str->Option Value},(∀v,(x,v)∉binds)->bindL kindOf binds m x=m x
 | [],_,_=>rfl
 |(n,v)::r,m,h=>by
  unfold bindL;rw [bindL_out fun w B=>h w (u4 _ B)];split
  ·have:x≠n:=by rintro rfl;exact h v u5
   simp [this]
  ·rfl
theorem bindC_out {kindOf:Str->Option NameKind}{x:Str}:∀{binds:List (Str×Value)}{m:Str->Option Value},(∀v,(x,v)∉binds)->bindC kindOf binds m x=m x
 | [],_,_=>rfl
 |(n,v)::r,m,h=>by
  unfold bindC;rw [bindC_out fun w B=>h w (u4 _ B)];split
  ·rfl
  ·have:x≠n:=by rintro rfl;exact h v u5
   simp [this]
theorem bindL_get {kindOf:Str->Option NameKind}{x:Str}{v:Value}:∀{P:List Str}{vs:List Value}{i:Nat}{m:Str->Option Value},P.Nodup->P[i]? =some x->vs[i]? =some v->kindOf x=some .local->
  bindL kindOf (P.zip vs) m x=some v
 | [],_,_,_,_,h,_,_=>by simp at h
 |_::_,[],_,_,_,_,h,_=>by simp at h
 |p::P,w::vs,0,m,nd,h1,h2,hk=>by
  simp at h1 h2;subst h1;subst h2;show bindL kindOf ((p,w)::P.zip vs) m p=_;unfold bindL;rw [bindL_out fun v B=>(List.nodup_cons.mp nd).1 (List.of_mem_zip B).1,if_pos hk];simp
 |p::P,w::vs,i+1,m,nd,h1,h2,hk=>by
  show bindL kindOf ((p,w)::P.zip vs) m x=_;unfold bindL;exact bindL_get (i:=i) (List.nodup_cons.mp nd).2 (by simpa using h1) (by simpa using h2) hk
theorem bindC_get {kindOf:Str->Option NameKind}{x:Str}{v:Value}:∀{P:List Str}{vs:List Value}{i:Nat}{m:Str->Option Value},P.Nodup->P[i]? =some x->vs[i]? =some v->kindOf x≠some .local->
  bindC kindOf (P.zip vs) m x=some v
 | [],_,_,_,_,h,_,_=>by simp at h
 |_::_,[],_,_,_,_,h,_=>by simp at h
 |p::P,w::vs,0,m,nd,h1,h2,hk=>by
  simp at h1 h2;subst h1;subst h2;show bindC kindOf ((p,w)::P.zip vs) m p=_;unfold bindC;rw [bindC_out fun v B=>(List.nodup_cons.mp nd).1 (List.of_mem_zip B).1,if_neg hk];simp
 |p::P,w::vs,i+1,m,nd,h1,h2,hk=>by
  show bindC kindOf ((p,w)::P.zip vs) m x=_;unfold bindC;exact bindC_get (i:=i) (List.nodup_cons.mp nd).2 (by simpa using h1) (by simpa using h2) hk
def jZ (N:List Str)(vs:List V):St:=vs.map some++List.replicate (N.length-vs.length) none
def cxOf (CX:CXT)(P:Program)(w:World)(K:PySem.W.Frag)(mg:Str->Option Value)(base:Heap)(N:List Str)(qual:Str)(scope:Scope)(f:Addr)(cd:Value)(A:Around)(outer:List Env)(s:Shared)(H:Hp)(E:XK):Cx where
 prog:=P
 w:=w
 K:=K
 mg:=mg
 base:=base
 A:=A.deeper (envOfC qual scope s.heap.objs.size f cd)
 N:=N
 s₀:=s
 H₀:=H
 env:=envOfC qual scope s.heap.objs.size f cd
 outer:=outer
 stack:=envOfC qual scope s.heap.objs.size f cd::outer
 ex:= []
 calm:=true
 fn:=fun _=>true
 pn:= []
 xe:=fun e s'=>wpAny (model P w) (A.deeper (envOfC qual scope s.heap.objs.size f cd)) (leaving (envOfC qual scope s.heap.objs.size f cd) e) (fun _ s''=>CX outer H s E e s'') (fun e' s''=>CX outer H s E e' s'') s'
theorem cell_has {sc:Scope}{n:Nat}{x:Str}(h:sc.names.lookup x=some .cell):∃c,(cellsFrom n sc.names []).lookup x=some c:=by
 have q:=PySem.W.cellsFrom_some sc.names n [] (.inl h);exact Option.isSome_iff_exists.mp q
theorem inv_start {CX:CXT}{P:Program}{w:World}{K:PySem.W.Frag}{mg:Str->Option Value}{base:Heap}{N ps:List Str}{qual:Str}{scope:Scope}{f:Addr}{Y:Value}{A:Around}{outer:List Env}{s s1:Shared}{H:Hp}{E:XK}{us:List Value}{vs:List V}
  (S:qz N ps scope) (hd:A.handled=none) (B:Env0 P w K mg base A outer s H) (hl:vs.length=ps.length) (r:Vals vs us)
  (x:InCallC s s.heap.objs.size (bindL (envOfC qual scope s.heap.objs.size f Y).kindOf (ps.zip us) fun _=>none) (cellsFrom (s.heap.objs.size+1) scope.names []) (bindC (envOfC qual scope s.heap.objs.size f Y).kindOf (ps.zip us) fun _=>none) s1) (Z:0<s1.toks):
  Inv (cxOf CX P w K mg base N qual scope f Y A outer s H E) [] (jZ N vs) H s1:=by
 have aa:ps.length<=N.length:=by have:=congrArg List.length S.pre;rw [uq] at this;omega
 obtain⟨h1,tk,rfl,hk⟩:=x.done;have L:∀b:Addr,b∉(cxOf CX P w K mg base N qual scope f Y A outer s H E).ex:=fun b z=>absurd (show b∈([]:List Addr) from z) (by simp)
 refine⟨⟨B.mod,S.kind,rfl,rfl,Nat.le_refl _,fun y z c h1 h2=> ?_,fun y M=> ?_,fun y c _ h=> ?_,fun _=>hd,Around.frames_deeper B.frames,.inr ⟨rfl,rfl⟩,fun b z=>absurd z (L b),B.bs,B.bsz,fun b _ _=>L b,fun b z=>absurd z (L b),B.funs,B.frf⟩,
  rfl,B.bare,Un.kept hk,⟨_,x.toInCall.ns,fun i y v h1 h2 h3=> ?_⟩,fun y c h=>⟨_,x.cell y c h⟩,B.hok.fresh (Nat.le_refl _),fun y c h=> ?_,fun p O=>absurd (show p∈([]:List (Addr×Obj)) from O) (by simp),B.hok.kept hk,?_,Z⟩
 ·exact name_of_addr x.apart (vD h1) (vD h2)
 ·have M:scope.names.lookup y=some .cell∨scope.names.lookup y=some .free:=M;rcases M with M|M
  ·exact cell_has M
  ·exact absurd rfl (S.nofree _ (vD M))
 ·exact vU (x.above y c (vD h))
 ·have hi:i<vs.length:=by
   unfold jZ at h2;by_cases hi:i<vs.length
   ·exact hi
   ·rw [vB (by simpa using hi)] at h2
    rw [List.getElem?_replicate] at h2;split at h2<;>cases h2
  have ha:vs[i]? =some v:=by
   unfold jZ at h2;rw [v7 (by simpa using hi),uj] at h2
   cases e:vs[i]? with
   |none=>rw [e] at h2;cases h2
   |some a=>rw [e] at h2;cases h2;rfl
  obtain⟨u,hu,rv⟩:=r.get ha;have O:ps[i]? =some y:=by
   rw [<-S.pre,List.getElem?_take_of_lt (by omega)];exact h1
  have U:ps.Nodup:=by rw [<-S.pre];exact S.nd.sublist (List.take_sublist _ _)
  refine⟨u,rv,?_⟩;rcases S.par y (ud O) with k|k
  ·exact .inl ⟨k,bindL_get U O hu k⟩
  ·obtain⟨c,e⟩:=cell_has (n:=s.heap.objs.size+1) k;refine .inr ⟨.inl k,c,e,?_⟩;have q:=x.cell y c e;rw [bindC_get U O hu (by show scope.names.lookup y≠_;rw [k];decide)] at q
   exact q
 ·exact B.hok.fresh (vU (x.above y c (vD h)))
 ·unfold jZ;show _=N.length;rw [ui,uc,List.length_replicate];omega
theorem bindParams1 {M:Model}{A:Around}{E:Value->Shared->Prop}{s₀ s:Shared}{m O:Str->Option Value}{env:Env}(f:Str×Value->PUnit->Sem (ForInStep PUnit))(hf:∀n v u,f (n,v) u=(do storeName env n v;pure (.yield ⟨⟩)))(B:env.scope.kind= .function)
  (n:Str) (v:Value) (r:List (Str×Value)) (Q:PUnit->Shared->Prop) (x:InCallC s₀ env.locals m env.cells O s) (U:env.kindOf n=some .local)
  (Y:∀x∈r,env.kindOf x.1=some .local∨(env.kindOf x.1=some .cell/\(env.cells.lookup x.1).isSome=true))
  (h:∀s',InCallC s₀ env.locals (bindL env.kindOf ((n,v)::r) m) env.cells (bindC env.kindOf ((n,v)::r) O) s'->0<s'.toks->Q ⟨⟩ s'):wpAny M A (forIn ((n,v)::r) ⟨⟩ f) Q E s:=by
 rw [List.forIn_cons,hf];refine wpAny_bind (wpAny_bind (wpAny_storeName_local U x.toInCall.ns (fun h' Z L=>wpAny_pure ?_) (by rw [B];rfl)))
 have x1:InCallC s₀ env.locals (fun y=>if y=n then some v else m y) env.cells O {s with heap:=h',toks:=s.toks+1}:=by
  refine⟨⟨?_,Z,fun b o e=> ?_,x.toInCall.fresh⟩,fun k c hc=> ?_,x.apart,x.above⟩
  ·obtain⟨h₁,tk,rfl⟩:=x.toInCall.same;exact⟨h',_,rfl⟩
  ·have:=x.toInCall.keep b o e;exact L.extBut b o (uy (Nat.lt_of_lt_of_le (uh e) x.toInCall.fresh)) (x.toInCall.keep b o e)
  ·exact(x.cell k c hc).sameBut L (V3 (x.above k c (mem_of_lookup hc)))
 refine uH (n:=1) (Nat.succ_le_succ (uv _)) (wpAny_bindParams f hf B r _ _ _ _ x1 Y fun s' y h1=>h s' ?_ h1);unfold bindL bindC;rw [if_pos U,if_pos U];exact y
theorem newEnv_tk {M:Model}{A:Around}{E:Value->Shared->Prop}{s:Shared}{scope:Scope}{globals:Addr}{binds:List (Str×Value)}{qual:Str}{func:Option Addr}{B:Value}{builtins:Addr}{Q:Env->Shared->Prop}
  (O:scope.kind= .function)
  (U:∀x∈binds,scope.names.lookup x.1=some .local∨(scope.names.lookup x.1=some .cell/\((cellsFrom (s.heap.objs.size+1) scope.names []).lookup x.1).isSome=true))
  (htk:0<s.toks∨∃n v r,binds=(n,v)::r/\scope.names.lookup n=some .local)
  (hq:∀en,en=newEnv scope s.heap.objs.size globals (cellsFrom (s.heap.objs.size+1) scope.names []) qual func B none builtins->
   ∀s',InCallC s en.locals (bindL en.kindOf binds fun _=>none) en.cells (bindC en.kindOf binds fun _=>none) s'->0<s'.toks->Q en s'):
  wpAny M A (newFunctionEnv scope globals [] binds qual func B none builtins) Q E s:=by
 rcases htk with htk|⟨n,v,r,rfl,Z⟩
 ·exact uH (n:=1) htk (wpAny_newFunctionEnv_cells O U fun env he s' x h1=>hq env he s' x h1)
 ·simp only [newFunctionEnv,Option.isSome_none,uS,U4];refine wpAny_bind (wpAny_alloc ?_);refine wpAny_bind (wpAny_layCells _ (fun name kind cells=>by cases Y:kind==NameKind.cell<;>simp [Y]) _ _ _ _ ?_)
  have L:=cellsFrom_ok scope.names (s.heap.push {cls:= .type "frame",data:= .dict #[]}) (s.heap.objs.size+1) [] ⟨fun _ _ hm=>(nomatch hm),List.Pairwise.nil⟩ (by rw [vw];exact Nat.le_refl _);rw [vw] at L;rw [show({s with heap:=s.heap.push {cls:= .type "frame",data:= .dict #[]}}:Shared).heap.objs.size=s.heap.objs.size+1 from vw ..]
  exact wpAny_bind (bindParams1 (s₀:=s) (env:=newEnv scope s.heap.objs.size globals (cellsFrom (s.heap.objs.size+1) scope.names []) qual func B none builtins)
   _ (fun _ _ _=>rfl) O n v r _
   ⟨⟨⟨_,_,by rfl⟩,(Heap.Ns.new s.heap (.type "frame")).keeps (pushCells_keeps _ _),fun b o e=>pushCells_keeps _ _ b o (u7 _ e),Nat.le_refl _⟩,
    fun m c hc=>(L.empty m c (mem_of_lookup hc)).1,L.apart,fun n c hm=>(L.empty n c hm).2⟩
   Z (fun y hy=>U y (u4 _ hy)) fun s' x h1=>wpAny_pure (hq _ rfl s' x h1))
theorem fn_of {CX:CXT}{P:Program}{w:World}{K:PySem.W.Frag}{mg:Str->Option Value}{base:Heap}{k:Nat}{f:Addr}{name qual:Str}{B:Arguments}{L:List Stmt}{scope:Scope}{dV kV doc pm cdv ct oc:Value}{an od:Option Addr}
  {osl:Array (Option Value)}{N ps:List Str}{sp:Sp} (lk:K.lookup f=some ⟨oc,od,.func (PySem.W.fnOf name qual B L scope dV kV doc pm an cdv ct),osl⟩) (ac:PySem.W.codeIn K cdv qual=true) (S:qz N ps scope)
  (len:∀vs H Q E,sp vs H Q E->vs.length=ps.length)
  (M:∀(A:Around) (outer:List Env) (s:Shared) (H:Hp) (vs:List V) (Q:VK) (E:XK),Room k (A.deeper (envOfC qual scope s.heap.objs.size f cdv))->sp vs H Q E->
   ∃t,PSs (cxOf CX P w K mg base N qual scope f cdv A outer s H E) L t/\t {nx:=fun _ H'=>Q .non H',rt:=Q} (jZ N vs) H):
  FnOk P w K mg base CX (k+1) f (PySem.W.fnOf name qual B L scope dV kV doc pm an cdv ct) ps sp:=by
 refine⟨len,fun A outer s H args us vs Q E hr Y hb r Z htk=> ?_⟩;have hl:=len _ _ _ _ Z;have KX:K.In s.heap:=Y.mod.kin.keeps fun b o e=>(Y.bs b o e).1;have lim:s.heap.NoLimit:=Y.mod.nolimit.keeps fun b o e=>(Y.bs b o e).1;have O:∀y∈ps.zip us,scope.names.lookup y.1=some .local∨(scope.names.lookup y.1=some .cell/\((cellsFrom (s.heap.objs.size+1) scope.names []).lookup y.1).isSome=true):=fun⟨n,v⟩ hy=>by
  rcases S.par n (List.of_mem_zip hy).1 with q|q
  ·exact .inl q
  ·exact .inr ⟨q,PySem.W.cellsFrom_some _ _ _ (.inl q)⟩
 have aa:0<s.toks∨∃n v r,ps.zip us=(n,v)::r/\scope.names.lookup n=some .local:=by
  rcases htk with h|⟨y,q,e,hy⟩
  ·exact .inl h
  ·have:us.length=ps.length:=by rw [<-r.length];exact hl
   subst e
   match us,this with
   |u::us',_=>exact .inr ⟨y,u,q.zip us',rfl,hy⟩
 refine codeAny_call_function hr.depth (KX _ _ lk) rfl S.co S.gen rfl (PySem.W.codeRec_of KX ac) (hb _ _ _ _ ?_);refine newEnv_tk S.kind O aa fun env he s1 x ad=> ?_;subst he;refine⟨lim.keeps x.toInCall.keep,codeAny_func ?_⟩;obtain⟨t,ht,hq⟩:=M A outer s H vs Q E (hr.deeper _) Z;have I:Inv (cxOf CX P w K mg base N qual scope f cdv A outer s H E) [] (jZ N vs) H s1:=inv_start S hr.hd Y hl r x ad;refine vc (ht [] s1 (jZ N vs) H _ I hq) (fun fl s' U=> ?_) fun e s' U=>U;have ab:∀{σ':St}{H':Hp}{v:V}{u:Value},Inv (cxOf CX P w K mg base N qual scope f cdv A outer s H E) [] σ' H' s'->RelV v u->Q v H'->CE outer P w H s Q u s':=
  fun{σ' H' v u} J rv q=>⟨v,H',J.os,J.bare,J.tk,J.base,J.hok,rv,q⟩
 cases fl with
 |ret u=>
  obtain⟨v,σ',H',J,rv,q⟩:=U;exact ab J rv q
 |next=>
  obtain⟨σ',H',J,q⟩:=U;exact ab (v:=V.non) (u:=Value.none) J rfl q
 |brk=>
  obtain⟨_,_,_,q⟩:=U;exact False.elim q
 |cont=>
  obtain⟨_,_,_,q⟩:=U;exact False.elim q
section
variable {X:Cx}{x:Str}{p pos:Pos}{e:Expr}{es:List Expr}{t:TA}{id T:String}{r:List V->Hp->VK->Prop}
def tCB (r:List V->Hp->VK->Prop)(t:TA):TE:=fun σ H Q=>t σ H fun vs H1=>r vs H1 Q
theorem qx (M:yN X (.builtin id) r)(O:Gl X x)(hm:X.mg x=none)(U:bootBuiltins x=some (.builtin id))(ha:PA X (e::es) t)(hn:x≠"__name__":=by decide)(B:(x==("__debug__":Str))=false:=by decide)
  (Y:starEach (e::es) X.env=(false,eval e X.env)::starEach es X.env:=by rfl) (L:(backTo pos (starEach es X.env)).any (·.1)=false:=by rfl):PE X (.Call (.Name x p) (e::es) [] pos) (tCB r t):=by
 intro pins s σ H Q I h;refine vQ (jU I O hm U ?_ hn B);exact PyProof.Rows.callWith_builtin1 (thn (ha pos pins s σ H _ I h) fun us s1 ⟨vs,H1,Z,r1,q1⟩=>M pins s1 σ H1 vs us Q Z r1 q1) Y L
theorem Qo (M:yN X (.type T) r)(O:Gl X x)(hm:X.mg x=none)(U:bootBuiltins x=some (.type T))(ha:PA X (e::es) t)(hn:x≠"__name__":=by decide)(B:(x==("__debug__":Str))=false:=by decide)
  (Y:starEach (e::es) X.env=(false,eval e X.env)::starEach es X.env:=by rfl) (L:(backTo pos (starEach es X.env)).any (·.1)=false:=by rfl):PE X (.Call (.Name x p) (e::es) [] pos) (tCB r t):=by
 intro pins s σ H Q I h;refine vQ (jU I O hm U ?_ hn B);exact vV (thn (ha pos pins s σ H _ I h) fun us s1 ⟨vs,H1,Z,r1,q1⟩=>M pins s1 σ H1 vs us Q Z r1 q1) Y L
end
end L2
namespace HT
open PySem PyProof.Rows
section
variable {prog:Program}{w:World}{A:Around}{E:Value->Shared->Prop}{s:Shared}
theorem cat_tup {t b:Addr}{vs ws:List Value}{Q:Value->Shared->Prop}(ht:IsTup s.heap t vs.toArray)(hb:IsTup s.heap b ws.toArray)(hv:vs≠ [])
  (h1:ws= []->Q (.ref t) s) (h2:ws≠ []->Q (.ref s.heap.objs.size) {s with heap:=s.heap.push {cls:= .type "tuple",data:= .seq (vs++ws).toArray}})
  (hsz:vs.length+ws.length<=sizeLine):wpAny (model prog w) A (binaryOp .Add (.ref t) (.ref b)) Q E s:=by
 obtain⟨⟨cls,dd,data,sl⟩,U,hc,n,hd⟩:=id ht;obtain⟨⟨aa,L,Z,M⟩,B,O,n2,hd2⟩:=id hb;simp only at hc hd O hd2;subst hc hd O hd2;have e:vs.toArray++ws.toArray=(vs++ws).toArray:=by simp
 by_cases Y:ws= []
 ·exact concat_meets ⟨_,U,rfl⟩ ⟨_,B,rfl⟩ noFill_tuple_add seq_tuple_add PySem.F.slot_tuple_add UO (UG _ _)
   (tuple_addW1 t b vs.toArray ws.toArray n n2 dd L sl M (by simpa using hv) (by simp [Y])) ⟨U,B,h1 Y⟩
 ·refine concat_meets ⟨_,U,rfl⟩ ⟨_,B,rfl⟩ noFill_tuple_add seq_tuple_add PySem.F.slot_tuple_add UO (UG _ _)
   (tuple_addW2 t b vs.toArray ws.toArray n n2 dd L sl M (by simpa using hv) (by simpa using Y) (by rw [u9,u9];exact hsz)) ⟨U,B,?_⟩
  rw [e];exact h2 Y
def sIx (n d:Nat):Option Int->Nat
 |none=>d
 |some v=>if v<0 then(v+(n:Int)).toNat else min v.toNat n
theorem sIx_none (n d:Nat):sIx n d none=d:=rfl
theorem sIx_nat (n d k:Nat):sIx n d (some (k:Int))=min k n:=by
 show(if(k:Int)<0 then((k:Int)+(n:Int)).toNat else min (k:Int).toNat n)=min k n
 rw [if_neg (by omega),Uc]
theorem sIx_le (n d:Nat)(hd:d<=n)(o:Option Int):sIx n d o<=n:=by
 cases o with
 |none=>exact hd
 |some v=>
  show(if v<0 then(v+(n:Int)).toNat else min v.toNat n)<=n
  by_cases B:v<0
  ·rw [if_pos B];omega
  ·rw [if_neg B];exact Nat.min_le_right _ _
theorem clip_eq (v:Int)(n d:Nat):(if v<0 then max (v+(n:Int)) 0 else min v (n:Int))=((sIx n d (some v):Nat):Int):=by
 show(if v<0 then max (v+(n:Int)) 0 else min v (n:Int))=(((if v<0 then(v+(n:Int)).toNat else min v.toNat n):Nat):Int)
 by_cases B:v<0
 ·simp only [if_pos B];omega
 ·simp only [if_neg B];omega
theorem adjust_gen (lo hi:Option Int)(n:Nat):Builtin.Slice.sliceAdjust lo hi 1 (n:Int)=(((sIx n 0 lo:Nat):Int),((sIx n n hi:Nat):Int)):=by
 have h1:¬((1:Int)<0):=by omega
 unfold Builtin.Slice.sliceAdjust;simp only [h1,U4];refine Prod.ext ?_ ?_
 ·cases lo with
  |none=>rfl
  |some v=>exact clip_eq v n 0
 ·cases hi with
  |none=>rfl
  |some v=>exact clip_eq v n n
theorem places_gen (i j:Nat):Builtin.Slice.slicePlaces (i:Int) (j:Int) 1=j-i:=by
 unfold Builtin.Slice.slicePlaces;have h1:(1:Int)>0:=by omega
 simp only [h1,if_true,Int.ediv_one];split<;>omega
theorem xY {v:Value}{o:Option Int}{Q:Option Int->Shared->Prop}(p:IsPart v o)(h:Q o s):wpAny (model prog w) A (Builtin.Slice.slicePartIndex v) Q E s:=by
 cases p with
 |none=>exact slicePart_none h
 |int i t=>exact slicePart_int h
theorem yQ {sl:Addr}{M O:Value}{lo hi:Option Int}{n:Nat}{Q:Int×Int×Nat->Shared->Prop}(U:s.heap.IsSliceOf sl M O .none)(pl:IsPart M lo)(pu:IsPart O hi)
  (h:Q (((sIx n 0 lo:Nat):Int),1,sIx n n hi-sIx n 0 lo) s):wpAny (model prog w) A (Builtin.Slice.sliceApplied (.ref sl) (pure (n:Int))) Q E s:=by
 obtain⟨os,B,Y,L⟩:=id U;unfold Builtin.Slice.sliceApplied Builtin.Slice.sliceFields;refine wpAny_bind (wpAny_bind (vR B L (x:=M) rfl (wpAny_bind (vR B L (x:=O) rfl (wpAny_bind (vR B L (x:= .none) rfl (wpAny_pure ?_)))))));refine wpAny_bind (slicePart_none ?_);show wpAny _ _ (if((1:Int)==0)=true then _ else _) _ _ s
 rw [if_neg (by decide)]
 refine wpAny_bind (xY pl (wpAny_bind (xY pu (wpAny_bind (wpAny_pure ?_)))));show wpAny _ _ (match Builtin.Slice.sliceAdjust lo hi 1 (n:Int) with|(lo,hi)=>pure (lo,(1:Int),Builtin.Slice.slicePlaces lo hi 1)) _ _ s
 rw [adjust_gen lo hi n];show wpAny _ _ (pure (((sIx n 0 lo:Nat):Int),(1:Int),Builtin.Slice.slicePlaces ((sIx n 0 lo:Nat):Int) ((sIx n n hi:Nat):Int) 1)) _ _ s;rw [places_gen];exact wpAny_pure h
theorem pick_gen (xs:Array Value)(i k:Nat):((List.range k).filterMap fun(m:Nat)=>xs[((i:Int)+(m:Int)*1).toNat]?).toArray=((xs.toList.drop i).take k).toArray:=by
 have e:(fun(m:Nat)=>xs[((i:Int)+(m:Int)*1).toNat]?)=fun m=>xs[i+m]? :=by
  funext m
  have:((i:Int)+(m:Int)*1).toNat=i+m:=by omega
  rw [this]
 rw [e];have:=pick_run xs i k;rw [List.filterMap_map] at this;have B:((fun x=>xs[x]?)∘fun x=>i+x)=fun m=>xs[i+m]? :=rfl;rw [B] at this;rw [this]
theorem getItem_tuple_cut {t sl:Addr}{items:Array Value}{Z vu:Value}{lo hi:Option Int}{Q:Value->Shared->Prop}(L:IsTup s.heap t items)(hs:s.heap.IsSliceOf sl Z vu .none)(pl:IsPart Z lo)(pu:IsPart vu hi)
  (hw:¬(sIx items.size 0 lo=0/\sIx items.size items.size hi=items.size))
  (h:Q (.ref s.heap.objs.size) {s with heap:=s.heap.push {cls:= .type "tuple",data:= .seq ((items.toList.drop (sIx items.size 0 lo)).take (sIx items.size items.size hi-sIx items.size 0 lo)).toArray}})
  (hsz:items.size<=sizeLine):wpAny (model prog w) A (getItem (.ref t) (.ref sl)) Q E s:=by
 have B:sizeOk (.seq ((items.toList.drop (sIx items.size 0 lo)).take (sIx items.size items.size hi-sIx items.size 0 lo)).toArray):=by
  show((items.toList.drop (sIx items.size 0 lo)).take (sIx items.size items.size hi-sIx items.size 0 lo)).toArray.size<=sizeLine;rw [u9,uq,Ul,Array.length_toList];omega
 have hj:sIx items.size items.size hi<=items.size:=sIx_le _ _ (Nat.le_refl _) hi;obtain⟨os,M,O,aa⟩:=id hs;have U:s.TypeIs (.ref sl) "slice":=⟨os,M,O⟩;unfold getItem
 try with_reducible refine uA ?_
 first|refine wpAny_bind (wpAny_pure ?_)|skip
 refine wpAny_bind (UX L.typeIs (by decide) ?_)
 refine wpAny_bind (uC (name:=Str.ofString "__getitem__") L.typeIs vE
  (uz vE L.typeIs entry_tuple_getitem ?_ (args_tuple_getitem _ _)))
 show wpAny _ _ (Builtin.Tuple.tupleItemsOf (.ref t)>>=_) _ _ s;refine wpAny_bind (tupleItemsOf_ L ?_);refine wpAny_bind (UH U ?_);rw [if_pos (by decide)]
 refine wpAny_bind (yQ hs pl pu ?_);have Y:¬((((sIx items.size 0 lo:Nat):Int)==0&&(1:Int)==1&&(sIx items.size items.size hi-sIx items.size 0 lo)==items.size)=true):=by
  intro q;rw [Bool.and_eq_true,Bool.and_eq_true] at q;have q1:((sIx items.size 0 lo:Nat):Int)=0:=eq_of_beq q.1.1;have q2:sIx items.size items.size hi-sIx items.size 0 lo=items.size:=eq_of_beq q.2;exact hw ⟨by omega,by omega⟩
 show wpAny _ _ (if(((sIx items.size 0 lo:Nat):Int)==0&&(1:Int)==1&&(sIx items.size items.size hi-sIx items.size 0 lo)==items.size)=true then _ else _) _ _ s
 rw [if_neg Y,pick_gen]
 first
  |exact wpAny_bind (m:=Builtin.Tuple.tupleExact _) (uJ (wpAny_pure ⟨_,rfl,wpAny_pure h⟩) B)
  |exact wpAny_bind (m:=Builtin.Tuple.tupleExact _) (uJ (wpAny_bind (wpAny_pure (wpAny_pure ⟨_,rfl,wpAny_pure h⟩))) B)
  |exact wpAny_bind (wpAny_bind (m:=Builtin.Tuple.tupleExact _) (uJ (wpAny_pure (wpAny_pure ⟨_,rfl,wpAny_pure h⟩)) B))
  |exact wpAny_bind (wpAny_bind (m:=Builtin.Tuple.tupleExact _) (uJ (wpAny_pure ⟨_,rfl,wpAny_pure h⟩) B))
end
end HT
namespace L2
open PySem PySem.Spec PyProof.Rows
abbrev TO:=St->Hp->(Option Int->Hp->Prop)->Prop
def PO (X:Cx)(e:Option Expr)(t:TO):Prop:=
 ∀(pins:List (Addr×Obj)) (s:Shared) (σ:St) (H:Hp) (Q:Option Int->Hp->Prop),Inv X pins σ H s->t σ H Q->
  wpAny (model X.prog X.w) X.A (evalPart e X.env) (fun u s'=>∃o H',Inv X pins σ H' s'/\IsPart u o/\Q o H') X.xe s
def tNoPart:TO:=fun _ H Q=>Q none H
def tPart (t:TE):TO:=fun σ H Q=>t σ H fun x H1=>∃i,x= .int i/\Q (some i) H1
theorem intsAre_of {ns:List Int}:∀{us:List Value},Vals (ns.map V.int) us->IntsAre us ns:=by
 induction ns with
 |nil=>intro us r;rw [UI] at r;cases r;exact .nil
 |cons n ns B=>
  intro us r;rw [um] at r;cases r with
  |cons L M=>
   obtain⟨t,e⟩:=L;subst e;exact .cons n t (B M)
section
variable {X:Cx}{e:Expr}{te:TE}{lo hi:Option Expr}{tl th:TO}{pos p2:Pos}
theorem yG:PO X none tNoPart:=by
 intro pins s σ H Q I h;rw [evalPart_none];exact wpAny_pure ⟨none,H,I,.none,h⟩
theorem Yf (h:PE X e te):PO X (some e) (tPart te):=by
 intro pins s σ H Q I B;rw [evalPart_some];refine thn (h pins s σ H _ I B) fun u s1 ⟨x,H1,L,M,q1⟩=> ?_;obtain⟨i,rfl,q⟩:=q1;obtain⟨t,rfl⟩:=M;exact⟨some i,H1,L,.int i t,q⟩
def SlR (X:Cx)(r:V->Option Int->Option Int->Hp->VK->Prop):Prop:=
 ∀(pins:List (Addr×Obj)) (s:Shared) (σ:St) (H:Hp) (x:V) (v vl vu:Value) (lo hi:Option Int) (sl:Addr) (Q:VK),Inv X pins σ H s->RelV x v->s.heap.IsSliceOf sl vl vu .none->IsPart vl lo->IsPart vu hi->r x lo hi H Q->
  ∃T id,typeLookup (.type T) "__getitem__"=pure (some (.builtin id))/\s.TypeIs v T/\wpAny (model X.prog X.w) X.A (getItem v (.ref sl)) (EP X pins σ Q) X.xe s
def tSl (r:V->Option Int->Option Int->Hp->VK->Prop)(te:TE)(tl th:TO):TE:=fun σ H Q=>te σ H fun x H1=>tl σ H1 fun l H2=>th σ H2 fun u H3=>r x l u H3 Q
theorem yE {r:V->Option Int->Option Int->Hp->VK->Prop}(U:SlR X r)(Y:PE X e te)(Z:PO X lo tl)(hu:PO X hi th):PE X (.Subscript e (.Slice lo hi none p2) pos) (tSl r te tl th):=by
 intro pins s σ H Q I h;refine Subscript_ (thn (Y pins s σ H _ I h) fun v s1 ⟨x,H1,I1,r1,q1⟩=> ?_);refine wpAny_Slice (thn (Z pins s1 σ H1 _ I1 q1) fun L s2 ⟨l,H2,I2,pl,q2⟩=>thn (hu pins s2 σ H2 _ I2 q2) fun M B ⟨u,O,I3,pu,q3⟩=> ?_);rw [evalPart_none];refine wpAny_pure ?_;have I4:Inv X pins σ O {B with heap:=B.heap.push {cls:= .type "slice",data:= .fields #[L,M,.none]}}:=I3.kept (t':=B.toks) fun b ob q=>u7 _ q
 obtain⟨T,id,hT,ht,hg⟩:=U pins {B with heap:=B.heap.push {cls:= .type "slice",data:= .fields #[L,M,.none]}} σ O x v L M l u B.heap.objs.size Q I4 r1 (Heap.IsSliceOf.new ..) pl pu q3
 show wpAny (model X.prog X.w) X.A (subscriptTail e (.Slice lo hi none p2) v (.ref B.heap.objs.size)) (EP X pins σ Q) X.xe {B with heap:=B.heap.push {cls:= .type "slice",data:= .fields #[L,M,.none]}}
 exact tail_any (ops:= [.ref B.heap.objs.size,v]) ht hT hg (by with_unfolding_all rfl)
def cutV (xs:List V)(lo hi:Option Int):List V:=(xs.drop (HT.sIx xs.length 0 lo)).take (HT.sIx xs.length xs.length hi-HT.sIx xs.length 0 lo)
theorem Jg (xs:List V)(lo hi:Option Int):(cutV xs lo hi).length<=xs.length:=by
 unfold cutV;rw [uq,Ul];omega
def rSlT (K:PySem.W.Frag):V->Option Int->Option Int->Hp->VK->Prop:=fun x lo hi H Q=>∃a xs,x= .ref a/\SqT K H a xs/\
 ¬(HT.sIx xs.length 0 lo=0/\HT.sIx xs.length xs.length hi=xs.length)/\∀p,H p=none->Q (.ref p) (upd H p (.tup (cutV xs lo hi)))
theorem sl_tup:SlR X (rSlT X.K):=by
 intro pins s σ H x v Y Z lo hi sl Q I M O pl pu h;obtain⟨a,xs,rfl,hx,U,q⟩:=h;cases M;obtain⟨its,r,L,hz⟩:=I.tuple hx;have B:its.toArray.size=xs.length:=by rw [u9];exact r.length.symm
 refine⟨"tuple",_,PyProof.Rows.slot_tuple_getitem.lookup,L.typeIs,?_⟩;refine HT.getItem_tuple_cut L O pl pu (by rw [B];exact U) ?_ (by rw [B];exact hz)
 rw [B];refine⟨.ref s.heap.objs.size,_,I.laid (t':=s.toks) (o:= .tup (cutV xs lo hi)) (fun b ob q=>u7 _ q) (Nat.le_refl _) ?_,rfl,q _ (I.hok.fresh (Nat.le_refl _))⟩;exact⟨v8 (Jg xs lo hi) hz,_,(r.drop (HT.sIx xs.length 0 lo)).take (HT.sIx xs.length xs.length hi-HT.sIx xs.length 0 lo),IsTup.new _ _⟩
def rCatT (K:PySem.W.Frag):R2:=fun x y H Q=>∃a b xs ys,x= .ref a/\y= .ref b/\SqT K H a xs/\SqT K H b ys/\xs≠ []/\xs.length+ys.length<=sizeLine/\
 (ys= []->Q (.ref a) H)/\(ys≠ []->∀p,H p=none->Q (.ref p) (upd H p (.tup (xs++ys))))
theorem Vals.nil_iff {xs:List V}{us:List Value}(r:Vals xs us):us= []↔xs= []:=by
 cases r with
 |nil=>simp
 |cons _ _=>simp
theorem op_catT:OpR X (binaryOp .Add) (rCatT X.K):=by
 intro pins s σ H x y v u Q I O U h;obtain⟨a,b,xs,ys,rfl,rfl,ha,Y,hx,hz,q1,Z⟩:=h;cases O;cases U;obtain⟨its,L,p1,_⟩:=I.tuple ha;obtain⟨M,B,p2,_⟩:=I.tuple Y;refine HT.cat_tup p1 p2 (fun z=>hx (L.nil_iff.mp z)) (fun z=>⟨.ref a,H,I,rfl,q1 (B.nil_iff.mp z)⟩) (fun z=> ?_) (by rw [<-L.length,<-B.length];exact hz)
 refine⟨.ref s.heap.objs.size,_,I.laid (t':=s.toks) (o:= .tup (xs++ys)) (fun b ob q=>u7 _ q) (Nat.le_refl _) ?_,rfl,Z (fun w=>z (B.nil_iff.mpr w)) _ (I.hok.fresh (Nat.le_refl _))⟩;exact⟨by rw [ui];exact hz,_,L.append B,IsTup.new _ _⟩
end
def ixN (n:Nat)(i:Int):Option Nat:=if 0<=i then(if i<n then some i.toNat else none) else if-(n:Int)<=i then some (i+n).toNat else none
def atI {α:Type}(xs:List α)(i:Int):Option α:=(ixN xs.length i).bind fun j=>xs[j]?
theorem ixN_seq {n:Nat}{i:Int}{j:Nat}(h:ixN n i=some j):seqIndex? i n=some j/\j<n/\ -(n:Int)<=i/\i<n:=by
 unfold ixN at h;by_cases B:0<=i
 ·rw [if_pos B] at h;by_cases h1:i<n
  ·rw [if_pos h1] at h;have e:i.toNat=j:=uo h;exact⟨by rw [seqIndex_of B h1,e],by omega,by omega,h1⟩
  ·rw [if_neg h1] at h;cases h
 ·rw [if_neg B] at h;by_cases h1: -(n:Int)<=i
  ·rw [if_pos h1] at h;have e:(i+n).toNat=j:=uo h;exact⟨by rw [seqIndex_neg (by omega) h1,e],by omega,h1,by omega⟩
  ·rw [if_neg h1] at h;cases h
theorem Xi {α:Type}{xs:List α}{i:Int}{v:α}(h:atI xs i=some v):∃j,seqIndex? i xs.length=some j/\xs[j]? =some v/\j<xs.length/\ -(xs.length:Int)<=i/\i<xs.length:=by
 unfold atI at h;cases e:ixN xs.length i with
 |none=>rw [e] at h;cases h
 |some j=>
  rw [e] at h;obtain⟨h1,h2,B,h4⟩:=ixN_seq e;exact⟨j,h1,h,h2,B,h4⟩
theorem qm {α:Type}{xs:List α}{j:Nat}{v:α}(h:xs[j]? =some v):atI xs (j:Int)=some v:=by
 have B:j<xs.length:=(List.getElem?_eq_some_iff.mp h).1;have e:ixN xs.length (j:Int)=some j:=by
  unfold ixN;rw [if_pos (by omega),if_pos (by omega)];simp
 unfold atI;rw [e];exact h
theorem atI_last {α:Type}(xs:List α)(v:α):atI (xs++ [v]) (-1)=some v:=by
 have B:(xs++ [v]).length=xs.length+1:=by simp
 have e:ixN (xs++ [v]).length (-1)=some xs.length:=by
  unfold ixN;rw [B,if_neg (by decide),if_pos (by omega)]
  congr 1
  omega
 unfold atI;rw [e];show(xs++ [v])[xs.length]? =some v;simp
def PlainIx (b:Expr):Prop:=∀o i,subscripted b false o i=operate [o,i] (getItem o i)
def IxR (X:Cx)(r:R2):Prop:=
 ∀(value slice:Expr) (pins:List (Addr×Obj)) (s:Shared) (σ:St) (H:Hp) (x y:V) (v u:Value) (Q:VK),Inv X pins σ H s->RelV x v->RelV y u->r x y H Q->
  subscripted slice false v u=operate [v,u] (getItem v u)->wpAny (model X.prog X.w) X.A (subscriptTail value slice v u) (EP X pins σ Q) X.xe s
def MtR (X:Cx)(id:String)(r:V->List V->Hp->VK->Prop):Prop:=
 ∀(pins:List (Addr×Obj)) (s:Shared) (σ:St) (H:Hp) (x:V) (xs:List V) (v:Value) (us:List Value) (Q:VK),Inv X pins σ H s->RelV x v->Vals xs us->r x xs H Q->
  wpAny (model X.prog X.w) X.A (call (.builtin id) (v::us)) (EP X pins σ Q) X.xe s
section
variable {X:Cx}{a b:Expr}{ta tb:TE}{pos:Pos}
theorem IxR.or {r r':R2}(h:IxR X r)(h':IxR X r'):IxR X (fun x y H Q=>r x y H Q∨r' x y H Q):=by
 intro value B pins s σ H x y v u Q I L M q O;rcases q with q|q
 ·exact h value B pins s σ H x y v u Q I L M q O
 ·exact h' value B pins s σ H x y v u Q I L M q O
theorem qG {r:R2}(B:IxR X r)(ha:PE X a ta)(L:PE X b tb)(M:PlainIx b):PE X (.Subscript a b pos) (tOp r ta tb):=by
 intro pins s σ H Q I h;exact Subscript_ (binT ha L I h fun v u s2 x y H2 O U Y q=>B a b pins s2 σ H2 x y v u Q O U Y q (M _ _))
def rIxL (K:PySem.W.Frag):R2:=fun x y H Q=>∃p xs i v,x= .ref p/\y= .int i/\SqL K H p xs/\atI xs i=some v/\Q v H
def rIxT (K:PySem.W.Frag):R2:=fun x y H Q=>∃p xs i v,x= .ref p/\y= .int i/\SqT K H p xs/\atI xs i=some v/\Q v H
def rIxS:R2:=fun x y H Q=>∃z i c,x= .str z/\y= .int i/\z.length<=sizeLine/\atI z.cps.toList i=some c/\Q (.str ⟨#[c]⟩) H
theorem Qu:IxR X (rIxL X.K):=by
 intro value L pins s σ H x y v u Q I rx ry h U;obtain⟨p,xs,i,z,rfl,rfl,hq,he,q⟩:=h;cases rx;obtain⟨t,rfl⟩:=ry;obtain⟨its,r,pl,hz⟩:=I.list hq;obtain⟨j,h1,h2,h3,h4,h5⟩:=Xi he;obtain⟨w,Y,M⟩:=r.get h2;have hl:=r.length;have hn:=jX;have B:EP X pins σ Q w s:=⟨z,H,I,M,q⟩;by_cases Z:0<=i
 ·have O:i.toNat=j:=by
   rw [seqIndex_of Z h5] at h1;exact uo h1
  exact item_listR pl.isList Z (by omega) (by rw [O];simpa using Y) B U
 ·have O:(i+(its.toArray.size:Int)).toNat=j:=by
   rw [seqIndex_neg (by omega) h4] at h1
   rw [u9,<-hl];exact uo h1
  exact subscriptTail_builtinR (x:=w) pl.isList.typeIs slot_list_getitem.lookup
   (wpAny_getItem_list_neg (Q:=fun r s'=>r=w/\EP X pins σ Q r s') pl.isList (by omega) (by rw [u9]<;>omega) (by omega) (by rw [O];simpa using Y) ⟨rfl,B⟩) U
theorem qD:IxR X (rIxT X.K):=by
 intro value B pins s σ H x y v u Q I O U h Y;obtain⟨p,xs,i,z,rfl,rfl,hq,Z,q⟩:=h;cases O;obtain⟨t,rfl⟩:=U;obtain⟨its,r,pl,hz⟩:=I.tuple hq;obtain⟨j,h1,h2,h3,h4,h5⟩:=Xi Z;obtain⟨w,ew,L⟩:=r.get h2;have hl:=r.length;have hn:=jX;have M:EP X pins σ Q w s:=⟨z,H,I,L,q⟩;exact subscriptTail_builtinR (x:=w) pl.typeIs slot_tuple_getitem.lookup
  (getItem_tuple (j:=j) (Q:=fun r s'=>r=w/\EP X pins σ Q r s') pl (by omega) (by omega) (by rw [u9,<-hl];exact h1) (by simpa using ew) ⟨rfl,M⟩) Y
theorem ix_str:IxR X rIxS:=by
 intro value B pins s σ H x y v u Q I L M h O;obtain⟨z,i,c,rfl,rfl,hz,U,q⟩:=h;obtain⟨t,rfl⟩:=L;obtain⟨t',rfl⟩:=M;obtain⟨j,h1,h2,h3,h4,Y⟩:=Xi U;have Z:z.cps.toList.length=z.length:=by simp [Str.length]
 rw [Z] at h1 h4 Y;have hn:=jX;exact tail_any (typeIs_str s z t) slot_str_getitem.lookup (getItem_str (c:=c) (by
  have e1:decide (i< -(2^63:Int))=false:=u8 (by omega)
  have e2:decide (i≥2^63)=false:=u8 (by omega)
  rw [e1,e2,Bool.or_false]) (by rw [h1];simpa using h2) ⟨.str ⟨#[c]⟩,H,I.tok _,⟨_,rfl⟩,q⟩) O
def rIx (K:PySem.W.Frag):R2:=fun x y H Q=>rIxL K x y H Q∨rIxT K x y H Q∨rIxS x y H Q
theorem ix_seq:IxR X (rIx X.K):=Qu.or (qD.or ix_str)
theorem mapSeq_set (its:List Value)(n j:Nat)(u:Value):Obj.mapSeq (·.setIfInBounds j u) {cls:= .type "list",data:= .seq its.toArray n}={cls:= .type "list",data:= .seq (its.set j u).toArray n}:=by
 simp [Obj.mapSeq]
theorem Inv.lst {pins:List (Addr×Obj)}{σ:St}{H:Hp}{s:Shared}{p:Addr}{xs:List V}(I:Inv X pins σ H s)(h:H p=some (.lst xs)):
  ∃(its:List Value) (n:Nat),Vals xs its/\s.heap.get? p=some {cls:= .type "list",data:= .seq its.toArray n}/\xs.length<=sizeLine:=by
 obtain⟨z,its,n,r,e⟩:=I.hok p _ h;exact⟨its,n,r,e,z⟩
theorem Inv.lstUpd {pins:List (Addr×Obj)}{σ:St}{H:Hp}{s:Shared}{p:Addr}{xs ys:List V}{its its':List Value}{n B:Nat}{f:Obj->Obj}(I:Inv X pins σ H s)(h:H p=some (.lst xs))
  (M:s.heap.get? p=some {cls:= .type "list",data:= .seq its.toArray n}) (L:f {cls:= .type "list",data:= .seq its.toArray n}={cls:= .type "list",data:= .seq its'.toArray B}) (r:Vals ys its') (hz:ys.length<=sizeLine) (t:Nat) (U:0<t:=by ac_rfl):
  Inv X pins σ (upd H p (.lst ys)) {s with heap:=s.heap.update p f,toks:=t}:=by
 have e:(s.heap.update p f).get? p=some {cls:= .type "list",data:= .seq its'.toArray B}:=by
  rw [uV f M (by rw [L]<;>rfl),L]
 refine I.write (x:=p) (e:=p) (by rw [h];trivial) (.inl rfl) (fun b u O q=>(uU _ _ (Ua O)).trans q) ⟨_,e⟩ ?_
 exact⟨hz,its',B,r,e⟩
def rSetL:V->V->V->Hp->(Hp->Prop)->Prop:=fun o i v H Q=>∃p xs k j,o= .ref p/\i= .int k/\H p=some (.lst xs)/\ixN xs.length k=some j/\Q (upd H p (.lst (xs.set j v)))
theorem set_list:PSet X rSetL:=by
 intro pins s σ H o i v ov iv u Q I Z ri rv h;obtain⟨p,xs,k,j,rfl,rfl,M,hj,q⟩:=h;cases Z;obtain⟨t,rfl⟩:=ri;obtain⟨its,n,r,B,hz⟩:=I.lst M;obtain⟨h1,h2,O,h4⟩:=ixN_seq hj;have L:=r.length;have hn:=jX;have U:Inv X pins σ (upd H p (.lst (xs.set j v))) {s with heap:=s.heap.update p (Obj.mapSeq (·.setIfInBounds j u))}:=
  I.lstUpd M B (mapSeq_set its n j u) (r.set rv j) (by rw [List.length_set];exact hz) s.toks
 by_cases Y:0<=k
 ·have hk:k.toNat=j:=by
   rw [seqIndex_of Y h4] at h1;exact uo h1
  exact PySem.W.ki_setAt B Y (by omega) (by rw [u9,<-L];exact h4) (by rw [hk];exact⟨_,U,q⟩)
 ·have hk:(k+(its.toArray.size:Int)).toNat=j:=by
   rw [seqIndex_neg (by omega) O] at h1
   rw [u9,<-L];exact uo h1
  exact PySem.W.ki_setBack B (by omega) (by rw [u9,<-L];exact O) (by omega) (by rw [hk];exact⟨_,U,q⟩)
theorem slice_bounds (lo hi:Option Int)(n:Nat):(sliceBounds lo hi none n).1=((HT.sIx n 0 lo:Nat):Int)/\(sliceBounds lo hi none n).2.1=((HT.sIx n n hi:Nat):Int)/\(sliceBounds lo hi none n).2.2=1:=by
 refine⟨?_,?_,rfl⟩
 ·cases lo with
  |none=>simp [sliceBounds,HT.sIx]
  |some i=>
   simp only [sliceBounds,HT.sIx,Option.getD_none,show(1:Int)>0 by decide,if_true]
   by_cases h:i<0
   ·simp only [h,if_true]<;>omega
   ·simp only [h,U4]<;>omega
 ·cases hi with
  |none=>simp [sliceBounds,HT.sIx]
  |some i=>
   simp only [sliceBounds,HT.sIx,Option.getD_none,show(1:Int)>0 by decide,if_true]
   by_cases h:i<0
   ·simp only [h,if_true]<;>omega
   ·simp only [h,U4]<;>omega
theorem XT (its:List Value)(lo hi:Option Int):slicePick its.toArray lo hi none=((its.drop (HT.sIx its.length 0 lo)).take (HT.sIx its.length its.length hi-HT.sIx its.length 0 lo)).toArray:=by
 obtain⟨h1,h2,B⟩:=slice_bounds lo hi its.toArray.size;unfold slicePick;rw [h1,h2,B];simp only [sliceRange_one,pick_run,u9]<;>rfl
def rSlL (K:PySem.W.Frag):V->Option Int->Option Int->Hp->VK->Prop:=fun x lo hi H Q=>∃a xs,x= .ref a/\SqL K H a xs/\∀p,H p=none->Q (.ref p) (upd H p (.lst (cutV xs lo hi)))
theorem sl_list:SlR X (rSlL X.K):=by
 intro pins s σ H x v U Y lo hi sl Q I M O pl pu h;obtain⟨a,xs,rfl,hx,q⟩:=h;cases M;obtain⟨its,r,L,hz⟩:=I.list hx;have B:=r.length;refine⟨"list",_,slot_list_getitem.lookup,L.isList.typeIs,?_⟩;refine wpAny_getItem_list_slice L.isList O pl pu .none (by simp) ?_ (by rw [u9]<;>omega)
 rw [XT,<-B];refine⟨.ref s.heap.objs.size,_,I.laid (t':=s.toks) (o:= .lst (cutV xs lo hi)) (fun b Z q=>u7 _ q) (Nat.le_refl _) ?_,rfl,q _ (I.hok.fresh (Nat.le_refl _))⟩;exact⟨v8 (Jg xs lo hi) hz,_,0,(r.drop (HT.sIx xs.length 0 lo)).take (HT.sIx xs.length xs.length hi-HT.sIx xs.length 0 lo),uf _ rfl⟩
def X2:V->Bool
 | .non=>true
 | .bl _=>true
 | .int _=>true
 | .str _=>true
 |_=>false
noncomputable def eqV:V->V->Bool
 | .non,.non=>true
 | .bl a,.bl b=>a==b
 | .bl a,.int b=>(if a then 1 else 0)==b
 | .int a,.bl b=>a==(if b then 1 else 0)
 | .int a,.int b=>a==b
 | .str a,.str b=>a==b
 |_,_=>false
theorem eqAt_V {A:Around}{s:Shared}{y x:V}{u v:Value}(L:RelV y u)(B:RelV x v)(O:X2 y=true)(M:X2 x=true):SeqAt.EqAt A s u v (eqV y x):=by
 cases y with
 |non=>
  cases L;cases x with
  |non=>cases B;exact Ud _
  |bl b=>cases B;exact SeqAt.EqAt.none_bool b
  |int b=>obtain⟨t,rfl⟩:=B;exact SeqAt.EqAt.none_int b t
  |str b=>obtain⟨t,rfl⟩:=B;exact SeqAt.EqAt.none_str b t
  |_=>exact absurd (show false=true from M) ug
 |bl a=>
  cases L;cases x with
  |non=>cases B;exact SeqAt.EqAt.bool_none a
  |bl b=>cases B;exact SeqAt.EqAt.bool_bool a b
  |int b=>obtain⟨t,rfl⟩:=B;exact SeqAt.EqAt.bool_int a b t
  |str b=>obtain⟨t,rfl⟩:=B;exact SeqAt.EqAt.bool_str a b t
  |_=>exact absurd (show false=true from M) ug
 |int a=>
  obtain⟨t',rfl⟩:=L;cases x with
  |non=>cases B;exact SeqAt.EqAt.int_none a t'
  |bl b=>cases B;exact SeqAt.EqAt.int_bool a t' b
  |int b=>obtain⟨t,rfl⟩:=B;exact Ur a t' b t
  |str b=>obtain⟨t,rfl⟩:=B;exact UM a t' b t
  |_=>exact absurd (show false=true from M) ug
 |str a=>
  obtain⟨t',rfl⟩:=L;cases x with
  |non=>cases B;exact SeqAt.EqAt.str_none a t'
  |bl b=>cases B;exact SeqAt.EqAt.str_bool a t' b
  |int b=>obtain⟨t,rfl⟩:=B;exact UN a t' b t
  |str b=>obtain⟨t,rfl⟩:=B;exact UP a t' b t
  |_=>exact absurd (show false=true from M) ug
 |_=>exact absurd (show false=true from O) ug
noncomputable def eqU (x:V)(u:Value):Bool:=match u with
 | .none=>eqV .non x
 | .bool b=>eqV (.bl b) x
 | .int i _=>eqV (.int i) x
 | .str z _=>eqV (.str z) x
 |_=>false
theorem eqU_of {x y:V}{u:Value}(r:RelV y u)(f:X2 y=true):eqU x u=eqV y x:=by
 cases y with
 |non=>cases r;rfl
 |bl b=>cases r;rfl
 |int i=>obtain⟨t,rfl⟩:=r;rfl
 |str z=>obtain⟨t,rfl⟩:=r;rfl
 |_=>exact absurd (show false=true from f) ug
theorem any_eqU {x:V}:∀{xs:List V}{us:List Value},Vals xs us->xs.all X2=true->us.any (eqU x)=xs.any fun y=>eqV y x
 |_,_,.nil,_=>rfl
 |y::xs,u::us,.cons r t,f=>by
  rw [U5,Bool.and_eq_true] at f;rw [List.any_cons,List.any_cons,eqU_of r f.1,any_eqU t f.2]
theorem Xn {A:Around}{s:Shared}{x:V}{v:Value}(B:RelV x v)(L:X2 x=true):∀{xs:List V}{us:List Value},Vals xs us->xs.all X2=true->∀u∈us,SeqAt.EqAt A s u v (eqU x u)
 |_,_,.nil,_=>fun u hu=>by cases hu
 |y::xs,u::us,.cons r t,f=>fun M hu=>by
  rw [U5,Bool.and_eq_true] at f;rcases List.mem_cons.mp hu with rfl|hu
  ·rw [eqU_of r f.1];exact eqAt_V r B f.1 L
  ·exact Xn B L t f.2 M hu
def inV (x:V)(xs:List V):Bool:=xs.any fun y=>eqV y x
def rIn (K:PySem.W.Frag)(neg:Bool):R2:=fun x y H Q=>∃p xs,y= .ref p/\(SqL K H p xs∨SqT K H p xs)/\X2 x=true/\xs.all X2=true/\Q (.bl (if neg then !inV x xs else inV x xs)) H
theorem xl:OpR X (compareOp .In) (rIn X.K false):=by
 intro pins s σ H x y v u Q I L O h;obtain⟨p,xs,rfl,hq,M,fs,q⟩:=h;cases O;rcases hq with hq|hq
 ·obtain⟨its,r,pl,hz⟩:=I.list hq;refine SeqAt.in_listAt (eqU x) pl.isList (fun w B=>Xn L M r fs w (by simpa using B)) ⟨.bl _,H,I,rfl,?_⟩
  rw [show its.toArray.any (eqU x)=its.any (eqU x) by simp,any_eqU r fs]
  exact q
 ·obtain⟨its,r,pl,hz⟩:=I.tuple hq;refine SeqAt.in_tupleAt (eqU x) pl (fun w B=>Xn L M r fs w (by simpa using B)) ⟨.bl _,H,I,rfl,?_⟩
  rw [show its.toArray.any (eqU x)=its.any (eqU x) by simp,any_eqU r fs]
  exact q
theorem op_notIn_str:OpR X (compareOp .NotIn) (fun x y H Q=>∃i j,x= .str i/\y= .str j/\Q (.bl (!(!(Builtin.Str.occurrences j i 0 j.length 1).isEmpty))) H):=by
 intro pins s σ H x y v u Q I B L h;obtain⟨i,j,rfl,rfl,q⟩:=h;obtain⟨t,rfl⟩:=B;obtain⟨t',rfl⟩:=L;exact notIn_str ⟨.bl _,H,I,rfl,q⟩
theorem qZ:yN X (.builtin "len") (fun xs H Q=>∃p ys,xs= [.ref p]/\(SqL X.K H p ys∨SqT X.K H p ys)/\Q (.int ys.length) H):=by
 intro pins s σ H xs us Q I r h;obtain⟨p,ys,rfl,hq,q⟩:=h;obtain⟨u,rfl,L⟩:=QW r;cases L;have hn:=jX;rcases hq with hq|hq
 ·obtain⟨its,r',pl,hz⟩:=I.list hq;have B:=r'.length;exact Calls.call_len_list pl.isList (by simp only [u9]<;>omega) ⟨.int ys.length,H,I.tok _,⟨s.toks+1,by rw [u9,B]⟩,q⟩
 ·obtain⟨its,r',pl,hz⟩:=I.tuple hq;have B:=r'.length;exact len_tuple pl (by simp only [u9]<;>omega) ⟨.int ys.length,H,I.tok _,⟨s.toks+1,by rw [u9,B]⟩,q⟩
theorem jK:yN X (.builtin "len") (fun xs H Q=>∃z,xs= [.str z]/\z.length<=sizeLine/\Q (.int z.length) H):=by
 intro pins s σ H xs us Q I r h;obtain⟨z,rfl,hz,q⟩:=h;obtain⟨u,rfl,t,rfl⟩:=QW r;have hn:=jX;exact len_str (by omega) ⟨.int z.length,H,I.tok _,⟨_,rfl⟩,q⟩
theorem Qk:yN X (.type "tuple") (fun xs H Q=>∃p ys,xs= [.ref p]/\((SqL X.K H p ys/\∀l,H l=none->Q (.ref l) (upd H l (.tup ys)))∨(SqT X.K H p ys/\Q (.ref p) H))):=by
 intro pins s σ H xs us Q I r h;obtain⟨p,ys,rfl,h⟩:=h;obtain⟨u,rfl,M⟩:=QW r;cases M;rcases h with⟨hq,q⟩|⟨hq,q⟩
 ·obtain⟨its,r',pl,hz⟩:=I.list hq;have B:=r'.length;refine call_tuple_list pl.isList (fun h' kp=> ?_) (by simp only [u9]<;>omega)
  have L:Inv X pins σ H {s with heap:=h'}:=I.kept (t':=s.toks) kp
  have O:Inv X pins σ (upd H h'.objs.size (.tup ys)) {s with heap:=h'.push {cls:= .type "tuple",data:= .seq its.toArray}}:=
   L.laid (t':=s.toks) (fun b o e=>u7 _ e) (Nat.le_refl _) (show Qe X.prog X.w _ _ _ (.tup ys) from⟨hz,its,r',IsTup.new _ _⟩)
  exact⟨.ref h'.objs.size,_,O,rfl,q _ (L.hok.fresh (Nat.le_refl _))⟩
 ·obtain⟨its,r',pl,hz⟩:=I.tuple hq;exact call_tuple_same pl ⟨.ref p,H,I,rfl,q⟩
def tyV (K:PySem.W.Frag)(T:String)(x:V)(H:Hp):Prop:=match x with
 | .str _=>T="str"
 | .int _=>T="int"
 | .ref p=>(T="list"/\∃xs,SqL K H p xs)∨(T="tuple"/\∃o,K.lookup p=some o/\o.cls= .type "tuple"/\o.dict=none)∨
   (T="dict"/\((∃kvs,H p=some (.dK kvs))∨∃kvs,H p=some (.dT kvs)))∨(T="set"/\∃S n,H p=some (.set S n))
 |_=>False
theorem tyV_is {pins:List (Addr×Obj)}{σ:St}{H:Hp}{s:Shared}{T:String}{x:V}{v:Value}(I:Inv X pins σ H s)(r:RelV x v)(ty:tyV X.K T x H):
  s.TypeIs v T/\∀a,v= .ref a->∃L,s.heap.get? a=some L/\L.dict=none:=by
 cases x with
 |str z=>
  obtain⟨t,rfl⟩:=r;cases(show T="str" from ty)
  exact⟨typeIs_str s z t,fun _ e=>nomatch e⟩
 |int i=>
  obtain⟨t,rfl⟩:=r;cases(show T="int" from ty)
  exact⟨typeIs_int s i t,fun _ e=>nomatch e⟩
 |ref p=>
  cases r;rcases ty with⟨rfl,xs,hq⟩|⟨rfl,o,hk,M,hd⟩|⟨rfl,hk⟩|⟨rfl,S,n,hk⟩
  ·obtain⟨its,_,pl,_⟩:=I.list hq;refine⟨pl.isList.typeIs,fun a e=> ?_⟩;cases e;obtain⟨o,n,e,c,hd,_⟩:=pl;exact⟨o,e,hd⟩
  ·refine⟨⟨o,I.kIn p o hk,M⟩,fun a e=> ?_⟩;cases e;exact⟨o,I.kIn _ o hk,hd⟩
  ·have z:∃o,s.heap.get? p=some o/\o.ExactDict:=by
    rcases hk with⟨kvs,hk⟩|⟨kvs,hk⟩
    ·obtain⟨_,_,_,_,o,_,_,e,ex,_⟩:=I.hok p _ hk;exact⟨o,e,ex⟩
    ·obtain⟨_,_,_,_,o,_,_,e,ex,_⟩:=I.hok p _ hk;exact⟨o,e,ex⟩
   obtain⟨o,e,ex⟩:=z;refine⟨⟨o,e,ex.1⟩,fun a B=> ?_⟩;cases B;exact⟨o,e,ex.2.1⟩
  ·obtain⟨o,_,_,_,e,ex,_⟩:=I.hok p _ hk;refine⟨⟨o,e,ex.1⟩,fun a B=> ?_⟩;cases B;exact⟨o,e,ex.2.1⟩
 |_=>exact False.elim ty
def tBM0 (K:PySem.W.Frag)(T:String)(r:V->List V->Hp->VK->Prop)(to:TE):TE:=fun σ H Q=>to σ H fun x H1=>tyV K T x H1/\r x [] H1 Q
def tBM (K:PySem.W.Frag)(T:String)(r:V->List V->Hp->VK->Prop)(to:TE)(t:TA):TE:=fun σ H Q=>to σ H fun x H1=>tyV K T x H1/\t σ H1 fun xs H2=>r x xs H2 Q
variable {o e:Expr}{es:List Expr}{to:TE}{t:TA}{name:Str}{apos cpos:Pos}{T id:String}{r:V->List V->Hp->VK->Prop}
theorem pe_bm0 (Y:PlainAttrs T)(slot:Slot T name id)(M:typeOf (.builtin id)=pure (.type "method_descriptor"))(hm:MtR X id r)(Z:PE X o to)
  (B:attributeBase o name X.env (eval o X.env)=eval o X.env:=by rfl) (L:(apos.endLine==cpos.line)=true:=by rfl):PE X (.Call (.Attribute o name apos) [] [] cpos) (tBM0 X.K T r to):=by
 intro pins s σ H Q I h;refine wpAny_Call_method0_late B L (thn (Z pins s σ H _ I h) fun v s1 ⟨x,H1,O,U,ty,q1⟩=> ?_);obtain⟨h1,h2⟩:=tyV_is O U ty;exact⟨T,id,Y,slot,M,h1,h2,Calls.callWith_builtin rfl (PySem.evalArgs_none (hm pins s1 σ H1 x [] v [] Q O U .nil q1))⟩
theorem pe_bm (pa:PlainAttrs T)(slot:Slot T name id)(U:typeOf (.builtin id)=pure (.type "method_descriptor"))(hm:MtR X id r)(ho:PE X o to)(ha:PA X (e::es) t)
  (L:attributeBase o name X.env (eval o X.env)=eval o X.env:=by rfl)
  (O:((backTo cpos (starEach (e::es) X.env)).all (fun x=> !x.1)&&(backToKw cpos (keywordEach [] X.env)).all (fun x=>x.1.isSome)
   &&decide ((e::es).length+([]:List Keyword).length+(if([]:List Keyword).isEmpty then 0 else 1)<30))=true:=by rfl)
  (M:(apos.endLine==cpos.line)=true:=by rfl) (hs:starEach (e::es) X.env=(false,eval e X.env)::starEach es X.env:=by rfl) (B:(backTo cpos (starEach es X.env)).any (·.1)=false:=by rfl):
  PE X (.Call (.Attribute o name apos) (e::es) [] cpos) (tBM X.K T r to t):=by
 intro pins s σ H Q I h;refine wpAny_Call_method_late L O M rfl (thn (ho pins s σ H _ I h) fun v s1 ⟨x,H1,Y,Z,ty,q1⟩=> ?_);obtain⟨h1,h2⟩:=tyV_is Y Z ty;refine⟨T,id,pa,slot,U,h1,h2,?_⟩;have hA:=ha cpos pins s1 σ H1 _ Y q1;rw [hs] at hA⊢;refine Calls.callWith_builtin (by show(false||(backTo cpos (starEach es X.env)).any (·.1))=false;rw [B]<;>rfl) (Calls.evalArgs_plain ?_)
 exact thn hA fun us s2 ⟨vs,H2,I2,r2,q2⟩=>hm pins s2 σ H2 x vs v us Q I2 Z r2 q2
end
def MtM (X:Cx)(id:String)(r:V->List V->Hp->VK->Prop):Prop:=
 ∀(pins:List (Addr×Obj)) (s:Shared) (σ:St) (H:Hp) (x:V) (xs:List V) (v:Value) (us:List Value) (Q:VK),Inv X pins σ H s->RelV x v->Vals xs us->r x xs H Q->
  wpAny (model X.prog X.w) X.A (call (.builtin id) (v::us)) (EP X pins σ Q) X.xe s
theorem Vals.one:∀{x:V}{us:List Value},Vals [x] us->∃u,us= [u]/\RelV x u
 |_,_,.cons r .nil=>⟨_,rfl,r⟩
theorem Vals.zero:∀{us:List Value},Vals [] us->us= []
 |_,.nil=>rfl
theorem Vals.dropLast {xs:List V}{us:List Value}(h:Vals xs us):Vals xs.dropLast us.dropLast:=by
 induction h with
 |nil=>exact .nil
 |cons r t B=>
  cases t with
  |nil=>exact .nil
  |cons q t'=>exact .cons r B
theorem erase_last {α:Type}(l:List α):l.eraseIdx (l.length-1)=l.dropLast:=by
 induction l with
 |nil=>rfl
 |cons a r B=>
  cases r with
  |nil=>rfl
  |cons b r=>
   have e:(a::b::r).length-1=((b::r).length-1)+1:=by
    have h1:(a::b::r).length=r.length+2:=rfl;have h2:(b::r).length=r.length+1:=rfl;omega
   rw [e,List.eraseIdx_cons_succ,B]
   all_goals rfl
section
variable {X:Cx}{pins:List (Addr×Obj)}{σ:St}{H:Hp}{s:Shared}{l b:Addr}{xs ys zs:List V}
theorem Inv.lset {its its':List Value}{n:Nat}{f:Array Value->Array Value}{t':Nat}(I:Inv X pins σ H s)(B:H l=some (.lst xs))
  (e:s.heap.get? l=some {cls:= .type "list",data:= .seq its.toArray n}) (L:f its.toArray=its'.toArray) (M:Vals ys its') (hz:ys.length<=sizeLine) (U:0<t':=by ac_rfl):
  Inv X pins σ (upd H l (.lst ys)) {s with heap:=s.heap.update l (Obj.mapSeq f),toks:=t'}:=by
 have q:=PySem.IsL.update e f;rw [L] at q;refine I.write (x:=l) (e:=l) (by rw [B];exact trivial) (.inl rfl) (fun Y u O hu=>(uU s.heap (Obj.mapSeq f) (Ua O)).trans hu) ⟨_,q⟩ ?_
 exact⟨hz,its',_,M,q⟩
theorem Inv.lnew {its:List Value}{t':Nat}(I:Inv X pins σ H s)(B:Vals ys its)(hz:ys.length<=sizeLine)(L:0<t':=by ac_rfl):
  Inv X pins σ (upd H s.heap.objs.size (.lst ys)) {s with heap:=s.heap.push {cls:= .type "list",data:= .seq its.toArray},toks:=t'}:=
 I.laid (fun _ _ q=>u7 _ q) (Nat.le_refl _) ⟨hz,its,0,B,uf _ rfl⟩
theorem Inv.fresh (I:Inv X pins σ H s):H s.heap.objs.size=none:=I.hok.fresh (Nat.le_refl _)
theorem Inv.lstM (I:Inv X pins σ H s)(B:H l=some (.lst xs)):xs.length<=sizeLine/\∃(its:List Value) (n:Nat),Vals xs its/\xs.length=its.length/\s.heap.get? l=some {cls:= .type "list",data:= .seq its.toArray n}:=by
 obtain⟨z,its,n,r,e⟩:=I.hok l _ B;exact⟨z,its,n,r,r.length,e⟩
theorem notLongL {n:Nat}(h:n<=sizeLine):Builtin.List.listTooLong n=false:=by
 unfold Builtin.List.listTooLong;exact u8 (by omega)
end
section
variable {X:Cx}
def rAppend:V->List V->Hp->VK->Prop:=fun x vs H Q=>∃l xs y,x= .ref l/\vs= [y]/\H l=some (.lst xs)/\xs.length<sizeLine/\Q .non (upd H l (.lst (xs++ [y])))
theorem Q6:MtM X "list.append" rAppend:=by
 intro pins s σ H x vs v us Q I L M h;obtain⟨l,xs,y,rfl,rfl,B,hz,q⟩:=h;cases L;obtain⟨u,rfl,O⟩:=M.one;obtain⟨z,its,n,r,U,e⟩:=I.lstM B;refine call_meets F.slot_list_append ⟨_,e,rfl⟩ F.entry_list_append (F.args_list_append_2 _ _) (PySem.list_append l its.toArray n u (by rw [u9];omega)) ⟨e,?_⟩
 refine⟨.non,_,I.lset (its':=its++ [u]) B e (by simp) (r.append (.cons O .nil)) ?_,rfl,q⟩
 rw [ui,uR];omega
def rExtend:V->List V->Hp->VK->Prop:=fun x vs H Q=>∃l b xs zs,x= .ref l/\vs= [.ref b]/\H l=some (.lst xs)/\H b=some (.lst zs)/\xs.length+zs.length<=sizeLine/\Q .non (upd H l (.lst (xs++zs)))
theorem mt_extend:MtM X "list.extend" rExtend:=by
 intro pins s σ H x vs v us Q I O U h;obtain⟨l,b,xs,zs,rfl,rfl,M,Y,hz,q⟩:=h;cases O;obtain⟨u,rfl,Z⟩:=U.one;cases Z;obtain⟨z,its,n,r,hl,e⟩:=I.lstM M;obtain⟨z2,B,n2,r2,aa,e2⟩:=I.lstM Y;have hsz:its.toArray.size+B.toArray.size<=sizeLine:=by rw [u9,u9];omega
 have L:¬(!its.toArray.isEmpty&&Builtin.List.listTooLong (its.toArray.size+B.toArray.size))=true:=by
  rw [notLongL hsz,UC];exact ug
 refine call_meets F.slot_list_extend ⟨_,e,rfl⟩ F.entry_list_extend (F.args_list_extend_2 _ _)
  (AutoSeq1.list_extend_list_list_0 l its.toArray n b B.toArray n2 L (by rw [u9];omega) (by omega)) ⟨e,e2,?_⟩
 refine⟨.non,_,I.lset (its':=its++B) M e (by simp) (r.append r2) ?_,rfl,q⟩
 rw [ui];omega
def rPop:V->List V->Hp->VK->Prop:=fun x vs H Q=>∃l xs y,x= .ref l/\vs= []/\H l=some (.lst xs)/\xs[xs.length-1]? =some y/\Q y (upd H l (.lst xs.dropLast))
theorem mt_pop:MtM X "list.pop" rPop:=by
 intro pins s σ H x vs v us Q I O U h;obtain⟨l,xs,y,rfl,rfl,M,Y,q⟩:=h;cases O;have B:=U.zero;subst B;obtain⟨z,its,n,r,Z,e⟩:=I.lstM M;obtain⟨u,hu,ru⟩:=r.get Y;have L:its.toArray[its.toArray.size-1]? =some u:=by
  show its.toArray[its.length-1]? =some u;rw [<-v4,<-Z];exact hu
 refine call_meets F.slot_list_pop ⟨_,e,rfl⟩ F.entry_list_pop (F.args_list_pop_1 _) (MeetsSeq.list_pop_last l its.toArray n u L (by rw [u9];omega)) ⟨e,?_⟩
 refine⟨y,_,I.lset (its':=its.dropLast) M e ?_ r.dropLast ?_,ru,q⟩
 ·show its.toArray.eraseIdxIfInBounds (its.toArray.size-1)=its.dropLast.toArray;rw [u9,List.eraseIdxIfInBounds_toArray,erase_last]
 ·rw [List.length_dropLast];omega
def rCat:R2:=fun x y H Q=>∃l b xs zs,x= .ref l/\y= .ref b/\H l=some (.lst xs)/\H b=some (.lst zs)/\xs.length+zs.length<=sizeLine/\∀p,H p=none->Q (.ref p) (upd H p (.lst (xs++zs)))
theorem op_cat:OpR X (binaryOp .Add) rCat:=by
 intro pins s σ H x y v u Q I L M h;obtain⟨l,b,xs,zs,rfl,rfl,O,U,hz,q⟩:=h;cases L;cases M;obtain⟨z,its,n,r,hl,e⟩:=I.lstM O;obtain⟨z2,B,n2,Y,Z,e2⟩:=I.lstM U;refine PySem.P.add_list e e2 ?_ (by rw [u9,u9];omega)
 have ea:its.toArray++B.toArray=(its++B).toArray:=by simp
 rw [ea];exact⟨.ref _,_,I.lnew (t':=s.toks) (r.append Y) (by rw [ui];omega),rfl,q _ I.fresh⟩
end
section
variable {prog:Program}{w:World}{A:Around}{E:Value->Shared->Prop}{s:Shared}
set_option maxRecDepth 100000 in
end
section
variable {κ:Type}[DecidableEq κ]
theorem RelO.isSome_eq {o:Option V}{u:Option Value}(r:RelO o u):o.isSome=u.isSome:=by
 cases o with
 |none=>cases u with
  |none=>rfl
  |some _=>exact(show False from r).elim
 |some _=>cases u with
  |none=>exact(show False from r).elim
  |some _=>rfl
end
section
variable {X:Cx}{pins:List (Addr×Obj)}{σ:St}{H:Hp}{s:Shared}{a:Addr}{y v:V}{u r:Value}{o:Option V}{A:Around}{E:Value->Shared->Prop}
theorem Inv.big (I:Inv X pins σ H s):sysModules<s.heap.objs.size:=by
 have h:mainGlobals<s.heap.objs.size:=(I.mod.glob.keeps I.bk).lt;exact Nat.lt_trans (by decide) h
theorem d_write {h':Heap}{t':Nat}{B:HO}(I:Inv X pins σ H s)(L:Mut (H a))(M:Heap.SameBut a s.heap h')(O:∃q,h'.get? a=some q)(new:Qe X.prog X.w (upd H a B) h' a B)(Y:0<t':=by ac_rfl):
  Inv X pins σ (upd H a B) {s with heap:=h',toks:=t'}:=
 I.write (x:=a) (e:=a) L (.inl rfl) (fun b q U z=>(M.2 b U).trans z) O new
end
def NoSl (i:Expr):Prop:=∀ov iv,subscripted i false ov iv=operate [ov,iv] (getItem ov iv)
theorem subD_of {prog:Program}{w:World}{A:Around}{E:Value->Shared->Prop}{s:Shared}{env:Env}{value B:Expr}{pos:Pos}{T id:String}{Q:Value->Shared->Prop}
  (hl:typeLookup (.type T) "__getitem__"=pure (some (.builtin id))) (hs:NoSl B)
  (h:wpAny (model prog w) A (eval value env) (fun o U=>wpAny (model prog w) A (eval B env) (fun i M=>M.TypeIs o T/\wpAny (model prog w) A (getItem o i) Q E M) E U) E s):
  wpAny (model prog w) A (eval (.Subscript value B pos) env) Q E s:=by
 refine Subscript_ (vc h (fun o U h₁=>vc h₁ (fun i M O=> ?_) fun _ _ x=>x) fun _ _ x=>x);obtain⟨Y,O⟩:=O;unfold subscriptTail;refine wpAny_bind ?_;rw [getitemInPython_of_ne Y.not_modules];refine wpAny_bind (wpAny_specialOf Y hl ?_);have L:wpAny (model prog w) A (subscripted B false o i) (fun r Z=>wpAny (model prog w) A (letTemporaryGo value o r>>=fun _=>pure r) Q E Z) E M:=by
  rw [hs o i];exact wpAny_operating (vc O (fun r Z h₃=>wpAny_bind (wpAny_letTemporaryGo (wpAny_pure h₃))) fun _ _ x=>x)
 first
  |exact wpAny_pure (wpAny_bind L)
  |exact wpAny_bind (wpAny_pure (wpAny_bind L))
  |exact wpAny_bind L
structure M2 (X:Cx)(o:Expr)(m:Str)(apos:Pos)(e f:Expr)(cpos:Pos):Prop where
 base:attributeBase o m X.env (eval o X.env)=eval o X.env
 few:((backTo cpos (starEach [e,f] X.env)).all (fun x=> !x.1)&&(backToKw cpos (keywordEach [] X.env)).all (fun x=>x.1.isSome)
  &&decide (([e,f]:List Expr).length+([]:List Keyword).length+(if([]:List Keyword).isEmpty then 0 else 1)<30))=true
 line:(apos.endLine==cpos.line)=true
 trees:backTo cpos (starEach [e,f] X.env)= [(false,eval e X.env),(false,eval f X.env)]
end L2
namespace Att
open PySem PySem.W PySem.Calls PyProof.Rows
theorem JN {P:Params}{h:Heap}:∀(ns:List Int) (vs:List Value),WellAll P h vs (ns.map WData.int)->IntsAre vs ns:=by
 intro ns
 induction ns with
 |nil=>
  intro vs w;rw [UI] at w;cases w;exact .nil
 |cons n ns B=>
  intro vs w;rw [um] at w;cases w with
  |cons a b=>
   cases a;exact .cons _ _ (B _ b)
theorem script_of {l:OpenLaw}{n:Nat}(hn:l.most=some n){P:Params}{h:Heap}{args:List WData}{B:List Value}
  (L:l.row.toRowW.claim.pre args=true) (Y:WellAll P h B args):
  ∃a vs ns,B= [Value.ref a]/\args= [WData.list (ns.map WData.int)]/\h.get? a=some {cls:= .type "list",data:= .seq vs.toArray}/\IntsAre vs ns/\ns.length<=n:=by
 have Z:WShape.hasAll [] args [.list .int]=true:=(pre_splitW L).1;have hc:l.pre.holds [] {args:=args}=true:=(pre_splitW L).2;obtain⟨d,r,rfl,h1,h2⟩:=hasAllW_cons Z;obtain rfl:=hasAllW_nil h2;obtain⟨xs,rfl,h3⟩:=hasW_list h1;obtain⟨ns,rfl⟩:=items_int h3;have M:ns.length<=n:=by
  unfold OpenLaw.pre at hc;have h4:(WTm.not (.lt (.lit (.int (n:Int))) (.len (.arg 0)))).holds [] {args:= [.list (ns.map .int)]}=true:=by
   have h4:=(holds_andW hc).1;rw [hn] at h4;exact h4
  have U:=condW_of h4 (w_not (w_lt w_lit (w_len_list (w_arg rfl))));rw [uc] at U;refine Nat.le_of_not_lt fun q=> ?_;have q':(n:Int)<((ns.length:Nat):Int):=by omega
  first
   |(rw [ue q'] at U;exact absurd U (by decide))
   |(simp at U;omega)
 cases Y with
 |cons w1 w2=>
  cases w2;cases w1 with
  |list ho O=>exact⟨_,_,ns,rfl,rfl,ho,JN ns _ O,M⟩
theorem post_true (l:OpenLaw)(args:List WData):l.row.toRowW.claim.post args (.bool true) args=true:=
 postW_of (r:=l.row.toRowW) (X:=(true==true))
  (show WShape.has [] (.bool true) .bool=true by first|rfl|decide|simp [WShape.has,WShape.arms,WShape.armsAll])
  (show(WTm.eq .res (.lit (.bool true))).value [] {args:=args,res:=some (.bool true),after:=args}=some (.bool (true==true)) from w_eq_bool (w_res rfl) w_lit) rfl
end Att
namespace L2
open PySem PySem.Spec PyProof.Rows
theorem vals_ints:∀{vs:List Value}{ns:List Int},IntsAre vs ns->Vals (ns.map V.int) vs
 |_,_,.nil=> .nil
 |_,_,.cons n t h=> .cons ⟨t,rfl⟩ (vals_ints h)
def Only (H:Hp):Prop:=∀b,H b=none∨∃o xs,H b=some (.frz o (.lst xs))
theorem law_call {P:Program}{w:World}{K:PySem.W.Frag}{mg mb:Str->Option Value}{CX:CXT}{k:Nat}{fa a:Addr}{fd:FuncData}{x:Str}{sp:Sp}{B:Shared}{vs:List Value}{ns:List Int}
  (KX:K.In B.heap) (Z:B.heap.Ns mainGlobals mg) (M:B.heap.Ns builtinsNs mb) (af:∀x:Str,x≠"__name__"->mb x=bootBuiltins x) (aa:B.heap.NoLimit) (hg:B.gens= #[])
  (ha:B.heap.get? a=some {cls:= .type "list",data:= .seq vs.toArray}) (hi:IntsAre vs ns) (hl:ns.length<=sizeLine) (hr:Room k callerA)
  (F:∀base:Heap,K.In base->base.Ns mainGlobals mg->FnOk P w K mg base CX k fa fd [x] sp) (Y:∀(s:Shared) (u:Value),BindsTo s fd ⟨[u],[]⟩ [(x,u)])
  (ab:fd.scope.names.lookup x=some .local) (ag:∀H:Hp,Only H->SqL K H a (ns.map V.int)->sp [.ref a] H (fun v _=>v= .bl true) fun _ _ _=>False)
  (ah:∀H e s',CX [] H B (fun _ _ _=>False) e s'->False):
  codeAny (model P w) callerA (.call (.ref fa) ⟨[.ref a],[]⟩) (fun r s'=>r= .ok (.ret (.bool true))/\OldK B.heap s'.heap/\s'.os=B.os/\AllBare s'.gens) B:=by
 have rv:=vals_ints hi;have ac:=hi.length;have U:∀H:Hp,Only H->SqL K H a (ns.map V.int)->HOk P w H B.heap->(∀b,H b≠none->b=a)->(H a≠none->K.lookup a=none)->
   codeAny (model P w) callerA (.call (.ref fa) ⟨[.ref a],[]⟩) (fun r s'=>r= .ok (.ret (.bool true))/\OldK B.heap s'.heap/\s'.os=B.os/\AllBare s'.gens) B:=by
  intro H hO hS hok hA hK;have L:∀{b:Addr}{o:Obj},B.heap.get? b=some o->H b=none->(hidT B.heap H).get? b=some o:=fun e n=>hidT_get e n;have ai:∀{b:Addr}{o:Obj}{es:Array DictEntry}{ep:Nat},B.heap.get? b=some o->o.data= .dict es ep->H b=none:=fun{b o es ep} e d=>by
   cases q:H b with
   |none=>rfl
   |some u=>
    have e':b=a:=hA b (by rw [q];simp)
    subst e';rw [ha] at e;cases e;have d':Data.seq vs.toArray _=Data.dict es ep:=d;cases d'
  have O:∀{b:Addr}{m:Str->Option Value},B.heap.Ns b m->(hidT B.heap H).Ns b m:=fun{b m} ⟨o,es,ep,e,d,r⟩=>⟨o,es,ep,L e (ai e d),d,r⟩;have ad:K.In (hidT B.heap H):=fun b o e=>L (KX b o e) (by
   cases q:H b with
   |none=>rfl
   |some u=>
    have e':b=a:=hA b (by rw [q];simp)
    subst e';rw [hK (by rw [q];simp)] at e;cases e)
  have hM:Mod K mg (hidT B.heap H):=⟨ad,O Z,⟨mb,O M,af⟩,let⟨mc,h1,h2⟩:=aa;⟨mc,O h1,h2⟩⟩;have e0:Env0 P w K mg (hidT B.heap H) callerA [] B H:=⟨rfl,hM,fun b o e=>of_hidT e,Nat.le_of_eq (hidT_size _ _),trivial,fun b M=>absurd (show b∈([]:List Addr) from M) (by simp),hok,.of_eq hg⟩
  refine Uf ((F _ ad (O Z)).run callerA [] B H ⟨[.ref a],[]⟩ [.ref a] [.ref a] _ _ hr e0 (Y B (.ref a)) (.cons rfl .nil) (ag H hO hS) (.inr ⟨_,_,rfl,ab⟩)) fun r s' h=> ?_;cases r with
  |error e=>exact(ah H e s' h).elim
  |ok fl=>
   cases fl with
   |next=>exact False.elim h
   |brk=>exact False.elim h
   |cont=>exact False.elim h
   |ret u=>
    obtain⟨v,H',os,bare,htk,un,ae,r',q⟩:=h;have q':v= .bl true:=q;subst q';obtain rfl:u=Value.bool true:=r';refine⟨rfl,OldK.of_keep fun b o e=> ?_,os,bare⟩;cases q:H b with
    |none=>exact un.keep b o e q (by intro z;exact absurd (show b∈([]:List Addr) from z) (by simp)) (by simp)
    |some u=>
     rcases hO b with z|⟨ob,xs,z⟩
     ·rw [q] at z;cases z
     ·have z2:=un.frzs b ob _ z;obtain⟨e1,_⟩:=hok b _ z;obtain⟨e2,_⟩:=ae b _ z2;rw [e] at e1;cases e1;exact e2
 cases hk:K.lookup a with
 |some o=>
  have e:=KX a o hk;rw [ha] at e;cases e;refine U (fun _=>none) (fun _=> .inl rfl) (.inr ⟨_,vs.toArray,_,hk,rfl,rfl,rfl,by rw [u9,ac];exact hl,by simpa using rv⟩) (fun b u z=>by have z':(none:Option HO)=some u:=z;cases z') (fun b z=>absurd rfl z) fun z=>absurd rfl z
 |none=>
  refine U (fun b=>if b=a then some (.frz {cls:= .type "list",data:= .seq vs.toArray} (.lst (ns.map V.int))) else none) (fun b=> ?_) (.inl (.inr ⟨{cls:= .type "list",data:= .seq vs.toArray},if_pos rfl⟩)) (fun b u z=> ?_) (fun b z=> ?_) fun _=>hk
  ·by_cases M:b=a
   ·exact .inr ⟨_,_,if_pos M⟩
   ·exact .inl (if_neg M)
  ·by_cases M:b=a
   ·have z':=(if_pos M).symm.trans z;cases z';subst M;exact⟨ha,by rw [uc];exact hl,vs,_,rv,ha⟩
   ·have z':=(if_neg M).symm.trans z;cases z'
  ·by_cases M:b=a
   ·exact M
   ·exact absurd (if_neg M) z
abbrev KOf {K:PySem.W.Frag}{h:Heap}(_:K.In h):PySem.W.Frag:=K
def Jm (s:Stmt)(j:Nat):Stmt:=match s with
 | .ClassDef _ _ _ body _ _ _ _ _ _ _=>body.getD j (.Pass ⟨0,0,0,0⟩)
 |_=> .Pass ⟨0,0,0,0⟩
def YL (s:Stmt):Arguments:=match s with
 | .FunctionDef _ a _ _ _ _ _ _ _ _=>a
 |_=>{posonlyargs:= [],args:= [],vararg:=none,kwonlyargs:= [],kw_defaults:= [],kwarg:=none,defaults:= []}
def yO (s:Stmt):List Stmt:=match s with
 | .FunctionDef _ _ b _ _ _ _ _ _ _=>b
 |_=> []
def qj (s:Stmt):Scope:=match s with
 | .FunctionDef _ _ _ _ _ _ sc _ _ _=>sc
 |_=>{kind:= .function,names:= [],isGenerator:=false,isCoroutine:=false}
abbrev CX0:CXT:=fun _ _ _ _ _ _=>False
abbrev E0:XK:=fun _ _ _=>False
theorem qH {X:Cx}:Yy CX0 X E0:=fun _ _ _ _ _ _ _ h=>h.elim
structure Fun (K:PySem.W.Frag)(x qual:Str)(st:Stmt)(f:Addr)(fd:FuncData):Prop where
 ex:∃(oc:Value) (od:Option Addr) (kV doc pm:Value) (an:Option Addr) (cdv ct:Value) (osl:Array (Option Value)),
  fd=PySem.W.fnOf x qual (YL st) (yO st) (qj st) .none kV doc pm an cdv ct/\K.lookup f=some ⟨oc,od,.func fd,osl⟩/\PySem.W.codeIn K cdv qual=true
 kp:PySem.W.keepIn K (.ref f)=true
section
variable {P:Program}{w:World}{K:PySem.W.Frag}{mg:Str->Option Value}{base:Heap}
theorem Fun.ok {x qual:Str}{st:Stmt}{f:Addr}{fd:FuncData}{N ps:List Str}{k:Nat}{sp:Sp}(F:Fun K x qual st f fd)(S:qz N ps (qj st))(len:∀vs H Q E,sp vs H Q E->vs.length=ps.length)
  (B:∀(cdv:Value) (A:Around) (outer:List Env) (s:Shared) (H:Hp) (vs:List V) (Q:VK) (E:XK),Room k (A.deeper (envOfC qual (qj st) s.heap.objs.size f cdv))->sp vs H Q E->
   ∃t,PSs (cxOf CX0 P w K mg base N qual (qj st) f cdv A outer s H E).nox (yO st) t/\t {nx:=fun _ H'=>Q .non H',rt:=Q} (jZ N vs) H):FnOk P w K mg base CX0 (k+1) f fd ps sp:=by
 obtain⟨oc,od,kV,doc,pm,an,cdv,ct,osl,rfl,lk,L⟩:=F.ex;refine fn_of lk L S len fun A outer s H vs Q E O M=> ?_;obtain⟨t,h,q⟩:=B cdv A outer s H vs Q E O M;exact⟨t,h.nox,q⟩
theorem Fun.binds {x qual:Str}{st:Stmt}{f:Addr}{fd:FuncData}{ps:List Str}(F:Fun K x qual st f fd)
  (h:∀(kV doc pm:Value) (an:Option Addr) (cdv ct:Value) (us:List Value),us.length=ps.length->bindArgs (PySem.W.fnOf x qual (YL st) (yO st) (qj st) .none kV doc pm an cdv ct) ⟨us,[]⟩=pure (ps.zip us)):yC K fd ps []:=by
 obtain⟨oc,od,kV,doc,pm,an,cdv,ct,osl,rfl,lk,B⟩:=F.ex;exact .all (h kV doc pm an cdv ct)
theorem fun_mk {x qual:Str}{st:Stmt}{f:Addr}{oc:Value}{od an:Option Addr}{osl:Array (Option Value)}{kV doc pm cdv ct:Value}(l:K.lookup f=some ⟨oc,od,.func (PySem.W.fnOf x qual (YL st) (yO st) (qj st) .none kV doc pm an cdv ct),osl⟩)
  (c:PySem.W.codeIn K cdv qual=true) (k:PySem.W.keepIn K (.ref f)=true):Fun K x qual st f (PySem.W.fnOf x qual (YL st) (yO st) (qj st) .none kV doc pm an cdv ct):=⟨⟨oc,od,kV,doc,pm,an,cdv,ct,osl,rfl,l,c⟩,k⟩
end
theorem QL {n:Nat}(h:n<=1000):n<sizeLine:=UQ h (by decide)
section
variable {X:Cx}
theorem pv (i:Nat){x:Str}{pos:Pos}(L:X.N[i]? =some x:=by rfl)(M:Vis X.env.scope x:=by first|exact Or.inl rfl|exact Or.inr (Or.inl rfl)|exact Or.inr (Or.inr rfl))(hd:(x==("__debug__":Str))=false:=by decide)
  (B:(x==("__classdict__":Str))=false:=by decide):PE X (.Name x pos) (tVar i):=pe_var L M hd B
end
theorem iteF {A B:Prop}(h:B):if false=true then A else B:=by
 rw [if_neg ug];exact h
theorem iteT {A B:Prop}(h:A):if true=true then A else B:=by
 rw [if_pos rfl];exact h
theorem ite2 {c A B:Prop}[Decidable c](h1:c->A)(h2:¬c->B):if c then A else B:=by
 by_cases h:c
 ·rw [if_pos h];exact h1 h
 ·rw [if_neg h];exact h2 h
def Same (H H':Hp):Prop:=∀b o,H b=some o->H' b=some o
theorem Same.refl (H:Hp):Same H H:=fun _ _ h=>h
theorem Same.trans {H H1 H2:Hp}(a:Same H H1)(b:Same H1 H2):Same H H2:=fun c o h=>b c o (a c o h)
theorem Same.free {H H':Hp}(e:Same H H'){l:Addr}(h:H' l=Option.none):H l=Option.none:=by
 cases q:H l with
 |none=>rfl
 |some o=>
  rw [e l o q] at h;cases h
end L2
namespace L2
open PySem
inductive D where
 |non|bl (b:Bool)|int (i:Int)|str (z:Str)|lst|dct|tup (xs:List D)
def Y1 (c:Nat):Bool:=decide (32<=c)&&decide (c<=126)&&decide (c≠37)
def Yh (z:Str):Bool:=decide (z.length<=300)&&z.cps.toList.all Y1
mutual
def good:D->Bool
 | .str z=>Yh z
 | .tup xs=>decide (xs.length<=40)&&goodL xs
 |_=>false
def goodL:List D->Bool
 | []=>true
 |x::r=>good x&&goodL r
end
mutual
def sz:D->Nat
 | .str z=>z.length+1
 | .tup xs=>1+szL xs
 |_=>0
def szL:List D->Nat
 | []=>0
 |x::r=>sz x+szL r
end
mutual
def dp:D->Nat
 | .str _=>1
 | .tup xs=>1+dpL xs
 |_=>0
def dpL:List D->Nat
 | []=>0
 |x::r=>max (dp x) (dpL r)
end
mutual
def nd:D->Nat
 | .tup xs=>1+ndL xs
 |_=>1
def ndL:List D->Nat
 | []=>0
 |x::r=>nd x+ndL r
end
def isT (d:D):Bool:=good d&&decide (sz d<=600)&&decide (dp d<=12)
theorem jh:∀(xs ys:List D),szL (xs++ys)=szL xs+szL ys
 | [],ys=>by simp [szL]
 |x::r,ys=>by simp only [U0,szL,jh r ys];omega
theorem ju:∀(xs ys:List D),ndL (xs++ys)=ndL xs+ndL ys
 | [],ys=>by simp [ndL]
 |x::r,ys=>by simp only [U0,ndL,ju r ys];omega
theorem ye {k:Nat}:∀(xs:List D),dpL xs<=k↔∀x∈xs,dp x<=k
 | []=>by simp [dpL]
 |x::r=>by
  have L:=ye (k:=k) r;have e:dpL (x::r)=max (dp x) (dpL r):=by simp only [dpL]
  rw [e];constructor
  ·intro h y B;rcases List.mem_cons.mp B with rfl|B
   ·omega
   ·exact L.mp (by omega) y B
  ·intro h;have h1:=h x u5;have h2:=L.mpr fun y B=>h y (u4 _ B);omega
theorem dp_pos {d:D}(h:good d=true):1<=dp d:=by
 cases d<;>simp_all [good,dp]
def wOk (w:List (D×Nat)):Bool:=w.all fun p=>good p.1&&decide (p.2+dp p.1<=13)
def wSz (w:List (D×Nat)):Nat:=szL (w.map (·.1))
def G (w:List (D×Nat))(n:Nat):Bool:=wOk w&&decide (n+wSz w<=600)
theorem G_start (d:D):G [(d,1)] 0=isT d:=by
 simp only [G,wOk,wSz,isT,U5,List.all_nil,um,UI,szL,Bool.and_true,Nat.zero_add,Nat.add_zero];have e:decide (1+dp d<=13)=decide (dp d<=12):=by
  rw [uM];omega
 rw [e];cases good d<;>cases decide (sz d<=600)<;>cases decide (dp d<=12)<;>rfl
theorem G_nil {n:Nat}(h:n<=600):G [] n=true:=by simp [G,wOk,wSz,szL,h]
theorem G_snoc (w:List (D×Nat))(d:D)(k n:Nat):G (w++ [(d,k)]) n=(wOk w&&(good d&&decide (k+dp d<=13))&&decide (n+(wSz w+sz d)<=600)):=by
 simp only [G,wOk,wSz,List.all_append,U5,List.all_nil,Bool.and_true,uw,um,UI,jh,szL,Nat.add_zero]
 rfl
theorem G_bad {w:List (D×Nat)}{d:D}{k n:Nat}(h:good d=false):G (w++ [(d,k)]) n=false:=by
 rw [G_snoc,h];simp
theorem G_deep {w:List (D×Nat)}{d:D}{k n:Nat}(h:12<k):G (w++ [(d,k)]) n=false:=by
 rw [G_snoc];cases B:good d with
 |false=>simp
 |true=>
  have:=dp_pos B;have e:decide (k+dp d<=13)=false:=u8 (by omega)
  rw [e];simp
theorem G_big {w:List (D×Nat)}{d:D}{k n:Nat}(h:600<n+sz d):G (w++ [(d,k)]) n=false:=by
 rw [G_snoc];have e:decide (n+(wSz w+sz d)<=600)=false:=u8 (by omega)
 rw [e];simp
theorem G_big1 {w:List (D×Nat)}{xs:List D}{k n:Nat}(h:600<n+1):G (w++ [(.tup xs,k)]) n=false:=G_big (by simp only [sz];omega)
theorem wOk_map (xs:List D)(k:Nat):wOk (xs.map fun x=>(x,k+1))=(goodL xs&&xs.all fun x=>decide (k+1+dp x<=13)):=by
 induction xs with
 |nil=>rfl
 |cons x r B=>
  simp only [um,wOk,U5,goodL] at B⊢;rw [B];cases good x<;>cases decide (k+1+dp x<=13)<;>cases goodL r<;>simp
theorem wSz_map (xs:List D)(k:Nat):wSz (xs.map fun x=>(x,k+1))=szL xs:=by
 unfold wSz;rw [uB]
 congr 1
 induction xs with
 |nil=>rfl
 |cons x r B=>simp only [um,B];rfl
theorem G_tup {w:List (D×Nat)}{xs:List D}{k n:Nat}(B:xs.length<=40)(hk:k<=12):G (w++ [(.tup xs,k)]) n=G (w++xs.map fun x=>(x,k+1)) (n+1):=by
 rw [G_snoc];unfold G;have L:wOk (w++xs.map fun x=>(x,k+1))=(wOk w&&wOk (xs.map fun x=>(x,k+1))):=by unfold wOk;rw [List.all_append]
 have M:wSz (w++xs.map fun x=>(x,k+1))=wSz w+szL xs:=by
  have:=wSz_map xs k;unfold wSz at this⊢;rw [uw,jh,this]
 have O:decide (k+dp (.tup xs)<=13)=xs.all fun x=>decide (k+1+dp x<=13):=by
  have q:=ye (k:=12-k) xs;have U:dp (.tup xs)=1+dpL xs:=by simp only [dp]
  rw [U,vK];constructor
  ·intro h;have h:=uk h;refine List.all_eq_true.mpr fun x hx=>ue ?_;have h2:=q.mp (by omega) x hx
   omega
  ·intro h;refine ue ?_;have h2:=q.mpr fun x hx=>by
    have h3:=uk (List.all_eq_true.mp h x hx);omega
   omega
 rw [L,M,O,wOk_map];have Y:good (.tup xs)=goodL xs:=by simp only [good,ue B,Bool.true_and]
 have Z:decide (n+(wSz w+sz (.tup xs))<=600)=decide (n+1+(wSz w+szL xs)<=600):=by
  rw [uM];simp only [sz];omega
 rw [Y,Z]
theorem G_str {w:List (D×Nat)}{z:Str}{k n:Nat}(B:Yh z=true)(hk:k<=12):G (w++ [(.str z,k)]) n=G w (n+(1+z.length)):=by
 rw [G_snoc];unfold G;have L:good (.str z)=true:=by simp only [good,B]
 have M:decide (k+dp (.str z)<=13)=true:=ue (by simp only [dp];omega)
 have O:decide (n+(wSz w+sz (.str z))<=600)=decide (n+(1+z.length)+wSz w<=600):=by
  rw [uM];simp only [sz];omega
 rw [L,M,O];simp
end L2
namespace AwZ
open PySem PyProof.Rows
open PySem.AutoSeq1 (wpAny_loadPart')
section
variable {prog:Program}{w:World}{A:Around}{E:Value->Shared->Prop}{s:Shared}
theorem tdraw {j t:Addr}{i:Nat}{its:Array Value}{x:Value}{Q:Value->Shared->Prop}(L:s.heap.IsTupleIter j t i)(U:s.heap.IsTuple t its)(Y:its[i]? =some x)
  (q:∀h2,h2.IsTupleIter j t (i+1)->Heap.SameBut j s.heap h2->Q x {s with heap:=h2}):wpAny (model prog w) A (Builtin.SmallTypes.nextOf (.ref j)) Q E s:=by
 obtain⟨u,hu,Z,B⟩:=id L;obtain⟨ut,M,_,nt,O⟩:=U;unfold Builtin.SmallTypes.nextOf;refine wpAny_bind (uC (name:=Str.ofString "__next__") L.typeIs vY
  (uz vY L.typeIs F.entry_tuple_iterator_next ?_ (F.args_tuple_iterator_next_1 _)))
 show wpAny _ _ (field (.ref j) 0>>=_) _ _ s;refine wpAny_bind (vR hu B (x:= .ref t) rfl ?_);show wpAny _ _ (if(Value.ref t==Value.none)=true then _ else _) _ _ s
 rw [if_neg (show¬(Value.ref t==Value.none)=true from ug)]
 show wpAny _ _ (field (.ref j) 1>>=_) _ _ s;refine wpAny_bind (vR hu B (x:= .int i 0) rfl ?_);show wpAny _ _ (seqItems? (.ref t)>>=_) _ _ s;refine wpAny_bind (UD M O ?_);simp only [Uc,Y];refine wpAny_bind (vI hu B (by simp) (wpAny_pure ⟨x,rfl,wpAny_pure (q _ ?_ (uD ..))⟩))
 exact⟨_,uV _ hu (vM (uW B _)),(Uz ..).trans Z,by rw [uW B];simp [rawInt]⟩
theorem tdraw_end {j t:Addr}{i:Nat}{its:Array Value}{Q:Value->Shared->Prop}(U:A.handled=none)(B:s.heap.IsTupleIter j t i)(Y:s.heap.IsTuple t its)(Z:its[i]? =none)
  (q:∀h2 e,Heap.ExtBut j s.heap h2->(∃u,h2.get? e=some u/\u.cls= .type "StopIteration")->E (.ref e) {s with heap:=h2}):wpAny (model prog w) A (Builtin.SmallTypes.nextOf (.ref j)) Q E s:=by
 obtain⟨u,hu,cu,L⟩:=id B;obtain⟨ut,M,_,nt,O⟩:=Y;unfold Builtin.SmallTypes.nextOf;refine wpAny_bind (uC (name:=Str.ofString "__next__") B.typeIs vY
  (uz vY B.typeIs F.entry_tuple_iterator_next ?_ (F.args_tuple_iterator_next_1 _)))
 show wpAny _ _ (field (.ref j) 0>>=_) _ _ s;refine wpAny_bind (vR hu L (x:= .ref t) rfl ?_);show wpAny _ _ (if(Value.ref t==Value.none)=true then _ else _) _ _ s
 rw [if_neg (show¬(Value.ref t==Value.none)=true from ug)]
 show wpAny _ _ (field (.ref j) 1>>=_) _ _ s;refine wpAny_bind (vR hu L (x:= .int i 0) rfl ?_);show wpAny _ _ (seqItems? (.ref t)>>=_) _ _ s;refine wpAny_bind (UD M O ?_);simp only [Uc,Z];refine wpAny_bind (wpAny_rule (wpAny_bind (vI hu L (by simp) ?_)))
 show wpAny _ _ (newExc (.type "StopIteration") []>>=_) _ _ _;refine wpAny_bind ?_;simp only [newExc,newTuple];refine wpAny_bind (uJ ?_ (by size_fits))
 refine wpAny_bind (m:=firstArgMember _ _) (Uv (a:=Value.none) (by first|rfl|(simp only [firstArgMember];rfl)) ?_)
 refine uJ ?_ (by size_fits)
 simp only [raiseNew];refine wpAny_bind (wpAny_handled ?_)
 first|rw [show A.in1.handled=none from U]|rw [U]
 refine wpAny_bind (wpAny_pure (wpAny_throw ?_));exact q _ _ (((uD ..).extBut.push _).push _) ⟨_,uf _ rfl,rfl⟩
abbrev q1 (h:Heap)(a:Addr):Heap:=h.push {cls:= .type "tuple_iterator",data:= .fields #[.ref a,.int 0 0]}
theorem enumt {e j t:Addr}{i:Nat}{c:Int}{its:Array Value}{x B:Value}{Q:Value->Shared->Prop}(he:IsEnum s.heap e j c B)(gj:s.heap.IsTupleIter j t i)(gt:s.heap.IsTuple t its)(gx:its[i]? =some x)(Z:e≠j)
  (q:∀h2,IsEnumOut h2 e j (c+1) x s.heap.objs.size->h2.IsTupleIter j t (i+1)->h2.get? s.heap.objs.size=some {cls:= .type "tuple",data:= .seq #[.int c s.toks,x]}->h2.objs.size=s.heap.objs.size+1->
   (∀b o,b≠e->b≠j->s.heap.get? b=some o->h2.get? b=some o)->Q (.ref s.heap.objs.size) {s with heap:=h2,toks:=s.toks+1}):
  wpAny (model prog w) A (Builtin.«enumerate.__next__» ⟨[.ref e],[]⟩) (fun aa t=>∃v,aa= .done (.ret v)/\Q v t) E s:=by
 obtain⟨L,g,d,tk,os⟩:=s;show wpAny _ _ (field (.ref e) 2>>=_) _ _ _;refine wpAny_bind (vR he rfl (x:= .ref j) rfl ?_);refine wpAny_bind (tdraw gj gt gx fun h1 j1 s1=> ?_)
 replace s1:Heap.SameBut j L h1:=s1
 have e1:IsEnum h1 e j c B:=(s1.2 e Z).trans he;show wpAny _ _ (field (.ref e) 3>>=_) _ _ ⟨h1,g,d,tk,os⟩;refine wpAny_bind (vR e1 rfl (x:=rawInt c) rfl ?_);show wpAny _ _ (field (.ref e) 4>>=_) _ _ ⟨h1,g,d,tk,os⟩;refine wpAny_bind (vR e1 rfl (x:= .none) rfl ?_);show wpAny _ _ (mkInt c>>=_) _ _ ⟨h1,g,d,tk,os⟩;refine wpAny_bind (wpAny_mkInt ?_);show wpAny _ _ (setField (.ref e) 3 (rawInt (c+1))>>=_) _ _ ⟨h1,g,d,tk+1,os⟩;refine wpAny_bind (Us e1 (by simp) fun h2 e2 s2=> ?_)
 replace s2:Heap.SameBut e h1 h2:=s2
 replace e2:IsEnum h2 e j (c+1) B:=e2
 show wpAny _ _ (setField (.ref e) 4 .none>>=_) _ _ ⟨h2,g,d,tk+1,os⟩;refine wpAny_bind (Us e2 (by simp) fun O e3 U=> ?_)
 replace U:Heap.SameBut e h2 O:=U
 replace e3:IsEnum O e j (c+1) B:=e3
 show wpAny _ _ (newTuple [.int c tk,x]>>=_) _ _ ⟨O,g,d,tk+1,os⟩;refine wpAny_bind (wpAny_newTuple ?_);have e4:IsEnum (O.push {cls:= .type "tuple",data:= .seq #[.int c tk,x]}) e j (c+1) B:=u7 _ e3;generalize Y:O.push {cls:= .type "tuple",data:= .seq #[.int c tk,x]}=h4 at e4;have sz:O.objs.size=L.objs.size:=by rw [U.1,s2.1,s1.1]
 have el:e<L.objs.size:=uh he;have t4:h4.get? L.objs.size=some {cls:= .type "tuple",data:= .seq #[.int c tk,x]}:=by rw [<-Y,<-sz];exact uf _ rfl
 have n4:h4.objs.size=L.objs.size+1:=by rw [<-Y,vw,sz]
 have k4:∀b o,b≠e->b≠j->L.get? b=some o->h4.get? b=some o:=fun b o M bj y=>by
  rw [<-Y];exact u7 _ (U.extBut b o M (s2.extBut b o M (s1.extBut b o bj y)))
 have j4:h4.IsTupleIter j t (i+1):=by
  obtain⟨o,y,r⟩:=j1;exact⟨o,by rw [<-Y];exact u7 _ (U.extBut j o (Ua Z) (s2.extBut j o (Ua Z) y)),r⟩
 show wpAny _ _ (Builtin.SmallTypes.ownedTupleIsFree (.ref e)>>=_) _ _ ⟨h4,g,d,tk+1,os⟩;rw [sz];clear Y e3 U e2 s2 e1 s1 j1 sz O h2 h1;refine wpAny_bind ?_;unfold Builtin.SmallTypes.ownedTupleIsFree;refine wpAny_bind (vR e4 rfl (x:= .none) rfl (wpAny_pure ?_));simp only [if_true];refine wpAny_bind (wpAny_rule ?_);refine wpAny_bind (vR e4 rfl (x:=B) rfl ?_);refine wpAny_bind (Us e4 (by simp) fun h5 e5 s5=> ?_)
 replace s5:Heap.SameBut e h4 h5:=s5
 replace e5:IsEnum h5 e j (c+1) x:=e5
 show wpAny _ _ (Builtin.SmallTypes.ownedTupleHandOut (.ref e) (.ref L.objs.size)>>=_) _ _ ⟨h5,g,d,tk+1,os⟩;refine wpAny_bind ?_;unfold Builtin.SmallTypes.ownedTupleHandOut;refine wpAny_bind (Us e5 (by simp) fun h6 e6 s6=> ?_)
 replace s6:Heap.SameBut e h5 h6:=s6
 replace e6:IsEnumOut h6 e j (c+1) x L.objs.size:=e6
 refine Us e6 (by simp) fun h7 e7 s7=> ?_
 replace s7:Heap.SameBut e h6 h7:=s7
 replace e7:IsEnumOut h7 e j (c+1) x L.objs.size:=e7
 have up:∀b o,b≠e->h4.get? b=some o->h7.get? b=some o:=fun b o M y=>s7.extBut b o M (s6.extBut b o M (s5.extBut b o M y));refine wpAny_bind (V8 (wpAny_pure ⟨_,rfl,q h7 e7 ?_ (up _ _ (V3 el) t4) ?_ fun b o M bj y=>up b o M (k4 b o M bj y)⟩))
 ·obtain⟨o,y,r⟩:=j4;exact⟨o,up j o (Ua Z) y,r⟩
 ·rw [s7.1,s6.1,s5.1,n4]
theorem enum_go {e j t:Addr}{i:Nat}{c:Int}{its:Array Value}{x B:Value}{Q:Option Value->Shared->Prop}(L:IsEnum s.heap e j c B)(M:s.heap.IsTupleIter j t i)(O:s.heap.IsTuple t its)(U:its[i]? =some x)(Y:e≠j)
  (q:∀h2,IsEnumOut h2 e j (c+1) x s.heap.objs.size->h2.IsTupleIter j t (i+1)->h2.get? s.heap.objs.size=some {cls:= .type "tuple",data:= .seq #[.int c s.toks,x]}->h2.objs.size=s.heap.objs.size+1->
   (∀b o,b≠e->b≠j->s.heap.get? b=some o->h2.get? b=some o)->Q (some (.ref s.heap.objs.size)) {s with heap:=h2,toks:=s.toks+1}):wpAny (model prog w) A (pyNext (.ref e)) Q E s:=by
 have te:s.TypeIs (.ref e) "enumerate":=⟨_,L,rfl⟩;unfold pyNext;exact wpAny_bind (U6 (uC (name:=Str.ofString "__next__") te Uw
  (uz Uw te F.entry_enumerate_next (enumt L M O U Y fun h2 Z b2 b3 b4 b5=>wpAny_pure (q h2 Z b2 b3 b4 b5)) (F.args_enumerate_next_1 _))))
theorem enum_stop {e j t:Addr}{i:Nat}{c:Int}{its:Array Value}{B:Value}{Q:Option Value->Shared->Prop}(M:A.handled=none)(L:IsEnum s.heap e j c B)(O:s.heap.IsTupleIter j t i)(U:s.heap.IsTuple t its)(Y:its[i]? =none)
  (q:∀h2,Heap.ExtBut j s.heap h2->Q none {s with heap:=h2}):wpAny (model prog w) A (pyNext (.ref e)) Q E s:=by
 have te:s.TypeIs (.ref e) "enumerate":=⟨_,L,rfl⟩;unfold pyNext;refine wpAny_bind (U6 (uC (name:=Str.ofString "__next__") te Uw
  (uz Uw te F.entry_enumerate_next ?_ (F.args_enumerate_next_1 _))))
 show wpAny _ _ (field (.ref e) 2>>=_) _ _ _;refine wpAny_bind (vR L rfl (x:= .ref j) rfl ?_);refine wpAny_bind (tdraw_end M O U Y fun h2 y s2 Z=> ?_);obtain⟨o,g,c⟩:=Z;refine wpAny_bind (wpAny_isInstance (T:="StopIteration") (b:=true) ⟨o,g,c⟩ isSubtype_stop ?_);exact wpAny_pure (q _ s2)
theorem w_tc (T:String)(args:List Value)(kw:List (Str×Value)):(Code.builtin "type.__call__" ⟨.type T::args,kw⟩).weight=0:=rfl
theorem new_kw {T B:String}{Bn:Builtin}{args:List Value}{kw:List (Str×Value)}{S:PySem.Spec}{Q:Value->Shared->Prop}(ft:TypeCalled T B "object.__init__")
  (ab:(some B !=some "object.__new__")=true) (ac:checkTypeCall T ⟨args,kw⟩=pure Unit.unit) (M:checkBuiltinCall B ⟨.type T::args,kw⟩=pure Unit.unit)
  (hok:∀obj,argsOk "object.__init__" ⟨obj::args,kw⟩) (en:entryFor table B=some Bn) (g:Meets (Bn ⟨.type T::args,kw⟩) S)
  (h:S A.in1 (wants (fun obj s1=>s1.TypeIs obj T/\Q obj s1) E) s):wpAny (model prog w) A (call (.type T) args kw) Q E s:=by
 obtain⟨c,tl,hm⟩:=ft.mro;have O:=ft.made;have aa:=ft.sub;refine wpAny_call (codeAny_of_tree ?_);show wpAny _ _ (callAny (.type T) _) _ _ _;refine wpAny_pure ⟨Code.quiet_builtin _ (by decide+kernel),vz F.entry_type_call ?_⟩
 rw [Around.under_plain (w_tc T args kw) (units_type_call_type T args kw)];have g1:=ft.notType;have g2:=ft.canCreate
 repeat (any_goals (first|assumption|wp_step))
 refine Uf (codeAny_call_builtin ft.plain en (Uv M (g prog w A.in1 _ s h))) fun r s1 U=> ?_;cases r with
 |error e=>exact U
 |ok fl=>
  cases fl with
  |ret obj=>
   obtain⟨Y,hq⟩:=U;have ad:=ft.init.lookup;have ae:=ft.init.bind obj
   repeat (any_goals (first|assumption|wp_step))
   have gi:Meets (Builtin.«object.__init__» ⟨obj::args,kw⟩) (fun _ R s=>s.TypeIs obj T/\R (.ok (.ret .none)) s):=by
    refine Meets.of_wp fun prog w A R s hs=> ?_;obtain⟨Y,hq⟩:=hs;cases hc:(!args.isEmpty|| !kw.isEmpty) with
    |false=>
     show wpAny _ _ (if(!args.isEmpty|| !kw.isEmpty)=true then _ else _) _ _ _
     rw [if_neg (by rw [hc];exact ug)]
     exact wpAny_pure ⟨_,rfl,hq⟩
    |true=>
     repeat (any_goals (first|assumption|wp_step))
     exact⟨_,rfl,hq⟩
   refine Uf (codeAny_call_builtin ft.init.plain F.entry_object_init (ft.init.check _ _ _ _ _ _ _ _ Y (hok obj) (gi prog w A.in1 (wants (fun r s2=>r= .none/\Q obj s2) E) s1 ⟨Y,rfl,hq⟩))) fun r2 s2 L=> ?_;cases r2 with
   |error e=>exact L
   |ok Z=>
    cases Z with
    |ret r=>
     obtain⟨rfl,hq⟩:=L
     repeat (any_goals (first|assumption|wp_step))
    |_=>exact L.elim
  |_=>exact U.elim
end
end AwZ
namespace L2
open PySem PySem.Spec PyProof.Rows
def Its (x:Str):It:=⟨fun i _=>i<x.cps.size,fun i H v H'=>H'=H/\∃c,x.cps[i]? =some c/\v= .str ⟨#[c]⟩,fun i _=>i=x.cps.size⟩
theorem turn_str {P:Program}{w:World}{K:PySem.W.Frag}{tg:Expr}{x:Str}{t:Tok}{it:Addr}(ty:String)(B:ty="str_ascii_iterator"∨ty="str_iterator"):
  Turn P w K tg (Its x) [it] it (fun i h=>h.IsStrIter it ty x t i) where
 mem:=by simp
 obj:=fun i h st b L=>by
  have e:b=it:=by simpa using L
  subst e;obtain⟨o,e,c,d⟩:=st;exact⟨o,e,fun v z=>by rw [d] at z;cases z⟩
 keep:=fun i h h' st k=>by
  obtain⟨o,e,r⟩:=st;exact⟨o,k it (by simp) o e,r⟩
 item:=by
  intro X Y Z hK M i pins s σ H E I U st hg;subst Y Z hK;obtain⟨f0,f1,f2,f3,f4,f5⟩:=U it (by simp)
  have W:Walks X.prog X.w X.A it [it] [it] x.cps.size (SignAt x) (fun i h=>h.IsStrIter it ty x t i):=by
   rcases B with rfl|rfl
   ·exact Walks.strAscii (I.ok.hd M) it x t
   ·exact Walks.strWide (I.ok.hd M) it x t
  refine uH (n:=1) I.tk (W.item i s _ _ hg st fun v h' tk hv O kk=> ?_);intro htk;obtain⟨c,u,hx,rfl⟩:=hv;have I1:Inv X pins σ H {s with heap:=h',toks:=tk}:=I.turned (fun b o L e=>kk b o (by simpa using L) e) f0 f1 f3 f4 f5
  obtain⟨o,e,c',d⟩:=id O;refine⟨_,rfl,go_of (s:={s with heap:=h',toks:=tk}) e c' d (by rcases B with rfl|rfl<;>decide) ⟨.str ⟨#[c]⟩,H,I1,⟨u,rfl⟩,⟨rfl,c,hx,rfl⟩,O,fun b L=>(U b L).1⟩⟩
 done:=by
  intro X Y Z hK M i pins s σ H E I U st hg;subst Y Z hK;have aa:i=x.cps.size:=hg;subst aa;obtain⟨f0,f1,f2,f3,f4,f5⟩:=U it (by simp)
  have W:Walks X.prog X.w X.A it [it] [it] x.cps.size (SignAt x) (fun i h=>h.IsStrIter it ty x t i):=by
   rcases B with rfl|rfl
   ·exact Walks.strAscii (I.ok.hd M) it x t
   ·exact Walks.strWide (I.ok.hd M) it x t
  exact uH (n:=1) I.tk (W.done s _ _ st fun h' tk kk htk=>⟨rfl,I.turned (fun b o L e=>kk b o (by simpa using L) e) f0 f1 f3 f4 f5⟩)
 self:=fun _ _ _ _ _ st h=>by
  rcases B with rfl|rfl
  ·exact wpAny_pyIter_striter_ascii st h
  ·exact wpAny_pyIter_striter_wide st h
section
variable {X:Cx}{tg:Expr}
def iStr (tl:TE):TI:=fun σ H R=>tl σ H fun x H1=>∃z,x= .str z/\R (Its z) H1
theorem pi_str {l:Expr}{tl:TE}(L:PE X l tl):PI X tg l (iStr tl):=by
 intro pins s σ H R I h;refine thn (L pins s σ H _ I h) fun v s1 ⟨x,H1,B,M,q1⟩=> ?_;obtain⟨z,e,q⟩:=q1;subst e;obtain⟨t,rfl⟩:=M;have fp:∀(o:Obj),∀b∈ [s1.heap.objs.size],FpOk X pins H1 b:=fun o b O=>by
  have e:b=s1.heap.objs.size:=by simpa using O
  subst e;exact B.fpOk (Nat.le_refl _) (B.hok.fresh (Nat.le_refl _))
 cases ha:z.cps.all (·<128)
 ·refine wpAny_pyIter_wide ha ?_;exact⟨s1.heap.objs.size,[s1.heap.objs.size],_,_,H1,rfl,B.kept (t':=s1.toks) fun b o e=>u7 _ e,turn_str "str_iterator" (.inr rfl),⟨_,uf _ rfl,rfl,rfl⟩,fp default,q⟩
 ·refine wpAny_pyIter_ascii ha ?_;exact⟨s1.heap.objs.size,[s1.heap.objs.size],_,_,H1,rfl,B.kept (t':=s1.toks) fun b o e=>u7 _ e,turn_str "str_ascii_iterator" (.inl rfl),⟨_,uf _ rfl,rfl,rfl⟩,fp default,q⟩
theorem qQ {K:PySem.W.Frag}(L:X.K=K):yN X (.builtin "isinstance") (fun xs H Q=>∃x T t b,xs= [x,.ty T]/\TyOf K H x t/\PySem.W.kitOne K t (.type T)=some b/\Q (.bl b) H):=by
 intro pins s σ H xs us Q I r h;obtain⟨x,T,t,b,rfl,ty,e,q⟩:=h;obtain⟨u,O,rfl,M,B⟩:=vals2 r;cases B;subst L;exact uH (n:=1) I.tk (isinst_ok I M ty e fun tk htk=>⟨.bl b,H,I.tok tk,rfl,q⟩)
theorem all_range:∀bs:List Bool,(List.range bs.length).all (fun i=>bs.getD i true)=bs.all id
 | []=>rfl
 |b::r=>by
  rw [ul,Uq,U5,Ug,U5];have e:(List.range r.length).all ((fun i=>(b::r).getD i true)∘Nat.succ)=(List.range r.length).all fun i=>r.getD i true:=by
   congr 1
  rw [e,all_range r]
  rfl
theorem JA (hc:X.calm=true):yN X (.builtin "all") (fun xs H Q=>∃(p:Addr) (bs:List Bool),xs= [.ref p]/\SqL X.K H p (bs.map V.bl)/\Q (.bl (bs.all id)) H):=by
 intro pins s σ H xs us Q I r h;obtain⟨p,bs,rfl,hp,q⟩:=h;obtain⟨u,rfl,ru⟩:=QW r;cases ru;obtain⟨its,Y,pl,hz⟩:=I.list hp;have O:p<s.heap.objs.size:=by obtain⟨o,n,e,_⟩:=pl;exact uh e
 refine uH (n:=1) I.tk ?_;refine call_all_walk (UW pl.isList ?_);have up:∀b o,s.heap.get? b=some o->(s.heap.push {cls:= .type "list_iterator",data:= .fields #[.ref p,.int 0 0]}).get? b=some o:=fun b o e=>u7 _ e;have hl:its.length=bs.length:=by have:=Y.length;simpa using this.symm
 refine⟨s.heap.objs.size,_,_,_,_,_,fun i=>bs.getD i true,rfl,Walks.list (show X.A.in1.handled=none from I.ok.hd hc) s.heap.objs.size p (uy O) its.toArray,⟨⟨_,uf _ rfl,rfl,rfl⟩,pl.isList.push _⟩,?_,?_⟩
 ·intro i v s' Q' E' hv hQ;have B:its[i]? =some v:=by simpa using hv
  have hi:i<its.length:=(List.getElem?_eq_some_iff.mp B).1;obtain⟨u,Z,e2⟩:=Y.get (i:=i) (x:= .bl (bs[i]'(by omega))) (by simp [show i<bs.length by omega])
  rw [B] at Z;cases Z;cases e2;have:bs.getD i true=bs[i]'(by omega):=by simp [List.getD,show i<bs.length by omega]
  have L:Q' (bs.getD i true) s':=hQ;rw [this] at L;exact uG L
 ·intro h' tk kk htk;have M:(List.range its.toArray.size).all (fun i=>bs.getD i true)=bs.all id:=by
   rw [u9,hl];exact all_range bs
  rw [M];have I1:=I.kept (t':=s.toks) (h':=s.heap.push {cls:= .type "list_iterator",data:= .fields #[.ref p,.int 0 0]}) up;have U:=I.fpOk (Nat.le_refl _) (I.hok.fresh (Nat.le_refl s.heap.objs.size));obtain⟨f0,f1,f2,f3,f4,f5⟩:=U;exact⟨.bl (bs.all id),H,I1.turned (it:=s.heap.objs.size) (fun b o hb e=>kk b o (by simpa using hb) e) f0 f1 f3 f4 f5,rfl,q⟩
end
section
variable {X:Cx}
theorem op_repS:OpR X (binaryOp .Mult) (fun x y H Q=>∃z k,x= .str z/\y= .int k/\MulOk z k/\Q (.str (Txt.mul z k)) H):=by
 intro pins s σ H x y v u Q I B L h;obtain⟨z,k,rfl,rfl,hok,q⟩:=h;obtain⟨t,rfl⟩:=B;obtain⟨t',rfl⟩:=L;exact uH (n:=1) I.tk (SB.mul hok fun t' M htk=>⟨.str (Txt.mul z k),H,I.tok M,⟨t',rfl⟩,q⟩)
theorem pe_gI {x:Str}{i:Int}{pos:Pos}(B:Gl X x)(hm:∃t,X.mg x=some (.int i t))(hd:(x==("__debug__":Str))=false:=by decide):PE X (.Name x pos) (tC (.int i)):=by
 obtain⟨t,hm⟩:=hm;exact pe_glob B hm ⟨t,rfl⟩ hd
theorem pe_gS {x z:Str}{pos:Pos}(B:Gl X x)(hm:∃t,X.mg x=some (.str z t))(hd:(x==("__debug__":Str))=false:=by decide):PE X (.Name x pos) (tC (.str z)):=by
 obtain⟨t,hm⟩:=hm;exact pe_glob B hm ⟨t,rfl⟩ hd
theorem pe_gR {x:Str}{a:Addr}{pos:Pos}(B:Gl X x)(hm:X.mg x=some (.ref a))(hd:(x==("__debug__":Str))=false:=by decide):PE X (.Name x pos) (tC (.ref a)):=pe_glob B hm rfl hd
end
theorem qb {H:Hp}{p:Addr}(h:H p=none)(o:HO):Same H (upd H p o):=fun b u q=>by rw [qi (qh q h)];exact q
def Kept (p:Addr)(H H':Hp):Prop:=∀b o,H b=some o->b≠p->H' b=some o
theorem Kept.trans {p:Addr}{H H1 H2:Hp}(a:Kept p H H1)(b:Kept p H1 H2):Kept p H H2:=fun c o h n=>b c o (a c o h n) n
theorem Same.kept {p:Addr}{H H':Hp}(e:Same H H'):Kept p H H':=fun b o h _=>e b o h
theorem Kept.upd (p:Addr)(H:Hp)(o:HO):Kept p H (L2.upd H p o):=fun b u h n=>by rw [qi n];exact h
theorem Kept.same {p:Addr}{H H1 H':Hp}(k:Kept p H1 H')(s:Same H H1)(n:H p=none):Same H H':=fun b o h=>k b o (s b o h) (qh h n)
noncomputable def clOf (cells:List (Str×Addr)):List (Str×NameKind)->List (Str×Addr)->List (Str×Addr)
 | [],cs=>cs
 |(n,k)::r,cs=>clOf cells r (if k== .free then(match cells.lookup n with|some a=>(n,a)::cs|none=>cs) else cs)
theorem XB {cells:List (Str×Addr)}:∀{names:List (Str×NameKind)}{cs:List (Str×Addr)},(∀y c,cs.lookup y=some c->cells.lookup y=some c)->∀y c,(clOf cells names cs).lookup y=some c->cells.lookup y=some c
 | [],_,h=>h
 |(n,k)::r,cs,h=>by
  unfold clOf;refine XB fun y c e=> ?_;split at e
  ·split at e
   ·rename_i a ha
    rw [uT] at e;split at e
    ·rename_i L
     have B:y=n:=beq_iff_eq.mp L;subst B;cases e;exact ha
    ·exact h y c e
   ·exact h y c e
  ·exact h y c e
theorem clOf_keep {cells:List (Str×Addr)}:∀{names:List (Str×NameKind)}{cs:List (Str×Addr)}{y:Str},(∃c,cs.lookup y=some c)->∃c,(clOf cells names cs).lookup y=some c
 | [],_,_,h=>h
 |(n,k)::r,cs,y,h=>by
  unfold clOf;refine clOf_keep ?_;split
  ·split
   ·rw [uT];split
    ·exact⟨_,rfl⟩
    ·exact h
   ·exact h
  ·exact h
theorem XW {cells:List (Str×Addr)}:∀{names:List (Str×NameKind)}{cs:List (Str×Addr)}{y:Str},(y,NameKind.free)∈names->(∃c,cells.lookup y=some c)->∃c,(clOf cells names cs).lookup y=some c
 | [],_,_,h,_=>nomatch h
 |(n,k)::r,cs,y,h,B=>by
  unfold clOf;rcases List.mem_cons.mp h with e|h
  ·cases e;refine clOf_keep ?_;obtain⟨c,B⟩:=B;rw [if_pos (),B]
   exact⟨c,by simp [uT]⟩
  ·exact XW h B
theorem jB {env:Env}:∀{names:List (Str×NameKind)}{cs:List (Str×Addr)},(∀y,(y,NameKind.free)∈names->∃c,env.cells.lookup y=some c)->
  (forIn names cs fun x r=>(do
   if x.2== .free then
    let a<-cellOf env x.1
    pure (ForInStep.yield ((x.1,a)::r))
   else pure (ForInStep.yield r):Sem (ForInStep (List (Str×Addr)))))=(pure (clOf env.cells names cs):Sem (List (Str×Addr)))
 | [],cs,_=>rfl
 |(n,k)::r,cs,h=>by
  rw [List.forIn_cons];have L:∀y,(y,NameKind.free)∈r->∃c,env.cells.lookup y=some c:=fun y O=>h y (u4 _ O);unfold clOf;by_cases hk:(k==NameKind.free)=true
  ·have B:k= .free:=by simpa using hk
   subst B;obtain⟨c,M⟩:=h n u5;have e:cellOf env n=pure c:=by unfold cellOf;rw [M]
   simp only [hk,if_true,e,M,pure_bind];exact jB L
  ·simp only [if_neg hk,pure_bind];exact jB L
theorem closure_ok {scope:Scope}{env:Env}(h:∀y,(y,NameKind.free)∈scope.names->∃c,env.cells.lookup y=some c):closureFor scope env=pure (clOf env.cells scope.names []):=by
 unfold closureFor;have q:=jB (cs:= []) h;show(forIn scope.names ([]:List (Str×Addr)) (fun x r=>(do
   if x.2== .free then
    let a<-cellOf env x.1
    pure (ForInStep.yield ((x.1,a)::r))
   else pure (ForInStep.yield r):Sem (ForInStep (List (Str×Addr)))))>>=fun cs=>pure cs)=_
 rw [q,pure_bind]
theorem jJ {env:Env}(M:env.scope.kind= .function):∀{names:List (Str×NameKind)}{x:Str},names.lookup x=some .free->env.kindOf x=some .cell->
  (names.map fun(n,k)=>if(k==NameKind.free&&env.scope.kind== .function&&env.kindOf n==some .cell) then(n,NameKind.cell) else(n,k)).lookup x=some .cell
 | [],_,h,_=>by simp at h
 |(n,k)::r,x,h,hc=>by
  have O:= @jJ env M r x;show List.lookup x ((if(k==NameKind.free&&env.scope.kind== .function&&env.kindOf n==some .cell)=true then(n,NameKind.cell) else(n,k))::_)=_
  cases hx:x==n with
  |true=>
   simp only [uT,hx] at h;cases h;have L:x=n:=beq_iff_eq.mp hx;subst L;rw [if_pos (by rw [M,hc];rfl)]
   simp [uT]
  |false=>
   simp only [uT,hx] at h;by_cases B:(k==NameKind.free&&env.scope.kind== .function&&env.kindOf n==some .cell)=true
   ·rw [if_pos B];simp only [uT,hx];exact O h hc
   ·rw [if_neg B];simp only [uT,hx];exact O h hc
theorem Ju {env:Env}:∀{names:List (Str×NameKind)}{x:Str},(∀y∈names,y.2≠ .cell)->
  ((names.map fun(n,k)=>if(k==NameKind.free&&env.scope.kind== .function&&env.kindOf n==some .cell) then(n,NameKind.cell) else(n,k)).lookup x=some .cell∨
   (names.map fun(n,k)=>if(k==NameKind.free&&env.scope.kind== .function&&env.kindOf n==some .cell) then(n,NameKind.cell) else(n,k)).lookup x=some .free)->(x,NameKind.free)∈names
 | [],_,_,h=>by simp at h
 |(n,k)::r,x,hn,h=>by
  have O:= @Ju env r x (fun y U=>hn y (u4 _ U));have g:List.lookup x ((if(k==NameKind.free&&env.scope.kind== .function&&env.kindOf n==some .cell)=true then(n,NameKind.cell) else(n,k))::(r.map fun(n,k)=>if(k==NameKind.free&&env.scope.kind== .function&&env.kindOf n==some .cell) then(n,NameKind.cell) else(n,k)))=some .cell∨
   List.lookup x ((if(k==NameKind.free&&env.scope.kind== .function&&env.kindOf n==some .cell)=true then(n,NameKind.cell) else(n,k))::(r.map fun(n,k)=>if(k==NameKind.free&&env.scope.kind== .function&&env.kindOf n==some .cell) then(n,NameKind.cell) else(n,k)))=some .free:=h
  have M:k≠ .cell:=hn (n,k) u5;by_cases L:(k==NameKind.free&&env.scope.kind== .function&&env.kindOf n==some .cell)=true
  ·rw [if_pos L] at g;have hk:k= .free:=by
    rw [Bool.and_eq_true,Bool.and_eq_true] at L
    simpa using L.1.1
   subst hk;cases hx:x==n with
   |true=>
    have B:x=n:=beq_iff_eq.mp hx;subst B;exact u5
   |false=>
    simp only [uT,hx] at g;exact u4 _ (O g)
  ·rw [if_neg L] at g;cases hx:x==n with
   |true=>
    have B:x=n:=beq_iff_eq.mp hx;subst B;simp only [uT,hx] at g;rcases g with g|g
    ·exact absurd (uo g) M
    ·rw [show k=NameKind.free from uo g]
     exact u5
   |false=>
    simp only [uT,hx] at g;exact u4 _ (O g)
abbrev blk (X:Cx)(scope:Scope)(Nb:List Str)(cl:List (Str×Addr))(C:Addr)(s₀:Shared)(H₀:Hp)(fp:List Addr)(pn:List (Addr×Obj)):Cx:=
 {X with N:=Nb,s₀:=s₀,H₀:=H₀,env:=compEnvC scope cl C X.env,outer:=X.stack,ex:=fp,fn:=fun _=>false,pn:=pn,xe:=fun _ _=>False}
structure LcS (X:Cx)(scope:Scope)(Nb:List Str)(nt:Nat)(fr:List Nat):Prop where
 kind:scope.kind= .function
 cell:∀y∈scope.names,y.2≠ .cell
 names:∀y∈scope.names,y.2= .local->scope.names.lookup y.1=some .local
 free:∀y∈scope.names,y.2= .free->X.env.kindOf y.1=some .cell
 len:Nb.length=nt+fr.length
 fr:∀(k j:Nat) (x:Str),fr[k]? =some j->Nb[nt+k]? =some x->X.N[j]? =some x/\scope.names.lookup x=some .free
def sigB (nt:Nat)(fr:List Nat)(σ:St):St:=List.replicate nt none++fr.map fun j=>(σ[j]?).join
section
variable {pr:Program}{wo:World}{ar:Around}{RR:Result->Shared->Prop}{st:Shared}
abbrev nb (pr:Program)(wo:World)(ar:Around)(en:Env)(RR:Result->Shared->Prop):Value->Shared->Prop:=notedBy (model pr wo) ar en fun x t=>RR (.error x) t
abbrev tsts (en:Env)(cs:List Expr):Sem Bool:=forIn cs true fun c b=>if b=true then do let y<-isTrue c en (eval c en);pure (ForInStep.yield y) else pure (ForInStep.yield b)
theorem compLoop_by {U tg M:Expr}{cs:List Expr}{sc:Scope}{ps:Pos}{B L:Value}{en:Env}(J:Nat->Shared->Prop)
  (O:∀k t,J k t->wpAny (model pr wo) ar (pyNext B) (fun r Y=>match r with
   |none=>RR (.ok .next) Y
   |some v=>wpAny (model pr wo) ar (letOwnedTupleGo tg B v) (fun _ t2=>wpAny (model pr wo) ar (assign tg en v) (fun _ t3=>wpAny (model pr wo) ar (tsts en cs) (fun b Z=>
     if b=true then wpAny (model pr wo) ar (eval U en) (fun x t5=>wpAny (model pr wo) ar (call (.builtin "list.append") [L,x]) (fun _ t6=>∃m,m<k/\J m t6) (nb pr wo ar en RR) t5) (nb pr wo ar en RR) Z
     else∃m,m<k/\J m Z) (nb pr wo ar en RR) t3) (nb pr wo ar en RR) t2) (nb pr wo ar en RR) Y) (nb pr wo ar en RR) t)
  (k:Nat) (h0:J k st):codeAny (model pr wo) ar (.compLoop (.ListComp U [⟨tg,M,cs,0⟩] sc ps) 0 B L en) RR st:=by
 refine codeAny_loop rfl J (fun k t hJ=> ?_) k h0;show wpAny _ ar ((compTurn (.ListComp U [⟨tg,M,cs,0⟩] sc ps) 0 B L en).onRaise fun x=>do noteFrame x en;theTreesLotGoes x) _ _ t
 rw [compTurn_list];refine wpAny_noted (wpAny_bind (wpAny_standAt (wpAny_bind (thn (O k t hJ) fun r Y q1=> ?_))));cases r with
 |none=>exact wpAny_pure q1
 |some v=>
  refine wpAny_bind (thn q1 fun _ t2 q2=>wpAny_bind (thn q2 fun _ t3 q3=>wpAny_bind (thn q3 fun b Z q4=> ?_)));cases b with
  |false=>exact wpAny_pure ⟨rfl,q4⟩
  |true=>exact wpAny_bind (wpAny_bind (thn q4 fun x t5 q5=>wpAny_bind (thn q5 fun _ t6 q6=>wpAny_pure (wpAny_pure ⟨rfl,q6⟩))))
end
def PIfs (X:Cx)(ifs:List Expr)(t:TT):Prop:=
 ∀(pins:List (Addr×Obj)) (s:Shared) (σ:St) (H:Hp) (Q:Bool->Hp->Prop),Inv X pins σ H s->t σ H Q->wpAny (model X.prog X.w) X.A (tsts X.env ifs) (TP X pins σ Q) X.xe s
def tYes:TT:=fun _ H Q=>Q true H
theorem yl {X:Cx}:PIfs X [] tYes:=fun _ _ _ H _ I h=>wpAny_tests_nil ⟨H,I,h⟩
theorem pif_one {X:Cx}{c:Expr}{t:TT}(h:PT X c t):PIfs X [c] t:=fun pins s σ H Q I B=>wpAny_tests_one (h pins s σ H Q I B)
def lcGo (D:Addr)(J:It)(g:TG)(tc:TT)(te:TE)(σb:St)(H1:Hp)(Q:VK):Prop:=
 ∃(n:Nat) (W:Nat->St->List V->Hp->Prop),n<=sizeLine/\W 0 σb [] (upd H1 D (.lst []))/\
  (∀i σ ys H,i<n->W i σ ys H->H D=some (.lst ys)->ys.length<=i->J.go i H/\∀x H',J.yld i H x H'->g x σ H' fun σ2 H2=>tc σ2 H2 fun b H3=>
   if b=true then te σ2 H3 fun y H4=>H4 D=some (.lst ys)/\W (i+1) σ2 (ys++ [y]) (upd H4 D (.lst (ys++ [y]))) else H3 D=some (.lst ys)/\W (i+1) σ2 ys H3)/\
  ∀σ ys H,W n σ ys H->H D=some (.lst ys)->J.stop n H/\Q (.ref D) H
def tLC (nt:Nat)(fr:List Nat)(wi:TI)(g:TG)(tc:TT)(te:TE):TE:=fun σ H Q=>wi σ H fun J H1=>∀D,H1 D=none->lcGo D J g tc te (sigB nt fr σ) H1 Q
section
variable {X:Cx}{scope:Scope}{Nb:List Str}{nt:Nat}{fr:List Nat}
theorem inv_blk {pins:List (Addr×Obj)}{σ:St}{H:Hp}{s:Shared}{fp:List Addr}{C:Addr}{h4:Heap}{tk:Nat}(S:LcS X scope Nb nt fr)(I:Inv X pins σ H s)(hC:C=s.heap.objs.size)
  (ad:h4.Ns C fun _=>none) (L:∀b o,s.heap.get? b=some o->h4.get? b=some o) (hf:∀b∈fp,FpOk X pins H b) (ho:∀b∈fp,∃o,s.heap.get? b=some o) (ht:0<tk:=by ac_rfl):
  Inv (blk X scope Nb (clOf X.env.cells scope.names []) C s H fp (X.pn++pins)) [] (sigB nt fr σ) H {s with heap:=h4,toks:=tk}:=by
 subst hC;have sub:∀y c,(clOf X.env.cells scope.names []).lookup y=some c->X.env.cells.lookup y=some c:=XB fun y c e=>by simp at e
 have M:∀y,(y,NameKind.free)∈scope.names->X.env.kindOf y=some .cell:=fun y hy=>S.free _ hy rfl;have aa:∀b o,s.heap.get? b=some o->b≠s.heap.objs.size:=fun b o e z=>by rw [z] at e;exact absurd (uh e) (vH _)
 have B:∀b,b≠X.env.locals->b∉X.fs->b∉frs X.stack:=fun b h1 h2 z=>(List.mem_cons.mp (I.stkSub b z)).elim h1 h2;refine⟨⟨I.ok.mod,S.kind,I.ok.glob,I.ok.blt,Nat.le_refl _,fun x y c h1 h2=>I.ok.inj x y c (sub x c h1) (sub y c h2),fun x hx=> ?_,fun x c z=>(by cases z),I.ok.hd,I.ok.frames,.inl rfl,fun b Y=> ?_,I.bs,v8 I.ok.bsz I.sz,fun b o e Y=> ?_,fun b Y=> ?_,I.stack,I.stkFree⟩,
  rfl,I.bare,Un.kept L,⟨_,ad,fun i x v e1 O e3=> ?_⟩,fun x c e=> ?_,I.hok.fresh (Nat.le_refl _),fun x c e=>I.freeC x c (sub x c e),fun p hp=> ?_,I.hok.kept L,?_,ht⟩
 ·have hm:=Ju (env:=X.env) S.cell hx;exact XW hm (I.ok.has x (.inl (M x hm)))
 ·obtain⟨o,e⟩:=ho b Y;exact⟨aa b o e,fun x c e'=>(hf b Y).2.2.2.2.1 x c (sub x c e')⟩
 ·rcases(hf b Y).2.2.2.1 with z|z
  ·exact I.ok.noex b o e z
  ·exact absurd (Nat.lt_of_lt_of_le (uh e) (v8 I.ok.bsz z)) (vH _)
 ·exact B b (hf b Y).2.1 (hf b Y).2.2.1
 ·
  have hi:nt<=i:=by
   rcases uZ i nt with z|z
   ·unfold sigB at O;rw [v7 (by simpa using z),List.getElem?_replicate] at O
    split at O<;>cases O
   ·exact z
  obtain⟨k,rfl⟩:∃k,i=nt+k:=⟨i-nt,by omega⟩
  unfold sigB at O;rw [vB (by simp)] at O
  simp only [List.length_replicate,Nat.add_sub_cancel_left,uj] at O;cases ej:fr[k]? with
  |none=>rw [ej] at O;cases O
  |some j=>
   rw [ej] at O;have U:(σ[j]?).join=some v:=uo O;have ab:σ[j]? =some (some v):=by
    cases q:σ[j]? with
    |none=>rw [q] at U;cases U
    |some z=>rw [q] at U;exact congrArg some U
   obtain⟨n1,n2⟩:=S.fr k j x ej e1;have kx:X.env.kindOf x=some .cell:=M x (vD n2);obtain⟨m,hn,hl⟩:=I.loc;obtain⟨u,r,l⟩:=hl j x v n1 ab (.inr (.inl kx));refine⟨u,r,.inr ⟨.inl (jJ I.ok.kind n2 kx),?_⟩⟩;rcases l with⟨z,_⟩|⟨_,c,ec,Z⟩
   ·rw [kx] at z;cases z
   ·obtain⟨c',ac⟩:=XW (cells:=X.env.cells) (cs:= []) (vD n2) ⟨c,ec⟩;have:=sub x c' ac;rw [ec] at this;cases this;obtain⟨o,q,d⟩:=Z;exact⟨c,ac,o,L c o q,d⟩
 ·obtain⟨v,o,q,d⟩:=I.cell x c (sub x c e);exact⟨v,o,L c o q,d⟩
 ·have ae:p∈X.pn++pins:=by simpa using hp
  obtain⟨e,n,ne,nf,d⟩:=I.pin p ae;exact⟨L _ _ e,n,aa _ _ e,B _ ne nf,d⟩
 ·show(sigB nt fr σ).length=Nb.length;unfold sigB;rw [S.len];simp
theorem lc_core {tg U ag:Expr}{ah:List Expr}{wi:TI}{g:TG}{tc:TT}{te:TE}{pos:Pos}{R:Value->Addr->Result->Shared->Prop}{pins:List (Addr×Obj)}{s:Shared}{σ:St}{H:Hp}{Q:VK}(S:LcS X scope Nb nt fr)(ai:X.calm=true)(hi:PI X tg U wi)
  (hg:∀cl C s₀ H₀ fp pn,PG (blk X scope Nb cl C s₀ H₀ fp pn) tg g) (hc:∀cl C s₀ H₀ fp pn,PIfs (blk X scope Nb cl C s₀ H₀ fp pn) ah tc) (he:∀cl C s₀ H₀ fp pn,PE (blk X scope Nb cl C s₀ H₀ fp pn) ag te)
  (I:Inv X pins σ H s) (h:tLC nt fr wi g tc te σ H Q)
  (hR:∀(D C:Addr) (H':Hp) (s1:Shared) (m:Str->Option Value),Inv X pins σ H' s1->s1.heap.Ns C m->FpOk X pins H' C->Q (.ref D) H'->R (.ref D) C (.ok .next) s1):
  wpAny (model X.prog X.w) X.A (eval U X.env) (fun x s₁=>wpAny (model X.prog X.w) X.A (pyIter x) (fun it s₂=>wpAny (model X.prog X.w) X.A (newList []) (fun ao s₃=>
   wpAny (model X.prog X.w) X.A (newFunctionEnv scope X.env.globals (clOf X.env.cells scope.names []) [] X.env.qual none .none (some X.env)) (fun ad s₄=>
    codeAny (model X.prog X.w) X.A (.compStart (.ListComp ag [⟨tg,U,ah,0⟩] scope pos) 0 it ao {ad with scope:=relabel scope X.env}) (R ao ad.locals) s₄) X.xe s₃) X.xe s₂) X.xe s₁) X.xe s:=by
 refine thn (hi pins s σ H _ I h) fun v s1 h1=>thn h1 fun aM s2 h2=> ?_;obtain⟨it,fp,tn,J,H2,e,I2,T,aj,f2,q2⟩:=h2;subst e;have ap:H2 s2.heap.objs.size=none:=I2.hok.fresh (Nat.le_refl _);obtain⟨n,W,hn,w0,step,az⟩:=q2 _ ap;generalize hD:s2.heap.objs.size=D at*;refine uJ ?_;rw [hD];have I3:Inv X pins σ (upd H2 D (.lst [])) {s2 with heap:=s2.heap.push {cls:= .type "list",data:= .seq ([]:List Value).toArray}}:=by
  have:=I2.lnew (ys:= []) (its:= []) (t':=s2.toks) .nil (uv _);rw [hD] at this;exact this
 refine wpAny_newFunctionEnv S.cell (by intro y hy;simp at hy) (fun h4 aa ak=> ?_) S.kind
 dsimp only at aa ak⊢;generalize aq:s2.heap.push {cls:= .type "list",dict:=none,data:= .seq ([]:List Value).toArray}=M at aa ak I3⊢;have hC:M.objs.size=D+1:=by rw [<-aq,vw,hD]
 have ab:∀b o,M.get? b=some o->h4.get? b=some o:=fun b o e=>ak.extBut b o (uy (uh e)) (u7 _ e);have O:∀b o,s2.heap.get? b=some o->M.get? b=some o:=fun b o e=>by rw [<-aq];exact u7 _ e
 have al:∀b∈fp,∃o,s2.heap.get? b=some o:=fun b B=>let⟨o,e,_⟩:=T.obj _ _ aj b B;⟨o,e⟩;have aA:∀b∈fp,b≠D:=fun b B z=>by
  obtain⟨o,e⟩:=al b B;have q:=uh e;rw [z,hD] at q;exact vH _ q
 have f3:∀b∈fp,FpOk X pins (upd H2 D (.lst [])) b:=fun b B=>⟨by rw [qi (aA b B)];exact(f2 b B).1,(f2 b B).2⟩
 have IB:=inv_blk (C:=M.objs.size) (h4:=h4) (tk:=s2.toks+([]:List (Str×Value)).length) (fp:=fp) S I3 rfl aa ab f3 fun b B=>let⟨o,e⟩:=al b B;⟨o,O b o e⟩;generalize L:blk X scope Nb (clOf X.env.cells scope.names []) M.objs.size {s2 with heap:=M} (upd H2 D (.lst [])) fp (X.pn++pins)=Y at IB
 have gB:=hg (clOf X.env.cells scope.names []) M.objs.size {s2 with heap:=M} (upd H2 D (.lst [])) fp (X.pn++pins)
 have cB:=hc (clOf X.env.cells scope.names []) M.objs.size {s2 with heap:=M} (upd H2 D (.lst [])) fp (X.pn++pins)
 have eB:=he (clOf X.env.cells scope.names []) M.objs.size {s2 with heap:=M} (upd H2 D (.lst [])) fp (X.pn++pins)
 rw [L] at gB cB eB;have xP:Y.prog=X.prog:=by rw [<-L]
 have xW:Y.w=X.w:=by rw [<-L]
 have xK:Y.K=X.K:=by rw [<-L]
 have xA:Y.A=X.A:=by rw [<-L]
 have xC:Y.calm=true:=by rw [<-L];exact ai
 have xE:Y.env=compEnvC scope (clOf X.env.cells scope.names []) M.objs.size X.env:=by rw [<-L]
 have xX:Y.xe=fun _ _=>False:=by rw [<-L]
 have ac:∀{H':Hp},(∀b∈fp,H' b=none)->∀b∈fp,FpOk Y [] H' b:=fun hn b B=>by
  obtain⟨g1,g2,g3,g4,g5,g6⟩:=f2 b B;obtain⟨o,e⟩:=al b B;subst L;refine⟨hn b B,fun z=> ?_,fun z=>(List.mem_cons.mp (I2.stkSub b z)).elim g2 g3,.inl B,fun x c ec=>g5 x c (XB (fun y c e=>by simp at e) x c ec),fun p hp=>g6 p (by simpa using hp)⟩
  have Z:=uh (O b o e);have z':b=M.objs.size:=z;rw [z'] at Z;exact vH _ Z
 have ae:∀s5:Shared,s5={s2 with heap:=h4,toks:=s2.toks+([]:List (Str×Value)).length}->
   codeAny (model X.prog X.w) X.A (.compLoop (.ListComp ag [⟨tg,U,ah,0⟩] scope pos) 0 (.ref it) (.ref D) (compEnvC scope (clOf X.env.cells scope.names []) M.objs.size X.env))
    (R (.ref D) M.objs.size) s5:=by
  rintro s5 rfl;refine compLoop_by (fun k s'=>∃i σ' ys H',Inv Y [] σ' H' s'/\tn i s'.heap/\(∀b∈fp,H' b=none)/\H' D=some (.lst ys)/\i<=n/\k=n-i/\ys.length<=i/\W i σ' ys H') ?_ n
   ⟨0,sigB nt fr σ,[],_,IB,T.keep _ _ _ aj fun b B o e=>ab b o (O b o e),fun b B=>(f3 b B).1,qe,uv _,rfl,Nat.le_refl _,w0⟩
  rintro k s' ⟨i,σ',ys,H',I',au,av,aw,aB,rfl,aC,w'⟩;rcases uZ i n with Z|aD
  ·obtain⟨go,next⟩:=step i σ' ys H' Z w' aw aC;have ti:=T.item Y xP xW xK xC i [] s' σ' H' (fun _ _=>False) I' (ac av) au go;rw [xA] at ti;refine vc ti (fun r s1 h1=> ?_) fun _ _ z=>z.elim;obtain⟨u,rfl,h1⟩:=h1;refine vc h1 (fun _ ax aE=> ?_) fun _ _ z=>z.elim;obtain⟨x,H5,I5,r5,y5,am,aF⟩:=aE;have aG:=I5.pinned (ac aF) (T.obj _ _ am);have ga:=gB _ ax σ' H5 x u _ aG r5 (next x H5 y5);rw [xP,xW,xA,xE,xX] at ga;refine vc ga (fun _ s3 aH=> ?_) fun _ _ z=>z.elim;obtain⟨σ6,H6,I6,q6⟩:=aH;have ca:=cB _ s3 σ6 H6 _ I6 q6;rw [xP,xW,xA,xE,xX] at ca;refine vc ca (fun ok s4 aI=> ?_) fun _ _ z=>z.elim;obtain⟨H7,I7,q7⟩:=aI;have af:∀{σ8:St}{H8:Hp}{s8:Shared},Inv Y ([]++pinsAt fp ax.heap) σ8 H8 s8->Inv Y [] σ8 H8 s8/\tn (i+1) s8.heap/\∀b∈fp,H8 b=none:=fun{σ8 H8 s8} I8=>by
    refine⟨I8.unpinned,T.keep _ _ _ am fun b B o e=>(I8.pin (b,o) (uu _ (uu _ (Yq B e)))).1,fun b B=> ?_⟩;obtain⟨o,e,d⟩:=T.obj _ _ am b B;exact(I8.pin (b,o) (uu _ (uu _ (Yq B e)))).2.1
   cases ok with
   |false=>
    rw [if_neg ug] at q7⊢;obtain⟨b1,b2,b3⟩:=af I7;exact⟨n-(i+1),by omega,i+1,σ6,ys,H7,b1,b2,b3,q7.1,Z,rfl,by omega,q7.2⟩
   |true=>
    rw [if_pos rfl] at q7⊢;have ea:=eB _ s4 σ6 H7 _ I7 q7;rw [xP,xW,xA,xE,xX] at ea;refine vc ea (fun y s5 h5=> ?_) fun _ _ z=>z.elim;obtain⟨yv,H8,I8,r8,aJ,q8⟩:=h5;have ma:=Q6 (X:=Y) _ s5 σ6 H8 (.ref D) [yv] (.ref D) [y] (fun _ H9=>H9=upd H8 D (.lst (ys++ [yv]))) I8 rfl (.cons r8 .nil) ⟨D,ys,yv,rfl,rfl,aJ,by omega,rfl⟩
    rw [xP,xW,xA,xX] at ma;refine vc ma (fun _ s6 h6=> ?_) fun _ _ z=>z.elim;obtain⟨_,H9,I9,_,rfl⟩:=h6;obtain⟨b1,b2,b3⟩:=af I9;exact⟨n-(i+1),by omega,i+1,σ6,ys++ [yv],_,b1,b2,b3,qe,Z,rfl,by rw [ui,uR];omega,q8⟩
  ·have ay:i=n:=Nat.le_antisymm aB aD;subst ay;obtain⟨stop,hq⟩:=az σ' ys H' w' aw;have td:=T.done Y xP xW xK xC i [] s' σ' H' (fun _ _=>False) I' (ac av) au stop;rw [xA] at td;refine vc td (fun r s1 h1=> ?_) fun _ _ z=>z.elim;obtain⟨rfl,I6⟩:=h1;obtain⟨m,hm,_⟩:=id I6.loc;rw [xE] at hm;have aK:H' M.objs.size=none:=by have:=I6.free;rw [xE] at this;exact this
   have u6:Un (frs X.stack) fp (upd H2 D (.lst [])) H' M s1.heap:=by have:=I6.base;subst L;exact this
   have u2:Un (frs X.stack) fp H2 (upd H2 D (.lst [])) s2.heap M:=Un.laid (fun b o e=>O b o e) (by rw [hD];exact Nat.le_refl _) ap
   have aL:s1.os=s2.os:=by have:=I6.os;subst L;exact this
   have hok:HOk X.prog X.w H' s1.heap:=by
    have:=I6.hok;subst L;exact this
   refine hR D M.objs.size H' s1 m (I2.call' (s':=s1) (ch:=fp) aL (u2.trans u6) hok I6.bare fun b B=> ?_) hm (I2.fpOk (by omega) aK) hq
   obtain⟨g1,g2,g3,g4,g5,g6⟩:=f2 b B;exact⟨g4,g2,g5,g6⟩
 exact codeAny_compStart_list (ae _ rfl) (T.self _ 0 _ _ _ (T.keep _ _ _ aj fun b B o e=>ab b o (O b o e)) (ae _ rfl))
theorem JJ {tg B O:Expr}{U:List Expr}{wi:TI}{g:TG}{tc:TT}{te:TE}{pos:Pos}(S:LcS X scope Nb nt fr)(L:X.calm=true)(hi:PI X tg B wi)
  (hg:∀cl C s₀ H₀ fp pn,PG (blk X scope Nb cl C s₀ H₀ fp pn) tg g) (hc:∀cl C s₀ H₀ fp pn,PIfs (blk X scope Nb cl C s₀ H₀ fp pn) U tc) (he:∀cl C s₀ H₀ fp pn,PE (blk X scope Nb cl C s₀ H₀ fp pn) O te)
  (hs:∀x,foldedSetIterable B X.env x=pure x:=by intro _;rfl):PE X (.ListComp O [⟨tg,B,U,0⟩] scope pos) (tLC nt fr wi g tc te):=by
 intro pins s σ H Q I h;have M:closureFor scope X.env=pure (clOf X.env.cells scope.names []):=closure_ok fun y hy=>I.ok.has y (.inl (S.free _ hy rfl));rw [eval_ListComp];refine wpAny_comprehension_free (use:=none) rfl hs M S.kind S.names ?_;refine lc_core (R:=fun Y C=>compPost (model X.prog X.w) X.A X.xe none (EP X pins σ Q) Y C) S L hi hg hc he I h fun D C H' s1 m I1 hm fc q=> ?_;obtain⟨f0,f1,f2,f3,f4,f5⟩:=fc;exact⟨m,hm,fun h' Z=>⟨.ref D,H',I1.turned (t':=s1.toks) (it:=C) (fun b o hb e=>(Z.2 b hb).trans e) f0 f1 f3 f4 f5,rfl,q⟩⟩
end
theorem lcs0 {X:Cx}{sc:Scope}{x:Str}(hk:sc.kind= .function:=by rfl)(B:∀y∈sc.names,y.2≠ .cell:=by decide+kernel)(hn:∀y∈sc.names,y.2= .local->sc.names.lookup y.1=some .local:=by decide+kernel)
  (L:∀y∈sc.names,y.2≠ .free:=by decide+kernel):LcS X sc [x] 1 []:=⟨hk,B,hn,fun y M e=>absurd e (L y M),rfl,fun k j x h=>by simp at h⟩
theorem lcsN {X:Cx}{sc:Scope}{Nb:List Str}{nt:Nat}{fr:List Nat}(B:Scope)(Nf:List Str)(L:X.env.scope=B:=by rfl)(M:X.N=Nf:=by rfl)(hk:sc.kind= .function:=by rfl)(O:∀y∈sc.names,y.2≠ .cell:=by decide+kernel)
  (hn:∀y∈sc.names,y.2= .local->sc.names.lookup y.1=some .local:=by decide+kernel) (U:∀y∈sc.names,y.2= .free->B.names.lookup y.1=some .cell:=by decide+kernel) (Y:Nb.length=nt+fr.length:=by rfl)
  (hz:((fr.zip (Nb.drop nt)).all fun p=>decide (Nf[p.1]? =some p.2)&&decide (sc.names.lookup p.2=some .free))=true:=by decide+kernel):LcS X sc Nb nt fr:=by
 subst L M;refine⟨hk,O,hn,U,Y,fun k j x h1 h2=> ?_⟩;have hm:(fr.zip (Nb.drop nt))[k]? =some (j,x):=by
  rw [U7];exact⟨h1,by rw [List.getElem?_drop];exact h2⟩
 have q:=List.all_eq_true.mp hz _ (ud hm);rw [Bool.and_eq_true] at q;exact⟨uk q.1,uk q.2⟩
theorem lc_str {z:Str}{D:Addr}{H1:Hp}{te:TE}{tl:St}{Q:VK}(f:Nat->V)(hz:z.length<=sizeLine)(O:H1 D=none)
  (L:∀(i c:Nat) H (R:VK),z.cps[i]? =some c->Same H1 H->R (f c) H->te (some (.str ⟨#[c]⟩)::tl) H R)
  (Y:∀H',Same H1 H'->H' D=some (.lst (z.cps.toList.map f))->Q (.ref D) H'):lcGo D (Its z) (JB 0) tYes te (none::tl) H1 Q:=by
 refine⟨z.cps.size,fun i σ ys H=>(∃w,σ=w::tl)/\ys=(z.cps.toList.take i).map f/\Same H1 H,hz,⟨⟨none,rfl⟩,rfl,qb O _⟩,?_,?_⟩
 ·rintro i σ ys H hi ⟨⟨w,rfl⟩,rfl,B⟩ M Z;refine⟨hi,?_⟩;rintro x H' ⟨rfl,c,U,rfl⟩;dsimp only [JB,tYes,List.set];rw [if_pos rfl];refine L i c H' _ U B ⟨M,⟨some (.str ⟨#[c]⟩),rfl⟩,?_,?_⟩
  ·rw [uE,show z.cps.toList[i]? =some c by simpa using U]
   simp
  ·intro b o e;rw [qi (qh e O)];exact B b o e
 ·rintro σ ys H ⟨_,rfl,B⟩ M;refine⟨rfl,Y H B ?_⟩;rw [M,uL (by simp)]
mutual
def Is (H:Hp):D->V->Prop
 | .non,v=>v= .non
 | .bl b,v=>v= .bl b
 | .int i,v=>v= .int i
 | .str z,v=>v= .str z/\z.length<=sizeLine
 | .lst,v=>∃a xs,v= .ref a/\H a=some (.lst xs)
 | .dct,v=>∃a kvs,v= .ref a/\H a=some (.dK kvs)
 | .tup xs,v=>∃a vs,v= .ref a/\H a=some (.tup vs)/\IsL H xs vs
def IsL (H:Hp):List D->List V->Prop
 | [],vs=>vs= []
 |x::xs,vs=>∃v r,vs=v::r/\Is H x v/\IsL H xs r
end
structure Tk (H H':Hp):Prop where
 tup:∀b xs,H b=some (.tup xs)->H' b=some (.tup xs)
 lst:∀b xs,H b=some (.lst xs)->∃ys,H' b=some (.lst ys)
 dct:∀b xs,H b=some (.dK xs)->∃ys,H' b=some (.dK ys)
theorem Same.tk {H H':Hp}(s:Same H H'):Tk H H':=⟨fun b xs e=>s b _ e,fun b xs e=>⟨xs,s b _ e⟩,fun b xs e=>⟨xs,s b _ e⟩⟩
theorem Tk.refl (H:Hp):Tk H H:=(Same.refl H).tk
theorem Tk.trans {H H1 H2:Hp}(a:Tk H H1)(b:Tk H1 H2):Tk H H2:=⟨fun c xs e=>b.tup c xs (a.tup c xs e),fun c xs e=>let⟨ys,e1⟩:=a.lst c xs e;b.lst c ys e1,fun c xs e=>let⟨ys,e1⟩:=a.dct c xs e;b.dct c ys e1⟩
theorem Kept.tk {p:Addr}{H H':Hp}{xs ys:List V}(k:Kept p H H')(h:H p=some (.lst xs))(h':H' p=some (.lst ys)):Tk H H':=by
 refine⟨fun b zs e=>k b _ e fun z=> ?_,fun b zs e=> ?_,fun b zs e=>⟨zs,k b _ e fun z=> ?_⟩⟩
 ·rw [z,h] at e;cases e
 ·by_cases z:b=p
  ·exact⟨ys,z▸h'⟩
  ·exact⟨zs,k b _ e z⟩
 ·rw [z,h] at e;cases e
mutual
theorem Is.mono {H H':Hp}(t:Tk H H'):∀{d:D}{v:V},Is H d v->Is H' d v
 | .non,_,h=>h
 | .bl _,_,h=>h
 | .int _,_,h=>h
 | .str _,_,h=>h
 | .lst,_,h=>by
  obtain⟨a,vs,e,ha⟩:=h;obtain⟨ys,q⟩:=t.lst a vs ha;exact⟨a,ys,e,q⟩
 | .dct,_,h=>by
  obtain⟨a,vs,e,ha⟩:=h;obtain⟨ys,q⟩:=t.dct a vs ha;exact⟨a,ys,e,q⟩
 | .tup xs,_,h=>by
  obtain⟨a,vs,e,ha,B⟩:=h;exact⟨a,vs,e,t.tup a vs ha,IsL.mono t B⟩
theorem IsL.mono {H H':Hp}(t:Tk H H'):∀{ds:List D}{vs:List V},IsL H ds vs->IsL H' ds vs
 | [],_,h=>h
 |_::_,_,h=>by
  obtain⟨v,r,e,h1,h2⟩:=h;exact⟨v,r,e,Is.mono t h1,IsL.mono t h2⟩
end
theorem IsL.length {H:Hp}:∀{ds:List D}{vs:List V},IsL H ds vs->vs.length=ds.length
 | [],_,h=>by cases(show _= [] from h);rfl
 |_::_,_,h=>by
  obtain⟨v,r,rfl,_,h2⟩:=h;rw [ul,ul,IsL.length h2]
theorem IsL.get {H:Hp}:∀{ds:List D}{vs:List V}{i:Nat}{d:D},IsL H ds vs->ds[i]? =some d->∃v,vs[i]? =some v/\Is H d v
 | [],_,_,_,_,e=>by simp at e
 |x::_,_,0,d,h,e=>by
  obtain⟨v,r,rfl,h1,_⟩:=h;have:x=d:=by simpa using e
  exact⟨v,rfl,this▸h1⟩
 |_::_,_,i+1,d,h,e=>by
  obtain⟨v,r,rfl,_,h2⟩:=h;obtain⟨u,B,L⟩:=IsL.get (i:=i) (d:=d) h2 (by simpa using e)
  exact⟨u,by simpa using B,L⟩
theorem IsL.append {H:Hp}:∀{ds es:List D}{vs us:List V},IsL H ds vs->IsL H es us->IsL H (ds++es) (vs++us)
 | [],_,_,_,h,k=>by cases(show _= [] from h);exact k
 |_::_,_,_,_,h,k=>by
  obtain⟨v,r,rfl,h1,h2⟩:=h;exact⟨v,_,rfl,h1,IsL.append h2 k⟩
theorem IsL.take {H:Hp}:∀{ds:List D}{vs:List V} (n:Nat),IsL H ds vs->IsL H (ds.take n) (vs.take n)
 |_,_,0,_=>by simp [IsL]
 | [],_,n+1,h=>by cases(show _= [] from h);simp [IsL]
 |_::_,_,n+1,h=>by
  obtain⟨v,r,rfl,h1,h2⟩:=h;exact⟨v,_,rfl,h1,IsL.take n h2⟩
theorem IsL.drop {H:Hp}:∀{ds:List D}{vs:List V} (n:Nat),IsL H ds vs->IsL H (ds.drop n) (vs.drop n)
 |_,_,0,h=>h
 | [],_,n+1,h=>by cases(show _= [] from h);simp [IsL]
 |_::_,_,n+1,h=>by
  obtain⟨v,r,rfl,h1,h2⟩:=h;exact IsL.drop n h2
theorem IsL.one {H:Hp}{d:D}{v:V}(h:Is H d v):IsL H [d] [v]:=⟨v,[],rfl,h,rfl⟩
theorem Is.new {H:Hp}{ds:List D}{vs:List V}{p:Addr}(h:IsL H ds vs)(B:H p=none):Is (upd H p (.tup vs)) (.tup ds) (.ref p):=
 ⟨p,vs,rfl,qe,h.mono (qb B _).tk⟩
def tyD:D->Value
 | .non=> .type "NoneType"
 | .bl _=> .type "bool"
 | .int _=> .type "int"
 | .str _=> .type "str"
 | .lst=> .type "list"
 | .dct=> .type "dict"
 | .tup _=> .type "tuple"
theorem Is.ty {K:PySem.W.Frag}{H:Hp}{d:D}{v:V}(h:Is H d v):TyOf K H v (tyD d):=by
 cases d with
 |non=>cases(show v= .non from h);exact .non
 |bl b=>cases(show v= .bl b from h);exact .bl b
 |int i=>cases(show v= .int i from h);exact .int i
 |str z=>
  obtain⟨rfl,_⟩:=h;exact .str z
 |lst=>
  obtain⟨a,vs,rfl,ha⟩:=h;exact .lst ha
 |dct=>
  obtain⟨a,vs,rfl,ha⟩:=h;exact .dK ha
 |tup xs=>
  obtain⟨a,vs,rfl,ha,_⟩:=h;exact .tup ha
section
variable {X:Cx}
theorem op_gt_str:OpR X (compareOp .Gt) (fun x y H Q=>∃i j,x= .str i/\y= .str j/\Q (.bl (decide (j.cps.toList<i.cps.toList))) H):=by
 intro pins s σ H x y v u Q I B L h;obtain⟨i,j,rfl,rfl,q⟩:=h;obtain⟨t,rfl⟩:=B;obtain⟨t',rfl⟩:=L;exact PySem.P.gt_str (qK I q rfl)
theorem call_sumL (M:X.calm=true):yN X (.builtin "sum") (fun xs H Q=>∃(p:Addr) (ns:List Int),xs= [.ref p]/\SqL X.K H p (ns.map V.int)/\Q (.int ns.sum) H):=by
 intro pins s σ H xs us Q I r h;obtain⟨p,ns,rfl,O,q⟩:=h;obtain⟨u,rfl,U⟩:=QW r;cases U;obtain⟨its,Y,pl,hz⟩:=I.list O;have hi:IntsAre its ns:=intsAre_of Y;obtain⟨ys,L⟩:=hi.allInts.items;have B:s.heap.IsList p (intItems ys):=L▸pl.isList;refine uH (n:=1) I.tk (sum_intListG (I.ok.hd M) B fun h' tk t' hk=> ?_);intro htk;have Z:ns=ys.toList.map (·.1):=by
  have q1:=hi.numsOf;rw [<-nums_intItems,<-L];exact(show numsOf its.toArray.toList=ns from q1).symm
 have e2:preSum (numAt ys) ys.size=ns.sum:=by
  rw [preSum_eq,uL (by simp),Z]
 rw [e2];exact⟨.int ns.sum,H,I.kept hk,⟨t',rfl⟩,q⟩
def rCatG (K:PySem.W.Frag):R2:=fun x y H Q=>∃a b xs ys,x= .ref a/\y= .ref b/\SqT K H a xs/\SqT K H b ys/\xs.length+ys.length<=sizeLine/\
 (xs= []->Q (.ref b) H)/\(xs≠ []->ys= []->Q (.ref a) H)/\(xs≠ []->ys≠ []->∀p,H p=none->Q (.ref p) (upd H p (.tup (xs++ys))))
theorem jg:OpR X (binaryOp .Add) (rCatG X.K):=by
 intro pins s σ H x y v u Q I B L h;obtain⟨a,b,xs,ys,rfl,rfl,ha,M,hz,q0,q1,q2⟩:=h;by_cases hx:xs= []
 ·cases B;cases L;obtain⟨its,r1,p1,_⟩:=I.tuple ha;obtain⟨O,r2,p2,_⟩:=I.tuple M;subst hx;cases r1;obtain⟨⟨c1,d1,t1,l1⟩,o1,U,n1,Y⟩:=id p1;obtain⟨⟨c2,d2,t2,l2⟩,o2,Z,n2,f2⟩:=id p2;simp only at U Y Z f2;subst U Y Z f2;exact concat_meets p1.typeIs p2.typeIs noFill_tuple_add seq_tuple_add PySem.F.slot_tuple_add UO (UG _ _) (tuple_addW0 a b _ _ n1 n2 d1 d2 l1 l2 rfl) ⟨o1,o2,⟨.ref b,H,I,rfl,q0 rfl⟩⟩
 ·exact op_catT pins s σ H (.ref a) (.ref b) v u Q I B L ⟨a,b,xs,ys,rfl,rfl,ha,M,hx,hz,q1 hx,q2 hx⟩
end
theorem jl {K:PySem.W.Frag}{H:Hp}{ds es:List D}{v u:V}{Q:VK}(O:Is H (.tup ds) v)(hu:Is H (.tup es) u)(hz:ds.length+es.length<=sizeLine)(q:∀w H',Same H H'->Is H' (.tup (ds++es)) w->Q w H'):rCatG K v u H Q:=by
 obtain⟨a,vs,rfl,ha,B⟩:=O;obtain⟨b,us,rfl,L,hm⟩:=hu;have U:=B.length;have Y:=hm.length;refine⟨a,b,vs,us,rfl,rfl,SqT.of ha,SqT.of L,by omega,fun h=> ?_,fun _ h=> ?_,fun _ _ p M=> ?_⟩
 ·subst h;have:ds= []:=List.eq_nil_of_length_eq_zero U.symm;subst this;exact q _ H (Same.refl _) ⟨b,us,rfl,L,hm⟩
 ·subst h;have:es= []:=List.eq_nil_of_length_eq_zero Y.symm;subst this;exact q _ H (Same.refl _) ⟨a,vs,rfl,ha,by rw [vL];exact B⟩
 ·exact q _ _ (qb M _) (Is.new (B.append hm) M)
theorem Tk.updL {H:Hp}{p:Addr}{xs ys:List V}(h:H p=some (.lst xs)):Tk H (upd H p (.lst ys)):=by
 refine⟨fun b zs e=> ?_,fun b zs e=> ?_,fun b zs e=>⟨zs,?_⟩⟩
 ·rw [qi (fun z=>by rw [z,h] at e;cases e)];exact e
 ·by_cases z:b=p
  ·exact⟨ys,by rw [z];exact qe⟩
  ·exact⟨zs,by rw [qi z];exact e⟩
 ·rw [qi (fun z=>by rw [z,h] at e;cases e)];exact e
theorem lc_data {J:It}{A:Addr}{H1:Hp}{te:TE}{tl:St}{Q:VK}{ds:List D}(f:D->D)(hn:ds.length<=sizeLine)(hA:H1 A=none)
  (Y:∀i H,Same H1 H->i<ds.length->J.go i H) (hy:∀i H x H' d,Same H1 H->ds[i]? =some d->J.yld i H x H'->H'=H/\Is H d x) (L:∀H,Same H1 H->J.stop ds.length H)
  (Z:∀d x H (R:VK),d∈ds->Same H1 H->Is H d x->(∀y H',Same H H'->Is H' (f d) y->R y H')->te (some x::tl) H R)
  (hQ:∀H' ys,Same H1 H'->H' A=some (.lst ys)->IsL H' (ds.map f) ys->Q (.ref A) H'):lcGo A J (JB 0) tYes te (none::tl) H1 Q:=by
 refine⟨ds.length,fun i σ ys H=>(∃w,σ=w::tl)/\IsL H ((ds.take i).map f) ys/\Same H1 H,hn,⟨⟨none,rfl⟩,rfl,qb hA _⟩,?_,?_⟩
 ·rintro i σ ys H hi ⟨⟨w,rfl⟩,O,M⟩ B ab;refine⟨Y i H M hi,fun x H' y=> ?_⟩;obtain⟨rfl,hx⟩:=hy i H x H' ds[i] M (u0 hi) y;dsimp only [JB,tYes,List.set];rw [if_pos rfl];refine Z ds[i] x H' _ (uN hi) M hx fun y' H4 U aa=>⟨U _ _ B,⟨some x,rfl⟩,?_,fun b o e=> ?_⟩
  ·have t:Tk H4 (upd H4 A (.lst (ys++ [y']))):=Tk.updL (U _ _ B);have e:(ds.take (i+1)).map f=(ds.take i).map f++ [f ds[i]]:=by
    rw [uE,u0 hi,uw]
    rfl
   rw [e];exact((O.mono U.tk).mono t).append (IsL.one (aa.mono t))
  ·rw [qi (qh e hA)];exact U b o (M b o e)
 ·rintro σ ys H ⟨_,O,M⟩ B;refine⟨L H M,hQ H ys M B ?_⟩;rw [uL (Nat.le_refl _)] at O;exact O
theorem xg {K:PySem.W.Frag}{a A:Addr}{H1:Hp}{te:TE}{tl:St}{Q:VK}{ds:List D}{vs:List V}(f:D->D)(ha:H1 a=some (.tup vs))(M:IsL H1 ds vs)(hn:ds.length<=sizeLine)(U:H1 A=none)
  (L:∀d x H (R:VK),d∈ds->Same H1 H->Is H d x->(∀y H',Same H H'->Is H' (f d) y->R y H')->te (some x::tl) H R)
  (Y:∀H' ys,Same H1 H'->H' A=some (.lst ys)->IsL H' (ds.map f) ys->Q (.ref A) H'):lcGo A (Itt K a) (JB 0) tYes te (none::tl) H1 Q:=by
 have ln:=M.length;refine lc_data f hn U (fun i H B hi=>⟨vs,vs[i]'(by omega),SqT.of (B _ _ ha),u0 _⟩) (fun i H x H' d B hd y=> ?_) (fun H B=>⟨vs,SqT.of (B _ _ ha),by omega⟩) L Y
 obtain⟨rfl,y⟩:=y;obtain⟨v,Z,e2⟩:=M.get hd;have O:=y vs (SqT.of (B _ _ ha));rw [Z] at O;cases O;exact⟨rfl,e2.mono B.tk⟩
theorem lc_lstS {K:PySem.W.Frag}{a A:Addr}{H1:Hp}{te:TE}{tl:St}{Q:VK}{ds:List D}{vs:List V}(f:D->D)(ha:H1 a=some (.lst vs))(M:IsL H1 ds vs)(hn:ds.length<=sizeLine)(U:H1 A=none)
  (L:∀d x H (R:VK),d∈ds->Same H1 H->Is H d x->(∀y H',Same H H'->Is H' (f d) y->R y H')->te (some x::tl) H R)
  (Y:∀H' ys,Same H1 H'->H' A=some (.lst ys)->IsL H' (ds.map f) ys->Q (.ref A) H'):lcGo A (Itl K a) (JB 0) tYes te (none::tl) H1 Q:=by
 have ln:=M.length;refine lc_data f hn U (fun i H B hi=>⟨vs,vs[i]'(by omega),SqL.of (B _ _ ha),u0 _⟩) (fun i H x H' d B hd y=> ?_) (fun H B=>⟨vs,SqL.of (B _ _ ha),by omega⟩) L Y
 obtain⟨rfl,y⟩:=y;obtain⟨v,Z,e2⟩:=M.get hd;have O:=y vs (SqL.of (B _ _ ha));rw [Z] at O;cases O;exact⟨rfl,e2.mono B.tk⟩
theorem IsL.bls {H:Hp}:∀{bs:List Bool}{vs:List V},IsL H (bs.map D.bl) vs->vs=bs.map V.bl
 | [],_,h=>h
 |_::_,_,h=>by
  obtain⟨v,r,rfl,h1,h2⟩:=h;rw [IsL.bls h2,show v=_ from h1];rfl
theorem IsL.ints {H:Hp}:∀{ns:List Int}{vs:List V},IsL H (ns.map D.int) vs->vs=ns.map V.int
 | [],_,h=>h
 |_::_,_,h=>by
  obtain⟨v,r,rfl,h1,h2⟩:=h;rw [IsL.ints h2,show v=_ from h1];rfl
theorem ix_is {K:PySem.W.Frag}{H:Hp}{ds:List D}{v:V}{i:Int}{d:D}{Q:VK}(h:Is H (.tup ds) v)(hi:atI ds i=some d)(q:∀x,Is H d x->Q x H):rIxT K v (.int i) H Q:=by
 obtain⟨a,vs,rfl,ha,B⟩:=h;obtain⟨j,h1,h2,U,h4,Y⟩:=Xi hi;obtain⟨x,M,O⟩:=B.get h2;refine⟨a,vs,i,x,rfl,rfl,SqT.of ha,?_,q x O⟩;have ln:=B.length;unfold atI at hi⊢;rw [ln];cases e:ixN ds.length i with
 |none=>rw [e] at hi;cases hi
 |some k=>
  rw [e] at hi;obtain⟨L,_⟩:=ixN_seq e;rw [h1] at L;cases L;exact M
def inS (i j:Str):Bool:= !(Builtin.Str.occurrences j i 0 j.length 1).isEmpty
theorem mulOk_of {z:Str}{n:Int}(L:0<=n)(h1:n<=10000)(hz:z.length<=1000):MulOk z n:=by
 have M:sizeLine=16777216:=sizeLine_eq;refine⟨by rw [u8 (by omega),u8 (by omega)];rfl,fun hn _=> ?_,fun hn _=> ?_⟩
 ·have:(1000:Int)<=(2^63-1)/n:=by
   have B:(1000:Int)*n<=2^63-1:=by omega
   exact(Int.le_ediv_iff_mul_le (by omega)).mpr B
  omega
 ·unfold Builtin.Str.tooLong;refine u8 ?_;have:z.length*n.toNat<=1000*10000:=Nat.mul_le_mul hz (by omega)
  omega
theorem for_str {z:Str}{g:TG}{tb:TS}{E:Ends}{σ:St}{H:Hp}(B:Nat->St->Hp->Prop)(Y:B 0 σ H)
  (Z:∀(i c:Nat) σ H,z.cps[i]? =some c->B i σ H->g (.str ⟨#[c]⟩) σ H fun M H2=>tb {E with nx:=B (i+1),ct:=B (i+1),bk:=E.nx} M H2) (hd:∀σ H,B z.cps.size σ H->E.nx σ H):
  ∃W:Nat->Nat->St->Hp->Prop,(∃m,W 0 m σ H)/\∀i m σ H,W i m σ H->
   ((Its z).stop i H/\E.nx σ H)∨((Its z).go i H/\∃N:St->Hp->Prop,(∀O H',N O H'->∃U,U<m/\W (i+1) U O H')/\∀x H',(Its z).yld i H x H'->g x σ H' fun M H2=>tb {E with nx:=N,ct:=N,bk:=E.nx} M H2):=by
 refine⟨fun i m σ H=>m=z.cps.size-i/\i<=z.cps.size/\B i σ H,⟨z.cps.size,by simp,uv _,Y⟩,?_⟩
 rintro i m σ H ⟨rfl,hi,p⟩;by_cases L:i<z.cps.size
 ·refine .inr ⟨L,B (i+1),fun O H' p'=>⟨z.cps.size-(i+1),by omega,rfl,L,p'⟩,fun x H' y=> ?_⟩
  obtain⟨rfl,c,hc,rfl⟩:=y;exact Z i c σ _ hc p
 ·have e:i=z.cps.size:=by omega
  exact .inl ⟨e,hd σ H (e▸p)⟩
theorem IsL.unsnoc {H:Hp}:∀{ds:List D}{d:D}{vs:List V},IsL H (ds++ [d]) vs->∃us x,vs=us++ [x]/\IsL H ds us/\Is H d x
 | [],d,_,h=>by
  obtain⟨v,r,rfl,h1,h2⟩:=h;cases(show r= [] from h2)
  exact⟨[],v,rfl,rfl,h1⟩
 |e::r,d,_,h=>by
  obtain⟨v,q,rfl,h1,h2⟩:=h;obtain⟨us,x,rfl,B,h4⟩:=IsL.unsnoc h2;exact⟨v::us,x,rfl,⟨v,us,rfl,h1,B⟩,h4⟩
def isStr:D->Bool
 | .str _=>true
 |_=>false
def jz:D->Bool
 | .tup _=>true
 |_=>false
section
variable {K:PySem.W.Frag}
theorem kit_no {T U:String}{b:Bool}(h:(Value.type T==Value.type U)=false)(hm:PySem.W.kitMeta U=true)(B:(fastBuiltinMro T).map (·.contains (Value.type U))=some b):PySem.W.kitOne K (.type T) (.type U)=some b:=by
 unfold PySem.W.kitOne;rw [if_neg (by rw [h];exact ug)]
 show(if PySem.W.kitMeta U=true then PySem.W.subIn K (.type T) (.type U) else none)=some b
 rw [if_pos hm];exact B
theorem XQ {T:String}(h:(Value.type T==Value.type T)=true):PySem.W.kitOne K (.type T) (.type T)=some true:=by
 unfold PySem.W.kitOne;rw [if_pos h]
theorem kit_str (d:D):PySem.W.kitOne K (tyD d) (.type "str")=some (isStr d):=by
 cases d with
 |str z=>exact XQ (by decide)
 |_=>exact kit_no (b:=false) (by decide) (by decide+kernel) (by decide+kernel)
theorem jj (d:D):PySem.W.kitOne K (tyD d) (.type "tuple")=some (jz d):=by
 cases d with
 |tup z=>exact XQ (by decide)
 |_=>exact kit_no (b:=false) (by decide) (by decide+kernel) (by decide+kernel)
end
theorem lt_one (c k:Nat):decide ((⟨#[c]⟩:Str).cps.toList< [k])=decide (c<k):=by
 rw [uM];simp [v5]
theorem one_gt (c k:Nat):decide ([k]<(⟨#[c]⟩:Str).cps.toList)=decide (k<c):=by
 rw [uM];simp [v5]
def iTupB (K:PySem.W.Frag)(tl:TE):TI:=fun σ H R=>tl σ H fun x H1=>∃a xs,x= .ref a/\SqT K H1 a xs/\(xs.length<=sizeLine->R (Itt K a) H1)
theorem JE {X:Cx}{tg l:Expr}{tl:TE}(L:PE X l tl):PI X tg l (iTupB X.K tl):=by
 intro pins s σ H R I h;refine thn (L pins s σ H _ I h) fun v s1 ⟨x,H1,B,M,q1⟩=> ?_;obtain⟨a,xs,e,hq,q⟩:=q1;subst e;cases M;obtain⟨its,U,p,hz⟩:=B.tuple hq;refine U3 (show s1.heap.IsTuple a its.toArray from p) ?_
 refine⟨s1.heap.objs.size,[s1.heap.objs.size],_,_,H1,rfl,B.kept (t':=s1.toks) fun b o e=>u7 _ e,xT a _,⟨_,uf _ rfl,rfl,rfl⟩,fun b O=> ?_,q hz⟩;have e:b=s1.heap.objs.size:=by simpa using O
 subst e;exact B.fpOk (Nat.le_refl _) (B.hok.fresh (Nat.le_refl _))
theorem call_lenB {X:Cx}:yN X (.builtin "len") (fun xs H Q=>∃p ys,xs= [.ref p]/\(SqL X.K H p ys∨SqT X.K H p ys)/\(ys.length<=sizeLine->Q (.int ys.length) H)):=by
 intro pins s σ H xs us Q I r h;obtain⟨p,ys,e,hq,q⟩:=h;have hz:ys.length<=sizeLine:=by
  rcases hq with hq|hq
  ·exact(I.list hq).choose_spec.2.2
  ·exact(I.tuple hq).choose_spec.2.2
 exact qZ pins s σ H xs us Q I r ⟨p,ys,e,hq,q hz⟩
theorem cutV_take {xs:List V}{n:Nat}(h:n<=xs.length):cutV xs none (some (n:Int))=xs.take n:=by
 unfold cutV;rw [HT.sIx_none,HT.sIx_nat,Nat.min_eq_left h,List.drop_zero,Nat.sub_zero]
theorem cutV_drop {xs:List V}{n:Nat}(h:n<=xs.length):cutV xs (some (n:Int)) none=xs.drop n:=by
 unfold cutV;rw [HT.sIx_none,HT.sIx_nat,Nat.min_eq_left h];exact uL (by rw [Ul];exact Nat.le_refl _)
theorem Inv.turnedL {X:Cx}{pins:List (Addr×Obj)}{σ:St}{H:Hp}{s:Shared}{h':Heap}{t':Nat}{fp:List Addr}(I:Inv X pins σ H s)(k:∀b o,b∉fp->s.heap.get? b=some o->h'.get? b=some o)(L:∀b∈fp,FpOk X pins H b)(Y:0<t':=by ac_rfl):Inv X pins σ H {s with heap:=h',toks:=t'}:=by
 have M:∀b u,H b=some u->b∉fp:=fun b u e z=>by
  have:=(L b z).1;rw [this] at e;cases e
 have nL:X.env.locals∉fp:=fun z=>(L _ z).2.1 rfl;refine I.step (g':=s.gens) (d':=s.drawn) (ch:=fp) (fun b O=>⟨(L b O).2.2.2.1,(L b O).2.1,(L b O).2.2.2.2.1,(L b O).2.2.2.2.2⟩) (fun b o _ _ B e _=>k b o B e) (fun b o _ _ B e _=>⟨o.slots,k b o B e⟩) (fun _ _ _ _ n=>n)
  (fun b o B e=>⟨o,k b o B e⟩) (fun _ _ e=>e) (fun _ _ _ e=>e) (fun b ps e=>⟨#[],by rw [e];simp⟩) (fun m hm=> ?_) (fun b u e=> ?_) I.bare
 ·obtain⟨o,es,ep,U,r⟩:=hm;exact⟨o,es,ep,k _ o nL U,r⟩
 ·refine(I.hok b u e).stay (fun c v B q=>k c v ?_ q) (fun _ q=>q) fun _ _ q=>q;rcases B with z|z
  ·rw [z];exact M b u e
  ·exact M c _ z
theorem Inv.handed {X:Cx}{pins:List (Addr×Obj)}{σ:St}{H:Hp}{s:Shared}{h':Heap}{t':Nat}{fp:List Addr}{ys:List V}{its:List Value}(I:Inv X pins σ H s)(M:∀b∈fp,FpOk X pins H b)(O:∀b∈fp,b<s.heap.objs.size)(U:Vals ys its)(hz:ys.length<=sizeLine)
  (hn:h'.get? s.heap.objs.size=some {cls:= .type "tuple",data:= .seq its.toArray}) (hs:h'.objs.size=s.heap.objs.size+1) (k:∀b o,b∉fp->s.heap.get? b=some o->h'.get? b=some o) (ht:0<t':=by ac_rfl):
  Inv X pins σ (upd H s.heap.objs.size (.tup ys)) {s with heap:=h',toks:=t'}/\∀b∈fp,FpOk X pins (upd H s.heap.objs.size (.tup ys)) b:=by
 have Y:Inv X pins σ (upd H s.heap.objs.size (.tup ys)) {s with heap:=s.heap.push {cls:= .type "tuple",data:= .seq its.toArray},toks:=t'}:=
  I.laid (o:= .tup ys) (fun _ _ w=>u7 _ w) (Nat.le_refl _) ⟨hz,its,U,IsTup.new _ _⟩
 have B:∀b∈fp,FpOk X pins (upd H s.heap.objs.size (.tup ys)) b:=fun b L=>by
  obtain⟨Z,f1,f2,f3,f4,f5⟩:=M b L;have:=O b L;exact⟨by rw [qi (uy this)];exact Z,f1,f2,f3,f4,f5⟩
 refine⟨Y.turnedL (h':=h') (t':=t') (fun b o L e=> ?_) B,B⟩;rcases Heap.get?_push_cases (show(s.heap.push {cls:= .type "tuple",data:= .seq its.toArray}).get? b=some o from e) with⟨rfl,rfl⟩|e'
 ·exact hn
 ·exact k b o L e'
def Ite (K:PySem.W.Frag)(a:Addr)(c:Int):It:=
 ⟨fun i H=>∃xs x,SqT K H a xs/\xs[i]? =some x,fun i H v H'=>∃p x,v= .ref p/\H p=none/\H'=upd H p (.tup [.int (c+i),x])/\∀xs,SqT K H a xs->xs[i]? =some x,fun i H=>∃xs,SqT K H a xs/\xs.length=i⟩
section
variable {X:Cx}
theorem two_le {n m x:Nat}(hm:m=n+1)(h:x=m∨x=n):n<=x:=by omega
def tnE (a e j:Addr)(c:Int)(k:Nat)(h:Heap):Prop:=(∃old,IsEnum h e j (c+k) old)/\h.IsTupleIter j a k/\e≠j
theorem turn_enum {P:Program}{w:World}{K:PySem.W.Frag}{M:List Expr}{cc:Nat}{tp:Pos}(a e j:Addr)(c:Int):Turn P w K (.Tuple M cc tp) (Ite K a c) [e,j] e (tnE a e j c) where
 mem:=by simp
 obj:=fun k h st x hx=>by
  obtain⟨⟨L,h1⟩,⟨o4,e4,c4,d4⟩,D⟩:=st;simp only [uP,v6,UA] at hx;rcases hx with rfl|rfl
  ·exact⟨_,h1,fun v z=>by cases z⟩
  ·exact⟨o4,e4,fun v z=>by rw [d4] at z;cases z⟩
 keep:=fun k h h' st Z=>by
  obtain⟨⟨L,h1⟩,⟨o4,e4,r4⟩,D⟩:=st;exact⟨⟨L,Z e (by simp) _ h1⟩,⟨o4,Z j (by simp) _ e4,r4⟩,D⟩
 item:=by
  intro X hP hw hK B k pins s σ H E I hf st hg;subst hP hw hK;obtain⟨xs,x,ha,hx⟩:=hg;obtain⟨its,ra,pa,za⟩:=I.tuple ha;obtain⟨ux,aa,ab⟩:=ra.get hx;obtain⟨⟨L,h1⟩,h4,D⟩:=st;have l1:=uh h1;have l4:j<s.heap.objs.size:=by obtain⟨o,e,_⟩:=h4;exact uh e
  refine AwZ.enum_go h1 h4 (show s.heap.IsTuple a its.toArray from pa) (x:=ux) (by simpa using aa) D fun h' g1 g3 g5 g6 g7=> ?_
  obtain⟨I1,O⟩:=I.handed (t':=s.toks+1) (ys:= [.int (c+k),x]) (its:= [.int (c+k) s.toks,ux]) hf (fun c B=>by
   simp only [uP,v6,UA] at B;rcases B with rfl|rfl<;>assumption) (.cons (show RelV (V.int (c+k)) _ from⟨_,rfl⟩) (.cons ab .nil)) (by show 2<=sizeLine;decide) g5 g6 (fun c o B e=>by
    simp only [uP,v6,UA,not_or] at B;exact g7 c o B.1 B.2 e)
  refine⟨_,rfl,wpAny_letOwnedTupleGo_enum (s:={s with heap:=h',toks:=s.toks+1}) g1 fun U z2 s2=> ?_⟩
  have Y:∀c o,c≠e->h'.get? c=some o->U.get? c=some o:=fun c o B e=>s2.extBut c o B e;refine⟨.ref s.heap.objs.size,_,I1.turnedL (fp:= [e]) (h':=U) (t':=s.toks+1) (fun c o B e=>Y c o (by simpa using B) e) (fun c B=>O c (by simp at B;simp [B])),rfl,⟨_,x,rfl,I.fresh,rfl,fun zs ac=> ?_⟩,⟨⟨ux,?_⟩,?_,D⟩,fun c B=>(O c B).1⟩
  ·rw [I.tuple_inj ac ha];exact hx
  ·have e1:c+((k+1:Nat):Int)=c+(k:Int)+1:=by omega
   rw [e1];exact z2
  ·obtain⟨o,e,q⟩:=g3;exact⟨o,Y _ _ (Ua D) e,q⟩
 done:=by
  intro X hP hw hK B k pins s σ H E I hf st hg;subst hP hw hK;obtain⟨xs,ha,hx⟩:=hg;obtain⟨its,ra,pa,za⟩:=I.tuple ha;have hl:=ra.length;obtain⟨⟨L,h1⟩,h4,D⟩:=st;refine AwZ.enum_stop (A:=X.A) (I.ok.hd B) h1 h4 (show s.heap.IsTuple a its.toArray from pa) (by simp;omega) fun h' Z=>⟨rfl,?_⟩
  exact I.turnedL (t':=s.toks) (fun c o B e=>by
   simp only [uP,v6,UA,not_or] at B;exact Z c o B.2 e) hf
 self:=fun _ _ _ _ _ st h=>by
  obtain⟨⟨L,h1⟩,_⟩:=st;exact wpAny_pyIter_enum h1 h
end
theorem inV_str (z:Str)(l:List Str):inV (.str z) (l.map V.str)=decide (z∈l):=by
 unfold inV;rw [UJ,vK,List.any_eq_true,uF];constructor
 ·rintro⟨x,hx,e⟩;have B:(x==z)=true:=e;rw [UY] at B;exact B▸hx
 ·intro h;exact⟨z,h,by show(z==z)=true;exact beq_self_eq_true z⟩
def VE:List Value:= [.type "ValueError",.type "Exception",.type "BaseException",.type "object"]
def CX1 (P:Program)(w:World):CXT:=fun outer H s E e s'=>∃(ea C:Addr) (a0:Value) (H':Hp) (B:Heap),e= .ref ea/\s'.os=s.os/\AllBare s'.gens/\0<s'.toks/\Un (frs outer) [] H H' s.heap s'.heap/\HOk P w H' B/\
 Heap.FlyingW B outer ea (.ref C) a0 s'.heap/\(∀b o,s.heap.get? b=some o->b∉frs outer->∃o',B.get? b=some o')/\E (.ref ea) (some C) H'
theorem cls_in {K:PySem.W.Frag}{h:Heap}{C:Addr}{M:List Value}{B:String}(X:K.In h)(q:PySem.W.excIn K C M B=true):
  ∃bm N nm U bs hdct sn sub ab col dd k0 k1 k2 k3 k5 mN,h.get? C=some (excClassObj nm U C N bs bm hdct sn sub ab col dd k0 k1 k2 k3 k5 B)/\h.Ns N mN/\mN "__init__"=none/\OwnTail h M bm:=by
 unfold PySem.W.excIn at q;split at q
 ·rename_i dd Z sl ho
  split at q
  ·rename_i C' bm k0 k1 k2 k3 n k5 hm Y
   simp only [Bool.and_eq_true,UY,Bool.not_eq_true'] at q;obtain⟨⟨⟨⟨⟨rfl,rfl⟩,L⟩,ht⟩,hok⟩,O⟩:=q;obtain⟨nm,bs,aa,ns,U,hd,sn,sub,ab,col,ac⟩:=Z;dsimp only at hm L hok O;subst hm L;obtain⟨l⟩:=sl;simp only at Y;subst Y;exact⟨bm,ns,nm,U,bs,hd,sn,sub,ab,col,dd,k0,k1,k2,k3,k5,_,X _ _ ho,.of_isNs (PySem.W.isNs_of_in X hok),PySem.W.nsMap_none_of_in X hok O,PySem.W.tail_of_in X ht⟩
  ·cases q
 ·cases q
theorem funs_gone {h base B:Heap}:∀{l:List Env},h.FunFrames base l->(∀b∈frs l,B.get? b=none)->h.FunFrames B l
 | [],_,_=>trivial
 |env::r,⟨hk,⟨L,o,hf,hn,ho,hd⟩,hr⟩,hB=>by
  have e:frs (env::r)=L::frs r:=by unfold frs;rw [vC,hf]
  rw [e] at hB;exact⟨hk,⟨L,o,hf,hB L u5,ho,hd⟩,funs_gone hr fun b M=>hB b (u4 _ M)⟩
def tRaise (E:XK)(C:Addr)(ta:TE):TS:=fun _ σ H=>j6 ta tNil σ H fun vs H1=>vs.length=1/\∀e,E (.ref e) (some C) H1
theorem j8 {P:Program}{w:World}{K:PySem.W.Frag}{mg:Str->Option Value}{base:Heap}{N:List Str}{qual:Str}{scope:Scope}{f:Addr}{M:Value}{A:Around}{outer:List Env}{s₀:Shared}{H₀:Hp}{E:XK}
  {x:Str}{C:Addr}{np cpos pos:Pos}{U:Expr}{ta:TE} (hx:PySem.W.excIn K C VE "ValueError.__new__"=true) (hg:Gl (cxOf (CX1 P w) P w K mg base N qual scope f M A outer s₀ H₀ E) x) (hm:mg x=some (.ref C))
  (ha:PE (cxOf (CX1 P w) P w K mg base N qual scope f M A outer s₀ H₀ E) U ta) (hd:(x==("__debug__":Str))=false:=by decide)
  (hs:starEach [U] (envOfC qual scope s₀.heap.objs.size f M)= [(false,eval U (envOfC qual scope s₀.heap.objs.size f M))]:=by rfl):
  PS (cxOf (CX1 P w) P w K mg base N qual scope f M A outer s₀ H₀ E) (.Raise (some (.Call (.Name x np) [U] [] cpos)) none pos) (tRaise E C ta):=by
 intro pins s σ H D I h;obtain⟨bm,Nn,nm,q,bs,hdct,sn,sub,ab,col,dd,k0,k1,k2,k3,k5,mN,hC,hN,al,T⟩:=cls_in I.mod.kin hx;have hT:bm.contains (.type "BaseException")=true:=T.hasType (by decide)
 refine wpAny_Raise_call_subT (C:=C) (nm:=nm) (q:=q) (N:=Nn) (bs:=bs) (bm:=bm) (hdct:=hdct) (sn:=sn) (sub:=sub) (ab:=ab) (col:=col) (dd:=dd) (k0:=k0) (k1:=k1) (k2:=k2) (k3:=k3) (k5:=k5)
  (mN:=mN) F.excBase_ValueError hT (I.ok.hd rfl) (by show(backTo cpos (starEach [U] (envOfC qual scope s₀.heap.objs.size f M))).any (·.1)=false;rw [hs];rfl) al (J5 I hg hm ⟨rfl,?_⟩ hd)
 have am:PA (cxOf (CX1 P w) P w K mg base N qual scope f M A outer s₀ H₀ E) [U] (j6 ta tNil):=qa ha qc hs;have hp:=am cpos pins s σ H (fun vs H1=>vs.length=1/\∀e,E (.ref e) (some C) H1) I h;show wpAny _ _ (evalArgs (.ref C) true (backTo cpos (starEach [U] (envOfC qual scope s₀.heap.objs.size f M))) []) _ _ s;have ao:starEach [U] (cxOf (CX1 P w) P w K mg base N qual scope f M A outer s₀ H₀ E).env= [(false,eval U (envOfC qual scope s₀.heap.objs.size f M))]:=hs;rw [ao] at hp;rw [hs];refine Calls.evalArgs_plain (vc hp (fun vs s₂ h₂=> ?_) fun _ _ y=>y);obtain⟨ws,H2,Z,r2,q2⟩:=h₂;obtain⟨hl,q2⟩:=q2;have bk:=Z.bk;have ap:vs.length<=sizeLine:=by rw [<-r2.length,hl];decide
 refine⟨rfl,ap,bk _ _ hC,hN.keeps bk,T.keeps bk,fun h' e aa=> ?_⟩;show wpAny (model P w) (A.deeper (envOfC qual scope s₀.heap.objs.size f M)) (leaving (envOfC qual scope s₀.heap.objs.size f M) (.ref e)) (fun _ ae=>CX1 P w outer H₀ s₀ E (.ref e) ae) (fun e' ae=>CX1 P w outer H₀ s₀ E e' ae) _;have aq:(A.deeper (envOfC qual scope s₀.heap.objs.size f M)).frames=some (envOfC qual scope s₀.heap.objs.size f M::outer):=Z.ok.frames;have ag:s₂.heap.FunFrames base (envOfC qual scope s₀.heap.objs.size f M::outer):=Z.stack;have af:∀b∈frs (envOfC qual scope s₀.heap.objs.size f M::outer),H2 b=none:=Z.stkFree;have ah:frs (envOfC qual scope s₀.heap.objs.size f M::outer)=s₀.heap.objs.size::frs outer:=rfl;have ak:s₀.heap.objs.size<=s₀.heap.objs.size:=Z.ok.above;have B:Un (frs outer) [] H₀ H2 s₀.heap s₂.heap:=Z.base;refine wpAny_leaves_madeW (base:=TI.gone s₂.heap (frs (envOfC qual scope s₀.heap.objs.size f M::outer))) (h:=s₂.heap) (L:=s₀.heap.objs.size) aq rfl (fun b o e=>(TI.gone_some e).2) (funs_gone ag fun b O=>TI.gone_none O) aa fun ai t ad av _ au=> ?_;have ac:∀b o,b∉frs (envOfC qual scope s₀.heap.objs.size f M::outer)->s₂.heap.get? b=some o->ai.get? b=some o:=fun b o O e=>ad.1 b o (by rw [TI.gone_get O];exact e)
 have slots:∀b o,s₂.heap.get? b=some o->(∀vs,o.data≠ .fields vs)->∃sl,ai.get? b=some {o with slots:=sl}:=fun b o e hn=>au b o (aa.keeps b o e) hn
 have nd:∀b∈frs outer,∀o,s₂.heap.get? b=some o->∀vs,o.data≠ .fields vs:=fun b O o e=>by
  obtain⟨_,o',e',hn⟩:=ag.mem (show b∈(envOfC qual scope s₀.heap.objs.size f M::outer).filterMap (·.frame) from by rw [show(envOfC qual scope s₀.heap.objs.size f M::outer).filterMap (·.frame)=frs (envOfC qual scope s₀.heap.objs.size f M::outer) from rfl,ah];exact u4 _ O)
  rw [e] at e';cases e';exact hn
 have Y:∀b o,s₀.heap.get? b=some o->b∉frs outer->b∉frs (envOfC qual scope s₀.heap.objs.size f M::outer):=fun b o e O hm=>by
  rw [ah] at hm;rcases List.mem_cons.mp hm with rfl|hm
  ·exact absurd (uh e) (vH _)
  ·exact O hm
 refine⟨e,C,.ref t,H2,_,rfl,Z.os,Z.bare,(by first|exact Z.tk|exact Nat.lt_of_lt_of_le Z.tk (V4 _ _)|((try dsimp only);first|assumption|exact Inv.tk (by assumption)|exact Nat.succ_pos _|exact Nat.lt_of_lt_of_le (Inv.tk (by assumption)) (by assumption)|exact Nat.add_pos_left (Inv.tk (by assumption)) _|omega)),⟨?_,?_,B.free,?_,B.tups,B.frzs,B.tbls⟩,?_,ad,?_,q2 e⟩
 ·intro b o e1 hn O hx;exact ac b o (Y b o e1 O) (B.keep b o e1 hn O hx)
 ·intro b o e1 hn O hx;obtain⟨sl,e2⟩:=B.slot b o e1 hn O hx;obtain⟨aj,e3⟩:=slots b _ e2 (nd b O _ e2);exact⟨aj,e3⟩
 ·intro b o e1 hx;obtain⟨o',e2⟩:=B.there b o e1 hx;by_cases O:b∈frs outer
  ·obtain⟨aj,e3⟩:=slots b _ e2 (nd b O _ e2);exact⟨_,e3⟩
  ·exact⟨o',ac b o' (Y b o e1 O) e2⟩
 ·intro b u O;refine(Z.hok b u O).stay (fun c v hc q=> ?_) (fun _ q=>q) fun _ _ q=>q;rw [TI.gone_get]
  ·exact q
  ·intro hm;have hn:=af c hm;rcases hc with z|z
   ·rw [z,O] at hn;cases hn
   ·rw [z] at hn;cases hn
 ·intro b o e1 O;obtain⟨o',e2⟩:=B.there b o e1 (by simp)
  exact⟨o',by rw [TI.gone_get (Y b o e1 O)];exact e2⟩
theorem Fun.okX {P:Program}{w:World}{K:PySem.W.Frag}{mg:Str->Option Value}{base:Heap}{x qual:Str}{st:Stmt}{f:Addr}{fd:FuncData}{N ps:List Str}{k:Nat}{sp:Sp}(F:Fun K x qual st f fd)(S:qz N ps (qj st))(len:∀vs H Q E,sp vs H Q E->vs.length=ps.length)
  (B:∀(cdv:Value) (A:Around) (outer:List Env) (s:Shared) (H:Hp) (vs:List V) (Q:VK) (E:XK),Room k (A.deeper (envOfC qual (qj st) s.heap.objs.size f cdv))->sp vs H Q E->
   ∃t,PSs (cxOf (CX1 P w) P w K mg base N qual (qj st) f cdv A outer s H E) (yO st) t/\t {nx:=fun _ H'=>Q .non H',rt:=Q} (jZ N vs) H):FnOk P w K mg base (CX1 P w) (k+1) f fd ps sp:=by
 obtain⟨oc,od,kV,doc,pm,an,cdv,ct,osl,rfl,lk,L⟩:=F.ex;exact fn_of lk L S len fun A outer s H vs Q E O M=>B cdv A outer s H vs Q E O M
end L2
namespace HT
open PySem PyProof.Rows
section
variable {prog:Program}{w:World}{A:Around}{E:Value->Shared->Prop}{s:Shared}
theorem getItem_tuple_all {t sl:Addr}{items:Array Value}{Y Z:Value}{lo hi:Option Int}{Q:Value->Shared->Prop}(B:IsTup s.heap t items)(hs:s.heap.IsSliceOf sl Y Z .none)(pl:IsPart Y lo)(pu:IsPart Z hi)
  (hw:sIx items.size 0 lo=0/\sIx items.size items.size hi=items.size) (h:Q (.ref t) s):wpAny (model prog w) A (getItem (.ref t) (.ref sl)) Q E s:=by
 obtain⟨os,M,O,aa⟩:=id hs;have U:s.TypeIs (.ref sl) "slice":=⟨os,M,O⟩;unfold getItem
 try with_reducible refine uA ?_
 first|refine wpAny_bind (wpAny_pure ?_)|skip
 refine wpAny_bind (UX B.typeIs (by decide) ?_)
 refine wpAny_bind (uC (name:=Str.ofString "__getitem__") B.typeIs vE
  (uz vE B.typeIs entry_tuple_getitem ?_ (args_tuple_getitem _ _)))
 show wpAny _ _ (Builtin.Tuple.tupleItemsOf (.ref t)>>=_) _ _ s;refine wpAny_bind (tupleItemsOf_ B ?_);refine wpAny_bind (UH U ?_);rw [if_pos (by decide)]
 refine wpAny_bind (yQ hs pl pu ?_);have L:((((sIx items.size 0 lo:Nat):Int)==0&&(1:Int)==1&&(sIx items.size items.size hi-sIx items.size 0 lo)==items.size)=true):=by
  rw [hw.1,hw.2];simp
 show wpAny _ _ (if(((sIx items.size 0 lo:Nat):Int)==0&&(1:Int)==1&&(sIx items.size items.size hi-sIx items.size 0 lo)==items.size)=true then _ else _) _ _ s
 rw [if_pos L];unfold Builtin.Tuple.tupleIsExact;refine wpAny_bind (wpAny_bind (UH B.typeIs (wpAny_pure ?_)));rw [if_pos (by decide)]
 exact wpAny_bind (wpAny_rule (wpAny_pure ⟨_,rfl,wpAny_pure h⟩))
end
end HT
namespace L2
open PySem PySem.Spec PyProof.Rows
section
variable {X:Cx}
def rSlG (K:PySem.W.Frag):V->Option Int->Option Int->Hp->VK->Prop:=fun x lo hi H Q=>∃a xs,x= .ref a/\SqT K H a xs/\
 (HT.sIx xs.length 0 lo=0/\HT.sIx xs.length xs.length hi=xs.length->Q (.ref a) H)/\
 (¬(HT.sIx xs.length 0 lo=0/\HT.sIx xs.length xs.length hi=xs.length)->∀p,H p=none->Q (.ref p) (upd H p (.tup (cutV xs lo hi))))
theorem jt:SlR X (rSlG X.K):=by
 intro pins s σ H x v Y Z lo hi sl Q I M O pl pu h;obtain⟨a,xs,rfl,hx,q1,q2⟩:=h;by_cases L:HT.sIx xs.length 0 lo=0/\HT.sIx xs.length xs.length hi=xs.length
 ·cases M;obtain⟨its,r,U,hz⟩:=I.tuple hx;have B:its.toArray.size=xs.length:=by rw [u9];exact r.length.symm
  refine⟨"tuple",_,PyProof.Rows.slot_tuple_getitem.lookup,U.typeIs,?_⟩;exact HT.getItem_tuple_all U O pl pu (by rw [B];exact L) ⟨.ref a,H,I,rfl,q1 L⟩
 ·exact sl_tup pins s σ H (.ref a) v Y Z lo hi sl Q I M O pl pu ⟨a,xs,rfl,hx,L,q2 L⟩
theorem vals_ext:∀{xs:List V}{us:List Value},xs.length=us.length->(∀(j:Nat) (x:V) (v:Value),xs[j]? =some x->us[j]? =some v->RelV x v)->Vals xs us
 | [],[],_,_=> .nil
 |x::xs,u::us,hl,h=> .cons (h 0 x u rfl rfl) (vals_ext (by simpa using hl) fun j y v h1 h2=>h (j+1) y v (by simpa using h1) (by simpa using h2))
 | [],_::_,hl,_=>by simp at hl
 |_::_,[],hl,_=>by simp at hl
end
end L2
namespace AwQ
open PySem PySem.SeqAt
open PySem.AutoSeq1 (wpAny_loadPart')
open PySem.MeetsSeq PySem.MeetsSeq2 PySem.MeetsSeq3
def LtAt (A:Around)(s:Shared)(a b:Value)(r:Bool):Prop:=∀(P:Program) (w:World) (E:Value->Shared->Prop) (Q:Value->Shared->Prop),Q (.bool r) s->wpAny (model P w) A (richCompare .Lt a b) Q E s
def lexG (e lt:Nat->Bool)(d:Bool):Nat->Nat->Bool
 |_,0=>d
 |i,k+1=>if e i=true then lexG e lt d (i+1) k else lt i
theorem tuple_ltG (l b:Addr)(xs ys:Array Value)(n n2:Nat)(dd aa:Option Addr)(sl ab:Array (Option Value))(e lt:Nat->Bool):
  Meets (Builtin.«tuple.__lt__» ⟨[.ref l,.ref b],[]⟩)
   (fun A R s=>s.heap.get? l=some {cls:= .type "tuple",dict:=dd,data:= .seq xs n,slots:=sl}/\s.heap.get? b=some {cls:= .type "tuple",dict:=aa,data:= .seq ys n2,slots:=ab}/\
    (∀j (h1:j<xs.size) (h2:j<ys.size),EqAt A.in1 s xs[j] ys[j] (e j))/\(∀j (h1:j<xs.size) (h2:j<ys.size),(∀i,i<j->e i=true)->e j=false->LtAt A.in1 s xs[j] ys[j] (lt j))/\
    R (.ok (.ret (.bool (lexG e lt (decide (xs.size<ys.size)) 0 (min xs.size ys.size))))) s):=
 .of_wp fun prog w A R s h=>by
  obtain⟨Z,g,d,tk,os⟩:=s;obtain⟨hl,hb,he,ht,h⟩:=h;have f2:=AutoSeq1.sub_tuple_tuple;have hZ:(xs.toList.zip ys.toList).length=min xs.size ys.size:=by simp
  wp_walk using uI hl,uI hb,vS _ (fun rest b s'=>b.1=none/\s'=⟨Z,g,d,tk,os⟩/\∃i,i<=min xs.size ys.size/\(∀k,k<i->e k=true)/\rest=(xs.toList.zip ys.toList).drop i/\
   R (.ok (.ret (.bool (lexG e lt (decide (xs.size<ys.size)) i (min xs.size ys.size-i))))) ⟨Z,g,d,tk,os⟩) _
  case turn=>
   rintro⟨y,x⟩ rest b s' ⟨M,rfl,i,_,L,hz,hR⟩;have U:i<(xs.toList.zip ys.toList).length:=by
    rcases uZ i (xs.toList.zip ys.toList).length with q|q
    ·exact q
    ·rw [List.drop_of_length_le q] at hz;cases hz
   have hm:i<min xs.size ys.size:=hZ▸U;have h1:i<xs.size:=by omega
   have h2:i<ys.size:=by omega
   rw [vj U] at hz;injection hz with Y hrest
   have hy:y=xs[i]:=by have:=congrArg Prod.fst Y;simpa using this
   have hx:x=ys[i]:=by have:=congrArg Prod.snd Y;simpa using this
   subst hy hx;obtain⟨k,hk⟩:∃k,min xs.size ys.size-i=k+1:=⟨min xs.size ys.size-i-1,by omega⟩
   have ac:min xs.size ys.size-(i+1)=k:=by omega
   rw [hk] at hR;refine wpAny_bind (he i h1 h2 prog w _ _ ?_);cases B:e i with
   |true=>
    have O:R (.ok (.ret (.bool (lexG e lt (decide (xs.size<ys.size)) (i+1) (min xs.size ys.size-(i+1)))))) ⟨Z,g,d,tk,os⟩:=by
     rw [ac];have:lexG e lt (decide (xs.size<ys.size)) i (k+1)=lexG e lt (decide (xs.size<ys.size)) (i+1) k:=by rw [lexG,if_pos B]
     rw [this] at hR;exact hR
    wp_walk
    exact⟨rfl,rfl,i+1,by omega,fun j hj=>by
     by_cases z:j=i
     ·rw [z];exact B
     ·exact L j (by omega),hrest,O⟩
   |false=>
    have O:R (.ok (.ret (.bool (lt i)))) ⟨Z,g,d,tk,os⟩:=by
     have:lexG e lt (decide (xs.size<ys.size)) i (k+1)=lt i:=by rw [lexG,if_neg (by rw [B];decide)]
     rw [this] at hR;exact hR
    have ad:=ht i h1 h2 L B prog w
    wp_walk using ad
    exact⟨_,rfl,by simpa using O⟩
  case fin=>
   rintro⟨b1,b2⟩ s' ⟨M,rfl,i,ae,_,hz,hR⟩;simp only at M;subst M;have af:min xs.size ys.size<=i:=by
    rcases uZ i (xs.toList.zip ys.toList).length with q|q
    ·rw [vj q] at hz;cases hz
    ·exact hZ▸q
   have h0:min xs.size ys.size-i=0:=by omega
   rw [h0,lexG] at hR
   wp_walk
   exact⟨_,rfl,by simpa [Builtin.Tuple.tupleCompareSizes] using hR⟩
  case h=>
   exact⟨rfl,rfl,0,uv _,fun _ z=>absurd z (vN _),rfl,by simpa using h⟩
theorem LtAt.tuples {A:Around}{s:Shared}{l b:Addr}{xs ys:Array Value}{e lt:Nat->Bool}(hl:s.heap.IsTuple l xs)(hb:s.heap.IsTuple b ys)(hu:A.units<cLine)
  (he:∀j (h1:j<xs.size) (h2:j<ys.size),EqAt A.in1 s xs[j] ys[j] (e j)) (ht:∀j (h1:j<xs.size) (h2:j<ys.size),(∀i,i<j->e i=true)->e j=false->LtAt A.in1 s xs[j] ys[j] (lt j)):
  LtAt A s (.ref l) (.ref b) (lexG e lt (decide (xs.size<ys.size)) 0 (min xs.size ys.size)):=fun P w E Q h=>by
 obtain⟨⟨cls,dd,data,sl⟩,Y,Z,n,hd⟩:=id hl;obtain⟨⟨aa,M,O,U⟩,B,L,n2,hd2⟩:=id hb;simp only at Z hd L hd2;subst Z hd L hd2;exact richCompare_meets_room (op:= .Lt) ⟨_,Y,rfl⟩ ⟨_,B,rfl⟩ PySem.F.slot_tuple_lt PySem.F.entry_tuple_lt (PySem.F.args_tuple_lt_2 _ _) (tuple_ltG l b xs ys n n2 dd M sl U e lt)
  ⟨Y,B,he,ht,show Value.bool _≠Value.notImplemented/\Q (.bool _) s from⟨(fun z=>nomatch z),h⟩⟩ hu
theorem LtAt.int {A:Around}{s:Shared}(a:Int)(t:Tok)(c:Int)(u:Tok):LtAt A s (.int a t) (.int c u) (decide (a<c)):=fun P w E Q h=>
 (PyProof.Rows.lt_int h:wpAny (model P w) A (compareOp .Lt (.int a t) (.int c u)) Q E s)
end AwQ
namespace L2
open PySem PySem.Spec PyProof.Rows
mutual
def puD:D->Bool
 | .str _=>true
 | .int _=>true
 | .tup xs=>puL xs
 |_=>false
def puL:List D->Bool
 | []=>true
 |x::r=>puD x&&puL r
end
mutual
def eqD:D->D->Bool
 | .str a,.str b=>a==b
 | .int a,.int b=>a==b
 | .tup xs,.tup ys=>eqL xs ys
 |_,_=>false
def eqL:List D->List D->Bool
 | [],[]=>true
 |x::r,y::q=>eqD x y&&eqL r q
 |_,_=>false
end
mutual
def ltD:D->D->Option Bool
 | .str a,.str b=>some (decide (a.cps.toList<b.cps.toList))
 | .int a,.int b=>some (decide (a<b))
 | .tup xs,.tup ys=>ltL xs ys
 |_,_=>none
def ltL:List D->List D->Option Bool
 | [],[]=>some false
 | [],_::_=>some true
 |_::_,[]=>some false
 |x::r,y::q=>if eqD x y=true then ltL r q else ltD x y
end
mutual
theorem XS:∀{d e:D},puD d=true->(eqD d e=true↔d=e)
 | .str a,e,_=>by cases e<;>simp [eqD]
 | .int a,e,_=>by cases e<;>simp [eqD]
 | .tup xs,.tup ys,h=>by
  have:=eqL_iff (xs:=xs) (ys:=ys) (by simpa [puD] using h)
  simp only [eqD,this,D.tup.injEq]
 | .tup xs,.non,_=>by simp [eqD]
 | .tup xs,.bl _,_=>by simp [eqD]
 | .tup xs,.int _,_=>by simp [eqD]
 | .tup xs,.str _,_=>by simp [eqD]
 | .tup xs,.lst,_=>by simp [eqD]
 | .tup xs,.dct,_=>by simp [eqD]
 | .non,_,h=>by simp [puD] at h
 | .bl _,_,h=>by simp [puD] at h
 | .lst,_,h=>by simp [puD] at h
 | .dct,_,h=>by simp [puD] at h
theorem eqL_iff:∀{xs ys:List D},puL xs=true->(eqL xs ys=true↔xs=ys)
 | [],[],_=>by simp [eqL]
 | [],_::_,_=>by simp [eqL]
 |_::_,[],_=>by simp [eqL]
 |x::r,y::q,h=>by
  have h':puD x=true/\puL r=true:=by simpa [puL] using h
  simp only [eqL,Bool.and_eq_true,XS h'.1,eqL_iff h'.2,List.cons.injEq]
end
mutual
theorem Is.det {H:Hp}:∀{d e:D}{v:V},puD d=true->puD e=true->Is H d v->Is H e v->d=e
 | .str a,e,v,_,he,h1,h2=>by
  obtain⟨rfl,_⟩:=(show v= .str a/\_ from h1)
  cases e with
  |str b=>obtain⟨q,_⟩:=(show V.str a=V.str b/\_ from h2);cases q;rfl
  |int b=>cases(show V.str a=V.int b from h2)
  |tup ys=>obtain⟨p,us,q,_⟩:=(show∃p us,V.str a=V.ref p/\_ from h2);cases q
  |_=>simp [puD] at he
 | .int a,e,v,_,he,h1,h2=>by
  cases(show v= .int a from h1)
  cases e with
  |str b=>obtain⟨q,_⟩:=(show V.int a=V.str b/\_ from h2);cases q
  |int b=>cases(show V.int a=V.int b from h2);rfl
  |tup ys=>obtain⟨p,us,q,_⟩:=(show∃p us,V.int a=V.ref p/\_ from h2);cases q
  |_=>simp [puD] at he
 | .tup xs,e,v,hd,he,h1,h2=>by
  obtain⟨p,vs,rfl,M,O⟩:=(show∃p vs,v=V.ref p/\H p=some (.tup vs)/\IsL H xs vs from h1)
  cases e with
  |str b=>obtain⟨q,_⟩:=(show V.ref p=V.str b/\_ from h2);cases q
  |int b=>cases(show V.ref p=V.int b from h2)
  |tup ys=>
   obtain⟨p',us,q,B,L⟩:=(show∃p' us,V.ref p=V.ref p'/\H p'=some (.tup us)/\IsL H ys us from h2)
   cases q;rw [M] at B;cases B;rw [IsL.det (by simpa [puD] using hd) (by simpa [puD] using he) O L]
  |_=>simp [puD] at he
 | .non,_,_,hd,_,_,_=>by simp [puD] at hd
 | .bl _,_,_,hd,_,_,_=>by simp [puD] at hd
 | .lst,_,_,hd,_,_,_=>by simp [puD] at hd
 | .dct,_,_,hd,_,_,_=>by simp [puD] at hd
theorem IsL.det {H:Hp}:∀{xs ys:List D}{vs:List V},puL xs=true->puL ys=true->IsL H xs vs->IsL H ys vs->xs=ys
 | [],[],_,_,_,_,_=>rfl
 | [],_::_,_,_,_,h1,h2=>by
  cases(show _= [] from h1)
  obtain⟨v,r,q,_⟩:=(show∃v r,[]=v::r/\_ from h2)
  cases q
 |_::_,[],_,_,_,h1,h2=>by
  cases(show _= [] from h2)
  obtain⟨v,r,q,_⟩:=(show∃v r,[]=v::r/\_ from h1)
  cases q
 |x::xs,y::ys,_,hd,he,h1,h2=>by
  obtain⟨v,r,rfl,M,O⟩:=h1;obtain⟨Z,r',q,U,Y⟩:=h2;cases q;have B:puD x=true/\puL xs=true:=by simpa [puL] using hd
  have L:puD y=true/\puL ys=true:=by simpa [puL] using he
  rw [Is.det B.1 L.1 M U,IsL.det B.2 L.2 O Y]
end
theorem eqL_all:∀(xs ys:List D),eqL xs ys=((List.range (min xs.length ys.length)).all (fun j=>eqD (xs.getD j .non) (ys.getD j .non))&&xs.length==ys.length)
 | [],[]=>by simp [eqL]
 | [],_::_=>by simp [eqL]
 |_::_,[]=>by simp [eqL]
 |x::r,y::q=>by
  have B:=eqL_all r q;rw [ul,ul,show min (r.length+1) (q.length+1)=min r.length q.length+1 by omega,Uq,U5,Ug]
  have e:(List.range (min r.length q.length)).all ((fun j=>eqD ((x::r).getD j .non) ((y::q).getD j .non))∘Nat.succ)=(List.range (min r.length q.length)).all fun j=>eqD (r.getD j .non) (q.getD j .non):=by congr 1
  rw [e];have L:(r.length+1==q.length+1)=(r.length==q.length):=by rw [vK];simp
  rw [L,Bool.and_assoc,<-B]
  rfl
section
variable {X:Cx}{pins:List (Addr×Obj)}{σ:St}{H:Hp}{s:Shared}
theorem eqAt_str (I:Inv X pins σ H s){z:Str}{t:Tok}{e:D}{u:V}{b:Value}{A:Around}(L:puD e=true)(h2:Is H e u)(B:RelV u b)(hu:A.units<cLine):SeqAt.EqAt A s (.str z t) b (eqD (.str z) e):=by
 cases e with
 |str y=>
  obtain⟨rfl,_⟩:=(show u= .str y/\_ from h2)
  obtain⟨M,rfl⟩:=B;exact UP _ _ _ _
 |int y=>
  cases(show u= .int y from h2)
  obtain⟨M,rfl⟩:=B;exact UN _ _ _ _
 |tup ys=>
  obtain⟨p,us,rfl,O,U⟩:=(show∃p us,u=V.ref p/\H p=some (.tup us)/\IsL H ys us from h2)
  cases B;obtain⟨its,_,q,_⟩:=I.tuple (.inl (.of O));exact SeqAt.EqAt.str_tuple _ _ q hu
 |_=>simp [puD] at L
theorem eqAt_int (I:Inv X pins σ H s){z:Int}{t:Tok}{e:D}{u:V}{b:Value}{A:Around}(L:puD e=true)(h2:Is H e u)(B:RelV u b)(hu:A.units<cLine):SeqAt.EqAt A s (.int z t) b (eqD (.int z) e):=by
 cases e with
 |str y=>
  obtain⟨rfl,_⟩:=(show u= .str y/\_ from h2)
  obtain⟨M,rfl⟩:=B;exact UM _ _ _ _
 |int y=>
  cases(show u= .int y from h2)
  obtain⟨M,rfl⟩:=B;exact Ur _ _ _ _
 |tup ys=>
  obtain⟨p,us,rfl,O,U⟩:=(show∃p us,u=V.ref p/\H p=some (.tup us)/\IsL H ys us from h2)
  cases B;obtain⟨its,_,q,_⟩:=I.tuple (.inl (.of O));exact SeqAt.EqAt.int_tuple _ _ q hu
 |_=>simp [puD] at L
theorem Q0:∀{xs:List D}{j:Nat}{x:D},puL xs=true->xs[j]? =some x->puD x=true
 | [],_,_,_,e=>by simp at e
 |y::r,0,x,h,e=>by
  have h':puD y=true/\puL r=true:=by simpa [puL] using h
  have:y=x:=by simpa using e
  exact this▸h'.1
 |y::r,j+1,x,h,e=>by
  have h':puD y=true/\puL r=true:=by simpa [puL] using h
  exact Q0 h'.2 (by simpa using e)
theorem eqAt_tup (I:Inv X pins σ H s){xs:List D}{e:D}{v u:V}{a b:Value}{A:Around}(hd:puD (.tup xs)=true)(Y:puD e=true)(h1:Is H (.tup xs) v)(h2:Is H e u)(r1:RelV v a)(O:RelV u b)(hu:A.units<cLine)
  (ih:∀x∈xs,∀(e:D) (v u:V) (a b:Value),puD x=true->puD e=true->Is H x v->Is H e u->RelV v a->RelV u b->SeqAt.EqAt A.in1 s a b (eqD x e)):SeqAt.EqAt A s a b (eqD (.tup xs) e):=by
 obtain⟨p,vs,rfl,hp,hl⟩:=(show∃p vs,v=V.ref p/\H p=some (.tup vs)/\IsL H xs vs from h1)
 cases r1;obtain⟨its,rv,q,_⟩:=I.tuple (.inl (.of hp));cases e with
 |str y=>
  obtain⟨rfl,_⟩:=(show u= .str y/\_ from h2)
  obtain⟨t2,rfl⟩:=O;exact SeqAt.EqAt.tuple_str _ _ q hu
 |int y=>
  cases(show u= .int y from h2)
  obtain⟨t2,rfl⟩:=O;exact SeqAt.EqAt.tuple_int _ _ q hu
 |tup ys=>
  by_cases Z:V.ref p=u
  ·have:=Is.det (e:= .tup ys) hd Y h1 (Z▸h2);subst Z;cases O;rw [<-this,(XS hd).mpr rfl];exact Ud _
  ·obtain⟨p',us,rfl,aa,B⟩:=(show∃p' us,u=V.ref p'/\H p'=some (.tup us)/\IsL H ys us from h2)
   cases O;obtain⟨its',L,q',_⟩:=I.tuple (.inl (.of aa));have l1:its.length=xs.length:=by rw [<-rv.length,hl.length]
   have l2:its'.length=ys.length:=by rw [<-L.length,B.length]
   have ab:puL xs=true:=by simpa [puD] using hd
   have ac:puL ys=true:=by simpa [puD] using Y
   have key:=UZ (e:=fun j=>eqD (xs.getD j .non) (ys.getD j .non)) q q' hu fun j a1 a2=>by
    have M:j<xs.length:=by rw [<-l1];simpa using a1
    have U:j<ys.length:=by rw [<-l2];simpa using a2
    obtain⟨v1,e1,i1⟩:=hl.get (i:=j) (d:=xs[j]) (by simp [M])
    obtain⟨v2,e2,i2⟩:=B.get (i:=j) (d:=ys[j]) (by simp [U])
    obtain⟨b1,f1,g1⟩:=rv.get e1;obtain⟨b2,f2,g2⟩:=L.get e2;have k1:its.toArray[j]=b1:=by
     have:=f1;rw [u0 (by rw [l1];exact M)] at this
     simpa using this
    have k2:its'.toArray[j]=b2:=by
     have:=f2;rw [u0 (by rw [l2];exact U)] at this
     simpa using this
    have d1:xs.getD j .non=xs[j]:=by simp [List.getD,M]
    have d2:ys.getD j .non=ys[j]:=by simp [List.getD,U]
    show SeqAt.EqAt _ s _ _ (eqD (xs.getD j .non) (ys.getD j .non));rw [k1,k2,d1,d2];exact ih _ (uN M) _ _ _ _ _ (Q0 (j:=j) ab (by simp [M])) (Q0 (j:=j) ac (by simp [U])) i1 i2 g1 g2
   have e1:eqD (.tup xs) (.tup ys)=((List.range (min its.toArray.size its'.toArray.size)).all (fun j=>eqD (xs.getD j .non) (ys.getD j .non))&&its.toArray.size==its'.toArray.size):=by
    rw [u9,u9,l1,l2,<-eqL_all];simp only [eqD]
   rw [e1];exact Ut (fun z=>Z (by rw [z])) key
 |_=>simp [puD] at Y
theorem eqAt_D (I:Inv X pins σ H s):∀(n:Nat) (d e:D) (v u:V) (a b:Value) (A:Around),dp d<=n->puD d=true->puD e=true->Is H d v->Is H e u->RelV v a->RelV u b->A.units+n<cLine->SeqAt.EqAt A s a b (eqD d e):=by
 intro n
 induction n with
 |zero=>
  intro d e v u a b A hn hd L h1 h2 M O hu;cases d with
  |int z=>
   cases(show v= .int z from h1)
   obtain⟨t,rfl⟩:=M;exact eqAt_int I L h2 O hu
  |str z=>simp [dp] at hn
  |tup xs=>simp [dp] at hn
  |_=>simp [puD] at hd
 |succ n U=>
  intro d e v u a b A hn hd L h1 h2 M O hu;have B:A.units<cLine:=UQ (V4 _ _) hu;cases d with
  |int z=>
   cases(show v= .int z from h1)
   obtain⟨t,rfl⟩:=M;exact eqAt_int I L h2 O B
  |str z=>
   obtain⟨rfl,_⟩:=(show v= .str z/\_ from h1)
   obtain⟨t,rfl⟩:=M;exact eqAt_str I L h2 O B
  |tup xs=>
   have hm:dpL xs<=n:=by
    have:dp (.tup xs)=1+dpL xs:=by simp only [dp]
    omega
   exact eqAt_tup I hd L h1 h2 M O B fun x hx e v u a b k1 k2 k3 Y k5 Z=>U x e v u a b A.in1 ((ye xs).mp hm x hx) k1 k2 k3 Y k5 Z (by rw [ur];omega)
  |_=>simp [puD] at hd
theorem lexG_succ {e lt:Nat->Bool}{d:Bool}:∀(k i:Nat),AwQ.lexG e lt d (i+1) k=AwQ.lexG (fun j=>e (j+1)) (fun j=>lt (j+1)) d i k
 |0,_=>rfl
 |k+1,i=>by rw [AwQ.lexG,AwQ.lexG,lexG_succ k (i+1)]
def eAt (xs ys:List D)(j:Nat):Bool:=eqD (xs.getD j .non) (ys.getD j .non)
def lAt (xs ys:List D)(j:Nat):Bool:=(ltD (xs.getD j .non) (ys.getD j .non)).getD false
theorem J3:∀{xs ys:List D}{r:Bool},ltL xs ys=some r->AwQ.lexG (eAt xs ys) (lAt xs ys) (decide (xs.length<ys.length)) 0 (min xs.length ys.length)=r
 | [],[],r,h=>by cases h;rfl
 | [],_::_,r,h=>by cases h;simp [AwQ.lexG]
 |_::_,[],r,h=>by cases h;simp [AwQ.lexG]
 |x::xs,y::ys,r,h=>by
  rw [ul,ul,show min (xs.length+1) (ys.length+1)=min xs.length ys.length+1 by omega,AwQ.lexG]
  have L:eAt (x::xs) (y::ys) 0=eqD x y:=rfl;have M:decide (xs.length+1<ys.length+1)=decide (xs.length<ys.length):=by rw [uM];omega
  rw [L,M,lexG_succ];cases B:eqD x y with
  |true=>
   rw [if_pos rfl];have:ltL xs ys=some r:=by rw [ltL,B,if_pos rfl] at h;exact h
   exact J3 this
  |false=>
   rw [if_neg ug];have:ltD x y=some r:=by rw [ltL,B,if_neg ug] at h;exact h
   show(ltD x y).getD false=r;rw [this];rfl
theorem lt_at:∀{xs ys:List D}{r:Bool} (j:Nat),ltL xs ys=some r->j<xs.length->j<ys.length->(∀i,i<j->eAt xs ys i=true)->eAt xs ys j=false->ltD (xs.getD j .non) (ys.getD j .non)=some (lAt xs ys j)
 | [],_,_,j,_,h1,_,_,_=>by simp at h1
 |_::_,[],_,j,_,_,h2,_,_=>by simp at h2
 |x::xs,y::ys,r,0,h,_,_,_,hj=>by
  have B:eqD x y=false:=hj;have:ltD x y=some r:=by rw [ltL,B,if_neg ug] at h;exact h
  show ltD x y=some ((ltD x y).getD false);rw [this];rfl
 |x::xs,y::ys,r,j+1,h,h1,h2,hall,hj=>by
  have L:eqD x y=true:=hall 0 (Nat.succ_pos _);have:ltL xs ys=some r:=by rw [ltL,L,if_pos rfl] at h;exact h
  exact lt_at (xs:=xs) (ys:=ys) j this (by simpa using h1) (by simpa using h2) (fun i hi=>hall (i+1) (by omega)) hj
theorem ltAt_tup (I:Inv X pins σ H s){n:Nat}{xs ys:List D}{v u:V}{a b:Value}{A:Around}{r:Bool}(hn:dpL xs<=n)(hd:puD (.tup xs)=true)(he:puD (.tup ys)=true)(h1:Is H (.tup xs) v)(h2:Is H (.tup ys) u)(r1:RelV v a)(r2:RelV u b)(hu:A.units+1+n<cLine)
  (hr:ltL xs ys=some r)
  (ih:∀x∈xs,∀(e:D) (v u:V) (a b:Value) (r:Bool),puD x=true->puD e=true->Is H x v->Is H e u->RelV v a->RelV u b->ltD x e=some r->AwQ.LtAt A.in1 s a b r):AwQ.LtAt A s a b r:=by
 obtain⟨p,vs,rfl,hp,hl⟩:=(show∃p vs,v=V.ref p/\H p=some (.tup vs)/\IsL H xs vs from h1)
 obtain⟨p',us,rfl,af,Z⟩:=(show∃p' us,u=V.ref p'/\H p'=some (.tup us)/\IsL H ys us from h2)
 cases r1;cases r2;obtain⟨its,rv,q,_⟩:=I.tuple (.inl (.of hp));obtain⟨its',aa,q',_⟩:=I.tuple (.inl (.of af));have l1:its.length=xs.length:=by rw [<-rv.length,hl.length]
 have l2:its'.length=ys.length:=by rw [<-aa.length,Z.length]
 have ab:puL xs=true:=by simpa [puD] using hd
 have ac:puL ys=true:=by simpa [puD] using he
 have parts:∀j (M:j<its.toArray.size) (O:j<its'.toArray.size),∃(B:j<xs.length) (L:j<ys.length) (U Y:V),Is H xs[j] U/\Is H ys[j] Y/\RelV U its.toArray[j]/\RelV Y its'.toArray[j]:=fun j M O=>by
  have B:j<xs.length:=by rw [<-l1];simpa using M
  have L:j<ys.length:=by rw [<-l2];simpa using O
  obtain⟨U,e1,i1⟩:=hl.get (i:=j) (d:=xs[j]) (by simp [B])
  obtain⟨Y,e2,i2⟩:=Z.get (i:=j) (d:=ys[j]) (by simp [L])
  obtain⟨b1,f1,g1⟩:=rv.get e1;obtain⟨b2,f2,g2⟩:=aa.get e2;have k1:its.toArray[j]=b1:=by
   have:=f1;rw [u0 (by rw [l1];exact B)] at this
   simpa using this
  have k2:its'.toArray[j]=b2:=by
   have:=f2;rw [u0 (by rw [l2];exact L)] at this
   simpa using this
  exact⟨B,L,U,Y,i1,i2,k1▸g1,k2▸g2⟩
 have key:=AwQ.LtAt.tuples (A:=A) (e:=eAt xs ys) (lt:=lAt xs ys) q q' (by omega) (fun j M O=>by
  obtain⟨B,L,U,Y,i1,i2,g1,g2⟩:=parts j M O;have d1:xs.getD j .non=xs[j]:=by simp [List.getD,B]
  have d2:ys.getD j .non=ys[j]:=by simp [List.getD,L]
  unfold eAt;rw [d1,d2];exact eqAt_D I n _ _ _ _ _ _ A.in1 ((ye xs).mp hn _ (uN B)) (Q0 (j:=j) ab (by simp [B])) (Q0 (j:=j) ac (by simp [L])) i1 i2 g1 g2 (by rw [ur];omega))
  (fun j M O ad hj=>by
   obtain⟨B,L,U,Y,i1,i2,g1,g2⟩:=parts j M O;have d1:xs.getD j .non=xs[j]:=by simp [List.getD,B]
   have d2:ys.getD j .non=ys[j]:=by simp [List.getD,L]
   have ae:=lt_at j hr B L ad hj;rw [d1,d2] at ae;exact ih _ (uN B) _ _ _ _ _ _ (Q0 (j:=j) ab (by simp [B])) (Q0 (j:=j) ac (by simp [L])) i1 i2 g1 g2 ae)
 have e1:=J3 hr;rw [u9,u9,l1,l2,e1] at key;exact key
theorem ltAt_D (I:Inv X pins σ H s):∀(n:Nat) (d e:D) (v u:V) (a b:Value) (A:Around) (r:Bool),dp d<=n->puD d=true->puD e=true->Is H d v->Is H e u->RelV v a->RelV u b->A.units+n<cLine->ltD d e=some r->AwQ.LtAt A s a b r:=by
 intro n
 induction n with
 |zero=>
  intro d e v u a b A r hn hd Y h1 h2 L M hu B;cases d with
  |int z=>
   cases e with
   |int y=>
    cases(show v= .int z from h1)
    cases(show u= .int y from h2)
    obtain⟨t,rfl⟩:=L;obtain⟨O,rfl⟩:=M;cases B;exact AwQ.LtAt.int _ _ _ _
   |_=>simp [ltD] at B
  |str z=>simp [dp] at hn
  |tup xs=>simp [dp] at hn
  |_=>simp [puD] at hd
 |succ n Z=>
  intro d e v u a b A r hn hd Y h1 h2 L M hu B;cases d with
  |int z=>
   cases e with
   |int y=>
    cases(show v= .int z from h1)
    cases(show u= .int y from h2)
    obtain⟨t,rfl⟩:=L;obtain⟨O,rfl⟩:=M;cases B;exact AwQ.LtAt.int _ _ _ _
   |_=>simp [ltD] at B
  |str z=>
   cases e with
   |str y=>
    obtain⟨rfl,_⟩:=(show v= .str z/\_ from h1)
    obtain⟨rfl,_⟩:=(show u= .str y/\_ from h2)
    obtain⟨t,rfl⟩:=L;obtain⟨O,rfl⟩:=M;cases B;exact fun P w E Q h=>(PyProof.Rows.lt_str h:wpAny (model P w) A (compareOp .Lt (.str z t) (.str y O)) Q E s)
   |_=>simp [ltD] at B
  |tup xs=>
   cases e with
   |tup ys=>
    have hm:dpL xs<=n:=by
     have:dp (.tup xs)=1+dpL xs:=by simp only [dp]
     omega
    have U:ltL xs ys=some r:=by rw [ltD] at B;exact B
    exact ltAt_tup I hm hd Y h1 h2 L M (by omega) U fun x hx e v u a b r k1 k2 k3 k4 k5 k6 k7=>Z x e v u a b A.in1 r ((ye xs).mp hm x hx) k1 k2 k3 k4 k5 k6 (by rw [ur];omega) k7
   |_=>simp [ltD] at B
  |_=>simp [puD] at hd
end
section
variable {X:Cx}
def trD:D->Bool
 | .str _=>true
 | .tup xs=>puL xs
 |_=>false
end
theorem call_lenZ {X:Cx}:yN X (.builtin "len") (fun xs H Q=>(∃z:Str,xs= [.str z]/\z.length<=sizeLine/\Q (.int z.length) H)∨∃p ys,xs= [.ref p]/\(SqL X.K H p ys∨SqT X.K H p ys)/\(ys.length<=sizeLine->Q (.int ys.length) H)):=by
 intro pins s σ H xs us Q I r h;rcases h with⟨z,e,hz,q⟩|h
 ·exact Xk pins s σ H xs us Q I r ⟨_,z.length,e,⟨hz,rfl⟩,q⟩
 ·exact call_lenB pins s σ H xs us Q I r h
theorem pass1 {P:Program}{w:World}{K:PySem.W.Frag}{mg:Str->Option Value}{base:Heap}{N:List Str}{qual:Str}{scope:Scope}{f:Addr}{cd:Value}{A:Around}{outer:List Env}{s₀:Shared}{H₀:Hp}{E:XK}:
  Yy (CX1 P w) (cxOf (CX1 P w) P w K mg base N qual scope f cd A outer s₀ H₀ E) E:=by
 intro pins σ H s e s' I h;obtain⟨ea,C,a0,H',B,rfl,al,ab,htk,am,ag,ah,hold,hE⟩:=h;show wpAny (model P w) (A.deeper (envOfC qual scope s₀.heap.objs.size f cd)) (leaving (envOfC qual scope s₀.heap.objs.size f cd) (.ref ea)) (fun _ ac=>CX1 P w outer H₀ s₀ E (.ref ea) ac) (fun e' ac=>CX1 P w outer H₀ s₀ E e' ac) _;have ao:(A.deeper (envOfC qual scope s₀.heap.objs.size f cd)).frames=some (envOfC qual scope s₀.heap.objs.size f cd::outer):=I.ok.frames;have ad:frs (envOfC qual scope s₀.heap.objs.size f cd::outer)=s₀.heap.objs.size::frs outer:=rfl;have M:Un (frs outer) [] H₀ H s₀.heap s.heap:=I.base;have O:Un (frs (envOfC qual scope s₀.heap.objs.size f cd::outer)) [] H H' s.heap s'.heap:=am;have Y:Heap.FlyingW B (envOfC qual scope s₀.heap.objs.size f cd::outer) ea (.ref C) a0 s'.heap:=ah;have Z:∀b o,s.heap.get? b=some o->b∉frs (envOfC qual scope s₀.heap.objs.size f cd::outer)->∃o',B.get? b=some o':=hold;have ap:=Y.2.2.1;have aa:∀b o,s₀.heap.get? b=some o->b∉frs outer->b∉frs (envOfC qual scope s₀.heap.objs.size f cd::outer):=fun b o e hb hm=>by
  rw [ad] at hm;rcases List.mem_cons.mp hm with rfl|hm
  ·exact absurd (uh e) (vH _)
  ·exact hb hm
 have nd:∀b∈frs outer,∀o,s'.heap.get? b=some o->∀vs,o.data≠ .fields vs:=fun b hb o e=>by
  obtain⟨_,o',e',hn⟩:=ap.mem (show b∈(envOfC qual scope s₀.heap.objs.size f cd::outer).filterMap (·.frame) from by rw [show(envOfC qual scope s₀.heap.objs.size f cd::outer).filterMap (·.frame)=frs (envOfC qual scope s₀.heap.objs.size f cd::outer) from rfl,ad];exact u4 _ hb)
  rw [e] at e';cases e';exact hn
 refine wpAny_leaves_onW (base:=B) (L:=s₀.heap.objs.size) ao rfl Y fun aq ae ai=> ?_;have au:∀b o o',B.get? b=some o'->s'.heap.get? b=some o->aq.get? b=some o:=fun b o o' U e2=>by
  have:=Y.1 b o' U;rw [e2] at this;cases this;exact ae.1 b o U
 refine⟨ea,C,a0,H',B,rfl,al.trans I.os,ab,htk,⟨?_,?_,?_,?_,?_,?_,?_⟩,ag,ae,?_,hE⟩
 ·intro b o U hn hb hx;have e2:=M.keep b o U hn hb hx;have af:=M.free b o U hn hx;have aj:=aa b o U hb;have e3:=O.keep b o e2 af aj hx;obtain⟨o',e4⟩:=Z b o e2 aj;exact au b o o' e4 e3
 ·intro b o U hn hb hx;obtain⟨sl,e2⟩:=M.slot b o U hn hb hx;have af:=M.free b o U hn hx;obtain⟨av,e3⟩:=O.slot b _ e2 af (by rw [ad];exact u4 _ hb) hx
  obtain⟨ak,e4⟩:=ai b _ e3 (nd b hb _ e3);exact⟨ak,e4⟩
 ·intro b o U hn hx;obtain⟨o',e2⟩:=M.there b o U hx;exact O.free b o' e2 (M.free b o U hn hx) hx
 ·intro b o U hx;obtain⟨o',e2⟩:=M.there b o U hx;by_cases hb:b∈frs outer
  ·obtain⟨o2,e3⟩:=O.there b o' e2 hx;obtain⟨ak,e4⟩:=ai b _ e3 (nd b hb _ e3);exact⟨_,e4⟩
  ·obtain⟨o2,e3⟩:=Z b o' e2 (aa b o U hb);exact⟨o2,ae.1 b o2 e3⟩
 ·exact fun b xs e=>O.tups b xs (M.tups b xs e)
 ·exact fun b o u e=>O.frzs b o u (M.frzs b o u e)
 ·intro b ps e;obtain⟨m1,U⟩:=M.tbls b ps e;obtain⟨m2,e2⟩:=O.tbls b _ U;exact⟨m1++m2,by rw [<-Array.append_assoc];exact e2⟩
 ·intro b o U hb;obtain⟨o',e2⟩:=M.there b o U (by simp)
  exact Z b o' e2 (aa b o U hb)
theorem passF {X:Cx}:Yy (CX1 X.prog X.w) X E0:=fun _ _ _ _ _ _ _ h=>by
 obtain⟨_,_,_,_,_,_,_,_,_,_,_,_,_,z⟩:=h;exact False.elim z
end L2
namespace L2
open PySem PyProof.Rows
theorem Tk.updI {H:Hp}{p C dx L B:Addr}{xs ys:List (Str×V)}(h:H p=some (.ins C dx xs)):Tk H (upd H p (.ins L B ys)):=
 ⟨fun b zs e=>by rw [qi (fun z=>by rw [z,h] at e;cases e)];exact e,fun b zs e=>⟨zs,by rw [qi (fun z=>by rw [z,h] at e;cases e)];exact e⟩,fun b zs e=>⟨zs,by rw [qi (fun z=>by rw [z,h] at e;cases e)];exact e⟩⟩
def okHd:D->Bool
 | .non=>true
 |d=>trD d
section
variable {X:Cx}
def rInM (K:PySem.W.Frag):V->V->Hp->VK->Prop:=fun x y H Q=>∃(d:D) (p:Addr) (ls:List Str),Is H d x/\y= .ref p/\(SqL K H p (ls.map V.str)∨SqT K H p (ls.map V.str))/\(∀z∈ls,z.length<=1000)/\okHd d=true/\dp d<=60/\Q (.bl (ls.any fun z=>eqD d (.str z))) H
theorem flat_ss (us:List Str):(us.map V.str).all X2=true:=by
 rw [Ug,V5];exact fun _ _=>rfl
theorem op_inM (hu:X.A.units+64<cLine):OpR X (compareOp .In) (rInM X.K):=by
 intro pins s σ H x y v u Q I Y Z h;obtain⟨d,p,B,hd,rfl,L,aa,hk,hp,q⟩:=h;cases d with
 |non=>
  cases(show x= .non from hd)
  refine xl pins s σ H .non _ v u Q I Y Z ⟨p,_,rfl,L,rfl,flat_ss _,?_⟩;have e:inV .non (B.map V.str)=B.any fun z=>eqD .non (.str z):=by
   unfold inV;rw [UJ]
   rfl
  rw [if_neg ug,e];exact q
 |str a=>
  obtain⟨rfl,_⟩:=hd;refine xl pins s σ H _ _ v u Q I Y Z ⟨p,_,rfl,L,rfl,flat_ss _,?_⟩;have e:inV (.str a) (B.map V.str)=B.any fun z=>eqD (.str a) (.str z):=by
   unfold inV;rw [UJ];refine congrArg (fun f=>B.any f) (funext fun z=> ?_);show(z==a)=(a==z);rw [vK,UY,UY];exact eq_comm
  rw [if_neg ug,e];exact q
 |tup xs=>
  have e:(B.any fun z=>eqD (.tup xs) (.str z))=false:=by
   rw [List.any_eq_false];intro z _;simp [eqD]
  rw [e] at q;obtain⟨U,vs,rfl,ha,hl⟩:=hd;cases Y;cases Z;obtain⟨ab,ac,ad,_⟩:=I.tuple (.inl (.of ha));have ae:X.A.units<cLine:=by omega
  have key:∀{its:List Value},Vals (B.map V.str) its->∀w∈its,∀A:Around,A.units+1<cLine->SeqAt.EqAt A s w (.ref U) false:=by
   intro its r w M A hA;obtain⟨j,hj⟩:=List.mem_iff_getElem?.mp M;have O:j<B.length:=by
    have:=(List.getElem?_eq_some_iff.mp hj).1;have:=r.length;rw [uc] at this;omega
   obtain⟨u',e1,e2⟩:=r.get (i:=j) (x:=V.str B[j]) (by rw [uj,u0 O];rfl)
   rw [hj] at e1;cases e1;have:=eqAt_D I 1 (.str B[j]) (.tup xs) (.str B[j]) (.ref U) _ (.ref U) A (by simp [dp]) rfl (by simpa [okHd,trD,puD] using hk) ⟨rfl,by have:=aa _ (uN O);rw [sizeLine_eq];omega⟩ ⟨U,vs,rfl,ha,hl⟩ e2 rfl (by omega)
   simpa [eqD] using this
  rcases L with L|L
  ·obtain⟨its,r,pl,hz⟩:=I.list L;refine SeqAt.in_listAt (fun _=>false) pl.isList (fun w M=>key r w (by simpa using M) _ ?_) ⟨.bl _,H,I,rfl,?_⟩
   ·first|omega|(rw [ur];omega)|(rw [ur,ur];omega)|(rw [ur,ur,ur];omega)
   ·rw [show its.toArray.any (fun _=>false)=false by rw [List.any_toArray];exact List.any_eq_false.mpr fun _ _=>ug]
    exact q
  ·obtain⟨its,r,pl,hz⟩:=I.tuple L;refine SeqAt.in_tupleAt (fun _=>false) pl (fun w M=>key r w (by simpa using M) _ ?_) ⟨.bl _,H,I,rfl,?_⟩
   ·first|omega|(rw [ur];omega)|(rw [ur,ur];omega)|(rw [ur,ur,ur];omega)
   ·rw [show its.toArray.any (fun _=>false)=false by rw [List.any_toArray];exact List.any_eq_false.mpr fun _ _=>ug]
    exact q
 |_=>simp [okHd,trD] at hk
end
section
variable {X:Cx}{pins:List (Addr×Obj)}{σ:St}{H:Hp}{s:Shared}
def rNeN (K:PySem.W.Frag):R2:=fun x y H Q=>∃(a b:Addr) (xs:List V),x= .ref a/\y= .ref b/\SqL K H a xs/\SqL K H b []/\Q (.bl (decide (xs≠ []))) H
theorem op_neN (hu:X.A.units<cLine):OpR X (compareOp .NotEq) (rNeN X.K):=by
 intro pins s σ H x y v u Q I L M h;obtain⟨a,b,xs,rfl,rfl,ha,O,q⟩:=h;cases L;cases M;obtain⟨its,r,p,_⟩:=I.list ha;obtain⟨B,U,p2,_⟩:=I.list O;cases U;cases r with
 |nil=>
  rw [u8 (by simp)] at q
  exact(SeqAt.RcNeAt.lists (e:=fun _=>true) p.isList p2.isList rfl hu fun j h1 _=>absurd h1 (vN _)) X.prog X.w X.xe _ ⟨.bl false,H,I,rfl,q⟩
 |cons h1 h2=>
  rw [ue (by simp)] at q
  exact(SeqAt.RcNeAt.lists_lengths p.isList p2.isList (by simp) hu) X.prog X.w X.xe _ ⟨.bl true,H,I,rfl,q⟩
end
end L2
namespace L2
open PySem PySem.Spec PyProof.Rows
open Builtin.Int (intBits)
theorem Jz:∀(ns:List Int) (x:Int),x∈ns->PySem.W.WData.weight (.int x)<=PySem.W.WData.weightAll (ns.map PySem.W.WData.int)
 |n::ns,x,h=>by
  rw [um];unfold PySem.W.WData.weightAll;rcases List.mem_cons.mp h with rfl|h
  ·omega
  ·have:=Jz ns x h;omega
theorem YD {ns:List Int}(h:PySem.W.WData.layableAll [PySem.W.WData.list (ns.map PySem.W.WData.int)]=true){x:Int}(hx:x∈ns):intBits x<=1048576:=by
 have h1:PySem.W.WData.layable (PySem.W.WData.list (ns.map PySem.W.WData.int))=true:=by
  unfold PySem.W.WData.layableAll at h
  simpa using h
 unfold PySem.W.WData.layable at h1;rw [Bool.and_eq_true] at h1;have h2:PySem.W.WData.weight (PySem.W.WData.list (ns.map PySem.W.WData.int))<=2^20:=uk h1.2;unfold PySem.W.WData.weight at h2;have B:=Jz ns x hx;unfold PySem.W.WData.weight at B;have h4:intBits x=if(x==0)=true then 0 else x.natAbs.log2+1:=by
  unfold intBits;simp
 rw [h4];omega
end L2
namespace Att
open PySem PySem.W PySem.Calls PyProof.Rows
open Builtin.Int (intBits)
open L2 (YD)
theorem attach_callB {l:OpenLaw}{n:Nat}{q:Program}{B:List Str}{XP:(Str->Option Value)->Heap->Prop}{YP:World->Heap->Prop}{d:DefRec}
  (hn:l.most=some n) (aa:d.params.defaults= [])
  (call:∀(w:World) (s₀ L:Shared) (mg mb:Str->Option Value) (fa:Addr) (o:Obj) (pm Z doc:Value) (a:Addr) (vs:List Value) (ns:List Int),
   Ground q B [] XP w s₀ mg mb L.heap->YP w L.heap->
   L.heap.get? fa=some o->o.data= .func (docDef d.name d.params d.body d.scope pm Z doc)->L.heap.CodeRec Z d.name->mg d.name=some (.ref fa)->
   L.heap.get? a=some {cls:= .type "list",data:= .seq vs.toArray}->IntsAre vs ns->ns.length<=n->(∀x∈ns,intBits x<=1048576)->L.gens= #[]->
   codeAny (model l.prog w) callerA (.call (.ref fa) ⟨[.ref a],[]⟩) (fun r s'=>r= .ok (.ret (.bool true))/\OldK L.heap s'.heap/\s'.os=L.os/\AllBare s'.gens) L):
  WalkO q B XP YP l.row.toRowW d [] (fun f vs=>PySem.call f vs):=by
 intro w s₀ L mg mb G Y fa o pm Z doc dV kV ho hd ab hD ac hg args ad as hpre hlay hrd hwl hlo;obtain rfl:dV= .none:=Dflts.none hD aa;obtain rfl:kV= .none:=Dflts.noKw hD;obtain⟨a,vs,ns,rfl,rfl,O,M,U⟩:=script_of hn hpre hwl;refine enter_call (Uf (call w s₀ L mg mb fa o pm Z doc a vs ns G Y ho (fd_plain hd) ab ac O M U (fun x hx=>YD hlay hx) hg) fun r s' hq=> ?_);obtain⟨rfl,h2,h3,h4⟩:=hq;exact⟨.inl ⟨.bool true,.bool true,[],rfl,fun _=>rfl,.bool true,post_true l _,fun _=>⟨List.Pairwise.nil,fun _ hm=>(nomatch hm)⟩⟩,h2,h3,h4⟩
end Att
namespace L2
open PySem PySem.Spec PyProof.Rows
open Builtin.Int (intBits)
theorem walk_ofB {l:PySem.W.OpenLaw}{n k:Nat}{q:Program}{L:List Str}{XP:(Str->Option Value)->Heap->Prop}{YP:World->Heap->Prop}{d:DefRec}{K:Params->PySem.W.Frag}{CX:CXT}{sp:PySem.W.Frag->Sp}{x:Str}
  (hn:l.most=some n) (aa:n<=sizeLine) (ab:d.params.defaults= []) (hr:Room k callerA)
  (hY:∀(w:World) (h:Heap),YP w h->(K w.params).In h)
  (F:∀(w:World) (mg:Str->Option Value) (fa:Addr) (h:Heap),(K w.params).In h->h.Ns mainGlobals mg->mg d.name=some (.ref fa)->
   ∃fd:FuncData,(∀(s:Shared) (u:Value),BindsTo s fd ⟨[u],[]⟩ [(x,u)])/\fd.scope.names.lookup x=some .local/\
    ∀base:Heap,(K w.params).In base->base.Ns mainGlobals mg->FnOk l.prog w (K w.params) mg base CX k fa fd [x] (sp (K w.params)))
  (ac:∀(w:World) (H:Hp) (a:Addr) (ns:List Int),ns.length<=n->(∀x∈ns,intBits x<=1048576)->Only H->SqL (K w.params) H a (ns.map V.int)->sp (K w.params) [.ref a] H (fun v _=>v= .bl true) fun _ _ _=>False)
  (ad:∀(H:Hp) (s:Shared) (e:Value) (s':Shared),CX [] H s (fun _ _ _=>False) e s'->False):
  PySem.W.WalkO q L XP YP l.row.toRowW d [] (fun f vs=>PySem.call f vs):=by
 refine Att.attach_callB hn ab fun w s₀ s₁ mg mb fa o pm cd doc a vs ns G Y ho hd af ae O M B U hg=> ?_;have KX:=hY w _ Y;obtain⟨fd,hb,Z,hF⟩:=F w mg fa _ KX G.T.g ae;exact law_call KX G.T.g G.T.b G.T.builtins G.T.nolimit hg O M (v8 B aa) hr hF hb Z (fun H hO hS=>ac w H a ns B U hO hS) fun H e s'=>ad H s₁ e s'
end L2
namespace L2
open PySem PySem.Spec PyProof.Rows
mutual
def nD:D->Bool
 | .non=>true
 | .str _=>true
 | .int _=>true
 | .tup xs=>nL xs
 |_=>false
def nL:List D->Bool
 | []=>true
 |x::r=>nD x&&nL r
end
theorem nL_get:∀{xs:List D}{j:Nat}{x:D},nL xs=true->xs[j]? =some x->nD x=true
 | [],_,_,_,e=>by simp at e
 |y::r,0,x,h,e=>by
  have h':nD y=true/\nL r=true:=by simpa [nL] using h
  have:y=x:=by simpa using e
  exact this▸h'.1
 |y::r,j+1,x,h,e=>by
  have h':nD y=true/\nL r=true:=by simpa [nL] using h
  exact nL_get h'.2 (by simpa using e)
section
variable {X:Cx}{pins:List (Addr×Obj)}{σ:St}{H:Hp}{s:Shared}
theorem parts_R {xs:List D}{vs us:List V}{its its':List Value}{A:Around}(hd:nL xs=true)(O:IsL H xs vs)(L:IsL H xs us)(U:Vals vs its)(M:Vals us its')
  (ih:∀x∈xs,∀(v u:V) (a b:Value),nD x=true->Is H x v->Is H x u->RelV v a->RelV u b->SeqAt.EqAt A s a b true):
  ∀j (Y:j<its.toArray.size) (a2:j<its'.toArray.size),SeqAt.EqAt A s its.toArray[j] its'.toArray[j] true:=fun j Y a2=>by
 have Z:its.length=xs.length:=by rw [<-U.length,O.length]
 have l2:its'.length=xs.length:=by rw [<-M.length,L.length]
 have B:j<xs.length:=by rw [<-Z];simpa using Y
 obtain⟨v1,e1,i1⟩:=O.get (i:=j) (d:=xs[j]) (by simp [B])
 obtain⟨v2,e2,i2⟩:=L.get (i:=j) (d:=xs[j]) (by simp [B])
 obtain⟨b1,f1,g1⟩:=U.get e1;obtain⟨b2,f2,g2⟩:=M.get e2;have k1:its.toArray[j]=b1:=by
  have:=f1;rw [u0 (by rw [Z];exact B)] at this
  simpa using this
 have k2:its'.toArray[j]=b2:=by
  have:=f2;rw [u0 (by rw [l2];exact B)] at this
  simpa using this
 rw [k1,k2];exact ih _ (uN B) _ _ _ _ (nL_get (j:=j) hd (by simp [B])) i1 i2 g1 g2
theorem all_true (n:Nat):(List.range n).all (fun _=>true)=true:=by simp
theorem eqAt_R (I:Inv X pins σ H s):∀(n:Nat) (d:D) (v u:V) (a b:Value) (A:Around),dp d<=n->nD d=true->Is H d v->Is H d u->RelV v a->RelV u b->A.units+n<cLine->SeqAt.EqAt A s a b true:=by
 intro n
 induction n with
 |zero=>
  intro d v u a b A hn hd h1 h2 B L hu;cases d with
  |int z=>
   cases(show v= .int z from h1)
   cases(show u= .int z from h2)
   obtain⟨t,rfl⟩:=B;obtain⟨t',rfl⟩:=L;have:=Ur (A:=A) (s:=s) z t z t'
   simpa using this
  |non=>
   cases(show v= .non from h1)
   cases(show u= .non from h2)
   cases B;cases L;exact Ud _
  |str z=>simp [dp] at hn
  |tup xs=>simp [dp] at hn
  |_=>simp [nD] at hd
 |succ n U=>
  intro d v u a b A hn hd h1 h2 B L hu;have Y:A.units<cLine:=UQ (V4 _ _) hu;cases d with
  |int z=>exact U (.int z) v u a b A (uv _) hd h1 h2 B L (by omega)
  |non=>exact U .non v u a b A (uv _) hd h1 h2 B L (by omega)
  |str z=>
   obtain⟨rfl,_⟩:=(show v= .str z/\_ from h1)
   obtain⟨rfl,_⟩:=(show u= .str z/\_ from h2)
   obtain⟨t,rfl⟩:=B;obtain⟨t',rfl⟩:=L;have:=UP (A:=A) (s:=s) z t z t'
   simpa using this
  |tup xs=>
   have hm:dpL xs<=n:=by
    have:dp (.tup xs)=1+dpL xs:=by simp only [dp]
    omega
   obtain⟨p,vs,rfl,hp,hl⟩:=(show∃p vs,v=V.ref p/\H p=some (.tup vs)/\IsL H xs vs from h1)
   obtain⟨p',us,rfl,Z,M⟩:=(show∃p vs,u=V.ref p/\H p=some (.tup vs)/\IsL H xs vs from h2)
   cases B;cases L;by_cases hv:p=p'
   ·subst hv;exact Ud _
   ·obtain⟨its,rv,q,_⟩:=I.tuple (.inl (.of hp));obtain⟨its',O,q',_⟩:=I.tuple (.inl (.of Z));have l1:its.length=xs.length:=by rw [<-rv.length,hl.length]
    have l2:its'.length=xs.length:=by rw [<-O.length,M.length]
    have key:=UZ (e:=fun _=>true) q q' Y (parts_R (by simpa [nD] using hd) hl M rv O fun x hx v u a b k1 k3 k4 k5 k6=>U x v u a b A.in1 ((ye xs).mp hm x hx) k1 k3 k4 k5 k6 (by rw [ur];omega))
    rw [all_true,u9,u9,l1,l2] at key;exact Ut hv (by simpa using key)
  |_=>simp [nD] at hd
theorem op_eqLR (hu:X.A.units+64<cLine):OpR X (compareOp .Eq) (fun x y H Q=>∃(l m:Addr) (vs us:List V) (ds:List D),x= .ref l/\y= .ref m/\SqL X.K H l vs/\SqL X.K H m us/\IsL H ds vs/\IsL H ds us/\nL ds=true/\dpL ds<=60/\Q (.bl true) H):=by
 intro pins s σ H x y v u Q I Y Z h;obtain⟨l,m,vs,us,ds,rfl,rfl,hl,hm,M,O,hn,hd,q⟩:=h;cases Y;cases Z;obtain⟨its,U,pl,_⟩:=I.list hl;obtain⟨its',B,L,_⟩:=I.list hm;have l1:its.length=ds.length:=by rw [<-U.length,M.length]
 have l2:its'.length=ds.length:=by rw [<-B.length,O.length]
 refine SeqAt.eq_listAt (e:=fun _=>true) pl.isList L.isList (by rw [u9,u9,l1,l2]) (by omega) (parts_R hn M O U B fun x hx v u a b k1 k3 k4 k5 k6=>eqAt_R I 60 x v u a b X.A.in1 ((ye ds).mp hd x hx) k1 k3 k4 k5 k6 (by rw [ur];omega)) ⟨.bl true,H,I,?_,q⟩
 rw [all_true]
 rfl
end
end L2
namespace AwZ
open PySem PySem.Spec PyProof.Rows
theorem tc_enum0 (a:Value):checkTypeCall "enumerate" ⟨[a],[]⟩=pure Unit.unit:=by kernel_rfl
theorem nc_enum0 (a:Value):checkBuiltinCall "enumerate.__new__" ⟨[.type "enumerate",a],[]⟩=pure Unit.unit:=by kernel_rfl
theorem enum0_made (l:Addr)(its:Array Value):Meets (Builtin.«enumerate.__new__» ⟨[.type "enumerate",.ref l],[]⟩) (fun _ R s=>s.heap.IsTuple l its/\
   R (.ok (.ret (.ref (q1 s.heap l).objs.size))) {s with heap:=(q1 s.heap l).push {cls:= .type "enumerate",data:= .fields #[.none,.bool false,.ref s.heap.objs.size,rawInt 0,.none,.none]}}):=
 .of_wp fun prog w A R s h=>by
  obtain⟨B,g,d,tk,os⟩:=s;obtain⟨L,h⟩:=h;have sub:=sub_enumerate;have h1:Heap.IsTuple (Shared.heap ⟨B,g,d,tk,os⟩) l its:=L
  wp_walk
  refine wpAny_stack_any fun st=>wpAny_pure ?_;split
  ·rename_i c _ _ _ _ _
   cases(c==Value.type "enumerate")
   ·wp_walk using U3 h1
    exact⟨_,rfl,h⟩
   ·wp_walk using U3 h1
    exact⟨_,rfl,h⟩
  ·wp_walk using U3 h1
   exact⟨_,rfl,h⟩
end AwZ
namespace L2
open PySem PySem.Spec PyProof.Rows
section
variable {X:Cx}{pins:List (Addr×Obj)}{σ:St}{H:Hp}{s:Shared}
def iEn0 (K:PySem.W.Frag)(te:TE):TI:=fun σ H R=>te σ H fun x H2=>∃a xs,x= .ref a/\SqT K H2 a xs/\(xs.length<=sizeLine->R (Ite K a 0) H2)
theorem pi_enum0 {L:List Expr}{c:Nat}{Z p pos:Pos}{e:Expr}{te:TE}(hg:Gl X "enumerate")(hm:X.mg "enumerate"=none)(he:PE X e te)(Y:starEach [e] X.env= [(false,eval e X.env)]:=by rfl):
  PI X (.Tuple L c Z) (.Call (.Name "enumerate" p) [e] [] pos) (iEn0 X.K te):=by
 intro pins s σ H R I h;have ha:PA X [e] (j6 te tNil):=qa he qc Y;refine Call_ (jU I hg hm boot_enumerate (vV (thn (ha pos pins s σ H (fun vs H2=>match vs with| [x]=>∃a xs,x= .ref a/\SqT X.K H2 a xs/\(xs.length<=sizeLine->R (Ite X.K a 0) H2)|_=>False) I h) fun us s2 ⟨vs,H2,O,U,q1⟩=> ?_) (by rw [Y];rfl) ()))
 match vs,U,q1 with
 | [x],U,q1=>
 obtain⟨a,xs,rfl,hA,q⟩:=q1;obtain⟨u,rfl,ru⟩:=QW U;cases ru;obtain⟨its,ra,pa,za⟩:=O.tuple hA;refine AwZ.new_kw (kw:= []) F.called_enumerate (by decide) (AwZ.tc_enum0 _) (AwZ.nc_enum0 _) (fun obj=>F.args_object_init_2 _ _) F.entry_enumerate_new (AwZ.enum0_made a its.toArray) ⟨show s2.heap.IsTuple a its.toArray from pa,?_⟩
 have hz:(AwZ.q1 s2.heap a).objs.size=s2.heap.objs.size+1:=vw ..;have B:IsEnum ((AwZ.q1 s2.heap a).push {cls:= .type "enumerate",data:= .fields #[.none,.bool false,.ref s2.heap.objs.size,rawInt 0,.none,.none]}) (AwZ.q1 s2.heap a).objs.size s2.heap.objs.size 0 .none:=uf _ rfl;refine⟨⟨_,B,rfl⟩,?_⟩;refine wpAny_pyIter_enum (s:={s2 with heap:=_}) B ?_
 refine⟨_,[(AwZ.q1 s2.heap a).objs.size,s2.heap.objs.size],_,_,H2,rfl,O.kept (t':=s2.toks) (fun b o e=>u7 _ (u7 _ e)),turn_enum a _ _ 0,⟨⟨.none,B⟩,⟨_,u7 _ (uf _ rfl),rfl,rfl⟩,fun e=>V3 (UF _) (hz.symm.trans e)⟩,fun x hx=> ?_,q za⟩;have M:s2.heap.objs.size<=x:=by
  simp only [uP,v6,UA] at hx;exact two_le hz hx
 exact O.fpOk M (O.hok.fresh M)
mutual
def eqN:D->D->Bool
 | .non,.non=>true
 | .str a,.str b=>a==b
 | .int a,.int b=>a==b
 | .tup xs,.tup ys=>eqNL xs ys
 |_,_=>false
def eqNL:List D->List D->Bool
 | [],[]=>true
 |x::r,y::q=>eqN x y&&eqNL r q
 |_,_=>false
end
mutual
theorem Ql:∀{d e:D},nD d=true->(eqN d e=true↔d=e)
 | .non,e,_=>by cases e<;>simp [eqN]
 | .str a,e,_=>by cases e<;>simp [eqN]
 | .int a,e,_=>by cases e<;>simp [eqN]
 | .tup xs,.tup ys,h=>by
  have:=eqNL_iff (xs:=xs) (ys:=ys) (by simpa [nD] using h)
  simp only [eqN,this,D.tup.injEq]
 | .tup xs,.non,_=>by simp [eqN]
 | .tup xs,.bl _,_=>by simp [eqN]
 | .tup xs,.int _,_=>by simp [eqN]
 | .tup xs,.str _,_=>by simp [eqN]
 | .tup xs,.lst,_=>by simp [eqN]
 | .tup xs,.dct,_=>by simp [eqN]
 | .bl _,_,h=>by simp [nD] at h
 | .lst,_,h=>by simp [nD] at h
 | .dct,_,h=>by simp [nD] at h
theorem eqNL_iff:∀{xs ys:List D},nL xs=true->(eqNL xs ys=true↔xs=ys)
 | [],[],_=>by simp [eqNL]
 | [],_::_,_=>by simp [eqNL]
 |_::_,[],_=>by simp [eqNL]
 |x::r,y::q,h=>by
  have h':nD x=true/\nL r=true:=by simpa [nL] using h
  simp only [eqNL,Bool.and_eq_true,Ql h'.1,eqNL_iff h'.2,List.cons.injEq]
end
mutual
theorem Is.detN {H:Hp}:∀{d e:D}{v:V},nD d=true->nD e=true->Is H d v->Is H e v->d=e
 | .non,e,v,_,he,h1,h2=>by
  cases(show v= .non from h1)
  cases e with
  |non=>rfl
  |str b=>obtain⟨q,_⟩:=(show V.non=V.str b/\_ from h2);cases q
  |int b=>cases(show V.non=V.int b from h2)
  |tup ys=>obtain⟨p,us,q,_⟩:=(show∃p us,V.non=V.ref p/\_ from h2);cases q
  |_=>simp [nD] at he
 | .str a,e,v,_,he,h1,h2=>by
  obtain⟨rfl,_⟩:=(show v= .str a/\_ from h1)
  cases e with
  |non=>cases(show V.str a=V.non from h2)
  |str b=>obtain⟨q,_⟩:=(show V.str a=V.str b/\_ from h2);cases q;rfl
  |int b=>cases(show V.str a=V.int b from h2)
  |tup ys=>obtain⟨p,us,q,_⟩:=(show∃p us,V.str a=V.ref p/\_ from h2);cases q
  |_=>simp [nD] at he
 | .int a,e,v,_,he,h1,h2=>by
  cases(show v= .int a from h1)
  cases e with
  |non=>cases(show V.int a=V.non from h2)
  |str b=>obtain⟨q,_⟩:=(show V.int a=V.str b/\_ from h2);cases q
  |int b=>cases(show V.int a=V.int b from h2);rfl
  |tup ys=>obtain⟨p,us,q,_⟩:=(show∃p us,V.int a=V.ref p/\_ from h2);cases q
  |_=>simp [nD] at he
 | .tup xs,e,v,hd,he,h1,h2=>by
  obtain⟨p,vs,rfl,M,O⟩:=(show∃p vs,v=V.ref p/\H p=some (.tup vs)/\IsL H xs vs from h1)
  cases e with
  |non=>cases(show V.ref p=V.non from h2)
  |str b=>obtain⟨q,_⟩:=(show V.ref p=V.str b/\_ from h2);cases q
  |int b=>cases(show V.ref p=V.int b from h2)
  |tup ys=>
   obtain⟨p',us,q,B,L⟩:=(show∃p' us,V.ref p=V.ref p'/\H p'=some (.tup us)/\IsL H ys us from h2)
   cases q;rw [M] at B;cases B;rw [IsL.detN (by simpa [nD] using hd) (by simpa [nD] using he) O L]
  |_=>simp [nD] at he
 | .bl _,_,_,hd,_,_,_=>by simp [nD] at hd
 | .lst,_,_,hd,_,_,_=>by simp [nD] at hd
 | .dct,_,_,hd,_,_,_=>by simp [nD] at hd
theorem IsL.detN {H:Hp}:∀{xs ys:List D}{vs:List V},nL xs=true->nL ys=true->IsL H xs vs->IsL H ys vs->xs=ys
 | [],[],_,_,_,_,_=>rfl
 | [],_::_,_,_,_,h1,h2=>by
  cases(show _= [] from h1)
  obtain⟨v,r,q,_⟩:=(show∃v r,[]=v::r/\_ from h2)
  cases q
 |_::_,[],_,_,_,h1,h2=>by
  cases(show _= [] from h2)
  obtain⟨v,r,q,_⟩:=(show∃v r,[]=v::r/\_ from h1)
  cases q
 |x::xs,y::ys,_,hd,he,h1,h2=>by
  obtain⟨v,r,rfl,M,O⟩:=h1;obtain⟨Z,r',q,U,Y⟩:=h2;cases q;have B:nD x=true/\nL xs=true:=by simpa [nL] using hd
  have L:nD y=true/\nL ys=true:=by simpa [nL] using he
  rw [Is.detN B.1 L.1 M U,IsL.detN B.2 L.2 O Y]
end
theorem XE:∀(xs ys:List D),eqNL xs ys=((List.range (min xs.length ys.length)).all (fun j=>eqN (xs.getD j .non) (ys.getD j .non))&&xs.length==ys.length)
 | [],[]=>by simp [eqNL]
 | [],_::_=>by simp [eqNL]
 |_::_,[]=>by simp [eqNL]
 |x::r,y::q=>by
  have B:=XE r q;rw [ul,ul,show min (r.length+1) (q.length+1)=min r.length q.length+1 by omega,Uq,U5,Ug]
  have e:(List.range (min r.length q.length)).all ((fun j=>eqN ((x::r).getD j .non) ((y::q).getD j .non))∘Nat.succ)=(List.range (min r.length q.length)).all fun j=>eqN (r.getD j .non) (q.getD j .non):=by congr 1
  rw [e];have L:(r.length+1==q.length+1)=(r.length==q.length):=by rw [vK];simp
  rw [L,Bool.and_assoc,<-B]
  rfl
theorem eqAt_nonN (I:Inv X pins σ H s){e:D}{u:V}{b:Value}{A:Around}(L:nD e=true)(h2:Is H e u)(B:RelV u b)(hu:A.units<cLine):SeqAt.EqAt A s .none b (eqN .non e):=by
 cases e with
 |non=>
  cases(show u= .non from h2)
  cases B;exact Ud _
 |str y=>
  obtain⟨rfl,_⟩:=(show u= .str y/\_ from h2)
  obtain⟨M,rfl⟩:=B;exact SeqAt.EqAt.none_str _ _
 |int y=>
  cases(show u= .int y from h2)
  obtain⟨M,rfl⟩:=B;exact SeqAt.EqAt.none_int _ _
 |tup ys=>
  obtain⟨p,us,rfl,O,U⟩:=(show∃p us,u=V.ref p/\H p=some (.tup us)/\IsL H ys us from h2)
  cases B;obtain⟨its,_,q,_⟩:=I.tuple (.inl (.of O));exact SeqAt.EqAt.none_tuple q hu
 |_=>simp [nD] at L
theorem eqAt_strN (I:Inv X pins σ H s){z:Str}{t:Tok}{e:D}{u:V}{b:Value}{A:Around}(L:nD e=true)(h2:Is H e u)(B:RelV u b)(hu:A.units<cLine):SeqAt.EqAt A s (.str z t) b (eqN (.str z) e):=by
 cases e with
 |non=>
  cases(show u= .non from h2)
  cases B;exact SeqAt.EqAt.str_none _ _
 |str y=>
  obtain⟨rfl,_⟩:=(show u= .str y/\_ from h2)
  obtain⟨M,rfl⟩:=B;exact UP _ _ _ _
 |int y=>
  cases(show u= .int y from h2)
  obtain⟨M,rfl⟩:=B;exact UN _ _ _ _
 |tup ys=>
  obtain⟨p,us,rfl,O,U⟩:=(show∃p us,u=V.ref p/\H p=some (.tup us)/\IsL H ys us from h2)
  cases B;obtain⟨its,_,q,_⟩:=I.tuple (.inl (.of O));exact SeqAt.EqAt.str_tuple _ _ q hu
 |_=>simp [nD] at L
theorem eqAt_intN (I:Inv X pins σ H s){z:Int}{t:Tok}{e:D}{u:V}{b:Value}{A:Around}(L:nD e=true)(h2:Is H e u)(B:RelV u b)(hu:A.units<cLine):SeqAt.EqAt A s (.int z t) b (eqN (.int z) e):=by
 cases e with
 |non=>
  cases(show u= .non from h2)
  cases B;exact SeqAt.EqAt.int_none _ _
 |str y=>
  obtain⟨rfl,_⟩:=(show u= .str y/\_ from h2)
  obtain⟨M,rfl⟩:=B;exact UM _ _ _ _
 |int y=>
  cases(show u= .int y from h2)
  obtain⟨M,rfl⟩:=B;exact Ur _ _ _ _
 |tup ys=>
  obtain⟨p,us,rfl,O,U⟩:=(show∃p us,u=V.ref p/\H p=some (.tup us)/\IsL H ys us from h2)
  cases B;obtain⟨its,_,q,_⟩:=I.tuple (.inl (.of O));exact SeqAt.EqAt.int_tuple _ _ q hu
 |_=>simp [nD] at L
theorem parts_N {xs ys:List D}{vs us:List V}{its its':List Value}{A:Around}(hd:nL xs=true)(he:nL ys=true)(U:IsL H xs vs)(B:IsL H ys us)(Y:Vals vs its)(L:Vals us its')
  (ih:∀x∈xs,∀(e:D) (v u:V) (a b:Value),nD x=true->nD e=true->Is H x v->Is H e u->RelV v a->RelV u b->SeqAt.EqAt A s a b (eqN x e)):
  ∀j (Z:j<its.toArray.size) (a2:j<its'.toArray.size),SeqAt.EqAt A s its.toArray[j] its'.toArray[j] (eqN (xs.getD j .non) (ys.getD j .non)):=fun j Z a2=>by
 have l1:its.length=xs.length:=by rw [<-Y.length,U.length]
 have l2:its'.length=ys.length:=by rw [<-L.length,B.length]
 have M:j<xs.length:=by rw [<-l1];simpa using Z
 have O:j<ys.length:=by rw [<-l2];simpa using a2
 obtain⟨v1,e1,i1⟩:=U.get (i:=j) (d:=xs[j]) (by simp [M])
 obtain⟨v2,e2,i2⟩:=B.get (i:=j) (d:=ys[j]) (by simp [O])
 obtain⟨b1,f1,g1⟩:=Y.get e1;obtain⟨b2,f2,g2⟩:=L.get e2;have k1:its.toArray[j]=b1:=by
  have:=f1;rw [u0 (by rw [l1];exact M)] at this
  simpa using this
 have k2:its'.toArray[j]=b2:=by
  have:=f2;rw [u0 (by rw [l2];exact O)] at this
  simpa using this
 have d1:xs.getD j .non=xs[j]:=by simp [List.getD,M]
 have d2:ys.getD j .non=ys[j]:=by simp [List.getD,O]
 rw [k1,k2,d1,d2];exact ih _ (uN M) _ _ _ _ _ (nL_get (j:=j) hd (by simp [M])) (nL_get (j:=j) he (by simp [O])) i1 i2 g1 g2
theorem eqAt_tupN (I:Inv X pins σ H s){xs:List D}{e:D}{v u:V}{a b:Value}{A:Around}(hd:nD (.tup xs)=true)(O:nD e=true)(h1:Is H (.tup xs) v)(h2:Is H e u)(r1:RelV v a)(B:RelV u b)(hu:A.units<cLine)
  (ih:∀x∈xs,∀(e:D) (v u:V) (a b:Value),nD x=true->nD e=true->Is H x v->Is H e u->RelV v a->RelV u b->SeqAt.EqAt A.in1 s a b (eqN x e)):SeqAt.EqAt A s a b (eqN (.tup xs) e):=by
 obtain⟨p,vs,rfl,hp,Z⟩:=(show∃p vs,v=V.ref p/\H p=some (.tup vs)/\IsL H xs vs from h1)
 cases r1;obtain⟨its,rv,q,_⟩:=I.tuple (.inl (.of hp));cases e with
 |non=>
  cases(show u= .non from h2)
  cases B;exact SeqAt.EqAt.tuple_none q hu
 |str y=>
  obtain⟨rfl,_⟩:=(show u= .str y/\_ from h2)
  obtain⟨t2,rfl⟩:=B;exact SeqAt.EqAt.tuple_str _ _ q hu
 |int y=>
  cases(show u= .int y from h2)
  obtain⟨t2,rfl⟩:=B;exact SeqAt.EqAt.tuple_int _ _ q hu
 |tup ys=>
  by_cases U:V.ref p=u
  ·have:=Is.detN (e:= .tup ys) hd O h1 (U▸h2);subst U;cases B;rw [<-this,(Ql hd).mpr rfl];exact Ud _
  ·obtain⟨p',us,rfl,Y,L⟩:=(show∃p' us,u=V.ref p'/\H p'=some (.tup us)/\IsL H ys us from h2)
   cases B;obtain⟨its',M,q',_⟩:=I.tuple (.inl (.of Y));have l1:its.length=xs.length:=by rw [<-rv.length,Z.length]
   have l2:its'.length=ys.length:=by rw [<-M.length,L.length]
   have key:=UZ (e:=fun j=>eqN (xs.getD j .non) (ys.getD j .non)) q q' hu (parts_N (by simpa [nD] using hd) (by simpa [nD] using O) Z L rv M ih)
   have e1:eqN (.tup xs) (.tup ys)=((List.range (min its.toArray.size its'.toArray.size)).all (fun j=>eqN (xs.getD j .non) (ys.getD j .non))&&its.toArray.size==its'.toArray.size):=by
    rw [u9,u9,l1,l2,<-XE];simp only [eqN]
   rw [e1];exact Ut (fun z=>U (by rw [z])) key
 |_=>simp [nD] at O
theorem eqAt_N (I:Inv X pins σ H s):∀(n:Nat) (d e:D) (v u:V) (a b:Value) (A:Around),dp d<=n->nD d=true->nD e=true->Is H d v->Is H e u->RelV v a->RelV u b->A.units+n<cLine->SeqAt.EqAt A s a b (eqN d e):=by
 intro n
 induction n with
 |zero=>
  intro d e v u a b A hn hd L h1 h2 M O hu;cases d with
  |non=>
   cases(show v= .non from h1)
   cases M;exact eqAt_nonN I L h2 O hu
  |int z=>
   cases(show v= .int z from h1)
   obtain⟨t,rfl⟩:=M;exact eqAt_intN I L h2 O hu
  |str z=>simp [dp] at hn
  |tup xs=>simp [dp] at hn
  |_=>simp [nD] at hd
 |succ n U=>
  intro d e v u a b A hn hd L h1 h2 M O hu;have B:A.units<cLine:=UQ (V4 _ _) hu;cases d with
  |non=>
   cases(show v= .non from h1)
   cases M;exact eqAt_nonN I L h2 O B
  |int z=>
   cases(show v= .int z from h1)
   obtain⟨t,rfl⟩:=M;exact eqAt_intN I L h2 O B
  |str z=>
   obtain⟨rfl,_⟩:=(show v= .str z/\_ from h1)
   obtain⟨t,rfl⟩:=M;exact eqAt_strN I L h2 O B
  |tup xs=>
   have hm:dpL xs<=n:=by
    have:dp (.tup xs)=1+dpL xs:=by simp only [dp]
    omega
   exact eqAt_tupN I hd L h1 h2 M O B fun x hx e v u a b k1 k2 k3 Y k5 Z=>U x e v u a b A.in1 ((ye xs).mp hm x hx) k1 k2 k3 Y k5 Z (by rw [ur];omega)
  |_=>simp [nD] at hd
def rCmpN (g:Bool->Bool):R2:=fun x y H Q=>∃ds es:List D,Is H (.tup ds) x/\Is H (.tup es) y/\nL ds=true/\nL es=true/\dpL ds<=60/\Q (.bl (g (eqNL ds es))) H
theorem rc_N (I:Inv X pins σ H s){ds es:List D}{x y:V}{v u:Value}(h1:Is H (.tup ds) x)(h2:Is H (.tup es) y)(hn:nL ds=true)(M:nL es=true)(hd:dpL ds<=60)(rx:RelV x v)(ry:RelV y u)(hu:X.A.units+64<cLine):
  SeqAt.RcAt X.A s v u (eqNL ds es)/\SeqAt.RcNeAt X.A s v u (!eqNL ds es):=by
 obtain⟨p,vs,rfl,hp,U⟩:=(show∃p vs,x=V.ref p/\H p=some (.tup vs)/\IsL H ds vs from h1)
 obtain⟨p',us,rfl,O,B⟩:=(show∃p vs,y=V.ref p/\H p=some (.tup vs)/\IsL H es vs from h2)
 cases rx;cases ry;obtain⟨its,Y,q,_⟩:=I.tuple (.inl (.of hp));obtain⟨its',L,Z,_⟩:=I.tuple (.inl (.of O));have l1:its.length=ds.length:=by rw [<-Y.length,U.length]
 have l2:its'.length=es.length:=by rw [<-L.length,B.length]
 have pe:=parts_N (A:=X.A.in1) hn M U B Y L fun x hx e v u a b k1 k2 k3 k4 k5 k6=>eqAt_N I 60 x e v u a b X.A.in1 ((ye ds).mp hd x hx) k1 k2 k3 k4 k5 k6 (by rw [ur];omega)
 have e1:=UZ (e:=fun j=>eqN (ds.getD j .non) (es.getD j .non)) q Z (by omega) pe
 have e2:=SeqAt.RcNeAt.tuples (e:=fun j=>eqN (ds.getD j .non) (es.getD j .non)) q Z (by omega) pe
 rw [u9,u9,l1,l2,<-XE] at e1 e2;exact⟨e1,e2⟩
theorem Jj (hu:X.A.units+64<cLine):OpR X (compareOp .NotEq) (rCmpN not):=by
 intro pins s σ H x y v u Q I L M h;obtain⟨ds,es,h1,h2,hn,B,hd,q⟩:=h;exact(rc_N I h1 h2 hn B hd L M hu).2 X.prog X.w X.xe _ ⟨.bl _,H,I,rfl,q⟩
end
structure FF (K:PySem.W.Frag)(mg:Str->Option Value)(x:Str)(st:Stmt)(ps:List Str)(f:Addr)(fd:FuncData):Prop where
 F:Fun K x x st f fd
 b:yC K fd ps []
 m:mg x=some (.ref f)
structure FM (K:PySem.W.Frag)(C:Addr)(x q:Str)(st:Stmt)(ps:List Str)(f:Addr)(fd:FuncData):Prop where
 F:Fun K x q st f fd
 b:yC K fd ps []
 h:Meth K C x f
def FZ (K:PySem.W.Frag)(x q:Str)(st:Stmt)(f:Addr):Prop:=∃(oc kV dc pm cd ct:Value) (od an:Option Addr) (sl:Array (Option Value)),K.lookup f=some ⟨oc,od,.func (PySem.W.fnOf x q (YL st) (yO st) (qj st) .none kV dc pm an cd ct),sl⟩/\PySem.W.codeIn K cd q=true/\PySem.W.keepIn K (.ref f)=true
def FZg (K:PySem.W.Frag)(x:Str)(st:Stmt)(f:Addr):Prop:=PySem.W.nsIn K mainGlobals x=some (some (.ref f))/\FZ K x x st f
def FZm (K:PySem.W.Frag)(C:Addr)(x q:Str)(st:Stmt)(f:Addr):Prop:=PySem.W.findIn K (.ref C) x=some (some (.ref f))/\PySem.W.isFn K (.ref f)=true/\FZ K x q st f
def BOk (x q:Str)(st:Stmt)(ps:List Str):Prop:=∀(kV doc pm:Value) (an:Option Addr) (cdv ct:Value) (us:List Value),us.length=ps.length->bindArgs (PySem.W.fnOf x q (YL st) (yO st) (qj st) .none kV doc pm an cdv ct) ⟨us,[]⟩=pure (ps.zip us)
theorem Qm {K:PySem.W.Frag}{h:Heap}{mg:Str->Option Value}(X:K.In h)(G:h.Ns mainGlobals mg){x:Str}{st:Stmt}{f:Addr}(z:FZg K x st f)(ps:List Str)(B:BOk x x st ps):∃fd,FF K mg x st ps f fd:=by
 obtain⟨a,oc,kV,L,pm,M,ct,od,an,sl,l,c,k⟩:=z;have F:=fun_mk (st:=st) l c k;exact⟨_,F,F.binds B,va X G a⟩
theorem fm_of {K:PySem.W.Frag}{C:Addr}{x q:Str}{st:Stmt}{f:Addr}(z:FZm K C x q st f)(ps:List Str)(B:BOk x q st ps):∃fd,FM K C x q st ps f fd:=by
 obtain⟨a,i,oc,kV,L,pm,M,ct,od,an,sl,l,c,k⟩:=z;have F:=fun_mk (st:=st) l c k;exact⟨_,F,F.binds B,⟨a,i,k⟩⟩
theorem FF.law {K:PySem.W.Frag}{mg:Str->Option Value}{x:Str}{st:Stmt}{ps:List Str}{f:Addr}{fd:FuncData}(T:FF K mg x st ps f fd){y:Str}(h:∀(kV doc pm:Value) (an:Option Addr) (cdv ct u:Value),bindArgs (PySem.W.fnOf x x (YL st) (yO st) (qj st) .none kV doc pm an cdv ct) ⟨[u],[]⟩=pure [(y,u)])(s:Shared)(u:Value):BindsTo s fd ⟨[u],[]⟩ [(y,u)]:=by
 obtain⟨oc,od,kV,doc,pm,an,cdv,ct,osl,rfl,lk,B⟩:=T.F.ex;exact .of_eq (h kV doc pm an cdv ct u)
def txt? (u:Value):Option Str:=match u with
 | .str z _=>some z
 |_=>none
def TZ (K:PySem.W.Frag)(q:Addr)(l:List Str):Prop:=∃(d:Option Addr) (i:Array Value) (n:Nat) (sl:Array (Option Value)),K.lookup q=some ⟨.type "tuple",d,.seq i n,sl⟩/\i.toList.map txt? =l.map some
theorem strs_of:∀{l:List Str}{us:List Value},us.map txt? =l.map some->Vals (l.map V.str) us
 | [],[],_=> .nil
 |z::l,u::us,h=>by
  rw [um,um] at h;injection h with h1 h2
  cases u with
  |str y t=>
   have:y=z:=uo h1;subst this;exact .cons ⟨t,rfl⟩ (strs_of h2)
  |_=>cases h1
 | [],_::_,h=>by simp at h
 |_::_,[],h=>by simp at h
theorem TZ.sq {K:PySem.W.Frag}{H:Hp}{q:Addr}{l:List Str}(h:TZ K q l)(hz:l.length<=100):SqT K H q (l.map V.str):=by
 obtain⟨d,its,n,sl,L,e⟩:=h;have B:its.size=l.length:=by rw [<-Array.length_toList];simpa using congrArg List.length e
 exact .inr ⟨_,its,n,L,rfl,rfl,by rw [B];exact vU (QL (by omega)),strs_of e⟩
section
variable {X:Cx}
theorem vals_rev:∀{xs:List V}{us:List Value},Vals xs us->Vals xs.reverse us.reverse
 |_,_,.nil=> .nil
 |_,_,.cons h t=>by
  rw [List.reverse_cons,List.reverse_cons];exact(vals_rev t).append (.cons h .nil)
end
end L2
namespace L2
open PySem PyProof.Rows
theorem xN {t u:TS}{D:Ends}{σ:St}{H:Hp}(h:∀N:St->Hp->Prop,(∀B H',u D B H'->N B H')->t {D with nx:=N} σ H):tSeq t u D σ H:=h (u D) fun _ _ h=>h
mutual
def hvD (h:Heap):D->Value->Prop
 | .non,v=>v= .none
 | .str z,v=>∃t,v= .str z t
 | .tup ds,v=>∃a o items n,v= .ref a/\h.get? a=some o/\o.cls= .type "tuple"/\o.data= .seq items n/\hvL h ds items.toList
 |_,_=>False
def hvL (h:Heap):List D->List Value->Prop
 | [],vs=>vs= []
 |d::ds,vs=>∃v r,vs=v::r/\hvD h d v/\hvL h ds r
end
mutual
def hshD (w:World):D->Int
 | .non=>reduceHash 0xFCA86420
 | .str z=>hashStr w z
 | .tup ds=>reduceHash (Builtin.Tuple.tupleHashOf (hshL w ds))
 |_=>0
def hshL (w:World):List D->List Int
 | []=> []
 |d::ds=>hshD w d::hshL w ds
end
mutual
def drwD:D->Nat
 | .tup ds=>drwL ds+1
 |_=>1
def drwL:List D->Nat
 | []=>0
 |d::ds=>drwD d+drwL ds
end
theorem Xf (w:World):∀xs ys:List D,hshL w (xs++ys)=hshL w xs++hshL w ys
 | [],ys=>rfl
 |x::xs,ys=>by
  show hshD w x::hshL w (xs++ys)=hshD w x::(hshL w xs++hshL w ys);rw [Xf w xs ys]
theorem XH:∀xs ys:List D,drwL (xs++ys)=drwL xs+drwL ys
 | [],ys=>(Nat.zero_add _).symm
 |x::xs,ys=>by
  show drwD x+drwL (xs++ys)=drwD x+drwL xs+drwL ys;rw [XH xs ys,V7]
theorem hash_non {P:Program}{w:World}{E:Value->Shared->Prop}{A:Around}{s:Shared}{Q:Int->Shared->Prop}(h:Q (reduceHash 0xFCA86420) {s with toks:=s.toks+1}):wpAny (model P w) A (pyHash .none) Q E s:=
 PySem.W.pyHash_slot (T:="NoneType") rfl F.slot_NoneType_hash F.entry_NoneType_hash (F.args_NoneType_hash_1 _) (beq_builtin_none _) (.inl rfl) (wpAny_bind (wpAny_pure (wpAny_bind (wpAny_mkInt (wpAny_pure ⟨_,_,rfl,h⟩)))))
theorem hash_D {P:Program}{w:World}{E:Value->Shared->Prop}:∀(n:Nat) (d:D) (v:Value) (A:Around) (s:Shared) (Q:Int->Shared->Prop),dp d<=n->A.units+n<cLine->hvD s.heap d v->Q (hshD w d) {s with toks:=s.toks+drwD d}->wpAny (model P w) A (pyHash v) Q E s:=by
 intro n
 induction n with
 |zero=>
  intro d v A s Q hn hu B h;cases d with
  |non=>
   cases(show v= .none from B)
   exact hash_non h
  |str z=>simp [dp] at hn
  |tup ds=>simp [dp] at hn
  |_=>exact B.elim
 |succ n ih=>
  intro d v A s Q hn hu B h;cases d with
  |non=>
   cases(show v= .none from B)
   exact hash_non h
  |str z=>
   obtain⟨t,rfl⟩:=B;exact wpAny_pyHash_str h
  |tup ks=>
   obtain⟨a,o,items,m,rfl,Z,hc,hd,hi⟩:=B;have L:s.TypeIs (.ref a) "tuple":=⟨o,Z,hc⟩;have Y:A.units<cLine:=by omega
   unfold pyHash
   first|unfold pyHashByItsType|skip
   first|refine wpAny_bind (wpAny_cRoomFor_or (.inr Y) ?_)|skip
   refine wpAny_bind (wpAny_specialOf L F.slot_tuple_hash.lookup ?_);show wpAny _ _ (if(some (Value.builtin "tuple.__hash__")==some Value.none)=true then _ else _) Q E s
   rw [if_neg (by rw [beq_builtin_none];exact ug)]
   refine wpAny_bind (wpAny_specialOf L F.slot_tuple_hash.lookup ?_);show wpAny _ _ (callSpecialIfBoundUnlessNone? (.ref a) "__hash__" _>>=_) Q E s;refine wpAny_bind (wpAny_callSpecialIfBoundUnlessNone?_slot L F.slot_tuple_hash (uz F.slot_tuple_hash L F.entry_tuple_hash ?_ (F.args_tuple_hash_1 _)));show wpAny _ _ (Builtin.Tuple.tupleItemsOf (.ref a)>>=_) _ _ s;refine wpAny_bind (wpAny_tupleItemsOf Z hd ?_);refine wpAny_bind ?_;rw [<-Array.forIn_toList];refine vS _
    (fun rest (b:Array Int) s'=>∃done left,ks=done++left/\hvL s.heap left rest/\b.toList=hshL w done/\s'={s with toks:=s.toks+drwL done})
    _ ?_ ?_ _ _ ⟨[],ks,rfl,hi,rfl,rfl⟩
   ·rintro x rest b s' ⟨done,left,rfl,M,O,rfl⟩;cases left with
    |nil=>cases(show x::rest= [] from M)
    |cons k left=>
     obtain⟨v',r',e,h1,h2⟩:=M;cases e;have hk:dp k<=n:=by
      have:=(ye (k:=dpL (done++k::left)) (done++k::left)).mp (Nat.le_refl _) k (List.mem_append.mpr (.inr u5));simp only [dp] at hn;omega
     refine wpAny_bind (ih k _ _ _ _ hk ?_ h1 ?_)
     ·show A.units+1+n<cLine;omega
     ·first
       |exact wpAny_pure ⟨done++ [k],left,by simp,h2,by simp [O,Xf,hshL],by simp [XH,drwL,V7]⟩
       |exact wpAny_bind (wpAny_pure (wpAny_pure ⟨done++ [k],left,by simp,h2,by simp [O,Xf,hshL],by simp [XH,drwL,V7]⟩))
   ·rintro b s' ⟨done,left,rfl,M,O,rfl⟩;cases left with
    |cons k l=>
     obtain⟨_,_,e,_⟩:=M;cases e
    |nil=>
     rw [vL] at h;show wpAny _ _ (retInt (Builtin.Tuple.tupleHashOf b.toList)) _ _ _;rw [O];refine wpAny_ret_mkInt ?_;show wpAny _ _ (if(decide (-(2:Int)^63<=Builtin.Tuple.tupleHashOf (hshL w done))&&decide (Builtin.Tuple.tupleHashOf (hshL w done)<2^63))=true then _ else _) Q E _
     simp only [hshD,drwD] at h;unfold reduceHash at h;by_cases U:(decide (-(2:Int)^63<=Builtin.Tuple.tupleHashOf (hshL w done))&&decide (Builtin.Tuple.tupleHashOf (hshL w done)<2^63))=true
     ·rw [if_pos U];rw [if_pos U] at h;exact wpAny_pure (by simpa [V7] using h)
     ·rw [if_neg U];rw [if_neg U] at h;exact wpAny_bind (wpAny_rule (wpAny_pure (by simpa [V7] using h)))
  |_=>exact B.elim
theorem hvL_mem {h:Heap}:∀{ds:List D}{vs:List Value},hvL h ds vs->∀v∈vs,∃d∈ds,hvD h d v
 | [],vs,x,v,hv=>by
  cases(show vs= [] from x)
  cases hv
 |d::ds,vs,x,v,hv=>by
  obtain⟨u,r,rfl,h1,h2⟩:=x;rcases List.mem_cons.mp hv with rfl|hv
  ·exact⟨d,u5,h1⟩
  ·obtain⟨e,B,L⟩:=hvL_mem h2 v hv;exact⟨e,u4 _ B,L⟩
theorem quiet_D {P:Program}{w:World}{E:Value->Shared->Prop}:∀(n:Nat) (d:D) (v:Value) (A:Around) (s:Shared) (Q:Bool->Shared->Prop),dp d<=n->hvD s.heap d v->Q true s->wpAny (model P w) A (eqIsQuiet n v) Q E s:=by
 intro n
 induction n with
 |zero=>
  intro d v A s Q hn L h;cases d with
  |non=>
   cases(show v= .none from L)
   rw [eqIsQuiet_byValue _ rfl];exact wpAny_pure h
  |str z=>simp [dp] at hn
  |tup ds=>simp [dp] at hn
  |_=>exact L.elim
 |succ n ih=>
  intro d v A s Q hn L h;cases d with
  |non=>
   cases(show v= .none from L)
   rw [eqIsQuiet_byValue _ rfl];exact wpAny_pure h
  |str z=>
   obtain⟨t,rfl⟩:=L;rw [eqIsQuiet_byValue _ rfl];exact wpAny_pure h
  |tup ks=>
   obtain⟨a,o,items,m,rfl,Z,hc,hd,hi⟩:=L;have hT:s.TypeIs (.ref a) "tuple":=⟨o,Z,hc⟩;unfold eqIsQuiet;refine wpAny_bind (wpAny_specialOf hT F.slot_tuple_eq.lookup ?_);show wpAny _ _ (isInstance (.ref a) (.type "tuple")>>=_) _ _ s;refine wpAny_bind (wpAny_isInstance hT isSubtype_tuple_tuple ?_);simp only [Bool.not_true,uS,U4];refine wpAny_bind (UD Z hd ?_);refine wpAny_bind ?_;show wpAny _ _ (forIn items _ _) _ _ s;rw [<-Array.forIn_toList];refine vS _ (fun rest r s'=>r.1=none/\s'=s/\∀v∈rest,∃k∈ks,hvD s.heap k v) _ ?_ ?_ _ _ ⟨rfl,rfl,hvL_mem hi⟩
   ·rintro v rest r s' ⟨M,rfl,B⟩;obtain⟨k,hk,O⟩:=B v u5;have U:dp k<=n:=by
     have:=(ye (k:=dpL ks) ks).mp (Nat.le_refl _) k hk;simp only [dp] at hn;omega
    refine wpAny_bind (ih k v _ _ _ U O ?_);simp only [Bool.not_true,uS,U4];exact wpAny_pure ⟨rfl,rfl,fun u Y=>B u (u4 _ Y)⟩
   ·rintro⟨r1,r2⟩ s' ⟨M,rfl,_⟩;simp only at M;subst M;exact wpAny_pure h
  |_=>exact L.elim
mutual
def kD:D->Bool
 | .non=>true
 | .str _=>true
 | .tup xs=>kL xs
 |_=>false
def kL:List D->Bool
 | []=>true
 |x::r=>kD x&&kL r
end
theorem kL_mem:∀{ds:List D}{d:D},kL ds=true->d∈ds->kD d=true
 |x::xs,d,h,hm=>by
  have h':kD x=true/\kL xs=true:=by simpa [kL] using h
  rcases List.mem_cons.mp hm with rfl|hm
  ·exact h'.1
  ·exact kL_mem h'.2 hm
mutual
theorem kD_n:∀{d:D},kD d=true->nD d=true
 | .non,_=>by simp [nD]
 | .str _,_=>by simp [nD]
 | .tup xs,h=>by
  have:=kL_n (xs:=xs) (by simpa [kD] using h)
  simpa [nD] using this
 | .bl _,h=>by simp [kD] at h
 | .int _,h=>by simp [kD] at h
 | .lst,h=>by simp [kD] at h
 | .dct,h=>by simp [kD] at h
theorem kL_n:∀{xs:List D},kL xs=true->nL xs=true
 | [],_=>by simp [nL]
 |x::r,h=>by
  have h':kD x=true/\kL r=true:=by simpa [kL] using h
  simp [nL,kD_n h'.1,kL_n h'.2]
end
theorem is_hv {X:Cx}{pins:List (Addr×Obj)}{σ:St}{H:Hp}{s:Shared}(I:Inv X pins σ H s):∀(n:Nat) (d:D) (v:V) (u:Value),dp d<=n->kD d=true->Is H d v->RelV v u->hvD s.heap d u:=by
 intro n
 induction n with
 |zero=>
  intro d v u hn B h r;cases d with
  |str z=>simp [dp] at hn
  |tup ds=>simp [dp] at hn
  |non=>
   cases(show v= .non from h)
   exact r
  |_=>simp [kD] at B
 |succ n O=>
  intro d v u hn B h r;cases d with
  |str z=>
   obtain⟨rfl,_⟩:=h;obtain⟨t,rfl⟩:=r;exact⟨t,rfl⟩
  |tup ks=>
   obtain⟨p,vs,rfl,ep,U⟩:=h;cases r;obtain⟨_,its,Y,o,Z,hc,m,hd⟩:=(show Qe X.prog X.w H s.heap p (.tup vs) from I.hok p _ ep)
   refine⟨p,o,its.toArray,m,rfl,Z,hc,hd,?_⟩;have all:∀(ds:List D) (ws:List V) (L:List Value),(∀x∈ds,dp x<=n/\kD x=true)->L2.IsL H ds ws->Vals ws L->hvL s.heap ds L:=by
    intro ds
    induction ds with
    |nil=>
     intro ws L _ h1 h2;cases(show ws= [] from h1)
     cases h2;exact rfl
    |cons x xs M=>
     intro ws L hx h1 h2;obtain⟨w1,r1,rfl,h3,h4⟩:=h1;cases h2 with
     |cons h5 h6=>exact⟨_,_,rfl,O x w1 _ (hx x u5).1 (hx x u5).2 h3 h5,M r1 _ (fun y hy=>hx y (u4 _ hy)) h4 h6⟩
   exact all ks vs its (fun x hx=>by
    have:=(ye (k:=dpL ks) ks).mp (Nat.le_refl _) x hx;simp only [dp] at hn;simp only [kD] at B;exact⟨by omega,kL_mem B hx⟩) U Y
  |non=>
   cases(show v= .non from h)
   exact r
  |_=>simp [kD] at B
structure SB (kd:SortKind)(xs0:Array Keyed)(st:SortSt):Prop where
 pm:(arrOf st).Perm xs0
 ki:kindOf st=kd
 ok:failedOf st=none
 pe:pendingOf st= #[]
section
variable {P:Program}{w:World}{A:Around}{s:Shared}{kd:SortKind}{xs0:Array Keyed}{rk:Keyed->Nat}
theorem SB.sz {st:SortSt}(h:SB kd xs0 st):(arrOf st).size=xs0.size:=h.pm.size_eq
theorem SB.arr {st:SortSt}(h:SB kd xs0 st){ys:Array Keyed}(B:ys.Perm (arrOf st)):SB kd xs0 (setArr st ys):=⟨B.trans h.pm,h.ki,h.ok,h.pe⟩
def rkAt (rk:Keyed->Nat)(xs:Array Keyed)(i:Nat):Nat:=(xs[i]?.map rk).getD 0
def Asc (rk:Keyed->Nat)(xs:Array Keyed)(n:Nat):Prop:=∀i j,i<=j->j<n->rkAt rk xs i<=rkAt rk xs j
def Dsc (rk:Keyed->Nat)(xs:Array Keyed)(n:Nat):Prop:=∀i j,i<=j->j<n->rkAt rk xs j<=rkAt rk xs i
theorem rk_bub {xs:Array Keyed}{c d:Nat}(B:c<xs.size)(hd:d<=c)(k:Nat):rkAt rk (bubble xs c d) k=if k=c-d then rkAt rk xs c else if c-d<k/\k<=c then rkAt rk xs (k-1) else rkAt rk xs k:=by
 unfold rkAt;rw [getElem?_bubble B d hd k];split
 ·rfl
 ·split<;>rfl
theorem rk_mir {xs:Array Keyed}{i j:Nat}(B:j<=xs.size)(k:Nat):rkAt rk (mirror xs i j ((j-i)/2)) k=if i<=k/\k<j then rkAt rk xs (i+j-1-k) else rkAt rk xs k:=by
 unfold rkAt;rw [getElem?_mirror_all B k];split<;>rfl
theorem yk {xs:Array Keyed}{i j:Nat}(B:j<=xs.size)(e:∀k,i<=k->k<j->rkAt rk xs k=rkAt rk xs (j-1))(k:Nat):rkAt rk (mirror xs i j ((j-i)/2)) k=rkAt rk xs k:=by
 rw [rk_mir B];split
 ·rw [e (i+j-1-k) (by omega) (by omega),e k (by omega) (by omega)]
 ·rfl
def ByRk (P:Program)(w:World)(A:Around)(s:Shared)(kd:SortKind)(xs0:Array Keyed)(rk:Keyed->Nat):Prop:=
 ∀x∈xs0.toList,∀y∈xs0.toList,∀(E:Value->Shared->Prop) (Q:Bool->Shared->Prop),Q (decide (rk x<rk y)) s->wpAny (model P w) A (keyLt' kd x.1 y.1) Q E s
variable {E:Value->Shared->Prop}
theorem SB.at {st:SortSt}(h:SB kd xs0 st){i:Nat}(hi:i<xs0.size):∃x,x∈xs0.toList/\(arrOf st)[i]? =some x/\rkAt rk (arrOf st) i=rk x:=by
 have B:i<(arrOf st).size:=by rw [h.sz];exact hi
 have e:(arrOf st)[i]? =some (arrOf st)[i]:=getElem?_pos _ i B;refine⟨(arrOf st)[i],(Array.perm_iff_toList_perm.mp h.pm).mem_iff.mp (by simp),e,?_⟩
 unfold rkAt;rw [e]
 rfl
theorem lt_rk {st:SortSt}{i j:Nat}{Q:Option Bool->SortSt->Prop}(L:ByRk P w A s kd xs0 rk)(B:SB kd xs0 st)(hi:i<xs0.size)(M:j<xs0.size)
  (q:Q (some (decide (rkAt rk (arrOf st) i<rkAt rk (arrOf st) j))) st):wpS (model P w) A E s (ltAt' i j) Q st:=by
 obtain⟨x,O,ex,U⟩:=B.at (rk:=rk) hi;obtain⟨y,Y,Z,ry⟩:=B.at (rk:=rk) M;rw [U,ry] at q;rw [ltAt'_eq];refine wpS_bind (wpS_get ?_);show wpS _ _ _ _ (elem' (arrOf st) i>>=fun u=>elem' (arrOf st) j>>=fun v=>lt' u v) Q st;rw [elem'_eq,elem'_eq,ex,Z];refine wpS_bind (vJ (wpS_bind (vJ ?_)));rw [lt'_eq];refine wpS_bind (wpS_get ?_);rw [B.ki];exact wpS_bind (wpS_lift (U6 (L x O y Y _ _ ⟨rfl,vJ q⟩)))
theorem rk_insert {st:SortSt}{n ok:Nat}{Q:Bool->SortSt->Prop}(hc:ByRk P w A s kd xs0 rk)(hn:n<=xs0.size)(hok:ok<=n)(hB:SB kd xs0 st)(hs:Asc rk (arrOf st) ok)
  (q:∀B,SB kd xs0 B->Asc rk (arrOf B) n->Q true B):wpS (model P w) A E s (binarySort' 0 n ok) Q st:=by
 rw [binarySort'_eq];simp only [Nat.zero_add];refine wpS_bind (wpS_mono (wpS_forRange (I:=fun k c B=>c=(none,Unit.unit)/\SB kd xs0 B/\Asc rk (arrOf B) (min k n)) (Q:=fun c B=>c=(none,Unit.unit)/\SB kd xs0 B/\Asc rk (arrOf B) n) ?st ?en ?be) ?af)
 case af=>
  rintro c B ⟨rfl,O,L⟩;exact vJ (q B O L)
 case be=>
  refine⟨rfl,hB,fun i j a b=> ?_⟩;rcases Nat.eq_zero_or_pos ok with z|z
  ·rw [show i=j by omega]
   exact Nat.le_refl _
  ·exact hs i j a (by omega)
 case en=>
  rintro c B ⟨b0,O,L⟩;refine⟨b0,O,?_⟩;rw [show min (max (max ok 1) n) n=n by omega] at L
  exact L
 case st=>
  rintro k c B ka kn ⟨rfl,O,L⟩;rw [show min k n=k by omega] at L
  have hk:k<xs0.size:=by omega
  refine wpS_bind (wpS_mono (wpS_forRange (I:=fun x c u=>u=B/\∃l r,c=(none,l,r)/\l<=r/\r<=k/\r-l<=k-x/\(∀i,i<l->rkAt rk (arrOf B) i<=rkAt rk (arrOf B) k)/\∀i,r<=i->i<k->rkAt rk (arrOf B) k<rkAt rk (arrOf B) i)
   (Q:=fun c u=>u=B/\∃l r,c=(none,l,r)/\l<=k/\(∀i,i<l->rkAt rk (arrOf B) i<=rkAt rk (arrOf B) k)/\∀i,l<=i->i<k->rkAt rk (arrOf B) k<rkAt rk (arrOf B) i) ?st2 ?en2 ?be2) ?af2)
  case be2=>exact⟨rfl,0,k,rfl,uv _,Nat.le_refl _,by omega,fun i z=>absurd z (vN _),fun i Z z2=>by omega⟩
  case en2=>
   rintro c u ⟨rfl,l,r,rfl,c1,c2,c3,U,Y⟩;obtain rfl:l=r:=by omega
   exact⟨rfl,l,l,rfl,c2,U,Y⟩
  case st2=>
   rintro x c u _ xk ⟨rfl,l,r,rfl,c1,c2,c3,U,Y⟩;dsimp only;by_cases M:l≥r
   ·rw [if_pos M];obtain rfl:l=r:=by omega
    exact vJ ⟨rfl,l,l,rfl,c2,U,Y⟩
   ·rw [if_neg M];refine wpS_bind (lt_rk hc O hk (by omega) ?_)
    by_cases le:rkAt rk (arrOf u) k<rkAt rk (arrOf u) ((l+r)/2)
    ·rw [ue le];simp only [if_true];refine vJ ⟨rfl,l,(l+r)/2,rfl,by omega,by omega,by omega,U,fun i Z z2=> ?_⟩
     exact Nat.lt_of_lt_of_le le (L _ _ Z z2)
    ·rw [u8 le];simp only [uS,U4];refine vJ ⟨rfl,(l+r)/2+1,r,rfl,by omega,by omega,by omega,fun i Z=> ?_,Y⟩
     have:=L i ((l+r)/2) (by omega) (by omega)
     omega
  case af2=>
   rintro c u ⟨rfl,l,r,rfl,c2,U,Y⟩;show wpS _ _ _ _ (moveDown' k l>>=fun _=>pure (ForInStep.yield (none,Unit.unit))) _ _;rw [moveDown'_eq];refine wpS_bind (wpS_modify (vJ ⟨rfl,O.arr (bubble_perm _ _ _),?_⟩));rw [show min (k+1) n=k+1 by omega]
   have ks:k<(arrOf u).size:=by rw [O.sz];exact hk
   intro i j ij jk;have e1:=rk_bub (rk:=rk) ks (show k-l<=k by omega) i
   have e2:=rk_bub (rk:=rk) ks (show k-l<=k by omega) j
   show rkAt rk (bubble (arrOf u) k (k-l)) i<=rkAt rk (bubble (arrOf u) k (k-l)) j;rw [e1,e2,show k-(k-l)=l by omega]
   have g1:∀y,y<l->rkAt rk (arrOf u) y<=rkAt rk (arrOf u) k:=U;have g2:∀y,l<=y->y<k->rkAt rk (arrOf u) k<=rkAt rk (arrOf u) y:=fun y Z z2=>vU (Y y Z z2);split<;>split<;>(try split)<;>(try split)<;>first
    |exact Nat.le_refl _
    |(exfalso;omega)
    |exact g1 _ (by omega)
    |exact g2 _ (by omega) (by omega)
    |exact L _ _ (by omega) (by omega)
theorem rk_up {st:SortSt}{a m:Nat}{Q:AscSt->SortSt->Prop}(L:ByRk P w A s kd xs0 rk)(hm:m<=xs0.size)(ha:1<=a)(M:a<=m)(O:SB kd xs0 st)(U:Asc rk (arrOf st) a)
  (q:∀n,a<=n->n<=m->Asc rk (arrOf st) n->(n=m∨rkAt rk (arrOf st) n<rkAt rk (arrOf st) (n-1))->Q (none,n) st):wpS (model P w) A E s (ascLoop a m) Q st:=by
 unfold ascLoop;refine wpS_forRange (I:=fun x c u=>u=st/\c=(none,x)/\Asc rk (arrOf st) x) ?st ?en ⟨rfl,rfl,U⟩
 case en=>
  rintro c u ⟨rfl,rfl,b⟩;rw [show max a m=m by omega] at b⊢
  exact q m M (Nat.le_refl _) b (.inl rfl)
 case st=>
  rintro x c u Y xm ⟨rfl,rfl,b⟩;dsimp only;refine wpS_bind (lt_rk L O (by omega) (by omega) ?_)
  by_cases B:rkAt rk (arrOf u) x<rkAt rk (arrOf u) (x-1)
  ·rw [ue B];simp only [if_true];exact vJ (q x Y (by omega) b (.inr B))
  ·rw [u8 B];simp only [uS,U4];refine vJ ⟨rfl,rfl,fun i j Z jx=> ?_⟩;rcases uZ j x with z|z
   ·exact b i j Z z
   ·obtain rfl:j=x:=by omega
    rcases uZ i j with y|y
    ·have:=b i (j-1) (by omega) (by omega)
     omega
    ·rw [show i=j by omega]
     exact Nat.le_refl _
theorem rk_tail {st:SortSt}{n m:Nat}{Q:Option Nat->SortSt->Prop}(U:ByRk P w A s kd xs0 rk)(hm:m<=xs0.size)(h1:1<=n)(nm:n<=m)(L:SB kd xs0 st)(Y:Dsc rk (arrOf st) n)
  (q:∀k u,SB kd xs0 u->1<=k->k<=m->Asc rk (arrOf u) k->Q (some k) u):wpS (model P w) A E s (tail3 n m) Q st:=by
 unfold tail3;have hz:n<=(arrOf st).size:=by rw [L.sz];omega
 have B:SB kd xs0 (setArr st (mirror (arrOf st) 0 n ((n-0)/2))):=L.arr (mirror_perm _ _ _ _);refine wpS_bind (wpS_reverse (wpS_bind (rk_up U hm h1 nm B ?_ fun k k1 k2 k3 _=>vJ (q k _ B (by omega) k2 k3))))
 intro i j Z jn;have M:=rk_mir (rk:=rk) (i:=0) hz i;have O:=rk_mir (rk:=rk) (i:=0) hz j;rw [if_pos (by omega)] at M O
 show rkAt rk (mirror (arrOf st) 0 n ((n-0)/2)) i<=rkAt rk (mirror (arrOf st) 0 n ((n-0)/2)) j;rw [M,O];exact Y _ _ (by omega) (by omega)
theorem YN {xs:Array Keyed}{x:Nat}(h:Dsc rk xs x)(e:1<=x->rkAt rk xs x<=rkAt rk xs (x-1)):Dsc rk xs (x+1):=by
 intro i j B L;rcases uZ j x with z|z
 ·exact h i j B z
 ·obtain rfl:j=x:=by omega
  rcases uZ i j with y|y
  ·have:=h i (j-1) (by omega) (by omega)
   have:=e (by omega)
   omega
  ·rw [show i=j by omega]
   exact Nat.le_refl _
theorem rk_down {st:SortSt}{n m:Nat}{Q:DescSt->SortSt->Prop}(Y:ByRk P w A s kd xs0 rk)(hm:m<=xs0.size)(h1:1<=n)(nm:n<=m)(hB:SB kd xs0 st)(hs:Dsc rk (arrOf st) n)
  (q:∀k e u,SB kd xs0 u->n<=k->k<=m->Dsc rk (arrOf u) k->e+1<=k->(∀i,k-(e+1)<=i->i<k->rkAt rk (arrOf u) i=rkAt rk (arrOf u) (k-1))->Q (none,k,e) u):wpS (model P w) A E s (descLoop n m) Q st:=by
 unfold descLoop;have one:∀(xs:Array Keyed) (x i:Nat),x-(0+1)<=i->i<x->rkAt rk xs i=rkAt rk xs (x-1):=fun xs x i z1 z2=>by rw [show i=x-1 by omega]
 refine wpS_forRange (I:=fun x c u=>∃e,c=(none,x,e)/\SB kd xs0 u/\Dsc rk (arrOf u) x/\e+1<=x/\∀i,x-(e+1)<=i->i<x->rkAt rk (arrOf u) i=rkAt rk (arrOf u) (x-1)) ?st ?en ⟨0,rfl,hB,hs,by omega,one _ _⟩
 case en=>
  rintro c u ⟨e,rfl,B,M,O,L⟩;rw [show max n m=m by omega] at M O L⊢
  exact q m e u B nm (Nat.le_refl _) M O L
 case st=>
  rintro x c u xa xm ⟨e,rfl,B,M,O,L⟩;dsimp only;have hz:x<=(arrOf u).size:=by rw [B.sz];omega
  refine wpS_bind (lt_rk Y B (by omega) (by omega) ?_)
  by_cases U:rkAt rk (arrOf u) x<rkAt rk (arrOf u) (x-1)
  ·rw [ue U];simp only [if_true];by_cases pe:e>0
   ·rw [if_pos pe];refine wpS_bind (wpS_reverse (vJ ⟨0,rfl,B.arr (mirror_perm _ _ _ _),?_,by omega,one _ _⟩))
    refine YN (fun i j ij jx=> ?_) fun _=> ?_
    ·show rkAt rk (mirror (arrOf u) _ _ _) j<=rkAt rk (mirror (arrOf u) _ _ _) i;rw [yk hz L,yk hz L];exact M i j ij jx
    ·show rkAt rk (mirror (arrOf u) _ _ _) x<=rkAt rk (mirror (arrOf u) _ _ _) (x-1);rw [yk hz L,yk hz L];exact vU U
   ·rw [if_neg pe];exact vJ ⟨0,rfl,B,YN M fun _=>vU U,by omega,one _ _⟩
  ·rw [u8 U];simp only [uS,U4];refine wpS_bind (lt_rk Y B (by omega) (by omega) ?_)
   by_cases Z:rkAt rk (arrOf u) (x-1)<rkAt rk (arrOf u) x
   ·rw [ue Z];simp only [if_true];exact vJ (q x e u B xa (by omega) M O L)
   ·rw [u8 Z];simp only [uS,U4];have ex:rkAt rk (arrOf u) x=rkAt rk (arrOf u) (x-1):=by omega
    refine vJ ⟨e+1,rfl,B,YN M fun _=>Nat.le_of_eq ex,by omega,fun i z1 z2=> ?_⟩
    rw [show x+1-1=x by omega]
    rcases uZ i x with y|y
    ·rw [ex];exact L i (by omega) y
    ·rw [show i=x by omega]
theorem rk_fall {st:SortSt}{n m:Nat}{Q:Option Nat->SortSt->Prop}(B:ByRk P w A s kd xs0 rk)(hm:m<=xs0.size)(nm:n+1<=m)(U:SB kd xs0 st)(Y:Dsc rk (arrOf st) (n+1))
  (q:∀k u,SB kd xs0 u->1<=k->k<=m->Asc rk (arrOf u) k->Q (some k) u):wpS (model P w) A E s (descPart n m) Q st:=by
 unfold descPart;refine wpS_bind (wpS_lift (wpAny_rule ⟨rfl,?_⟩));refine wpS_bind (rk_down B hm (by omega) nm U Y fun k e u L k1 k2 M b3 O=> ?_)
 dsimp only;have hz:k<=(arrOf u).size:=by rw [L.sz];omega
 by_cases pe:e>0
 ·rw [if_pos pe];refine wpS_bind (wpS_reverse (rk_tail B hm (by omega) k2 (L.arr (mirror_perm _ _ _ _)) (fun i j Z jk=> ?_) q))
  show rkAt rk (mirror (arrOf u) _ _ _) j<=rkAt rk (mirror (arrOf u) _ _ _) i;rw [yk hz O,yk hz O];exact M i j Z jk
 ·rw [if_neg pe];exact rk_tail B hm (by omega) k2 L M q
theorem rk_run {st:SortSt}{m:Nat}{Q:Option Nat->SortSt->Prop}(O:ByRk P w A s kd xs0 rk)(hm:m<=xs0.size)(h1:1<=m)(M:SB kd xs0 st)
  (q:∀k u,SB kd xs0 u->1<=k->k<=m->Asc rk (arrOf u) k->Q (some k) u):wpS (model P w) A E s (countRun' 0 m) Q st:=by
 rw [countRun0_eq];refine wpS_bind (rk_up O hm (Nat.le_refl 1) h1 M (fun i j Z jk=>by rw [show i=j by omega];exact Nat.le_refl _) fun n n1 n2 U Y=> ?_)
 dsimp only;by_cases all:n=m
 ·rw [if_pos (by simpa using all)]
  exact vJ (q n st M n1 n2 U)
 ·rw [if_neg (by simpa using all)]
  have le:=Y.resolve_left all;by_cases many:n>1
  ·rw [if_pos many];refine wpS_bind (lt_rk O M (by omega) (by omega) ?_)
   by_cases L:rkAt rk (arrOf st) 0<rkAt rk (arrOf st) (n-1)
   ·rw [ue L];simp only [if_true];exact vJ (q n st M n1 n2 U)
   ·rw [u8 L];simp only [uS,U4];have hz:n<=(arrOf st).size:=by rw [M.sz];omega
    have B:∀k,0<=k->k<n->rkAt rk (arrOf st) k=rkAt rk (arrOf st) (n-1):=fun k _ kn=>by
     have a1:=U 0 k (by omega) kn
     have a2:=U k (n-1) (by omega) (by omega)
     omega
    refine wpS_bind (wpS_reverse (rk_fall O hm (by omega) (M.arr (mirror_perm _ _ _ _)) (YN (fun i j Z jn=> ?_) fun _=> ?_) q))
    ·show rkAt rk (mirror (arrOf st) _ _ _) j<=rkAt rk (mirror (arrOf st) _ _ _) i;rw [yk hz B,yk hz B,B i (by omega) (by omega),B j (by omega) jn]
     exact Nat.le_refl _
    ·show rkAt rk (mirror (arrOf st) _ _ _) n<=rkAt rk (mirror (arrOf st) _ _ _) (n-1);rw [yk hz B,yk hz B];exact vU le
  ·rw [if_neg many];obtain rfl:n=1:=by omega
   refine rk_fall O hm (by omega) M (YN (fun i j Z jn=> ?_) fun _=>vU le) q
   rw [show i=j by omega]
   exact Nat.le_refl _
def SD (rk:Keyed->Nat)(xs0:Array Keyed)(st:SortSt):Prop:=(arrOf st).Perm xs0/\failedOf st=none/\(pendingOf st).size=1/\Asc rk (arrOf st) xs0.size
theorem SB.end {st:SortSt}(b:SB kd xs0 st)(h:Asc rk (arrOf st) xs0.size)(z:Nat×Nat×Nat):SD rk xs0 (setPending st ((pendingOf st).push z)):=⟨b.pm,b.ok,by show((pendingOf st).push z).size=1;rw [b.pe];rfl,h⟩
theorem rk_all {st:SortSt}{Q:Unit->SortSt->Prop}(M:ByRk P w A s kd xs0 rk)(O:SB kd xs0 st)(h2:2<=xs0.size)(Z:xs0.size<64)
  (q:∀u,(arrOf u).Perm xs0->failedOf u=none->Asc rk (arrOf u) xs0.size->Q Unit.unit u):wpS (model P w) A E s sortRuns' Q st:=by
 rw [sortRuns'_eq];refine wpS_bind (wpS_get ?_);dsimp only;have mr:minRun' xs0.size xs0.size 0=xs0.size:=by
  cases e:xs0.size with
  |zero=>omega
  |succ f=>rw [minRun'_succ,if_pos (by omega)]
 simp only [O.sz,mr];refine wpS_bind (wpS_mono (wpS_forRange (I:=fun x c u=>(x=0/\c=(none,0)/\SB kd xs0 u)∨(1<=x/\c=(none,xs0.size)/\SD rk xs0 u)) (Q:=fun c u=>c=(none,xs0.size)/\SD rk xs0 u) ?st ?en (.inl ⟨rfl,rfl,O⟩)) ?af)
 case en=>
  rintro c u (⟨z,_⟩|⟨_,b⟩)
  ·omega
  ·exact b
 case st=>
  rintro x c u _ hx (⟨rfl,rfl,b⟩|⟨_,rfl,b⟩)
  ·dsimp only;rw [if_neg (by omega)]
   simp only [Nat.sub_zero,Nat.min_self,Nat.zero_add];refine wpS_bind (rk_run M (Nat.le_refl _) (by omega) b fun k v L k1 k2 U=> ?_)
   dsimp only;have B:∀v:SortSt,SB kd xs0 v->(pendingOf v).back? =none:=fun v bv=>by rw [bv.pe];rfl
   by_cases few:k<xs0.size
   ·rw [if_pos few];refine wpS_bind (wpS_lift (wpAny_rule ⟨rfl,?_⟩));refine wpS_bind (rk_insert M (Nat.le_refl _) k2 L U fun v2 Y b4=> ?_);simp only [Bool.not_true,uS,U4];refine wpS_bind (wpS_get ?_);rw [B v2 Y];exact wpS_bind (wpS_modify (vJ (.inr ⟨by omega,rfl,Y.end b4 _⟩)))
   ·rw [if_neg few];obtain rfl:k=xs0.size:=by omega
    refine wpS_bind (wpS_get ?_);rw [B v L];exact wpS_bind (wpS_modify (vJ (.inr ⟨by omega,rfl,L.end U _⟩)))
  ·dsimp only;rw [if_pos (Nat.le_refl _)];exact vJ ⟨rfl,b⟩
 case af=>
  rintro c u ⟨rfl,b⟩;dsimp only;refine wpS_bind (wpS_mono (wpS_forRange (I:=fun _ c v=>v=u/\c=(none,Unit.unit)) (Q:=fun c v=>v=u/\c=(none,Unit.unit)) ?_ (fun _ _ z=>z) ⟨rfl,rfl⟩) ?_)
  ·rintro x c v _ _ ⟨rfl,rfl⟩;refine wpS_bind (wpS_get ?_);rw [if_pos (Nat.le_of_eq b.2.2.1)];exact vJ ⟨rfl,rfl⟩
  ·rintro c v ⟨rfl,rfl⟩;exact vJ (q _ b.1 b.2.1 b.2.2.2)
end
def entD (w:World)(x:D×Value×Value):DictEntry:=⟨hshD w x.1,x.2.1,x.2.2⟩
def ixD (xs:List (D×Value×Value))(d:D):Option Nat:=xs.findIdx? fun x=>eqN x.1 d
theorem jG {w:World}{es:Array DictEntry}{xs:List (D×Value×Value)}(B:es.toList=xs.map (entD w))(i:Nat):es[i]? =(xs[i]?).map (entD w):=by
 rw [<-v4,B,uj]
theorem ixD_is {xs:List (D×Value×Value)}{d:D}(hk:∀x∈xs,kD x.1=true)(hn:(xs.map (·.1)).Nodup){i:Nat}{x:D×Value×Value}(hx:xs[i]? =some x):eqN x.1 d=decide (ixD xs d=some i):=by
 induction xs generalizing i with
 |nil=>simp at hx
 |cons y r L=>
  have M:=Ql (d:=y.1) (e:=d) (kD_n (hk y u5));rw [um,Ux] at hn;unfold ixD;rw [Uu];cases i with
  |zero=>
   obtain rfl:y=x:=by simpa using hx
   cases e:eqN y.1 d with
   |true=>simp
   |false=>simp
  |succ i=>
   have B:r[i]? =some x:=by simpa using hx
   have hm:x.1∈r.map (·.1):=List.mem_map.mpr ⟨x,ud B,rfl⟩;cases e:eqN y.1 d with
   |true=>
    have O:y.1=d:=M.mp e;have U:eqN x.1 d=false:=by
     cases Y:eqN x.1 d with
     |false=>rfl
     |true=>
      have Z:=(Ql (d:=x.1) (e:=d) (kD_n (hk x (u4 _ (ud B))))).mp Y;exact absurd (by rw [O,<-Z];exact hm) hn.1
    rw [U];simp
   |false=>
    rw [L (fun z hz=>hk z (u4 _ hz)) hn.2 B];unfold ixD;cases e5:List.findIdx? (fun x=>eqN x.1 d) r with
    |none=>simp
    |some j=>simp
theorem ixD_at {xs:List (D×Value×Value)}{d:D}{i:Nat}(h:ixD xs d=some i):∃x,xs[i]? =some x/\eqN x.1 d=true:=by
 unfold ixD at h;rw [uK] at h;obtain⟨h1,h2,_⟩:=h;exact⟨xs[i],u0 h1,h2⟩
mutual
theorem hv_det {h:Heap}:∀{d e:D}{v:Value},hvD h d v->hvD h e v->d=e
 | .non,e,v,h1,h2=>by
  cases(show v= .none from h1)
  cases e with
  |non=>rfl
  |str z=>obtain⟨t,e⟩:=h2;cases e
  |tup ds=>obtain⟨_,_,_,_,e,_⟩:=h2;cases e
  |_=>exact h2.elim
 | .str z,e,v,h1,h2=>by
  obtain⟨t,rfl⟩:=h1;cases e with
  |non=>cases(show Value.str z t= .none from h2)
  |str z=>obtain⟨t,e⟩:=h2;cases e;rfl
  |tup ds=>obtain⟨_,_,_,_,e,_⟩:=h2;cases e
  |_=>exact h2.elim
 | .tup ds,e,v,h1,h2=>by
  obtain⟨a,o,items,n,rfl,U,Z,hd,hi⟩:=h1;cases e with
  |non=>cases(show Value.ref a= .none from h2)
  |str z=>obtain⟨t,e⟩:=h2;cases e
  |tup es=>
   obtain⟨a',o',M,n',e,B,Y,L,O⟩:=h2;cases e;rw [U] at B;cases B;rw [hd] at L;cases L;rw [hvL_det hi O]
  |_=>exact h2.elim
 | .bl _,_,_,h1,_=>h1.elim
 | .int _,_,_,h1,_=>h1.elim
 | .lst,_,_,h1,_=>h1.elim
 | .dct,_,_,h1,_=>h1.elim
theorem hvL_det {h:Heap}:∀{ds es:List D}{vs:List Value},hvL h ds vs->hvL h es vs->ds=es
 | [],es,vs,h1,h2=>by
  cases(show vs= [] from h1)
  cases es with
  |nil=>rfl
  |cons x r=>obtain⟨_,_,e,_⟩:=h2;cases e
 |d::ds,es,vs,h1,h2=>by
  obtain⟨v,r,rfl,B,h4⟩:=h1;cases es with
  |nil=>cases(show v::r= [] from h2)
  |cons x xs=>
   obtain⟨_,_,e,L,M⟩:=h2;cases e;rw [hv_det B L,hvL_det h4 M]
end
section
variable {P:Program}{w:World}{A:Around}{E:Value->Shared->Prop}{s:Shared}
theorem tell_D {d:D}{kv:Value}{st:List Value}{Q:Bool->Shared->Prop}(hk:hvD s.heap d kv/\dp d<=8)(B:∀v∈st,∃x,hvD s.heap x v/\dp x<=8)(q:Q false s):wpAny (model P w) A (tableMayTell kv st) Q E s:=by
 unfold tableMayTell;split
 ·exact wpAny_pure q
 refine wpAny_bind (quiet_D 8 d kv A s _ hk.2 hk.1 ?_);rw [if_neg (by simp)]
 refine wpAny_bind (vS _ (fun rest (r:Option Bool×Unit) u=>u=s/\r.1=none/\∀v∈rest,v∈st) _ ?_ ?_ _ _ ⟨rfl,rfl,fun v O=>O⟩)
 ·rintro v rest ⟨L,U⟩ u ⟨rfl,M,hm⟩;obtain⟨x,h1,h2⟩:=B v (hm v u5);refine wpAny_bind (quiet_D 8 x v A _ _ h2 h1 ?_);rw [if_neg (by simp)]
  exact wpAny_pure ⟨rfl,rfl,fun y Y=>hm y (u4 _ Y)⟩
 ·rintro⟨L,U⟩ u ⟨rfl,M,_⟩;cases(show L=none from M)
  exact wpAny_pure q
theorem jR {α:Type}{f g:α->Bool}:∀{l:List α},(∀x∈l,f x=g x)->l.findIdx? f=l.findIdx? g
 | [],_=>rfl
 |x::l,h=>by rw [Uu,Uu,h x u5,jR fun y B=>h y (u4 _ B)]
def metD (j:Option Nat)(done:List Nat):Option Nat:=j.filter fun i=>decide (i∈done)
theorem dfind {a:Addr}{o:Obj}{es:Array DictEntry}{ep:Nat}{xs:List (D×Value×Value)}{d:D}{kv:Value}{Q:Option Nat->Shared->Prop}(ho:s.heap.get? a=some o)(hd:o.data= .dict es ep)(O:es.toList=xs.map (entD w))
  (hx:∀x∈xs,hvD s.heap x.1 x.2.1/\dp x.1<=8/\kD x.1=true) (hk:hvD s.heap d kv/\dp d<=8/\kD d=true) (hn:(xs.map (·.1)).Nodup)
  (hq:∀x∈xs,∀(E:Value->Shared->Prop) (Q:Bool->Shared->Prop),Q (eqN x.1 d) s->wpAny (model P w) A (eqBool x.2.1 kv) Q E s) (q:Q (ixD xs d) s):wpAny (model P w) A (dictFind a kv (hshD w d)) Q E s:=by
 have hK:∀x∈xs,kD x.1=true:=fun x m=>(hx x m).2.2;have hsz:es.size=xs.length:=by rw [<-Array.length_toList,O,uc]
 have U:∀i,i∈placesWithHash es.size (fun i=>es[i]?.map (·.hash)) (hshD w d)->∃x,xs[i]? =some x/\hshD w x.1=hshD w d:=fun i hi=>by
  obtain⟨h1,h2⟩:=List.mem_filter.mp hi;simp only [jG O] at h2;cases e:xs[i]? with
  |none=>rw [e] at h2;simp at h2
  |some x=>
   rw [e] at h2;exact⟨x,rfl,by simpa [entD] using h2⟩
 have aa:∀j,ixD xs d=some j->j∈placesWithHash es.size (fun i=>es[i]?.map (·.hash)) (hshD w d):=fun j hj=>by
  obtain⟨x,L,e2⟩:=ixD_at hj;have e3:=(Ql (kD_n (hK x (ud L)))).mp e2;refine List.mem_filter.mpr ⟨List.mem_range.mpr ?_,?_⟩
  ·rw [hsz];exact(List.getElem?_eq_some_iff.mp L).1
  ·simp only [jG O,L];simp [entD,e3]
 have ab:(placesWithHash es.size (fun i=>es[i]?.map (·.hash)) (hshD w d)).Nodup:=List.Pairwise.filter _ List.nodup_range;have M:∀v∈(placesWithHash es.size (fun i=>es[i]?.map (·.hash)) (hshD w d)).filterMap (fun i=>es[i]?.map (·.key)),∃x,hvD s.heap x v/\dp x<=8:=fun v hv=>by
  obtain⟨i,h1,h2⟩:=List.mem_filterMap.mp hv;obtain⟨x,L,_⟩:=U i h1;rw [jG O,L] at h2;have:=hx x (ud L);exact⟨x.1,by simp [entD] at h2;rw [<-h2];exact this.1,this.2.1⟩
 unfold dictFind;refine uA (wpAny_bind (V0 ho hd ?_));dsimp only;generalize placesWithHash es.size (fun i=>es[i]?.map (·.hash)) (hshD w d)=pl at U aa ab M⊢;have plain:wpAny (model P w) A (dictWalkPlain a kv (hshD w d) es pl) Q E s:=by
  unfold dictWalkPlain;refine wpAny_bind (vS _ (fun rest (r:Option (Option Nat)×Unit) u=>u=s/\r=(none,Unit.unit)/\∃done,pl=done++rest/\∀j,ixD xs d=some j->j∉done) _ ?_ ?_ _ _ ⟨rfl,rfl,[],rfl,fun _ _=>by simp⟩)
  ·rintro i rest ⟨r1,r2⟩ u ⟨rfl,hr,done,B,ac⟩;cases hr;obtain⟨x,L,e2⟩:=U i (by rw [B];simp)
   have Y:=ud L;rw [jG O,L];show wpAny _ _ (if((entD w x).hash==hshD w d)=true then _ else _) _ _ _
   rw [if_pos (by simp [entD,e2])]
   refine wpAny_bind (vW ho hd (wpAny_bind (hq x Y _ _ (wpAny_bind (vW ho hd ?_)))));rw [if_neg (by simp),ixD_is hK hn L]
   by_cases c:ixD xs d=some i
   ·rw [ue c,if_pos rfl];exact wpAny_bind (wpAny_rule (wpAny_pure (wpAny_pure (by rw [c] at q;exact q))))
   ·rw [u8 c,if_neg (by simp)]
    refine wpAny_bind (wpAny_rule (wpAny_pure ⟨rfl,rfl,done++ [i],by rw [B];simp,fun j hj=> ?_⟩))
    have:=ac j hj;simp only [vO,vg,not_or];exact⟨this,fun z=>c (by rw [<-z];exact hj)⟩
  ·rintro⟨r1,r2⟩ u ⟨rfl,hr,done,B,ac⟩;cases hr;refine wpAny_pure ?_;cases e:ixD xs d with
   |none=>rw [e] at q;exact q
   |some j=>exact absurd (by have:=aa j e;rw [B] at this;simpa using this) (ac j e)
 have ae:kv= .none∨(∃z t,kv= .str z t/\d= .str z)∨∃b,kv= .ref b:=by
  cases d with
  |non=>exact .inl hk.1
  |str z=>
   obtain⟨t,e⟩:=hk.1;exact .inr (.inl ⟨z,t,e,rfl⟩)
  |tup ds=>
   obtain⟨b,_,_,_,e,_⟩:=hk.1;exact .inr (.inr ⟨b,e⟩)
  |_=>exact hk.1.elim
 rcases ae with rfl|⟨z,t,rfl,hz⟩|⟨b,rfl⟩
 all_goals dsimp only
 case' inr.inl=>
  by_cases ca:(es.all fun e=>isExactStrKey e.key)=true
  ·rw [if_pos ca];subst hz;have hf:es.findIdx? (fun e=>e.key.isStr z)=ixD xs (.str z):=by
    rw [show es=es.toList.toArray from rfl,List.findIdx?_toArray,O,List.findIdx?_map]
    unfold ixD;refine jR fun x Y=> ?_;have h1:isExactStrKey x.2.1=true:=by
     rw [<-Array.all_toList,O,Ug,V5] at ca;exact ca x Y
    have h2:=(hx x Y).1;obtain⟨xd,xk,xv⟩:=x;cases xd with
    |non=>cases(show xk= .none from h2);cases h1
    |str y=>
     obtain⟨t',e⟩:=h2;cases(show xk= .str y t' from e)
     show(Value.str y t').isStr z=eqN (.str y) (.str z);simp only [eqN,Value.isStr]
    |tup ds=>
     obtain⟨b,_,_,_,e,_⟩:=h2;cases(show xk= .ref b from e)
     cases h1
    |_=>exact h2.elim
   unfold foundByValue;rw [hf];cases e:ixD xs (.str z) with
   |none=>
    rw [e] at q;exact wpAny_pure q
   |some i=>
    rw [e] at q;obtain⟨x,L,e2⟩:=ixD_at e;dsimp only;rw [jG O,L];refine wpAny_bind (vW ho hd (wpAny_bind (hq x (ud L) _ _ (wpAny_bind (vW ho hd ?_)))));rw [if_neg (by simp),e2,if_pos rfl]
    exact wpAny_bind (wpAny_rule (wpAny_pure q))
  rw [if_neg ca]
 case' inr.inr=>
  have ad:¬(es.any fun e=>e.key==Value.ref b&&e.hash !=hshD w d)=true:=by
   rw [<-Array.any_toList,O,UJ,List.any_eq_true];rintro⟨x,Y,hc⟩;simp only [Function.comp,entD,Bool.and_eq_true,UY,bne_iff_ne,ne_eq] at hc;have h1:=(hx x Y).1;rw [hc.1] at h1;exact hc.2 (by rw [hv_det h1 hk.1])
  rw [if_neg ad]
 all_goals
  generalize pl.filterMap (fun i=>es[i]?.map (·.key))=st at M⊢
 case' inr.inr=>rw [if_neg (show¬((Value.ref b::st).all carriedByValue)=true by simp [carriedByValue])]
 case' inr.inl=>
  by_cases c0:((Value.str z t::st).all carriedByValue)=true
  ·rw [if_pos c0];exact plain
  rw [if_neg c0]
 case' inl=>
  by_cases c0:((Value.none::st).all carriedByValue)=true
  ·rw [if_pos c0];exact plain
  rw [if_neg c0]
 case' inr.inr=>by_cases Z:(st== [Value.ref b])=true<;>(first|rw [if_pos Z]|rw [if_neg Z])<;>(first|refine wpAny_bind (wpAny_pure ?_)|refine wpAny_bind (tell_D ⟨hk.1,hk.2.1⟩ M ?_))
 case' inr.inl=>by_cases Z:(st== [Value.str z t])=true<;>(first|rw [if_pos Z]|rw [if_neg Z])<;>(first|refine wpAny_bind (wpAny_pure ?_)|refine wpAny_bind (tell_D ⟨hk.1,hk.2.1⟩ M ?_))
 case' inl=>by_cases Z:(st== [Value.none])=true<;>(first|rw [if_pos Z]|rw [if_neg Z])<;>(first|refine wpAny_bind (wpAny_pure ?_)|refine wpAny_bind (tell_D ⟨hk.1,hk.2.1⟩ M ?_))
 all_goals
  rw [if_neg (by simp)]
  refine wpAny_bind (vS _ (fun rest (r:Option (Option Nat)×Option Nat) u=>u=s/\∃done,pl=done++rest/\r=(none,metD (ixD xs d) done)) _ ?_ ?_ _ _ ⟨rfl,[],rfl,by unfold metD;cases ixD xs d<;>rfl⟩)
  ·rintro i rest r u ⟨rfl,done,B,rfl⟩;obtain⟨x,L,e2⟩:=U i (by rw [B];simp)
   have Y:=ud L;have hi:i∉done:=fun m=>by
    rw [B,List.nodup_append] at ab;exact ab.2.2 i m i u5 rfl
   rw [jG O,L];show wpAny _ _ (if((entD w x).hash==hshD w _)=true then _ else _) _ _ _
   rw [if_pos (by simp [entD,e2])]
   refine wpAny_bind (vW ho hd (wpAny_bind (hq x Y _ _ (wpAny_bind (vW ho hd ?_)))));rw [if_neg (by simp),ixD_is hK hn L]
   by_cases c:ixD xs d=some i
   ·rw [ue c,if_pos rfl];have e3:metD (ixD xs d) done=none:=by rw [c];simp [metD,hi]
    have e4:metD (ixD xs d) (done++ [i])=some i:=by rw [c];simp [metD]
    rw [e3,if_neg (by simp)]
    refine wpAny_bind (wpAny_rule ?_);split
    ·exact wpAny_pure (wpAny_pure (by rw [c] at q;exact q))
    ·exact wpAny_pure ⟨rfl,done++ [i],by rw [B];simp,by rw [e4]⟩
   ·rw [u8 c,if_neg (by simp)]
    refine wpAny_bind (wpAny_rule ?_);rw [if_neg (by simp)]
    refine wpAny_pure ⟨rfl,done++ [i],by rw [B];simp,?_⟩
    have e5:metD (ixD xs d) (done++ [i])=metD (ixD xs d) done:=by
     unfold metD;cases e:ixD xs d with
     |none=>rfl
     |some j=>
      have:j≠i:=fun z=>c (by rw [e,z])
      simp [Option.filter,this]
    rw [e5]
  ·rintro r u ⟨rfl,done,B,rfl⟩;rw [vL] at B;refine wpAny_pure ?_;have e6:metD (ixD xs d) done=ixD xs d:=by
    unfold metD;cases e:ixD xs d with
    |none=>rfl
    |some j=>
     have hj:j∈done:=by rw [<-B];exact aa j e
     simp [Option.filter,hj]
   show Q (metD (ixD xs d) done) u;rw [e6];exact q
end
def yo (w:World)(h:Heap)(a:Addr)(xs:List (D×Value×Value)):Prop:=∃o es ep,h.get? a=some o/\o.ExactDict/\o.data= .dict es ep/\es.toList=xs.map (entD w)
theorem yo.ty {w:World}{s:Shared}{a:Addr}{xs:List (D×Value×Value)}(h:yo w s.heap a xs):s.TypeIs (.ref a) "dict":=by
 obtain⟨o,es,ep,h1,h2,_⟩:=h;exact⟨o,h1,h2.1⟩
structure KeyOk (P:Program)(w:World)(A:Around)(s:Shared)(xs:List (D×Value×Value))(d:D)(kv:Value):Prop where
 hx:∀x∈xs,hvD s.heap x.1 x.2.1/\dp x.1<=8/\kD x.1=true
 hk:hvD s.heap d kv/\dp d<=8/\kD d=true
 hn:(xs.map (·.1)).Nodup
 hu:A.units+8<cLine
 hq:∀(n:Nat),∀x∈xs,∀(E:Value->Shared->Prop) (Q:Bool->Shared->Prop),Q (eqN x.1 d) {s with toks:=s.toks+n}->wpAny (model P w) A (eqBool x.2.1 kv) Q E {s with toks:=s.toks+n}
def atD (xs:List (D×Value×Value))(d:D):Option Value:=(ixD xs d).bind fun i=>xs[i]?.map (·.2.2)
def storeD (xs:List (D×Value×Value))(d:D)(kv v:Value):List (D×Value×Value):=match ixD xs d with
 |some i=>xs.modify i fun x=>(x.1,x.2.1,v)
 |none=>xs++ [(d,kv,v)]
section
variable {P:Program}{w:World}{A:Around}{E:Value->Shared->Prop}{s:Shared}{a:Addr}{xs:List (D×Value×Value)}{d:D}{kv:Value}
theorem dgetD {Q:Option Value->Shared->Prop}(hm:yo w s.heap a xs)(k:KeyOk P w A s xs d kv)(q:Q (atD xs d) {s with toks:=s.toks+drwD d}):wpAny (model P w) A (dictGet a kv) Q E s:=by
 obtain⟨o,es,ep,B,_,hd,L⟩:=hm;unfold dictGet;refine uA (wpAny_bind (hash_D 8 d kv A s _ k.hk.2.1 k.hu k.hk.1 (wpAny_bind (dfind (s:={s with toks:=s.toks+drwD d}) B hd L k.hx k.hk k.hn (k.hq _) ?_))))
 unfold atD at q;cases e:ixD xs d with
 |none=>
  rw [e] at q;exact wpAny_pure q
 |some i=>
  rw [e] at q;obtain⟨x,M,_⟩:=ixD_at e;refine wpAny_bind (V0 (s:={s with toks:=s.toks+drwD d}) B hd ?_)
  rw [jG L,M];simp only [Option.bind_some,M] at q;exact wpAny_pure q
theorem xG {α β:Type}(f:α->β)(g:β->β)(g':α->α)(h:∀x,g (f x)=f (g' x)):∀(l:List α) (i:Nat),(l.map f).modify i g=(l.modify i g').map f
 | [],i=>by cases i<;>rfl
 |x::l,0=>by simp [h]
 |x::l,i+1=>by simp [xG f g g' h l i]
theorem dsetD {v:Value}{Q:Unit->Shared->Prop}(hm:yo w s.heap a xs)(k:KeyOk P w A s xs d kv)(hz:xs.length<=sizeLine)
  (q:∀h',yo w h' a (storeD xs d kv v)->Heap.SameBut a s.heap h'->Q Unit.unit {s with heap:=h',toks:=s.toks+drwD d}):wpAny (model P w) A (dictSet a kv v) Q E s:=by
 obtain⟨o,es,ep,B,M,hd,L⟩:=hm;have O:es.size=xs.length:=by rw [<-Array.length_toList,L,uc]
 unfold dictSet;refine uA (wpAny_bind (hash_D 8 d kv A s _ k.hk.2.1 k.hu k.hk.1 ?_));unfold dictSetHashed;refine uA (wpAny_bind (dfind (s:={s with toks:=s.toks+drwD d}) B hd L k.hx k.hk k.hn (k.hq _) ?_))
 unfold storeD at q;cases e:ixD xs d with
 |none=>
  rw [e] at q;refine wpAny_bind (wpAny_rule (wpAny_updateDictKeys (hz:=by omega) (s:={s with toks:=s.toks+drwD d}) B hd (q _ ⟨_,_,_,uV _ B (Obj.isFreed_of_dict (Obj.data_mapDictKeys hd _)),M.mapDictKeys _,Obj.data_mapDictKeys hd _,?_⟩ (uD ..))))
  simp [L,entD]
 |some i=>
  rw [e] at q;refine wpAny_bind (wpAny_rule (wpAny_bind (wpAny_updateDict (s:={s with toks:=s.toks+drwD d}) B hd (wpAny_point (q _ ⟨_,_,_,uV _ B (Obj.isFreed_of_dict (Obj.data_mapDict hd _)),M.mapDict _,Obj.data_mapDict hd _,?_⟩ (uD ..))))))
  rw [Array.toList_modify,L];exact xG (entD w) _ _ (fun _=>rfl) xs i
theorem dconD {Q:Bool->Shared->Prop}(lo:(a==sysModules)=false)(hm:yo w s.heap a xs)(k:KeyOk P w A.in1 s xs d kv)(q:Q (atD xs d).isSome {s with toks:=s.toks+drwD d}):wpAny (model P w) A (contains (.ref a) kv) Q E s:=by
 unfold contains;refine uA (wpAny_bind (wpAny_specialOf hm.ty slot_dict_contains.lookup ?_));show wpAny _ _ (if(some (Value.builtin "dict.__contains__")==some Value.none)=true then _ else _) _ E s
 rw [if_neg (by rw [beq_builtin_none];simp)]
 refine wpAny_bind (wpAny_callSpecialUnlessNone?_slot (name:=Str.ofString "__contains__") hm.ty slot_dict_contains (uz slot_dict_contains hm.ty entry_dict_contains ?_ (args_dict_contains _ _)));show wpAny _ _ (dictGet a kv>>=_) _ _ s;refine wpAny_bind (dgetD hm k ?_);cases e:atD xs d with
 |some p=>
  rw [e] at q;show wpAny _ _ (ret (.bool true)) _ _ _;exact wpAny_pure ⟨_,rfl,uG q⟩
 |none=>
  rw [e] at q;show wpAny _ _ (Builtin.Dict.pendingKey? a kv>>=_) _ _ _;exact wpAny_bind (wpAny_pendingKey_other lo (wpAny_pure ⟨_,rfl,uG q⟩))
theorem dixD {v:Value}{Q:Value->Shared->Prop}(hm:yo w s.heap a xs)(k:KeyOk P w A.in1 s xs d kv)(e:atD xs d=some v)(q:Q v {s with toks:=s.toks+drwD d}):wpAny (model P w) A (getItem (.ref a) kv) Q E s:=by
 unfold getItem;refine uA (wpAny_bind (UX hm.ty (by decide) (wpAny_bind (uC (name:=Str.ofString "__getitem__") hm.ty slot_dict_getitem (uz slot_dict_getitem hm.ty entry_dict_getitem ?_ (args_dict_getitem _ _))))))
 show wpAny _ _ (dictGet a kv>>=_) _ _ s;refine wpAny_bind (dgetD hm k ?_);rw [e];exact wpAny_pure ⟨v,rfl,wpAny_pure q⟩
theorem dputD {v:Value}{Q:Unit->Shared->Prop}(hm:yo w s.heap a xs)(k:KeyOk P w A.in1 s xs d kv)(hz:xs.length<=sizeLine)
  (q:∀h',yo w h' a (storeD xs d kv v)->Heap.SameBut a s.heap h'->Q Unit.unit {s with heap:=h',toks:=s.toks+drwD d}):wpAny (model P w) A (setItem (.ref a) kv v) Q E s:=by
 unfold setItem;refine uA (wpAny_bind (UX hm.ty (by decide) (wpAny_bind (uC (name:=Str.ofString "__setitem__") hm.ty slot_dict_setitem (uz slot_dict_setitem hm.ty entry_dict_setitem ?_ (args_dict_setitem _ _ _))))))
 show wpAny _ _ (Builtin.Dict.notOrdered "__setitem__" ⟨[.ref a,kv,v],[]⟩>>=_) _ _ s;refine wpAny_bind (wpAny_notOrdered_dict hm.ty ?_);show wpAny _ _ (dictSet a kv v>>=_) _ _ s;exact wpAny_bind (dsetD hm k hz fun h' B s'=>wpAny_pure ⟨.none,rfl,wpAny_pure (q h' B s')⟩)
theorem dgetD2 {v:Value}{Q:Value->Shared->Prop}(lo:(a==sysModules)=false)(hm:yo w s.heap a xs)(k:KeyOk P w A.in1 s xs d kv)(q:Q ((atD xs d).getD v) {s with toks:=s.toks+drwD d}):wpAny (model P w) A (call (.builtin "dict.get") [.ref a,kv,v]) Q E s:=by
 refine uz F.slot_dict_get hm.ty F.entry_dict_get ?_ (F.args_dict_get_3 _ _ _);show wpAny _ _ (dictGet a kv>>=_) _ _ s;refine wpAny_bind (dgetD hm k ?_);cases e:atD xs d with
 |some p=>
  rw [e] at q;exact wpAny_pure ⟨_,rfl,q⟩
 |none=>
  rw [e] at q;show wpAny _ _ (Builtin.Dict.missed a kv>>=_) _ _ _;exact wpAny_bind (wpAny_missed_other lo (wpAny_pure ⟨_,rfl,q⟩))
end
def RelE (p:D×V×V)(q:D×Value×Value):Prop:=p.1=q.1/\RelV p.2.1 q.2.1/\RelV p.2.2 q.2.2
def dExt (w:World)(a:Addr)(kvs:List (D×V×V)):HO:= .ext fun h=>kvs.length<=sizeLine/\(a==sysModules)=false/\∃xs,Paired RelE kvs xs/\yo w h a xs
theorem dExt_ok {P:Program}{w:World}{H:Hp}{h:Heap}{a:Addr}{kvs:List (D×V×V)}{xs:List (D×Value×Value)}(hz:kvs.length<=sizeLine)(lo:(a==sysModules)=false)(r:Paired RelE kvs xs)(e:yo w h a xs):Qe P w H h a (dExt w a kvs):=by
 refine⟨⟨hz,lo,xs,r,e⟩,?_,?_⟩
 ·obtain⟨o,_,_,h1,_⟩:=e;exact⟨o,h1⟩
 ·rintro h1 h2 ⟨hz,lo,xs,r,o,es,ep,B,L⟩ k;exact⟨hz,lo,xs,r,o,es,ep,k _ B,L⟩
def KOk (H:Hp)(d:D)(y:V):Prop:=Is H d y/\kD d=true/\dp d<=8
structure DAt (w:World)(H:Hp)(a:Addr)(kvs:List (D×V×V)):Prop where
 here:H a=some (dExt w a kvs)
 ks:∀p∈kvs,KOk H p.1 p.2.1
 nd:(kvs.map (·.1)).Nodup
theorem DAt.keep {w:World}{H H':Hp}{a:Addr}{kvs:List (D×V×V)}(h:DAt w H a kvs)(t:Tk H H')(e:H' a=H a):DAt w H' a kvs:=⟨e.trans h.here,fun p B=>⟨(h.ks p B).1.mono t,(h.ks p B).2⟩,h.nd⟩
theorem DAt.same {w:World}{H H':Hp}{a:Addr}{kvs:List (D×V×V)}(h:DAt w H a kvs)(s:Same H H'):DAt w H' a kvs:=h.keep s.tk ((s _ _ h.here).trans h.here.symm)
def ixV (kvs:List (D×V×V))(d:D):Option Nat:=kvs.findIdx? fun p=>eqN p.1 d
def valD (kvs:List (D×V×V))(d:D):Option V:=(ixV kvs d).bind fun i=>kvs[i]?.map (·.2.2)
def putD (kvs:List (D×V×V))(d:D)(y v:V):List (D×V×V):=match ixV kvs d with
 |some i=>kvs.modify i fun p=>(p.1,p.2.1,v)
 |none=>kvs++ [(d,y,v)]
theorem ix_rel {d:D}:∀{kvs:List (D×V×V)}{xs:List (D×Value×Value)},Paired RelE kvs xs->ixV kvs d=ixD xs d
 |_,_,.nil=>rfl
 |p::kvs,q::xs,.cons r t=>by
  have:=ix_rel (d:=d) t;unfold ixV ixD at*;rw [Uu,Uu,r.1,this]
theorem rel_at {α β:Type}{F:α->β->Prop}:∀{l:List α}{m:List β},Paired F l m->∀{i:Nat}{x:α},l[i]? =some x->∃y,m[i]? =some y/\F x y
 |_,_,.nil,i,x,h=>by simp at h
 |a::l,b::m,.cons r t,i,x,h=>by
  cases i with
  |zero=>
   cases(show a=x by simpa using h)
   exact⟨b,rfl,r⟩
  |succ i=>exact rel_at t (by simpa using h)
theorem rel_mod {α β:Type}{F:α->β->Prop}{f:α->α}{g:β->β}(h:∀x y,F x y->F (f x) (g y)):∀{l:List α}{m:List β},Paired F l m->∀i:Nat,Paired F (l.modify i f) (m.modify i g)
 |_,_,.nil,i=>by cases i<;>exact .nil
 |a::l,b::m,.cons r t,0=>by simp only [List.modify_zero_cons];exact .cons (h _ _ r) t
 |a::l,b::m,.cons r t,i+1=>by simp only [List.modify_succ_cons];exact .cons r (rel_mod h t i)
theorem val_rel {d:D}{kvs:List (D×V×V)}{xs:List (D×Value×Value)}(r:Paired RelE kvs xs):RelO (valD kvs d) (atD xs d):=by
 unfold valD atD;rw [ix_rel r];cases e:ixD xs d with
 |none=>exact trivial
 |some i=>
  obtain⟨q,B,_⟩:=ixD_at e;have L:=Uh r;have hi:i<kvs.length:=by rw [L];exact(List.getElem?_eq_some_iff.mp B).1
  obtain⟨O,M,h⟩:=rel_at r (u0 hi);simp only [Option.bind_some,u0 hi,M,Option.map_some];exact h.2.2
theorem put_rel {d:D}{y v:V}{ky u:Value}{kvs:List (D×V×V)}{xs:List (D×Value×Value)}(r:Paired RelE kvs xs)(L:RelV y ky)(B:RelV v u):Paired RelE (putD kvs d y v) (storeD xs d ky u):=by
 unfold putD storeD;rw [ix_rel r];cases ixD xs d with
 |none=>exact Paired.snoc r ⟨rfl,L,B⟩
 |some i=>exact rel_mod (fun x y h=>⟨h.1,h.2.1,B⟩) r i
theorem mod_mem {α:Type}{f:α->α}:∀{l:List α}{i:Nat}{x:α},x∈l.modify i f->x∈l∨∃y∈l,x=f y
 | [],i,x,h=>by cases i<;>simp at h
 |a::l,0,x,h=>by
  rw [List.modify_zero_cons] at h;rcases List.mem_cons.mp h with rfl|h
  ·exact .inr ⟨a,u5,rfl⟩
  ·exact .inl (u4 _ h)
 |a::l,i+1,x,h=>by
  rw [List.modify_succ_cons] at h;rcases List.mem_cons.mp h with rfl|h
  ·exact .inl u5
  ·rcases mod_mem h with h|⟨y,B,e⟩
   ·exact .inl (u4 _ h)
   ·exact .inr ⟨y,u4 _ B,e⟩
theorem mod_keys {α β:Type}{f:α->α}{k:α->β}(h:∀x,k (f x)=k x):∀(l:List α) (i:Nat),(l.modify i f).map k=l.map k
 | [],i=>by cases i<;>rfl
 |a::l,0=>by simp [h]
 |a::l,i+1=>by simp [mod_keys h l i]
theorem put_keys (kvs:List (D×V×V))(d:D)(y v:V):(putD kvs d y v).map (·.1)=if(ixV kvs d).isSome then kvs.map (·.1) else kvs.map (·.1)++ [d]:=by
 unfold putD;cases ixV kvs d with
 |none=>simp
 |some i=>rw [if_pos (by simp)];exact mod_keys (f:=fun p:D×V×V=>(p.1,p.2.1,v)) (k:=fun p:D×V×V=>p.1) (fun _=>rfl) kvs i
theorem put_len (kvs:List (D×V×V))(d:D)(y v:V):(putD kvs d y v).length<=kvs.length+1:=by
 unfold putD;cases ixV kvs d with
 |none=>simp
 |some i=>simp
theorem XZ {kvs:List (D×V×V)}{d:D}(hk:kD d=true)(h:ixV kvs d=none):d∉kvs.map (·.1):=fun hm=>by
 obtain⟨p,B,rfl⟩:=List.mem_map.mp hm;unfold ixV at h;rw [List.findIdx?_eq_none_iff] at h;have:=h p B;rw [(Ql (kD_n hk)).mpr rfl] at this;cases this
theorem DAt.put {w:World}{H:Hp}{a:Addr}{kvs:List (D×V×V)}{d:D}{y v:V}(h:DAt w H a kvs)(k:KOk H d y):DAt w (upd H a (dExt w a (putD kvs d y v))) a (putD kvs d y v):=by
 have M:∀b xs,H b=some (.tup xs)->b≠a:=fun b xs e z=>by rw [z,h.here] at e;cases e
 have tk:Tk H (upd H a (dExt w a (putD kvs d y v))):=⟨fun b xs e=>by rw [qi (M b xs e)];exact e,fun b xs e=>⟨xs,by rw [qi (fun z=>by rw [z,h.here] at e;cases e)];exact e⟩,fun b xs e=>⟨xs,by rw [qi (fun z=>by rw [z,h.here] at e;cases e)];exact e⟩⟩
 refine⟨qe,fun p B=> ?_,?_⟩
 ·unfold putD at B;have L:∀q∈kvs,KOk (upd H a (dExt w a (putD kvs d y v))) q.1 q.2.1:=fun q hq=>⟨(h.ks q hq).1.mono tk,(h.ks q hq).2⟩;cases e:ixV kvs d with
  |none=>
   rw [e] at B;rcases List.mem_append.mp B with B|B
   ·exact L p B
   ·cases(show p=(d,y,v) by simpa using B)
    exact⟨k.1.mono tk,k.2⟩
  |some i=>
   rw [e] at B;rcases mod_mem B with B|⟨q,hq,rfl⟩
   ·exact L p B
   ·exact L q hq
 ·rw [put_keys];cases e:ixV kvs d with
  |none=>
   rw [if_neg (by simp)]
   refine List.nodup_append.mpr ⟨h.nd,by simp,fun x hx y O z=> ?_⟩
   have:y=d:=by simpa using O
   exact XZ k.2.1 e (by rw [<-this,<-z];exact hx)
  |some i=>rw [if_pos (by simp)];exact h.nd
section
variable {X:Cx}{pins:List (Addr×Obj)}{σ:St}{H:Hp}{s:Shared}{a:Addr}{kvs:List (D×V×V)}{d:D}{y:V}{ky:Value}{A:Around}{E:Value->Shared->Prop}
theorem xM (I:Inv X pins σ H s)(h:DAt X.w H a kvs):kvs.length<=sizeLine/\(a==sysModules)=false/\∃xs,Paired RelE kvs xs/\yo X.w s.heap a xs:=(show Qe X.prog X.w H s.heap a (dExt X.w a kvs) from I.hok a _ h.here).1
theorem key_ok (I:Inv X pins σ H s)(h:DAt X.w H a kvs)(k:KOk H d y)(O:RelV y ky){xs:List (D×Value×Value)}(r:Paired RelE kvs xs)(hu:A.units+8<cLine):KeyOk X.prog X.w A s xs d ky:=by
 have B:∀x∈xs,∃p∈kvs,RelE p x:=by
  intro x hx;have all:∀{l:List (D×V×V)}{m:List (D×Value×Value)},Paired RelE l m->∀x∈m,∃p∈l,RelE p x:=by
   intro l m q
   induction q with
   |nil=>intro x hx;exact nomatch hx
   |cons hq t M=>
    intro x hx;rcases List.mem_cons.mp hx with rfl|hx
    ·exact⟨_,u5,hq⟩
    ·obtain⟨p,L,e⟩:=M x hx;exact⟨p,u4 _ L,e⟩
  exact all r x hx
 refine⟨fun x hx=> ?_,⟨is_hv I 8 d y ky k.2.2 k.2.1 k.1 O,k.2.2,k.2.1⟩,?_,hu,fun n x hx E Q q=> ?_⟩
 ·obtain⟨p,L,e⟩:=B x hx;obtain⟨k1,k2,k3⟩:=h.ks p L;rw [e.1] at k1 k2 k3;exact⟨is_hv I 8 x.1 p.2.1 x.2.1 k3 k2 k1 e.2.1,k3,k2⟩
 ·have e:xs.map (·.1)=kvs.map (·.1):=by
   have all:∀{l:List (D×V×V)}{m:List (D×Value×Value)},Paired RelE l m->m.map (·.1)=l.map (·.1):=by
    intro l m q
    induction q with
    |nil=>rfl
    |cons hq t M=>rw [um,um,M,hq.1]
   exact all r
  rw [e];exact h.nd
 ·obtain⟨p,L,e⟩:=B x hx;obtain⟨k1,k2,k3⟩:=h.ks p L;rw [e.1] at k1 k2 k3;exact eqAt_N (I.tok (s.toks+n) (Nat.add_pos_left I.tk n)) 8 x.1 d p.2.1 y x.2.1 ky A k3 (kD_n k2) (kD_n k.2.1) k1 k.1 e.2.1 O hu X.prog X.w E Q q
theorem Xh (hu:A.units+64<cLine):A.in1.units+8<cLine:=by rw [ur];omega
end
def tGetD (w:World)(td ty:TE):TE:=fun σ H Q=>td σ H fun x H1=>ty σ H1 fun y H2=>∃a kvs d v,x= .ref a/\DAt w H2 a kvs/\KOk H2 d y/\valD kvs d=some v/\Q v H2
def tInD (w:World)(g:Bool->Bool)(ty td:TE):TE:=fun σ H Q=>ty σ H fun y H1=>td σ H1 fun x H2=>∃a kvs d,x= .ref a/\DAt w H2 a kvs/\KOk H2 d y/\Q (.bl (g (valD kvs d).isSome)) H2
def sPutD (w:World)(td ty tv:TE):TS:=fun D σ H=>tv σ H fun v H1=>td σ H1 fun x H2=>ty σ H2 fun y H3=>∃a kvs d,x= .ref a/\DAt w H3 a kvs/\KOk H3 d y/\kvs.length<sizeLine/\D.nx σ (upd H3 a (dExt w a (putD kvs d y v)))
def tGet2D (w:World)(td ty tx:TE):TE:=fun σ H Q=>td σ H fun x H1=>∃a kvs0,x= .ref a/\DAt w H1 a kvs0/\ty σ H1 fun y H2=>tx σ H2 fun z H3=>∃kvs d,DAt w H3 a kvs/\KOk H3 d y/\Q ((valD kvs d).getD z) H3
def tNewD (w:World):TE:=fun _ H Q=>∀p,H p=none->Q (.ref p) (upd H p (dExt w p []))
section
variable {X:Cx}{o i e f value:Expr}{pos pos' tpos apos cpos:Pos}{td ty tv tx:TE}{w:World}
theorem xh (M:X.w=w)(hu:X.A.units+64<cLine)(O:PE X o td)(hi:PE X i ty)(U:NoSl i):PE X (.Subscript o i pos) (tGetD w td ty):=by
 subst M;intro pins s σ H Q I h;refine subD_of PySem.F.slot_dict_getitem.lookup U (thn (O pins s σ H _ I h) fun u s1 ⟨x,H1,Y,Z,q1⟩=>thn (hi pins s1 σ H1 _ Y q1) fun iv s2 ⟨y,H2,B,ry,a,kvs,d,v,ex,g,k,e,q2⟩=> ?_);subst ex;obtain rfl:u=Value.ref a:=Z;obtain⟨_,_,xs,r,m⟩:=xM B g;obtain⟨w',hw,L⟩:=RelO.some_of (v:=v) (o:=atD xs d) (by rw [<-e];exact val_rel r)
 exact⟨m.ty,dixD m (key_ok B g k ry r (Xh hu)) hw ⟨v,H2,B.tok _,L,q2⟩⟩
theorem d_conD {pins:List (Addr×Obj)}{σ:St}{H:Hp}{s:Shared}{a:Addr}{kvs:List (D×V×V)}{d:D}{y:V}{ky:Value}{E:Value->Shared->Prop}{Q:Bool->Shared->Prop}(hu:X.A.units+64<cLine)(I:Inv X pins σ H s)(g:DAt X.w H a kvs)(k:KOk H d y)(B:RelV y ky)(q:∀s',Inv X pins σ H s'->Q (valD kvs d).isSome s'):
  wpAny (model X.prog X.w) X.A (contains (.ref a) ky) Q E s:=by
 obtain⟨_,lo,xs,r,m⟩:=xM I g;refine dconD lo m (key_ok I g k B r (Xh hu)) ?_;rw [<-(val_rel r).isSome_eq];exact q _ (I.tok _)
theorem pc_inD (B:X.w=w)(hu:X.A.units+64<cLine)(hi:PE X i ty)(L:PE X o td):PC X .In i o (tInD w id ty td):=by
 subst B;intro pins s σ H Q I h;refine thn (hi pins s σ H _ I h) fun iv s1 ⟨y,H1,M,O,q1⟩=>thn (L pins s1 σ H1 _ M q1) fun u s2 ⟨x,H2,U,Y,a,kvs,d,ex,g,k,Z⟩=> ?_;subst ex;obtain rfl:u=Value.ref a:=Y;show wpAny _ _ (contains (.ref a) iv>>=fun r=>pure (Value.bool r)) _ _ s2;exact wpAny_bind (d_conD hu U g k O fun s3 I3=>wpAny_pure ⟨.bl _,H2,I3,rfl,Z⟩)
theorem pc_notinD (B:X.w=w)(hu:X.A.units+64<cLine)(hi:PE X i ty)(L:PE X o td):PC X .NotIn i o (tInD w not ty td):=by
 subst B;intro pins s σ H Q I h;refine thn (hi pins s σ H _ I h) fun iv s1 ⟨y,H1,M,O,q1⟩=>thn (L pins s1 σ H1 _ M q1) fun u s2 ⟨x,H2,U,Y,a,kvs,d,ex,g,k,Z⟩=> ?_;subst ex;obtain rfl:u=Value.ref a:=Y;show wpAny _ _ (contains (.ref a) iv>>=fun r=>pure (Value.bool !r)) _ _ s2;exact wpAny_bind (d_conD hu U g k O fun s3 I3=>wpAny_pure ⟨.bl _,H2,I3,rfl,Z⟩)
theorem ps_putD (U:X.w=w)(hu:X.A.units+64<cLine)(Y:PE X o td)(hi:PE X i ty)(Z:PE X value tv)(hs:swapsWith value (some (.Subscript o i pos')) pos.line X.env=pure false):
  PS X (.Assign [.Subscript o i pos'] value pos) (sPutD w td ty tv):=by
 subst U;intro pins s σ H D I h;refine wpAny_Assign_Subscript (thn (Z pins s σ H _ I h) fun r s1 ⟨v,H1,I1,rv,q1⟩=>thn (Y pins s1 σ H1 _ I1 q1) fun u s2 ⟨x,H2,I2,rx,q2⟩=>thn (hi pins s2 σ H2 _ I2 q2) fun iv s3 ⟨y,H3,B,M,a,kvs,d,ex,g,k,hl,q3⟩=> ?_) hs;subst ex;obtain rfl:u=Value.ref a:=rx;obtain⟨hz,lo,xs,L,m⟩:=xM B g;refine dputD m (key_ok B g k M L (Xh hu)) (by rw [<-Uh L];exact hz) fun h' O sm=>⟨σ,_,d_write B (by rw [g.here];exact True.intro) sm ?_ (dExt_ok ?_ lo (put_rel L M rv) O),q3⟩
 ·obtain⟨o,_,_,e,_⟩:=O;exact⟨o,e⟩
 ·have:=put_len kvs d y v;omega
theorem pe_get2D (Z:X.w=w)(hu:X.A.units+64<cLine)(ho:PE X o td)(he:PE X e ty)(hf:PE X f tx)(m:M2 X o "get" apos e f cpos):PE X (.Call (.Attribute o "get" apos) [e,f] [] cpos) (tGet2D w td ty tx):=by
 subst Z;intro pins s σ H Q I h;refine wpAny_Call_method m.base m.few m.line PySem.F.plainAttrs_dict PySem.F.slot_dict_get PySem.F.type_dict_get (thn (ho pins s σ H _ I h) fun u s1 ⟨x,H1,M,rx,a,O,ex,g0,q1⟩=> ?_);subst ex;obtain rfl:u=Value.ref a:=rx;obtain⟨_,_,xs0,r0,U⟩:=xM M g0;refine⟨U.ty,?_,?_⟩
 ·intro b z;cases z;obtain⟨ob,_,_,h1,h2,_⟩:=U;exact⟨ob,h1,h2.2.1⟩
 rw [m.trees];refine Calls.callWith_builtin rfl (Calls.evalArgs_plain (Calls.spliced_cons (thn (he pins s1 σ H1 _ M q1) fun iv s2 ⟨y,H2,I2,ry,q2⟩=>
  Calls.spliced_cons (thn (hf pins s2 σ H2 _ I2 q2) fun fv s3 ⟨z,H3,B,rz,kvs,d,g,k,q3⟩=>Calls.spliced_nil ?_))))
 obtain⟨_,lo,xs,r,mm⟩:=xM B g;refine dgetD2 lo mm (key_ok B g k ry r (Xh hu)) ⟨_,H3,B.tok _,?_,q3⟩;have:=val_rel (d:=d) r;cases Y:valD kvs d with
 |none=>
  rw [Y] at this;rw [RelO.QF this];exact rz
 |some v=>
  rw [Y] at this;obtain⟨w',hw,L⟩:=RelO.some_of this;rw [hw];exact L
theorem pe_newD (B:X.w=w):PE X (.Dict [] [] pos) (tNewD w):=fun pins s σ H Q I h=>by
 subst B;refine wpAny_Dict_empty ⟨.ref s.heap.objs.size,_,I.laid (a:=s.heap.objs.size) (o:=dExt X.w s.heap.objs.size []) (t':=s.toks) (fun _ _ q=>u7 _ q) (Nat.le_refl _) ?_,rfl,h _ (I.hok.fresh (Nat.le_refl _))⟩;exact dExt_ok (uv _) (beq_eq_false_iff_ne.mpr (Ua (uy I.big))) .nil ⟨_,#[],0,uf _ rfl,⟨rfl,rfl,rfl⟩,rfl,rfl⟩
end
def kwK (f:Addr)(rev:Bool):List (Str×Value):=if rev then [(Str.ofString "key",.ref f),(Str.ofString "reverse",.bool true)] else [(Str.ofString "key",.ref f)]
theorem args_sortK (a:Value)(f:Addr)(rev:Bool):argsOk "list.sort" ⟨[a],kwK f rev⟩:=by cases rev<;>(unfold argsOk;kernel_rfl)
theorem args_sortedK (a:Value)(f:Addr)(rev:Bool):argsOk "sorted" ⟨[a],kwK f rev⟩:=by cases rev<;>(unfold argsOk;kernel_rfl)
def XN (a:Addr)(ks:Value)(items:Array Value)(before:Nat)(rev:Bool)(keys:Array Value):Sem Fin:=do
 if rev then rule "list.sort.reverse"
 let kind<-if items.size<2 then pure general' else keyKind' keys
 let(Unit.unit,s)<-(if items.size<2 then pure Unit.unit else sortRuns').run (SortSt.mk' kind (if rev then(keys.zip items).reverse else keys.zip items) #[] 7 none)
 Builtin.List.listUpdate ks fun _=> #[]
 letGo ((arrOf s).map (·.1)).toList (failedOf s).toList
 let touched:=(<-seqEpoch a) !=before
 Builtin.List.listUpdate (.ref a) fun _=>if rev then((arrOf s).map (·.2)).reverse else(arrOf s).map (·.2)
 if let some e:=failedOf s then rule "list.sort.comparison-raised";throw e
 if touched then rule "list.sort.modified";raiseError "ValueError" "list modified during sort"
 ret .none
theorem sort_is (a f:Addr)(rev:Bool):Builtin.«list.sort» ⟨[.ref a],kwK f rev⟩=(do
  let items<-Builtin.List.listItems (.ref a)
  Builtin.List.listUpdate (.ref a) fun _=> #[]
  let before<-seqEpoch a
  let held<-newTuple items.toList
  let ks<-newList []
  holding [held,ks] do
   rule "list.sort.key"
   for x in items do
    match<-(call (.ref f) [x]).attempt with
    | .ok k=>Builtin.List.listUpdate ks (·.push k)
    | .error e=>
     rule "list.sort.key-raised"
     let made<-Builtin.List.listItems ks
     Builtin.List.listUpdate ks fun _=> #[]
     letGo made.toList.reverse [e]
     Builtin.List.listUpdate (.ref a) fun _=>items;throw e
   let keys<-Builtin.List.listItems ks
   XN a ks items before rev keys):=by
 cases rev
 ·rfl
 ·rfl
theorem perm_lift {α β:Type}{g:α->β}{l m:List β}(h:l.Perm m):∀B:List α,m=B.map g->∃zs:List α,zs.Perm B/\l=zs.map g:=by
 induction h with
 |nil=>
  intro B e;cases(show B= [] by simpa using e.symm)
  exact⟨[],.nil,rfl⟩
 |cons x h O=>
  intro B e;cases B with
  |nil=>cases e
  |cons z r=>
   rw [um] at e;injection e with U e2
   obtain⟨zs,p,q⟩:=O r e2;exact⟨z::zs,.cons z p,by rw [um,q,U]⟩
 |swap x y l=>
  intro B e
  match B,e with
  |a::b::r,e=>
   simp only [um,List.cons.injEq] at e;exact⟨b::a::r,.swap a b r,by simp only [um,e.1,e.2.1,e.2.2]⟩
 |trans h1 h2 L M=>
  intro B e;obtain⟨zs,p,q⟩:=M B e;obtain⟨ys,p',Y⟩:=L zs q;exact⟨ys,p'.trans p,Y⟩
section
variable {P:Program}{w:World}{A:Around}{E:Value->Shared->Prop}{s:Shared}
theorem back_ok {a ks:Addr}{items B:Array Value}{rk:Keyed->Nat}{kd:SortKind}{L m:Nat}{rev:Bool}{Q:Fin->Shared->Prop}(ha:s.heap.get? a=some (seqObj "list" #[] L))(hk:s.heap.get? ks=some (seqObj "list" B m))(ne:a≠ks)(hl:B.size=items.size)(aa:items.size<64)
  (Z:2<=items.size->∀(E:Value->Shared->Prop) (Q:SortKind->Shared->Prop),Q kd s->wpAny (model P w) A (keyKind' B) Q E s) (hc:ByRk P w A s kd (B.zip items) rk)
  (q:∀(ys:Array Keyed),ys.Perm (B.zip items)->Asc rk ys items.size->Q (.done (.ret .none)) {s with heap:=(s.heap.update ks (Obj.mapSeq fun _=> #[])).update a (Obj.mapSeq fun _=>if rev then(ys.map (·.2)).reverse else ys.map (·.2))}):
  wpAny (model P w) A (XN a (.ref ks) items L rev B) Q E s:=by
 have hz:(B.zip items).size=items.size:=by simp [hl]
 have hs:=sizeLine_eq;have jZ:(if rev=true then(B.zip items).reverse else B.zip items).Perm (B.zip items):=by
  cases rev
  ·exact Array.Perm.refl _
  ·exact Array.perm_iff_toList_perm.mpr (by rw [if_pos rfl,Array.toList_reverse];exact List.reverse_perm _)
 have U:∀st:SortSt,(arrOf st).Perm (B.zip items)->failedOf st=none->Asc rk (arrOf st) items.size->
   wpAny (model P w) A (do
    Builtin.List.listUpdate (.ref ks) fun _=> #[]
    letGo ((arrOf st).map (·.1)).toList (failedOf st).toList
    let touched:=(<-seqEpoch a) !=L
    Builtin.List.listUpdate (.ref a) fun _=>if rev then((arrOf st).map (·.2)).reverse else(arrOf st).map (·.2)
    if let some e:=failedOf st then rule "list.sort.comparison-raised";throw e
    if touched then rule "list.sort.modified";raiseError "ValueError" "list modified during sort"
    ret .none) Q E s:=by
  intro st p1 p2 O;refine wpAny_bind (listUpdate_at hk rfl (wpAny_bind (V8 ?_)) (hsz:=by omega) (hsz2:=by simp))
  have Y:(s.heap.update ks (Obj.mapSeq fun _=> #[])).get? a=some (seqObj "list" #[] L):=by rw [uU _ _ (Ua ne)];exact ha
  have hsz:((arrOf st).map (·.2)).size=items.size:=by rw [Array.size_map,p1.size_eq,hz]
  refine wpAny_bind (seqEpoch_at (s:={s with heap:=s.heap.update ks (Obj.mapSeq fun _=> #[])}) Y rfl (wpAny_bind (listUpdate_at (s:={s with heap:=s.heap.update ks (Obj.mapSeq fun _=> #[])}) Y rfl ?_ (hsz2:=by
   split
   ·rw [Array.size_reverse];omega
   ·omega))))
  rw [p2];simp only [bne_self_eq_false,uS,U4];exact wpAny_pure (q _ p1 O)
 unfold XN;have M:wpAny (model P w) A (do
   let kind<-if items.size<2 then pure general' else keyKind' B
   let(Unit.unit,st)<-(if items.size<2 then pure Unit.unit else sortRuns').run (SortSt.mk' kind (if rev then(B.zip items).reverse else B.zip items) #[] 7 none)
   Builtin.List.listUpdate (.ref ks) fun _=> #[]
   letGo ((arrOf st).map (·.1)).toList (failedOf st).toList
   let touched:=(<-seqEpoch a) !=L
   Builtin.List.listUpdate (.ref a) fun _=>if rev then((arrOf st).map (·.2)).reverse else(arrOf st).map (·.2)
   if let some e:=failedOf st then rule "list.sort.comparison-raised";throw e
   if touched then rule "list.sort.modified";raiseError "ValueError" "list modified during sort"
   ret .none) Q E s:=by
  by_cases few:items.size<2
  ·rw [if_pos few,if_pos few];refine wpAny_bind (wpAny_pure ?_);dsimp only;rw [StateT.run_pure];refine wpAny_bind (wpAny_pure ?_);refine U (SortSt.mk' general' (if rev then(B.zip items).reverse else B.zip items) #[] 7 none) jZ rfl fun i j ij jn=> ?_
   rw [show i=j by omega]
   exact Nat.le_refl _
  ·rw [if_neg few,if_neg few];refine wpAny_bind (Z (by omega) _ _ ?_)
   refine wpAny_bind (vc (rk_all (st:=SortSt.mk' kd (if rev then(B.zip items).reverse else B.zip items) #[] 7 none) (Q:=fun _ u=>(arrOf u).Perm (B.zip items)/\failedOf u=none/\Asc rk (arrOf u) items.size) hc ⟨jZ,rfl,rfl,rfl⟩ (by omega) (by omega) fun u p1 p2 O=>⟨p1,p2,by rw [hz] at O;exact O⟩) ?_ fun _ _ e=>e)
   rintro⟨⟨⟩,st⟩ u ⟨rfl,p1,p2,O⟩;exact U st p1 p2 O
 cases rev
 ·exact M
 ·exact wpAny_bind (wpAny_rule M)
end
section
variable {X:Cx}{pins:List (Addr×Obj)}{σ:St}{H:Hp}{s:Shared}{A:Around}{k:Nat}{f:Addr}{fd:FuncData}{ps:List Str}{sp:Sp}{E:Value->Shared->Prop}
theorem run_fnA {Q:VK}{us:List Value}{vs:List V}(F:FnOk X.prog X.w X.K X.mg X.base CX0 k f fd ps sp)(M:Room k A)(fr:A.frames=X.A.frames)(O:yC X.K fd ps [])(I:Inv X pins σ H s)(r:Vals vs us)(h:sp vs H Q E0):
  wpAny (model X.prog X.w) A (call (.ref f) us) (EP X pins σ Q) E s:=by
 have U:(us++ []).length=ps.length:=by rw [vL,<-r.length];exact F.len _ _ _ _ h
 have L:=O s us I.kIn U;rw [vL] at L;have B:=I.env0;refine wpAny_call (Uf (F.run A X.stack s H ⟨us,[]⟩ us vs Q E0 M ⟨fr.trans B.frames,B.mod,B.bs,B.bsz,B.funs,B.frf,B.hok,B.bare⟩ L r h (.inl I.tk)) fun r s' hq=> ?_);cases r with
 |error e=>exact hq.elim
 |ok Y=>
  cases Y with
  |ret u=>exact I.after hq
  |next=>exact False.elim hq
  |brk=>exact False.elim hq
  |cont=>exact False.elim hq
theorem fp_more {b c:Addr}{o:Obj}(h:FpOk X pins H b)(ne:c≠b):FpOk X (pins++ [(c,o)]) H b:=⟨h.1,h.2.1,h.2.2.1,h.2.2.2.1,h.2.2.2.2.1,fun p B=>by
 rcases List.mem_append.mp B with B|B
 ·exact h.2.2.2.2.2 p (vd _ B)
 ·rcases List.mem_append.mp B with B|B
  ·exact h.2.2.2.2.2 p (uu _ B)
  ·cases(show p=(c,o) by simpa using B)
   exact ne⟩
theorem JS {b:Addr}{H':Hp}(h:FpOk X pins H b)(e:H' b=none):FpOk X pins H' b:=⟨e,h.2⟩
theorem Yr {b:Addr}{o:Obj}(I:Inv X pins σ H s)(h:FpOk X pins H b)(e:s.heap.get? b=some o)(n:∀v,o.data≠ .cell v):Inv X (pins++ [(b,o)]) σ H s:=I.pins_of fun p B=>by
 rcases List.mem_append.mp B with B|B
 ·exact I.pin p (uu _ B)
 ·cases(show p=(b,o) by simpa using B)
  exact⟨e,h.1,h.2.1,h.2.2.1,n⟩
theorem Yp {pl:List (Addr×Obj)}(I:Inv X (pins++pl) σ H s):Inv X pins σ H s:=I.pins_of fun p B=>I.pin p (uu _ (vd _ B))
theorem Yo {b:Addr}{o:Obj}{pl:List (Addr×Obj)}(I:Inv X pl σ H s)(m:(b,o)∈pl):s.heap.get? b=some o/\H b=none:=⟨(I.pin (b,o) (uu _ m)).1,(I.pin (b,o) (uu _ m)).2.1⟩
theorem yK {b:Addr}{g:Array Value->Array Value}(I:Inv X pins σ H s)(h:FpOk X pins H b):Inv X pins σ H {s with heap:=s.heap.update b (Obj.mapSeq g)}:=
 I.turned (t':=s.toks) (fun c o B e=>(uU _ _ (Ua B)).trans e) h.1 h.2.1 h.2.2.2.1 h.2.2.2.2.1 h.2.2.2.2.2
theorem sort_ok {α:Type}{l:Addr}{rev:Bool}{xs:List (α×V)}{us:List Value}{R:Hp->α->V->Prop}{r:α->Nat}{n0:Nat}{QQ:Fin->Shared->Prop}
  (F:FnOk X.prog X.w X.K X.mg X.base CX0 k f fd ps sp) (hr:Room k A) (fr:A.frames=X.A.frames) (hb:yC X.K fd ps []) (I:Inv X pins σ H s) (hl:s.heap.get? l=some (seqObj "list" us.toArray n0)) (fl:FpOk X pins H l) (rv:Vals (xs.map (·.2)) us) (aj:xs.length<64)
  (ak:∀x∈xs,∀H',Same H H'->∀Q:VK,(∀u M,Same H' M->R M x.1 u->Q u M)->sp [x.2] H' Q E0) (mono:∀H1 H2 x u,Same H1 H2->R H1 x u->R H2 x u)
  (ae:∀s' H' kv L,Inv X pins σ H' s'->Same H H'->Vals kv L->Paired (fun(x:α×V) u=>R H' x.1 u) xs kv->∃kd rk,(2<=xs.length->∀(E:Value->Shared->Prop) (Q:SortKind->Shared->Prop),Q kd s'->wpAny (model X.prog X.w) A (keyKind' L.toArray) Q E s')/\
   ByRk X.prog X.w A s' kd (L.toArray.zip us.toArray) rk/\∀(i:Nat) (x:α×V) (a b:Value),xs[i]? =some x->L[i]? =some a->us[i]? =some b->rk (a,b)=r x.1)
  (q:∀s' H' (ys:List (α×V)) (out:List Value) m,Inv X pins σ H' s'->Same H H'->s'.heap.get? l=some (seqObj "list" out.toArray m)->FpOk X pins H' l->ys.Perm xs->(if rev=true then ys.Pairwise (fun x y=>r y.1<=r x.1) else ys.Pairwise (fun x y=>r x.1<=r y.1))->Vals (ys.map (·.2)) out->QQ (.done (.ret .none)) s'):
  wpAny (model X.prog X.w) A (Builtin.«list.sort» ⟨[.ref l],kwK f rev⟩) QQ E s:=by
 have hs:=sizeLine_eq;have lu:us.length=xs.length:=by rw [<-rv.length,uc]
 rw [sort_is];refine wpAny_bind (listItems_at hl rfl (wpAny_bind (listUpdate_at hl rfl ?_ (hsz:=by simp;omega) (hsz2:=by simp))))
 obtain⟨e1,ac⟩:∃e1,(s.heap.update l (Obj.mapSeq fun _=> #[])).get? l=some (seqObj "list" #[] e1):=⟨_,UR hl (fun _=> #[])⟩;refine wpAny_bind (seqEpoch_at ac rfl (wpAny_bind (wpAny_newTuple (wpAny_bind (wpAny_newList (uA (wpAny_bind (wpAny_rule ?_))))))));have I1:=yK (g:=fun _=> #[]) I fl;generalize ax:s.heap.update l (Obj.mapSeq fun _=> #[])=O at*;have I2:Inv X pins σ H {s with heap:=(O.push (seqObj "tuple" us.toArray 0)).push (seqObj "list" #[] 0)}:=I1.kept (t':=s.toks) fun b u e=>u7 _ (u7 _ e)
 have al:((O.push (seqObj "tuple" us.toArray 0)).push (seqObj "list" #[] 0)).get? (O.push (seqObj "tuple" us.toArray 0)).objs.size=some (seqObj "list" #[] 0):=uf _ rfl;have am:((O.push (seqObj "tuple" us.toArray 0)).push (seqObj "list" #[] 0)).get? l=some (seqObj "list" #[] e1):=u7 _ (u7 _ ac);have U:l<O.objs.size:=uh ac;have ad:O.objs.size<=(O.push (seqObj "tuple" us.toArray 0)).objs.size:=by rw [size_push'];omega
 have Y:l≠(O.push (seqObj "tuple" us.toArray 0)).objs.size:=uy (Nat.lt_of_lt_of_le U ad);have fk:FpOk X pins H (O.push (seqObj "tuple" us.toArray 0)).objs.size:=I1.fpOk ad (I1.hok.fresh ad);show wpAny _ _ _ _ _ {s with heap:=(O.push (seqObj "tuple" us.toArray 0)).push (seqObj "list" #[] 0)}
 generalize (O.push (seqObj "tuple" us.toArray 0)).objs.size=ks at*;generalize (O.push (seqObj "tuple" us.toArray 0)).push (seqObj "list" #[] 0)=g2 at*;have hsz:us.toArray.size=xs.length:=by simp [lu]
 refine wpAny_bind ?_;rw [<-Array.forIn_toList];refine vS _ (fun rest (_:PUnit) u=>∃(i:Nat) (H':Hp) (kv:List V) (L:List Value) (m:Nat),rest=us.drop i/\i<=xs.length/\Inv X pins σ H' u/\Same H H'/\u.heap.get? l=some (seqObj "list" #[] e1)/\u.heap.get? ks=some (seqObj "list" L.toArray m)/\H' l=none/\H' ks=none/\Vals kv L/\Paired (fun(x:α×V) u=>R H' x.1 u) (xs.take i) kv) _ ?_ ?_ _ _ ?_
 ·rintro x rest b u ⟨i,H',kv,L,m,B,hi,I3,sm,o1,o2,n1,n2,rk,pk⟩;have U:i<xs.length:=by
   rcases uZ i xs.length with h|h
   ·exact h
   ·rw [List.drop_eq_nil_of_le (by omega)] at B
    cases B
  have ao:us[i]? =some x:=by
   have:=congrArg (fun l=>l[0]?) B
   simpa using this.symm
  have Z:rest=us.drop (i+1):=by
   have:=congrArg List.tail B
   simpa using this
  obtain⟨y,hy⟩:∃y,xs[i]? =some y:=⟨_,u0 U⟩;have ry:RelV y.2 x:=by
   obtain⟨b,f1,g⟩:=rv.get (i:=i) (x:=y.2) (by rw [uj,hy];rfl)
   rw [ao] at f1;cases f1;exact g
  have I4:=Yr (Yr I3 (JS fl n1) o1 (fun v z=>by cases z)) (fp_more (JS fk n2) Y) o2 (fun v z=>by cases z)
  refine wpAny_bind (U6 (thn (run_fnA (vs:= [y.2]) (Q:=fun v M=>Same H' M/\R M y.1 v) F hr fr hb I4 (.cons ry .nil) (ak y (ud hy) H' sm _ fun u M s1 r1=>⟨s1,r1⟩)) fun kx u2 ⟨ap,H2,I5,aq,af,rr⟩=> ?_));have q1:=Yo I5 (b:=l) (o:=seqObj "list" #[] e1) (by simp)
  have q2:=Yo I5 (b:=ks) (o:=seqObj "list" L.toArray m) (by simp)
  have I6:Inv X pins σ H2 u2:=Yp (Yp I5);have lk:L.length=i:=by
   have h1:=rk.length;have h2:=Uh pk;rw [uq] at h2;omega
  refine wpAny_bind (listUpdate_at q2.1 rfl (wpAny_pure ?_) (hsz:=by simp;omega) (hsz2:=by simp;omega))
  have ag:=UR q2.1 (fun ys=>ys.push kx);rw [show L.toArray.push kx=(L++ [kx]).toArray by simp] at ag
  refine⟨i+1,H2,kv++ [ap],L++ [kx],_,Z,U,yK I6 (JS fk q2.2),sm.trans af,?_,ag,q1.2,q2.2,rk.append (.cons aq .nil),?_⟩
  ·exact(uU _ _ (Ua Y)).trans q1.1
  ·have e:xs.take (i+1)=xs.take i++ [y]:=by rw [uE,hy];rfl
   rw [e];exact Paired.snoc (Paired.mapP pk fun x u h=>mono _ _ _ _ af h) rr
 ·rintro b u ⟨i,H',kv,L,m,B,hi,I3,sm,o1,o2,n1,n2,rk,pk⟩;have au:i=xs.length:=by
   have:=congrArg List.length B;simp at this;omega
  subst au;rw [vq] at pk;have lk:L.length=xs.length:=by rw [<-rk.length];exact(Uh pk).symm
  obtain⟨kd,ah,c1,c2,c3⟩:=ae u H' kv L I3 sm rk pk;refine wpAny_bind (listItems_at o2 rfl (back_ok o1 o2 Y (by simp [lk,lu]) (by simp [lu,aj]) (fun h2=>c1 (by rw [hsz] at h2;exact h2)) c2 fun ys p1 p2=> ?_))
  have av:(L.toArray.zip us.toArray).toList=(xs.zip (L.zip us)).map (·.2):=by
   rw [List.map_snd_zip (by simp [lk,lu])]
   simp
  obtain⟨zs,pz,ez⟩:=perm_lift (g:=fun z:(α×V)×Value×Value=>z.2) (Array.perm_iff_toList_perm.mp p1) _ av;have aa:∀z∈zs,ah z.2=r z.1.1/\RelV z.1.2 z.2.2:=fun z hz=>by
   obtain⟨j,hj⟩:=List.mem_iff_getElem?.mp (pz.mem_iff.mp hz);rw [U7] at hj;obtain⟨j1,j2⟩:=hj;rw [U7] at j2;refine⟨c3 j z.1 z.2.1 z.2.2 j1 j2.1 j2.2,?_⟩;obtain⟨b,f1,g⟩:=rv.get (i:=j) (x:=z.1.2) (by rw [uj,j1];rfl)
   rw [j2.2] at f1;cases f1;exact g
  have perm:(zs.map (·.1)).Perm xs:=by
   have:=pz.map (·.1)
   rwa [List.map_fst_zip (by simp [lk,lu])] at this
  have ab:Vals ((zs.map (·.1)).map (·.2)) (zs.map (·.2.2)):=by
   have all:∀l:List ((α×V)×Value×Value),(∀z∈l,RelV z.1.2 z.2.2)->Vals ((l.map (·.1)).map (·.2)) (l.map (·.2.2)):=by
    intro l
    induction l with
    |nil=>exact fun _=> .nil
    |cons z l ih=>exact fun h=> .cons (h z u5) (ih fun y hy=>h y (u4 _ hy))
   exact all zs fun z hz=>(aa z hz).2
  have ai:(zs.map (·.1)).Pairwise (fun x y=>r x.1<=r y.1):=by
   rw [List.pairwise_map,List.pairwise_iff_getElem];intro i j hi hj aw;have lz:zs.length=us.toArray.size:=by rw [pz.length_eq];simp [lk,lu]
   have at_:∀(i:Nat) (hi:i<zs.length),rkAt ah ys i=r zs[i].1.1:=fun i hi=>by
    unfold rkAt;rw [<-v4,ez,uj,u0 hi];exact(aa _ (uN hi)).1
   have:=p2 i j (vU aw) (by omega)
   rw [at_ i hi,at_ j hj] at this;exact this
  have I4:=yK (g:=fun _=>if rev then(ys.map (·.2)).reverse else ys.map (·.2)) (yK (g:=fun _=> #[]) I3 (JS fk n2)) (JS fl n1)
  obtain⟨mm,ol⟩:∃mm,((u.heap.update ks (Obj.mapSeq fun _=> #[])).update l (Obj.mapSeq fun _=>if rev then(ys.map (·.2)).reverse else ys.map (·.2))).get? l=some (seqObj "list" (if rev then(ys.map (·.2)).reverse else ys.map (·.2)) mm):=⟨_,UR ((uU _ _ (Ua Y)).trans o1) _⟩
  have ey:(ys.map (·.2)).toList=zs.map (·.2.2):=by rw [U1,ez,uB];rfl
  cases rev with
  |false=>
   refine q _ H' (zs.map (·.1)) (zs.map (·.2.2)) mm I4 sm ?_ (JS fl n1) perm (by rw [if_neg (by simp)];exact ai) ab
   rw [<-ey];exact ol
  |true=>
   refine q _ H' (zs.map (·.1)).reverse (zs.map (·.2.2)).reverse mm I4 sm ?_ (JS fl n1) ((List.reverse_perm _).trans perm) (by rw [if_pos rfl,List.pairwise_reverse];exact ai) ?_
   ·rw [<-ey,<-Array.toList_reverse];exact ol
   ·rw [List.map_reverse];exact vals_rev ab
 ·exact⟨0,H,[],[],0,rfl,uv _,I2,Same.refl H,am,al,fl.1,fk.1,.nil,.nil⟩
end
def EsAt (h:Heap)(d:Addr)(es:Array DictEntry)(ep:Nat):Prop:=∃o,h.get? d=some o/\o.ExactDict/\o.data= .dict es ep
section
variable {P:Program}{w:World}{A:Around}{E:Value->Shared->Prop}{s:Shared}{it d:Addr}{es:Array DictEntry}{i ep:Nat}
theorem EsAt.to {h h':Heap}(x:EsAt h d es ep)(k:∀o,h.get? d=some o->h'.get? d=some o):EsAt h' d es ep:=let⟨o,e,r⟩:=x;⟨o,k o e,r⟩
theorem EsAt.ty (x:EsAt s.heap d es ep):s.TypeIs (.ref d) "dict":=let⟨o,e,r,_⟩:=x;⟨o,e,r.1⟩
theorem iter_es {Q:Value->Shared->Prop}(lo:(d==sysModules)=false)(hm:EsAt s.heap d es ep)
  (q:Q (.ref s.heap.objs.size) {s with heap:=s.heap.push {cls:= .type "dict_keyiterator",data:= .fields #[.ref d,.int 0 0,.int es.size 0,.int ep 0]}}):wpAny (model P w) A (pyIter (.ref d)) Q E s:=by
 have B:=hm.ty;obtain⟨o,L,M,hd⟩:=hm;refine V1 B F.slot_dict_iter (uz F.slot_dict_iter B F.entry_dict_iter ?_ (F.args_dict_iter_1 _));unfold Builtin.«dict.__iter__» Builtin.Dict.dictSlotNone;refine wpAny_bind (wpAny_bind (wpAny_notOrdered_dict B ?_));show wpAny _ _ (pure (Value.ref d)) _ _ s;refine wpAny_pure ?_;show wpAny _ _ (Builtin.Dict.showsAll d>>=_) _ _ s;unfold Builtin.Dict.showsAll;rw [if_neg (by simp [lo])]
 refine wpAny_bind (wpAny_pure (wpAny_bind (V0 L hd (wpAny_bind (vW L hd (wpAny_bind (uJ (wpAny_pure ⟨_,rfl,"dict_keyiterator",_,⟨_,uf _ rfl,rfl⟩,F.slot_dict_keyiterator_next.lookup,?_⟩))))))))
 simpa [rawInt] using q
theorem XF {Q:Option Value->Shared->Prop}(Y:A.handled=none)(B:s.heap.IsKeyIter it d i es.size ep)(hm:EsAt s.heap d es ep)
  (q1:∀e h',es[i]? =some e->h'.IsKeyIter it d (i+1) es.size ep->Heap.SameBut it s.heap h'->Q (some e.key) {s with heap:=h'}) (Z:es[i]? =none->∀h',Heap.ExtBut it s.heap h'->Q none {s with heap:=h'}):
  wpAny (model P w) A (pyNext (.ref it)) Q E s:=by
 obtain⟨o,U,hc,hd⟩:=id B;obtain⟨od,M,aa,O⟩:=hm;unfold pyNext;refine wpAny_bind (U6 (uC (name:=Str.ofString "__next__") B.typeIs F.slot_dict_keyiterator_next (uz F.slot_dict_keyiterator_next B.typeIs F.entry_dict_keyiterator_next (wpAny_bind (wpAny_pure (wpAny_bind (wpAny_bind ?_)))) (F.args_dict_keyiterator_next_1 _))))
 first|refine wpAny_bind (Um B.typeIs (wpAny_pure ?_))|refine wpAny_bind (UK B.typeIs (wpAny_pure ?_))
 refine wpAny_bind (Uo U hd ?_);simp only [show Builtin.Dict_items.ownsTuple "dict_keyiterator"=false by decide,uS,U4]
 show wpAny _ _ (if(Value.ref d==Value.none)=true then _ else _) _ _ s
 rw [if_neg (show¬(Value.ref d==Value.none)=true by simp)]
 refine wpAny_bind (wpAny_pure (wpAny_bind (V0 M O ?_)));rw [if_neg (by simp)]
 refine wpAny_bind (wpAny_pure (wpAny_bind (vW M O ?_)));rw [if_neg (by simp)]
 refine wpAny_pure ?_;simp only [show¬((i:Int)<0) by omega,U4,Uc]
 cases e:es[i]? with
 |some x=>
  refine wpAny_bind ?_
  first|refine wpAny_bind (Um B.typeIs (wpAny_pure ?_))|refine wpAny_bind (UK B.typeIs (wpAny_pure ?_))
  refine wpAny_bind (wpAny_isOneOf_keyiter B.typeIs ?_);show wpAny _ _ (setField (.ref it) 1 (rawInt ((i:Int)+1))>>=_) _ _ s;refine wpAny_bind (vI U hd (by simp) ?_)
  have L:(s.heap.update it (Obj.mapFields (·.setIfInBounds 1 (rawInt ((i:Int)+1))))).IsKeyIter it d (i+1) es.size ep:=
   ⟨_,uV _ U (vM (uW hd _)),(Uz ..).trans hc,by rw [uW hd];simp [rawInt]⟩
  refine wpAny_bind (uA (wpAny_bind (wpAny_isOneOf_keyiter (s:={s with heap:=s.heap.update it (Obj.mapFields (·.setIfInBounds 1 (rawInt ((i:Int)+1))))}) L.typeIs ?_)))
  show wpAny _ _ (pure x.key) _ _ _;exact wpAny_pure (wpAny_pure ⟨_,rfl,wpAny_pure (q1 x _ e L (uD ..))⟩)
 |none=>
  refine wpAny_bind ?_
  first|refine wpAny_bind (Um B.typeIs (wpAny_pure ?_))|refine wpAny_bind (UK B.typeIs (wpAny_pure ?_))
  show wpAny _ _ (setField (.ref it) 0 .none>>=_) _ _ s;refine wpAny_bind (vI U hd (by simp) ?_)
  show wpAny _ _ (newExc (.type "StopIteration") []>>=_) _ _ _;refine wpAny_bind ?_;simp only [newExc,newTuple];refine wpAny_bind (uJ ?_ (by size_fits))
  refine wpAny_bind (m:=firstArgMember _ _) (Uv (a:=Value.none) (by first|rfl|(simp only [firstArgMember];rfl)) ?_)
  refine uJ ?_ (by size_fits)
  simp only [raiseNew];refine wpAny_bind (wpAny_handled ?_);rw [show A.in1.handled=none from Y]
  refine wpAny_bind (wpAny_pure (wpAny_throw ?_));refine wpAny_bind (wpAny_isInstance (T:="StopIteration") (b:=true) ⟨_,uf _ rfl,rfl⟩ isSubtype_stop ?_);exact wpAny_pure (Z e _ (((uD ..).extBut.push _).push _))
theorem walk_es (U:A.handled=none)(I d:Addr)(ne:d≠I)(es:Array DictEntry)(ep:Nat):
  Walks P w A I [I,d] [I] es.size (fun i v=>∃e,es[i]? =some e/\v=e.key) (fun i h=>h.IsKeyIter I d i es.size ep/\EsAt h d es ep) where
 sub:=fun b B=>by simp at B;simp [B]
 frame:=fun _ _ _ st hk=>⟨st.1.at fun o e=>hk I (by simp) o e,st.2.to fun o e=>hk d (by simp) o e⟩
 item:=fun i s Q E hi st L=>XF U st.1 st.2 (fun e h' O M Y=>L e.key h' s.toks ⟨e,O,rfl⟩ ⟨M,st.2.to fun o x=>Y.extBut d o ne x⟩ fun b o B x=>Y.extBut b o (fun z=>B (by simp [z])) x) fun e=>by
  rw [U8 hi] at e;cases e
 done:=fun s Q E st L=>XF U st.1 st.2 (fun e h' O _ _=>by simp at O) fun _ h' Z=>L h' s.toks fun b o B x=>Z b o (fun z=>B (by simp [z])) x
 self:=fun _ _ _ _ st L=>wpAny_pyIter_keyiter st.1 L
theorem src_es (lo:(d==sysModules)=false):PySem.W.KdlSrc P w "dict" d d es.size (fun i v=>∃e,es[i]? =some e/\v=e.key) (fun h=>EsAt h d es ep) where
 type:=fun _ hm=>hm.ty
 there:=fun _ ⟨_,e,_⟩=>⟨uh e,uh e⟩
 keep:=fun _ _ hm hk=>hm.to fun o e=>hk d (.inl rfl) o e
 notList:=by decide
 notTuple:=by decide
 hint:=fun _ _ _ _ hm hq=>PySem.W.kdl_hint_dict hm.ty hq
 iter:=fun _ _ B hm=>⟨_,_,fun _ _ hq=>iter_es lo hm hq,walk_es B _ d (uy (let⟨_,e,_⟩:=hm;uh e)) es ep,⟨⟨_,uf _ rfl,rfl,rfl⟩,hm.to fun _ e=>u7 _ e⟩⟩
end
end L2
namespace AwQ
open PySem PySem.SeqAt
open PySem.AutoSeq1 (wpAny_loadPart')
open PySem.MeetsSeq PySem.MeetsSeq2 PySem.MeetsSeq3
theorem list_ltLoop (l b:Addr)(xs ys:Array Value)(n n2:Nat)(dd O:Option Addr)(sl U:Array (Option Value))(e lt:Nat->Bool)(k:Nat):∀i:Nat,min xs.size ys.size-i=k->i<=min xs.size ys.size->
  Meets (Builtin.«list.__eq__.loop» ⟨[.ref l,.ref b,rawInt (i:Int),rawInt 0],[]⟩)
   (fun A R s=>s.heap.get? l=some {cls:= .type "list",dict:=dd,data:= .seq xs n,slots:=sl}/\s.heap.get? b=some {cls:= .type "list",dict:=O,data:= .seq ys n2,slots:=U}/\
    (∀j (h1:j<xs.size) (h2:j<ys.size),EqAt A.in1 s xs[j] ys[j] (e j))/\(∀j (h1:j<xs.size) (h2:j<ys.size),(∀i,i<j->e i=true)->e j=false->LtAt A.in1 s xs[j] ys[j] (lt j))/\(∀j,j<i->e j=true)/\
    R (.ok (.ret (.bool (lexG e lt (decide (xs.size<ys.size)) i k)))) s):=by
 induction k with
 |zero=>
  intro i hk hi prog w A R s h;obtain⟨hp,g,d,tk,os⟩:=s;obtain⟨B,L,Y,Z,ha,h⟩:=h
  wp_walk using uI B,uI L
  have M:R (.ok (.ret (.bool (decide (xs.size<ys.size))))) ⟨hp,g,d,tk,os⟩:=h;rcases uZ i xs.size with z|z
  ·have y:ys.size<=i:=by omega
   rw [show xs[((i:Nat):Int).toNat]? =some xs[i] by simp [z],show ys[((i:Nat):Int).toNat]? =none by simp;omega]
   wp_walk using uI B,uI L
   exact M
  ·rw [show xs[((i:Nat):Int).toNat]? =none by simp;omega]
   wp_walk using uI B,uI L
   exact M
 |succ k ih=>
  intro i hk hi prog w A R s h;obtain⟨hp,g,d,tk,os⟩:=s;obtain⟨B,L,Y,Z,ha,h⟩:=h
  wp_walk using uI B,uI L
  have z1:i<xs.size:=by omega
  have z2:i<ys.size:=by omega
  have i1:xs[((i:Nat):Int).toNat]? =some xs[i]:=by simp [z1]
  have i2:ys[((i:Nat):Int).toNat]? =some ys[i]:=by simp [z2]
  rw [i1,i2];refine wpAny_bind (Y i z1 z2 prog w _ _ ?_);cases c:e i with
  |true=>
   have e1:lexG e lt (decide (xs.size<ys.size)) i (k+1)=lexG e lt (decide (xs.size<ys.size)) (i+1) k:=by rw [lexG,if_pos c]
   rw [e1] at h
   wp_walk
   rw [show((i:Int)+1)=((i+1:Nat):Int) by push_cast;rfl]
   exact⟨Ui plain_eq_loop _,vz entry_eq_loop (by
    rw [ve plain_eq_loop _];exact ih (i+1) (by omega) (by omega) prog w A R _ ⟨B,L,Y,Z,fun j hj=>by
     by_cases y:j=i
     ·rw [y];exact c
     ·exact ha j (by omega),h⟩)⟩
  |false=>
   have e1:lexG e lt (decide (xs.size<ys.size)) i (k+1)=lt i:=by rw [lexG,if_neg (by rw [c];decide)]
   rw [e1] at h;have aa:=Z i z1 z2 ha c prog w
   wp_walk using uI B,uI L
   rw [i1,i2]
   wp_walk using aa
   exact h
theorem list_ltG (l b:Addr)(xs ys:Array Value)(n M:Nat)(dd B:Option Addr)(sl L:Array (Option Value))(e lt:Nat->Bool):
  Meets (Builtin.«list.__lt__» ⟨[.ref l,.ref b],[]⟩)
   (fun A R s=>s.heap.get? l=some {cls:= .type "list",dict:=dd,data:= .seq xs n,slots:=sl}/\s.heap.get? b=some {cls:= .type "list",dict:=B,data:= .seq ys M,slots:=L}/\
    (∀j (h1:j<xs.size) (h2:j<ys.size),EqAt A.in1 s xs[j] ys[j] (e j))/\(∀j (h1:j<xs.size) (h2:j<ys.size),(∀i,i<j->e i=true)->e j=false->LtAt A.in1 s xs[j] ys[j] (lt j))/\
    R (.ok (.ret (.bool (lexG e lt (decide (xs.size<ys.size)) 0 (min xs.size ys.size))))) s):=by
 intro prog w A R s h;obtain⟨hp,g,d,tk,os⟩:=s;obtain⟨O,U,Y,Z,h⟩:=h;have f3:=AutoSeq1.sub_list_list
 wp_walk using uI O,uI U
 exact⟨Ui plain_eq_loop _,vz entry_eq_loop (by
  rw [ve plain_eq_loop _];exact list_ltLoop l b xs ys n M dd B sl L e lt _ 0 rfl (uv _) prog w A R _ ⟨O,U,Y,Z,fun j hj=>absurd hj (vN _),by simpa using h⟩)⟩
end AwQ
namespace L2
open PySem PyProof.Rows
section
variable {P:Program}{w:World}{A:Around}{E:Value->Shared->Prop}{s:Shared}
theorem Xq {α β:Type}{f:α->β}{m:α->Sem β}:∀{vs:List α}{Q:List β->Shared->Prop},(∀v∈vs,∀Q:β->Shared->Prop,Q (f v) s->wpAny (model P w) A (m v) Q E s)->Q (vs.map f) s->wpAny (model P w) A (vs.mapM m) Q E s
 | [],Q,_,q=>by rw [List.mapM_nil];exact wpAny_pure q
 |v::vs,Q,h,q=>by
  rw [List.mapM_cons];exact wpAny_bind (h v u5 _ (wpAny_bind (Xq (fun u hu=>h u (u4 _ hu)) (wpAny_pure q))))
theorem one_type {vs:List Value}{T:String}{Q:Option Value->Shared->Prop}(h:∀v∈vs,s.TypeIs v T)(ne:vs≠ [])(q:Q (some (.type T)) s):wpAny (model P w) A (oneTypeOnly' vs.toArray) Q E s:=by
 rw [oneTypeOnly'_eq,List.mapM_toArray];refine wpAny_bind (wpAny_bind (Xq (f:=fun _=>Value.type T) (fun v L Q q=>UH (h v L) q) (wpAny_pure ?_)));cases vs with
 |nil=>exact absurd rfl ne
 |cons v r=>
  have M:(List.map (fun _=>Value.type T) (v::r)).toArray[0]? =some (Value.type T):=by simp
  rw [M];have B:((List.map (fun _=>Value.type T) (v::r)).toArray.all fun x=>x==Value.type T)=true:=by
   simp only [List.all_toArray,Ug,V5];intro _ _;simp
  simp only [B,if_true];exact wpAny_pure q
theorem first_is:firstOfTuple'=fun v=>(do
  if(<-typeOf v) != .type "tuple" then return none
  return (<-Builtin.List.listItems v)[0]?):=rfl
theorem kind_lists {vs:List Value}{Q:SortKind->Shared->Prop}(h:∀v∈vs,s.TypeIs v "list")(ne:vs≠ [])(q:Q oneType' s):wpAny (model P w) A (keyKind' vs.toArray) Q E s:=by
 rw [keyKind'_eq,List.mapM_toArray];have B:=first_is;refine wpAny_bind (wpAny_bind (Xq (f:=fun _=>none) (fun v L Q q=> ?_) (wpAny_pure ?_)))
 ·rw [B];refine wpAny_bind (UH (h v L) ?_);rw [if_pos (by decide)]
  exact wpAny_pure q
 ·cases vs with
  |nil=>exact absurd rfl ne
  |cons v r=>
   rw [if_neg (by simp),if_neg (by simp)]
   refine wpAny_bind (one_type h ne ?_);simp only [Option.isSome_some,if_true];exact wpAny_pure q
theorem kind_tups {vs:List Value}{Q:SortKind->Shared->Prop}(h:∀v∈vs,∃a its i t,v= .ref a/\IsTup s.heap a its/\its[0]? =some (.int i t))(ne:vs≠ [])(q:Q (tuples' true) s):wpAny (model P w) A (keyKind' vs.toArray) Q E s:=by
 rw [keyKind'_eq,List.mapM_toArray];have hf:=first_is;have hd:∃f:Value->Option Value,∀v∈vs,∃a its i t,v= .ref a/\IsTup s.heap a its/\its[0]? =some (.int i t)/\f v=some (.int i t):=by
  refine⟨fun v=>match v with
   | .ref a=>match s.heap.get? a with
    |some o=>match o.data with
     | .seq its _=>its[0]?
     |_=>none
    |none=>none
   |_=>none,fun v B=> ?_⟩
  obtain⟨a,its,i,t,rfl,Y,e⟩:=h v B;obtain⟨o,Z,hc,n,O⟩:=id Y;exact⟨a,its,i,t,rfl,Y,e,by simp only [Z,O];exact e⟩
 obtain⟨f,L⟩:=hd;refine wpAny_bind (wpAny_bind (Xq (f:=f) (fun v B Q q=> ?_) (wpAny_pure ?_)))
 ·rw [hf];obtain⟨a,its,i,t,rfl,Y,e,M⟩:=L v B;obtain⟨o,Z,hc,n,O⟩:=id Y;refine wpAny_bind (UH (T:="tuple") ⟨o,Z,hc⟩ ?_);rw [if_neg (by decide)]
  refine wpAny_bind (listItems_at Z O ?_);rw [e];rw [M] at q;exact wpAny_pure q
 ·have U:((List.map f vs).toArray.all fun x=>x.isSome)=true:=by
   simp only [List.all_toArray,Ug,V5];intro v B;obtain⟨a,its,i,t,rfl,_,_,M⟩:=L v B;simp only [Function.comp,M]
   rfl
  rw [if_pos U];have aa:∃us:List Value,(List.map f vs).toArray.filterMap id=us.toArray/\us≠ []/\∀u∈us,∃i t,u= .int i t:=by
   refine⟨vs.filterMap f,?_,?_,?_⟩
   ·simp
   ·cases vs with
    |nil=>exact absurd rfl ne
    |cons v r=>
     obtain⟨a,its,i,t,_,_,_,M⟩:=L v u5;rw [vC,M];simp
   ·intro u hu;obtain⟨v,B,e⟩:=List.mem_filterMap.mp hu;obtain⟨a,its,i,t,_,_,_,M⟩:=L v B;rw [M] at e;cases e;exact⟨i,t,rfl⟩
  obtain⟨us,e1,M,e3⟩:=aa;rw [e1];refine wpAny_bind (wpAny_rule (wpAny_bind (one_type (T:="int") (fun v B=> ?_) M ?_)))
  ·obtain⟨i,t,rfl⟩:=e3 v B;exact typeIs_int s i t
  ·exact wpAny_pure q
theorem one_lists {l b:Addr}{xs ys:Array Value}{e lt:Nat->Bool}{Q:Bool->Shared->Prop}(hl:s.heap.IsList l xs)(hb:s.heap.IsList b ys)(hu:A.units<cLine)
  (he:∀j (h1:j<xs.size) (h2:j<ys.size),SeqAt.EqAt A.in1 s xs[j] ys[j] (e j)) (ht:∀j (h1:j<xs.size) (h2:j<ys.size),(∀i,i<j->e i=true)->e j=false->AwQ.LtAt A.in1 s xs[j] ys[j] (lt j))
  (q:Q (AwQ.lexG e lt (decide (xs.size<ys.size)) 0 (min xs.size ys.size)) s):wpAny (model P w) A (oneLt' true (.ref l) (.ref b)) Q E s:=by
 obtain⟨⟨cls,dd,data,sl⟩,L,Z,n,hd⟩:=id hl;obtain⟨⟨aa,M,O,U⟩,Y,B,n2,hd2⟩:=id hb;simp only at Z hd B hd2;subst Z hd B hd2;rw [oneLt'_eq];simp only [if_true];refine wpAny_bind (wpAny_cRoomFor_or (.inr hu) ?_);refine wpAny_bind (wpAny_callSpecialIfBound?_slot ⟨_,L,rfl⟩ F.slot_list_lt (call_meets F.slot_list_lt ⟨_,L,rfl⟩ F.entry_list_lt (F.args_list_lt_2 _ _) (AwQ.list_ltG l b xs ys n n2 dd M sl U e lt) ⟨L,Y,he,ht,?_⟩));exact uG q
theorem keyLt_tups (b:Bool)(x y:Value):keyLt' (tuples' b) x y=(do
  let xs<-Builtin.List.listItems x;let ys<-Builtin.List.listItems y
  for ((p,q),i) in(xs.toList.zip ys.toList).zipIdx do
   if !(<-eqBool p q) then return<-oneLt' (b&&i==0) p q
  return xs.size<ys.size):=rfl
theorem key_tups {l b:Addr}{xs ys:Array Value}{e lt:Nat->Bool}{Q:Bool->Shared->Prop}(hl:IsTup s.heap l xs)(hb:IsTup s.heap b ys)
  (he:∀j (h1:j<xs.size) (h2:j<ys.size),SeqAt.EqAt A s xs[j] ys[j] (e j)) (ht:∀j (h1:j<xs.size) (h2:j<ys.size),(∀i,i<j->e i=true)->e j=false->AwQ.LtAt A s xs[j] ys[j] (lt j))
  (h0:∀(h1:0<xs.size) (h2:0<ys.size),∃i t k u,xs[0]= .int i t/\ys[0]= .int k u/\lt 0=decide (i<k))
  (q:Q (AwQ.lexG e lt (decide (xs.size<ys.size)) 0 (min xs.size ys.size)) s):wpAny (model P w) A (keyLt' (tuples' true) (.ref l) (.ref b)) Q E s:=by
 obtain⟨o,ho,hc,n,hd⟩:=id hl;obtain⟨o2,O,aa,n2,hd2⟩:=id hb;rw [keyLt_tups];refine wpAny_bind (listItems_at ho hd (wpAny_bind (listItems_at O hd2 ?_)));have U:((xs.toList.zip ys.toList).zipIdx).length=min xs.size ys.size:=by simp
 refine wpAny_bind (vS _ (fun rest (r:Option Bool×Unit) u=>r.1=none/\u=s/\∃i,i<=min xs.size ys.size/\(∀k,k<i->e k=true)/\rest=((xs.toList.zip ys.toList).zipIdx).drop i/\Q (AwQ.lexG e lt (decide (xs.size<ys.size)) i (min xs.size ys.size-i)) s) _ ?_ ?_ _ _ ⟨rfl,rfl,0,uv _,fun _ z=>absurd z (vN _),rfl,by simpa using q⟩)
 ·rintro⟨⟨p,q'⟩,j⟩ rest ⟨Y,r2⟩ u ⟨Z,rfl,i,_,B,hz,hR⟩;have M:i<((xs.toList.zip ys.toList).zipIdx).length:=by
   rcases uZ i ((xs.toList.zip ys.toList).zipIdx).length with z|z
   ·exact z
   ·rw [List.drop_of_length_le z] at hz;cases hz
  have hm:i<min xs.size ys.size:=U▸M;have h1:i<xs.size:=by omega
  have h2:i<ys.size:=by omega
  rw [vj M] at hz;injection hz with L hrest
  have hp:p=xs[i]:=by have:=congrArg (·.1.1) L;simpa using this
  have hq:q'=ys[i]:=by have:=congrArg (·.1.2) L;simpa using this
  have hj:j=i:=by have:=congrArg (·.2) L;simpa using this
  subst hp hq hj;obtain⟨k,hk⟩:∃k,min xs.size ys.size-j=k+1:=⟨min xs.size ys.size-j-1,by omega⟩
  rw [hk,AwQ.lexG] at hR;refine wpAny_bind (he j h1 h2 P w _ _ ?_);cases c:e j with
  |true=>
   rw [c,if_pos rfl] at hR;rw [if_neg (by simp)]
   refine wpAny_pure ⟨rfl,rfl,j+1,by omega,fun m ab=> ?_,hrest,by rw [show min xs.size ys.size-(j+1)=k by omega];exact hR⟩
   by_cases y:m=j
   ·rw [y];exact c
   ·exact B m (by omega)
  |false=>
   rw [c,if_neg (by simp)] at hR
   rw [if_pos (by simp)]
   refine wpAny_bind ?_;cases j with
   |zero=>
    obtain⟨i1,t1,k1,u1,e1,e2,e3⟩:=h0 h1 h2;rw [e1,e2];refine oneLt_int ?_;rw [e3] at hR;exact wpAny_pure (wpAny_pure hR)
   |succ j=>
    rw [oneLt'_eq];simp only [show(true&&(j+1==0))=false by simp,uS,U4]
    exact wpAny_bind (ht (j+1) h1 h2 B c P w _ _ (uG (wpAny_pure (wpAny_pure hR))))
 ·rintro⟨Y,r2⟩ u ⟨Z,rfl,i,ac,_,hz,hR⟩;cases(show Y=none from Z)
  have ad:min xs.size ys.size<=i:=by
   rcases uZ i ((xs.toList.zip ys.toList).zipIdx).length with z|z
   ·rw [vj z] at hz;cases hz
   ·exact U▸z
  rw [show min xs.size ys.size-i=0 by omega,AwQ.lexG] at hR
  exact wpAny_pure hR
end
def rkOf {α:Type}(lt:α->α->Bool)(l:List α)(x:α):Nat:=l.countP fun y=>lt y x
theorem countP_lt {α:Type}{p q:α->Bool}:∀{l:List α}{z:α},(∀y∈l,p y=true->q y=true)->z∈l->p z=false->q z=true->l.countP p<l.countP q
 |x::l,z,h,hz,h1,h2=>by
  have L:l.countP p<=l.countP q:=List.countP_mono_left fun y B=>h y (u4 _ B);rw [List.countP_cons,List.countP_cons];rcases List.mem_cons.mp hz with rfl|hz
  ·rw [h1,h2];simp;omega
  ·have:=countP_lt (fun y B=>h y (u4 _ B)) hz h1 h2;have hx:=h x u5;cases e:p x with
   |false=>cases q x<;>simp<;>omega
   |true=>rw [hx e];simp;omega
structure OrdOn {α:Type}(lt:α->α->Bool)(l:List α):Prop where
 irr:∀x∈l,lt x x=false
 tr:∀x∈l,∀y∈l,∀z∈l,lt x y=true->lt y z=true->lt x z=true
 ng:∀x∈l,∀y∈l,∀z∈l,lt x z=true->lt x y=true∨lt y z=true
theorem rk_dec {α:Type}{lt:α->α->Bool}{l:List α}(o:OrdOn lt l){x y:α}(hx:x∈l)(B:y∈l):decide (rkOf lt l x<rkOf lt l y)=lt x y:=by
 cases e:lt x y with
 |true=>
  refine ue (countP_lt (z:=x) (fun z hz h=>o.tr z hz x hx y B h e) hx (o.irr x hx) e)
 |false=>
  refine u8 fun h=>absurd h (Nat.not_lt.mpr (List.countP_mono_left fun z hz h=> ?_));rcases o.ng z hz x hx y B h with h|h
  ·exact h
  ·rw [e] at h;cases h
theorem rk_le {α:Type}{lt:α->α->Bool}{l:List α}(o:OrdOn lt l){x y:α}(hx:x∈l)(B:y∈l)(h:rkOf lt l x<=rkOf lt l y):lt y x=false:=by
 rw [<-rk_dec o B hx];exact u8 (Nat.not_lt.mpr h)
section
variable {X:Cx}{pins:List (Addr×Obj)}{σ:St}{H:Hp}{s:Shared}
theorem Jk (I:Inv X pins σ H s){xs ys:List D}{vs us:List V}{its its':List Value}{B:Around}{n:Nat}{r:Bool}(p1:puL xs=true/\dpL xs<=n)(p2:puL ys=true)(hl:IsL H xs vs)(aa:IsL H ys us)(rv:Vals vs its)(ab:Vals us its')(hu:B.units+n<cLine)(hr:ltL xs ys=some r):
  (∀j (h1:j<its.toArray.size) (h2:j<its'.toArray.size),SeqAt.EqAt B s its.toArray[j] its'.toArray[j] (eAt xs ys j))/\
  (∀j (h1:j<its.toArray.size) (h2:j<its'.toArray.size),(∀i,i<j->eAt xs ys i=true)->eAt xs ys j=false->AwQ.LtAt B s its.toArray[j] its'.toArray[j] (lAt xs ys j)):=by
 have l1:its.length=xs.length:=by rw [<-rv.length,hl.length]
 have l2:its'.length=ys.length:=by rw [<-ab.length,aa.length]
 have parts:∀j (O:j<its.toArray.size) (U:j<its'.toArray.size),∃(L:j<xs.length) (M:j<ys.length) (Y Z:V),Is H xs[j] Y/\Is H ys[j] Z/\RelV Y its.toArray[j]/\RelV Z its'.toArray[j]:=fun j O U=>by
  have L:j<xs.length:=by rw [<-l1];simpa using O
  have M:j<ys.length:=by rw [<-l2];simpa using U
  obtain⟨Y,e1,i1⟩:=hl.get (i:=j) (d:=xs[j]) (by simp [L])
  obtain⟨Z,e2,i2⟩:=aa.get (i:=j) (d:=ys[j]) (by simp [M])
  obtain⟨b1,f1,g1⟩:=rv.get e1;obtain⟨b2,f2,g2⟩:=ab.get e2;rw [u0 (by rw [l1];exact L)] at f1
  rw [u0 (by rw [l2];exact M)] at f2
  cases f1;cases f2;exact⟨L,M,Y,Z,i1,i2,by simpa using g1,by simpa using g2⟩
 refine⟨fun j O U=> ?_,fun j O U ac hj=> ?_⟩
 ·obtain⟨L,M,Y,Z,i1,i2,g1,g2⟩:=parts j O U;have d1:xs.getD j .non=xs[j]:=by simp [List.getD,L]
  have d2:ys.getD j .non=ys[j]:=by simp [List.getD,M]
  unfold eAt;rw [d1,d2];exact eqAt_D I n _ _ _ _ _ _ B ((ye xs).mp p1.2 _ (uN L)) (Q0 (j:=j) p1.1 (by simp [L])) (Q0 (j:=j) p2 (by simp [M])) i1 i2 g1 g2 hu
 ·obtain⟨L,M,Y,Z,i1,i2,g1,g2⟩:=parts j O U;have d1:xs.getD j .non=xs[j]:=by simp [List.getD,L]
  have d2:ys.getD j .non=ys[j]:=by simp [List.getD,M]
  have ad:=lt_at j hr L M ac hj;rw [d1,d2] at ad;exact ltAt_D I n _ _ _ _ _ _ B _ ((ye xs).mp p1.2 _ (uN L)) (Q0 (j:=j) p1.1 (by simp [L])) (Q0 (j:=j) p2 (by simp [M])) i1 i2 g1 g2 hu ad
end
def Ys (lst:Bool)(k:D->List D)(H:Hp)(d:D)(u:V):Prop:=if lst=true then∃l us,u= .ref l/\H l=some (.lst us)/\IsL H (k d) us else Is H (.tup (k d)) u
def ltK (k:D->List D)(x y:D):Bool:=(ltL (k x) (k y)).getD false
structure KeysOk (lst:Bool)(k:D->List D)(ds:List D):Prop where
 pu:∀x∈ds,puL (k x)=true/\dpL (k x)<=40
 hd:lst=false->∀x∈ds,∃n r,k x= .int n::r
 lt:∀x∈ds,∀y∈ds,∃b,ltL (k x) (k y)=some b
 od:OrdOn (ltK k) ds
theorem Ys.same {lst:Bool}{k:D->List D}{H H':Hp}{d:D}{u:V}(s:Same H H')(h:Ys lst k H d u):Ys lst k H' d u:=by
 unfold Ys at*;cases lst with
 |true=>
  rw [if_pos rfl] at*;obtain⟨l,us,e,h1,h2⟩:=h;exact⟨l,us,e,s _ _ h1,h2.mono s.tk⟩
 |false=>
  rw [if_neg (by simp)] at*
  exact h.mono s.tk
section
variable {X:Cx}{pins:List (Addr×Obj)}{σ:St}{H:Hp}{s:Shared}{A:Around}
theorem key_cmp {lst:Bool}{k:D->List D}{xs:List (D×V)}{us:List Value}{kv:List V}{ku:List Value}(I:Inv X pins σ H s)(hu:A.units+64<cLine)(ok:KeysOk lst k (xs.map (·.1)))(hx:∀x∈xs,KOk H x.1 x.2)(rv:Vals (xs.map (·.2)) us)(rk:Vals kv ku)(pk:Paired (fun(x:D×V) u=>Ys lst k H x.1 u) xs kv):
  ∃kd rk,(2<=xs.length->∀(E:Value->Shared->Prop) (Q:SortKind->Shared->Prop),Q kd s->wpAny (model X.prog X.w) A (keyKind' ku.toArray) Q E s)/\ByRk X.prog X.w A s kd (ku.toArray.zip us.toArray) rk/\
   ∀(i:Nat) (x:D×V) (a b:Value),xs[i]? =some x->ku[i]? =some a->us[i]? =some b->rk (a,b)=rkOf (ltK k) (xs.map (·.1)) x.1:=by
 classical
 have ad:∀(i:Nat) (x:D×V) (b:Value),xs[i]? =some x->us[i]? =some b->hvD s.heap x.1 b:=fun i x b e1 e2=>by
  obtain⟨b',f1,g⟩:=rv.get (i:=i) (x:=x.2) (by rw [uj,e1];rfl)
  rw [e2] at f1;cases f1;obtain⟨k1,k2,k3⟩:=hx x (ud e1);exact is_hv I 8 _ _ _ k3 k2 k1 g
 have lk:ku.length=xs.length:=by rw [<-rk.length];exact(Uh pk).symm
 have lu:us.length=xs.length:=by rw [<-rv.length,uc]
 let rf:Keyed->Nat:=fun p=>if h:∃d,hvD s.heap d p.2 then rkOf (ltK k) (xs.map (·.1)) h.choose else 0
 have aa:∀(i:Nat) (x:D×V) (a b:Value),xs[i]? =some x->ku[i]? =some a->us[i]? =some b->rf (a,b)=rkOf (ltK k) (xs.map (·.1)) x.1:=fun i x a b e1 _ e3=>by
  have h:=ad i x b e1 e3;have ae:∃d,hvD s.heap d b:=⟨_,h⟩;show(if h:∃d,hvD s.heap d b then rkOf (ltK k) (xs.map (·.1)) h.choose else 0)=_
  rw [dif_pos ae,hv_det ae.choose_spec h]
 have mem:∀p∈(ku.toArray.zip us.toArray).toList,∃(i:Nat) (x:D×V) (u:V),xs[i]? =some x/\Ys lst k H x.1 u/\RelV u p.1/\rf p=rkOf (ltK k) (xs.map (·.1)) x.1:=fun p hp=>by
  have af:p∈ku.zip us:=by simpa using hp
  obtain⟨i,hi⟩:=List.mem_iff_getElem?.mp af;rw [U7] at hi;have hl:i<xs.length:=by rw [<-lk];exact(List.getElem?_eq_some_iff.mp hi.1).1
  have e1:=u0 hl;obtain⟨u,e2,h2⟩:=rel_at pk e1;obtain⟨a,f1,g⟩:=rk.get e2;rw [hi.1] at f1;cases f1;exact⟨i,_,u,e1,h2,g,aa i _ p.1 p.2 e1 hi.1 hi.2⟩
 have L:∀{i:Nat}{x:D×V},xs[i]? =some x->x.1∈xs.map (·.1):=fun e=>List.mem_map.mpr ⟨_,ud e,rfl⟩;cases lst with
 |true=>
  refine⟨oneType',rf,fun h2 E Q q=>kind_lists (fun v hv=> ?_) (fun z=>by rw [z] at lk;simp at lk;omega) q,?_,aa⟩
  ·obtain⟨i,hi⟩:=List.mem_iff_getElem?.mp hv;have hl:i<us.length:=by rw [lu,<-lk];exact(List.getElem?_eq_some_iff.mp hi).1
   obtain⟨_,x,u,_,ka,ru,_⟩:=mem (v,us[i]) (by
    have:(v,us[i])∈ku.zip us:=List.mem_iff_getElem?.mpr ⟨i,List.getElem?_zip_eq_some.mpr ⟨hi,u0 hl⟩⟩
    simpa using this)
   obtain⟨l,ws,rfl,U,_⟩:=(show∃l us,u= .ref l/\H l=some (.lst us)/\IsL H (k x.1) us by simpa [Ys] using ka)
   cases ru;obtain⟨its,_,pl,_⟩:=I.list (.of U);exact pl.isList.typeIs
  ·intro p hp q hq E Q h;obtain⟨i,x,u,ex,kx,rx,er⟩:=mem p hp;obtain⟨j,y,v,ey,ky,ry,es⟩:=mem q hq;rw [er,es,rk_dec ok.od (L ex) (L ey)] at h;obtain⟨l,ws,rfl,U,M⟩:=(show∃l us,u= .ref l/\H l=some (.lst us)/\IsL H (k x.1) us by simpa [Ys] using kx)
   obtain⟨m,zs,rfl,ab,Y⟩:=(show∃l us,v= .ref l/\H l=some (.lst us)/\IsL H (k y.1) us by simpa [Ys] using ky)
   obtain⟨p1,p2⟩:=p;obtain⟨q1,q2⟩:=q;cases rx;cases ry;obtain⟨b,hb⟩:=ok.lt _ (L ex) _ (L ey);obtain⟨its,O,pl,_⟩:=I.list (.of U);obtain⟨its',Z,ac,_⟩:=I.list (.of ab);obtain⟨c1,c2⟩:=Jk (B:=A.in1) I (ok.pu _ (L ex)) (ok.pu _ (L ey)).1 M Y O Z (by rw [ur];omega) hb
   show wpAny _ _ (keyLt' oneType' (.ref l) (.ref m)) Q E s;rw [keyLt'_oneType];refine one_lists pl.isList ac.isList (by omega) c1 c2 ?_
   rw [u9,u9,show its.length=(k x.1).length by rw [<-O.length,M.length],show its'.length=(k y.1).length by rw [<-Z.length,Y.length],J3 hb]
   unfold ltK at h;rw [hb] at h;exact h
 |false=>
  refine⟨tuples' true,rf,fun h2 E Q q=>kind_tups (fun v hv=> ?_) (fun z=>by rw [z] at lk;simp at lk;omega) q,?_,aa⟩
  ·obtain⟨i,hi⟩:=List.mem_iff_getElem?.mp hv;have hl:i<us.length:=by rw [lu,<-lk];exact(List.getElem?_eq_some_iff.mp hi).1
   obtain⟨_,x,u,ex,ka,ru,_⟩:=mem (v,us[i]) (by
    have:(v,us[i])∈ku.zip us:=List.mem_iff_getElem?.mpr ⟨i,List.getElem?_zip_eq_some.mpr ⟨hi,u0 hl⟩⟩
    simpa using this)
   obtain⟨l,ws,rfl,U,M⟩:=(show∃l us,u= .ref l/\H l=some (.tup us)/\IsL H (k x.1) us by simpa [Ys,Is] using ka)
   cases ru;obtain⟨n,r,e⟩:=ok.hd rfl _ (L ex);rw [e] at M;obtain⟨w1,r1,rfl,h1,_⟩:=M;cases(show w1= .int n from h1)
   obtain⟨_,its,O,pl⟩:=(show Qe X.prog X.w H s.heap l (.tup (.int n::r1)) from I.hok l _ U)
   cases O with
   |cons g1 g2=>
    obtain⟨t,rfl⟩:=g1;exact⟨l,_,n,t,rfl,pl,by simp⟩
  ·intro p hp q hq E Q h;obtain⟨i,x,u,ex,kx,rx,er⟩:=mem p hp;obtain⟨j,y,v,ey,ky,ry,es⟩:=mem q hq;rw [er,es,rk_dec ok.od (L ex) (L ey)] at h;obtain⟨l,ws,rfl,U,M⟩:=(show∃l us,u= .ref l/\H l=some (.tup us)/\IsL H (k x.1) us by simpa [Ys,Is] using kx)
   obtain⟨m,zs,rfl,ab,Y⟩:=(show∃l us,v= .ref l/\H l=some (.tup us)/\IsL H (k y.1) us by simpa [Ys,Is] using ky)
   obtain⟨p1,p2⟩:=p;obtain⟨q1,q2⟩:=q;cases rx;cases ry;obtain⟨b,hb⟩:=ok.lt _ (L ex) _ (L ey);obtain⟨_,its,O,pl⟩:=(show Qe X.prog X.w H s.heap l (.tup ws) from I.hok l _ U)
   obtain⟨_,its',Z,ac⟩:=(show Qe X.prog X.w H s.heap m (.tup zs) from I.hok m _ ab)
   obtain⟨c1,c2⟩:=Jk (B:=A) I (ok.pu _ (L ex)) (ok.pu _ (L ey)).1 M Y O Z (by omega) hb
   show wpAny _ _ (keyLt' (tuples' true) (.ref l) (.ref m)) Q E s;refine key_tups pl ac c1 c2 (fun h1 h2=> ?_) ?_
   ·obtain⟨n,r,e⟩:=ok.hd rfl _ (L ex);obtain⟨n',r',e'⟩:=ok.hd rfl _ (L ey);rw [e] at M;rw [e'] at Y;obtain⟨w1,r1,rfl,g1,_⟩:=M;obtain⟨w2,r2,rfl,g2,_⟩:=Y;cases(show w1= .int n from g1)
    cases(show w2= .int n' from g2)
    cases O with
    |cons a1 a2=>
     cases Z with
     |cons b1 b2=>
      obtain⟨t,rfl⟩:=a1;obtain⟨t',rfl⟩:=b1;refine⟨n,t,n',t',by simp,by simp,?_⟩
      rw [e,e'];simp [lAt,ltD]
   ·rw [u9,u9,show its.length=(k x.1).length by rw [<-O.length,M.length],show its'.length=(k y.1).length by rw [<-Z.length,Y.length],J3 hb]
    unfold ltK at h;rw [hb] at h;exact h
end
section
variable {X:Cx}{pins:List (Addr×Obj)}{σ:St}{H:Hp}{s:Shared}
theorem Inv.adopt {l:Addr}{o:HO}(I:Inv X pins σ H s)(f:FpOk X pins H l)(U:X.s₀.heap.objs.size<=l)(ok:Qe X.prog X.w (upd H l o) s.heap l o):Inv X pins σ (upd H l o) s:=by
 have hn:=f.1;refine⟨I.ok,I.os,I.bare,⟨I.base.keep,I.base.slot,fun b B e n hx=> ?_,I.base.there,fun b xs e=> ?_,fun b B u e=> ?_,fun b ps e=> ?_⟩,I.loc,I.cell,?_,fun x c e=> ?_,fun p L=> ?_,fun b u e=> ?_,I.len,I.tk⟩
 ·rw [qi (uy (Nat.lt_of_lt_of_le (uh e) U))];exact I.base.free b B e n hx
 ·have:=I.base.tups b xs e;rw [qi (qh this hn)];exact this
 ·have:=I.base.frzs b B u e;rw [qi (qh this hn)];exact this
 ·obtain⟨m,M⟩:=I.base.tbls b ps e;exact⟨m,by rw [qi (qh M hn)];exact M⟩
 ·rw [qi (Ua f.2.1)];exact I.free
 ·rw [qi (f.2.2.2.2.1 x c e)];exact I.freeC x c e
 ·obtain⟨p1,p2,Y⟩:=I.pin p L;exact⟨p1,by rw [qi (f.2.2.2.2.2 p L)];exact p2,Y⟩
 ·by_cases O:b=l
  ·subst O;rw [qe] at e;cases e;exact ok
  ·rw [qi O] at e;exact(I.hok b u e).stay (fun c v _ q=>q) (fun c q=>by rw [qi (qh q hn)];exact q) fun c xs q=>by rw [qi (qh q hn)];exact q
end
def sortB (w:World)(rev:Bool)(sp:Sp)(Q:VK)(x:V)(H1:Hp):Prop:=∃(a:Addr) (kvs:List (D×V×V)) (lst:Bool) (k:D->List D),x= .ref a/\DAt w H1 a kvs/\kvs.length<64/\KeysOk lst k (kvs.map (·.1))/\
 (∀p∈kvs,∀H',Same H1 H'->∀Q':VK,(∀u H'',Same H' H''->Ys lst k H'' p.1 u->Q' u H'')->sp [p.2.1] H' Q' E0)/\
 ∀(H2:Hp) (ys:List (D×V)) (q:Addr),Same H1 H2->H2 q=none->ys.Perm (kvs.map fun p=>(p.1,p.2.1))->(if rev=true then ys.Pairwise (fun x y=>ltK k x.1 y.1=false) else ys.Pairwise (fun x y=>ltK k y.1 x.1=false))->Q (.ref q) (upd H2 q (.lst (ys.map (·.2))))
def tSortD (w:World)(rev:Bool)(sp:Sp)(te:TE):TE:=fun σ H Q=>te σ H (sortB w rev sp Q)
section
variable {X:Cx}{k:Nat}{f:Addr}{fd:FuncData}{ps:List Str}{sp:Sp}
theorem sorted_ok {pins:List (Addr×Obj)}{σ:St}{H:Hp}{s:Shared}{rev lst:Bool}{kf:D->List D}{a:Addr}{kvs:List (D×V×V)}{Q:VK}(hc:X.calm=true)(F:FnOk X.prog X.w X.K X.mg X.base CX0 k f fd ps sp)(hr:Room (k+2) X.A)(hb:yC X.K fd ps [])(I:Inv X pins σ H s)(g:DAt X.w H a kvs)(ad:kvs.length<64)(ok:KeysOk lst kf (kvs.map (·.1)))
  (ae:∀p∈kvs,∀H',Same H H'->∀Q':VK,(∀u U,Same H' U->Ys lst kf U p.1 u->Q' u U)->sp [p.2.1] H' Q' E0)
  (q:∀(H2:Hp) (ys:List (D×V)) (q:Addr),Same H H2->H2 q=none->ys.Perm (kvs.map fun p=>(p.1,p.2.1))->(if rev=true then ys.Pairwise (fun x y=>ltK kf x.1 y.1=false) else ys.Pairwise (fun x y=>ltK kf y.1 x.1=false))->Q (.ref q) (upd H2 q (.lst (ys.map (·.2))))):
  wpAny (model X.prog X.w) X.A (call (.builtin "sorted") [.ref a] (kwK f rev)) (EP X pins σ Q) X.xe s:=by
 have hs:=sizeLine_eq;obtain⟨hz,lo,xs,r,m⟩:=xM I g;obtain⟨o,es,ep,ho,af,hd,he⟩:=m;have aa:es.size=kvs.length:=by rw [<-Array.length_toList,he,uc,<-Uh r]
 refine call_function_entry_kw kind_sorted plain_sorted entry_sorted (args_sortedK _ _ _) ?_;unfold Builtin.«sorted»;refine wpAny_bind (m:=checkCount "sorted" 1 1 _) (wpAny_pure ?_);refine wpAny_bind (uH (n:=1) I.tk (PySem.W.kdu_collect (A:=X.A.in1) (src_es (es:=es) (ep:=ep) lo) (I.ok.hd hc) ⟨o,ho,af,hd⟩ (by omega) fun h' tk L ag M=> ?_))
 intro htk;have ah:L.toList.length=kvs.length:=by rw [Array.length_toList,M.1,aa]
 have rv:Vals ((kvs.map fun p=>(p.1,p.2.1)).map (·.2)) L.toList:=by
  refine vals_ext (by simp [M.1,aa]) fun j x v hx hv=> ?_
  rw [uB,uj] at hx;cases hj:kvs[j]? with
  |none=>rw [hj] at hx;cases hx
  |some p=>
   rw [hj] at hx;cases hx;obtain⟨e,e1,e2⟩:=M.2 j v (by rw [<-v4];exact hv)
   obtain⟨y,e3,e4⟩:=rel_at r hj;rw [jG he,e3] at e1;cases e1;rw [e2];exact e4.2.1
 have I1:Inv X pins σ H {s with heap:=h',toks:=tk}:=I.kept ag htk
 have I2:Inv X pins σ H {s with heap:=h'.push (seqObj "list" L.toList.toArray 0),toks:=tk}:=I1.kept (t':=tk) (fun b u e=>u7 _ e) htk
 have hl:(h'.push (seqObj "list" L.toList.toArray 0)).get? h'.objs.size=some (seqObj "list" L.toList.toArray 0):=uf _ rfl;have fl:FpOk X pins H h'.objs.size:=I1.fpOk (Nat.le_refl _) (I1.hok.fresh (Nat.le_refl _));have ai:X.s₀.heap.objs.size<=h'.objs.size:=I1.sz;refine wpAny_bind (wpAny_newList ?_ (by rw [ah];omega))
 show wpAny _ _ _ _ _ {s with heap:=h'.push (seqObj "list" L.toList.toArray 0),toks:=tk}
 have r1:Room k X.A.in1.in1:=(hr.in1).in1;have Y:∀H',Same H H'->∀x∈kvs.map (fun p=>(p.1,p.2.1)),KOk H' x.1 x.2:=fun H' O x hx=>by
  obtain⟨p,Z,rfl⟩:=List.mem_map.mp hx;exact⟨(g.ks p Z).1.mono O.tk,(g.ks p Z).2⟩
 have mp:(kvs.map fun p=>(p.1,p.2.1)).map (·.1)=kvs.map (·.1):=by rw [uB];rfl
 have B:∀{ys:List (D×V)},ys.Perm (kvs.map fun p=>(p.1,p.2.1))->∀y∈ys,y.1∈kvs.map (·.1):=fun Z y hy=>by
  rw [<-mp];exact List.mem_map.mpr ⟨y,Z.mem_iff.mp hy,rfl⟩
 refine wpAny_bind (uA (wpAny_call_entry_kw slot_list_sort ⟨_,hl,rfl⟩ entry_list_sort (sort_ok (A:=X.A.in1.in1) (R:=Ys lst kf) (r:=rkOf (ltK kf) (kvs.map (·.1))) F r1 rfl hb I2 hl fl rv (by simp [ad])
  (fun x hx H' O Q' hQ=>by
   obtain⟨p,Z,rfl⟩:=List.mem_map.mp hx;exact ae p Z H' O Q' hQ) (fun _ _ _ _ O h=>h.same O)
  (fun s' H' kv ku I' O rk pk=>by
   have:=key_cmp (A:=X.A.in1.in1) (lst:=lst) (k:=kf) I' (by have:=r1.units;exact this) (by rw [mp];exact ok) (Y H' O) rv rk pk
   rw [mp] at this;exact this)
  fun s' H' ys out mm I' O aj ab perm srt ak=>⟨_,rfl,?_⟩) (args_sortK _ _ _)))
 have ac:ys.length=kvs.length:=by rw [perm.length_eq,uc]
 refine wpAny_pure ⟨_,rfl,.ref h'.objs.size,_,I'.adopt (o:= .lst (ys.map (·.2))) ab ai ⟨by rw [uc,ac];omega,out,mm,ak,aj⟩,rfl,q H' ys _ O ab.1 perm ?_⟩
 cases rev with
 |true=>
  rw [if_pos rfl] at*;exact srt.imp_of_mem fun hx hy h=>rk_le ok.od (B perm _ hy) (B perm _ hx) h
 |false=>
  rw [if_neg (by simp)] at*
  exact srt.imp_of_mem fun hx hy h=>rk_le ok.od (B perm _ hx) (B perm _ hy) h
def kwE (rev:Bool)(fx:Str)(np kp kp2 cp:Pos)(j:Nat):List Keyword:=if rev then [⟨some "key",.Name fx np,kp⟩,⟨some "reverse",.Constant (.bool true) j cp,kp2⟩] else [⟨some "key",.Name fx np,kp⟩]
theorem Xu {w:World}{rev:Bool}{L:Str}{e:Expr}{te:TE}{p np pos kp M cp:Pos}{j:Nat}{kws:List Keyword}(ek:kws=kwE rev L np kp M cp j)(ew:X.w=w)(hc:X.calm=true)(F:FnOk X.prog X.w X.K X.mg X.base CX0 k f fd ps sp)(hr:Room (k+2) X.A)(hb:yC X.K fd ps [])(hg:Gl X "sorted")(hm:X.mg "sorted"=none)(aa:Gl X L)(ab:X.mg L=some (.ref f))(he:PE X e te)
  (ac:(L==("__debug__":Str))=false:=by decide) (B:starEach [e] X.env= [(false,eval e X.env)]:=by rfl):PE X (.Call (.Name "sorted" p) [e] kws pos) (tSortD w rev sp te):=by
 subst ew ek;intro pins s σ H Q I h;refine vQ (jU I hg hm boot_sorted ?_);have ha:PA X [e] (j6 te tNil):=qa he qc B;have ad:backTo pos (starEach [e] X.env)=(false,eval e X.env)::backTo pos (starEach [] X.env)->True:=fun _=>trivial;have step:=ha pos pins s σ H (fun vs H1=>match vs with| [x]=>sortB X.w rev sp Q x H1|_=>False) I h
 cases rev with
 |false=>
  have hk:PK X [⟨some "key",.Name L np,kp⟩] (j6 (tC (.ref f)) tNil):=Xp (pe_gR aa ab ac) pk_nil;refine callWith_kw (kws:= [⟨some "key",.Name L np,kp⟩]) (thn step fun us s1 ⟨vs,H1,I1,O,q1⟩=> ?_)
   (by show backTo pos (starEach [e] X.env)=_;rw [B];rfl) (by show(backTo pos (starEach [e] X.env)).any (·.1)=false;rw [B];rfl)
  match vs,O,q1 with
  | [x],O,q1=>
   refine thn (hk pos pins s1 σ H1 (fun zs H2=>zs= [.ref f]/\H2=H1) I1 ⟨rfl,rfl⟩) fun ws s2 ⟨zs,H2,I2,r2,e1,e2⟩=> ?_;subst e1 e2;obtain⟨u,rfl,ru⟩:=QW O;obtain⟨u2,rfl,U⟩:=QW r2;cases U;obtain⟨a,kvs,lst,kf,rfl,g,Y,ok,Z,q⟩:=q1;cases ru;exact sorted_ok (rev:=false) hc F hr hb I2 g Y ok Z q
 |true=>
  have hk:PK X [⟨some "key",.Name L np,kp⟩,⟨some "reverse",.Constant (.bool true) j cp,M⟩] (j6 (tC (.ref f)) (j6 (tC (.bl true)) tNil)):=Xp (pe_gR aa ab ac) (Xp QI pk_nil);refine callWith_kw (kws:= [⟨some "key",.Name L np,kp⟩,⟨some "reverse",.Constant (.bool true) j cp,M⟩]) (thn step fun us s1 ⟨vs,H1,I1,O,q1⟩=> ?_)
   (by show backTo pos (starEach [e] X.env)=_;rw [B];rfl) (by show(backTo pos (starEach [e] X.env)).any (·.1)=false;rw [B];rfl)
  match vs,O,q1 with
  | [x],O,q1=>
   refine thn (hk pos pins s1 σ H1 (fun zs H2=>zs= [.ref f,.bl true]/\H2=H1) I1 ⟨rfl,rfl⟩) fun ws s2 ⟨zs,H2,I2,r2,e1,e2⟩=> ?_;subst e1 e2;obtain⟨u,rfl,ru⟩:=QW O;cases r2 with
   |cons g1 g2=>
    obtain⟨u2,rfl,U⟩:=QW g2;cases g1;cases U;obtain⟨a,kvs,lst,kf,rfl,g,Y,ok,Z,q⟩:=q1;cases ru;exact sorted_ok (rev:=true) hc F hr hb I2 g Y ok Z q
end
theorem sub_tf:isSubtype (.type "tuple") (.type "frozenset")=pure false:=by rw [vy];kernel_rfl
theorem sub_ts:isSubtype (.type "tuple") (.type "set")=pure false:=by rw [vy];kernel_rfl
section
variable {P:Program}{w:World}{A:Around}{E:Value->Shared->Prop}{s:Shared}
abbrev Qj (led:Bool):Obj:={cls:= .type "set",dict:=none,data:= .set #[] 0 (.fresh 0 0 led)}
end
theorem sub_ss:isSubtype (.type "set") (.type "set")=pure true:=by rw [vy];kernel_rfl
theorem entry_set_or:entryFor table "set.__or__"=some Builtin.«frozenset.__or__»:=entryFor_alias (id':="frozenset.__or__") (by kernel_rfl) rfl (by decide+kernel) (by kernel_rfl)
theorem xq:entryFor table "set.__iter__"=some Builtin.«frozenset.__iter__»:=entryFor_alias (id':="frozenset.__iter__") (by kernel_rfl) rfl (by decide+kernel) (by kernel_rfl)
theorem yd:Slot "set_iterator" "__next__" "set_iterator.__next__":= .of (owner:="set_iterator") (n:="__next__") (by rw [Uy,vP];kernel_rfl) (by decide+kernel) (by decide+kernel) (by decide+kernel) (by first|exact .inl (by decide+kernel)|exact .inr (by decide+kernel)) (by rw [vy];kernel_rfl)
theorem jN:Slot "set_iterator" "__iter__" "set_iterator.__iter__":= .of (owner:="set_iterator") (n:="__iter__") (by rw [Uy,vP];kernel_rfl) (by decide+kernel) (by decide+kernel) (by decide+kernel) (by first|exact .inl (by decide+kernel)|exact .inr (by decide+kernel)) (by rw [vy];kernel_rfl)
theorem Xx:entryFor table "set_iterator.__next__"=some Builtin.«set_iterator.__next__»:=entryFor_of_fast (by kernel_rfl)
theorem Xs:entryFor table "set_iterator.__iter__"=some Builtin.«dict_keyiterator.__iter__»:=entryFor_alias (id':="dict_keyiterator.__iter__") (by kernel_rfl) rfl (by decide+kernel) (by kernel_rfl)
theorem args_si_next (a:Value):argsOk "set_iterator.__next__" ⟨[a],[]⟩:=by unfold argsOk;kernel_rfl
theorem args_si_iter (a:Value):argsOk "set_iterator.__iter__" ⟨[a],[]⟩:=by unfold argsOk;kernel_rfl
theorem X4 (a:Value):argsOk "set.__iter__" ⟨[a],[]⟩:=by unfold argsOk;kernel_rfl
section
variable {P:Program}{w:World}{A:Around}{E:Value->Shared->Prop}{s:Shared}{d it:Addr}
theorem hint_set {Q:Bool->Shared->Prop}(L:s.TypeIs (.ref d) "set")(q:Q false s):wpAny (model P w) A (Builtin.List.listLengthHint (.ref d)) Q E s:=by
 unfold Builtin.List.listLengthHint;refine wpAny_bind (wpAny_specialOf L PySem.F.slot_set_len.lookup ?_);generalize B:("set.__len__":String)=M
 wp_delta
 rw [show splitId M=some ("set","__len__") from by subst B;decide+kernel]
 subst B;refine wpAny_bind (wpAny_isInstance (T:="set") (b:=true) L (by rw [vy];kernel_rfl) ?_)
 refine wpAny_ite_split (fun z=>absurd z (by decide)) fun _=> ?_
 refine wpAny_ite_split (fun _=>wpAny_bind (UH L (wpAny_pure q))) fun z=>absurd (by decide+kernel) z
end
end L2
namespace AwZ
open PySem PySem.Spec PyProof.Rows
theorem Xg:Slot "reversed" "__init__" "object.__init__":= .of (owner:="object") (n:="__init__") (by rw [Uy,vP];kernel_rfl) (by decide+kernel) (by decide+kernel) (by decide+kernel) (by first|exact .inl (by decide+kernel)|exact .inr (by decide+kernel)) (by rw [vy];kernel_rfl)
theorem QA:Slot "reversed" "__next__" "reversed.__next__":= .of (owner:="reversed") (n:="__next__") (by rw [Uy,vP];kernel_rfl) (by decide+kernel) (by decide+kernel) (by decide+kernel) (by first|exact .inl (by decide+kernel)|exact .inr (by decide+kernel)) (by rw [vy];kernel_rfl)
theorem Y9:Slot "reversed" "__iter__" "reversed.__iter__":= .of (owner:="reversed") (n:="__iter__") (by rw [Uy,vP];kernel_rfl) (by decide+kernel) (by decide+kernel) (by decide+kernel) (by first|exact .inl (by decide+kernel)|exact .inr (by decide+kernel)) (by rw [vy];kernel_rfl)
theorem Yt:entryFor table "reversed.__next__"=some Builtin.«reversed.__next__»:=entryFor_of_fast (by kernel_rfl)
theorem xr:entryFor table "reversed.__iter__"=some Builtin.«dict_keyiterator.__iter__»:=entryFor_alias (id':="dict_keyiterator.__iter__") (by kernel_rfl) rfl (by decide+kernel) (by kernel_rfl)
theorem YS (a:Value):argsOk "reversed.__next__" ⟨[a],[]⟩:=by unfold argsOk;kernel_rfl
theorem XO (a:Value):argsOk "reversed.__iter__" ⟨[a],[]⟩:=by unfold argsOk;kernel_rfl
theorem JD:TypeCalled "reversed" "reversed.__new__" "object.__init__":=⟨by decide+kernel,by decide+kernel,⟨_,_,PySem.F.mro_reversed⟩,PySem.F.made_reversed,by decide+kernel,by rw [vy];kernel_rfl,Xg⟩
theorem jM:typeLookup (.type "tuple") "__reversed__"=pure none:=by rw [Uy,vP];kernel_rfl
theorem Ya:isSubtype (.type "tuple") (.type "dict")=pure false:=by rw [vy];kernel_rfl
end AwZ
namespace AwZ
open PySem PySem.Spec PyProof.Rows
open PySem.AutoSeq1 (wpAny_loadPart')
def revO (t:Addr)(i:Int):Obj:={cls:= .type "reversed",data:= .fields #[.ref t,rawInt i]}
theorem rev_made (t:Addr)(its:Array Value):Meets (Builtin.«reversed.__new__» ⟨[.type "reversed",.ref t],[]⟩) (fun _ R s=>IsTup s.heap t its/\(its.size:Int)<2^63/\
   R (.ok (.ret (.ref s.heap.objs.size))) {s with heap:=s.heap.push (revO t ((its.size:Int)-1)),toks:=s.toks+1+1}):=
 .of_wp fun prog w A R s h=>by
  obtain⟨L,hz,h⟩:=h;have B:s.TypeIs (.ref t) "tuple":=let⟨o,e,c,_⟩:=L;⟨o,e,c⟩;have M:=jM;have O:=Ya;unfold Builtin.«reversed.__new__»;rw [PySem.newClass_reversed];refine wpAny_bind (wpAny_pure ?_);refine wpAny_bind (Uv (a:=Unit.unit) (by first|rfl|kernel_rfl) (wpAny_bind (Uv (a:=Unit.unit) (by first|rfl|kernel_rfl) ?_)))
  dsimp only;refine wpAny_bind (wpAny_specialOf B jM ?_);dsimp only;refine wpAny_bind ?_;show wpAny _ _ (isInstance (.ref t) (.type "dict")>>=_) _ _ _;refine wpAny_bind (wpAny_isInstance B Ya ?_);rw [if_neg (by simp)]
  refine wpAny_bind (wpAny_specialOf B PySem.F.slot_tuple_getitem.lookup ?_);dsimp only;rw [if_pos (by decide)]
  refine wpAny_pure ?_;rw [if_neg (by simp)]
  refine wpAny_bind (len_tuple L hz ?_)
  wp_walk
  exact⟨_,rfl,h⟩
def IsRv (h:Heap)(it t:Addr)(i:Int):Prop:=∃o,h.get? it=some o/\o.cls= .type "reversed"/\o.data= .fields #[.ref t,rawInt i]
section
variable {P:Program}{w:World}{A:Around}{E:Value->Shared->Prop}{s:Shared}{it t:Addr}{its:Array Value}
theorem IsRv.ty {i:Int}(x:IsRv s.heap it t i):s.TypeIs (.ref it) "reversed":=let⟨o,h,c,_⟩:=x;⟨o,h,c⟩
theorem IsRv.to {h h':Heap}{i:Int}(x:IsRv h it t i)(k:∀o,h.get? it=some o->h'.get? it=some o):IsRv h' it t i:=let⟨o,e,r⟩:=x;⟨o,k o e,r⟩
theorem rev_iter {i:Int}{Q:Value->Shared->Prop}(x:IsRv s.heap it t i)(q:Q (.ref it) s):wpAny (model P w) A (pyIter (.ref it)) Q E s:=by
 refine V1 x.ty Y9 (uz Y9 x.ty xr ?_ (XO _));show wpAny _ _ (ret (.ref it)) _ _ s;exact wpAny_pure ⟨_,rfl,"reversed",_,x.ty,QA.lookup,q⟩
theorem rev_item {i:Nat}{v:Value}{Q:Option Value->Shared->Prop}(x:IsRv s.heap it t (i:Int))(M:IsTup s.heap t its)(O:its[i]? =some v)(hz:(its.size:Int)<2^63)
  (q:∀h' tk,0<tk->IsRv h' it t ((i:Int)-1)->Heap.SameBut it s.heap h'->Q (some v) {s with heap:=h',toks:=tk}):wpAny (model P w) A (pyNext (.ref it)) Q E s:=by
 have U:=x.ty;obtain⟨o,B,Y,hd⟩:=x;have Z:i<its.size:=by
  rcases uZ i its.size with h|h
  ·exact h
  ·simp [Array.getElem?_eq_none h] at O
 unfold pyNext;refine wpAny_bind (U6 (uC (name:=Str.ofString "__next__") U QA (uz QA U Yt ?_ (YS _))));unfold Builtin.«reversed.__next__»;refine wpAny_bind (wpAny_pure ?_);have L:s.TypeIs (.ref t) "tuple":=let⟨o,e,c,_⟩:=M;⟨o,e,c⟩;unfold field;refine wpAny_bind (wpAny_bind (Uo B hd (wpAny_pure (wpAny_bind (wpAny_bind (Uo B hd (wpAny_pure ?_)))))));show wpAny _ _ (if(i:Int)<0 then _ else _) _ _ _
 rw [if_neg (by omega)]
 refine wpAny_bind (wpAny_specialOf L PySem.F.slot_tuple_getitem.lookup ?_);rw [if_neg (by simp)]
 refine wpAny_bind (wpAny_mkInt (wpAny_bind (U6 (getItem_tuple (s:={s with toks:=s.toks+1}) (j:=i) M (by omega) (by omega) (by simp [seqIndex?];omega) O ?_))))
 refine wpAny_bind (wpAny_bind (Uo (s:={s with toks:=s.toks+1}) B hd (wpAny_pure ?_)))
 refine wpAny_bind (vI (s:={s with toks:=s.toks+1}) B hd (by simp) (wpAny_pure ⟨_,rfl,wpAny_pure (q _ _ (Nat.succ_pos _) ⟨_,uV _ B (vM (uW hd _)),(Uz ..).trans Y,by rw [uW hd];simp [rawInt]⟩ (uD ..))⟩))
theorem rev_end {Q:Option Value->Shared->Prop}(O:A.handled=none)(x:IsRv s.heap it t (-1))(q:∀h',Heap.ExtBut it s.heap h'->Q none {s with heap:=h'}):wpAny (model P w) A (pyNext (.ref it)) Q E s:=by
 have M:=x.ty;obtain⟨o,B,U,hd⟩:=x;unfold pyNext;refine wpAny_bind (U6 (uC (name:=Str.ofString "__next__") M QA (uz QA M Yt ?_ (YS _))));unfold Builtin.«reversed.__next__»;refine wpAny_bind (wpAny_pure ?_);unfold field;refine wpAny_bind (wpAny_bind (Uo B hd (wpAny_pure (wpAny_bind (wpAny_bind (Uo B hd (wpAny_pure ?_)))))));show wpAny _ _ (if(-1:Int)<0 then _ else _) _ _ _
 rw [if_pos (by decide)]
 refine wpAny_bind (wpAny_rule (wpAny_bind ?_));show wpAny _ _ (setField (.ref it) 1 (rawInt (-1))>>=fun _=>setField (.ref it) 0 .none) _ _ _;refine wpAny_bind (vI B hd (by simp) ?_)
 have L:=uV (h:=s.heap) (a:=it) (f:=Obj.mapFields (·.setIfInBounds 1 (rawInt (-1)))) B (vM (uW hd _));refine vI (s:={s with heap:=s.heap.update it (Obj.mapFields (·.setIfInBounds 1 (rawInt (-1))))}) L (uW hd _) (by simp) ?_
 refine wpAny_bind ?_;unfold Builtin.SmallTypes.stopIteration;refine wpAny_bind ?_;simp only [newExc,newTuple];refine wpAny_bind (uJ ?_ (by size_fits))
 refine wpAny_bind (m:=firstArgMember _ _) (Uv (a:=Value.none) (by first|rfl|(simp only [firstArgMember];rfl)) ?_)
 refine uJ ?_ (by size_fits)
 simp only [raiseNew];refine wpAny_bind (wpAny_handled ?_);rw [show A.in1.handled=none from O]
 refine wpAny_bind (wpAny_pure (wpAny_throw ?_));refine wpAny_bind (wpAny_isInstance (T:="StopIteration") (b:=true) ⟨_,uf _ rfl,rfl⟩ isSubtype_stop ?_);refine wpAny_pure (q _ fun b o nb e=> ?_);refine u7 _ (u7 _ ?_);rw [uU _ _ (Ua nb),uU _ _ (Ua nb)];exact e
end
end AwZ
namespace L2
open PySem PySem.Spec PyProof.Rows
def Irv (K:PySem.W.Frag)(a:Addr)(n:Nat):It:=
 ⟨fun i H=>i<n/\∃xs,SqT K H a xs/\xs.length=n,fun i H x H'=>H'=H/\∀xs,SqT K H a xs->xs[n-1-i]? =some x,fun i _=>i=n⟩
theorem turn_rev {P:Program}{w:World}{K:PySem.W.Frag}{tg:Expr}(a it:Addr)(n:Nat):Turn P w K tg (Irv K a n) [it] it (fun i h=>i<=n/\AwZ.IsRv h it a ((n:Int)-1-(i:Int))) where
 mem:=by simp
 obj:=fun i h st b L=>by
  have e:b=it:=by simpa using L
  subst e;obtain⟨_,o,e,c,d⟩:=st;exact⟨o,e,fun v z=>by rw [d] at z;cases z⟩
 keep:=fun i h h' st k=>⟨st.1,st.2.to fun o e=>k it (by simp) o e⟩
 item:=by
  intro X U Y Z hc i pins s σ H E I O st hg;subst U Y Z;obtain⟨hi,xs,hq,hx⟩:=hg;obtain⟨its,rv,p,hz⟩:=I.tuple hq;obtain⟨u,hu,ru⟩:=rv.get (i:=n-1-i) (x:=xs[n-1-i]'(by omega)) (u0 (by omega))
  obtain⟨f0,f1,f2,f3,f4,f5⟩:=O it (by simp)
  have hl:=rv.length;have hs:=sizeLine_eq;have e0:(n:Int)-1-(i:Int)=((n-1-i:Nat):Int):=by omega
  have B:=st.2;rw [e0] at B;refine AwZ.rev_item (i:=n-1-i) (its:=its.toArray) B p (by simpa using hu) (by simp;omega) fun h' tk htk M sb=> ?_
  have I1:Inv X pins σ H {s with heap:=h',toks:=tk}:=I.turned (t':=tk) (fun b o L e=>(sb.2 b L).trans e) f0 f1 f3 f4 f5 htk
  obtain⟨o,e,c,d⟩:=id M;refine⟨u,rfl,go_of (s:={s with heap:=h',toks:=tk}) e c d (by decide) ⟨xs[n-1-i]'(by omega),H,I1,ru,⟨rfl,fun ys hy=> ?_⟩,⟨hi,?_⟩,fun b L=>(O b L).1⟩⟩
  ·rw [I.tuple_inj hy hq];exact u0 (by omega)
  ·rw [show(n:Int)-1-((i+1:Nat):Int)=((n-1-i:Nat):Int)-1 by omega]
   exact M
 done:=by
  intro X U Y Z hc i pins s σ H E I O st hg;subst U Y Z;have hi:i=n:=hg;subst hi;obtain⟨f0,f1,f2,f3,f4,f5⟩:=O it (by simp)
  have B:=st.2;rw [show(i:Int)-1-(i:Int)= -1 by omega] at B
  exact AwZ.rev_end (I.ok.hd hc) B fun h' eb=>⟨rfl,I.turned (t':=s.toks) (fun b o L e=>eb b o L e) f0 f1 f3 f4 f5⟩
 self:=fun _ _ _ _ _ st h=>AwZ.rev_iter st.2 h
theorem for_rev {K:PySem.W.Frag}{a:Addr}{xs:List V}{g:TG}{tb:TS}{D:Ends}{σ:St}{H:Hp}(B:Nat->St->Hp->Prop)(U:B 0 σ H)(Y:∀i σ H,i<=xs.length->B i σ H->SqT K H a xs)
  (Z:∀i x σ H,i<xs.length->xs[xs.length-1-i]? =some x->B i σ H->g x σ H fun L H2=>tb {D with nx:=B (i+1),ct:=B (i+1),bk:=D.nx} L H2) (hd:∀σ H,B xs.length σ H->D.nx σ H):
  ∃W:Nat->Nat->St->Hp->Prop,(∃m,W 0 m σ H)/\∀i m σ H,W i m σ H->
   ((Irv K a xs.length).stop i H/\D.nx σ H)∨((Irv K a xs.length).go i H/\∃N:St->Hp->Prop,(∀M H',N M H'->∃O,O<m/\W (i+1) O M H')/\∀x H',(Irv K a xs.length).yld i H x H'->g x σ H' fun L H2=>tb {D with nx:=N,ct:=N,bk:=D.nx} L H2):=by
 refine⟨fun i m σ H=>m=xs.length-i/\i<=xs.length/\B i σ H,⟨xs.length,by simp,uv _,U⟩,?_⟩
 rintro i m σ H ⟨rfl,hi,p⟩;have q:=Y i σ H hi p;rcases uZ i xs.length with z|z
 ·refine .inr ⟨⟨z,xs,q,rfl⟩,B (i+1),fun M H' p'=>⟨xs.length-(i+1),by omega,rfl,z,p'⟩,fun x H' y=> ?_⟩
  obtain⟨e,y⟩:=y;subst e;exact Z i x σ _ z (y xs q) p
 ·have e:i=xs.length:=by omega
  exact .inl ⟨e,hd σ H (e▸p)⟩
def iRev (K:PySem.W.Frag)(te:TE):TI:=fun σ H R=>te σ H fun x H2=>∃a xs,x= .ref a/\SqT K H2 a xs/\R (Irv K a xs.length) H2
section
variable {X:Cx}
theorem pi_rev {tg:Expr}{p pos:Pos}{e:Expr}{te:TE}(U:Gl X "reversed")(hm:X.mg "reversed"=none)(Y:PE X e te)(O:starEach [e] X.env= [(false,eval e X.env)]:=by rfl):
  PI X tg (.Call (.Name "reversed" p) [e] [] pos) (iRev X.K te):=by
 intro pins s σ H R I h;have ha:PA X [e] (j6 te tNil):=qa Y qc O;refine Call_ (jU I U hm boot_reversed (vV (thn (ha pos pins s σ H (fun vs H2=>match vs with| [x]=>∃a xs,x= .ref a/\SqT X.K H2 a xs/\R (Irv X.K a xs.length) H2|_=>False) I h) fun us s2 ⟨vs,H2,L,M,q1⟩=> ?_) (by rw [O];rfl) ()))
 match vs,M,q1 with
 | [x],M,q1=>
 obtain⟨a,xs,rfl,Z,q⟩:=q1;obtain⟨u,rfl,ru⟩:=QW M;cases ru;obtain⟨its,ra,pa,za⟩:=L.tuple Z;have hl:=ra.length;have hz:=sizeLine_eq;refine AwZ.new_kw (kw:= []) AwZ.JD (by decide) (F.typeCall_reversed_1 _) (F.newCall_reversed_1 _) (fun obj=>F.args_object_init_2 _ _) F.entry_reversed_new (AwZ.rev_made a its.toArray) ⟨pa,by simp;omega,?_⟩
 have B:AwZ.IsRv (s2.heap.push (AwZ.revO a ((its.toArray.size:Int)-1))) s2.heap.objs.size a ((its.toArray.size:Int)-1):=⟨_,uf _ rfl,rfl,rfl⟩;refine⟨⟨_,uf _ rfl,rfl⟩,?_⟩;refine AwZ.rev_iter (s:={s2 with heap:=_,toks:=_}) B ?_
 refine⟨_,[s2.heap.objs.size],_,_,H2,rfl,L.kept (t':=s2.toks+1+1) (fun b o e=>u7 _ e),turn_rev a _ xs.length,⟨uv _,?_⟩,fun x hx=> ?_,q⟩
 ·simpa [hl] using B
 ·have e:x=s2.heap.objs.size:=by simpa using hx
  subst e;exact L.fpOk (Nat.le_refl _) (L.hok.fresh (Nat.le_refl _))
theorem Xc:bootBuiltins "set"=some (.type "set"):=by decide+kernel
def rEqE (K:PySem.W.Frag):R2:=fun x y H Q=>∃(a b:Addr) (xs:List V),x= .ref a/\y= .ref b/\SqL K H a xs/\SqL K H b []/\Q (.bl (decide (xs= []))) H
theorem op_eqE (hu:X.A.units<cLine):OpR X (compareOp .Eq) (rEqE X.K):=by
 intro pins s σ H x y v u Q I O U h;obtain⟨a,b,xs,rfl,rfl,ha,Y,q⟩:=h;cases O;cases U;obtain⟨its,M,pl,_⟩:=I.list ha;obtain⟨its',L,B,_⟩:=I.list Y;cases L;cases xs with
 |nil=>
  cases M;exact SeqAt.RcAt.lists (e:=fun _=>true) pl.isList B.isList rfl hu (fun j h1 h2=>by simp at h1) X.prog X.w X.xe _ ⟨.bl true,H,I,rfl,by simpa using q⟩
 |cons x xs=>
  cases M with
  |cons Z r2=>exact SeqAt.RcAt.lists_lengths pl.isList B.isList (by simp) hu X.prog X.w X.xe _ ⟨.bl false,H,I,rfl,by simpa using q⟩
end
end L2
namespace L2
open PySem PyProof.Rows
abbrev SE:=Array (Int×Value)
def addN (es:SE)(t:SetTable)(h:Int)(x:Value):SE×SetTable:=
 if(!(layNew t es h x).2.2.1&&(layNew t es h x).2.1.tooFull)=true then((relayAll (layNew t es h x).2.1 (layNew t es h x).1 (SetTable.grown (layNew t es h x).1.size)).1,(relayAll (layNew t es h x).2.1 (layNew t es h x).1 (SetTable.grown (layNew t es h x).1.size)).2.1)
 else((layNew t es h x).1,(layNew t es h x).2.1)
def setO (es:SE)(ep:Nat)(t:SetTable):Obj:={cls:= .type "set",dict:=none,data:= .set es ep t}
def Xj (es:SE):Prop:=∀e∈es.toList,∃tk,e.2= .int e.1 tk/\0<=e.1/\e.1<1000
theorem small_hash:∀n:Fin 1000,hashInt (n.val:Int)=(n.val:Int):=by decide+kernel
section
variable {P:Program}{w:World}{A:Around}{E:Value->Shared->Prop}{s:Shared}
theorem Yn {k:Int}(B:0<=k)(h1:k<1000):(intKind P w).hash k=k:=by
 show hashInt k=k;obtain⟨n,rfl⟩:=uX B;have hn:n<1000:=by omega
 exact small_hash ⟨n,hn⟩
theorem Xj.elems {es:SE}(h:Xj es):ElemsOf (intKind P w) es.toList:=fun e L=>by
 obtain⟨tk,B,M,h1⟩:=h e L;exact⟨⟨e.1,by rw [B];exact intKind_is _ _ _ _,(Yn M h1).symm⟩,by rw [B];rfl⟩
theorem Xj.perm {es es':SE}(h:Xj es)(p:List.Perm es'.toList es.toList):Xj es':=fun e B=>h e (p.mem_iff.mp B)
theorem put_at {h:Heap}{a:Addr}{es es':SE}{ep:Nat}{t t':SetTable}(B:h.get? a=some (setO es ep t)):(h.update a (Obj.putSet es' t')).get? a=some (setO es' (ep+1) t'):=by
 have:=uV (Obj.putSet es' t') B (by rw [putSet_of es' t' rfl];rfl)
 rw [putSet_of es' t' rfl] at this;exact this
theorem xI {g:Bool->Sem Unit}(hg:∀(b:Bool) (s₁:Shared) (Q':Unit->Shared->Prop),Q' Unit.unit s₁->wpAny (model P w) A (g b) Q' E s₁){a:Addr}{es B:SE}{ep:Nat}{t L:SetTable}(ho:s.heap.get? a=some (setO es ep t))(O:B.size<scanBound){Y:Bool}{R:Option Bool->Shared->Prop}
  (h:∀(h':Heap) (Z:Nat),Heap.SameBut a s.heap h'->h'.get? a=some (setO (if(!Y&&L.tooFull)=true then((relayAll L B (SetTable.grown B.size)).1,(relayAll L B (SetTable.grown B.size)).2.1) else(B,L)).1 Z (if(!Y&&L.tooFull)=true then((relayAll L B (SetTable.grown B.size)).1,(relayAll L B (SetTable.grown B.size)).2.1) else(B,L)).2)->R (some true) {s with heap:=h'}):
  wpAny (model P w) A (do
    storeSet a B L
    if(!Y&&L.tooFull)=true then do
      g (relayAll L B (SetTable.grown B.size)).2.2
      storeSet a (relayAll L B (SetTable.grown B.size)).1 (relayAll L B (SetTable.grown B.size)).2.1
      pure (some true)
     else pure (some true)) R E s:=by
 refine wpAny_bind (UB ho rfl ?_ (fits_of_scanBound O));have M:=put_at (es':=B) (t':=L) ho;have U:=uD s.heap a (Obj.putSet B L);split
 ·rename_i hc
  simp only [if_pos hc] at h;have hp:=relayAll_perm L B (SetTable.grown B.size);generalize aa:relayAll L B (SetTable.grown B.size)=Rl at hp h⊢;obtain⟨nb,u3,ab⟩:=Rl;dsimp only at hp h⊢;have hsz:nb.size=B.size:=by rw [<-Array.length_toList,hp.length_eq,Array.length_toList]
  refine wpAny_bind (hg _ _ _ ?_);refine wpAny_bind (UB M rfl ?_ (fits_of_scanBound (by rw [hsz];exact O)))
  exact wpAny_pure (h _ _ (U.trans (uD _ a _)) (put_at M))
 ·rename_i hc
  simp only [if_neg hc] at h;exact wpAny_pure (h _ _ U M)
theorem add_new {a:Addr}{es:SE}{ep:Nat}{t:SetTable}{k:Int}{tk:Tok}{Q:Bool->Shared->Prop}(ho:s.heap.get? a=some (setO es ep t))(O:Xj es)(hf:t.fits es.size=true)(h0:0<=k)(h1:k<1000)(hb:es.size+1<scanBound)(hn:∀e∈es.toList,e.1≠k)
  (q:∀(h':Heap) (B:Nat),Heap.SameBut a s.heap h'->h'.get? a=some (setO (addN es t k (.int k tk)).1 B (addN es t k (.int k tk)).2)->Q true {s with heap:=h'}):
  wpAny (model P w) A (setAddHashed a (.int k tk) k) Q E s:=by
 have aa:(intKind P w).is k (.int k tk)=true:=intKind_is _ _ _ _;have ae:(intKind P w).hash k=k:=Yn h0 h1;unfold setAddHashed setAddHashedIn;refine uA (wpAny_bind (vF ho rfl hf ?_));dsimp only;rw [byScan_of (knd:=intKind P w) rfl (by omega) O.elems]
 simp only [↓reduceIte];unfold setAddByScan;refine wpAny_bind ?_;refine wpAny_bind (wpAny_rule ?_);have hr:List.findIdx? (fun e=>(intKind P w).is k e.2) es.toList=none:=by
  rw [List.findIdx?_eq_none_iff];intro e he;obtain⟨ag,e1,_,_⟩:=O e he;cases hc:(intKind P w).is k e.2 with
  |false=>rfl
  |true=>
   rw [e1] at hc;exact absurd ((intKind P w).inj _ _ _ (intKind_is _ _ _ _) hc) (hn e he)
 have ab:=wpAny_setScan_of (prog:=P) (w:=w) (A:=A) (E:=E) (s:=s) (knd:=intKind P w) (adding:=true) aa ho rfl hf O.elems (Q:=fun m s'=>m= .absent/\s'=s) (by rw [hr];exact⟨rfl,rfl⟩)
 rw [ae] at ab;refine wpAny_bind (vc ab (fun m s' z=> ?_) fun _ _ z=>z);obtain⟨rfl,rfl⟩:=z;dsimp only;have af:∀(b:Bool) {s₁:Shared}{Q':Unit->Shared->Prop},Q' Unit.unit s₁->wpAny (model P w) A (match b with|true=>rule "set.scan.the-table-gave-way"|false=>pure Unit.unit) Q' E s₁:=fun b s₁ Q' hq=>by cases b<;>first|exact wpAny_pure hq|exact wpAny_rule hq
 have U:=layNew_perm t es k (.int k tk);have ac:=layNew_fits t es k (.int k tk);have hq:∀(h':Heap) (B:Nat),_->_->_:=q;unfold addN at hq;generalize ah:layNew t es k (.int k tk)=L at U ac hq⊢;obtain⟨na,t1,dm,gv⟩:=L;dsimp only at U ac hq⊢;have ad:na.size<scanBound:=by
  rw [<-Array.length_toList,U.length_eq,Array.toList_push,ui,Array.length_toList]
  simpa using hb
 refine wpAny_bind (af _ ?_);split
 ·refine wpAny_bind ?_;rw [hashByValue_scannable 8 (show Value.scannable (.int k tk)=true from rfl)]
  refine wpAny_pure ?_;refine xI (es:=es) ?_ ho ad ?_
  ·intro b s₁ Q' M;cases b<;>first|exact wpAny_pure M|exact wpAny_rule M
  ·intro h' B Y Z;dsimp only;exact wpAny_pure (hq h' B Y Z)
 ·refine wpAny_bind (wpAny_pure ?_);simp only [↓reduceIte];refine xI (es:=es) ?_ ho ad ?_
  ·intro b s₁ Q' M;cases b<;>first|exact wpAny_pure M|exact wpAny_rule M
  ·intro h' B Y Z;dsimp only;exact wpAny_pure (hq h' B Y Z)
theorem Je (es:SE)(t:SetTable)(h:Int)(x:Value):List.Perm (addN es t h x).1.toList (es.toList++ [(h,x)]):=by
 have B:=layNew_perm t es h x;rw [Array.toList_push] at B;unfold addN;split
 ·exact(relayAll_perm _ _ _).trans B
 ·exact B
theorem addN_fits (es:SE)(t:SetTable)(h:Int)(x:Value):(addN es t h x).2.fits (addN es t h x).1.size=true:=by
 unfold addN;split
 ·exact relayAll_fits _ _ _
 ·exact layNew_fits _ _ _ _
theorem addN_size (es:SE)(t:SetTable)(h:Int)(x:Value):(addN es t h x).1.size=es.size+1:=by
 have:=(Je es t h x).length_eq;rw [ui,Array.length_toList,Array.length_toList] at this;exact this
def addV (p:SE×SetTable)(v:Value):SE×SetTable:=match v with
 | .int k tk=>if p.1.toList.any (fun e=>e.1==k)=true then p else addN p.1 p.2 k (.int k tk)
 |_=>p
def SmallV (v:Value):Prop:=∃k tk,v= .int k tk/\0<=k/\k<1000
structure SOk (p:SE×SetTable):Prop where
 isI:Xj p.1
 fits:p.2.fits p.1.size=true
theorem J6 (led:Bool):SOk (#[],.fresh 0 0 led):=⟨fun e B=>by simp at B,by cases led<;>rfl⟩
theorem SOk.add {p:SE×SetTable}{v:Value}(h:SOk p)(L:SmallV v):SOk (addV p v):=by
 obtain⟨k,tk,rfl,M,h1⟩:=L;unfold addV;dsimp only;split
 ·exact h
 ·refine⟨fun e B=> ?_,addN_fits _ _ _ _⟩;rcases List.mem_append.mp ((Je _ _ _ _).mem_iff.mp B) with B|B
  ·exact h.isI e B
  ·cases List.mem_singleton.mp B;exact⟨tk,rfl,M,h1⟩
theorem add_size {p:SE×SetTable}{v:Value}:(addV p v).1.size<=p.1.size+1:=by
 unfold addV;split
 ·split
  ·omega
  ·rw [addN_size];exact Nat.le_refl _
 ·omega
theorem add_old {a:Addr}{es:SE}{ep:Nat}{t:SetTable}{k:Int}{tk:Tok}{Q:Bool->Shared->Prop}(Z:s.heap.get? a=some (setO es ep t))(L:Xj es)(hf:t.fits es.size=true)(h0:0<=k)(h1:k<1000)(hb:es.size+1<scanBound)(hn:∃e∈es.toList,e.1=k)(q:Q false s):
  wpAny (model P w) A (setAddHashed a (.int k tk) k) Q E s:=by
 have M:(intKind P w).is k (.int k tk)=true:=intKind_is _ _ _ _;have U:(intKind P w).hash k=k:=Yn h0 h1;unfold setAddHashed setAddHashedIn;refine uA (wpAny_bind (vF Z rfl hf ?_));dsimp only;rw [byScan_of (knd:=intKind P w) rfl (by omega) L.elems]
 simp only [↓reduceIte];unfold setAddByScan;refine wpAny_bind ?_;refine wpAny_bind (wpAny_rule ?_);obtain⟨e,he,Y⟩:=hn;obtain⟨aa,e1,_,_⟩:=L e he;have B:∃j,List.findIdx? (fun e=>(intKind P w).is k e.2) es.toList=some j:=by
  cases B:List.findIdx? (fun e=>(intKind P w).is k e.2) es.toList with
  |some j=>exact⟨j,rfl⟩
  |none=>
   have:=List.findIdx?_eq_none_iff.mp B e he;rw [e1,Y,intKind_is] at this;cases this
 obtain⟨j,B⟩:=B;have O:=wpAny_setScan_of (prog:=P) (w:=w) (A:=A) (E:=E) (s:=s) (knd:=intKind P w) (adding:=true) M Z rfl hf L.elems (Q:=fun m s'=>m= .found (0+j)/\s'=s) (by rw [B];exact⟨rfl,rfl⟩)
 rw [U] at O;refine wpAny_bind (vc O (fun m s' z=> ?_) fun _ _ z=>z);obtain⟨rfl,rfl⟩:=z;dsimp only;exact wpAny_pure (wpAny_pure q)
theorem add_any {a:Addr}{p:SE×SetTable}{ep:Nat}{k:Int}{tk:Tok}{Q:Bool->Shared->Prop}(M:s.heap.get? a=some (setO p.1 ep p.2))(L:SOk p)(U:0<=k)(h1:k<1000)(Y:p.1.size+1<scanBound)
  (q:∀(h':Heap) (B:Nat) (b:Bool),Heap.SameBut a s.heap h'->h'.get? a=some (setO (addV p (.int k tk)).1 B (addV p (.int k tk)).2)->Q b {s with heap:=h'}):
  wpAny (model P w) A (setAddHashed a (.int k tk) k) Q E s:=by
 unfold addV at q;dsimp only at q;by_cases c:p.1.toList.any (fun e=>e.1==k)=true
 ·simp only [if_pos c] at q;obtain⟨e,O,hk⟩:=List.any_eq_true.mp c;have:=q s.heap ep false (Heap.SameBut.refl a s.heap) M;exact add_old M L.isI L.fits U h1 Y ⟨e,O,by simpa using hk⟩ this
 ·simp only [if_neg c] at q;refine add_new M L.isI L.fits U h1 Y (fun e O hk=>c (List.any_eq_true.mpr ⟨e,O,by simpa using hk⟩)) fun h' B Z e=>q h' B true Z e
end
section
variable {prog:Program}{w:World}{A:Around}{R:Result->Shared->Prop}{I:Addr}{fp wr:List Addr}{G:Array GenState->Array GenState->Prop}{n:Nat}{Pp:Nat->Value->Prop}{St:Nat->Shared->Prop}
theorem loop_exact {vs:List Value}(W:WalksS prog w A.in1 I fp wr G n Pp St)(U:∀i v,Pp i v->vs[i]? =some v)(S:Addr)(Y:S∉fp)(hv:∀v∈vs,SmallV v)(O:n+1<scanBound)(B:SE×SetTable)(al:SOk B)(am:B.1.size=0):
  ∀(k i:Nat) (s:Shared) (ep:Nat),n-i=k->i<=n->St i s->s.heap.get? S=some (setO ((vs.take i).foldl addV B).1 ep ((vs.take i).foldl addV B).2)->SOk ((vs.take i).foldl addV B)->((vs.take i).foldl addV B).1.size<=i->
   (∀s' L,Moved (S::wr) G s s'->s'.heap.get? S=some (setO ((vs.take n).foldl addV B).1 L ((vs.take n).foldl addV B).2)->SOk ((vs.take n).foldl addV B)->R (.ok (.ret .none)) s')->
   codeAny (model prog w) A (.builtin "set.update.loop" ⟨[.ref S,.ref I],[]⟩) R s:=by
 have Z:S∉wr:=fun h=>Y (W.sub _ h);have inS:∀b∈wr,b∈S::wr:=fun b O=>u4 _ O;intro k
 induction k with
 |zero=>
  intro i s ep hk hi M hS hok hsz hR;have ai:i=n:=by omega
  subst ai;refine vz F.entry_set_update_loop ?_;rw [ve US _];show wpAny _ A.in1 (pyNext (.ref I)>>=_) _ _ s;refine wpAny_bind (W.done s _ _ M fun s' hm=> ?_);show wpAny _ A.in1 (ret Value.none) _ _ s';exact wpAny_pure (hR s' ep (hm.mono inS) (hm.heap S _ Z hS) hok)
 |succ k ih=>
  intro i s ep hk hi M hS hok hsz hR;have aa:i<n:=by omega
  refine vz F.entry_set_update_loop ?_;rw [ve US _];show wpAny _ A.in1 (pyNext (.ref I)>>=_) _ _ s;refine wpAny_bind (W.item i s _ _ aa M fun v s' hP ab hm=> ?_);have hP:=U i v hP;obtain⟨kk,t,rfl,h0,h1⟩:=hv v (ud hP);have aj:=hm.heap S _ Z hS;show wpAny _ A.in1 (holding [Value.int kk t] (setAdd S (.int kk t))>>=_) _ _ s';refine wpAny_bind (uA ?_);unfold setAdd;refine uA ?_;refine wpAny_bind ((intKind prog w).pyHash (k:=kk) (intKind_is _ _ _ _) ?_);rw [Yn h0 h1];have et:(vs.take (i+1)).foldl addV B=addV ((vs.take i).foldl addV B) (.int kk t):=by
   rw [uE,hP,List.foldl_append]
   rfl
  refine add_any (s:={s' with toks:=s'.toks+1}) aj hok h0 h1 (by omega) fun h' L b ac ad=> ?_
  rw [<-et] at ad;have ae:SOk ((vs.take (i+1)).foldl addV B):=by rw [et];exact hok.add ⟨kk,t,rfl,h0,h1⟩
  have hsz2:((vs.take (i+1)).foldl addV B).1.size<=i+1:=by rw [et];exact v8 add_size (by omega)
  refine wpAny_pure ⟨Ui US _,ih (i+1) _ L (by omega) aa (W.frame _ s' _ _ ab (Nat.le_succ _) fun b O o e=> ?_) ad ae hsz2 fun ak af ag ah=> ?_⟩
  ·rw [ac.2 b (fun h:b=S=>Y (by rw [<-h];exact O))];exact e
  ·refine hR ak af (Moved.trans W.gtrans ((hm.mono inS).then_heap (Nat.le_succ _) fun b o O e=> ?_) ag) ah;rw [ac.2 b (fun h:b=S=>O (by rw [h];exact u5))];exact e
end
def byT (w:World):Bool:=w.params.followText "set-order"
def fr (w:World):SE×SetTable:=(#[],.fresh 0 0 (!byT w))
section
variable {P:Program}{w:World}{A:Around}{E:Value->Shared->Prop}{s:Shared}
theorem set_new_e (a:Value){Q₁:Value->Shared->Prop}(h:Q₁ (.ref s.heap.objs.size) {s with heap:=s.heap.push (Qj (!byT w))}):
  codeAny (model P w) A (.call (.builtin "set.__new__") ⟨[.type "set",a],[]⟩) (wants Q₁ E) s:=by
 refine codeAny_of_tree ?_;show wpAny _ A.in1 (do checkBuiltinCall "set.__new__" ⟨[.type "set",a],[]⟩;again (.builtin "set.__new__" ⟨[.type "set",a],[]⟩)) _ _ s
 refine wpAny_bind (Uv (F.newCall_set_1 a) (wpAny_pure ⟨Ui F.plain_set_new _,vz F.entry_set_new ?_⟩));rw [ve F.plain_set_new _];unfold Builtin.«set.__new__» Builtin.Frozenset.newClass;have B:=sub_set_self;obtain⟨L,g,d,tk,os⟩:=s;dsimp only
 wp_walk
 refine vA (wpAny_pure ?_);dsimp only;simp only [newObj];refine wpAny_bind (wpAny_alloc (wpAny_pure ?_));exact wpAny_pure h
theorem set_exact {t:Addr}{items:Array Value}{Q:Value->Shared->Prop}(hh:A.handled=none)(ht:s.heap.IsTuple t items)(hv:∀v∈items.toList,SmallV v)(hz:items.size+1<scanBound)
  (q:∀(h':Heap) (tk ep:Nat),(∀b o,b<s.heap.objs.size->s.heap.get? b=some o->h'.get? b=some o)->h'.get? s.heap.objs.size=some (setO (items.toList.foldl addV (fr w)).1 ep (items.toList.foldl addV (fr w)).2)->SOk (items.toList.foldl addV (fr w))->s.toks<=tk->Q (.ref s.heap.objs.size) {s with heap:=h',toks:=tk}):wpAny (model P w) A (call (.type "set") [.ref t]) Q E s:=by
 obtain⟨c,tl,ao⟩:=F.called_set.mro;have made:=F.called_set.made;have ap:=F.called_set.sub;refine wpAny_call (codeAny_of_tree ?_);show wpAny _ _ (callAny (.type "set") _) _ _ _;refine wpAny_pure ⟨Code.quiet_builtin _ (by decide+kernel),vz F.entry_type_call ?_⟩
 rw [Around.under_plain (weight_type_call_type "set" [.ref t] []) rfl];have h1:=F.called_set.notType;have h2:=F.called_set.canCreate;have h3:=F.typeCall_set_1 (.ref t)
 repeat (any_goals (first|assumption|wp_step))
 refine Uf (set_new_e (.ref t) (E:=E) (Q₁:=fun obj u=>obj= .ref s.heap.objs.size/\u={s with heap:=s.heap.push (Qj (!byT w))}) ⟨rfl,rfl⟩) fun r u L=> ?_
 match r,L with
 | .error e,L=>exact L
 | .ok (.ret obj),L=>
  obtain⟨rfl,rfl⟩:=L;generalize O:(!byT w)=led;have U:(s.heap.push (Qj led)).get? s.heap.objs.size=some (Qj led):=uf _ rfl;have ac:Shared.TypeIs {s with heap:=s.heap.push (Qj led)} (.ref s.heap.objs.size) "set":=⟨_,U,rfl⟩
  have l1:=F.called_set.init.lookup;have l2:=F.called_set.init.bind (.ref s.heap.objs.size)
  repeat (any_goals (first|assumption|wp_step))
  refine Uf (codeAny_call_builtin (R:=wants (fun r u=>r= .none/\∃h' tk,u={s with heap:=h',toks:=tk}/\(∀b o,b<s.heap.objs.size->s.heap.get? b=some o->h'.get? b=some o)/\(∃ep,h'.get? s.heap.objs.size=some (setO (items.toList.foldl addV (fr w)).1 ep (items.toList.foldl addV (fr w)).2))/\SOk (items.toList.foldl addV (fr w))/\s.toks<=tk) E) F.called_set.init.plain F.entry_set_init (check_set_init_1 ac ?_)) fun r u L=> ?_
  ·have aq:=ht;obtain⟨⟨oc,od,au,os⟩,Y,hc,n,hd⟩:=ht;simp only at hc hd;subst hc hd;have Z:(s.heap.push (Qj led)).get? t=some {cls:= .type "tuple",dict:=od,data:= .seq items n,slots:=os}:=u7 _ Y;have a1:=sub_ts;have a2:=sub_tf;have a3:(Value.type "tuple"==Value.type "dict")=false:=by decide
   have aa:(s.heap.push (Qj led)).IsTuple t items:=⟨_,Z,rfl,n,rfl⟩;unfold Builtin.«set.__init__» noKeywords Builtin.Frozenset.updateFrom;generalize ad:pyIter=PI
   wp_walk
   subst ad;refine U3 aa ?_;refine wpAny_bind (wpAny_runValue ?_);have ab:t<s.heap.objs.size:=uh Y;have ae:A.in1.in1.in1.handled=none:=by simp [hh]
   have af:t≠(s.heap.push (Qj led)).objs.size:=by rw [vw];exact uy (Nat.lt_succ_of_lt ab)
   have ag:s.heap.objs.size∉ [(s.heap.push (Qj led)).objs.size,t]:=by
    rw [vw];simp only [uP,vg,List.not_mem_nil,UA,not_or];exact⟨uy (UF _),V3 ab⟩
   have B:(fr w:SE×SetTable)=(#[],.fresh 0 0 led):=by unfold fr;rw [O]
   refine loop_exact (vs:=items.toList) (n:=items.size) ((Walks.tuple ae _ t af items).toS) (fun i v h=>by rw [v4];exact h) s.heap.objs.size ag hv hz (fr w) (by rw [B];exact J6 led) (by rw [B];rfl) (items.size-0) 0 _ 0 (by omega) (uv _) ⟨⟨_,uf _ rfl,rfl,rfl⟩,(aa.push _)⟩ ?hS0 (by rw [B];exact J6 led) (by rw [B];exact Nat.le_refl _) ?hR
   case hS0=>rw [B];exact u7 _ U
   case hR=>
    intro s' ah hm M hok;obtain⟨h',g',d',ai,aj⟩:=s';have eg:g'=s.gens:=hm.gens;have ed:d'=s.drawn:=hm.drawn;have eo:aj=s.os:=hm.os;subst eg;subst ed;subst eo;have ak:items.toList.take items.size=items.toList:=uL (by simp)
    rw [ak] at M hok;show wpAny _ _ _ _ _ _;refine wpAny_pure ?_;show wpAny _ _ (ret Value.none) _ _ _;refine wpAny_pure ⟨rfl,h',ai,rfl,fun b o hb e=> ?_,⟨ah,M⟩,hok,?_⟩
    ·have al:b≠s.heap.objs.size:=uy hb;have am:b≠(s.heap.push (Qj led)).objs.size:=by rw [vw];exact uy (Nat.lt_succ_of_lt hb)
     exact hm.heap b o (by simp only [uP,vg,List.not_mem_nil,UA,not_or];exact⟨al,am⟩) (u7 _ (u7 _ e))
    ·exact hm.toks
  ·match r,L with
   | .error e,L=>exact L
   | .ok (.ret v),L=>
    obtain⟨rfl,h',tk,rfl,k1,⟨ep,k2⟩,k3,k4⟩:=L
    repeat (any_goals (first|assumption|wp_step))
    exact q _ _ ep k1 k2 k3 k4
end
def yA (w:World)(t:SetTable)(i:Nat):Nat:=if byT w=true then 0 else if i=0 then 0 else t.place.getD (i-1) 0+1
def Wlk (t:SetTable)(n:Nat):Prop:=∀i,i<=n->SetTable.below t.place (if i=0 then 0 else t.place.getD (i-1) 0+1)=i
structure SGE (w:World)(h:Heap)(a:Addr)(es:SE)(ep:Nat)(t:SetTable):Prop where
 here:h.get? a=some (setO es ep t)
 ok:SOk (es,t)
 led:byT w=false->t.led=true/\t.plain=true/\Wlk t es.size
theorem SGE.to {w:World}{h h':Heap}{a:Addr}{es:SE}{ep:Nat}{t:SetTable}(x:SGE w h a es ep t)(k:∀o,h.get? a=some o->h'.get? a=some o):SGE w h' a es ep t:=⟨k _ x.here,x.ok,x.led⟩
def QV (w:World)(a:Addr)(es:SE)(ep:Nat):SE:=if byT w=true then pickOrder (w.params.setOrder a ep) es else es
theorem go_perm {α:Type}(next:Nat->Nat):∀(B k:Nat) (left:List α) (out:Array α),left.length=B->List.Perm (pickOrder.go next B k left out).toList (out.toList++left)
 |0,k,left,out,h=>by
  have:left= []:=List.length_eq_zero_iff.mp h;subst this;simp [pickOrder.go]
 |B+1,k,left,out,h=>by
  unfold pickOrder.go;have L:next k%left.length<left.length:=Nat.mod_lt _ (by omega)
  rw [u0 L];dsimp only;refine(go_perm next B (k+1) _ _ (by rw [List.length_eraseIdx_of_lt L];omega)).trans ?_
  rw [Array.toList_push,V2];refine List.Perm.append_left _ ?_;rw [List.eraseIdx_eq_take_drop_succ];generalize next k%left.length=i at L;have e:left=left.take i++left[i]::left.drop (i+1):=by rw [<-vj L,List.take_append_drop]
  have p:List.Perm (left[i]::(left.take i++left.drop (i+1))) (left.take i++left[i]::left.drop (i+1)):=List.perm_middle.symm;rw [<-e] at p;exact p
theorem QN (w:World)(a:Addr)(es:SE)(ep:Nat):List.Perm (QV w a es ep).toList es.toList:=by
 unfold QV;split
 ·have:=go_perm (w.params.setOrder a ep) es.size 0 es.toList #[] (by simp)
  simpa [pickOrder] using this
 ·exact List.Perm.refl _
theorem YT (w:World)(a:Addr)(es:SE)(ep:Nat):(QV w a es ep).size=es.size:=by
 have:=(QN w a es ep).length_eq
 simpa using this
section
variable {P:Program}{w:World}{A:Around}{E:Value->Shared->Prop}{s:Shared}{d it:Addr}{es:SE}{ep:Nat}{t:SetTable}
theorem Qp {Q:Array (Int×Value)×Nat×SetTable->Shared->Prop}(h:SGE w s.heap d es ep t)(q:Q (es,ep,t) s):wpAny (model P w) A (setState d) Q E s:=vF h.here rfl h.ok.fits q
theorem next_sge {i:Nat}{Q:Option (Value×Nat)->Shared->Prop}(h:SGE w s.heap d es ep t)(hi:i<=es.size)(q:Q ((QV w d es ep)[i]?.map fun e=>(e.2,yA w t (i+1))) s):wpAny (model P w) A (setNext d (yA w t i) i ep) Q E s:=by
 unfold setNext setsByText;refine wpAny_bind (Qp h (wpAny_bind (wpAny_bind (vA (wpAny_pure ?_)))));dsimp only;have Z:(model P w).w.params.followText "set-order"=byT w:=rfl;rw [Z];cases B:byT w with
 |true=>
  rw [if_pos rfl,if_neg (by simp)]
  refine wpAny_bind ?_;unfold setWalk setsByText;refine wpAny_bind (Qp h (wpAny_bind (wpAny_bind (vA (wpAny_pure ?_)))));dsimp only;rw [Z,B,if_pos rfl];refine wpAny_bind (vA (wpAny_pure (wpAny_pure ?_)));unfold QV yA at q;rw [B,if_pos rfl] at q;simp only [if_true] at q;unfold yA;rw [B];exact q
 |false=>
  obtain⟨l1,l2,l3⟩:=h.led B;rw [if_neg (by decide)]
  split
  ·rename_i hc
   have h2:(!t.plain&&decide (es.size>1))=true:=hc;rw [l2] at h2;simp at h2
  ·refine wpAny_bind (m:=if(!t.led&& !es.isEmpty)=true then _ else _) ?_
   rw [if_neg (by rw [l1];simp)]
   refine wpAny_pure (wpAny_pure ?_);have M:yA w t i=if i=0 then 0 else t.place.getD (i-1) 0+1:=by unfold yA;rw [B];simp
   rw [M,l3 i hi];unfold QV at q;rw [B,if_neg (by decide)] at q
   have aa:t.place.size=es.size:=by
    have:=h.ok.fits;simp only [SetTable.fits,Bool.and_eq_true,UY] at this;exact this.1
   rcases uZ i es.size with O|U
   ·have L:es[i]? =some es[i]:=U8 O;have e2:t.place[i]? =some (t.place[i]'(by omega)):=U8 (by omega)
    rw [L] at q;have Y:yA w t (i+1)=t.place[i]'(by omega)+1:=by
     unfold yA;rw [B,if_neg (by decide),if_neg (by omega)]
     simp [Array.getD,show i<t.place.size by omega]
    rw [Y] at q;simp only [L,e2];exact q
   ·have L:es[i]? =none:=Array.getElem?_eq_none U;rw [L] at q;simp only [L];exact q
def SIt (w:World)(h:Heap)(it d:Addr)(n ep:Nat)(t:SetTable)(i:Nat):Prop:=∃o,h.get? it=some o/\o.cls= .type "set_iterator"/\o.data= .fields #[.int (yA w t i:Nat) 0,.int (i:Nat) 0,.ref d,.int (n:Nat) 0,.int (ep:Nat) 0]
theorem SIt.ty {n i:Nat}(x:SIt w s.heap it d n ep t i):s.TypeIs (.ref it) "set_iterator":=let⟨o,h,c,_⟩:=x;⟨o,h,c⟩
theorem SIt.to {h h':Heap}{n i:Nat}(x:SIt w h it d n ep t i)(k:∀o,h.get? it=some o->h'.get? it=some o):SIt w h' it d n ep t i:=let⟨o,e,r⟩:=x;⟨o,k o e,r⟩
theorem SGE.ty (h:SGE w s.heap d es ep t):s.TypeIs (.ref d) "set":=⟨_,h.here,rfl⟩
theorem iter_sge {Q:Value->Shared->Prop}(B:SGE w s.heap d es ep t)(q:Q (.ref s.heap.objs.size) {s with heap:=s.heap.push {cls:= .type "set_iterator",data:= .fields #[.int 0 0,.int 0 0,.ref d,.int (es.size:Nat) 0,.int ep 0]}}):wpAny (model P w) A (pyIter (.ref d)) Q E s:=by
 have L:=B.ty;refine V1 L F.slot_set_iter (uz F.slot_set_iter L xq ?_ (X4 _));unfold Builtin.«frozenset.__iter__» Builtin.Frozenset.slot0 Builtin.Frozenset.sizeOf setEntries setDrawn setsByText setEpoch;show wpAny _ _ (pure d>>=_) _ _ s;refine wpAny_bind (wpAny_pure (wpAny_bind (wpAny_bind (wpAny_bind (Qp B (wpAny_pure (wpAny_pure ?_)))))));refine wpAny_bind (wpAny_bind (Qp B (wpAny_bind (wpAny_bind (vA (wpAny_pure (wpAny_pure ?_)))))));dsimp only;have M:(model P w).w.params.followText "set-order"=byT w:=rfl;rw [M];split
 ·rename_i h
  rw [Bool.and_eq_true] at h;have O:byT w=false:=by simpa using h.1
  have h2:(!t.plain&&decide (es.size>1))=true:=h.2;rw [(B.led O).2.1] at h2;simp at h2
 ·refine wpAny_bind (wpAny_pure (wpAny_bind (wpAny_bind (Qp B (wpAny_pure ?_)))));unfold newFields;refine wpAny_bind (uJ (wpAny_pure ⟨_,rfl,"set_iterator",_,⟨_,uf _ rfl,rfl⟩,yd.lookup,?_⟩))
  simpa [rawInt] using q
theorem nxt_sge {i:Nat}{Q:Option Value->Shared->Prop}(Y:A.handled=none)(hi:i<=es.size)(L:SIt w s.heap it d es.size ep t i)(O:SGE w s.heap d es ep t)
  (q1:∀e h',(QV w d es ep)[i]? =some e->SIt w h' it d es.size ep t (i+1)->Heap.SameBut it s.heap h'->Q (some e.2) {s with heap:=h'}) (Z:(QV w d es ep)[i]? =none->∀h',Heap.ExtBut it s.heap h'->Q none {s with heap:=h'}):wpAny (model P w) A (pyNext (.ref it)) Q E s:=by
 have U:=L.ty;obtain⟨o,M,hc,hd⟩:=L;unfold pyNext;refine wpAny_bind (U6 (uC (name:=Str.ofString "__next__") U yd (uz yd U Xx ?_ (args_si_next _))));unfold Builtin.«set_iterator.__next__» setEntries;refine wpAny_bind (wpAny_pure ?_);refine wpAny_bind (Uo M hd ?_);refine wpAny_bind (wpAny_bind (Qp O (wpAny_pure ?_)));dsimp only;rw [if_neg (by simp)]
 simp only [Uc];refine wpAny_bind (next_sge (i:=i) O hi ?_);cases e:(QV w d es ep)[i]? with
 |some x=>
  dsimp only [Option.map];refine wpAny_bind (vI M hd (by simp) ?_)
  have h1:=uV (Obj.mapFields (·.setIfInBounds 0 (rawInt ((yA w t (i+1):Nat):Int)))) M (vM (uW hd _));have B:=uW hd (·.setIfInBounds 0 (rawInt ((yA w t (i+1):Nat):Int)));refine wpAny_bind (vI h1 B (by simp) ?_)
  have h2:=uV (Obj.mapFields (·.setIfInBounds 1 (rawInt ((i:Int)+1)))) h1 (vM (uW B _));have hd2:=uW B (·.setIfInBounds 1 (rawInt ((i:Int)+1)));show wpAny _ _ (ret x.2) _ _ _;refine wpAny_pure ⟨_,rfl,wpAny_pure (q1 x _ e ⟨_,h2,?_,?_⟩ ((uD ..).trans (uD ..)))⟩
  ·rw [Uz,Uz];exact hc
  ·rw [hd2];simp [rawInt]
 |none=>
  dsimp only [Option.map];refine wpAny_bind (vI M hd (by simp) ?_)
  show wpAny _ _ (newExc (.type "StopIteration") []>>=_) _ _ _;refine wpAny_bind ?_;simp only [newExc,newTuple];refine wpAny_bind (uJ ?_ (by size_fits))
  refine wpAny_bind (m:=firstArgMember _ _) (Uv (a:=Value.none) (by first|rfl|(simp only [firstArgMember];rfl)) ?_)
  refine uJ ?_ (by size_fits)
  simp only [raiseNew];refine wpAny_bind (wpAny_handled ?_);rw [show A.in1.handled=none from Y]
  refine wpAny_bind (wpAny_pure (wpAny_throw ?_));refine wpAny_bind (wpAny_isInstance (T:="StopIteration") (b:=true) ⟨_,uf _ rfl,rfl⟩ isSubtype_stop ?_);exact wpAny_pure (Z e _ (((uD ..).extBut.push _).push _))
theorem walk_sge (U:A.handled=none)(I d:Addr)(ne:d≠I):
  Walks P w A I [I,d] [I] es.size (fun i v=>∃e,(QV w d es ep)[i]? =some e/\v=e.2) (fun i h=>i<=es.size/\SIt w h I d es.size ep t i/\SGE w h d es ep t) where
 sub:=fun b B=>by simp at B;simp [B]
 frame:=fun _ _ _ st hk=>⟨st.1,st.2.1.to fun o e=>hk I (by simp) o e,st.2.2.to fun o e=>hk d (by simp) o e⟩
 item:=fun i s Q E hi st L=>nxt_sge U st.1 st.2.1 st.2.2 (fun e h' O M Y=>L e.2 h' s.toks ⟨e,O,rfl⟩ ⟨hi,M,st.2.2.to fun o x=>Y.extBut d o ne x⟩ fun b o B x=>Y.extBut b o (fun z=>B (by simp [z])) x) fun e=>by
  rw [U8 (by rw [YT];exact hi)] at e
  cases e
 done:=fun s Q E st L=>nxt_sge U st.1 st.2.1 st.2.2 (fun e h' O _ _=>by rw [Array.getElem?_eq_none (by rw [YT];exact Nat.le_refl _)] at O;cases O) fun _ h' Z=>L h' s.toks fun b o B x=>Z b o (fun z=>B (by simp [z])) x
 self:=fun i s Q E st L=>by
  refine V1 st.2.1.ty jN (uz jN st.2.1.ty Xs ?_ (args_si_iter _));show wpAny _ _ (ret (.ref _)) _ _ s;exact wpAny_pure ⟨_,rfl,"set_iterator",_,st.2.1.ty,yd.lookup,L⟩
theorem slot0 (w:World)(t:SetTable):yA w t 0=0:=by unfold yA;split<;>rfl
theorem src_sge:PySem.W.KdlSrc P w "set" d d es.size (fun i v=>∃e,(QV w d es ep)[i]? =some e/\v=e.2) (fun h=>SGE w h d es ep t) where
 type:=fun _ hm=>hm.ty
 there:=fun _ hm=>⟨uh hm.here,uh hm.here⟩
 keep:=fun _ _ hm hk=>hm.to fun o e=>hk d (.inl rfl) o e
 notList:=by decide
 notTuple:=by decide
 hint:=fun _ _ _ _ hm hq=>hint_set hm.ty hq
 iter:=fun _ s B hm=>⟨_,_,fun _ _ hq=>iter_sge hm hq,walk_sge B _ d (uy (uh hm.here)),⟨uv _,⟨_,uf _ rfl,rfl,by rw [slot0];rfl⟩,hm.to fun _ e=>u7 _ e⟩⟩
end
end L2
namespace L2
open PySem PySem.Spec PyProof.Rows
def SG (w:World)(h:Heap)(a:Addr)(ms:List Int):Prop:=∃es ep t,SGE w h a es ep t/\List.Perm (es.toList.map (·.1)) ms
def gS (w:World)(a:Addr)(ms:List Int):HO:= .ext fun h=>SG w h a ms
theorem gS_ok {P:Program}{w:World}{H:Hp}{h:Heap}{a:Addr}{B:List Int}(n:SG w h a B):Qe P w H h a (gS w a B):=⟨n,let⟨_,_,_,e,_⟩:=n;⟨_,e.here⟩,fun _ _ n k=>let⟨es,ep,t,e,p⟩:=n;⟨es,ep,t,e.to k,p⟩⟩
theorem ints_ext:∀{vs:List Value}{ns:List Int},vs.length=ns.length->(∀(j:Nat) (v:Value) (n:Int),vs[j]? =some v->ns[j]? =some n->∃t,v= .int n t)->IntsAre vs ns
 | [],[],_,_=> .nil
 | [],_::_,h,_=>by simp at h
 |_::_,[],h,_=>by simp at h
 |v::vs,n::ns,h,k=>by
  obtain⟨t,rfl⟩:=k 0 v n rfl rfl;exact .cons n t (ints_ext (by simpa using h) fun j v n a b=>k (j+1) v n a b)
theorem jV:∀{vs:List Value}{ns:List Int},IntsAre vs ns->Vals (ns.map V.int) vs
 |_,_,.nil=> .nil
 |_,_,.cons n t h=> .cons ⟨t,rfl⟩ (jV h)
section
variable {X:Cx}
theorem sorted_sg {pins:List (Addr×Obj)}{s:Shared}{σ:St}{H:Hp}{a:Addr}{O:List Int}{Q:VK}(hc:X.calm=true)(I:Inv X pins σ H s)(sg:SG X.w s.heap a O)(aa:O.length<64)(q:∀(ns:List Int) (q:Addr),ns.Perm O->ns.Pairwise (·<= ·)->H q=none->Q (.ref q) (upd H q (.lst (ns.map V.int)))):
  wpAny (model X.prog X.w) X.A (call (.builtin "sorted") [.ref a]) (EP X pins σ Q) X.xe s:=by
 obtain⟨es,ep,t,e,pm⟩:=sg;have hs:=sizeLine_eq;have ab:es.size=O.length:=by have:=pm.length_eq;simpa using this
 refine uH (n:=1) I.tk ?_;refine PySem.Calls.call_function_entry kind_sorted plain_sorted entry_sorted (args_sorted1 _) ?_;unfold Builtin.«sorted»;refine wpAny_bind (m:=checkCount "sorted" 1 1 _) (wpAny_pure ?_);refine wpAny_bind (PySem.W.kdu_collect (A:=X.A.in1) (src_sge (es:=es) (ep:=ep) (t:=t)) (I.ok.hd hc) e (by omega) fun h' tk B U L=> ?_)
 have Y:B.toList.length=es.size:=by rw [Array.length_toList,L.1]
 have hI:IntsAre B.toList ((QV X.w a es ep).toList.map (·.1)):=by
  refine ints_ext (by rw [Y,uc,Array.length_toList,YT]) fun j v n hv hn=> ?_
  obtain⟨x,hx,rfl⟩:=L.2 j v (by rw [<-v4];exact hv)
  rw [uj,v4,hx] at hn;cases hn;have hm:x∈es.toList:=(QN X.w a es ep).mem_iff.mp (by rw [<-v4] at hx;exact ud hx)
  obtain⟨tk,e1,_⟩:=e.ok.isI x hm;exact⟨tk,e1⟩
 refine wpAny_bind (wpAny_newList ?_ (by omega))
 have M:(h'.push (seqObj "list" B.toList.toArray 0)).get? h'.objs.size=some (seqObj "list" B.toList.toArray 0):=uf _ rfl;refine wpAny_bind (uA (uz slot_list_sort ⟨_,M,rfl⟩ entry_list_sort (list_sort_tree M hI (by omega) fun out ns b1 b2 b3=>⟨_,rfl,?_⟩) (args_list_sort _)))
 refine wpAny_pure ⟨_,rfl,?_⟩;obtain⟨n,he⟩:=sortedHeap_at (out:=out) M;have Z:ns.Perm O:=b2.trans (((QN X.w a es ep).map (·.1)).trans pm);have ac:ns.length=O.length:=Z.length_eq;intro htk;have I':Inv X pins σ H {s with heap:=h',toks:=tk}:=I.kept U htk
 refine⟨.ref h'.objs.size,_,I'.laid (t':=tk) (o:= .lst (ns.map V.int)) (fun b u w=> ?_) (Nat.le_refl _) ⟨?_,_,n,jV b1,he⟩ htk,rfl,q ns _ Z b3 (I'.hok.fresh (Nat.le_refl _))⟩
 ·have hb:=uh w;rw [sortedHeap_old (uy hb) (by rw [size_push'];exact Nat.lt_succ_of_lt hb)]
  exact u7 _ w
 ·rw [uc];omega
theorem call_sortedG (M:X.calm=true):yN X (.builtin "sorted") (fun xs H Q=>∃(a:Addr) (B:List Int),xs= [.ref a]/\H a=some (gS X.w a B)/\B.length<64/\∀(ns:List Int) (q:Addr),ns.Perm B->ns.Pairwise (·<= ·)->H q=none->Q (.ref q) (upd H q (.lst (ns.map V.int)))):=by
 intro pins s σ H xs us Q I r h;obtain⟨a,B,rfl,ha,L,q⟩:=h;obtain⟨u,rfl,O⟩:=QW r;cases O;exact sorted_sg M I (show Qe X.prog X.w H s.heap a (gS X.w a B) from I.hok a _ ha).1 L q
end
end L2
namespace L2
open PySem PyProof.Rows
def stE (e:Int×Value):Int×Value:=(e.1,.int e.1 0)
def stP (p:SE×SetTable):SE×SetTable:=(p.1.map stE,p.2)
theorem ins_map {α β:Type}(f:α->β)(xs:Array α)(p:Nat)(x:α):(SetTable.insertAt xs p x).map f=SetTable.insertAt (xs.map f) p (f x):=by
 unfold SetTable.insertAt;rw [Array.map_append,Array.map_push,Array.map_extract,Array.map_extract,Array.size_map]
theorem lay_map (t:SetTable)(es:SE)(h:Int)(x:Value):layNew t (es.map stE) h (.int h 0)=((layNew t es h x).1.map stE,(layNew t es h x).2):=by
 unfold layNew;cases t.freeSlot h with
 |none=>
  dsimp only;rw [Array.map_push,Array.size_map]
  rfl
 |some z=>
  obtain⟨slot,B⟩:=z;dsimp only;have e:SetTable.insertAt (es.map stE) (t.put slot).2 (h,.int h 0)=(SetTable.insertAt es (t.put slot).2 (h,x)).map stE:=by rw [ins_map];rfl
  rw [e,Array.size_map]
theorem fm_map (B:Array Nat)(es:SE):B.filterMap (fun i=>(es.map stE)[i]?)=(B.filterMap (fun i=>es[i]?)).map stE:=by
 rw [Array.map_filterMap]
 congr 1
 funext i
 rw [Array.getElem?_map]
theorem relay_map (t:SetTable)(es:SE)(n:Nat):relayAll t (es.map stE) n=((relayAll t es n).1.map stE,(relayAll t es n).2):=by
 have L:(es.map stE).map (·.1)=es.map (·.1):=by rw [Array.map_map];rfl
 unfold relayAll;rw [L,Array.size_map];cases t.relaid (es.map (·.1)) n with
 |none=>rfl
 |some z=>
  obtain⟨t',B⟩:=z;dsimp only;rw [fm_map,Array.size_map];split<;>rfl
theorem addN_map (es:SE)(t:SetTable)(h:Int)(x:Value):addN (es.map stE) t h (.int h 0)=stP (addN es t h x):=by
 unfold addN stP;rw [lay_map t es h x];dsimp only;rw [Array.size_map,relay_map];split<;>rfl
theorem addV_map (p:SE×SetTable)(k:Int)(tk:Tok):addV (stP p) (.int k 0)=stP (addV p (.int k tk)):=by
 unfold addV;dsimp only;have e:(stP p).1.toList.any (fun e=>e.1==k)=p.1.toList.any (fun e=>e.1==k):=by
  unfold stP;rw [U1,UJ]
  rfl
 rw [e];split
 ·rfl
 ·exact addN_map p.1 p.2 k (.int k tk)
theorem Xa:∀{vs:List Value}{ns:List Int} (p:SE×SetTable),IntsAre vs ns->stP (vs.foldl addV p)=(ns.map fun k=>Value.int k 0).foldl addV (stP p)
 |_,_,p,.nil=>rfl
 |_,_,p,.cons n t h=>by
  rw [List.foldl_cons,um,List.foldl_cons,addV_map p n t];exact Xa _ h
end L2
namespace L2
open PySem PySem.Spec PyProof.Rows
def wlkB (t:SetTable)(n:Nat):Bool:=(List.range (n+1)).all fun i=>SetTable.below t.place (if i=0 then 0 else t.place.getD (i-1) 0+1)==i
theorem wlk_of {t:SetTable}{n:Nat}(h:wlkB t n=true):Wlk t n:=fun i hi=>by
 have:=List.all_eq_true.mp h i (List.mem_range.mpr (by omega))
 simpa using this
def Q2 (p:SE×SetTable):Bool:=p.2.led&&p.2.plain&&wlkB p.2 p.1.size
def runL (led:Bool)(ns:List Int):SE×SetTable:=(ns.map fun k=>Value.int k 0).foldl addV (#[],.fresh 0 0 led)
def qR (p:SE×SetTable):List Int:=p.1.toList.map (·.1)
theorem XI (p:SE×SetTable):qR (stP p)=qR p:=by
 unfold qR stP;rw [U1,uB]
 rfl
theorem keys_add {p:SE×SetTable}{k:Int}{tk:Tok}(nd:(qR p).Nodup):(qR (addV p (.int k tk))).Nodup/\∀x,x∈qR (addV p (.int k tk))↔x∈qR p∨x=k:=by
 unfold addV;dsimp only;split
 ·rename_i h
  obtain⟨e,B,hk⟩:=List.any_eq_true.mp h;refine⟨nd,fun x=>⟨.inl,fun h=>h.elim id fun z=> ?_⟩⟩;rw [z];exact List.mem_map.mpr ⟨e,B,by simpa using hk⟩
 ·rename_i h
  have pm:List.Perm (qR (addN p.1 p.2 k (.int k tk))) (qR p++ [k]):=by
   have:=(Je p.1 p.2 k (.int k tk)).map (·.1);rw [uw] at this;exact this
  have M:k∉qR p:=fun hm=>h (by
   obtain⟨e,B,hk⟩:=List.mem_map.mp hm;exact List.any_eq_true.mpr ⟨e,B,by simpa using hk⟩)
  refine⟨pm.nodup_iff.mpr ?_,fun x=>by rw [pm.mem_iff,vO,vg]⟩
  rw [List.nodup_append];refine⟨nd,by simp,fun a ha b L z=> ?_⟩
  rw [vg] at L;subst L z;exact M ha
theorem keys_fold:∀(ns:List Int) (p:SE×SetTable),(qR p).Nodup->(qR ((ns.map fun k=>Value.int k 0).foldl addV p)).Nodup/\∀x,x∈qR ((ns.map fun k=>Value.int k 0).foldl addV p)↔x∈qR p∨x∈ns
 | [],p,nd=>⟨nd,fun x=>by simp⟩
 |n::ns,p,nd=>by
  obtain⟨h1,h2⟩:=keys_add (k:=n) (tk:=0) nd;obtain⟨B,h4⟩:=keys_fold ns _ h1;refine⟨B,fun x=> ?_⟩;rw [um,List.foldl_cons,h4,h2,uP,or_assoc]
theorem Yj (led:Bool)(ns:List Int):(qR (runL led ns)).Nodup/\∀x,x∈qR (runL led ns)↔x∈ns:=by
 obtain⟨h1,h2⟩:=keys_fold ns (#[],.fresh 0 0 led) List.nodup_nil;exact⟨h1,fun x=>(h2 x).trans (by simp [qR])⟩
def SA (w:World)(h:Heap)(a:Addr)(ns:List Int):Prop:=∃p ep,h.get? a=some (setO p.1 ep p.2)/\SOk p/\stP p=runL (!byT w) ns
def gA (w:World)(a:Addr)(ns:List Int):HO:= .ext fun h=>SA w h a ns
theorem gA_ok {P:Program}{w:World}{H:Hp}{h:Heap}{a:Addr}{ns:List Int}(n:SA w h a ns):Qe P w H h a (gA w a ns):=⟨n,let⟨_,_,e,_⟩:=n;⟨_,e⟩,fun _ _ n k=>let⟨p,ep,e,r⟩:=n;⟨p,ep,k _ e,r⟩⟩
theorem SA.sg {w:World}{h:Heap}{a:Addr}{ns:List Int}(x:SA w h a ns)(g:Q2 (runL true ns)=true):SG w h a (qR (runL (!byT w) ns)):=by
 obtain⟨p,ep,e,ok,es⟩:=x;refine⟨p.1,ep,p.2,⟨e,ok,fun B=> ?_⟩,?_⟩
 ·rw [B,Bool.not_false] at es;have L:p.2=(runL true ns).2:=by rw [<-es];rfl
  have M:p.1.size=(runL true ns).1.size:=by rw [<-es];exact(Array.size_map ..).symm
  unfold Q2 at g;rw [Bool.and_eq_true,Bool.and_eq_true] at g;rw [L,M];exact⟨g.1.1,g.1.2,wlk_of g.2⟩
 ·rw [<-es,XI];exact List.Perm.refl _
theorem jP:∀{ns:List Int}{its:List Value},Vals (ns.map V.int) its->IntsAre its ns
 | [],_,.nil=> .nil
 |n::ns,_,.cons ⟨t,e⟩ h=>by subst e;exact .cons n t (jP h)
theorem small_of:∀{vs:List Value}{ns:List Int},IntsAre vs ns->(∀n∈ns,0<=n/\n<1000)->∀v∈vs,SmallV v
 |_,_,.nil,_,v,hv=>by simp at hv
 |_,_,.cons n t h,k,v,hv=>by
  rcases List.mem_cons.mp hv with rfl|hv
  ·exact⟨n,t,rfl,k n u5⟩
  ·exact small_of h (fun m hm=>k m (u4 _ hm)) v hv
theorem _root_.List.Nodup.length_le_of_subset':∀{l m:List Int},l.Nodup->(∀x∈l,x∈m)->l.length<=m.length
 | [],m,_,_=>uv _
 |x::l,m,nd,h=>by
  rw [Ux] at nd;have hx:=h x u5;have M:=List.Nodup.length_le_of_subset' (l:=l) (m:=m.erase x) nd.2 fun y L=>by
   have B:y≠x:=fun z=>nd.1 (by rw [<-z];exact L)
   exact(List.mem_erase_of_ne B).mpr (h y (u4 _ L))
  rw [List.length_erase_of_mem hx] at M;have:=List.length_pos_of_mem hx;rw [ul];omega
section
variable {X:Cx}
theorem Jh (M:X.calm=true):yN X (.type "set") (fun xs H Q=>∃(t:Addr) (ns:List Int),xs= [.ref t]/\SqT X.K H t (ns.map V.int)/\(∀n∈ns,0<=n/\n<1000)/\ns.length<=100/\∀q,H q=none->Q (.ref q) (upd H q (gA X.w q ns))):=by
 intro pins s σ H xs us Q I r h;obtain⟨t,ns,rfl,O,hn,hl,q⟩:=h;obtain⟨u,rfl,U⟩:=QW r;cases U;obtain⟨its,B,pl,hz⟩:=I.tuple O;have L:=jP B;have Y:its.length=ns.length:=by have:=B.length;simpa using this.symm
 refine uH (n:=1) I.tk (set_exact (items:=its.toArray) (I.ok.hd M) pl (small_of L hn) (by rw [u9];unfold scanBound;omega) fun h' tk ep k1 k2 k3 k4=> ?_)
 intro htk;have I':True:=trivial;refine⟨.ref s.heap.objs.size,_,I.laid (t':=tk) (o:=gA X.w s.heap.objs.size ns) (fun b o w=>k1 b o (uh w) w) (Nat.le_refl _) (gA_ok ⟨_,ep,k2,k3,?_⟩) htk,rfl,q _ (I.hok.fresh (Nat.le_refl _))⟩;have Z:stP (fr X.w)=(#[],.fresh 0 0 (!byT X.w)):=by simp [stP,fr]
 show stP (List.foldl addV (fr X.w) its)=_;rw [Xa (fr X.w) L,Z]
 rfl
theorem call_sortedA (M:X.calm=true):yN X (.builtin "sorted") (fun xs H Q=>∃(a:Addr) (ns:List Int),xs= [.ref a]/\H a=some (gA X.w a ns)/\Q2 (runL true ns)=true/\ns.length<64/\∀(B:List Int) (q:Addr),B.Nodup->(∀x,x∈B↔x∈ns)->B.Pairwise (·<= ·)->H q=none->Q (.ref q) (upd H q (.lst (B.map V.int)))):=by
 intro pins s σ H xs us Q I r h;obtain⟨a,ns,rfl,ha,O,U,q⟩:=h;obtain⟨u,rfl,Y⟩:=QW r;cases Y;have sa:SA X.w s.heap a ns:=(show Qe X.prog X.w H s.heap a (gA X.w a ns) from I.hok a _ ha).1
 obtain⟨k1,k2⟩:=Yj (!byT X.w) ns;have L:(qR (runL (!byT X.w) ns)).length<=ns.length:=(List.Nodup.length_le_of_subset' k1 fun x hx=>(k2 x).mp hx);exact sorted_sg M I (sa.sg O) (by omega) fun B Z pm srt hq=>q B Z (pm.nodup_iff.mpr k1) (fun x=>(pm.mem_iff).trans (k2 x)) srt hq
end
end L2
namespace L2
open PySem PyProof.Rows
def reP (es:SE)(l:Option (SetTable×Array Nat)):Option (SE×SetTable):=match l with
 |some (t,order)=>if(order.filterMap (es[·]?)).size=es.size/\coversAll order es.size=true then some (order.filterMap (es[·]?),t) else none
 |none=>none
def QB (p:SE×SetTable)(n:Nat):Option (SE×SetTable):=match p.2.roomFor n with
 |some wd=>if SetTable.sizeAbove wd<=1000000 then reP p.1 (p.2.relaid (p.1.map (·.1)) wd) else none
 |none=>some p
section
variable {P:Program}{w:World}{A:Around}{E:Value->Shared->Prop}{s:Shared}
theorem relay_exact {a:Addr}{p p':SE×SetTable}{ep wd:Nat}{Q:Unit->Shared->Prop}(M:s.heap.get? a=some (setO p.1 ep p.2))(U:p.2.fits p.1.size=true)(hw:SetTable.sizeAbove wd<=1000000)(hb:p.1.size<=1000)(L:reP p.1 (p.2.relaid (p.1.map (·.1)) wd)=some p')
  (q:∀(h':Heap) (O:Nat),Heap.SameBut a s.heap h'->h'.get? a=some (setO p'.1 O p'.2)->Q Unit.unit {s with heap:=h'}):wpAny (model P w) A (setRelay a wd) Q E s:=by
 unfold setRelay;refine wpAny_bind (vF M rfl U ?_);dsimp only;have Y:=sizeLine_eq;rw [if_neg (by omega)]
 unfold reP at L;split at L
 ·rename_i t' B Z
  split at L
  ·rename_i hz
   have hz:=hz.1;cases L;rw [Z];refine wpAny_bind ?_;show wpAny _ _ (if((B.filterMap (p.1[·]?)).size !=p.1.size)=true then _ else _) _ _ _
   rw [if_neg (by simpa using hz)]
   refine wpAny_pure ?_;exact UB M rfl (q _ _ (uD ..) (put_at M)) (by rw [hz];omega)
  ·cases L
 ·cases L
theorem xw {a:Addr}{p p':SE×SetTable}{ep n:Nat}{Q:Unit->Shared->Prop}(L:s.heap.get? a=some (setO p.1 ep p.2))(O:p.2.fits p.1.size=true)(Y:p.1.size<=1000)(B:QB p n=some p')
  (q:∀(h':Heap) (M:Nat),Heap.SameBut a s.heap h'->h'.get? a=some (setO p'.1 M p'.2)->Q Unit.unit {s with heap:=h'}):wpAny (model P w) A (setRoomFor a n) Q E s:=by
 unfold setRoomFor;refine wpAny_bind (vF L rfl O ?_);dsimp only;unfold QB at B;cases U:p.2.roomFor n with
 |none=>
  rw [U] at B;cases B;exact wpAny_pure (q s.heap ep (Heap.SameBut.refl a s.heap) L)
 |some wd=>
  rw [U] at B;dsimp only at B;split at B
  ·rename_i Z
   exact relay_exact L O Z Y B q
  ·cases B
def QZ (f o:SE×SetTable):Option (SE×SetTable):=if o.1.isEmpty then some f else(QB f o.1.size).bind fun s=>match s.2.road o.2 with
 | .slotForSlot=>some (o.1,{o.2 with finger:=s.2.finger,led:=s.2.led&&o.2.led,moves:=s.2.moves,plain:=s.2.plain&&o.2.plain})
 | .clean=>reP o.1 (SetTable.laid s.2.mask s.2.finger s.2.moves (led:=s.2.led&&o.2.led) (plain:=s.2.plain&&o.2.plain) (o.1.map (·.1)))
 | .oneByOne=>none
theorem Yk {a b:Addr}{f o p':SE×SetTable}{ep aa:Nat}{U:Sem Unit}{Q:Unit->Shared->Prop}(ne:a≠b)(ho:s.heap.get? a=some (setO f.1 ep f.2))(ab:s.heap.get? b=some (setO o.1 aa o.2))(hf:f.2.fits f.1.size=true)(ac:o.2.fits o.1.size=true)(hb:f.1.size<=1000)(af:o.1.size<=1000)(ad:∀p1,QB f o.1.size=some p1->p1.2.fits p1.1.size=true)(B:QZ f o=some p')
  (q:∀(h':Heap) (ae:Nat),Heap.SameBut a s.heap h'->h'.get? a=some (setO p'.1 ae p'.2)->Q Unit.unit {s with heap:=h'}):wpAny (model P w) A (setMerge a b U) Q E s:=by
 unfold setMerge;rw [if_neg (by simpa using ne)]
 refine wpAny_bind (vF ab rfl ac ?_);dsimp only;unfold QZ at B;split
 ·rename_i L
  rw [if_pos L] at B;cases B;exact wpAny_pure (q s.heap ep (Heap.SameBut.refl a s.heap) ho)
 ·rename_i L
  rw [if_neg L] at B;obtain⟨p1,Y,B⟩:=Option.bind_eq_some_iff.mp B;refine wpAny_bind (xw ho hf hb Y fun h1 ag Z e1=> ?_);refine wpAny_bind (vF e1 rfl (ad p1 Y) ?_);dsimp only;have ah:=sizeLine_eq;cases M:p1.2.road o.2 with
  |slotForSlot=>
   rw [M] at B;cases B;exact UB e1 rfl (q _ _ (Z.trans (uD ..)) (put_at e1)) (by omega)
  |clean=>
   rw [M] at B;dsimp only at B⊢;unfold reP at B;split at B
   ·rename_i t' O he
    split at B
    ·rename_i hz
     have hz:=hz.1;cases B;rw [he];refine wpAny_bind ?_;show wpAny _ _ (if((O.filterMap (o.1[·]?)).size !=o.1.size)=true then _ else _) _ _ _
     rw [if_neg (by simpa using hz)]
     refine wpAny_pure ?_;exact UB e1 rfl (q _ _ (Z.trans (uD ..)) (put_at e1)) (by rw [hz];omega)
    ·cases B
   ·cases B
  |oneByOne=>rw [M] at B;cases B
theorem unseen_sge {a b:Addr}{es:SE}{ep:Nat}{t:SetTable}{Q:Array (Int×Value)->Shared->Prop}(h:SGE w s.heap b es ep t)(q:Q (QV w b es ep) s):wpAny (model P w) A (setWalkUnseen b [a] (some a)) Q E s:=by
 have Y:(model P w).w.params.followText "set-order"=byT w:=rfl;have B:wpAny (model P w) A (setWalk b) Q E s:=by
  unfold setWalk setsByText;refine wpAny_bind (Qp h (wpAny_bind (wpAny_bind (vA (wpAny_pure ?_)))));dsimp only;rw [Y];unfold QV at q;cases L:byT w with
  |true=>
   rw [L,if_pos rfl] at q;rw [if_pos rfl];refine wpAny_bind (vA (wpAny_pure ?_));exact q
  |false=>
   rw [L,if_neg (by decide)] at q
   obtain⟨M,O,Z⟩:=h.led L;rw [if_neg (by decide)]
   split
   ·rename_i U
    have h2:(!t.plain&&decide (es.size>1))=true:=U;rw [O] at h2;simp at h2
   ·refine wpAny_bind (m:=if(!t.led&&decide (es.size>1))=true then _ else _) ?_
    rw [if_neg (by rw [M];simp)]
    exact wpAny_pure (wpAny_pure q)
 unfold setWalkUnseen setsByText;refine wpAny_bind (Qp h (wpAny_bind (wpAny_bind (vA (wpAny_pure ?_)))));dsimp only;rw [Y];have U:(byT w||(t.led&&t.plain)||decide (es.size<=1))=true:=by
  cases L:byT w with
  |true=>rfl
  |false=>
   obtain⟨M,O,_⟩:=h.led L;rw [M,O]
   rfl
 rw [if_pos U];exact B
theorem ones_exact {a b:Addr}{p p1:SE×SetTable}{ep B:Nat}{es:SE}{t:SetTable}{U:Sem Unit}{Q:Unit->Shared->Prop}(ne:a≠b)(ho:s.heap.get? a=some (setO p.1 ep p.2))(hf:p.2.fits p.1.size=true)(hb:p.1.size<=1000)(Z:SGE w s.heap b es B t)(ah:es.isEmpty=false)(aq:es.size<=1000)(ai:QB p es.size=some p1)(ac:SOk p1)(aj:p1.1.size<=1000)(ak:p1.2.road t= .oneByOne)
  (aa:∀(s':Shared) (R:Unit->Shared->Prop),SGE w s'.heap b es B t->R Unit.unit s'->wpAny (model P w) A U R E s')
  (q:∀(h':Heap) (O:Nat),Heap.SameBut a s.heap h'->h'.get? a=some (setO (((QV w b es B).toList.map (·.2)).foldl addV p1).1 O (((QV w b es B).toList.map (·.2)).foldl addV p1).2)->SOk (((QV w b es B).toList.map (·.2)).foldl addV p1)->Q Unit.unit {s with heap:=h'}):wpAny (model P w) A (setMerge a b U) Q E s:=by
 unfold setMerge;rw [if_neg (by simpa using ne)]
 refine wpAny_bind (Qp Z ?_);dsimp only;rw [if_neg (by rw [ah];decide)]
 refine wpAny_bind (xw ho hf hb ai fun h1 al ad e1=> ?_);have g1:SGE w h1 b es B t:=Z.to fun o e=>by rw [ad.2 b ne.symm];exact e
 refine wpAny_bind (vF e1 rfl ac.fits ?_);dsimp only;rw [ak];dsimp only;refine wpAny_bind (unseen_sge (s:={s with heap:=h1}) g1 ?_)
 have am:∀x∈(QV w b es B).toList,x∈es.toList:=fun x hx=>(QN w b es B).mem_iff.mp hx;have au:(QV w b es B).toList.length=es.size:=by rw [Array.length_toList,YT]
 generalize QV w b es B=L at*;have ae:=wpAny_forIn_array' (M:=model P w) (A:=A) (E:=E) (s:={s with heap:=h1}) (α:=Int×Value) (β:=PUnit)
  (fun x _=>(do
   let _<-holding [x.2] (setAddHashed a x.2 x.1)
   U
   if(<-setState b).2.1 !=B then unsupported "set.changed-during-merge"
   pure (ForInStep.yield PUnit.unit):Sem (ForInStep PUnit)))
  (fun rest _ s'=>∃(k:Nat) (O:Nat),k<=es.size/\rest=L.toList.drop k/\Heap.SameBut a s.heap s'.heap/\s'={s with heap:=s'.heap}/\s'.heap.get? a=some (setO (((L.toList.take k).map (·.2)).foldl addV p1).1 O (((L.toList.take k).map (·.2)).foldl addV p1).2)/\SOk (((L.toList.take k).map (·.2)).foldl addV p1)/\(((L.toList.take k).map (·.2)).foldl addV p1).1.size<=1000+k) Q
  (fun x rest _ s' h=> ?_) (fun _ s' h=> ?_) L PUnit.unit ⟨0,al,uv _,rfl,ad,rfl,e1,ac,by simpa using aj⟩
 ·exact wpAny_bind (vc ae (fun _ _ z=>wpAny_pure z) fun _ _ z=>z)
 ·obtain⟨k,O,hk,er,sb,es',e',Y,hsz⟩:=h;have av:k<L.toList.length:=by
   rcases uZ k L.toList.length with h|h
   ·exact h
   ·rw [List.drop_of_length_le h] at er;cases er
  have hx:L.toList[k]? =some x:=by
   have:=congrArg (·[0]?) er;simp only [List.getElem?_cons_zero,List.getElem?_drop,Nat.add_zero] at this;exact this.symm
  have hr:rest=L.toList.drop (k+1):=by
   have:=congrArg List.tail er;rw [List.tail_drop] at this;exact this
  obtain⟨tk,ex,x0,x1⟩:=Z.ok.isI x (am x (ud hx));have et:((L.toList.take (k+1)).map (·.2)).foldl addV p1=addV (((L.toList.take k).map (·.2)).foldl addV p1) (.int x.1 tk):=by
   rw [uE,hx,uw,List.foldl_append];show addV _ x.2=_;rw [ex]
  rw [ex];refine wpAny_bind (uA ?_);refine add_any e' Y x0 x1 (by unfold scanBound;omega) fun h' af bb ag e2=> ?_
  have g2:SGE w h' b es B t:=Z.to fun o e=>by rw [ag.2 b ne.symm,sb.2 b ne.symm];exact e
  refine wpAny_bind (aa _ _ g2 ?_);refine wpAny_bind (Qp (s:={s' with heap:=h'}) g2 ?_)
  rw [if_neg (by simp)]
  rw [<-et] at e2;have ao:SOk (((L.toList.take (k+1)).map (·.2)).foldl addV p1):=by rw [et];exact Y.add ⟨x.1,tk,rfl,x0,x1⟩
  have ap:(((L.toList.take (k+1)).map (·.2)).foldl addV p1).1.size<=1000+(k+1):=by rw [et];exact v8 add_size (by omega)
  refine wpAny_pure ⟨k+1,af,by omega,hr,sb.trans ag,by rw [es'],e2,ao,ap⟩
 ·obtain⟨k,O,hk,er,sb,es',e',Y,_⟩:=h;have ab:L.toList.length<=k:=by
   have:=congrArg List.length er;rw [Ul,List.length_nil] at this;omega
  rw [uL ab] at e' Y;rw [es'];exact q _ O sb e' Y
theorem reP_perm {es:SE}{l:Option (SetTable×Array Nat)}{p:SE×SetTable}(h:reP es l=some p):List.Perm p.1.toList es.toList:=by
 unfold reP at h;split at h
 ·rename_i t B
  split at h
  ·rename_i L
   cases h;have M:List.Perm B.toList (List.range es.size):=List.isPerm_iff.mp (by simpa [coversAll] using L.2)
   show List.Perm (B.filterMap (es[·]?)).toList es.toList;rw [Array.toList_filterMap];exact(M.filterMap _).trans (by rw [filterMap_getElem?_range])
  ·cases h
 ·cases h
theorem xZ {p p':SE×SetTable}{n:Nat}(h:QB p n=some p'):List.Perm p'.1.toList p.1.toList:=by
 unfold QB at h;split at h
 ·split at h
  ·exact reP_perm h
  ·cases h
 ·cases h;exact .rfl
theorem jD {f o p:SE×SetTable}(B:f.1= #[])(h:QZ f o=some p):List.Perm p.1.toList o.1.toList:=by
 unfold QZ at h;split at h
 ·rename_i L
  cases h;have:o.1= #[]:=by simpa using L
  rw [B,this]
 ·obtain⟨p1,_,h⟩:=Option.bind_eq_some_iff.mp h;split at h
  ·cases h;exact .rfl
  ·exact reP_perm h
  ·cases h
def orP (f pa pb:SE×SetTable)(vs:List Value):Option (SE×SetTable):=
 (QZ f pa).bind fun pc=>if pb.1.isEmpty then some pc else(QB pc pb.1.size).bind fun p1=>match p1.2.road pb.2 with
 | .oneByOne=>some (vs.foldl addV p1)
 |_=>QZ pc pb
theorem or_exact {a b:Addr}{Z O pr:SE×SetTable}{af epb:Nat}{Q:Value->Shared->Prop}(ne:a≠b)(ha:s.heap.get? a=some (setO Z.1 af Z.2))(ag:SOk Z)(hb:SGE w s.heap b O.1 epb O.2)(za:Z.1.size<=500)(zb:O.1.size<=500)
  (L:orP (fr w) Z O ((QV w b O.1 epb).toList.map (·.2))=some pr)
  (al:∀U,QZ (fr w) Z=some U->U.2.fits U.1.size=true/\(∀p1,QB (fr w) Z.1.size=some p1->p1.2.fits p1.1.size=true)/\∀p1,QB U O.1.size=some p1->p1.2.fits p1.1.size=true)
  (q:∀(h':Heap) (ep:Nat),(∀c o,s.heap.get? c=some o->h'.get? c=some o)->h'.get? s.heap.objs.size=some (setO pr.1 ep pr.2)->Q (.ref s.heap.objs.size) {s with heap:=h'}):wpAny (model P w) A (call (.builtin "set.__or__") [.ref a,.ref b]) Q E s:=by
 have t1:s.TypeIs (.ref a) "set":=⟨_,ha,rfl⟩;have t2:s.TypeIs (.ref b) "set":=hb.ty;have o2:=hb.here;refine uz F.slot_set_or t1 entry_set_or ?_ (F.args_set_or_2 _ _);have e1:=sub_ss;unfold setO at ha o2
 wp_walk using UL ha,UL o2
 refine vA (wpAny_pure ?_);dsimp only;simp only [newObj,if_true];refine wpAny_bind (wpAny_alloc (wpAny_pure ?_));unfold orP at L;obtain⟨U,ad,L⟩:=Option.bind_eq_some_iff.mp L;obtain⟨fc,f1,f2⟩:=al U ad;have zf:(fr w).2.fits (fr w).1.size=true:=(J6 (!byT w)).fits;have hN:(s.heap.push (Qj (!byT w))).get? s.heap.objs.size=some (setO (fr w).1 0 (fr w).2):=uf _ rfl;have na:s.heap.objs.size≠a:=fun z=>uy (uh ha) z.symm;have nb:s.heap.objs.size≠b:=fun z=>uy (uh o2) z.symm;have hA:(s.heap.push (Qj (!byT w))).get? a=some (setO Z.1 af Z.2):=u7 _ ha;have ah:=jD rfl ad;have am:SOk U:=⟨ag.isI.perm ah,fc⟩;have ap:U.1.size=Z.1.size:=by have:=ah.length_eq;simpa using this
 refine wpAny_bind (wpAny_pure (wpAny_bind (Yk (s:={s with heap:=s.heap.push (Qj (!byT w))}) (f:=fr w) (o:=Z) (p':=U) na hN hA zf ag.fits (uv _) (by omega) f1 ad fun h1 aq ao ec=>wpAny_pure ?_)))
 have ac:∀c o,s.heap.get? c=some o->h1.get? c=some o:=fun c o e=>by
  rw [ao.2 c (uy (uh e))];exact u7 _ e
 have aa:SGE w h1 b O.1 epb O.2:=hb.to fun o e=>ac b o e;show wpAny _ _ (if(Value.ref b !=Value.ref a)=true then _ else _) _ _ _
 rw [if_pos (by simpa using ne.symm)]
 refine wpAny_bind (wpAny_pure (wpAny_bind (uA ?_)));show wpAny _ _ (Builtin.Frozenset.updateFrom _ s.heap.objs.size (Value.ref b)) _ _ {s with heap:=h1}
 have ai:=aa.here;unfold setO at ai;unfold Builtin.Frozenset.updateFrom Builtin.Frozenset.merge
 wp_walk using UL ai
 have fb:=hb.ok.fits;simp only [SetTable.fits,Bool.and_eq_true,UY,uF] at fb;rw [if_neg (by simp [fb.1];omega)]
 refine wpAny_pure (wpAny_pure ?_);have Y:∀(h':Heap) (M:Nat),Heap.SameBut s.heap.objs.size h1 h'->h'.get? s.heap.objs.size=some (setO pr.1 M pr.2)->Q (.ref s.heap.objs.size) {s with heap:=h'}:=fun h' M sb e=>q h' M (fun c o z=>by rw [sb.2 c (uy (uh z))];exact ac c o z) e
 have aj:∀(id:String) (s':Shared) (R:Unit->Shared->Prop),SGE w s'.heap b O.1 epb O.2->R Unit.unit s'->∀(B:Around) (E':Value->Shared->Prop),wpAny (model P w) B (Builtin.Frozenset.unchanged id b epb) R E' s':=fun id s' R g r B E'=>by
  unfold Builtin.Frozenset.unchanged;refine wpAny_bind (wpAny_setEpoch_of g.here rfl g.ok.fits ?_);rw [if_neg (by simp)]
  exact wpAny_pure r
 by_cases he:O.1.isEmpty=true
 ·rw [if_pos he] at L;have L:=uo L;rw [<-L] at Y;refine Yk (s:={s with heap:=h1}) (f:=U) (o:=O) (p':=U) nb ec aa.here fc hb.ok.fits (by omega) (by omega) f2 (by unfold QZ;rw [if_pos he]) fun h' M sb e=> ?_
  exact wpAny_pure (wpAny_pure ⟨_,rfl,Y h' M sb e⟩)
 ·rw [if_neg he] at L;obtain⟨p1,ae,L⟩:=Option.bind_eq_some_iff.mp L;have ak:=xZ ae;have au:p1.1.size=U.1.size:=by have:=ak.length_eq;simpa using this
  cases ab:p1.2.road O.2 with
  |oneByOne=>
   rw [ab] at L;have L:=uo L;rw [<-L] at Y;refine ones_exact (s:={s with heap:=h1}) (p:=U) (p1:=p1) nb ec fc (by omega) aa (by simpa using he) (by omega) ae ⟨am.isI.perm ak,f2 p1 ae⟩ (by omega) ab (fun s' R g r=>aj _ s' R g r _ _) fun h' M sb e _=> ?_
   exact wpAny_pure (wpAny_pure ⟨_,rfl,Y h' M sb e⟩)
  |slotForSlot=>
   rw [ab] at L;refine Yk (s:={s with heap:=h1}) (f:=U) (o:=O) (p':=pr) nb ec aa.here fc hb.ok.fits (by omega) (by omega) f2 L fun h' M sb e=> ?_
   exact wpAny_pure (wpAny_pure ⟨_,rfl,Y h' M sb e⟩)
  |clean=>
   rw [ab] at L;refine Yk (s:={s with heap:=h1}) (f:=U) (o:=O) (p':=pr) nb ec aa.here fc hb.ok.fits (by omega) (by omega) f2 L fun h' M sb e=> ?_
   exact wpAny_pure (wpAny_pure ⟨_,rfl,Y h' M sb e⟩)
end
end L2
namespace L2
open PySem PySem.Spec PyProof.Rows
theorem fst_map (es:SE):(es.map stE).map (·.1)=es.map (·.1):=by rw [Array.map_map];rfl
theorem reP_map (es:SE)(l:Option (SetTable×Array Nat)):reP (es.map stE) l=(reP es l).map stP:=by
 unfold reP;cases l with
 |none=>rfl
 |some z=>
  obtain⟨t,B⟩:=z;dsimp only;rw [fm_map,Array.size_map,Array.size_map];split<;>rfl
theorem Yd (p:SE×SetTable)(n:Nat):QB (stP p) n=(QB p n).map stP:=by
 unfold QB;show(match p.2.roomFor n with|some wd=>_|none=>_)=_
 cases p.2.roomFor n with
 |none=>rfl
 |some wd=>
  dsimp only;split
  ·show reP (p.1.map stE) (p.2.relaid ((p.1.map stE).map (·.1)) wd)=_;rw [fst_map,reP_map]
  ·rfl
theorem emp_map (es:SE):(es.map stE).isEmpty=es.isEmpty:=by simp [Array.isEmpty]
theorem YV (f o:SE×SetTable):QZ (stP f) (stP o)=(QZ f o).map stP:=by
 unfold QZ;show(if(o.1.map stE).isEmpty=true then _ else _)=_
 rw [emp_map];split
 ·rfl
 ·show((QB (stP f) (o.1.map stE).size).bind _)=_;rw [Array.size_map,Yd];cases QB f o.1.size with
  |none=>rfl
  |some s=>
   show(match s.2.road o.2 with| .slotForSlot=>_| .clean=>_| .oneByOne=>_)=Option.map stP (match s.2.road o.2 with| .slotForSlot=>_| .clean=>_| .oneByOne=>_)
   cases s.2.road o.2 with
   |slotForSlot=>rfl
   |clean=>
    show reP (o.1.map stE) (SetTable.laid s.2.mask s.2.finger s.2.moves _ _ ((o.1.map stE).map (·.1)))=_;rw [fst_map,reP_map]
    rfl
   |oneByOne=>rfl
def fitP (p:SE×SetTable):Bool:=p.2.fits p.1.size
def orB (led:Bool)(l m:List Int):Bool:=match QZ (#[],.fresh 0 0 led) (runL led l),QB (#[],.fresh 0 0 led) (runL led l).1.size with
 |some pc,some p0=>fitP pc&&fitP p0&&(if(runL led m).1.isEmpty then(!led||Q2 pc)&&(match QB pc (runL led m).1.size with|some p1=>fitP p1|none=>true) else match QB pc (runL led m).1.size with
  |some p1=>fitP p1&&(match p1.2.road (runL led m).2 with
   | .oneByOne=> !led||Q2 (((runL led m).1.toList.map (·.2)).foldl addV p1)
   |_=>match QZ pc (runL led m) with|some pr=>fitP pr&&(!led||Q2 pr)|none=>false)
  |none=>false)
 |_,_=>false
theorem fit_st (p:SE×SetTable):fitP (stP p)=fitP p:=by unfold fitP stP;rw [Array.size_map]
theorem good_st (p:SE×SetTable):Q2 (stP p)=Q2 p:=by unfold Q2 stP;rw [Array.size_map]
theorem st_size (p:SE×SetTable):(stP p).1.size=p.1.size:=Array.size_map ..
theorem fold_ok:∀{vs:List Value}{p:SE×SetTable},SOk p->(∀v∈vs,SmallV v)->SOk (vs.foldl addV p)
 | [],_,h,_=>h
 |v::vs,p,h,k=>fold_ok (vs:=vs) (h.add (k v u5)) fun x hx=>k x (u4 _ hx)
theorem jf:∀(es:List (Int×Value)) (p:SE×SetTable),(∀e∈es,∃tk,e.2= .int e.1 tk)->(qR p).Nodup->(qR ((es.map (·.2)).foldl addV p)).Nodup/\∀x,x∈qR ((es.map (·.2)).foldl addV p)↔x∈qR p∨x∈es.map (·.1)
 | [],p,_,nd=>⟨nd,fun x=>by simp⟩
 |e::es,p,hi,nd=>by
  obtain⟨tk,B⟩:=hi e u5;obtain⟨h1,h2⟩:=keys_add (k:=e.1) (tk:=tk) nd;obtain⟨L,h4⟩:=jf es (addV p (.int e.1 tk)) (fun x hx=>hi x (u4 _ hx)) h1;rw [um,List.foldl_cons,B];refine⟨L,fun x=> ?_⟩;rw [h4,h2,um,uP,or_assoc]
theorem ints_es {es:SE}(h:Xj es):IntsAre (es.toList.map (·.2)) (es.toList.map (·.1)):=by
 have key:∀l:List (Int×Value),(∀e∈l,∃tk,e.2= .int e.1 tk)->IntsAre (l.map (·.2)) (l.map (·.1)):=by
  intro l
  induction l with
  |nil=>intro _;exact .nil
  |cons e l L=>
   intro k;obtain⟨tk,B⟩:=k e u5;rw [um,um,B];exact .cons _ _ (L fun x hx=>k x (u4 _ hx))
 exact key _ fun e M=>let⟨tk,B,_⟩:=h e M;⟨tk,B⟩
theorem or_pure {w:World}{b:Addr}{l m:List Int}{pa B:SE×SetTable}{epb:Nat}(aw:SOk pa)(aa:SOk B)(ea:stP pa=runL (!byT w) l)(eb:stP B=runL (!byT w) m)(h:orB (!byT w) l m=true):
  ∃pr,orP (fr w) pa B ((QV w b B.1 epb).toList.map (·.2))=some pr/\SOk pr/\(byT w=false->Q2 pr=true)/\(qR pr).Nodup/\(∀x,x∈qR pr↔x∈l∨x∈m)/\
   ∀L,QZ (fr w) pa=some L->L.2.fits L.1.size=true/\(∀p1,QB (fr w) pa.1.size=some p1->p1.2.fits p1.1.size=true)/\∀p1,QB L B.1.size=some p1->p1.2.fits p1.1.size=true:=by
 have e0:((#[],.fresh 0 0 (!byT w)):SE×SetTable)=stP (fr w):=by simp [stP,fr]
 unfold orB at h;rw [e0,<-ea,<-eb,YV,st_size,Yd,st_size] at h;obtain⟨ka,am⟩:=Yj (!byT w) l;obtain⟨kb,ae⟩:=Yj (!byT w) m;rw [<-ea,XI] at ka am;rw [<-eb,XI] at kb ae;cases Z:QZ (fr w) pa with
 |none=>rw [Z] at h;cases h
 |some L=>
 cases ao:QB (fr w) pa.1.size with
 |none=>rw [Z,ao] at h;cases h
 |some p0=>
 rw [Z,ao] at h;simp only [Option.map] at h;rw [Bool.and_eq_true,Bool.and_eq_true,fit_st,fit_st] at h;obtain⟨⟨fc,f0⟩,h⟩:=h;have ap:=jD (f:=fr w) rfl Z;have aq:SOk L:=⟨aw.isI.perm ap,fc⟩;have kc:List.Perm (qR L) (qR pa):=ap.map _;have nb:(byT w=false->(!byT w)=true):=fun z=>by rw [z];rfl
 have gd:∀p:SE×SetTable,(!(!byT w)||Q2 p)=true->byT w=false->Q2 p=true:=fun p hp z=>by rw [z] at hp;simpa using hp
 have af:(qR L).Nodup:=kc.nodup_iff.mpr ka;have ag:∀x,x∈qR L↔x∈l:=fun x=>(kc.mem_iff).trans (am x);have ab:∀(hr:∀p1,QB L B.1.size=some p1->p1.2.fits p1.1.size=true) ac,some L=some ac->ac.2.fits ac.1.size=true/\(∀p1,some p0=some p1->p1.2.fits p1.1.size=true)/\∀p1,QB ac B.1.size=some p1->p1.2.fits p1.1.size=true:=fun hr ac z=>by
  cases z;exact⟨fc,fun p1 z=>by cases z;exact f0,hr⟩
 by_cases he:B.1.isEmpty=true
 ·rw [show(stP B).1.isEmpty=B.1.isEmpty from emp_map _,if_pos he,good_st,Yd,Bool.and_eq_true] at h
  have ez:B.1= #[]:=by simpa using he
  refine⟨L,by unfold orP;rw [Z];show(if B.1.isEmpty=true then _ else _)=_;rw [if_pos he],aq,gd L h.1,af,fun x=> ?_,?_⟩
  ·rw [ag x];have:x∉m:=fun hx=>by
    have:=(ae x).mpr hx;unfold qR at this;rw [ez] at this;simp at this
   exact⟨.inl,fun z=>z.elim id fun z=>absurd z this⟩
  ·refine ab fun p1 Y=> ?_;have h2:=h.2;rw [Y] at h2;simp only [Option.map] at h2;rw [fit_st] at h2;exact h2
 ·rw [show(stP B).1.isEmpty=B.1.isEmpty from emp_map _,if_neg he,Yd] at h
  cases Y:QB L B.1.size with
  |none=>rw [Y] at h;cases h
  |some p1=>
  rw [Y] at h;simp only [Option.map] at h;rw [Bool.and_eq_true,fit_st] at h;obtain⟨f1,h⟩:=h;have ah:=xZ Y;have ax:SOk p1:=⟨aq.isI.perm ah,f1⟩;have k1:List.Perm (qR p1) (qR L):=ah.map _;have ai:∀vs,orP (fr w) pa B vs=(match p1.2.road B.2 with| .oneByOne=>some (vs.foldl addV p1)|_=>QZ L B):=fun vs=>by
   unfold orP;rw [Z];show(if B.1.isEmpty=true then _ else _)=_
   rw [if_neg he,Y]
   rfl
  have aj:=ab (fun aA z=>by rw [Y] at z;cases z;exact f1)
  have M:p1.2.road B.2≠ .oneByOne->QZ (stP L) (stP B)=(QZ L B).map stP->(match QZ (stP L) (stP B) with|some pr=>fitP pr&&(!(!byT w)||Q2 pr)|none=>false)=true->∃pr,QZ L B=some pr/\SOk pr/\(byT w=false->Q2 pr=true)/\(qR pr).Nodup/\(∀x,x∈qR pr↔x∈l∨x∈m):=fun ay em hh=>by
   rw [em] at hh;cases ak:QZ L B with
   |none=>rw [ak] at hh;cases hh
   |some pr=>
   rw [ak] at hh;simp only [Option.map] at hh;rw [Bool.and_eq_true,fit_st,good_st] at hh;have al:p1.2.fill=0:=uY fun z=>ay (by unfold SetTable.road;rw [if_pos (by simpa using z)])
   have hsz:L.1.size=0:=by
    have h3:=ah.length_eq;have h4:p1.2.fits p1.1.size=true:=f1;simp only [SetTable.fits,Bool.and_eq_true,UY] at h4;unfold SetTable.fill at al;simp only [Array.length_toList] at h3;omega
   have au:L.1= #[]:=Array.eq_empty_of_size_eq_zero hsz;have av:=jD au ak;have kr:List.Perm (qR pr) (qR B):=av.map _;refine⟨pr,rfl,⟨aa.isI.perm av,hh.1⟩,gd pr hh.2,kr.nodup_iff.mpr kb,fun x=> ?_⟩;rw [kr.mem_iff,ae x];have:x∉l:=fun hx=>by
    have:=(ag x).mpr hx;unfold qR at this;rw [au] at this;simp at this
   exact⟨.inr,fun z=>z.elim (fun z=>absurd z this) id⟩
  cases O:p1.2.road B.2 with
  |oneByOne=>
   have U:(stP p1).2.road (stP B).2= .oneByOne:=O;rw [U] at h;refine⟨_,by rw [ai,O],fold_ok ax fun v hv=> ?_,fun hb=> ?_,?_,fun x=> ?_,aj⟩
   ·obtain⟨e,ad,rfl⟩:=List.mem_map.mp hv;obtain⟨tk,e1,a0,a1⟩:=aa.isI e ((QN w b B.1 epb).mem_iff.mp ad);exact⟨e.1,tk,e1,a0,a1⟩
   ·have h2:=gd _ h hb;have az:QV w b B.1 epb=B.1:=by unfold QV;rw [hb];rfl
    rw [az,<-good_st,Xa p1 (ints_es aa.isI)];have ev:(stP B).1.toList.map (·.2)=(B.1.toList.map (·.1)).map fun k=>Value.int k 0:=by
     unfold stP;rw [U1,uB,uB]
     rfl
    rw [ev] at h2;exact h2
   ·exact(jf _ p1 (fun e ad=>let⟨tk,e1,_⟩:=aa.isI e ((QN w b B.1 epb).mem_iff.mp ad);⟨tk,e1⟩) (k1.nodup_iff.mpr af)).1
   ·rw [(jf _ p1 (fun e ad=>let⟨tk,e1,_⟩:=aa.isI e ((QN w b B.1 epb).mem_iff.mp ad);⟨tk,e1⟩) (k1.nodup_iff.mpr af)).2 x,k1.mem_iff,ag x,((QN w b B.1 epb).map (·.1)).mem_iff];exact or_congr Iff.rfl (ae x)
  |slotForSlot=>
   have U:(stP p1).2.road (stP B).2= .slotForSlot:=O;rw [U] at h;obtain⟨pr,a1,a2,a3,a4,a5⟩:=M (by rw [O];decide) (YV L B) h
   exact⟨pr,by rw [ai,O];exact a1,a2,a3,a4,a5,aj⟩
  |clean=>
   have U:(stP p1).2.road (stP B).2= .clean:=O;rw [U] at h;obtain⟨pr,a1,a2,a3,a4,a5⟩:=M (by rw [O];decide) (YV L B) h
   exact⟨pr,by rw [ai,O];exact a1,a2,a3,a4,a5,aj⟩
theorem sa_size {w:World}{p:SE×SetTable}{led:Bool}{l:List Int}(e:stP p=runL led l):p.1.size<=l.length:=by
 obtain⟨h1,h2⟩:=Yj led l;have:=List.Nodup.length_le_of_subset' h1 fun x hx=>(h2 x).mp hx;rw [<-e,XI] at this;unfold qR at this
 simpa using this
section
variable {X:Cx}
theorem op_orA:OpR X (binaryOp .BitOr) (fun x y H Q=>∃(a b:Addr) (l m:List Int),x= .ref a/\y= .ref b/\a≠b/\H a=some (gA X.w a l)/\H b=some (gA X.w b m)/\l.length<=100/\m.length<=100/\Q2 (runL true m)=true/\orB true l m=true/\orB false l m=true/\∀(q:Addr) (Z:List Int),Z.Nodup->(∀x,x∈Z↔x∈l∨x∈m)->H q=none->Q (.ref q) (upd H q (gS X.w q Z))):=by
 intro pins s σ H x y v u Q I rx ry h;obtain⟨a,b,l,m,rfl,rfl,ne,ha,B,zl,zm,L,o1,o2,q⟩:=h;cases rx;cases ry;obtain⟨pa,ac,ea,M,ra⟩:=(show Qe X.prog X.w H s.heap a (gA X.w a l) from I.hok a _ ha).1
 obtain⟨Y,epb,eb,O,U⟩:=(show Qe X.prog X.w H s.heap b (gA X.w b m) from I.hok b _ B).1
 have t1:s.TypeIs (.ref a) "set":=⟨_,ea,rfl⟩;have t2:s.TypeIs (.ref b) "set":=⟨_,eb,rfl⟩;have aa:SGE X.w s.heap b Y.1 epb Y.2:=⟨eb,O,fun B=>by
  rw [B,Bool.not_false] at U;have e2:Y.2=(runL true m).2:=by rw [<-U];rfl
  have e1:Y.1.size=(runL true m).1.size:=by rw [<-U];exact(Array.size_map ..).symm
  unfold Q2 at L;rw [Bool.and_eq_true,Bool.and_eq_true] at L;rw [e2,e1];exact⟨L.1.1,L.1.2,wlk_of L.2⟩⟩
 have ho:orB (!byT X.w) l m=true:=by
  cases byT X.w with
  |true=>exact o2
  |false=>exact o1
 obtain⟨pr,h1,h2,h3,h4,h5,h6⟩:=or_pure (b:=b) (epb:=epb) M O ra U ho;have za:=sa_size (w:=X.w) ra;have zb:=sa_size (w:=X.w) U;refine wpAny_binaryOp_same t1 t2 F.fills_set_or F.slot_set_or (or_exact ne ea M aa (by omega) (by omega) h1 h6 fun h' ep ab e=>⟨fun z=>(nomatch z),.ref s.heap.objs.size,_,I.laid (t':=s.toks) (o:=gS X.w s.heap.objs.size (qR pr)) (fun c o z=>ab c o z) (Nat.le_refl _) (gS_ok ⟨pr.1,ep,pr.2,⟨e,h2,fun B=> ?_⟩,.rfl⟩),rfl,q _ _ h4 h5 (I.hok.fresh (Nat.le_refl _))⟩)
 have g:=h3 B;unfold Q2 at g;rw [Bool.and_eq_true,Bool.and_eq_true] at g;exact⟨g.1.1,g.1.2,wlk_of g.2⟩
end
end L2
namespace L2
open PySem PyProof.Rows
def tDat (d:D):TE:=fun _ H Q=>∀v H',Same H H'->Is H' d v->Q v H'
def tDats (ds:List D):TA:=fun _ H Q=>∀vs H',Same H H'->IsL H' ds vs->Q vs H'
def tDlst (ds:List D):TE:=fun _ H Q=>∀a vs H',Same H H'->H a=none->H' a=some (.lst vs)->IsL H' ds vs->Q (.ref a) H'
section
variable {X:Cx}
theorem xF {e:Expr}{t t':TE}(h:PE X e t)(k:∀σ H Q,t' σ H Q->t σ H Q):PE X e t':=fun _ _ _ _ _ I q=>h _ _ _ _ _ I (k _ _ _ q)
theorem pe_dInt {i j pos}:PE X (.Constant (.int i) j pos) (tDat (.int i)):=xF qg fun σ H Q q=>q _ H (Same.refl H) rfl
theorem pe_dNon {j pos}:PE X (.Constant .none j pos) (tDat .non):=xF Qh fun σ H Q q=>q _ H (Same.refl H) rfl
theorem qP {x j pos}(h:x.length<=sizeLine):PE X (.Constant (.str x) j pos) (tDat (.str x)):=xF qF fun σ H Q q=>q _ H (Same.refl H) ⟨rfl,h⟩
theorem pe_dRep {x:Str}{k:Int}{j pos j' pos' pos2}(h:MulOk x k)(B:(Txt.mul x k).length<=sizeLine):PE X (.BinOp (.Constant (.str x) j pos) .Mult (.Constant (.int k) j' pos') pos2) (tDat (.str (Txt.mul x k))):=xF (qT op_repS qF qg) fun σ H Q q=>⟨x,k,rfl,rfl,h,q _ H (Same.refl H) ⟨rfl,B⟩⟩
theorem qY:PA X [] (tDats []):=fun _ _ _ _ _ _ I q=>qc _ _ _ _ _ _ I (q _ _ (Same.refl _) rfl)
theorem qp {e:Expr}{es:List Expr}{d:D}{ds:List D}(ha:PE X e (tDat d))(B:PA X es (tDats ds))(L:starEach (e::es) X.env=(false,eval e X.env)::starEach es X.env:=by rfl):PA X (e::es) (tDats (d::ds)):=fun _ _ _ _ _ _ I q=>qa ha B L _ _ _ _ _ _ I fun v H1 s1 M vs H2 s2 O=>q _ _ (s1.trans s2) ⟨_,_,rfl,M.mono s2.tk,O⟩
theorem Qs {es:List Expr}{ds:List D}{x1 pos}(h:PA X es (tDats ds))(M:ds.length<=sizeLine:=by decide):PE X (.Tuple es x1 pos) (tDat (.tup ds)):=xF (qy h) fun σ H Q q vs H1 s1 B=>⟨by rw [B.length];exact M,fun p L=>q _ _ (s1.trans (qb L _)) (Is.new B L)⟩
theorem JI {es:List Expr}{ds:List D}{pos}(h:PA X es (tDats ds))(M:ds.length<=sizeLine:=by decide):PE X (.List es pos) (tDlst ds):=xF (Qq h) fun σ H Q q vs H1 s1 L=>⟨by rw [L.length];exact M,fun p B=>q _ _ _ (s1.trans (qb B _)) (by cases e:H p with|none=>rfl|some o=>rw [s1 _ _ e] at B;cases B) qe (L.mono (qb B _).tk)⟩
end
end L2
namespace L2
open PySem
def subsI:List Int->List (List Int)
 | []=> [[]]
 |x::r=>subsI r++(subsI r).map (x:: ·)
theorem Yc:∀{l m:List Int},l.Sublist m->l∈subsI m
 |_,_,.slnil=>by simp [subsI]
 |_,_,.cons a h=>vd _ (Yc h)
 |_,_,.cons_cons a h=>uu _ (List.mem_map.mpr ⟨_,Yc h,rfl⟩)
def GV:List Int:= [3]
abbrev SC:=List Int×Nat×List Nat×Nat
def CLS:List SC:= [([],7,[],0),([3],7,[3],0)]
def CNX:List (List Nat):= [[1],[1]]
def tabC (c:SC):SetTable:=⟨c.2.1,c.2.2.1.toArray,#[],0,true,c.2.2.2,true⟩
def mkC (c:SC):SE×SetTable:=((c.1.map fun k=>(k,Value.int k 0)).toArray,tabC c)
def isC (p:SE×SetTable)(c:SC):Bool:=decide (p.2=tabC c)&&decide (qR p=c.1)
theorem isC_eq {p:SE×SetTable}{c:SC}(s:stP p=p)(h:isC p c=true):p=mkC c:=by
 unfold isC at h;rw [Bool.and_eq_true,uF,uF] at h;refine Prod.ext ?_ h.1;rw [<-s];show p.1.map stE=(c.1.map fun k=>(k,Value.int k 0)).toArray;rw [<-h.2];apply Array.ext';rw [U1];unfold qR;rw [uB]
 rfl
theorem mkC_st (c:SC):stP (mkC c)=mkC c:=by
 refine Prod.ext ?_ rfl;show(c.1.map fun k=>(k,Value.int k 0)).toArray.map stE=(c.1.map fun k=>(k,Value.int k 0)).toArray;apply Array.ext';rw [U1];simp only [List.toList_toArray,uB]
 rfl
theorem add_st {p:SE×SetTable}(k:Int)(s:stP p=p):stP (addV p (.int k 0))=addV p (.int k 0):=by
 have:=addV_map p k 0;rw [s] at this;exact this.symm
def InC (p:SE×SetTable):Prop:=∃c∈CLS,p=mkC c
theorem cls_chk:((CLS.zip CNX).all fun z=>(GV.zip z.2).all fun y=>match CLS[y.2]? with|some d=>isC (addV (mkC z.1) (.int y.1 0)) d|none=>false)=true:=by decide+kernel
theorem cls_good:(CLS.all fun c=>Q2 (mkC c))=true:=by decide+kernel
theorem cnx_len:CNX.length=CLS.length/\(CNX.all fun l=>l.length==1)=true:=by decide+kernel
theorem zip_mem {α β:Type}:∀{l:List α}{m:List β}{x:α},x∈l->l.length<=m.length->∃y,(x,y)∈l.zip m/\y∈m
 |x::l,[],_,_,h=>by simp at h
 |x::l,y::m,z,hz,h=>by
  rcases List.mem_cons.mp hz with rfl|hz
  ·exact⟨y,u5,u5⟩
  ·obtain⟨w,L,B⟩:=zip_mem (l:=l) (m:=m) hz (by simpa using h)
   exact⟨w,u4 _ L,u4 _ B⟩
theorem InC.add {p:SE×SetTable}{x:Int}(h:InC p)(hx:x∈GV):InC (addV p (.int x 0)):=by
 obtain⟨c,L,rfl⟩:=h;obtain⟨nx,h1,B⟩:=zip_mem (m:=CNX) L (by rw [cnx_len.1];exact Nat.le_refl _)
 have M:=List.all_eq_true.mp cnx_len.2 nx B;obtain⟨j,h2,_⟩:=zip_mem (m:=nx) hx (by have:=uk M;show 1<=nx.length;omega)
 have:=List.all_eq_true.mp (List.all_eq_true.mp cls_chk _ h1) _ h2;dsimp only at this;cases e:CLS[j]? with
 |none=>rw [e] at this;cases this
 |some d=>
  rw [e] at this;exact⟨d,ud e,isC_eq (add_st x (mkC_st c)) this⟩
theorem InC.fold:∀{ns:List Int}{p:SE×SetTable},InC p->(∀x∈ns,x∈GV)->InC ((ns.map fun k=>Value.int k 0).foldl addV p)
 | [],_,h,_=>h
 |n::ns,p,h,k=>InC.fold (ns:=ns) (h.add (k n u5)) fun x hx=>k x (u4 _ hx)
theorem InC.good {p:SE×SetTable}(h:InC p):Q2 p=true:=by
 obtain⟨c,B,rfl⟩:=h;exact List.all_eq_true.mp cls_good c B
theorem cls_fr:isC (#[],.fresh 0 0 true) ([],7,[],0)=true:=by decide+kernel
theorem fr_in:InC (#[],.fresh 0 0 true):=⟨([],7,[],0),by decide+kernel,isC_eq (by simp [stP]) cls_fr⟩
theorem gv_run {ns:List Int}(h:∀x∈ns,x∈GV):Q2 (runL true ns)=true:=(fr_in.fold h).good
theorem gv_cat {l m:List Int}(h1:l.Sublist GV)(h2:m.Sublist GV):Q2 (runL true (l++m))=true:=gv_run fun x hx=>(List.mem_append.mp hx).elim (fun h=>h1.subset h) fun h=>h2.subset h
theorem gv_good {l:List Int}(h1:l.Sublist GV):Q2 (runL true l)=true:=gv_run fun x hx=>h1.subset hx
def orL (led:Bool)(l:List Int):Bool:=match QZ (#[],.fresh 0 0 led) (runL led l),QB (#[],.fresh 0 0 led) (runL led l).1.size with
 |some pc,some p0=>fitP pc&&fitP p0&&(!led||Q2 pc)&&(List.range 2).all fun n=>match QB pc n with
  |some p1=>fitP p1&&p1.2.fill !=0&&(!led||CLS.any (isC p1))
  |none=>false
 |_,_=>false
theorem run_st (led:Bool)(ns:List Int):stP (runL led ns)=runL led ns:=by
 have key:∀(ns:List Int) (p:SE×SetTable),stP p=p->stP ((ns.map fun k=>Value.int k 0).foldl addV p)=(ns.map fun k=>Value.int k 0).foldl addV p:=by
  intro ns
  induction ns with
  |nil=>intro p h;exact h
  |cons n ns B=>intro p h;exact B _ (add_st n h)
 exact key ns _ (by simp [stP])
theorem or_e1:((subsI GV).all fun m=>orB true [] m&&orB false [] m)=true:=by decide+kernel
theorem or_cons:(((subsI GV).filter fun l=>l != []).all fun l=>orL true l&&orL false l)=true:=by decide+kernel
theorem or_of {led:Bool}{l m:List Int}(h:orL led l=true)(hm:m.Sublist GV):orB led l m=true:=by
 unfold orL at h;unfold orB;cases B:QZ (#[],.fresh 0 0 led) (runL led l) with
 |none=>rw [B] at h;cases h
 |some U=>
 cases M:QB (#[],.fresh 0 0 led) (runL led l).1.size with
 |none=>rw [B,M] at h;cases h
 |some p0=>
 rw [B,M] at h;dsimp only at h⊢;rw [Bool.and_eq_true,Bool.and_eq_true,Bool.and_eq_true] at h;obtain⟨⟨⟨f1,f2⟩,g1⟩,h⟩:=h;have hsz:(runL led m).1.size<2:=by
  obtain⟨k1,k2⟩:=Yj led m;have h1:=List.Nodup.length_le_of_subset' k1 fun x hx=>(k2 x).mp hx;have h3:(qR (runL led m)).length=(runL led m).1.size:=by unfold qR;simp
  have h2:=hm.length_le;have:GV.length=1:=rfl;omega
 have h:=List.all_eq_true.mp h _ (List.mem_range.mpr hsz);rw [f1,f2,g1];cases L:QB U (runL led m).1.size with
 |none=>rw [L] at h;cases h
 |some p1=>
 rw [L] at h;dsimp only at h⊢;rw [Bool.and_eq_true,Bool.and_eq_true] at h;obtain⟨⟨f3,nf⟩,Y⟩:=h;rw [f3];have Z:p1.2.road (runL led m).2= .oneByOne:=by unfold SetTable.road;rw [if_pos nf]
 rw [Z];dsimp only;cases O:led with
 |false=>simp
 |true=>
  subst O;have Y:CLS.any (isC p1)=true:=by simpa using Y
  obtain⟨c,hc,hi⟩:=List.any_eq_true.mp Y;have aa:stP U=U:=by
   have:=YV (#[],.fresh 0 0 true) (runL true l);rw [run_st,show stP (#[],.fresh 0 0 true)=((#[],.fresh 0 0 true):SE×SetTable) by simp [stP],B] at this
   exact(uo this).symm
  have ab:stP p1=p1:=by
   have:=Yd U (runL true m).1.size;rw [aa,L] at this;exact(uo this).symm
  have i1:InC p1:=⟨c,hc,isC_eq ab hi⟩;have ev:(runL true m).1.toList.map (·.2)=(qR (runL true m)).map fun k=>Value.int k 0:=by
   have e0:(runL true m).1.map stE=(runL true m).1:=congrArg Prod.fst (run_st true m);rw [<-e0,U1,uB];unfold qR;rw [uB]
   rfl
  have gg:=(i1.fold (ns:=qR (runL true m)) fun x hx=>hm.subset (((Yj true m).2 x).mp hx)).good;rw [ev,gg];simp
theorem gv_or {l m:List Int}(h1:l.Sublist GV)(h2:m.Sublist GV):orB true l m=true/\orB false l m=true:=by
 by_cases c:l= []
 ·subst c;have:=List.all_eq_true.mp or_e1 m (Yc h2);rw [Bool.and_eq_true] at this;exact this
 ·have:=List.all_eq_true.mp or_cons l (List.mem_filter.mpr ⟨Yc h1,by simpa using c⟩)
  rw [Bool.and_eq_true] at this;exact⟨or_of this.1 h2,or_of this.2 h2⟩
theorem gv_orT {l m:List Int}(h1:l.Sublist GV)(h2:m.Sublist GV):orB true l m=true:=(gv_or h1 h2).1
theorem gv_orF {l m:List Int}(h1:l.Sublist GV)(h2:m.Sublist GV):orB false l m=true:=(gv_or h1 h2).2
end L2
namespace L2
open PySem PyProof.Rows
section
variable {X:Cx}{pins:List (Addr×Obj)}{σ:St}{H:Hp}{s:Shared}{d:Addr}
theorem Inv.redesc {u B:HO}(I:Inv X pins σ H s)(h:H d=some u)(L:∀xs,u≠ .tup xs)(M:∀y,u≠ .own y)(O:∀ps,u≠ .tbl ps)(U:∀o v,X.H₀ d≠some (.frz o v))(new:Qe X.prog X.w (upd H d B) s.heap d B):Inv X pins σ (upd H d B) s:=by
 have nn:∀b,H b=none->upd H d B b=none:=fun b e=>by rw [qi (fun z=>by rw [z,h] at e;cases e)];exact e
 refine⟨I.ok,I.os,I.bare,⟨I.base.keep,I.base.slot,fun b o q n hx=>nn b (I.base.free b o q n hx),I.base.there,fun b xs q=> ?_,fun b o v q=> ?_,fun b ps q=> ?_⟩,I.loc,I.cell,nn _ I.free,fun x c e=>nn _ (I.freeC x c e),fun p Y=> ?_,fun b v e=> ?_,I.len,I.tk⟩
 ·have e:=I.base.tups b xs q;rw [qi (fun z=>by rw [z,h] at e;exact L xs (uo e))]
  exact e
 ·have e:=I.base.frzs b o v q;rw [qi (fun z=>U o v (by rw [<-z];exact q))]
  exact e
 ·obtain⟨more,e⟩:=I.base.tbls b ps q;exact⟨more,by rw [qi (fun z=>by rw [z,h] at e;exact O _ (uo e))];exact e⟩
 ·obtain⟨h1,h2,Z,h4,h5⟩:=I.pin p Y;exact⟨h1,nn _ h2,Z,h4,h5⟩
 ·by_cases c:b=d
  ·subst c;rw [qe] at e;cases e;exact new
  ·rw [qi c] at e;exact(I.hok b v e).stay (fun _ _ _ q=>q) (fun c q=>by rw [qi (fun z=>by rw [z,h] at q;exact M _ (uo q))];exact q) fun c xs q=>by rw [qi (fun z=>by rw [z,h] at q;exact L _ (uo q))];exact q
def fzD (w:World)(d:Addr)(o:Obj)(kvs:List (D×V×V)):HO:= .frz o (dExt w d kvs)
theorem Inv.hold {w:World}{kvs:List (D×V×V)}(I:Inv X pins σ H s)(h:H d=some (dExt w d kvs)):(∀o v,X.H₀ d≠some (.frz o v))/\∃o,Inv X pins σ (upd H d (fzD w d o kvs)) s:=by
 have B:∀o v,X.H₀ d≠some (.frz o v):=fun o v z=>by have:=I.base.frzs d o v z;rw [h] at this;cases this
 have L:=I.hok d _ h;obtain⟨o,M⟩:=(show Qe X.prog X.w H s.heap d (dExt w d kvs) from L).2.1
 exact⟨B,o,I.redesc h (fun _ z=>by cases z) (fun _ z=>by cases z) (fun _ z=>by cases z) B ⟨M,L⟩⟩
theorem Inv.letGo {w:World}{kvs:List (D×V×V)}{o:Obj}(I:Inv X pins σ H s)(B:∀o v,X.H₀ d≠some (.frz o v))(h:H d=some (fzD w d o kvs)):Inv X pins σ (upd H d (dExt w d kvs)) s:=
 I.redesc h (fun _ z=>by cases z) (fun _ z=>by cases z) (fun _ z=>by cases z) B (show Qe X.prog X.w H s.heap d (fzD w d o kvs) from I.hok d _ h).2
def tFrz (w:World)(t:TE):TE:=fun σ H Q=>t σ H Q∨∃d kvs,H d=some (dExt w d kvs)/\∀o,t σ (upd H d (fzD w d o kvs)) fun v H'=>H' d=some (fzD w d o kvs)/\Q v (upd H' d (dExt w d kvs))
theorem pe_frz {w:World}{e:Expr}{t:TE}(h:PE X e t):PE X e (tFrz w t):=by
 intro pins s σ H Q I q;rcases q with q|⟨d,kvs,hd,q⟩
 ·exact h pins s σ H Q I q
 ·obtain⟨B,o,L⟩:=I.hold hd;exact thn (h pins s σ _ _ L (q o)) fun v s1 ⟨x,H1,M,O,U,q1⟩=>⟨x,_,M.letGo B U,O,q1⟩
def sFrz (w:World)(t:TS):TS:=fun D σ H=>t D σ H∨∃d kvs,H d=some (dExt w d kvs)/\∀o,t ⟨fun σ' H'=>H' d=some (fzD w d o kvs)/\D.nx σ' (upd H' d (dExt w d kvs)),fun v H'=>H' d=some (fzD w d o kvs)/\D.rt v (upd H' d (dExt w d kvs)),fun σ' H'=>H' d=some (fzD w d o kvs)/\D.bk σ' (upd H' d (dExt w d kvs)),fun σ' H'=>H' d=some (fzD w d o kvs)/\D.ct σ' (upd H' d (dExt w d kvs))⟩ σ (upd H d (fzD w d o kvs))
theorem ps_frz {w:World}{st:Stmt}{t:TS}(h:PS X st t):PS X st (sFrz w t):=by
 intro pins s σ H D I q;rcases q with q|⟨d,kvs,hd,q⟩
 ·exact h pins s σ H D I q
 ·obtain⟨M,o,O⟩:=I.hold hd;refine thn (h pins s σ _ _ O (q o)) fun f s1 q1=> ?_;cases f with
  |next=>obtain⟨B,H',L,e,z⟩:=q1;exact⟨B,_,L.letGo M e,z⟩
  |brk=>obtain⟨B,H',L,e,z⟩:=q1;exact⟨B,_,L.letGo M e,z⟩
  |cont=>obtain⟨B,H',L,e,z⟩:=q1;exact⟨B,_,L.letGo M e,z⟩
  |ret u=>obtain⟨v,B,H',L,r,e,z⟩:=q1;exact⟨v,B,_,L.letGo M e,r,z⟩
end
def ItD (w:World)(d:Addr)(o:Obj)(kvs:List (D×V×V)):It:=
 ⟨fun i H=>H d=some (fzD w d o kvs)/\i<kvs.length,fun i H x H'=>H'=H/\(kvs.map fun p=>p.2.1)[i]? =some x,fun i H=>H d=some (fzD w d o kvs)/\kvs.length<=i⟩
theorem fz_at {P:Program}{w:World}{H:Hp}{h:Heap}{d:Addr}{o:Obj}{kvs:List (D×V×V)}(ok:HOk P w H h)(e:H d=some (fzD w d o kvs)):
  kvs.length<=sizeLine/\(d==sysModules)=false/\∃es ep xs,o.data= .dict es ep/\EsAt h d es ep/\es.toList=xs.map (entD w)/\Paired RelE kvs xs:=by
 obtain⟨L,⟨hz,lo,xs,r,o',es,ep,B,O,M,U⟩,_⟩:=(show Qe P w H h d (fzD w d o kvs) from ok d _ e)
 rw [L] at B;cases B;exact⟨hz,lo,es,ep,xs,M,⟨o,L,O,M⟩,U,r⟩
theorem pr_len {α β:Type}{F:α->β->Prop}:∀{l:List α}{m:List β},Paired F l m->l.length=m.length
 |_,_,.nil=>rfl
 |_,_,.cons _ t=>by rw [ul,ul,pr_len t]
theorem turn_dictD {P:Program}{w:World}{K:PySem.W.Frag}{tg:Expr}(d it:Addr){o:Obj}{es:Array DictEntry}{ep:Nat}{kvs:List (D×V×V)}(hd:o.data= .dict es ep):Turn P w K tg (ItD w d o kvs) [it] it (fun i h=>h.IsKeyIter it d i es.size ep) where
 mem:=by simp
 obj:=fun i h st b L=>by
  have e:b=it:=by simpa using L
  subst e;obtain⟨o,e,c,d⟩:=st;exact⟨o,e,fun v z=>by rw [d] at z;cases z⟩
 keep:=fun i h h' st k=>by
  obtain⟨o,e,c,dd⟩:=st;exact⟨o,k it (by simp) o e,c,dd⟩
 item:=by
  intro X Z hw hK hc i pins s σ H E I Y st hg;subst Z hw hK;obtain⟨hq,hx⟩:=hg;obtain⟨_,lo,es',aa,xs,B,ea,he,r⟩:=fz_at I.hok hq;rw [hd] at B;cases B;obtain⟨f0,f1,f2,f3,f4,f5⟩:=Y it (by simp)
  obtain⟨p,hp⟩:∃p,kvs[i]? =some p:=⟨_,u0 hx⟩;obtain⟨q,ab,hr⟩:=rel_at r hp;have U:es[i]? =some (entD X.w q):=by
   rw [<-v4,he,uj,ab]
   rfl
  refine XF (I.ok.hd hc) st ea (fun e h' M O sb=> ?_) (fun M=>by rw [U] at M;cases M)
  rw [U] at M;cases M;have I1:Inv X pins σ H {s with heap:=h'}:=I.turned (t':=s.toks) (fun b o L e=>(sb.2 b L).trans e) f0 f1 f3 f4 f5
  obtain⟨oi,e,c,di⟩:=id O;refine⟨_,rfl,go_of (s:={s with heap:=h'}) e c di (by decide) ⟨p.2.1,H,I1,hr.2.1,⟨rfl,by rw [uj,hp];rfl⟩,O,fun b L=>(Y b L).1⟩⟩
 done:=by
  intro X Z hw hK hc i pins s σ H E I Y st hg;subst Z hw hK;obtain⟨hq,hx⟩:=hg;obtain⟨_,lo,es',aa,xs,B,ea,he,r⟩:=fz_at I.hok hq;rw [hd] at B;cases B;have hl:es.size=kvs.length:=by
   have:=congrArg List.length he;rw [uc,<-pr_len r,Array.length_toList] at this;exact this
  obtain⟨f0,f1,f2,f3,f4,f5⟩:=Y it (by simp)
  exact XF (I.ok.hd hc) st ea (fun e h' M O sb=>absurd (Array.getElem?_eq_some_iff.mp M).1 (by omega)) fun _ h' eb=>⟨rfl,I.turned (t':=s.toks) (fun b o L e=>eb b o L e) f0 f1 f3 f4 f5⟩
 self:=fun _ _ _ _ _ st h=>wpAny_pyIter_keyiter st h
def iDicD (w:World)(tl:TE):TI:=fun σ H R=>tl σ H fun x H1=>∃d o kvs,x= .ref d/\H1 d=some (fzD w d o kvs)/\R (ItD w d o kvs) H1
section
variable {X:Cx}
theorem pi_dicD {w:World}{tg l:Expr}{tl:TE}(L:X.w=w)(M:PE X l tl):PI X tg l (iDicD w tl):=by
 subst L;intro pins s σ H R I h;refine thn (M pins s σ H _ I h) fun v s1 ⟨x,H1,B,O,q1⟩=> ?_;obtain⟨d,o,kvs,rfl,hq,q⟩:=q1;cases O;obtain⟨_,lo,es,ep,xs,hd,U,Z,r⟩:=fz_at B.hok hq;refine iter_es lo U ?_;refine⟨s1.heap.objs.size,[s1.heap.objs.size],_,_,H1,rfl,B.kept (t':=s1.toks) fun b o e=>u7 _ e,turn_dictD d _ hd,⟨_,uf _ rfl,rfl,rfl⟩,fun b Y=> ?_,q⟩;have e:b=s1.heap.objs.size:=by simpa using Y
 subst e;exact B.fpOk (Nat.le_refl _) (B.hok.fresh (Nat.le_refl _))
theorem lc_dicD {w:World}{d A:Addr}{o:Obj}{H1:Hp}{te:TE}{tl:St}{Q:VK}{kvs:List (D×V×V)}(f:D->D)(hd:H1 d=some (fzD w d o kvs))(hk:∀p∈kvs,Is H1 p.1 p.2.1)(hn:kvs.length<=sizeLine)(U:H1 A=none)
  (L:∀e x H (R:VK),e∈kvs.map (·.1)->Same H1 H->Is H e x->(∀y H',Same H H'->Is H' (f e) y->R y H')->te (some x::tl) H R)
  (Y:∀H' ys,Same H1 H'->H' A=some (.lst ys)->IsL H' ((kvs.map (·.1)).map f) ys->Q (.ref A) H'):lcGo A (ItD w d o kvs) (JB 0) tYes te (none::tl) H1 Q:=by
 refine lc_data (ds:=kvs.map (·.1)) f (by rw [uc];exact hn) U (fun i H B hi=>⟨B _ _ hd,by rw [uc] at hi;exact hi⟩) (fun i H x H' e B M y=> ?_) (fun H B=>⟨B _ _ hd,by rw [uc];exact Nat.le_refl _⟩) L Y
 obtain⟨rfl,y⟩:=y;rw [uj] at M y;obtain⟨p,O,rfl⟩:=Option.map_eq_some_iff.mp M;rw [O] at y;cases y;exact⟨rfl,(hk p (ud O)).mono B.tk⟩
theorem any_range:∀bs:List Bool,(List.range bs.length).any (fun i=>bs.getD i true)=bs.any id
 | []=>rfl
 |b::r=>by
  rw [ul,Uq,List.any_cons,UJ,List.any_cons];have e:(List.range r.length).any ((fun i=>(b::r).getD i true)∘Nat.succ)=(List.range r.length).any fun i=>r.getD i true:=by
   congr 1
  rw [e,any_range r]
  rfl
theorem call_anyL (hc:X.calm=true):yN X (.builtin "any") (fun xs H Q=>∃(p:Addr) (bs:List Bool),xs= [.ref p]/\SqL X.K H p (bs.map V.bl)/\Q (.bl (bs.any id)) H):=by
 intro pins s σ H xs us Q I r h;obtain⟨p,bs,rfl,hp,q⟩:=h;obtain⟨u,rfl,ru⟩:=QW r;cases ru;obtain⟨its,Y,pl,hz⟩:=I.list hp;have O:p<s.heap.objs.size:=by obtain⟨o,n,e,_⟩:=pl;exact uh e
 refine uH (n:=1) I.tk ?_;refine call_any_walk (UW pl.isList ?_);have up:∀b o,s.heap.get? b=some o->(s.heap.push {cls:= .type "list_iterator",data:= .fields #[.ref p,.int 0 0]}).get? b=some o:=fun b o e=>u7 _ e;have hl:its.length=bs.length:=by have:=Y.length;simpa using this.symm
 refine⟨s.heap.objs.size,_,_,_,_,_,fun i=>bs.getD i true,rfl,Walks.list (show X.A.in1.handled=none from I.ok.hd hc) s.heap.objs.size p (uy O) its.toArray,⟨⟨_,uf _ rfl,rfl,rfl⟩,pl.isList.push _⟩,?_,?_⟩
 ·intro i v s' Q' E' hv hQ;have B:its[i]? =some v:=by simpa using hv
  have hi:i<its.length:=(List.getElem?_eq_some_iff.mp B).1;obtain⟨u,Z,e2⟩:=Y.get (i:=i) (x:= .bl (bs[i]'(by omega))) (by simp [show i<bs.length by omega])
  rw [B] at Z;cases Z;cases e2;have:bs.getD i true=bs[i]'(by omega):=by simp [List.getD,show i<bs.length by omega]
  have L:Q' (bs.getD i true) s':=hQ;rw [this] at L;exact uG L
 ·intro h' tk kk htk;have M:(List.range its.toArray.size).any (fun i=>bs.getD i true)=bs.any id:=by
   rw [u9,hl];exact any_range bs
  rw [M];have I1:=I.kept (t':=s.toks) (h':=s.heap.push {cls:= .type "list_iterator",data:= .fields #[.ref p,.int 0 0]}) up;have U:=I.fpOk (Nat.le_refl _) (I.hok.fresh (Nat.le_refl s.heap.objs.size));obtain⟨f0,f1,f2,f3,f4,f5⟩:=U;exact⟨.bl (bs.any id),H,I1.turned (it:=s.heap.objs.size) (fun b o hb e=>kk b o (by simpa using hb) e) f0 f1 f3 f4 f5,rfl,q⟩
end
end L2
namespace L2
open PySem PySem.Spec PyProof.Rows
theorem boot_any:bootBuiltins "any"=some (.builtin "any"):=by decide+kernel
section
variable {X:Cx}
def rNeA:R2:=fun x y H Q=>∃d e:D,Is H d x/\Is H e y/\kD d=true/\kD e=true/\dp d<=60/\Q (.bl (!eqN d e)) H
theorem op_neA (hu:X.A.units+64<cLine):OpR X (compareOp .NotEq) rNeA:=by
 intro pins s σ H x y v u Q I B L h;obtain⟨d,e,h1,h2,k1,k2,hd,q⟩:=h;have M:X.A.units<cLine:=by omega
 cases d with
 |non=>
  cases(show x= .non from h1)
  cases e with
  |non=>
   cases(show y= .non from h2)
   exact op_ne pins s σ H .non .non v u Q I B L ⟨rfl,by simpa [eqN] using q⟩
  |str z=>
   obtain⟨rfl,_⟩:=(show y= .str z/\_ from h2)
   exact op_ne pins s σ H .non (.str z) v u Q I B L ⟨rfl,by simpa [eqN] using q⟩
  |tup ys=>
   obtain⟨p,us,rfl,O,Y⟩:=(show∃p us,y=V.ref p/\H p=some (.tup us)/\IsL H ys us from h2)
   cases B;cases L;obtain⟨its,_,U,_⟩:=I.tuple (.inl (.of O));exact SeqAt.RcNeAt.none_tuple U M X.prog X.w X.xe _ ⟨.bl true,H,I,rfl,by simpa [eqN] using q⟩
  |_=>simp [kD] at k2
 |str z=>
  obtain⟨rfl,_⟩:=(show x= .str z/\_ from h1)
  cases e with
  |non=>
   cases(show y= .non from h2)
   exact op_ne pins s σ H (.str z) .non v u Q I B L ⟨rfl,by simpa [eqN] using q⟩
  |str w=>
   obtain⟨rfl,_⟩:=(show y= .str w/\_ from h2)
   refine op_ne pins s σ H (.str z) (.str w) v u Q I B L ⟨rfl,?_⟩;have Z:eqN (.str z) (.str w)=decide (V.str z=V.str w):=by
    simp only [eqN];by_cases c:z=w
    ·subst c;simp
    ·simp [c]
   rw [Z] at q;exact q
  |tup ys=>
   obtain⟨p,us,rfl,O,Y⟩:=(show∃p us,y=V.ref p/\H p=some (.tup us)/\IsL H ys us from h2)
   obtain⟨t,rfl⟩:=B;cases L;obtain⟨its,_,U,_⟩:=I.tuple (.inl (.of O));exact SeqAt.RcNeAt.str_tuple _ _ U M X.prog X.w X.xe _ ⟨.bl true,H,I,rfl,by simpa [eqN] using q⟩
  |_=>simp [kD] at k2
 |tup xs=>
  cases e with
  |non=>
   obtain⟨p,us,rfl,O,Y⟩:=(show∃p us,x=V.ref p/\H p=some (.tup us)/\IsL H xs us from h1)
   cases(show y= .non from h2)
   cases B;cases L;obtain⟨its,_,U,_⟩:=I.tuple (.inl (.of O));exact SeqAt.RcNeAt.tuple_none U M X.prog X.w X.xe _ ⟨.bl true,H,I,rfl,by simpa [eqN] using q⟩
  |str w=>
   obtain⟨p,us,rfl,O,Y⟩:=(show∃p us,x=V.ref p/\H p=some (.tup us)/\IsL H xs us from h1)
   obtain⟨rfl,_⟩:=(show y= .str w/\_ from h2)
   cases B;obtain⟨t,rfl⟩:=L;obtain⟨its,_,U,_⟩:=I.tuple (.inl (.of O));exact SeqAt.RcNeAt.tuple_str _ _ U M X.prog X.w X.xe _ ⟨.bl true,H,I,rfl,by simpa [eqN] using q⟩
  |tup ys=>
   refine Jj hu pins s σ H x y v u Q I B L ⟨xs,ys,h1,h2,kL_n (by simpa [kD] using k1),kL_n (by simpa [kD] using k2),?_,by simpa [eqN] using q⟩
   have:dp (.tup xs)=1+dpL xs:=by simp only [dp]
   omega
  |_=>simp [kD] at k2
 |_=>simp [kD] at k1
end
end L2
namespace AwQ
open PySem PySem.SeqAt PyProof.Rows
theorem LtAt.lists {A:Around}{s:Shared}{l b:Addr}{xs ys:Array Value}{e lt:Nat->Bool}(hl:s.heap.IsList l xs)(hb:s.heap.IsList b ys)(hu:A.units<cLine)
  (he:∀j (h1:j<xs.size) (h2:j<ys.size),EqAt A.in1 s xs[j] ys[j] (e j)) (ht:∀j (h1:j<xs.size) (h2:j<ys.size),(∀i,i<j->e i=true)->e j=false->LtAt A.in1 s xs[j] ys[j] (lt j)):
  LtAt A s (.ref l) (.ref b) (lexG e lt (decide (xs.size<ys.size)) 0 (min xs.size ys.size)):=fun P w E Q h=>by
 obtain⟨⟨cls,dd,data,sl⟩,Y,Z,n,hd⟩:=id hl;obtain⟨⟨aa,M,O,U⟩,B,L,n2,hd2⟩:=id hb;simp only at Z hd L hd2;subst Z hd L hd2;exact richCompare_meets_room (op:= .Lt) ⟨_,Y,rfl⟩ ⟨_,B,rfl⟩ PySem.F.slot_list_lt PySem.F.entry_list_lt (PySem.F.args_list_lt_2 _ _) (list_ltG l b xs ys n n2 dd M sl U e lt)
  ⟨Y,B,he,ht,show Value.bool _≠Value.notImplemented/\Q (.bool _) s from⟨(fun z=>nomatch z),h⟩⟩ hu
end AwQ
namespace L2
open PySem PyProof.Rows
section
variable {X:Cx}{pins:List (Addr×Obj)}{σ:St}{H:Hp}{s:Shared}{A:Around}
theorem isl_det:∀{xs ys:List D}{vs:List V},puL xs=true->puL ys=true->IsL H xs vs->IsL H ys vs->xs=ys
 | [],[],_,_,_,_,_=>rfl
 | [],y::ys,vs,_,_,h1,h2=>by
  cases(show vs= [] from h1)
  obtain⟨_,_,e,_⟩:=h2;cases e
 |x::xs,[],vs,_,_,h1,h2=>by
  cases(show vs= [] from h2)
  obtain⟨_,_,e,_⟩:=h1;cases e
 |x::xs,y::ys,vs,p1,p2,h1,h2=>by
  obtain⟨v,r,rfl,B,L⟩:=h1;obtain⟨U,r',e,M,O⟩:=h2;cases e;simp only [puL,Bool.and_eq_true] at p1 p2;rw [Is.det p1.1 p2.1 B M,isl_det p1.2 p2.2 L O]
theorem lst_cmp (I:Inv X pins σ H s){l m:Addr}{xs ys:List D}{vs us:List V}{n:Nat}{r:Bool}(hl:H l=some (.lst vs))(hm:H m=some (.lst us))(U:IsL H xs vs)(Y:IsL H ys us)(p1:puL xs=true/\dpL xs<=n)(p2:puL ys=true)(hu:A.units+n+2<cLine)(hr:ltL xs ys=some r):
  SeqAt.EqAt A s (.ref l) (.ref m) (eqL xs ys)/\AwQ.LtAt A s (.ref l) (.ref m) r:=by
 obtain⟨its,rv,pl,_⟩:=I.list (.of hl);obtain⟨its',M,L,_⟩:=I.list (.of hm);have O:its.length=xs.length:=by rw [<-rv.length,U.length]
 have Z:its'.length=ys.length:=by rw [<-M.length,Y.length]
 obtain⟨c1,c2⟩:=Jk (B:=A.in1) I p1 p2 U Y rv M (by rw [ur];omega) hr
 refine⟨?_,?_⟩
 ·by_cases hv:l=m
  ·subst hv;rw [hl] at hm;cases hm;have:=isl_det p1.1 p2 U Y;subst this;have e:eqL xs xs=true:=by
    have:=(XS (d:= .tup xs) (e:= .tup xs) (by simpa [puD] using p1.1)).mpr rfl
    simpa [eqD] using this
   rw [e];exact Ud _
  ·rw [eqL_all];by_cases hz:xs.length=ys.length
   ·have key:=SeqAt.RcAt.lists (e:=eAt xs ys) pl.isList L.isList (by rw [u9,u9,O,Z,hz]) (by omega) c1
    refine Ut hv ?_;rw [u9,O] at key;have e:((List.range (min xs.length ys.length)).all (fun j=>eqD (xs.getD j .non) (ys.getD j .non))&&xs.length==ys.length)=(List.range xs.length).all (eAt xs ys):=by
     rw [hz,Nat.min_self,beq_self_eq_true,Bool.and_true]
     rfl
    rw [e];exact key
   ·have key:=SeqAt.RcAt.lists_lengths (s:=s) (A:=A) pl.isList L.isList (by rw [u9,u9,O,Z];simpa using hz) (by omega)
    refine Ut hv ?_;have e:(xs.length==ys.length)=false:=by simpa using hz
    rw [e,UC];exact key
 ·have key:=AwQ.LtAt.lists pl.isList L.isList (by omega) c1 c2
  rw [u9,u9,O,Z,J3 hr] at key;exact key
def KeyT (n:D->Int)(k:D->List D)(H:Hp)(d:D)(u:V):Prop:=∃t l us,u= .ref t/\H t=some (.tup [.int (n d),.ref l])/\H l=some (.lst us)/\IsL H (k d) us
theorem KeyT.same {n:D->Int}{k:D->List D}{H H':Hp}{d:D}{u:V}(s:Same H H')(h:KeyT n k H d u):KeyT n k H' d u:=let⟨t,l,us,e,h1,h2,h3⟩:=h;⟨t,l,us,e,s _ _ h1,s _ _ h2,h3.mono s.tk⟩
def ltT (n:D->Int)(k:D->List D)(x y:D):Bool:=decide (n x<n y)||(decide (n x=n y)&&(ltL (k x) (k y)).getD false)
theorem keyT_cmp (I:Inv X pins σ H s){n:D->Int}{k:D->List D}{x y:D}{u v:V}{a b:Value}(hx:KeyT n k H x u)(hy:KeyT n k H y v)(ra:RelV u a)(rb:RelV v b)(p1:puL (k x)=true/\dpL (k x)<=20)(p2:puL (k y)=true)(hu:A.units+40<cLine){r:Bool}(hr:ltL (k x) (k y)=some r)(hi:eqL (k x) (k y)=true->r=false):
  AwQ.LtAt A s a b (ltT n k x y):=by
 obtain⟨t,l,us,rfl,ht,hl,il⟩:=hx;obtain⟨t',l',ac,rfl,L,M,O⟩:=hy;cases ra;cases rb;obtain⟨its,rv,pl,_⟩:=I.tuple (.inl (.of ht));obtain⟨its',U,Y,_⟩:=I.tuple (.inl (.of L));cases rv with
 |cons g1 g2=>
 cases U with
 |cons Z aa=>
 obtain⟨u2,rfl,ab⟩:=QW g2;obtain⟨ad,rfl,B⟩:=QW aa;cases ab;cases B;obtain⟨t1,rfl⟩:=g1;obtain⟨ae,rfl⟩:=Z;obtain⟨c1,c2⟩:=lst_cmp (A:=A.in1) (n:=20) I hl M il O p1 p2 (by rw [ur];omega) hr
 have key:=AwQ.LtAt.tuples (A:=A) (e:=fun j=>if j=0 then decide (n x=n y) else eqL (k x) (k y)) (lt:=fun j=>if j=0 then decide (n x<n y) else r) pl Y (by omega) (fun j h1 h2=> ?_) (fun j h1 h2 _ _=> ?_)
 ·have e:AwQ.lexG (fun j=>if j=0 then decide (n x=n y) else eqL (k x) (k y)) (fun j=>if j=0 then decide (n x<n y) else r) (decide (2<2)) 0 2=ltT n k x y:=by
   unfold ltT;rw [hr,V6];simp only [AwQ.lexG,if_true,Nat.zero_add,Nat.one_ne_zero,U4];by_cases c:n x=n y
   ·rw [ue c,u8 (show¬n x<n y by omega),if_pos rfl,Bool.false_or,Bool.true_and]
    cases h:eqL (k x) (k y) with
    |true=>rw [if_pos rfl,hi h];rfl
    |false=>rw [if_neg (by decide)]
   ·rw [u8 c,if_neg (by decide),Bool.false_and,Bool.or_false]
  rw [<-e];exact key
 ·match j,h1,h2 with
  |0,_,_=>exact Ur _ _ _ _
  |1,_,_=>exact c1
 ·match j,h1,h2 with
  |0,_,_=>exact AwQ.LtAt.int _ _ _ _
  |1,_,_=>exact c2
end
structure MinOk (n:D->Int)(kf:D->List D)(ds:List D):Prop where
 pu:∀d∈ds,puL (kf d)=true/\dpL (kf d)<=20
 lt:∀x∈ds,∀y∈ds,∃r,ltL (kf x) (kf y)=some r/\(eqL (kf x) (kf y)=true->r=false)
 ir:∀x∈ds,ltT n kf x x=false
 tr:∀x∈ds,∀y∈ds,∀z∈ds,ltT n kf x y=true->ltT n kf y z=true->ltT n kf x z=true
section
variable {X:Cx}{pins:List (Addr×Obj)}{σ:St}{H:Hp}{k:Nat}{f:Addr}{fd:FuncData}{ps:List Str}{sp:Sp}
def RetP (X:Cx)(pins:List (Addr×Obj))(σ:St)(Q:VK):Result->Shared->Prop:=fun r s'=>match r with| .ok (.ret v)=>EP X pins σ Q v s'| .ok _=>False| .error e=>X.xe e s'
theorem min_loop {n:D->Int}{kf:D->List D}{ds:List D}{vs:List V}{l S It:Addr}{Q:VK}(hc:X.calm=true)(F:FnOk X.prog X.w X.K X.mg X.base CX0 k f fd ps sp)(hr:Room k X.A.in1)(hu:X.A.units+60<cLine)(hb:yC X.K fd ps [])
  (hl:H l=some (.lst vs)) (il:IsL H ds vs) (ok:MinOk n kf ds) (ap:l≠It) (ac:S≠It)
  (aD:∀d∈ds,∀v H',Same H H'->Is H' d v->∀Q':VK,(∀u M,Same H' M->KeyT n kf M d u->Q' u M)->sp [v] H' Q' E0)
  (q:∀(i:Nat) (d:D) (v:V) (H2:Hp),ds[i]? =some d->vs[i]? =some v->Same H H2->(∀e∈ds,ltT n kf e d=false)->Q v H2):
  ∀(r j i:Nat) (s':Shared) (H':Hp) (vb kb:Value) (xb ub:V) (d:D) (c:Nat) (oI:Obj),vs.length-(j+1)=r->j+1<=vs.length->Inv X pins σ H' s'->Same H H'->s'.heap.get? S=some (seqObj "list" #[vb,kb] c)->s'.heap.get? It=some oI->s'.heap.IsListIter It l (j+1)->FpOk X pins H' S->FpOk X pins H' It->
   vs[i]? =some xb->ds[i]? =some d->RelV xb vb->KeyT n kf H' d ub->RelV ub kb->(∀j',j'<=j->∀e,ds[j']? =some e->ltT n kf e d=false)->
   codeAny (model X.prog X.w) X.A (.builtin "min.loop" ⟨[.ref It,.ref f,.ref S],[]⟩) (RetP X pins σ Q) s':=by
 have Z:(toString "min"++toString ".loop":String)="min.loop":=by decide
 have ln:ds.length=vs.length:=il.length.symm;intro r
 induction r with
 |zero=>
  intro j i s' H' vb kb xb ub d c oI aE hj I sm gS gI af fS O ag hd rb kT ru B;have aF:j+1=vs.length:=by omega
  obtain⟨its,rv,pl,_⟩:=I.list (.of (sm _ _ hl));have hsz:its.toArray.size=vs.length:=by rw [u9];exact rv.length.symm
  have W:=Walks.list (prog:=X.prog) (w:=X.w) (A:=X.A.in1) (show X.A.in1.handled=none from I.ok.hd hc) It l ap its.toArray
  refine vz PySem.F.entry_min_loop ?_;rw [ve vh _];show wpAny _ X.A.in1 (seqItems? (.ref S)>>=_) _ _ _;refine wpAny_bind (UD gS rfl ?_);show wpAny _ X.A.in1 (tryCatch (pyNext (.ref It)) _>>=_) _ _ _;refine wpAny_bind (UE (uH (n:=1) I.tk (W.done _ _ _ ⟨by rw [hsz,<-aF];exact af,pl.isList⟩ fun h' ah aa=> ?_)))
  intro htk;have I1:Inv X pins σ H' {s' with heap:=h',toks:=ah}:=I.turned (it:=It) (fun b o hb e=>aa b o (by simpa using hb) e) O.1 O.2.1 O.2.2.2.1 O.2.2.2.2.1 O.2.2.2.2.2 htk
  have ai:=aa S _ (by simpa using ac) gS
  show wpAny _ X.A.in1 (updateSeq S (fun _=> #[])>>=_) _ _ _;refine wpAny_bind ?_;refine wpAny_updateSeq ai rfl (wpAny_bind (V8 (wpAny_pure ?_)));refine⟨xb,H',yK I1 fS,rb,q i d xb H' hd ag sm fun e Y=> ?_⟩;obtain⟨j',ad⟩:=List.mem_iff_getElem?.mp Y;exact B j' (by have:=(List.getElem?_eq_some_iff.mp ad).1;omega) e ad
 |succ r ih=>
  intro j i s' H' vb kb xb ub d c oI aE hj I sm gS gI af fS O ag hd rb kT ru B;have ae:j+1<vs.length:=by omega
  obtain⟨its,rv,pl,_⟩:=I.list (.of (sm _ _ hl));have hsz:its.toArray.size=vs.length:=by rw [u9];exact rv.length.symm
  have W:=Walks.list (prog:=X.prog) (w:=X.w) (A:=X.A.in1) (show X.A.in1.handled=none from I.ok.hd hc) It l ap its.toArray
  refine vz PySem.F.entry_min_loop ?_;rw [ve vh _];show wpAny _ X.A.in1 (seqItems? (.ref S)>>=_) _ _ _;refine wpAny_bind (UD gS rfl ?_);show wpAny _ X.A.in1 (tryCatch (pyNext (.ref It)) _>>=_) _ _ _;refine wpAny_bind (UE (uH (n:=1) I.tk (W.item (j+1) _ _ _ (by rw [hsz];exact ae) ⟨af,pl.isList⟩ fun v h' ah hP aq aa=> ?_)))
  intro htk;have hv:its[j+1]? =some v:=by simpa using hP
  obtain⟨U,au,av,aj⟩:=id aq.1;have I1:Inv X pins σ H' {s' with heap:=h',toks:=ah}:=I.turned (it:=It) (fun b o hb e=>aa b o (by simpa using hb) e) O.1 O.2.1 O.2.2.2.1 O.2.2.2.2.1 O.2.2.2.2.2 htk
  have ai:=aa S _ (by simpa using ac) gS
  obtain⟨xn,ak⟩:∃x,vs[j+1]? =some x:=⟨_,u0 ae⟩;obtain⟨dn,ab⟩:∃x,ds[j+1]? =some x:=⟨_,u0 (by omega)⟩
  have rn:RelV xn v:=by
   obtain⟨b,f1,g⟩:=rv.get ak;rw [hv] at f1;cases f1;exact g
  have aG:Is H' dn xn:=by
   obtain⟨y,e1,i1⟩:=il.get ab;rw [ak] at e1;cases e1;exact i1.mono sm.tk
  have al:=ud hd;have L:=ud ab;have I2:=Yr (Yr I1 fS ai (fun v z=>by cases z)) (fp_more O ac) au (fun v z=>by rw [aj] at z;cases z)
  show wpAny _ X.A.in1 (tryCatch (holding [v] (call (.ref f) [v])) _>>=_) _ _ _;refine wpAny_bind (UE (uA (vc (run_fnA (vs:= [xn]) (Q:=fun u M=>Same H' M/\KeyT n kf M dn u) (E:=fun _ _=>False) F hr rfl hb I2 (.cons rn .nil) (aD dn L xn H' sm aG _ fun u M s1 r1=>⟨s1,r1⟩)) (fun kx s2 Y=> ?_) fun _ _ hF=>hF.elim)));obtain⟨un,H2,I3,run,am,aw⟩:=Y;have q1:=Yo I3 (b:=S) (o:=seqObj "list" #[vb,kb] c) (by simp)
  have q2:=Yo I3 (b:=It) (o:=U) (by simp)
  have I4:Inv X pins σ H2 s2:=Yp (Yp I3);have ao:=JS fS q1.2;have ax:=JS O q2.2;have ay:=kT.same am;have az:s2.heap.IsListIter It l (j+1+1):=⟨U,q2.1,av,aj⟩;obtain⟨rr,aH,aA⟩:=ok.lt dn L d al;have aI:=keyT_cmp (A:=X.A.in1) I4 aw ay run ru (ok.pu dn L) (ok.pu d al).1 (by rw [ur];omega) aH aA
  show wpAny _ X.A.in1 (tryCatch (holding [v,kx] (richCompare .Lt kx kb>>=_)) _>>=_) _ _ _;refine wpAny_bind (UE (uA (wpAny_bind (aI X.prog X.w _ _ ?_))));refine wpAny_bind (uA (uG ?_));refine wpAny_bind (V8 (wpAny_pure ?_));cases aB:ltT n kf dn d with
  |true=>
   obtain⟨c2,aJ⟩:∃c2,(s2.heap.update S (Obj.mapSeq fun _=> #[v,kx])).get? S=some (seqObj "list" #[v,kx] c2):=⟨_,UR q1.1 fun _=> #[v,kx]⟩;simp only [if_true];refine wpAny_bind ?_;refine wpAny_updateSeq q1.1 rfl (wpAny_bind (V8 ?_));rw [Z];have aC:(s2.heap.update S (Obj.mapSeq fun _=> #[v,kx])).get? It=some U:=(uU _ _ ac).trans q2.1;refine wpAny_pure ⟨Ui vh _,ih (j+1) (j+1) _ H2 v kx xn un dn c2 U (by omega) ae (yK I4 ao) (sm.trans am) aJ aC ⟨U,aC,av,aj⟩ ao ax ak ab rn aw run fun j' ad e Y=> ?_⟩
   by_cases ej:j'=j+1
   ·subst ej;rw [ab] at Y;cases Y;exact ok.ir dn L
   ·have h1:=B j' (by omega) e Y
    cases h2:ltT n kf e dn with
    |false=>rfl
    |true=>rw [ok.tr e (ud Y) dn L d al h2 aB] at h1;cases h1
  |false=>
   simp only [uS,U4];refine wpAny_bind (V8 ?_);rw [Z];refine wpAny_pure ⟨Ui vh _,ih (j+1) i s2 H2 vb kb xb ub d c U (by omega) ae I4 (sm.trans am) q1.1 q2.1 az ao ax ag hd rb ay ru fun j' ad e Y=> ?_⟩
   by_cases ej:j'=j+1
   ·subst ej;rw [ab] at Y;cases Y;exact aB
   ·exact B j' (by omega) e Y
theorem min_ok {n:D->Int}{kf:D->List D}{ds:List D}{vs:List V}{l:Addr}{s:Shared}{Q:VK}(hc:X.calm=true)(F:FnOk X.prog X.w X.K X.mg X.base CX0 k f fd ps sp)(hr:Room k X.A.in1)(hu:X.A.units+60<cLine)(hb:yC X.K fd ps [])(I:Inv X pins σ H s)
  (hl:H l=some (.lst vs)) (il:IsL H ds vs) (ne:ds≠ []) (ok:MinOk n kf ds)
  (ac:∀d∈ds,∀v H',Same H H'->Is H' d v->∀Q':VK,(∀u B,Same H' B->KeyT n kf B d u->Q' u B)->sp [v] H' Q' E0)
  (q:∀(i:Nat) (d:D) (v:V) (H2:Hp),ds[i]? =some d->vs[i]? =some v->Same H H2->(∀e∈ds,ltT n kf e d=false)->Q v H2):
  wpAny (model X.prog X.w) X.A (call (.builtin "min") [.ref l] [(Str.ofString "key",.ref f)]) (EP X pins σ Q) X.xe s:=by
 have L:(toString "min"++toString ".loop":String)="min.loop":=by decide
 have ln:ds.length=vs.length:=il.length.symm;have Z:0<vs.length:=by rw [<-ln];exact List.length_pos_iff.mpr ne
 obtain⟨its,rv,pl,_⟩:=I.list (.of hl);have hsz:its.toArray.size=vs.length:=by rw [u9];exact rv.length.symm
 have aa:=pl.isList;obtain⟨ol,ak,_⟩:=id aa;have al:l<s.heap.objs.size:=uh ak;refine kmk_tree PySem.F.kind_min PySem.F.plain_min PySem.F.entry_min (kmk_min_key _ _) ?_;show wpAny _ X.A.in1 (Builtin.Builtins.bindParams "min" ["key","default"] 0 ⟨[],[(Str.ofString "key",.ref f)]⟩>>=_) _ _ s;refine wpAny_bind (Uv (show Builtin.Builtins.bindParams "min" ["key","default"] 0 ⟨[],[(Str.ofString "key",.ref f)]⟩=pure [some (.ref f),none] from rfl) ?_)
 refine wpAny_bind (wpAny_pure ?_);refine wpAny_bind (UW aa ?_);refine wpAny_bind (wpAny_newList ?_ (uv _));rw [L];have hS:(s.heap.push {cls:= .type "list_iterator",data:= .fields #[.ref l,.int 0 0]}).objs.size=s.heap.objs.size+1:=size_push' ..;have ad:l≠s.heap.objs.size:=uy al;have M:(s.heap.push {cls:= .type "list_iterator",data:= .fields #[.ref l,.int 0 0]}).objs.size≠s.heap.objs.size:=by rw [hS];exact V3 (UF _)
 refine wpAny_pure ⟨Ui vh _,?_⟩;have I1:Inv X pins σ H {s with heap:=(s.heap.push {cls:= .type "list_iterator",data:= .fields #[.ref l,.int 0 0]}).push (seqObj "list" #[] 0)}:=I.kept (t':=s.toks) fun b u e=>u7 _ (u7 _ e)
 have gI:((s.heap.push {cls:= .type "list_iterator",data:= .fields #[.ref l,.int 0 0]}).push (seqObj "list" #[] 0)).get? s.heap.objs.size=some {cls:= .type "list_iterator",data:= .fields #[.ref l,.int 0 0]}:=
  u7 _ (uf _ rfl)
 have gS:((s.heap.push {cls:= .type "list_iterator",data:= .fields #[.ref l,.int 0 0]}).push (seqObj "list" #[] 0)).get? (s.heap.push {cls:= .type "list_iterator",data:= .fields #[.ref l,.int 0 0]}).objs.size=some (seqObj "list" #[] 0):=uf _ rfl;have fI:FpOk X pins H s.heap.objs.size:=I.fpOk (Nat.le_refl _) (I.hok.fresh (Nat.le_refl _));have fS:FpOk X pins H (s.heap.push {cls:= .type "list_iterator",data:= .fields #[.ref l,.int 0 0]}).objs.size:=I.fpOk (by rw [hS];omega) (I.hok.fresh (by rw [hS];omega))
 have am:((s.heap.push {cls:= .type "list_iterator",data:= .fields #[.ref l,.int 0 0]}).push (seqObj "list" #[] 0)).IsList l its.toArray:=(aa.push _).push _;generalize (s.heap.push {cls:= .type "list_iterator",data:= .fields #[.ref l,.int 0 0]}).objs.size=S at*;generalize (s.heap.push {cls:= .type "list_iterator",data:= .fields #[.ref l,.int 0 0]}).push (seqObj "list" #[] 0)=h1 at*;generalize s.heap.objs.size=It at*;have W:=Walks.list (prog:=X.prog) (w:=X.w) (A:=X.A.in1) (show X.A.in1.handled=none from I.ok.hd hc) It l ad its.toArray
 refine vz PySem.F.entry_min_loop ?_;rw [ve vh _];show wpAny _ X.A.in1 (seqItems? (.ref _)>>=_) _ _ _;refine wpAny_bind (UD gS rfl ?_);show wpAny _ X.A.in1 (tryCatch (pyNext (.ref It)) _>>=_) _ _ _;refine wpAny_bind (UE (uH (n:=1) I1.tk (W.item 0 _ _ _ (by rw [hsz];exact Z) ⟨⟨_,gI,rfl,rfl⟩,am⟩ fun v h' ao hP ae af=> ?_)))
 intro htk;have hv:its[0]? =some v:=by simpa using hP
 obtain⟨O,ag,ap,ah⟩:=id ae.1;have I2:Inv X pins σ H {s with heap:=h',toks:=ao}:=Inv.turned (s:={s with heap:=h1}) (it:=It) I1 (fun b o hb e=>af b o (by simpa using hb) e) fI.1 fI.2.1 fI.2.2.2.1 fI.2.2.2.2.1 fI.2.2.2.2.2 htk
 have aq:=af S _ (by simpa using M) gS
 obtain⟨xn,ab⟩:∃x,vs[0]? =some x:=⟨_,u0 Z⟩;obtain⟨dn,U⟩:∃x,ds[0]? =some x:=⟨_,u0 (by omega)⟩
 have rn:RelV xn v:=by
  obtain⟨b,f1,g⟩:=rv.get ab;rw [hv] at f1;cases f1;exact g
 have au:Is H dn xn:=by
  obtain⟨y,e1,i1⟩:=il.get U;rw [ab] at e1;cases e1;exact i1
 have Y:=ud U;have I3:=Yr (Yr I2 fS aq (fun v z=>by cases z)) (fp_more fI M) ag (fun v z=>by rw [ah] at z;cases z)
 show wpAny _ X.A.in1 (tryCatch (holding [v] (call (.ref f) [v])) _>>=_) _ _ _;refine wpAny_bind (UE (uA (vc (run_fnA (vs:= [xn]) (Q:=fun u B=>Same H B/\KeyT n kf B dn u) (E:=fun _ _=>False) F hr rfl hb I3 (.cons rn .nil) (ac dn Y xn H (Same.refl _) au _ fun u B s1 r1=>⟨s1,r1⟩)) (fun kx s2 he=> ?_) fun _ _ hF=>hF.elim)));obtain⟨un,H2,I4,run,av,aw⟩:=he;have q1:=Yo I4 (b:=S) (o:=seqObj "list" #[] 0) (by simp)
 have q2:=Yo I4 (b:=It) (o:=O) (by simp)
 have I5:Inv X pins σ H2 s2:=Yp (Yp I4);have ai:=JS fS q1.2;have ax:=JS fI q2.2;obtain⟨c2,ay⟩:∃c2,(s2.heap.update S (Obj.mapSeq fun _=> #[v,kx])).get? S=some (seqObj "list" #[v,kx] c2):=⟨_,UR q1.1 fun _=> #[v,kx]⟩;have aj:(s2.heap.update S (Obj.mapSeq fun _=> #[v,kx])).get? It=some O:=(uU _ _ M).trans q2.1;show wpAny _ X.A.in1 (updateSeq S (fun _=> #[v,kx])>>=_) _ _ _;refine wpAny_bind ?_;refine wpAny_updateSeq q1.1 rfl ?_;rw [L];refine wpAny_pure ⟨Ui vh _,min_loop hc F hr hu hb hl il ok ad M ac q _ 0 0 _ H2 v kx xn un dn c2 O rfl Z (yK I5 ai) av ay aj ⟨O,aj,ap,ah⟩ ai ax ab U rn aw run fun j' az e he=> ?_⟩;have:j'=0:=by omega
 subst this;rw [U] at he;cases he;exact ok.ir dn Y
def minB (sp:Sp)(Q:VK)(x:V)(H1:Hp):Prop:=∃(l:Addr) (ds:List D) (vs:List V) (n:D->Int) (kf:D->List D),x= .ref l/\H1 l=some (.lst vs)/\IsL H1 ds vs/\ds≠ []/\MinOk n kf ds/\
 (∀d∈ds,∀v H',Same H1 H'->Is H' d v->∀Q':VK,(∀u H'',Same H' H''->KeyT n kf H'' d u->Q' u H'')->sp [v] H' Q' E0)/\
 ∀(i:Nat) (d:D) (v:V) (H2:Hp),ds[i]? =some d->vs[i]? =some v->Same H1 H2->(∀e∈ds,ltT n kf e d=false)->Q v H2
def tMinK (sp:Sp)(te:TE):TE:=fun σ H Q=>te σ H (minB sp Q)
theorem pe_minK {L:Str}{e:Expr}{te:TE}{p M pos kp:Pos}(hc:X.calm=true)(F:FnOk X.prog X.w X.K X.mg X.base CX0 k f fd ps sp)(hr:Room (k+2) X.A)(hu:X.A.units+64<cLine)(hb:yC X.K fd ps [])(hg:Gl X "min")(hm:X.mg "min"=none)(O:Gl X L)(U:X.mg L=some (.ref f))(he:PE X e te)
  (Y:(L==("__debug__":Str))=false:=by decide) (B:starEach [e] X.env= [(false,eval e X.env)]:=by rfl):PE X (.Call (.Name "min" p) [e] [⟨some "key",.Name L M,kp⟩] pos) (tMinK sp te):=by
 intro pins s σ H Q I h;refine vQ (jU I hg hm boot_min ?_);have ha:PA X [e] (j6 te tNil):=qa he qc B;have step:=ha pos pins s σ H (fun vs H1=>match vs with| [x]=>minB sp Q x H1|_=>False) I h
 have hk:PK X [⟨some "key",.Name L M,kp⟩] (j6 (tC (.ref f)) tNil):=Xp (pe_gR O U Y) pk_nil;refine callWith_kw (kws:= [⟨some "key",.Name L M,kp⟩]) (thn step fun us s1 ⟨vs,H1,I1,Z,q1⟩=> ?_)
  (by show backTo pos (starEach [e] X.env)=_;rw [B];rfl) (by show(backTo pos (starEach [e] X.env)).any (·.1)=false;rw [B];rfl)
 match vs,Z,q1 with
 | [x],Z,q1=>
  refine thn (hk pos pins s1 σ H1 (fun zs H2=>zs= [.ref f]/\H2=H1) I1 ⟨rfl,rfl⟩) fun ws s2 ⟨zs,H2,I2,r2,e1,e2⟩=> ?_;subst e1 e2;obtain⟨u,rfl,ru⟩:=QW Z;obtain⟨u2,rfl,aa⟩:=QW r2;cases aa;obtain⟨l,ds,vs,n,kf,rfl,hl,il,ne,ok,ab,q⟩:=q1;cases ru;exact min_ok hc F (hr.mono (by omega)).in1 (by omega) hb I2 hl il ne ok ab q
end
theorem xf {xs:List V}{us:List Value}(r:Vals xs us):∀is:List Nat,Vals (is.filterMap (xs[·]?)) (is.filterMap (us[·]?))
 | []=> .nil
 |i::is=>by
  rw [vC,vC];have L:=r.length;cases e:xs[i]? with
  |none=>
   have:us[i]? =none:=List.getElem?_eq_none (by have:=List.getElem?_eq_none_iff.mp e;omega)
   rw [this];exact xf r is
  |some x=>
   obtain⟨u,B,g⟩:=r.get e;rw [B];exact .cons g (xf r is)
section
variable {X:Cx}
def tStp (K:PySem.W.Frag)(te:TE)(tl:TO):TE:=fun σ H Q=>te σ H fun x H1=>tl σ H1 fun _ H2=>∃a xs,x= .ref a/\SqL K H2 a xs/\∀ys p,ys.length<=xs.length->(∀y∈ys,y∈xs)->H2 p=none->Q (.ref p) (upd H2 p (.lst ys))
theorem Xm {e:Expr}{te:TE}{lo:Option Expr}{tl:TO}{k:Int}{j pos p1 p2}(hk:k≠0)(he:PE X e te)(hl:PO X lo tl)(L:subscripted (.Slice lo none (some (.Constant (.int k) j p1)) p2) false=fun v u=>operate [v,u] (getItem v u):=by rfl):PE X (.Subscript e (.Slice lo none (some (.Constant (.int k) j p1)) p2) pos) (tStp X.K te tl):=by
 intro pins s σ H Q I h;refine Subscript_ (thn (he pins s σ H _ I h) fun v s1 ⟨x,H1,I1,r1,q1⟩=> ?_);refine wpAny_Slice (thn (hl pins s1 σ H1 _ I1 q1) fun vl s2 ⟨Y,H2,I2,pl,q2⟩=> ?_);rw [evalPart_none];refine wpAny_pure ?_;rw [evalPart_some];refine thn (qg (i:=k) pins s2 σ H2 (fun y Z=>y= .int k/\Z=H2) I2 ⟨rfl,rfl⟩) fun u B h3=> ?_;obtain⟨y,Z,I3,r3,rfl,rfl⟩:=h3;obtain⟨tk,rfl⟩:=r3;obtain⟨a,xs,rfl,hH,q⟩:=q2;cases r1;have I4:Inv X pins σ Z {B with heap:=B.heap.push {cls:= .type "slice",data:= .fields #[vl,.none,.int k tk]}}:=I3.kept (t':=B.toks) fun b ob q=>u7 _ q
 obtain⟨its,r,M,hz⟩:=I4.list hH;have O:its.toArray.size=xs.length:=by rw [u9];exact r.length.symm
 show wpAny (model X.prog X.w) X.A (subscriptTail e (.Slice lo none (some (.Constant (.int k) j p1)) p2) (.ref a) (.ref B.heap.objs.size)) (EP X pins σ Q) X.xe {B with heap:=B.heap.push {cls:= .type "slice",data:= .fields #[vl,.none,.int k tk]}}
 refine tail_any (ops:= [.ref a,.ref B.heap.objs.size]) M.isList.typeIs slot_list_getitem.lookup ?_ (by rw [L])
 refine wpAny_getItem_list_slice (st:=some k) M.isList (Heap.IsSliceOf.new ..) pl .none (.int k tk) (by simpa using hk) ?_ (by rw [O];exact hz)
 have hsz:=slicePick_size_le its.toArray Y none (some k);unfold slicePick at hsz⊢;generalize sliceRange (sliceBounds Y none (some k) its.toArray.size).1 (sliceBounds Y none (some k) its.toArray.size).2.1 (sliceBounds Y none (some k) its.toArray.size).2.2=is at hsz⊢;have ep:is.filterMap (its.toArray[·]?)=is.filterMap (its[·]?):=by simp
 rw [ep] at hsz⊢;have vp:=xf r is;have U:(is.filterMap (xs[·]?)).length<=xs.length:=by
  rw [vp.length];rw [u9,u9,<-r.length] at hsz;exact hsz
 refine⟨.ref _,_,I4.laid (t':=B.toks) (o:= .lst (is.filterMap (xs[·]?))) (fun b ob q=>u7 _ q) (Nat.le_refl _) ⟨v8 U hz,_,0,vp,uf _ rfl⟩,rfl,q _ _ U (fun y hy=> ?_) (I4.hok.fresh (Nat.le_refl _))⟩;obtain⟨i,_,hi⟩:=List.mem_filterMap.mp hy;exact ud hi
end
end L2
namespace K29
open PySem L2 PyProof.Rows
open Builtin.Int (intBits)
def top (i:Nat):Stmt:=PySem.Challenge.pw_askwright_k29_the_first_clash.main.body.getD i (.Pass ⟨0,0,0,0⟩)
abbrev Jd:Stmt:=top 14
abbrev YX:Stmt:=top 15
abbrev jr:Stmt:=top 16
abbrev J9:Stmt:=top 17
abbrev J8:Stmt:=top 20
abbrev Xr:Stmt:=top 21
abbrev QD:Stmt:=top 22
abbrev YF:Stmt:=top 23
abbrev XL:Stmt:=top 24
abbrev QC:Stmt:=top 25
abbrev X1:Stmt:=top 26
abbrev YB:Stmt:=Jm (top 29) 0
abbrev yj:Stmt:=Jm (top 30) 0
abbrev yH:Stmt:=Jm (top 30) 1
abbrev yJ:Stmt:=Jm (top 30) 2
abbrev yn:Stmt:=Jm (top 30) 3
abbrev yV:Stmt:=top 31
abbrev yX:Stmt:=top 32
abbrev XM:Stmt:=top 33
abbrev yM:Stmt:=top 34
abbrev Qt:Stmt:=top 35
abbrev Jv:Stmt:=top 38
abbrev jy:Stmt:=top 39
abbrev JC:Stmt:=top 40
abbrev YM:Stmt:=top 41
abbrev yD:Stmt:=top 42
abbrev Jx:Stmt:=top 43
abbrev YC:Stmt:=top 45
abbrev Y8:Stmt:=top 46
abbrev JL:Stmt:=top 47
abbrev Yb:Stmt:=top 48
abbrev YJ:Stmt:=top 49
abbrev YA:Stmt:=top 50
abbrev QE:Stmt:=top 51
abbrev YG:Stmt:=top 52
abbrev Ym:Stmt:=top 53
abbrev y6:Stmt:=top 54
abbrev s_law:Stmt:=top 55
set_option genInjectivity false in
set_option genSizeOf false in
structure Ad where
 f_is_text:Addr
 d_is_text:FuncData
 f_is_tree:Addr
 d_is_tree:FuncData
 yu:Addr
 yB:FuncData
 f_is_name:Addr
 d_is_name:FuncData
 f_is_pair:Addr
 d_is_pair:FuncData
 f_is_ask:Addr
 d_is_ask:FuncData
 yw:Addr
 yy:FuncData
 Jt:Addr
 Jc:FuncData
 f_is_end:Addr
 d_is_end:FuncData
 yp:Addr
 yq:FuncData
 f_is_run:Addr
 d_is_run:FuncData
 YE:Addr
 Jq:FuncData
 yi:Addr
 Yv:FuncData
 Y5:Addr
 jd:FuncData
 YO:Addr
 Y4:FuncData
 Yx:Addr
 Yw:FuncData
 jH:Addr
 jL:FuncData
 jO:Addr
 jT:FuncData
 f_branch:Addr
 d_branch:FuncData
 YY:Addr
 Y6:FuncData
 Q1:Addr
 Q9:FuncData
 f_law_pot:Addr
 d_law_pot:FuncData
 xR:Addr
 xy:FuncData
 Yg:Addr
 yU:FuncData
 xi:Addr
 Jl:FuncData
 Y0:Addr
 jc:FuncData
 f_law_way:Addr
 d_law_way:FuncData
 J7:Addr
 JO:FuncData
 f_law_due:Addr
 d_law_due:FuncData
 f_law_put:Addr
 d_law_put:FuncData
 jQ:Addr
 jW:FuncData
 J4:Addr
 Jy:FuncData
 JF:Addr
 JM:FuncData
 yr:Addr
 yt:FuncData
 Jp:Addr
 JT:FuncData
 xH:Addr
 xD:FuncData
 jS:Addr
 jF:FuncData
 f_law:Addr
 d_law:FuncData
 qB:Addr
 qk:Addr
structure Tx (K:PySem.W.Frag)(mg:Str->Option Value)(a:Ad):Prop where
 g_is_text:FF K mg "is_text" Jd ["value"] a.f_is_text a.d_is_text
 g_is_tree:FF K mg "is_tree" YX ["value"] a.f_is_tree a.d_is_tree
 g_tree_key:FF K mg "tree_key" jr ["tree"] a.yu a.yB
 g_is_name:FF K mg "is_name" J9 ["value"] a.f_is_name a.d_is_name
 g_is_pair:FF K mg "is_pair" J8 ["value"] a.f_is_pair a.d_is_pair
 g_is_ask:FF K mg "is_ask" Xr ["value"] a.f_is_ask a.d_is_ask
 g_is_row_of_names:FF K mg "is_row_of_names" QD ["tree"] a.yw a.yy
 g_is_answer:FF K mg "is_answer" YF ["ask","answer"] a.Jt a.Jc
 g_is_end:FF K mg "is_end" XL ["value"] a.f_is_end a.d_is_end
 g_is_answered_ask:FF K mg "is_answered_ask" QC ["value"] a.yp a.yq
 g_is_run:FF K mg "is_run" X1 ["value"] a.f_is_run a.d_is_run
 g_Node_init:FM K a.qB "__init__" "Node.__init__" YB ["self","there"] a.YE a.Jq
 g_AskTree_init:FM K a.qk "__init__" "AskTree.__init__" yj ["self"] a.yi a.Yv
 g_AskTree_put:FM K a.qk "put" "AskTree.put" yH ["self","run","givers"] a.Y5 a.jd
 g_AskTree_lay:FM K a.qk "lay" "AskTree.lay" yJ ["self","run","givers"] a.YO a.Y4
 g_AskTree_ways:FM K a.qk "ways" "AskTree.ways" yn ["self"] a.Yx a.Yw
 g_are_givers:FF K mg "are_givers" yV ["value"] a.jH a.jL
 g_answer_key:FF K mg "answer_key" yX ["answer"] a.jO a.jT
 g_branch:FF K mg "branch" XM ["run","givers","place"] a.f_branch a.d_branch
 g_first_clash:FF K mg "first_clash" yM ["tree","other"] a.YY a.Y6
 g_first_clash_below:FF K mg "first_clash_below" Qt ["node","other"] a.Q1 a.Q9
 g_law_pot:FF K mg "_law_pot" Jv ["cell","salt"] a.f_law_pot a.d_law_pot
 g_law_take:FF K mg "_law_take" jy ["pot","many"] a.xR a.xy
 g_law_key:FF K mg "_law_key" JC ["tree"] a.Yg a.yU
 g_law_there:FF K mg "_law_there" YM ["salt","path","lacked"] a.xi a.Jl
 g_law_choices:FF K mg "_law_choices" yD ["ask"] a.Y0 a.jc
 g_law_way:FF K mg "_law_way" Jx ["salt","pot"] a.f_law_way a.d_law_way
 g_law_order:FF K mg "_law_order" YC ["run"] a.J7 a.JO
 g_law_due:FF K mg "_law_due" Y8 ["kept"] a.f_law_due a.d_law_due
 g_law_put:FF K mg "_law_put" JL ["kept","run","givers"] a.f_law_put a.d_law_put
 g_law_stands:FF K mg "_law_stands" Yb ["run","at"] a.jQ a.jW
 g_law_clash:FF K mg "_law_clash" YJ ["run","other"] a.J4 a.Jy
 g_law_first:FF K mg "_law_first" YA ["partings"] a.JF a.JM
 g_law_clash_order:FF K mg "_law_clash_order" QE ["clash"] a.yr a.yt
 g_law_other:FF K mg "_law_other" YG ["pot","run"] a.Jp a.JT
 g_law_fits:FF K mg "_law_fits" Ym ["kept","run"] a.xH a.xD
 g_law_filled:FF K mg "_law_filled" y6 ["salt","cells","other"] a.jS a.jF
 g_law:FF K mg "law" s_law ["script"] a.f_law a.d_law
 qV:Cls K a.qB
 M_Node:Mk K a.qB a.YE
 m_Node:mg "Node"=some (.ref a.qB)
 q9:yY K a.qB "there"
 qJ:yY K a.qB "edges"
 Yi:yY K a.qB "way"
 Qz:yY K a.qB "givers"
 qO:Cls K a.qk
 xc:Mk K a.qk a.yi
 JG:mg "AskTree"=some (.ref a.qk)
 qt:yY K a.qk "beginning"
 m_MOST_SIGNS:∃t,mg "MOST_SIGNS"=some (.int 300 t)
 m_MOST_PARTS:∃t,mg "MOST_PARTS"=some (.int 40 t)
 m_MOST_SIZE:∃t,mg "MOST_SIZE"=some (.int 600 t)
 m_MOST_DEPTH:∃t,mg "MOST_DEPTH"=some (.int 12 t)
 jA:∃t,mg "MOST_NAME_SIGNS"=some (.int 24 t)
 m_LETTERS:∃t,mg "LETTERS"=some (.str "abcdefghijklmnopqrstuvwxyz" t)
 m_NAME_SIGNS:∃t,mg "NAME_SIGNS"=some (.str "abcdefghijklmnopqrstuvwxyz0123456789./" t)
 m_PERCENT:∃t,mg "PERCENT"=some (.int 37 t)
 m_MOST_GIVER:∃t,mg "MOST_GIVER"=some (.int 99 t)
 z_ord:mg "ord"=none
 j7:mg "len"=none
 qL:mg "isinstance"=none
 z_str:mg "str"=none
 QP:mg "tuple"=none
 z_all:mg "all"=none
 YR:mg "sorted"=none
 z_set:mg "set"=none
 z_enumerate:mg "enumerate"=none
 z_bool:mg "bool"=none
 z_int:mg "int"=none
 z_reversed:mg "reversed"=none
 z_range:mg "range"=none
 z_abs:mg "abs"=none
 z_min:mg "min"=none
 z_any:mg "any"=none
 z_sum:mg "sum"=none
theorem xz:qz ["value","sign"] ["value"] (qj Jd):=by trivial
theorem Qw:qz ["value","size","waiting","pair","part","depth"] ["value"] (qj YX):=by trivial
theorem sc_tree_key:qz ["tree"] ["tree"] (qj jr):=by trivial
theorem sc_is_name:qz ["value"] ["value"] (qj J9):=by trivial
theorem sc_is_pair:qz ["value"] ["value"] (qj J8):=by trivial
theorem sc_is_ask:qz ["value"] ["value"] (qj Xr):=by trivial
theorem YU:qz ["tree"] ["tree"] (qj QD):=by trivial
theorem sc_is_answer:qz ["ask","answer"] ["ask","answer"] (qj YF):=by trivial
theorem sc_is_end:qz ["value"] ["value"] (qj XL):=by trivial
theorem Y2:qz ["value"] ["value"] (qj QC):=by trivial
theorem sc_is_run:qz ["value"] ["value"] (qj X1):=by trivial
theorem sc_Node_init:qz ["self","there"] ["self","there"] (qj YB):=by trivial
theorem Js:qz ["self"] ["self"] (qj yj):=by trivial
theorem xo:qz ["self","run","givers"] ["self","run","givers"] (qj yH):=by trivial
theorem Qn:qz ["self","run","givers","node","place","pair"] ["self","run","givers"] (qj yJ):=by trivial
theorem Qg:qz ["self","found","waiting","node","answer"] ["self"] (qj yn):=by trivial
theorem QU:qz ["value","last","giver"] ["value"] (qj yV):=by trivial
theorem Xw:qz ["answer"] ["answer"] (qj yX):=by trivial
theorem Ye:qz ["run","givers","place","node","pair","above"] ["run","givers","place"] (qj XM):=by trivial
theorem xt:qz ["tree","other"] ["tree","other"] (qj yM):=by trivial
theorem qA:qz ["node","other","level","below","asks","one","two","answer","further"] ["node","other"] (qj Qt):=by trivial
theorem QX:qz ["cell","salt","step","big","k"] ["cell","salt"] (qj Jv):=by trivial
theorem Jf:qz ["pot","many","digit"] ["pot","many"] (qj jy):=by trivial
theorem sc_law_key:qz ["tree"] ["tree"] (qj JC):=by trivial
theorem QJ:qz ["salt","path","lacked","step","digit","long"] ["salt","path","lacked"] (qj YM):=by trivial
theorem xp:qz ["ask"] ["ask"] (qj yD):=by trivial
theorem Qc:qz ["salt","pot","path","asks","lacked","turn","ended","there","some"] ["salt","pot"] (qj Jx):=by trivial
theorem yc:qz ["run","found","ask","tree"] ["run"] (qj YC):=by trivial
theorem sc_law_due:qz ["kept"] ["kept"] (qj Y8):=by trivial
theorem sc_law_put:qz ["kept","run","givers"] ["kept","run","givers"] (qj JL):=by trivial
theorem Xz:qz ["run","at"] ["run","at"] (qj Yb):=by trivial
theorem yf:qz ["run","other","at","one","two"] ["run","other"] (qj YJ):=by trivial
theorem sc_law_first:qz ["partings"] ["partings"] (qj YA):=by trivial
theorem Y7:qz ["clash"] ["clash"] (qj QE):=by trivial
theorem Qv:qz ["pot","run","asks","end","at","way","ends"] ["pot","run"] (qj YG):=by trivial
theorem sc_law_fits:qz ["kept","run"] ["kept","run"] (qj Ym):=by trivial
theorem Qb:qz ["salt","cells","other","tree","kept","cell","pot","run"] ["salt","cells","other"] (qj y6):=by trivial
theorem QK:qz ["script","salt","cells","one","first","two","second","three","third","tree","kept","other","ways","found","run","due"] ["script"] (qj s_law):=by trivial
structure Ga where
 (faults bk cl:Addr)
def FLT:List Str:= ["told","kind","name","lack","big","silent","long"]
structure Fx (K:PySem.W.Frag)(w:World)(mg:Str->Option Value)(g:Ga)(a:Ad):Prop where
 m_FAULTS:mg "FAULTS"=some (.ref g.faults)
 faults:∀H,SqT K H g.faults (FLT.map V.str)
 m_BadKeep:mg "BadKeep"=some (.ref g.bk)
 x_BadKeep:PySem.W.excIn K g.bk VE "ValueError.__new__"=true
 m_Clash:mg "Clash"=some (.ref g.cl)
 x_Clash:PySem.W.excIn K g.cl VE "ValueError.__new__"=true
def PotB (m:Nat)(H:Hp)(p:Addr):Prop:=∃x:Int,H p=some (.lst [.int x])/\0<=x/\intBits x<=m
def y9 (H:Hp)(p:Addr):Prop:=∃x:Int,H p=some (.lst [.int x])/\0<=x
theorem y9.same {H H':Hp}{p:Addr}(h:y9 H p)(s:Same H H'):y9 H' p:=by
 obtain⟨x,e,r⟩:=h;exact⟨x,s _ _ e,r⟩
theorem y9.free {H:Hp}{p l:Addr}(h:y9 H p)(n:H l=none):p≠l:=by
 obtain⟨x,e,r⟩:=h;exact qh e n
theorem y9.tk {H H':Hp}{p:Addr}(h:y9 H p)(h':y9 H' p)(k:Kept p H H'):Tk H H':=by
 obtain⟨x,e,_⟩:=h;obtain⟨L,B,_⟩:=h';exact k.tk e B
def MB:Nat:=1048576
def sp_take:Sp:=fun vs H Q _=>∃(p:Addr) (many:Int),vs= [.ref p,.int many]/\y9 H p/\0<many/\many<1073741824/\∀(d:Int) (H':Hp),0<=d->d<many->y9 H' p->Kept p H H'->(PotB MB H p->PotB MB H' p)->Q (.int d) H'
def sp_pot:Sp:=fun vs H Q _=>∃(c t:Int),vs= [.int c,.int t]/\0<=t/\t<1000/\∀(p:Addr) (H':Hp),H p=none->Same H H'->y9 H' p->Q (.ref p) H'
theorem yb {n:Nat}(h:n<=1000):n<=sizeLine:=vU (QL h)
theorem fits {n:Nat}(h:n<=16000000):n<=sizeLine:=by rw [sizeLine_eq];omega
theorem big_bits {n:Nat}{b s:Int}(B:0<=b)(h:intBits b<=32*n)(L:0<=s)(s1:s<2147483629):intBits (b*2147483629+s)<=32*(n+1):=by
 have h1:=intBits_le_iff.mp h;refine intBits_le_iff.mpr ?_;have e:(2:Nat)^(32*(n+1))=2^(32*n)*4294967296:=by rw [Nat.mul_add,Nat.pow_add]
 rw [e];generalize 2^(32*n)=N at h1;omega
section
variable {P:Program}{w:World}{K:PySem.W.Frag}{mg:Str->Option Value}{base:Heap}{a:Ad}
theorem ok_take (T:Tx K mg a):FnOk P w K mg base CX0 1 a.xR a.xy ["pot","many"] sp_take:=by
 refine T.g_law_take.F.ok Jf () (fun _ _ _ _ H _ Q E Y h=> ?_)
 obtain⟨p,many,rfl,⟨x,B,hx⟩,hm,L,k⟩:=h;refine⟨_,(@qd _ _ _ _ _ (@qE _ _ (2) _ _ _ _ Jf.nd rfl (Or.inl rfl) (@qT _ _ _ _ _ _ _ _ Yu (@qG _ _ _ _ _ _ _ Qu (pv 0) qg (fun _ _=>rfl)) (pv 1)) () ()) (@qd _ _ _ _ _ (@xu _ _ _ _ _ _ (@qT _ _ _ _ _ _ _ _ Xe (@qG _ _ _ _ _ _ _ Qu (pv 0) qg (fun _ _=>rfl)) (pv 1)) (@pg_sub _ _ _ _ _ _ _ (pv 0) qg set_list ()) () () ()) (@qf _ _ _ (@qo _ _ _ _ (pv 2))))),?_⟩
 refine⟨_,rfl,p,_,_,_,rfl,rfl,SqL.of B,rfl,_,rfl,_,_,rfl,rfl,hm,?_⟩;refine⟨_,rfl,p,_,_,_,rfl,rfl,SqL.of B,rfl,_,rfl,_,_,rfl,rfl,⟨hm,L⟩,_,rfl,p,_,_,_,rfl,rfl,B,rfl,?_⟩;refine⟨_,rfl,?_⟩;refine k _ _ (vk _ (by omega)) (v0 _ hm) ⟨x/many,qe,Int.ediv_nonneg hx (by omega)⟩ (Kept.upd _ _ _) fun⟨y,M,O,U⟩=>⟨x/many,qe,Int.ediv_nonneg hx (by omega),?_⟩
 have e:=M.symm.trans B;cases e;refine intBits_le_of_natAbs ?_ U;have h1:x/many<=x:=Int.ediv_le_self _ hx;have h2:0<=x/many:=Int.ediv_nonneg hx (by omega)
 omega
theorem ok_pot (T:Tx K mg a):FnOk P w K mg base CX0 1 a.f_law_pot a.d_law_pot ["cell","salt"] sp_pot:=by
 refine T.g_law_pot.F.ok QX () (fun _ _ _ _ H _ Q E hr h=> ?_)
 obtain⟨c,t,rfl,h0,h1,k⟩:=h;refine⟨_,(@qd _ _ _ _ _ (@qN _ _ _ _ _ _ _ _ (@qu _ _ _ _ _ _ _ _ op_ge (@qx _ _ _ _ _ _ _ _ _ call_abs () T.z_abs boot_abs (@qa _ _ _ _ _ (pv 0) qc ()) () () () ()) (@qT _ _ _ _ _ _ _ _ op_pow qg qg) (qC _)) (@qf _ _ _ (@qo _ _ _ _ (@Qq _ _ _ _ (@qa _ _ _ _ _ (@qx _ _ _ _ _ _ _ _ _ call_abs () T.z_abs boot_abs (@qa _ _ _ _ _ (pv 0) qc ()) () () () ()) qc ())))) qr) (@qd _ _ _ _ _ (@qE _ _ (2) _ _ _ _ QX.nd rfl (Or.inl rfl) (@qT _ _ _ _ _ _ _ _ Yu (@qT _ _ _ _ _ _ _ _ JH (@qT _ _ _ _ _ _ _ _ yz (@qT _ _ _ _ _ _ _ _ yz (@qT _ _ _ _ _ _ _ _ Yu (pv 0) qg) (@qT _ _ _ _ _ _ _ _ JH qg (pv 1))) qg) qg) qg) () ()) (@qd _ _ _ _ _ (@qE _ _ (3) _ _ _ _ QX.nd rfl (Or.inl rfl) qg () ()) (@qd _ _ _ _ _ (@Q4 _ _ _ _ _ _ _ _ uO rfl (@Jn _ _ _ _ _ _ () T.z_range (@qa _ _ _ _ _ qg qc ()) ()) (@qw _ _ (4) _ QX.nd rfl (Or.inl rfl) ()) (@qd _ _ _ _ _ (@qE _ _ (2) _ _ _ _ QX.nd rfl (Or.inl rfl) (@qT _ _ _ _ _ _ _ _ Yu (@qT _ _ _ _ _ _ _ _ yz (@qT _ _ _ _ _ _ _ _ yz (@qT _ _ _ _ _ _ _ _ JH (pv 2) (pv 2)) (@qT _ _ _ _ _ _ _ _ JH qg (pv 4))) qg) qg) () ()) (@qf _ _ _ (@qE _ _ (3) _ _ _ _ QX.nd rfl (Or.inl rfl) (@qT _ _ _ _ _ _ _ _ yz (@qT _ _ _ _ _ _ _ _ JH (pv 3) qg) (pv 2)) () ()))) ()) (@qf _ _ _ (@qo _ _ _ _ (@Qq _ _ _ _ (@qa _ _ _ _ _ (pv 3) qc ())))))))),?_⟩
 refine⟨_,rfl,_,rfl,_,_,rfl,rfl,⟨by decide,by decide,by decide⟩,_,_,rfl,rfl,_,rfl,?_⟩
 refine ite2 (fun _=> ?_) (fun _=> ?_)
 ·refine⟨_,rfl,_,rfl,(by show 1<=sizeLine;decide),fun p B=> ?_⟩
  refine k p _ B (qb B _) ⟨_,qe,?_⟩;split<;>omega
 ·refine⟨_,rfl,_,_,rfl,rfl,(by show(0:Int)<2147483647;decide),_,rfl,_,_,rfl,rfl,(.inl ⟨by decide,by decide⟩),_,_,rfl,rfl,_,_,rfl,rfl,_,_,rfl,rfl,(.inr ⟨by decide,by decide⟩),_,_,rfl,rfl,(by show(0:Int)<2147483647;decide),9,rfl,by decide,by decide,?_⟩
  let J1_:Nat->L2.St->Hp->Prop:=fun i σ H'=>∃(x b:Int) (kv:Option V),σ= [some (.int c),some (.int t),some (.int x),some (.int b),kv]/\0<=x/\x<2147483647/\0<=b/\intBits b<=32*i/\H'=H
  refine J2 (n:=9) J1_ ⟨_,_,none,rfl,vk _ (by decide),v0 _ (by decide),by decide,by decide,rfl⟩ ?_ ?_
  ·rintro i σ H' hi ⟨x,b,kv,rfl,U,Y,O,L,rfl⟩;have M:CMul x x:= .inl ⟨by omega,by omega⟩
   refine⟨_,rfl,_,rfl,_,_,rfl,rfl,M,_,rfl,_,_,rfl,rfl,(.inl ⟨by decide,by decide⟩),_,_,rfl,rfl,_,_,rfl,rfl,_,_,rfl,rfl,(by show(0:Int)<2147483629;decide),_,rfl,_,_,rfl,rfl,(.inr ⟨by decide,by decide⟩),_,rfl,_,_,rfl,rfl,?_⟩
   have Z:0<=(x*x+40692*(0+(i:Int))+3)%2147483629:=vk _ (by decide)
   have q1:(x*x+40692*(0+(i:Int))+3)%2147483629<2147483629:=v0 _ (by decide)
   exact⟨_,_,_,rfl,Z,Int.lt_trans q1 (by decide),Int.add_nonneg (Int.mul_nonneg O (by decide)) Z,big_bits O L Z q1,rfl⟩
  ·rintro σ H' ⟨x,b,kv,rfl,U,Y,O,L,rfl⟩;exact⟨_,rfl,(by show 1<=sizeLine;decide),fun p B=>k p _ B (qb B _) ⟨_,qe,O⟩⟩
end
end K29
namespace K29
open PySem L2 PyProof.Rows
theorem okText_long {z:Str}(h:300<z.length):Yh z=false:=by
 unfold Yh;rw [u8 (by omega)]
 rfl
def isTx:D->Bool
 | .str z=>Yh z
 |_=>false
def sp_is_text:Sp:=fun vs H Q _=>∃v d,vs= [v]/\Is H d v/\Q (.bl (isTx d)) H
def sp_is_tree:Sp:=fun vs H Q _=>∃v d,vs= [v]/\Is H d v/\∀H',Same H H'->Q (.bl (isT d)) H'
def pr (p:D×Nat):D:= .tup [p.1,.int (p.2:Int)]
theorem okText_bad {z:Str}{i c:Nat}(h:z.cps[i]? =some c)(B:Y1 c=false):Yh z=false:=by
 unfold Yh;have hm:c∈z.cps.toList:=by
  have:z.cps.toList[i]? =some c:=by simpa using h
  exact ud this
 have:z.cps.toList.all Y1=false:=by
  rw [List.all_eq_false];exact⟨c,hm,by rw [B];exact ug⟩
 rw [this,UC]
section
variable {P:Program}{w:World}{K:PySem.W.Frag}{mg:Str->Option Value}{base:Heap}{a:Ad}
theorem xL (T:Tx K mg a):FnOk P w K mg base CX0 1 a.f_is_text a.d_is_text ["value"] sp_is_text:=by
 refine T.g_is_text.F.ok xz () (fun _ _ _ _ H _ Q E hr h=> ?_)
 obtain⟨v,d,rfl,Z,k⟩:=h;refine⟨_,(@qd _ _ _ _ _ (@qN _ _ _ _ _ _ _ _ (@j5 _ _ _ _ _ _ _ (@yx _ _ _ _ (@Qx _ _ _ (@qx _ _ _ _ _ _ _ _ _ (@qQ _ _ rfl) () T.qL vm (@qa _ _ _ _ _ (pv 0) (@qa _ _ _ _ _ (@Q5 _ _ (.ty "str") _ _ () T.z_str boot_str rfl () ()) qc ()) ()) () () () ()) ())) (@Yz _ _ _ _ (@qu _ _ _ _ _ _ _ _ op_gt (@qx _ _ _ _ _ _ _ _ _ jK () T.j7 vn (@qa _ _ _ _ _ (pv 0) qc ()) () () () ()) (@pe_gI _ _ _ _ () T.m_MOST_SIGNS ()) (qC _)))).pt (@qf _ _ _ (@qo _ _ _ _ QI)) qr) (@qd _ _ _ _ _ (@Q4 _ _ _ _ _ _ _ _ uO rfl (@pi_str _ _ _ _ (pv 0)) (@qw _ _ (1) _ xz.nd rfl (Or.inl rfl) ()) (@qf _ _ _ (@qN _ _ _ _ _ _ _ _ (@j5 _ _ _ _ _ _ _ (@qu _ _ _ _ _ _ _ _ op_lt_str (pv 1) qF (qC _)) (@j5 _ _ _ _ _ _ _ (@qu _ _ _ _ _ _ _ _ op_gt_str (pv 1) qF (qC _)) (@Yz _ _ _ _ (@qu _ _ _ _ _ _ _ _ yS (@qx _ _ _ _ _ _ _ _ _ call_ord () T.z_ord boot_ord (@qa _ _ _ _ _ (pv 1) qc ()) () () () ()) (@pe_gI _ _ _ _ () T.m_PERCENT ()) (qC _))))).pt (@qf _ _ _ (@qo _ _ _ _ QI)) qr)) ()) (@qf _ _ _ (@qo _ _ _ _ QI)))),?_⟩
 refine⟨_,rfl,v,"str",tyD d,isStr d,rfl,Z.ty,kit_str d,_,rfl,?_⟩;cases d with
 |str z=>
  obtain⟨rfl,hz⟩:=Z;refine iteF ?_;refine⟨_,rfl,z,rfl,hz,_,_,rfl,rfl,_,rfl,?_⟩;refine ite2 (fun c=> ?_) (fun c=> ?_)
  ·have c':(300:Int)<(z.length:Int):=uk c;have e:isTx (.str z)=false:=okText_long (by omega)
   rw [e] at k;exact k
  ·have c':¬(300:Int)<(z.length:Int):=fun q=>c (ue q);refine⟨_,rfl,z,rfl,?_⟩
   let J1_:Nat->L2.St->Hp->Prop:=fun i σ H'=>(∃x,σ= [some (.str z),x])/\H'=H/\(z.cps.toList.take i).all Y1=true
   refine for_str J1_ ⟨⟨_,rfl⟩,rfl,rfl⟩ ?_ ?_
   ·rintro i c σ H' hc ⟨⟨x,rfl⟩,rfl,B⟩;have L:Y1 c=false->Q (.bl false) H':=fun e=>by
     have e':isTx (.str z)=false:=okText_bad hc e;rw [e'] at k;exact k
    refine⟨_,rfl,_,_,rfl,rfl,_,rfl,?_⟩;rw [show decide ((⟨#[c]⟩:Str).cps.toList<(" ":Str).cps.toList)=decide (c<32) from lt_one c 32]
    refine ite2 (fun O=> ?_) (fun O=> ?_)
    ·refine iteT (L ?_);have:=uk O;unfold Y1;rw [u8 (by omega)]
     rfl
    ·have aa:¬c<32:=fun q=>O (ue q);refine⟨_,rfl,_,_,rfl,rfl,_,rfl,?_⟩;rw [show decide (("~":Str).cps.toList<(⟨#[c]⟩:Str).cps.toList)=decide (126<c) from one_gt c 126]
     refine ite2 (fun U=> ?_) (fun U=> ?_)
     ·refine iteT (L ?_);have:=uk U;unfold Y1;rw [u8 (p:=c<=126) (by omega),UC]
      rfl
     ·have ab:¬126<c:=fun q=>U (ue q);refine⟨_,rfl,_,rfl,rfl,rfl,_,rfl,?_⟩;refine ite2 (fun Y=> ?_) (fun Y=> ?_)
      ·have M:c=37:=by
        have:=uk Y;have:=V.int.inj this;exact Int.ofNat.inj this
       exact L (by subst M;rfl)
      ·have M:c≠37:=fun q=>Y (ue (by rw [q];rfl))
       refine⟨⟨_,rfl⟩,rfl,?_⟩;rw [uE,show z.cps.toList[i]? =some c by simpa using hc,List.all_append,B]
       show(true&&(Y1 c&&true))=true;unfold Y1;rw [ue (by omega),ue (p:=c<=126) (by omega),ue M]
       rfl
   ·rintro σ H' ⟨⟨x,rfl⟩,rfl,B⟩;have e:isTx (.str z)=true:=by
     show Yh z=true;unfold Yh;rw [uL (by simp)] at B
     rw [B,ue (by omega)]
     rfl
    rw [e] at k;exact k
 |_=>exact iteT (iteT k)
theorem map_snoc {α β:Type}(f:α->β)(xs:List α)(x:α):(xs++ [x]).map f=xs.map f++ [f x]:=by simp
theorem last_at {α:Type}(us:List α)(x:α):(us++ [x])[(us++ [x]).length-1]? =some x:=by simp
theorem drop_last {α:Type}(us:List α)(x:α):(us++ [x]).dropLast=us:=by simp
def Wt (v:V)(d:D)(H:Hp)(L:Addr)(m:Nat)(σ:L2.St)(H':Hp):Prop:=
 ∃(n:Nat) (w:List (D×Nat)) (ws:List V) (x3 x4 x5:Option V),σ= [some v,some (.int n),some (.ref L),x3,x4,x5]/\Same H H'/\H' L=some (.lst ws)/\IsL H' (w.map pr) ws/\G w n=isT d/\n<=600/\w.length<=1+40*n/\m=ndL (w.map (·.1))
theorem xU (T:Tx K mg a):FnOk P w K mg base CX0 2 a.f_is_tree a.d_is_tree ["value"] sp_is_tree:=by
 have Ji:=xL (P:=P) (w:=w) (base:=base) T;refine T.g_is_tree.F.ok Qw () (fun _ _ _ _ H vs Q E hr h=> ?_)
 obtain⟨v,d,rfl,hv,k⟩:=h;refine⟨_,(@qd _ _ _ _ _ (@qE _ _ (1) _ _ _ _ Qw.nd rfl (Or.inl rfl) qg () ()) (@qd _ _ _ _ _ (@qE _ _ (2) _ _ _ _ Qw.nd rfl (Or.inl rfl) (@Qq _ _ _ _ (@qa _ _ _ _ _ (@qy _ _ _ _ _ (@qa _ _ _ _ _ (pv 0) (@qa _ _ _ _ _ qg qc ()) ())) qc ())) () ()) (@qd _ _ _ _ _ (@Xy _ _ _ _ _ _ uO (@x9 _ _ _ (pv 2) (fun _=>rfl)) (@qd _ _ _ _ _ (@qE _ _ (3) _ _ _ _ Qw.nd rfl (Or.inl rfl) (@pe_bm0 _ _ _ _ _ _ _ _ _ uQ PySem.F.slot_list_pop PySem.F.type_list_pop mt_pop (pv 2) () ()) () ()) (@qd _ _ _ _ _ (@qE _ _ (4) _ _ _ _ Qw.nd rfl (Or.inl rfl) (@qG _ _ _ _ _ _ _ qD (pv 3) qg (fun _ _=>rfl)) () ()) (@qd _ _ _ _ _ (@qE _ _ (5) _ _ _ _ Qw.nd rfl (Or.inr rfl) (@qG _ _ _ _ _ _ _ qD (pv 3) qg (fun _ _=>rfl)) () ()) (@qd _ _ _ _ _ (@qN _ _ _ _ _ _ _ _ (@pw_and _ _ _ _ _ _ _ (@Qx _ _ _ (@qx _ _ _ _ _ _ _ _ _ (@qQ _ _ rfl) () T.qL vm (@qa _ _ _ _ _ (pv 4) (@qa _ _ _ _ _ (@Q5 _ _ (.ty "tuple") _ _ () T.QP Ue rfl () ()) qc ()) ()) () () () ()) ()) (@pw_and1 _ _ _ _ (@qu _ _ _ _ _ _ _ _ op_le (@qx _ _ _ _ _ _ _ _ _ Xk () T.j7 vn (@qa _ _ _ _ _ (pv 4) qc ()) () () () ()) (@pe_gI _ _ _ _ () T.m_MOST_PARTS ()) (qC _)))).pt (@qd _ _ _ _ _ (@ps_aug _ _ (1) _ _ _ _ _ _ Qw.nd rfl (Or.inl rfl) qg ip_add ()) (@qf _ _ _ (@QY _ _ _ _ (@pe_bm _ _ _ _ _ _ _ _ _ _ _ _ uQ PySem.F.slot_list_extend PySem.F.type_list_extend mt_extend (pv 2) (@qa _ _ _ _ _ (@JJ _ _ (["below","depth"]) (1) ([5]) _ _ _ _ _ _ _ _ _ (lcsN (qj YX) ["value","size","waiting","pair","part","depth"]) rfl (@JE _ _ _ _ (pv 4)) (fun _ _ _ _ _ _=>(@qw _ _ (0) _ (show List.Nodup (["below","depth"]:List Str) by decide+kernel) rfl (Or.inl rfl) ())) (fun _ _ _ _ _ _=> @yl _) (fun _ _ _ _ _ _=>(@qy _ _ _ _ _ (@qa _ _ _ _ _ (pv 0) (@qa _ _ _ _ _ (@qT _ _ _ _ _ _ _ _ yz (pv 1) qg) qc ()) ()))) ()) qc ()) () () () () ()) ()))) (@qf _ _ _ (@qN _ _ _ _ _ _ _ _ (@Qx _ _ _ (@ql _ _ _ _ _ _ _ _ _ _ _ _ _ _ _ _ Ji (hr.mono ()) () T.g_is_text.m T.g_is_text.F.kp T.g_is_text.b .nil qH (@qa _ _ _ _ _ (pv 4) qc ()) () () ()) ()) (@qf _ _ _ (@ps_aug _ _ (1) _ _ _ _ _ _ Qw.nd rfl (Or.inl rfl) (@qT _ _ _ _ _ _ _ _ yz qg (@qx _ _ _ _ _ _ _ _ _ Xk () T.j7 vn (@qa _ _ _ _ _ (pv 4) qc ()) () () () ())) ip_add ())) (@qf _ _ _ (@qo _ _ _ _ QI))))) (@qf _ _ _ (@qN _ _ _ _ _ _ _ _ (@j5 _ _ _ _ _ _ _ (@qu _ _ _ _ _ _ _ _ op_gt (pv 5) (@pe_gI _ _ _ _ () T.m_MOST_DEPTH ()) (qC _)) (@Yz _ _ _ _ (@qu _ _ _ _ _ _ _ _ op_gt (pv 1) (@pe_gI _ _ _ _ () T.m_MOST_SIZE ()) (qC _)))).pt (@qf _ _ _ (@qo _ _ _ _ QI)) qr))))))) (@qf _ _ _ (@qo _ _ _ _ QI))))),?_⟩
 have no:∀{H':Hp}{w:List (D×Nat)}{n:Nat},Same H H'->G w n=isT d->G w n=false->Q (.bl false) H':=fun{H' w n} sm e1 e2=>by
  have q:=k H' sm;rw [<-e1,e2] at q;exact q
 refine⟨_,rfl,(by show 2<=sizeLine;decide),fun t1 h1=>⟨(by show 1<=sizeLine;decide),fun L hL=> ?_⟩⟩
 have s1:Same H (upd H t1 (.tup [v,.int 1])):=qb h1 _;have s2:Same H (upd (upd H t1 (.tup [v,.int 1])) L (.lst [.ref t1])):=s1.trans (qb hL _);have ai:H L=none:=s1.free hL;have i1:Is (upd H t1 (.tup [v,.int 1])) (pr (d,1)) (.ref t1):=Is.new (ds:= [d,.int 1]) ⟨v,_,rfl,hv,_,_,rfl,rfl,rfl⟩ h1;refine⟨Wt v d H L,⟨_,0,[(d,1)],[.ref t1],none,none,none,rfl,s2,qe,IsL.one (i1.mono (qb hL _).tk),G_start d,by omega,by simp,rfl⟩,?_⟩
 rintro m σ H' ⟨n,w,ws,x3,x4,x5,rfl,sm,hl,hw,hG,hn,am,rfl⟩;refine⟨_,rfl,!ws.isEmpty,.inl ⟨ws,SqL.of hl,rfl⟩,?_⟩;rcases List.eq_nil_or_concat w with rfl|⟨w',⟨e,j⟩,rfl⟩
 ·cases(show ws= [] from hw)
  refine iteF ?_;have q:=k H' sm;rw [<-hG,G_nil hn] at q;exact q
 ·rw [List.concat_eq_append] at*;rw [map_snoc] at hw;obtain⟨us,x,rfl,hu,hx⟩:=hw.unsnoc;have ne:(!(us++ [x]).isEmpty)=true:=by simp
  rw [ne];refine iteT ⟨fun σ' ao=>∃m',m'<ndL ((w'++ [(e,j)]).map (·.1))/\Wt v d H L m' σ' ao,fun _ _ h=>h,?_⟩;have hm:ndL ((w'++ [(e,j)]).map (·.1))=ndL (w'.map (·.1))+nd e:=by
   rw [map_snoc,ju];simp [ndL]
  have aq:w'.length<=40*n:=by
   rw [ui,uR] at am;omega
  have lu:=hu.length;rw [uc] at lu;refine⟨_,rfl,.inl ⟨rfl,_,SqL.of hl⟩,L,_,x,rfl,rfl,hl,last_at us x,?_⟩;rw [drop_last];have t2:Tk H' (upd H' L (.lst us)):=Tk.updL hl;have M:Same H (upd H' L (.lst us)):=fun b o z=>by rw [qi (qh z ai)];exact sm b o z
  have ae:Is (upd H' L (.lst us)) (.tup [e,.int (j:Int)]) x:=hx.mono t2;have af:IsL (upd H' L (.lst us)) (w'.map pr) us:=hu.mono t2;have O:upd H' L (.lst us) L=some (.lst us):=qe;generalize upd H' L (.lst us)=H2 at t2 M ae af O⊢;clear t2 hl hx hu sm;refine⟨_,rfl,ix_is (i:=0) ae rfl fun y hy=> ?_⟩;refine⟨_,rfl,ix_is (i:=1) ae rfl fun y1 ap=> ?_⟩;cases(show y1= .int (j:Int) from ap)
  have ad:∀(U:Nat) (w2:List (D×Nat)) (aa:List V) (B:Hp),Same H B->B L=some (.lst aa)->IsL B (w2.map pr) aa->(j<=12->U<=600->G w2 U=isT d)->(12<j∨600<U->isT d=false)->w2.length<=1+40*U->ndL (w2.map (·.1))<ndL ((w'++ [(e,j)]).map (·.1))->
    ∃ab,[some v,some (V.int (U:Int)),some (V.ref L),some x,some y,some (V.int (j:Int))][5]? =some (some ab)/\∃i Y,ab=V.int i/\V.int 12=V.int Y/\∃k,V.bl (decide (Y<i))=V.bl k/\
     if k=true then if true=true then Q (.bl false) B else∃m',m'<ndL ((w'++ [(e,j)]).map (·.1))/\Wt v d H L m' [some v,some (V.int (U:Int)),some (V.ref L),some x,some y,some (V.int (j:Int))] B
     else∃aj,[some v,some (V.int (U:Int)),some (V.ref L),some x,some y,some (V.int (j:Int))][1]? =some (some aj)/\∃i Y,aj=V.int i/\V.int 600=V.int Y/\∃k,V.bl (decide (Y<i))=V.bl k/\
      if k=true then Q (.bl false) B else∃m',m'<ndL ((w'++ [(e,j)]).map (·.1))/\Wt v d H L m' [some v,some (V.int (U:Int)),some (V.ref L),some x,some y,some (V.int (j:Int))] B:=by
   intro U w2 aa B s3 l3 i3 g3 b3 ak m3;have al:isT d=false->Q (.bl false) B:=fun e=>by
    have q:=k B s3;rw [e] at q;exact q
   refine⟨_,rfl,_,_,rfl,rfl,_,rfl,?_⟩;refine ite2 (fun c=>iteT (al (b3 (.inl ?_)))) (fun c=>⟨_,rfl,_,_,rfl,rfl,_,rfl,?_⟩)
   ·have:=uk c;omega
   ·have c':¬(12:Int)<(j:Int):=fun q=>c (ue q);refine ite2 (fun c2=>al (b3 (.inr ?_))) (fun c2=> ?_)
    ·have:=uk c2;omega
    ·have au:¬(600:Int)<(U:Int):=fun q=>c2 (ue q);exact⟨_,m3,U,w2,aa,_,_,_,rfl,s3,l3,i3,g3 (by omega) (by omega),by omega,ak,rfl⟩
  refine⟨_,rfl,y,"tuple",tyD e,jz e,rfl,hy.ty,jj e,_,rfl,?_⟩;cases e with
  |tup xs=>
   refine iteT ?_;obtain⟨a0,vs,rfl,ac,ag⟩:=hy;have lv:=ag.length;refine⟨_,rfl,_,vs.length,rfl,.inr ⟨vs,SqT.of ac,rfl⟩,_,_,rfl,rfl,_,rfl,?_⟩;refine ite2 (fun c=> ?_) (fun c=> ?_)
   ·have c':(vs.length:Int)<=40:=uk c;refine⟨_,rfl,_,_,rfl,rfl,?_⟩;refine⟨_,rfl,.inl ⟨rfl,_,SqL.of O⟩,_,rfl,a0,vs,rfl,SqT.of ac,fun av A0 ah=> ?_⟩;refine xg (tl:= [some (.int (j:Int))]) (fun Z=> .tup [Z,.int ((j+1:Nat):Int)]) ac ag (fits (by omega)) ah (fun Z x0 B R _ s3 i3 r=> ?_) fun B ys s3 l3 i3=> ?_
    ·refine⟨_,rfl,_,rfl,_,_,rfl,rfl,(by show 2<=sizeLine;decide),fun p hp=> ?_⟩
     exact r _ _ (qb hp _) (Is.new (ds:= [Z,.int ((j+1:Nat):Int)]) ⟨x0,_,rfl,i3,_,_,rfl,rfl,rfl⟩ hp)
    ·have ly:=i3.length;rw [uc] at ly;have eA:A0≠L:=fun z=>by rw [z,O] at ah;cases ah
     refine⟨L,A0,us,ys,rfl,rfl,s3 _ _ O,l3,fits (by omega),?_⟩
     have t4:Tk B (upd B L (.lst (us++ys))):=Tk.updL (s3 _ _ O);have em:(w'++xs.map fun Z=>(Z,j+1)).map pr=w'.map pr++xs.map fun Z=> .tup [Z,.int ((j+1:Nat):Int)]:=by
      rw [uw,uB];rfl
     have ef:(w'++xs.map fun Z=>(Z,j+1)).map (·.1)=w'.map (·.1)++xs:=by
      rw [uw,uB]
      congr 1
      exact List.map_id xs
     refine ad (n+1) (w'++xs.map fun Z=>(Z,j+1)) (us++ys) _ (fun b o z=>by rw [qi (qh z ai)];exact s3 b o (M b o z)) qe (by rw [em];exact((af.mono s3.tk).mono t4).append (i3.mono t4)) (fun h1 h2=> ?_) (fun h=> ?_) ?_ ?_
     ·rw [<-hG,G_tup (by omega) h1]
     ·rw [<-hG];rcases h with h|h
      ·exact G_deep h
      ·exact G_big1 h
     ·rw [ui,uc];omega
     ·rw [ef,hm,ju];simp only [nd];omega
   ·have c':¬(vs.length:Int)<=40:=fun q=>c (ue q);refine⟨_,rfl,_,.tup xs,rfl,(show Is _ (.tup xs) (.ref a0) from⟨a0,vs,rfl,ac,ag⟩),_,rfl,?_⟩
    refine iteF ?_;refine no M hG (G_bad ?_);simp only [good];rw [u8 (by omega)]
    rfl
  |str z=>
   refine iteF ?_;obtain⟨rfl,hz⟩:=hy;refine⟨_,rfl,_,.str z,rfl,⟨rfl,hz⟩,_,rfl,?_⟩;cases ht:Yh z with
   |false=>
    have e1:isTx (.str z)=false:=ht;rw [e1];refine iteF ?_;refine no M hG (G_bad ?_);simp only [good];exact ht
   |true=>
    have e1:isTx (.str z)=true:=ht;rw [e1];refine iteT ?_;refine⟨_,rfl,_,rfl,_,z.length,rfl,⟨hz,rfl⟩,_,_,rfl,rfl,_,_,rfl,rfl,?_⟩;have en:(n:Int)+(1+(z.length:Int))=((n+(1+z.length):Nat):Int):=by omega
    show∃ab,[some v,some (V.int ((n:Int)+(1+(z.length:Int)))),some (V.ref L),some x,some (V.str z),some (V.int (j:Int))][5]? =some (some ab)/\_;rw [en];refine ad (n+(1+z.length)) w' us _ M O af (fun h1 h2=> ?_) (fun h=> ?_) (by omega) (by rw [hm];simp only [nd];omega)
    ·rw [<-hG,G_str ht h1]
    ·rw [<-hG];rcases h with h|h
     ·exact G_deep h
     ·refine G_big ?_;simp only [sz];omega
  |_=>
   refine iteF ?_;refine⟨_,rfl,_,_,rfl,hy,_,rfl,?_⟩;exact iteF (no M hG (G_bad rfl))
def LET:Str:="abcdefghijklmnopqrstuvwxyz"
def NSG:Str:="abcdefghijklmnopqrstuvwxyz0123456789./"
noncomputable def nm (z:Str):Bool:=decide (1<=(z.length:Int))&&decide ((z.length:Int)<=24)&&inS ⟨#[z.cps.getD 0 0]⟩ LET&&(z.cps.toList.map fun c=>inS ⟨#[c]⟩ NSG).all id
def isNm:D->Bool
 | .str z=>nm z
 |_=>false
def sp_name:Sp:=fun vs H Q _=>∃v d,vs= [v]/\Is H d v/\∀H',Same H H'->Q (.bl (isNm d)) H'
theorem first_at {z:Str}(h:1<=z.length):atI z.cps.toList 0=some (z.cps.getD 0 0):=by
 have h':0<z.cps.size:=h;have q:z.cps.toList[0]? =some (z.cps.getD 0 0):=by simp [Array.getD,h']
 exact qm q
theorem allMap (z:Str):(z.cps.toList.map fun c=>V.bl (inS ⟨#[c]⟩ NSG))=(z.cps.toList.map fun c=>inS ⟨#[c]⟩ NSG).map V.bl:=by
 rw [uB]
 rfl
theorem nm_len {z:Str}(h:¬(1<=(z.length:Int)/\(z.length:Int)<=24)):nm z=false:=by
 unfold nm;by_cases h1:1<=(z.length:Int)
 ·have h2:¬(z.length:Int)<=24:=fun q=>h ⟨h1,q⟩;rw [u8 h2];simp
 ·rw [u8 h1];simp
theorem nm_first {z:Str}(h:inS ⟨#[z.cps.getD 0 0]⟩ LET=false):nm z=false:=by
 unfold nm;rw [h];simp
theorem nm_rest {z:Str}(h1:1<=(z.length:Int))(h2:(z.length:Int)<=24)(h:inS ⟨#[z.cps.getD 0 0]⟩ LET=true):nm z=(z.cps.toList.map fun c=>inS ⟨#[c]⟩ NSG).all id:=by
 unfold nm;rw [h,ue h1,ue h2];simp
theorem ok_name (T:Tx K mg a):FnOk P w K mg base CX0 1 a.f_is_name a.d_is_name ["value"] sp_name:=by
 refine T.g_is_name.F.ok sc_is_name () (fun _ _ _ _ H _ Q E hr h=> ?_)
 obtain⟨x,d,rfl,U,k⟩:=h;refine⟨_,(@qd _ _ _ _ _ (@qN _ _ _ _ _ _ _ _ (@j5 _ _ _ _ _ _ _ (@yx _ _ _ _ (@Qx _ _ _ (@qx _ _ _ _ _ _ _ _ _ (@qQ _ _ rfl) () T.qL vm (@qa _ _ _ _ _ (pv 0) (@qa _ _ _ _ _ (@Q5 _ _ (.ty "str") _ _ () T.z_str boot_str rfl () ()) qc ()) ()) () () () ()) ())) (@Yz _ _ _ _ (@yx _ _ _ _ (@pt_chain _ _ _ _ _ _ _ _ _ _ _ _ op_le op_le qg (@qx _ _ _ _ _ _ _ _ _ jK () T.j7 vn (@qa _ _ _ _ _ (pv 0) qc ()) () () () ()) (@pe_gI _ _ _ _ () T.jA ()) ())))).pt (@qf _ _ _ (@qo _ _ _ _ QI)) qr) (@qd _ _ _ _ _ (@qN _ _ _ _ _ _ _ _ (@qu _ _ _ _ _ _ _ _ op_notIn_str (@qG _ _ _ _ _ _ _ ix_str (pv 0) qg (fun _ _=>rfl)) (@pe_gS _ _ _ _ () T.m_LETTERS ()) (by with_unfolding_all rfl)) (@qf _ _ _ (@qo _ _ _ _ QI)) qr) (@qf _ _ _ (@qo _ _ _ _ (@qx _ _ _ _ _ _ _ _ _ (@JA _ rfl) () T.z_all boot_all (@qa _ _ _ _ _ (@JJ _ _ (["sign"]) (1) ([]) _ _ _ _ _ _ _ _ _ (lcs0) rfl (@pi_str _ _ _ _ (pv 0)) (fun _ _ _ _ _ _=>(@qw _ _ (0) _ (show List.Nodup (["sign"]:List Str) by decide+kernel) rfl (Or.inl rfl) ())) (fun _ _ _ _ _ _=> @yl _) (fun _ _ _ _ _ _=>(@QR _ _ _ _ _ _ _ _ op_in_str (pv 0) (@pe_gS _ _ _ _ () T.m_NAME_SIGNS ()) (by with_unfolding_all rfl))) ()) qc ()) () () () ()))))),?_⟩
 refine⟨_,rfl,x,"str",tyD d,isStr d,rfl,U.ty,kit_str d,_,rfl,?_⟩;cases hd:isStr d with
 |false=>
  refine iteT (iteT ?_);have:=k H (Same.refl H);have e:isNm d=false:=by cases d<;>first|rfl|simp [isStr] at hd
  rw [e] at this;exact this
 |true=>
  obtain⟨z,rfl⟩:∃z,d= .str z:=by cases d<;>simp [isStr] at hd;exact⟨_,rfl⟩
  obtain⟨rfl,hz⟩:=U;have k:∀H',Same H H'->Q (.bl (nm z)) H':=k;refine iteF ?_;refine⟨_,rfl,z,rfl,hz,_,_,rfl,rfl,_,rfl,?_⟩;have stop:nm z=false->Q (.bl false) H:=fun e=>by
   have:=k H (Same.refl H);rw [e] at this;exact this
  refine ite2 (fun L=> ?_) (fun L=> ?_)
  ·have M:1<=(z.length:Int):=uk L;refine⟨_,_,rfl,rfl,_,rfl,?_⟩;by_cases B:(z.length:Int)<=24
   ·rw [ue B];refine iteF ?_;refine⟨_,rfl,_,_,_,rfl,rfl,hz,first_at (by omega),_,_,rfl,rfl,_,rfl,?_⟩
    cases e:inS ⟨#[z.cps.getD 0 0]⟩ LET with
    |false=>
     have O:(!(Builtin.Str.occurrences ("abcdefghijklmnopqrstuvwxyz":Str) ⟨#[z.cps.getD 0 0]⟩ 0 ("abcdefghijklmnopqrstuvwxyz":Str).length 1).isEmpty)=false:=e;rw [O];refine iteT ?_;exact stop (nm_first e)
    |true=>
     have O:(!(Builtin.Str.occurrences ("abcdefghijklmnopqrstuvwxyz":Str) ⟨#[z.cps.getD 0 0]⟩ 0 ("abcdefghijklmnopqrstuvwxyz":Str).length 1).isEmpty)=true:=e;rw [O];refine iteF ?_;refine⟨_,rfl,z,rfl,fun D hD=> ?_⟩;refine lc_str (fun c=> .bl (inS ⟨#[c]⟩ NSG)) (hz) hD (fun i c H' R hc Y r=>⟨_,rfl,_,_,rfl,rfl,r⟩) fun H' Y Z=> ?_;refine⟨D,z.cps.toList.map fun c=>inS ⟨#[c]⟩ NSG,rfl,SqL.of (by rw [Z,allMap]),?_⟩
     have:=k H' Y;rw [nm_rest M B e] at this;exact this
   ·rw [u8 B];refine iteT ?_;exact stop (nm_len fun q=>B q.2)
  ·refine⟨_,rfl,?_⟩;refine iteT ?_;exact stop (nm_len fun q=>L (ue q.1))
end
theorem Qf {c:Bool}{A B:Prop}(h:c=false)(b:B):if c=true then A else B:=by rw [if_neg (by rw [h];exact ug)];exact b
theorem Qi {c:Bool}{A B:Prop}(h:c=true)(a:A):if c=true then A else B:=by rw [if_pos h];exact a
def yT:D->Bool
 | .non=>true
 |_=>false
theorem ji {H:Hp}{d:D}{u:V}(B:Is H d u)(L:d≠ .non):u≠ .non:=by
 rintro rfl;cases d with
 |non=>exact L rfl
 |bl b=>cases(show V.non= .bl b from B)
 |int i=>cases(show V.non= .int i from B)
 |str z=>obtain⟨h,_⟩:=B;cases h
 |lst=>obtain⟨_,_,h,_⟩:=B;cases h
 |dct=>obtain⟨_,_,h,_⟩:=B;cases h
 |tup xs=>obtain⟨_,_,h,_⟩:=B;cases h
theorem isT_dp {d:D}(h:isT d=true):dp d<=12:=by
 unfold isT at h;rw [Bool.and_eq_true] at h;exact uk h.2
mutual
theorem good_pu:∀{d:D},good d=true->puD d=true
 | .str _,_=>rfl
 | .tup xs,h=>by
  simp only [good,Bool.and_eq_true] at h;show puL xs=true;exact goodL_pu h.2
 | .non,h| .bl _,h| .int _,h| .lst,h| .dct,h=>by simp [good] at h
theorem goodL_pu:∀{xs:List D},goodL xs=true->puL xs=true
 | [],_=>rfl
 |x::r,h=>by
  simp only [goodL,Bool.and_eq_true] at h;simp only [puL,good_pu h.1,goodL_pu h.2,Bool.and_self]
end
theorem Xo {d:D}(h:isT d=true):good d=true:=by
 unfold isT at h;rw [Bool.and_eq_true,Bool.and_eq_true] at h;exact h.1.1
def isRow:D->Bool
 | .tup xs=>xs.all isNm
 |_=>false
noncomputable def ansB (u:Str)(a:D):Bool:=if yT a=true then decide (u="thing") else if isT a=true then(if u="has" then(["yes","no"]:List Str).any (fun z=>eqD a (.str z)) else decide (u="thing")||isRow a) else false
def isP:D->Bool
 | .tup xs=>decide (xs.length=2)
 |_=>false
def sp_rown:Sp:=fun vs H Q _=>∃(v:V) (d:D),vs= [v]/\Is H d v/\isT d=true/\∀H',Same H H'->Q (.bl (isRow d)) H'
def sp_isans:Sp:=fun vs H Q _=>∃(v1 v2:V) (u:Str) (d a:D),vs= [v1,v2]/\Is H (.tup [.str u,d]) v1/\Is H a v2/\∀H',Same H H'->Q (.bl (ansB u a)) H'
def sp_pair:Sp:=fun vs H Q _=>∃v d,vs= [v]/\Is H d v/\Q (.bl (isP d)) H
abbrev Rn:=List (D×D)×D
def prD (p:D×D):D:= .tup [p.1,p.2]
def rnD (r:Rn):D:= .tup [.tup (r.1.map prD),r.2]
def askB (u n:Str):Bool:=if u="names" then Yh n else decide (u∈(["thing","has"]:List Str))&&isNm (.str n)
def AskOk (q:D):Prop:=∃u n,q= .tup [.str u,.str n]/\askB u n=true
def PrOk (p:D×D):Prop:=∃u n,p.1= .tup [.str u,.str n]/\askB u n=true/\ansB u p.2=true
def Xd (e:D):Prop:=(∃d,e= .tup [.str "said",d]/\isT d=true)∨∃z∈FLT,e= .tup [.str "fault",.str z]
structure Jr (r:Rn):Prop where
 prs:∀p∈r.1,PrOk p
 en:Xd r.2
 len:r.1.length<=50
def askG (u:Str)(d:D):Bool:=if u="names" then isTx d else decide (u∈(["thing","has"]:List Str))&&isNm d
def endG (u:Str)(d:D):Bool:=if u="said" then isT d else decide (u="fault")&&FLT.any fun z=>eqD d (.str z)
def hd2:D->Str×D
 | .tup [.str u,d]=>(u,d)
 |d=>("",d)
def prG (p:D×D):Bool:=askG (hd2 p.1).1 (hd2 p.1).2&&ansB (hd2 p.1).1 p.2
def runB (r:Rn):Bool:=r.1.all prG&&endG (hd2 r.2).1 (hd2 r.2).2
def QS (q:D):Prop:=∃u d,q= .tup [.str u,d]
def ES (q:D):Prop:=∃u d,q= .tup [.str u,d]/\(u="fault"->okHd d=true/\dp d<=60)
structure RunS (r:Rn):Prop where
 prs:∀p∈r.1,QS p.1
 en:ES r.2
 len:r.1.length<=60
theorem PrOk.b {p:D×D}(h:PrOk p):prG p=true:=by
 obtain⟨u,n,e,h1,h2⟩:=h;unfold prG;rw [e,Bool.and_eq_true];exact⟨h1,h2⟩
theorem flt_in:∀z∈FLT,(FLT.any fun y=>eqD (.str z) (.str y))=true:=by decide+kernel
theorem Xd.b {e:D}(h:Xd e):endG (hd2 e).1 (hd2 e).2=true:=by
 rcases h with⟨d,rfl,hd⟩|⟨z,hz,rfl⟩
 ·show endG "said" d=true;unfold endG;rw [if_pos rfl];exact hd
 ·show endG "fault" (.str z)=true;unfold endG;rw [if_neg (by decide+kernel),flt_in z hz]
  rfl
theorem Jr.b {r:Rn}(h:Jr r):runB r=true:=by
 unfold runB;rw [Bool.and_eq_true];exact⟨List.all_eq_true.mpr fun p B=>(h.prs p B).b,h.en.b⟩
theorem Xd.s {e:D}(h:Xd e):ES e:=by
 rcases h with⟨d,rfl,hd⟩|⟨z,hz,rfl⟩
 ·exact⟨_,_,rfl,fun h=>absurd h (by decide+kernel)⟩
 ·exact⟨_,_,rfl,fun _=>⟨rfl,by simp [dp]⟩⟩
theorem Jr.s {r:Rn}(h:Jr r):RunS r:=⟨fun p B=>let⟨u,n,e,_⟩:=h.prs p B;⟨u,_,e⟩,h.en.s,by have:=h.len;omega⟩
def sp_ask:Sp:=fun vs H Q _=>∃v u d,vs= [v]/\Is H (.tup [.str u,d]) v/\∀H',Same H H'->Q (.bl (askG u d)) H'
def sp_end:Sp:=fun vs H Q _=>∃v e,vs= [v]/\ES e/\Is H e v/\∀H',Same H H'->Q (.bl (endG (hd2 e).1 (hd2 e).2)) H'
def sp_aask:Sp:=fun vs H Q _=>∃v p,vs= [v]/\QS p.1/\Is H (prD p) v/\∀H',Same H H'->Q (.bl (prG p)) H'
def sp_run:Sp:=fun vs H Q _=>∃v r,vs= [v]/\RunS r/\Is H (rnD r) v/\∀H',Same H H'->Q (.bl (runB r)) H'
section
variable {P:Program}{w:World}{K:PySem.W.Frag}{mg:Str->Option Value}{base:Heap}{a:Ad}{g:Ga}
theorem X0 (T:Tx K mg a):FnOk P w K mg base CX0 1 a.f_is_pair a.d_is_pair ["value"] sp_pair:=by
 refine T.g_is_pair.F.ok sc_is_pair () (fun _ _ _ _ H _ Q E Y h=> ?_)
 obtain⟨v,d,rfl,L,k⟩:=h;refine⟨_,(@qf _ _ _ (@qo _ _ _ _ (@JR _ _ _ _ _ _ _ (@qx _ _ _ _ _ _ _ _ _ (@qQ _ _ rfl) () T.qL vm (@qa _ _ _ _ _ (pv 0) (@qa _ _ _ _ _ (@Q5 _ _ (.ty "tuple") _ _ () T.QP Ue rfl () ()) qc ()) ()) () () () ()) (@xj _ _ _ _ _ (@QR _ _ _ _ _ _ _ _ yS (@qx _ _ _ _ _ _ _ _ _ call_lenZ () T.j7 vn (@qa _ _ _ _ _ (pv 0) qc ()) () () () ()) qg (qC _)))))),?_⟩
 refine⟨_,rfl,v,"tuple",tyD d,jz d,rfl,L.ty,jj d,_,rfl,?_⟩;cases M:jz d with
 |false=>
  refine iteF ?_;have e:isP d=false:=by cases d<;>first|rfl|simp [jz] at M
  rw [e] at k;exact k
 |true=>
  obtain⟨xs,rfl⟩:∃xs,d= .tup xs:=by cases d<;>simp [jz] at M;exact⟨_,rfl⟩
  obtain⟨p,us,rfl,O,B⟩:=L;have U:=B.length;refine iteT ⟨_,rfl,.inr ⟨p,us,rfl,.inr (SqT.of O),fun _=>⟨rfl,?_⟩⟩⟩;have e:decide (V.int (us.length:Int)=V.int 2)=isP (.tup xs):=by
   simp only [isP,uM];constructor
   ·intro h;have:=V.int.inj h;omega
   ·intro h;rw [U,h]
    rfl
  rw [<-e] at k;exact k
theorem ok_rown (T:Tx K mg a):FnOk P w K mg base CX0 2 a.yw a.yy ["tree"] sp_rown:=by
 have U:=ok_name (P:=P) (w:=w) (base:=base) T;refine T.g_is_row_of_names.F.ok YU () (fun _ _ _ _ H vs Q E Y h=> ?_)
 obtain⟨v,d,rfl,iv,Z,k⟩:=h;refine⟨_,(@qf _ _ _ (@qo _ _ _ _ (@JR _ _ _ _ _ _ _ (@qx _ _ _ _ _ _ _ _ _ (@qQ _ _ rfl) () T.qL vm (@qa _ _ _ _ _ (pv 0) (@qa _ _ _ _ _ (@Q5 _ _ (.ty "tuple") _ _ () T.QP Ue rfl () ()) qc ()) ()) () () () ()) (@xj _ _ _ _ _ (@qx _ _ _ _ _ _ _ _ _ (@JA _ rfl) () T.z_all boot_all (@qa _ _ _ _ _ (@JJ _ _ (["part"]) (1) ([]) _ _ _ _ _ _ _ _ _ (lcs0) rfl (@JE _ _ _ _ (pv 0)) (fun _ _ _ _ _ _=>(@qw _ _ (0) _ (show List.Nodup (["part"]:List Str) by decide+kernel) rfl (Or.inl rfl) ())) (fun _ _ _ _ _ _=> @yl _) (fun _ _ _ _ _ _=>(@ql _ _ _ _ _ _ _ _ _ _ _ _ _ _ _ _ U (Y.mono ()) () T.g_is_name.m T.g_is_name.F.kp T.g_is_name.b .nil qH (@qa _ _ _ _ _ (pv 0) qc ()) () () ())) ()) qc ()) () () () ()))))),?_⟩
 refine⟨_,rfl,v,"tuple",tyD d,jz d,rfl,iv.ty,jj _,?_⟩;cases d with
 |tup xs=>
  refine⟨_,rfl,iteT ?_⟩;obtain⟨a0,vs,rfl,B,L⟩:=iv;have hl:xs.length<=1000:=by
   have O:=Xo Z;simp only [good,Bool.and_eq_true] at O;have:=uk O.1;omega
  refine⟨_,rfl,a0,vs,rfl,SqT.of B,fun aa A0 M=> ?_⟩;refine xg (tl:= []) (fun d=> .bl (isNm d)) B L (yb hl) M (fun d0 x0 H3 R ab s3 i3 r=> ?_) fun H1 ys s1 l1 i1=> ?_
  ·exact⟨_,rfl,x0,d0,rfl,i3,fun H4 s4=>r _ H4 s4 rfl⟩
  have ey:ys=(xs.map isNm).map V.bl:=IsL.bls (by rw [uB];exact i1)
  refine⟨A0,xs.map isNm,rfl,SqL.of (by rw [l1,ey]),?_⟩
  have:(xs.map isNm).all id=isRow (.tup xs):=by rw [Ug];rfl
  rw [this];exact k H1 s1
 |str z=>exact⟨_,rfl,iteF (k H (Same.refl _))⟩
 |non=>exact⟨_,rfl,iteF (k H (Same.refl _))⟩
 |int z=>exact⟨_,rfl,iteF (k H (Same.refl _))⟩
 |bl z=>exact⟨_,rfl,iteF (k H (Same.refl _))⟩
 |lst=>exact⟨_,rfl,iteF (k H (Same.refl _))⟩
 |dct=>exact⟨_,rfl,iteF (k H (Same.refl _))⟩
theorem ok_isans (T:Tx K mg a):FnOk P w K mg base CX0 3 a.Jt a.Jc ["ask","answer"] sp_isans:=by
 have Jo:=xU (P:=P) (w:=w) (base:=base) T;have jm:=ok_rown (P:=P) (w:=w) (base:=base) T;refine T.g_is_answer.F.ok sc_is_answer () (fun _ _ _ _ H _ Q E O h=> ?_)
 obtain⟨v1,M,u,d,an,rfl,U,L,k⟩:=h;refine⟨_,(@qd _ _ _ _ _ (@qN _ _ _ _ _ _ _ _ (@qu _ _ _ _ _ _ _ _ jY (pv 1) Qh (qC _)) (@qf _ _ _ (@qo _ _ _ _ (@QR _ _ _ _ _ _ _ _ yS (@qG _ _ _ _ _ _ _ ix_seq (pv 0) qg (fun _ _=>rfl)) qF (qC _)))) qr) (@qd _ _ _ _ _ (@qN _ _ _ _ _ _ _ _ (@yx _ _ _ _ (@Qx _ _ _ (@ql _ _ _ _ _ _ _ _ _ _ _ _ _ _ _ _ Jo (O.mono ()) () T.g_is_tree.m T.g_is_tree.F.kp T.g_is_tree.b .nil qH (@qa _ _ _ _ _ (pv 1) qc ()) () () ()) ())) (@qf _ _ _ (@qo _ _ _ _ QI)) qr) (@qd _ _ _ _ _ (@qN _ _ _ _ _ _ _ _ (@qu _ _ _ _ _ _ _ _ yS (@qG _ _ _ _ _ _ _ ix_seq (pv 0) qg (fun _ _=>rfl)) qF (qC _)) (@qf _ _ _ (@qo _ _ _ _ (@QR _ _ _ _ _ _ _ _ (@op_inM _ O.units) (pv 1) (@qy _ _ _ _ _ (@qa _ _ _ _ _ qF (@qa _ _ _ _ _ qF qc ()) ())) (by with_unfolding_all rfl)))) qr) (@qf _ _ _ (@qo _ _ _ _ (@pe_or _ _ _ _ _ _ _ (@QR _ _ _ _ _ _ _ _ yS (@qG _ _ _ _ _ _ _ ix_seq (pv 0) qg (fun _ _=>rfl)) qF (qC _)) (@xj _ _ _ _ _ (@ql _ _ _ _ _ _ _ _ _ _ _ _ _ _ _ _ jm (O.mono ()) () T.g_is_row_of_names.m T.g_is_row_of_names.F.kp T.g_is_row_of_names.b .nil qH (@qa _ _ _ _ _ (pv 1) qc ()) () () ())))))))),?_⟩
 have Y:(2:Nat)<=sizeLine:=by decide
 have es:∀y:Str,decide (V.str u=V.str y)=decide (u=y):=fun y=>by
  rw [uM];exact⟨fun h=>by injection h,fun h=>by rw [h]⟩
 have Z:∀{H:Hp}{Q:VK},Is H (.tup [.str u,d]) v1->Q (.str u) H->rIxT K v1 (.int 0) H Q:=fun{H Q} i q=>ix_is (i:=0) (d:= .str u) i (qm (j:=0) rfl) fun x hx=>by
  obtain⟨rfl,_⟩:=hx;exact q
 refine⟨_,rfl,rfl,_,rfl,?_⟩;unfold ansB at k;by_cases cn:an= .non
 ·subst cn;cases(show M= .non from L)
  refine Qi (by decide+kernel) ?_
  refine⟨_,rfl,.inr (.inl (Z U ⟨rfl,?_⟩))⟩;rw [es];exact k H (Same.refl _)
 ·have aa:M≠ .non:=ji L cn;have ab:yT an=false:=by
   cases an with
   |non=>exact absurd rfl cn
   |_=>rfl
  rw [ab,if_neg ug] at k;refine Qf (u8 aa) ?_;refine⟨_,rfl,M,an,rfl,L,fun H1 s1=>⟨_,rfl,?_⟩⟩;by_cases B:isT an=true
  ·rw [if_pos B] at k;rw [B];refine iteF ?_;refine⟨_,rfl,.inr (.inl (Z (U.mono s1.tk) ⟨rfl,_,rfl,?_⟩))⟩;rw [es];by_cases ch:u="has"
   ·rw [if_pos ch] at k;refine Qi (ue ch) ?_;refine⟨_,rfl,Y,fun t1 h1=> ?_⟩;have s2:=qb h1 (.tup [.str "yes",.str "no"]);refine⟨an,t1,["yes","no"],(L.mono s1.tk).mono s2.tk,rfl,.inr (SqT.of qe),?_,?_,?_,k _ (s1.trans s2)⟩
    ·intro z hz;simp only [uP,v6,UA] at hz;rcases hz with rfl|rfl<;>decide+kernel
    ·have hg:=Xo B;cases an with
     |non=>rfl
     |str z=>rfl
     |tup xs=>
      show puL xs=true;simp only [good,Bool.and_eq_true] at hg;exact goodL_pu hg.2
     |_=>simp [good] at hg
    ·have:=isT_dp B;omega
   ·rw [if_neg ch] at k;refine Qf (u8 ch) ?_;refine⟨_,rfl,.inr (.inl (Z (U.mono s1.tk) ⟨rfl,?_⟩))⟩;refine⟨_,rfl,?_⟩;rw [es];by_cases ct:u="thing"
    ·rw [ue ct] at k⊢;refine iteT ?_;exact k _ s1
    ·rw [u8 ct] at k⊢;refine iteF ?_;exact⟨_,rfl,M,an,rfl,L.mono s1.tk,B,fun H2 s2=>k H2 (s1.trans s2)⟩
  ·rw [if_neg B] at k;have:isT an=false:=by
    cases h:isT an with
    |true=>exact absurd h B
    |false=>rfl
   rw [this];exact iteT (k _ s1)
theorem es (u y:Str):decide (V.str u=V.str y)=decide (u=y):=by
 rw [uM];exact⟨fun h=>by injection h,fun h=>by rw [h]⟩
theorem gi {K:PySem.W.Frag}{σ:L2.St}{H:Hp}{ds:List D}{v:V}{i:Int}{d:D}{Q:VK}(h:Is H (.tup ds) v)(hi:atI ds i=some d)(q:∀x,Is H d x->Q x H):(fun x H1=>tC (V.int i) σ H1 fun y H2=>rIxT K x y H2 Q) v H:=ix_is h hi q
theorem ok_ask (T:Tx K mg a):FnOk P w K mg base CX0 2 a.f_is_ask a.d_is_ask ["value"] sp_ask:=by
 have U:=X0 (P:=P) (w:=w) (base:=base) T;have Y:=ok_name (P:=P) (w:=w) (base:=base) T;have Z:=xL (P:=P) (w:=w) (base:=base) T;refine T.g_is_ask.F.ok sc_is_ask () (fun _ _ _ s H _ Q E L h=> ?_)
 obtain⟨v,u,d,rfl,iv,k⟩:=h;refine⟨_,(@qd _ _ _ _ _ (@qN _ _ _ _ _ _ _ _ (@yx _ _ _ _ (@Qx _ _ _ (@ql _ _ _ _ _ _ _ _ _ _ _ _ _ _ _ _ U (L.mono ()) () T.g_is_pair.m T.g_is_pair.F.kp T.g_is_pair.b .nil qH (@qa _ _ _ _ _ (pv 0) qc ()) () () ()) ())) (@qf _ _ _ (@qo _ _ _ _ QI)) qr) (@qd _ _ _ _ _ (@qN _ _ _ _ _ _ _ _ (@qu _ _ _ _ _ _ _ _ yS (@qG _ _ _ _ _ _ _ qD (pv 0) qg (fun _ _=>rfl)) qF (qC _)) (@qf _ _ _ (@qo _ _ _ _ (@ql _ _ _ _ _ _ _ _ _ _ _ _ _ _ _ _ Z (L.mono ()) () T.g_is_text.m T.g_is_text.F.kp T.g_is_text.b .nil qH (@qa _ _ _ _ _ (@qG _ _ _ _ _ _ _ qD (pv 0) qg (fun _ _=>rfl)) qc ()) () () ()))) qr) (@qf _ _ _ (@qo _ _ _ _ (@JR _ _ _ _ _ _ _ (@QR _ _ _ _ _ _ _ _ xl (@qG _ _ _ _ _ _ _ qD (pv 0) qg (fun _ _=>rfl)) (@qy _ _ _ _ _ (@qa _ _ _ _ _ qF (@qa _ _ _ _ _ qF qc ()) ())) (by with_unfolding_all rfl)) (@xj _ _ _ _ _ (@ql _ _ _ _ _ _ _ _ _ _ _ _ _ _ _ _ Y (L.mono ()) () T.g_is_name.m T.g_is_name.F.kp T.g_is_name.b .nil qH (@qa _ _ _ _ _ (@qG _ _ _ _ _ _ _ qD (pv 0) qg (fun _ _=>rfl)) qc ()) () () ()))))))),?_⟩
 have M:(2:Nat)<=sizeLine:=by decide
 refine⟨_,rfl,v,_,rfl,iv,_,rfl,iteF ?_⟩;refine⟨_,rfl,?_⟩;refine gi (i:=0) (d:= .str u) iv (qm (j:=0) rfl) fun x hx=> ?_;obtain⟨rfl,aa⟩:=hx;refine⟨rfl,_,rfl,?_⟩;rw [es];unfold askG at k;by_cases c:u="names"
 ·rw [if_pos c] at k;refine Qi (ue c) ?_;refine⟨_,rfl,?_⟩;refine gi (i:=1) (d:=d) iv (qm (j:=1) rfl) fun x hx=>⟨x,d,rfl,hx,?_⟩;exact k H (Same.refl _)
 ·rw [if_neg c] at k;refine Qf (u8 c) ?_;refine⟨_,rfl,?_⟩;refine gi (i:=0) (d:= .str u) iv (qm (j:=0) rfl) fun x hx=> ?_;obtain⟨rfl,_⟩:=hx;refine⟨M,fun t ht=> ?_⟩;have s1:=qb ht (.tup [.str "thing",.str "has"]);refine⟨t,_,rfl,.inr (SqT.of qe),rfl,rfl,_,rfl,?_⟩;have O:inV (.str u) ((["thing","has"]:List Str).map V.str)=decide (u∈(["thing","has"]:List Str)):=inV_str ..;cases B:decide (u∈(["thing","has"]:List Str)) with
  |true=>
   refine Qi (O.trans B) ?_;refine⟨_,rfl,?_⟩;refine gi (i:=1) (d:=d) (iv.mono s1.tk) (qm (j:=1) rfl) fun x hx=>⟨x,d,rfl,hx,fun H' s'=> ?_⟩;have:=k H' (s1.trans s');rw [B] at this;exact this
  |false=>
   refine Qf (O.trans B) ?_;have:=k _ s1;rw [B] at this;exact this
theorem ok_end (T:Tx K mg a)(C:Fx K w mg g a):FnOk P w K mg base CX0 3 a.f_is_end a.d_is_end ["value"] sp_end:=by
 have U:=X0 (P:=P) (w:=w) (base:=base) T;have Y:=xU (P:=P) (w:=w) (base:=base) T;refine T.g_is_end.F.ok sc_is_end () (fun _ _ _ s H _ Q E L h=> ?_)
 obtain⟨v,e,rfl,⟨u,d,rfl,O⟩,iv,k⟩:=h;refine⟨_,(@qd _ _ _ _ _ (@qN _ _ _ _ _ _ _ _ (@yx _ _ _ _ (@Qx _ _ _ (@ql _ _ _ _ _ _ _ _ _ _ _ _ _ _ _ _ U (L.mono ()) () T.g_is_pair.m T.g_is_pair.F.kp T.g_is_pair.b .nil qH (@qa _ _ _ _ _ (pv 0) qc ()) () () ()) ())) (@qf _ _ _ (@qo _ _ _ _ QI)) qr) (@qd _ _ _ _ _ (@qN _ _ _ _ _ _ _ _ (@qu _ _ _ _ _ _ _ _ yS (@qG _ _ _ _ _ _ _ qD (pv 0) qg (fun _ _=>rfl)) qF (qC _)) (@qf _ _ _ (@qo _ _ _ _ (@ql _ _ _ _ _ _ _ _ _ _ _ _ _ _ _ _ Y (L.mono ()) () T.g_is_tree.m T.g_is_tree.F.kp T.g_is_tree.b .nil qH (@qa _ _ _ _ _ (@qG _ _ _ _ _ _ _ qD (pv 0) qg (fun _ _=>rfl)) qc ()) () () ()))) qr) (@qf _ _ _ (@qo _ _ _ _ (@JR _ _ _ _ _ _ _ (@QR _ _ _ _ _ _ _ _ yS (@qG _ _ _ _ _ _ _ qD (pv 0) qg (fun _ _=>rfl)) qF (qC _)) (@xj _ _ _ _ _ (@QR _ _ _ _ _ _ _ _ (@op_inM _ L.units) (@qG _ _ _ _ _ _ _ qD (pv 0) qg (fun _ _=>rfl)) (@pe_gR _ _ _ _ () C.m_FAULTS ()) (by with_unfolding_all rfl)))))))),?_⟩
 have k:∀H',Same H H'->Q (.bl (endG u d)) H':=k;refine⟨_,rfl,v,_,rfl,iv,_,rfl,iteF ?_⟩;refine⟨_,rfl,?_⟩;refine gi (i:=0) (d:= .str u) iv (qm (j:=0) rfl) fun x hx=> ?_;obtain⟨rfl,M⟩:=hx;refine⟨rfl,_,rfl,?_⟩;rw [es];unfold endG at k;by_cases c:u="said"
 ·rw [if_pos c] at k;refine Qi (ue c) ?_;refine⟨_,rfl,?_⟩;exact gi (i:=1) (d:=d) iv (qm (j:=1) rfl) fun x hx=>⟨x,d,rfl,hx,fun H' s'=>k H' s'⟩
 ·rw [if_neg c] at k;refine Qf (u8 c) ?_;refine⟨_,rfl,?_⟩;refine gi (i:=0) (d:= .str u) iv (qm (j:=0) rfl) fun x hx=> ?_;obtain⟨rfl,M⟩:=hx;refine⟨rfl,_,rfl,?_⟩;rw [es];by_cases B:u="fault"
  ·rw [ue B] at k;refine Qi (ue B) ?_;refine⟨_,rfl,?_⟩;refine gi (i:=1) (d:=d) iv (qm (j:=1) rfl) fun x hx=> ?_;exact⟨d,_,FLT,hx,rfl,.inr (C.faults H),by decide+kernel,(O B).1,(O B).2,k H (Same.refl _)⟩
  ·rw [u8 B] at k;refine Qf (u8 B) ?_;exact k H (Same.refl _)
theorem ok_aask (T:Tx K mg a):FnOk P w K mg base CX0 4 a.yp a.yq ["value"] sp_aask:=by
 have U:=X0 (P:=P) (w:=w) (base:=base) T;have L:=ok_ask (P:=P) (w:=w) (base:=base) T;have B:=ok_isans (P:=P) (w:=w) (base:=base) T;refine T.g_is_answered_ask.F.ok Y2 () (fun _ _ _ _ H _ Q E M h=> ?_)
 obtain⟨v,⟨q,an⟩,rfl,⟨u,d,h1⟩,iv,k⟩:=h;cases h1;refine⟨_,(@qf _ _ _ (@qo _ _ _ _ (@JR _ _ _ _ _ _ _ (@ql _ _ _ _ _ _ _ _ _ _ _ _ _ _ _ _ U (M.mono ()) () T.g_is_pair.m T.g_is_pair.F.kp T.g_is_pair.b .nil qH (@qa _ _ _ _ _ (pv 0) qc ()) () () ()) (@JR _ _ _ _ _ _ _ (@ql _ _ _ _ _ _ _ _ _ _ _ _ _ _ _ _ L (M.mono ()) () T.g_is_ask.m T.g_is_ask.F.kp T.g_is_ask.b .nil qH (@qa _ _ _ _ _ (@qG _ _ _ _ _ _ _ qD (pv 0) qg (fun _ _=>rfl)) qc ()) () () ()) (@xj _ _ _ _ _ (@ql _ _ _ _ _ _ _ _ _ _ _ _ _ _ _ _ B (M.mono ()) () T.g_is_answer.m T.g_is_answer.F.kp T.g_is_answer.b .nil qH (@qa _ _ _ _ _ (@qG _ _ _ _ _ _ _ qD (pv 0) qg (fun _ _=>rfl)) (@qa _ _ _ _ _ (@qG _ _ _ _ _ _ _ qD (pv 0) qg (fun _ _=>rfl)) qc ()) ()) () () ())))))),?_⟩
 have k:∀H',Same H H'->Q (.bl (askG u d&&ansB u an)) H':=k;refine⟨_,rfl,v,_,rfl,iv,_,rfl,iteT ?_⟩;refine⟨_,rfl,?_⟩;refine gi (i:=0) (d:= .tup [.str u,d]) iv (qm (j:=0) rfl) fun x hx=>⟨x,u,d,rfl,hx,fun H1 s1=> ?_⟩;refine⟨_,rfl,?_⟩;cases O:askG u d with
 |false=>
  rw [O] at k;exact iteF (k _ s1)
 |true=>
  rw [O] at k;refine iteT ⟨_,rfl,?_⟩;refine gi (i:=0) (d:= .tup [.str u,d]) (iv.mono s1.tk) (qm (j:=0) rfl) fun x hx=> ?_;refine⟨_,rfl,?_⟩;refine gi (i:=1) (d:=an) (iv.mono s1.tk) (qm (j:=1) rfl) fun y Y=> ?_;exact⟨x,y,u,_,an,rfl,hx,Y,fun H2 s2=>k H2 (s1.trans s2)⟩
theorem ok_run (T:Tx K mg a)(C:Fx K w mg g a):FnOk P w K mg base CX0 5 a.f_is_run a.d_is_run ["value"] sp_run:=by
 have Q8:=X0 (P:=P) (w:=w) (base:=base) T;have B:=ok_end (P:=P) (w:=w) (base:=base) T C;have jE:=ok_aask (P:=P) (w:=w) (base:=base) T;refine T.g_is_run.F.ok sc_is_run () (fun _ _ _ _ H vs Q E O h=> ?_)
 obtain⟨v,⟨ps,e⟩,rfl,hR,iv,k⟩:=h;refine⟨_,(@qd _ _ _ _ _ (@qN _ _ _ _ _ _ _ _ (@j5 _ _ _ _ _ _ _ (@yx _ _ _ _ (@Qx _ _ _ (@ql _ _ _ _ _ _ _ _ _ _ _ _ _ _ _ _ Q8 (O.mono ()) () T.g_is_pair.m T.g_is_pair.F.kp T.g_is_pair.b .nil qH (@qa _ _ _ _ _ (pv 0) qc ()) () () ()) ())) (@Yz _ _ _ _ (@yx _ _ _ _ (@Qx _ _ _ (@qx _ _ _ _ _ _ _ _ _ (@qQ _ _ rfl) () T.qL vm (@qa _ _ _ _ _ (@qG _ _ _ _ _ _ _ qD (pv 0) qg (fun _ _=>rfl)) (@qa _ _ _ _ _ (@Q5 _ _ (.ty "tuple") _ _ () T.QP Ue rfl () ()) qc ()) ()) () () () ()) ())))).pt (@qf _ _ _ (@qo _ _ _ _ QI)) qr) (@qf _ _ _ (@qo _ _ _ _ (@JR _ _ _ _ _ _ _ (@qx _ _ _ _ _ _ _ _ _ (@JA _ rfl) () T.z_all boot_all (@qa _ _ _ _ _ (@JJ _ _ (["pair"]) (1) ([]) _ _ _ _ _ _ _ _ _ (lcs0) rfl (@JE _ _ _ _ (@qG _ _ _ _ _ _ _ qD (pv 0) qg (fun _ _=>rfl))) (fun _ _ _ _ _ _=>(@qw _ _ (0) _ (show List.Nodup (["pair"]:List Str) by decide+kernel) rfl (Or.inl rfl) ())) (fun _ _ _ _ _ _=> @yl _) (fun _ _ _ _ _ _=>(@ql _ _ _ _ _ _ _ _ _ _ _ _ _ _ _ _ jE (O.mono ()) () T.g_is_answered_ask.m T.g_is_answered_ask.F.kp T.g_is_answered_ask.b .nil qH (@qa _ _ _ _ _ (pv 0) qc ()) () () ())) ()) qc ()) () () () ()) (@xj _ _ _ _ _ (@ql _ _ _ _ _ _ _ _ _ _ _ _ _ _ _ _ B (O.mono ()) () T.g_is_end.m T.g_is_end.F.kp T.g_is_end.b .nil qH (@qa _ _ _ _ _ (@qG _ _ _ _ _ _ _ qD (pv 0) qg (fun _ _=>rfl)) qc ()) () () ())))))),?_⟩
 have L:Is H (.tup [.tup (ps.map prD),e]) v:=iv;have k:∀H',Same H H'->Q (.bl (ps.all prG&&endG (hd2 e).1 (hd2 e).2)) H':=k;refine⟨_,rfl,v,_,rfl,iv,_,rfl,iteF ?_⟩;refine⟨_,rfl,?_⟩;refine gi (i:=0) (d:= .tup (ps.map prD)) L (qm (j:=0) rfl) fun x hx=> ?_;refine⟨x,"tuple",tyD (.tup (ps.map prD)),jz (.tup (ps.map prD)),rfl,hx.ty,jj _,_,rfl,iteF ?_⟩;refine⟨_,rfl,?_⟩;refine gi (i:=0) (d:= .tup (ps.map prD)) L (qm (j:=0) rfl) fun x hx=> ?_;obtain⟨a0,vs,rfl,M,U⟩:=hx;have hl:(ps.map prD).length<=1000:=by have:=hR.len;simp only [uc] at this⊢;omega
 refine⟨a0,vs,rfl,SqT.of M,fun aa A0 Y=> ?_⟩;refine xg (tl:= []) (fun d=>match d with| .tup [q,c]=> .bl (prG (q,c))|d=>d) M U (yb hl) Y (fun d0 x0 H3 R Z s3 i3 r=> ?_) fun H1 ys s1 l1 i1=> ?_
 ·obtain⟨p,hp,rfl⟩:=List.mem_map.mp Z;exact⟨_,rfl,x0,p,rfl,hR.prs p hp,i3,fun H4 s4=>r _ H4 s4 rfl⟩
 have ey:ys=(ps.map prG).map V.bl:=IsL.bls (by rw [uB] at i1⊢;exact i1)
 refine⟨A0,ps.map prG,rfl,SqL.of (by rw [l1,ey]),?_⟩
 have:(ps.map prG).all id=ps.all prG:=by rw [Ug];rfl
 rw [this];refine⟨_,rfl,?_⟩;cases hb:ps.all prG with
 |false=>
  rw [hb] at k;exact iteF (k _ s1)
 |true=>
  rw [hb] at k;refine iteT ⟨_,rfl,?_⟩;exact gi (i:=1) (d:=e) (L.mono s1.tk) (qm (j:=1) rfl) fun x hx=>⟨x,e,rfl,hR.en,hx,fun H2 s2=>k H2 (s1.trans s2)⟩
mutual
def lw:D->Bool
 | .str _=>true
 | .tup xs=>lwL xs
 |_=>false
def lwL:List D->Bool
 | []=>true
 |x::r=>lw x&&lwL r
end
mutual
def keyD:D->D
 | .tup xs=> .tup [.int 2,.tup (keyL xs)]
 |d=> .tup [.int 1,d]
def keyL:List D->List D
 | []=> []
 |x::r=>keyD x::keyL r
end
theorem keyL_map:∀xs:List D,keyL xs=xs.map keyD
 | []=>rfl
 |x::r=>by simp only [keyL,um,keyL_map r]
mutual
def lkD:D->D
 | .tup xs=> .tup [.int 1,.tup (lkL xs)]
 |d=> .tup [.int 0,d]
def lkL:List D->List D
 | []=> []
 |x::r=>lkD x::lkL r
end
theorem lkL_map:∀xs:List D,lkL xs=xs.map lkD
 | []=>rfl
 |x::r=>by simp only [lkL,um,lkL_map r]
theorem dpL_mem:∀{xs:List D}{x:D},x∈xs->dp x<=dpL xs
 |y::r,x,h=>by
  simp only [dpL];rcases List.mem_cons.mp h with rfl|h
  ·omega
  ·have:=dpL_mem h;omega
theorem dp_row {xs:List D}{x:D}(h:x∈xs):dp x<dp (.tup xs):=by
 have:=dpL_mem h;simp only [dp];omega
theorem lwL_mem:∀{xs:List D}{x:D},lwL xs=true->x∈xs->lw x=true
 | [],_,_,h=>nomatch h
 |y::r,x,h,hx=>by
  have h':lw y=true/\lwL r=true:=by simpa [lwL] using h
  rcases List.mem_cons.mp hx with rfl|hx
  ·exact h'.1
  ·exact lwL_mem h'.2 hx
def ANS:List D:= [.non,.str "",.str "no",.str "qqqqqqqqqqqqqqqqqqqq",.str "x",.str "yes",.tup [],.tup [.str "a"],.tup [.str "a",.str "b1"],.tup [.tup [.str "x"],.str "b1"]]
def aR (d:D):Nat:=ANS.findIdx fun x=>eqN x d
def akL:D->List D
 | .tup xs=> [.int 2,.tup (keyL xs)]
 | .non=> [.int 0]
 |d=> [.int 1,d]
def loD:D->D
 | .non=> .tup [.int 0]
 |d=> .tup [.int 1,lkD d]
theorem XA {p:D->Bool}(h:ANS.all p=true):∀x∈ANS,p x=true:=List.all_eq_true.mp h
theorem XY {p:D->D->Bool}(h:(ANS.all fun x=>ANS.all fun y=>p x y)=true):∀x∈ANS,∀y∈ANS,p x y=true:=fun x hx=>List.all_eq_true.mp (List.all_eq_true.mp h x hx)
theorem ans_lw:∀d∈ANS,d≠ .non->lw d=true/\dp d<=6/\keyD d= .tup (akL d):=by
 intro d hd hn;simp only [ANS,uP,v6,UA] at hd;rcases hd with rfl|rfl|rfl|rfl|rfl|rfl|rfl|rfl|rfl|rfl<;>first|exact absurd rfl hn|exact⟨by decide+kernel,by decide+kernel,by simp [keyD,akL]⟩
theorem ans_k:∀d∈ANS,(kD d&&decide (dp d<=3))=true:=XA (by decide+kernel)
theorem ans_ak:∀d∈ANS,(puL (akL d)&&decide (dpL (akL d)<=20))=true:=XA (by decide+kernel)
theorem ans_hd (d:D):∃n r,akL d= .int n::r:=by cases d<;>simp only [akL]<;>exact⟨_,_,rfl⟩
theorem ans_lt:∀x∈ANS,∀y∈ANS,decide (ltL (akL x) (akL y)=some (decide (aR x<aR y)))=true:=XY (by decide+kernel)
theorem ans_lo:∀x∈ANS,∀y∈ANS,((eqD (loD x) (loD y)==decide (aR x=aR y))&&(decide (aR x=aR y)||decide (ltD (loD x) (loD y)=some (decide (aR x<aR y)))))=true:=XY (by decide+kernel)
theorem ans_lp:∀d∈ANS,(puD (loD d)&&decide (dp (loD d)<=10))=true:=XA (by decide+kernel)
theorem ans_inj1:∀x∈ANS,∀y∈ANS,(!decide (aR x=aR y)||eqN x y)=true:=XY (by decide+kernel)
theorem ans_ten:∀d∈ANS,decide (aR d<10)=true:=XA (by decide+kernel)
theorem jq {x y:D}(hx:x∈ANS)(B:y∈ANS)(h:aR x=aR y):x=y:=by
 have:=ans_inj1 x hx y B;rw [ue h,Bool.not_true,Bool.false_or] at this;have hk:=ans_k x hx;rw [Bool.and_eq_true] at hk;exact(Ql (kD_n hk.1)).mp this
def xJ (n:Nat):Sp:=fun vs H Q _=>∃(v:V) (d:D),vs= [v]/\Is H d v/\lw d=true/\dp d<n/\∀(u:V) (H':Hp),Same H H'->Is H' (keyD d) u->Q u H'
def jv (n:Nat):Sp:=fun vs H Q _=>∃(v:V) (d:D),vs= [v]/\Is H d v/\lw d=true/\dp d<n/\∀(u:V) (H':Hp),Same H H'->Is H' (lkD d) u->Q u H'
def sp_akey:Sp:=fun vs H Q _=>∃(v:V) (d:D),vs= [v]/\d∈ANS/\Is H d v/\∀(u:V) (H':Hp),Same H H'->Is H' (.tup (akL d)) u->Q u H'
theorem key_none {f:Addr}{fd:FuncData}{l:Nat}:FnOk P w K mg base CX0 l f fd ["tree"] (xJ 0):=by
 have B:∀vs H Q E,¬xJ 0 vs H Q E:=fun vs H Q E h=>by
  obtain⟨p,k,_,_,_,h1,_⟩:=h;omega
 exact⟨fun vs H Q E h=>absurd h (B vs H Q E),fun A outer s H args us vs Q E _ _ _ _ h=>absurd h (B vs H Q E)⟩
theorem ok_key1 (T:Tx K mg a){n:Nat}(jp:FnOk P w K mg base CX0 (n+1) a.yu a.yB ["tree"] (xJ n)):FnOk P w K mg base CX0 (n+2) a.yu a.yB ["tree"] (xJ (n+1)):=by
 refine T.g_tree_key.F.ok sc_tree_key () (fun _ _ _ _ H vs Q E hr h=> ?_)
 obtain⟨v,d,rfl,Z,B,hd,k⟩:=h;refine⟨_,(@qd _ _ _ _ _ (@qN _ _ _ _ _ _ _ _ (@Qx _ _ _ (@qx _ _ _ _ _ _ _ _ _ (@qQ _ _ rfl) () T.qL vm (@qa _ _ _ _ _ (pv 0) (@qa _ _ _ _ _ (@Q5 _ _ (.ty "tuple") _ _ () T.QP Ue rfl () ()) qc ()) ()) () () () ()) ()) (@qf _ _ _ (@qo _ _ _ _ (@qy _ _ _ _ _ (@qa _ _ _ _ _ qg (@qa _ _ _ _ _ (@Qo _ _ _ _ _ _ _ _ _ Qk () T.QP Ue (@qa _ _ _ _ _ (@JJ _ _ (["part"]) (1) ([]) _ _ _ _ _ _ _ _ _ (lcs0) rfl (@JE _ _ _ _ (pv 0)) (fun _ _ _ _ _ _=>(@qw _ _ (0) _ (show List.Nodup (["part"]:List Str) by decide+kernel) rfl (Or.inl rfl) ())) (fun _ _ _ _ _ _=> @yl _) (fun _ _ _ _ _ _=>(@ql _ _ _ _ _ _ _ _ _ _ _ _ _ _ _ _ jp (hr.mono ()) () T.g_tree_key.m T.g_tree_key.F.kp T.g_tree_key.b .nil qH (@qa _ _ _ _ _ (pv 0) qc ()) () () ())) ()) qc ()) () () () ()) qc ()) ())))) qr) (@qf _ _ _ (@qo _ _ _ _ (@qy _ _ _ _ _ (@qa _ _ _ _ _ qg (@qa _ _ _ _ _ (pv 0) qc ()) ()))))),?_⟩
 refine⟨_,rfl,v,"tuple",tyD d,jz d,rfl,Z.ty,jj d,_,rfl,?_⟩;cases ht:jz d with
 |true=>
  refine iteT ?_;cases d with
  |tup xs=>
   obtain⟨a0,vs,rfl,L,M⟩:=Z;have lv:=M.length;have aa:lwL xs=true:=by simpa only [lw] using B
   refine⟨_,rfl,a0,vs,rfl,SqT.of L,fun ad A0 ab=> ?_⟩;have ac:xs.length<=sizeLine:=by omega
   refine xg (tl:= []) keyD L M ac ab (fun d0 x0 H3 R O s3 i3 r=> ?_) fun H1 ys s1 l1 i1=> ?_
   ·refine⟨_,rfl,x0,d0,rfl,i3,lwL_mem aa O,?_,fun u H4 s4 h4=>r u H4 s4 h4⟩;have:=dp_row O;omega
   ·refine⟨A0,ys,rfl,.inl ⟨SqL.of l1,fun t U=>⟨(by show 2<=sizeLine;decide),fun p Y=> ?_⟩⟩⟩
    have e:keyD (.tup xs)= .tup [.int 2,.tup (keyL xs)]:=by simp only [keyD]
    have i2:Is (upd H1 t (.tup ys)) (.tup (keyL xs)) (.ref t):=by rw [keyL_map];exact Is.new i1 U
    refine k (.ref p) _ ((s1.trans (qb U _)).trans (qb Y _)) ?_;rw [e];exact Is.new (ds:= [.int 2,.tup (keyL xs)]) ⟨_,_,rfl,rfl,_,_,rfl,i2,rfl⟩ Y
  |_=>simp [jz] at ht
 |false=>
  refine iteF ?_;cases d with
  |str z=>
   refine⟨_,rfl,(by show 2<=sizeLine;decide),fun p Y=>k _ _ (qb Y _) ?_⟩
   have e:keyD (.str z)= .tup [.int 1,.str z]:=by simp only [keyD]
   rw [e];exact Is.new (ds:= [.int 1,.str z]) ⟨_,_,rfl,rfl,_,_,rfl,Z,rfl⟩ Y
  |tup xs=>simp [jz] at ht
  |_=>simp [lw] at B
theorem ok_key (T:Tx K mg a):∀n:Nat,FnOk P w K mg base CX0 (n+1) a.yu a.yB ["tree"] (xJ n)
 |0=>key_none
 |n+1=>ok_key1 T (ok_key T n)
theorem lkey_none {f:Addr}{fd:FuncData}{l:Nat}:FnOk P w K mg base CX0 l f fd ["tree"] (jv 0):=by
 have B:∀vs H Q E,¬jv 0 vs H Q E:=fun vs H Q E h=>by
  obtain⟨p,k,_,_,_,h1,_⟩:=h;omega
 exact⟨fun vs H Q E h=>absurd h (B vs H Q E),fun A outer s H args us vs Q E _ _ _ _ h=>absurd h (B vs H Q E)⟩
theorem ok_lkey1 (T:Tx K mg a){n:Nat}(JW:FnOk P w K mg base CX0 (n+1) a.Yg a.yU ["tree"] (jv n)):FnOk P w K mg base CX0 (n+2) a.Yg a.yU ["tree"] (jv (n+1)):=by
 refine T.g_law_key.F.ok sc_law_key () (fun _ _ _ _ H vs Q E hr h=> ?_)
 obtain⟨v,d,rfl,Z,B,hd,k⟩:=h;refine⟨_,(@qd _ _ _ _ _ (@qN _ _ _ _ _ _ _ _ (@Qx _ _ _ (@qx _ _ _ _ _ _ _ _ _ (@qQ _ _ rfl) () T.qL vm (@qa _ _ _ _ _ (pv 0) (@qa _ _ _ _ _ (@Q5 _ _ (.ty "str") _ _ () T.z_str boot_str rfl () ()) qc ()) ()) () () () ()) ()) (@qf _ _ _ (@qo _ _ _ _ (@qy _ _ _ _ _ (@qa _ _ _ _ _ qg (@qa _ _ _ _ _ (pv 0) qc ()) ())))) qr) (@qf _ _ _ (@qo _ _ _ _ (@qy _ _ _ _ _ (@qa _ _ _ _ _ qg (@qa _ _ _ _ _ (@Qo _ _ _ _ _ _ _ _ _ Qk () T.QP Ue (@qa _ _ _ _ _ (@JJ _ _ (["part"]) (1) ([]) _ _ _ _ _ _ _ _ _ (lcs0) rfl (@JE _ _ _ _ (pv 0)) (fun _ _ _ _ _ _=>(@qw _ _ (0) _ (show List.Nodup (["part"]:List Str) by decide+kernel) rfl (Or.inl rfl) ())) (fun _ _ _ _ _ _=> @yl _) (fun _ _ _ _ _ _=>(@ql _ _ _ _ _ _ _ _ _ _ _ _ _ _ _ _ JW (hr.mono ()) () T.g_law_key.m T.g_law_key.F.kp T.g_law_key.b .nil qH (@qa _ _ _ _ _ (pv 0) qc ()) () () ())) ()) qc ()) () () () ()) qc ()) ()))))),?_⟩
 refine⟨_,rfl,v,"str",tyD d,isStr d,rfl,Z.ty,kit_str d,_,rfl,?_⟩;cases d with
 |tup xs=>
  refine iteF ?_;obtain⟨a0,vs,rfl,L,M⟩:=Z;have lv:=M.length;have aa:lwL xs=true:=by simpa only [lw] using B
  refine⟨_,rfl,a0,vs,rfl,SqT.of L,fun ad A0 ab=> ?_⟩;have ac:xs.length<=sizeLine:=by omega
  refine xg (tl:= []) lkD L M ac ab (fun d0 x0 H3 R O s3 i3 r=> ?_) fun H1 ys s1 l1 i1=> ?_
  ·refine⟨_,rfl,x0,d0,rfl,i3,lwL_mem aa O,?_,fun u H4 s4 h4=>r u H4 s4 h4⟩;have:=dp_row O;omega
  ·refine⟨A0,ys,rfl,.inl ⟨SqL.of l1,fun t U=>⟨(by show 2<=sizeLine;decide),fun p Y=> ?_⟩⟩⟩
   have e:lkD (.tup xs)= .tup [.int 1,.tup (lkL xs)]:=by simp only [lkD]
   have i2:Is (upd H1 t (.tup ys)) (.tup (lkL xs)) (.ref t):=by rw [lkL_map];exact Is.new i1 U
   refine k (.ref p) _ ((s1.trans (qb U _)).trans (qb Y _)) ?_;rw [e];exact Is.new (ds:= [.int 1,.tup (lkL xs)]) ⟨_,_,rfl,rfl,_,_,rfl,i2,rfl⟩ Y
 |str z=>
  refine iteT ?_;refine⟨_,rfl,(by show 2<=sizeLine;decide),fun p Y=>k _ _ (qb Y _) ?_⟩
  have e:lkD (.str z)= .tup [.int 0,.str z]:=by simp only [lkD]
  rw [e];exact Is.new (ds:= [.int 0,.str z]) ⟨_,_,rfl,rfl,_,_,rfl,Z,rfl⟩ Y
 |_=>simp [lw] at B
theorem ok_lkey (T:Tx K mg a):∀n:Nat,FnOk P w K mg base CX0 (n+1) a.Yg a.yU ["tree"] (jv n)
 |0=>lkey_none
 |n+1=>ok_lkey1 T (ok_lkey T n)
theorem ok_akey (T:Tx K mg a):FnOk P w K mg base CX0 9 a.jO a.jT ["answer"] sp_akey:=by
 have O:FnOk P w K mg base CX0 8 a.yu a.yB ["tree"] (xJ 7):=ok_key T 7;refine T.g_answer_key.F.ok Xw () (fun _ _ _ s H _ Q E U h=> ?_)
 obtain⟨v,d,rfl,hm,B,k⟩:=h;refine⟨_,(@qf _ _ _ (@qo _ _ _ _ (@pe_ifExp _ _ _ _ _ _ _ _ (@qu _ _ _ _ _ _ _ _ jY (pv 0) Qh (qC _)) (@qy _ _ _ _ _ (@qa _ _ _ _ _ qg qc ())) (@ql _ _ _ _ _ _ _ _ _ _ _ _ _ _ _ _ O (U.mono ()) () T.g_tree_key.m T.g_tree_key.F.kp T.g_tree_key.b .nil qH (@qa _ _ _ _ _ (pv 0) qc ()) () () ())))),?_⟩
 refine⟨_,rfl,rfl,_,rfl,?_⟩;by_cases L:d= .non
 ·subst L;cases(show v= .non from B)
  refine Qi (by decide+kernel) ?_
  exact⟨(by show 1<=sizeLine;decide),fun p M=>k _ _ (qb M _) (Is.new (ds:= [.int 0]) ⟨_,_,rfl,rfl,rfl⟩ M)⟩
 ·refine Qf (u8 (ji B L)) ?_;obtain⟨Y,l2,Z⟩:=ans_lw d hm L;refine⟨_,rfl,v,d,rfl,B,Y,by omega,fun u H' s' i'=>k u H' s' ?_⟩
  rw [<-Z];exact i'
def ans (r:Rn):List D:=r.1.map (·.2)
def thr (r:Rn)(i:Nat):D:=match r.1[i]? with
 |some p=> .tup [.str "asks",p.1]
 |none=>r.2
def isAsk:D->Bool
 | .tup (.str z::_)=>decide (z="asks")
 |_=>false
def Fit (r r':Rn):Prop:=∀p,p<+:ans r->p<+:ans r'->thr r p.length=thr r' p.length
def Fits (rs:List Rn):Prop:=∀r∈rs,∀r'∈rs,Fit r r'
structure RunA (r:Rn):Prop where
 ok:Jr r
 an:∀c∈ans r,c∈ANS
theorem qU (r:Rn):(ans r).length=r.1.length:=by simp [ans]
theorem end_no {e:D}(h:Xd e):isAsk e=false:=by
 rcases h with⟨d,rfl,_⟩|⟨z,_,rfl⟩<;>rfl
theorem yW {r:Rn}{i:Nat}(h:r.1.length<=i):thr r i=r.2:=by unfold thr;rw [List.getElem?_eq_none h]
theorem Q3 {r:Rn}{i:Nat}{p:D×D}(h:r.1[i]? =some p):thr r i= .tup [.str "asks",p.1]:=by unfold thr;rw [h]
theorem QO {r:Rn}{i:Nat}(B:Jr r):isAsk (thr r i)=decide (i<r.1.length):=by
 by_cases c:i<r.1.length
 ·rw [Q3 (u0 c),ue c];rfl
 ·rw [yW (by omega),u8 c];exact end_no B.en
theorem QH {p l:List D}{c:D}:p++ [c]<+:l↔p<+:l/\l[p.length]? =some c:=by
 constructor
 ·rintro⟨t,rfl⟩;exact⟨⟨c::t,by simp⟩,by simp⟩
 ·rintro⟨⟨t,rfl⟩,h⟩;rw [vB (Nat.le_refl _),Nat.sub_self] at h;cases t with
  |nil=>simp at h
  |cons x t=>
   simp at h;subst h;exact⟨t,by simp⟩
theorem yR {r:Rn}{i:Nat}:(ans r)[i]? =r.1[i]?.map (·.2):=by unfold ans;rw [uj]
theorem XD {r r':Rn}(h:Jr r)(h':Jr r')(f:Fit r r')(p:ans r<+:ans r'):r=r':=by
 have e:=f _ (U2 _) p;have M:r'.1.length<=r.1.length:=by
  rcases uZ r.1.length r'.1.length with c|c
  ·have:=congrArg isAsk e;rw [qU,QO h,QO h',ue c,u8 (by omega)] at this
   cases this
  ·exact c
 have pl:=p.length_le;rw [qU,qU] at pl;have B:ans r=ans r':=p.eq_of_length (by rw [qU,qU];omega)
 rw [qU,yW (Nat.le_refl _),yW M] at e;refine Prod.ext (List.ext_getElem (by omega) fun i h1 h2=> ?_) e
 have t:=f ((ans r).take i) (vr _ _) (by rw [B];exact vr _ _)
 rw [uq,qU,Nat.min_eq_left (by omega),Q3 (u0 h1),Q3 (u0 h2)] at t
 have L:(ans r)[i]? =(ans r')[i]? :=by rw [B]
 rw [yR,yR,u0 h1,u0 h2] at L;refine Prod.ext ?_ (by simpa using L)
 simpa using t
def rk (r:Rn):List Nat:=(ans r).map aR
def Srt (rs:List Rn):Prop:=rs.Pairwise fun r r'=>rk r<rk r'
theorem uniq {α:Type}{R:α->α->Prop}(ir:∀x y,R x y->R y x->False):∀{l B:List α},l.Pairwise R->B.Pairwise R->(∀x,x∈l↔x∈B)->l=B
 | [],[],_,_,_=>rfl
 | [],y::_,_,_,h=>absurd ((h y).mpr u5) (by simp)
 |x::_,[],_,_,h=>absurd ((h x).mp u5) (by simp)
 |x::l,y::B,h1,h2,h=>by
  rw [List.pairwise_cons] at h1 h2;have e:x=y:=uY fun n=>by
   have L:=(h x).mp u5;have M:=(h y).mpr u5;rcases List.mem_cons.mp L with c|c
   ·exact n c
   rcases List.mem_cons.mp M with d|d
   ·exact n d.symm
   exact ir _ _ (h1.1 y d) (h2.1 x c)
  subst e;rw [uniq ir h1.2 h2.2 fun z=> ?_];constructor
  ·intro hz;rcases List.mem_cons.mp ((h z).mp (u4 _ hz)) with c|c
   ·subst c;exact(ir _ _ (h1.1 z hz) (h1.1 z hz)).elim
   ·exact c
  ·intro hz;rcases List.mem_cons.mp ((h z).mpr (u4 _ hz)) with c|c
   ·subst c;exact(ir _ _ (h2.1 z hz) (h2.1 z hz)).elim
   ·exact c
theorem XJ {l B:List Rn}(h1:Srt l)(h2:Srt B)(h:∀x,x∈l↔x∈B):l=B:=uniq (fun x y a b=>List.lt_asymm a b) h1 h2 h
theorem cut_min {α:Type}{f:α->Nat}{m:Nat}:∀{L:List α},L.Pairwise (fun x y=>f x<=f y)->(∀x∈L,m<=f x)->L=L.filter (fun x=>decide (f x=m))++L.filter (fun x=> !decide (f x=m))
 | [],_,_=>rfl
 |x::L,h,hm=>by
  rw [List.pairwise_cons] at h;by_cases c:f x=m
  ·rw [List.filter_cons_of_pos (by simpa using c),List.filter_cons_of_neg (by simpa using c),U0,<-cut_min h.2 fun y B=>hm y (u4 _ B)]
  ·have U:m<f x:=Nat.lt_of_le_of_ne (hm x u5) (Ua c);have M:(x::L).filter (fun x=>decide (f x=m))= []:=by
    rw [List.filter_eq_nil_iff];intro y B;rcases List.mem_cons.mp B with rfl|B
    ·simpa using c
    ·have:=h.1 y B;simp only [uF];omega
   have O:(x::L).filter (fun x=> !decide (f x=m))=x::L:=by
    rw [List.filter_eq_self];intro y B;rcases List.mem_cons.mp B with rfl|B
    ·simpa using c
    ·have:=h.1 y B;simp only [Bool.not_eq_true',decide_eq_false_iff_not];omega
   rw [M,O,List.nil_append]
theorem cut_all {α:Type}{f:α->Nat}:∀{ks:List D}{L:List α},L.Pairwise (fun x y=>f x<=f y)->ks.Pairwise (fun c d=>aR c<aR d)->(∀x∈L,∃c∈ks,f x=aR c)->L=ks.flatMap fun c=>L.filter fun x=>decide (f x=aR c)
 | [],[],_,_,_=>rfl
 | [],x::L,_,_,h=>by obtain⟨c,B,_⟩:=h x u5;cases B
 |c::ks,L,h,hk,B=>by
  rw [List.pairwise_cons] at hk;rw [vG];have e:=cut_min (m:=aR c) h fun x hx=>by
   obtain⟨d,hd,e⟩:=B x hx;rcases List.mem_cons.mp hd with rfl|hd
   ·omega
   ·have:=hk.1 d hd;omega
  have M:=cut_all (ks:=ks) (L:=L.filter fun x=> !decide (f x=aR c)) (h.filter _) hk.2 fun x hx=>by
   rw [UT] at hx;obtain⟨d,hd,O⟩:=B x hx.1;rcases List.mem_cons.mp hd with rfl|hd
   ·have:=hx.2;rw [ue O] at this;cases this
   ·exact⟨d,hd,O⟩
  have U:(ks.flatMap fun d=>(L.filter fun x=> !decide (f x=aR c)).filter fun x=>decide (f x=aR d))=ks.flatMap fun d=>L.filter fun x=>decide (f x=aR d):=by
   rw [List.flatMap,List.flatMap]
   congr 1
   refine Uj fun d hd=> ?_;rw [List.filter_filter];refine List.filter_congr fun x _=> ?_;have:=hk.1 d hd;by_cases q:f x=aR d
   ·rw [ue q,u8 (by omega)];rfl
   ·rw [u8 q];rfl
  rw [U] at M;rw [<-M];exact e
theorem lt_pre:∀{l:List Nat}{a b:Nat}{s t:List Nat},l++a::s<l++b::t->a<=b
 | [],a,b,s,t,h=>by
  rcases List.cons_lt_cons_iff.mp h with h|⟨h,_⟩<;>omega
 |x::l,a,b,s,t,h=>by
  rcases List.cons_lt_cons_iff.mp h with h|⟨_,h⟩
  ·omega
  ·exact lt_pre h
theorem putF_le (f:Str)(v:V):∀fs:List (Str×V),(putF f v fs).length<=fs.length+1
 | []=>Nat.le_refl _
 |(g,x)::r=>by
  unfold putF;by_cases c:g=f
  ·rw [if_pos c];simp
  ·rw [if_neg c];have:=putF_le f v r;simp only [ul];omega
theorem XG {f:Str}{v:V}:∀{fs:List (Str×V)}{u:V},fs.lookup f=some u->(putF f v fs).length=fs.length
 |(g,x)::r,u,h=>by
  unfold putF;by_cases c:g=f
  ·rw [if_pos c];rfl
  ·rw [if_neg c,ul,ul];have e:(f==g)=false:=by simp;exact fun z=>c z.symm
   rw [uT,e] at h;rw [XG (u:=u) h]
 | [],u,h=>by simp at h
structure Ini (n:Nat)(H:Hp)(C x dx:Addr)(fs:List (Str×V))(H':Hp):Prop where
 len:fs.length<=n
 at':H' x=some (.ins C dx fs)
 kept:∀b o,H b=some o->b≠x->H' b=some o
theorem Ini.put {n:Nat}{H H':Hp}{C x dx:Addr}{fs:List (Str×V)}(I:Ini n H C x dx fs H')(f:Str)(v:V):Ini (n+1) H C x dx (putF f v fs) (upd H' x (.ins C dx (putF f v fs)))/\Tk H' (upd H' x (.ins C dx (putF f v fs))):=
 ⟨⟨v8 (putF_le f v fs) (Nat.succ_le_succ I.len),qe,fun b o h n=>by rw [qi n];exact I.kept b o h n⟩,Tk.updI I.at'⟩
theorem Ini.same {n:Nat}{H H' H2:Hp}{C x dx:Addr}{fs:List (Str×V)}(I:Ini n H C x dx fs H')(s:Same H' H2):Ini n H C x dx fs H2:=⟨I.len,s _ _ I.at',fun b o h n=>s _ _ (I.kept b o h n)⟩
theorem slG_back {K:PySem.W.Frag}{H:Hp}{ds:List D}{v:V}{n:Nat}{Q:VK}(L:Is H (.tup ds) v)(hn:n<=ds.length)(q:∀t H',Same H H'->Is H' (.tup (ds.drop n)) t->Q t H'):rSlG K v (some (n:Int)) none H Q:=by
 obtain⟨a,vs,rfl,ha,B⟩:=id L;have Y:=B.length;refine⟨a,_,rfl,SqT.of ha,fun e=> ?_,fun _ p M=> ?_⟩
 ·have O:=e.1;rw [HT.sIx_nat] at O;have U:n=0:=by omega
  refine q _ _ (Same.refl _) ?_;rw [U,List.drop_zero];exact L
 ·rw [cutV_drop (by omega)]
  exact q _ _ (qb M _) (Is.new (B.drop n) M)
theorem gsl {K:PySem.W.Frag}{σ:L2.St}{H:Hp}{ds:List D}{v:V}{n:Nat}{Q:VK}(B:Is H (.tup ds) v)(hn:n<=ds.length)(q:∀t H',Same H H'->Is H' (.tup (ds.drop n)) t->Q t H'):(fun l H2=>tNoPart σ H2 fun u L=>rSlG K v l u L Q) (some (n:Int)) H:=slG_back B hn q
structure Nf (fs:List (Str×V))(tv:V)(ed:Addr)(wv gv:V):Prop where
 there:fs.lookup ("there":Str)=some tv
 edges:fs.lookup ("edges":Str)=some (.ref ed)
 way:fs.lookup ("way":Str)=some wv
 givers:fs.lookup ("givers":Str)=some gv
 len:fs.length<=10
theorem nf_new {v gv wv:V}{ed:Addr}{fs:List (Str×V)}(e:fs=putF "givers" gv (putF "way" wv (putF "edges" (.ref ed) (putF "there" v []))))(B:fs.length<=10):Nf fs v ed wv gv:=by
 subst e;refine⟨?_,?_,?_,?_,B⟩
 all_goals simp only [Q7]
 all_goals repeat first|rw [if_pos trivial]|rw [if_pos rfl]|rw [if_neg (by decide+kernel)]
theorem Nf.set_way {fs:List (Str×V)}{tv wv gv u:V}{ed:Addr}(h:Nf fs tv ed wv gv):Nf (putF "way" u fs) tv ed u gv:=by
 refine⟨?_,?_,?_,?_,by rw [XG h.way];exact h.len⟩
 all_goals rw [Q7]
 all_goals first|rw [if_pos rfl]|(rw [if_neg (by decide+kernel)];first|exact h.there|exact h.edges|exact h.givers)
theorem Nf.set_givers {fs:List (Str×V)}{tv wv gv u:V}{ed:Addr}(h:Nf fs tv ed wv gv):Nf (putF "givers" u fs) tv ed wv u:=by
 refine⟨?_,?_,?_,?_,by rw [XG h.givers];exact h.len⟩
 all_goals rw [Q7]
 all_goals first|rw [if_pos rfl]|(rw [if_neg (by decide+kernel)];first|exact h.there|exact h.edges|exact h.way)
def gD (gs:List Int):D:= .tup (gs.map D.int)
def NdAt (C:Addr)(H:Hp)(x:Addr)(t:D)(ed:Addr)(wy:Option (D×D)):Prop:=∃(dx:Addr) (fs:List (Str×V)) (tv wv gv:V),H x=some (.ins C dx fs)/\Nf fs tv ed wv gv/\Is H t tv/\(wy=none->wv= .non)/\∀d,wy=some d->Is H d.1 wv/\Is H d.2 gv
theorem NdAt.move {C:Addr}{H H':Hp}{x:Addr}{t:D}{ed:Addr}{B:Option (D×D)}(h:NdAt C H x t ed B)(tk:Tk H H')(e:∀o,H x=some o->H' x=some o):NdAt C H' x t ed B:=
 let⟨dx,fs,tv,wv,gv,h1,h2,h3,h4,h5⟩:=h;⟨dx,fs,tv,wv,gv,e _ h1,h2,h3.mono tk,h4,fun d hd=>⟨(h5 d hd).1.mono tk,(h5 d hd).2.mono tk⟩⟩
theorem NdAt.same {C:Addr}{H H':Hp}{x:Addr}{t:D}{ed:Addr}{B:Option (D×D)}(h:NdAt C H x t ed B)(s:Same H H'):NdAt C H' x t ed B:=h.move s.tk fun o e=>s _ _ e
theorem NdAt.some {C:Addr}{H:Hp}{x:Addr}{t:D}{ed:Addr}{B:Option (D×D)}(h:NdAt C H x t ed B):∃o,H x=some o:=let⟨_,_,_,_,_,h1,_⟩:=h;⟨_,h1⟩
def wyr (gf:Rn->List Int)(r:Rn)(i:Nat):Option (D×D):=if r.1.length<=i then some (rnD r,gD (gf r)) else none
structure JY (w:World)(C:Addr)(gf:Rn->List Int)(H0 H:Hp)(r:Rn)(k:Nat)(nn ee:Nat->Addr):Prop where
 nd:∀j,k<=j->j<=r.1.length->NdAt C H (nn j) (thr r j) (ee j) (wyr gf r j)
 kd:∀j,k<=j->j<=r.1.length->∃kvs,DAt w H (ee j) kvs/\kvs.map (·.1)=((ans r)[j]?).toList/\∀x∈kvs,x.2.2= .ref (nn (j+1))
 fr:∀j,k<=j->j<=r.1.length->H0 (nn j)=none/\H0 (ee j)=none
 ni:∀i j,k<=i->i<=r.1.length->k<=j->j<=r.1.length->nn i=nn j->i=j
 ei:∀i j,k<=i->i<=r.1.length->k<=j->j<=r.1.length->ee i=ee j->i=j
theorem QF {H0 H:Hp}(s:Same H0 H){x:Addr}(h:H x=none):H0 x=none:=by
 cases e:H0 x with
 |none=>rfl
 |some o=>rw [s _ _ e] at h;cases h
theorem JY.cons {w:World}{C:Addr}{gf:Rn->List Int}{H0 H H':Hp}{r:Rn}{k:Nat}{nn ee:Nat->Addr}(c:JY w C gf H0 H r (k+1) nn ee)(M:Same H0 H)(s:Same H H')(hk:k<r.1.length){x ed:Addr}(hx:H x=none)(O:H ed=none)
  (n:NdAt C H' x (thr r k) ed none) {kvs:List (D×V×V)} (g:DAt w H' ed kvs) (Y:kvs.map (·.1)=((ans r)[k]?).toList) (Z:∀x∈kvs,x.2.2= .ref (nn (k+1))):
  JY w C gf H0 H' r k (fun j=>if j=k then x else nn j) (fun j=>if j=k then ed else ee j):=by
 have nx:∀j,k+1<=j->j<=r.1.length->nn j≠x:=fun j h1 h2 e=>by
  obtain⟨o,U⟩:=(c.nd j h1 h2).some;rw [e,hx] at U;cases U
 have L:∀j,k+1<=j->j<=r.1.length->ee j≠ed:=fun j h1 h2 e=>by
  obtain⟨_,g,_⟩:=c.kd j h1 h2;have:=g.here;rw [e,O] at this;cases this
 refine⟨fun j h1 h2=> ?_,fun j h1 h2=> ?_,fun j h1 h2=> ?_,fun i j h1 h2 h3 h4 e=> ?_,fun i j h1 h2 h3 h4 e=> ?_⟩
 ·by_cases q:j=k
  ·subst q;simp only [if_true];unfold wyr;rw [if_neg (by omega)]
   exact n
  ·simp only [if_neg q];exact(c.nd j (by omega) h2).same s
 ·simp only [if_neg (show j+1≠k by omega)]
  by_cases q:j=k
  ·subst q;simp only [if_true];exact⟨kvs,g,Y,Z⟩
  ·simp only [if_neg q];obtain⟨kvs,g,e1,e2⟩:=c.kd j (by omega) h2
   exact⟨kvs,g.same s,e1,e2⟩
 ·by_cases q:j=k
  ·subst q;simp only [if_true];exact⟨QF M hx,QF M O⟩
  ·simp only [if_neg q];exact c.fr j (by omega) h2
 ·by_cases q:i=k
  ·by_cases B:j=k
   ·omega
   ·simp only [if_pos q,if_neg B] at e;exact absurd e.symm (nx j (by omega) h4)
  ·by_cases B:j=k
   ·simp only [if_neg q,if_pos B] at e;exact absurd e (nx i (by omega) h2)
   ·simp only [if_neg q,if_neg B] at e;exact c.ni i j (by omega) h2 (by omega) h4 e
 ·by_cases q:i=k
  ·by_cases B:j=k
   ·omega
   ·simp only [if_pos q,if_neg B] at e;exact absurd e.symm (L j (by omega) h4)
  ·by_cases B:j=k
   ·simp only [if_neg q,if_pos B] at e;exact absurd e (L i (by omega) h2)
   ·simp only [if_neg q,if_neg B] at e;exact c.ei i j (by omega) h2 (by omega) h4 e
def sp_ninit (w:World)(C:Addr):Sp:=fun vs H Q _=>∃(x dx:Addr) (v:V),vs= [.ref x,v]/\H x=some (.ins C dx [])/\∀(ed:Addr) (gv:V) (fs:List (Str×V)) (H':Hp),(∀b o,H b=some o->b≠x->H' b=some o)->H' x=some (.ins C dx fs)->Nf fs v ed .non gv->H ed=none->DAt w H' ed []->Q .non H'
def sp_tinit (C:Addr):Sp:=fun vs H Q _=>∃(x dx:Addr),vs= [.ref x]/\H x=some (.ins C dx [])/\∀(fs:List (Str×V)),fs= [(("beginning":Str),V.non)]->Q .non (upd H x (.ins C dx fs))
def sp_branch (w:World)(C:Addr):Sp:=fun vs H Q _=>∃(v gv:V) (r:Rn) (k:Nat) (gf:Rn->List Int),vs= [v,gv,.int (k:Int)]/\Is H (rnD r) v/\Is H (gD (gf r)) gv/\RunA r/\k<=r.1.length/\∀(nn ee:Nat->Addr) (H':Hp),Same H H'->JY w C gf H H' r k nn ee->Q (.ref (nn k)) H'
theorem new_same {H H2:Hp}{x dx:Addr}{L M:HO}(hx:H x=none)(B:H dx=none)(kept:∀b o,(upd (upd H dx L) x M) b=some o->b≠x->H2 b=some o):Same H H2:=
 fun b o e=>kept b o (by rw [qi (qh e hx),qi (qh e B)];exact e) (qh e hx)
theorem tk_ext {w:World}{H:Hp}{a:Addr}{kvs B:List (D×V×V)}(h:DAt w H a kvs):Tk H (upd H a (dExt w a B)):=
 ⟨fun b xs e=>by rw [qi (fun z=>by rw [z,h.here] at e;cases e)];exact e,fun b xs e=>⟨xs,by rw [qi (fun z=>by rw [z,h.here] at e;cases e)];exact e⟩,fun b xs e=>⟨xs,by rw [qi (fun z=>by rw [z,h.here] at e;cases e)];exact e⟩⟩
theorem ok_ninit (T:Tx K mg a):FnOk P w K mg base CX0 1 a.YE a.Jq ["self","there"] (sp_ninit w a.qB):=by
 refine T.g_Node_init.F.ok sc_Node_init () (fun _ _ _ _ H _ Q E hr h=> ?_)
 obtain⟨x,dx,v,rfl,hx,k⟩:=h;refine⟨_,(@qd _ _ _ _ _ (@ja _ _ _ _ _ _ _ _ (pv 0) (pv 1) rfl) (@qd _ _ _ _ _ (@ja _ _ _ _ _ _ _ _ (pv 0) (@pe_newD _ _ (w) rfl) rfl) (@qd _ _ _ _ _ (@ja _ _ _ _ _ _ _ _ (pv 0) Qh rfl) (@qf _ _ _ (@ja _ _ _ _ _ _ _ _ (pv 0) (@qy _ _ _ _ _ qc) rfl))))),?_⟩;have I0:Ini 0 H a.qB x dx [] H:=⟨Nat.le_refl _,hx,fun b o h _=>h⟩;refine⟨_,rfl,_,rfl,x,_,dx,[],rfl,hx,T.qV,T.q9,by decide,?_⟩
 obtain⟨I1,t1⟩:=I0.put "there" v;intro ed B;have O:=I1.same (qb B (dExt w ed []));have d2:DAt w (upd (upd H x (.ins a.qB dx (putF "there" v []))) ed (dExt w ed [])) ed []:=⟨qe,fun p hp=>absurd hp (by simp),List.nodup_nil⟩
 have L:ed≠x:=(qh I1.at' B).symm;have M:H ed=none:=by rw [qi L] at B;exact B
 refine⟨_,rfl,x,_,dx,_,rfl,O.at',T.qV,T.qJ,by have:=O.len;omega,?_⟩
 obtain⟨U,t3⟩:=O.put "edges" (.ref ed);have d3:=d2.keep t3 (qi L);refine⟨_,rfl,x,_,dx,_,rfl,U.at',T.qV,T.Yi,by have:=U.len;omega,?_⟩
 obtain⟨I4,t4⟩:=U.put "way" .non;have d4:=d3.keep t4 (qi L);refine⟨(by show 0<=sizeLine;decide),fun gp Y=> ?_⟩
 have s5:=qb Y (.tup []);have Z:=I4.same s5;have d5:=d4.same s5;refine⟨_,rfl,x,_,dx,_,rfl,Z.at',T.qV,T.Qz,by have:=Z.len;omega,?_⟩
 obtain⟨I6,t6⟩:=Z.put "givers" (.ref gp);have d6:=d5.keep t6 (qi L);exact k ed (.ref gp) _ _ I6.kept I6.at' (nf_new rfl (by have:=I6.len;omega)) M d6
theorem ok_tinit (T:Tx K mg a):FnOk P w K mg base CX0 1 a.yi a.Yv ["self"] (sp_tinit a.qk):=by
 refine T.g_AskTree_init.F.ok Js () (fun _ _ _ _ H _ Q E B h=> ?_)
 obtain⟨x,dx,rfl,hx,k⟩:=h;refine⟨_,(@qf _ _ _ (@ja _ _ _ _ _ _ _ _ (pv 0) Qh rfl)),?_⟩;refine⟨_,rfl,x,_,dx,[],rfl,hx,T.qO,T.qt,by decide,?_⟩
 exact k _ rfl
theorem ok_branch (T:Tx K mg a):FnOk P w K mg base CX0 3 a.f_branch a.d_branch ["run","givers","place"] (sp_branch w a.qB):=by
 have JX:=ok_ninit (P:=P) (w:=w) (base:=base) T;refine T.g_branch.F.ok Ye () (fun _ _ _ _ H _ Q E hr h=> ?_)
 obtain⟨v,gv,r,k,gf,rfl,iv,ig,hR,hk,kQ⟩:=h;refine⟨_,(@qd _ _ _ _ _ (@qE _ _ (3) _ _ _ _ Ye.nd rfl (Or.inl rfl) (@pe_make _ _ _ _ _ _ _ _ _ _ _ _ _ _ _ _ _ T.M_Node JX (hr.mono ()) () T.m_Node T.g_Node_init.b .nil qH (@qa _ _ _ _ _ (@qG _ _ _ _ _ _ _ qD (pv 0) qg (fun _ _=>rfl)) qc ()) () () ()) () ()) (@qd _ _ _ _ _ (@ja _ _ _ _ _ _ _ _ (pv 3) (pv 0) rfl) (@qd _ _ _ _ _ (@ja _ _ _ _ _ _ _ _ (pv 3) (pv 1) rfl) (@qd _ _ _ _ _ (@Q4 _ _ _ _ _ _ _ _ uO rfl (@pi_rev _ _ _ _ _ _ () T.z_reversed (@yE _ _ _ _ _ _ _ _ _ _ jt (@qG _ _ _ _ _ _ _ qD (pv 0) qg (fun _ _=>rfl)) (@Yf _ _ _ (pv 2)) yG) ()) (@qw _ _ (4) _ Ye.nd rfl (Or.inl rfl) ()) (@qd _ _ _ _ _ (@qE _ _ (5) _ _ _ _ Ye.nd rfl (Or.inl rfl) (@pe_make _ _ _ _ _ _ _ _ _ _ _ _ _ _ _ _ _ T.M_Node JX (hr.mono ()) () T.m_Node T.g_Node_init.b .nil qH (@qa _ _ _ _ _ (@qy _ _ _ _ _ (@qa _ _ _ _ _ qF (@qa _ _ _ _ _ (@qG _ _ _ _ _ _ _ qD (pv 4) qg (fun _ _=>rfl)) qc ()) ())) qc ()) () () ()) () ()) (@qd _ _ _ _ _ (@ps_putD _ _ _ _ _ _ _ _ _ (w) rfl hr.units (@qS _ _ _ _ _ (pv 5) rfl) (@qG _ _ _ _ _ _ _ qD (pv 4) qg (fun _ _=>rfl)) (pv 3) rfl) (@qf _ _ _ (@qE _ _ (3) _ _ _ _ Ye.nd rfl (Or.inl rfl) (pv 5) () ())))) ()) (@qf _ _ _ (@qo _ _ _ _ (pv 3))))))),?_⟩
 have ag:Is H (.tup [.tup (r.1.map prD),r.2]) v:=iv;refine⟨_,rfl,?_⟩;refine gi (i:=1) (d:=r.2) ag (qm (j:=1) rfl) fun ev aC=> ?_;intro x dx hx ah nx;refine⟨x,dx,ev,rfl,qe,fun ed aM fs H2 kept ai nf U aD=>⟨rfl,?_⟩⟩;have s2:Same H H2:=new_same hx ah kept;have aj:H ed=none:=by
  cases e:H ed with
  |none=>rfl
  |some o=>rw [qi (qh e hx),qi (qh e ah),e] at U;cases U
 have ak:ed≠x:=fun z=>by rw [z,qe] at U;cases U
 refine⟨_,rfl,_,rfl,x,_,dx,fs,rfl,ai,T.qV,T.Yi,by have:=nf.len;omega,?_⟩
 have al:=nf.set_way (u:=v);have t3:Tk H2 (upd H2 x (.ins a.qB dx (putF "way" v fs))):=Tk.updI ai;have ab:(upd H2 x (.ins a.qB dx (putF "way" v fs))) x=some (.ins a.qB dx (putF "way" v fs)):=qe;have d3:=aD.keep t3 (qi ak);have s3:Same H (upd H2 x (.ins a.qB dx (putF "way" v fs))):=fun b o e=>by rw [qi (qh e hx)];exact s2 b o e
 generalize upd H2 x (.ins a.qB dx (putF "way" v fs))=H3 at t3 ab d3 s3⊢;refine⟨_,rfl,_,rfl,x,_,dx,_,rfl,ab,T.qV,T.Qz,by have:=al.len;omega,?_⟩
 have am:=al.set_givers (u:=gv);generalize aN:putF "givers" gv (putF "way" v fs)=M at am⊢;have t4:Tk H3 (upd H3 x (.ins a.qB dx M)):=Tk.updI ab;have ao:(upd H3 x (.ins a.qB dx M)) x=some (.ins a.qB dx M):=qe;have d4:=d3.keep t4 (qi ak);have s4:Same H (upd H3 x (.ins a.qB dx M)):=fun b o e=>by rw [qi (qh e hx)];exact s3 b o e
 generalize upd H3 x (.ins a.qB dx M)=H4 at t4 ao d4 s4⊢;have c0:JY w a.qB gf H H4 r r.1.length (fun _=>x) (fun _=>ed):=by
  refine⟨fun j h1 h2=> ?_,fun j h1 h2=>⟨[],d4,?_,fun x hx=>absurd hx (by simp)⟩,fun j h1 h2=>⟨hx,aj⟩,fun i j h1 h2 h3 h4 e=>by omega,fun i j h1 h2 h3 h4 e=>by omega⟩
  ·refine⟨dx,M,ev,v,gv,ao,am,?_,fun e=> ?_,fun d e=> ?_⟩
   ·rw [yW h1];exact aC.mono s4.tk
   ·unfold wyr at e;rw [if_pos h1] at e;cases e
   ·unfold wyr at e;rw [if_pos h1] at e;cases e;exact⟨iv.mono s4.tk,ig.mono s4.tk⟩
  ·rw [List.getElem?_eq_none (by rw [qU];omega)];rfl
 refine⟨_,rfl,?_⟩;refine gi (i:=0) (d:= .tup (r.1.map prD)) (ag.mono s4.tk) (qm (j:=0) rfl) fun pv aE=> ?_;refine⟨_,rfl,_,rfl,?_⟩;refine gsl (n:=k) aE (by simpa using hk) fun sv H5 s5 aF=> ?_
 obtain⟨a5,xs,rfl,ap,aq⟩:=aF;have lx:xs.length=r.1.length-k:=by rw [aq.length];simp
 refine⟨a5,xs,rfl,SqT.of ap,?_⟩
 let J1_:Nat->L2.St->Hp->Prop:=fun i σ H'=>∃(nn ee:Nat->Addr) (o1 o2:Option V),σ= [some v,some gv,some (.int (k:Int)),some (.ref (nn (r.1.length-i))),o1,o2]/\Same H5 H'/\i<=r.1.length-k/\JY w a.qB gf H H' r (r.1.length-i) nn ee
 have c5:JY w a.qB gf H H5 r (r.1.length-0) (fun _=>x) (fun _=>ed):=⟨fun j h1 h2=>(c0.nd j h1 h2).same s5,fun j h1 h2=>let⟨kvs,g,e1,e2⟩:=c0.kd j h1 h2;⟨kvs,g.same s5,e1,e2⟩,c0.fr,c0.ni,c0.ei⟩;refine for_rev (xs:=xs) (a:=a5) (K:=K) J1_ ⟨_,_,none,none,rfl,Same.refl _,uv _,c5⟩ (fun i σ H' _ j=> ?_) (fun i y σ H' hi hy j=> ?_) (fun σ H' j=> ?_)
 ·obtain⟨nn,ee,o1,o2,rfl,s6,_⟩:=j;exact SqT.of (s6 _ _ ap)
 ·obtain⟨nn,ee,o1,o2,rfl,s6,aO,ch⟩:=j;have au:r.1.length-i-1<r.1.length:=by omega
  obtain⟨p,hp⟩:∃p,r.1[r.1.length-i-1]? =some p:=⟨_,u0 au⟩;have hd:((r.1.map prD).drop k)[xs.length-1-i]? =some (prD p):=by
   rw [List.getElem?_drop,uj,show k+(xs.length-1-i)=r.1.length-i-1 by omega,hp]
   rfl
  obtain⟨y',ey,iy⟩:=aq.get hd;rw [hy] at ey;cases ey;have av:Is H' (.tup [p.1,p.2]) y:=iy.mono s6.tk;have S6:Same H H':=(s4.trans s5).trans s6;refine⟨_,rfl,?_⟩;refine gi (i:=0) (d:=p.1) av (qm (j:=0) rfl) fun qv aG=> ?_;refine⟨(by show 2<=sizeLine;decide),fun l hl=> ?_⟩
  have s7:=qb hl (.tup [.str "asks",qv]);have i7:Is (upd H' l (.tup [.str "asks",qv])) (.tup [.str "asks",p.1]) (.ref l):=Is.new (ds:= [.str "asks",p.1]) ⟨_,_,rfl,⟨rfl,yb (by decide)⟩,_,_,rfl,aG,rfl⟩ hl
  have aP:=ch;have aw:=av.mono s7.tk;generalize upd H' l (.tup [.str "asks",qv])=H7 at s7 i7 aw⊢;intro x2 Y ac Z aQ;refine⟨x2,Y,.ref l,rfl,qe,fun B aH ad H8 ae ax ay L O=>⟨rfl,?_⟩⟩;have s8:Same H7 H8:=new_same ac Z ae;have aa:H7 B=none:=by
   cases e:H7 B with
   |none=>rfl
   |some o=>rw [qi (qh e ac),qi (qh e Z),e] at L;cases L
  have az:B≠x2:=fun z=>by rw [z,qe] at L;cases L
  have aI:p∈r.1:=ud hp;have aJ:p.2∈ANS:=hR.an _ (List.mem_map.mpr ⟨p,aI,rfl⟩);have af:=ans_k _ aJ;rw [Bool.and_eq_true] at af;have aS:=uk af.2;refine⟨_,rfl,_,rfl,x2,_,Y,ad,_,rfl,ax,T.qV,T.qJ,ay.edges,?_⟩;refine⟨_,rfl,?_⟩;refine gi (i:=1) (d:=p.2) (aw.mono s8.tk) (qm (j:=1) rfl) fun cv aK=> ?_;have aA:KOk H8 p.2 cv:=⟨aK,af.1,by omega⟩
  refine⟨B,[],p.2,rfl,O,aA,by show 0<sizeLine;decide,?_⟩
  have d9:=O.put (v:= .ref (nn (r.1.length-i))) aA;have t9:Tk H8 (upd H8 B (dExt w B (putD [] p.2 cv (.ref (nn (r.1.length-i)))))):=tk_ext O;have aB:(upd H8 B (dExt w B (putD [] p.2 cv (.ref (nn (r.1.length-i)))))) x2=some (.ins a.qB Y ad):=by rw [qi az.symm];exact ax
  have s9:Same H7 (upd H8 B (dExt w B (putD [] p.2 cv (.ref (nn (r.1.length-i)))))):=fun b o e=>by rw [qi (qh e aa)];exact s8 b o e
  generalize upd H8 B (dExt w B (putD [] p.2 cv (.ref (nn (r.1.length-i)))))=H9 at d9 t9 aB s9⊢;have S9:=s7.trans s9;have ej:r.1.length-i-1+1=r.1.length-i:=by omega
  have aL:JY w a.qB gf H H' r (r.1.length-i-1+1) nn ee:=by rw [ej];exact ch
  have c9:=aL.cons S6 S9 au (QF s7 ac) (QF s7 aa) (x:=x2) (ed:=B) (kvs:=putD [] p.2 cv (.ref (nn (r.1.length-i)))) ⟨Y,ad,_,_,aH,aB,ay,by rw [Q3 hp];exact i7.mono s9.tk,fun _=>rfl,fun d e=>by cases e⟩ d9 (by rw [yR,hp];rfl) (by intro z hz;rw [ej];cases(List.mem_singleton.mp (show z∈ [(p.2,cv,V.ref (nn (r.1.length-i)))] from hz));rfl)
  refine⟨_,rfl,_,_,some y,some (.ref x2),?_,s6.trans S9,by omega,c9⟩
  rw [show r.1.length-(i+1)=r.1.length-i-1 by omega]
  simp only [if_true]
  rfl
 ·obtain⟨nn,ee,o1,o2,rfl,s6,_,ch⟩:=j;rw [lx] at ch;have ek:r.1.length-(r.1.length-k)=k:=by omega
  refine⟨_,rfl,?_⟩;rw [lx,ek];rw [ek] at ch;exact kQ nn ee H' ((s4.trans s5).trans s6) ch
end
structure yP (w:World)(C:Addr)(gf:Rn->List Int)(H:Hp)(rs:List Rn)(S:Addr->Prop)(n e:List D->Addr):Prop where
 nd:∀r∈rs,∀p,p<+:ans r->NdAt C H (n p) (thr r p.length) (e p) (wyr gf r p.length)
 kd:∀r∈rs,∀p,p<+:ans r->∃kvs,DAt w H (e p) kvs/\(∀c,c∈kvs.map (·.1)↔∃r'∈rs,p++ [c]<+:ans r')/\∀x∈kvs,x.2.2= .ref (n (p++ [x.1]))
 sn:∀r∈rs,∀p,p<+:ans r->S (n p)/\S (e p)
 ni:∀r∈rs,∀r'∈rs,∀p q,p<+:ans r->q<+:ans r'->n p=n q->p=q
 ei:∀r∈rs,∀r'∈rs,∀p q,p<+:ans r->q<+:ans r'->e p=e q->p=q
def Qy (w:World)(CA CN:Addr)(gf:Rn->List Int)(H:Hp)(t:Addr)(rs:List Rn)(S:Addr->Prop):Prop:=∃(dt:Addr) (bv:V),H t=some (.ins CA dt [("beginning",bv)])/\S t/\((rs= []/\bv= .non)∨(rs≠ []/\∃n e:List D->Addr,bv= .ref (n [])/\yP w CN gf H rs S n e))
theorem yP.move {w:World}{C:Addr}{gf:Rn->List Int}{H H':Hp}{rs:List Rn}{S:Addr->Prop}{n e:List D->Addr}(N:yP w C gf H rs S n e)(tk:Tk H H')(k:∀b o,S b->H b=some o->H' b=some o):yP w C gf H' rs S n e:=
 ⟨fun r B p L=>(N.nd r B p L).move tk fun o h=>k _ _ (N.sn r B p L).1 h,fun r B p L=>let⟨kvs,g,h1,h2⟩:=N.kd r B p L;⟨kvs,g.keep tk ((k _ _ (N.sn r B p L).2 g.here).trans g.here.symm),h1,h2⟩,N.sn,N.ni,N.ei⟩
theorem Qy.move {w:World}{CA CN:Addr}{gf:Rn->List Int}{H H':Hp}{t:Addr}{rs:List Rn}{S:Addr->Prop}(T:Qy w CA CN gf H t rs S)(tk:Tk H H')(k:∀b o,S b->H b=some o->H' b=some o):Qy w CA CN gf H' t rs S:=by
 obtain⟨B,L,h1,h2,M⟩:=T;refine⟨B,L,k _ _ h2 h1,h2,?_⟩;rcases M with h|⟨h,n,e,h4,O⟩
 ·exact .inl h
 ·exact .inr ⟨h,n,e,h4,O.move tk k⟩
theorem Qy.same {w:World}{CA CN:Addr}{gf:Rn->List Int}{H H':Hp}{t:Addr}{rs:List Rn}{S:Addr->Prop}(T:Qy w CA CN gf H t rs S)(s:Same H H'):Qy w CA CN gf H' t rs S:=T.move s.tk fun b o _ h=>s b o h
theorem yP.mem {w:World}{C:Addr}{gf:Rn->List Int}{H:Hp}{rs rs':List Rn}{S:Addr->Prop}{n e:List D->Addr}(N:yP w C gf H rs S n e)(h:∀r,r∈rs'↔r∈rs):yP w C gf H rs' S n e:=
 ⟨fun r B=>N.nd r ((h r).mp B),fun r B p M=>let⟨kvs,g,h1,h2⟩:=N.kd r ((h r).mp B) p M;⟨kvs,g,fun c=>(h1 c).trans ⟨fun⟨r',a,b⟩=>⟨r',(h r').mpr a,b⟩,fun⟨r',a,b⟩=>⟨r',(h r').mp a,b⟩⟩,h2⟩,fun r B=>N.sn r ((h r).mp B),fun r B r' L=>N.ni r ((h r).mp B) r' ((h r').mp L),fun r B r' L=>N.ei r ((h r).mp B) r' ((h r').mp L)⟩
theorem Qy.mem {w:World}{CA CN:Addr}{gf:Rn->List Int}{H:Hp}{t:Addr}{rs rs':List Rn}{S:Addr->Prop}(T:Qy w CA CN gf H t rs S)(h:∀r,r∈rs'↔r∈rs):Qy w CA CN gf H t rs' S:=by
 obtain⟨L,M,h1,h2,B⟩:=T;refine⟨L,M,h1,h2,?_⟩;rcases B with⟨rfl,B⟩|⟨B,n,e,h4,O⟩
 ·refine .inl ⟨?_,B⟩;cases rs' with
  |nil=>rfl
  |cons r _=>exact absurd ((h r).mp u5) (by simp)
 ·refine .inr ⟨?_,n,e,h4,O.mem h⟩;rintro rfl;obtain⟨r,U⟩:=vo _ B;exact absurd ((h r).mpr U) (by simp)
theorem yP.gf' {w:World}{C:Addr}{gf gf':Rn->List Int}{H:Hp}{rs:List Rn}{S:Addr->Prop}{n e:List D->Addr}(N:yP w C gf H rs S n e)(h:∀r∈rs,gf r=gf' r):yP w C gf' H rs S n e:=
 ⟨fun r B p L=>by have:=N.nd r B p L;unfold wyr at this⊢;rw [<-h r B];exact this,N.kd,N.sn,N.ni,N.ei⟩
structure Mv (S:Addr->Prop)(H H':Hp):Prop where
 kept:∀b o,H b=some o->¬S b->H' b=some o
 tk:Tk H H'
section
open Classical
noncomputable def newA (r:Rn) (k:Nat) (nn:Nat->Addr) (n:List D->Addr):List D->Addr:=fun p=>if p<+:ans r/\k<=p.length then nn p.length else n p
theorem qW {r:Rn}{k:Nat}{nn:Nat->Addr}{n:List D->Addr}{p:List D}(h:p<+:ans r/\k<=p.length):newA r k nn n p=nn p.length:=if_pos h
theorem qX {r:Rn}{k:Nat}{nn:Nat->Addr}{n:List D->Addr}{p:List D}(h:¬(p<+:ans r/\k<=p.length)):newA r k nn n p=n p:=if_neg h
end
theorem qM {r:Rn}{p:List D}(h:p<+:ans r):p.length<=r.1.length:=by
 have:=h.length_le;rw [qU] at this;exact this
theorem pre_eq {l p q:List D}(h1:p<+:l)(h2:q<+:l)(e:p.length=q.length):p=q:=by
 rw [vT] at h1 h2;rw [h1,h2,e]
theorem ya {l p:List D}{c:D}(h:p++ [c]<+:l):p<+:l:=(List.prefix_append p [c]).trans h
theorem yP.grow {w:World}{C:Addr}{gf:Rn->List Int}{H H2:Hp}{rs:List Rn}{S S':Addr->Prop}{n e:List D->Addr}{r:Rn}{k:Nat}{nn ee:Nat->Addr}(N:yP w C gf H rs S n e)(ch:JY w C gf H H2 r k nn ee)(tk:Tk H H2)
  (hR:Jr r) (hRs:∀r'∈rs,Jr r') (hF:∀r'∈rs,Fit r r') (aj:k<=r.1.length)
  (ab:∀p,p<+:ans r->p.length<k->∃r'∈rs,p<+:ans r') (new:∀p,p<+:ans r->k<=p.length->∀r'∈rs,¬p<+:ans r')
  (keep:∀b o,S b->H b=some o->(∀p,p<+:ans r->p.length+1=k->b≠e p)->H2 b=some o)
  (ad:∀p,p<+:ans r->p.length+1=k->∃kvs,DAt w H2 (e p) kvs/\(∀c,c∈kvs.map (·.1)↔(∃r'∈rs,p++ [c]<+:ans r')∨p++ [c]<+:ans r)/\∀x∈kvs,(p++ [x.1]<+:ans r/\x.2.2= .ref (nn k))∨(¬p++ [x.1]<+:ans r/\x.2.2= .ref (n (p++ [x.1]))))
  (hS:∀b,S b->S' b) (af:∀j,k<=j->j<=r.1.length->S' (nn j)/\S' (ee j)):yP w C gf H2 (r::rs) S' (newA r k nn n) (newA r k ee e):=by
 have aa:∀r'∈r::rs,∀p,p<+:ans r'->(p<+:ans r/\k<=p.length)->r'=r:=fun r' M p U hq=>by
  rcases List.mem_cons.mp M with h|h
  ·exact h
  ·exact absurd U (new p hq.1 hq.2 r' h)
 have B:∀r'∈r::rs,∀p,p<+:ans r'->¬(p<+:ans r/\k<=p.length)->∃O∈rs,p<+:ans O/\thr r' p.length=thr O p.length/\wyr gf r' p.length=wyr gf O p.length:=fun r' M p U hq=>by
  rcases List.mem_cons.mp M with h|h
  ·subst h;have ag:p.length<k:=Nat.lt_of_not_le fun z=>hq ⟨U,z⟩;obtain⟨O,h1,h2⟩:=ab p U ag;have et:=hF O h1 p U h2;refine⟨O,h1,h2,et,?_⟩;have hi:=congrArg isAsk et;rw [QO hR,QO (hRs O h1),ue (by omega)] at hi
   have:=uk hi.symm;unfold wyr;rw [if_neg (by omega),if_neg (by omega)]
  ·exact⟨r',h,U,rfl,rfl⟩
 have ac:∀r'∈rs,∀p,p<+:ans r'->∀o,H (n p)=some o->H2 (n p)=some o:=fun r' M p U o ho=>by
  refine keep _ _ (N.sn r' M p U).1 ho fun q hq hl z=> ?_;obtain⟨O,h1,h2⟩:=ab q hq (by omega)
  obtain⟨kvs,g,_⟩:=N.kd O h1 q h2;obtain⟨dx,fs,tv,wv,gv,e1,_⟩:=N.nd r' M p U;rw [z,g.here] at e1;cases e1
 refine⟨fun r' M p U=> ?_,fun r' M p U=> ?_,fun r' M p U=> ?_,fun O h1 Y h2 p q U hq L=> ?_,fun O h1 Y h2 p q U hq L=> ?_⟩
 ·by_cases c:p<+:ans r/\k<=p.length
  ·cases aa r' M p U c;rw [qW c,qW c];exact ch.nd _ c.2 (qM c.1)
  ·obtain⟨O,h1,h2,e1,e2⟩:=B r' M p U c;rw [qX c,qX c,e1,e2];exact(N.nd O h1 p h2).move tk (ac O h1 p h2)
 ·by_cases c:p<+:ans r/\k<=p.length
  ·cases aa r' M p U c;rw [qW c];obtain⟨kvs,g,e1,e2⟩:=ch.kd _ c.2 (qM c.1);have mm:∀d,d∈kvs.map (·.1)↔p++ [d]<+:ans r:=fun d=>by
    rw [e1,Option.mem_toList,QH];exact⟨fun h=>⟨c.1,h⟩,fun h=>h.2⟩
   refine⟨kvs,g,fun d=>(mm d).trans ⟨fun h=>⟨r,u5,h⟩,fun⟨Y,h2,Z⟩=> ?_⟩,fun x hx=> ?_⟩
   ·rcases List.mem_cons.mp h2 with h|h
    ·rw [<-h];exact Z
    ·exact absurd (ya Z) (new p c.1 c.2 Y h)
   ·have ah:p++ [x.1]<+:ans r:=(mm x.1).mp (List.mem_map.mpr ⟨x,hx,rfl⟩);rw [e2 x hx,qW ⟨ah,by simp;omega⟩]
    simp
  ·obtain⟨O,h1,h2,e1,e2⟩:=B r' M p U c;rw [qX c];by_cases l:p<+:ans r/\p.length+1=k
   ·obtain⟨kvs,g,m,v⟩:=ad p l.1 l.2;refine⟨kvs,g,fun d=>(m d).trans ⟨?_,?_⟩,fun x hx=> ?_⟩
    ·rintro(⟨Y,a,b⟩|b)
     ·exact⟨Y,u4 _ a,b⟩
     ·exact⟨r,u5,b⟩
    ·rintro⟨Y,a,b⟩;rcases List.mem_cons.mp a with rfl|a
     ·exact .inr b
     ·exact .inl ⟨Y,a,b⟩
    ·rcases v x hx with⟨a,b⟩|⟨a,b⟩
     ·rw [b,qW ⟨a,by simp;omega⟩]
      simp [l.2]
     ·rw [b,qX fun z=>a z.1]
   ·obtain⟨kvs,g,m,v⟩:=N.kd O h1 p h2;have ai:H2 (e p)=some (dExt w (e p) kvs):=keep _ _ (N.sn O h1 p h2).2 g.here fun q hq hl z=>by
     obtain⟨r3,Z,h4⟩:=ab q hq (by omega)
     have:=N.ei O h1 r3 Z p q h2 h4 z;subst this;exact l ⟨hq,hl⟩
    refine⟨kvs,g.keep tk (ai.trans g.here.symm),fun d=>(m d).trans ⟨fun⟨Y,a,b⟩=>⟨Y,u4 _ a,b⟩,?_⟩,fun x hx=> ?_⟩
    ·rintro⟨Y,a,b⟩;rcases List.mem_cons.mp a with rfl|a
     ·have ae:=ya b;refine ab _ b ?_;have q1:¬k<=p.length:=fun z=>c ⟨ae,z⟩;have q2:p.length+1≠k:=fun z=>l ⟨ae,z⟩;simp;omega
     ·exact⟨Y,a,b⟩
    ·obtain⟨Y,a,b⟩:=(m x.1).mp (List.mem_map.mpr ⟨x,hx,rfl⟩);rw [v x hx,qX fun z=>new _ z.1 z.2 Y a b]
 ·by_cases c:p<+:ans r/\k<=p.length
  ·rw [qW c,qW c];exact af _ c.2 (qM c.1)
  ·obtain⟨O,h1,h2,_⟩:=B r' M p U c;rw [qX c,qX c];exact⟨hS _ (N.sn O h1 p h2).1,hS _ (N.sn O h1 p h2).2⟩
 ·by_cases c:p<+:ans r/\k<=p.length
  ·by_cases d:q<+:ans r/\k<=q.length
   ·rw [qW c,qW d] at L;exact pre_eq c.1 d.1 (ch.ni _ _ c.2 (qM c.1) d.2 (qM d.1) L)
   ·obtain⟨r3,Z,h4,_⟩:=B Y h2 q hq d;rw [qW c,qX d] at L;obtain⟨o,ho⟩:=(N.nd r3 Z q h4).some;rw [<-L,(ch.fr _ c.2 (qM c.1)).1] at ho;cases ho
  ·obtain⟨r3,Z,h4,_⟩:=B O h1 p U c;by_cases d:q<+:ans r/\k<=q.length
   ·rw [qX c,qW d] at L;obtain⟨o,ho⟩:=(N.nd r3 Z p h4).some;rw [L,(ch.fr _ d.2 (qM d.1)).1] at ho;cases ho
   ·obtain⟨r5,h5,h6,_⟩:=B Y h2 q hq d;rw [qX c,qX d] at L;exact N.ni r3 Z r5 h5 p q h4 h6 L
 ·by_cases c:p<+:ans r/\k<=p.length
  ·by_cases d:q<+:ans r/\k<=q.length
   ·rw [qW c,qW d] at L;exact pre_eq c.1 d.1 (ch.ei _ _ c.2 (qM c.1) d.2 (qM d.1) L)
   ·obtain⟨r3,Z,h4,_⟩:=B Y h2 q hq d;rw [qW c,qX d] at L;obtain⟨kvs,g,_⟩:=N.kd r3 Z q h4;have ho:=g.here;rw [<-L,(ch.fr _ c.2 (qM c.1)).2] at ho;cases ho
  ·obtain⟨r3,Z,h4,_⟩:=B O h1 p U c;by_cases d:q<+:ans r/\k<=q.length
   ·rw [qX c,qW d] at L;obtain⟨kvs,g,_⟩:=N.kd r3 Z p h4;have ho:=g.here;rw [L,(ch.fr _ d.2 (qM d.1)).2] at ho;cases ho
   ·obtain⟨r5,h5,h6,_⟩:=B Y h2 q hq d;rw [qX c,qX d] at L;exact N.ei r3 Z r5 h5 p q h4 h6 L
theorem nodes_nil (w:World)(C:Addr)(gf:Rn->List Int)(H:Hp)(S:Addr->Prop)(n e:List D->Addr):yP w C gf H [] S n e:=
 ⟨fun r B=>absurd B (by simp),fun r B=>absurd B (by simp),fun r B=>absurd B (by simp),fun r B=>absurd B (by simp),fun r B=>absurd B (by simp)⟩
theorem for_en {K:PySem.W.Frag}{a:Addr}{c:Int}{xs:List V}{g:TG}{tb:TS}{D:Ends}{σ:L2.St}{H:Hp}(B:Nat->L2.St->Hp->Prop)(Y:B 0 σ H)(Z:∀i σ H,i<=xs.length->B i σ H->SqT K H a xs)
  (hs:∀i x σ H p,xs[i]? =some x->B i σ H->H p=none->g (.ref p) σ (upd H p (.tup [.int (c+i),x])) fun M H2=>tb {D with nx:=B (i+1),ct:=B (i+1),bk:=D.nx} M H2) (hd:∀σ H,B xs.length σ H->D.nx σ H):
  ∃W:Nat->Nat->L2.St->Hp->Prop,(∃m,W 0 m σ H)/\∀i m σ H,W i m σ H->
   ((Ite K a c).stop i H/\D.nx σ H)∨((Ite K a c).go i H/\∃N:L2.St->Hp->Prop,(∀O H',N O H'->∃U,U<m/\W (i+1) U O H')/\∀x H',(Ite K a c).yld i H x H'->g x σ H' fun M H2=>tb {D with nx:=N,ct:=N,bk:=D.nx} M H2):=by
 refine⟨fun i m σ H=>m=xs.length-i/\i<=xs.length/\B i σ H,⟨xs.length,by simp,uv _,Y⟩,?_⟩
 rintro i m σ H ⟨rfl,hi,p⟩;have q:=Z i σ H hi p;by_cases L:i<xs.length
 ·refine .inr ⟨⟨xs,xs[i],q,by simp [L]⟩,B (i+1),fun O H' p'=>⟨xs.length-(i+1),by omega,rfl,L,p'⟩,fun x H' y=> ?_⟩
  obtain⟨p2,y2,rfl,hp,rfl,y⟩:=y;exact hs i y2 σ _ p2 (y xs q) p hp
 ·have e:i=xs.length:=by omega
  subst e;exact .inl ⟨⟨xs,q,rfl⟩,hd σ H p⟩
theorem Qr {w:World}{H:Hp}{a:Addr}{kvs:List (D×V×V)}{d:D}(g:DAt w H a kvs)(hk:kD d=true):(valD kvs d).isSome=true↔d∈kvs.map (·.1):=by
 constructor
 ·intro h;unfold valD at h;cases e:ixV kvs d with
  |none=>rw [e] at h;cases h
  |some i=>
   unfold ixV at e;rw [uK] at e;obtain⟨h1,h2,_⟩:=e;have hm:kvs[i]∈kvs:=uN h1;have:=(Ql (kD_n (g.ks _ hm).2.1)).mp h2;rw [<-this];exact List.mem_map.mpr ⟨_,hm,rfl⟩
 ·intro h;cases e:ixV kvs d with
  |none=>exact absurd h (XZ hk e)
  |some i=>
   unfold valD;rw [e];unfold ixV at e;rw [uK] at e;obtain⟨h1,_⟩:=e;simp [h1]
theorem jC {w:World}{H:Hp}{a:Addr}{kvs:List (D×V×V)}{d:D}(g:DAt w H a kvs)(hk:kD d=true)(h:d∈kvs.map (·.1)):∃x∈kvs,x.1=d/\valD kvs d=some x.2.2:=by
 cases e:ixV kvs d with
 |none=>exact absurd h (XZ hk e)
 |some i=>
  unfold valD;rw [e];unfold ixV at e;rw [uK] at e;obtain⟨h1,h2,_⟩:=e;have hm:kvs[i]∈kvs:=uN h1;exact⟨kvs[i],hm,(Ql (kD_n (g.ks _ hm).2.1)).mp h2,by simp [h1]⟩
theorem putD_new {kvs:List (D×V×V)}{d:D}{y v:V}(h:(valD kvs d).isSome=false)(hk:∀x∈kvs,True):putD kvs d y v=kvs++ [(d,y,v)]:=by
 unfold putD;cases e:ixV kvs d with
 |none=>rfl
 |some i=>
  unfold valD at h;rw [e] at h;unfold ixV at e;rw [uK] at e;obtain⟨h1,_⟩:=e;simp [h1] at h
theorem len_le:∀(n:Nat) (l:List Nat),l.Nodup->(∀x∈l,x<n)->l.length<=n
 |0,[],_,_=>Nat.le_refl _
 |0,x::_,_,h=>absurd (h x u5) (vN _)
 |n+1,l,nd,h=>by
  have B:=len_le n (l.erase n) (nd.erase n) fun x hx=>by
   rw [nd.mem_erase_iff] at hx;have:=h x hx.2;have:=hx.1;omega
  have:=List.length_erase (a:=n) (l:=l);rw [this] at B;split at B<;>omega
theorem nd_map {α:Type}{f:D->Nat}:∀{l:List D},l.Nodup->(∀x∈l,∀y∈l,f x=f y->x=y)->(l.map f).Nodup
 | [],_,_=>List.nodup_nil
 |x::l,h,hi=>by
  rw [Ux] at h;rw [um,Ux];refine⟨fun hm=> ?_,nd_map (α:=α) h.2 fun y B z hz=>hi y (u4 _ B) z (u4 _ hz)⟩;obtain⟨y,B,e⟩:=List.mem_map.mp hm;have:=hi y (u4 _ B) x u5 e;subst this;exact h.1 B
theorem ks_len {ks:List D}(nd:ks.Nodup)(h:∀c∈ks,c∈ANS):ks.length<=10:=by
 have:=len_le 10 (ks.map aR) (nd_map (α:=D) nd fun x hx y B e=>jq (h x hx) (h y B) e) fun x hx=>by
  obtain⟨c,L,rfl⟩:=List.mem_map.mp hx;exact uk (ans_ten c (h c L))
 rw [uc] at this;exact this
theorem XR {kvs:List (D×V×V)}(nd:(kvs.map (·.1)).Nodup)(h:∀c∈kvs.map (·.1),c∈ANS):kvs.length<=10:=by
 have:=ks_len nd h;rw [uc] at this;exact this
theorem RunA.kid {r:Rn}{p:List D}{c:D}(h:RunA r)(B:p++ [c]<+:ans r):c∈ANS:=h.an c (B.subset (by simp))
theorem ans_n {c:D}(h:c∈ANS):kD c=true/\dp c<=3:=by
 have:=ans_k c h;rw [Bool.and_eq_true] at this;exact⟨this.1,uk this.2⟩
theorem ask_n {q:D}(h:AskOk q):nD q=true/\dp q<=3:=by
 obtain⟨u,n,rfl,_⟩:=h;exact⟨by simp [nD,nL],by simp [dp,dpL]⟩
theorem PrOk.ask {p:D×D}(h:PrOk p):AskOk p.1:=let⟨u,n,e,b,_⟩:=h;⟨u,n,e,b⟩
mutual
theorem good_n:∀{d:D},good d=true->nD d=true
 | .str _,_=>rfl
 | .tup xs,h=>by
  simp only [good,Bool.and_eq_true] at h;show nL xs=true;exact goodL_n h.2
 | .non,h| .bl _,h| .int _,h| .lst,h| .dct,h=>by simp [good] at h
theorem goodL_n:∀{xs:List D},goodL xs=true->nL xs=true
 | [],_=>rfl
 |x::r,h=>by
  simp only [goodL,Bool.and_eq_true] at h;simp only [nL,good_n h.1,goodL_n h.2,Bool.and_self]
end
theorem end_n {e:D}(h:Xd e):∃ds,e= .tup ds/\nL ds=true/\dpL ds<=13:=by
 rcases h with⟨d,rfl,hd⟩|⟨z,_,rfl⟩
 ·exact⟨_,rfl,by simp [nL,nD,good_n (Xo hd)],by have:=isT_dp hd;simp only [dpL,dp];omega⟩
 ·exact⟨_,rfl,by simp [nL,nD],by simp [dpL,dp]⟩
theorem YZ {ds:List D}(h:nL ds=true):eqNL ds ds=true:=by
 have:=(Ql (d:= .tup ds) (e:= .tup ds) (by simpa [nD] using h)).mpr rfl
 simpa [eqN] using this
def gvB:Int->List Int->Bool
 |_,[]=>true
 |l,x::r=>decide (l<x)&&decide (x<=99)&&gvB x r
abbrev GvL (gs:List Int):Prop:=gs.Sublist GV
def mg2 (l m:List Int):List Int:=GV.filter fun x=>decide (x∈l)||decide (x∈m)
theorem mg2_ok (l m:List Int):GvL (mg2 l m):=List.filter_sublist
theorem gv_sub {l:List Int}(h:GvL l):∀x∈l,x∈GV:=fun x hx=>h.subset hx
theorem gv_lt:GV.Pairwise (·< ·):=by decide
theorem mg2_mem {l m:List Int}(h1:GvL l)(h2:GvL m)(x:Int):x∈mg2 l m↔x∈l∨x∈m:=by
 unfold mg2;rw [UT,Bool.or_eq_true,uF,uF];exact⟨fun h=>h.2,fun h=>⟨h.elim (gv_sub h1 x) (gv_sub h2 x),h⟩⟩
theorem lt_of_le_nd {B:List Int}(nd:B.Nodup)(h:B.Pairwise (·<= ·)):B.Pairwise (·< ·):=(h.and nd).imp fun{x y} h=>by have:=h.1;have:=h.2;omega
theorem asc_eq {l m:List Int}(h1:l.Pairwise (·< ·))(h2:m.Pairwise (·< ·))(h:∀x,x∈l↔x∈m):l=m:=uniq (fun x y a b=>by omega) h1 h2 h
theorem mg2_eq {l m B:List Int}(h1:GvL l)(h2:GvL m)(nd:B.Nodup)(h:B.Pairwise (·<= ·))(hm:∀x,x∈B↔x∈l∨x∈m):B=mg2 l m:=asc_eq (lt_of_le_nd nd h) (gv_lt.sublist (mg2_ok l m)) fun x=>(hm x).trans (mg2_mem h1 h2 x).symm
theorem mg2_nil {m:List Int}(h:GvL m):mg2 [] m=m:=asc_eq (gv_lt.sublist (mg2_ok [] m)) (gv_lt.sublist h) fun x=>by rw [mg2_mem (List.nil_sublist _) h];simp
theorem Jb {l:List Int}(h:GvL l):(∀n∈l,0<=n/\n<1000)/\l.length<=6:=⟨fun n hn=>(show∀n∈GV,0<=n/\n<1000 by decide) n (gv_sub h n hn),v8 h.length_le (by decide)⟩
theorem gv_b {l:List Int}(h:GvL l):gvB (-1) l=true:=(show∀l∈subsI GV,gvB (-1) l=true by decide+kernel) l (Yc h)
theorem is_ints:∀{H:Hp}{gs:List Int}{vs:List V},IsL H (gs.map D.int) vs->vs=gs.map V.int
 |H,[],vs,h=>h
 |H,x::gs,vs,⟨v,r,e,h1,h2⟩=>by
  cases(show v= .int x from h1)
  rw [e,is_ints h2]
  rfl
theorem ints_is:∀(H:Hp) (gs:List Int),IsL H (gs.map D.int) (gs.map V.int)
 |H,[]=>rfl
 |H,x::gs=>⟨_,_,rfl,rfl,ints_is H gs⟩
theorem gD_at {H:Hp}{gs:List Int}{v:V}(h:Is H (gD gs) v):∃t,v= .ref t/\H t=some (.tup (gs.map V.int)):=by
 obtain⟨t,vs,rfl,B,L⟩:=h;exact⟨t,rfl,by rw [B,is_ints L]⟩
theorem gD_new {H:Hp}{gs:List Int}{l:Addr}(B:H l=none):Is (upd H l (.tup (gs.map V.int))) (gD gs) (.ref l):=Is.new (ints_is H gs) B
section
open Classical
noncomputable def updG (gf:Rn->List Int) (r:Rn) (gs:List Int):Rn->List Int:=fun r'=>if r'=r then mg2 (gf r) gs else gf r'
theorem J1 (gf:Rn->List Int)(r:Rn)(gs:List Int):updG gf r gs r=mg2 (gf r) gs:=if_pos rfl
theorem JZ {gf:Rn->List Int}{r r':Rn}{gs:List Int}(h:r'≠r):updG gf r gs r'=gf r':=if_neg h
end
def sp_giv:Sp:=fun vs H Q _=>∃(v:V) (gs:List Int),vs= [v]/\Is H (gD gs) v/\Q (.bl (gvB (-1) gs)) H
structure PutIn (w:World)(CA CN:Addr)(H:Hp)(t:Addr)(v gv:V)(rs:List Rn)(r:Rn)(S:Addr->Prop)(gf:Rn->List Int)(gs:List Int):Prop where
 tr:Qy w CA CN gf H t rs S
 iv:Is H (rnD r) v
 ig:Is H (gD gs) gv
 hR:RunA r
 hRs:∀r'∈rs,RunA r'
 hF:Fits rs
 vs:GvL gs
 vf:∀r'∈rs,GvL (gf r')
 g0:r∉rs->gf r= []
def sp_lay (w:World)(CA CN cl:Addr):Sp:=fun vs H Q E=>∃(t:Addr) (v gv:V) (rs:List Rn) (r:Rn) (S:Addr->Prop) (gf:Rn->List Int) (gs:List Int),vs= [.ref t,v,gv]/\PutIn w CA CN H t v gv rs r S gf gs/\
 ((∀r'∈rs,Fit r r')->∀(H':Hp) (S':Addr->Prop),Qy w CA CN (updG gf r gs) H' t (r::rs) S'->Mv S H H'->(∀b,S' b->S b∨H b=none)->Q .non H')/\
 ((∃r'∈rs,¬Fit r r')->∀(e:Addr) (H':Hp),Same H H'->E (.ref e) (some cl) H')
def sp_put (w:World)(CA CN cl bk:Addr):Sp:=fun vs H Q E=>sp_lay w CA CN cl vs H Q E∨∃(t v gv:V) (r:Rn) (gs:List Int),vs= [t,v,gv]/\Is H (rnD r) v/\RunS r/\Is H (gD gs) gv/\(runB r&&gvB (-1) gs)=false/\∀(e:Addr) (H':Hp),Same H H'->E (.ref e) (some bk) H'
def Ag (rs:List Rn)(r:Rn)(i:Nat):Prop:=∀q,q<+:ans r->q.length<i->∀r'∈rs,q<+:ans r'->thr r q.length=thr r' q.length
theorem Ag.step {rs:List Rn}{r M:Rn}{i:Nat}(h:Ag rs r i)(F:Fits rs)(h1:M∈rs)(hi:i<=r.1.length)(U:(ans r).take i<+:ans M)(e:thr r i=thr M i):Ag rs r (i+1):=fun q hq Y r' B L=>by
 by_cases c:q.length<i
 ·exact h q hq c r' B L
 ·have O:q.length=i:=by omega
  have eq:q=(ans r).take i:=by rw [vT] at hq;rw [hq,O]
  rw [O,e];have:=F M h1 r' B q (by rw [eq];exact U) L
  rw [O] at this;exact this
theorem Ag.fit {rs:List Rn}{r:Rn}{i:Nat}(h:Ag rs r i)(L:∀r'∈rs,∀q,q<+:ans r->q<+:ans r'->q.length<i):∀r'∈rs,Fit r r':=fun r' B p h1 h2=>h p h1 (L r' B p h1 h2) r' B h2
theorem thr_n {r:Rn}{i:Nat}(h:RunA r):∃ds,thr r i= .tup ds/\nL ds=true/\dpL ds<=20:=by
 unfold thr;cases e:r.1[i]? with
 |some p=>
  obtain⟨h1,h2⟩:=ask_n (h.ok.prs p (ud e)).ask;exact⟨_,rfl,by simp [nL,nD,h1],by simp only [dpL,dp];omega⟩
 |none=>
  obtain⟨ds,B,L,M⟩:=end_n h.ok.en;exact⟨ds,B,L,by omega⟩
theorem Xv {ds es:List D}(h:nL ds=true)(n:ds≠es):eqNL ds es=false:=by
 cases e:eqNL ds es with
 |false=>rfl
 |true=>
  have:=(Ql (d:= .tup ds) (e:= .tup es) (by simpa [nD] using h)).mp (by simpa [eqN] using e)
  injection this with this
  exact absurd this n
section
variable {P:Program}{w:World}{K:PySem.W.Frag}{mg:Str->Option Value}{base:Heap}{a:Ad}{g:Ga}
theorem ok_giv (T:Tx K mg a):FnOk P w K mg base CX0 1 a.jH a.jL ["value"] sp_giv:=by
 refine T.g_are_givers.F.ok QU () (fun _ _ _ _ H _ Q E hr h=> ?_)
 obtain⟨v,is,rfl,iv,k⟩:=h;refine⟨_,(@qd _ _ _ _ _ (@qN _ _ _ _ _ _ _ _ (@yx _ _ _ _ (@Qx _ _ _ (@qx _ _ _ _ _ _ _ _ _ (@qQ _ _ rfl) () T.qL vm (@qa _ _ _ _ _ (pv 0) (@qa _ _ _ _ _ (@Q5 _ _ (.ty "tuple") _ _ () T.QP Ue rfl () ()) qc ()) ()) () () () ()) ())) (@qf _ _ _ (@qo _ _ _ _ QI)) qr) (@qd _ _ _ _ _ (@qE _ _ (1) _ _ _ _ QU.nd rfl (Or.inl rfl) (@pe_un _ _ _ _ _ _ un_neg qg) () ()) (@qd _ _ _ _ _ (@Q4 _ _ _ _ _ _ _ _ uO rfl (@pi_tup _ _ _ _ (pv 0)) (@qw _ _ (2) _ QU.nd rfl (Or.inl rfl) ()) (@qd _ _ _ _ _ (@qN _ _ _ _ _ _ _ _ (@j5 _ _ _ _ _ _ _ (@yx _ _ _ _ (@Qx _ _ _ (@qx _ _ _ _ _ _ _ _ _ (@qQ _ _ rfl) () T.qL vm (@qa _ _ _ _ _ (pv 2) (@qa _ _ _ _ _ (@Q5 _ _ (.ty "int") _ _ () T.z_int boot_int rfl () ()) qc ()) ()) () () () ()) ())) (@j5 _ _ _ _ _ _ _ (@Qx _ _ _ (@qx _ _ _ _ _ _ _ _ _ (@qQ _ _ rfl) () T.qL vm (@qa _ _ _ _ _ (pv 2) (@qa _ _ _ _ _ (@Q5 _ _ (.ty "bool") _ _ () T.z_bool boot_bool rfl () ()) qc ()) ()) () () () ()) ()) (@Yz _ _ _ _ (@yx _ _ _ _ (@pt_chain _ _ _ _ _ _ _ _ _ _ _ _ op_lt op_le (pv 1) (pv 2) (@pe_gI _ _ _ _ () T.m_MOST_GIVER ()) ()))))).pt (@qf _ _ _ (@qo _ _ _ _ QI)) qr) (@qf _ _ _ (@qE _ _ (1) _ _ _ _ QU.nd rfl (Or.inl rfl) (pv 2) () ()))) ()) (@qf _ _ _ (@qo _ _ _ _ QI))))),?_⟩
 refine⟨_,rfl,v,"tuple",tyD (gD is),jz (gD is),rfl,iv.ty,jj _,_,rfl,iteF ?_⟩;refine⟨_,rfl,?_⟩;obtain⟨O,rfl,B⟩:=gD_at iv;refine⟨_,rfl,O,rfl,⟨_,SqT.of B⟩,?_⟩
 let J1_:Nat->L2.St->Hp->Prop:=fun i σ H'=>H'=H/\∃(l:Int) (U:Option V),σ= [some (.ref O),some (.int l),U]/\gvB (-1) is=gvB l (is.drop i)
 refine for_tup (K:=K) (a:=O) (xs:=is.map V.int) J1_ ⟨rfl,-1,none,rfl,rfl⟩ (fun i σ H' _ h=>by rw [h.1];exact SqT.of B) (fun i x σ H' hx h=> ?_) (fun σ H' h=> ?_)
 ·obtain⟨rfl,l,U,rfl,e⟩:=h;rw [uj] at hx;obtain⟨n,hn,rfl⟩:=Option.map_eq_some_iff.mp hx;have ed:is.drop i=n::is.drop (i+1):=by
   obtain⟨Y,Z⟩:=List.getElem?_eq_some_iff.mp hn;rw [vj Y,Z]
  rw [ed] at e;refine⟨_,rfl,.int n,"int",tyD (.int n),true,rfl,Is.ty (d:= .int n) rfl,XQ (),_,rfl,iteF ?_⟩
  refine⟨_,rfl,.int n,"bool",tyD (.int n),false,rfl,Is.ty (d:= .int n) rfl,kit_no () () (),_,rfl,iteF ?_⟩
  refine⟨_,rfl,_,rfl,_,_,rfl,rfl,_,rfl,?_⟩;by_cases L:l<n
  ·rw [ue L];refine iteT ⟨_,_,rfl,rfl,_,rfl,?_⟩;by_cases M:n<=99
   ·rw [ue M];refine iteF ⟨_,rfl,rfl,n,some (.int n),rfl,?_⟩;rw [e];simp only [gvB,ue L,ue M,Bool.true_and]
   ·rw [u8 M];refine iteT ?_;have:gvB (-1) is=false:=by rw [e];simp only [gvB,u8 M,UC,Bool.false_and]
    rw [this] at k;exact k
  ·rw [u8 L];refine iteF ⟨_,rfl,iteT ?_⟩;have:gvB (-1) is=false:=by rw [e];simp only [gvB,u8 L,Bool.false_and]
   rw [this] at k;exact k
 ·obtain⟨rfl,l,U,rfl,e⟩:=h;rw [uc,List.drop_length] at e;rw [e] at k;exact k
theorem ok_lay (T:Tx K mg a)(C:Fx K w mg g a):FnOk P w K mg base (CX1 P w) 4 a.YO a.Y4 ["self","run","givers"] (sp_lay w a.qk a.qB g.cl):=by
 have O:=ok_branch (P:=P) (w:=w) (base:=base) T;refine T.g_AskTree_lay.F.okX Qn () (fun _ _ _ _ H vs Q E hr h=> ?_)
 obtain⟨t,v,gv,rs,r,S,gf,gs,rfl,⟨⟨dt,bv,ht,ai,hT⟩,iv,ig,hR,hRs,aE,Z,bc,aF⟩,k,kX⟩:=h;refine⟨_,(@qd _ _ _ _ _ (@qN _ _ _ _ _ _ _ _ (@qu _ _ _ _ _ _ _ _ jY (@qS _ _ _ _ _ (pv 0) rfl) Qh (qC _)) (@qd _ _ _ _ _ (@ja _ _ _ _ _ _ _ _ (pv 0) (@ql _ _ _ _ _ _ _ _ _ _ _ _ _ _ _ _ O (hr.mono ()) () T.g_branch.m T.g_branch.F.kp T.g_branch.b .nil qH (@qa _ _ _ _ _ (pv 1) (@qa _ _ _ _ _ (pv 2) (@qa _ _ _ _ _ qg qc ()) ()) ()) () () ()) rfl) (@qf _ _ _ ps_retN)) qr) (@qd _ _ _ _ _ (@qE _ _ (3) _ _ _ _ Qn.nd rfl (Or.inl rfl) (@qS _ _ _ _ _ (pv 0) rfl) () ()) (@qd _ _ _ _ _ (@Q4 _ _ _ _ _ _ _ _ PassesOwn.leaving rfl (@pi_enum0 _ _ _ _ _ _ _ _ () T.z_enumerate (@qG _ _ _ _ _ _ _ qD (pv 1) qg (fun _ _=>rfl)) ()) (@jb _ _ _ _ _ _ rfl (qI (@qw _ _ (4) _ Qn.nd rfl (Or.inl rfl) ()) (qI (@qw _ _ (5) _ Qn.nd rfl (Or.inl rfl) ()) yF)) () ()) (@qd _ _ _ _ _ (@qN _ _ _ _ _ _ _ _ (@qu _ _ _ _ _ _ _ _ (@Jj _ hr.units) (@qS _ _ _ _ _ (pv 3) rfl) (@qy _ _ _ _ _ (@qa _ _ _ _ _ qF (@qa _ _ _ _ _ (@qG _ _ _ _ _ _ _ qD (pv 5) qg (fun _ _=>rfl)) qc ()) ())) (qC _)) (@qf _ _ _ (@j8 _ _ _ _ _ _ _ _ _ _ _ _ _ _ _ _ _ _ _ _ _ _ C.x_Clash () C.m_Clash qF () ())) qr) (@qd _ _ _ _ _ (@qN _ _ _ _ _ _ _ _ (@pt_cmp _ _ _ _ _ _ (@pc_notinD _ _ _ _ _ (w) rfl hr.units (@qG _ _ _ _ _ _ _ qD (pv 5) qg (fun _ _=>rfl)) (@qS _ _ _ _ _ (pv 3) rfl)) ()) (@qd _ _ _ _ _ (@ps_putD _ _ _ _ _ _ _ _ _ (w) rfl hr.units (@qS _ _ _ _ _ (pv 3) rfl) (@qG _ _ _ _ _ _ _ qD (pv 5) qg (fun _ _=>rfl)) (@ql _ _ _ _ _ _ _ _ _ _ _ _ _ _ _ _ O (hr.mono ()) () T.g_branch.m T.g_branch.F.kp T.g_branch.b .nil qH (@qa _ _ _ _ _ (pv 1) (@qa _ _ _ _ _ (pv 2) (@qa _ _ _ _ _ (@qT _ _ _ _ _ _ _ _ yz (pv 4) qg) qc ()) ()) ()) () () ()) rfl) (@qf _ _ _ ps_retN)) qr) (@qf _ _ _ (@qE _ _ (3) _ _ _ _ Qn.nd rfl (Or.inl rfl) (@xh _ _ _ _ _ _ (w) rfl hr.units (@qS _ _ _ _ _ (pv 3) rfl) (@qG _ _ _ _ _ _ _ qD (pv 5) qg (fun _ _=>rfl)) (fun _ _=>rfl)) () ())))) ()) (@qd _ _ _ _ _ (@qN _ _ _ _ _ _ _ _ (@qu _ _ _ _ _ _ _ _ (@Jj _ hr.units) (@qS _ _ _ _ _ (pv 3) rfl) (@qG _ _ _ _ _ _ _ qD (pv 1) qg (fun _ _=>rfl)) (qC _)) (@qf _ _ _ (@j8 _ _ _ _ _ _ _ _ _ _ _ _ _ _ _ _ _ _ _ _ _ _ C.x_Clash () C.m_Clash qF () ())) qr) (@qf _ _ _ (@ja _ _ _ _ _ _ _ _ (pv 3) (@Qo _ _ _ _ _ _ _ _ _ Qk () T.QP Ue (@qa _ _ _ _ _ (@qx _ _ _ _ _ _ _ _ _ (@call_sortedG _ rfl) () T.YR boot_sorted (@qa _ _ _ _ _ (@qT _ _ _ _ _ _ _ _ op_orA (@Qo _ _ _ _ _ _ _ _ _ (@Jh _ rfl) () T.z_set L2.Xc (@qa _ _ _ _ _ (@qS _ _ _ _ _ (pv 3) rfl) qc ()) () () () ()) (@Qo _ _ _ _ _ _ _ _ _ (@Jh _ rfl) () T.z_set L2.Xc (@qa _ _ _ _ _ (pv 2) qc ()) () () () ())) qc ()) () () () ()) qc ()) () () () ()) rfl)))))),?_⟩
 dsimp only [cxOf,Cx.nox];have aG:Is H (.tup [.tup (r.1.map prD),r.2]) v:=iv;have aH:∀u:V,([(("beginning":Str),u)]:List (Str×V)).lookup ("beginning":Str)=some u:=fun u=>by simp [List.lookup]
 have bd:∀u u':V,putF "beginning" u' [(("beginning":Str),u)]= [(("beginning":Str),u')]:=fun u u'=>by simp [putF]
 refine⟨_,rfl,t,_,dt,_,bv,rfl,ht,T.qO,T.qt,aH bv,rfl,_,rfl,?_⟩;rcases hT with⟨rfl,rfl⟩|⟨aI,n,e,rfl,N⟩
 ·refine Qi (by decide+kernel) ?_
  refine⟨_,rfl,_,rfl,v,gv,r,0,updG gf r gs,rfl,iv,by rw [J1,aF (by simp),mg2_nil Z];exact ig,hR,uv _,fun nn ee H1 s1 ch=> ?_⟩
  refine⟨_,rfl,t,_,dt,_,rfl,s1 _ _ ht,T.qO,T.qt,by decide,?_⟩
  rw [bd];have aj:Tk H1 (upd H1 t (.ins a.qk dt [("beginning",.ref (nn 0))])):=Tk.updI (s1 _ _ ht);have aJ:∀j,0<=j->j<=r.1.length->nn j≠t/\ee j≠t:=fun j h1 h2=>⟨(qh ht (ch.fr j h1 h2).1).symm,(qh ht (ch.fr j h1 h2).2).symm⟩;have be:JY w a.qB (updG gf r gs) H (upd H1 t (.ins a.qk dt [("beginning",.ref (nn 0))])) r 0 nn ee:=⟨fun j h1 h2=>(ch.nd j h1 h2).move aj fun o h=>by rw [qi (aJ j h1 h2).1];exact h,fun j h1 h2=>let⟨kvs,g,x1,x2⟩:=ch.kd j h1 h2;⟨kvs,g.keep aj (qi (aJ j h1 h2).2),x1,x2⟩,ch.fr,ch.ni,ch.ei⟩
  have N2:=(nodes_nil w a.qB (updG gf r gs) H (fun _=>False) (fun _=>0) (fun _=>0)).grow (S':=fun b=>S b∨∃j,j<=r.1.length/\(b=nn j∨b=ee j)) be (s1.tk.trans aj) hR.ok (fun _ h=>absurd h (by simp)) (fun _ h=>absurd h (by simp)) (uv _) (fun p _ h=>by omega) (fun p _ _ r' h=>absurd h (by simp)) (fun b o hb ho _=>hb.elim) (fun p _ h=>by omega) (fun b h=>h.elim) (fun j _ h=>⟨.inr ⟨j,h,.inl rfl⟩,.inr ⟨j,h,.inr rfl⟩⟩)
  refine k (by simp) _ _ ⟨dt,_,qe,.inl ai,.inr ⟨by simp,_,_,?_,N2⟩⟩ ⟨fun b o h1 h2=> ?_,s1.tk.trans aj⟩ fun b hb=> ?_
  ·rw [qW ⟨vX,uv _⟩];rfl
  ·rw [qi (fun z=>h2 (by rw [z];exact ai))];exact s1 _ _ h1
  ·rcases hb with h|⟨j,hj,rfl|rfl⟩
   ·exact .inl h
   ·exact .inr (ch.fr j (uv _) hj).1
   ·exact .inr (ch.fr j (uv _) hj).2
 ·refine Qf (u8 (by simp)) ?_
  refine⟨_,rfl,t,_,dt,_,_,rfl,ht,T.qO,T.qt,aH _,?_⟩;refine⟨_,rfl,?_⟩;refine gi (i:=0) (d:= .tup (r.1.map prD)) aG (qm (j:=0) rfl) fun pv bf=> ?_;obtain⟨a0,vs,rfl,aK,aL⟩:=bf;have lv:vs.length=r.1.length:=by rw [aL.length];simp
  obtain⟨r0,bg⟩:=vo _ aI;refine⟨a0,vs,rfl,SqT.of aK,fun bO=> ?_⟩
  let J1_:Nat->L2.St->Hp->Prop:=fun i σ H'=>∃(o1 o2:Option V),σ= [some (.ref t),some v,some gv,some (.ref (n ((ans r).take i))),o1,o2]/\i<=r.1.length/\Same H H'/\Ag rs r i/\∃r'∈rs,(ans r).take i<+:ans r'
  refine for_en (K:=K) (a:=a0) (c:=0) (xs:=vs) J1_ ⟨none,none,rfl,uv _,Same.refl _,(fun q _ h=>absurd h (vN _)),r0,bg,by rw [List.take_zero];exact vX⟩ (fun i σ H' _ ⟨_,_,_,_,s1,_⟩=>SqT.of (s1 _ _ aK)) ?_ ?_
  ·rintro i y σ H' pp hy ⟨o1,o2,rfl,hi,s1,hA,r1,B,M⟩ bh;have ak:i<r.1.length:=by rw [<-lv];exact(List.getElem?_eq_some_iff.mp hy).1
   obtain⟨p,hp⟩:∃p,r.1[i]? =some p:=⟨_,u0 ak⟩;have aM:p∈r.1:=ud hp;have bi:p.2∈ANS:=hR.an _ (List.mem_map.mpr ⟨p,aM,rfl⟩);obtain⟨Y,bP⟩:=ans_n bi;obtain⟨bj,bQ⟩:=ask_n (hR.ok.prs p aM).ask;obtain⟨y',ey,iy⟩:=aL.get (d:=prD p) (i:=i) (by rw [uj,hp];rfl)
   rw [hy] at ey;cases ey;have s2:=qb bh (.tup [.int (0+(i:Int)),y]);have S2:=s1.trans s2;refine⟨pp,_,rfl,SqT.of qe,rfl,_,_,rfl,_,_,rfl,rfl,?_⟩;have ay:Is (upd H' pp (.tup [.int (0+(i:Int)),y])) (.tup [p.1,p.2]) y:=iy.mono S2.tk;generalize upd H' pp (.tup [.int (0+(i:Int)),y])=H2 at s2 S2 ay⊢;have ac:((ans r).take i).length=i:=by rw [uq,qU];omega
   have az:(ans r).take i<+:ans r:=vr _ _;have N2:=N.move S2.tk fun b o _ h=>S2 b o h;obtain⟨al,aa,ad,bm⟩:=thr_n (i:=i) (hRs r1 B);obtain⟨dx,fs,tv,wv,bn,aN,nf,it,_,_⟩:=N2.nd r1 B _ M;rw [ac,aa] at it;have ae:(ans r).take i++ [p.2]=(ans r).take (i+1):=by rw [uE,yR,hp];rfl
   refine⟨_,rfl,_,_,dx,fs,tv,rfl,aN,T.qV,T.q9,nf.there,?_⟩;refine⟨_,rfl,?_⟩;refine gi (i:=0) (d:=p.1) ay (qm (j:=0) rfl) fun qv bo=> ?_;refine⟨(by show 2<=sizeLine;decide),fun l hl=> ?_⟩
   have s3:=qb hl (.tup [.str "asks",qv]);have i3:Is (upd H2 l (.tup [.str "asks",qv])) (.tup [.str "asks",p.1]) (.ref l):=Is.new (ds:= [.str "asks",p.1]) ⟨_,_,rfl,⟨rfl,yb (by decide)⟩,_,_,rfl,bo,rfl⟩ hl
   have am:=ay.mono s3.tk;have S3:=S2.trans s3;have N3:=N2.move s3.tk fun b o _ h=>s3 b o h;have ao:=s3 _ _ aN;have aO:=it.mono s3.tk;generalize upd H2 l (.tup [.str "asks",qv])=H3 at s3 i3 am S3 N3 ao aO⊢;have aP:nL [.str "asks",p.1]=true:=by simp [nL,nD,bj]
   refine⟨_,_,aO,i3,ad,aP,by omega,_,rfl,?_⟩
   by_cases L:al≠ [.str "asks",p.1]
   ·refine Qi (by rw [Xv ad L];rfl) ?_
    refine⟨rfl,fun e=>kX ⟨r1,B,fun F=>L ?_⟩ e _ S3⟩;have:=F _ az M;rw [ac,Q3 hp,aa] at this;injection this with this
    exact this.symm
   have L:=Classical.not_not.mp L;refine Qf (by rw [L,YZ aP];rfl) ?_
   have bp:thr r1 i= .tup [.str "asks",p.1]:=by rw [aa,L]
   have ap:Ag rs r (i+1):=hA.step aE B hi M (by rw [bp,Q3 hp])
   refine⟨_,rfl,?_⟩;refine gi (i:=1) (d:=p.2) am (qm (j:=1) rfl) fun cv bq=> ?_;refine⟨_,rfl,_,_,dx,fs,_,rfl,ao,T.qV,T.qJ,nf.edges,?_⟩;obtain⟨kvs,g3,mem,aQ⟩:=N3.kd r1 B _ M;have br:KOk H3 p.2 cv:=⟨bq,Y,by omega⟩
   refine⟨_,kvs,p.2,rfl,g3,br,_,rfl,?_⟩;cases af:(valD kvs p.2).isSome with
   |false=>
    refine iteT ?_;have ab:∀r'∈rs,¬(ans r).take (i+1)<+:ans r':=fun r' h1 h2=>by
     have:=(Qr g3 Y).mpr ((mem p.2).mpr ⟨r',h1,by rw [ae];exact h2⟩)
     rw [af] at this;cases this
    have hF:∀r'∈rs,Fit r r':=ap.fit fun r' U q h1 h2=>Nat.lt_of_not_le fun z=>ab r' U (by
     rw [vT] at h1;rw [h1] at h2;exact(vZ z).trans h2)
    have aS:r∉rs:=fun z=>ab r z (vr _ _);have eg:updG gf r gs r=gs:=by rw [J1,aF aS,mg2_nil Z]
    refine⟨_,rfl,_,rfl,_,rfl,_,_,rfl,rfl,v,gv,r,i+1,updG gf r gs,by simp,iv.mono S3.tk,by rw [eg];exact ig.mono S3.tk,hR,ak,fun nn ee H4 s4 ch=> ?_⟩
    have S4:=S3.trans s4;refine⟨_,rfl,_,_,dx,fs,_,rfl,s4 _ _ ao,T.qV,T.qJ,nf.edges,?_⟩;refine⟨_,rfl,?_⟩;refine gi (i:=1) (d:=p.2) (am.mono s4.tk) (qm (j:=1) rfl) fun ag ah=> ?_;have aw:KOk H4 p.2 ag:=⟨ah,Y,by omega⟩
    have g4:=g3.same s4;refine⟨_,kvs,p.2,rfl,g4,aw,(by have:=XR g4.nd (fun c hc=>(let⟨r2,h1,h2⟩:=(mem c).mp hc;(hRs r2 h1).kid h2));rw [sizeLine_eq];omega),?_⟩
    have g5:=g4.put (v:= .ref (nn (i+1))) aw;have t5:Tk H4 (upd H4 (e ((ans r).take i)) (dExt w (e ((ans r).take i)) (putD kvs p.2 ag (.ref (nn (i+1)))))):=tk_ext g4;have o5:∀b,b≠e ((ans r).take i)->(upd H4 (e ((ans r).take i)) (dExt w (e ((ans r).take i)) (putD kvs p.2 ag (.ref (nn (i+1)))))) b=H4 b:=fun b h=>qi h;have bt:=(N.sn r1 B _ M).2;generalize upd H4 (e ((ans r).take i)) (dExt w (e ((ans r).take i)) (putD kvs p.2 ag (.ref (nn (i+1)))))=H5 at g5 t5 o5⊢;rw [putD_new af (fun _ _=>trivial)] at g5;have aT:∀j,i+1<=j->j<=r.1.length->nn j≠e ((ans r).take i)/\ee j≠e ((ans r).take i):=fun j h1 h2=>⟨fun z=>(by have:=(ch.fr j h1 h2).1;rw [z,g3.here] at this;cases this),fun z=>(by have:=(ch.fr j h1 h2).2;rw [z,g3.here] at this;cases this)⟩
    have aA:JY w a.qB (updG gf r gs) H H5 r (i+1) nn ee:=⟨fun j h1 h2=>(ch.nd j h1 h2).move t5 fun o h=>by rw [o5 _ (aT j h1 h2).1];exact h,fun j h1 h2=>let⟨kvs,g,x1,x2⟩:=ch.kd j h1 h2;⟨kvs,g.keep t5 (o5 _ (aT j h1 h2).2),x1,x2⟩,fun j h1 h2=>⟨QF S3 (ch.fr j h1 h2).1,QF S3 (ch.fr j h1 h2).2⟩,ch.ni,ch.ei⟩
    have bu:∀q,q<+:ans r->q.length+1=i+1->q=(ans r).take i:=fun q h1 h2=>pre_eq h1 az (by rw [ac];omega)
    have N5:=(N.gf' (gf':=updG gf r gs) fun r' h=>(JZ (fun z=>aS (by rw [<-z];exact h))).symm).grow (H2:=H5) (S':=fun b=>S b∨∃j,i+1<=j/\j<=r.1.length/\(b=nn j∨b=ee j)) aA (S4.tk.trans t5) hR.ok (fun r' h=>(hRs r' h).ok) hF ak
     (fun q h1 h2=>⟨r1,B,(by
      rw [vT] at h1;rw [h1];exact(vZ (by omega)).trans M)⟩)
     (fun q h1 h2 r' h3 h4=>ab r' h3 (by
      rw [vT] at h1;rw [h1] at h4;exact(vZ h2).trans h4))
     (fun b o hb ho hq=>by
      rw [o5 _ (hq _ az (by rw [ac]))]
      exact S4 _ _ ho)
     (fun q h1 h2=>by
      rw [bu q h1 h2];refine⟨_,g5,fun c=> ?_,fun x hx=> ?_⟩
      ·rw [uw,vO,mem c];refine or_congr Iff.rfl ⟨fun h=> ?_,fun h=> ?_⟩
       ·cases(List.mem_singleton.mp (show c∈ [p.2] from h))
        rw [ae];exact vr _ _
       ·have:=(QH.mp h).2;rw [ac,yR,hp] at this;cases this;exact List.mem_singleton.mpr rfl
      ·rcases List.mem_append.mp hx with h|h
       ·refine .inr ⟨fun z=> ?_,aQ x h⟩;have:=(QH.mp z).2;rw [ac,yR,hp] at this;have:=uo this;have hm:=(Qr g3 Y).mpr (List.mem_map.mpr ⟨x,h,this.symm⟩);rw [af] at hm;cases hm
       ·cases(List.mem_singleton.mp h);refine .inl ⟨?_,rfl⟩;show(ans r).take i++ [p.2]<+:ans r;rw [ae];exact vr _ _)
     (fun b h=> .inl h) (fun j h1 h2=>⟨.inr ⟨j,h1,h2,.inl rfl⟩,.inr ⟨j,h1,h2,.inr rfl⟩⟩)
    have bw:t≠e ((ans r).take i):=fun z=>by
     have:=g3.here;rw [<-z,S3 _ _ ht] at this;cases this
    refine k hF _ _ ⟨dt,_,by rw [o5 _ bw];exact S4 _ _ ht,.inl ai,.inr ⟨by simp,_,_,?_,N5⟩⟩ ⟨fun b o h1 h2=> ?_,S4.tk.trans t5⟩ fun b hb=> ?_
    ·rw [qX (fun z=>by have:=z.2;simp at this)]
    ·rw [o5 _ (fun z=>h2 (by rw [z];exact bt))];exact S4 _ _ h1
    ·rcases hb with h|⟨j,aU,aV,rfl|rfl⟩
     ·exact .inl h
     ·exact .inr (aA.fr j aU aV).1
     ·exact .inr (aA.fr j aU aV).2
   |true=>
    refine iteF ?_;obtain⟨x,hx,ex,ev⟩:=jC g3 Y ((Qr g3 Y).mp af);refine⟨_,rfl,_,_,dx,fs,_,rfl,ao,T.qV,T.qJ,nf.edges,?_⟩;refine⟨_,rfl,?_⟩;refine gi (i:=1) (d:=p.2) am (qm (j:=1) rfl) fun ag ah=> ?_;refine⟨_,kvs,p.2,_,rfl,g3,⟨ah,Y,by omega⟩,ev,?_⟩
    obtain⟨r2,bx,bz⟩:=(mem p.2).mp ((Qr g3 Y).mp af);rw [aQ x hx,ex,ae];exact⟨_,_,rfl,ak,S3,ap,r2,bx,by rw [<-ae];exact bz⟩
  ·rintro σ H' ⟨o1,o2,rfl,hi,s1,hA,r1,B,M⟩;have bA:(ans r).take vs.length=ans r:=uL (by rw [qU];omega)
   rw [bA] at M⊢;rw [lv] at hA;obtain⟨al,aa,ad,bm⟩:=thr_n (i:=r.1.length) (hRs r1 B);obtain⟨ds,aB,aW,bR⟩:=end_n hR.ok.en;have N1:=N.move s1.tk fun b o _ h=>s1 b o h;obtain⟨dx,fs,tv,wv,bn,aC,nf,it,_,bB⟩:=N1.nd r1 B _ M;rw [qU,aa] at it;refine⟨_,rfl,_,_,dx,fs,tv,rfl,aC,T.qV,T.q9,nf.there,?_⟩;refine⟨_,rfl,?_⟩;refine gi (i:=1) (d:=r.2) (aG.mono s1.tk) (qm (j:=1) rfl) fun ev bC=> ?_;refine⟨al,ds,it,by rw [<-aB];exact bC,ad,aW,by omega,_,rfl,?_⟩
   by_cases L:al≠ds
   ·refine Qi (by rw [Xv ad L];rfl) ?_
    refine⟨rfl,fun e=>kX ⟨r1,B,fun F=>L ?_⟩ e _ s1⟩;have:=F _ (U2 _) M;rw [qU,yW (Nat.le_refl _),aa,aB] at this;injection this with this
    exact this.symm
   have L:=Classical.not_not.mp L;refine Qf (by rw [L,YZ aW];rfl) ?_
   have ap:Ag rs r (r.1.length+1):=hA.step aE B (Nat.le_refl _) (by rw [<-qU,vq];exact M) (by rw [yW (Nat.le_refl _),aB,aa,L])
   have hF:∀r'∈rs,Fit r r':=ap.fit fun r' U q h1 h2=>Nat.lt_succ_of_le (qM h1);have er:r=r1:=XD hR.ok (hRs r1 B).ok (hF r1 B) M;subst er;have bD:=(bB _ (by unfold wyr;rw [qU,if_pos (Nat.le_refl _)])).2
   have aq:=bc r B;obtain⟨t0,rfl,bE⟩:=gD_at bD;obtain⟨t1,rfl,bF⟩:=gD_at ig;obtain⟨bG,bS⟩:=Jb aq;obtain⟨bH,bT⟩:=Jb Z;refine⟨_,rfl,_,_,dx,fs,_,rfl,aC,T.qV,T.Qz,nf.givers,t0,gf r,rfl,SqT.of bE,bG,by omega,fun q1 bI=> ?_⟩
   have s2:=qb bI (gA w q1 (gf r));refine⟨_,rfl,t1,gs,rfl,SqT.of (s2 _ _ (s1 _ _ bF)),bH,by omega,fun q2 aD=> ?_⟩
   have s3:=qb aD (gA w q2 gs);have aX:q1≠q2:=fun z=>by rw [<-z,qe] at aD;cases aD
   refine⟨q1,q2,gf r,gs,rfl,rfl,aX,s3 _ _ qe,qe,by omega,by omega,gv_good Z,gv_orT aq Z,gv_orF aq Z,fun q3 ms aY ax bJ=> ?_⟩
   have s4:=qb bJ (gS w q3 ms);have bU:ms.length<=12:=by
    have:=List.Nodup.length_le_of_subset' (m:=gf r++gs) aY fun x hx=>by rw [vO];exact(ax x).mp hx
    rw [ui] at this;omega
   refine⟨q3,ms,rfl,qe,by omega,fun ns q4 aZ a6 bK=> ?_⟩
   have bL:ns=mg2 (gf r) gs:=mg2_eq aq Z (aZ.nodup_iff.mpr aY) a6 fun x=>(aZ.mem_iff).trans (ax x);have s5:=qb bK (.lst (ns.map V.int));refine⟨q4,ns.map V.int,rfl,.inl ⟨SqL.of qe,fun l hl=> ?_⟩⟩;have s6:=qb hl (.tup (ns.map V.int));have S6:=s2.trans (s3.trans (s4.trans (s5.trans s6)));obtain⟨d6,a7,i6⟩:∃d,d=gD ns/\Is (upd (upd (upd (upd (upd H' q1 (gA w q1 (gf r))) q2 (gA w q2 gs)) q3 (gS w q3 ms)) q4 (.lst (ns.map V.int))) l (.tup (ns.map V.int))) d (.ref l):=⟨_,rfl,gD_new hl⟩;rw [bL] at a7;generalize upd (upd (upd (upd (upd H' q1 (gA w q1 (gf r))) q2 (gA w q2 gs)) q3 (gS w q3 ms)) q4 (.lst (ns.map V.int))) l (.tup (ns.map V.int))=H6 at s6 S6 i6⊢;have au:=s1.trans S6;have av:=S6 _ _ aC;have N6:=N1.move S6.tk fun b o _ h=>S6 b o h;refine⟨_,rfl,_,_,dx,fs,rfl,av,T.qV,T.Qz,by have:=nf.len;omega,?_⟩
   have t7:Tk H6 (upd H6 (n (ans r)) (.ins a.qB dx (putF "givers" (.ref l) fs))):=Tk.updI av;have a8:(upd H6 (n (ans r)) (.ins a.qB dx (putF "givers" (.ref l) fs))) (n (ans r))=some (.ins a.qB dx (putF "givers" (.ref l) fs)):=qe;have o7:∀b,b≠n (ans r)->(upd H6 (n (ans r)) (.ins a.qB dx (putF "givers" (.ref l) fs))) b=H6 b:=fun b h=>qi h;generalize upd H6 (n (ans r)) (.ins a.qB dx (putF "givers" (.ref l) fs))=H7 at t7 a8 o7⊢;have N7:yP w a.qB (updG gf r gs) H7 rs S n e:=by
    refine⟨fun r' U p hp=> ?_,fun r' U p hp=> ?_,N.sn,N.ni,N.ei⟩
    ·by_cases c:n p=n (ans r)
     ·have ep:=N.ni r' U r B p (ans r) hp (U2 _) c;subst ep;have er:=XD hR.ok (hRs r' U).ok (hF r' U) hp;subst er;obtain⟨bM,fs',a9,ba,bN,a1,a2,a3,a4,a5⟩:=N6.nd r B _ (U2 _);rw [av] at a1;cases a1;refine⟨dx,_,a9,ba,_,a8,a2.set_givers,a3.mono t7,fun z=> ?_,fun d hd=> ?_⟩
      ·unfold wyr at z;rw [qU,if_pos (Nat.le_refl _)] at z;cases z
      ·unfold wyr at hd;rw [qU,if_pos (Nat.le_refl _)] at hd;cases hd;refine⟨(a5 (rnD r,gD (gf r)) (by unfold wyr;rw [qU,if_pos (Nat.le_refl _)])).1.mono t7,?_⟩
       rw [J1,<-a7];exact i6.mono t7
     ·have ew:wyr (updG gf r gs) r' p.length=wyr gf r' p.length:=by
       by_cases cr:r'=r
       ·subst cr;unfold wyr;have hl:¬r'.1.length<=p.length:=fun z=>c (by rw [hp.eq_of_length (by have:=qM hp;rw [qU];omega)])
        rw [if_neg hl,if_neg hl]
       ·unfold wyr;rw [JZ cr]
      rw [ew];exact(N6.nd r' U p hp).move t7 fun o h=>by rw [o7 _ c];exact h
    ·obtain⟨kvs,g,h1,h2⟩:=N6.kd r' U p hp;refine⟨kvs,g.keep t7 (o7 _ fun z=> ?_),h1,h2⟩;have:=g.here;rw [z,av] at this;cases this
   have bb:n (ans r)≠t:=fun z=>by
    obtain⟨bM,fs',a9,ba,bN,a1,a2,_⟩:=N6.nd r B _ (U2 _);rw [z,au _ _ ht] at a1;injection a1 with a1
    injection a1 with _ _ a1
    subst a1;have:=a2.there;rw [uT] at this;rw [show(("there":Str)==("beginning":Str))=false by decide+kernel] at this
    cases this
   refine k hF H7 S ?_ ⟨fun b o h1 h2=> ?_,au.tk.trans t7⟩ fun b h=> .inl h
   ·refine Qy.mem ⟨dt,_,by rw [o7 _ bb.symm];exact au _ _ ht,ai,.inr ⟨aI,n,e,rfl,N7⟩⟩ fun r'=> ?_
    rw [uP];exact⟨fun h=>h.elim (fun h=>by rw [h];exact B) id,.inr⟩
   ·rw [o7 _ (fun z=>h2 (by rw [z];exact(N.sn r B _ (U2 _)).1))]
    exact au _ _ h1
theorem ok_put (T:Tx K mg a)(C:Fx K w mg g a):FnOk P w K mg base (CX1 P w) 6 a.Y5 a.jd ["self","run","givers"] (sp_put w a.qk a.qB g.cl g.bk):=by
 have L:=ok_run (P:=P) (w:=w) (base:=base) T C;have B:=ok_giv (P:=P) (w:=w) (base:=base) T;have Xt:=ok_lay (P:=P) (w:=w) (base:=base) T C;refine T.g_AskTree_put.F.okX xo (fun vs H Q E h=> ?_) (fun cdv A outer s H vs Q E M h=> ?_)
 ·rcases h with⟨t,v,gv,rs,r,S,gf,gs,rfl,_⟩|⟨t,v,gv,r,gs,rfl,_⟩<;>rfl
 have h0:=h;clear h;refine⟨_,(@qd _ _ _ _ _ (@qN _ _ _ _ _ _ _ _ (@yx _ _ _ _ (@Qx _ _ _ (@ql _ _ _ _ _ _ _ _ _ _ _ _ _ _ _ _ L (M.mono ()) () T.g_is_run.m T.g_is_run.F.kp T.g_is_run.b .nil qH (@qa _ _ _ _ _ (pv 1) qc ()) () () ()) ())) (@qf _ _ _ (@j8 _ _ _ _ _ _ _ _ _ _ _ _ _ _ _ _ _ _ _ _ _ _ C.x_BadKeep () C.m_BadKeep qF () ())) qr) (@qd _ _ _ _ _ (@qN _ _ _ _ _ _ _ _ (@yx _ _ _ _ (@Qx _ _ _ (@ql _ _ _ _ _ _ _ _ _ _ _ _ _ _ _ _ B (M.mono ()) () T.g_are_givers.m T.g_are_givers.F.kp T.g_are_givers.b .nil qH (@qa _ _ _ _ _ (pv 2) qc ()) () () ()) ())) (@qf _ _ _ (@j8 _ _ _ _ _ _ _ _ _ _ _ _ _ _ _ _ _ _ _ _ _ _ C.x_BadKeep () C.m_BadKeep qF () ())) qr) (@qf _ _ _ (@QY _ _ _ _ (@pe_meth _ _ _ _ _ _ _ _ _ _ _ _ _ _ _ _ _ _ _ _ (pv 0) T.qO T.g_AskTree_lay.h Xt (M.mono ()) T.g_AskTree_lay.b .nil pass1 (@qa _ _ _ _ _ (pv 1) (@qa _ _ _ _ _ (pv 2) qc ()) ()) () () ()) ())))),?_⟩
 rcases h0 with⟨t,v,gv,rs,r,S,gf,gs,rfl,I,k,O⟩|⟨t,v,gv,r,gs,rfl,iv,hS,ig,U,O⟩
 ·have Y:=I.hR.ok.b;refine⟨_,rfl,v,r,rfl,I.hR.ok.s,I.iv,fun H1 s1=>⟨_,rfl,?_⟩⟩;rw [Y];refine iteF ⟨_,rfl,gv,gs,rfl,I.ig.mono s1.tk,_,rfl,?_⟩;rw [gv_b I.vs];refine iteF ?_;have T1:=I.tr.same s1;obtain⟨dt,bv,ht,M⟩:=id T1;refine⟨_,rfl,t,dt,_,rfl,ht,by rw [uT,show(("lay":Str)==("beginning":Str))=false by decide+kernel];rfl,_,rfl,_,rfl,?_⟩
  refine⟨t,v,gv,rs,r,S,gf,gs,rfl,⟨T1,I.iv.mono s1.tk,I.ig.mono s1.tk,I.hR,I.hRs,I.hF,I.vs,I.vf,I.g0⟩,fun hF H' S' t' m' f'=>k hF H' S' t' ⟨fun b o h1 h2=>m'.kept b o (s1 _ _ h1) h2,s1.tk.trans m'.tk⟩ fun b U=>(f' b U).imp id (QF s1),fun hn e H' s'=>O hn e H' (s1.trans s')⟩
 ·refine⟨_,rfl,v,r,rfl,hS,iv,fun H1 s1=>⟨_,rfl,?_⟩⟩;cases Z:runB r with
  |false=>exact iteT ⟨rfl,fun e=>O e H1 s1⟩
  |true=>
   rw [Z,Bool.true_and] at U;refine iteF ⟨_,rfl,gv,gs,rfl,ig.mono s1.tk,_,rfl,?_⟩;rw [U];exact iteT ⟨rfl,fun e=>O e H1 s1⟩
end
def wayD (gf:Rn->List Int)(r:Rn):D:= .tup [rnD r,gD (gf r)]
section
open Classical
noncomputable def lf (ws:List Rn) (p:List D):List Rn:=ws.filter fun r=>decide (p<+:ans r)
theorem YW {ws:List Rn}{p:List D}{r:Rn}:r∈lf ws p↔r∈ws/\p<+:ans r:=by
 unfold lf;rw [UT,uF]
theorem lf_nil (ws:List Rn):lf ws []=ws:=by
 unfold lf;rw [List.filter_eq_self];intro r _;exact ue vX
theorem srt_nodup {ws:List Rn}(h:Srt ws):ws.Nodup:=List.Pairwise.imp (fun h e=>by rw [e] at h;exact Up _ h) h
theorem lone1 {l:List Rn}{r:Rn}(nd:l.Nodup)(h:∀x∈l,x=r)(B:r∈l):l= [r]:=by
 cases l with
 |nil=>cases B
 |cons x l=>
  have:=h x u5;subst this;cases l with
  |nil=>rfl
  |cons y l=>
   have:=h y (u4 _ u5);subst this;rw [Ux] at nd;exact absurd u5 nd.1
theorem lf_one {ws:List Rn}{p:List D}{r:Rn}(M:Srt ws)(hR:∀r∈ws,RunA r)(F:Fits ws)(B:r∈ws)(L:p<+:ans r)(O:r.1.length<=p.length):lf ws p= [r]:=by
 have ep:p=ans r:=L.eq_of_length (by have:=qM L;rw [qU];omega)
 refine lone1 (List.Pairwise.filter _ (srt_nodup M)) (fun x hx=> ?_) (YW.mpr ⟨B,L⟩);obtain⟨h1,h2⟩:=YW.mp hx;exact(XD (hR r B).ok (hR x h1).ok (F r B x h1) (by rw [<-ep];exact h2)).symm
theorem lf_cut {ws:List Rn}{p:List D}{ks:List D}(hs:Srt ws)(hR:∀r∈ws,RunA r)(hk:ks.Pairwise fun c d=>aR c<aR d)(hA:∀c∈ks,c∈ANS)(hc:∀r∈ws,p<+:ans r->∃c∈ks,p++ [c]<+:ans r):lf ws p=ks.flatMap fun c=>lf ws (p++ [c]):=by
 have nx:∀r∈ws,p<+:ans r->∃c∈ks,(ans r)[p.length]? =some c:=fun r M B=>let⟨c,h1,h2⟩:=hc r M B;⟨c,h1,(QH.mp h2).2⟩;have e:=cut_all (f:=fun r:Rn=>aR ((ans r)[p.length]?.getD .non)) (ks:=ks) (L:=lf ws p) ?_ hk ?_
 ·refine e.trans ?_;rw [List.flatMap,List.flatMap]
  congr 1
  refine Uj fun c Z=> ?_;unfold lf;rw [List.filter_filter];refine List.filter_congr fun r M=> ?_;by_cases B:p<+:ans r
  ·obtain⟨c',h1,h2⟩:=nx r M B;rw [ue B,Bool.and_true,h2,uM,V6,QH,h2];constructor
   ·intro h;exact⟨B,by rw [jq (hA c' h1) (hA c Z) h]⟩
   ·intro h;rw [uo h.2]
  ·rw [u8 B,UC];exact(u8 fun z=>B (ya z)).symm
 ·have aa:(lf ws p).Pairwise fun r r'=>rk r<rk r':=List.Pairwise.filter _ hs;refine aa.imp_of_mem fun{r r'} h1 h2 h=> ?_;obtain⟨a1,U⟩:=YW.mp h1;obtain⟨a2,b2⟩:=YW.mp h2;obtain⟨c,O,Y⟩:=nx r a1 U;obtain⟨d,ac,e2⟩:=nx r' a2 b2;rw [Y,e2];obtain⟨t,ht⟩:=QH.mpr ⟨U,Y⟩;obtain⟨t',ab⟩:=QH.mpr ⟨b2,e2⟩;unfold rk at h;rw [<-ht,<-ab] at h;simp only [uw,um,UI,V2,List.singleton_append] at h;exact lt_pre h
 ·intro r M;obtain⟨a1,U⟩:=YW.mp M;obtain⟨c,O,Y⟩:=nx r a1 U;exact⟨c,O,by simp only [Y,V6]⟩
noncomputable def mu (ws:List Rn) (rp:List (List D)):Nat:=(rp.flatMap fun p=>(lf ws p).map fun r=>r.1.length+1-p.length).sum
end
theorem sum_lt {α:Type}{f g:α->Nat}:∀{L:List α},L≠ []->(∀x∈L,f x<g x)->(L.map f).sum<(L.map g).sum
 | [],h,_=>absurd rfl h
 | [x],_,h=>by simpa using h x u5
 |x::y::L,_,h=>by
  have:=sum_lt (f:=f) (g:=g) (L:=y::L) (by simp) fun z hz=>h z (u4 _ hz)
  have:=h x u5;simp only [um,List.sum_cons] at*;omega
theorem len_flat {α β:Type}{F:α->List β}:∀{l:List α},(∀p∈l,F p≠ [])->l.length<=(l.flatMap F).length
 | [],_=>Nat.le_refl _
 |x::l,h=>by
  have:=len_flat (F:=F) (l:=l) fun p B=>h p (u4 _ B);have:=List.length_pos_iff.mpr (h x u5);rw [vG,ui,ul];omega
theorem mu_dec {ws:List Rn}{p:List D}{ks:List D}{L:List (List D)}(h:lf ws p=ks.flatMap fun c=>lf ws (p++ [c]))(B:lf ws p≠ [])(M:∀r∈ws,p<+:ans r->p.length<r.1.length):mu ws (ks.map (fun c=>p++ [c])++L)<mu ws (p::L):=by
 unfold mu;rw [List.flatMap_append,vG,List.sum_append_nat,List.sum_append_nat,List.flatMap_map];have e:(ks.flatMap fun c=>(lf ws (p++ [c])).map fun r=>r.1.length+1-(p++ [c]).length)=(lf ws p).map fun r=>r.1.length+1-(p.length+1):=by
  rw [h,List.map_flatMap];simp only [ui,uR]
 rw [e];have:=sum_lt (f:=fun r:Rn=>r.1.length+1-(p.length+1)) (g:=fun r:Rn=>r.1.length+1-p.length) B fun r O=>by
  obtain⟨a,b⟩:=YW.mp O;have:=M r a b;omega
 omega
theorem YQ {x y:D}(hx:x∈ANS)(B:y∈ANS):ltK akL x y=decide (aR x<aR y):=by
 unfold ltK;rw [uk (ans_lt x hx y B)]
 rfl
theorem keys_ak {ks:List D}(h:∀c∈ks,c∈ANS):KeysOk false akL ks:=by
 refine⟨fun x hx=> ?_,fun _ x _=>ans_hd x,fun x hx y B=>⟨_,uk (ans_lt x (h x hx) y (h y B))⟩,⟨fun x hx=> ?_,fun x hx y B z hz=> ?_,fun x hx y B z hz=> ?_⟩⟩
 ·have:=ans_ak x (h x hx);rw [Bool.and_eq_true] at this;have h2:=uk this.2;exact⟨this.1,by omega⟩
 ·rw [YQ (h x hx) (h x hx)];exact u8 (by omega)
 ·rw [YQ (h x hx) (h y B),YQ (h y B) (h z hz),YQ (h x hx) (h z hz)];simp only [uF];omega
 ·rw [YQ (h x hx) (h y B),YQ (h y B) (h z hz),YQ (h x hx) (h z hz)];simp only [uF];omega
def sp_ways (w:World)(CA CN:Addr):Sp:=fun vs H Q _=>∃(t:Addr) (ws:List Rn) (S:Addr->Prop) (gf:Rn->List Int),vs= [.ref t]/\Qy w CA CN gf H t ws S/\(∀r∈ws,RunA r)/\Fits ws/\Srt ws/\ws.length<=100/\
 ∀(u:V) (H':Hp),Same H H'->Is H' (.tup (ws.map (wayD gf))) u->Q u H'
def WyS (H:Hp)(ws:List Rn)(gf:Rn->List Int)(n:List D->Addr)(t fl wl:Addr)(m:Nat)(σ:L2.St)(H':Hp):Prop:=
 ∃(rp:List (List D)) (dn:List Rn) (fvs:List V) (o1 o2:Option V),σ= [some (.ref t),some (.ref fl),some (.ref wl),o1,o2]/\Same H H'/\H' fl=some (.lst fvs)/\IsL H' (dn.map (wayD gf)) fvs/\H' wl=some (.lst ((rp.map fun p=>V.ref (n p)).reverse))/\(∀p∈rp,∃r∈ws,p<+:ans r)/\dn++rp.flatMap (lf ws)=ws/\m=mu ws rp/\fl≠wl
theorem split_mid {ws:List Rn}{p:List D}{ks:List D}{M:List (List D)}{U:List Rn}{r:Rn}(hS:Srt ws)(hR:∀r∈ws,RunA r)(F:Fits ws)(O:r∈ws)(Y:p<+:ans r)(hl:p.length<r.1.length)(B:U++(p::M).flatMap (lf ws)=ws)(hk:ks.Pairwise fun c d=>aR c<aR d)(hm:∀c,c∈ks↔∃r'∈ws,p++ [c]<+:ans r'):
  U++((ks.map fun c=>p++ [c])++M).flatMap (lf ws)=ws/\mu ws ((ks.map fun c=>p++ [c])++M)<mu ws (p::M):=by
 have L:∀r'∈ws,p<+:ans r'->p.length<r'.1.length:=fun r' h1 h2=>by
  have:=congrArg isAsk (F r O r' h1 p Y h2);rw [QO (hR r O).ok,QO (hR r' h1).ok,ue hl] at this;exact uk this.symm
 have e:=lf_cut (p:=p) hS hR hk (fun c hc=>let⟨r',h1,h2⟩:=(hm c).mp hc;(hR r' h1).kid h2) fun r' h1 h2=>by
  have h3:=L r' h1 h2;have h4:(ans r')[p.length]? =some (r'.1[p.length]).2:=by rw [yR,u0 h3];rfl
  have Z:=QH.mpr ⟨h2,h4⟩;exact⟨_,(hm _).mpr ⟨r',h1,Z⟩,Z⟩
 refine⟨?_,mu_dec e (List.ne_nil_of_mem (YW.mpr ⟨O,Y⟩)) L⟩;rw [List.flatMap_append,List.flatMap_map,<-e];rw [vG] at B;exact B
theorem split_end {ws:List Rn}{p:List D}{ks:List D}{M:List (List D)}{U:List Rn}{r:Rn}(hS:Srt ws)(hR:∀r∈ws,RunA r)(F:Fits ws)(hr:r∈ws)(Y:p<+:ans r)(hl:r.1.length<=p.length)(L:U++(p::M).flatMap (lf ws)=ws)(hm:∀c∈ks,∃r'∈ws,p++ [c]<+:ans r'):
  ∀B:List D,B.Pairwise (fun c d=>aR c<aR d)->(∀c,c∈B↔c∈ks)->(U++ [r])++((B.map fun c=>p++ [c])++M).flatMap (lf ws)=ws/\mu ws ((B.map fun c=>p++ [c])++M)<mu ws (p::M):=fun B _ h2=>by
 have O:=lf_one hS hR F hr Y hl;have e0:B= []:=by
  cases B with
  |nil=>rfl
  |cons c _=>
   obtain⟨r',h3,h4⟩:=hm c ((h2 c).mp u5);have Z:r'∈lf ws p:=YW.mpr ⟨h3,ya h4⟩;rw [O] at Z;cases List.mem_singleton.mp Z;have:=qM h4;rw [ui,uR] at this;omega
 subst e0;have aa:=qM Y;refine⟨?_,?_⟩
 ·rw [vG,O,<-V2] at L;exact L
 ·unfold mu;rw [UI,List.nil_append,vG,O,List.sum_append_nat];simp;omega
theorem lf_ne {ws:List Rn}{p:List D}(h:∃r∈ws,p<+:ans r):lf ws p≠ []:=by
 obtain⟨r,B,L⟩:=h;exact List.ne_nil_of_mem (YW.mpr ⟨B,L⟩)
section
variable {P:Program}{w:World}{K:PySem.W.Frag}{mg:Str->Option Value}{base:Heap}{a:Ad}{g:Ga}
theorem ok_ways (T:Tx K mg a):FnOk P w K mg base CX0 12 a.Yx a.Yw ["self"] (sp_ways w a.qk a.qB):=by
 have y7:=ok_akey (P:=P) (w:=w) (base:=base) T;refine T.g_AskTree_ways.F.ok Qg () (fun _ _ _ _ H vs Q E hr h=> ?_)
 obtain⟨t,ws,S,gf,rfl,⟨dt,bv,ht,bb,hT⟩,hRs,hF,hS,Z,k⟩:=h;refine⟨_,(@qd _ _ _ _ _ (@qE _ _ (1) _ _ _ _ Qg.nd rfl (Or.inl rfl) (@Qq _ _ _ _ qc) () ()) (@qd _ _ _ _ _ (@qE _ _ (2) _ _ _ _ Qg.nd rfl (Or.inl rfl) (@pe_ifExp _ _ _ _ _ _ _ _ (@qu _ _ _ _ _ _ _ _ jY (@qS _ _ _ _ _ (pv 0) rfl) Qh (qC _)) (@Qq _ _ _ _ qc) (@Qq _ _ _ _ (@qa _ _ _ _ _ (@qS _ _ _ _ _ (pv 0) rfl) qc ()))) () ()) (@qd _ _ _ _ _ (@Xy _ _ _ _ _ _ uO (@x9 _ _ _ (pv 2) (fun _=>rfl)) (@qd _ _ _ _ _ (@qE _ _ (3) _ _ _ _ Qg.nd rfl (Or.inl rfl) (@pe_bm0 _ _ _ _ _ _ _ _ _ uQ PySem.F.slot_list_pop PySem.F.type_list_pop mt_pop (pv 2) () ()) () ()) (@qd _ _ _ _ _ (@qN _ _ _ _ _ _ _ _ (@qu _ _ _ _ _ _ _ _ je (@qS _ _ _ _ _ (pv 3) rfl) Qh (qC _)) (@qf _ _ _ (@QY _ _ _ _ (@pe_bm _ _ _ _ _ _ _ _ _ _ _ _ uQ vt vv Q6 (pv 1) (@qa _ _ _ _ _ (@qy _ _ _ _ _ (@qa _ _ _ _ _ (@qS _ _ _ _ _ (pv 3) rfl) (@qa _ _ _ _ _ (@qS _ _ _ _ _ (pv 3) rfl) qc ()) ())) qc ()) () () () () ()) ())) qr) (@qf _ _ _ (@Q4 _ _ _ _ _ _ _ _ uO rfl (@yI _ _ _ _ (@Xu _ _ _ _ _ _ _ (true) _ _ _ _ _ _ _ _ _ _ _ rfl rfl rfl y7 (hr.mono ()) T.g_answer_key.b () T.YR () T.g_answer_key.m (@qS _ _ _ _ _ (pv 3) rfl) () ())) (@qw _ _ (4) _ Qg.nd rfl (Or.inl rfl) ()) (@qf _ _ _ (@QY _ _ _ _ (@pe_bm _ _ _ _ _ _ _ _ _ _ _ _ uQ vt vv Q6 (pv 2) (@qa _ _ _ _ _ (@xh _ _ _ _ _ _ (w) rfl hr.units (@qS _ _ _ _ _ (pv 3) rfl) (pv 4) (fun _ _=>rfl)) qc ()) () () () () ()) ())) ()))))) (@qf _ _ _ (@qo _ _ _ _ (@Qo _ _ _ _ _ _ _ _ _ Qk () T.QP Ue (@qa _ _ _ _ _ (pv 1) qc ()) () () () ())))))),?_⟩
 have aw:∀u:V,([(("beginning":Str),u)]:List (Str×V)).lookup ("beginning":Str)=some u:=fun u=>by simp [List.lookup]
 have aS:(2:Nat)<=sizeLine:=by decide
 refine⟨(by show 0<=sizeLine;decide),fun O az=> ?_⟩
 have s1:=qb az (.lst []);have e1:(upd H O (.lst [])) O=some (.lst []):=qe;show tSeq _ _ _ _ (upd H O (.lst []));generalize upd H O (.lst [])=H1 at s1 e1⊢;obtain⟨n,e,hT⟩:∃n e:List D->Addr,(ws= []/\bv= .non)∨(ws≠ []/\bv= .ref (n [])/\yP w a.qB gf H ws S n e):=by
  rcases hT with⟨h1,h2⟩|⟨h1,n,e,h2,h3⟩
  ·exact⟨fun _=>0,fun _=>0,.inl ⟨h1,h2⟩⟩
  ·exact⟨n,e,.inr ⟨h1,h2,h3⟩⟩
 have N:yP w a.qB gf H ws S n e:=by
  rcases hT with⟨h1,h2⟩|⟨h1,h2,h3⟩
  ·rw [h1];exact nodes_nil _ _ _ _ _ _ _
  ·exact h3
 have mk:∃Y:List (List D),(∀p∈Y,∃r∈ws,p<+:ans r)/\Y.flatMap (lf ws)=ws/\((bv= .non/\Y= [])∨(bv= .ref (n [])/\Y= [[]])):=by
  rcases hT with⟨h1,h2⟩|⟨h1,h2,h3⟩
  ·exact⟨[],by simp,by rw [h1];rfl,.inl ⟨h2,rfl⟩⟩
  ·obtain⟨r0,aT⟩:=vo _ h1;refine⟨[[]],fun p hp=> ?_,by simp [lf_nil],.inr ⟨h2,rfl⟩⟩
   cases List.mem_singleton.mp hp;exact⟨r0,aT,vX⟩
 obtain⟨aA,aU,aV,aW⟩:=mk;refine xN fun N9 aa=>aa _ _ ?_;clear aa;refine xN fun N0 aB=> ?_;have key:∀(vs:List V) (B:Addr),vs=(aA.map fun p=>V.ref (n p)).reverse->H1 B=none->N0 [some (.ref t),some (.ref O),some (.ref B),none,none] (upd H1 B (.lst vs)):=by
  intro vs B aX Z;subst aX;refine aB _ _ ?_;have aC:O≠B:=qh e1 Z;have g5:H B=none:=QF s1 Z;refine⟨WyS H ws gf n t O B,⟨_,aA,[],[],none,none,rfl,s1.trans (qb Z _),(qb Z _) _ _ e1,rfl,qe,aU,aV,rfl,aC⟩,?_⟩;rintro m σ H' ⟨Y,dn,U,o1,o2,rfl,S1,ef,aD,ew,ak,M,rfl,ag⟩;refine⟨_,rfl,_,.inl ⟨_,SqL.of ew,rfl⟩,?_⟩;cases Y with
  |nil=>
   refine iteF ?_;refine⟨_,rfl,O,U,rfl,.inl ⟨SqL.of ef,fun l hl=>k _ _ (S1.trans (qb hl _)) ?_⟩⟩;rw [List.flatMap_nil,vL] at M;rw [<-M];exact Is.new aD hl
  |cons p Y=>
   refine Qi (by simp) ⟨fun σ' aY=>∃m',m'<mu ws (p::Y)/\WyS H ws gf n t O B m' σ' aY,fun _ _ h=>h,?_⟩
   rw [um,List.reverse_cons] at ew;generalize aE:(Y.map fun p=>V.ref (n p)).reverse=us at ew;refine⟨_,rfl,.inl ⟨rfl,_,SqL.of ew⟩,B,_,.ref (n p),rfl,rfl,ew,last_at _ _,?_⟩;rw [drop_last];obtain⟨r,hr,hp⟩:=ak p u5;obtain⟨dx,fs,tv,wv,ah,ab,nf,bc,aZ,a0⟩:=N.nd r hr p hp;obtain⟨kvs,g0,mem,a1⟩:=N.kd r hr p hp;have t2:Tk H' (upd H' B (.lst us)):=Tk.updL ew;have S2:Same H (upd H' B (.lst us)):=fun b o h=>by rw [qi (qh h g5)];exact S1 b o h
   have am:(upd H' B (.lst us)) B=some (.lst us):=qe;have ai:(upd H' B (.lst us)) O=some (.lst U):=by rw [qi ag];exact ef
   have aj:=aD.mono t2;show tSeq _ _ _ _ (upd H' B (.lst us));generalize upd H' B (.lst us)=aF at t2 S2 am ai aj⊢;have bd:dn.length<=100:=by
    have:=congrArg List.length M;rw [ui] at this;omega
   have be:U.length=dn.length:=by rw [aj.length,uc]
   refine xN fun N9 aa=>aa _ _ ?_;clear aa;refine xN fun N1 aG=> ?_;have al:∀(ac:List Rn) (L:List V) (H4:Hp),Same H H4->H4 O=some (.lst L)->H4 B=some (.lst us)->IsL H4 (ac.map (wayD gf)) L->(∀ks:List D,ks.Pairwise (fun c d=>aR c<aR d)->(∀c,c∈ks↔c∈kvs.map (·.1))->ac++((ks.map fun c=>p++ [c])++Y).flatMap (lf ws)=ws/\mu ws ((ks.map fun c=>p++ [c])++Y)<mu ws (p::Y))->N1 [some (.ref t),some (.ref O),some (.ref B),some (.ref (n p)),o2] H4:=by
    intro ac L H4 S4 a2 aH a3 a4;refine aG _ _ ?_;have ad:∀c∈kvs.map (·.1),c∈ANS:=fun c hc=>let⟨r2,h1,h2⟩:=(mem c).mp hc;(hRs r2 h1).kid h2;have bf:=XR g0.nd ad;refine⟨_,rfl,_,_,dx,fs,_,rfl,S4 _ _ ab,T.qV,T.qJ,nf.edges,?_⟩;refine⟨e p,kvs,false,akL,rfl,g0.same S4,by omega,keys_ak ad,fun x hx H5 s5 Q' q'=> ?_,fun H5 ys q s5 hq perm srt=> ?_⟩
    ·exact⟨x.2.1,x.1,rfl,ad _ (List.mem_map.mpr ⟨x,hx,rfl⟩),((g0.same S4).ks x hx).1.mono s5.tk,fun u H6 s6 i6=>q' u H6 s6 i6⟩
    rw [if_pos rfl] at srt;have pm:(ys.map (·.1)).Perm (kvs.map (·.1)):=by
     have:=perm.map (·.1);rw [uB] at this;exact this
    have a5:(ys.map (·.1)).Nodup:=pm.nodup_iff.mpr g0.nd;have pw:(ys.map (·.1)).reverse.Pairwise fun c d=>aR c<aR d:=by
     rw [List.pairwise_reverse];have h1:(ys.map (·.1)).Pairwise fun a b=>ltK akL a b=false:=List.pairwise_map.mpr srt;refine(h1.and a5).imp_of_mem fun{x y} hx hy h=> ?_;have ax:=ad x (pm.mem_iff.mp hx);have ay:=ad y (pm.mem_iff.mp hy);have h2:=h.1;rw [YQ ax ay] at h2;have h3:=UU h2;have h4:aR x≠aR y:=fun z=>h.2 (jq ax ay z);omega
    obtain⟨aI,a6⟩:=a4 (ys.map (·.1)).reverse pw fun c=>by rw [List.mem_reverse];exact pm.mem_iff
    have aJ:∀p'∈((ys.map (·.1)).reverse.map fun c=>p++ [c])++Y,∃r∈ws,p'<+:ans r:=fun p' ao=>by
     rcases List.mem_append.mp ao with h|h
     ·obtain⟨c,h1,rfl⟩:=List.mem_map.mp h;exact(mem c).mp (pm.mem_iff.mp (List.mem_reverse.mp h1))
     ·exact ak p' (u4 _ h)
    have bg:us.length+ys.length<=100:=by
     have h1:=len_flat (F:=lf ws) fun p' ao=>lf_ne (aJ p' ao);have h2:=congrArg List.length aI;rw [<-aE];simp only [ui,uc,List.length_reverse] at h1 h2⊢;omega
    have s6:=qb hq (.lst (ys.map (·.2)));have ap:(upd H5 q (.lst (ys.map (·.2)))) q=some (.lst (ys.map (·.2))):=qe;have S6:=S4.trans (s5.trans s6);have aK:=s6 _ _ (s5 _ _ a2);have aL:=s6 _ _ (s5 _ _ aH);have aM:=(a3.mono s5.tk).mono s6.tk;have a7:q≠B:=(qh (s5 _ _ aH) hq).symm;generalize upd H5 q (.lst (ys.map (·.2)))=H6 at s6 ap S6 aK aL aM⊢;refine⟨q,rfl,⟨_,SqL.of ap⟩,?_⟩
    let J2_:Nat->L2.St->Hp->Prop:=fun j σ H'=>∃o2:Option V,σ= [some (.ref t),some (.ref O),some (.ref B),some (.ref (n p)),o2]/\Same H H'/\H' q=some (.lst (ys.map (·.2)))/\H' O=some (.lst L)/\IsL H' (ac.map (wayD gf)) L/\H' B=some (.lst (us++(ys.take j).map fun y=>V.ref (n (p++ [y.1]))))
    refine Yl (K:=K) (a:=q) (xs:=ys.map (·.2)) J2_ ⟨_,rfl,S6,ap,aK,aM,by rw [List.take_zero,UI,vL];exact aL⟩ (fun j σ H' _ ⟨_,_,_,h,_⟩=>SqL.of h) ?_ ?_
    ·rintro j x σ H7 hx ⟨o2,rfl,S7,aN,aq,au,ae⟩;have a8:j<ys.length:=by have:=(List.getElem?_eq_some_iff.mp hx).1;rw [uc] at this;exact this
     obtain⟨y,hy⟩:∃y,ys[j]? =some y:=⟨_,u0 a8⟩;rw [uj,hy] at hx;cases hx;obtain⟨z,hz,ez⟩:=List.mem_map.mp (perm.mem_iff.mp (ud hy));have ky:KOk H7 y.1 y.2:=by rw [<-ez];exact(g0.same S7).ks z hz
     have a9:y.1∈kvs.map (·.1):=by rw [<-ez];exact List.mem_map.mpr ⟨z,hz,rfl⟩
     obtain⟨x,hx,ex,ev⟩:=jC g0 ky.2.1 a9;refine⟨_,rfl,.inl ⟨rfl,_,SqL.of ae⟩,_,rfl,_,_,dx,fs,_,rfl,S7 _ _ ab,T.qV,T.qJ,nf.edges,_,rfl,e p,kvs,y.1,_,rfl,g0.same S7,ky,ev,?_⟩;refine⟨B,_,_,rfl,rfl,ae,QL (by simp;omega),?_⟩
     refine⟨some y.2,rfl,fun b o h=> ?_,?_,?_,au.mono (Tk.updL ae),?_⟩
     ·rw [qi (qh h g5)];exact S7 b o h
     ·rw [qi a7];exact aN
     ·rw [qi ag];exact aq
     ·rw [qe,a1 x hx,ex,uE,hy,V2];simp
    ·rintro σ H7 ⟨o2,rfl,S7,aN,aq,au,ae⟩;refine⟨_,a6,_,ac,L,_,_,rfl,S7,aq,au,?_,aJ,aI,rfl,ag⟩;rw [ae,uc,uL (Nat.le_refl _),<-aE];simp
   clear aG;refine⟨_,rfl,_,_,dx,fs,wv,rfl,S2 _ _ ab,T.qV,T.Yi,nf.way,rfl,_,rfl,?_⟩;by_cases af:r.1.length<=p.length
   ·obtain⟨aO,ba⟩:=a0 _ (by unfold wyr;rw [if_pos af])
    refine Qi (by rw [u8 (ji aO (by simp [rnD]))];rfl) ?_
    refine⟨_,rfl,.inl ⟨rfl,_,SqL.of ai⟩,_,rfl,_,_,dx,fs,wv,rfl,S2 _ _ ab,T.qV,T.Yi,nf.way,_,rfl,_,_,dx,fs,ah,rfl,S2 _ _ ab,T.qV,T.Qz,nf.givers,aS,fun l hl=> ?_⟩;have s3:=qb hl (.tup [wv,ah]);have i3:Is (upd aF l (.tup [wv,ah])) (wayD gf r) (.ref l):=Is.new (ds:= [rnD r,gD (gf r)]) ⟨_,_,rfl,aO.mono S2.tk,_,_,rfl,ba.mono S2.tk,rfl⟩ hl;have av:=s3 _ _ ai;have aP:=s3 _ _ am;have S3:=S2.trans s3;have aQ:=aj.mono s3.tk;generalize upd aF l (.tup [wv,ah])=H3 at s3 i3 av aP S3 aQ⊢;refine⟨O,U,_,rfl,rfl,av,QL (by omega),?_⟩
    have t4:Tk H3 (upd H3 O (.lst (U++ [.ref l]))):=Tk.updL av;refine al (dn++ [r]) (U++ [.ref l]) _ (fun b o h=>by rw [qi (qh h az)];exact S3 b o h) qe (by rw [qi ag.symm];exact aP) ?_ ?_
    ·rw [uw];exact(aQ.mono t4).append (IsL.one (i3.mono t4))
    ·exact split_end (ks:=kvs.map (·.1)) hS hRs hF hr hp af M (fun c hc=>(mem c).mp hc)
   ·refine Qf ?_ ?_
    ·rw [aZ (by unfold wyr;rw [if_neg af])]
     decide+kernel
    exact al dn U _ S2 ai am aj fun ks h1 h2=>split_mid hS hRs hF hr hp (by omega) M h1 (fun c=>(h2 c).trans (mem c))
 clear aB;refine⟨_,rfl,t,_,dt,_,bv,rfl,s1 _ _ ht,T.qO,T.qt,aw bv,rfl,_,rfl,?_⟩;rcases aW with⟨hb,rfl⟩|⟨hb,rfl⟩
 ·rw [hb];refine Qi (by decide+kernel) ?_
  exact⟨(by show 0<=sizeLine;decide),fun B h=>key _ B rfl h⟩
 ·rw [hb];refine Qf (u8 (by simp)) ?_
  exact⟨_,rfl,t,_,dt,_,_,rfl,s1 _ _ ht,T.qO,T.qt,by rw [hb];exact aw _,(by show 1<=sizeLine;decide),fun B h=>key _ B rfl h⟩
end
end K29
namespace K29
open PySem L2 PyProof.Rows
open Builtin.Int (intBits)
def nxt (s d:Int):Int:=(s*s+31*d+17)%10007
def yh (salt:Int)(path:List Int):Int:=path.foldl nxt (salt%10007)
def s2 (x y:Str):D:= .tup [.str x,.str y]
def ENDS:List D:= [s2 "said" "x",.tup [.str "said",s2 "a" "b1"],s2 "fault" "told",s2 "fault" "kind"]
def ASKS:List D:= [s2 "thing" "a",s2 "thing" "b1",s2 "has" "a",s2 "names" "",s2 "names" "b"]
def lim (salt:Int):Nat:=if salt%8=3 then 40 else 5
def stp (salt:Int):Int:=if salt%8=3 then 24 else 4
def endB (salt:Int)(path:List Int):Bool:=decide (path.length=lim salt)||(decide (path≠ [])&&decide (yh salt path%stp salt=3))
def pick (l:List D)(i:Int):D:=l.getD i.toNat .non
def thF (salt:Int)(path:List Int)(lk:Bool):Bool×D:=if lk=true then(true,s2 "fault" "lack") else if endB salt path=true then(true,pick ENDS (yh salt path/4%4)) else(false,pick ASKS (yh salt path/4%5))
theorem nxt_ok (s d:Int):0<=nxt s d/\nxt s d<10007:=⟨vk _ (by decide),v0 _ (by decide)⟩
theorem foldl_ok:∀(path:List Int) (s:Int),0<=s->s<10007->0<=path.foldl nxt s/\path.foldl nxt s<10007
 | [],s,h1,h2=>⟨h1,h2⟩
 |d::r,s,_,_=>foldl_ok r (nxt s d) (nxt_ok s d).1 (nxt_ok s d).2
theorem stepF_ok (salt:Int)(path:List Int):0<=yh salt path/\yh salt path<10007:=foldl_ok path _ (vk _ (by decide)) (v0 _ (by decide))
theorem stepF_snoc (salt:Int)(path:List Int)(d:Int):yh salt (path++ [d])=nxt (yh salt path) d:=by unfold yh;rw [List.foldl_append];rfl
def sp_there:Sp:=fun vs H Q _=>∃(salt:Int) (pl:Addr) (path:List Int) (lk:Bool),vs= [.int salt,.ref pl,.bl lk]/\H pl=some (.lst (path.map V.int))/\∀(u:V) (H':Hp),Same H H'->Is H' (.tup [.bl (thF salt path lk).1,(thF salt path lk).2]) u->Q u H'
theorem is2 {H:Hp}{l:Addr}{x y:Str}(hx:x.length<=1000)(B:y.length<=1000)(L:H l=none):Is (upd H l (.tup [.str x,.str y])) (s2 x y) (.ref l):=Is.new (ds:= [.str x,.str y]) ⟨_,_,rfl,⟨rfl,yb hx⟩,_,_,rfl,⟨rfl,yb B⟩,rfl⟩ L
theorem isl_at {H:Hp}{ds:List D}{vs:List V}{i:Int}(h:IsL H ds vs)(B:0<=i)(h1:i<ds.length):∃v,atI vs i=some v/\Is H (pick ds i) v:=by
 obtain⟨n,rfl⟩:=uX B;have h2:n<ds.length:=by omega
 obtain⟨v,L,M⟩:=h.get (u0 h2);refine⟨v,qm L,?_⟩;unfold pick;simp [List.getD,h2];exact M
section
variable {P:Program}{w:World}{K:PySem.W.Frag}{mg:Str->Option Value}{base:Heap}{a:Ad}{g:Ga}
theorem ok_there (T:Tx K mg a):FnOk P w K mg base CX0 1 a.xi a.Jl ["salt","path","lacked"] sp_there:=by
 refine T.g_law_there.F.ok QJ () (fun _ _ _ _ H _ Q E hr h=> ?_)
 obtain⟨salt,pl,path,lk,rfl,hp,k⟩:=h;refine⟨_,(@qd _ _ _ _ _ (@qE _ _ (3) _ _ _ _ QJ.nd rfl (Or.inl rfl) (@qT _ _ _ _ _ _ _ _ Yu (pv 0) qg) () ()) (@qd _ _ _ _ _ (@Q4 _ _ _ _ _ _ _ _ uO rfl (@yI _ _ _ _ (pv 1)) (@qw _ _ (4) _ QJ.nd rfl (Or.inl rfl) ()) (@qf _ _ _ (@qE _ _ (3) _ _ _ _ QJ.nd rfl (Or.inl rfl) (@qT _ _ _ _ _ _ _ _ Yu (@qT _ _ _ _ _ _ _ _ yz (@qT _ _ _ _ _ _ _ _ yz (@qT _ _ _ _ _ _ _ _ JH (pv 3) (pv 3)) (@qT _ _ _ _ _ _ _ _ JH qg (pv 4))) qg) qg) () ())) ()) (@qd _ _ _ _ _ (@qN _ _ _ _ _ _ _ _ (@Qx _ _ _ (pv 2) ()) (@qf _ _ _ (@qo _ _ _ _ (@qy _ _ _ _ _ (@qa _ _ _ _ _ QI (@qa _ _ _ _ _ (@qy _ _ _ _ _ (@qa _ _ _ _ _ qF (@qa _ _ _ _ _ qF qc ()) ())) qc ()) ())))) qr) (@qd _ _ _ _ _ (@qE _ _ (5) _ _ _ _ QJ.nd rfl (Or.inl rfl) (@Qo _ _ _ _ _ _ _ _ _ call_int1 () T.z_int boot_int (@qa _ _ _ _ _ (@QR _ _ _ _ _ _ _ _ yS (@qT _ _ _ _ _ _ _ _ Yu (pv 0) qg) qg (qC _)) qc ()) () () () ()) () ()) (@qd _ _ _ _ _ (@qN _ _ _ _ _ _ _ _ (@j5 _ _ _ _ _ _ _ (@qu _ _ _ _ _ _ _ _ yS (@qx _ _ _ _ _ _ _ _ _ qZ () T.j7 vn (@qa _ _ _ _ _ (pv 1) qc ()) () () () ()) (@qG _ _ _ _ _ _ _ Qu (@Qq _ _ _ _ (@qa _ _ _ _ _ qg (@qa _ _ _ _ _ qg qc ()) ())) (pv 5) (fun _ _=>rfl)) (qC _)) (@Yz _ _ _ _ (@pw_and _ _ _ _ _ _ _ (@qu _ _ _ _ _ _ _ _ (@op_neN _ hr.units0) (pv 1) (@Qq _ _ _ _ qc) (qC _)) (@pw_and1 _ _ _ _ (@qu _ _ _ _ _ _ _ _ yS (@qT _ _ _ _ _ _ _ _ Yu (pv 3) (@qG _ _ _ _ _ _ _ Qu (@Qq _ _ _ _ (@qa _ _ _ _ _ qg (@qa _ _ _ _ _ qg qc ()) ())) (pv 5) (fun _ _=>rfl))) qg (qC _)))).pt)).pt (@qf _ _ _ (@qo _ _ _ _ (@qy _ _ _ _ _ (@qa _ _ _ _ _ QI (@qa _ _ _ _ _ (@qG _ _ _ _ _ _ _ Qu (@Qq _ _ _ _ (@qa _ _ _ _ _ (@qy _ _ _ _ _ (@qa _ _ _ _ _ qF (@qa _ _ _ _ _ qF qc ()) ())) (@qa _ _ _ _ _ (@qy _ _ _ _ _ (@qa _ _ _ _ _ qF (@qa _ _ _ _ _ (@qy _ _ _ _ _ (@qa _ _ _ _ _ qF (@qa _ _ _ _ _ qF qc ()) ())) qc ()) ())) (@qa _ _ _ _ _ (@qy _ _ _ _ _ (@qa _ _ _ _ _ qF (@qa _ _ _ _ _ qF qc ()) ())) (@qa _ _ _ _ _ (@qy _ _ _ _ _ (@qa _ _ _ _ _ qF (@qa _ _ _ _ _ qF qc ()) ())) qc ()) ()) ()) ())) (@qT _ _ _ _ _ _ _ _ Yu (@qT _ _ _ _ _ _ _ _ Xe (pv 3) qg) qg) (fun _ _=>rfl)) qc ()) ())))) qr) (@qf _ _ _ (@qo _ _ _ _ (@qy _ _ _ _ _ (@qa _ _ _ _ _ QI (@qa _ _ _ _ _ (@qG _ _ _ _ _ _ _ Qu (@Qq _ _ _ _ (@qa _ _ _ _ _ (@qy _ _ _ _ _ (@qa _ _ _ _ _ qF (@qa _ _ _ _ _ qF qc ()) ())) (@qa _ _ _ _ _ (@qy _ _ _ _ _ (@qa _ _ _ _ _ qF (@qa _ _ _ _ _ qF qc ()) ())) (@qa _ _ _ _ _ (@qy _ _ _ _ _ (@qa _ _ _ _ _ qF (@qa _ _ _ _ _ qF qc ()) ())) (@qa _ _ _ _ _ (@qy _ _ _ _ _ (@qa _ _ _ _ _ qF (@qa _ _ _ _ _ qF qc ()) ())) (@qa _ _ _ _ _ (@qy _ _ _ _ _ (@qa _ _ _ _ _ qF (@qa _ _ _ _ _ qF qc ()) ())) qc ()) ()) ()) ()) ())) (@qT _ _ _ _ _ _ _ _ Yu (@qT _ _ _ _ _ _ _ _ Xe (pv 3) qg) qg) (fun _ _=>rfl)) qc ()) ()))))))))),?_⟩
 have M:(2:Nat)<=sizeLine:=by decide
 refine⟨_,rfl,_,_,rfl,rfl,(by show(0:Int)<10007;decide),_,rfl,pl,rfl,⟨_,SqL.of hp⟩,?_⟩
 refine Yl (K:=K) (a:=pl) (xs:=path.map V.int) (fun i σ H'=>∃o:Option V,σ= [some (.int salt),some (.ref pl),some (.bl lk),some (.int (yh salt (path.take i))),o,none]/\H'=H) ⟨none,rfl,rfl⟩ (fun i σ H' _ ⟨_,_,h⟩=>by rw [h];exact SqL.of hp) ?_ ?_
 ·rintro i x σ H' hx ⟨o,rfl,rfl⟩;rw [uj] at hx;obtain⟨d,hd,rfl⟩:=Option.map_eq_some_iff.mp hx;have b:=stepF_ok salt (path.take i);refine⟨_,rfl,_,rfl,_,_,rfl,rfl,(.inl ⟨by omega,by omega⟩),_,rfl,_,_,rfl,rfl,(.inl ⟨by decide,by decide⟩),_,_,rfl,rfl,_,_,rfl,rfl,_,_,rfl,rfl,(by show(0:Int)<10007;decide),some (.int d),?_,rfl⟩
  rw [uE,hd];show _= [some (V.int salt),some (.ref pl),some (.bl lk),some (.int (yh salt (path.take i++ [d]))),_,none];rw [stepF_snoc]
  rfl
 rintro σ H' ⟨o,rfl,rfl⟩;rw [uc,vq];obtain⟨b0,b1⟩:=stepF_ok salt path;refine⟨_,rfl,_,rfl,?_⟩;unfold thF at k;cases lk with
 |true=>
  refine iteT ?_;rw [if_pos rfl] at k;refine⟨M,fun l hl=>⟨M,fun l2 aj=>k _ _ ((qb hl _).trans (qb aj _)) ?_⟩⟩;exact Is.new (ds:= [.bl true,s2 "fault" "lack"]) ⟨_,_,rfl,rfl,_,_,rfl,is2 (by decide) (by decide) hl,rfl⟩ aj
 |false=>
 refine iteF ?_;rw [if_neg (by decide)] at k
 refine⟨_,rfl,_,_,rfl,rfl,(by show(0:Int)<8;decide),rfl,.inr ⟨_,rfl,?_⟩⟩
 have ak:decide (V.int (salt%8)=V.int 3)=decide (salt%8=3):=by
  rw [uM];exact⟨fun h=>V.int.inj h,fun h=>by rw [h]⟩
 rw [ak];have eL:atI [V.int 5,V.int 40] (if decide (salt%8=3)=true then 1 else 0)=some (.int (lim salt)):=by
  unfold lim;by_cases c:salt%8=3
  ·rw [if_pos c,if_pos (ue c)];rfl
  ·rw [if_neg c,if_neg (by simpa using c)];rfl
 have eS:atI [V.int 4,V.int 24] (if decide (salt%8=3)=true then 1 else 0)=some (.int (stp salt)):=by
  unfold stp;by_cases c:salt%8=3
  ·rw [if_pos c,if_pos (ue c)];rfl
  ·rw [if_neg c,if_neg (by simpa using c)];rfl
 have sp:0<stp salt:=by unfold stp;split<;>decide
 generalize (if decide (salt%8=3)=true then(1:Int) else 0)=lg at eL eS
 refine⟨_,rfl,pl,_,rfl,.inl (SqL.of hp),M,fun l1 h1=> ?_⟩;have z1:=qb h1 (.lst [.int 5,.int 40]);have i1:(upd H' l1 (.lst [.int 5,.int 40])) l1=some (.lst [.int 5,.int 40]):=qe;generalize upd H' l1 (.lst [.int 5,.int 40])=H1 at z1 i1⊢;refine⟨_,rfl,l1,_,_,_,rfl,rfl,SqL.of i1,eL,rfl,_,rfl,?_⟩;have c1:decide (V.int ((path.map V.int).length:Int)=V.int (lim salt:Int))=decide (path.length=lim salt):=by
  rw [uM,uc];exact⟨fun h=>by have:=V.int.inj h;omega,fun h=>by rw [h]⟩
 rw [c1];by_cases c:path.length=lim salt
 ·rw [ue c];refine iteT (iteT ?_);have he:endB salt path=true:=by unfold endB;rw [ue c];rfl
  refine⟨M,fun Y aa=> ?_⟩;have y0:=qb aa (.tup [.str "said",.str "x"]);have B:=is2 (x:="said") (y:="x") (by decide) (by decide) aa
  have Z0:=z1.trans y0;generalize upd H1 Y (.tup [.str "said",.str "x"])=G0 at y0 B Z0⊢;refine⟨M,fun q1 ab=> ?_⟩;have y1:=qb ab (.tup [.str "a",.str "b1"]);have O:=is2 (x:="a") (y:="b1") (by decide) (by decide) ab
  replace B:=B.mono y1.tk
  have Z1:=Z0.trans y1;generalize upd G0 q1 (.tup [.str "a",.str "b1"])=G1 at y1 O Z1 B⊢;refine⟨M,fun Z ac=> ?_⟩;have y2:=qb ac (.tup [.str "said",.ref q1]);have U:=Is.new (ds:= [.str "said",s2 "a" "b1"]) ⟨_,_,rfl,⟨rfl,yb (by decide)⟩,_,_,rfl,O,rfl⟩ ac
  replace B:=B.mono y2.tk
  replace O:=O.mono y2.tk
  have Z2:=Z1.trans y2;generalize upd G1 Z (.tup [.str "said",.ref q1])=G2 at y2 U Z2 B O⊢;refine⟨M,fun q3 ad=> ?_⟩;have y3:=qb ad (.tup [.str "fault",.str "told"]);have j3:=is2 (x:="fault") (y:="told") (by decide) (by decide) ad
  replace B:=B.mono y3.tk
  replace O:=O.mono y3.tk
  replace U:=U.mono y3.tk
  have Z3:=Z2.trans y3;generalize upd G2 q3 (.tup [.str "fault",.str "told"])=G3 at y3 j3 Z3 B O U⊢;refine⟨M,fun q4 ae=> ?_⟩;have y4:=qb ae (.tup [.str "fault",.str "kind"]);have j4:=is2 (x:="fault") (y:="kind") (by decide) (by decide) ae
  replace B:=B.mono y4.tk
  replace O:=O.mono y4.tk
  replace U:=U.mono y4.tk
  replace j3:=j3.mono y4.tk
  have Z4:=Z3.trans y4;generalize upd G3 q4 (.tup [.str "fault",.str "kind"])=G4 at y4 j4 Z4 B O U j3⊢;refine⟨(by show 4<=sizeLine;decide),fun L hL=> ?_⟩
  have yL:=qb hL (.lst [.ref Y,.ref Z,.ref q3,.ref q4]);have iL:IsL G4 ENDS [.ref Y,.ref Z,.ref q3,.ref q4]:=⟨_,_,rfl,B,⟨_,_,rfl,U,⟨_,_,rfl,j3,⟨_,_,rfl,j4,rfl⟩⟩⟩⟩;have af:=iL.mono yL.tk;have ag:(upd G4 L (.lst [.ref Y,.ref Z,.ref q3,.ref q4])) L=some (.lst [.ref Y,.ref Z,.ref q3,.ref q4]):=qe;have ZL:=Z4.trans yL;generalize upd G4 L (.lst [.ref Y,.ref Z,.ref q3,.ref q4])=GL at yL af ag ZL⊢;obtain⟨dv,ah,ai⟩:=isl_at (i:=yh salt path/4%4) af (vk _ (by decide)) (by show yh salt path/4%4<4;exact v0 _ (by decide))
  refine⟨_,rfl,_,_,rfl,rfl,⟨by decide,by decide⟩,_,_,rfl,rfl,(by show(0:Int)<4;decide),L,_,_,_,rfl,rfl,SqL.of ag,ah,M,fun R hR=> ?_⟩
  refine k _ _ (ZL.trans (qb hR _)) ?_;rw [if_pos he];exact Is.new (ds:= [.bl true,pick ENDS _]) ⟨_,_,rfl,rfl,_,_,rfl,ai,rfl⟩ hR
 ·rw [u8 c];refine iteF ?_;refine⟨_,rfl,(by show 0<=sizeLine;decide),fun l2 h2=> ?_⟩
  have z2:=z1.trans (qb h2 (.lst []));have e2:(upd H1 l2 (.lst [])) l2=some (.lst []):=qe;generalize upd H1 l2 (.lst [])=H2 at z2 e2⊢;refine⟨pl,l2,_,rfl,rfl,SqL.of (z2 _ _ hp),SqL.of e2,_,rfl,?_⟩;have c2:decide (path.map V.int≠ [])=decide (path≠ []):=by
   rw [uM];simp
  rw [c2];by_cases d:path= []
  ·rw [u8 (by simpa using d)]
   refine iteF ?_;refine iteF ?_;have he:¬endB salt path=true:=by unfold endB;rw [u8 c,u8 (by simpa using d)];simp
   refine⟨M,fun Y aa=> ?_⟩;have y0:=qb aa (.tup [.str "thing",.str "a"]);have B:=is2 (x:="thing") (y:="a") (by decide) (by decide) aa
   have Z0:=z2.trans y0;generalize upd H2 Y (.tup [.str "thing",.str "a"])=G0 at y0 B Z0⊢;refine⟨M,fun q1 ab=> ?_⟩;have y1:=qb ab (.tup [.str "thing",.str "b1"]);have O:=is2 (x:="thing") (y:="b1") (by decide) (by decide) ab
   replace B:=B.mono y1.tk
   have Z1:=Z0.trans y1;generalize upd G0 q1 (.tup [.str "thing",.str "b1"])=G1 at y1 O Z1 B⊢;refine⟨M,fun Z ac=> ?_⟩;have y2:=qb ac (.tup [.str "has",.str "a"]);have U:=is2 (x:="has") (y:="a") (by decide) (by decide) ac
   replace B:=B.mono y2.tk
   replace O:=O.mono y2.tk
   have Z2:=Z1.trans y2;generalize upd G1 Z (.tup [.str "has",.str "a"])=G2 at y2 U Z2 B O⊢;refine⟨M,fun q3 ad=> ?_⟩;have y3:=qb ad (.tup [.str "names",.str ""]);have j3:=is2 (x:="names") (y:="") (by decide) (by decide) ad
   replace B:=B.mono y3.tk
   replace O:=O.mono y3.tk
   replace U:=U.mono y3.tk
   have Z3:=Z2.trans y3;generalize upd G2 q3 (.tup [.str "names",.str ""])=G3 at y3 j3 Z3 B O U⊢;refine⟨M,fun q4 ae=> ?_⟩;have y4:=qb ae (.tup [.str "names",.str "b"]);have j4:=is2 (x:="names") (y:="b") (by decide) (by decide) ae
   replace B:=B.mono y4.tk
   replace O:=O.mono y4.tk
   replace U:=U.mono y4.tk
   replace j3:=j3.mono y4.tk
   have Z4:=Z3.trans y4;generalize upd G3 q4 (.tup [.str "names",.str "b"])=G4 at y4 j4 Z4 B O U j3⊢;refine⟨(by show 5<=sizeLine;decide),fun L hL=> ?_⟩
   have yL:=qb hL (.lst [.ref Y,.ref q1,.ref Z,.ref q3,.ref q4]);have iL:IsL G4 ASKS [.ref Y,.ref q1,.ref Z,.ref q3,.ref q4]:=⟨_,_,rfl,B,⟨_,_,rfl,O,⟨_,_,rfl,U,⟨_,_,rfl,j3,⟨_,_,rfl,j4,rfl⟩⟩⟩⟩⟩;have af:=iL.mono yL.tk;have ag:(upd G4 L (.lst [.ref Y,.ref q1,.ref Z,.ref q3,.ref q4])) L=some (.lst [.ref Y,.ref q1,.ref Z,.ref q3,.ref q4]):=qe;have ZL:=Z4.trans yL;generalize upd G4 L (.lst [.ref Y,.ref q1,.ref Z,.ref q3,.ref q4])=GL at yL af ag ZL⊢;obtain⟨dv,ah,ai⟩:=isl_at (i:=yh salt path/4%5) af (vk _ (by decide)) (by show yh salt path/4%5<5;exact v0 _ (by decide))
   refine⟨_,rfl,_,_,rfl,rfl,⟨by decide,by decide⟩,_,_,rfl,rfl,(by show(0:Int)<5;decide),L,_,_,_,rfl,rfl,SqL.of ag,ah,M,fun R hR=> ?_⟩
   refine k _ _ (ZL.trans (qb hR _)) ?_;rw [if_neg he];exact Is.new (ds:= [.bl false,pick ASKS _]) ⟨_,_,rfl,rfl,_,_,rfl,ai,rfl⟩ hR
  ·rw [ue (by simpa using d)]
   refine iteT ?_;refine⟨_,rfl,M,fun l3 h3=> ?_⟩;have z3:=z2.trans (qb h3 (.lst [.int 4,.int 24]));have e3:(upd H2 l3 (.lst [.int 4,.int 24])) l3=some (.lst [.int 4,.int 24]):=qe;generalize upd H2 l3 (.lst [.int 4,.int 24])=H3 at z3 e3⊢;refine⟨_,rfl,l3,_,_,_,rfl,rfl,SqL.of e3,eS,_,_,rfl,rfl,sp,rfl,_,rfl,?_⟩;have c3:decide (V.int (yh salt path%stp salt)=V.int 3)=decide (yh salt path%stp salt=3):=by
    rw [uM];exact⟨fun h=>V.int.inj h,fun h=>by rw [h]⟩
   rw [c3];by_cases f:yh salt path%stp salt=3
   ·rw [ue f];refine iteT ?_;have he:endB salt path=true:=by unfold endB;rw [ue f,ue (p:=path≠ []) d];simp
    refine⟨M,fun Y aa=> ?_⟩;have y0:=qb aa (.tup [.str "said",.str "x"]);have B:=is2 (x:="said") (y:="x") (by decide) (by decide) aa
    have Z0:=z3.trans y0;generalize upd H3 Y (.tup [.str "said",.str "x"])=G0 at y0 B Z0⊢;refine⟨M,fun q1 ab=> ?_⟩;have y1:=qb ab (.tup [.str "a",.str "b1"]);have O:=is2 (x:="a") (y:="b1") (by decide) (by decide) ab
    replace B:=B.mono y1.tk
    have Z1:=Z0.trans y1;generalize upd G0 q1 (.tup [.str "a",.str "b1"])=G1 at y1 O Z1 B⊢;refine⟨M,fun Z ac=> ?_⟩;have y2:=qb ac (.tup [.str "said",.ref q1]);have U:=Is.new (ds:= [.str "said",s2 "a" "b1"]) ⟨_,_,rfl,⟨rfl,yb (by decide)⟩,_,_,rfl,O,rfl⟩ ac
    replace B:=B.mono y2.tk
    replace O:=O.mono y2.tk
    have Z2:=Z1.trans y2;generalize upd G1 Z (.tup [.str "said",.ref q1])=G2 at y2 U Z2 B O⊢;refine⟨M,fun q3 ad=> ?_⟩;have y3:=qb ad (.tup [.str "fault",.str "told"]);have j3:=is2 (x:="fault") (y:="told") (by decide) (by decide) ad
    replace B:=B.mono y3.tk
    replace O:=O.mono y3.tk
    replace U:=U.mono y3.tk
    have Z3:=Z2.trans y3;generalize upd G2 q3 (.tup [.str "fault",.str "told"])=G3 at y3 j3 Z3 B O U⊢;refine⟨M,fun q4 ae=> ?_⟩;have y4:=qb ae (.tup [.str "fault",.str "kind"]);have j4:=is2 (x:="fault") (y:="kind") (by decide) (by decide) ae
    replace B:=B.mono y4.tk
    replace O:=O.mono y4.tk
    replace U:=U.mono y4.tk
    replace j3:=j3.mono y4.tk
    have Z4:=Z3.trans y4;generalize upd G3 q4 (.tup [.str "fault",.str "kind"])=G4 at y4 j4 Z4 B O U j3⊢;refine⟨(by show 4<=sizeLine;decide),fun L hL=> ?_⟩
    have yL:=qb hL (.lst [.ref Y,.ref Z,.ref q3,.ref q4]);have iL:IsL G4 ENDS [.ref Y,.ref Z,.ref q3,.ref q4]:=⟨_,_,rfl,B,⟨_,_,rfl,U,⟨_,_,rfl,j3,⟨_,_,rfl,j4,rfl⟩⟩⟩⟩;have af:=iL.mono yL.tk;have ag:(upd G4 L (.lst [.ref Y,.ref Z,.ref q3,.ref q4])) L=some (.lst [.ref Y,.ref Z,.ref q3,.ref q4]):=qe;have ZL:=Z4.trans yL;generalize upd G4 L (.lst [.ref Y,.ref Z,.ref q3,.ref q4])=GL at yL af ag ZL⊢;obtain⟨dv,ah,ai⟩:=isl_at (i:=yh salt path/4%4) af (vk _ (by decide)) (by show yh salt path/4%4<4;exact v0 _ (by decide))
    refine⟨_,rfl,_,_,rfl,rfl,⟨by decide,by decide⟩,_,_,rfl,rfl,(by show(0:Int)<4;decide),L,_,_,_,rfl,rfl,SqL.of ag,ah,M,fun R hR=> ?_⟩
    refine k _ _ (ZL.trans (qb hR _)) ?_;rw [if_pos he];exact Is.new (ds:= [.bl true,pick ENDS _]) ⟨_,_,rfl,rfl,_,_,rfl,ai,rfl⟩ hR
   ·rw [u8 f];refine iteF ?_;have he:¬endB salt path=true:=by unfold endB;rw [u8 c,u8 f];simp
    refine⟨M,fun Y aa=> ?_⟩;have y0:=qb aa (.tup [.str "thing",.str "a"]);have B:=is2 (x:="thing") (y:="a") (by decide) (by decide) aa
    have Z0:=z3.trans y0;generalize upd H3 Y (.tup [.str "thing",.str "a"])=G0 at y0 B Z0⊢;refine⟨M,fun q1 ab=> ?_⟩;have y1:=qb ab (.tup [.str "thing",.str "b1"]);have O:=is2 (x:="thing") (y:="b1") (by decide) (by decide) ab
    replace B:=B.mono y1.tk
    have Z1:=Z0.trans y1;generalize upd G0 q1 (.tup [.str "thing",.str "b1"])=G1 at y1 O Z1 B⊢;refine⟨M,fun Z ac=> ?_⟩;have y2:=qb ac (.tup [.str "has",.str "a"]);have U:=is2 (x:="has") (y:="a") (by decide) (by decide) ac
    replace B:=B.mono y2.tk
    replace O:=O.mono y2.tk
    have Z2:=Z1.trans y2;generalize upd G1 Z (.tup [.str "has",.str "a"])=G2 at y2 U Z2 B O⊢;refine⟨M,fun q3 ad=> ?_⟩;have y3:=qb ad (.tup [.str "names",.str ""]);have j3:=is2 (x:="names") (y:="") (by decide) (by decide) ad
    replace B:=B.mono y3.tk
    replace O:=O.mono y3.tk
    replace U:=U.mono y3.tk
    have Z3:=Z2.trans y3;generalize upd G2 q3 (.tup [.str "names",.str ""])=G3 at y3 j3 Z3 B O U⊢;refine⟨M,fun q4 ae=> ?_⟩;have y4:=qb ae (.tup [.str "names",.str "b"]);have j4:=is2 (x:="names") (y:="b") (by decide) (by decide) ae
    replace B:=B.mono y4.tk
    replace O:=O.mono y4.tk
    replace U:=U.mono y4.tk
    replace j3:=j3.mono y4.tk
    have Z4:=Z3.trans y4;generalize upd G3 q4 (.tup [.str "names",.str "b"])=G4 at y4 j4 Z4 B O U j3⊢;refine⟨(by show 5<=sizeLine;decide),fun L hL=> ?_⟩
    have yL:=qb hL (.lst [.ref Y,.ref q1,.ref Z,.ref q3,.ref q4]);have iL:IsL G4 ASKS [.ref Y,.ref q1,.ref Z,.ref q3,.ref q4]:=⟨_,_,rfl,B,⟨_,_,rfl,O,⟨_,_,rfl,U,⟨_,_,rfl,j3,⟨_,_,rfl,j4,rfl⟩⟩⟩⟩⟩;have af:=iL.mono yL.tk;have ag:(upd G4 L (.lst [.ref Y,.ref q1,.ref Z,.ref q3,.ref q4])) L=some (.lst [.ref Y,.ref q1,.ref Z,.ref q3,.ref q4]):=qe;have ZL:=Z4.trans yL;generalize upd G4 L (.lst [.ref Y,.ref q1,.ref Z,.ref q3,.ref q4])=GL at yL af ag ZL⊢;obtain⟨dv,ah,ai⟩:=isl_at (i:=yh salt path/4%5) af (vk _ (by decide)) (by show yh salt path/4%5<5;exact v0 _ (by decide))
    refine⟨_,rfl,_,_,rfl,rfl,⟨by decide,by decide⟩,_,_,rfl,rfl,(by show(0:Int)<5;decide),L,_,_,_,rfl,rfl,SqL.of ag,ah,M,fun R hR=> ?_⟩
    refine k _ _ (ZL.trans (qb hR _)) ?_;rw [if_neg he];exact Is.new (ds:= [.bl false,pick ASKS _]) ⟨_,_,rfl,rfl,_,_,rfl,ai,rfl⟩ hR
def CH1:List D:= [.str "yes",.str "no"]
def CH2:List D:= [.tup [],.tup [.str "a"],s2 "a" "b1"]
def CH3:List D:= [.str "x",.str "",.non,.tup [.str "a"],.tup [.tup [.str "x"],.str "b1"],.str "qqqqqqqqqqqqqqqqqqqq"]
def chS (u:Str):List D:=if u="has" then CH1 else if u="names" then CH2 else CH3
def chF:D->List D
 | .tup (.str u::_)=>chS u
 |_=> []
def sp_choices:Sp:=fun vs H Q _=>∃(v:V) (u n:Str),vs= [v]/\Is H (s2 u n) v/\∀(L:Addr) (vs:List V) (H':Hp),Same H H'->H L=none->H' L=some (.lst vs)->IsL H' (chS u) vs->Q (.ref L) H'
theorem isS {H:Hp}{z:Str}(h:z.length<=1000):Is H (.str z) (.str z):=⟨rfl,yb h⟩
theorem ok_choices (T:Tx K mg a):FnOk P w K mg base CX0 1 a.Y0 a.jc ["ask"] sp_choices:=by
 refine T.g_law_choices.F.ok xp () (fun _ _ _ _ H vs Q E U h=> ?_)
 obtain⟨v,u,n,rfl,iv,k⟩:=h;refine⟨_,(@qd _ _ _ _ _ (@qN _ _ _ _ _ _ _ _ (@qu _ _ _ _ _ _ _ _ yS (@qG _ _ _ _ _ _ _ qD (pv 0) qg (fun _ _=>rfl)) qF (qC _)) (@qf _ _ _ (@qo _ _ _ _ (@JI _ _ _ _ (@qp _ _ _ _ _ (@qP _ _ _ _ (by decide)) (@qp _ _ _ _ _ (@qP _ _ _ _ (by decide)) qY ()) ()) ()))) qr) (@qd _ _ _ _ _ (@qN _ _ _ _ _ _ _ _ (@qu _ _ _ _ _ _ _ _ yS (@qG _ _ _ _ _ _ _ qD (pv 0) qg (fun _ _=>rfl)) qF (qC _)) (@qf _ _ _ (@qo _ _ _ _ (@JI _ _ _ _ (@qp _ _ _ _ _ (@Qs _ _ _ _ _ qY ()) (@qp _ _ _ _ _ (@Qs _ _ _ _ _ (@qp _ _ _ _ _ (@qP _ _ _ _ (by decide)) qY ()) ()) (@qp _ _ _ _ _ (@Qs _ _ _ _ _ (@qp _ _ _ _ _ (@qP _ _ _ _ (by decide)) (@qp _ _ _ _ _ (@qP _ _ _ _ (by decide)) qY ()) ()) ()) qY ()) ()) ()) ()))) qr) (@qf _ _ _ (@qo _ _ _ _ (@JI _ _ _ _ (@qp _ _ _ _ _ (@qP _ _ _ _ (by decide)) (@qp _ _ _ _ _ (@qP _ _ _ _ (by decide)) (@qp _ _ _ _ _ pe_dNon (@qp _ _ _ _ _ (@Qs _ _ _ _ _ (@qp _ _ _ _ _ (@qP _ _ _ _ (by decide)) qY ()) ()) (@qp _ _ _ _ _ (@Qs _ _ _ _ _ (@qp _ _ _ _ _ (@Qs _ _ _ _ _ (@qp _ _ _ _ _ (@qP _ _ _ _ (by decide)) qY ()) ()) (@qp _ _ _ _ _ (@qP _ _ _ _ (by decide)) qY ()) ()) ()) (@qp _ _ _ _ _ (@pe_dRep _ _ _ _ _ _ _ _ (mulOk_of (by decide) (by decide) (by decide)) (by decide+kernel)) qY ()) ()) ()) ()) ()) ()) ()))))),?_⟩
 refine⟨_,rfl,?_⟩;refine gi (i:=0) (d:= .str u) iv (qm (j:=0) rfl) fun x hx=> ?_;obtain⟨rfl,_⟩:=hx;refine⟨rfl,_,rfl,?_⟩;rw [es];unfold chS at k;by_cases B:u="has"
 ·rw [if_pos B] at k;exact Qi (ue B) k
 ·rw [if_neg B] at k;refine Qf (u8 B) ?_;refine⟨_,rfl,?_⟩;refine gi (i:=0) (d:= .str u) iv (qm (j:=0) rfl) fun x hx=> ?_;obtain⟨rfl,_⟩:=hx;refine⟨rfl,_,rfl,?_⟩;rw [es];by_cases M:u="names"
  ·rw [if_pos M] at k;exact Qi (ue M) k
  ·rw [if_neg M] at k;refine Qf (u8 M) ?_;have eq:Txt.mul "q" 20=("qqqqqqqqqqqqqqqqqqqq":Str):=by decide+kernel
   intro L vs H' s1 h1 h2 O;rw [eq] at O;exact k L vs H' s1 h1 h2 O
inductive Pfx (salt:Int):List (D×D)->List Int->Bool->Prop
 |nil:Pfx salt [] [] false
 |snoc {as:List (D×D)}{path:List Int}{lk:Bool}{q c:D}{d:Nat}:Pfx salt as path lk->thF salt path lk=(false,q)->(chF q)[d]? =some c->Pfx salt (as++ [(q,c)]) (path++ [(d:Int)]) (yT c)
def WayR (salt:Int)(r:Rn):Prop:=∃path lk,Pfx salt r.1 path lk/\thF salt path lk=(true,r.2)
theorem pick_mem {l:List D}{i:Int}{n:Nat}(B:0<=i)(h1:i<n)(L:l.length=n):pick l i∈l:=by
 obtain⟨m,rfl⟩:=uX B;have:m<l.length:=by omega
 unfold pick;simp [List.getD,this]
theorem thF_ask {salt:Int}{path:List Int}{lk:Bool}{q:D}(h:thF salt path lk=(false,q)):q∈ASKS/\endB salt path=false:=by
 unfold thF at h;cases lk with
 |true=>rw [if_pos rfl] at h;cases h
 |false=>
  rw [if_neg (by decide)] at h
  cases B:endB salt path with
  |true=>rw [B,if_pos rfl] at h;cases h
  |false=>
   rw [B,if_neg (by decide)] at h
   cases h;exact⟨pick_mem (n:=5) (vk _ (by decide)) (v0 _ (by decide)) rfl,rfl⟩
theorem thF_end {salt:Int}{path:List Int}{lk:Bool}{e:D}(h:thF salt path lk=(true,e)):e=s2 "fault" "lack"∨e∈ENDS:=by
 unfold thF at h;cases lk with
 |true=>rw [if_pos rfl] at h;cases h;exact .inl rfl
 |false=>
  rw [if_neg (by decide)] at h
  cases B:endB salt path with
  |true=>
   rw [B,if_pos rfl] at h;cases h;exact .inr (pick_mem (n:=4) (vk _ (by decide)) (v0 _ (by decide)) rfl)
  |false=>rw [B,if_neg (by decide)] at h;cases h
theorem Pfx.len {salt:Int}{as:List (D×D)}{path:List Int}{lk:Bool}(h:Pfx salt as path lk):as.length=path.length/\path.length<=lim salt:=by
 induction h with
 |nil=>exact⟨rfl,uv _⟩
 |snoc h1 h2 L M=>
  have B:=(thF_ask h2).2;unfold endB at B;rw [Bool.or_eq_false_iff] at B;have:=UU B.1;simp only [ui,uR];omega
theorem lim_le (salt:Int):lim salt<=40:=by unfold lim;split<;>decide
def prB (q c:D):Bool:=match q with
 | .tup [.str u,.str n]=>askB u n&&ansB u c
 |_=>false
theorem prB_ok {q c:D}(h:prB q c=true):PrOk (q,c):=by
 unfold prB at h;split at h
 ·rename_i u n
  rw [Bool.and_eq_true] at h;exact⟨u,n,rfl,h.1,h.2⟩
 ·cases h
theorem ch_all:(ASKS.all fun q=>(chF q).all fun c=>prB q c&&ANS.any fun x=>eqN x c)=true:=by decide+kernel
theorem ch_ok {q c:D}(hq:q∈ASKS)(B:c∈chF q):PrOk (q,c)/\c∈ANS:=by
 have h:=List.all_eq_true.mp (List.all_eq_true.mp ch_all q hq) c B;rw [Bool.and_eq_true] at h;refine⟨prB_ok h.1,?_⟩;obtain⟨x,hx,e⟩:=List.any_eq_true.mp h.2;have:=(Ql (kD_n (ans_n hx).1)).mp e;rw [<-this];exact hx
theorem end_ok {e:D}(h:e=s2 "fault" "lack"∨e∈ENDS):Xd e:=by
 simp only [ENDS,uP,v6,UA] at h;rcases h with rfl|rfl|rfl|rfl|rfl
 ·exact .inr ⟨"lack",by decide+kernel,rfl⟩
 ·exact .inl ⟨_,rfl,by decide+kernel⟩
 ·exact .inl ⟨_,rfl,by decide+kernel⟩
 ·exact .inr ⟨"told",by decide+kernel,rfl⟩
 ·exact .inr ⟨"kind",by decide+kernel,rfl⟩
theorem Pfx.prs {salt:Int}{as:List (D×D)}{path:List Int}{lk:Bool}(h:Pfx salt as path lk):∀p∈as,PrOk p/\p.2∈ANS:=by
 induction h with
 |nil=>simp
 |snoc h1 h2 L M=>
  intro p B;rcases List.mem_append.mp B with B|B
  ·exact M p B
  ·cases List.mem_singleton.mp B;exact ch_ok (thF_ask h2).1 (ud L)
theorem WayR.run {salt:Int}{r:Rn}(h:WayR salt r):RunA r:=by
 obtain⟨path,lk,h1,h2⟩:=h;have:=h1.len;have:=lim_le salt;refine⟨⟨fun p B=>(h1.prs p B).1,end_ok (thF_end h2),by omega⟩,fun c L=> ?_⟩
 obtain⟨p,B,rfl⟩:=List.mem_map.mp L;exact(h1.prs p B).2
def sp_way:Sp:=fun vs H Q _=>∃(salt:Int) (p:Addr),vs= [.int salt,.ref p]/\y9 H p/\∀(r:Rn) (v:V) (H':Hp),WayR salt r->Is H' (rnD r) v->y9 H' p->Kept p H H'->Q v H'
theorem asks_s2:∀q∈ASKS,∃u n,q=s2 u n:=by
 intro q hq;simp only [ASKS,uP,v6,UA] at hq;rcases hq with rfl|rfl|rfl|rfl|rfl<;>exact⟨_,_,rfl⟩
theorem chS_len (u:Str):0<(chS u).length/\(chS u).length<=6:=by
 unfold chS;split
 ·decide
 ·split<;>decide
theorem non_is {H:Hp}{d:D}{v:V}(h:Is H d v):decide (v= .non)=yT d:=by
 by_cases c:d= .non
 ·subst c;cases(show v= .non from h)
  decide+kernel
 ·rw [u8 (ji h c)];cases d with
  |non=>exact absurd rfl c
  |_=>rfl
theorem ok_way (T:Tx K mg a):FnOk P w K mg base CX0 2 a.f_law_way a.d_law_way ["salt","pot"] sp_way:=by
 have B:=ok_there (P:=P) (w:=w) (base:=base) T;have XV:=ok_choices (P:=P) (w:=w) (base:=base) T;have Qd:=ok_take (P:=P) (w:=w) (base:=base) T;refine T.g_law_way.F.ok Qc () (fun _ _ _ _ H vs Q E hr h=> ?_)
 obtain⟨salt,p,rfl,ae,k⟩:=h;refine⟨_,(@qd _ _ _ _ _ (@qE _ _ (2) _ _ _ _ Qc.nd rfl (Or.inl rfl) (@Qq _ _ _ _ qc) () ()) (@qd _ _ _ _ _ (@qE _ _ (3) _ _ _ _ Qc.nd rfl (Or.inl rfl) (@qy _ _ _ _ _ qc) () ()) (@qd _ _ _ _ _ (@qE _ _ (4) _ _ _ _ Qc.nd rfl (Or.inl rfl) QI () ()) (@qd _ _ _ _ _ (@Q4 _ _ _ _ _ _ _ _ uO rfl (@Jn _ _ _ _ _ _ () T.z_range (@qa _ _ _ _ _ qg qc ()) ()) (@qw _ _ (5) _ Qc.nd rfl (Or.inl rfl) ()) (@qd _ _ _ _ _ (@xu _ _ _ _ _ _ (@ql _ _ _ _ _ _ _ _ _ _ _ _ _ _ _ _ B (hr.mono ()) () T.g_law_there.m T.g_law_there.F.kp T.g_law_there.b .nil qH (@qa _ _ _ _ _ (pv 0) (@qa _ _ _ _ _ (pv 2) (@qa _ _ _ _ _ (pv 4) qc ()) ()) ()) () () ()) (@jb _ _ _ _ _ _ rfl (qI (@qw _ _ (6) _ Qc.nd rfl (Or.inl rfl) ()) (qI (@qw _ _ (7) _ Qc.nd rfl (Or.inl rfl) ()) yF)) () ()) () () ()) (@qd _ _ _ _ _ (@qN _ _ _ _ _ _ _ _ (@Qx _ _ _ (pv 6) ()) (@qf _ _ _ (@qo _ _ _ _ (@qy _ _ _ _ _ (@qa _ _ _ _ _ (pv 3) (@qa _ _ _ _ _ (pv 7) qc ()) ())))) qr) (@qd _ _ _ _ _ (@qE _ _ (8) _ _ _ _ Qc.nd rfl (Or.inl rfl) (@ql _ _ _ _ _ _ _ _ _ _ _ _ _ _ _ _ XV (hr.mono ()) () T.g_law_choices.m T.g_law_choices.F.kp T.g_law_choices.b .nil qH (@qa _ _ _ _ _ (pv 7) qc ()) () () ()) () ()) (@qd _ _ _ _ _ (@QY _ _ _ _ (@pe_bm _ _ _ _ _ _ _ _ _ _ _ _ uQ vt vv Q6 (pv 2) (@qa _ _ _ _ _ (@ql _ _ _ _ _ _ _ _ _ _ _ _ _ _ _ _ Qd (hr.mono ()) () T.g_law_take.m T.g_law_take.F.kp T.g_law_take.b .nil qH (@qa _ _ _ _ _ (pv 1) (@qa _ _ _ _ _ (@qx _ _ _ _ _ _ _ _ _ qZ () T.j7 vn (@qa _ _ _ _ _ (pv 8) qc ()) () () () ()) qc ()) ()) () () ()) qc ()) () () () () ()) ()) (@qd _ _ _ _ _ (@qE _ _ (3) _ _ _ _ Qc.nd rfl (Or.inl rfl) (@qT _ _ _ _ _ _ _ _ jg (pv 3) (@qy _ _ _ _ _ (@qa _ _ _ _ _ (@qy _ _ _ _ _ (@qa _ _ _ _ _ (pv 7) (@qa _ _ _ _ _ (@qG _ _ _ _ _ _ _ Qu (pv 8) (@qG _ _ _ _ _ _ _ Qu (pv 2) (@pe_un _ _ _ _ _ _ un_neg qg) (fun _ _=>rfl)) (fun _ _=>rfl)) qc ()) ())) qc ()))) () ()) (@qf _ _ _ (@qE _ _ (4) _ _ _ _ Qc.nd rfl (Or.inl rfl) (@QR _ _ _ _ _ _ _ _ jY (@qG _ _ _ _ _ _ _ Qu (pv 8) (@qG _ _ _ _ _ _ _ Qu (pv 2) (@pe_un _ _ _ _ _ _ un_neg qg) (fun _ _=>rfl)) (fun _ _=>rfl)) Qh (qC _)) () ()))))))) ()) (@qf _ _ _ (@qo _ _ _ _ Qh)))))),?_⟩
 have ah:(2:Nat)<=sizeLine:=by decide
 have zero:(0:Nat)<=sizeLine:=by decide
 refine⟨zero,fun pl af=> ?_⟩;have z1:=qb af (.lst []);have e1:(upd H pl (.lst [])) pl=some (.lst []):=qe;have ai:p≠pl:=ae.free af;generalize upd H pl (.lst [])=H1 at z1 e1⊢;refine⟨zero,fun q0 h0=> ?_⟩;have z2:=z1.trans (qb h0 (.tup []));have e2:=(qb h0 (.tup [])) _ _ e1;have i2:Is (upd H1 q0 (.tup [])) (.tup []) (.ref q0):=Is.new (ds:= []) rfl h0;generalize upd H1 q0 (.tup [])=H2 at z2 e2 i2⊢;refine⟨50,rfl,by decide,by decide,?_⟩
 let J1_:Nat->L2.St->Hp->Prop:=fun i σ H'=>∃(as:List (D×D)) (path:List Int) (lk:Bool) (av:V) (o5 o6 o7 o8:Option V),σ= [some (.int salt),some (.ref p),some (.ref pl),some av,some (.bl lk),o5,o6,o7,o8]/\Pfx salt as path lk/\path.length=i/\H' pl=some (.lst (path.map V.int))/\Is H' (.tup (as.map prD)) av/\y9 H' p/\Kept p H H'
 refine J2 (n:=50) J1_ ⟨[],[],false,_,none,none,none,none,rfl,.nil,rfl,e2,i2,ae.same z2,z2.kept⟩ ?_ ?_
 ·rintro i σ H3 hi ⟨as,path,lk,av,o5,o6,o7,o8,rfl,hP,aj,e3,i3,M,ak⟩;refine⟨_,rfl,_,rfl,_,rfl,salt,pl,path,lk,rfl,e3,fun u H4 z4 i4=> ?_⟩;obtain⟨a4,aJ,rfl,ax,bv,r4,rfl,ay,tv,r5,rfl,O,az⟩:=i4;cases(show r5= [] from az)
  cases(show bv= .bl _ from ay)
  refine⟨a4,_,rfl,SqT.of ax,rfl,_,_,rfl,_,_,rfl,rfl,?_⟩;refine⟨_,rfl,_,rfl,?_⟩;have i4:=i3.mono z4.tk;have aK:=hP.len;have aL:=lim_le salt;cases ab:thF salt path lk with
  |mk b q=>
  rw [ab] at O;simp only at O⊢;cases b with
  |true=>
   refine iteT ?_;refine⟨_,rfl,_,rfl,ah,fun l hl=> ?_⟩;have z5:=qb hl (.tup [av,tv]);refine k (as,q) _ _ ⟨path,lk,hP,ab⟩ (Is.new (ds:= [.tup (as.map prD),q]) ⟨_,_,rfl,i4,_,_,rfl,O,rfl⟩ hl) ((M.same z4).same z5) (ak.trans (z4.kept.trans z5.kept))
  |false=>
   refine iteF ?_;obtain⟨aA,_⟩:=thF_ask ab;obtain⟨u,n,rfl⟩:=asks_s2 q aA;refine⟨_,rfl,tv,u,n,rfl,O,fun L vs H5 z5 hL eL iL=> ?_⟩;have ac:=z4.trans z5;have aM:=iL.length;have aN:=chS_len u;have e5:=ac _ _ e3;have U:=M.same ac;refine⟨_,rfl,.inl ⟨rfl,_,SqL.of e5⟩,_,rfl,_,rfl,L,vs,rfl,.inl (SqL.of eL),p,_,rfl,U,by omega,by omega,fun d H6 d0 d1 Y ad _=> ?_⟩
   have aB:L≠p:=fun z=>by
    obtain⟨x,ex,_⟩:=M.same z4;rw [z,ex] at hL;cases hL
   have al:L≠pl:=fun z=>by
    have:=z4 _ _ e3;rw [<-z,hL] at this;cases this
   have e6:=ad _ _ e5 ai.symm;have aC:=ad _ _ eL aB;have t6:Tk H5 H6:=U.tk Y ad;have aD:=iL.mono t6;refine⟨pl,_,_,rfl,rfl,e6,QL (by rw [uc];omega),?_⟩
   have t7:Tk H6 (upd H6 pl (.lst (path.map V.int++ [.int d]))):=Tk.updL e6;have e7:(upd H6 pl (.lst (path.map V.int++ [.int d]))) pl=some (.lst (path.map V.int++ [.int d])):=qe;have ag:(upd H6 pl (.lst (path.map V.int++ [.int d]))) L=some (.lst vs):=by rw [qi al];exact aC
   have Z:y9 (upd H6 pl (.lst (path.map V.int++ [.int d]))) p:=by
    obtain⟨x,ex,hx⟩:=Y;exact⟨x,by rw [qi ai];exact ex,hx⟩
   have am:Kept p H (upd H6 pl (.lst (path.map V.int++ [.int d]))):=fun b o h nb=>by
    rw [qi (qh h af)];exact ad b o (ac b o (ak b o h nb)) nb
   have T7:=(ac.tk.trans t6).trans t7;have i7:=i3.mono T7;have ao:=aD.mono t7;have ap:=((O.mono z5.tk).mono t6).mono t7;generalize upd H6 pl (.lst (path.map V.int++ [.int d]))=H7 at t7 e7 ag Z am T7 i7 ao ap⊢;obtain⟨cv,aq,au⟩:=isl_at ao d0 (by omega)
   refine⟨_,rfl,_,rfl,_,rfl,_,rfl,_,rfl,pl,_,_,_,rfl,rfl,SqL.of e7,atI_last _ _,L,_,_,_,rfl,rfl,SqL.of ag,aq,ah,fun l hl=> ?_⟩;have z8:=qb hl (.tup [tv,cv]);have i8:Is (upd H7 l (.tup [tv,cv])) (prD (s2 u n,pick (chS u) d)) (.ref l):=Is.new (ds:= [s2 u n,pick (chS u) d]) ⟨_,_,rfl,ap,_,_,rfl,au,rfl⟩ hl;generalize upd H7 l (.tup [tv,cv])=H8 at z8 i8⊢;refine⟨(by show 1<=sizeLine;decide),fun l2 aw=> ?_⟩
   have z9:=z8.trans (qb aw (.tup [.ref l]));have i9:Is (upd H8 l2 (.tup [.ref l])) (.tup [prD (s2 u n,pick (chS u) d)]) (.ref l2):=Is.new (ds:= [prD (s2 u n,pick (chS u) d)]) ⟨_,_,rfl,i8,rfl⟩ aw;generalize upd H8 l2 (.tup [.ref l])=H9 at z9 i9⊢;refine jl (i7.mono z9.tk) i9 (by rw [uc];refine yb ?_;show _+1<=1000;omega) fun aE aO aF aG=> ?_
   have aa:=z9.trans aF;refine⟨_,rfl,_,rfl,_,rfl,pl,_,_,_,rfl,rfl,SqL.of (aa _ _ e7),atI_last _ _,L,_,_,_,rfl,rfl,SqL.of (aa _ _ ag),aq,rfl,?_⟩;obtain⟨dn,rfl⟩:=uX d0;have aH:dn<(chS u).length:=by omega
   have aI:(chS u)[dn]? =some (pick (chS u) dn):=by
    unfold pick;rw [Uc,List.getD,u0 aH]
    rfl
   refine⟨as++ [(s2 u n,pick (chS u) dn)],path++ [(dn:Int)],yT (pick (chS u) dn),aE,some (.int (0+(i:Int))),some (.bl false),some tv,some (.ref L),?_,.snoc hP ab aI,by rw [ui,aj];rfl,?_,?_,Z.same aa,am.trans aa.kept⟩
   ·rw [non_is au]
    rfl
   ·rw [uw];exact aa _ _ e7
   ·rw [uw];exact aG
 ·rintro σ H3 ⟨as,path,lk,av,o5,o6,o7,o8,rfl,hP,aj,_⟩;have:=hP.len;have:=lim_le salt;omega
end
end K29
namespace K29
open PySem L2 PyProof.Rows
noncomputable def okP:D->D
 | .tup [_,c]=>loD c
 |d=>d
def okL:D->List D
 | .tup [.tup ps,_]=>ps.map okP
 |_=> []
theorem xQ (r:Rn):okL (rnD r)=(ans r).map loD:=by
 unfold rnD;simp only [okL,uB,ans]
 rfl
theorem prD_inj {p q:D×D}(h:prD p=prD q):p=q:=by
 unfold prD at h;injection h with h
 injection h with h1 h
 injection h with h2 h
 exact Prod.ext h1 h2
theorem map_inj {α β:Type}{f:α->β}(B:∀x y,f x=f y->x=y):∀{l m:List α},l.map f=m.map f->l=m
 | [],[],_=>rfl
 | [],_::_,h=>by simp at h
 |_::_,[],h=>by simp at h
 |x::l,y::m,h=>by
  rw [um,um] at h;injection h with h1 h2
  rw [B x y h1,map_inj B h2]
theorem rnD_inj {r r':Rn}(h:rnD r=rnD r'):r=r':=by
 unfold rnD at h;injection h with h
 injection h with h1 h
 injection h with h2 h
 injection h1 with h1
 exact Prod.ext (map_inj (fun _ _=>prD_inj) h1) h2
theorem tri:∀a b:List Nat,a<b∨a=b∨b<a
 | [],[]=> .inr (.inl rfl)
 | [],y::b=> .inl (by simp)
 |x::a,[]=> .inr (.inr (by simp))
 |x::a,y::b=>by
  rw [v5,v5];rcases Nat.lt_trichotomy x y with h|h|h
  ·exact .inl (.inl h)
  ·subst h;rcases tri a b with h|h|h
   ·exact .inl (.inr ⟨rfl,h⟩)
   ·exact .inr (.inl (by rw [h]))
   ·exact .inr (.inr (.inr ⟨rfl,h⟩))
  ·exact .inr (.inr (.inl h))
theorem ltL_lo:∀{xs ys:List D},(∀c∈xs,c∈ANS)->(∀c∈ys,c∈ANS)->ltL (xs.map loD) (ys.map loD)=some (decide (xs.map aR<ys.map aR))
 | [],[],_,_=>by simp [ltL]
 | [],y::q,_,_=>by simp [ltL]
 |x::r,[],_,_=>by simp [ltL]
 |x::r,y::q,h1,h2=>by
  have L:=ltL_lo (xs:=r) (ys:=q) (fun c B=>h1 c (u4 _ B)) (fun c B=>h2 c (u4 _ B));have:=ans_lo x (h1 x u5) y (h2 y u5);rw [Bool.and_eq_true,Bool.or_eq_true] at this;have M:=beq_iff_eq.mp this.1;simp only [um,ltL];rw [M];by_cases c:aR x=aR y
  ·rw [if_pos (ue c),L]
   congr 1
   rw [uM,v5];constructor
   ·intro h;exact .inr ⟨c,h⟩
   ·rintro(h|h)
    ·omega
    ·exact h.2
  ·rw [if_neg (by simpa using c)]
   rcases this.2 with h|h
   ·exact absurd (uk h) c
   ·rw [uk h]
    congr 1
    rw [uM,v5];constructor
    ·exact .inl
    ·rintro(h|h)
     ·exact h
     ·exact absurd h.1 c
theorem Y3 {r r':Rn}(h:RunA r)(h':RunA r'):ltL (okL (rnD r)) (okL (rnD r'))=some (decide (rk r<rk r'))/\ltK okL (rnD r) (rnD r')=decide (rk r<rk r'):=by
 have e:=ltL_lo h.an h'.an;refine⟨by rw [xQ,xQ];exact e,?_⟩
 unfold ltK;rw [xQ,xQ,e]
 rfl
theorem lo_pu:∀{xs:List D},(∀c∈xs,c∈ANS)->puL (xs.map loD)=true/\dpL (xs.map loD)<=10
 | [],_=>⟨rfl,by simp [dpL]⟩
 |x::r,h=>by
  have B:=lo_pu (xs:=r) fun c L=>h c (u4 _ L);have:=ans_lp x (h x u5);rw [Bool.and_eq_true] at this;have h2:=uk this.2;simp only [um,puL,dpL];exact⟨by rw [this.1,B.1];rfl,by omega⟩
theorem keys_ok {rs:List Rn}(h:∀r∈rs,RunA r):KeysOk true okL (rs.map rnD):=by
 have g:∀x∈rs.map rnD,∃r,RunA r/\x=rnD r:=fun x hx=>let⟨r,B,e⟩:=List.mem_map.mp hx;⟨r,h r B,e.symm⟩;refine⟨fun x hx=> ?_,fun z=>(by cases z),fun x hx y O=> ?_,⟨fun x hx=> ?_,fun x hx y O z hz=> ?_,fun x hx y O z hz=> ?_⟩⟩
 ·obtain⟨r,B,rfl⟩:=g x hx;rw [xQ];have:=lo_pu B.an;exact⟨this.1,by omega⟩
 ·obtain⟨r,B,rfl⟩:=g x hx;obtain⟨r',U,rfl⟩:=g y O;exact⟨_,(Y3 B U).1⟩
 ·obtain⟨r,B,rfl⟩:=g x hx;rw [(Y3 B B).2];exact u8 (Up _)
 ·obtain⟨r,B,rfl⟩:=g x hx;obtain⟨Z,L,rfl⟩:=g y O;obtain⟨r2,M,rfl⟩:=g z hz;rw [(Y3 B L).2,(Y3 L M).2,(Y3 B M).2];simp only [uF];exact List.lt_trans
 ·obtain⟨r,B,rfl⟩:=g x hx;obtain⟨Z,L,rfl⟩:=g y O;obtain⟨r2,M,rfl⟩:=g z hz;rw [(Y3 B L).2,(Y3 L M).2,(Y3 B M).2];simp only [uF];intro Y;rcases tri (rk r) (rk Z) with c|c|c
  ·exact .inl c
  ·rw [c] at Y;exact .inr Y
  ·exact .inr (List.lt_trans c Y)
theorem ofs:∀{l:List D},(∀x∈l,∃r,x=rnD r)->∃ws:List Rn,l=ws.map rnD
 | [],_=>⟨[],rfl⟩
 |x::l,h=>by
  obtain⟨r,rfl⟩:=h x u5;obtain⟨ws,rfl⟩:=ofs fun y B=>h y (u4 _ B);exact⟨r::ws,rfl⟩
theorem mem_rn {ws:List Rn}{r:Rn}:rnD r∈ws.map rnD↔r∈ws:=⟨fun h=>let⟨r',h1,h2⟩:=List.mem_map.mp h;rnD_inj h2▸h1,fun h=>List.mem_map.mpr ⟨r,h,rfl⟩⟩
theorem rk_ne {r r':Rn}(h:RunA r)(h':RunA r')(f:Fit r r')(n:r≠r'):rk r≠rk r':=fun e=>n (by
 have L:ans r=ans r':=by
  unfold rk at e;have key:∀{xs ys:List D},(∀c∈xs,c∈ANS)->(∀c∈ys,c∈ANS)->xs.map aR=ys.map aR->xs=ys:=by
   intro xs
   induction xs with
   |nil=>intro ys _ _ h;cases ys with
    |nil=>rfl
    |cons=>simp at h
   |cons x xs M=>
    intro ys h1 h2 h;cases ys with
    |nil=>simp at h
    |cons y ys=>
     rw [um,um] at h;injection h with O a2
     rw [jq (h1 x u5) (h2 y u5) O,M (fun c B=>h1 c (u4 _ B)) (fun c B=>h2 c (u4 _ B)) a2]
  exact key h.an h'.an e
 exact XD h.ok h'.ok f (by rw [L];exact U2 _))
theorem srt_of {rs:List Rn}{ys:List (D×V)}{kvs:List (D×V×V)}(hk:kvs.map (·.1)=rs.map rnD)(hR:∀r∈rs,RunA r)(F:Fits rs)(nd:(kvs.map (·.1)).Nodup)(perm:ys.Perm (kvs.map fun p=>(p.1,p.2.1)))(srt:ys.Pairwise fun x y=>ltK okL y.1 x.1=false):
  ∃ws:List Rn,ys.map (·.1)=ws.map rnD/\Srt ws/\(∀x,x∈ws↔x∈rs)/\ws.length=rs.length:=by
 have pm:(ys.map (·.1)).Perm (rs.map rnD):=by
  have:=perm.map (·.1);rw [uB] at this;rw [<-hk];exact this
 obtain⟨ws,B⟩:=ofs (l:=ys.map (·.1)) fun x hx=>let⟨r,_,e⟩:=List.mem_map.mp (pm.mem_iff.mp hx);⟨r,e.symm⟩;have hm:∀x,x∈ws↔x∈rs:=fun x=>by rw [<-mem_rn,<-B,pm.mem_iff,mem_rn]
 refine⟨ws,B,?_,hm,?_⟩
 ·have h1:(ws.map rnD).Pairwise fun x y=>ltK okL y x=false:=by rw [<-B];exact List.pairwise_map.mpr srt
  have h2:(ws.map rnD).Nodup:=by rw [<-B];exact pm.nodup_iff.mpr (by rw [<-hk];exact nd)
  have U:=List.pairwise_map.mp (h1.and h2);refine U.imp_of_mem fun{x y} hx L h=> ?_;have M:=hR x ((hm x).mp hx);have O:=hR y ((hm y).mp L);have h4:=h.1;rw [(Y3 O M).2] at h4;have Y:=UU h4;have Z:=rk_ne M O (F x ((hm x).mp hx) y ((hm y).mp L)) fun z=>h.2 (by rw [z])
  rcases tri (rk x) (rk y) with c|c|c
  ·exact c
  ·exact absurd c Z
  ·exact absurd c Y
 ·have:=pm.length_eq;rw [B,uc,uc] at this;exact this
def yZ (w:World)(H:Hp)(kd:Addr)(rs:List Rn)(gf:Rn->List Int):Prop:=∃kvs,DAt w H kd kvs/\kvs.map (·.1)=rs.map rnD/\∀r∈rs,∀p∈kvs,p.1=rnD r->Is H (gD (gf r)) p.2.2
theorem yZ.keep {w:World}{H H':Hp}{kd:Addr}{rs:List Rn}{gf:Rn->List Int}(h:yZ w H kd rs gf)(t:Tk H H')(e:∀o,H kd=some o->H' kd=some o):yZ w H' kd rs gf:=let⟨kvs,g,h1,h2⟩:=h;⟨kvs,g.keep t ((e _ g.here).trans g.here.symm),h1,fun r B p L z=>(h2 r B p L z).mono t⟩
theorem put_val {w:World}{H:Hp}{a:Addr}{kvs:List (D×V×V)}{d:D}{y v:V}{p:D×V×V}(g:DAt w H a kvs)(hk:kD d=true)(L:p∈putD kvs d y v):(p.1=d/\p.2.2=v)∨(p.1≠d/\p∈kvs):=by
 unfold putD at L;cases e:ixV kvs d with
 |none=>
  rw [e] at L;rcases List.mem_append.mp L with h|h
  ·exact .inr ⟨fun z=>XZ hk e (List.mem_map.mpr ⟨p,h,z⟩),h⟩
  ·cases List.mem_singleton.mp h;exact .inl ⟨rfl,rfl⟩
 |some i=>
  rw [e] at L;unfold ixV at e;rw [uK] at e;obtain⟨h1,h2,_⟩:=e;have O:=(Ql (kD_n (g.ks _ (uN h1)).2.1)).mp h2;obtain⟨j,B⟩:=List.mem_iff_getElem?.mp L;rw [List.getElem?_modify] at B;by_cases c:i=j
  ·subst c;rw [u0 h1] at B;simp only [if_true,Option.map_eq_map,Option.map_some] at B;cases B;exact .inl ⟨O,rfl⟩
  ·simp only [if_neg c,Option.map_eq_map] at B;have M:kvs[j]? =some p:=by cases h:kvs[j]? with
    |none=>rw [h] at B;simp at B
    |some z=>rw [h] at B;simpa using B
   refine .inr ⟨fun z=>c ?_,ud M⟩;have U:(kvs.map (·.1))[i]? =some d:=by rw [uj,u0 h1];simp [O]
   have Y:(kvs.map (·.1))[j]? =some d:=by rw [uj,M];simp [z]
   exact(List.getElem?_inj (by rw [uc];exact h1) g.nd).mp (U.trans Y.symm)
def KeyR (r:Rn):Prop:=kD (rnD r)=true/\dp (rnD r)<=8
theorem kL_all:∀{xs:List D},(∀x∈xs,kD x=true)->kL xs=true
 | [],_=>rfl
 |x::r,h=>by simp only [kL,h x u5,kL_all fun y B=>h y (u4 _ B),Bool.and_self]
theorem Jw {n:Nat}:∀{xs:List D},(∀x∈xs,dp x<=n)->dpL xs<=n
 | [],_=>by simp [dpL]
 |x::r,h=>by
  have:=Jw fun y B=>h y (u4 _ B);have:=h x u5;simp only [dpL];omega
theorem ends_k:(ENDS++ [s2 "fault" "lack"]).all (fun e=>kD e&&decide (dp e<=5))=true:=by decide+kernel
theorem WayR.key {salt:Int}{r:Rn}(h:WayR salt r):KeyR r:=by
 have hR:=h.run;obtain⟨path,lk,h1,h2⟩:=h;have L:(kD r.2&&decide (dp r.2<=5))=true:=by
  refine List.all_eq_true.mp ends_k r.2 ?_;rcases thF_end h2 with h|h
  ·rw [h];simp
  ·exact vd _ h
 rw [Bool.and_eq_true] at L;have M:=uk L.2;have B:∀x∈r.1.map prD,kD x=true/\dp x<=4:=fun x hx=>by
  obtain⟨p,B,rfl⟩:=List.mem_map.mp hx;obtain⟨u,n,e,_⟩:=(hR.ok.prs p B).ask;obtain⟨k1,k2⟩:=ans_n (hR.an p.2 (List.mem_map.mpr ⟨p,B,rfl⟩));unfold prD;rw [e];exact⟨by simp [kD,kL,k1],by simp only [dp,dpL];omega⟩
 have O:=kL_all fun x hx=>(B x hx).1;have U:=Jw (n:=4) fun x hx=>(B x hx).2;unfold KeyR rnD;exact⟨by simp [kD,kL,O,L.1],by simp only [dp,dpL];omega⟩
section
open Classical
noncomputable def rnR (d:D):Rn:=if h:∃r,rnD r=d then choose h else([],.non)
theorem JQ (r:Rn):rnR (rnD r)=r:=by
 unfold rnR;have h:∃r',rnD r'=rnD r:=⟨r,rfl⟩;rw [dif_pos h];exact rnD_inj (choose_spec h)
end
def sp_order:Sp:=fun vs H Q _=>∃(v:V) (ps:List (D×D)) (rest:List D),vs= [v]/\(∀p∈ps,p.2∈ANS)/\ps.length<=50/\Is H (.tup (.tup (ps.map prD)::rest)) v/\∀(u:V) (H':Hp) (l:Addr) (us:List V),Same H H'->u= .ref l->H' l=some (.lst us)->IsL H' ((ps.map (·.2)).map loD) us->Q u H'
def sp_lput (w:World):Sp:=fun vs H Q _=>∃(kd:Addr) (v gv:V) (rs:List Rn) (r:Rn) (gf:Rn->List Int) (gs:List Int),vs= [.ref kd,v,gv]/\yZ w H kd rs gf/\Is H (rnD r) v/\Is H (gD gs) gv/\KeyR r/\rs.length<100/\GvL gs/\(∀r'∈rs,GvL (gf r'))/\(r∉rs->gf r= [])/\∀(H':Hp) (rs':List Rn),yZ w H' kd rs' (updG gf r gs)->(∀x,x∈rs'↔x=r∨x∈rs)->rs'.length<=rs.length+1->Kept kd H H'->Tk H H'->Q .non H'
def sp_due (w:World):Sp:=fun vs H Q _=>∃(kd:Addr) (rs:List Rn) (gf:Rn->List Int),vs= [.ref kd]/\yZ w H kd rs gf/\(∀r∈rs,RunA r)/\Fits rs/\rs.length<64/\∀(u:V) (H':Hp) (ws:List Rn),Same H H'->Srt ws->(∀x,x∈ws↔x∈rs)->Is H' (.tup (ws.map (wayD gf))) u->Q u H'
section
variable {P:Program}{w:World}{K:PySem.W.Frag}{mg:Str->Option Value}{base:Heap}{a:Ad}{g:Ga}
theorem ok_order (T:Tx K mg a):FnOk P w K mg base CX0 9 a.J7 a.JO ["run"] sp_order:=by
 have JW:FnOk P w K mg base CX0 8 a.Yg a.yU ["tree"] (jv 7):=ok_lkey T 7;refine T.g_law_order.F.ok yc () (fun _ _ _ _ H vs Q E hr h=> ?_)
 obtain⟨v,ps,rest,rfl,hA,aj,ac,k⟩:=h;refine⟨_,(@qd _ _ _ _ _ (@qE _ _ (1) _ _ _ _ yc.nd rfl (Or.inl rfl) (@Qq _ _ _ _ qc) () ()) (@qd _ _ _ _ _ (@Q4 _ _ _ _ _ _ _ _ uO rfl (@pi_tup _ _ _ _ (@qG _ _ _ _ _ _ _ qD (pv 0) qg (fun _ _=>rfl))) (@jb _ _ _ _ _ _ rfl (qI (@qw _ _ (2) _ yc.nd rfl (Or.inl rfl) ()) (qI (@qw _ _ (3) _ yc.nd rfl (Or.inl rfl) ()) yF)) () ()) (@qf _ _ _ (@qN _ _ _ _ _ _ _ _ (@qu _ _ _ _ _ _ _ _ jY (pv 3) Qh (qC _)) (@qf _ _ _ (@QY _ _ _ _ (@pe_bm _ _ _ _ _ _ _ _ _ _ _ _ uQ vt vv Q6 (pv 1) (@qa _ _ _ _ _ (@qy _ _ _ _ _ (@qa _ _ _ _ _ qg qc ())) qc ()) () () () () ()) ())) (@qf _ _ _ (@QY _ _ _ _ (@pe_bm _ _ _ _ _ _ _ _ _ _ _ _ uQ vt vv Q6 (pv 1) (@qa _ _ _ _ _ (@qy _ _ _ _ _ (@qa _ _ _ _ _ qg (@qa _ _ _ _ _ (@ql _ _ _ _ _ _ _ _ _ _ _ _ _ _ _ _ JW (hr.mono ()) () T.g_law_key.m T.g_law_key.F.kp T.g_law_key.b .nil qH (@qa _ _ _ _ _ (pv 3) qc ()) () () ()) qc ()) ())) qc ()) () () () () ()) ())))) ()) (@qf _ _ _ (@qo _ _ _ _ (pv 1))))),?_⟩
 refine⟨(by show 0<=sizeLine;decide),fun B Y=> ?_⟩
 have z1:=qb Y (.lst []);have e1:(upd H B (.lst [])) B=some (.lst []):=qe;generalize upd H B (.lst [])=H1 at z1 e1⊢;refine⟨_,rfl,?_⟩;refine gi (i:=0) (d:= .tup (ps.map prD)) (ac.mono z1.tk) (qm (j:=0) rfl) fun pv ad=> ?_;obtain⟨a0,vs,rfl,Z,aa⟩:=ad;have lv:vs.length=ps.length:=by rw [aa.length];simp
 refine⟨a0,rfl,⟨vs,SqT.of Z⟩,?_⟩
 let J1_:Nat->L2.St->Hp->Prop:=fun i σ H'=>∃(us:List V) (o2 o3:Option V),σ= [some v,some (.ref B),o2,o3]/\Same H H'/\Tk H1 H'/\H' a0=some (.tup vs)/\H' B=some (.lst us)/\IsL H' (((ps.map (·.2)).take i).map loD) us
 refine for_tup (K:=K) (a:=a0) (xs:=vs) J1_ ⟨[],none,none,rfl,z1,Tk.refl _,Z,e1,rfl⟩ (fun i σ H' _ ⟨_,_,_,_,_,_,h,_⟩=>SqT.of h) ?_ ?_
 ·rintro i x σ H2 hx ⟨us,o2,o3,rfl,z2,t2,ab,O,i2⟩;have ae:i<ps.length:=by rw [<-lv];exact(List.getElem?_eq_some_iff.mp hx).1
  obtain⟨p,hp⟩:∃p,ps[i]? =some p:=⟨_,u0 ae⟩;obtain⟨x',ex,ix⟩:=aa.get (d:=prD p) (i:=i) (by rw [uj,hp];rfl)
  rw [hx] at ex;cases ex;obtain⟨b0,ws,rfl,af,qv,r1,rfl,ak,cv,r2,rfl,M,ag⟩:=ix.mono t2;cases(show r2= [] from ag)
  refine⟨b0,_,rfl,SqT.of af,rfl,_,_,rfl,_,_,rfl,rfl,?_⟩;have ah:p.2∈ANS:=hA p (ud hp);have ai:(ps.map (·.2)).take (i+1)=(ps.map (·.2)).take i++ [p.2]:=by rw [uE,uj,hp];rfl
  have al:us.length<=50:=by
   rw [i2.length,uc,uq,uc];omega
  have done:∀(U:Hp) (l:Addr),Same H2 U->Is U (loD p.2) (.ref l)->J1_ (i+1) [some v,some (.ref B),some qv,some cv] (upd U B (.lst (us++ [.ref l]))):=fun U l L i3=>by
   have e3:=L _ _ O;have t4:Tk U (upd U B (.lst (us++ [.ref l]))):=Tk.updL e3;refine⟨us++ [.ref l],_,_,rfl,fun b o h=>by rw [qi (qh h Y)];exact L _ _ (z2 b o h),(t2.trans L.tk).trans t4,t4.tup _ _ (L _ _ ab),qe,?_⟩
   rw [ai,uw];exact((i2.mono L.tk).mono t4).append (IsL.one (i3.mono t4))
  refine⟨_,rfl,rfl,_,rfl,?_⟩;by_cases cn:p.2= .non
  ·rw [cn] at M;cases(show cv= .non from M)
   refine Qi (by decide+kernel) ?_
   refine⟨_,rfl,.inl ⟨rfl,_,SqL.of O⟩,(by show 1<=sizeLine;decide),fun l hl=> ?_⟩
   have L:=qb hl (.tup [.int 0]);refine⟨B,us,_,rfl,rfl,L _ _ O,QL (by omega),?_⟩
   refine done _ l L ?_;rw [cn];exact Is.new (ds:= [.int 0]) ⟨_,_,rfl,rfl,rfl⟩ hl
  ·refine Qf (u8 (ji M cn)) ?_;obtain⟨l1,l2,_⟩:=ans_lw p.2 ah cn;refine⟨_,rfl,.inl ⟨rfl,_,SqL.of O⟩,_,rfl,cv,p.2,rfl,M,l1,by omega,fun u U L i3=> ?_⟩
   refine⟨(by show 2<=sizeLine;decide),fun l hl=> ?_⟩
   have z4:=L.trans (qb hl (.tup [.int 1,u]));refine⟨B,us,_,rfl,rfl,z4 _ _ O,QL (by omega),?_⟩
   refine done _ l z4 ?_;have e:loD p.2= .tup [.int 1,lkD p.2]:=by
    cases h:p.2 with
    |non=>exact absurd h cn
    |_=>rfl
   rw [e];exact Is.new (ds:= [.int 1,lkD p.2]) ⟨_,_,rfl,rfl,_,_,rfl,i3,rfl⟩ hl
 ·rintro σ H2 ⟨us,o2,o3,rfl,z2,t2,ab,O,i2⟩;refine⟨_,rfl,k _ _ B us z2 rfl O ?_⟩;rw [lv,<-uc (as:=ps) (·.2),vq] at i2;exact i2
theorem ok_due (T:Tx K mg a):FnOk P w K mg base CX0 12 a.f_law_due a.d_law_due ["kept"] (sp_due w):=by
 have YH:=ok_order (P:=P) (w:=w) (base:=base) T;refine T.g_law_due.F.ok sc_law_due () (fun _ _ _ _ H _ Q E hr h=> ?_)
 obtain⟨kd,rs,gf,rfl,⟨kvs,g0,hk,hv⟩,hR,hF,M,k⟩:=h;refine⟨_,(@qf _ _ _ (@qo _ _ _ _ (@Qo _ _ _ _ _ _ _ _ _ Qk () T.QP Ue (@qa _ _ _ _ _ (@JJ _ _ (["run","kept"]) (1) ([0]) _ _ _ _ _ _ _ _ _ (lcsN (qj Y8) ["kept"]) rfl (@yI _ _ _ _ (@Xu _ _ _ _ _ _ _ (false) _ _ _ _ _ _ _ (⟨0,0,0,0⟩) (⟨0,0,0,0⟩) (0) _ rfl rfl rfl YH (hr.mono ()) T.g_law_order.b () T.YR () T.g_law_order.m (pv 0) () ())) (fun _ _ _ _ _ _=>(@qw _ _ (0) _ (show List.Nodup (["run","kept"]:List Str) by decide+kernel) rfl (Or.inl rfl) ())) (fun _ _ _ _ _ _=> @yl _) (fun _ _ _ _ _ _=>(@qy _ _ _ _ _ (@qa _ _ _ _ _ (pv 0) (@qa _ _ _ _ _ (@xh _ _ _ _ _ _ (w) rfl hr.units (pv 1) (pv 0) (fun _ _=>rfl)) qc ()) ()))) ()) qc ()) () () () ()))),?_⟩
 have lk:kvs.length=rs.length:=by have:=congrArg List.length hk;simpa using this
 refine⟨_,rfl,kd,kvs,true,okL,rfl,g0,by omega,by rw [hk];exact keys_ok hR,fun x hx H1 z1 Q' q'=> ?_,fun H1 ys q z1 hq perm srt=> ?_⟩
 ·obtain⟨r,hr,e⟩:=List.mem_map.mp (show x.1∈rs.map rnD by rw [<-hk];exact List.mem_map.mpr ⟨x,hx,rfl⟩)
  have O:=hR r hr;refine⟨x.2.1,r.1,[r.2],rfl,fun p hp=>O.an _ (List.mem_map.mpr ⟨p,hp,rfl⟩),O.ok.len,?_,fun u H2 l us L eu h2 i2=>q' u H2 L ?_⟩
  ·have:=(g0.ks x hx).1.mono z1.tk;rw [<-e] at this;exact this
  ·rw [<-e];unfold Ys;rw [if_pos rfl,xQ];exact⟨l,us,eu,h2,i2⟩
 rw [if_neg (by decide)] at srt
 obtain⟨ws,ew,hs,hm,ad⟩:=srt_of hk hR hF g0.nd perm srt;have L:=z1.trans (qb hq (.lst (ys.map (·.2))));have e2:(upd H1 q (.lst (ys.map (·.2)))) q=some (.lst (ys.map (·.2))):=qe;generalize upd H1 q (.lst (ys.map (·.2)))=H2 at L e2⊢;have ae:ys.length=ws.length:=by have:=congrArg List.length ew;simpa using this
 have iL:IsL H2 (ws.map rnD) (ys.map (·.2)):=by
  rw [<-ew];have key:∀(zs:List (D×V)),(∀z∈zs,Is H2 z.1 z.2)->IsL H2 (zs.map (·.1)) (zs.map (·.2)):=by
   intro zs
   induction zs with
   |nil=>intro _;rfl
   |cons z zs ih=>intro h;exact⟨_,_,rfl,h z u5,ih fun y hy=>h y (u4 _ hy)⟩
  refine key ys fun z hz=> ?_;obtain⟨x,hx,e⟩:=List.mem_map.mp (perm.mem_iff.mp hz);rw [<-e];exact(g0.ks x hx).1.mono L.tk
 refine⟨q,rfl,⟨_,SqL.of e2⟩,fun A0 aa=> ?_⟩;refine lc_lstS (K:=K) (tl:= [some (.ref kd)]) (fun d=>wayD gf (rnR d)) e2 iL (by rw [uc];exact yb (by omega)) aa (fun d0 x0 H3 R ab z3 i3 r=> ?_) fun H3 us z3 l3 i3=> ?_
 ·obtain⟨B,U,rfl⟩:=List.mem_map.mp ab;have g3:=(g0.same L).same z3;have Y:rnD B∈kvs.map (·.1):=by rw [hk];exact mem_rn.mpr ((hm B).mp U)
  obtain⟨y,hy,ey⟩:=List.mem_map.mp Y;have Z:kD (rnD B)=true:=by rw [<-ey];exact(g0.ks y hy).2.1
  have ac:dp (rnD B)<=8:=by rw [<-ey];exact(g0.ks y hy).2.2
  obtain⟨x,hx,ex,ev⟩:=jC g3 Z Y;refine⟨_,rfl,_,rfl,_,rfl,kd,kvs,rnD B,_,rfl,g3,⟨i3,Z,ac⟩,ev,(by show 2<=sizeLine;decide),fun l M=>r _ _ (qb M _) ?_⟩
  rw [JQ];exact Is.new (ds:= [rnD B,gD (gf B)]) ⟨_,_,rfl,i3,_,_,rfl,((hv B ((hm B).mp U) x hx ex).mono L.tk).mono z3.tk,rfl⟩ M
 ·refine⟨A0,us,rfl,.inl ⟨SqL.of l3,fun l M=>k _ _ ws (L.trans (z3.trans (qb M _))) hs hm ?_⟩⟩;have:=Is.new i3 M;rw [uB,show(ws.map ((fun d=>wayD gf (rnR d))∘rnD))=ws.map (wayD gf) from Uj fun r _=>by rw [Function.comp,JQ]] at this
  exact this
theorem ok_lput (T:Tx K mg a):FnOk P w K mg base CX0 1 a.f_law_put a.d_law_put ["kept","run","givers"] (sp_lput w):=by
 refine T.g_law_put.F.ok sc_law_put () (fun _ _ _ _ H _ Q E hr h=> ?_)
 obtain⟨kd,v,gv,rs,r,gf,gs,rfl,⟨kvs,g0,hk,hv⟩,iv,ig,L,hl,Y,ah,ab,k⟩:=h;refine⟨_,(@qf _ _ _ (@ps_putD _ _ _ _ _ _ _ _ _ (w) rfl hr.units (pv 0) (pv 1) (@Qo _ _ _ _ _ _ _ _ _ Qk () T.QP Ue (@qa _ _ _ _ _ (@qx _ _ _ _ _ _ _ _ _ (@call_sortedA _ rfl) () T.YR boot_sorted (@qa _ _ _ _ _ (@Qo _ _ _ _ _ _ _ _ _ (@Jh _ rfl) () T.z_set L2.Xc (@qa _ _ _ _ _ (@qT _ _ _ _ _ _ _ _ jg (@pe_get2D _ _ _ _ _ _ _ _ _ (w) rfl hr.units (pv 0) (pv 1) (@qy _ _ _ _ _ qc) ⟨rfl,rfl,rfl,rfl⟩) (pv 2)) qc ()) () () () ()) qc ()) () () () ()) qc ()) () () () ()) rfl)),?_⟩
 dsimp only [cxOf,Cx.nox];have lk:kvs.length=rs.length:=by have:=congrArg List.length hk;simpa using this
 refine⟨_,rfl,kd,kvs,rfl,g0,_,rfl,(by show 0<=sizeLine;decide),fun q0 h0=> ?_⟩
 have z1:=qb h0 (.tup []);have i1:Is (upd H q0 (.tup [])) (.tup []) (.ref q0):=Is.new (ds:= []) rfl h0;generalize upd H q0 (.tup [])=H1 at z1 i1⊢;refine⟨kvs,rnD r,g0.same z1,⟨iv.mono z1.tk,L.1,L.2⟩,?_⟩;have Z:rnD r∈kvs.map (·.1)↔r∈rs:=by rw [hk,mem_rn]
 have aa:GvL (gf r):=by
  by_cases c:r∈rs
  ·exact ah r c
  ·rw [ab c];exact List.nil_sublist _
 have iO:Is H1 (gD (gf r)) ((valD kvs (rnD r)).getD (.ref q0)):=by
  cases e:valD kvs (rnD r) with
  |none=>
   have:r∉rs:=fun z=>by
    have:=(Qr g0 L.1).mpr (Z.mpr z);rw [e] at this;cases this
   rw [ab this];exact i1
  |some y=>
   have M:(valD kvs (rnD r)).isSome=true:=by rw [e];rfl
   obtain⟨x,hx,ex,ev⟩:=jC g0 L.1 ((Qr g0 L.1).mp M);rw [e] at ev;cases ev;exact(hv r (Z.mp ((Qr g0 L.1).mp M)) x hx ex).mono z1.tk
 obtain⟨ai,aq⟩:=Jb aa;obtain⟨aj,au⟩:=Jb Y;refine⟨_,rfl,?_⟩;refine jl iO (ig.mono z1.tk) (yb (by rw [uc,uc];omega)) fun cv H2 z2 i2=> ?_
 have ak:Is H2 (gD (gf r++gs)) cv:=by unfold gD;rw [uw];exact i2
 obtain⟨t0,rfl,al⟩:=gD_at ak;have am:∀n∈gf r++gs,0<=n/\n<1000:=fun n hn=>(List.mem_append.mp hn).elim (ai n) (aj n);have av:(gf r++gs).length<=12:=by rw [ui];omega
 refine⟨t0,gf r++gs,rfl,SqT.of al,am,by omega,fun q1 h1=>⟨q1,gf r++gs,rfl,qe,gv_cat aa Y,by omega,fun O q2 ao ac ad h2=>⟨q2,O.map V.int,rfl,.inl ⟨SqL.of qe,fun l hl=> ?_⟩⟩⟩⟩
 have ap:O=mg2 (gf r) gs:=mg2_eq aa Y ao ad fun x=>(ac x).trans vO;have z3:=(qb h1 (gA w q1 (gf r++gs))).trans ((qb h2 (.lst (O.map V.int))).trans (qb hl (.tup (O.map V.int))));obtain⟨d3,ae,i3⟩:∃d,d=gD O/\Is (upd (upd (upd H2 q1 (gA w q1 (gf r++gs))) q2 (.lst (O.map V.int))) l (.tup (O.map V.int))) d (.ref l):=⟨_,rfl,gD_new hl⟩;rw [ap] at ae;generalize upd (upd (upd H2 q1 (gA w q1 (gf r++gs))) q2 (.lst (O.map V.int))) l (.tup (O.map V.int))=H3 at z3 i3⊢;have Z3:=z1.trans (z2.trans z3);have g3:=g0.same Z3;have af:KOk H3 (rnD r) v:=⟨iv.mono Z3.tk,L.1,L.2⟩;refine⟨_,rfl,_,rfl,kd,kvs,rnD r,rfl,g3,af,by rw [sizeLine_eq];omega,?_⟩
 have g4:=g3.put (v:= .ref l) af;have t4:Tk H3 (upd H3 kd (dExt w kd (putD kvs (rnD r) v (.ref l)))):=tk_ext g3;have kp:Kept kd H (upd H3 kd (dExt w kd (putD kvs (rnD r) v (.ref l)))):=fun b o h n=>by rw [qi n];exact Z3 b o h
 have U:=put_keys kvs (rnD r) v (.ref l);have Zt:=Z3.tk.trans t4;have i4:=i3.mono t4;generalize upd H3 kd (dExt w kd (putD kvs (rnD r) v (.ref l)))=H4 at g4 t4 kp Zt i4⊢;have ag:∀r':Rn,(r'=r∨r'∈rs)->∀p∈putD kvs (rnD r) v (.ref l),p.1=rnD r'->Is H4 (gD (updG gf r gs r')) p.2.2:=fun r' B p hp z=>by
  rcases put_val g0 L.1 hp with⟨h1,h2⟩|⟨h1,h2⟩
  ·have er:r'=r:=rnD_inj (z.symm.trans h1);rw [er,J1,<-ae,h2];exact i4
  ·have er:r'≠r:=fun q=>h1 (by rw [z,q])
   rw [JZ er];exact(hv r' (B.resolve_left er) p h2 z).mono Zt
 cases e:ixV kvs (rnD r) with
 |none=>
  rw [e] at U;refine k H4 (rs++ [r]) ⟨_,g4,by rw [U,if_neg (by simp),hk,uw];rfl,fun r' B=>ag r' ?_⟩ (fun x=> ?_) (by simp) kp Zt
  ·rcases List.mem_append.mp B with h|h
   ·exact .inr h
   ·exact .inl (List.mem_singleton.mp h)
  ·rw [vO,vg];exact or_comm
 |some i=>
  rw [e] at U;have M:r∈rs:=by
   rw [<-Z];refine(Qr g0 L.1).mp ?_;unfold valD;rw [e];unfold ixV at e;rw [uK] at e;obtain⟨h1,_⟩:=e;simp [h1]
  refine k H4 rs ⟨_,g4,by rw [U,if_pos (show(some i).isSome=true from rfl),hk],fun r' B=>ag r' (.inr B)⟩ (fun x=> ?_) (by omega) kp Zt
  exact⟨.inr,fun h=>h.elim (fun h=>by rw [h];exact M) id⟩
end
def Dif (r r':Rn)(q:List D):Prop:=q<+:ans r/\q<+:ans r'/\thr r q.length≠thr r' q.length
theorem jo {r r':Rn}:Fit r r'↔∀q,¬Dif r r' q:=⟨fun h q d=>d.2.2 (h q d.1 d.2.1),fun h p h1 h2=>uY fun n=>h p ⟨h1,h2,n⟩⟩
def Lea (r r':Rn)(i:Nat):Prop:=Dif r r' ((ans r).take i)/\i<=r.1.length/\∀j,j<i->¬Dif r r' ((ans r).take j)
def clD (r r':Rn)(i:Nat):D:= .tup [.tup ((r.1.take i).map prD),thr r i,thr r' i]
theorem xS {r:Rn}{i:Nat}(h:i<=r.1.length):((ans r).take i).length=i:=by rw [uq,qU];omega
theorem yg {r:Rn}{q:List D}(h:q<+:ans r):q=(ans r).take q.length:=List.prefix_iff_eq_take.mp h
theorem Lea.uniq {r r':Rn}{i j:Nat}(h:Lea r r' i)(h':Lea r r' j):i=j:=by
 rcases Nat.lt_trichotomy i j with c|c|c
 ·exact absurd h.1 (h'.2.2 i c)
 ·exact c
 ·exact absurd h'.1 (h.2.2 j c)
theorem least {P:Nat->Prop}:∀n:Nat,P n->∃m,P m/\∀k,k<m->¬P k:=by
 intro n
 induction n using Nat.strongRecOn with
 |ind n B=>
  intro h;by_cases c:∃k,k<n/\P k
  ·obtain⟨k,h1,h2⟩:=c;exact B k h1 h2
  ·exact⟨n,h,fun k h1 h2=>c ⟨k,h1,h2⟩⟩
theorem lea_of {r r':Rn}{q:List D}(h:Dif r r' q):∃i,Lea r r' i/\i<=q.length:=by
 obtain⟨m,h1,h2⟩:=least (P:=fun i=>i<=r.1.length/\Dif r r' ((ans r).take i)) q.length ⟨qM h.1,by rw [<-yg h.1];exact h⟩
 refine⟨m,⟨h1.2,h1.1,fun j B hd=>h2 j B ⟨by omega,hd⟩⟩,Nat.le_of_not_lt fun z=> ?_⟩
 exact h2 q.length z ⟨qM h.1,by rw [<-yg h.1];exact h⟩
theorem JP {r r':Rn}(h:¬Fit r r'):∃i,Lea r r' i:=by
 have:∃q,Dif r r' q:=uY fun n=>h (jo.mpr fun q d=>n ⟨q,d⟩);obtain⟨q,hq⟩:=this;obtain⟨i,hi,_⟩:=lea_of hq;exact⟨i,hi⟩
theorem Lea.JP {r r':Rn}{i:Nat}(h:Lea r r' i):¬Fit r r':=fun f=>jo.mp f _ h.1
theorem take_eq {r r':Rn}{i:Nat}(h:∀q,q<+:ans r->q<+:ans r'->q.length<i->thr r q.length=thr r' q.length)(hi:i<=r.1.length)(M:(ans r).take i<+:ans r'):i<=r'.1.length/\r.1.take i=r'.1.take i:=by
 have O:i<=r'.1.length:=by have:=qM M;rw [xS hi] at this;exact this
 refine⟨O,List.ext_getElem (by rw [uq,uq];omega) fun j h1 h2=> ?_⟩
 have U:j<i:=by rw [uq] at h1;omega
 rw [List.getElem_take,List.getElem_take];have L:j<r.1.length:=by omega
 have B:j<r'.1.length:=by omega
 have e:=h ((ans r).take j) (vr _ _) ((vZ (by omega)).trans M) (by rw [xS (by omega)];exact U)
 rw [xS (by omega),Q3 (u0 L),Q3 (u0 B)] at e
 have Y:(ans r)[j]? =(ans r')[j]? :=by
  have Z:((ans r).take i)[j]? =(ans r)[j]? :=by rw [UV,if_pos U]
  obtain⟨t,ht⟩:=M;rw [<-Z,<-ht,v7 (by rw [xS hi];exact U)]
 rw [yR,yR,u0 L,u0 B] at Y;refine Prod.ext ?_ (by simpa using Y)
 simpa using e
theorem Dif.symm {r r':Rn}{q:List D}(h:Dif r r' q):Dif r' r q:=⟨h.2.1,h.1,fun e=>h.2.2 e.symm⟩
theorem Fit.symm {r r':Rn}(h:Fit r r'):Fit r' r:=fun p a b=>(h p b a).symm
section
open Classical
noncomputable def clsF (r r':Rn):D:=if h:∃i,Lea r r' i then clD r r' (choose h) else .non
theorem j9 {r r':Rn}{i:Nat}(h:Lea r r' i):clsF r r'=clD r r' i:=by
 unfold clsF;have hx:∃i,Lea r r' i:=⟨i,h⟩;rw [dif_pos hx,(choose_spec hx).uniq h]
theorem XC {r r':Rn}(h:Fit r r'):clsF r r'= .non:=by
 unfold clsF;rw [dif_neg fun⟨i,hi⟩=>hi.JP h]
end
theorem thr_k {r:Rn}{i:Nat}(h:RunA r)(hk:KeyR r):kD (thr r i)=true/\dp (thr r i)<=8:=by
 unfold KeyR rnD at hk;have k1:kL (r.1.map prD)=true/\kD r.2=true:=by have:=hk.1;simpa [kD,kL] using this
 have k2:dpL (r.1.map prD)<=6/\dp r.2<=7:=by have:=hk.2;simp only [dp,dpL] at this;omega
 unfold thr;cases e:r.1[i]? with
 |some p=>
  obtain⟨u,n,B,_⟩:=(h.ok.prs p (ud e)).ask;simp only [B];exact⟨by simp [kD,kL],by simp only [dp,dpL];omega⟩
 |none=>exact⟨k1.2,by show dp r.2<=8;omega⟩
theorem kL_take:∀{xs:List D}{i:Nat},kL xs=true->kL (xs.take i)=true
 | [],i,_=>by rw [List.take_nil];rfl
 |x::xs,0,_=>rfl
 |x::xs,i+1,h=>by
  simp only [List.take_succ_cons,kL,Bool.and_eq_true] at h⊢;exact⟨h.1,kL_take h.2⟩
theorem dpL_take {n:Nat}:∀{xs:List D}{i:Nat},dpL xs<=n->dpL (xs.take i)<=n
 | [],i,h=>by rw [List.take_nil];exact h
 |x::xs,0,h=>by simp [dpL]
 |x::xs,i+1,h=>by
  simp only [dpL] at h;have:=dpL_take (xs:=xs) (i:=i) (n:=n) (by omega)
  simp only [List.take_succ_cons,dpL];omega
theorem clD_k {r r':Rn}{i:Nat}(h:RunA r)(hk:KeyR r)(h':RunA r')(B:KeyR r'):kD (clD r r' i)=true/\dp (clD r r' i)<=60:=by
 obtain⟨L,U⟩:=thr_k (i:=i) h hk;obtain⟨M,Y⟩:=thr_k (i:=i) h' B;unfold KeyR rnD at hk;have k1:kL (r.1.map prD)=true:=by have:=hk.1;simp [kD,kL] at this;exact this.1
 have k2:dpL (r.1.map prD)<=6:=by have:=hk.2;simp only [dp,dpL] at this;omega
 have k3:=kL_take (i:=i) k1;have O:=dpL_take (i:=i) k2;rw [<-Uk] at k3 O;unfold clD;refine⟨?_,by simp only [dp,dpL];omega⟩
 show((kL ((r.1.take i).map prD))&&(kD (thr r i)&&(kD (thr r' i)&&true)))=true;rw [k3,L,M]
 rfl
theorem clsF_non {r r':Rn}:yT (clsF r r')=true↔Fit r r':=by
 constructor
 ·intro e;exact uY fun n=>by
   obtain⟨i,hi⟩:=JP n;rw [j9 hi] at e;cases e
 ·intro h;rw [XC h];rfl
def CP (rs rs':List Rn)(p:List D):Prop:=(∃r∈rs,p<+:ans r)/\∃r'∈rs',p<+:ans r'
def rkp (p:List D):List Nat:=p.map aR
theorem nd_le {α:Type}[DecidableEq α]:∀{l m:List α},l.Nodup->(∀x∈l,x∈m)->l.length<=m.length
 | [],m,_,_=>uv _
 |x::l,m,nd,h=>by
  rw [Ux] at nd;have hx:=h x u5;have M:=nd_le (l:=l) (m:=m.erase x) nd.2 fun y L=>by
   have B:y≠x:=fun z=>nd.1 (by rw [<-z];exact L)
   exact(List.mem_erase_of_ne B).mpr (h y (u4 _ L))
  rw [List.length_erase_of_mem hx] at M;have:=List.length_pos_of_mem hx;rw [ul];omega
theorem lt_app:∀{a b x y:List Nat},a<b->a.length=b.length->a++x<b++y
 | [],[],x,y,h,_=>absurd h (Up _)
 | [],_::_,_,_,_,e=>by simp at e
 |_::_,[],_,_,_,e=>by simp at e
 |a::as,b::bs,x,y,h,e=>by
  rw [U0,U0,v5];rcases List.cons_lt_cons_iff.mp h with h|⟨h1,h2⟩
  ·exact .inl h
  ·exact .inr ⟨h1,lt_app h2 (by simpa using e)⟩
theorem lt_snoc:∀{a:List Nat}{x y:Nat},x<y->a++ [x]<a++ [y]
 | [],x,y,h=>by rw [List.nil_append,List.nil_append,v5];exact .inl h
 |a::as,x,y,h=>by rw [U0,U0,v5];exact .inr ⟨rfl,lt_snoc h⟩
structure Lvl (rs rs':List Rn)(i:Nat)(ps:List (List D)):Prop where
 mem:∀p,p∈ps↔CP rs rs' p/\p.length=i
 srt:ps.Pairwise fun p q=>rkp p<rkp q
theorem srt_nd {ps:List (List D)}(h:ps.Pairwise fun p q=>rkp p<rkp q):ps.Nodup:=h.imp fun h e=>by rw [e] at h;exact Up _ h
section
open Classical
theorem lv_len {rs:List Rn}{i:Nat}{ps:List (List D)}(h:ps.Pairwise fun p q=>rkp p<rkp q)(hm:∀p∈ps,p.length=i/\∃r∈rs,p<+:ans r):ps.length<=rs.length:=by
 have:=nd_le (l:=ps) (m:=rs.map fun r=>(ans r).take i) (srt_nd h) fun p L=>by
  obtain⟨e,r,M,B⟩:=hm p L;exact List.mem_map.mpr ⟨r,M,by rw [<-e];exact(yg B).symm⟩
 rw [uc] at this;exact this
end
theorem CP.take {rs rs':List Rn}{p:List D}(h:CP rs rs' p)(i:Nat):CP rs rs' (p.take i):=⟨let⟨r,hr,hp⟩:=h.1;⟨r,hr,(vr _ _).trans hp⟩,let⟨r,hr,hp⟩:=h.2;⟨r,hr,(vr _ _).trans hp⟩⟩
def EntAt (rs:List Rn)(n n':List D->Addr)(H:Hp)(p:List D)(u:V):Prop:=∃(t:Addr) (av:V) (r:Rn),u= .ref t/\H t=some (.tup [av,.ref (n p),.ref (n' p)])/\r∈rs/\p<+:ans r/\Is H (.tup ((r.1.take p.length).map prD)) av
theorem EntAt.mono {rs:List Rn}{n B:List D->Addr}{H H':Hp}{p:List D}{u:V}(h:EntAt rs n B H p u)(t:Tk H H'):EntAt rs n B H' p u:=let⟨a,av,r,h1,h2,h3,h4,h5⟩:=h;⟨a,av,r,h1,t.tup _ _ h2,h3,h4,h5.mono t⟩
def LvAt (rs:List Rn)(n n':List D->Addr)(H:Hp)(ps:List (List D))(us:List V):Prop:=us.length=ps.length/\∀(j:Nat) (p:List D) (u:V),ps[j]? =some p->us[j]? =some u->EntAt rs n n' H p u
theorem LvAt.mono {rs:List Rn}{n B:List D->Addr}{H H':Hp}{ps:List (List D)}{us:List V}(h:LvAt rs n B H ps us)(t:Tk H H'):LvAt rs n B H' ps us:=⟨h.1,fun j p u a b=>(h.2 j p u a b).mono t⟩
theorem LvAt.snoc {rs:List Rn}{n B:List D->Addr}{H:Hp}{ps:List (List D)}{us:List V}{p:List D}{u:V}(h:LvAt rs n B H ps us)(e:EntAt rs n B H p u):LvAt rs n B H (ps++ [p]) (us++ [u]):=by
 refine⟨by rw [ui,ui,h.1];rfl,fun j q w a b=> ?_⟩
 by_cases c:j<ps.length
 ·rw [v7 c] at a;rw [v7 (by rw [h.1];exact c)] at b
  exact h.2 j q w a b
 ·rw [vB (by omega)] at a
  rw [vB (by rw [h.1];omega),h.1] at b
  have h1:=List.mem_singleton.mp (ud a);have h2:=List.mem_singleton.mp (ud b);rw [h1,h2];exact e
def xB (rs rs':List Rn)(p:List D):Prop:=∀r2∈rs,∀r2'∈rs',∀q,Dif r2 r2' q->p.length<q.length∨(p.length=q.length/\¬rkp q<rkp p)
def sp_fcb (w:World)(CN:Addr):Sp:=fun vs H Q _=>∃(rs rs':List Rn) (S S':Addr->Prop) (n e n' e':List D->Addr) (gf gf':Rn->List Int),vs= [.ref (n []),.ref (n' [])]/\yP w CN gf H rs S n e/\yP w CN gf' H rs' S' n' e'/\rs≠ []/\rs'≠ []/\(∀r∈rs,RunA r)/\(∀r∈rs',RunA r)/\Fits rs/\Fits rs'/\rs.length<=100/\
 ((∀r∈rs,∀r'∈rs',Fit r r')->∀H',Same H H'->Q .non H')/\
 (∀r∈rs,∀r'∈rs',∀p u H',Dif r r' p->xB rs rs' p->Same H H'->Is H' (clD r r' p.length) u->Q u H')
def FcW (H:Hp)(rs rs':List Rn)(n n':List D->Addr)(x y:V)(m:Nat)(σ:L2.St)(H':Hp):Prop:=∃(i:Nat) (ps:List (List D)) (lv:Addr) (us:List V) (o3 o4 o5 o6 o7 o8:Option V),σ= [some x,some y,some (.ref lv),o3,o4,o5,o6,o7,o8]/\Same H H'/\H' lv=some (.lst us)/\LvAt rs n n' H' ps us/\Lvl rs rs' i ps/\(∀r∈rs,∀r'∈rs',∀q,q.length<i->¬Dif r r' q)/\m=60-i
section
variable {P:Program}{w:World}{K:PySem.W.Frag}{mg:Str->Option Value}{base:Heap}{a:Ad}{g:Ga}
theorem ok_fcb (T:Tx K mg a):FnOk P w K mg base CX0 12 a.Q1 a.Q9 ["node","other"] (sp_fcb w a.qB):=by
 have y7:=ok_akey (P:=P) (w:=w) (base:=base) T;refine T.g_first_clash_below.F.ok qA () (fun _ _ _ _ H _ Q E hr h=> ?_)
 obtain⟨rs,rs',S,S',n,e,U,e',gf,gf',rfl,N,N',bW,bd,hR,bX,hF,bY,bZ,kN,kC⟩:=h;refine⟨_,(@qd _ _ _ _ _ (@qE _ _ (2) _ _ _ _ qA.nd rfl (Or.inl rfl) (@Qq _ _ _ _ (@qa _ _ _ _ _ (@qy _ _ _ _ _ (@qa _ _ _ _ _ (@qy _ _ _ _ _ qc) (@qa _ _ _ _ _ (pv 0) (@qa _ _ _ _ _ (pv 1) qc ()) ()) ())) qc ())) () ()) (@qd _ _ _ _ _ (@Xy _ _ _ _ _ _ uO (@x9 _ _ _ (pv 2) (fun _=>rfl)) (@qd _ _ _ _ _ (@qE _ _ (3) _ _ _ _ qA.nd rfl (Or.inl rfl) (@Qq _ _ _ _ qc) () ()) (@qd _ _ _ _ _ (@Q4 _ _ _ _ _ _ _ _ uO rfl (@yI _ _ _ _ (pv 2)) (@jb _ _ _ _ _ _ rfl (qI (@qw _ _ (4) _ qA.nd rfl (Or.inl rfl) ()) (qI (@qw _ _ (5) _ qA.nd rfl (Or.inl rfl) ()) (qI (@qw _ _ (6) _ qA.nd rfl (Or.inl rfl) ()) yF))) () ()) (@qd _ _ _ _ _ (@qN _ _ _ _ _ _ _ _ (@qu _ _ _ _ _ _ _ _ (@Jj _ hr.units) (@qS _ _ _ _ _ (pv 5) rfl) (@qS _ _ _ _ _ (pv 6) rfl) (qC _)) (@qf _ _ _ (@qo _ _ _ _ (@qy _ _ _ _ _ (@qa _ _ _ _ _ (pv 4) (@qa _ _ _ _ _ (@qS _ _ _ _ _ (pv 5) rfl) (@qa _ _ _ _ _ (@qS _ _ _ _ _ (pv 6) rfl) qc ()) ()) ())))) qr) (@qf _ _ _ (@Q4 _ _ _ _ _ _ _ _ uO rfl (@yI _ _ _ _ (@Xu _ _ _ _ _ _ _ (false) _ _ _ _ _ _ _ (⟨0,0,0,0⟩) (⟨0,0,0,0⟩) (0) _ rfl rfl rfl y7 (hr.mono ()) T.g_answer_key.b () T.YR () T.g_answer_key.m (@qS _ _ _ _ _ (pv 5) rfl) () ())) (@qw _ _ (7) _ qA.nd rfl (Or.inl rfl) ()) (@qf _ _ _ (@qN _ _ _ _ _ _ _ _ (@pt_cmp _ _ _ _ _ _ (@pc_inD _ _ _ _ _ (w) rfl hr.units (pv 7) (@qS _ _ _ _ _ (pv 6) rfl)) ()) (@qd _ _ _ _ _ (@qE _ _ (8) _ _ _ _ qA.nd rfl (Or.inl rfl) (@qT _ _ _ _ _ _ _ _ jg (pv 4) (@qy _ _ _ _ _ (@qa _ _ _ _ _ (@qy _ _ _ _ _ (@qa _ _ _ _ _ (@qG _ _ _ _ _ _ _ qD (@qS _ _ _ _ _ (pv 5) rfl) qg (fun _ _=>rfl)) (@qa _ _ _ _ _ (pv 7) qc ()) ())) qc ()))) () ()) (@qf _ _ _ (@QY _ _ _ _ (@pe_bm _ _ _ _ _ _ _ _ _ _ _ _ uQ vt vv Q6 (pv 3) (@qa _ _ _ _ _ (@qy _ _ _ _ _ (@qa _ _ _ _ _ (pv 8) (@qa _ _ _ _ _ (@xh _ _ _ _ _ _ (w) rfl hr.units (@qS _ _ _ _ _ (pv 5) rfl) (pv 7) (fun _ _=>rfl)) (@qa _ _ _ _ _ (@xh _ _ _ _ _ _ (w) rfl hr.units (@qS _ _ _ _ _ (pv 6) rfl) (pv 7) (fun _ _=>rfl)) qc ()) ()) ())) qc ()) () () () () ()) ()))) qr)) ()))) ()) (@qf _ _ _ (@qE _ _ (2) _ _ _ _ qA.nd rfl (Or.inl rfl) (pv 3) () ()))))) (@qf _ _ _ (@qo _ _ _ _ Qh)))),?_⟩
 have one:(1:Nat)<=sizeLine:=by decide
 have b0:(2:Nat)<=sizeLine:=by decide
 have af:(3:Nat)<=sizeLine:=by decide
 obtain⟨r0,be⟩:=vo _ bW;obtain⟨b1,bf⟩:=vo _ bd;refine⟨(by show 0<=sizeLine;decide),fun t0 h0=>⟨_,rfl,_,rfl,af,fun t1 h1=>⟨one,fun aw bg=> ?_⟩⟩⟩
 have y0:=qb h0 (.tup []);have y1:=qb h1 (.tup [.ref t0,.ref (n []),.ref (U [])]);have y2:=qb bg (.lst [.ref t1]);have Y:=y0.trans (y1.trans y2);have i0:Is (upd H t0 (.tup [])) (.tup []) (.ref t0):=Is.new (ds:= []) rfl h0;have az:EntAt rs n U (upd (upd (upd H t0 (.tup [])) t1 (.tup [.ref t0,.ref (n []),.ref (U [])])) aw (.lst [.ref t1])) [] (.ref t1):=⟨t1,.ref t0,r0,rfl,y2 _ _ qe,be,vX,(i0.mono y1.tk).mono y2.tk⟩;have e0:(upd (upd (upd H t0 (.tup [])) t1 (.tup [.ref t0,.ref (n []),.ref (U [])])) aw (.lst [.ref t1])) aw=some (.lst [.ref t1]):=qe;generalize upd (upd (upd H t0 (.tup [])) t1 (.tup [.ref t0,.ref (n []),.ref (U [])])) aw (.lst [.ref t1])=H0 at Y az e0⊢;refine⟨FcW H rs rs' n U (.ref (n [])) (.ref (U [])),⟨_,0,[[]],aw,[.ref t1],none,none,none,none,none,none,rfl,Y,e0,?_,⟨fun p=> ?_,List.pairwise_singleton _ _⟩,fun _ _ _ _ _ h=>absurd h (vN _),rfl⟩,?_⟩
 ·exact⟨rfl,fun j p u a b=>by
   rw [List.mem_singleton.mp (ud a),List.mem_singleton.mp (ud b)];exact az⟩
 ·rw [vg];constructor
  ·rintro rfl;exact⟨⟨⟨r0,be,vX⟩,b1,bf,vX⟩,rfl⟩
  ·intro h;exact List.length_eq_zero_iff.mp h.2
 clear az e0 Y i0 y0 y1 y2;rintro m σ H1 ⟨i,ps,lv,us,o3,o4,o5,o6,o7,o8,rfl,S1,el,L1,LV,AG,rfl⟩;refine⟨_,rfl,_,.inl ⟨_,SqL.of el,rfl⟩,?_⟩;by_cases aZ:ps= []
 ·have b2:us= []:=by
   have:=L1.1;rw [aZ] at this;exact List.length_eq_zero_iff.mp this
  rw [b2];refine iteF ?_;refine kN (fun r hr r' B=>jo.mpr fun q d=> ?_) H1 S1;by_cases c:q.length<i
  ·exact AG r hr r' B q c d
  ·have:q.take i∈ps:=(LV.mem _).mpr ⟨CP.take ⟨⟨r,hr,d.1⟩,r',B,d.2.1⟩ i,by rw [uq];omega⟩
   rw [aZ] at this;cases this
 obtain⟨p0,bh⟩:=vo _ aZ;have cq:i<=50:=by
  obtain⟨⟨⟨r,hr,hp⟩,_⟩,e1⟩:=(LV.mem p0).mp bh;have h1:=qM hp;have h2:=(hR r hr).ok.len;omega
 have b3:(!us.isEmpty)=true:=by
  have:=L1.1;have h2:=List.length_pos_of_mem bh;cases us with
  |nil=>simp at this;omega
  |cons _ _=>rfl
 rw [b3];refine iteT ⟨fun σ' b4=>∃m',m'<60-i/\FcW H rs rs' n U (.ref (n [])) (.ref (U [])) m' σ' b4,fun _ _ h=>h,?_⟩;refine⟨(by show 0<=sizeLine;decide),fun bl a0=> ?_⟩
 have z2:=qb a0 (.lst []);have eb:(upd H1 bl (.lst [])) bl=some (.lst []):=qe;have S2:=S1.trans z2;have a1:=z2 _ _ el;have bi:=L1.mono z2.tk;have b5:bl≠lv:=(qh el a0).symm;have bj:H bl=none:=QF S1 a0;generalize upd H1 bl (.lst [])=H2 at z2 eb S2 a1 bi⊢;refine⟨_,rfl,lv,rfl,⟨_,SqL.of a1⟩,?_⟩
 let J1_:Nat->L2.St->Hp->Prop:=fun j σ H'=>∃(qs:List (List D)) (ws:List V) (o4 o5 o6 o7 o8:Option V),σ= [some (.ref (n [])),some (.ref (U [])),some (.ref lv),some (.ref bl),o4,o5,o6,o7,o8]/\Same H H'/\H' lv=some (.lst us)/\H' bl=some (.lst ws)/\LvAt rs n U H' ps us/\LvAt rs n U H' qs ws/\(∀q,q∈qs↔CP rs rs' q/\q.length=i+1/\q.take i∈ps.take j)/\(qs.Pairwise fun p q=>rkp p<rkp q)/\∀p∈ps.take j,∀r∈rs,∀r'∈rs',¬Dif r r' p
 refine Yl (K:=K) (a:=lv) (xs:=us) J1_ ⟨[],[],_,_,_,_,_,rfl,S2,a1,eb,bi,⟨rfl,fun j p u a=>by simp at a⟩,fun q=>by simp,List.Pairwise.nil,by simp⟩ (fun j σ H' _ ⟨_,_,_,_,_,_,_,_,_,h,_⟩=>SqL.of h) ?_ ?_
 ·rintro j u σ H3 hu ⟨qs,ws,o4,o5,o6,o7,o8,rfl,S3,a2,aJ,L3,a3,QM,QS,ND⟩;have hj:j<ps.length:=by rw [<-L1.1];exact(List.getElem?_eq_some_iff.mp hu).1
  obtain⟨p,hp⟩:∃p,ps[j]? =some p:=⟨_,u0 hj⟩;have b6:=ud hp;obtain⟨⟨_,r',B,al⟩,aK⟩:=(LV.mem p).mp b6;obtain⟨t,av,r,rfl,ht,Z,aa,bm⟩:=L3.2 j p u hp hu;refine⟨t,_,rfl,SqT.of ht,rfl,_,_,rfl,_,_,rfl,_,_,rfl,rfl,?_⟩;have N3:=N.move S3.tk fun b o _ h=>S3 b o h;have bn:=N'.move S3.tk fun b o _ h=>S3 b o h;obtain⟨dx,fs,tv,wv,gv,a4,nf,it,_,_⟩:=N3.nd r Z p aa;obtain⟨bo,fs',bp,cw,cx,aN,bq,br,_,_⟩:=bn.nd r' B p al;obtain⟨ds,a5,bt,cy⟩:=thr_n (i:=p.length) (hR r Z);obtain⟨bu,aA,aO,cr⟩:=thr_n (i:=p.length) (bX r' B);refine⟨_,rfl,_,_,dx,fs,tv,rfl,a4,T.qV,T.q9,nf.there,_,rfl,_,_,bo,fs',bp,rfl,aN,T.qV,T.q9,bq.there,ds,bu,by rw [<-a5];exact it,by rw [<-aA];exact br,bt,aO,by omega,_,rfl,?_⟩
  by_cases am:ds≠bu
  ·refine Qi (by rw [Xv bt am];rfl) ?_
   refine⟨_,rfl,_,rfl,_,_,dx,fs,tv,rfl,a4,T.qV,T.q9,nf.there,_,rfl,_,_,bo,fs',bp,rfl,aN,T.qV,T.q9,bq.there,af,fun l hl=> ?_⟩;refine kC r Z r' B p _ _ ⟨aa,al,fun z=>am (by rw [a5,aA] at z;injection z)⟩ (fun M h2 ag aB q hd=> ?_) (S3.trans (qb hl _)) (Is.new (ds:= [_,_,_]) ⟨_,_,rfl,bm,_,_,rfl,it,_,_,rfl,br,rfl⟩ hl)
   by_cases c1:q.length<i
   ·exact absurd hd (AG M h2 ag aB q c1)
   by_cases c2:i<q.length
   ·exact .inl (by omega)
   ·refine .inr ⟨by omega,fun ao=> ?_⟩
    have b7:q∈ps:=(LV.mem q).mpr ⟨⟨⟨M,h2,hd.1⟩,ag,aB,hd.2.1⟩,by omega⟩
    obtain⟨k,hk⟩:=List.mem_iff_getElem?.mp b7;by_cases c3:k<j
    ·exact ND q (ud (show(ps.take j)[k]? =some q by rw [UV,if_pos c3];exact hk)) M h2 ag aB hd
    ·have bv:=(List.getElem?_eq_some_iff.mp hk).1;have a6:=(List.getElem?_eq_some_iff.mp hk).2;have bw:=(List.getElem?_eq_some_iff.mp hp).2;rcases uZ j k with c4|c4
     ·have:=List.pairwise_iff_getElem.mp LV.srt j k hj bv c4;rw [a6,bw] at this;exact List.lt_asymm this ao
     ·have:k=j:=by omega
      subst this;rw [bw] at a6;rw [a6] at ao;exact Up _ ao
  have am:=Classical.not_not.mp am;have bx:thr r p.length=thr r' p.length:=by rw [a5,aA,am]
  refine Qf (by rw [am,YZ aO];rfl) ?_
  have a7:∀M∈rs,∀ag∈rs',¬Dif M ag p:=fun M h2 ag aB d=>d.2.2 (((hF M h2 r Z p d.1 aa).trans bx).trans (bY r' B ag aB p al d.2.1));obtain⟨kvs,g3,mem,cz⟩:=N3.kd r Z p aa;obtain⟨cs,cA,cu,cv⟩:=bn.kd r' B p al;have aC:∀c∈kvs.map (·.1),c∈ANS:=fun c hc=>let⟨M,h1,h2⟩:=(mem c).mp hc;(hR M h1).kid h2;have bv:=XR g3.nd aC;refine⟨_,rfl,_,_,dx,fs,_,rfl,a4,T.qV,T.qJ,nf.edges,?_⟩;refine⟨e p,kvs,false,akL,rfl,g3,by omega,keys_ak aC,fun x hx H5 s5 Q' q'=> ?_,fun H5 ys q s5 hq perm srt=> ?_⟩
  ·exact⟨x.2.1,x.1,rfl,aC _ (List.mem_map.mpr ⟨x,hx,rfl⟩),(g3.ks x hx).1.mono s5.tk,fun u H6 s6 i6=>q' u H6 s6 i6⟩
  rw [if_neg (by decide)] at srt
  have pm:(ys.map (·.1)).Perm (kvs.map (·.1)):=by
   have:=perm.map (·.1);rw [uB] at this;exact this
  have b8:(ys.map (·.1)).Nodup:=pm.nodup_iff.mpr g3.nd;have pw:(ys.map (·.1)).Pairwise fun c d=>aR c<aR d:=by
   have h1:(ys.map (·.1)).Pairwise fun a b=>ltK akL b a=false:=List.pairwise_map.mpr srt;refine(h1.and b8).imp_of_mem fun{x y} hx hy h=> ?_;have ax:=aC x (pm.mem_iff.mp hx);have ay:=aC y (pm.mem_iff.mp hy);have h2:=h.1;rw [YQ ay ax] at h2;have h3:=UU h2;have h4:aR x≠aR y:=fun z=>h.2 (jq ax ay z);omega
  have s6:=qb hq (.lst (ys.map (·.2)));have a8:(upd H5 q (.lst (ys.map (·.2)))) q=some (.lst (ys.map (·.2))):=qe;have ap:=s5.trans s6;have b9:q≠bl:=(qh (s5 _ _ aJ) hq).symm;have cB:q≠lv:=(qh (s5 _ _ a2) hq).symm;generalize upd H5 q (.lst (ys.map (·.2)))=H6 at s6 a8 ap⊢;refine⟨q,rfl,⟨_,SqL.of a8⟩,?_⟩
  let J2_:Nat->L2.St->Hp->Prop:=fun k σ H'=>∃(ad:List (List D)) (O:List V) (o7 o8:Option V),σ= [some (.ref (n [])),some (.ref (U [])),some (.ref lv),some (.ref bl),some av,some (.ref (n p)),some (.ref (U p)),o7,o8]/\Same H H'/\H' lv=some (.lst us)/\H' q=some (.lst (ys.map (·.2)))/\H' bl=some (.lst O)/\Tk H3 H'/\LvAt rs n U H' ad O/\(∀L,L∈ad↔L∈qs∨∃c∈(ys.take k).map (·.1),L=p++ [c]/\CP rs rs' L)/\ad.Pairwise fun p q=>rkp p<rkp q
  refine Yl (K:=K) (a:=q) (xs:=ys.map (·.2)) J2_ ⟨qs,ws,_,_,rfl,S3.trans ap,ap _ _ a2,a8,ap _ _ aJ,ap.tk,a3.mono ap.tk,fun L=>by simp,QS⟩ (fun k σ H' _ ⟨_,_,_,_,_,_,_,h,_⟩=>SqL.of h) ?_ ?_
  ·rintro k x σ H7 hx ⟨ad,O,o7,o8,rfl,S7,aL,a9,aD,aq,aE,ah,aF⟩;have ao:k<ys.length:=by have:=(List.getElem?_eq_some_iff.mp hx).1;rw [uc] at this;exact this
   obtain⟨y,hy⟩:∃y,ys[k]? =some y:=⟨_,u0 ao⟩;rw [uj,hy] at hx;cases hx;have N7:=N.move S7.tk fun b o _ h=>S7 b o h;have bz:=N'.move S7.tk fun b o _ h=>S7 b o h;obtain⟨ca,g7,bA,bB⟩:=N7.kd r Z p aa;obtain⟨aG,aH,ai,ba⟩:=bz.kd r' B p al;obtain⟨z,hz,ez⟩:=List.mem_map.mp (perm.mem_iff.mp (ud hy));have ky:KOk H7 y.1 y.2:=by rw [<-ez];exact⟨(g3.ks z hz).1.mono aq,(g3.ks z hz).2⟩
   have cb:y.1∈kvs.map (·.1):=by rw [<-ez];exact List.mem_map.mpr ⟨z,hz,rfl⟩
   obtain⟨M,au,ab⟩:=(mem y.1).mp cb;obtain⟨bC,bD,cc,_,_,bE,bF,bG,_,_⟩:=N7.nd r Z p aa;obtain⟨aP,aQ,_,_,_,aS,aT,_,_,_⟩:=bz.nd r' B p al;have aI:(ys.take (k+1)).map (·.1)=(ys.take k).map (·.1)++ [y.1]:=by rw [uE,hy,uw];rfl
   refine⟨_,rfl,_,rfl,_,_,aP,aQ,_,rfl,aS,T.qV,T.qJ,aT.edges,_,aG,y.1,rfl,aH,ky,_,rfl,?_⟩;cases bH:(valD aG y.1).isSome with
   |false=>
    refine iteF ⟨ad,O,_,_,rfl,S7,aL,a9,aD,aq,aE,fun L=>(ah L).trans (or_congr Iff.rfl ?_),aF⟩;rw [aI];constructor
    ·rintro⟨c,h1,h2⟩;exact⟨c,vd _ h1,h2⟩
    ·rintro⟨c,h1,h2,h3⟩;rcases List.mem_append.mp h1 with h1|h1
     ·exact⟨c,h1,h2,h3⟩
     ·rw [List.mem_singleton.mp h1] at h2;obtain⟨r3,h4,h5⟩:=h3.2;rw [h2] at h5;have:=(Qr aH ky.2.1).mpr ((ai y.1).mpr ⟨r3,h4,h5⟩);rw [bH] at this;cases this
   |true=>
    refine iteT ?_;obtain⟨r3,bI,bJ⟩:=(ai y.1).mp ((Qr aH ky.2.1).mp bH);have cd:CP rs rs' (p++ [y.1]):=⟨⟨M,au,ab⟩,r3,bI,bJ⟩;have aU:=ya ab;have ce:p.length<M.1.length:=by have:=qM ab;rw [ui,uR] at this;omega
    obtain⟨ac,aj⟩:∃pr,M.1[p.length]? =some pr:=⟨_,u0 ce⟩;have cf:ac.2=y.1:=by
     have:=(QH.mp ab).2;rw [yR,aj] at this
     simpa using this
    have bb:thr r p.length= .tup [.str "asks",ac.1]:=by rw [hF r Z M au p aa aU,Q3 aj]
    rw [bb] at bG;have bK:r.1.take p.length=M.1.take p.length:=(take_eq (fun q h1 h2 _=>hF r Z M au q h1 h2) (qM aa) (by rw [<-yg aa];exact aU)).2
    have aV:=bm.mono aq;rw [bK] at aV;refine⟨_,rfl,_,rfl,_,_,bC,bD,cc,rfl,bE,T.qV,T.q9,bF.there,?_⟩;refine gi (i:=1) (d:=ac.1) bG (qm (j:=1) rfl) fun qv cg=> ?_;refine⟨_,rfl,b0,fun l1 bL=>⟨one,fun l2 bM=> ?_⟩⟩;have v1:=qb bL (.tup [qv,y.2]);have v2:=qb bM (.tup [.ref l1]);have j1:Is (upd H7 l1 (.tup [qv,y.2])) (prD ac) (.ref l1):=Is.new (ds:= [ac.1,ac.2]) ⟨_,_,rfl,cg,_,_,rfl,by rw [cf];exact ky.1,rfl⟩ bL
    have j2:Is (upd (upd H7 l1 (.tup [qv,y.2])) l2 (.tup [.ref l1])) (.tup [prD ac]) (.ref l2):=Is.new (ds:= [prD ac]) ⟨_,_,rfl,j1,rfl⟩ bM;have bc:=v1.trans v2;generalize upd (upd H7 l1 (.tup [qv,y.2])) l2 (.tup [.ref l1])=H8 at v2 j2 bc⊢;refine jl (aV.mono bc.tk) j2 (yb (by rw [uc,uq];have:=(hR M au).ok.len;show _+1<=1000;omega)) fun fv H9 z9 i9=> ?_
    have v9:=bc.trans z9;have ch:Is H9 (.tup ((M.1.take (p++ [y.1]).length).map prD)) fv:=by
     have:M.1.take (p++ [y.1]).length=M.1.take p.length++ [ac]:=by rw [ui,uR,uE,aj];rfl
     rw [this,uw];exact i9
    obtain⟨xx,ci,cj,bN⟩:=jC g7 ky.2.1 ((bA y.1).mpr ⟨M,au,ab⟩);obtain⟨ck,bO,bP,aW⟩:=jC aH ky.2.1 ((ai y.1).mpr ⟨r3,bI,bJ⟩);rw [bB xx ci,cj] at bN;rw [ba ck bO,bP] at aW;have bQ:KOk H9 y.1 y.2:=⟨ky.1.mono v9.tk,ky.2⟩;refine⟨_,rfl,.inl ⟨rfl,_,SqL.of (v9 _ _ aD)⟩,_,rfl,_,rfl,_,_,bC,bD,_,rfl,v9 _ _ bE,T.qV,T.qJ,bF.edges,_,rfl,e p,ca,y.1,_,rfl,g7.same v9,bQ,bN,_,rfl,_,_,aP,aQ,_,rfl,v9 _ _ aS,T.qV,T.qJ,aT.edges,_,rfl,e' p,aG,y.1,_,rfl,aH.same v9,bQ,aW,af,fun l hl=> ?_⟩;have ak:=v9.trans (qb hl (.tup [fv,.ref (n (p++ [y.1])),.ref (U (p++ [y.1]))]));have bR:(upd H9 l (.tup [fv,.ref (n (p++ [y.1])),.ref (U (p++ [y.1]))])) l=some (.tup [fv,.ref (n (p++ [y.1])),.ref (U (p++ [y.1]))]):=qe;have bS:=ch.mono (qb hl (.tup [fv,.ref (n (p++ [y.1])),.ref (U (p++ [y.1]))])).tk;generalize upd H9 l (.tup [fv,.ref (n (p++ [y.1])),.ref (U (p++ [y.1]))])=bT at ak bR bS⊢;have aX:=ak _ _ aD;have aM:Tk bT (upd bT bl (.lst (O++ [.ref l]))):=Tk.updL aX;have cC:O.length<=100:=by
     rw [aE.1];refine v8 (lv_len (i:=i+1) aF fun L cm=> ?_) bZ;rcases(ah L).mp cm with h|⟨c,_,h2,h3⟩
     ·obtain⟨h1,h2,_⟩:=(QM L).mp h;exact⟨h2,h1.1⟩
     ·exact⟨by rw [h2,ui,aK];rfl,h3.1⟩
    refine⟨bl,O,_,rfl,rfl,aX,QL (by omega),?_⟩
    refine⟨ad++ [p++ [y.1]],O++ [.ref l],_,_,rfl,fun b o h=> ?_,?_,?_,qe,aq.trans (ak.tk.trans aM),?_,fun L=> ?_,?_⟩
    ·rw [qi (qh h bj)];exact ak _ _ (S7 b o h)
    ·rw [qi b5.symm];exact ak _ _ aL
    ·rw [qi b9];exact ak _ _ a9
    ·exact((aE.mono ak.tk).mono aM).snoc ⟨l,fv,M,rfl,aM.tup _ _ bR,au,ab,bS.mono aM⟩
    ·rw [vO,ah L,vg,aI,or_assoc];refine or_congr Iff.rfl ⟨?_,?_⟩
     ·rintro(⟨c,h1,h2⟩|h)
      ·exact⟨c,vd _ h1,h2⟩
      ·exact⟨y.1,uu _ (List.mem_singleton.mpr rfl),h,by rw [h];exact cd⟩
     ·rintro⟨c,h1,h2,h3⟩;rcases List.mem_append.mp h1 with h1|h1
      ·exact .inl ⟨c,h1,h2,h3⟩
      ·rw [List.mem_singleton.mp h1] at h2;exact .inr h2
    ·refine List.pairwise_append.mpr ⟨aF,List.pairwise_singleton _ _,fun L h2 q3 h3=> ?_⟩;rw [List.mem_singleton.mp h3];unfold rkp;rw [uw];rcases(ah L).mp h2 with h|⟨c,h4,h5,_⟩
     ·obtain⟨h6,h7,h8⟩:=(QM L).mp h;obtain⟨k2,ae⟩:=List.mem_iff_getElem?.mp h8;rw [UV] at ae;split at ae
      ·rename_i bU
       have h9:=List.pairwise_iff_getElem.mp LV.srt k2 j (by omega) hj bU
       rw [(List.getElem?_eq_some_iff.mp ae).2,(List.getElem?_eq_some_iff.mp hp).2] at h9;have e2:L.map aR=(L.take i).map aR++(L.drop i).map aR:=by rw [<-uw,List.take_append_drop]
       rw [e2];refine lt_app h9 ?_;rw [uc,uc,uq,aK];omega
      ·cases ae
     ·rw [h5,uw];refine lt_snoc ?_;obtain⟨k2,ae⟩:=List.mem_iff_getElem?.mp h4;have aY:k2<k:=by
       have:=(List.getElem?_eq_some_iff.mp ae).1;rw [uc,uq] at this;omega
      have h9:=List.pairwise_iff_getElem.mp pw k2 k (by rw [uc];omega) (by rw [uc];exact ao) aY
      have cn:(ys.map (·.1))[k2]? =some c:=by
       rw [Uk,UV,if_pos aY] at ae;exact ae
      have cp:(ys.map (·.1))[k]? =some y.1:=by rw [uj,hy];rfl
      rw [(List.getElem?_eq_some_iff.mp cn).2,(List.getElem?_eq_some_iff.mp cp).2] at h9;exact h9
  ·rintro σ H7 ⟨ad,O,o7,o8,rfl,S7,aL,a9,aD,aq,aE,ah,aF⟩;rw [uc,vq] at ah;have aI:ps.take (j+1)=ps.take j++ [p]:=by rw [uE,hp];rfl
   refine⟨ad,O,_,_,_,_,_,rfl,S7,aL,aD,L3.mono aq,aE,fun L=> ?_,aF,fun p2 ab=> ?_⟩
   ·rw [ah L,QM L,aI,vO,vg];constructor
    ·rintro(⟨h1,h2,h3⟩|⟨c,h1,h2,h3⟩)
     ·exact⟨h1,h2,.inl h3⟩
     ·refine⟨h3,by rw [h2,ui,aK];rfl,.inr ?_⟩
      rw [h2,<-aK,List.take_left']
      rfl
    ·rintro⟨h1,h2,h3|h3⟩
     ·exact .inl ⟨h1,h2,h3⟩
     ·obtain⟨c,hc⟩:∃c,L[i]? =some c:=⟨_,u0 (by omega)⟩
      have bV:L=p++ [c]:=by
       have:=uE (l:=L) (i:=i);rw [hc,h3,<-h2,vq] at this;exact this
      refine .inr ⟨c,?_,bV,h1⟩;rw [pm.mem_iff];obtain⟨r4,h4,h5⟩:=h1.1;exact(mem c).mpr ⟨r4,h4,by rw [<-bV];exact h5⟩
   ·rw [aI] at ab;rcases List.mem_append.mp ab with h|h
    ·exact ND p2 h
    ·rw [List.mem_singleton.mp h];exact a7
 ·rintro σ H3 ⟨qs,ws,o4,o5,o6,o7,o8,rfl,S3,a2,aJ,L3,a3,QM,QS,ND⟩;rw [L1.1,vq] at QM ND;refine⟨_,rfl,_,(by omega:60-(i+1)<60-i),i+1,qs,bl,ws,_,_,_,_,_,_,rfl,S3,aJ,a3,⟨fun q=>(QM q).trans ⟨fun h=>⟨h.1,h.2.1⟩,fun h=>⟨h.1,h.2,(LV.mem _).mpr ⟨h.1.take i,by rw [uq];omega⟩⟩⟩,QS⟩,fun r hr r' B q hq d=> ?_,rfl⟩
  by_cases c:q.length<i
  ·exact AG r hr r' B q c d
  ·exact ND q ((LV.mem q).mpr ⟨⟨⟨r,hr,d.1⟩,r',B,d.2.1⟩,by omega⟩) r hr r' B d
def sp_clof:Sp:=fun vs H Q _=>∃(v v':V) (r r':Rn),vs= [v,v']/\Is H (rnD r) v/\Is H (rnD r') v'/\RunA r/\RunA r'/\∀(u:V) (H':Hp),Same H H'->Is H' (clsF r r') u->Q u H'
def sp_stands:Sp:=fun vs H Q _=>∃(v:V) (r:Rn) (i:Nat),vs= [v,.int (i:Int)]/\Is H (rnD r) v/\i<=r.1.length/\∀(u:V) (H':Hp),Same H H'->Is H' (thr r i) u->Q u H'
theorem sl_to {K:PySem.W.Frag}{H:Hp}{v:V}{ds:List D}{n:Nat}{Q:VK}(iv:Is H (.tup ds) v)(hn:n<=ds.length)(q:∀u H',Same H H'->Is H' (.tup (ds.take n)) u->Q u H'):rSlG K v none (some (n:Int)) H Q:=by
 obtain⟨p,vs,rfl,ep,L⟩:=iv;have M:vs.length=ds.length:=L.length;refine⟨p,vs,rfl,SqT.of ep,fun h=> ?_,fun h l B=> ?_⟩
 ·have e:n=ds.length:=by
   have:=h.2;rw [HT.sIx_nat] at this;omega
  subst e;exact q _ _ (Same.refl _) ⟨p,vs,rfl,ep,by rw [vq];exact L⟩
 ·rw [cutV_take (by omega)]
  exact q _ _ (qb B _) (Is.new (L.take n) B)
theorem thr_hd {r:Rn}{i:Nat}(h:Jr r):∃z d,thr r i= .tup [.str z,d]/\(z="asks"↔i<r.1.length):=by
 by_cases c:i<r.1.length
 ·exact⟨_,_,Q3 (u0 c),fun _=>c,fun _=>rfl⟩
 ·rw [yW (by omega)]
  rcases h.en with⟨d,e,_⟩|⟨z,_,e⟩
  ·exact⟨_,_,e,fun z=>absurd z (by decide+kernel),fun z=>absurd z c⟩
  ·exact⟨_,_,e,fun z=>absurd z (by decide+kernel),fun z=>absurd z c⟩
theorem ok_stands (T:Tx K mg a):FnOk P w K mg base CX0 1 a.jQ a.jW ["run","at"] sp_stands:=by
 refine T.g_law_stands.F.ok Xz () (fun _ _ _ _ H vs Q E hr h=> ?_)
 obtain⟨v,r,i,rfl,iv,hi,k⟩:=h;refine⟨_,(@qd _ _ _ _ _ (@qN _ _ _ _ _ _ _ _ (@qu _ _ _ _ _ _ _ _ yS (pv 1) (@qx _ _ _ _ _ _ _ _ _ qZ () T.j7 vn (@qa _ _ _ _ _ (@qG _ _ _ _ _ _ _ qD (pv 0) qg (fun _ _=>rfl)) qc ()) () () () ()) (qC _)) (@qf _ _ _ (@qo _ _ _ _ (@qG _ _ _ _ _ _ _ qD (pv 0) qg (fun _ _=>rfl)))) qr) (@qf _ _ _ (@qo _ _ _ _ (@qy _ _ _ _ _ (@qa _ _ _ _ _ qF (@qa _ _ _ _ _ (@qG _ _ _ _ _ _ _ qD (@qG _ _ _ _ _ _ _ qD (@qG _ _ _ _ _ _ _ qD (pv 0) qg (fun _ _=>rfl)) (pv 1) (fun _ _=>rfl)) qg (fun _ _=>rfl)) qc ()) ()))))),?_⟩
 have B:Is H (.tup [.tup (r.1.map prD),r.2]) v:=iv;refine⟨_,rfl,_,rfl,?_⟩;refine gi (i:=0) (d:= .tup (r.1.map prD)) B (qm (j:=0) rfl) fun pv O=> ?_;obtain⟨a0,vs,rfl,U,Y⟩:=id O;have lv:vs.length=r.1.length:=by rw [Y.length];simp
 refine⟨a0,vs,rfl,.inr (SqT.of U),rfl,_,rfl,?_⟩;by_cases c:i=r.1.length
 ·refine Qi (ue (by rw [lv,c])) ?_
  refine⟨_,rfl,?_⟩;refine gi (i:=1) (d:=r.2) B (qm (j:=1) rfl) fun ev Z=>k _ _ (Same.refl _) ?_;rw [yW (by omega)]
  exact Z
 ·refine Qf (u8 fun z=>c (by have:=V.int.inj z;omega)) ?_
  have L:i<r.1.length:=by omega
  refine⟨_,rfl,?_⟩;refine gi (i:=0) (d:= .tup (r.1.map prD)) B (qm (j:=0) rfl) fun ac M=> ?_;refine⟨_,rfl,?_⟩;refine ix_is (i:=(i:Int)) (d:=prD r.1[i]) M (qm (by rw [uj,u0 L];rfl)) fun xv aa=> ?_
  refine gi (i:=0) (d:=r.1[i].1) aa (qm (j:=0) rfl) fun qv ab=> ?_;refine⟨(by show 2<=sizeLine;decide),fun l hl=>k _ _ (qb hl _) ?_⟩
  rw [Q3 (u0 L)];exact Is.new (ds:= [.str "asks",r.1[i].1]) ⟨_,_,rfl,⟨rfl,yb (by decide)⟩,_,_,rfl,ab,rfl⟩ hl
theorem ok_lclash (T:Tx K mg a):FnOk P w K mg base CX0 2 a.J4 a.Jy ["run","other"] sp_clof:=by
 have jI:=ok_stands (P:=P) (w:=w) (base:=base) T;refine T.g_law_clash.F.ok yf () (fun _ _ _ _ H vs Q E hr h=> ?_)
 obtain⟨v,v',r,r',rfl,iv,am,hR,ag,k⟩:=h;refine⟨_,(@qd _ _ _ _ _ (@Q4 _ _ _ _ _ _ _ _ uO rfl (@Jn _ _ _ _ _ _ () T.z_range (@qa _ _ _ _ _ (@qT _ _ _ _ _ _ _ _ yz qg (@qx _ _ _ _ _ _ _ _ _ (@call_min2 _ rfl) () T.z_min boot_min (@qa _ _ _ _ _ (@qx _ _ _ _ _ _ _ _ _ qZ () T.j7 vn (@qa _ _ _ _ _ (@qG _ _ _ _ _ _ _ qD (pv 0) qg (fun _ _=>rfl)) qc ()) () () () ()) (@qa _ _ _ _ _ (@qx _ _ _ _ _ _ _ _ _ qZ () T.j7 vn (@qa _ _ _ _ _ (@qG _ _ _ _ _ _ _ qD (pv 1) qg (fun _ _=>rfl)) qc ()) () () () ()) qc ()) ()) () () () ())) qc ()) ()) (@qw _ _ (2) _ yf.nd rfl (Or.inl rfl) ()) (@qd _ _ _ _ _ (@qE _ _ (3) _ _ _ _ yf.nd rfl (Or.inl rfl) (@ql _ _ _ _ _ _ _ _ _ _ _ _ _ _ _ _ jI (hr.mono ()) () T.g_law_stands.m T.g_law_stands.F.kp T.g_law_stands.b .nil qH (@qa _ _ _ _ _ (pv 0) (@qa _ _ _ _ _ (pv 2) qc ()) ()) () () ()) () ()) (@qd _ _ _ _ _ (@qE _ _ (4) _ _ _ _ yf.nd rfl (Or.inl rfl) (@ql _ _ _ _ _ _ _ _ _ _ _ _ _ _ _ _ jI (hr.mono ()) () T.g_law_stands.m T.g_law_stands.F.kp T.g_law_stands.b .nil qH (@qa _ _ _ _ _ (pv 1) (@qa _ _ _ _ _ (pv 2) qc ()) ()) () () ()) () ()) (@qd _ _ _ _ _ (@qN _ _ _ _ _ _ _ _ (@qu _ _ _ _ _ _ _ _ (@Jj _ hr.units) (pv 3) (pv 4) (qC _)) (@qf _ _ _ (@qo _ _ _ _ (@qy _ _ _ _ _ (@qa _ _ _ _ _ (@yE _ _ _ _ _ _ _ _ _ _ jt (@qG _ _ _ _ _ _ _ qD (pv 0) qg (fun _ _=>rfl)) yG (@Yf _ _ _ (pv 2))) (@qa _ _ _ _ _ (pv 3) (@qa _ _ _ _ _ (pv 4) qc ()) ()) ())))) qr) (@qf _ _ _ (@qN _ _ _ _ _ _ _ _ (@j5 _ _ _ _ _ _ _ (@qu _ _ _ _ _ _ _ _ op_ne (@qG _ _ _ _ _ _ _ qD (pv 3) qg (fun _ _=>rfl)) qF (qC _)) (@Yz _ _ _ _ (@qu _ _ _ _ _ _ _ _ (@op_neA _ hr.units) (@qG _ _ _ _ _ _ _ qD (@qG _ _ _ _ _ _ _ qD (@qG _ _ _ _ _ _ _ qD (pv 0) qg (fun _ _=>rfl)) (pv 2) (fun _ _=>rfl)) qg (fun _ _=>rfl)) (@qG _ _ _ _ _ _ _ qD (@qG _ _ _ _ _ _ _ qD (@qG _ _ _ _ _ _ _ qD (pv 1) qg (fun _ _=>rfl)) (pv 2) (fun _ _=>rfl)) qg (fun _ _=>rfl)) (qC _)))).pt (@qf _ _ _ (@qo _ _ _ _ Qh)) qr))))) ()) (@qf _ _ _ (@qo _ _ _ _ Qh))),?_⟩
 have ah:Is H (.tup [.tup (r.1.map prD),r.2]) v:=iv;have ad:Is H (.tup [.tup (r'.1.map prD),r'.2]) v':=am;have ai:(3:Nat)<=sizeLine:=by decide
 refine⟨_,rfl,?_⟩;refine gi (i:=0) (d:= .tup (r.1.map prD)) ah (qm (j:=0) rfl) fun pv aA=> ?_;obtain⟨a0,vs,rfl,aB,aC⟩:=id aA;have lv:vs.length=r.1.length:=by rw [aC.length];simp
 refine⟨a0,vs,rfl,.inr (SqT.of aB),_,rfl,?_⟩;refine gi (i:=0) (d:= .tup (r'.1.map prD)) ad (qm (j:=0) rfl) fun aL ao=> ?_;obtain⟨aD,M,rfl,ap,aq⟩:=id ao;have aM:M.length=r'.1.length:=by rw [aq.length];simp
 refine⟨aD,M,rfl,.inr (SqT.of ap),?_⟩;obtain⟨m,hm,aN,aO,aP⟩:∃m:Nat,(1+(if(M.length:Int)<(vs.length:Int) then(M.length:Int) else(vs.length:Int)):Int)=(m:Int)/\m<=r.1.length+1/\m<=r'.1.length+1/\(m=r.1.length+1∨m=r'.1.length+1):=by
  by_cases c:(M.length:Int)<(vs.length:Int)
  ·exact⟨r'.1.length+1,by rw [if_pos c];omega,by omega,by omega,.inr rfl⟩
  ·exact⟨r.1.length+1,by rw [if_neg c];omega,by omega,by omega,.inl rfl⟩
 have aJ:=hR.ok.len;refine⟨_,_,rfl,_,_,rfl,rfl,(m:Int),(by show [V.int (1+_)]=_;rw [hm]),by omega,by omega,?_⟩
 let J1_:Nat->L2.St->Hp->Prop:=fun i σ H'=>∃(o2 o3 o4:Option V),σ= [some v,some v',o2,o3,o4]/\Same H H'/\i<=r.1.length/\i<=r'.1.length/\(ans r).take i<+:ans r'/\∀j,j<i->¬Dif r r' ((ans r).take j)
 refine J2 (n:=m) J1_ ⟨none,none,none,rfl,Same.refl _,uv _,uv _,by rw [List.take_zero];exact vX,fun j h=>absurd h (vN _)⟩ ?_ ?_
 ·rintro i σ H1 hi ⟨o2,o3,o4,rfl,S1,O,au,hp,aa⟩;have ei:(0:Int)+(i:Int)=(i:Int):=by omega
  rw [ei];refine⟨_,rfl,_,rfl,v,r,i,rfl,iv.mono S1.tk,O,fun ov H2 z2 i2=> ?_⟩;refine⟨_,rfl,_,rfl,v',r',i,rfl,(am.mono S1.tk).mono z2.tk,au,fun tv H3 z3 i3=> ?_⟩;have S3:=S1.trans (z2.trans z3);have ab:=i2.mono z3.tk;obtain⟨ds,aj,av,aQ⟩:=thr_n (i:=i) hR;obtain⟨aw,U,ae,aK⟩:=thr_n (i:=i) ag;have ak:((ans r).take i).length=i:=xS O;refine⟨_,rfl,_,rfl,ds,aw,by rw [<-aj];exact ab,by rw [<-U];exact i3,av,ae,by omega,_,rfl,?_⟩
  by_cases B:ds≠aw
  ·refine Qi (by rw [Xv av B];rfl) ?_
   refine⟨_,rfl,?_⟩;refine gi (i:=0) (d:= .tup (r.1.map prD)) (ah.mono S3.tk) (qm (j:=0) rfl) fun aE Y=> ?_;refine⟨_,rfl,_,rfl,?_⟩;refine sl_to (n:=i) Y (by rw [uc];exact O) fun sv H4 z4 i4=> ?_
   refine⟨_,rfl,_,rfl,ai,fun l hl=>k _ _ (S3.trans (z4.trans (qb hl _))) ?_⟩;rw [j9 (i:=i) ⟨⟨vr _ _,hp,by rw [ak,aj,U];exact fun z=>B (by injection z)⟩,O,aa⟩]
   unfold clD;rw [<-Uk] at i4;exact Is.new (ds:= [_,_,_]) ⟨_,_,rfl,i4,_,_,rfl,ab.mono z4.tk,_,_,rfl,i3.mono z4.tk,rfl⟩ hl
  have B:=Classical.not_not.mp B;refine Qf (by rw [B,YZ ae];rfl) ?_
  have Z:thr r i=thr r' i:=by rw [aj,U,B]
  have af:(∀q,q<+:ans r->q<+:ans r'->q.length<=i)->Fit r r':=fun h=>jo.mpr fun q d=>by
   have h1:=h q d.1 d.2.1;by_cases c:q.length<i
   ·exact aa q.length c (by rw [<-yg d.1];exact d)
   ·have:q.length=i:=by omega
    exact d.2.2 (by rw [this];exact Z)
  have stop:Fit r r'->Q .non H3:=fun hf=>k _ _ S3 (by rw [XC hf];rfl)
  obtain⟨z,d,ez,hz⟩:=thr_hd (i:=i) hR.ok;rw [ez] at ab;refine⟨_,rfl,?_⟩;refine gi (i:=0) (d:= .str z) ab (qm (j:=0) rfl) fun x hx=> ?_;obtain⟨rfl,_⟩:=hx;refine⟨rfl,_,rfl,?_⟩;rw [es];by_cases ca:z="asks"
  ·rw [ue ca];refine iteF ?_;have L:=hz.mp ca;have ac:i<r'.1.length:=by
    have:=congrArg isAsk Z;rw [QO hR.ok,QO ag.ok,ue L] at this;exact uk this.symm
   refine⟨_,rfl,?_⟩;refine gi (i:=0) (d:= .tup (r.1.map prD)) (ah.mono S3.tk) (qm (j:=0) rfl) fun aE Y=> ?_;refine⟨_,rfl,?_⟩;refine ix_is (i:=(i:Int)) (d:=prD r.1[i]) Y (qm (by rw [uj,u0 L];rfl)) fun xv aF=> ?_
   refine gi (i:=1) (d:=r.1[i].2) aF (qm (j:=1) rfl) fun cv aG=> ?_;refine⟨_,rfl,?_⟩;refine gi (i:=0) (d:= .tup (r'.1.map prD)) (ad.mono S3.tk) (qm (j:=0) rfl) fun aS ax=> ?_;refine⟨_,rfl,?_⟩;refine ix_is (i:=(i:Int)) (d:=prD r'.1[i]) ax (qm (by rw [uj,u0 ac];rfl)) fun aT ay=> ?_
   refine gi (i:=1) (d:=r'.1[i].2) ay (qm (j:=1) rfl) fun aU az=> ?_;have al:=ans_n (hR.an r.1[i].2 (List.mem_map.mpr ⟨_,uN L,rfl⟩));have aH:=ans_n (ag.an r'.1[i].2 (List.mem_map.mpr ⟨_,uN ac,rfl⟩));refine⟨_,_,aG,az,al.1,aH.1,by omega,_,rfl,?_⟩
   have a1:(ans r)[i]? =some r.1[i].2:=by rw [yR,u0 L];rfl
   have a2:(ans r')[i]? =some r'.1[i].2:=by rw [yR,u0 ac];rfl
   cases ce:eqN r.1[i].2 r'.1[i].2 with
   |false=>
    refine iteT (stop (af fun q h1 h2=>Nat.le_of_not_lt fun hq=> ?_));have b1:q[i]? =(ans r)[i]? :=by obtain⟨t,ht⟩:=h1;rw [<-ht,v7 hq]
    have b2:q[i]? =(ans r')[i]? :=by obtain⟨t,ht⟩:=h2;rw [<-ht,v7 hq]
    have:r.1[i].2=r'.1[i].2:=uo (a1.symm.trans (b1.symm.trans (b2.trans a2)));rw [(Ql (kD_n al.1)).mpr this] at ce;cases ce
   |true=>
    have aI:=(Ql (kD_n al.1)).mp ce;refine iteF ⟨_,_,_,rfl,S3,L,ac,?_,fun j hj=> ?_⟩
    ·rw [uE,a1];exact QH.mpr ⟨hp,by rw [ak,a2,<-aI]⟩
    ·by_cases c:j<i
     ·exact aa j c
     ·have:j=i:=by omega
      subst this;exact fun d=>d.2.2 (by rw [ak];exact Z)
  ·rw [u8 ca];have L:¬i<r.1.length:=fun q=>ca (hz.mpr q);exact iteT (stop (af fun q h1 _=>by have:=qM h1;omega))
 ·rintro σ H1 ⟨o2,o3,o4,rfl,S1,O,au,hp,aa⟩;omega
end
end K29
namespace K29
open PySem L2 PyProof.Rows
open Builtin.Int (intBits)
theorem XU {m:Str}{B:V}(h:(m==("beginning":Str))=false):([(("beginning":Str),B)]:List (Str×V)).lookup m=none:=by rw [uT,h];rfl
def PK (p:D×D):Prop:=PrOk p/\p.2∈ANS/\kD (prD p)=true/\dp (prD p)<=6
def EK (e:D):Prop:=Xd e/\kD e=true/\dp e<=7
def RunK (r:Rn):Prop:=RunA r/\KeyR r
theorem kL_mem:∀{xs:List D}{x:D},kL xs=true->x∈xs->kD x=true
 |y::xs,x,h,hx=>by
  simp only [kL,Bool.and_eq_true] at h;rcases List.mem_cons.mp hx with rfl|hx
  ·exact h.1
  ·exact kL_mem h.2 hx
theorem RunK.parts {r:Rn}(h:RunK r):(∀p∈r.1,PK p)/\EK r.2:=by
 obtain⟨L,M⟩:=h;unfold KeyR rnD at M;have k1:kL (r.1.map prD)=true/\kD r.2=true:=by have:=M.1;simpa [kD,kL] using this
 have k2:dpL (r.1.map prD)<=6/\dp r.2<=7:=by have:=M.2;simp only [dp,dpL] at this;omega
 refine⟨fun p B=>⟨L.ok.prs p B,L.an _ (List.mem_map.mpr ⟨p,B,rfl⟩),kL_mem k1.1 (List.mem_map.mpr ⟨p,B,rfl⟩),?_⟩,L.ok.en,k1.2,k2.2⟩;have:=dpL_mem (show prD p∈r.1.map prD from List.mem_map.mpr ⟨p,B,rfl⟩)
 omega
theorem RunK.mk {ps:List (D×D)}{e:D}(h:∀p∈ps,PK p)(L:EK e)(M:ps.length<=50):RunK (ps,e):=by
 refine⟨⟨⟨fun p B=>(h p B).1,L.1,M⟩,fun c O=> ?_⟩,?_⟩
 ·obtain⟨p,B,rfl⟩:=List.mem_map.mp O;exact(h p B).2.1
 ·have U:kL (ps.map prD)=true:=kL_all fun x hx=>let⟨p,B,e⟩:=List.mem_map.mp hx;e▸(h p B).2.2.1;have Y:dpL (ps.map prD)<=6:=Jw fun x hx=>let⟨p,B,e⟩:=List.mem_map.mp hx;e▸(h p B).2.2.2;have:=L.2.2;unfold KeyR rnD;refine⟨?_,by simp only [dp,dpL];omega⟩
  show(kL (ps.map prD)&&(kD e&&true))=true;rw [U,L.2.1]
  rfl
def OEN:List D:= [s2 "said" "y",s2 "fault" "silent",s2 "said" "x",s2 "fault" "lack"]
theorem oen_ok:∀e∈OEN,EK e:=by
 intro e B;simp only [OEN,uP,v6,UA] at B;rcases B with rfl|rfl|rfl|rfl
 ·exact⟨.inl ⟨.str "y",rfl,by decide+kernel⟩,by decide+kernel,by decide+kernel⟩
 ·exact⟨.inr ⟨"silent",by decide+kernel,rfl⟩,by decide+kernel,by decide+kernel⟩
 ·exact⟨.inl ⟨.str "x",rfl,by decide+kernel⟩,by decide+kernel,by decide+kernel⟩
 ·exact⟨.inr ⟨"lack",by decide+kernel,rfl⟩,by decide+kernel,by decide+kernel⟩
theorem new_pk:PK (s2 "thing" "a",.str "x")/\PK (s2 "thing" "k",.str "x")/\PK (s2 "has" "k",.str "no"):=
 ⟨⟨⟨_,_,rfl,by decide+kernel,by decide+kernel⟩,by simp [ANS],by decide+kernel,by decide+kernel⟩,⟨⟨_,_,rfl,by decide+kernel,by decide+kernel⟩,by simp [ANS],by decide+kernel,by decide+kernel⟩,⟨⟨_,_,rfl,by decide+kernel,by decide+kernel⟩,by simp [ANS],by decide+kernel,by decide+kernel⟩⟩
def sp_other:Sp:=fun vs H Q _=>∃(p:Addr) (v:V) (r:Rn),vs= [.ref p,v]/\y9 H p/\Is H (rnD r) v/\RunK r/\r.1.length<=45/\∀(r':Rn) (u:V) (H':Hp),RunK r'->Is H' (rnD r') u->y9 H' p->Kept p H H'->Q u H'
section
variable {P:Program}{w:World}{K:PySem.W.Frag}{mg:Str->Option Value}{base:Heap}{a:Ad}{g:Ga}
theorem ok_other (T:Tx K mg a):FnOk P w K mg base CX0 2 a.Jp a.JT ["pot","run"] sp_other:=by
 have Qd:=ok_take (P:=P) (w:=w) (base:=base) T;refine T.g_law_other.F.ok Qv () (fun _ _ _ _ H _ Q E hr h=> ?_)
 obtain⟨p,v,r,rfl,aj,iv,hR,aW,k⟩:=h;refine⟨_,(@qd _ _ _ _ _ (@xu _ _ _ _ _ _ (pv 1) (@jb _ _ _ _ _ _ rfl (qI (@qw _ _ (2) _ Qv.nd rfl (Or.inl rfl) ()) (qI (@qw _ _ (3) _ Qv.nd rfl (Or.inl rfl) ()) yF)) () ()) () () ()) (@qd _ _ _ _ _ (@qE _ _ (4) _ _ _ _ Qv.nd rfl (Or.inl rfl) (@ql _ _ _ _ _ _ _ _ _ _ _ _ _ _ _ _ Qd (hr.mono ()) () T.g_law_take.m T.g_law_take.F.kp T.g_law_take.b .nil qH (@qa _ _ _ _ _ (pv 0) (@qa _ _ _ _ _ (@qT _ _ _ _ _ _ _ _ yz (@qx _ _ _ _ _ _ _ _ _ qZ () T.j7 vn (@qa _ _ _ _ _ (pv 2) qc ()) () () () ()) qg) qc ()) ()) () () ()) () ()) (@qd _ _ _ _ _ (@qE _ _ (5) _ _ _ _ Qv.nd rfl (Or.inl rfl) (@ql _ _ _ _ _ _ _ _ _ _ _ _ _ _ _ _ Qd (hr.mono ()) () T.g_law_take.m T.g_law_take.F.kp T.g_law_take.b .nil qH (@qa _ _ _ _ _ (pv 0) (@qa _ _ _ _ _ qg qc ()) ()) () () ()) () ()) (@qd _ _ _ _ _ (@qE _ _ (6) _ _ _ _ Qv.nd rfl (Or.inl rfl) (@JI _ _ _ _ (@qp _ _ _ _ _ (@Qs _ _ _ _ _ (@qp _ _ _ _ _ (@qP _ _ _ _ (by decide)) (@qp _ _ _ _ _ (@qP _ _ _ _ (by decide)) qY ()) ()) ()) (@qp _ _ _ _ _ (@Qs _ _ _ _ _ (@qp _ _ _ _ _ (@qP _ _ _ _ (by decide)) (@qp _ _ _ _ _ (@qP _ _ _ _ (by decide)) qY ()) ()) ()) (@qp _ _ _ _ _ (@Qs _ _ _ _ _ (@qp _ _ _ _ _ (@qP _ _ _ _ (by decide)) (@qp _ _ _ _ _ (@qP _ _ _ _ (by decide)) qY ()) ()) ()) (@qp _ _ _ _ _ (@Qs _ _ _ _ _ (@qp _ _ _ _ _ (@qP _ _ _ _ (by decide)) (@qp _ _ _ _ _ (@qP _ _ _ _ (by decide)) qY ()) ()) ()) qY ()) ()) ()) ()) ()) () ()) (@qd _ _ _ _ _ (@qN _ _ _ _ _ _ _ _ (@qu _ _ _ _ _ _ _ _ yS (pv 5) qg (qC _)) (@qf _ _ _ (@qo _ _ _ _ (@qy _ _ _ _ _ (@qa _ _ _ _ _ (@yE _ _ _ _ _ _ _ _ _ _ jt (pv 2) yG (@Yf _ _ _ (pv 4))) (@qa _ _ _ _ _ (@qG _ _ _ _ _ _ _ Qu (pv 6) (@ql _ _ _ _ _ _ _ _ _ _ _ _ _ _ _ _ Qd (hr.mono ()) () T.g_law_take.m T.g_law_take.F.kp T.g_law_take.b .nil qH (@qa _ _ _ _ _ (pv 0) (@qa _ _ _ _ _ qg qc ()) ()) () () ()) (fun _ _=>rfl)) qc ()) ())))) qr) (@qd _ _ _ _ _ (@qN _ _ _ _ _ _ _ _ (@qu _ _ _ _ _ _ _ _ yS (pv 5) qg (qC _)) (@qf _ _ _ (@qo _ _ _ _ (@qy _ _ _ _ _ (@qa _ _ _ _ _ (@qT _ _ _ _ _ _ _ _ jg (@yE _ _ _ _ _ _ _ _ _ _ jt (pv 2) yG (@Yf _ _ _ (pv 4))) (@qy _ _ _ _ _ (@qa _ _ _ _ _ (@qy _ _ _ _ _ (@qa _ _ _ _ _ (@qy _ _ _ _ _ (@qa _ _ _ _ _ qF (@qa _ _ _ _ _ (@qG _ _ _ _ _ _ _ Qu (@JI _ _ _ _ (@qp _ _ _ _ _ (@qP _ _ _ _ (by decide)) (@qp _ _ _ _ _ (@qP _ _ _ _ (by decide)) qY ()) ()) ()) (@ql _ _ _ _ _ _ _ _ _ _ _ _ _ _ _ _ Qd (hr.mono ()) () T.g_law_take.m T.g_law_take.F.kp T.g_law_take.b .nil qH (@qa _ _ _ _ _ (pv 0) (@qa _ _ _ _ _ qg qc ()) ()) () () ()) (fun _ _=>rfl)) qc ()) ())) (@qa _ _ _ _ _ qF qc ()) ())) qc ()))) (@qa _ _ _ _ _ (@qG _ _ _ _ _ _ _ Qu (pv 6) (@ql _ _ _ _ _ _ _ _ _ _ _ _ _ _ _ _ Qd (hr.mono ()) () T.g_law_take.m T.g_law_take.F.kp T.g_law_take.b .nil qH (@qa _ _ _ _ _ (pv 0) (@qa _ _ _ _ _ qg qc ()) ()) () () ()) (fun _ _=>rfl)) qc ()) ())))) qr) (@qd _ _ _ _ _ (@qN _ _ _ _ _ _ _ _ (@qu _ _ _ _ _ _ _ _ yS (pv 5) qg (qC _)) (@qf _ _ _ (@qo _ _ _ _ (@qy _ _ _ _ _ (@qa _ _ _ _ _ (@qT _ _ _ _ _ _ _ _ jg (@qT _ _ _ _ _ _ _ _ jg (@yE _ _ _ _ _ _ _ _ _ _ jt (pv 2) yG (@Yf _ _ _ (pv 4))) (@Qs _ _ _ _ _ (@qp _ _ _ _ _ (@Qs _ _ _ _ _ (@qp _ _ _ _ _ (@Qs _ _ _ _ _ (@qp _ _ _ _ _ (@qP _ _ _ _ (by decide)) (@qp _ _ _ _ _ (@qP _ _ _ _ (by decide)) qY ()) ()) ()) (@qp _ _ _ _ _ (@qP _ _ _ _ (by decide)) qY ()) ()) ()) qY ()) ())) (@yE _ _ _ _ _ _ _ _ _ _ jt (pv 2) (@Yf _ _ _ (pv 4)) yG)) (@qa _ _ _ _ _ (pv 3) qc ()) ())))) qr) (@qf _ _ _ (@qo _ _ _ _ (@qy _ _ _ _ _ (@qa _ _ _ _ _ (pv 2) (@qa _ _ _ _ _ (@qG _ _ _ _ _ _ _ Qu (pv 6) (@ql _ _ _ _ _ _ _ _ _ _ _ _ _ _ _ _ Qd (hr.mono ()) () T.g_law_take.m T.g_law_take.F.kp T.g_law_take.b .nil qH (@qa _ _ _ _ _ (pv 0) (@qa _ _ _ _ _ qg qc ()) ()) () () ()) (fun _ _=>rfl)) qc ()) ()))))))))))),?_⟩
 have aa:(2:Nat)<=sizeLine:=by decide
 have one:(1:Nat)<=sizeLine:=by decide
 obtain⟨au,aK⟩:=hR.parts;obtain⟨a0,aX,rfl,ay,av,r1,rfl,az,ev,r2,rfl,aL,aM⟩:=iv;cases(show r2= [] from aM)
 refine⟨_,rfl,a0,_,rfl,SqT.of ay,rfl,_,_,rfl,_,_,rfl,rfl,?_⟩;obtain⟨a1,aA,rfl,aB,ak⟩:=id az;have aY:aA.length=r.1.length:=by rw [ak.length];simp
 refine⟨_,rfl,_,rfl,a1,aA,rfl,.inr (SqT.of aB),_,_,rfl,rfl,p,_,rfl,aj,by omega,by omega,fun d1 H1 d0 aZ ab aC _=> ?_⟩
 obtain⟨n,rfl⟩:=uX d0;have hn:n<=r.1.length:=by omega
 refine⟨_,rfl,p,4,rfl,ab,by decide,by decide,fun d2 H2 _ _ ac aD _=> ?_⟩
 intro b6 u6 H3 z3 n6 e6 i6;have a2:u6.length=4:=by rw [i6.length];rfl
 have L:=ac.same z3;have aN:=(aj.tk ab aC).trans (ab.tk ac aD);have aE:=aN.trans z3.tk;have ag:Kept p H H3:=aC.trans (aD.trans z3.kept);have nb:b6≠p:=(ac.free n6).symm;have i6:IsL H3 OEN u6:=i6;have O:=az.mono aE;have aF:=aL.mono aE;have htk:∀q∈r.1.take n,PK q:=fun q hq=>au q (U9 hq);have a3:(r.1.take n).length<=45:=by rw [uq];omega
 clear ay ak aB;refine⟨_,rfl,rfl,_,rfl,ite2 (fun _=> ?_) (fun _=>⟨_,rfl,rfl,_,rfl,ite2 (fun _=> ?_) (fun _=>⟨_,rfl,rfl,_,rfl,ite2 (fun _=> ?_) (fun _=> ?_)⟩)⟩)⟩
 ·refine⟨_,rfl,_,rfl,_,rfl,?_⟩;refine sl_to (n:=n) O (by rw [uc];exact hn) fun x1 H4 Z i4=> ?_
  refine⟨_,rfl,_,rfl,p,4,rfl,L.same Z,by decide,by decide,fun d3 H5 ad aG B U _=> ?_⟩
  obtain⟨j,rfl⟩:=uX ad;have ah:=Z.tk.trans ((L.same Z).tk B U);obtain⟨M,Y⟩:∃M,OEN[j]? =some M:=⟨_,u0 (by have:OEN.length=4:=rfl;omega)⟩
  obtain⟨xb,ae,af⟩:=(i6.mono ah).get (i:=j) (d:=M) Y;refine⟨b6,u6,_,xb,rfl,rfl,SqL.of (U _ _ (Z _ _ e6) nb),qm ae,?_⟩;refine⟨aa,fun l hl=> ?_⟩;have z6:=qb hl (.tup [x1,xb]);refine k (r.1.take n,M) _ _ (RunK.mk htk (oen_ok M (ud Y)) (by omega)) ?_ (B.same z6) (ag.trans (Z.kept.trans (U.trans z6.kept)))
  rw [<-Uk] at i4;exact Is.new (ds:= [_,M]) ⟨_,_,rfl,i4.mono ((L.same Z).tk B U),_,_,rfl,af,rfl⟩ hl
 ·refine⟨_,rfl,_,rfl,_,rfl,?_⟩;refine sl_to (n:=n) O (by rw [uc];exact hn) fun x1 H4 Z i4=> ?_
  rw [<-Uk] at i4;intro ba ua H5 z5 na ea ia;have a4:ua.length=2:=by rw [ia.length];rfl
  have B:=(L.same Z).same z5;refine⟨_,rfl,p,2,rfl,B,by decide,by decide,fun d3 H6 ad aG al ai _=> ?_⟩
  obtain⟨j,rfl⟩:=uX ad;have aO:ba≠p:=((L.same Z).free na).symm;obtain⟨zn,aP,aQ⟩:∃zn,(([.str "a",.str "k"]:List D))[j]? =some (.str zn)/\PK (s2 "thing" zn,.str "x"):=by
   rcases(show j=0∨j=1 by omega) with rfl|rfl
   ·exact⟨"a",rfl,new_pk.1⟩
   ·exact⟨"k",rfl,new_pk.2.1⟩
  have am:=B.tk al ai;obtain⟨xa,aS,aT⟩:=(ia.mono am).get (i:=j) (d:= .str zn) aP;refine⟨ba,ua,_,xa,rfl,rfl,SqL.of (ai _ _ ea aO),qm aS,?_⟩;refine⟨aa,fun l1 h1=>⟨aa,fun l2 h2=>⟨one,fun l3 h3=> ?_⟩⟩⟩;have v1:=qb h1 (.tup [.str "thing",xa]);have v2:=qb h2 (.tup [.ref l1,.str "x"]);have v3:=qb h3 (.tup [.ref l2]);have j1:Is (upd H6 l1 (.tup [.str "thing",xa])) (s2 "thing" zn) (.ref l1):=Is.new (ds:= [.str "thing",.str zn]) ⟨_,_,rfl,isS (by decide),_,_,rfl,aT,rfl⟩ h1
  have j2:Is (upd (upd H6 l1 (.tup [.str "thing",xa])) l2 (.tup [.ref l1,.str "x"])) (prD (s2 "thing" zn,.str "x")) (.ref l2):=Is.new (ds:= [s2 "thing" zn,.str "x"]) ⟨_,_,rfl,j1,_,_,rfl,isS (by decide),rfl⟩ h2
  have j3:Is (upd (upd (upd H6 l1 (.tup [.str "thing",xa])) l2 (.tup [.ref l1,.str "x"])) l3 (.tup [.ref l2])) (.tup [prD (s2 "thing" zn,.str "x")]) (.ref l3):=Is.new (ds:= [prD (s2 "thing" zn,.str "x")]) ⟨_,_,rfl,j2,rfl⟩ h3;have v:=v1.trans (v2.trans v3);generalize upd (upd (upd H6 l1 (.tup [.str "thing",xa])) l2 (.tup [.ref l1,.str "x"])) l3 (.tup [.ref l2])=H7 at v3 j3 v⊢;have ao:Tk H4 H7:=z5.tk.trans (am.trans v.tk);refine jl (i4.mono ao) j3 (yb (by rw [uc];show _+1<=1000;omega)) fun x2 H8 z8 i8=> ?_
  have ap:=(al.same v).same z8;refine⟨_,rfl,_,rfl,p,4,rfl,ap,by decide,by decide,fun d4 H9 aU a5 aq aw _=> ?_⟩
  obtain⟨j4,rfl⟩:=uX aU;have aH:=ap.tk aq aw;obtain⟨M,Y⟩:∃M,OEN[j4]? =some M:=⟨_,u0 (by have:OEN.length=4:=rfl;omega)⟩
  obtain⟨xb,ae,af⟩:=((((i6.mono Z.tk).mono ao).mono z8.tk).mono aH).get (i:=j4) (d:=M) Y;refine⟨b6,u6,_,xb,rfl,rfl,SqL.of (aw _ _ (z8 _ _ (v _ _ (ai _ _ (z5 _ _ (Z _ _ e6)) nb))) nb),qm ae,?_⟩;refine⟨aa,fun l hl=> ?_⟩;have aI:=qb hl (.tup [x2,xb]);refine k (r.1.take n++ [(s2 "thing" zn,.str "x")],M) _ _ (RunK.mk (fun q hq=> ?_) (oen_ok M (ud Y)) (by rw [ui,uR];omega)) ?_ (aq.same aI) (ag.trans (Z.kept.trans (z5.kept.trans (ai.trans (v.kept.trans (z8.kept.trans (aw.trans aI.kept)))))))
  ·rcases List.mem_append.mp hq with h|h
   ·exact htk q h
   ·rw [List.mem_singleton.mp h];exact aQ
  ·unfold rnD;rw [uw];exact Is.new (ds:= [_,M]) ⟨_,_,rfl,i8.mono aH,_,_,rfl,af,rfl⟩ hl
 ·refine⟨_,rfl,_,rfl,_,rfl,?_⟩;refine sl_to (n:=n) O (by rw [uc];exact hn) fun x1 H4 Z i4=> ?_
  intro x2 H5 z5 i5;refine jl (i4.mono z5.tk) i5 (yb (by rw [uq,uc];show _+1<=1000;omega)) fun x3 H6 z6 aV=> ?_
  have ax:=Z.trans (z5.trans z6);refine⟨_,rfl,_,rfl,_,rfl,?_⟩;refine gsl (n:=n) (O.mono ax.tk) (by rw [uc];exact hn) fun x4 H7 z7 i7=> ?_
  refine jl (aV.mono z7.tk) i7 (yb (by simp only [ui,uq,Ul,uc,uR];omega)) fun x5 H8 z8 i8=> ?_
  refine⟨_,rfl,aa,fun l hl=> ?_⟩;have z9:=qb hl (.tup [x5,ev]);have aJ:=ax.trans (z7.trans (z8.trans z9));refine k (r.1.take n++ [(s2 "has" "k",.str "no")]++r.1.drop n,r.2) _ _ (RunK.mk (fun q hq=> ?_) aK (by simp only [ui,uq,Ul,uR];omega)) ?_ (L.same aJ) (ag.trans aJ.kept)
  ·rcases List.mem_append.mp hq with h|h
   ·rcases List.mem_append.mp h with h|h
    ·exact htk q h
    ·rw [List.mem_singleton.mp h];exact new_pk.2.2
   ·exact au q (List.mem_of_mem_drop h)
  ·have em:(r.1.take n++ [(s2 "has" "k",D.str "no")]++r.1.drop n).map prD=(r.1.map prD).take n++ [prD (s2 "has" "k",.str "no")]++(r.1.map prD).drop n:=by
    rw [uw,uw,Uk,List.map_drop];rfl
   unfold rnD;rw [em];exact Is.new (ds:= [_,r.2]) ⟨_,_,rfl,i8,_,_,rfl,aF.mono (ax.trans (z7.trans z8)).tk,rfl⟩ hl
 ·refine⟨_,rfl,_,rfl,_,rfl,p,4,rfl,L,by decide,by decide,fun d3 H5 ad aG B U _=> ?_⟩
  obtain⟨j,rfl⟩:=uX ad;have ah:=L.tk B U;obtain⟨M,Y⟩:∃M,OEN[j]? =some M:=⟨_,u0 (by have:OEN.length=4:=rfl;omega)⟩
  obtain⟨xb,ae,af⟩:=(i6.mono ah).get (i:=j) (d:=M) Y;refine⟨b6,u6,_,xb,rfl,rfl,SqL.of (U _ _ e6 nb),qm ae,?_⟩;refine⟨aa,fun l hl=> ?_⟩;have z6:=qb hl (.tup [.ref a1,xb]);exact k (r.1,M) _ _ (RunK.mk au (oen_ok M (ud Y)) (by omega)) (Is.new (ds:= [_,M]) ⟨_,_,rfl,O.mono ah,_,_,rfl,af,rfl⟩ hl) (B.same z6) (ag.trans (U.trans z6.kept))
def sp_law (K:PySem.W.Frag):Sp:=fun vs H Q _=>∃(q:Addr) (ns:List Int),vs= [.ref q]/\SqL K H q (ns.map V.int)/\ns.length<=63/\∀H',Q (.bl true) H'
theorem nL_all:∀{xs:List D},(∀x∈xs,nD x=true)->nL xs=true
 | [],_=>rfl
 |x::r,h=>by simp only [nL,h x u5,nL_all fun y B=>h y (u4 _ B),Bool.and_self]
theorem cut_take {vs:List V}{n:Nat}:cutV vs none (some (n:Int))=vs.take n:=by
 unfold cutV;rw [HT.sIx_none,HT.sIx_nat,List.drop_zero,Nat.sub_zero];rcases Nat.le_total n vs.length with h|h
 ·rw [Nat.min_eq_left h]
 ·rw [Nat.min_eq_right h,uL (Nat.le_refl _),uL h]
theorem gD_n (gs:List Int):nD (gD gs)=true/\dp (gD gs)<=2:=by
 refine⟨?_,?_⟩
 ·show nL (gs.map D.int)=true;refine nL_all fun x hx=> ?_;obtain⟨i,_,rfl⟩:=List.mem_map.mp hx
  rfl
 ·show dp (.tup (gs.map D.int))<=2;have:=Jw (n:=1) (xs:=gs.map D.int) fun x hx=>by
   obtain⟨i,_,rfl⟩:=List.mem_map.mp hx;simp [dp]
  simp only [dp];omega
theorem ways_n {ws:List Rn}{gf:Rn->List Int}(h:∀r∈ws,KeyR r):nL (ws.map (wayD gf))=true/\dpL (ws.map (wayD gf))<=20:=by
 refine⟨nL_all fun x hx=> ?_,Jw fun x hx=> ?_⟩
 ·obtain⟨r,B,rfl⟩:=List.mem_map.mp hx;have:=kD_n (h r B).1;simp [wayD,nD,nL,this,(gD_n (gf r)).1]
 ·obtain⟨r,B,rfl⟩:=List.mem_map.mp hx;have:=(h r B).2;have:=(gD_n (gf r)).2;simp only [wayD,dp,dpL];omega
theorem srt_ex:∀{rs:List Rn},(∀r∈rs,RunA r)->Fits rs->∃ws,Srt ws/\(∀x,x∈ws↔x∈rs)/\ws.length<=rs.length
 | [],_,_=>⟨[],List.Pairwise.nil,fun _=>Iff.rfl,Nat.le_refl _⟩
 |r::rs,hR,F=>by
  obtain⟨ws,L,hm,M⟩:=srt_ex (rs:=rs) (fun x hx=>hR x (u4 _ hx)) fun x hx y B=>F x (u4 _ hx) y (u4 _ B);by_cases c:r∈rs
  ·refine⟨ws,L,fun x=>(hm x).trans ⟨u4 _,fun h=> ?_⟩,by rw [ul];omega⟩
   rcases List.mem_cons.mp h with h|h
   ·rw [h];exact c
   ·exact h
  ·have ne:∀x∈ws,rk x≠rk r:=fun x hx=>rk_ne (hR x (u4 _ ((hm x).mp hx))) (hR r u5) (F x (u4 _ ((hm x).mp hx)) r u5) fun z=>c (by rw [<-z];exact(hm x).mp hx)
   refine⟨ws.filter (fun x=>decide (rk x<rk r))++r::ws.filter (fun x=>decide (rk r<rk x)),?_,fun x=> ?_,?_⟩
   ·refine List.pairwise_append.mpr ⟨L.filter _,List.pairwise_cons.mpr ⟨fun y B=>uk (List.mem_filter.mp B).2,L.filter _⟩,fun x hx y B=> ?_⟩;have h1:=uk (List.mem_filter.mp hx).2;rcases List.mem_cons.mp B with rfl|B
    ·exact h1
    ·exact List.lt_trans h1 (uk (List.mem_filter.mp B).2)
   ·rw [vO,uP,uP,UT,UT,uF,uF];constructor
    ·rintro(h|h|h)
     ·exact .inr ((hm x).mp h.1)
     ·exact .inl h
     ·exact .inr ((hm x).mp h.1)
    ·rintro(h|h)
     ·exact .inr (.inl h)
     ·have hx:=(hm x).mpr h;rcases tri (rk x) (rk r) with q|q|q
      ·exact .inl ⟨hx,q⟩
      ·exact absurd q (ne x hx)
      ·exact .inr (.inr ⟨hx,q⟩)
   ·have hd:∀l:List Rn,(l.filter fun x=>decide (rk x<rk r)).length+(l.filter fun x=>decide (rk r<rk x)).length<=l.length:=by
     intro l
     induction l with
     |nil=>simp
     |cons y l O=>
      rw [List.filter_cons,List.filter_cons];by_cases h1:rk y<rk r
      ·have h2:¬rk r<rk y:=fun z=>List.lt_asymm h1 z;simp only [ue h1,u8 h2,if_true,ul];simp;omega
      ·simp only [u8 h1];by_cases h2:rk r<rk y
       ·simp only [ue h2,if_true,ul];simp;omega
       ·simp only [u8 h2];simp;omega
    have:=hd ws;rw [ui,ul,ul];omega
theorem WayR.short {salt:Int}{r:Rn}(h:WayR salt r):r.1.length<=45:=by
 obtain⟨path,lk,h1,_⟩:=h;have:=h1.len;have:=lim_le salt;omega
theorem WayR.rk {salt:Int}{r:Rn}(h:WayR salt r):RunK r:=⟨h.run,h.key⟩
noncomputable def clB (r:Rn) (d:D):D:= .bl (!yT (clsF (rnR d) r))
theorem clB_any {rs:List Rn}{r:Rn}:((rs.map fun x=> !yT (clsF x r)).any id=true)↔∃x∈rs,¬Fit r x:=by
 rw [UJ,List.any_eq_true];constructor
 ·rintro⟨x,hx,h⟩;refine⟨x,hx,fun f=> ?_⟩;have h':(!yT (clsF x r))=true:=h;rw [clsF_non.mpr f.symm] at h';cases h'
 ·rintro⟨x,hx,h⟩;refine⟨x,hx,?_⟩;show(!yT (clsF x r))=true;cases e:yT (clsF x r) with
  |false=>rfl
  |true=>exact absurd (clsF_non.mp e).symm h
theorem fz_tk {w:World}{H:Hp}{d:Addr}{kvs:List (D×V×V)}{o:Obj}(h:H d=some (dExt w d kvs)):Tk H (upd H d (fzD w d o kvs)):=
 ⟨fun b xs e=>by rw [qi (fun z=>by rw [z,h] at e;cases e)];exact e,fun b xs e=>⟨xs,by rw [qi (fun z=>by rw [z,h] at e;cases e)];exact e⟩,fun b xs e=>⟨xs,by rw [qi (fun z=>by rw [z,h] at e;cases e)];exact e⟩⟩
theorem fz_same {w:World}{H H':Hp}{d:Addr}{kvs:List (D×V×V)}{o:Obj}(h:H d=some (dExt w d kvs))(s:Same (upd H d (fzD w d o kvs)) H'):Same H (upd H' d (dExt w d kvs)):=fun b B e=>by
 by_cases c:b=d
 ·subst c;rw [h] at e;cases e;exact qe
 ·rw [qi c];exact s b B (by rw [qi c];exact e)
structure Fil (w:World)(CA CN:Addr)(H:Hp)(t kd:Addr)(rs:List Rn)(S:Addr->Prop)(gf:Rn->List Int):Prop where
 tr:Qy w CA CN gf H t rs S
 kp:yZ w H kd rs gf
 rk:∀r∈rs,RunK r
 ft:Fits rs
 ln:rs.length<=45
theorem Fil.same {w:World}{CA CN:Addr}{H H':Hp}{t kd:Addr}{rs:List Rn}{S:Addr->Prop}{gf:Rn->List Int}(h:Fil w CA CN H t kd rs S gf)(s:Same H H'):Fil w CA CN H' t kd rs S gf:=⟨h.tr.same s,h.kp.keep s.tk fun o e=>s _ _ e,h.rk,h.ft,h.ln⟩
def sp_fits (w:World):Sp:=fun vs H Q _=>∃(kd:Addr) (rs:List Rn) (gf:Rn->List Int) (r:Rn) (v:V),vs= [.ref kd,v]/\yZ w H kd rs gf/\(∀r∈rs,RunK r)/\RunK r/\Is H (rnD r) v/\rs.length<=100/\∀(H':Hp) (b:Bool),Same H H'->(b=true↔∀y∈rs,Fit r y)->Q (.bl b) H'
def sp_filled (w:World)(CA CN:Addr):Sp:=fun vs H Q _=>∃(salt:Int) (l:Addr) (cs:List Int) (b:Bool),vs= [.int salt,.ref l,.bl b]/\H l=some (.lst (cs.map V.int))/\cs.length<=45/\
 ∀(t kd tp:Addr) (rs:List Rn) (S:Addr->Prop) (gf:Rn->List Int) (H':Hp),Same H H'->H' tp=some (.tup [.ref t,.ref kd])->Fil w CA CN H' t kd rs S gf->H kd=none->Q (.ref tp) H'
theorem gv3:GvL [3]:=List.Sublist.refl _
theorem ok_fits (T:Tx K mg a):FnOk P w K mg base CX0 4 a.xH a.xD ["kept","run"] (sp_fits w):=by
 have YI:=ok_lclash (P:=P) (w:=w) (base:=base) T;refine T.g_law_fits.F.ok sc_law_fits () (fun _ _ _ _ H _ Q E hr h=> ?_)
 obtain⟨kd,rs,gf,M,x,rfl,aa,hW,ab,U,hl,k⟩:=h;refine⟨_,(@qf _ _ _ (@qo _ _ _ _ (@pe_not _ _ _ _ (@qx _ _ _ _ _ _ _ _ _ (@call_anyL _ rfl) () T.z_any L2.boot_any (@qa _ _ _ _ _ (@pe_frz _ (w) _ _ (@JJ _ _ (["one","run"]) (1) ([1]) _ _ _ _ _ _ _ _ _ (lcsN (qj Ym) ["kept","run"]) rfl (@pi_dicD _ (w) _ _ _ rfl (pv 0)) (fun _ _ _ _ _ _=>(@qw _ _ (0) _ (show List.Nodup (["one","run"]:List Str) by decide+kernel) rfl (Or.inl rfl) ())) (fun _ _ _ _ _ _=> @yl _) (fun _ _ _ _ _ _=>(@QR _ _ _ _ _ _ _ _ je (@ql _ _ _ _ _ _ _ _ _ _ _ _ _ _ _ _ YI (hr.mono ()) () T.g_law_clash.m T.g_law_clash.F.kp T.g_law_clash.b .nil qH (@qa _ _ _ _ _ (pv 0) (@qa _ _ _ _ _ (pv 1) qc ()) ()) () () ()) Qh (qC _))) ())) qc ()) () () () ())))),?_⟩
 obtain⟨kvs,L,B,ae⟩:=id aa;have af:kvs.length=rs.length:=by have:=congrArg List.length B;simpa using this
 refine .inr ⟨kd,kvs,L.here,fun ob=>⟨_,rfl,kd,ob,kvs,rfl,qe,fun A0 O=> ?_⟩⟩;have Y:Tk H (upd H kd (fzD w kd ob kvs)):=fz_tk L.here;refine lc_dicD (clB M) (tl:= [some x]) qe (fun p hp=>(L.ks p hp).1.mono Y) (yb (by omega)) O (fun e y H3 R he s3 Z R'=> ?_) fun H3 ys s3 l3 Z=> ?_
 ·rw [B] at he;obtain⟨r1,ac,rfl⟩:=List.mem_map.mp he;refine⟨_,rfl,_,rfl,y,x,r1,M,rfl,Z,(U.mono Y).mono s3.tk,(hW r1 ac).1,ab.1,fun u H4 z4 i4=>⟨rfl,R' _ H4 z4 ?_⟩⟩;show V.bl (!decide (u= .non))= .bl (!yT (clsF (rnR (rnD r1)) M));rw [JQ,non_is i4]
 have ey:ys=(rs.map fun y=> !yT (clsF y M)).map V.bl:=by
  refine IsL.bls (H:=H3) ?_;rw [B,uB] at Z;rw [uB];have:(rs.map (clB M∘rnD))=rs.map (D.bl∘fun y=> !yT (clsF y M)):=Uj fun y _=>by
   show D.bl _=D.bl _;rw [JQ]
  rw [this] at Z;exact Z
 have nA:A0≠kd:=fun z=>by rw [z,qe] at O;cases O
 have ad:=fz_same L.here s3;refine⟨s3 _ _ qe,A0,_,rfl,SqL.of (by rw [qi nA,l3,ey]),?_⟩
 refine⟨_,rfl,k _ _ ad ?_⟩;cases hb:(rs.map fun y=> !yT (clsF y M)).any id with
 |true=>
  obtain⟨y,hy,hn⟩:=clB_any.mp hb;exact⟨(fun z=>by cases z),fun z=>absurd (z y hy) hn⟩
 |false=>
  refine⟨fun _ y hy=>uY fun n=> ?_,fun _=>rfl⟩;rw [clB_any.mpr ⟨y,hy,n⟩] at hb;cases hb
theorem ok_filled (T:Tx K mg a)(C:Fx K w mg g a):FnOk P w K mg base CX0 8 a.jS a.jF ["salt","cells","other"] (sp_filled w a.qk a.qB):=by
 have Y:=ok_pot (P:=P) (w:=w) (base:=base) T;have Qd:=ok_take (P:=P) (w:=w) (base:=base) T;have Z:=ok_way (P:=P) (w:=w) (base:=base) T;have B:=ok_other (P:=P) (w:=w) (base:=base) T;have L:=ok_fits (P:=P) (w:=w) (base:=base) T;have aa:=ok_lput (P:=P) (w:=w) (base:=base) T;have QG:=ok_tinit (P:=P) (w:=w) (base:=base) T;have x6:=ok_put (P:=P) (w:=w) (base:=base) T C;refine T.g_law_filled.F.ok Qb () (fun _ _ _ _ H _ Q E hr h=> ?_)
 obtain⟨salt,l,cs,bo,rfl,hl,bb,k⟩:=h;refine⟨_,(@qd _ _ _ _ _ (@qE _ _ (3) _ _ _ _ Qb.nd rfl (Or.inl rfl) (@X3 _ _ _ _ _ _ _ _ _ _ _ _ _ _ T.xc QG (hr.mono ()) () T.JG T.g_AskTree_init.b .nil qH ()) () ()) (@qd _ _ _ _ _ (@qE _ _ (4) _ _ _ _ Qb.nd rfl (Or.inl rfl) (@pe_newD _ _ (w) rfl) () ()) (@qd _ _ _ _ _ (@Q4 _ _ _ _ _ _ _ _ uO rfl (@yI _ _ _ _ (pv 1)) (@qw _ _ (5) _ Qb.nd rfl (Or.inl rfl) ()) (@qd _ _ _ _ _ (@qE _ _ (6) _ _ _ _ Qb.nd rfl (Or.inl rfl) (@ql _ _ _ _ _ _ _ _ _ _ _ _ _ _ _ _ Y (hr.mono ()) () T.g_law_pot.m T.g_law_pot.F.kp T.g_law_pot.b .nil qH (@qa _ _ _ _ _ (pv 5) (@qa _ _ _ _ _ qg qc ()) ()) () () ()) () ()) (@qd _ _ _ _ _ (@qE _ _ (7) _ _ _ _ Qb.nd rfl (Or.inl rfl) (@ql _ _ _ _ _ _ _ _ _ _ _ _ _ _ _ _ Z (hr.mono ()) () T.g_law_way.m T.g_law_way.F.kp T.g_law_way.b .nil qH (@qa _ _ _ _ _ (pv 0) (@qa _ _ _ _ _ (pv 6) qc ()) ()) () () ()) () ()) (@qd _ _ _ _ _ (@qN _ _ _ _ _ _ _ _ (@pw_and _ _ _ _ _ _ _ (@Qx _ _ _ (pv 2) ()) (@pw_and1 _ _ _ _ (@qu _ _ _ _ _ _ _ _ yS (@ql _ _ _ _ _ _ _ _ _ _ _ _ _ _ _ _ Qd (hr.mono ()) () T.g_law_take.m T.g_law_take.F.kp T.g_law_take.b .nil qH (@qa _ _ _ _ _ (pv 6) (@qa _ _ _ _ _ qg qc ()) ()) () () ()) qg (qC _)))).pt (@qf _ _ _ (@qE _ _ (7) _ _ _ _ Qb.nd rfl (Or.inl rfl) (@ql _ _ _ _ _ _ _ _ _ _ _ _ _ _ _ _ B (hr.mono ()) () T.g_law_other.m T.g_law_other.F.kp T.g_law_other.b .nil qH (@qa _ _ _ _ _ (pv 6) (@qa _ _ _ _ _ (pv 7) qc ()) ()) () () ()) () ())) qr) (@qf _ _ _ (@qN _ _ _ _ _ _ _ _ (@Qx _ _ _ (@ql _ _ _ _ _ _ _ _ _ _ _ _ _ _ _ _ L (hr.mono ()) () T.g_law_fits.m T.g_law_fits.F.kp T.g_law_fits.b .nil qH (@qa _ _ _ _ _ (pv 4) (@qa _ _ _ _ _ (pv 7) qc ()) ()) () () ()) ()) (@qd _ _ _ _ _ (@QY _ _ _ _ (@pe_meth _ _ _ _ _ _ _ _ _ _ _ _ _ _ _ _ _ _ _ _ (pv 3) T.qO T.g_AskTree_put.h x6 (hr.mono ()) T.g_AskTree_put.b .nil passF (@qa _ _ _ _ _ (pv 7) (@qa _ _ _ _ _ (@Qs _ _ _ _ _ (@qp _ _ _ _ _ pe_dInt qY ()) ()) qc ()) ()) () () ()) ()) (@qf _ _ _ (@QY _ _ _ _ (@ql _ _ _ _ _ _ _ _ _ _ _ _ _ _ _ _ aa (hr.mono ()) () T.g_law_put.m T.g_law_put.F.kp T.g_law_put.b .nil qH (@qa _ _ _ _ _ (pv 4) (@qa _ _ _ _ _ (pv 7) (@qa _ _ _ _ _ (@Qs _ _ _ _ _ (@qp _ _ _ _ _ pe_dInt qY ()) ()) qc ()) ()) ()) () () ()) ()))) qr))))) ()) (@qf _ _ _ (@qo _ _ _ _ (@qy _ _ _ _ _ (@qa _ _ _ _ _ (pv 3) (@qa _ _ _ _ _ (pv 4) qc ()) ()))))))),?_⟩
 intro t dt ht aO bc;refine⟨t,dt,rfl,qe,fun fs aP=>⟨rfl,?_⟩⟩;subst aP;have z1:Same H (upd (upd (upd H dt (.own t)) t (.ins a.qk dt [])) t (.ins a.qk dt [("beginning",.non)])):=fun b o h=>by rw [qi (qh h ht),qi (qh h ht),qi (qh h aO)];exact h
 have e1:(upd (upd (upd H dt (.own t)) t (.ins a.qk dt [])) t (.ins a.qk dt [("beginning",.non)])) t=some (.ins a.qk dt [("beginning",.non)]):=qe;generalize upd (upd (upd H dt (.own t)) t (.ins a.qk dt [])) t (.ins a.qk dt [("beginning",.non)])=H1 at z1 e1⊢;intro kd aw;have y2:=qb aw (dExt w kd []);have K7:yZ w (upd H1 kd (dExt w kd [])) kd [] (fun _=> []):=⟨[],⟨qe,fun p hp=>absurd hp (by simp),List.nodup_nil⟩,rfl,by simp⟩
 have aQ:kd≠t:=(qh e1 aw).symm;have ag:=QF z1 aw;have e7:=y2 _ _ e1;have z7:=z1.trans y2;generalize upd H1 kd (dExt w kd [])=H7 at y2 K7 e7 z7⊢;have aC:=z7 _ _ hl;have aS:l≠t:=fun z=>by rw [z,ht] at hl;cases hl
 have aT:l≠kd:=fun z=>by rw [z,ag] at hl;cases hl
 have aU:∃o,H7 kd=some o:=let⟨_,g7,_⟩:=K7;⟨_,g7.here⟩;have T7:Qy w a.qk a.qB (fun _=> []) H7 t [] (fun b=>b=t):=⟨dt,.non,e7,rfl,.inl ⟨rfl,rfl⟩⟩;refine⟨_,rfl,l,rfl,⟨_,SqL.of aC⟩,?_⟩
 let J1_:Nat->L2.St->Hp->Prop:=fun i σ H'=>∃(rs:List Rn) (S:Addr->Prop) (gf:Rn->List Int) (o5 o6 o7:Option V),σ= [some (.int salt),some (.ref l),some (.bl bo),some (.ref t),some (.ref kd),o5,o6,o7]/\Qy w a.qk a.qB gf H' t rs S/\yZ w H' kd rs gf/\(∀r∈rs,RunK r)/\Fits rs/\rs.length<=i/\(∀r∈rs,GvL (gf r))/\(∀r,r∉rs->gf r= [])/\(∀b o,H7 b=some o->b≠t->b≠kd->H' b=some o)/\∀b,S b->b=t∨H7 b=none
 refine Yl (K:=K) (a:=l) (xs:=cs.map V.int) J1_ ⟨[],_,_,none,none,none,rfl,T7,K7,by simp,fun _ h=>absurd h (by simp),uv _,by simp,fun _ _=>rfl,fun b o h _ _=>h,fun b h=> .inl h⟩ (fun i σ H' _ ⟨_,_,_,_,_,_,_,_,_,_,_,_,_,_,h,_⟩=>SqL.of (h _ _ aC aS aT)) ?_ ?_
 rotate_left
 ·rintro σ H8 ⟨rs,S,gf,o5,o6,o7,rfl,T8,K8,hW,hF,aD,ah,ai,aj,ak⟩;rw [uc] at aD;refine⟨_,rfl,_,rfl,(by show 2<=sizeLine;decide),fun tp aV=> ?_⟩
  have z9:=qb aV (.tup [.ref t,.ref kd]);refine k t kd tp rs S gf _ (fun b o h=>z9 _ _ (aj b o (z7 _ _ h) (fun z=>by rw [z,ht] at h;cases h) (fun z=>by rw [z,ag] at h;cases h))) qe (Fil.same ⟨T8,K8,hW,hF,by omega⟩ z9) ag
 rintro i x σ H8 hx ⟨rs,S0,gf,o5,o6,o7,rfl,T8,K8,hW,hF,aD,ah,ai,aj,ak⟩;rw [uj] at hx;obtain⟨c,hc,rfl⟩:=Option.map_eq_some_iff.mp hx;have ba:i<45:=by have:=(List.getElem?_eq_some_iff.mp hc).1;omega
 refine⟨_,rfl,c,9,rfl,by decide,by decide,fun p H9 hp z9 aE=> ?_⟩
 refine⟨_,rfl,_,rfl,salt,p,rfl,aE,fun r v ax hw iv ab aF=> ?_⟩;have aG:Same H8 ax:=Kept.same aF z9 hp;show tSeq _ _ _ _ ax;refine xN fun N9 h9=>h9 _ _ ?_;clear h9;refine xN fun N hN=> ?_;have key:∀(rx:Rn) (vx:V) (ac:Hp),RunK rx->Is ac (rnD rx) vx->Same H8 ac->N [some (.int salt),some (.ref l),some (.bl bo),some (.ref t),some (.ref kd),some (.int c),some (.ref p),some vx] ac:=by
  intro rx vx ac ap ix af;refine hN _ _ ?_;have aW:=K8.keep af.tk fun o h=>af _ _ h;refine⟨_,rfl,_,rfl,kd,rs,gf,rx,vx,rfl,aW,hW,ap,ix,by omega,fun aH b ay hb=>⟨_,rfl,?_⟩⟩
  have M:=af.trans ay;have aI:=T8.same M;have aX:=K8.keep M.tk fun o h=>M _ _ h;have aJ:¬S0 kd:=fun h=>by
   rcases ak kd h with h|h
   ·exact aQ h
   ·obtain⟨o,ho⟩:=aU;rw [ho] at h;cases h
  cases b with
  |false=>exact iteF ⟨rs,S0,gf,_,_,_,rfl,aI,aX,hW,hF,by omega,ah,ai,fun b o h1 h2 h3=>M _ _ (aj b o h1 h2 h3),ak⟩
  |true=>
   have al:=hb.mp rfl;refine iteT ?_;obtain⟨aY,bv,aK,_⟩:=id aI;refine⟨_,rfl,t,aY,_,rfl,aK,XU (by decide+kernel),_,rfl,fun g1 bd az aZ=> ?_⟩
   have O:=M.trans az;refine .inl ⟨t,vx,g1,rs,rx,S0,gf,[3],rfl,⟨T8.same O,(ix.mono ay.tk).mono az.tk,aZ,ap.1,fun r' h=>(hW r' h).1,hF,gv3,ah,ai rx⟩,fun _ a0 aA a1 ae aq=> ?_,fun⟨r',h1,h2⟩=>absurd (al r' h1) h2⟩;have aL:=K8.keep O.tk fun o h=>O _ _ h;have a2:yZ w a0 kd rs gf:=aL.keep ae.tk fun o h=>ae.kept _ _ h aJ;have au:¬aA kd:=fun h=>by
    rcases aq kd h with h|h
    ·exact aJ h
    ·obtain⟨kvs,g8,_⟩:=aL;rw [g8.here] at h;cases h
   refine⟨_,rfl,_,rfl,fun g2 be am a3=> ?_⟩;refine⟨kd,vx,g2,rs,rx,gf,[3],rfl,a2.keep am.tk (fun o h=>am _ _ h),(((ix.mono ay.tk).mono az.tk).mono ae.tk).mono am.tk,a3,ap.2,by omega,gv3,ah,ai rx,fun a4 rs' a5 U bf av aM=> ?_⟩
   have a6:Qy w a.qk a.qB (updG gf rx [3]) a4 t rs' aA:=((a1.same am).move aM fun b o hb ho=>av b o ho fun z=>au (by rw [<-z];exact hb)).mem fun x=>by rw [U x,uP]
   refine⟨rs',aA,_,_,_,_,rfl,a6,a5,fun r' h=> ?_,fun r1 h1 r2 h2=> ?_,by omega,fun r' h=> ?_,fun r' h=> ?_,fun b o h1 h2 h3=> ?_,fun b hb=> ?_⟩
   ·rcases(U r').mp h with h|h
    ·rw [h];exact ap
    ·exact hW r' h
   ·rcases(U r1).mp h1 with e1|h1
    ·rcases(U r2).mp h2 with e2|h2
     ·rw [e1,e2];exact fun p _ _=>rfl
     ·rw [e1];exact al r2 h2
    ·rcases(U r2).mp h2 with e2|h2
     ·rw [e2];exact(al r1 h1).symm
     ·exact hF r1 h1 r2 h2
   ·by_cases c:r'=rx
    ·rw [c,J1];exact mg2_ok _ _
    ·rw [JZ c];exact ah r' (((U r').mp h).resolve_left c)
   ·have c:r'≠rx:=fun z=>h ((U r').mpr (.inl z));rw [JZ c];exact ai r' fun z=>h ((U r').mpr (.inr z))
   ·refine av _ _ (am _ _ (ae.kept _ _ (O _ _ (aj b o h1 h2 h3)) fun hb=> ?_)) h3;rcases ak b hb with h|h
    ·exact h2 h
    ·rw [h1] at h;cases h
   ·rcases aq b hb with h|h
    ·exact ak b h
    ·cases e:H7 b with
     |none=>exact .inr rfl
     |some o=>
      by_cases c1:b=t
      ·exact .inl c1
      ·by_cases c2:b=kd
       ·rw [c2] at hb;exact absurd hb au
       ·rw [O _ _ (aj b o e c1 c2)] at h;cases h
 clear hN;have aB:=key r v ax hw.rk iv aG;refine⟨_,rfl,_,rfl,?_⟩;cases bo with
 |false=>exact iteF aB
 |true=>
  refine iteT ?_;refine⟨_,rfl,p,3,rfl,ab,by decide,by decide,fun d ac _ _ ad ao _=>⟨rfl,_,rfl,?_⟩⟩
  have af:Same H8 ac:=Kept.same ao aG hp;refine ite2 (fun _=> ?_) (fun _=> ?_)
  ·refine⟨_,rfl,_,rfl,p,v,r,rfl,ad,iv.mono (ab.tk ad ao),hw.rk,hw.short,fun r2 v2 aH a7 a8 a9 aN=> ?_⟩;exact key r2 v2 aH a7 a8 (Kept.same aN af hp)
  ·exact key r v ac hw.rk (iv.mono (ab.tk ad ao)) af
end
end K29
namespace K29
open PySem L2 PyProof.Rows
def FcIs (rs rs':List Rn)(d:D):Prop:=(d= .non/\∀r∈rs,∀r'∈rs',Fit r r')∨∃r∈rs,∃r'∈rs',∃p,Dif r r' p/\xB rs rs' p/\d=clD r r' p.length
theorem rkp_inj:∀{p q:List D},(∀c∈p,c∈ANS)->(∀c∈q,c∈ANS)->rkp p=rkp q->p=q
 | [],[],_,_,_=>rfl
 | [],_::_,_,_,h=>by simp [rkp] at h
 |_::_,[],_,_,h=>by simp [rkp] at h
 |x::p,y::q,h1,h2,h=>by
  unfold rkp at h;rw [um,um] at h;injection h with L a2
  rw [jq (h1 x u5) (h2 y u5) L,rkp_inj (fun c B=>h1 c (u4 _ B)) (fun c B=>h2 c (u4 _ B)) a2]
theorem pre_an {r:Rn}{p:List D}(h:RunA r)(B:p<+:ans r):∀c∈p,c∈ANS:=fun c L=>h.an c (B.subset L)
theorem clD_eq {rs rs':List Rn}(F:Fits rs)(M:Fits rs'){r L r' B:Rn}{p:List D}(h1:r∈rs)(h2:L∈rs)(O:r'∈rs')(h4:B∈rs')(p1:p<+:ans r)(p2:p<+:ans L)(U:p<+:ans r')(Y:p<+:ans B):clD r r' p.length=clD L B p.length:=by
 unfold clD;rw [(take_eq (fun q a b _=>F r h1 L h2 q a b) (qM p1) (by rw [<-yg p1];exact p2)).2,F r h1 L h2 p p1 p2,M r' O B h4 p U Y]
theorem FcIs.uniq {rs rs':List Rn}(F:Fits rs)(F':Fits rs')(hR:∀r∈rs,RunA r){d d':D}(h:FcIs rs rs' d)(h':FcIs rs rs' d'):d=d':=by
 rcases h with⟨e,B⟩|⟨r,h1,r',h2,p,hd,hc,e⟩
 ·rcases h' with⟨L,_⟩|⟨r,h1,r',h2,p,hd,_,_⟩
  ·rw [e,L]
  ·exact absurd hd (jo.mp (B r h1 r' h2) p)
 ·rcases h' with⟨_,B⟩|⟨Z,M,O,h4,q,hd2,U,L⟩
  ·exact absurd hd (jo.mp (B r h1 r' h2) p)
  ·have a:=hc Z M O h4 q hd2;have b:=U r h1 r' h2 p hd;have Y:p=q:=by
    refine rkp_inj (pre_an (hR r h1) hd.1) (pre_an (hR Z M) hd2.1) ?_;rcases a with a|a
    ·rcases b with b|b<;>omega
    ·rcases b with b|b
     ·omega
     ·rcases tri (rkp p) (rkp q) with z|z|z
      ·exact absurd z b.2
      ·exact z
      ·exact absurd z a.2
   subst Y;rw [e,L];exact clD_eq F F' h1 M h2 h4 hd.1 hd2.1 hd.2.1 hd2.2.1
theorem xB.symm {rs rs':List Rn}{p:List D}(h:xB rs rs' p):xB rs' rs p:=fun M h2 B L q d=>h B L M h2 q d.symm
theorem FcIs.swap {rs rs':List Rn}{r r':Rn}{p:List D}(h1:r∈rs)(h2:r'∈rs')(hd:Dif r r' p)(B:xB rs rs' p):FcIs rs' rs (.tup [.tup ((r.1.take p.length).map prD),thr r' p.length,thr r p.length]):=by
 refine .inr ⟨r',h2,r,h1,p,hd.symm,B.symm,?_⟩;unfold clD;rw [(take_eq (fun q a b l=>uY fun n=> ?_) (qM hd.1) (by rw [<-yg hd.1];exact hd.2.1)).2]
 rcases B r h1 r' h2 q ⟨a,b,n⟩ with z|z<;>omega
def nC:D->Int
 | .tup (.tup ps::_)=>ps.length
 |_=>0
def kfC:D->List D
 | .tup (.tup ps::_)=>ps.map okP
 |_=> []
theorem nC_cl {r r':Rn}{i:Nat}(h:i<=r.1.length):nC (clD r r' i)=(i:Int):=by
 show(((r.1.take i).map prD).length:Int)=i;rw [uc,uq];omega
theorem kfC_cl {r r':Rn}{i:Nat}:kfC (clD r r' i)=((ans r).take i).map loD:=by
 show((r.1.take i).map prD).map okP=_;unfold ans;rw [<-Uk,uB,uB]
 rfl
def ClIn (rs rs':List Rn)(d:D):Prop:=∃r∈rs,∃r'∈rs',∃i,Lea r r' i/\d=clD r r' i
theorem ltT_cl {r r' s s':Rn}{i j:Nat}(L:RunA r)(M:RunA s)(hi:i<=r.1.length)(O:j<=s.1.length):ltT nC kfC (clD r r' i) (clD s s' j)=true↔i<j∨(i=j/\rkp ((ans r).take i)<rkp ((ans s).take j)):=by
 unfold ltT;rw [nC_cl hi,nC_cl O,kfC_cl,kfC_cl,ltL_lo (fun c B=>L.an c (U9 B)) (fun c B=>M.an c (U9 B)),V6,Bool.or_eq_true,Bool.and_eq_true,uF,uF,uF];unfold rkp;constructor
 ·rintro(h|⟨h1,h2⟩)
  ·exact .inl (by omega)
  ·exact .inr ⟨by omega,h2⟩
 ·rintro(h|⟨h1,h2⟩)
  ·exact .inl (by omega)
  ·exact .inr ⟨by omega,h2⟩
theorem min_cl {rs rs':List Rn}{ds:List D}(hR:∀r∈rs,RunA r)(h:∀d∈ds,ClIn rs rs' d):MinOk nC kfC ds:=by
 have an:∀{r:Rn}{i:Nat},RunA r->∀c∈(ans r).take i,c∈ANS:=fun h c Z=>h.an c (U9 Z);refine⟨fun d hd=> ?_,fun x hx y M=> ?_,fun x hx=> ?_,fun x hx y M z hz h1 h2=> ?_⟩
 ·obtain⟨r,B,r',_,i,_,rfl⟩:=h d hd;rw [kfC_cl];have:=lo_pu (an (i:=i) (hR r B));exact⟨this.1,by omega⟩
 ·obtain⟨r,B,r',_,i,_,rfl⟩:=h x hx;obtain⟨s,L,s',_,j,_,rfl⟩:=h y M;rw [kfC_cl,kfC_cl];have e:=ltL_lo (an (i:=i) (hR r B)) (an (i:=j) (hR s L));refine⟨_,e,fun q=> ?_⟩;have O:=(lo_pu (an (i:=i) (hR r B))).1;have q2:((ans r).take i).map loD=((ans s).take j).map loD:=by
   have:=(XS (d:= .tup (((ans r).take i).map loD)) (e:= .tup (((ans s).take j).map loD)) (by simpa [puD] using O)).mp (by simpa [eqD] using q)
   injection this
  have e2:=ltL_lo (an (i:=i) (hR r B)) (an (i:=i) (hR r B));rw [<-q2,e2] at e;have:=uo e;rw [<-this];exact u8 (Up _)
 ·obtain⟨r,B,r',_,i,hi,rfl⟩:=h x hx;cases e:ltT nC kfC (clD r r' i) (clD r r' i) with
  |false=>rfl
  |true=>
   rcases(ltT_cl (hR r B) (hR r B) hi.2.1 hi.2.1).mp e with z|z
   ·omega
   ·exact absurd z.2 (Up _)
 ·obtain⟨r,B,r',_,i,hi,rfl⟩:=h x hx;obtain⟨s,L,s',_,j,U,rfl⟩:=h y M;obtain⟨t,Y,t',_,k,hk,rfl⟩:=h z hz;rw [ltT_cl (hR r B) (hR s L) hi.2.1 U.2.1] at h1;rw [ltT_cl (hR s L) (hR t Y) U.2.1 hk.2.1] at h2;rw [ltT_cl (hR r B) (hR t Y) hi.2.1 hk.2.1];rcases h1 with h1|h1
  ·rcases h2 with h2|h2
   ·exact .inl (by omega)
   ·exact .inl (by omega)
  ·rcases h2 with h2|h2
   ·exact .inl (by omega)
   ·exact .inr ⟨by omega,List.lt_trans h1.2 h2.2⟩
theorem first_of {rs rs':List Rn}{ds:List D}{d:D}(hR:∀r∈rs,RunA r)(h:∀d∈ds,ClIn rs rs' d)(B:∀r∈rs,∀r'∈rs',∀i,Lea r r' i->clD r r' i∈ds)(hd:d∈ds)(hm:∀e∈ds,ltT nC kfC e d=false):FcIs rs rs' d:=by
 obtain⟨r,Z,r',M,i,hi,rfl⟩:=h d hd;have L:((ans r).take i).length=i:=xS hi.2.1;refine .inr ⟨r,Z,r',M,(ans r).take i,hi.1,fun O h2 U Y q dq=> ?_,by rw [L]⟩
 obtain⟨j,hj,aa⟩:=lea_of dq;have:=hm _ (B O h2 U Y j hj);have nl:¬(j<i∨(j=i/\rkp ((ans O).take j)<rkp ((ans r).take i))):=fun z=>by
  rw [(ltT_cl (hR O h2) (hR r Z) hj.2.1 hi.2.1).mpr z] at this;cases this
 rw [L];by_cases c:i<q.length
 ·exact .inl c
 ·have e1:¬j<i:=fun z=>nl (.inl z);refine .inr ⟨by omega,fun z=>nl (.inr ⟨by omega,?_⟩)⟩
  have:j=q.length:=by omega
  rw [this,<-yg dq.1];exact z
def sp_fclash (w:World)(CA CN:Addr):Sp:=fun vs H Q _=>∃(t t':Addr) (rs rs':List Rn) (S S':Addr->Prop) (gf gf':Rn->List Int),vs= [.ref t,.ref t']/\Qy w CA CN gf H t rs S/\Qy w CA CN gf' H t' rs' S'/\(∀r∈rs,RunA r)/\(∀r∈rs',RunA r)/\Fits rs/\Fits rs'/\rs.length<=100/\∀(u:V) (H':Hp) (d:D),Same H H'->Is H' d u->FcIs rs rs' d->Q u H'
def sp_corder:Sp:=fun vs H Q _=>∃(v:V) (r r':Rn) (i:Nat),vs= [v]/\RunA r/\Is H (clD r r' i) v/\∀(u:V) (H':Hp),Same H H'->KeyT nC kfC H' (clD r r' i) u->Q u H'
def sp_first:Sp:=fun vs H Q _=>∃(l:Addr) (us:List V) (ds:List D) (rs rs':List Rn),vs= [.ref l]/\H l=some (.lst us)/\IsL H ds us/\(∀r∈rs,RunA r)/\(∀d∈ds,ClIn rs rs' d)/\(∀r∈rs,∀r'∈rs',∀i,Lea r r' i->clD r r' i∈ds)/\∀(u:V) (H':Hp) (d:D),Same H H'->Is H' d u->FcIs rs rs' d->Q u H'
section
variable {P:Program}{w:World}{K:PySem.W.Frag}{mg:Str->Option Value}{base:Heap}{a:Ad}{g:Ga}
theorem ok_fclash (T:Tx K mg a):FnOk P w K mg base CX0 13 a.YY a.Y6 ["tree","other"] (sp_fclash w a.qk a.qB):=by
 have YK:=ok_fcb (P:=P) (w:=w) (base:=base) T;refine T.g_first_clash.F.ok xt () (fun _ _ _ _ H _ Q E O h=> ?_)
 obtain⟨t,t',rs,rs',S,S',gf,gf',rfl,⟨dt,bv,ht,ag,hT⟩,⟨U,Y,Z,af,ab⟩,hR,ac,hF,ad,hl,k⟩:=h;refine⟨_,(@qd _ _ _ _ _ (@qN _ _ _ _ _ _ _ _ (@j5 _ _ _ _ _ _ _ (@qu _ _ _ _ _ _ _ _ jY (@qS _ _ _ _ _ (pv 0) rfl) Qh (qC _)) (@Yz _ _ _ _ (@qu _ _ _ _ _ _ _ _ jY (@qS _ _ _ _ _ (pv 1) rfl) Qh (qC _)))).pt (@qf _ _ _ (@qo _ _ _ _ Qh)) qr) (@qf _ _ _ (@qo _ _ _ _ (@ql _ _ _ _ _ _ _ _ _ _ _ _ _ _ _ _ YK (O.mono ()) () T.g_first_clash_below.m T.g_first_clash_below.F.kp T.g_first_clash_below.b .nil qH (@qa _ _ _ _ _ (@qS _ _ _ _ _ (pv 0) rfl) (@qa _ _ _ _ _ (@qS _ _ _ _ _ (pv 1) rfl) qc ()) ()) () () ())))),?_⟩
 have L:∀u:V,([(("beginning":Str),u)]:List (Str×V)).lookup ("beginning":Str)=some u:=fun u=>by simp [List.lookup]
 have B:rs= []∨rs'= []->Q .non H:=fun z=>k .non H .non (Same.refl _) rfl (.inl ⟨rfl,fun r O r' M=>by
  rcases z with z|z
  ·rw [z] at O;cases O
  ·rw [z] at M;cases M⟩)
 refine⟨_,rfl,t,_,dt,_,bv,rfl,ht,T.qO,T.qt,L bv,rfl,_,rfl,?_⟩;rcases hT with⟨e,rfl⟩|⟨ae,n,e,rfl,N⟩
 ·exact Qi (by decide+kernel) (iteT (B (.inl e)))
 ·refine Qf (u8 (by simp)) ?_
  refine⟨_,rfl,t',_,U,_,Y,rfl,Z,T.qO,T.qt,L Y,rfl,_,rfl,?_⟩;rcases ab with⟨e',rfl⟩|⟨aa,n',e',rfl,N'⟩
  ·exact Qi (by decide+kernel) (B (.inr e'))
  ·refine Qf (u8 (by simp)) ?_
   refine⟨_,rfl,t,_,dt,_,_,rfl,ht,T.qO,T.qt,L _,_,rfl,t',_,U,_,_,rfl,Z,T.qO,T.qt,L _,?_⟩;refine⟨rs,rs',S,S',n,e,n',e',gf,gf',rfl,N,N',ae,aa,hR,ac,hF,ad,hl,fun hf H1 z1=>k .non H1 .non z1 rfl (.inl ⟨rfl,hf⟩),fun r O r' M p u H1 hd hc z1 i1=>k u H1 _ z1 i1 (.inr ⟨r,O,r',M,p,hd,hc,rfl⟩)⟩
theorem ok_corder (T:Tx K mg a):FnOk P w K mg base CX0 10 a.yr a.yt ["clash"] sp_corder:=by
 have YH:=ok_order (P:=P) (w:=w) (base:=base) T;refine T.g_law_clash_order.F.ok Y7 () (fun _ _ _ _ H vs Q E hr h=> ?_)
 obtain⟨v,r,r',i,rfl,hR,iv,k⟩:=h;refine⟨_,(@qf _ _ _ (@qo _ _ _ _ (@qy _ _ _ _ _ (@qa _ _ _ _ _ (@qx _ _ _ _ _ _ _ _ _ qZ () T.j7 vn (@qa _ _ _ _ _ (@qG _ _ _ _ _ _ _ qD (pv 0) qg (fun _ _=>rfl)) qc ()) () () () ()) (@qa _ _ _ _ _ (@ql _ _ _ _ _ _ _ _ _ _ _ _ _ _ _ _ YH (hr.mono ()) () T.g_law_order.m T.g_law_order.F.kp T.g_law_order.b .nil qH (@qa _ _ _ _ _ (pv 0) qc ()) () () ()) qc ()) ())))),?_⟩
 have B:Is H (.tup [.tup ((r.1.take i).map prD),thr r i,thr r' i]) v:=iv;have L:(r.1.take i).length<=50:=by have:=hR.ok.len;rw [uq];omega
 refine⟨_,rfl,?_⟩;refine gi (i:=0) B (qm (j:=0) rfl) fun pv M=> ?_;obtain⟨a0,vs,rfl,O,U⟩:=id M;have lv:vs.length=(r.1.take i).length:=by rw [U.length];simp
 refine⟨a0,vs,rfl,.inr (SqT.of O),?_⟩;refine⟨_,rfl,v,r.1.take i,[thr r i,thr r' i],rfl,fun p hp=>hR.an _ (List.mem_map.mpr ⟨p,U9 hp,rfl⟩),L,B,fun u H1 l us z1 eu Y Z=> ?_⟩;refine⟨(by show 2<=sizeLine;decide),fun tp aa=> ?_⟩
 have z2:=qb aa (.tup [.int (vs.length:Int),u]);refine k _ _ (z1.trans z2) ⟨tp,l,us,rfl,?_,z2 _ _ Y,?_⟩
 ·rw [qe,eu,lv];show some (HO.tup [V.int ((r.1.take i).length:Int),.ref l])=some (HO.tup [.int (((r.1.take i).map prD).length:Int),.ref l]);rw [uc]
 ·show IsL _ (((r.1.take i).map prD).map okP) us;have:=Z.mono z2.tk;rw [uB] at this⊢;exact this
theorem ok_first (T:Tx K mg a):FnOk P w K mg base CX0 13 a.JF a.JM ["partings"] sp_first:=by
 have jw:=ok_corder (P:=P) (w:=w) (base:=base) T;refine T.g_law_first.F.ok sc_law_first () (fun _ _ _ _ H _ Q E L h=> ?_)
 obtain⟨l,us,ds,rs,rs',rfl,hl,U,hR,M,B,k⟩:=h;refine⟨_,(@qd _ _ _ _ _ (@qN _ _ _ _ _ _ _ _ (@qu _ _ _ _ _ _ _ _ (@op_eqE _ L.units0) (pv 0) (@Qq _ _ _ _ qc) (qC _)) (@qf _ _ _ (@qo _ _ _ _ Qh)) qr) (@qf _ _ _ (@qo _ _ _ _ (@pe_minK _ _ _ _ _ _ _ _ _ _ _ _ _ rfl jw (L.mono ()) L.units T.g_law_clash_order.b () T.z_min () T.g_law_clash_order.m (pv 0) () ())))),?_⟩
 refine⟨_,rfl,(by show 0<=sizeLine;decide),fun q1 Y=> ?_⟩
 have O:=qb Y (.lst []);have e1:(upd H q1 (.lst [])) q1=some (.lst []):=qe;generalize upd H q1 (.lst [])=H1 at O e1⊢;refine⟨l,q1,us,rfl,rfl,SqL.of (O _ _ hl),SqL.of e1,_,rfl,?_⟩;by_cases c:us= []
 ·refine Qi (ue (by simpa using c)) ?_
  have ed:ds= []:=by
   have:=U.length;rw [c] at this;exact List.length_eq_zero_iff.mp this.symm
  refine k .non _ .non O rfl (.inl ⟨rfl,fun r L r' Z=>uY fun n=> ?_⟩);obtain⟨i,hi⟩:=JP n;have:=B r L r' Z i hi;rw [ed] at this;cases this
 ·refine Qf (u8 (by simpa using c)) ?_
  have nd:ds≠ []:=fun z=>c (by
   have:=U.length;rw [z] at this;exact List.length_eq_zero_iff.mp this)
  refine⟨_,rfl,l,ds,us,nC,kfC,rfl,O _ _ hl,U.mono O.tk,nd,min_cl hR M,fun d hd v H2 z2 iv Q' q'=> ?_,fun i d v H2 hd hv z2 hm=> ?_⟩
  ·obtain⟨r,L,r',_,i,_,rfl⟩:=M d hd;exact⟨v,r,r',i,rfl,hR r L,iv,fun u H3 z3 kt=>q' u H3 z3 kt⟩
  ·obtain⟨v',e2,i2⟩:=U.get hd;rw [hv] at e2;cases e2;exact k v H2 d (O.trans z2) ((i2.mono O.tk).mono z2.tk) (first_of hR M B (ud hd) hm)
end
end K29
namespace K29
open PySem L2 PyProof.Rows
open Builtin.Int (intBits)
theorem lc_lstF {K:PySem.W.Frag}{a A:Addr}{H1:Hp}{tc:TT}{te:TE}{tl:L2.St}{Q:VK}{ds:List D}{vs:List V}(f:D->Bool)(ha:H1 a=some (.lst vs))(Y:IsL H1 ds vs)(hn:ds.length<=sizeLine)(Z:H1 A=none)
  (O:∀d x H (R:Bool->Hp->Prop),d∈ds->Same H1 H->Is H d x->R (f d) H->tc (some x::tl) H R)
  (U:∀x H (R:VK),R x H->te (some x::tl) H R)
  (hQ:∀H' ys,Same H1 H'->H' A=some (.lst ys)->IsL H' (ds.filter f) ys->Q (.ref A) H'):lcGo A (Itl K a) (JB 0) tc te (none::tl) H1 Q:=by
 have ln:=Y.length;refine⟨ds.length,fun i σ ys H=>(∃w,σ=w::tl)/\IsL H ((ds.take i).filter f) ys/\Same H1 H,hn,⟨⟨none,rfl⟩,rfl,qb Z _⟩,?_,?_⟩
 ·rintro i σ ys H hi ⟨⟨w,rfl⟩,M,L⟩ B aa;refine⟨⟨vs,vs[i]'(by omega),SqL.of (L _ _ ha),u0 _⟩,fun x H' y=> ?_⟩
  obtain⟨rfl,y⟩:=y;obtain⟨v,e1,e2⟩:=Y.get (u0 hi);have e3:=y vs (SqL.of (L _ _ ha));rw [e1] at e3;cases e3;have et:ds.take (i+1)=ds.take i++ [ds[i]]:=by rw [uE,u0 hi];rfl
  have i2:=e2.mono L.tk;dsimp only [JB,List.set];refine O ds[i] x H' _ (uN hi) L i2 ?_;cases hp:f ds[i] with
  |true=>
   refine iteT (U x H' _ ⟨B,⟨_,rfl⟩,?_,fun b o e=>by rw [qi (qh e Z)];exact L b o e⟩)
   have t:Tk H' (upd H' A (.lst (ys++ [x]))):=Tk.updL B;rw [et,List.filter_append];have: [ds[i]].filter f= [ds[i]]:=by simp [hp]
   rw [this];exact(M.mono t).append (IsL.one (i2.mono t))
  |false=>
   refine iteF ⟨B,⟨_,rfl⟩,?_,L⟩;rw [et,List.filter_append];have: [ds[i]].filter f= []:=by simp [hp]
   rw [this,vL];exact M
 ·rintro σ ys H ⟨_,M,L⟩ B;rw [vq] at M;exact⟨⟨vs,SqL.of (L _ _ ha),by omega⟩,hQ H ys L B M⟩
theorem for_dicD {w:World}{d:Addr}{o:Obj}{kvs:List (D×V×V)}{g:TG}{tb:TS}{D:Ends}{σ:L2.St}{H:Hp}(L:Nat->L2.St->Hp->Prop)(Y:L 0 σ H)(Z:∀i σ H,i<=kvs.length->L i σ H->H d=some (fzD w d o kvs))
  (hs:∀i p σ H,kvs[i]? =some p->L i σ H->g p.2.1 σ H fun M H2=>tb {D with nx:=L (i+1),ct:=L (i+1),bk:=D.nx} M H2) (hd:∀σ H,L kvs.length σ H->D.nx σ H):
  ∃W:Nat->Nat->L2.St->Hp->Prop,(∃m,W 0 m σ H)/\∀i m σ H,W i m σ H->
   ((ItD w d o kvs).stop i H/\D.nx σ H)∨((ItD w d o kvs).go i H/\∃N:L2.St->Hp->Prop,(∀O H',N O H'->∃U,U<m/\W (i+1) U O H')/\∀x H',(ItD w d o kvs).yld i H x H'->g x σ H' fun M H2=>tb {D with nx:=N,ct:=N,bk:=D.nx} M H2):=by
 refine⟨fun i m σ H=>m=kvs.length-i/\i<=kvs.length/\L i σ H,⟨kvs.length,by simp,uv _,Y⟩,?_⟩
 rintro i m σ H ⟨rfl,hi,p⟩;have q:=Z i σ H hi p;by_cases B:i<kvs.length
 ·refine .inr ⟨⟨q,B⟩,L (i+1),fun O H' p'=>⟨kvs.length-(i+1),by omega,rfl,B,p'⟩,fun x H' y=> ?_⟩
  obtain⟨rfl,y⟩:=y;rw [uj,u0 B] at y;cases y;exact hs i _ σ _ (u0 B) p
 ·have e:i=kvs.length:=by omega
  subst e;exact .inl ⟨⟨q,Nat.le_refl _⟩,hd σ H p⟩
theorem Ja:∀{ys:List V}{ns:List Int},(∀y∈ys,y∈ns.map V.int)->∃B:List Int,ys=B.map V.int
 | [],_,_=>⟨[],rfl⟩
 |y::ys,ns,h=>by
  obtain⟨n,_,rfl⟩:=List.mem_map.mp (h y u5);obtain⟨B,rfl⟩:=Ja (ys:=ys) (ns:=ns) fun z hz=>h z (u4 _ hz);exact⟨n::B,rfl⟩
theorem FcIs.k {rs rs':List Rn}{d:D}(h:FcIs rs rs' d)(hR:∀r∈rs,RunK r)(B:∀r∈rs',RunK r):kD d=true/\dp d<=60:=by
 rcases h with⟨rfl,_⟩|⟨r,h1,r',h2,p,_,_,rfl⟩
 ·exact⟨rfl,by simp [dp]⟩
 ·exact clD_k (hR r h1).1 (hR r h1).2 (B r' h2).1 (B r' h2).2
theorem eqN_self {d:D}(h:kD d=true):eqN d d=true:=(Ql (kD_n h)).mpr rfl
noncomputable def allC (rs rs':List Rn):List D:=rs.flatMap fun r=>rs'.map fun r'=>clsF r r'
theorem allC_in {rs rs':List Rn}:(∀d∈(allC rs rs').filter (fun d=> !yT d),ClIn rs rs' d)/\∀r∈rs,∀r'∈rs',∀i,Lea r r' i->clD r r' i∈(allC rs rs').filter (fun d=> !yT d):=by
 refine⟨fun d hd=> ?_,fun r L r' B i hi=> ?_⟩
 ·obtain⟨h1,h2⟩:=List.mem_filter.mp hd;obtain⟨r,L,M⟩:=List.mem_flatMap.mp h1;obtain⟨r',B,rfl⟩:=List.mem_map.mp M;by_cases c:Fit r r'
  ·rw [XC c] at h2;cases h2
  ·obtain⟨i,hi⟩:=JP c;exact⟨r,L,r',B,i,hi,j9 hi⟩
 ·refine List.mem_filter.mpr ⟨List.mem_flatMap.mpr ⟨r,L,List.mem_map.mpr ⟨r',B,j9 hi⟩⟩,rfl⟩
structure Two (w:World)(CA CN:Addr)(H:Hp)(q ta ka tb kb:Addr)(rsa rsb:List Rn):Prop where
 at':H q=some (.tup [.ref ta,.ref ka,.ref tb,.ref kb])
 fa:∃S gf,Fil w CA CN H ta ka rsa S gf
 fb:∃S gf,Fil w CA CN H tb kb rsb S gf
 eq:ka=kb->rsa=rsb
theorem Two.same {w:World}{CA CN:Addr}{H H':Hp}{q ta ka tb kb:Addr}{rsa rsb:List Rn}(h:Two w CA CN H q ta ka tb kb rsa rsb)(s:Same H H'):Two w CA CN H' q ta ka tb kb rsa rsb:=⟨s _ _ h.at',let⟨S,gf,f⟩:=h.fa;⟨S,gf,f.same s⟩,let⟨S,gf,f⟩:=h.fb;⟨S,gf,f.same s⟩,h.eq⟩
section
variable {P:Program}{w:World}{K:PySem.W.Frag}{mg:Str->Option Value}{base:Heap}{a:Ad}{g:Ga}
theorem ok_law (T:Tx K mg a)(C:Fx K w mg g a):FnOk P w K mg base CX0 16 a.f_law a.d_law ["script"] (sp_law K):=by
 have y8:=ok_filled (P:=P) (w:=w) (base:=base) T C;have YI:=ok_lclash (P:=P) (w:=w) (base:=base) T;have ai:=ok_first (P:=P) (w:=w) (base:=base) T;have QT:=ok_fclash (P:=P) (w:=w) (base:=base) T;have JV:=ok_due (P:=P) (w:=w) (base:=base) T;have QG:=ok_tinit (P:=P) (w:=w) (base:=base) T;have ym:=ok_ways (P:=P) (w:=w) (base:=base) T;refine T.g_law.F.ok QK () (fun _ _ _ _ H _ Q E hr h=> ?_)
 obtain⟨q,ns,rfl,hS,dn,k⟩:=h;refine⟨_,(@qd _ _ _ _ _ (@qE _ _ (1) _ _ _ _ QK.nd rfl (Or.inl rfl) (@qx _ _ _ _ _ _ _ _ _ (@call_sumL _ rfl) () T.z_sum boot_sum (@qa _ _ _ _ _ (pv 0) qc ()) () () () ()) () ()) (@qd _ _ _ _ _ (@qE _ _ (2) _ _ _ _ QK.nd rfl (Or.inl rfl) (@yE _ _ _ _ _ _ _ _ _ _ sl_list (pv 0) yG (@Yf _ _ _ qg)) () ()) (@qd _ _ _ _ _ (@xu _ _ _ _ _ _ (@ql _ _ _ _ _ _ _ _ _ _ _ _ _ _ _ _ y8 (hr.mono ()) () T.g_law_filled.m T.g_law_filled.F.kp T.g_law_filled.b .nil qH (@qa _ _ _ _ _ (pv 1) (@qa _ _ _ _ _ (@Xm _ _ _ _ _ _ _ _ _ _ (by decide) (pv 2) yG ()) (@qa _ _ _ _ _ QI qc ()) ()) ()) () () ()) (@jb _ _ _ _ _ _ rfl (qI (@qw _ _ (3) _ QK.nd rfl (Or.inl rfl) ()) (qI (@qw _ _ (4) _ QK.nd rfl (Or.inl rfl) ()) yF)) () ()) () () ()) (@qd _ _ _ _ _ (@xu _ _ _ _ _ _ (@ql _ _ _ _ _ _ _ _ _ _ _ _ _ _ _ _ y8 (hr.mono ()) () T.g_law_filled.m T.g_law_filled.F.kp T.g_law_filled.b .nil qH (@qa _ _ _ _ _ (pv 1) (@qa _ _ _ _ _ (@qT _ _ _ _ _ _ _ _ op_cat (@JJ _ _ (["cell"]) (1) ([]) _ _ _ _ _ _ _ _ _ (lcs0) rfl (@yI _ _ _ _ (@Xm _ _ _ _ _ _ _ _ _ _ (by decide) (pv 2) yG ())) (fun _ _ _ _ _ _=>(@qw _ _ (0) _ (show List.Nodup (["cell"]:List Str) by decide+kernel) rfl (Or.inl rfl) ())) (fun _ _ _ _ _ _=> @yl _) (fun _ _ _ _ _ _=>(@qT _ _ _ _ _ _ _ _ Xe (pv 0) qg)) ()) (@Xm _ _ _ _ _ _ _ _ _ _ (by decide) (pv 2) (@Yf _ _ _ qg) ())) (@qa _ _ _ _ _ QI qc ()) ()) ()) () () ()) (@jb _ _ _ _ _ _ rfl (qI (@qw _ _ (5) _ QK.nd rfl (Or.inl rfl) ()) (qI (@qw _ _ (6) _ QK.nd rfl (Or.inl rfl) ()) yF)) () ()) () () ()) (@qd _ _ _ _ _ (@xu _ _ _ _ _ _ (@ql _ _ _ _ _ _ _ _ _ _ _ _ _ _ _ _ y8 (hr.mono ()) () T.g_law_filled.m T.g_law_filled.F.kp T.g_law_filled.b .nil qH (@qa _ _ _ _ _ (@qT _ _ _ _ _ _ _ _ yz (pv 1) qg) (@qa _ _ _ _ _ (pv 2) (@qa _ _ _ _ _ QI qc ()) ()) ()) () () ()) (@jb _ _ _ _ _ _ rfl (qI (@qw _ _ (7) _ QK.nd rfl (Or.inl rfl) ()) (qI (@qw _ _ (8) _ QK.nd rfl (Or.inl rfl) ()) yF)) () ()) () () ()) (@qd _ _ _ _ _ (@Q4 _ _ _ _ _ _ _ _ uO rfl (@yI _ _ _ _ (@Qq _ _ _ _ (@qa _ _ _ _ _ (@qy _ _ _ _ _ (@qa _ _ _ _ _ (pv 3) (@qa _ _ _ _ _ (pv 4) (@qa _ _ _ _ _ (pv 5) (@qa _ _ _ _ _ (pv 6) qc ()) ()) ()) ())) (@qa _ _ _ _ _ (@qy _ _ _ _ _ (@qa _ _ _ _ _ (pv 5) (@qa _ _ _ _ _ (pv 6) (@qa _ _ _ _ _ (pv 7) (@qa _ _ _ _ _ (pv 8) qc ()) ()) ()) ())) (@qa _ _ _ _ _ (@qy _ _ _ _ _ (@qa _ _ _ _ _ (pv 3) (@qa _ _ _ _ _ (pv 4) (@qa _ _ _ _ _ (pv 3) (@qa _ _ _ _ _ (pv 4) qc ()) ()) ()) ())) qc ()) ()) ()))) (@jb _ _ _ _ _ _ rfl (qI (@qw _ _ (9) _ QK.nd rfl (Or.inl rfl) ()) (qI (@qw _ _ (10) _ QK.nd rfl (Or.inl rfl) ()) (qI (@qw _ _ (11) _ QK.nd rfl (Or.inl rfl) ()) (qI (@qw _ _ (12) _ QK.nd rfl (Or.inl rfl) ()) yF)))) () ()) (@qd _ _ _ _ _ (@qE _ _ (13) _ _ _ _ QK.nd rfl (Or.inl rfl) (@Qq _ _ _ _ qc) () ()) (@qd _ _ _ _ _ (@ps_frz _ (w) _ _ (@Q4 _ _ _ _ _ _ _ _ uO rfl (@pi_dicD _ (w) _ _ _ rfl (pv 10)) (@qw _ _ (14) _ QK.nd rfl (Or.inr rfl) ()) (@qf _ _ _ (@QY _ _ _ _ (@pe_bm _ _ _ _ _ _ _ _ _ _ _ _ uQ PySem.F.slot_list_extend PySem.F.type_list_extend mt_extend (pv 13) (@qa _ _ _ _ _ (@pe_frz _ (w) _ _ (@JJ _ _ (["held","run"]) (1) ([14]) _ _ _ _ _ _ _ _ _ (lcsN (qj s_law) ["script","salt","cells","one","first","two","second","three","third","tree","kept","other","ways","found","run","due"]) rfl (@pi_dicD _ (w) _ _ _ rfl (pv 12)) (fun _ _ _ _ _ _=>(@qw _ _ (0) _ (show List.Nodup (["held","run"]:List Str) by decide+kernel) rfl (Or.inl rfl) ())) (fun _ _ _ _ _ _=> @yl _) (fun _ _ _ _ _ _=>(@ql _ _ _ _ _ _ _ _ _ _ _ _ _ _ _ _ YI (hr.mono ()) () T.g_law_clash.m T.g_law_clash.F.kp T.g_law_clash.b .nil qH (@qa _ _ _ _ _ (pv 1) (@qa _ _ _ _ _ (pv 0) qc ()) ()) () () ())) ())) qc ()) () () () () ()) ())) ())) (@qd _ _ _ _ _ (@qE _ _ (15) _ _ _ _ QK.nd rfl (Or.inl rfl) (@ql _ _ _ _ _ _ _ _ _ _ _ _ _ _ _ _ ai (hr.mono ()) () T.g_law_first.m T.g_law_first.F.kp T.g_law_first.b .nil qH (@qa _ _ _ _ _ (@JJ _ _ (["clash"]) (1) ([]) _ _ _ _ _ _ _ _ _ (lcs0) rfl (@yI _ _ _ _ (pv 13)) (fun _ _ _ _ _ _=>(@qw _ _ (0) _ (show List.Nodup (["clash"]:List Str) by decide+kernel) rfl (Or.inl rfl) ())) (fun _ _ _ _ _ _=>(@pif_one _ _ _ (@qu _ _ _ _ _ _ _ _ je (pv 0) Qh (qC _)))) (fun _ _ _ _ _ _=>(pv 0)) ()) qc ()) () () ()) () ()) (@qd _ _ _ _ _ (@qN _ _ _ _ _ _ _ _ (@qu _ _ _ _ _ _ _ _ (@op_neA _ hr.units) (@ql _ _ _ _ _ _ _ _ _ _ _ _ _ _ _ _ QT (hr.mono ()) () T.g_first_clash.m T.g_first_clash.F.kp T.g_first_clash.b .nil qH (@qa _ _ _ _ _ (pv 9) (@qa _ _ _ _ _ (pv 11) qc ()) ()) () () ()) (pv 15) (qC _)) (@qf _ _ _ (@qo _ _ _ _ QI)) qr) (@qd _ _ _ _ _ (@qN _ _ _ _ _ _ _ _ (@qu _ _ _ _ _ _ _ _ je (pv 15) Qh (qC _)) (@qf _ _ _ (@qE _ _ (15) _ _ _ _ QK.nd rfl (Or.inl rfl) (@qy _ _ _ _ _ (@qa _ _ _ _ _ (@qG _ _ _ _ _ _ _ qD (pv 15) qg (fun _ _=>rfl)) (@qa _ _ _ _ _ (@qG _ _ _ _ _ _ _ qD (pv 15) qg (fun _ _=>rfl)) (@qa _ _ _ _ _ (@qG _ _ _ _ _ _ _ qD (pv 15) qg (fun _ _=>rfl)) qc ()) ()) ())) () ())) qr) (@qf _ _ _ (@qN _ _ _ _ _ _ _ _ (@qu _ _ _ _ _ _ _ _ (@op_neA _ hr.units) (@ql _ _ _ _ _ _ _ _ _ _ _ _ _ _ _ _ QT (hr.mono ()) () T.g_first_clash.m T.g_first_clash.F.kp T.g_first_clash.b .nil qH (@qa _ _ _ _ _ (pv 11) (@qa _ _ _ _ _ (pv 9) qc ()) ()) () () ()) (pv 15) (qC _)) (@qf _ _ _ (@qo _ _ _ _ QI)) qr))))))) ()) (@qd _ _ _ _ _ (@qN _ _ _ _ _ _ _ _ (@j5 _ _ _ _ _ _ _ (@qu _ _ _ _ _ _ _ _ je (@ql _ _ _ _ _ _ _ _ _ _ _ _ _ _ _ _ QT (hr.mono ()) () T.g_first_clash.m T.g_first_clash.F.kp T.g_first_clash.b .nil qH (@qa _ _ _ _ _ (@X3 _ _ _ _ _ _ _ _ _ _ _ _ _ _ T.xc QG (hr.mono ()) () T.JG T.g_AskTree_init.b .nil qH ()) (@qa _ _ _ _ _ (pv 3) qc ()) ()) () () ()) Qh (qC _)) (@Yz _ _ _ _ (@qu _ _ _ _ _ _ _ _ je (@ql _ _ _ _ _ _ _ _ _ _ _ _ _ _ _ _ QT (hr.mono ()) () T.g_first_clash.m T.g_first_clash.F.kp T.g_first_clash.b .nil qH (@qa _ _ _ _ _ (pv 3) (@qa _ _ _ _ _ (@X3 _ _ _ _ _ _ _ _ _ _ _ _ _ _ T.xc QG (hr.mono ()) () T.JG T.g_AskTree_init.b .nil qH ()) qc ()) ()) () () ()) Qh (qC _)))).pt (@qf _ _ _ (@qo _ _ _ _ QI)) qr) (@qf _ _ _ (@qo _ _ _ _ (@QR _ _ _ _ _ _ _ _ (@op_eqLR _ hr.units) (@Qq _ _ _ _ (@qa _ _ _ _ _ (@x8 _ _ _ _ _ _ _ _ _ _ _ _ _ _ _ _ _ (pv 3) T.qO T.g_AskTree_ways.h ym (hr.mono ()) T.g_AskTree_ways.b .nil qH ()) (@qa _ _ _ _ _ (@x8 _ _ _ _ _ _ _ _ _ _ _ _ _ _ _ _ _ (pv 5) T.qO T.g_AskTree_ways.h ym (hr.mono ()) T.g_AskTree_ways.b .nil qH ()) (@qa _ _ _ _ _ (@x8 _ _ _ _ _ _ _ _ _ _ _ _ _ _ _ _ _ (pv 7) T.qO T.g_AskTree_ways.h ym (hr.mono ()) T.g_AskTree_ways.b .nil qH ()) qc ()) ()) ())) (@Qq _ _ _ _ (@qa _ _ _ _ _ (@ql _ _ _ _ _ _ _ _ _ _ _ _ _ _ _ _ JV (hr.mono ()) () T.g_law_due.m T.g_law_due.F.kp T.g_law_due.b .nil qH (@qa _ _ _ _ _ (pv 4) qc ()) () () ()) (@qa _ _ _ _ _ (@ql _ _ _ _ _ _ _ _ _ _ _ _ _ _ _ _ JV (hr.mono ()) () T.g_law_due.m T.g_law_due.F.kp T.g_law_due.b .nil qH (@qa _ _ _ _ _ (pv 6) qc ()) () () ()) (@qa _ _ _ _ _ (@ql _ _ _ _ _ _ _ _ _ _ _ _ _ _ _ _ JV (hr.mono ()) () T.g_law_due.m T.g_law_due.F.kp T.g_law_due.b .nil qH (@qa _ _ _ _ _ (pv 8) qc ()) () () ()) qc ()) ()) ())) (qC _))))))))))),?_⟩
 have zero:(0:Nat)<=sizeLine:=by decide
 have aj:(3:Nat)<=sizeLine:=by decide
 have aK:(4:Nat)<=sizeLine:=by decide
 refine⟨_,rfl,q,ns,rfl,hS,?_⟩;generalize ns.sum=salt;refine⟨_,rfl,_,rfl,q,_,rfl,hS,fun cl dz=> ?_⟩;obtain⟨cs,cr,dA⟩:∃ms:List Int,cutV (ns.map V.int) none (some 20)=ms.map V.int/\ms.length<=20:=⟨ns.take 20,by rw [show(20:Int)=((20:Nat):Int) from rfl,cut_take,Uk],by rw [uq];omega⟩
 rw [cr];have ec:(upd H cl (.lst (cs.map V.int))) cl=some (.lst (cs.map V.int)):=qe;generalize upd H cl (.lst (cs.map V.int))=H1 at ec⊢;refine⟨_,rfl,_,rfl,cl,_,rfl,SqL.of ec,fun dB l1 cu cv cw=> ?_⟩;obtain⟨c1,rfl⟩:=Ja cv;rw [uc,uc] at cu;have z2:=qb cw (.lst (c1.map V.int));refine⟨salt,l1,c1,false,rfl,qe,by omega,fun t1 k1 p1 au S1 ad H3 z3 e3 F1 _=> ?_⟩
 have Z3:=z2.trans z3;refine⟨p1,_,rfl,SqT.of e3,rfl,_,_,rfl,_,_,rfl,rfl,?_⟩;have a6:=Z3 _ _ ec;clear z2 z3 Z3;refine⟨_,rfl,_,rfl,cl,_,rfl,SqL.of a6,fun dC l2 cx cy cz=> ?_⟩;obtain⟨c2,rfl⟩:=Ja cy;rw [uc,uc] at cx;have z4:=qb cz (.lst (c2.map V.int));have e4:(upd H3 l2 (.lst (c2.map V.int))) l2=some (.lst (c2.map V.int)):=qe;generalize upd H3 l2 (.lst (c2.map V.int))=H4 at z4 e4⊢;refine⟨l2,rfl,⟨_,SqL.of e4⟩,fun A0 ak=> ?_⟩;have i4:IsL H4 (c2.map D.int) (c2.map V.int):=ints_is _ _;refine lc_lstS (K:=K) (tl:= []) (fun d=>match d with| .int i=> .int (i/3)|d=>d) e4 i4 (yb (by rw [uc];omega)) ak (fun d0 x0 H5 R cA z5 i5 r=> ?_) fun H5 cB z5 l5 i5=> ?_
 ·obtain⟨n0,_,rfl⟩:=List.mem_map.mp cA;cases(show x0= .int n0 from i5)
  exact⟨_,rfl,_,_,rfl,rfl,⟨by decide,by decide⟩,r _ _ (Same.refl _) rfl⟩
 have cC:cB=(c2.map fun i=>i/3).map V.int:=by
  refine IsL.ints (H:=H5) ?_;rw [uB] at i5⊢;exact i5
 rw [cC] at l5;have Z5:=z4.trans z5;refine⟨_,rfl,_,rfl,cl,_,rfl,SqL.of (Z5 _ _ a6),fun dD l3 cD cE cF=> ?_⟩;obtain⟨c3,rfl⟩:=Ja cE;rw [uc,uc] at cD;have z6:=qb cF (.lst (c3.map V.int));have e6:(upd H5 l3 (.lst (c3.map V.int))) l3=some (.lst (c3.map V.int)):=qe;have l6:=z6 _ _ l5;have Z6:=Z5.trans z6;generalize upd H5 l3 (.lst (c3.map V.int))=H6 at z6 e6 l6 Z6⊢;refine⟨A0,l3,_,_,rfl,rfl,l6,e6,yb (by simp only [uc];omega),fun lc cG=> ?_⟩
 rw [<-uw];have z7:=qb cG (.lst (((c2.map fun i=>i/3)++c3).map V.int));have e7:(upd H6 lc (.lst (((c2.map fun i=>i/3)++c3).map V.int))) lc=some (.lst (((c2.map fun i=>i/3)++c3).map V.int)):=qe;have Z7:=Z6.trans z7;generalize upd H6 lc (.lst (((c2.map fun i=>i/3)++c3).map V.int))=H7 at z7 e7 Z7⊢;refine⟨salt,lc,_,true,rfl,e7,by simp only [ui,uc];omega,fun t2 k2 p2 a7 S2 av H8 z8 e8 F2 cH=> ?_⟩
 refine⟨p2,_,rfl,SqT.of e8,rfl,_,_,rfl,_,_,rfl,rfl,?_⟩;have Z8:=Z7.trans z8;have bn:=F1.same Z8;have bT:=Z8 _ _ a6;have cI:k1≠k2:=fun z=>by
  obtain⟨kvs,g1,_⟩:=F1.kp;have:=Z7 _ _ g1.here;rw [z,cH] at this;cases this
 clear l5 l6 e6 e7 e4 z4 z5 z6 z7 Z5 Z6 Z7 z8 Z8 F1;refine⟨_,rfl,_,_,rfl,rfl,_,rfl,salt+1,cl,cs,false,rfl,bT,by omega,fun t3 k3 p3 bw S3 aC H9 z9 e9 F3 bU=> ?_⟩
 refine⟨p3,_,rfl,SqT.of e9,rfl,_,_,rfl,_,_,rfl,rfl,?_⟩;have F1:=bn.same z9;have a8:=F2.same z9;have cJ:k2≠k3:=fun z=>by
  obtain⟨kvs,g1,_⟩:=F2.kp;rw [<-z,g1.here] at bU;cases bU
 clear F2 bn bT z9 e9 e8 e3 a6 ec;refine⟨_,rfl,_,rfl,_,rfl,_,rfl,aK,fun q1 h1=>⟨_,rfl,_,rfl,_,rfl,_,rfl,aK,fun q2 h2=>⟨_,rfl,_,rfl,_,rfl,_,rfl,aK,fun q3 h3=>⟨aj,fun ll cK=> ?_⟩⟩⟩⟩;have y1:=qb h1 (.tup [.ref t1,.ref k1,.ref t2,.ref k2]);have y2:=qb h2 (.tup [.ref t2,.ref k2,.ref t3,.ref k3]);have y3:=qb h3 (.tup [.ref t1,.ref k1,.ref t1,.ref k1]);have y4:=qb cK (.lst [.ref q1,.ref q2,.ref q3]);have Y:=y1.trans (y2.trans (y3.trans y4));have w1:Two w a.qk a.qB _ q1 t1 k1 t2 k2 au a7:=⟨(y2.trans (y3.trans y4)) _ _ qe,⟨S1,ad,F1.same Y⟩,⟨S2,av,a8.same Y⟩,fun z=>absurd z cI⟩;have w2:Two w a.qk a.qB _ q2 t2 k2 t3 k3 a7 bw:=⟨(y3.trans y4) _ _ qe,⟨S2,av,a8.same Y⟩,⟨S3,aC,F3.same Y⟩,fun z=>absurd z cJ⟩;have w3:Two w a.qk a.qB _ q3 t1 k1 t1 k1 au au:=⟨y4 _ _ qe,⟨S1,ad,F1.same Y⟩,⟨S1,ad,F1.same Y⟩,fun _=>rfl⟩;have el:(upd (upd (upd (upd H9 q1 (.tup [.ref t1,.ref k1,.ref t2,.ref k2])) q2 (.tup [.ref t2,.ref k2,.ref t3,.ref k3])) q3 (.tup [.ref t1,.ref k1,.ref t1,.ref k1])) ll (.lst [.ref q1,.ref q2,.ref q3])) ll=some (.lst [.ref q1,.ref q2,.ref q3]):=qe;generalize upd (upd (upd (upd H9 q1 (.tup [.ref t1,.ref k1,.ref t2,.ref k2])) q2 (.tup [.ref t2,.ref k2,.ref t3,.ref k3])) q3 (.tup [.ref t1,.ref k1,.ref t1,.ref k1])) ll (.lst [.ref q1,.ref q2,.ref q3])=cL at y4 Y w1 w2 w3 el⊢;have bV:=F1.same Y;have bW:=a8.same Y;have bX:=F3.same Y;clear F1 a8 F3 y1 y2 y3 y4 Y;refine⟨ll,rfl,⟨_,SqL.of el⟩,?_⟩
 let J1_:Nat->L2.St->Hp->Prop:=fun i σ H'=>∃(o9 bx bz bA bB aD aL:Option V),σ= [some (.ref q),some (.int salt),some (.ref cl),some (.ref t1),some (.ref k1),some (.ref t2),some (.ref k2),some (.ref t3),some (.ref k3),o9,bx,bz,bA,bB,aD,aL]/\Same cL H'
 refine Yl (K:=K) (a:=ll) (xs:= [.ref q1,.ref q2,.ref q3]) J1_ ⟨none,none,none,none,none,none,none,rfl,Same.refl _⟩ (fun i σ H' _ ⟨_,_,_,_,_,_,_,_,h⟩=>SqL.of (h _ _ el)) ?_ ?_
 ·rintro i x σ aw hx ⟨o9,bx,bz,bA,bB,aD,aL,rfl,ae⟩;obtain⟨qq,ta,ka,tb,kb,rsa,rsb,rfl,W⟩:∃qq ta ka tb kb rsa rsb,x= .ref qq/\Two w a.qk a.qB aw qq ta ka tb kb rsa rsb:=by
   have hi:i<3:=(List.getElem?_eq_some_iff.mp hx).1;rcases(show i=0∨i=1∨i=2 by omega) with rfl|rfl|rfl
   ·cases hx;exact⟨_,_,_,_,_,_,_,rfl,w1.same ae⟩
   ·cases hx;exact⟨_,_,_,_,_,_,_,rfl,w2.same ae⟩
   ·cases hx;exact⟨_,_,_,_,_,_,_,rfl,w3.same ae⟩
  refine⟨qq,_,rfl,SqT.of W.at',rfl,_,_,rfl,_,_,rfl,_,_,rfl,_,_,rfl,rfl,?_⟩;obtain⟨Sa,bC,Fa⟩:=W.fa;obtain⟨Sb,bD,Fb⟩:=W.fb;refine⟨zero,fun fl bY=> ?_⟩;have a9:=qb bY (.lst []);have aE:(upd aw fl (.lst [])) fl=some (.lst []):=qe;generalize upd aw fl (.lst [])=ap at a9 aE⊢;have bZ:=Fa.same a9;have b0:=Fb.same a9;obtain⟨B,ga,ba,_⟩:=id bZ.kp;obtain⟨ax,gb,bE,_⟩:=id b0.kp;have b4:B.length=rsa.length:=by have:=congrArg List.length ba;simpa using this
  have dq:ax.length=rsb.length:=by have:=congrArg List.length bE;simpa using this
  have dE:=Fa.ln;have dF:=Fb.ln;have aM:fl≠ka:=fun z=>by rw [z,ga.here] at aE;cases aE
  have cM:fl≠kb:=fun z=>by rw [z,gb.here] at aE;cases aE
  refine .inr ⟨ka,B,ga.here,fun ob=>⟨_,rfl,ka,ob,B,rfl,qe,?_⟩⟩;have aN:Tk ap (upd ap ka (fzD w ka ob B)):=fz_tk ga.here;have aO:(upd ap ka (fzD w ka ob B)) ka=some (fzD w ka ob B):=qe;have aP:(upd ap ka (fzD w ka ob B)) fl=some (.lst []):=by rw [qi aM];exact aE
  have bb:∀b,b≠ka->(upd ap ka (fzD w ka ob B)) b=ap b:=fun b h=>qi h;generalize upd ap ka (fzD w ka ob B)=Hf at aN aO aP bb⊢
  let J2_:Nat->L2.St->Hp->Prop:=fun i σ H'=>∃(us:List V) (aD aL:Option V),σ= [some (.ref q),some (.int salt),some (.ref cl),some (.ref t1),some (.ref k1),some (.ref t2),some (.ref k2),some (.ref t3),some (.ref k3),some (.ref ta),some (.ref ka),some (.ref tb),some (.ref kb),some (.ref fl),aD,aL]/\(∀b o,Hf b=some o->b≠fl->H' b=some o)/\H' fl=some (.lst us)/\IsL H' (allC (rsa.take i) rsb) us/\Tk Hf H'
  refine for_dicD (w:=w) (d:=ka) (o:=ob) (kvs:=B) J2_ ⟨[],_,_,rfl,fun b o h _=>h,aP,by rw [List.take_zero];rfl,Tk.refl _⟩ (fun j σ H' _ ⟨_,_,_,_,h,_⟩=>h _ _ aO aM.symm) ?_ ?_
  ·rintro j p σ O hp ⟨us,aD,bo,rfl,ab,ay,af,ah⟩;have cN:j<rsa.length:=by rw [<-b4];exact(List.getElem?_eq_some_iff.mp hp).1
   obtain⟨ri,bF⟩:∃ri,rsa[j]? =some ri:=⟨_,u0 cN⟩;have cO:p.1=rnD ri:=by
    have h1:(B.map (·.1))[j]? =some p.1:=by rw [uj,hp];rfl
    rw [ba,uj,bF] at h1;exact(uo h1).symm
   have bp:=Fa.rk ri (ud bF);have ip:Is O (rnD ri) p.2.1:=by rw [<-cO];exact((ga.ks p (ud hp)).1.mono aN).mono ah
   have dG:us.length<=2100:=by
    rw [af.length];have:∀l:List Rn,(allC l rsb).length=l.length*rsb.length:=by
     intro l;unfold allC
     induction l with
     |nil=>simp
     |cons x l ih=>rw [vG,ui,ih,uc,ul,Nat.succ_mul];omega
    rw [this,uq];have:=Nat.mul_le_mul (show min j rsa.length<=45 by omega) (show rsb.length<=45 by omega)
    omega
   have b5:∀(A0:Addr) (ys:List V) (L:Hp),Same O L->L A0=some (.lst ys)->IsL L (rsb.map fun r'=>clsF ri r') ys->us.length+ys.length<=16000000/\J2_ (j+1) [some (.ref q),some (.int salt),some (.ref cl),some (.ref t1),some (.ref k1),some (.ref t2),some (.ref k2),some (.ref t3),some (.ref k3),some (.ref ta),some (.ref ka),some (.ref tb),some (.ref kb),some (.ref fl),some p.2.1,bo] (upd L fl (.lst (us++ys))):=by
    intro A0 ys L U bc M;have ly:=M.length;rw [uc] at ly;have aQ:Tk L (upd L fl (.lst (us++ys))):=Tk.updL (U _ _ ay);refine⟨by omega,us++ys,_,_,rfl,fun b o h n=>by rw [qi n];exact U _ _ (ab b o h n),qe,?_,ah.trans (U.tk.trans aQ)⟩
    have et:allC (rsa.take (j+1)) rsb=allC (rsa.take j) rsb++rsb.map fun r'=>clsF ri r':=by
     unfold allC;rw [uE,bF,List.flatMap_append];simp
    rw [et];exact((af.mono U.tk).mono aQ).append (M.mono aQ)
   have bq:∀l:List Rn,(l.map rnD).map (fun e=>clsF ri (rnR e))=l.map fun r'=>clsF ri r':=fun l=>by
    rw [uB];exact Uj fun r' _=>by show clsF ri (rnR (rnD r'))=_;rw [JQ]
   refine⟨_,rfl,.inl ⟨rfl,_,SqL.of ay⟩,?_⟩;by_cases bG:ka=kb
   ·have cP:=W.eq bG;have Z:O ka=some (fzD w ka ob B):=ab _ _ aO aM.symm;refine .inl ⟨_,rfl,ka,ob,B,by rw [bG],Z,fun A0 ak=> ?_⟩
    refine lc_dicD (fun e=>clsF ri (rnR e)) (tl:= [some p.2.1]) Z (fun p hp=>((ga.ks p hp).1.mono aN).mono ah) (yb (by omega)) ak (fun e y L R he U M R'=> ?_) fun L ys U bd M=> ?_
    ·rw [ba] at he;obtain⟨r1,aS,rfl⟩:=List.mem_map.mp he;refine⟨_,rfl,_,rfl,p.2.1,y,ri,r1,rfl,ip.mono U.tk,M,bp.1,(Fa.rk r1 aS).1,fun u az aa ac=>R' _ az aa ?_⟩;rw [JQ];exact ac
    ·rw [ba,bq,cP] at M;obtain⟨f1,f2⟩:=b5 A0 ys L U bd M;exact⟨fl,A0,us,ys,rfl,rfl,U _ _ ay,bd,fits f1,f2⟩
   ·have aA:O kb=some (dExt w kb ax):=ab _ _ (by rw [bb _ (Ua bG)];exact gb.here) cM.symm
    refine .inr ⟨kb,ax,aA,fun b6=>⟨_,rfl,kb,b6,ax,rfl,qe,fun A0 ak=> ?_⟩⟩;have br:Tk O (upd O kb (fzD w kb b6 ax)):=fz_tk aA;refine lc_dicD (fun e=>clsF ri (rnR e)) (tl:= [some p.2.1]) qe (fun p hp=>(((gb.ks p hp).1.mono aN).mono ah).mono br) (yb (by omega)) ak (fun e y L R he U M R'=> ?_) fun L ys U bd M=> ?_
    ·rw [bE] at he;obtain⟨r1,aS,rfl⟩:=List.mem_map.mp he;refine⟨_,rfl,_,rfl,p.2.1,y,ri,r1,rfl,(ip.mono br).mono U.tk,M,bp.1,(Fb.rk r1 aS).1,fun u az aa ac=>R' _ az aa ?_⟩;rw [JQ];exact ac
    ·rw [bE,bq] at M;have nA:A0≠kb:=fun z=>by rw [z,qe] at ak;cases ak
     have aa:=fz_same aA U;have aQ:Tk L (upd L kb (dExt w kb ax)):=by
      have hz:=U kb _ qe;exact⟨fun b xs e=>by rw [qi (fun z=>by rw [z,hz] at e;cases e)];exact e,fun b xs e=>⟨xs,by rw [qi (fun z=>by rw [z,hz] at e;cases e)];exact e⟩,fun b xs e=>⟨xs,by rw [qi (fun z=>by rw [z,hz] at e;cases e)];exact e⟩⟩
     have be:(upd L kb (dExt w kb ax)) A0=some (.lst ys):=by rw [qi nA];exact bd
     obtain⟨f1,f2⟩:=b5 A0 ys _ aa be (M.mono aQ);exact⟨U _ _ qe,fl,A0,us,ys,rfl,rfl,aa _ _ ay,be,fits f1,f2⟩
  ·rintro σ O ⟨us,dr,bo,rfl,ab,ay,af,ah⟩;have Z:O ka=some (fzD w ka ob B):=ab _ _ aO aM.symm;refine⟨Z,?_⟩;have bH:Tk O (upd O ka (dExt w ka B)):=⟨fun b xs e=>by rw [qi (fun z=>by rw [z,Z] at e;cases e)];exact e,fun b xs e=>⟨xs,by rw [qi (fun z=>by rw [z,Z] at e;cases e)];exact e⟩,fun b xs e=>⟨xs,by rw [qi (fun z=>by rw [z,Z] at e;cases e)];exact e⟩⟩
   have b7:Same aw (upd O ka (dExt w ka B)):=fun b o h=>by
    have bI:=a9 _ _ h;by_cases c:b=ka
    ·subst c;rw [ga.here] at bI;cases bI;exact qe
    ·rw [qi c];exact ab b o (by rw [bb _ c];exact bI) (qh h bY)
   have bc:(upd O ka (dExt w ka B)) fl=some (.lst us):=by rw [qi aM];exact ay
   rw [b4,vq] at af;have M:=af.mono bH;generalize upd O ka (dExt w ka B)=L at bH b7 bc M⊢;clear ab ay af ah Z bH bb aP aO aN;refine⟨_,rfl,fl,rfl,⟨_,SqL.of bc⟩,fun A0 ak=> ?_⟩;have b8:(allC rsa rsb).length<=sizeLine:=by
    obtain⟨h1,_⟩:(us.length<=sizeLine)/\True:=⟨by
     rw [M.length];have:∀l:List Rn,(allC l rsb).length=l.length*rsb.length:=by
      intro l;unfold allC
      induction l with
      |nil=>simp
      |cons x l ih=>rw [vG,ui,ih,uc,ul,Nat.succ_mul];omega
     rw [this];have:=Nat.mul_le_mul (show rsa.length<=45 by omega) (show rsb.length<=45 by omega)
     exact fits (by omega),trivial⟩
    rw [<-M.length];exact h1
   refine lc_lstF (K:=K) (tl:= []) (fun d=> !yT d) bc M b8 ak (fun d x az R _ aa ac r=>⟨_,rfl,rfl,by rw [non_is ac];exact⟨_,rfl,r⟩⟩) (fun x az R r=>⟨_,rfl,r⟩) fun az ys aa be ac=> ?_
   obtain⟨ca,cb⟩:=allC_in (rs:=rsa) (rs':=rsb);refine⟨A0,ys,_,rsa,rsb,rfl,be,ac,fun r h=>(Fa.rk r h).1,ca,cb,fun u cQ d bf bJ fd=> ?_⟩;have bK:=b7.trans (aa.trans bf);have aT:=Fa.same bK;have aU:=Fb.same bK;have bg:∀r∈rsa,RunA r:=fun r h=>(Fa.rk r h).1;have aV:∀r∈rsb,RunA r:=fun r h=>(Fb.rk r h).1;refine⟨_,rfl,_,rfl,ta,tb,rsa,rsb,Sa,Sb,bC,bD,rfl,aT.tr,aU.tr,bg,aV,Fa.ft,Fb.ft,by omega,fun u2 bh d2 al bL cR=> ?_⟩
   have ed:=FcIs.uniq Fa.ft Fb.ft bg cR fd;subst ed;obtain⟨kk,cS⟩:=fd.k Fa.rk Fb.rk;have aW:=bJ.mono al.tk;refine⟨_,rfl,_,_,bL,aW,kk,kk,cS,_,rfl,?_⟩;rw [eqN_self kk];refine iteF ?_;have b9:=bK.trans al;rcases fd with⟨rfl,cc⟩|⟨r,aS,r',cT,p,hd,hc,rfl⟩
   ·cases(show u= .non from aW)
    refine⟨_,rfl,rfl,_,rfl,Qf (by decide+kernel) ?_⟩
    refine⟨_,rfl,_,rfl,tb,ta,rsb,rsa,Sb,Sa,bD,bC,rfl,(aU.same al).tr,(aT.same al).tr,aV,bg,Fb.ft,Fa.ft,by omega,fun u3 aF d3 ag aG aX=> ?_⟩
    have e3:=FcIs.uniq Fb.ft Fa.ft aV aX (.inl ⟨rfl,fun r h r' h'=>(cc r' h' r h).symm⟩);subst e3;refine⟨_,rfl,_,_,aG,(show Is aF .non .non from rfl),rfl,rfl,by simp [dp],_,rfl,iteF ?_⟩
    exact⟨_,_,_,_,_,_,_,rfl,ae.trans (b9.trans ag)⟩
   ·have aB:Is bh (.tup [.tup ((r.1.take p.length).map prD),thr r p.length,thr r' p.length]) u:=aW;refine⟨_,rfl,rfl,_,rfl,Qi (by rw [u8 (ji aB (by simp))];rfl) ?_⟩
    refine⟨_,rfl,?_⟩;refine gi (i:=0) aB (qm (j:=0) rfl) fun x1 cU=> ?_;refine⟨_,rfl,?_⟩;refine gi (i:=2) aB (qm (j:=2) rfl) fun x2 cV=> ?_;refine⟨_,rfl,?_⟩;refine gi (i:=1) aB (qm (j:=1) rfl) fun x3 cW=> ?_;refine⟨aj,fun l hl=> ?_⟩;have ag:=qb hl (.tup [x1,x2,x3]);have aG:Is (upd bh l (.tup [x1,x2,x3])) (.tup [.tup ((r.1.take p.length).map prD),thr r' p.length,thr r p.length]) (.ref l):=Is.new (ds:= [_,_,_]) ⟨_,_,rfl,cU,_,_,rfl,cV,_,_,rfl,cW,rfl⟩ hl;generalize upd bh l (.tup [x1,x2,x3])=aF at ag aG⊢;have cd:=(aT.same al).same ag;have ce:=(aU.same al).same ag;refine⟨_,rfl,_,rfl,tb,ta,rsb,rsa,Sb,Sa,bD,bC,rfl,ce.tr,cd.tr,aV,bg,Fb.ft,Fa.ft,by omega,fun u3 cX d3 aq cY aX=> ?_⟩
    have cf:=FcIs.swap aS cT hd hc;have e3:=FcIs.uniq Fb.ft Fa.ft aV aX cf;subst e3;obtain⟨kw,cZ⟩:=cf.k Fb.rk Fa.rk;refine⟨_,rfl,_,_,cY,aG.mono aq.tk,kw,kw,cZ,_,rfl,?_⟩;rw [eqN_self kw];exact iteF ⟨_,_,_,_,_,_,_,rfl,ae.trans (b9.trans (ag.trans aq))⟩
 ·rintro σ aw ⟨o9,bx,bz,bA,bB,aD,aL,rfl,ae⟩;have F1:=bV.same ae;have F2:=bW.same ae;have F3:=bX.same ae;clear w1 w2 w3 el bV bW bX ae;have aY:∀r∈au,RunA r:=fun r h=>(F1.rk r h).1;have bM:∀r∈a7,RunA r:=fun r h=>(F2.rk r h).1;have bN:∀r∈bw,RunA r:=fun r h=>(F3.rk r h).1;have dt:=F1.ln;have du:=F2.ln;have dv:=F3.ln;have c0:∀{rs:List Rn}{d:D},FcIs [] rs d->d= .non:=fun h=>by
   rcases h with h|⟨r,hr,_⟩
   ·exact h.1
   ·cases hr
  have cg:∀{rs:List Rn}{d:D},FcIs rs [] d->d= .non:=fun h=>by
   rcases h with h|⟨r,_,r',hr,_⟩
   ·exact h.1
   ·cases hr
  have ch:∀{H:Hp}{x dx:Addr},H x=none->H dx=none->Same H (upd (upd (upd H dx (.own x)) x (.ins a.qk dx [])) x (.ins a.qk dx [("beginning",.non)])):=fun{H x dx} h1 h2 b o h=>by rw [qi (qh h h1),qi (qh h h1),qi (qh h h2)];exact h
  intro t4 am c4 ci dw;refine⟨t4,am,rfl,qe,fun fs bO=>⟨rfl,?_⟩⟩;subst bO;have y1:=ch c4 ci;have e1:(upd (upd (upd aw am (.own t4)) t4 (.ins a.qk am [])) t4 (.ins a.qk am [("beginning",.non)])) t4=some (.ins a.qk am [("beginning",.non)]):=qe;generalize upd (upd (upd aw am (.own t4)) t4 (.ins a.qk am [])) t4 (.ins a.qk am [("beginning",.non)])=ap at y1 e1⊢;refine⟨_,rfl,t4,t1,[],au,(fun b=>b=t4),S1,(fun _=> []),ad,rfl,⟨am,.non,e1,rfl,.inl ⟨rfl,rfl⟩⟩,(F1.same y1).tr,by simp,aY,fun _ h=>absurd h (by simp),F1.ft,by simp,fun u2 O d2 cj af fd=> ?_⟩
  rw [c0 fd] at af;cases(show u2= .non from af)
  refine⟨rfl,_,rfl,Qf (by decide+kernel) ?_⟩
  have bP:=y1.trans cj;have ck:=F1.same bP;refine⟨_,rfl,fun t5 ao c5 cm dy=>⟨t5,ao,rfl,qe,fun fs bO=>⟨rfl,?_⟩⟩⟩;subst bO;have y2:=ch c5 cm;have e2:(upd (upd (upd O ao (.own t5)) t5 (.ins a.qk ao [])) t5 (.ins a.qk ao [("beginning",.non)])) t5=some (.ins a.qk ao [("beginning",.non)]):=qe;generalize upd (upd (upd O ao (.own t5)) t5 (.ins a.qk ao [])) t5 (.ins a.qk ao [("beginning",.non)])=L at y2 e2⊢;refine⟨t1,t5,au,[],S1,(fun b=>b=t5),ad,(fun _=> []),rfl,(ck.same y2).tr,⟨ao,.non,e2,rfl,.inl ⟨rfl,rfl⟩⟩,aY,by simp,F1.ft,fun _ h=>absurd h (by simp),by omega,fun u3 az d3 aa ac aX=> ?_⟩
  rw [cg aX] at ac;cases(show u3= .non from ac)
  refine⟨rfl,_,rfl,Qf (by decide+kernel) ?_⟩
  have bi:=bP.trans (y2.trans aa);have G1:=F1.same bi;have G2:=F2.same bi;have G3:=F3.same bi;clear F1 F2 F3 ck bi bP y1 y2 cj aa e1 e2 af ac;obtain⟨aZ,bt,aH,dH⟩:=srt_ex aY G1.ft;obtain⟨a0,bu,aI,dI⟩:=srt_ex bM G2.ft;obtain⟨a4,bv,aJ,dJ⟩:=srt_ex bN G3.ft;have T1:=G1.tr.mem (rs':=aZ) aH;obtain⟨c6,dL,c7,_⟩:=id T1;refine⟨_,rfl,t1,c6,_,rfl,c7,XU (by decide+kernel),t1,aZ,S1,ad,rfl,T1,fun r' h=>aY r' ((aH r').mp h),fun r1 h1 r2 h2=>G1.ft r1 ((aH r1).mp h1) r2 ((aH r2).mp h2),bt,by omega,fun v1 cQ bf bJ=> ?_⟩
  have T2:=(G2.same bf).tr.mem (rs':=a0) aI;obtain⟨c8,dM,c9,_⟩:=id T2;refine⟨_,rfl,t2,c8,_,rfl,c9,XU (by decide+kernel),t2,a0,S2,av,rfl,T2,fun r' h=>bM r' ((aI r').mp h),fun r1 h1 r2 h2=>G2.ft r1 ((aI r1).mp h1) r2 ((aI r2).mp h2),bu,by omega,fun v2 bh al bL=> ?_⟩
  have a5:=bf.trans al;have T3:=(G3.same a5).tr.mem (rs':=a4) aJ;obtain⟨da,dN,db,_⟩:=id T3;refine⟨_,rfl,t3,da,_,rfl,db,XU (by decide+kernel),t3,a4,S3,aC,rfl,T3,fun r' h=>bN r' ((aJ r').mp h),fun r1 h1 r2 h2=>G3.ft r1 ((aJ r1).mp h1) r2 ((aJ r2).mp h2),bv,by omega,fun v3 aF ag aG=>⟨aj,fun L1 dc=> ?_⟩⟩
  have aq:=qb dc (.lst [v1,v2,v3]);have cn:(upd aF L1 (.lst [v1,v2,v3])) L1=some (.lst [v1,v2,v3]):=qe;have cp:IsL (upd aF L1 (.lst [v1,v2,v3])) [.tup (aZ.map (wayD ad)),.tup (a0.map (wayD av)),.tup (a4.map (wayD aC))] [v1,v2,v3]:=⟨_,_,rfl,((bJ.mono al.tk).mono ag.tk).mono aq.tk,_,_,rfl,(bL.mono ag.tk).mono aq.tk,_,_,rfl,aG.mono aq.tk,rfl⟩;have bj:=a5.trans (ag.trans aq);generalize upd aF L1 (.lst [v1,v2,v3])=cX at aq cn cp bj⊢;have dd:=G1.same bj;have de:=G2.same bj;have df:=G3.same bj;refine⟨_,rfl,k1,au,ad,rfl,dd.kp,aY,G1.ft,by omega,fun w1 dO dP bQ dg dh j1=> ?_⟩
  cases XJ dg bt fun x=>(dh x).trans (aH x).symm;refine⟨_,rfl,k2,a7,av,rfl,(de.same bQ).kp,bM,G2.ft,by omega,fun w2 dQ dR bR di dj j2=> ?_⟩
  cases XJ di bu fun x=>(dj x).trans (aI x).symm;refine⟨_,rfl,k3,bw,aC,rfl,((df.same bQ).same bR).kp,bN,G3.ft,by omega,fun w3 dS dU bS dk dl j3=>⟨aj,fun L2 dm=> ?_⟩⟩
  cases XJ dk bv fun x=>(dl x).trans (aJ x).symm;have bm:=qb dm (.lst [w1,w2,w3]);have cq:=bQ.trans (bR.trans (bS.trans bm));obtain⟨a1,b1⟩:=ways_n (ws:=aZ) (gf:=ad) fun r h=>(G1.rk r ((aH r).mp h)).2;obtain⟨a2,b2⟩:=ways_n (ws:=a0) (gf:=av) fun r h=>(G2.rk r ((aI r).mp h)).2;obtain⟨a3,b3⟩:=ways_n (ws:=a4) (gf:=aC) fun r h=>(G3.rk r ((aJ r).mp h)).2;refine⟨L1,L2,[v1,v2,v3],[w1,w2,w3],_,rfl,rfl,SqL.of (cq _ _ cn),SqL.of qe,cp.mono cq.tk,⟨_,_,rfl,((j1.mono bR.tk).mono bS.tk).mono bm.tk,_,_,rfl,(j2.mono bS.tk).mono bm.tk,_,_,rfl,j3.mono bm.tk,rfl⟩,?_,?_,k _⟩
  ·show(nL (aZ.map (wayD ad))&&(nL (a0.map (wayD av))&&(nL (a4.map (wayD aC))&&true)))=true;rw [a1,a2,a3]
   rfl
  ·simp only [dpL,dp];omega
end
end K29
namespace K29
open PySem L2 PyProof.Rows
theorem tx_mk {K:PySem.W.Frag}{h:Heap}{mg:Str->Option Value}(X:K.In h)(G:h.Ns mainGlobals mg){L B f1 f2 f3 f4 f5 f6 f7 f8 f9 ai aj ak al am ao ap aq au av aw ax ay az aA aB aC aD aE aF aG aH aI aJ aK aL aM aN aO:Addr}{t1 t2 t3 t4 t5 t6 t7 t8 t9:Tok}
  (ae:PySem.W.nsIn K mainGlobals "Node"=some (some (.ref L))) (af:Cls K L) (ad:PySem.W.makesIn K L=true/\PySem.W.keepIn K (.ref L)=true)
  (aa:PySem.W.nsIn K mainGlobals "AskTree"=some (some (.ref B))) (ab:Cls K B) (O:PySem.W.makesIn K B=true/\PySem.W.keepIn K (.ref B)=true)
  (h1:FZg K "is_text" Jd f1)
  (h2:FZg K "is_tree" YX f2)
  (h3:FZg K "tree_key" jr f3)
  (h4:FZg K "is_name" J9 f4)
  (h5:FZg K "is_pair" J8 f5)
  (h6:FZg K "is_ask" Xr f6)
  (h7:FZg K "is_row_of_names" QD f7)
  (h8:FZg K "is_answer" YF f8)
  (h9:FZg K "is_end" XL f9)
  (aP:FZg K "is_answered_ask" QC ai)
  (aQ:FZg K "is_run" X1 aj)
  (ag:FZm K L "__init__" "Node.__init__" YB ak)
  (ah:FZm K B "__init__" "AskTree.__init__" yj al)
  (aS:FZm K B "put" "AskTree.put" yH am)
  (aT:FZm K B "lay" "AskTree.lay" yJ ao)
  (aU:FZm K B "ways" "AskTree.ways" yn ap)
  (aV:FZg K "are_givers" yV aq)
  (aW:FZg K "answer_key" yX au)
  (aX:FZg K "branch" XM av)
  (aY:FZg K "first_clash" yM aw)
  (aZ:FZg K "first_clash_below" Qt ax)
  (a0:FZg K "_law_pot" Jv ay)
  (a1:FZg K "_law_take" jy az)
  (a2:FZg K "_law_key" JC aA)
  (a3:FZg K "_law_there" YM aB)
  (a4:FZg K "_law_choices" yD aC)
  (a5:FZg K "_law_way" Jx aD)
  (a6:FZg K "_law_order" YC aE)
  (a7:FZg K "_law_due" Y8 aF)
  (a8:FZg K "_law_put" JL aG)
  (a9:FZg K "_law_stands" Yb aH)
  (ba:FZg K "_law_clash" YJ aI)
  (bb:FZg K "_law_first" YA aJ)
  (bc:FZg K "_law_clash_order" QE aK)
  (bd:FZg K "_law_other" YG aL)
  (be:FZg K "_law_fits" Ym aM)
  (bf:FZg K "_law_filled" y6 aN)
  (bg:FZg K "law" s_law aO)
  (Y:PySem.W.findIn K (.ref L) "there"=some none)
  (Z:PySem.W.findIn K (.ref L) "edges"=some none)
  (ac:PySem.W.findIn K (.ref L) "way"=some none)
  (U:PySem.W.findIn K (.ref L) "givers"=some none)
  (M:PySem.W.findIn K (.ref B) "beginning"=some none)
  (g1:PySem.W.nsIn K mainGlobals "MOST_SIGNS"=some (some (.int 300 t1)))
  (g2:PySem.W.nsIn K mainGlobals "MOST_PARTS"=some (some (.int 40 t2)))
  (g3:PySem.W.nsIn K mainGlobals "MOST_SIZE"=some (some (.int 600 t3)))
  (g4:PySem.W.nsIn K mainGlobals "MOST_DEPTH"=some (some (.int 12 t4)))
  (g5:PySem.W.nsIn K mainGlobals "MOST_NAME_SIGNS"=some (some (.int 24 t5)))
  (g6:PySem.W.nsIn K mainGlobals "LETTERS"=some (some (.str "abcdefghijklmnopqrstuvwxyz" t6)))
  (g7:PySem.W.nsIn K mainGlobals "NAME_SIGNS"=some (some (.str "abcdefghijklmnopqrstuvwxyz0123456789./" t7)))
  (g8:PySem.W.nsIn K mainGlobals "PERCENT"=some (some (.int 37 t8)))
  (g9:PySem.W.nsIn K mainGlobals "MOST_GIVER"=some (some (.int 99 t9)))
  (zz:∀x∈(["ord","len","isinstance","str","tuple","all","sorted","set","enumerate","bool","int","reversed","range","abs","min","any","sum"]:List Str),PySem.W.nsIn K mainGlobals x=some none):∃a,Tx K mg a:=by
 obtain⟨d1,F1⟩:=Qm X G h1 ["value"] ()
 obtain⟨d2,F2⟩:=Qm X G h2 ["value"] ()
 obtain⟨d3,F3⟩:=Qm X G h3 ["tree"] ()
 obtain⟨d4,F4⟩:=Qm X G h4 ["value"] ()
 obtain⟨d5,F5⟩:=Qm X G h5 ["value"] ()
 obtain⟨d6,F6⟩:=Qm X G h6 ["value"] ()
 obtain⟨d7,F7⟩:=Qm X G h7 ["tree"] ()
 obtain⟨d8,F8⟩:=Qm X G h8 ["ask","answer"] ()
 obtain⟨d9,F9⟩:=Qm X G h9 ["value"] ()
 obtain⟨bh,bi⟩:=Qm X G aP ["value"] ()
 obtain⟨bj,bm⟩:=Qm X G aQ ["value"] ()
 obtain⟨bn,bo⟩:=fm_of ag ["self","there"] ()
 obtain⟨bp,bq⟩:=fm_of ah ["self"] ()
 obtain⟨br,bt⟩:=fm_of aS ["self","run","givers"] ()
 obtain⟨bu,bv⟩:=fm_of aT ["self","run","givers"] ()
 obtain⟨bw,bx⟩:=fm_of aU ["self"] ()
 obtain⟨bz,bA⟩:=Qm X G aV ["value"] ()
 obtain⟨bB,bC⟩:=Qm X G aW ["answer"] ()
 obtain⟨bD,bE⟩:=Qm X G aX ["run","givers","place"] ()
 obtain⟨bF,bG⟩:=Qm X G aY ["tree","other"] ()
 obtain⟨bH,bI⟩:=Qm X G aZ ["node","other"] ()
 obtain⟨bJ,bK⟩:=Qm X G a0 ["cell","salt"] ()
 obtain⟨bL,bM⟩:=Qm X G a1 ["pot","many"] ()
 obtain⟨bN,bO⟩:=Qm X G a2 ["tree"] ()
 obtain⟨bP,bQ⟩:=Qm X G a3 ["salt","path","lacked"] ()
 obtain⟨bR,bS⟩:=Qm X G a4 ["ask"] ()
 obtain⟨bT,bU⟩:=Qm X G a5 ["salt","pot"] ()
 obtain⟨bV,bW⟩:=Qm X G a6 ["run"] ()
 obtain⟨bX,bY⟩:=Qm X G a7 ["kept"] ()
 obtain⟨bZ,b0⟩:=Qm X G a8 ["kept","run","givers"] ()
 obtain⟨b1,b2⟩:=Qm X G a9 ["run","at"] ()
 obtain⟨b3,b4⟩:=Qm X G ba ["run","other"] ()
 obtain⟨b5,b6⟩:=Qm X G bb ["partings"] ()
 obtain⟨b7,b8⟩:=Qm X G bc ["clash"] ()
 obtain⟨b9,ca⟩:=Qm X G bd ["pot","run"] ()
 obtain⟨cb,cc⟩:=Qm X G be ["kept","run"] ()
 obtain⟨cd,ce⟩:=Qm X G bf ["salt","cells","other"] ()
 obtain⟨cf,cg⟩:=Qm X G bg ["script"] ()
 have z:∀x∈(["ord","len","isinstance","str","tuple","all","sorted","set","enumerate","bool","int","reversed","range","abs","min","any","sum"]:List Str),mg x=none:=fun x hx=>PySem.W.mg_none_of X G (zz x hx);simp only [uP,v6,UA,forall_eq_or_imp,forall_eq] at z;obtain⟨z1,z2,z3,z4,z5,z6,z7,z8,z9,ch,ci,cj,ck,cm,cn,cp,cq⟩:=z;exact⟨⟨f1,d1,f2,d2,f3,d3,f4,d4,f5,d5,f6,d6,f7,d7,f8,d8,f9,d9,ai,bh,aj,bj,ak,bn,al,bp,am,br,ao,bu,ap,bw,aq,bz,au,bB,av,bD,aw,bF,ax,bH,ay,bJ,az,bL,aA,bN,aB,bP,aC,bR,aD,bT,aE,bV,aF,bX,aG,bZ,aH,b1,aI,b3,aJ,b5,aK,b7,aL,b9,aM,cb,aN,cd,aO,cf,L,B⟩,⟨F1,F2,F3,F4,F5,F6,F7,F8,F9,bi,bm,bo,bq,bt,bv,bx,bA,bC,bE,bG,bI,bK,bM,bO,bQ,bS,bU,bW,bY,b0,b2,b4,b6,b8,ca,cc,ce,cg,af,⟨ad.1,ag.1,ag.2.1,ad.2⟩,va X G ae,Y,Z,ac,U,ab,⟨O.1,ah.1,ah.2.1,O.2⟩,va X G aa,M,⟨_,va X G g1⟩,⟨_,va X G g2⟩,⟨_,va X G g3⟩,⟨_,va X G g4⟩,⟨_,va X G g5⟩,⟨_,va X G g6⟩,⟨_,va X G g7⟩,⟨_,va X G g8⟩,⟨_,va X G g9⟩,z1,z2,z3,z4,z5,z6,z7,z8,z9,ch,ci,cj,ck,cm,cn,cp,cq⟩⟩
theorem fx_mk {w:World}{K:PySem.W.Frag}{h:Heap}{mg:Str->Option Value}{a:Ad}(T:Tx K mg a)(X:K.In h)(G:h.Ns mainGlobals mg){B L M:Addr}
  (O:PySem.W.nsIn K mainGlobals "FAULTS"=some (some (.ref B))) (U:TZ K B FLT)
  (Y:PySem.W.nsIn K mainGlobals "BadKeep"=some (some (.ref L))) (bK:PySem.W.excIn K L VE "ValueError.__new__"=true) (Z:PySem.W.nsIn K mainGlobals "Clash"=some (some (.ref M))) (bC:PySem.W.excIn K M VE "ValueError.__new__"=true):∃g,Fx K w mg g a:=⟨⟨B,L,M⟩,⟨va X G O,fun H=>U.sq (by decide),va X G Y,bK,va X G Z,bC⟩⟩
end K29
open PySem PySem.W PyProof.Rows L2
set_option maxRecDepth 100000 in
set_option maxHeartbeats 0 in
theorem PySem.Challenge.cw_askwright_k29_the_first_clash_holds : PySem.Challenge.rw_askwright_k29_the_first_clash.Holds := by
 w_on;o_law;k_head;(case hw=>w_witness2)
 k_fill
 refine L2.walk_ofB (l:=PySem.Challenge.rw_askwright_k29_the_first_clash) (n:=63) (k:=16) (x:="script") (CX:=L2.CX0) (sp:=K29.sp_law) rfl (by decide) rfl ⟨rfl,by decide,by decide⟩ (fun w h Y=>PySem.W.kIn_of Y) ?F ?S ?C
 case F=>
  intro w mg fa h KX G hmg
  have T:∃a,K29.Tx (L2.KOf KX) mg a:=by
   dsimp only [L2.KOf]
   refine' K29.tx_mk KX G ..
   all_goals first|exact⟨by k_is,_,_,_,_,_,_,_,_,_,by k_is,by k_is,by k_is⟩|exact⟨by k_is,by k_is,_,_,_,_,_,_,_,_,_,by k_is,by k_is,by k_is⟩|(show _=_;k_is)|exact⟨by k_is,by k_is,by k_is,by k_is⟩|exact⟨by k_is,by k_is⟩|(intro x hx;simp only [uP,v6,UA] at hx;rcases hx with rfl|rfl|rfl|rfl|rfl|rfl|rfl|rfl|rfl|rfl|rfl|rfl|rfl|rfl|rfl|rfl|rfl<;>k_is)|skip
  obtain⟨a,T⟩:=T
  have C:∃g,K29.Fx (L2.KOf KX) w mg g a:=by
   dsimp only [L2.KOf] at T⊢
   refine' K29.fx_mk T KX G (bK:= ?bK) (bC:= ?bC) ..
   all_goals try (first|(show _=some (some _);k_is)|(show _=some (Obj.mk _ _ _ _);k_is)|exact⟨_,_,_,_,by k_is,rfl⟩)
   (case bK=>k_exc);(case bC=>k_exc)
  obtain⟨g,C⟩:=C
  have e0:=hmg.symm.trans T.g_law.m
  cases e0
  exact⟨_,T.g_law.law (fun _ _ _ _ _ _ _=>rfl),(by obtain⟨_,_,_,_,_,_,_,_,_,e,_⟩:=T.g_law.F.ex;rw [e];rfl),fun base kb nb=>K29.ok_law T C⟩
 case S=>exact fun w H a ns hl hb hO hS=>⟨a,ns,rfl,hS,hl,fun _=>rfl⟩
 case C=>exact fun _ _ _ _ z=>z
