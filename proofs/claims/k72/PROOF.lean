import PyProof.Rows.All
import Wide.All
import OpenK.AllK
import Wide.FinOn
import Lean
import PyProof.EqAt
import PyProof.EqKinds
import PyProof.TupleCall
import PySem.Str
import PyProof.ZipIter
import PyProof.Draws
import PyProof.StrLawsChain
import PyProof.StrLawsTight
import KE.KIntText
import OpenK.KTop
import PyProof.StationsW
import PyProof.ExcClass2
import PyProof.ExcBaseAll.ValueError
import PyProof.Rows.Catch
import OpenK.KOwn
import KE.KTryMore
import KE.FramesApart
import PyProof.RulesAs
import PyProof.NsDelKeeps
import PyProof.ExcArgs
import PyProof.Rows.SortStr
import KE.KDictSum
import PyProof.DictWalks
import PyProof.IsiH_list
import KE.KDictOf
import PyProof.NeKinds
import PyProof.StrCalls6
import PyProof.FString
import KE.KUnpack
import KE.KItemsList
import KE.KRevIter
import KE.IntBitsLaws
import PyProof.FString5
import PyProof.TupleKey
import Wide.Seal
import PyProof.Rows.SortShellK
import PyProof.DictRoadsH
import PyProof.Rows.SortRev
import PyProof.Rows.SetFrom
import PyProof.FactsAll.set_2
import PyProof.FactsAll.set_1
import PyProof.Rows.SortShell
import PyProof.Tail
import KE.KMinKey
import PyProof.ExcArgsOwn
import PyProof.ExcAttrAll.ValueError
import KE.KRevSl
import KE.RegKTryMore
import PySem.Challenge.RW_askwright_k72_projects_written
namespace PySem.W.Fast
def tw9458452056449678159:=0
def tw15242426966999039485:=0
def tw4830639788885726040:=0
def tw17194293565165486979:=0
def tw16222300253104721784:=0
def tw12560120615168318848:=0
def tw14395117835877398340:=0
def tw6415180425033467143:=0
def tw13623959276080235270:=0
def tw15996012150184516781:=0
def tw15391922511575281452:=0
def tw4955057157434407070:=0
def tw1425276712594678543:=0
def tw13415254334602653598:=0
def tw14464445105299356530:=0
def tw8468389394902513403:=0
def tw457139699804347726:=0
def tw10417940824746967201:=0
def tw6272905705834125870:=0
def tw4605953822189210683:=0
def tw2609444153866449944:=0
def tw16321298516639826666:=0
def tw15580574107777539320:=0
def tw14676799242138972104:=0
def tw9987439945428219615:=0
def tw15537723143178366147:=0
def tw18017141418020991396:=0
def tw12410179912648235482:=0
def tw14756555113931363134:=0
def tw9954123717141209061:=0
def tw6188736549547878991:=0
def tw7027629537354995704:=0
def tw12374344098814962885:=0
def tw10242249874326271319:=0
def tw16596278939604320794:=0
def tw5087391469974934120:=0
def tw1950736162836011523:=0
def tw11460950059148829817:=0
def tw8762331771181105093:=0
def tw15155067477682334015:=0
def tw8307581284018050074:=0
def tw16931909188041614135:=0
def tw5534255732755961770:=0
def tw14709824117762949904:=0
def tw4713232298910255528:=0
def tw15783037289277496044:=0
def tw3689564034537238111:=0
def tw9226542295119268784:=0
def tw13348116566711730541:=0
def tw7057195115670883221:=0
def tw8042784596762328529:=0
def tw8738123223994487813:=0
def tw14466144908644442684:=0
def tw11882103473691230783:=0
def tw11150095990543278358:=0
def tw8931045039302990460:=0
def tw960521802558057507:=0
def tw505811666909857391:=0
def tw1474894659481564815:=0
def tw834515078448165913:=0
def tw12710118400046613443:=0
def tw11227869104079507293:=0
def tw16075219932784647568:=0
def tw16405412634000720740:=0
def tw7806543351573737990:=0
def tw1456472258745746818:=0
def tw11215082039710628262:=0
def tw11656211073558956535:=0
def tw13013149960159670396:=0
def tw8155438923970555374:=0
def tw518584590004401050:=0
def tw11189513964315008221:=0
def tw14122251797083860092:=0
def tw10839322002191958667:=0
def tw16582650496303050999:=0
def tw6227882248782623379:=0
def tw15830220385034781628:=0
def tw3219922781784076373:=0
def tw8879663599213967001:=0
def tw16547867392963541003:=0
def tw139510234372162409:=0
def tw17741868692417372051:=0
def tw3429011973538538994:=0
def tw8895245046118205824:=0
def tw10545544789383514769:=0
def tw10127967328462866665:=0
def tw10529341281435997376:=0
def tw3681261824642661736:=0
def tw3526511648365891621:=0
def tw9797776925088431376:=0
def tw7836649803445126819:=0
def tw6572425952606932001:=0
def tw16297771763960894454:=0
def tw12533824033671992164:=0
def tw15015962663207127025:=0
def tw6264471775807035247:=0
def tw13366132314626912957:=0
def tw4904349190052506991:=0
def tw11481035079467597681:=0
def tw12916237624903512590:=0
def tw3934177969042100711:=0
def tw8627565250134950686:=0
def tw12791438132211476102:=0
def tw4833046907829027105:=0
def tw14212256214233717041:=0
def tw4349954280795346196:=0
def tw16052425642337349578:=0
def tw17468838215976427037:=0
def tw4643335937886421087:=0
def tw9213182452745714139:=0
def tw4010287202843166184:=0
def tw12005761746436147101:=0
def tw17454883015923861920:=0
def tw3345708870464893178:=0
def tw13598633727099493965:=0
def tw5774025535489847560:=0
def tw7235314929782295419:=0
def tw15730302397261329916:=0
def tw18057591524003429308:=0
def tw12625838557028137894:=0
def tw9372202124609117624:=0
def tw2311298408750421453:=0
def tw13169570513880431708:=0
def tw16997191353244189248:=0
def tw15461151385497696012:=0
def tw15712423533437856233:=0
def tw6069469555257537000:=0
def tw10177091419702958459:=0
def tw12421754427966695437:=0
def tw3464361756579220097:=0
def tw14696149178332493742:=0
def tw13319482679909550206:=0
def tw10359295348604696016:=0
def tw2830442397646169990:=0
def tw5863381714654601257:=0
def tw6922730244639679304:=0
def tw3924389900333090543:=0
def tw4785150949095840533:=0
def tw1957084745162224782:=0
def tw6498695219456859688:=0
def tw15774536766601210943:=0
def tw7242030079139215953:=0
def tw14231673597797239857:=0
def tw12887525418677333741:=0
def tw4733875489065616043:=0
def tw15918588810132780209:=0
def tw5753725079123201119:=0
end PySem.W.Fast
local macro_rules | `(tactic| trivial) => `(tactic| first | rfl | exact .inl rfl | exact .inr rfl | exact .inr (.inl rfl) | decide +kernel | (intro _; rfl) | omega | exact ⟨rfl,rfl,rfl,by decide +kernel,rfl,by decide +kernel,by decide +kernel⟩ | (intro _ _ _ _ _ _ us hl; rcases us with _|⟨_,_|⟨_,_|⟨_,_|⟨_,_|⟨_,_|⟨_,_⟩⟩⟩⟩⟩⟩ <;> first | rfl | cases hl) | (intro _ _ _ _ h; repeat' first | (obtain ⟨e,_⟩ := h; subst e; rfl) | (obtain ⟨_,h⟩ := h)))
set_option Elab.async false
set_option linter.all false
set_option maxRecDepth 100000
set_option maxHeartbeats 4000000
def u3:=@List.length_map
def u4:=@PySem.Heap.get?_push_of_some
def u5:=@List.mem_cons_of_mem
def u7:=@List.getElem?_eq_getElem
def u8:=@decide_eq_true
def u9:=@PySem.wpAny_pure
def ua:=@List.map_cons
def ub:=@List.size_toArray
def uc:=@Bool.false_ne_true
def ud:=@decide_eq_false
def ue:=@List.map_append
def uf:=@List.length_append
def ug:=@PySem.Heap.lt_size
def uh:=@PySem.Heap.get?_push_size
def ui:=@List.mem_cons_self
def uj:=@of_decide_eq_true
def uk:=@PySem.sizeLine_eq
def ul:=@List.length_cons
def um:=@List.getElem?_map
def uo:=@PySem.F.plainAttrs_str
def uq:=@List.append_assoc
def ur:=@Array.toList_append
def ut:=@List.drop_eq_getElem_cons
def uu:=@Nat.ne_of_lt
def uv:=@List.getElem_mem
def uw:=@PySem.F.slot_str_join
def uy:=@PySem.F.type_str_join
def uz:=@PySem.Heap.get?_update_other
def uA:=@PySem.Around.in1_units
def uB:=@PySem.wpAny_with_toks
def uC:=@Bool.false_eq_true
def uD:=@PySem.boot_len
def uE:=@List.mem_of_getElem?
def uF:=@Nat.zero_le
def uG:=@List.map_map
def uH:=@Bool.and_eq_true
def uI:=@Option.some.inj
def uJ:=@PySem.wpAny_mono
def uK:=@List.mem_append_right
def uL:=@PySem.F.plainAttrs_list
def uM:=@List.all_cons
def uN:=@List.all_append
def uO:=@PySem.wpAny_Call_Name_kw
def uP:=@PySem.Str.cps_append
def uQ:=@Nat.le_trans
def uR:=@PySem.W.mg_of
def uS:=@Nat.lt_irrefl
def uT:=@PySem.W.kia_one
def uU:=@List.append_nil
def uV:=@List.length_singleton
def uW:=@List.find?_cons
def uX:=@List.lookup_cons
def uY:=@Ne.symm
def uZ:=@Nat.lt_or_ge
def v5:=@List.take_of_length_le
def v6:=@PySem.wpAny_truthy_bool
def v7:=@PySem.F.entry_str_split
def v8:=@PySem.F.slot_list_append
def v9:=@PySem.F.type_list_append
def va:=@PySem.Heap.size_push
def vb:=@List.mem_cons
def vc:=@PySem.codeAny_call_builtin
def vd:=@Nat.le_of_lt
def ve:=@PySem.F.slot_str_split
def vf:=@List.drop_of_length_le
def vg:=@List.filterMap_cons
def vh:=@PySem.mem_of_lookup
def vi:=@PyProof.Rows.wpS_pure
def vj:=@Nat.ne_of_gt
def vk:=@Bool.eq_iff_iff
def vm:=@PyProof.Rows.boot_isinstance
def vn:=@decide_eq_decide
def vo:=@List.sum_cons
def vq:=@PySem.typeIs_str
def vt:=@PyProof.Rows.callWith_type1
def vv:=@List.cons.injEq
def vw:=@PySem.PassesOwn.never
def vx:=@List.map_congr_left
def vy:=@List.getElem?_append_right
def vz:=@List.length_take
def vA:=@List.length_drop
def vB:=@PySem.call_meets
def vC:=@PySem.Str.empty_append
def vD:=@List.mem_nil_iff
def vE:=@List.take_length
def vF:=@PySem.Calls.Constant_str
def vG:=@PySem.F.args_str_split_2
def vH:=@Nat.le_succ
def vI:=@List.getElem?_append_left
def vJ:=@List.getElem?_zip_eq_some
def vK:=@if_false
def vL:=@PySem.wpAny_execs_nil
def vM:=@PySem.wpAny_passesOwn
def vN:=@PySem.wpAny_pyIter_list
def vO:=@List.take_add_one
def vP:=@List.map_nil
def vQ:=@PySem.wpAny_attempt
def vR:=@PySem.wpAny_field
def vS:=@List.append_cancel_left
def vT:=@List.eq_nil_of_length_eq_zero
def vU:=@PyProof.Rows.boot_tuple
def vV:=@List.getElem?_set_self
def vW:=@PySem.Calls.callWith_builtin
def vX:=@List.drop_eq_nil_of_le
def vY:=@PySem.Calls.spliced_cons
def vZ:=@PySem.W.callWith_K
def U0:=@PySem.wpAny_setField_rec
def U1:=@Int.emod_lt_of_pos
def U2:=@PySem.codeAny_mono
def U3:=@PySem.F.slot_enumerate_next
def U4:=@PySem.wpAny_standAt
def U5:=@PySem.wpAny_call
def U6:=@PySem.wpAny_newObj_type
def U7:=@PySem.wpAny_loadPart_at
def U8:=@List.getElem?_set_ne
def U9:=@PySem.W.looks_findIn
def Ua:=@List.cons_append
def Ub:=@List.all_eq_true
def Uc:=@List.not_mem_nil
def Ud:=@Array.length_toList
def Ue:=@PySem.wpAny_getItem_list_slice
def Uf:=@Array.append_assoc
def Ug:=@if_true
def Uh:=@PySem.wpAny_loadPart'
def Ui:=@PySem.Code.quiet_builtin
def Uj:=@PySem.codeAny_builtin
def Uk:=@PySem.Obj.data_mapFields
def Ul:=@or_false
def Um:=@Int.emod_nonneg
def Uo:=@List.mem_singleton
def Uq:=@PySem.Calls.spliced_nil
def Ur:=@PySem.wpAny_rule
def Us:=@List.reverse_cons
def Ut:=@List.drop_zero
def Uu:=@List.all_map
def Uv:=@PySem.W.any_some
def Uw:=@Nat.lt_succ_self
def Ux:=@PySem.wpAny_call_entry
def Uy:=@PySem.wpAny_isInstance
def Uz:=@List.any_cons
def UA:=@Bool.and_true
def UB:=@PySem.wpAny_newList
def UC:=@beq_iff_eq
def UD:=@PyProof.Rows.TI.gone_get
namespace L2
open PySem PySem.Spec PyProof.Rows
abbrev Key:=Sum Int Str
def keyIs:Key->Value->Bool
 | .inl k,v=>Value.isInt k v
 | .inr x,v=>Value.isStrOf x v
def keyH (w:World):Key->Int
 | .inl k=>hashInt k
 | .inr x=>hashStr w x
theorem qO:∀{k:Key}{v:Value},keyIs k v=true->(∃i t,k=Sum.inl i/\v=Value.int i t)∨(∃x t,k=Sum.inr x/\v=Value.str x t)
 | .inl i,v,h=>by
  obtain⟨t,e⟩:=Value.isInt_shape (k:=i) (v:=v) h;exact .inl ⟨i,t,rfl,e⟩
 | .inr x,v,h=>by
  obtain⟨t,e⟩:=Value.isStrOf_shape (x:=x) (v:=v) h;exact .inr ⟨x,t,rfl,e⟩
theorem keyIs_int (i:Int)(t:Tok):keyIs (.inl i) (.int i t)=true:=by simp [keyIs,Value.isInt]
theorem keyIs_str (x:Str)(t:Tok):keyIs (.inr x) (.str x t)=true:=by simp [keyIs,Value.isStrOf]
theorem key_ll (a b:Int):decide ((Sum.inl a:Key)=Sum.inl b)=(a==b):=by
 by_cases e:a=b
 ·subst e;simp
 ·have h:¬(Sum.inl a:Key)=Sum.inl b:=fun q=>e (Sum.inl.inj q);rw [ud h];exact(beq_eq_false_iff_ne.mpr e).symm
theorem key_rr (a b:Str):decide ((Sum.inr a:Key)=Sum.inr b)=decide (a=b):=by
 by_cases e:a=b
 ·subst e;simp
 ·have h:¬(Sum.inr a:Key)=Sum.inr b:=fun q=>e (Sum.inr.inj q);rw [ud h,ud e]
theorem key_lr (a:Int)(b:Str):decide ((Sum.inl a:Key)=Sum.inr b)=false:=ud (fun q=>nomatch q)
theorem key_rl (a:Str)(b:Int):decide ((Sum.inr a:Key)=Sum.inl b)=false:=ud (fun q=>nomatch q)
def qL (prog:Program)(w:World):PySem.KeyKind prog w Key where
 is:=keyIs
 hash:=keyH w
 inj:=fun v a b ha hb=>by
  rcases qO ha with⟨i,t,rfl,rfl⟩|⟨x,t,rfl,rfl⟩
  ·rcases qO hb with⟨j,u,rfl,e⟩|⟨y,u,rfl,e⟩
   ·injection e with e1 _;rw [e1]
   ·exact nomatch e
  ·rcases qO hb with⟨j,u,rfl,e⟩|⟨y,u,rfl,e⟩
   ·exact nomatch e
   ·injection e with e1 _;rw [e1]
 byValue:=fun k v h=>by
  rcases qO h with⟨i,t,rfl,rfl⟩|⟨x,t,rfl,rfl⟩<;>rfl
 pyHash:=fun hv h=>by
  rcases qO hv with⟨i,t,rfl,rfl⟩|⟨x,t,rfl,rfl⟩
  ·exact wpAny_pyHash_int h
  ·exact wpAny_pyHash_str h
 eqBool:=fun hu hv h=>by
  rcases qO hu with⟨i,t,rfl,rfl⟩|⟨x,t,rfl,rfl⟩
  ·rcases qO hv with⟨j,u,rfl,rfl⟩|⟨y,u,rfl,rfl⟩
   ·rw [key_ll] at h;exact wpAny_eqBool_int h
   ·rw [key_lr] at h;exact SeqAt.EqAt.int_str i t y u _ _ _ _ h
  ·rcases qO hv with⟨j,u,rfl,rfl⟩|⟨y,u,rfl,rfl⟩
   ·rw [key_rl] at h;exact SeqAt.EqAt.str_int x t j u _ _ _ _ h
   ·rw [key_rr] at h;exact wpAny_eqBool_str h
 «strs»:=fun k x t v h=>by
  rcases qO h with⟨i,u,rfl,e⟩|⟨y,u,rfl,e⟩
  ·exact nomatch e
  ·injection e with e1 _
   subst e1
   cases v<;>rfl
theorem mixKind_int (prog:Program)(w:World)(i:Int)(t:Tok):(qL prog w).is (.inl i) (.int i t)=true:=keyIs_int i t
theorem JY (prog:Program)(w:World)(x:Str)(t:Tok):(qL prog w).is (.inr x) (.str x t)=true:=keyIs_str x t
inductive V where
 |non|bl (b:Bool)|int (i:Int)|str (x:Str)|byt (b:Array UInt8)|flt (b:UInt64)|ref (a:Addr)|ty (n:String)
 deriving DecidableEq
def RelV:V->Value->Prop
 | .non,u=>u=Value.none
 | .bl b,u=>u=Value.bool b
 | .int i,u=>∃t,u=Value.int i t
 | .str x,u=>∃t,u=Value.str x t
 | .byt b,u=>∃t,u=Value.bytes b t
 | .flt b,u=>∃t,u=Value.float b t
 | .ref a,u=>u=Value.ref a
 | .ty n,u=>u=Value.type n
abbrev Vals:List V->List Value->Prop:=Paired RelV
theorem Vals.length {xs:List V}{us:List Value}(r:Vals xs us):xs.length=us.length:=Paired.length r
theorem Vals.get:∀{xs:List V}{us:List Value}{i:Nat}{x:V},Vals xs us->xs[i]? =some x->∃u,us[i]? =some u/\RelV x u
 |_,_,_,_,.nil,e=>by simp at e
 |_,_,0,_,.cons r _,e=>by simp at e;subst e;exact⟨_,rfl,r⟩
 |_,_,i+1,x,.cons _ t,e=>by
  obtain⟨u,h1,h2⟩:=Vals.get (i:=i) (x:=x) t (by simpa using e)
  exact⟨u,by simpa using h1,h2⟩
theorem Vals.set {x:V}{u:Value}(r:RelV x u):∀{xs:List V}{us:List Value} (i:Nat),Vals xs us->Vals (xs.set i x) (us.set i u)
 |_,_,_,.nil=> .nil
 |_,_,0,.cons _ t=> .cons r t
 |_,_,i+1,.cons q t=> .cons q (Vals.set r i t)
theorem Vals.append:∀{xs ys:List V}{us ws:List Value},Vals xs us->Vals ys ws->Vals (xs++ys) (us++ws)
 |_,_,_,_,.nil,s=>s
 |_,_,_,_,.cons r t,s=> .cons r (Vals.append t s)
theorem Vals.take:∀{xs:List V}{us:List Value} (n:Nat),Vals xs us->Vals (xs.take n) (us.take n)
 |_,_,0,_=> .nil
 |_,_,_+1,.nil=> .nil
 |_,_,n+1,.cons r t=> .cons r (Vals.take n t)
theorem Vals.drop:∀{xs:List V}{us:List Value} (n:Nat),Vals xs us->Vals (xs.drop n) (us.drop n)
 |_,_,0,r=>r
 |_,_,_+1,.nil=> .nil
 |_,_,n+1,.cons _ t=>Vals.drop n t
def RelO:Option V->Option Value->Prop
 |some v,some u=>RelV v u
 |none,none=>True
 |_,_=>False
def KV {κ:Type}:List (κ×V)->List (κ×Value)->Prop:=Paired fun(p:κ×V) (q:κ×Value)=>p.1=q.1/\RelV p.2 q.2
def kV:Key->V
 | .inl i=> .int i
 | .inr x=> .str x
inductive HO where
 |lst (xs:List V)
 |tup (xs:List V)
 |dK (kvs:List (Key×V))|dT (kvs:List (List Key×V))
 |set (S:Int->Bool) (n:Nat)
 |ins (C dx:Addr) (fs:List (Str×V))
 |own (x:Addr)
 |xd (fs:List (Str×V))
 |met (f x:Addr)
 |rng (lo hi:Int)
 |frz (o:Obj) (u:HO)
 |tbl (ps:Array Value)
 |ext (φ:Heap->Prop)
abbrev Hp:=Addr->Option HO
def upd (H:Hp)(a:Addr)(o:HO):Hp:=fun b=>if b=a then some o else H b
theorem qe {H:Hp}{a:Addr}{o:HO}:upd H a o a=some o:=by unfold upd;rw [if_pos rfl]
theorem ql {H:Hp}{a b:Addr}{o:HO}(h:b≠a):upd H a o b=H b:=by unfold upd;rw [if_neg h]
theorem ne_of {H:Hp}{a b:Addr}{o u:HO}(h:H a=some o)(h':H b=some u)(d:o≠u):a≠b:=by
 intro e;subst e;rw [h] at h';exact d (uI h')
theorem qh {H:Hp}{a b:Addr}{o:HO}(h:H a=some o)(h':H b=none):a≠b:=by
 intro e;subst e;rw [h] at h';cases h'
section
variable (P:Program)(w:World)
def qU (H:Hp)(h:Heap)(a:Addr):HO->Prop
 | .lst xs=>xs.length<=sizeLine/\∃(its:List Value) (n:Nat),Vals xs its/\h.get? a=some {cls:= .type "list",data:= .seq its.toArray n}
 | .tup xs=>xs.length<=sizeLine/\∃its:List Value,Vals xs its/\IsTup h a its.toArray
 | .dK kvs=>kvs.length<=sizeLine/\(a==sysModules)=false/\∃vs,KV kvs vs/\h.DictOf (qL P w) a vs
 | .dT kvs=>kvs.length<=sizeLine/\(a==sysModules)=false/\∃xs:List (List Key×Addr×Value),
   Paired (fun(p:List Key×V) (q:List Key×Addr×Value)=>p.1=q.1/\H q.2.1=some (.tup (p.1.map kV))/\RelV p.2 q.2.2) kvs xs/\
   ∃o es ep,h.get? a=some o/\o.ExactDict/\o.data= .dict es ep/\es.toList=xs.map (entryOfKey (tupleKind (qL P w)))/\(xs.map (·.1)).Nodup
 | .set S n=>h.SetOf (intKind P w) a S n
 | .ins C dx fs=>H dx=some (.own a)/\fs.length<=1000/\dx≠a/\h.get? a=some (PySem.W.instObj C dx)/\
   ∃mA,h.Ns1 dx mA/\(∀f,RelO (fs.lookup f) (mA f))/\PySem.Within mA (fs.map (·.1))
 | .own _=>∃o,h.get? a=some o
 | .xd fs=>∃mA,h.Ns1 a mA/\∀f,RelO (fs.lookup f) (mA f)
 | .rng lo hi=>∃t u v,h.get? a=some {cls:= .type "range",data:= .fields #[.int lo t,.int hi u,.int 1 v]}
 | .frz o u=>h.get? a=some o/\qU H h a u
 | .tbl ps=>h.get? a=some {cls:= .none,data:= .fields ps}
 | .met f x=>h.get? a=some (PySem.W.methodObj (.ref f) (.ref x))
 | .ext φ=>φ h/\(∃o,h.get? a=some o)/\∀h1 h2:Heap,φ h1->(∀o,h1.get? a=some o->h2.get? a=some o)->φ h2
def HOk (H:Hp)(h:Heap):Prop:=∀a o,H a=some o->qU P w H h a o
end
section
variable {P:Program}{w:World}{H H':Hp}{h h':Heap}{a:Addr}{o:HO}
theorem qU.lt (x:qU P w H h a o):a<h.objs.size:=by
 cases o with
 |lst xs=>obtain⟨_,_,_,_,e⟩:=x;exact ug e
 |tup xs=>obtain⟨_,_,_,p⟩:=x;exact p.lt
 |dK kvs=>obtain⟨_,_,_,_,o,_,_,e,_⟩:=x;exact ug e
 |dT kvs=>obtain⟨_,_,_,_,o,_,_,e,_⟩:=x;exact ug e
 |set S n=>obtain⟨o,_,_,_,e,_⟩:=x;exact ug e
 |ins C dx fs=>obtain⟨_,_,_,e,_⟩:=x;exact ug e
 |own y=>obtain⟨_,e⟩:=x;exact ug e
 |xd fs=>obtain⟨_,⟨_,_,_,e,_⟩,_⟩:=x;exact ug e
 |rng lo hi=>obtain⟨_,_,_,e⟩:=x;exact ug e
 |frz ob u=>obtain⟨e,_⟩:=x;exact ug e
 |tbl ps=>exact ug (show h.get? a=some _ from x)
 |met f y=>exact ug (show h.get? a=some _ from x)
 |ext φ=>obtain⟨_,⟨_,e⟩,_⟩:=x;exact ug e
theorem Paired.mapP {α β:Type}{F G:α->β->Prop}:∀{l₁:List α}{O:List β},Paired F l₁ O->(∀a b,F a b->G a b)->Paired G l₁ O
 |_,_,.nil,_=> .nil
 |_,_,.cons r t,f=> .cons (f _ _ r) (Paired.mapP t f)
theorem qU.stay (x:qU P w H h a o)(k:∀b u,(b=a∨H b=some (.own a))->h.get? b=some u->h'.get? b=some u)
  (O:∀b,H b=some (.own a)->H' b=some (.own a)) (U:∀b xs,H b=some (.tup xs)->H' b=some (.tup xs)):qU P w H' h' a o:=by
 induction o with
 |lst xs=>obtain⟨z,its,n,r,e⟩:=x;exact⟨z,its,n,r,k _ _ (.inl rfl) e⟩
 |tup xs=>obtain⟨z,its,r,ob,e,c⟩:=x;exact⟨z,its,r,ob,k _ _ (.inl rfl) e,c⟩
 |dK kvs=>obtain⟨z,y,vs,r,ob,es,ep,e,c⟩:=x;exact⟨z,y,vs,r,ob,es,ep,k _ _ (.inl rfl) e,c⟩
 |dT kvs=>
  obtain⟨z,y,xs,r,ob,es,ep,e,c⟩:=x;exact⟨z,y,xs,Paired.mapP r fun p q z=>⟨z.1,U _ _ z.2.1,z.2.2⟩,ob,es,ep,k _ _ (.inl rfl) e,c⟩
 |set S n=>obtain⟨ob,es,ep,t,e,c⟩:=x;exact⟨ob,es,ep,t,k _ _ (.inl rfl) e,c⟩
 |ins C dx fs=>
  obtain⟨d,z,ne,e,mA,⟨od,es,ep,Y,c⟩,r⟩:=x;exact⟨O _ d,z,ne,k _ _ (.inl rfl) e,mA,⟨od,es,ep,k _ _ (.inr d) Y,c⟩,r⟩
 |own y=>obtain⟨ob,e⟩:=x;exact⟨ob,k _ _ (.inl rfl) e⟩
 |xd fs=>obtain⟨mA,⟨od,es,ep,e,c⟩,r⟩:=x;exact⟨mA,⟨od,es,ep,k _ _ (.inl rfl) e,c⟩,r⟩
 |rng lo hi=>obtain⟨t,u,v,e⟩:=x;exact⟨t,u,v,k _ _ (.inl rfl) e⟩
 |frz ob u ih=>obtain⟨e,q⟩:=x;exact⟨k _ _ (.inl rfl) e,ih q⟩
 |tbl ps=>
  have e:h.get? a=some {cls:= .none,data:= .fields ps}:=x;show h'.get? a=some {cls:= .none,data:= .fields ps};exact k a _ (.inl rfl) e
 |met f y=>
  have e:h.get? a=some (PySem.W.methodObj (.ref f) (.ref y)):=x;show h'.get? a=some (PySem.W.methodObj (.ref f) (.ref y));exact k a _ (.inl rfl) e
 |ext φ=>obtain⟨p,⟨o,e⟩,st⟩:=x;exact⟨st _ _ p fun o q=>k _ _ (.inl rfl) q,⟨o,k _ _ (.inl rfl) e⟩,st⟩
theorem HOk.lt (x:HOk P w H h)(e:H a=some o):a<h.objs.size:=(x a o e).lt
theorem HOk.fresh (x:HOk P w H h)(e:h.objs.size<=a):H a=none:=by
 cases q:H a with
 |none=>rfl
 |some u=>exact absurd (Nat.lt_of_lt_of_le (x.lt q) e) (uS _)
theorem HOk.kept (x:HOk P w H h)(k:∀b u,h.get? b=some u->h'.get? b=some u):HOk P w H h':=fun a o e=>
 (x a o e).stay (fun b u _ q=>k b u q) (fun _ q=>q) fun _ _ q=>q
theorem HOk.laid (x:HOk P w H h)(k:∀b u,h.get? b=some u->h'.get? b=some u)(U:h.objs.size<=a)(new:qU P w (upd H a o) h' a o):HOk P w (upd H a o) h':=fun b u e=>by
 have hn:=x.fresh U;by_cases O:b=a
 ·subst O;rw [qe] at e;cases e;exact new
 ·rw [ql O] at e;exact(x b u e).stay (fun c v _ q=>k c v q) (fun c q=>by rw [ql (qh q hn)];exact q) fun c xs q=>by rw [ql (qh q hn)];exact q
end
def Rd (H:Hp)(a:Addr)(u:HO):Prop:=H a=some u∨∃o,H a=some (.frz o u)
theorem Rd.of {H:Hp}{a:Addr}{u:HO}(h:H a=some u):Rd H a u:= .inl h
theorem Rd.ok {P:Program}{w:World}{H:Hp}{h:Heap}{a:Addr}{u:HO}(r:Rd H a u)(x:HOk P w H h):qU P w H h a u:=by
 rcases r with r|⟨o,r⟩
 ·exact x a u r
 ·obtain⟨_,q⟩:=x a _ r;exact q
def Mut:Option HO->Prop
 |some (.lst _)=>True
 |some (.dK _)=>True
 |some (.dT _)=>True
 |some (.set _ _)=>True
 |some (.ins _ _ _)=>True
 |some (.ext _)=>True
 |_=>False
section
variable {P:Program}{w:World}{H:Hp}{h h':Heap}{x e:Addr}{o':HO}
theorem HOk.write (ok:HOk P w H h)(mu:Mut (H x))(he:e=x∨H e=some (.own x))(k:∀b u,b≠e->h.get? b=some u->h'.get? b=some u)(aa:∃u,h'.get? e=some u)
  (new:qU P w (upd H x o') h' x o'):HOk P w (upd H x o') h':=fun b u q=>by
 have U:∀c y,H c=some (.own y)->c≠x:=fun c y r z=>by subst z;rw [r] at mu;exact mu
 have Y:∀c xs,H c=some (.tup xs)->c≠x:=fun c xs r z=>by subst z;rw [r] at mu;exact mu
 by_cases hb:b=x
 ·subst hb;rw [qe] at q;cases q;exact new
 ·rw [ql hb] at q;by_cases O:b=e
  ·have q':H b=some (.own x):=by
    rcases he with z|z
    ·exact absurd (O.trans z) hb
    ·rw [O];exact z
   rw [q] at q';cases q';obtain⟨v,hv⟩:=aa;exact⟨v,by rw [O];exact hv⟩
  ·refine(ok b u q).stay (fun c v hc r=>k c v ?_ r) (fun c r=>by rw [ql (U c b r)];exact r) fun c xs r=>by rw [ql (Y c xs r)];exact r
   rcases hc with rfl|hc
   ·exact O
   ·rintro rfl;rcases he with z|z
    ·exact U c b hc z
    ·rw [hc] at z;cases z;exact hb rfl
end
structure Un (fs ex:List Addr)(H H':Hp)(h h':Heap):Prop where
 keep:∀b o,h.get? b=some o->H b=none->b∉fs->b∉ex->h'.get? b=some o
 slot:∀b o,h.get? b=some o->H b=none->b∈fs->b∉ex->∃sl,h'.get? b=some {o with slots:=sl}
 free:∀b o,h.get? b=some o->H b=none->b∉ex->H' b=none
 there:∀b o,h.get? b=some o->b∉ex->∃o',h'.get? b=some o'
 tups:∀b xs,H b=some (.tup xs)->H' b=some (.tup xs)
 frzs:∀b o u,H b=some (.frz o u)->H' b=some (.frz o u)
 tbls:∀b ps,H b=some (.tbl ps)->∃more,H' b=some (.tbl (ps++more))
section
variable {fs fs' ex ex':List Addr}{H H1 H2:Hp}{h h1 h2 h':Heap}{a x e:Addr}{o:HO}
theorem Un.any (u:Un fs ex H H1 h h1){b:Addr}{ob:Obj}(q:h.get? b=some ob)(n:H b=none)(O:b∉ex):∃sl,h1.get? b=some {ob with slots:=sl}:=by
 by_cases U:b∈fs
 ·exact u.slot b ob q n U O
 ·exact⟨ob.slots,u.keep b ob q n U O⟩
theorem Un.trans (a:Un fs ex H H1 h h1)(b:Un fs ex H1 H2 h1 h2):Un fs ex H H2 h h2 where
 keep:=fun c ob q n Y O=>b.keep c ob (a.keep c ob q n Y O) (a.free c ob q n O) Y O
 slot:=fun c ob q n Y O=>by
  obtain⟨sl,U⟩:=a.slot c ob q n Y O;obtain⟨aa,e2⟩:=b.slot c _ U (a.free c ob q n O) Y O;exact⟨aa,e2⟩
 free:=fun c ob q n O=>by
  obtain⟨o',U⟩:=a.there c ob q O;exact b.free c o' U (a.free c ob q n O) O
 there:=fun c ob q O=>by
  obtain⟨o',U⟩:=a.there c ob q O;exact b.there c o' U O
 tups:=fun c xs q=>b.tups c xs (a.tups c xs q)
 frzs:=fun c ob xs q=>b.frzs c ob xs (a.frzs c ob xs q)
 tbls:=fun c ps q=>by
  obtain⟨m1,U⟩:=a.tbls c ps q;obtain⟨m2,e2⟩:=b.tbls c _ U;exact⟨m1++m2,by rw [e2,Uf]⟩
theorem Un.kept (k:∀b u,h.get? b=some u->h'.get? b=some u):Un fs ex H H h h':=
 ⟨fun b ob q _ _ _=>k b ob q,fun b ob q _ _ _=>⟨ob.slots,k b ob q⟩,fun _ _ _ n _=>n,fun b ob q _=>⟨ob,k b ob q⟩,fun _ _ q=>q,fun _ _ _ q=>q,fun _ ps q=>⟨#[],by rw [q];simp⟩⟩
theorem Un.refl:Un fs ex H H h h:=Un.kept fun _ _ q=>q
theorem Un.laid (k:∀b u,h.get? b=some u->h'.get? b=some u)(O:h.objs.size<=a)(hn:H a=none):Un fs ex H (upd H a o) h h' where
 keep:=fun b u q _ _ _=>k b u q
 slot:=fun b u q _ _ _=>⟨u.slots,k b u q⟩
 free:=fun b u q n _=>by rw [ql (uu (Nat.lt_of_lt_of_le (ug q) O))];exact n
 there:=fun b u q _=>⟨u,k b u q⟩
 tups:=fun b xs q=>by rw [ql (qh q hn)];exact q
 frzs:=fun b u xs q=>by rw [ql (qh q hn)];exact q
 tbls:=fun b ps q=>⟨#[],by rw [ql (qh q hn),q];simp⟩
theorem Un.write (U:Mut (H x))(he:e=x∨H e=some (.own x))(k:∀b u,b≠e->h.get? b=some u->h'.get? b=some u)(Y:∃u,h'.get? e=some u):Un fs ex H (upd H x o) h h':=by
 have hx:∀b,H b=none->b≠x:=fun b n z=>by subst z;rw [n] at U;exact U
 have hb:∀b,H b=none->b≠e:=fun b n z=>by
  subst z;rcases he with r|r
  ·exact hx b n r
  ·rw [n] at r;cases r
 have hm:∀b u,H b=some u->¬Mut (some u)->b≠x:=fun b u q nm z=>by subst z;rw [q] at U;exact nm U
 refine⟨fun b u q n _ _=>k b u (hb b n) q,fun b u q n _ _=>⟨u.slots,k b u (hb b n) q⟩,fun b u q n _=>by rw [ql (hx b n)];exact n,fun b u q _=> ?_,
  fun b xs q=>by rw [ql (hm b _ q fun z=>z)];exact q,fun b u xs q=>by rw [ql (hm b _ q fun z=>z)];exact q,fun b ps q=>⟨#[],by rw [ql (hm b _ q fun z=>z),q];simp⟩⟩
 by_cases O:b=e
 ·subst O;exact Y
 ·exact⟨u,k b u O q⟩
end
def trk (h:Heap)(H:Hp):List Addr:=(List.range h.objs.size).filter fun a=>(H a).isSome
def hidT (h:Heap)(H:Hp):Heap:=PySem.W.hideAll h (trk h H)
theorem hidT_size (h:Heap)(H:Hp):(hidT h H).objs.size=h.objs.size:=PySem.W.hideAll_size _ _
theorem hidT_get {h:Heap}{H:Hp}{b:Addr}{o:Obj}(e:h.get? b=some o)(n:H b=none):(hidT h H).get? b=some o:=
 PySem.W.hideAll_get _ e fun hm=>by
  have q:(H b).isSome=true:=(List.mem_filter.mp hm).2;rw [n] at q;simp at q
theorem of_hidT {h:Heap}{H:Hp}{b:Addr}{o:Obj}(e:(hidT h H).get? b=some o):h.get? b=some o/\H b=none:=by
 have O:h.get? b=some o:=PySem.W.of_hideAll (trk h H) e;refine⟨O,?_⟩;cases q:H b with
 |none=>rfl
 |some x=>
  have hm:b∈trk h H:=List.mem_filter.mpr ⟨List.mem_range.mpr (ug O),by simp [q]⟩
  have z:(hidT h H).get? b=none:=PySem.W.hideAll_none (trk h H) hm;rw [z] at e;cases e
structure Mod (K:PySem.W.Frag)(mg:Str->Option Value)(base:Heap):Prop where
 kin:K.In base
 glob:base.Ns mainGlobals mg
 blt:∃mb,base.Ns builtinsNs mb/\∀x:Str,x≠"__name__"->mb x=bootBuiltins x
 nolimit:base.NoLimit
structure Cx where
 prog:Program
 w:World
 K:PySem.W.Frag
 mg:Str->Option Value
 base:Heap
 A:Around
 N:List Str
 s₀:Shared
 H₀:Hp
 env:Env
 outer:List Env
 stack:List Env
 ex:List Addr
 fn:Str->Bool
 calm:Bool
 pn:List (Addr×Obj)
 xe:Value->Shared->Prop
def frs (l:List Env):List Addr:=l.filterMap (·.frame)
abbrev Cx.fs (X:Cx):List Addr:=frs X.outer
def Vis (sc:Scope)(x:Str):Prop:=sc.names.lookup x=some .local∨sc.names.lookup x=some .cell∨sc.names.lookup x=some .free
def Loc (sc:Scope)(x:Str):Prop:=sc.names.lookup x=some .local∨sc.names.lookup x=some .cell
def Look (env:Env)(h:Heap)(m:Str->Option Value)(x:Str)(u:Value):Prop:=
 (env.kindOf x=some .local/\m x=some u)∨((env.kindOf x=some .cell∨env.kindOf x=some .free)/\∃c,env.cells.lookup x=some c/\h.IsCell c (some u))
structure Cx.Ok (X:Cx):Prop where
 mod:Mod X.K X.mg X.base
 kind:X.env.scope.kind= .function
 glob:X.env.globals=mainGlobals
 blt:X.env.builtins=builtinsNs
 above:X.s₀.heap.objs.size<=X.env.locals
 inj:∀x y c,X.env.cells.lookup x=some c->X.env.cells.lookup y=some c->x=y
 has:∀x,(X.env.kindOf x=some .cell∨X.env.kindOf x=some .free)->∃c,X.env.cells.lookup x=some c
 cab:∀x c,X.fn x=true->X.env.cells.lookup x=some c->X.s₀.heap.objs.size<=c
 hd:X.calm=true->X.A.handled=none
 frames:X.A.frames=some X.stack
 stk:X.stack=X.outer∨(X.stack=X.env::X.outer/\X.env.frame=some X.env.locals)
 exf:∀b∈X.ex,b≠X.env.locals/\∀x c,X.env.cells.lookup x=some c->c≠b
 bs:∀b o,X.base.get? b=some o->X.s₀.heap.get? b=some o/\X.H₀ b=none
 bsz:X.base.objs.size<=X.s₀.heap.objs.size
 noex:∀b o,X.base.get? b=some o->b∉X.ex
 exfs:∀b∈X.ex,b∉X.fs
 funs:X.s₀.heap.FunFrames X.base X.outer
 frf:∀b∈X.fs,X.H₀ b=none
structure Inv (X:Cx)(pins:List (Addr×Obj))(σ:List (Option V))(H:Hp)(s:Shared):Prop where
 ok:X.Ok
 os:s.os=X.s₀.os
 bare:AllBare s.gens
 base:Un X.fs X.ex X.H₀ H X.s₀.heap s.heap
 loc:∃m,s.heap.Ns X.env.locals m/\∀(i:Nat) (x:Str) (v:V),X.N[i]? =some x->σ[i]? =some (some v)->Vis X.env.scope x->∃u,RelV v u/\Look X.env s.heap m x u
 cell:∀x c,X.env.cells.lookup x=some c->∃v,s.heap.IsCell c v
 free:H X.env.locals=none
 freeC:∀x c,X.env.cells.lookup x=some c->H c=none
 pin:∀p∈X.pn++pins,s.heap.get? p.1=some p.2/\H p.1=none/\p.1≠X.env.locals/\p.1∉X.fs/\∀v,p.2.data≠ .cell v
 hok:HOk X.prog X.w H s.heap
 len:σ.length=X.N.length
 tk:0<s.toks
section
variable {X:Cx}{pins:List (Addr×Obj)}{σ:List (Option V)}{H H':Hp}{s:Shared}{h':Heap}
theorem Cx.Ok.nofr (ok:X.Ok){b:Addr}{o:Obj}(e:X.base.get? b=some o):b∉X.fs:=fun O=>by
 have:=(ok.funs.mem O).1;rw [e] at this;cases this
theorem Inv.bs (I:Inv X pins σ H s):∀b o,X.base.get? b=some o->s.heap.get? b=some o/\H b=none:=fun b o e=>
 ⟨I.base.keep b o (I.ok.bs b o e).1 (I.ok.bs b o e).2 (I.ok.nofr e) (I.ok.noex b o e),I.base.free b o (I.ok.bs b o e).1 (I.ok.bs b o e).2 (I.ok.noex b o e)⟩
theorem Inv.bk (I:Inv X pins σ H s):∀b o,X.base.get? b=some o->s.heap.get? b=some o:=fun b o e=>(I.bs b o e).1
theorem Inv.mod (I:Inv X pins σ H s):Mod X.K X.mg X.base:=I.ok.mod
theorem Inv.kIn (I:Inv X pins σ H s):X.K.In s.heap:=I.ok.mod.kin.keeps I.bk
theorem Inv.lt (I:Inv X pins σ H s):X.env.locals<s.heap.objs.size:=let⟨_,hn,_⟩:=I.loc;hn.lt
theorem Inv.sz (I:Inv X pins σ H s):X.s₀.heap.objs.size<=s.heap.objs.size:=uQ I.ok.above (vd I.lt)
theorem Inv.nofs (I:Inv X pins σ H s){a:Addr}(h:s.heap.objs.size<=a):a∉X.fs:=fun O=>by
 obtain⟨_,o,U,_⟩:=I.ok.funs.mem O;exact absurd (Nat.lt_of_lt_of_le (ug U) (uQ I.sz h)) (uS _)
theorem Inv.cne (I:Inv X pins σ H s):∀x c,X.env.cells.lookup x=some c->c≠X.env.locals:=fun x c e z=>by
 obtain⟨v,o,Y,hd⟩:=I.cell x c e;obtain⟨m,⟨o',es,ep,O,U,_⟩,_⟩:=I.loc;rw [z,O] at Y;cases Y;rw [U] at hd;cases hd
theorem Inv.funs (I:Inv X pins σ H s):s.heap.FunFrames X.base X.outer:=by
 have all:∀(l:List Env),(∀b∈frs l,b∈X.fs)->X.s₀.heap.FunFrames X.base l->s.heap.FunFrames X.base l:=by
  intro l
  induction l with
  |nil=>intro _ _;trivial
  |cons env r ih=>
   intro hs hl;obtain⟨hk,⟨L,o,O,hn,ho,hd⟩,hr⟩:=hl;have U:L∈X.fs:=hs L (by unfold frs;rw [vg,O];exact ui)
   obtain⟨sl,e⟩:=I.base.slot L o ho (I.ok.frf L U) U fun z=>I.ok.exfs L z U;exact⟨hk,⟨L,_,O,hn,e,hd⟩,ih (fun b Y=>hs b (by unfold frs;rw [vg,O];exact u5 _ Y)) hr⟩
 exact all X.outer (fun _ Y=>Y) I.ok.funs
theorem Inv.stack (I:Inv X pins σ H s):s.heap.FunFrames X.base X.stack:=by
 rcases I.ok.stk with e|⟨e,O⟩
 ·rw [e];exact I.funs
 ·rw [e];obtain⟨m,hn,_⟩:=I.loc;refine .cons (by rw [I.ok.kind];decide) O hn ?_ I.funs
  exact Heap.get?_none_of_le (uQ I.ok.bsz I.ok.above)
theorem Inv.stkSub (I:Inv X pins σ H s):∀b∈frs X.stack,b∈X.env.locals::X.fs:=fun b O=>by
 rcases I.ok.stk with e|⟨e,U⟩
 ·rw [e] at O;exact u5 _ O
 ·rw [e] at O;unfold frs at O;rw [vg,U] at O;exact O
theorem Inv.stkFree (I:Inv X pins σ H s):∀b∈frs X.stack,H b=none:=fun b O=>by
 rcases List.mem_cons.mp (I.stkSub b O) with e|O
 ·rw [e];exact I.free
 ·obtain⟨_,o,U,_⟩:=I.ok.funs.mem O;exact I.base.free b o U (I.ok.frf b O) fun z=>I.ok.exfs b z O
theorem Inv.step {g':Array GenState}{t':Nat}{d':Drawn}{ch:List Addr}(I:Inv X pins σ H s)
  (U:∀b∈ch,(b∈X.ex∨X.s₀.heap.objs.size<=b)/\b≠X.env.locals/\(∀x c,X.env.cells.lookup x=some c->c≠b)/\∀p∈X.pn++pins,p.1≠b)
  (keep:∀b o,b≠X.env.locals->b∉X.fs->b∉ch->s.heap.get? b=some o->H b=none->h'.get? b=some o)
  (slot:∀b o,b≠X.env.locals->b∈X.fs->b∉ch->s.heap.get? b=some o->H b=none->∃sl,h'.get? b=some {o with slots:=sl}) (free:∀b o,b∉ch->s.heap.get? b=some o->H b=none->H' b=none)
  (there:∀b o,b∉ch->s.heap.get? b=some o->∃o',h'.get? b=some o')
  (tups:∀b xs,H b=some (.tup xs)->H' b=some (.tup xs)) (frzs:∀b o u,H b=some (.frz o u)->H' b=some (.frz o u)) (tbls:∀b ps,H b=some (.tbl ps)->∃more,H' b=some (.tbl (ps++more)))
  (ns:∀m,s.heap.Ns X.env.locals m->h'.Ns X.env.locals m) (hok:HOk X.prog X.w H' h') (hg:AllBare g') (ht:0<t':=by((try dsimp only);first|assumption|exact Inv.tk (by assumption)|exact Nat.succ_pos _|exact Nat.lt_of_lt_of_le (Inv.tk (by assumption)) (by assumption)|exact Nat.add_pos_left (Inv.tk (by assumption)) _|omega)):
  Inv X pins σ H' {s with heap:=h',gens:=g',drawn:=d',toks:=t'}:=by
 have ad:∀b o,X.s₀.heap.get? b=some o->b≠X.env.locals:=fun b o e=>uu (Nat.lt_of_lt_of_le (ug e) I.ok.above);have ac:∀b o,X.s₀.heap.get? b=some o->b∉X.ex->b∉ch:=fun b o e O hb=>by
  rcases(U b hb).1 with z|z
  ·exact O z
  ·exact absurd (Nat.lt_of_lt_of_le (ug e) z) (uS _)
 have Y:∀x c,X.env.cells.lookup x=some c->∀v,s.heap.IsCell c v->h'.IsCell c v:=fun x c e v ⟨o,ho,hd⟩=>by
  have aa:c∉ch:=fun z=>(U c z).2.2.1 x c e rfl;by_cases hc:c∈X.fs
  ·obtain⟨sl,q⟩:=slot c o (I.cne x c e) hc aa ho (I.freeC x c e);exact⟨_,q,hd⟩
  ·exact⟨o,keep c o (I.cne x c e) hc aa ho (I.freeC x c e),hd⟩
 refine⟨I.ok,I.os,hg,⟨fun b o e n hb O=> ?_,fun b o e n hb O=> ?_,fun b o e n O=> ?_,fun b o e O=> ?_,fun b xs e=>tups b xs (I.base.tups b xs e),fun b o xs e=>frzs b o xs (I.base.frzs b o xs e),fun b ps e=> ?_⟩,?_,fun x c e=> ?_,?_,fun x c e=> ?_,fun p hp=> ?_,hok,I.len,ht⟩
 ·exact keep b o (ad b o e) hb (ac b o e O) (I.base.keep b o e n hb O) (I.base.free b o e n O)
 ·obtain⟨sl,e1⟩:=I.base.slot b o e n hb O;obtain⟨ae,e2⟩:=slot b _ (ad b o e) hb (ac b o e O) e1 (I.base.free b o e n O);exact⟨ae,e2⟩
 ·obtain⟨o',e1⟩:=I.base.there b o e O;exact free b o' (ac b o e O) e1 (I.base.free b o e n O)
 ·obtain⟨o',e1⟩:=I.base.there b o e O;exact there b o' (ac b o e O) e1
 ·obtain⟨m1,e1⟩:=I.base.tbls b ps e;obtain⟨m2,e2⟩:=tbls b _ e1;exact⟨m1++m2,by rw [e2,Uf]⟩
 ·obtain⟨m,hn,hl⟩:=I.loc;refine⟨m,ns m hn,fun i x v e1 e2 e3=> ?_⟩;obtain⟨u,r,l⟩:=hl i x v e1 e2 e3;refine⟨u,r,?_⟩;rcases l with l|⟨k,c,e,z⟩
  ·exact .inl l
  ·exact .inr ⟨k,c,e,Y x c e _ z⟩
 ·obtain⟨v,z⟩:=I.cell x c e;exact⟨v,Y x c e v z⟩
 ·obtain⟨m,⟨o,_,_,ho,_⟩,_⟩:=I.loc;exact free _ o (fun z=>(U _ z).2.1 rfl) ho I.free
 ·obtain⟨v,o,ho,hd⟩:=I.cell x c e;exact free c o (fun z=>(U c z).2.2.1 x c e rfl) ho (I.freeC x c e)
 ·obtain⟨e,n,ne,nf,d⟩:=I.pin p hp;have aa:p.1∉ch:=fun z=>(U p.1 z).2.2.2 p hp rfl;exact⟨keep p.1 p.2 ne nf aa e n,free p.1 p.2 aa e n,ne,nf,d⟩
theorem Inv.un {t':Nat}(I:Inv X pins σ H s)(u:Un X.fs [] H H' s.heap h')(hok:HOk X.prog X.w H' h')(ht:0<t':=by((try dsimp only);first|assumption|exact Inv.tk (by assumption)|exact Nat.succ_pos _|exact Nat.lt_of_lt_of_le (Inv.tk (by assumption)) (by assumption)|exact Nat.add_pos_left (Inv.tk (by assumption)) _|omega)):Inv X pins σ H' {s with heap:=h',toks:=t'}:=by
 obtain⟨m,⟨o,es,ep,ho,r⟩,_⟩:=id I.loc;obtain⟨sl,hL⟩:=u.any ho I.free (by simp)
 exact I.step (g':=s.gens) (d':=s.drawn) (ch:= []) (fun _ z=>nomatch z) (fun b o _ U _ e n=>u.keep b o e n U (by simp)) (fun b o _ U _ e n=>u.slot b o e n U (by simp)) (fun b o _ e n=>u.free b o e n (by simp)) (fun b o _ e=>u.there b o e (by simp)) u.tups u.frzs u.tbls (fun m' hm=>by
  obtain⟨o',Y,aa,O,r'⟩:=hm;rw [ho] at O;cases O;exact⟨_,Y,aa,hL,r'⟩) hok I.bare
theorem Inv.call {g':Array GenState}{t':Nat}{d':Drawn}{ch:List Addr}(I:Inv X pins σ H s)(u:Un (frs X.stack) ch H H' s.heap h')(hok:HOk X.prog X.w H' h')(hg:AllBare g')
  (U:∀b∈ch,(b∈X.ex∨X.s₀.heap.objs.size<=b)/\b≠X.env.locals/\(∀x c,X.env.cells.lookup x=some c->c≠b)/\∀p∈X.pn++pins,p.1≠b) (ht:0<t':=by((try dsimp only);first|assumption|exact Inv.tk (by assumption)|exact Nat.succ_pos _|exact Nat.lt_of_lt_of_le (Inv.tk (by assumption)) (by assumption)|exact Nat.add_pos_left (Inv.tk (by assumption)) _|omega)):
  Inv X pins σ H' {s with heap:=h',gens:=g',drawn:=d',toks:=t'}:=by
 obtain⟨m,⟨o,es,ep,ho,r⟩,_⟩:=id I.loc;obtain⟨sl,hL⟩:=u.any ho I.free fun z=>(U _ z).2.1 rfl;exact I.step (ch:=ch) U (fun b o hL hb O e n=>u.keep b o e n (fun z=>(List.mem_cons.mp (I.stkSub b z)).elim hL hb) O) (fun b o _ _ O e n=>u.any e n O) (fun b o O e n=>u.free b o e n O) (fun b o O e=>u.there b o e O) u.tups u.frzs u.tbls (fun m' hm=>by
  obtain⟨o',aa,ac,Y,r'⟩:=hm;rw [ho] at Y;cases Y;exact⟨_,aa,ac,hL,r'⟩) hok hg
theorem Inv.turned {t':Nat}{it:Addr}(I:Inv X pins σ H s)(k:∀b o,b≠it->s.heap.get? b=some o->h'.get? b=some o)(hn:H it=none)(Y:it≠X.env.locals)
  (h1:it∈X.ex∨X.s₀.heap.objs.size<=it) (h2:∀x c,X.env.cells.lookup x=some c->c≠it) (h3:∀p∈X.pn++pins,p.1≠it) (ht:0<t':=by((try dsimp only);first|assumption|exact Inv.tk (by assumption)|exact Nat.succ_pos _|exact Nat.lt_of_lt_of_le (Inv.tk (by assumption)) (by assumption)|exact Nat.add_pos_left (Inv.tk (by assumption)) _|omega)):Inv X pins σ H {s with heap:=h',toks:=t'}:=by
 have U:∀b u,H b=some u->b≠it:=fun b u e z=>by rw [z,hn] at e;cases e
 refine I.step (g':=s.gens) (d':=s.drawn) (ch:= [it]) (fun b hb=> ?_) (fun b o _ _ O e _=>k b o (fun z=>O (by simp [z])) e) (fun b o _ _ O e _=>⟨o.slots,k b o (fun z=>O (by simp [z])) e⟩) (fun _ _ _ _ n=>n)
  (fun b o O e=>⟨o,k b o (fun z=>O (by simp [z])) e⟩) (fun _ _ e=>e) (fun _ _ _ e=>e) (fun b ps e=>⟨#[],by rw [e];simp⟩) (fun m hm=> ?_) (fun b u e=> ?_) I.bare
 ·have e:b=it:=by simpa using hb
  subst e;exact⟨h1,Y,h2,h3⟩
 ·obtain⟨o,es,ep,ho,r⟩:=hm;exact⟨o,es,ep,k _ o (uY Y) ho,r⟩
 ·refine(I.hok b u e).stay (fun c v O q=>k c v ?_ q) (fun _ q=>q) fun _ _ q=>q;rcases O with z|z
  ·rw [z];exact U b u e
  ·exact U c _ z
theorem Inv.tok (I:Inv X pins σ H s)(t:Nat)(O:0<t:=by((try dsimp only);first|assumption|exact Inv.tk (by assumption)|exact Nat.succ_pos _|exact Nat.lt_of_lt_of_le (Inv.tk (by assumption)) (by assumption)|exact Nat.add_pos_left (Inv.tk (by assumption)) _|omega)):Inv X pins σ H {s with toks:=t}:=I.un (h':=s.heap) (t':=t) Un.refl I.hok
theorem Inv.kept {t':Nat}(I:Inv X pins σ H s)(k:∀b u,s.heap.get? b=some u->h'.get? b=some u)(O:0<t':=by((try dsimp only);first|assumption|exact Inv.tk (by assumption)|exact Nat.succ_pos _|exact Nat.lt_of_lt_of_le (Inv.tk (by assumption)) (by assumption)|exact Nat.add_pos_left (Inv.tk (by assumption)) _|omega)):Inv X pins σ H {s with heap:=h',toks:=t'}:=I.un (Un.kept k) (I.hok.kept k)
theorem Inv.laid {a:Addr}{o:HO}{t':Nat}(I:Inv X pins σ H s)(k:∀b u,s.heap.get? b=some u->h'.get? b=some u)(O:s.heap.objs.size<=a)(new:qU X.prog X.w (upd H a o) h' a o)(U:0<t':=by((try dsimp only);first|assumption|exact Inv.tk (by assumption)|exact Nat.succ_pos _|exact Nat.lt_of_lt_of_le (Inv.tk (by assumption)) (by assumption)|exact Nat.add_pos_left (Inv.tk (by assumption)) _|omega)):
  Inv X pins σ (upd H a o) {s with heap:=h',toks:=t'}:=I.un (Un.laid k O (I.hok.fresh O)) (I.hok.laid k O new)
theorem Inv.write {x e:Addr}{o:HO}{t':Nat}(I:Inv X pins σ H s)(U:Mut (H x))(Y:e=x∨H e=some (.own x))(k:∀b u,b≠e->s.heap.get? b=some u->h'.get? b=some u)(O:∃u,h'.get? e=some u)
  (new:qU X.prog X.w (upd H x o) h' x o) (ht:0<t':=by((try dsimp only);first|assumption|exact Inv.tk (by assumption)|exact Nat.succ_pos _|exact Nat.lt_of_lt_of_le (Inv.tk (by assumption)) (by assumption)|exact Nat.add_pos_left (Inv.tk (by assumption)) _|omega)):Inv X pins σ (upd H x o) {s with heap:=h',toks:=t'}:=I.un (Un.write U Y k O) (I.hok.write U Y k O new)
theorem Inv.pins_of {O:List (Addr×Obj)}(I:Inv X pins σ H s)(h:∀p∈O,s.heap.get? p.1=some p.2/\H p.1=none/\p.1≠X.env.locals/\p.1∉X.fs/\∀v,p.2.data≠ .cell v):Inv X O σ H s:=
 ⟨I.ok,I.os,I.bare,I.base,I.loc,I.cell,I.free,I.freeC,fun p U=>(List.mem_append.mp U).elim (fun z=>I.pin p (List.mem_append_left _ z)) (h p),I.hok,I.len,I.tk⟩
theorem j5 {N:List Str}(O:N.Nodup){i j:Nat}{x:Str}(a:N[i]? =some x)(b:N[j]? =some x):i=j:=by
 obtain⟨h1,U⟩:=List.getElem?_eq_some_iff.mp a;obtain⟨h2,Y⟩:=List.getElem?_eq_some_iff.mp b;exact(List.getElem_inj O).mp (U.trans Y.symm)
theorem store_ok2 {M:Model}{A:Around}{E:Value->Shared->Prop}{i:Nat}{x:Str}{v:V}{u:Value}{Q:Unit->Shared->Prop}(I:Inv X pins σ H s)(hN:X.N.Nodup)(hi:X.N[i]? =some x)(hx:Loc X.env.scope x)(r:RelV v u)
  (h:∀s',Inv X pins (σ.set i (some v)) H s'->(∃a,Heap.SameBut a s.heap s'.heap/\(a=X.env.locals∨X.env.cells.lookup x=some a))->Q () s') (hf:X.fn x=true∨X.env.scope.names.lookup x=some .local:=by first|exact .inl rfl|exact .inr rfl|assumption):wpAny M A (storeName X.env x u) Q E s:=by
 obtain⟨m,hn,hl⟩:=id I.loc;have ad:(X.env.scope.kind== .class||(X.env.scope.kind== .module&&X.env.locals !=X.env.globals))=false:=by rw [I.ok.kind];rfl
 have ae:i<σ.length:=by rw [I.len];exact(List.getElem?_eq_some_iff.mp hi).1
 have cne:=I.cne;have U:∀{a:Addr}{h':Heap},(∃o,s.heap.get? a=some o/\H a=none)->Heap.SameBut a s.heap h'->HOk X.prog X.w H h':=fun{a h'} ha O b ob e=>by
  obtain⟨_,_,aa⟩:=ha;refine(I.hok b ob e).stay (fun c w' hc q=>(O.2 c ?_).trans q) (fun _ q=>q) fun _ _ q=>q;rintro rfl;rcases hc with rfl|hc
  ·rw [aa] at e;cases e
  ·rw [aa] at hc;cases hc
 rcases hx with hk|hk
 ·refine wpAny_storeName_local hk hn (fun h' aj O=> ?_) ad;obtain⟨oL,_,_,ak,_⟩:=id hn;refine h _ ⟨I.ok,I.os,I.bare,⟨fun b o e n hb hx=> ?_,fun b o e n hb hx=> ?_,I.base.free,fun b o e hx=> ?_,I.base.tups,I.base.frzs,I.base.tbls⟩,⟨_,aj,fun j y v' Y e2 e3=> ?_⟩,fun y c e=> ?_,I.free,I.freeC,fun p hp=> ?_,U ⟨oL,ak,I.free⟩ O,by simpa using I.len,by first|exact I.tk|exact Nat.succ_pos _⟩ ⟨_,O,.inl rfl⟩
  ·exact(O.2 b (uu (Nat.lt_of_lt_of_le (ug e) I.ok.above))).trans (I.base.keep b o e n hb hx)
  ·obtain⟨sl,Y⟩:=I.base.slot b o e n hb hx;exact⟨sl,(O.2 b (uu (Nat.lt_of_lt_of_le (ug e) I.ok.above))).trans Y⟩
  ·obtain⟨o',Y⟩:=I.base.there b o e hx;exact⟨o',(O.2 b (uu (Nat.lt_of_lt_of_le (ug e) I.ok.above))).trans Y⟩
  ·by_cases hj:j=i
   ·subst hj;rw [hi] at Y;cases Y;rw [vV ae] at e2;cases e2;exact⟨u,r,.inl ⟨hk,by simp⟩⟩
   ·rw [U8 (uY hj)] at e2;obtain⟨u',r',q⟩:=hl j y v' Y e2 e3;refine⟨u',r',?_⟩;rcases q with⟨k,e⟩|⟨k,c,e,z⟩
    ·refine .inl ⟨k,?_⟩;have:y≠x:=fun e=>hj (j5 hN Y (e▸hi));simp [this,e]
    ·exact .inr ⟨k,c,e,z.sameBut O (cne y c e)⟩
  ·obtain⟨w',z⟩:=I.cell y c e;exact⟨w',z.sameBut O (cne y c e)⟩
  ·obtain⟨e,n,ne,nf,d⟩:=I.pin p hp;exact⟨(O.2 p.1 ne).trans e,n,ne,nf,d⟩
 ·have ac:X.fn x=true:=by
   rcases hf with z|z
   ·exact z
   ·rw [z] at hk;cases hk
  obtain⟨c,hc⟩:=I.ok.has x (.inl hk);obtain⟨w',z⟩:=I.cell x c hc;refine wpAny_storeName_cell I.ok.kind hk hc z (fun h' af O=> ?_);obtain⟨oc,ag,ah⟩:=id z;refine h {s with heap:=h'} ⟨I.ok,I.os,I.bare,⟨fun b o e n hb hx=> ?_,fun b o e n hb hx=> ?_,I.base.free,fun b o e hx=> ?_,I.base.tups,I.base.frzs,I.base.tbls⟩,⟨m,hn.sameBut O (uY (cne x c hc)),fun j y v' Y e2 e3=> ?_⟩,fun y c' e=> ?_,I.free,I.freeC,fun p hp=> ?_,U ⟨oc,ag,I.freeC x c hc⟩ O,by simpa using I.len,by first|exact I.tk|exact Nat.succ_pos _⟩ ⟨c,O,.inr hc⟩
  ·exact(O.2 b (uu (Nat.lt_of_lt_of_le (ug e) (I.ok.cab x c ac hc)))).trans (I.base.keep b o e n hb hx)
  ·obtain⟨sl,Y⟩:=I.base.slot b o e n hb hx;exact⟨sl,(O.2 b (uu (Nat.lt_of_lt_of_le (ug e) (I.ok.cab x c ac hc)))).trans Y⟩
  ·obtain⟨o',Y⟩:=I.base.there b o e hx;exact⟨o',(O.2 b (uu (Nat.lt_of_lt_of_le (ug e) (I.ok.cab x c ac hc)))).trans Y⟩
  ·by_cases hj:j=i
   ·subst hj;rw [hi] at Y;cases Y;rw [vV ae] at e2;cases e2;exact⟨u,r,.inr ⟨.inl hk,c,hc,af⟩⟩
   ·rw [U8 (uY hj)] at e2;obtain⟨u',r',q⟩:=hl j y v' Y e2 e3;refine⟨u',r',?_⟩;rcases q with q|⟨k,c',e,z'⟩
    ·exact .inl q
    ·refine .inr ⟨k,c',e,z'.sameBut O ?_⟩;rintro rfl;exact hj (j5 hN Y (I.ok.inj _ _ _ e hc▸hi))
  ·by_cases ai:c'=c
   ·subst ai;exact⟨_,af⟩
   ·obtain⟨w2,z2⟩:=I.cell y c' e;exact⟨w2,z2.sameBut O ai⟩
  ·obtain⟨e,n,ne,nf,d⟩:=I.pin p hp;refine⟨(O.2 p.1 ?_).trans e,n,ne,nf,d⟩;intro q;rw [q,ag] at e;have q':oc=p.2:=uI e;exact d w' (by rw [<-q'];exact ah)
theorem jj {M:Model}{A:Around}{E:Value->Shared->Prop}{i:Nat}{x:Str}{v:V}{u:Value}{Q:Unit->Shared->Prop}(I:Inv X pins σ H s)(O:X.N.Nodup)(hi:X.N[i]? =some x)(U:Loc X.env.scope x)(r:RelV v u)
  (h:∀s',Inv X pins (σ.set i (some v)) H s'->Q () s') (Y:X.fn x=true∨X.env.scope.names.lookup x=some .local:=by first|exact .inl rfl|exact .inr rfl|assumption):wpAny M A (storeName X.env x u) Q E s:=
 store_ok2 I O hi U r (fun s' I' _=>h s' I') Y
theorem Inv.call' {s':Shared}{ch:List Addr}(I:Inv X pins σ H s)(U:s'.os=s.os)(u:Un (frs X.stack) ch H H' s.heap s'.heap)(hok:HOk X.prog X.w H' s'.heap)(Y:AllBare s'.gens)
  (O:∀b∈ch,(b∈X.ex∨X.s₀.heap.objs.size<=b)/\b≠X.env.locals/\(∀x c,X.env.cells.lookup x=some c->c≠b)/\∀p∈X.pn++pins,p.1≠b) (ht:0<s'.toks:=by((try dsimp only);first|assumption|exact Inv.tk (by assumption)|exact Nat.succ_pos _|exact Nat.lt_of_lt_of_le (Inv.tk (by assumption)) (by assumption)|exact Nat.add_pos_left (Inv.tk (by assumption)) _|omega)):Inv X pins σ H' s':=by
 obtain⟨h',g',d',t',o'⟩:=s';have e:o'=s.os:=U;subst e;exact I.call (g':=g') (t':=t') (d':=d') u hok Y O
end
abbrev XK:=Value->Option Addr->Hp->Prop
abbrev St:=List (Option V)
abbrev VK:=V->Hp->Prop
abbrev TE:=St->Hp->VK->Prop
abbrev TT:=St->Hp->(Bool->Hp->Prop)->Prop
abbrev TA:=St->Hp->(List V->Hp->Prop)->Prop
structure Ends where
 nx:St->Hp->Prop
 rt:VK
 bk:St->Hp->Prop:=fun _ _=>False
 ct:St->Hp->Prop:=fun _ _=>False
abbrev TS:=Ends->St->Hp->Prop
def EP (X:Cx)(pins:List (Addr×Obj))(σ:St)(Q:VK)(u:Value)(s':Shared):Prop:=∃v H',Inv X pins σ H' s'/\RelV v u/\Q v H'
def TP (X:Cx)(pins:List (Addr×Obj))(σ:St)(Q:Bool->Hp->Prop)(b:Bool)(s':Shared):Prop:=∃H',Inv X pins σ H' s'/\Q b H'
def AP (X:Cx)(pins:List (Addr×Obj))(σ:St)(Q:List V->Hp->Prop)(us:List Value)(s':Shared):Prop:=∃vs H',Inv X pins σ H' s'/\Vals vs us/\Q vs H'
def SP (X:Cx)(pins:List (Addr×Obj))(D:Ends)(f:Flow)(s':Shared):Prop:=
 match f with
 | .next=>∃σ' H',Inv X pins σ' H' s'/\D.nx σ' H'
 | .brk=>∃σ' H',Inv X pins σ' H' s'/\D.bk σ' H'
 | .cont=>∃σ' H',Inv X pins σ' H' s'/\D.ct σ' H'
 | .ret u=>∃v σ' H',Inv X pins σ' H' s'/\RelV v u/\D.rt v H'
def PE (X:Cx)(e:Expr)(t:TE):Prop:=
 ∀(pins:List (Addr×Obj)) (s:Shared) (σ:St) (H:Hp) (Q:VK),Inv X pins σ H s->t σ H Q->wpAny (model X.prog X.w) X.A (eval e X.env) (EP X pins σ Q) X.xe s
def PT (X:Cx)(e:Expr)(t:TT):Prop:=
 ∀(pins:List (Addr×Obj)) (s:Shared) (σ:St) (H:Hp) (Q:Bool->Hp->Prop),Inv X pins σ H s->t σ H Q->wpAny (model X.prog X.w) X.A (isTrue e X.env (eval e X.env)) (TP X pins σ Q) X.xe s
def PW (X:Cx)(e:Expr)(t:TT):Prop:=
 ∀(whole:Sem Value) (pins:List (Addr×Obj)) (s:Shared) (σ:St) (H:Hp) (Q:Bool->Hp->Prop),Inv X pins σ H s->t σ H Q->wpAny (model X.prog X.w) X.A (isTrue e X.env whole) (TP X pins σ Q) X.xe s
theorem PW.pt {X:Cx}{e:Expr}{t:TT}(h:PW X e t):PT X e t:=h _
def PA (X:Cx)(es:List Expr)(t:TA):Prop:=
 ∀(pos:Pos) (pins:List (Addr×Obj)) (s:Shared) (σ:St) (H:Hp) (Q:List V->Hp->Prop),Inv X pins σ H s->t σ H Q->wpAny (model X.prog X.w) X.A (spliced (backTo pos (starEach es X.env))) (AP X pins σ Q) X.xe s
def PS (X:Cx)(st:Stmt)(t:TS):Prop:=
 ∀(pins:List (Addr×Obj)) (s:Shared) (σ:St) (H:Hp) (D:Ends),Inv X pins σ H s->t D σ H->wpAny (model X.prog X.w) X.A (exec st X.env) (SP X pins D) X.xe s
def PSs (X:Cx)(st:List Stmt)(t:TS):Prop:=
 ∀(pins:List (Addr×Obj)) (s:Shared) (σ:St) (H:Hp) (D:Ends),Inv X pins σ H s->t D σ H->wpAny (model X.prog X.w) X.A (execs st X.env) (SP X pins D) X.xe s
theorem thn {α:Type}{t:Sem α}{Q O:α->Shared->Prop}{M:Model}{A:Around}{E:Value->Shared->Prop}{s:Shared}(h:wpAny M A t Q E s)(U:∀a s,Q a s->O a s):wpAny M A t O E s:=uJ h U fun _ _ x=>x
section
variable {X:Cx}
def tVar (i:Nat):TE:=fun σ H Q=>∃v,σ[i]? =some (some v)/\Q v H
def tC (v:V):TE:=fun _ H Q=>Q v H
theorem pe_var {i:Nat}{x:Str}{pos:Pos}(hN:X.N[i]? =some x)(hv:Vis X.env.scope x)(hd:(x==("__debug__":Str))=false:=by decide)(aa:(x==("__classdict__":Str))=false:=by decide):PE X (.Name x pos) (tVar i):=by
 intro pins s σ H Q I h;obtain⟨v,e,h⟩:=h;obtain⟨m,hn,hl⟩:=I.loc;obtain⟨u,r,l⟩:=hl i x v hN e hv;have U:EP X pins σ Q u s:=⟨v,H,I,r,h⟩;rcases l with⟨Y,hm⟩|⟨Y,c,hc,O⟩
 ·exact wpAny_Name (wpAny_loadName_local I.ok.kind Y hn hm U) hd
 ·rcases Y with Y|Y
  ·exact wpAny_Name (wpAny_loadName_cell I.ok.kind Y hc O U) hd
  ·exact wpAny_Name (wpAny_loadName_free I.ok.kind Y hc O U aa) hd
theorem qg {i j pos}:PE X (.Constant (.int i) j pos) (tC (.int i)):=fun _ _ _ H _ I h=>wpAny_Constant_int ⟨.int i,H,I.tok _,⟨_,rfl⟩,h⟩
theorem yW {b j pos}:PE X (.Constant (.bool b) j pos) (tC (.bl b)):=fun _ _ _ H _ I h=>Constant_bool ⟨.bl b,H,I,rfl,h⟩
theorem pe_non {j pos}:PE X (.Constant .none j pos) (tC .non):=fun _ _ _ H _ I h=>Constant_none ⟨.non,H,I,rfl,h⟩
theorem qi {x j pos}:PE X (.Constant (.str x) j pos) (tC (.str x)):=fun _ _ _ H _ I h=>vF ⟨.str x,H,I.tok _,⟨_,rfl⟩,h⟩
def Gl (X:Cx)(x:Str):Prop:=X.env.kindOf x=some .globalImplicit
theorem yD {E:Value->Shared->Prop}{pins:List (Addr×Obj)}{s:Shared}{σ:St}{H:Hp}{x:Str}{u:Value}{pos:Pos}{Q:Value->Shared->Prop}(I:Inv X pins σ H s)(O:Gl X x)(hm:X.mg x=some u)(h:Q u s)
  (hd:(x==("__debug__":Str))=false:=by decide):wpAny (model X.prog X.w) X.A (eval (.Name x pos) X.env) Q E s:=
 Calls.Name_function_global I.ok.kind O (Calls.loadGlobal_global (by rw [I.ok.glob];exact I.mod.glob.keeps I.bk) hm h) hd
theorem Jj {E:Value->Shared->Prop}{pins:List (Addr×Obj)}{s:Shared}{σ:St}{H:Hp}{x:Str}{u:Value}{pos:Pos}{Q:Value->Shared->Prop}(I:Inv X pins σ H s)(O:Gl X x)(hm:X.mg x=none)(U:bootBuiltins x=some u)(h:Q u s)
  (hn:x≠"__name__":=by decide) (hd:(x==("__debug__":Str))=false:=by decide):wpAny (model X.prog X.w) X.A (eval (.Name x pos) X.env) Q E s:=by
 obtain⟨mb,h1,h2⟩:=I.mod.blt;exact Calls.Name_function_global I.ok.kind O (Calls.loadGlobal_builtin (by rw [I.ok.glob];exact I.mod.glob.keeps I.bk) hm (by rw [I.ok.blt];exact h1.keeps I.bk) ((h2 x hn).trans U) h) hd
theorem pe_glob {x:Str}{v:V}{u:Value}{pos:Pos}(O:Gl X x)(hm:X.mg x=some u)(r:RelV v u)(hd:(x==("__debug__":Str))=false:=by decide):PE X (.Name x pos) (tC v):=
 fun _ _ _ H _ I h=>yD I O hm ⟨v,H,I,r,h⟩ hd
theorem YQ {x:Str}{v:V}{u:Value}{pos:Pos}(O:Gl X x)(hm:X.mg x=none)(U:bootBuiltins x=some u)(r:RelV v u)(hn:x≠"__name__":=by decide)(hd:(x==("__debug__":Str))=false:=by decide):PE X (.Name x pos) (tC v):=
 fun _ _ _ H _ I h=>Jj I O hm U ⟨v,H,I,r,h⟩ hn hd
variable {a b:Expr}{ta tb:TE}{pos:Pos}
def PC (X:Cx)(op:CmpOp)(a b:Expr)(t:TE):Prop:=
 ∀(pins:List (Addr×Obj)) (s:Shared) (σ:St) (H:Hp) (Q:VK),Inv X pins σ H s->t σ H Q->
  wpAny (model X.prog X.w) X.A (eval a X.env) (fun v s₁=>wpAny (model X.prog X.w) X.A (eval b X.env) (fun u s₂=>wpAny (model X.prog X.w) X.A (compareOp op v u) (EP X pins σ Q) X.xe s₂) X.xe s₁) X.xe s
def tB (t:TE):TT:=fun σ H Q=>t σ H fun x H1=>∃c,x= .bl c/\Q c H1
theorem pt_cmp {op:CmpOp}{t:TE}(h:PC X op a b t)(h1:behindInMarks op b=false:=by first|exact nobehind _ (by decide) (by decide)|rfl):PT X (.Compare a [op] [b] pos) (tB t):=by
 intro pins s σ H Q I O;refine wpAny_isTrue_Compare1 (thn (h pins s σ H _ I O) fun v s1 h1=>thn h1 fun u s2 h2=>thn h2 fun c s3 ⟨x,H1,U,Y,q1⟩=> ?_) h1;obtain⟨d,rfl,q⟩:=q1;cases Y;exact v6 ⟨H1,U,q⟩
theorem QU {e:Expr}{t:TE}(h:PE X e t)(U:∀O,isTrue e X.env O=(do let v<-O;standAt e.pos;holding [v] (truthy v)):=by intro _;rfl):PT X e (tB t):=by
 intro pins s σ H Q I Y;refine isTrue_plain (thn (h pins s σ H _ I Y) fun v s1 ⟨x,H1,I1,r1,q1⟩=> ?_) (U _);obtain⟨d,rfl,q⟩:=q1;cases r1;exact v6 ⟨H1,I1,q⟩
variable {tA tB':TT}{rest:List Expr}
def tAnd (t u:TT):TT:=fun σ H Q=>t σ H fun c H1=>if c=true then u σ H1 Q else Q false H1
def tOr (t u:TT):TT:=fun σ H Q=>t σ H fun c H1=>if c=true then Q true H1 else u σ H1 Q
def tNot (t:TT):TT:=fun σ H Q=>t σ H fun c H1=>Q (!c) H1
theorem pw_and1 (ha:PT X a tA):PW X (.BoolOp .And [a] pos) tA:=by
 intro wh pins s σ H Q I h;refine isTrue_and (thn (ha pins s σ H Q I h) fun c s1 e=> ?_);cases c with
 |true=>exact isTrue_and_nil e
 |false=>exact e
theorem yS (ha:PT X a tA):PW X (.BoolOp .Or [a] pos) tA:=by
 intro wh pins s σ H Q I h;refine isTrue_or (thn (ha pins s σ H Q I h) fun c s1 e=> ?_);cases c with
 |false=>exact isTrue_or_nil e
 |true=>exact e
theorem pw_and (ha:PT X a tA)(Y:PW X (.BoolOp .And (b::rest) pos) tB'):PW X (.BoolOp .And (a::b::rest) pos) (tAnd tA tB'):=by
 intro wh pins s σ H Q I h;refine isTrue_and (thn (ha pins s σ H _ I h) fun c s1 ⟨H1,O,U⟩=> ?_);cases c with
 |true=>exact Y wh pins s1 σ H1 Q O U
 |false=>exact⟨H1,O,U⟩
theorem jo (ha:PT X a tA)(Y:PW X (.BoolOp .Or (b::rest) pos) tB'):PW X (.BoolOp .Or (a::b::rest) pos) (tOr tA tB'):=by
 intro wh pins s σ H Q I h;refine isTrue_or (thn (ha pins s σ H _ I h) fun c s1 ⟨H1,O,U⟩=> ?_);cases c with
 |true=>exact⟨H1,O,U⟩
 |false=>exact Y wh pins s1 σ H1 Q O U
theorem yo (ha:PT X a tA):PT X (.UnaryOp .Not a pos) (tNot tA):=by
 intro pins s σ H Q I h;exact isTrue_not (ha pins s σ H (fun c H1=>Q (!c) H1) I h)
def tAndV (ta tb:TE):TE:=fun σ H Q=>ta σ H fun x H1=>∃c,x= .bl c/\if c=true then tb σ H1 Q else Q (.bl false) H1
theorem pe_one {op}{t:TE}(h:PE X a t):PE X (.BoolOp op [a] pos) t:=fun pins s σ H Q I O=>BoolOp_one (h pins s σ H Q I O)
theorem xV (ha:PE X a ta)(Y:PE X (.BoolOp .And (b::rest) pos) tb):PE X (.BoolOp .And (a::b::rest) pos) (tAndV ta tb):=by
 intro pins s σ H Q I h;refine BoolOp_and (thn (ha pins s σ H _ I h) fun v s1 ⟨x,H1,U,r1,O⟩=> ?_);obtain⟨c,rfl,O⟩:=O;cases r1;refine v6 ?_;cases c with
 |true=>exact Y pins s1 σ H1 Q U O
 |false=>exact⟨.bl false,H1,U,rfl,O⟩
def tIf (t:TT)(ta tb:TE):TE:=fun σ H Q=>t σ H fun c H1=>if c=true then ta σ H1 Q else tb σ H1 Q
theorem XD {c:Expr}(Y:PT X c tA)(ha:PE X a ta)(hb:PE X b tb):PE X (.IfExp c a b pos) (tIf tA ta tb):=by
 intro pins s σ H Q I h;refine wpAny_IfExp (thn (Y pins s σ H _ I h) fun d s1 ⟨H1,O,U⟩=> ?_);cases d with
 |true=>exact ha pins s1 σ H1 Q O U
 |false=>exact hb pins s1 σ H1 Q O U
end
def SqL (K:PySem.W.Frag)(H:Hp)(a:Addr)(xs:List V):Prop:=
 Rd H a (.lst xs)∨
  ∃(o:Obj) (its:Array Value) (n:Nat),K.lookup a=some o/\o.cls= .type "list"/\o.dict=none/\o.data= .seq its n/\its.size<=sizeLine/\Vals xs its.toList
def SqT (K:PySem.W.Frag)(H:Hp)(a:Addr)(xs:List V):Prop:=
 Rd H a (.tup xs)∨
  ∃(o:Obj) (its:Array Value) (n:Nat),K.lookup a=some o/\o.cls= .type "tuple"/\o.data= .seq its n/\its.size<=sizeLine/\Vals xs its.toList
def absV:Value->Option V
 | .none=>some .non
 | .bool b=>some (.bl b)
 | .int i _=>some (.int i)
 | .str x _=>some (.str x)
 | .bytes b _=>some (.byt b)
 | .float b _=>some (.flt b)
 | .ref a=>some (.ref a)
 | .type n=>some (.ty n)
 |_=>none
theorem RelV.abs {x:V}{u:Value}(r:RelV x u):absV u=some x:=by
 cases x with
 |non=>cases r;rfl
 |bl _=>cases r;rfl
 |int _=>obtain⟨t,rfl⟩:=r;rfl
 |str _=>obtain⟨t,rfl⟩:=r;rfl
 |byt _=>obtain⟨t,rfl⟩:=r;rfl
 |flt _=>obtain⟨t,rfl⟩:=r;rfl
 |ref _=>cases r;rfl
 |ty _=>cases r;rfl
theorem RelV.inj {x y:V}{u:Value}(r:RelV x u)(q:RelV y u):x=y:=uI (r.abs.symm.trans q.abs)
theorem Vals.inj:∀{xs ys:List V}{us:List Value},Vals xs us->Vals ys us->xs=ys
 |_,_,_,.nil,.nil=>rfl
 |_,_,_,.cons r t,.cons r' t'=>by rw [r.inj r',Vals.inj t t']
section
variable {X:Cx}{pins:List (Addr×Obj)}{σ:St}{H:Hp}{s:Shared}{a:Addr}{xs ys:List V}
theorem SqL.of {K:PySem.W.Frag}(h:H a=some (.lst xs)):SqL K H a xs:= .inl (.inl h)
theorem SqT.of {K:PySem.W.Frag}(h:H a=some (.tup xs)):SqT K H a xs:= .inl (.inl h)
theorem Inv.list (I:Inv X pins σ H s)(h:SqL X.K H a xs):∃its:List Value,Vals xs its/\PlainL s.heap a its.toArray/\xs.length<=sizeLine:=by
 rcases h with h|⟨o,its,n,O,U,hd,Y,hz,r⟩
 ·obtain⟨z,its,n,r,e⟩:=h.ok I.hok;exact⟨its,r,⟨_,n,e,rfl,rfl,rfl⟩,z⟩
 ·refine⟨its.toList,r,⟨o,n,I.kIn a o O,U,hd,by simpa using Y⟩,?_⟩
  have e:=r.length;simp only [Ud] at e;omega
theorem Inv.tuple (I:Inv X pins σ H s)(h:SqT X.K H a xs):∃its:List Value,Vals xs its/\IsTup s.heap a its.toArray/\xs.length<=sizeLine:=by
 rcases h with h|⟨o,its,n,O,U,Y,hz,r⟩
 ·obtain⟨z,its,r,p⟩:=h.ok I.hok;exact⟨its,r,p,z⟩
 ·refine⟨its.toList,r,⟨o,I.kIn a o O,U,n,by simpa using Y⟩,?_⟩
  have e:=r.length;simp only [Ud] at e;omega
theorem Inv.list_inj (I:Inv X pins σ H s)(h:SqL X.K H a xs)(h':SqL X.K H a ys):xs=ys:=by
 obtain⟨its,r,⟨o,n,e,_,_,d⟩,_⟩:=I.list h;obtain⟨its',U,⟨o',n',O,_,_,d'⟩,_⟩:=I.list h';rw [e] at O;cases O;rw [d] at d';injection d' with Y _
 have:its=its':=by simpa using congrArg Array.toList Y
 subst this;exact r.inj U
theorem Inv.tuple_inj (I:Inv X pins σ H s)(h:SqT X.K H a xs)(h':SqT X.K H a ys):xs=ys:=by
 obtain⟨its,r,⟨o,e,_,n,d⟩,_⟩:=I.tuple h;obtain⟨its',U,⟨o',O,_,n',d'⟩,_⟩:=I.tuple h';rw [e] at O;cases O;rw [d] at d';injection d' with Y _
 have:its=its':=by simpa using congrArg Array.toList Y
 subst this;exact r.inj U
end
abbrev Cx.wish (X:Cx)(E:Value->Shared->Prop):Cx:={X with xe:=E}
abbrev Cx.nox (X:Cx):Cx:=X.wish fun _ _=>False
theorem Cx.Ok.wish {X:Cx}(ok:X.Ok)(E:Value->Shared->Prop):(X.wish E).Ok:=
 ⟨ok.mod,ok.kind,ok.glob,ok.blt,ok.above,ok.inj,ok.has,ok.cab,ok.hd,ok.frames,ok.stk,ok.exf,ok.bs,ok.bsz,ok.noex,ok.exfs,ok.funs,ok.frf⟩
theorem Cx.Ok.unwish {X:Cx}{E:Value->Shared->Prop}(ok:(X.wish E).Ok):X.Ok:=
 ⟨ok.mod,ok.kind,ok.glob,ok.blt,ok.above,ok.inj,ok.has,ok.cab,ok.hd,ok.frames,ok.stk,ok.exf,ok.bs,ok.bsz,ok.noex,ok.exfs,ok.funs,ok.frf⟩
section
variable {X:Cx}{pins:List (Addr×Obj)}{σ:St}{H:Hp}{s:Shared}{E:Value->Shared->Prop}
theorem Inv.wish (I:Inv X pins σ H s)(E:Value->Shared->Prop):Inv (X.wish E) pins σ H s:=⟨I.ok.wish E,I.os,I.bare,I.base,I.loc,I.cell,I.free,I.freeC,I.pin,I.hok,I.len,I.tk⟩
theorem Inv.unwish (I:Inv (X.wish E) pins σ H s):Inv X pins σ H s:=⟨I.ok.unwish,I.os,I.bare,I.base,I.loc,I.cell,I.free,I.freeC,I.pin,I.hok,I.len,I.tk⟩
theorem SP.unwish {D:Ends}{f:Flow}{s':Shared}(h:SP (X.wish E) pins D f s'):SP X pins D f s':=by
 cases f with
 |next=>obtain⟨O,H',I,q⟩:=h;exact⟨O,H',I.unwish,q⟩
 |brk=>obtain⟨O,H',I,q⟩:=h;exact⟨O,H',I.unwish,q⟩
 |cont=>obtain⟨O,H',I,q⟩:=h;exact⟨O,H',I.unwish,q⟩
 |ret u=>obtain⟨v,O,H',I,r,q⟩:=h;exact⟨v,O,H',I.unwish,r,q⟩
theorem PSs.nox {st:List Stmt}{t:TS}(h:PSs X.nox st t):PSs X st t:=fun pins s σ H D I hw=>
 uJ (h pins s σ H D (I.wish _) hw) (fun _ _ q=>q.unwish) fun _ _ z=>False.elim z
end
section
variable {X:Cx}{st:Stmt}{rest:List Stmt}{t u:TS}{e:Expr}{te:TE}{pos:Pos}
def tNext:TS:=fun D σ H=>D.nx σ H
def tSeq (t u:TS):TS:=fun D σ H=>t {D with nx:=u D} σ H
theorem qq:PSs X [] tNext:=fun _ _ σ H _ I h=>vL ⟨σ,H,I,h⟩
theorem qc (h1:PS X st t)(h2:PSs X rest u):PSs X (st::rest) (tSeq t u):=by
 intro pins s σ H D I h;refine wpAny_execs_cons (thn (h1 pins s σ H {D with nx:=u D} I h) fun f s1 q=> ?_)
 cases f with
 |next=>
  obtain⟨O,H',U,q⟩:=q;exact h2 pins s1 O H' D U q
 |ret v=>exact q
 |brk=>exact q
 |cont=>exact q
theorem qd (h1:PS X st t):PSs X [st] t:=by
 intro pins s σ H D I h;refine wpAny_execs_cons (thn (h1 pins s σ H D I h) fun f s1 q=> ?_);cases f with
 |next=>exact vL q
 |ret v=>exact q
 |brk=>exact q
 |cont=>exact q
theorem Inv.quiet {pins:List (Addr×Obj)}{σ:St}{H:Hp}{s:Shared}(I:Inv X pins σ H s):interactive X.env=false:=by simp [interactive,I.ok.kind]
def tDrop (te:TE):TS:=fun D σ H=>te σ H fun _ H1=>D.nx σ H1
theorem yT (O:PE X e te)(U:swapsWith e none pos.line X.env=pure false:=by rfl):PS X (.Expr e pos) (tDrop te):=by
 intro pins s σ H D I h;exact wpAny_Expr_any (thn (O pins s σ H _ I h) fun v s1 ⟨x,H1,Y,r1,q1⟩=>⟨σ,H1,Y,q1⟩) I.quiet U
def tRet (te:TE):TS:=fun D σ H=>te σ H D.rt
theorem qo (O:PE X e te):PS X (.Return (some e) pos) (tRet te):=by
 intro pins s σ H D I h;exact wpAny_Return_some (thn (O pins s σ H _ I h) fun v s1 ⟨x,H1,U,Y,q1⟩=>⟨x,σ,H1,U,Y,q1⟩)
def tIfS (c:TT)(t u:TS):TS:=fun D σ H=>c σ H fun b H1=>if b=true then t D σ H1 else u D σ H1
theorem qH {c:Expr}{a b:List Stmt}{tc:TT}(Y:PT X c tc)(ha:PSs X a t)(hb:PSs X b u):PS X (.If c a b pos) (tIfS tc t u):=by
 intro pins s σ H D I h;refine wpAny_If (thn (Y pins s σ H _ I h) fun d s1 ⟨H1,O,U⟩=> ?_);cases d with
 |true=>exact ha pins s1 σ H1 D O U
 |false=>exact hb pins s1 σ H1 D O U
def tNever:TS:=fun _ _ _=>False
theorem jV:PS X st tNever:=fun _ _ _ _ _ _ h=>h.elim
end
abbrev TG:=V->St->Hp->(St->Hp->Prop)->Prop
abbrev TGs:=List V->St->Hp->(St->Hp->Prop)->Prop
def PG (X:Cx)(target:Expr)(t:TG):Prop:=
 ∀(pins:List (Addr×Obj)) (s:Shared) (σ:St) (H:Hp) (v:V) (u:Value) (Q:St->Hp->Prop),Inv X pins σ H s->RelV v u->t v σ H Q->
  wpAny (model X.prog X.w) X.A (assign target X.env u) (fun _ s'=>∃σ' H',Inv X pins σ' H' s'/\Q σ' H') X.xe s
def PGs (X:Cx)(ts:List Expr)(t:TGs):Prop:=
 ∀(pins:List (Addr×Obj)) (s:Shared) (σ:St) (H:Hp) (vs:List V) (us:List Value) (Q:St->Hp->Prop),Inv X pins σ H s->Vals vs us->t vs σ H Q->
  wpAny (model X.prog X.w) X.A (assignInOrder ((assignEach ts X.env).map (·.2)) us) (fun _ s'=>∃σ' H',Inv X pins σ' H' s'/\Q σ' H') X.xe s
abbrev TSet:=V->V->V->Hp->(Hp->Prop)->Prop
def PSet (X:Cx)(t:TSet):Prop:=
 ∀(pins:List (Addr×Obj)) (s:Shared) (σ:St) (H:Hp) (o i v:V) (ov iv u:Value) (Q:Hp->Prop),Inv X pins σ H s->RelV o ov->RelV i iv->RelV v u->t o i v H Q->
  wpAny (model X.prog X.w) X.A (setItem ov iv u) (fun _ s'=>∃H',Inv X pins σ H' s'/\Q H') X.xe s
abbrev TIp:=V->V->Hp->VK->Prop
def PIp (X:Cx)(op:Operator)(t:TIp):Prop:=
 ∀(pins:List (Addr×Obj)) (s:Shared) (σ:St) (H:Hp) (x y:V) (v u:Value) (Q:VK),Inv X pins σ H s->RelV x v->RelV y u->t x y H Q->
  wpAny (model X.prog X.w) X.A (inplaceOp op v u) (EP X pins σ Q) X.xe s
section
variable {X:Cx}{pos:Pos}
def Y8 (i:Nat):TG:=fun v σ H Q=>Q (σ.set i (some v)) H
theorem qG {i:Nat}{x:Str}(O:X.N.Nodup)(hi:X.N[i]? =some x)(U:Loc X.env.scope x)(Y:X.fn x=true∨X.env.scope.names.lookup x=some .local:=by first|exact .inl rfl|exact .inr rfl|assumption):PG X (.Name x pos) (Y8 i):=by
 intro pins s σ H v u Q I r h;exact wpAny_assign_Name (jj I O hi U r (fun s' I'=>⟨_,H,I',h⟩) Y)
def gNil:TGs:=fun vs σ H Q=>vs= []/\Q σ H
def gCons (t:TG)(u:TGs):TGs:=fun vs σ H Q=>∃v r,vs=v::r/\t v σ H fun σ' H'=>u r σ' H' Q
theorem J7:PGs X [] gNil:=by
 intro pins s σ H vs us Q I r h;obtain⟨e,h⟩:=h;subst e;cases r;exact assignInOrder_nil ⟨σ,H,I,h⟩
theorem QD {e:Expr}{es:List Expr}{t:TG}{u:TGs}(h1:PG X e t)(h2:PGs X es u)
  (O:(assignEach (e::es) X.env).map (·.2)=assign e X.env::(assignEach es X.env).map (·.2):=by rfl):PGs X (e::es) (gCons t u):=by
 intro pins s σ H vs us Q I r h;obtain⟨v,vr,U,h⟩:=h;subst U;cases r with
 |cons r Y=>
  rw [O];refine assignInOrder_cons (thn (h1 pins s σ H _ _ _ I r h) fun _ s1 ⟨σ1,H1,I1,q1⟩=> ?_);exact h2 pins s1 σ1 H1 _ _ Q I1 Y q1
def gTup (K:PySem.W.Frag)(n:Nat)(t:TGs):TG:=fun v σ H Q=>∃a xs,v= .ref a/\SqT K H a xs/\xs.length=n/\t xs σ H Q
theorem pg_tup {es:List Expr}{k:Nat}{t:TGs}{n:Nat}(hc:X.calm=true)(h:PGs X es t)
  (hn:(assignEach es X.env).length=n:=by rfl) (O:(assignEach es X.env).findIdx? (·.1)=none:=by rfl):PG X (.Tuple es k pos) (gTup X.K n t):=by
 intro pins s σ H v u Q I r U;obtain⟨a,xs,e1,hq,hl,U⟩:=U;subst e1;cases r;obtain⟨its,Y,ht,hz⟩:=I.tuple hq;refine assign_Tuple_tuple (I.ok.hd hc) ht (by simp [hn,<-hl,Y.length]) O fun h' hx=> ?_
 have I1:Inv X pins σ H {s with heap:=h'}:=I.kept (t':=s.toks) fun b o e=>hx b o (uu (ug e)) e
 exact h pins _ σ H xs _ Q I1 (by simpa using Y) U
def gSub (to ti:TE)(t:TSet):TG:=fun v σ H Q=>to σ H fun o H1=>ti σ H1 fun i H2=>t o i v H2 fun H3=>Q σ H3
theorem pg_sub {o i:Expr}{to U:TE}{t:TSet}(Y:PE X o to)(hi:PE X i U)(hs:PSet X t)
  (ha:∀v,assign (.Subscript o i pos) X.env v=(do
   let ov<-holding [v] (eval o X.env)
   let O<-holding [v,ov] (eval i X.env)
   standAt pos
   holding [v,ov,O] (setItem ov O v)
   release [v,ov,O] []):=by intro _;rfl):PG X (.Subscript o i pos) (gSub to U t):=by
 intro pins s σ H v u Q I r h;rw [ha];refine wpAny_bind (wpAny_holding (thn (Y pins s σ H _ I h) fun ov s1 ⟨x,H1,I1,r1,q1⟩=> ?_));refine wpAny_bind (wpAny_holding (thn (hi pins s1 σ H1 _ I1 q1) fun O s2 ⟨y,H2,I2,r2,q2⟩=> ?_));refine wpAny_bind (U4 (wpAny_bind (wpAny_holding (thn (hs pins s2 σ H2 x y v ov O u _ I2 r1 r2 r q2) fun _ s3 ⟨H3,I3,q3⟩=> ?_))));exact wpAny_release ⟨σ,H3,I3,q3⟩
def tAsg (te:TE)(g:TG):TS:=fun D σ H=>te σ H fun x H1=>g x σ H1 D.nx
theorem ps_asg {tg e:Expr}{te:TE}{g:TG}(O:PE X e te)(U:PG X tg g)(Y:swapsWithSole [tg] e pos.line X.env=pure false:=by rfl)(hw:swappedStores [tg] e X.env=pure none:=by rfl)
  (h1:(assignEach [tg] X.env).map (·.2)= [assign tg X.env]:=by rfl):PS X (.Assign [tg] e pos) (tAsg te g):=by
 intro pins s σ H D I h;refine wpAny_Assign_stores (thn (O pins s σ H _ I h) fun v s1 ⟨x,H1,I1,r1,q1⟩=> ?_) Y hw;rw [h1];exact thn (U pins s1 σ H1 x v _ I1 r1 q1) fun _ s2 q=>q
theorem qx {i:Nat}{x:Str}{e:Expr}{te:TE}{pos':Pos}(O:X.N.Nodup)(hi:X.N[i]? =some x)(U:Loc X.env.scope x)(Y:PE X e te)(hs:swapsWith e (some (.Name x pos')) pos.line X.env=pure false:=by rfl)(hf:X.fn x=true∨X.env.scope.names.lookup x=some .local:=by first|exact .inl rfl|exact .inr rfl|assumption):
  PS X (.Assign [.Name x pos'] e pos) (tAsg te (Y8 i)):=by
 intro pins s σ H D I h;refine wpAny_Assign_Name (thn (Y pins s σ H _ I h) fun v s1 ⟨y,H1,I1,r1,q1⟩=> ?_) hs;exact jj I1 O hi U r1 (fun s2 I2=>⟨_,H1,I2,q1⟩) hf
def tAug (i:Nat)(te:TE)(ti:TIp):TS:=fun D σ H=>∃x,σ[i]? =some (some x)/\te σ H fun y H1=>ti x y H1 fun z H2=>D.nx (σ.set i (some z)) H2
theorem ps_aug {i:Nat}{x:Str}{e:Expr}{te:TE}{op:Operator}{ti:TIp}{pos':Pos}(hN:X.N.Nodup)(hi:X.N[i]? =some x)(Y:Loc X.env.scope x)(he:PE X e te)(ho:PIp X op ti)(hf:X.fn x=true∨X.env.scope.names.lookup x=some .local:=by first|exact .inl rfl|exact .inr rfl|assumption):
  PS X (.AugAssign (.Name x pos') op e pos) (tAug i te ti):=by
 intro pins s σ H D I h;obtain⟨v,e1,h⟩:=h;obtain⟨m,hn,hl⟩:=I.loc;have aa:Vis X.env.scope x:=by rcases Y with k|k;exact .inl k;exact .inr (.inl k)
 obtain⟨u,r,l⟩:=hl i x v hi e1 aa;refine wpAny_AugAssign_Name ?_;have go:wpAny (model X.prog X.w) X.A (eval e X.env) (fun w s₂=>wpAny (model X.prog X.w) X.A (inplaceOp op u w) (fun r s₃=>wpAny (model X.prog X.w) X.A (storeName X.env x r) (fun _=>SP X pins D .next) X.xe s₃) X.xe s₂) X.xe s:=by
  refine thn (he pins s σ H _ I h) fun w s1 ⟨y,H1,I1,r1,q1⟩=> ?_;refine thn (ho pins s1 σ H1 v y u w _ I1 r r1 q1) fun z s2 ⟨zv,H2,I2,r2,q2⟩=> ?_;exact jj I2 hN hi Y r2 (fun s3 I3=>⟨_,H2,I3,q2⟩) hf
 rcases l with⟨O,hm⟩|⟨O,c,hc,U⟩
 ·exact wpAny_loadName_local I.ok.kind O hn hm go
 ·rcases O with O|O
  ·exact wpAny_loadName_cell I.ok.kind O hc U go
  ·rcases Y with k|k
   ·have:X.env.scope.names.lookup x=some .free:=O;rw [k] at this;cases this
   ·have:X.env.scope.names.lookup x=some .free:=O;rw [k] at this;cases this
def ipI (f:Int->Int->Int):TIp:=fun x y H Q=>∃i j,x= .int i/\y= .int j/\Q (.int (f i j)) H
theorem ip_add:PIp X .Add (ipI fun i j=>i+j):=by
 intro pins s σ H x y v u Q I O U h;obtain⟨i,j,Y,e2,q⟩:=h;subst Y;subst e2;obtain⟨t,rfl⟩:=O;obtain⟨t',rfl⟩:=U;exact iadd_int ⟨.int _,H,I.tok _,⟨_,rfl⟩,q⟩
def tWhile (c:TT)(tb:TS):TS:=fun D σ H=>∃W:Nat->St->Hp->Prop,(∃m,W m σ H)/\∀m σ H,W m σ H->
 c σ H fun b H1=>if b=true then∃N:St->Hp->Prop,(∀σ' H',N σ' H'->∃m',m'<m/\W m' σ' H')/\tb {D with nx:=N,ct:=N,bk:=D.nx} σ H1 else D.nx σ H1
theorem Xm {c:Expr}{O:List Stmt}{tc:TT}{tb:TS}(hp:PassesOwn (model X.prog X.w) X.A X.env X.xe)(hc:PT X c tc)(hb:PSs X O tb):PS X (.While c O [] pos) (tWhile tc tb):=by
 intro pins s σ H D I h;obtain⟨W,⟨m0,w0⟩,U⟩:=h;refine wpAny_While (codeAny_whileLoop (fun n s'=>∃σ' H',Inv X pins σ' H' s'/\W n σ' H') ?_ m0 ⟨σ,H,I,w0⟩);rintro n s1 ⟨σ1,H1,I1,w1⟩;refine vM hp (thn (hc pins s1 σ1 H1 _ I1 (U n σ1 H1 w1)) fun b s2 ⟨H2,I2,q2⟩=> ?_);cases b with
 |true=>
  obtain⟨N,hN,q2⟩:=q2;rw [if_pos rfl];refine vM hp (thn (hb pins s2 σ1 H2 _ I2 q2) fun f s3 q3=> ?_);cases f with
  |next=>
   obtain⟨Y,H3,I3,n3⟩:=q3;obtain⟨m',hm,w3⟩:=hN Y H3 n3;exact⟨m',hm,Y,H3,I3,w3⟩
  |cont=>
   obtain⟨Y,H3,I3,n3⟩:=q3;obtain⟨m',hm,w3⟩:=hN Y H3 n3;exact⟨m',hm,Y,H3,I3,w3⟩
  |brk=>exact q3
  |ret v=>exact q3
 |false=>
  rw [if_neg uc];exact vL ⟨σ1,H2,I2,q2⟩
end
structure It where
 go:Nat->Hp->Prop
 yld:Nat->Hp->V->Hp->Prop
 stop:Nat->Hp->Prop
def FpOk (X:Cx)(pins:List (Addr×Obj))(H:Hp)(b:Addr):Prop:=
 H b=none/\b≠X.env.locals/\b∉X.fs/\(b∈X.ex∨X.s₀.heap.objs.size<=b)/\(∀x c,X.env.cells.lookup x=some c->c≠b)/\∀p∈X.pn++pins,p.1≠b
theorem Inv.fpOk {X:Cx}{pins:List (Addr×Obj)}{σ:St}{H H':Hp}{s:Shared}{b:Addr}(I:Inv X pins σ H s)(O:s.heap.objs.size<=b)(hn:H' b=none):FpOk X pins H' b:=by
 refine⟨hn,vj (Nat.lt_of_lt_of_le I.lt O),I.nofs O,.inr (uQ I.sz O),fun x c e z=> ?_,fun p U z=> ?_⟩
 ·obtain⟨v,q⟩:=I.cell x c e;exact absurd (Nat.lt_of_lt_of_le q.lt (by rw [z];exact O)) (uS _)
 ·exact absurd (Nat.lt_of_lt_of_le (ug (I.pin p U).1) (by rw [z];exact O)) (uS _)
structure Turn (P:Program)(w:World)(K:PySem.W.Frag)(tg:Expr)(J:It)(fp:List Addr)(it:Addr)(tn:Nat->Heap->Prop):Prop where
 mem:it∈fp
 obj:∀i h,tn i h->∀b∈fp,∃o,h.get? b=some o/\∀v,o.data≠ .cell v
 keep:∀i h h',tn i h->(∀b∈fp,∀o,h.get? b=some o->h'.get? b=some o)->tn i h'
 item:∀(X:Cx),X.prog=P->X.w=w->X.K=K->X.calm=true->∀(i:Nat) (pins:List (Addr×Obj)) (s:Shared) (σ:St) (H:Hp) (E:Value->Shared->Prop),Inv X pins σ H s->(∀b∈fp,FpOk X pins H b)->tn i s.heap->J.go i H->
  wpAny (model P w) X.A (pyNext (.ref it)) (fun r s1=>∃u,r=some u/\
   wpAny (model P w) X.A (letOwnedTupleGo tg (.ref it) u) (fun _ s2=>∃x H',Inv X pins σ H' s2/\RelV x u/\J.yld i H x H'/\tn (i+1) s2.heap/\∀b∈fp,H' b=none) E s1) E s
 done:∀(X:Cx),X.prog=P->X.w=w->X.K=K->X.calm=true->∀(i:Nat) (pins:List (Addr×Obj)) (s:Shared) (σ:St) (H:Hp) (E:Value->Shared->Prop),Inv X pins σ H s->(∀b∈fp,FpOk X pins H b)->tn i s.heap->J.stop i H->
  wpAny (model P w) X.A (pyNext (.ref it)) (fun r s1=>r=none/\Inv X pins σ H s1) E s
 self:∀(A:Around) (i:Nat) (s:Shared) (Q:Value->Shared->Prop) (E:Value->Shared->Prop),tn i s.heap->Q (.ref it) s->wpAny (model P w) A (pyIter (.ref it)) Q E s
abbrev TI:=St->Hp->(It->Hp->Prop)->Prop
def PIE (X:Cx)(pins:List (Addr×Obj))(σ:St)(tg:Expr)(R:It->Hp->Prop)(itv:Value)(s2:Shared):Prop:=
 ∃(it:Addr) (fp:List Addr) (tn:Nat->Heap->Prop) (J:It) (H':Hp),itv= .ref it/\Inv X pins σ H' s2/\Turn X.prog X.w X.K tg J fp it tn/\tn 0 s2.heap/\(∀b∈fp,FpOk X pins H' b)/\R J H'
def PI (X:Cx)(tg iter:Expr)(wi:TI):Prop:=
 ∀(pins:List (Addr×Obj)) (s:Shared) (σ:St) (H:Hp) (R:It->Hp->Prop),Inv X pins σ H s->wi σ H R->
  wpAny (model X.prog X.w) X.A (eval iter X.env) (fun v s1=>wpAny (model X.prog X.w) X.A (pyIter v) (PIE X pins σ tg R) X.xe s1) X.xe s
theorem go_of {M:Model}{A:Around}{E:Value->Shared->Prop}{s:Shared}{tg:Expr}{it:Addr}{u:Value}{o:Obj}{n:String}{vs:Array Value}{Q:Unit->Shared->Prop}(U:s.heap.get? it=some o)(Y:o.cls= .type n)(hd:o.data= .fields vs)
  (hn: ["enumerate","zip","dict_itemiterator","dict_reverseitemiterator","odict_iterator","itertools.zip_longest","itertools.pairwise"].contains n=false) (O:Q () s):wpAny M A (letOwnedTupleGo tg (.ref it) u) Q E s:=by
 unfold letOwnedTupleGo;cases tg<;>first
  |exact u9 O
  |(cases u<;>first
    |exact u9 O
    |(refine wpAny_bind (wpAny_load U ?_)
      rw [Y,hd];show wpAny M A (if(["enumerate","zip","dict_itemiterator","dict_reverseitemiterator","odict_iterator","itertools.zip_longest","itertools.pairwise"].contains n&&vs[0]? ==some (rawInt _))=true then _ else _) Q E s
      rw [if_neg (by intro h;rw [hn,Bool.false_and] at h;cases h)]
      exact u9 O))
def Itl (K:PySem.W.Frag)(a:Addr):It:=
 ⟨fun i H=>∃xs x,SqL K H a xs/\xs[i]? =some x,fun i H x H'=>H'=H/\∀xs,SqL K H a xs->xs[i]? =some x,fun i H=>∃xs,SqL K H a xs/\xs.length<=i⟩
def Itt (K:PySem.W.Frag)(a:Addr):It:=
 ⟨fun i H=>∃xs x,SqT K H a xs/\xs[i]? =some x,fun i H x H'=>H'=H/\∀xs,SqT K H a xs->xs[i]? =some x,fun i H=>∃xs,SqT K H a xs/\xs.length<=i⟩
def Itr (lo:Int)(n:Nat):It:=⟨fun i _=>i<n,fun i H x H'=>H'=H/\x= .int (lo+i),fun i _=>n<=i⟩
theorem turn_list {P:Program}{w:World}{K:PySem.W.Frag}{tg:Expr}(a it:Addr):Turn P w K tg (Itl K a) [it] it (fun i h=>h.IsListIter it a i) where
 mem:=by simp
 obj:=fun i h st b O=>by
  have e:b=it:=by simpa using O
  subst e;obtain⟨o,e,c,d⟩:=st;exact⟨o,e,fun v z=>by rw [d] at z;cases z⟩
 keep:=fun i h h' st k=>st.at fun o e=>k it (by simp) o e
 item:=by
  intro X hP hw hK hc i pins s σ H E I Y st hg;subst hP hw hK;obtain⟨xs,x,hq,hx⟩:=hg;obtain⟨its,rv,p,hz⟩:=I.list hq;obtain⟨u,hu,ru⟩:=rv.get hx;obtain⟨f0,f1,f2,f3,f4,f5⟩:=Y it (by simp)
  refine wpAny_pyNext_list_item st p.isList (x:=u) (by simpa using hu) fun h' U sb=> ?_
  have I1:Inv X pins σ H {s with heap:=h'}:=I.turned (t':=s.toks) (fun b o O e=>(sb.2 b O).trans e) f0 f1 f3 f4 f5
  obtain⟨o,e,c,d⟩:=id U;exact⟨u,rfl,go_of (s:={s with heap:=h'}) e c d (by decide) ⟨x,H,I1,ru,⟨rfl,fun ys hy=>by rw [I.list_inj hy hq];exact hx⟩,U,fun b O=>(Y b O).1⟩⟩
 done:=by
  intro X hP hw hK hc i pins s σ H E I Y st hg;subst hP hw hK;obtain⟨xs,hq,hx⟩:=hg;obtain⟨its,rv,p,hz⟩:=I.list hq;obtain⟨f0,f1,f2,f3,f4,f5⟩:=Y it (by simp)
  have hl:=rv.length;exact wpAny_pyNext_list_end (I.ok.hd hc) st p.isList (by simp;omega) fun h' eb=>⟨rfl,I.turned (t':=s.toks) (fun b o O e=>eb b o O e) f0 f1 f3 f4 f5⟩
 self:=fun _ _ _ _ _ st h=>wpAny_pyIter_listiter st h
theorem xS {P:Program}{w:World}{K:PySem.W.Frag}{tg:Expr}(a it:Addr):Turn P w K tg (Itt K a) [it] it (fun i h=>h.IsTupleIter it a i) where
 mem:=by simp
 obj:=fun i h st b O=>by
  have e:b=it:=by simpa using O
  subst e;obtain⟨o,e,c,d⟩:=st;exact⟨o,e,fun v z=>by rw [d] at z;cases z⟩
 keep:=fun i h h' st k=>st.at fun o e=>k it (by simp) o e
 item:=by
  intro X hP hw hK hc i pins s σ H E I Y st hg;subst hP hw hK;obtain⟨xs,x,hq,hx⟩:=hg;obtain⟨its,rv,p,hz⟩:=I.tuple hq;obtain⟨u,hu,ru⟩:=rv.get hx;obtain⟨f0,f1,f2,f3,f4,f5⟩:=Y it (by simp)
  refine wpAny_pyNext_tuple_item st (show s.heap.IsTuple a its.toArray from p) (x:=u) (by simpa using hu) fun h' U sb=> ?_
  have I1:Inv X pins σ H {s with heap:=h'}:=I.turned (t':=s.toks) (fun b o O e=>(sb.2 b O).trans e) f0 f1 f3 f4 f5
  obtain⟨o,e,c,d⟩:=id U;exact⟨u,rfl,go_of (s:={s with heap:=h'}) e c d (by decide) ⟨x,H,I1,ru,⟨rfl,fun ys hy=>by rw [I.tuple_inj hy hq];exact hx⟩,U,fun b O=>(Y b O).1⟩⟩
 done:=by
  intro X hP hw hK hc i pins s σ H E I Y st hg;subst hP hw hK;obtain⟨xs,hq,hx⟩:=hg;obtain⟨its,rv,p,hz⟩:=I.tuple hq;obtain⟨f0,f1,f2,f3,f4,f5⟩:=Y it (by simp)
  have hl:=rv.length;exact wpAny_pyNext_tuple_end (I.ok.hd hc) st (show s.heap.IsTuple a its.toArray from p) (by simp;omega) fun h' eb=>⟨rfl,I.turned (t':=s.toks) (fun b o O e=>eb b o O e) f0 f1 f3 f4 f5⟩
 self:=fun _ _ _ _ _ st h=>wpAny_pyIter_tupleiter st h
theorem turn_range {P:Program}{w:World}{K:PySem.W.Frag}{tg:Expr}(it:Addr)(lo:Int)(n:Nat):Turn P w K tg (Itr lo n) [it] it (fun i h=>IsRangeIter h it (lo+(i:Nat)*1) ((n:Int)-(i:Nat)) 1) where
 mem:=by simp
 obj:=fun i h st b O=>by
  have e:b=it:=by simpa using O
  subst e;exact⟨_,st,fun v z=>by
   have z':Data.fields _=Data.cell v:=z;cases z'⟩
 keep:=fun i h h' st k=>k it (by simp) _ st
 item:=by
  intro X hP hw hK hc i pins s σ H E I Y st hg;subst hP hw hK;obtain⟨f0,f1,f2,f3,f4,f5⟩:=Y it (by simp)
  have W:=Walks.range (prog:=X.prog) (w:=X.w) (I.ok.hd hc) it lo 1 n;refine uB (n:=1) I.tk (W.item i s _ _ hg st fun v h' tk hv U kk=> ?_);intro htk;obtain⟨t,rfl⟩:=hv;have I1:Inv X pins σ H {s with heap:=h',toks:=tk}:=I.turned (fun b o O e=>kk b o (by simpa using O) e) f0 f1 f3 f4 f5
  refine⟨_,rfl,go_of (s:={s with heap:=h',toks:=tk}) (n:="range_iterator") U rfl rfl (by decide) ⟨.int (lo+i),H,I1,⟨t,?_⟩,⟨rfl,rfl⟩,U,fun b O=>(Y b O).1⟩⟩
  rw [Int.mul_one]
 done:=by
  intro X hP hw hK hc i pins s σ H E I Y st hg;subst hP hw hK;obtain⟨f0,f1,f2,f3,f4,f5⟩:=Y it (by simp)
  exact wpAny_pyNext_range_end (I.ok.hd hc) st (by have:n<=i:=hg;omega) fun h' eb=>⟨rfl,I.turned (t':=s.toks) (fun b o O e=>eb b o O e) f0 f1 f3 f4 f5⟩
 self:=fun _ _ _ _ _ st h=>wpAny_pyIter_rangeiter st h
section
variable {X:Cx}{tg:Expr}
def iList (K:PySem.W.Frag)(tl:TE):TI:=fun σ H R=>tl σ H fun x H1=>∃a,x= .ref a/\(∃xs,SqL K H1 a xs)/\R (Itl K a) H1
def iTup (K:PySem.W.Frag)(tl:TE):TI:=fun σ H R=>tl σ H fun x H1=>∃a,x= .ref a/\(∃xs,SqT K H1 a xs)/\R (Itt K a) H1
theorem pi_list {l:Expr}{tl:TE}(U:PE X l tl):PI X tg l (iList X.K tl):=by
 intro pins s σ H R I h;refine thn (U pins s σ H _ I h) fun v s1 ⟨x,H1,O,Y,q1⟩=> ?_;obtain⟨a,e,⟨xs,hq⟩,q⟩:=q1;subst e;cases Y;obtain⟨its,rv,p,hz⟩:=O.list hq;refine vN p.isList ?_;refine⟨s1.heap.objs.size,[s1.heap.objs.size],_,_,H1,rfl,O.kept (t':=s1.toks) fun b o e=>u4 _ e,turn_list a _,⟨_,uh _ rfl,rfl,rfl⟩,fun b hb=> ?_,q⟩;have e:b=s1.heap.objs.size:=by simpa using hb
 subst e;exact O.fpOk (Nat.le_refl _) (O.hok.fresh (Nat.le_refl _))
theorem pi_tup {l:Expr}{tl:TE}(U:PE X l tl):PI X tg l (iTup X.K tl):=by
 intro pins s σ H R I h;refine thn (U pins s σ H _ I h) fun v s1 ⟨x,H1,O,Y,q1⟩=> ?_;obtain⟨a,e,⟨xs,hq⟩,q⟩:=q1;subst e;cases Y;obtain⟨its,rv,p,hz⟩:=O.tuple hq;refine wpAny_pyIter_tuple (show s1.heap.IsTuple a its.toArray from p) ?_
 refine⟨s1.heap.objs.size,[s1.heap.objs.size],_,_,H1,rfl,O.kept (t':=s1.toks) fun b o e=>u4 _ e,xS a _,⟨_,uh _ rfl,rfl,rfl⟩,fun b hb=> ?_,q⟩;have e:b=s1.heap.objs.size:=by simpa using hb
 subst e;exact O.fpOk (Nat.le_refl _) (O.hok.fresh (Nat.le_refl _))
theorem range_it {pins:List (Addr×Obj)}{σ:St}{H:Hp}{s:Shared}{R:It->Hp->Prop}{E:Value->Shared->Prop}{lo hi:Int}{t u v:Tok}{tk:Nat}(I:Inv X pins σ H s)(h1: -(2^62)<=lo)(h2:lo<2^62)(U: -(2^62)<=hi)(h4:hi<2^62)
  (q:R (Itr lo (hi-lo).toNat) H) (htk:0<tk:=by((try dsimp only);first|assumption|exact Inv.tk (by assumption)|exact Nat.succ_pos _|exact Nat.lt_of_lt_of_le (Inv.tk (by assumption)) (by assumption)|exact Nat.add_pos_left (Inv.tk (by assumption)) _|omega)):wpAny (model X.prog X.w) X.A (pyIter (.ref s.heap.objs.size)) (PIE X pins σ tg R) E {s with heap:=s.heap.push {cls:= .type "range",data:= .fields #[.int lo t,.int hi u,.int 1 v]},toks:=tk}:=by
 refine wpAny_pyIter_range (IsRange.new ..) (small_one h1 h2 U h4) ?_;have O:Inv X pins σ H {s with heap:=s.heap.push {cls:= .type "range",data:= .fields #[.int lo t,.int hi u,.int 1 v]},toks:=tk}:=I.kept fun b o e=>u4 _ e
 refine⟨(s.heap.push {cls:= .type "range",data:= .fields #[.int lo t,.int hi u,.int 1 v]}).objs.size,[(s.heap.push {cls:= .type "range",data:= .fields #[.int lo t,.int hi u,.int 1 v]}).objs.size],_,_,H,rfl,
  O.kept (t':=tk) fun b o e=>u4 _ e,turn_range _ lo (hi-lo).toNat,?_,fun b Y=> ?_,q⟩
 ·have e1:lo+((0:Nat):Int)*1=lo:=by simp
  have e2:(((hi-lo).toNat:Nat):Int)-((0:Nat):Int)=Builtin.Range.rangeSize lo hi 1:=by rw [rangeSize_one];split<;>omega
  show IsRangeIter _ _ (lo+((0:Nat):Int)*1) ((((hi-lo).toNat:Nat):Int)-((0:Nat):Int)) 1;rw [e1,e2];exact uh _ rfl
 ·have e:b=(s.heap.push {cls:= .type "range",data:= .fields #[.int lo t,.int hi u,.int 1 v]}).objs.size:=by simpa using Y
  subst e;exact O.fpOk (Nat.le_refl _) (O.hok.fresh (Nat.le_refl _))
def iRng1 (ta:TA):TI:=fun σ H R=>ta σ H fun vs H1=>∃j:Int,vs= [.int j]/\ -(2^62)<=j/\j<2^62/\R (Itr 0 j.toNat) H1
theorem Qp {a:Expr}{ta:TA}{p pos:Pos}(U:Gl X "range")(hm:X.mg "range"=none)(ha:PA X [a] ta)(Y:starEach [a] X.env= [(false,eval a X.env)]:=by rfl):PI X tg (.Call (.Name "range" p) [a] [] pos) (iRng1 ta):=by
 intro pins s σ H R I h;refine Call_ (Jj I U hm boot_range (vt (thn (ha pos pins s σ H _ I h) fun us s1 ⟨vs,H1,I1,r1,O⟩=> ?_) Y rfl));obtain⟨j,e,O,q2,q⟩:=O;subst e;cases r1 with
 |cons r rr=>
  cases rr;obtain⟨t,rfl⟩:=r;exact call_range_1 (range_it I1 (by omega) (by omega) O q2 (by simpa using q))
def tFor (wi:TI)(g:TG)(tb:TS):TS:=fun D σ H=>wi σ H fun J H1=>∃W:Nat->Nat->St->Hp->Prop,(∃m,W 0 m σ H1)/\∀i m σ H,W i m σ H->
 (J.stop i H/\D.nx σ H)∨(J.go i H/\∃N:St->Hp->Prop,(∀σ' H',N σ' H'->∃m',m'<m/\W (i+1) m' σ' H')/\∀x H',J.yld i H x H'->g x σ H' fun σ2 H2=>tb {D with nx:=N,ct:=N,bk:=D.nx} σ2 H2)
def pinsAt (fp:List Addr)(h:Heap):List (Addr×Obj):=fp.filterMap fun b=>(h.get? b).map fun o=>(b,o)
theorem Yj {fp:List Addr}{h:Heap}{b:Addr}{o:Obj}(O:b∈fp)(e:h.get? b=some o):(b,o)∈pinsAt fp h:=List.mem_filterMap.mpr ⟨b,O,by rw [e];rfl⟩
theorem of_pinsAt {fp:List Addr}{h:Heap}{p:Addr×Obj}(O:p∈pinsAt fp h):p.1∈fp/\h.get? p.1=some p.2:=by
 obtain⟨b,U,e⟩:=List.mem_filterMap.mp O;cases q:h.get? b with
 |none=>rw [q] at e;cases e
 |some o=>
  rw [q] at e;have Y:(b,o)=p:=uI e;subst Y;exact⟨U,q⟩
theorem Inv.pinned {pins:List (Addr×Obj)}{σ:St}{H:Hp}{s:Shared}{fp:List Addr}(I:Inv X pins σ H s)(Y:∀b∈fp,FpOk X pins H b)(ho:∀b∈fp,∃o,s.heap.get? b=some o/\∀v,o.data≠ .cell v):Inv X (pins++pinsAt fp s.heap) σ H s:=
 I.pins_of fun p hp=>(List.mem_append.mp hp).elim (fun z=>I.pin p (uK _ z)) fun z=>by
  obtain⟨O,e⟩:=of_pinsAt z;obtain⟨f0,f1,f2,_⟩:=Y p.1 O;obtain⟨o,U,d⟩:=ho p.1 O;rw [e] at U;cases U;exact⟨e,f0,f1,f2,d⟩
theorem Inv.unpinned {pins pl:List (Addr×Obj)}{σ:St}{H:Hp}{s:Shared}(I:Inv X (pins++pl) σ H s):Inv X pins σ H s:=I.pins_of fun p O=>I.pin p (uK _ (List.mem_append_left _ O))
theorem jG {O:Expr}{ac:List Stmt}{wi:TI}{g:TG}{tb:TS}{pos:Pos}(hp:PassesOwn (model X.prog X.w) X.A X.env X.xe)(hc:X.calm=true)(hi:PI X tg O wi)(hg:PG X tg g)(U:PSs X ac tb)
  (hs:∀x,foldedSetIterable O X.env x=pure x:=by intro _;rfl):PS X (.For tg O ac [] pos) (tFor wi g tb):=by
 intro pins s σ H D I h;refine wpAny_For (thn (hi pins s σ H _ I h) fun v s1 h1=>thn h1 fun ak s2 h2=> ?_) hs;obtain⟨it,fp,tn,J,H2,e,I2,T,ah,f2,W,⟨m0,w0⟩,ae⟩:=h2;subst e;have Y:∀{H':Hp},(∀b∈fp,H' b=none)->∀b∈fp,FpOk X pins H' b:=fun hn b U=>⟨hn b U,(f2 b U).2⟩;refine codeAny_forLoop_any (fun n s'=>∃i σ' H',Inv X pins σ' H' s'/\tn i s'.heap/\(∀b∈fp,H' b=none)/\W i n σ' H') ?_ m0 ⟨0,σ,H2,I2,ah,fun b U=>(f2 b U).1,w0⟩;rintro n s3 ⟨i,σ3,H3,I3,af,ag,w3⟩;rcases ae i n σ3 H3 w3 with⟨stop,qn⟩|⟨go,N,hN,step⟩
 ·refine vM hp (thn (T.done X rfl rfl rfl hc i pins s3 σ3 H3 X.xe I3 (Y ag) af stop) fun r s4 ⟨hr,I4⟩=> ?_);subst hr;exact vL ⟨σ3,H3,I4,qn⟩
 ·refine vM hp (thn (T.item X rfl rfl rfl hc i pins s3 σ3 H3 X.xe I3 (Y ag) af go) fun r s4 ⟨u,hr,h4⟩=> ?_);subst hr;refine vM hp (thn h4 fun _ s5 ⟨x,H5,I5,r5,y5,ad,ai⟩=> ?_);have aj:=I5.pinned (Y ai) (T.obj _ _ ad);refine vM hp (thn (hg _ s5 σ3 H5 x u _ aj r5 (step x H5 y5)) fun _ s6 ⟨σ6,H6,I6,q6⟩=> ?_);refine vM hp (thn (U _ s6 σ6 H6 _ I6 q6) fun f s7 q7=> ?_);have aa:∀{σ7:St}{H7:Hp},Inv X (pins++pinsAt fp s5.heap) σ7 H7 s7->N σ7 H7->∃m,m<n/\∃i σ' H',Inv X pins σ' H' s7/\tn i s7.heap/\(∀b∈fp,H' b=none)/\W i m σ' H':=fun{σ7 H7} I7 n7=>by
   obtain⟨m',hm,w7⟩:=hN σ7 H7 n7;refine⟨m',hm,i+1,σ7,H7,I7.unpinned,T.keep _ _ _ ad fun b U o e=>(I7.pin (b,o) (uK _ (uK _ (Yj U e)))).1,fun b U=> ?_,w7⟩;obtain⟨o,e,d⟩:=T.obj _ _ ad b U;exact(I7.pin (b,o) (uK _ (uK _ (Yj U e)))).2.1
  cases f with
  |next=>obtain⟨σ7,H7,I7,n7⟩:=q7;exact aa I7 n7
  |cont=>obtain⟨σ7,H7,I7,n7⟩:=q7;exact aa I7 n7
  |brk=>obtain⟨σ7,H7,I7,q7⟩:=q7;exact⟨σ7,H7,I7.unpinned,q7⟩
  |ret v=>obtain⟨x7,σ7,H7,I7,r7,q7⟩:=q7;exact⟨x7,σ7,H7,I7.unpinned,r7,q7⟩
end
theorem for_list {K:PySem.W.Frag}{a:Addr}{xs:List V}{g:TG}{tb:TS}{D:Ends}{σ:St}{H:Hp}(O:Nat->St->Hp->Prop)(h0:O 0 σ H)(hl:∀i σ H,i<=xs.length->O i σ H->SqL K H a xs)
  (hs:∀i x σ H,xs[i]? =some x->O i σ H->g x σ H fun Y H2=>tb {D with nx:=O (i+1),ct:=O (i+1),bk:=D.nx} Y H2) (hd:∀σ H,O xs.length σ H->D.nx σ H):
  ∃W:Nat->Nat->St->Hp->Prop,(∃m,W 0 m σ H)/\∀i m σ H,W i m σ H->
   ((Itl K a).stop i H/\D.nx σ H)∨((Itl K a).go i H/\∃N:St->Hp->Prop,(∀σ' H',N σ' H'->∃m',m'<m/\W (i+1) m' σ' H')/\∀x H',(Itl K a).yld i H x H'->g x σ H' fun Y H2=>tb {D with nx:=N,ct:=N,bk:=D.nx} Y H2):=by
 refine⟨fun i m σ H=>m=xs.length-i/\i<=xs.length/\O i σ H,⟨xs.length,by simp,uF _,h0⟩,?_⟩
 rintro i m σ H ⟨rfl,hi,p⟩;have q:=hl i σ H hi p;by_cases U:i<xs.length
 ·refine .inr ⟨⟨xs,xs[i],q,by simp [U]⟩,O (i+1),fun σ' H' p'=>⟨xs.length-(i+1),by omega,rfl,U,p'⟩,fun x H' y=> ?_⟩
  obtain⟨e,y⟩:=y;subst e;exact hs i x σ _ (y xs q) p
 ·have e:i=xs.length:=by omega
  subst e;exact .inl ⟨⟨xs,q,Nat.le_refl _⟩,hd σ H p⟩
theorem for_tup {K:PySem.W.Frag}{a:Addr}{xs:List V}{g:TG}{tb:TS}{D:Ends}{σ:St}{H:Hp}(O:Nat->St->Hp->Prop)(h0:O 0 σ H)(hl:∀i σ H,i<=xs.length->O i σ H->SqT K H a xs)
  (hs:∀i x σ H,xs[i]? =some x->O i σ H->g x σ H fun Y H2=>tb {D with nx:=O (i+1),ct:=O (i+1),bk:=D.nx} Y H2) (hd:∀σ H,O xs.length σ H->D.nx σ H):
  ∃W:Nat->Nat->St->Hp->Prop,(∃m,W 0 m σ H)/\∀i m σ H,W i m σ H->
   ((Itt K a).stop i H/\D.nx σ H)∨((Itt K a).go i H/\∃N:St->Hp->Prop,(∀σ' H',N σ' H'->∃m',m'<m/\W (i+1) m' σ' H')/\∀x H',(Itt K a).yld i H x H'->g x σ H' fun Y H2=>tb {D with nx:=N,ct:=N,bk:=D.nx} Y H2):=by
 refine⟨fun i m σ H=>m=xs.length-i/\i<=xs.length/\O i σ H,⟨xs.length,by simp,uF _,h0⟩,?_⟩
 rintro i m σ H ⟨rfl,hi,p⟩;have q:=hl i σ H hi p;by_cases U:i<xs.length
 ·refine .inr ⟨⟨xs,xs[i],q,by simp [U]⟩,O (i+1),fun σ' H' p'=>⟨xs.length-(i+1),by omega,rfl,U,p'⟩,fun x H' y=> ?_⟩
  obtain⟨e,y⟩:=y;subst e;exact hs i x σ _ (y xs q) p
 ·have e:i=xs.length:=by omega
  subst e;exact .inl ⟨⟨xs,q,Nat.le_refl _⟩,hd σ H p⟩
theorem jh {lo:Int}{n:Nat}{g:TG}{tb:TS}{D:Ends}{σ:St}{H:Hp}(O:Nat->St->Hp->Prop)(h0:O 0 σ H)
  (hs:∀i σ H,i<n->O i σ H->g (.int (lo+i)) σ H fun Y H2=>tb {D with nx:=O (i+1),ct:=O (i+1),bk:=D.nx} Y H2) (hd:∀σ H,O n σ H->D.nx σ H):
  ∃W:Nat->Nat->St->Hp->Prop,(∃m,W 0 m σ H)/\∀i m σ H,W i m σ H->
   ((Itr lo n).stop i H/\D.nx σ H)∨((Itr lo n).go i H/\∃N:St->Hp->Prop,(∀σ' H',N σ' H'->∃m',m'<m/\W (i+1) m' σ' H')/\∀x H',(Itr lo n).yld i H x H'->g x σ H' fun Y H2=>tb {D with nx:=N,ct:=N,bk:=D.nx} Y H2):=by
 refine⟨fun i m σ H=>m=n-i/\i<=n/\O i σ H,⟨n,by simp,uF _,h0⟩,?_⟩
 rintro i m σ H ⟨rfl,hi,p⟩;by_cases U:i<n
 ·refine .inr ⟨U,O (i+1),fun σ' H' p'=>⟨n-(i+1),by omega,rfl,U,p'⟩,fun x H' y=> ?_⟩
  obtain⟨e,y⟩:=y;subst e y;exact hs i σ _ U p
 ·have e:i=n:=by omega
  subst e;exact .inl ⟨Nat.le_refl _,hd σ H p⟩
abbrev R2:=V->V->Hp->VK->Prop
def OpR (X:Cx)(f:Value->Value->Sem Value)(r:R2):Prop:=
 ∀(pins:List (Addr×Obj)) (s:Shared) (σ:St) (H:Hp) (x y:V) (v u:Value) (Q:VK),Inv X pins σ H s->RelV x v->RelV y u->r x y H Q->
  wpAny (model X.prog X.w) X.A (f v u) (EP X pins σ Q) X.xe s
def UnR (X:Cx)(f:Value->Sem Value)(r:V->Hp->VK->Prop):Prop:=
 ∀(pins:List (Addr×Obj)) (s:Shared) (σ:St) (H:Hp) (x:V) (v:Value) (Q:VK),Inv X pins σ H s->RelV x v->r x H Q->
  wpAny (model X.prog X.w) X.A (f v) (EP X pins σ Q) X.xe s
def ye (X:Cx)(f:Value)(r:List V->Hp->VK->Prop):Prop:=
 ∀(pins:List (Addr×Obj)) (s:Shared) (σ:St) (H:Hp) (xs:List V) (us:List Value) (Q:VK),Inv X pins σ H s->Vals xs us->r xs H Q->
  wpAny (model X.prog X.w) X.A (call f us) (EP X pins σ Q) X.xe s
def TruR (X:Cx)(r:V->Hp->(Bool->Hp->Prop)->Prop):Prop:=
 ∀(pins:List (Addr×Obj)) (s:Shared) (σ:St) (H:Hp) (x:V) (v:Value) (Q:Bool->Hp->Prop),Inv X pins σ H s->RelV x v->r x H Q->
  wpAny (model X.prog X.w) X.A (truthy v) (TP X pins σ Q) X.xe s
def tOp (r:R2)(ta tb:TE):TE:=fun σ H Q=>ta σ H fun x H1=>tb σ H1 fun y H2=>r x y H2 Q
def tUn (r:V->Hp->VK->Prop)(ta:TE):TE:=fun σ H Q=>ta σ H fun x H1=>r x H1 Q
def rI (C:Int->Int->Prop)(g:Int->Int->V):R2:=fun x y H Q=>∃i j,x= .int i/\y= .int j/\C i j/\Q (g i j) H
def rI0 (g:Int->Int->V):R2:=fun x y H Q=>∃i j,x= .int i/\y= .int j/\Q (g i j) H
def rU (g:Int->V):V->Hp->VK->Prop:=fun x H Q=>∃i,x= .int i/\Q (g i) H
section
variable {X:Cx}{a b c:Expr}{ta tb tc:TE}{pos:Pos}
theorem binT (ha:PE X a ta)(O:PE X b tb){pins:List (Addr×Obj)}{s:Shared}{σ:St}{H:Hp}{R:V->V->Hp->Prop}(I:Inv X pins σ H s)
  (h:ta σ H fun x H1=>tb σ H1 fun y H2=>R x y H2) {Q:Value->Shared->Prop}{f:Value->Value->Sem Value}
  (U:∀v u s2 x y H2,Inv X pins σ H2 s2->RelV x v->RelV y u->R x y H2->wpAny (model X.prog X.w) X.A (f v u) Q X.xe s2):
  wpAny (model X.prog X.w) X.A (eval a X.env) (fun v Y=>wpAny (model X.prog X.w) X.A (eval b X.env) (fun u s₂=>wpAny (model X.prog X.w) X.A (f v u) Q X.xe s₂) X.xe Y) X.xe s:=by
 refine thn (ha pins s σ H _ I h) fun v s1 ⟨x,H1,I1,r1,q1⟩=> ?_;refine thn (O pins s1 σ H1 _ I1 q1) fun u s2 ⟨y,H2,I2,r2,q2⟩=> ?_;exact U v u s2 x y H2 I2 r1 r2 q2
theorem qA {op:Operator}{r:R2}(O:OpR X (binaryOp op) r)(ha:PE X a ta)(U:PE X b tb):PE X (.BinOp a op b pos) (tOp r ta tb):=by
 intro pins s σ H Q I h;exact wpAny_BinOp (binT ha U I h fun v u s2 x y H2 Y rx ry q=>O pins s2 σ H2 x y v u Q Y rx ry q)
theorem pe_un {op:UnaryOp}{r:V->Hp->VK->Prop}(O:UnR X (unaryOp op) r)(ha:PE X a ta):PE X (.UnaryOp op a pos) (tUn r ta):=by
 intro pins s σ H Q I h;exact UnaryOp_ (thn (ha pins s σ H _ I h) fun v s1 ⟨x,H1,U,Y,q1⟩=>O pins s1 σ H1 x v Q U Y q1)
theorem opI {f:Value->Value->Sem Value}{C:Int->Int->Prop}{g:Int->Int->Int}
  (O:∀(i j:Int) (t u:Tok) (s:Shared) (Q:Value->Shared->Prop) (E:Value->Shared->Prop),C i j->Q (.int (g i j) s.toks) {s with toks:=s.toks+1}->wpAny (model X.prog X.w) X.A (f (.int i t) (.int j u)) Q E s):
  OpR X f (rI C fun i j=> .int (g i j)):=by
 intro pins s σ H x y v u Q I U Y h;obtain⟨i,j,rfl,rfl,hc,q⟩:=h;obtain⟨t,rfl⟩:=U;obtain⟨t',rfl⟩:=Y;exact O i j t t' s _ _ hc ⟨.int (g i j),H,I.tok _,⟨_,rfl⟩,q⟩
theorem opI0 {f:Value->Value->Sem Value}{g:Int->Int->Int}
  (O:∀(i j:Int) (t u:Tok) (s:Shared) (Q:Value->Shared->Prop) (E:Value->Shared->Prop),Q (.int (g i j) s.toks) {s with toks:=s.toks+1}->wpAny (model X.prog X.w) X.A (f (.int i t) (.int j u)) Q E s):
  OpR X f (rI0 fun i j=> .int (g i j)):=by
 intro pins s σ H x y v u Q I U Y h;obtain⟨i,j,rfl,rfl,q⟩:=h;obtain⟨t,rfl⟩:=U;obtain⟨t',rfl⟩:=Y;exact O i j t t' s _ _ ⟨.int (g i j),H,I.tok _,⟨_,rfl⟩,q⟩
theorem opB0 {f:Value->Value->Sem Value}{g:Int->Int->Bool}
  (O:∀(i j:Int) (t u:Tok) (s:Shared) (Q:Value->Shared->Prop) (E:Value->Shared->Prop),Q (.bool (g i j)) s->wpAny (model X.prog X.w) X.A (f (.int i t) (.int j u)) Q E s):
  OpR X f (rI0 fun i j=> .bl (g i j)):=by
 intro pins s σ H x y v u Q I U Y h;obtain⟨i,j,rfl,rfl,q⟩:=h;obtain⟨t,rfl⟩:=U;obtain⟨t',rfl⟩:=Y;exact O i j t t' s _ _ ⟨.bl (g i j),H,I,rfl,q⟩
def CDiv (i j:Int):Prop:=0<j/\j<1073741824
def CPow (i j:Int):Prop:=0<=j/\j<=1000000/\i.natAbs<2^64
def CMul (i j:Int):Prop:=(-(2^64)<i/\i<2^64)∨(-(2^64)<j/\j<2^64)
theorem CMul.ok {i j:Int}(h:CMul i j):IntMulOk i j:=by
 rcases h with⟨h1,h2⟩|⟨h1,h2⟩
 ·exact .of_left (intBits_le_64 h1 h2)
 ·exact .of_right (intBits_le_64 h1 h2)
theorem qW:OpR X (binaryOp .Add) (rI0 fun i j=> .int (i+j)):=opI0 fun _ _ _ _ _ _ _ q=>add_int q
theorem op_sub:OpR X (binaryOp .Sub) (rI0 fun i j=> .int (i-j)):=opI0 fun _ _ _ _ _ _ _ q=>sub_int q
theorem op_mul:OpR X (binaryOp .Mult) (rI CMul fun i j=> .int (i*j)):=opI fun _ _ _ _ _ _ _ O q=>mul_int q O.ok
theorem op_fdiv:OpR X (binaryOp .FloorDiv) (rI CDiv fun i j=> .int (i/j)):=opI fun i j _ _ _ _ _ O q=>by
 have h1:(0:Int)<j:=O.1;have h2:j<1073741824:=O.2;exact floordiv_int (by omega) (by rw [Int.fdiv_eq_ediv_of_nonneg i (by omega)];exact q) (.inl (PyProof.noPylong_small (by omega)))
theorem j9:OpR X (binaryOp .Mod) (rI (fun _ j=>0<j) fun i j=> .int (i%j)):=opI fun i j _ _ _ _ _ O q=>by
 have h1:(0:Int)<j:=O;exact mod_int' (by omega) (by rw [Int.fmod_eq_emod_of_nonneg i (by omega)];exact q)
theorem op_pow:OpR X (binaryOp .Pow) (rI CPow fun i j=> .int (i^j.toNat)):=opI fun _ _ _ _ _ _ _ O q=>pow_int_small O.1 O.2.1 O.2.2 q
theorem unI {f:Value->Sem Value}{g:Int->Int}
  (O:∀(i:Int) (t:Tok) (s:Shared) (Q:Value->Shared->Prop) (E:Value->Shared->Prop),Q (.int (g i) s.toks) {s with toks:=s.toks+1}->wpAny (model X.prog X.w) X.A (f (.int i t)) Q E s):
  UnR X f (rU fun i=> .int (g i)):=by
 intro pins s σ H x v Q I U h;obtain⟨i,rfl,q⟩:=h;obtain⟨t,rfl⟩:=U;exact O i t s _ _ ⟨.int (g i),H,I.tok _,⟨_,rfl⟩,q⟩
theorem un_neg:UnR X (unaryOp .USub) (rU fun i=> .int (-i)):=unI fun _ _ _ _ _ q=>neg_int q
def scal:V->V->Bool
 | .non,.non=>true| .non,.int _=>true| .int _,.non=>true| .non,.bl _=>true| .bl _,.non=>true| .non,.str _=>true| .str _,.non=>true
 | .int _,.int _=>true| .bl _,.bl _=>true| .str _,.str _=>true| .byt _,.byt _=>true
 | .int _,.str _=>true| .str _,.int _=>true| .bl _,.str _=>true| .str _,.bl _=>true
 |_,_=>false
def rEq:R2:=fun x y H Q=>scal x y=true/\Q (.bl (decide (x=y))) H
def rNe:R2:=fun x y H Q=>scal x y=true/\Q (.bl (!decide (x=y))) H
theorem dec_int {i j:Int}:decide (V.int i=V.int j)=(i==j):=by
 rw [vk];simp
theorem dec_bl {i j:Bool}:decide (V.bl i=V.bl j)=(i==j):=by
 rw [vk];simp
theorem dec_str {i j:Str}:decide (V.str i=V.str j)=(i==j):=by
 rw [vk];simp
theorem dec_byt {i j:Array UInt8}:decide (V.byt i=V.byt j)=(i.toList==j.toList):=by
 rw [vk];cases i;cases j;simp
theorem qK {pins:List (Addr×Obj)}{σ:St}{H:Hp}{s:Shared}{Q:VK}{k O:Bool}(I:Inv X pins σ H s)(q:Q (.bl k) H)(e:k=O):EP X pins σ Q (.bool O) s:=by
 subst e;exact⟨.bl k,H,I,rfl,q⟩
theorem Q1:OpR X (compareOp .Eq) rEq:=by
 intro pins s σ H x y v u Q I Y O h;obtain⟨U,q⟩:=h;cases x with
 |non=>
  cases Y;cases y with
  |non=>cases O;exact PySem.EqNone.eq_none_none (qK I q (by simp))
  |bl j=>cases O;exact PySem.EqNone.eq_none_bool (qK I q (by simp))
  |int j=>obtain⟨t',rfl⟩:=O;exact PySem.EqNone.eq_none_int (qK I q (by simp))
  |str j=>obtain⟨t',rfl⟩:=O;exact PySem.EqNone.eq_none_str (qK I q (by simp))
  |_=>exact absurd (show false=true from U) uc
 |bl i=>
  cases Y;cases y with
  |non=>cases O;exact PySem.EqNone.eq_bool_none (qK I q (by simp))
  |bl j=>cases O;exact eq_bool (qK I q dec_bl)
  |str j=>obtain⟨t',rfl⟩:=O;exact PySem.EqMixed.eq_bool_str (qK I q (by simp))
  |_=>exact absurd (show false=true from U) uc
 |int i=>
  obtain⟨t,rfl⟩:=Y;cases y with
  |non=>cases O;exact PySem.EqNone.eq_int_none (qK I q (by simp))
  |int j=>obtain⟨t',rfl⟩:=O;exact eq_int (qK I q dec_int)
  |str j=>obtain⟨t',rfl⟩:=O;exact PySem.EqMixed.eq_int_str (qK I q (by simp))
  |_=>exact absurd (show false=true from U) uc
 |str i=>
  obtain⟨t,rfl⟩:=Y;cases y with
  |non=>cases O;exact PySem.EqNone.eq_str_none (qK I q (by simp))
  |bl j=>cases O;exact PySem.EqMixed.eq_str_bool (qK I q (by simp))
  |int j=>obtain⟨t',rfl⟩:=O;exact PySem.EqMixed.eq_str_int (qK I q (by simp))
  |str j=>obtain⟨t',rfl⟩:=O;exact eq_str (qK I q dec_str)
  |_=>exact absurd (show false=true from U) uc
 |byt i=>
  obtain⟨t,rfl⟩:=Y;cases y with
  |byt j=>obtain⟨t',rfl⟩:=O;exact PySem.W.eq_bytes (qK I q dec_byt)
  |_=>exact absurd (show false=true from U) uc
 |_=>cases y<;>exact absurd (show false=true from U) uc
theorem JF:OpR X (compareOp .NotEq) rNe:=by
 intro pins s σ H x y v u Q I Y O h;obtain⟨U,q⟩:=h;cases x with
 |non=>
  cases Y;cases y with
  |non=>cases O;exact PySem.EqNone.ne_none_none (qK I q (by simp))
  |bl j=>cases O;exact PySem.EqNone.ne_none_bool (qK I q (by simp))
  |int j=>obtain⟨t',rfl⟩:=O;exact PySem.EqNone.ne_none_int (qK I q (by simp))
  |str j=>obtain⟨t',rfl⟩:=O;exact PySem.EqNone.ne_none_str (qK I q (by simp))
  |_=>exact absurd (show false=true from U) uc
 |bl i=>
  cases Y;cases y with
  |non=>cases O;exact PySem.EqNone.ne_bool_none (qK I q (by simp))
  |bl j=>cases O;exact ne_bool (qK I q (congrArg not dec_bl))
  |str j=>obtain⟨t',rfl⟩:=O;exact PySem.EqMixed.ne_bool_str (qK I q (by simp))
  |_=>exact absurd (show false=true from U) uc
 |int i=>
  obtain⟨t,rfl⟩:=Y;cases y with
  |non=>cases O;exact PySem.EqNone.ne_int_none (qK I q (by simp))
  |int j=>obtain⟨t',rfl⟩:=O;exact ne_int (qK I q (congrArg not dec_int))
  |str j=>obtain⟨t',rfl⟩:=O;exact PySem.EqMixed.ne_int_str (qK I q (by simp))
  |_=>exact absurd (show false=true from U) uc
 |str i=>
  obtain⟨t,rfl⟩:=Y;cases y with
  |non=>cases O;exact PySem.EqNone.ne_str_none (qK I q (by simp))
  |bl j=>cases O;exact PySem.EqMixed.ne_str_bool (qK I q (by simp))
  |int j=>obtain⟨t',rfl⟩:=O;exact PySem.EqMixed.ne_str_int (qK I q (by simp))
  |str j=>obtain⟨t',rfl⟩:=O;exact ne_str (qK I q (congrArg not dec_str))
  |_=>exact absurd (show false=true from U) uc
 |byt i=>
  obtain⟨t,rfl⟩:=Y;cases y with
  |byt j=>obtain⟨t',rfl⟩:=O;exact PySem.W.ne_bytes (qK I q (congrArg not dec_byt))
  |_=>exact absurd (show false=true from U) uc
 |_=>cases y<;>exact absurd (show false=true from U) uc
theorem op_lt:OpR X (compareOp .Lt) (rI0 fun i j=> .bl (decide (i<j))):=opB0 fun _ _ _ _ _ _ _ q=>lt_int q
theorem op_le:OpR X (compareOp .LtE) (rI0 fun i j=> .bl (decide (i<=j))):=opB0 fun _ _ _ _ _ _ _ q=>le_int q
theorem op_gt:OpR X (compareOp .Gt) (rI0 fun i j=> .bl (decide (j<i))):=opB0 fun _ _ _ _ _ _ _ q=>gt_int q
theorem op_ge:OpR X (compareOp .GtE) (rI0 fun i j=> .bl (decide (j<=i))):=opB0 fun _ _ _ _ _ _ _ q=>ge_int q
theorem op_lt_str:OpR X (compareOp .Lt) (fun x y H Q=>∃i j,x= .str i/\y= .str j/\Q (.bl (decide (i.cps.toList<j.cps.toList))) H):=by
 intro pins s σ H x y v u Q I O U h;obtain⟨i,j,rfl,rfl,q⟩:=h;obtain⟨t,rfl⟩:=O;obtain⟨t',rfl⟩:=U;exact lt_str (qK I q rfl)
theorem op_in_str:OpR X (compareOp .In) (fun x y H Q=>∃i j,x= .str i/\y= .str j/\Q (.bl (!(Builtin.Str.occurrences j i 0 j.length 1).isEmpty)) H):=by
 intro pins s σ H x y v u Q I O U h;obtain⟨i,j,rfl,rfl,q⟩:=h;obtain⟨t,rfl⟩:=O;obtain⟨t',rfl⟩:=U;exact in_str (qK I q rfl)
theorem op_isN:OpR X (compareOp .Is) (fun x y H Q=>y= .non/\Q (.bl (decide (x= .non))) H):=by
 intro pins s σ H x y v u Q I O U h;obtain⟨rfl,q⟩:=h;cases U;refine is_none_gen (qK I q ?_);cases x<;>first
  |(cases O;rfl)
  |(obtain⟨t,rfl⟩:=O;rfl)
theorem qz (b:Expr){op:CmpOp}(h:op≠ .In:=by decide)(h2:op≠ .NotIn:=by decide):behindInMarks op b=false:=by
 have O:(op==CmpOp.In)=false:=by cases op<;>first|rfl|exact absurd rfl h
 have U:(op==CmpOp.NotIn)=false:=by cases op<;>first|rfl|exact absurd rfl h2
 cases b<;>simp [behindInMarks,O,U]
theorem YT {op:CmpOp}{r:R2}(O:OpR X (compareOp op) r)(ha:PE X a ta)(U:PE X b tb)(hm:behindInMarks op b=false):PE X (.Compare a [op] [b] pos) (tOp r ta tb):=by
 intro pins s σ H Q I h;exact wpAny_Compare1 (binT ha U I h fun v u s2 x y H2 Y rx ry q=>O pins s2 σ H2 x y v u Q Y rx ry q) hm
def tTest (t:TE):TT:=fun σ H Q=>t σ H fun x H'=>∃k,x= .bl k/\Q k H'
theorem qp {op:CmpOp}{r:R2}(O:OpR X (compareOp op) r)(ha:PE X a ta)(U:PE X b tb)(hm:behindInMarks op b=false):PT X (.Compare a [op] [b] pos) (tTest (tOp r ta tb)):=by
 intro pins s σ H Q I h;refine wpAny_isTrue_Compare1 (thn (ha pins s σ H _ I h) fun v s1 ⟨x,H1,Y,r1,q1⟩=>thn (U pins s1 σ H1 _ Y q1) fun u s2 ⟨y,H2,I2,r2,q2⟩=>
  thn (O pins s2 σ H2 x y v u _ I2 r1 r2 q2) fun c s3 ⟨z,H3,I3,r3,k,e,q3⟩=> ?_) hm
 subst e;cases r3;exact v6 ⟨H3,I3,q3⟩
def tChain (r r':R2)(ta tb tc:TE):TE:=fun σ H Q=>ta σ H fun x H1=>tb σ H1 fun y H2=>r x y H2 fun z H3=>∃k,z= .bl k/\
 (if k=true then tc σ H3 fun w' H4=>r' y w' H4 Q else Q (.bl false) H3)
theorem pt_chain {op O:CmpOp}{r Y:R2}(ho:OpR X (compareOp op) r)(U:OpR X (compareOp O) Y)(ha:PE X a ta)(hb:PE X b tb)(hc:PE X c tc)
  (hm:lastMarks [op,O] [b,c]=false:=by with_unfolding_all rfl):PT X (.Compare a [op,O] [b,c] pos) (tTest (tChain r Y ta tb tc)):=by
 intro pins s σ H Q I h;refine isTrue_chain (thn (ha pins s σ H _ I h) fun v s1 ⟨x,H1,I1,r1,q1⟩=>test_link (thn (hb pins s1 σ H1 _ I1 q1) fun u s2 ⟨y,H2,I2,r2,q2⟩=>
  thn (ho pins s2 σ H2 x y v u _ I2 r1 r2 q2) fun d s3 ⟨z,H3,I3,r3,k,e,q3⟩=> ?_)) hm
 subst e;cases r3;refine v6 ?_;cases k with
 |false=>
  obtain⟨k',e',q'⟩:=q3;cases e';exact ite_ff ⟨H3,I3,q'⟩
 |true=>
  refine ite_tt (test_last (thn (hc pins s3 σ H3 _ I3 q3) fun w' s4 ⟨z',H4,I4,r4,q4⟩=>thn (U pins s4 σ H4 y z' u w' _ I4 r2 r4 q4) fun d' s5 ⟨z2,H5,I5,r5,k2,e2,q5⟩=> ?_));subst e2;cases r5;exact v6 ⟨H5,I5,q5⟩
def TruV (K:PySem.W.Frag)(x:V)(H:Hp)(k:Bool):Prop:=
 match x with
 | .non=>k=false
 | .bl b=>k=b
 | .int i=>k=(i !=0)
 | .str y=>y.length<=sizeLine/\k=((y.length:Int) !=0)
 | .byt y=>y.size<=sizeLine/\k=((y.size:Int) !=0)
 | .ref p=>(∃xs,SqL K H p xs/\k= !xs.isEmpty)∨(∃xs,SqT K H p xs/\k= !xs.isEmpty)∨∃kvs,H p=some (.dK kvs)/\k= !kvs.isEmpty
 |_=>False
theorem isEmpty_kv {κ:Type}{kvs:List (κ×V)}{vs:List (κ×Value)}(r:KV kvs vs):(!vs.isEmpty)= !kvs.isEmpty:=by
 cases r<;>rfl
theorem Xa {xs:List V}{its:List Value}(r:Vals xs its):(!its.toArray.isEmpty)= !xs.isEmpty:=by
 cases r<;>simp
theorem jJ:(sizeLine:Nat)<2^63:=by rw [uk];decide
theorem tru_ok:TruR X (fun x H Q=>∃k,TruV X.K x H k/\Q k H):=by
 intro pins s σ H x v Q I Y h;obtain⟨k,e,q⟩:=h;have hl:=jJ;have hs:sizeLine=16777216:=uk;cases x with
 |non=>
  cases Y;have O:k=false:=e;subst O;exact truthy_none ⟨H,I,q⟩
 |bl b=>
  cases Y;have O:k=b:=e;subst O;exact v6 ⟨H,I,q⟩
 |int i=>
  obtain⟨t,rfl⟩:=Y;have O:k=(i !=0):=e;subst O;exact PySem.P.truthy_int ⟨H,I,q⟩
 |str y=>
  obtain⟨t,rfl⟩:=Y;obtain⟨hy,O⟩:y.length<=sizeLine/\k=((y.length:Int) !=0):=e;subst O;exact PySem.P.truthy_str (by omega) ⟨H,I.tok _,q⟩
 |byt y=>
  obtain⟨t,rfl⟩:=Y;obtain⟨hy,O⟩:y.size<=sizeLine/\k=((y.size:Int) !=0):=e;subst O;exact PySem.W.truthy_bytes (by omega) ⟨H,I.tok _,q⟩
 |ref p=>
  cases Y;have O:(∃xs,SqL X.K H p xs/\k= !xs.isEmpty)∨(∃xs,SqT X.K H p xs/\k= !xs.isEmpty)∨∃kvs,H p=some (.dK kvs)/\k= !kvs.isEmpty:=e;rcases O with⟨xs,hx,O⟩|⟨xs,hx,O⟩|⟨kvs,hx,O⟩
  ·subst O;obtain⟨its,r,pl,hz⟩:=I.list hx;have U:=r.length;exact wpAny_truthy_list pl.isList (by simp only [ub];omega) ⟨H,I.tok _,by rw [Xa r];exact q⟩
  ·subst O;obtain⟨its,r,pl,hz⟩:=I.tuple hx;have U:=r.length;exact truthy_tuple pl (by simp only [ub];omega) ⟨H,I.tok _,by rw [Xa r];exact q⟩
  ·subst O;obtain⟨hz,hS,vs,r,m⟩:kvs.length<=sizeLine/\(p==sysModules)=false/\∃vs,KV kvs vs/\s.heap.DictOf (qL X.prog X.w) p vs:=I.hok p _ hx;have U:kvs.length=vs.length:=Paired.length r;exact wpAny_truthy_dict hS m (by omega) ⟨H,I.tok _,by rw [isEmpty_kv r];exact q⟩
 |_=>exact(show False from e).elim
theorem Xy (ha:PE X a ta)(U:∀O,isTrue a X.env O=(do let v<-O;standAt a.pos;holding [v] (truthy v))):
  PT X a (fun σ H Q=>ta σ H fun x H'=>∃k,TruV X.K x H' k/\Q k H'):=by
 intro pins s σ H Q I h;exact isTrue_plain (thn (ha pins s σ H _ I h) fun v s1 ⟨x,H1,Y,r1,q1⟩=>tru_ok pins s1 σ H1 x v Q Y r1 q1) (U _)
theorem qr:OpR X (binaryOp .Add) (fun x y H Q=>∃i j,x= .str i/\y= .str j/\i.length+j.length<=sizeLine/\Q (.str (i++j)) H):=by
 intro pins s σ H x y v u Q I O U h;obtain⟨i,j,rfl,rfl,Y,q⟩:=h;obtain⟨t,rfl⟩:=O;obtain⟨t',rfl⟩:=U;exact uB (n:=1) I.tk (add_str (fun t' tk htk=>⟨.str (i++j),H,I.tok _,⟨_,rfl⟩,q⟩) Y)
theorem yR {x:V}{us:List Value}(r:Vals [x] us):∃u,us= [u]/\RelV x u:=by
 cases r with
 |cons O U=>cases U;exact⟨_,rfl,O⟩
theorem vals2 {x y:V}{us:List Value}(r:Vals [x,y] us):∃u O,us= [u,O]/\RelV x u/\RelV y O:=by
 cases r with
 |cons U Y=>
  cases Y with
  |cons r3 r4=>cases r4;exact⟨_,_,rfl,U,r3⟩
theorem call_abs:ye X (.builtin "abs") (fun xs H Q=>∃i,xs= [.int i]/\Q (.int (if i<0 then-i else i)) H):=by
 intro pins s σ H xs us Q I r h;obtain⟨i,rfl,q⟩:=h;obtain⟨u,rfl,t,rfl⟩:=yR r;exact uB (n:=1) I.tk (call_abs_int fun u tk htk=>⟨.int (if i<0 then-i else i),H,I.tok _,⟨_,rfl⟩,q⟩)
theorem call_min2 (U:X.calm=true):ye X (.builtin "min") (fun xs H Q=>∃i j,xs= [.int i,.int j]/\Q (.int (if j<i then j else i)) H):=by
 intro pins s σ H xs us Q I r h;obtain⟨i,j,rfl,q⟩:=h;obtain⟨u,Y,rfl,⟨t,rfl⟩,⟨t',rfl⟩⟩:=vals2 r;refine uB (n:=1) I.tk (min_two_ints (I.ok.hd U) fun h' tk k htk=>⟨_,H,I.kept k,?_,q⟩);by_cases O:j<i
 ·rw [if_pos O,if_pos O];exact⟨_,rfl⟩
 ·rw [if_neg O,if_neg O];exact⟨_,rfl⟩
theorem call_int1:ye X (.type "int") (fun xs H Q=>(∃i,xs= [.int i]/\Q (.int i) H)∨∃k,xs= [.bl k]/\Q (.int (if k then 1 else 0)) H):=by
 intro pins s σ H xs us Q I r h;rcases h with⟨i,rfl,q⟩|⟨k,rfl,q⟩
 ·obtain⟨u,rfl,t,rfl⟩:=yR r;exact call_int_int ⟨.int i,H,I,⟨_,rfl⟩,q⟩
 ·obtain⟨u,rfl,O⟩:=yR r;cases O;exact call_int_bool ⟨.int (if k then 1 else 0),H,I.tok _,⟨_,rfl⟩,q⟩
theorem jH:ye X (.type "str") (fun xs H Q=>∃i,xs= [.int i]/\i.natAbs.log2<1920/\Q (.str (toString i)) H):=by
 intro pins s σ H xs us Q I r h;obtain⟨i,rfl,O,q⟩:=h;obtain⟨u,rfl,t,rfl⟩:=yR r;exact PySem.P.str_of_int O ⟨.str _,H,I.tok _,⟨_,rfl⟩,q⟩
theorem call_ord:ye X (.builtin "ord") (fun xs H Q=>∃x,xs= [.str x]/\x.length=1/\Q (.int (x.cps.getD 0 0:Nat)) H):=by
 intro pins s σ H xs us Q I r h;obtain⟨x,rfl,O,q⟩:=h;obtain⟨u,rfl,t,rfl⟩:=yR r;exact ord_of_one O ⟨.int _,H,I.tok _,⟨_,rfl⟩,q⟩
def LenV (K:PySem.W.Frag)(x:V)(H:Hp)(n:Nat):Prop:=
 match x with
 | .str y=>y.length<=sizeLine/\n=y.length
 | .byt y=>y.size<=sizeLine/\n=y.size
 | .ref p=>(∃xs,SqL K H p xs/\n=xs.length)∨∃xs,SqT K H p xs/\n=xs.length
 |_=>False
theorem Xz:ye X (.builtin "len") (fun xs H Q=>∃x n,xs= [x]/\LenV X.K x H n/\Q (.int n) H):=by
 intro pins s σ H xs us Q I r h;obtain⟨x,n,rfl,e,q⟩:=h;obtain⟨u,rfl,Y⟩:=yR r;have hl:=jJ;have hs:sizeLine=16777216:=uk;cases x with
 |str y=>
  obtain⟨t,rfl⟩:=Y;obtain⟨hy,U⟩:y.length<=sizeLine/\n=y.length:=e;subst U;exact len_str (by omega) ⟨.int _,H,I.tok _,⟨_,rfl⟩,q⟩
 |byt y=>
  obtain⟨t,rfl⟩:=Y;obtain⟨hy,U⟩:y.size<=sizeLine/\n=y.size:=e;subst U;exact PySem.W.len_bytes (by omega) ⟨.int _,H,I.tok _,⟨_,rfl⟩,q⟩
 |ref p=>
  cases Y;have U:(∃xs,SqL X.K H p xs/\n=xs.length)∨∃xs,SqT X.K H p xs/\n=xs.length:=e;rcases U with⟨xs,hx,U⟩|⟨xs,hx,U⟩
  ·subst U;obtain⟨its,r',pl,hz⟩:=I.list hx;have O:=r'.length;exact Calls.call_len_list pl.isList (by simp only [ub];omega) ⟨.int xs.length,H,I.tok _,⟨_,by simp only [ub];rw [O]⟩,q⟩
  ·subst U;obtain⟨its,r',pl,hz⟩:=I.tuple hx;have O:=r'.length;exact len_tuple pl (by simp only [ub];omega) ⟨.int xs.length,H,I.tok _,⟨_,by simp only [ub];rw [O]⟩,q⟩
 |_=>exact(show False from e).elim
end
structure ObjM (h:Heap)(x dx C:Addr)(mA:Str->Option Value):Prop where
 obj:h.get? x=some (PySem.W.instObj C dx)
 ns:h.Ns1 dx mA
 ne:dx≠x
theorem Jd {h:Heap}{dx:Addr}{mA:Str->Option Value}(n:h.Ns1 dx mA):∃od,h.get? dx=some od/\∀name,PySem.W.lookIn name od=some (mA name):=by
 obtain⟨o,es,ep,U,hd,Y,_,hm⟩:=n;refine⟨o,U,fun name=> ?_⟩;have e:=hm name;unfold nsFind findBy at e;rw [<-Array.find?_toList] at e;unfold PySem.W.lookIn;rw [hd];dsimp only;split
 ·rename_i y q
  rw [q] at e;exact congrArg some e
 ·rename_i q
  rw [q] at e;have a:es.toList.any (·.refKey)=false:=by
   rw [List.any_eq_false];intro y hy;obtain⟨z,t,O⟩:=Y y (Array.mem_toList_iff.mp hy);simp [DictEntry.refKey,O]
  have a':¬es.toList.any (·.refKey)=true:=by rw [a];exact uc
  rw [if_neg a'];exact congrArg some e
theorem ObjM.look {h:Heap}{x dx C:Addr}{mA:Str->Option Value}(I:ObjM h x dx C mA):∃od,PySem.W.InstAt h x (PySem.W.instObj C dx) C (some od)/\∀name,PySem.W.lookIn name od=some (mA name):=
 let⟨od,ho,hl⟩:=Jd I.ns
 ⟨od,⟨I.obj,rfl,rfl,ho⟩,hl⟩
section
variable {prog:Program}{w:World}{A:Around}{E:Value->Shared->Prop}{s:Shared}{K:PySem.W.Frag}{x dx C f:Addr}{mA:Str->Option Value}{name:Str}{v:Value}
theorem get_map {O:Bool}{Q:Value->Shared->Prop}(X:K.In s.heap)(I:ObjM s.heap x dx C mA)(Y:PySem.W.plainGet K C name=true)(hh:PySem.W.hasDictIn K C=true)
  (ha:PySem.W.findIn K (.ref C) name=some none) (hv:mA name=some v) (U:PySem.W.handedIn v=true) (h:Q v {s with toks:=s.toks+1}):
  wpAny (model prog w) A (getAttr (.ref x) name O) Q E s:=by
 obtain⟨od,J,hl⟩:=I.look;exact PySem.W.get_value X J (PySem.W.plainGet_of Y).1 (PySem.W.findObj_own hh ha rfl (by rw [hl,hv])) U h
theorem get_meth {pl:Sem Bool}{Q:Value×List Value->Shared->Prop}(X:K.In s.heap)(I:ObjM s.heap x dx C mA)(O:PySem.W.plainGet K C name=true)
  (U:PySem.W.findIn K (.ref C) name=some (some (.ref f))) (Y:PySem.W.isFn K (.ref f)=true) (hv:mA name=none) (h:Q (.ref f,[.ref x]) s):
  wpAny (model prog w) A (getMethod (.ref x) name pl) Q E s:=by
 obtain⟨od,J,hl⟩:=I.look;exact PySem.W.method_fn X J (PySem.W.plainGet_of O).1 (PySem.W.plainGet_of O).2 U (beq_iff_eq.mp Y) (by show(PySem.W.lookIn name od).map (·.isSome)=some false;rw [hl,hv];rfl) h
theorem set_map {ns:List Str}{Q:Unit->Shared->Prop}(X:K.In s.heap)(I:ObjM s.heap x dx C mA)
  (hs:PySem.W.findIn K (.ref C) "__setattr__"=some (some (.builtin "object.__setattr__"))) (hp:PySem.W.plainOver K C=true) (ht:PySem.W.takerIn K C name=some none) (hh:PySem.W.hasDictIn K C=true)
  (hw:PySem.Within mA ns) (hsz:ns.length<=sizeLine)
  (h:∀h',ObjM h' x dx C (fun y=>if y=name then some v else mA y)->Heap.SameBut dx s.heap h'->Q () {s with heap:=h',toks:=s.toks+2}):
  wpAny (model prog w) A (setAttr (.ref x) name v) Q E s:=by
 obtain⟨od,J,hl⟩:=I.look;refine PySem.W.set_plain X J hs (PySem.W.osa_open (s:={s with toks:=s.toks+1}) (r:=none) X J hp ht fun b=> ?_)
 obtain⟨cd,hc,Y⟩:=Uv hh;have hx:s.heap.get? x=some ⟨.ref C,some dx,.plain,#[]⟩:=I.obj;refine wpAny_bind (u9 (wpAny_bind (wpAny_bind (wpAny_loadPart hx (wpAny_bind (PySem.W.Looks.here (s:={s with toks:=s.toks+1}) (PySem.W.looks_clsIn X hc) ?_))))))
 rw [Y];refine u9 (a:=some dx) (wpAny_bind (u9 (wpAny_bind ?_)));refine wpAny_nsSet1 (s:={s with toks:=s.toks+1}) I.ns fun h' O U=> ?_
 obtain⟨oD,ad,ae,aa,hdD,ac⟩:=O.count (PySem.Within.cons name v hw);refine wpAny_bind (wpAny_lookBehind aa (by rw [hdD];exact pastItsLine_dict (uQ ac (by rw [ul];omega))) ?_)
 exact u9 (h _ ⟨(U.2 _ (uY I.ne)).trans I.obj,O,I.ne⟩ U)
theorem make_map {R:Result->Shared->Prop}{vs:List Value}{O:List (Str×Value)}(X:K.In s.heap)(hm:PySem.W.makesIn K C=true)
  (hi:PySem.W.findIn K (.ref C) "__init__"=some (some (.ref f))) (U:PySem.W.typeIn K (.ref f)=some (.type "function"))
  (h:codeAny (model prog w) (A.under (.builtin "type.__call__" ⟨.ref C::vs,O⟩)) (.call (.ref f) ⟨.ref (s.heap.objs.size+1)::vs,O⟩) (PySem.W.InitBack (s.heap.objs.size+1) R)
   {s with heap:=(s.heap.push PySem.W.emptyDict).push (PySem.W.instObj C s.heap.objs.size)}):
  codeAny (model prog w) A (.call (.ref C) ⟨vs,O⟩) R s:=by
 obtain⟨Y,g,d,t,os⟩:=s;exact PySem.W.make_core (PySem.W.makes_of X hm) (U9 X hi) (fun self=>PySem.W.bind_fn X self U) (.inl rfl) h
end
def putF (f:Str)(v:V):List (Str×V)->List (Str×V)
 | []=> [(f,v)]
 |(g,x)::r=>if g=f then(g,v)::r else(g,x)::putF f v r
theorem Ju (f g:Str)(v:V):∀fs:List (Str×V),(putF f v fs).lookup g=if g=f then some v else fs.lookup g
 | []=>by
  show List.lookup g [(f,v)]=_;by_cases h:g=f
  ·have O:(g==f)=true:=beq_iff_eq.mpr h;simp only [List.lookup,O,if_pos h]
  ·have O:(g==f)=false:=beq_eq_false_iff_ne.mpr h;simp only [List.lookup,O,if_neg h]
 |(k,x)::r=>by
  have Y:=Ju f g v r;rw [show putF f v ((k,x)::r)=(if k=f then(k,v)::r else(k,x)::putF f v r) from rfl]
  by_cases U:k=f
  ·rw [if_pos U];by_cases h:g=k
   ·have O:(g==k)=true:=beq_iff_eq.mpr h;simp only [List.lookup,O,if_pos (h.trans U)]
   ·have O:(g==k)=false:=beq_eq_false_iff_ne.mpr h;simp only [List.lookup,O,if_neg (fun e:g=f=>h (e.trans U.symm))]
  ·rw [if_neg U];by_cases h:g=k
   ·have O:(g==k)=true:=beq_iff_eq.mpr h;simp only [List.lookup,O,if_neg (fun e:g=f=>U (h.symm.trans e))]
   ·have O:(g==k)=false:=beq_eq_false_iff_ne.mpr h;simp only [List.lookup,O];exact Y
theorem JK (f:Str)(v:V):∀fs:List (Str×V),f∈(putF f v fs).map (·.1)/\∀g,g∈fs.map (·.1)->g∈(putF f v fs).map (·.1)
 | []=>⟨by simp [putF],fun g h=>by simp at h⟩
 |(k,x)::r=>by
  obtain⟨U,Y⟩:=JK f v r;rw [show putF f v ((k,x)::r)=(if k=f then(k,v)::r else(k,x)::putF f v r) from rfl]
  by_cases O:k=f
  ·rw [if_pos O];subst O;exact⟨by simp,fun g h=>by simpa using h⟩
  ·rw [if_neg O];refine⟨?_,fun g h=> ?_⟩
   ·rw [ua];exact u5 _ U
   ·rw [ua] at h⊢;rcases List.mem_cons.mp h with e|e
    ·exact List.mem_cons.mpr (.inl e)
    ·exact u5 _ (Y g e)
theorem Jm (f:Str)(v:V):∀fs:List (Str×V),(putF f v fs).length<=fs.length+1
 | []=>by simp [putF]
 |(k,x)::r=>by
  have U:=Jm f v r;rw [show putF f v ((k,x)::r)=(if k=f then(k,v)::r else(k,x)::putF f v r) from rfl]
  by_cases O:k=f
  ·rw [if_pos O,ul,ul];omega
  ·rw [if_neg O,ul,ul];omega
theorem RelO.some_of {v:V}{o:Option Value}(r:RelO (some v) o):∃u,o=some u/\RelV v u:=by
 cases o with
 |none=>exact(show False from r).elim
 |some u=>exact⟨u,rfl,r⟩
theorem RelO.none_of {o:Option Value}(r:RelO none o):o=none:=by
 cases o with
 |none=>rfl
 |some u=>exact(show False from r).elim
theorem handed_of {v:V}{u:Value}(r:RelV v u):PySem.W.handedIn u=true:=by
 cases v with
 |non=>cases(show u=Value.none from r);rfl
 |bl b=>cases(show u=Value.bool b from r);rfl
 |int i=>obtain⟨t,e⟩:=(show∃t,u=Value.int i t from r);cases e;rfl
 |str x=>obtain⟨t,e⟩:=(show∃t,u=Value.str x t from r);cases e;rfl
 |byt b=>obtain⟨t,e⟩:=(show∃t,u=Value.bytes b t from r);cases e;rfl
 |flt b=>obtain⟨t,e⟩:=(show∃t,u=Value.float b t from r);cases e;rfl
 |ref a=>cases(show u=Value.ref a from r);rfl
 |ty n=>cases(show u=Value.type n from r);rfl
section
variable {P:Program}{w:World}{H H':Hp}{h h':Heap}{a C dx:Addr}{fs fs':List (Str×V)}
theorem Xi (hok:HOk P w H h)(e:H a=some (.ins C dx fs)):∃mA,ObjM h a dx C mA/\(∀f,RelO (fs.lookup f) (mA f))/\PySem.Within mA (fs.map (·.1))/\fs.length<=1000/\H dx=some (.own a):=by
 obtain⟨d,z,ne,ob,mA,n,r,q⟩:=(show qU P w H h a (.ins C dx fs) from hok a _ e)
 exact⟨mA,⟨ob,n,ne⟩,r,q,z,d⟩
end
structure Cls (K:PySem.W.Frag)(C:Addr):Prop where
 pg:PySem.W.plainGet K C Str.empty=true
 hd:PySem.W.hasDictIn K C=true
 po:PySem.W.plainOver K C=true
 sa:PySem.W.findIn K (.ref C) "__setattr__"=some (some (.builtin "object.__setattr__"))
theorem Cls.get {K:PySem.W.Frag}{C:Addr}(c:Cls K C)(f:Str):PySem.W.plainGet K C f=true:=c.pg
def yY (K:PySem.W.Frag)(C:Addr)(f:Str):Prop:=PySem.W.findIn K (.ref C) f=some none
theorem yY.taker {K:PySem.W.Frag}{C:Addr}{f:Str}(n:yY K C f):PySem.W.takerIn K C f=some none:=by
 unfold PySem.W.takerIn;rw [show PySem.W.findIn K (.ref C) f=some none from n]
 rfl
structure Meth (K:PySem.W.Frag)(C:Addr)(m:Str)(f:Addr):Prop where
 at_:PySem.W.findIn K (.ref C) m=some (some (.ref f))
 fn:PySem.W.isFn K (.ref f)=true
 kp:PySem.W.keepIn K (.ref f)=true
section
variable {X:Cx}{pins:List (Addr×Obj)}{σ:St}{H:Hp}{s:Shared}{a C dx:Addr}{fs:List (Str×V)}{f:Str}{v:V}{A:Around}{E:Value->Shared->Prop}
theorem getattr_ok {b:Bool}{Q:Value->Shared->Prop}(I:Inv X pins σ H s)(e:H a=some (.ins C dx fs))(c:Cls X.K C)(n:yY X.K C f)(l:fs.lookup f=some v)
  (h:∀u s',Inv X pins σ H s'->RelV v u->Q u s'):wpAny (model X.prog X.w) A (getAttr (.ref a) f b) Q E s:=by
 obtain⟨mA,O,r,_,_,_⟩:=Xi I.hok e;obtain⟨u,Y,U⟩:=RelO.some_of (v:=v) (o:=mA f) (by rw [<-l];exact r f)
 exact get_map I.kIn O (c.get f) c.hd n Y (handed_of U) (h u _ (I.tok _) U)
theorem xF {m:Str}{g:Addr}{pl:Sem Bool}{Q:Value×List Value->Shared->Prop}(I:Inv X pins σ H s)(e:H a=some (.ins C dx fs))(c:Cls X.K C)(k:Meth X.K C m g)(l:fs.lookup m=none)
  (h:Q (.ref g,[.ref a]) s):wpAny (model X.prog X.w) A (getMethod (.ref a) m pl) Q E s:=by
 obtain⟨mA,O,r,_,_,_⟩:=Xi I.hok e;have hn:mA m=none:=RelO.none_of (by rw [<-l];exact r m)
 exact get_meth I.kIn O (c.get m) k.at_ k.fn hn h
theorem setattr_ok {y:V}{u:Value}{Q:Unit->Shared->Prop}(I:Inv X pins σ H s)(e:H a=some (.ins C dx fs))(c:Cls X.K C)(n:yY X.K C f)(hl:fs.length<1000)(ry:RelV y u)
  (h:∀s',Inv X pins σ (upd H a (.ins C dx (putF f y fs))) s'->Q () s'):wpAny (model X.prog X.w) A (setAttr (.ref a) f u) Q E s:=by
 obtain⟨mA,O,r,Y,_,ho⟩:=Xi I.hok e;have hz:(fs.map (·.1)).length<=sizeLine:=by rw [u3,uk];omega
 refine set_map I.kIn O c.sa c.po n.taker c.hd Y hz fun h' U sb=>h _ ?_;have hd:∃o,h'.get? dx=some o:=let⟨o,_,_,e',_⟩:=U.ns;⟨o,e'⟩;refine I.write (x:=a) (e:=dx) (by rw [e];exact True.intro) (.inr ho) (fun b q hb z=>(sb.2 b hb).trans z) hd ?_
 refine⟨by rw [ql O.ne];exact ho,?_,O.ne,U.obj,_,U.ns,fun g=> ?_,fun g hg=> ?_⟩
 ·have:=Jm f y fs;omega
 ·show RelO ((putF f y fs).lookup g) (if g=f then some u else mA g)
  rw [Ju];by_cases q:g=f
  ·rw [if_pos q,if_pos q];exact ry
  ·rw [if_neg q,if_neg q];exact r g
 ·by_cases q:g=f
  ·rw [q];exact(JK f y fs).1
  ·refine(JK f y fs).2 g (Y g fun z=>hg ?_);show(if g=f then some u else mA g)=none
   rw [if_neg q];exact z
theorem Inv.made (I:Inv X pins σ H s):Inv X pins σ (upd (upd H s.heap.objs.size (.own (s.heap.objs.size+1))) (s.heap.objs.size+1) (.ins C s.heap.objs.size []))
  {s with heap:=(s.heap.push PySem.W.emptyDict).push (PySem.W.instObj C s.heap.objs.size)}:=by
 have O:(s.heap.push PySem.W.emptyDict).get? s.heap.objs.size=some PySem.W.emptyDict:=uh s.heap rfl;have U:((s.heap.push PySem.W.emptyDict).push (PySem.W.instObj C s.heap.objs.size)).get? (s.heap.objs.size+1)=some (PySem.W.instObj C s.heap.objs.size):=by
  have:=uh (s.heap.push PySem.W.emptyDict) (o:=PySem.W.instObj C s.heap.objs.size) rfl
  rwa [va] at this
 have Y:(s.heap.push PySem.W.emptyDict).Ns s.heap.objs.size (fun _=>none):=⟨PySem.W.emptyDict,#[],_,O,rfl,(fun e he=>absurd he (by simp)),fun _=>rfl⟩
 have I1:=I.laid (a:=s.heap.objs.size) (o:= .own (s.heap.objs.size+1)) (h':=s.heap.push PySem.W.emptyDict) (t':=s.toks) (fun b u q=>u4 _ q) (Nat.le_refl _) ⟨_,O⟩;refine I1.laid (a:=s.heap.objs.size+1) (o:= .ins C s.heap.objs.size []) (t':=s.toks) (fun b u q=>u4 _ q) (Nat.le_of_eq (va _ _)) ?_;have ne:s.heap.objs.size≠s.heap.objs.size+1:=uu (Uw _);refine⟨by rw [ql ne,qe],uF _,ne,U,fun _=>none,(Heap.Ns1.of_empty Y).at fun o q=>u4 _ q,fun _=>True.intro,fun y hy=>absurd rfl hy⟩
theorem attr_of {prog:Program}{w:World}{env:Env}{e:Expr}{f:Str}{pos:Pos}{s:Shared}{Q:Value->Shared->Prop}(O:attributeBase e f env (eval e env)=eval e env)
  (h:wpAny (model prog w) A (eval e env) (fun o U=>wpAny (model prog w) A (getAttr o f true) Q E U) E s):wpAny (model prog w) A (eval (.Attribute e f pos) env) Q E s:=
 Attribute_any_ h (by rw [arm_eval_Attribute,O])
end
def tFld (K:PySem.W.Frag)(ta:TE)(f:Str):TE:=fun σ H Q=>ta σ H fun x H1=>∃a C dx fs v,x= .ref a/\H1 a=some (.ins C dx fs)/\Cls K C/\yY K C f/\fs.lookup f=some v/\Q v H1
def sFld (K:PySem.W.Frag)(ta tv:TE)(f:Str):TS:=fun D σ H=>tv σ H fun y H1=>ta σ H1 fun x H2=>∃a C dx fs,x= .ref a/\H2 a=some (.ins C dx fs)/\Cls K C/\yY K C f/\fs.length<1000/\
 D.nx σ (upd H2 a (.ins C dx (putF f y fs)))
section
variable {X:Cx}{o e value:Expr}{f:Str}{pos pos' tpos:Pos}{ta tv:TE}
theorem xQ (O:PE X e ta)(U:attributeBase e f X.env (eval e X.env)=eval e X.env):PE X (.Attribute e f pos) (tFld X.K ta f):=by
 intro pins s σ H Q I h;refine attr_of U (thn (O pins s σ H _ I h) fun u s1 ⟨x,H1,Y,rx,a,C,dx,fs,v,ex,ea,c,n,l,q⟩=> ?_);subst ex;obtain rfl:u=Value.ref a:=rx;exact getattr_ok Y ea c n l fun u' s2 I2 ru=>⟨v,H1,I2,ru,q⟩
theorem ps_fld (ha:PE X o ta)(O:PE X value tv)(U:swapsWith value (some (.Attribute o f pos')) pos.line X.env=pure false):PS X (.Assign [.Attribute o f pos'] value pos) (sFld X.K ta tv f):=by
 intro pins s σ H D I h;refine plainObj_wpAny_Assign_Attribute (thn (O pins s σ H _ I h) fun u s1 ⟨y,H1,Y,ry,q⟩=>thn (ha pins s1 σ H1 _ Y q) fun ov s2 ⟨x,H2,I2,rx,a,C,dx,fs,ex,ea,c,n,l,q2⟩=> ?_) U;subst ex;obtain rfl:ov=Value.ref a:=rx;exact setattr_ok I2 ea c n l ry fun s3 I3=>⟨σ,_,I3,q2⟩
end
section
variable {X:Cx}{pins:List (Addr×Obj)}{σ:St}{H:Hp}{s:Shared}{A:Around}{E:Value->Shared->Prop}{Q:Value->Shared->Prop}{c:Value}{b:Bool}
inductive TyOf (K:PySem.W.Frag) (H:Hp):V->Value->Prop where
 |non:TyOf K H .non (.type "NoneType")
 |bl (x:Bool):TyOf K H (.bl x) (.type "bool")
 |int (i:Int):TyOf K H (.int i) (.type "int")
 |str (x:Str):TyOf K H (.str x) (.type "str")
 |flt (x:UInt64):TyOf K H (.flt x) (.type "float")
 |lst {a:Addr}{xs:List V} (e:H a=some (.lst xs)):TyOf K H (.ref a) (.type "list")
 |frz {a:Addr}{o:Obj}{xs:List V} (e:H a=some (.frz o (.lst xs))):TyOf K H (.ref a) (.type "list")
 |tup {a:Addr}{xs:List V} (e:H a=some (.tup xs)):TyOf K H (.ref a) (.type "tuple")
 |dK {a:Addr}{kvs:List (Key×V)} (e:H a=some (.dK kvs)):TyOf K H (.ref a) (.type "dict")
 |dT {a:Addr}{kvs:List (List Key×V)} (e:H a=some (.dT kvs)):TyOf K H (.ref a) (.type "dict")
 |ins {a C dx:Addr}{fs:List (Str×V)} (e:H a=some (.ins C dx fs)) (cl:Cls K C) (ha:PySem.W.findIn K (.ref C) "__class__"=some (some (.builtin "object.__class__")))
   (hn:PySem.W.specialIn K (.builtin "object.__class__") "__get__"=some (some (.builtin "getset_descriptor.__get__"))) (htk:PySem.W.takesIn K (.builtin "object.__class__")=some true)
   (hm:PySem.W.mroIn K C (.type "object")=some true):TyOf K H (.ref a) (.ref C)
theorem isinst_ok {x:V}{u t:Value}(I:Inv X pins σ H s)(U:RelV x u)(ty:TyOf X.K H x t)(e:PySem.W.kitOne X.K t c=some b)(h:∀tk,Q (.bool b) {s with toks:=tk}):
  wpAny (model X.prog X.w) A (call (.builtin "isinstance") [u,c]) Q E s:=by
 cases ty with
 |non=>cases(show u=Value.none from U);exact uT PySem.W.kitx_none I.kIn True.intro e (fun z=>nomatch z) h
 |bl y=>cases(show u=Value.bool y from U);exact uT PySem.W.kitx_bool I.kIn True.intro e (fun z=>nomatch z) h
 |int i=>obtain⟨t,q⟩:=(show∃t,u=Value.int i t from U);cases q;exact uT PySem.W.kitx_int I.kIn True.intro e (fun z=>nomatch z) h
 |str y=>obtain⟨t,q⟩:=(show∃t,u=Value.str y t from U);cases q;exact uT PySem.W.kitx_str I.kIn True.intro e (fun z=>nomatch z) h
 |flt y=>obtain⟨t,q⟩:=(show∃t,u=Value.float y t from U);cases q;exact uT PySem.W.kitx_float I.kIn True.intro e (fun z=>nomatch z) h
 | @lst a xs ea=>
  cases(show u=Value.ref a from U)
  obtain⟨_,_,n,_,h1⟩:=(show qU X.prog X.w H s.heap a (.lst xs) from I.hok a _ ea)
  exact uT PySem.W.kitx_list I.kIn ⟨_,h1,rfl⟩ e (fun z=>nomatch z) h
 | @frz a ob xs ea=>
  cases(show u=Value.ref a from U)
  obtain⟨_,_,_,n,_,h1⟩:=(show qU X.prog X.w H s.heap a (.frz ob (.lst xs)) from I.hok a _ ea)
  exact uT PySem.W.kitx_list I.kIn ⟨_,h1,rfl⟩ e (fun z=>nomatch z) h
 | @tup a xs ea=>
  cases(show u=Value.ref a from U)
  obtain⟨_,_,_,p⟩:=(show qU X.prog X.w H s.heap a (.tup xs) from I.hok a _ ea)
  obtain⟨o,h1,h2,_⟩:=p;exact uT PySem.W.kitx_tuple I.kIn ⟨o,h1,h2⟩ e (fun z=>nomatch z) h
 | @dK a kvs ea=>
  cases(show u=Value.ref a from U)
  obtain⟨_,_,vs,_,p⟩:=(show qU X.prog X.w H s.heap a (.dK kvs) from I.hok a _ ea)
  obtain⟨o,es,ep,h1,h2,_⟩:=p;exact uT PySem.W.kitx_dict I.kIn ⟨o,h1,h2.1⟩ e (fun z=>nomatch z) h
 | @dT a kvs ea=>
  cases(show u=Value.ref a from U)
  obtain⟨_,_,xs,_,o,es,ep,h1,h2,_⟩:=(show qU X.prog X.w H s.heap a (.dT kvs) from I.hok a _ ea)
  exact uT PySem.W.kitx_dict I.kIn ⟨o,h1,h2.1⟩ e (fun z=>nomatch z) h
 | @ins a C dx fs ea cl ha hn htk hm=>
  cases(show u=Value.ref a from U)
  obtain⟨mA,O,_⟩:=Xi I.hok ea;obtain⟨od,J,_⟩:=O.look;exact uT (PySem.W.kitx_own (cl.get _) cl.hd ha hn htk hm) I.kIn J e (fun z=>nomatch z) h
end
structure Room (k:Nat)(A:Around):Prop where
 hd:A.handled=none
 dp:A.depth+3*k+5<recursionLimit
 un:A.units+16*k+200<cLine
theorem Room.mono {j k:Nat}{A:Around}(r:Room k A)(h:j<=k):Room j A:=⟨r.hd,by have:=r.dp;omega,by have:=r.un;omega⟩
theorem Room.deeper {k:Nat}{A:Around}(r:Room (k+1) A)(env:Env):Room k (A.deeper env):=
 ⟨r.hd,by have:=r.dp;show A.depth+1+3*k+5<_;omega,by have:=r.un;show A.units+3+16*k+200<_;omega⟩
theorem make_depth {A:Around}{C:Addr}{us:List Value}{O:List (Str×Value)}:(A.under (.builtin "type.__call__" ⟨.ref C::us,O⟩)).depth=A.depth+1:=by
 first|rfl|simp [Around.under,Code.weight,Code.isCreation,Code.isGuard,Code.isCaller,Code.frames,Code.isFrame,guardIds]
theorem make_units {A:Around}{C:Addr}{us:List Value}{O:List (Str×Value)}:(A.under (.builtin "type.__call__" ⟨.ref C::us,O⟩)).units=A.units+1:=by
 first|rfl|simp [Around.under,Code.cUnits,Code.frames,Code.isFrame]
theorem Room.make {k:Nat}{A:Around}(r:Room (k+1) A)(C:Addr)(us:List Value)(O:List (Str×Value)):Room k (A.under (.builtin "type.__call__" ⟨.ref C::us,O⟩)):=
 ⟨r.hd,by have:=r.dp;rw [make_depth];omega,by have:=r.un;rw [make_units];omega⟩
theorem Room.depth {k:Nat}{A:Around}(r:Room k A):A.depth<recursionLimit:=by have:=r.dp;omega
theorem Room.units {k:Nat}{A:Around}(r:Room k A):A.units+64<cLine:=by have:=r.un;omega
def tNil:TA:=fun _ H Q=>Q [] H
def tCons (ta:TE)(tr:TA):TA:=fun σ H Q=>ta σ H fun x H1=>tr σ H1 fun xs H2=>Q (x::xs) H2
section
variable {X:Cx}{e:Expr}{es:List Expr}{te:TE}{t:TA}{pos:Pos}
theorem qb:PA X [] tNil:=fun _ _ _ _ H Q I h=>Uq ⟨[],H,I,.nil,h⟩
theorem qa (ha:PE X e te)(O:PA X es t)(U:starEach (e::es) X.env=(false,eval e X.env)::starEach es X.env:=by rfl):PA X (e::es) (tCons te t):=by
 intro pos pins s σ H Q I h;rw [U];show wpAny _ _ (spliced ((false,eval e X.env)::backTo pos (starEach es X.env))) _ _ s;refine vY (thn (ha pins s σ H _ I h) fun u s1 ⟨x,H1,Y,r1,q1⟩=> ?_);exact thn (O pos pins s1 σ H1 _ Y q1) fun us s2 ⟨xs,H2,I2,r2,q2⟩=>⟨x::xs,H2,I2,.cons r1 r2,q2⟩
def tTup (t:TA):TE:=fun σ H Q=>t σ H fun xs H1=>xs.length<=sizeLine/\∀p,H1 p=none->Q (.ref p) (upd H1 p (.tup xs))
def tLst (t:TA):TE:=fun σ H Q=>t σ H fun xs H1=>xs.length<=sizeLine/\∀p,H1 p=none->Q (.ref p) (upd H1 p (.lst xs))
theorem Qk {x1}(h:PA X es t):PE X (.Tuple es x1 pos) (tTup t):=by
 intro pins s σ H Q I U;refine wpAny_Tuple_spliced (thn (h pos pins s σ H _ I U) fun us s1 ⟨xs,H1,O,r,z,q⟩=>⟨by rw [<-r.length];exact z,?_⟩)
 have Y:H1 s1.heap.objs.size=none:=O.hok.fresh (Nat.le_refl _);refine⟨.ref s1.heap.objs.size,upd H1 s1.heap.objs.size (.tup xs),O.laid (t':=s1.toks) (fun b u e=>u4 _ e) (Nat.le_refl _) ?_,rfl,q _ Y⟩;exact⟨z,us,r,⟨_,uh _ rfl,rfl,_,rfl⟩⟩
theorem q9 (h:PA X es t):PE X (.List es pos) (tLst t):=by
 intro pins s σ H Q I U;refine wpAny_List_spliced (thn (h pos pins s σ H _ I U) fun us s1 ⟨xs,H1,O,r,z,q⟩=>⟨by rw [<-r.length];exact z,?_⟩)
 have Y:H1 s1.heap.objs.size=none:=O.hok.fresh (Nat.le_refl _);refine⟨.ref s1.heap.objs.size,upd H1 s1.heap.objs.size (.lst xs),O.laid (t':=s1.toks) (fun b u e=>u4 _ e) (Nat.le_refl _) ?_,rfl,q _ Y⟩;exact⟨z,us,0,r,uh _ rfl⟩
end
abbrev Sp:=List V->Hp->VK->XK->Prop
abbrev CXT:=List Env->Hp->Shared->XK->Value->Shared->Prop
structure Env0 (P:Program)(w:World)(K:PySem.W.Frag)(mg:Str->Option Value)(base:Heap)(A:Around)(outer:List Env)(s:Shared)(H:Hp):Prop where
 frames:A.frames=some outer
 mod:Mod K mg base
 bs:∀b o,base.get? b=some o->s.heap.get? b=some o/\H b=none
 bsz:base.objs.size<=s.heap.objs.size
 funs:s.heap.FunFrames base outer
 frf:∀b∈frs outer,H b=none
 hok:HOk P w H s.heap
 bare:AllBare s.gens
def CE (outer:List Env)(P:Program)(w:World)(H:Hp)(s:Shared)(Q:VK)(u:Value)(s':Shared):Prop:=
 ∃v H',s'.os=s.os/\AllBare s'.gens/\0<s'.toks/\Un (frs outer) [] H H' s.heap s'.heap/\HOk P w H' s'.heap/\RelV v u/\Q v H'
def CR (CX:CXT)(outer:List Env)(P:Program)(w:World)(H:Hp)(s:Shared)(Q:VK)(E:XK)(r:Result)(s':Shared):Prop:=
 match r with
 | .ok (.ret u)=>CE outer P w H s Q u s'
 | .ok _=>False
 | .error e=>CX outer H s E e s'
structure FnOk (P:Program)(w:World)(K:PySem.W.Frag)(mg:Str->Option Value)(base:Heap)(CX:CXT)(k:Nat)(f:Addr)(fd:FuncData)(ps:List Str)(sp:Sp):Prop where
 len:∀vs H Q E,sp vs H Q E->vs.length=ps.length
 run:∀(A:Around) (outer:List Env) (s:Shared) (H:Hp) (args:Args) (us:List Value) (vs:List V) (Q:VK) (E:XK),Room k A->Env0 P w K mg base A outer s H->BindsTo s fd args (ps.zip us)->Vals vs us->sp vs H Q E->(0<s.toks∨∃x r,ps=x::r/\fd.scope.names.lookup x=some .local)->
  codeAny (model P w) A (.call (.ref f) args) (CR CX outer P w H s Q E) s
theorem Env0.make {P:Program}{w:World}{K:PySem.W.Frag}{mg:Str->Option Value}{base:Heap}{A:Around}{outer:List Env}{s:Shared}{H:Hp}(e:Env0 P w K mg base A outer s H)(C:Addr)(us:List Value)(O:List (Str×Value)):
  Env0 P w K mg base (A.under (.builtin "type.__call__" ⟨.ref C::us,O⟩)) outer s H:=⟨by first|exact e.frames|(simpa [Around.under,Code.envs,Code.isFrame,pushEnvs] using e.frames),e.mod,e.bs,e.bsz,e.funs,e.frf,e.hok,e.bare⟩
section
variable {X:Cx}{pins:List (Addr×Obj)}{σ:St}{H:Hp}{s s':Shared}
theorem Inv.env0 (I:Inv X pins σ H s):Env0 X.prog X.w X.K X.mg X.base X.A X.stack s H:=
 ⟨I.ok.frames,I.ok.mod,I.bs,uQ I.ok.bsz I.sz,I.stack,I.stkFree,I.hok,I.bare⟩
theorem Inv.after {Q:VK}{u:Value}(I:Inv X pins σ H s)(h:CE X.stack X.prog X.w H s Q u s'):EP X pins σ Q u s':=by
 obtain⟨v,H',os,bare,htk,un,hok,r,q⟩:=h;obtain⟨U,g,d,t,O⟩:=s';obtain rfl:O=s.os:=os;exact⟨v,H',I.call (h':=U) (g':=g) (d':=d) (t':=t) (ch:= []) un hok bare (fun b z=>absurd z (by simp)),r,q⟩
end
def tCall (sp:Sp)(dvs:List V)(E:XK)(t:TA):TE:=fun σ H Q=>t σ H fun vs H1=>sp (vs++dvs) H1 Q E
def tMeth (C:Addr)(m:Str)(sp:Sp)(dvs:List V)(E:XK)(ta:TE)(t:TA):TE:=fun σ H Q=>ta σ H fun x H1=>∃a dx fs,x= .ref a/\H1 a=some (.ins C dx fs)/\fs.lookup m=none/\
 t σ H1 fun vs H2=>sp (x::(vs++dvs)) H2 Q E
def tMake (C:Addr)(sp:Sp)(dvs:List V)(E:XK)(t:TA):TE:=fun σ H Q=>t σ H fun vs H1=>∀x dx,H1 x=none->H1 dx=none->dx≠x->
 sp (.ref x::(vs++dvs)) (upd (upd H1 dx (.own x)) x (.ins C dx [])) (fun v H2=>v= .non/\Q (.ref x) H2) E
def y6 (K:PySem.W.Frag)(fd:FuncData)(ps:List Str)(ds:List Value):Prop:=
 ∀(s:Shared) (us:List Value),K.In s.heap->(us++ds).length=ps.length->BindsTo s fd ⟨us,[]⟩ (ps.zip (us++ds))
theorem y6.all {K:PySem.W.Frag}{fd:FuncData}{ps:List Str}(h:∀us:List Value,us.length=ps.length->bindArgs fd ⟨us,[]⟩=pure (ps.zip us)):y6 K fd ps []:=fun s us _ O=>by
 rw [uU] at O⊢;exact .of_eq (h us O)
def yt (CX:CXT)(X:Cx)(E:XK):Prop:=∀(pins:List (Addr×Obj)) (σ:St) (H:Hp) (s:Shared) (e:Value) (s':Shared),Inv X pins σ H s->CX X.stack H s E e s'->X.xe e s'
section
variable {X:Cx}{CX:CXT}{k:Nat}{f C:Addr}{fd:FuncData}{ps:List Str}{sp:Sp}{dvs:List V}{ds:List Value}{E:XK}{x m:Str}{p pos apos:Pos}{e o:Expr}{es:List Expr}{ta:TE}{t:TA}
theorem run_fn {pins:List (Addr×Obj)}{σ:St}{H:Hp}{s:Shared}{Q:VK}{us:List Value}{vs:List V}(F:FnOk X.prog X.w X.K X.mg X.base CX k f fd ps sp)(Y:Room k X.A)(hb:y6 X.K fd ps ds)(hd:Vals dvs ds)(hx:yt CX X E)
  (I:Inv X pins σ H s) (r:Vals vs us) (h:sp (vs++dvs) H Q E):wpAny (model X.prog X.w) X.A (call (.ref f) us) (EP X pins σ Q) X.xe s:=by
 have U:Vals (vs++dvs) (us++ds):=r.append hd;have hl:(us++ds).length=ps.length:=by rw [<-U.length];exact F.len _ _ _ _ h
 refine U5 (U2 (F.run X.A X.stack s H ⟨us,[]⟩ (us++ds) (vs++dvs) Q E Y I.env0 (hb s us I.kIn hl) U h (.inl I.tk)) fun r s' O=> ?_);cases r with
 |error e=>exact hx pins σ H s e s' I O
 |ok fl=>
  cases fl with
  |ret u=>exact I.after O
  |next=>exact False.elim O
  |brk=>exact False.elim O
  |cont=>exact False.elim O
theorem qk (F:FnOk X.prog X.w X.K X.mg X.base CX k f fd ps sp)(hr:Room k X.A)(hg:Gl X x)(hm:X.mg x=some (.ref f))(hk:PySem.W.keepIn X.K (.ref f)=true)(hb:y6 X.K fd ps ds)(hd:Vals dvs ds)(hx:yt CX X E)
  (ha:PA X (e::es) t) (O:(x==("__debug__":Str))=false:=by decide) (he:starEach (e::es) X.env=(false,eval e X.env)::starEach es X.env:=by rfl) (U:(backTo pos (starEach es X.env)).any (·.1)=false:=by rfl):
  PE X (.Call (.Name x p) (e::es) [] pos) (tCall sp dvs E t):=by
 intro pins s σ H Q I h;refine uO (yD I hg hm ?_ O);refine vZ (h₀:=X.base) I.ok.mod.kin hk (thn (ha pos pins s σ H _ I h) fun us s1 ⟨vs,H1,Y,r,q⟩=>⟨Y.kIn,?_⟩) he U;exact run_fn F hr hb hd hx Y r q
theorem pe_call0 (F:FnOk X.prog X.w X.K X.mg X.base CX k f fd ps sp)(U:Room k X.A)(Y:Gl X x)(hm:X.mg x=some (.ref f))(hk:PySem.W.keepIn X.K (.ref f)=true)(hb:y6 X.K fd ps ds)(hd:Vals dvs ds)(hx:yt CX X E)
  (O:(x==("__debug__":Str))=false:=by decide):PE X (.Call (.Name x p) [] [] pos) (tCall sp dvs E tNil):=by
 intro pins s σ H Q I h;refine uO (yD I Y hm ?_ O);exact PySem.W.callWith_K0 I.kIn hk (run_fn (us:= []) F U hb hd hx I .nil h)
theorem pe_meth {pl:Sem Bool}(he:PE X o ta)(c:Cls X.K C)(hm:Meth X.K C m f)(F:FnOk X.prog X.w X.K X.mg X.base CX k f fd ps sp)(hr:Room k X.A)(hb:y6 X.K fd ps ds)(hd:Vals dvs ds)(hx:yt CX X E)(ha:PA X (e::es) t)
  (O:starEach (e::es) X.env=(false,eval e X.env)::starEach es X.env:=by rfl) (U:(backTo pos (starEach es X.env)).any (·.1)=false:=by rfl)
  (ht:eval (.Call (.Attribute o m apos) (e::es) [] pos) X.env=(do
   let ov<-eval o X.env
   standAt apos.atName
   let(f,first)<-holding [ov] (getMethod ov m pl)
   callWith pos f first (backTo pos (starEach (e::es) X.env)) (backToKw pos (keywordEach [] X.env))):=by rfl):
  PE X (.Call (.Attribute o m apos) (e::es) [] pos) (tMeth C m sp dvs E ta t):=by
 intro pins s σ H Q I h;refine PySem.W.methodCall_KW (pl:=pl) (thn (he pins s σ H _ I h) fun u s1 ⟨x,H1,Y,rx,a,dx,fs,ex,ea,l,q⟩=> ?_) ht;subst ex;obtain rfl:u=Value.ref a:=rx;refine xF Y ea c hm l ?_;refine vZ (first:= [.ref a]) (h₀:=X.base) I.ok.mod.kin hm.kp (thn (ha pos pins s1 σ H1 _ Y q) fun us s2 ⟨vs,H2,I2,r,q2⟩=>⟨I2.kIn,?_⟩) O U;exact run_fn (us:= .ref a::us) (vs:= .ref a::vs) F hr hb hd hx I2 (.cons rfl r) q2
theorem Yl {pl:Sem Bool}(U:PE X o ta)(c:Cls X.K C)(hm:Meth X.K C m f)(F:FnOk X.prog X.w X.K X.mg X.base CX k f fd ps sp)(Y:Room k X.A)(hb:y6 X.K fd ps ds)(hd:Vals dvs ds)(hx:yt CX X E)
  (ht:eval (.Call (.Attribute o m apos) [] [] pos) X.env=(do
   let ov<-eval o X.env
   standAt apos.atName
   let(f,first)<-holding [ov] (getMethod ov m pl)
   callWith pos f first (backTo pos (starEach [] X.env)) (backToKw pos (keywordEach [] X.env))):=by rfl):
  PE X (.Call (.Attribute o m apos) [] [] pos) (tMeth C m sp dvs E ta tNil):=by
 intro pins s σ H Q I h;refine PySem.W.methodCall_KW (pl:=pl) (thn (U pins s σ H _ I h) fun u s1 ⟨x,H1,O,rx,a,dx,fs,ex,ea,l,q⟩=> ?_) ht;subst ex;obtain rfl:u=Value.ref a:=rx;refine xF O ea c hm l ?_;exact PySem.W.callWith_K0 (first:= [.ref a]) O.kIn hm.kp (run_fn (us:= [.ref a]) (vs:= [.ref a]) F Y hb hd hx O (.cons rfl .nil) q)
structure Mk (K:PySem.W.Frag)(C f:Addr):Prop where
 makes:PySem.W.makesIn K C=true
 init:PySem.W.findIn K (.ref C) "__init__"=some (some (.ref f))
 fn:PySem.W.isFn K (.ref f)=true
 kp:PySem.W.keepIn K (.ref C)=true
theorem run_make {pins:List (Addr×Obj)}{σ:St}{H:Hp}{s:Shared}{Q:VK}{us:List Value}{vs:List V}(M:Mk X.K C f)(F:FnOk X.prog X.w X.K X.mg X.base CX k f fd ps sp)(hr:Room (k+1) X.A)(hb:y6 X.K fd ps ds)(hd:Vals dvs ds)
  (hx:yt CX X E) (I:Inv X pins σ H s) (r:Vals vs us)
  (h:∀x dx,H x=none->H dx=none->dx≠x->sp (.ref x::(vs++dvs)) (upd (upd H dx (.own x)) x (.ins C dx [])) (fun v H2=>v= .non/\Q (.ref x) H2) E):
  wpAny (model X.prog X.w) X.A (call (.ref C) us) (EP X pins σ Q) X.xe s:=by
 have Y:=h (s.heap.objs.size+1) s.heap.objs.size (I.hok.fresh (vH _)) (I.hok.fresh (Nat.le_refl _)) (uu (Uw _));have U:=Inv.made (C:=C) I;have r2:Vals (V.ref (s.heap.objs.size+1)::(vs++dvs)) (Value.ref (s.heap.objs.size+1)::(us++ds)):= .cons rfl (r.append hd);have hl:(Value.ref (s.heap.objs.size+1)::us++ds).length=ps.length:=by
  have e:=r2.length;rw [F.len _ _ _ _ Y] at e;exact e.symm
 refine U5 (make_map (f:=f) I.kIn M.makes M.init (beq_iff_eq.mp M.fn) (U2 (F.run _ X.stack _ _ ⟨Value.ref (s.heap.objs.size+1)::us,[]⟩ (Value.ref (s.heap.objs.size+1)::(us++ds)) _ _ E (hr.make C us [])
  (U.env0.make C us []) (hb _ (Value.ref (s.heap.objs.size+1)::us) U.kIn hl) r2 Y (.inl U.tk)) fun r s' O=> ?_))
 cases r with
 |error e=>exact hx pins σ _ _ e s' U O
 |ok fl=>
  cases fl with
  |ret u=>
   obtain⟨v,H',I3,rv,ev,q3⟩:=U.after O;subst ev;exact⟨rv,⟨V.ref (s.heap.objs.size+1),H',I3,rfl,q3⟩⟩
  |next=>exact False.elim O
  |brk=>exact False.elim O
  |cont=>exact False.elim O
theorem pe_make (M:Mk X.K C f)(F:FnOk X.prog X.w X.K X.mg X.base CX k f fd ps sp)(hr:Room (k+1) X.A)(hg:Gl X x)(hm:X.mg x=some (.ref C))(hb:y6 X.K fd ps ds)(hd:Vals dvs ds)(hx:yt CX X E)
  (ha:PA X (e::es) t) (O:(x==("__debug__":Str))=false:=by decide) (he:starEach (e::es) X.env=(false,eval e X.env)::starEach es X.env:=by rfl) (U:(backTo pos (starEach es X.env)).any (·.1)=false:=by rfl):
  PE X (.Call (.Name x p) (e::es) [] pos) (tMake C sp dvs E t):=by
 intro pins s σ H Q I h;refine uO (yD I hg hm ?_ O);refine vZ (h₀:=X.base) I.ok.mod.kin M.kp (thn (ha pos pins s σ H _ I h) fun us s1 ⟨vs,H1,Y,r,q⟩=>⟨Y.kIn,?_⟩) he U;exact run_make M F hr hb hd hx Y r q
theorem pe_make0 (M:Mk X.K C f)(F:FnOk X.prog X.w X.K X.mg X.base CX k f fd ps sp)(U:Room (k+1) X.A)(Y:Gl X x)(hm:X.mg x=some (.ref C))(hb:y6 X.K fd ps ds)(hd:Vals dvs ds)(hx:yt CX X E)
  (O:(x==("__debug__":Str))=false:=by decide):PE X (.Call (.Name x p) [] [] pos) (tMake C sp dvs E tNil):=by
 intro pins s σ H Q I h;refine uO (yD I Y hm ?_ O);exact PySem.W.callWith_K0 I.kIn M.kp (run_make (us:= []) M F U hb hd hx I .nil h)
end
def PK (X:Cx)(kws:List Keyword)(t:TA):Prop:=
 ∀(pos:Pos) (pins:List (Addr×Obj)) (s:Shared) (σ:St) (H:Hp) (Q:List V->Hp->Prop),Inv X pins σ H s->t σ H Q->wpAny (model X.prog X.w) X.A (evalAll ((backToKw pos (keywordEach kws X.env)).map (·.2))) (AP X pins σ Q) X.xe s
section
variable {X:Cx}{CX:CXT}{k:Nat}{f C:Addr}{fd:FuncData}{ps ks:List Str}{sp:Sp}{E:XK}{x m:Str}{p pos apos kpos:Pos}{e o:Expr}{es:List Expr}{kws:List Keyword}{te ta:TE}{t tk:TA}{nm:Option Str}
theorem pk_nil:PK X [] tNil:=fun _ _ _ _ H Q I h=>wpAny_evalAll_nil ⟨[],H,I,.nil,h⟩
theorem pk_cons (ha:PE X e te)(O:PK X kws t):PK X (⟨nm,e,kpos⟩::kws) (tCons te t):=by
 intro pos pins s σ H Q I h;show wpAny _ _ (evalAll ((do let v<-eval e X.env;standAt pos;pure v)::(backToKw pos (keywordEach kws X.env)).map (·.2))) _ _ s
 refine wpAny_evalAll_cons (wpAny_bind (thn (ha pins s σ H _ I h) fun u s1 ⟨x,H1,U,Y,q1⟩=>wpAny_bind (U4 (u9 ?_))));exact thn (O pos pins s1 σ H1 _ U q1) fun us s2 ⟨xs,H2,I2,r2,q2⟩=>⟨x::xs,H2,I2,.cons Y r2,q2⟩
variable {g:List Value->List Value->List Value}{gV:List V->List V->List V}
end
structure qw (N P:List Str)(sc:Scope):Prop where
 kind:sc.kind= .function
 co:sc.isCoroutine=false
 gen:sc.isGenerator=false
 nd:N.Nodup
 pre:N.take P.length=P
 par:∀x∈P,sc.names.lookup x=some .local∨sc.names.lookup x=some .cell
 nofree:∀y∈sc.names,y.2≠ .free
theorem bindL_out {kindOf:Str->Option NameKind}{x:Str}:∀{binds:List (Str×Value)}{m:Str->Option Value},(∀v,(x,v)∉binds)->bindL kindOf binds m x=m x
 | [],_,_=>rfl
 |(n,v)::r,m,h=>by
  unfold bindL;rw [bindL_out fun w O=>h w (u5 _ O)];split
  ·have:x≠n:=by rintro rfl;exact h v ui
   simp [this]
  ·rfl
theorem bindC_out {kindOf:Str->Option NameKind}{x:Str}:∀{binds:List (Str×Value)}{m:Str->Option Value},(∀v,(x,v)∉binds)->bindC kindOf binds m x=m x
 | [],_,_=>rfl
 |(n,v)::r,m,h=>by
  unfold bindC;rw [bindC_out fun w O=>h w (u5 _ O)];split
  ·rfl
  ·have:x≠n:=by rintro rfl;exact h v ui
   simp [this]
theorem bindL_get {kindOf:Str->Option NameKind}{x:Str}{v:Value}:∀{P:List Str}{vs:List Value}{i:Nat}{m:Str->Option Value},P.Nodup->P[i]? =some x->vs[i]? =some v->kindOf x=some .local->
  bindL kindOf (P.zip vs) m x=some v
 | [],_,_,_,_,h,_,_=>by simp at h
 |_::_,[],_,_,_,_,h,_=>by simp at h
 |p::P,w::vs,0,m,nd,h1,h2,hk=>by
  simp at h1 h2;subst h1;subst h2;show bindL kindOf ((p,w)::P.zip vs) m p=_;unfold bindL;rw [bindL_out fun v O=>(List.nodup_cons.mp nd).1 (List.of_mem_zip O).1,if_pos hk];simp
 |p::P,w::vs,i+1,m,nd,h1,h2,hk=>by
  show bindL kindOf ((p,w)::P.zip vs) m x=_;unfold bindL;exact bindL_get (i:=i) (List.nodup_cons.mp nd).2 (by simpa using h1) (by simpa using h2) hk
theorem bindC_get {kindOf:Str->Option NameKind}{x:Str}{v:Value}:∀{P:List Str}{vs:List Value}{i:Nat}{m:Str->Option Value},P.Nodup->P[i]? =some x->vs[i]? =some v->kindOf x≠some .local->
  bindC kindOf (P.zip vs) m x=some v
 | [],_,_,_,_,h,_,_=>by simp at h
 |_::_,[],_,_,_,_,h,_=>by simp at h
 |p::P,w::vs,0,m,nd,h1,h2,hk=>by
  simp at h1 h2;subst h1;subst h2;show bindC kindOf ((p,w)::P.zip vs) m p=_;unfold bindC;rw [bindC_out fun v O=>(List.nodup_cons.mp nd).1 (List.of_mem_zip O).1,if_neg hk];simp
 |p::P,w::vs,i+1,m,nd,h1,h2,hk=>by
  show bindC kindOf ((p,w)::P.zip vs) m x=_;unfold bindC;exact bindC_get (i:=i) (List.nodup_cons.mp nd).2 (by simpa using h1) (by simpa using h2) hk
def xh (N:List Str)(vs:List V):St:=vs.map some++List.replicate (N.length-vs.length) none
def cxOf (CX:CXT)(P:Program)(w:World)(K:PySem.W.Frag)(mg:Str->Option Value)(base:Heap)(N:List Str)(qual:Str)(scope:Scope)(f:Addr)(cd:Value)(A:Around)(outer:List Env)(s:Shared)(H:Hp)(E:XK):Cx where
 prog:=P
 w:=w
 K:=K
 mg:=mg
 base:=base
 A:=A.deeper (envOfC qual scope s.heap.objs.size f cd)
 N:=N
 s₀:=s
 H₀:=H
 env:=envOfC qual scope s.heap.objs.size f cd
 outer:=outer
 stack:=envOfC qual scope s.heap.objs.size f cd::outer
 ex:= []
 calm:=true
 fn:=fun _=>true
 pn:= []
 xe:=fun e s'=>wpAny (model P w) (A.deeper (envOfC qual scope s.heap.objs.size f cd)) (leaving (envOfC qual scope s.heap.objs.size f cd) e) (fun _ s''=>CX outer H s E e s'') (fun e' s''=>CX outer H s E e' s'') s'
theorem cell_has {sc:Scope}{n:Nat}{x:Str}(h:sc.names.lookup x=some .cell):∃c,(cellsFrom n sc.names []).lookup x=some c:=by
 have q:=PySem.W.cellsFrom_some sc.names n [] (.inl h);exact Option.isSome_iff_exists.mp q
theorem inv_start {CX:CXT}{P:Program}{w:World}{K:PySem.W.Frag}{mg:Str->Option Value}{base:Heap}{N ps:List Str}{qual:Str}{scope:Scope}{f:Addr}{cd:Value}{A:Around}{outer:List Env}{s s1:Shared}{H:Hp}{E:XK}{us:List Value}{vs:List V}
  (S:qw N ps scope) (hd:A.handled=none) (O:Env0 P w K mg base A outer s H) (hl:vs.length=ps.length) (r:Vals vs us)
  (x:InCallC s s.heap.objs.size (bindL (envOfC qual scope s.heap.objs.size f cd).kindOf (ps.zip us) fun _=>none) (cellsFrom (s.heap.objs.size+1) scope.names []) (bindC (envOfC qual scope s.heap.objs.size f cd).kindOf (ps.zip us) fun _=>none) s1) (ac:0<s1.toks):
  Inv (cxOf CX P w K mg base N qual scope f cd A outer s H E) [] (xh N vs) H s1:=by
 have ad:ps.length<=N.length:=by have:=congrArg List.length S.pre;rw [vz] at this;omega
 obtain⟨h1,tk,rfl,hk⟩:=x.done;have U:∀b:Addr,b∉(cxOf CX P w K mg base N qual scope f cd A outer s H E).ex:=fun b z=>absurd (show b∈([]:List Addr) from z) (by simp)
 refine⟨⟨O.mod,S.kind,rfl,rfl,Nat.le_refl _,fun y z c h1 h2=> ?_,fun y Y=> ?_,fun y c _ h=> ?_,fun _=>hd,Around.frames_deeper O.frames,.inr ⟨rfl,rfl⟩,fun b z=>absurd z (U b),O.bs,O.bsz,fun b _ _=>U b,fun b z=>absurd z (U b),O.funs,O.frf⟩,
  rfl,O.bare,Un.kept hk,⟨_,x.toInCall.ns,fun i y v h1 h2 h3=> ?_⟩,fun y c h=>⟨_,x.cell y c h⟩,O.hok.fresh (Nat.le_refl _),fun y c h=> ?_,fun p hp=>absurd (show p∈([]:List (Addr×Obj)) from hp) (by simp),O.hok.kept hk,?_,ac⟩
 ·exact name_of_addr x.apart (vh h1) (vh h2)
 ·have Y:scope.names.lookup y=some .cell∨scope.names.lookup y=some .free:=Y;rcases Y with Y|Y
  ·exact cell_has Y
  ·exact absurd rfl (S.nofree _ (vh Y))
 ·exact vd (x.above y c (vh h))
 ·have hi:i<vs.length:=by
   unfold xh at h2;by_cases hi:i<vs.length
   ·exact hi
   ·rw [vy (by simpa using hi)] at h2
    rw [List.getElem?_replicate] at h2;split at h2<;>cases h2
  have ha:vs[i]? =some v:=by
   unfold xh at h2;rw [vI (by simpa using hi),um] at h2
   cases e:vs[i]? with
   |none=>rw [e] at h2;cases h2
   |some a=>rw [e] at h2;cases h2;rfl
  obtain⟨u,hu,rv⟩:=r.get ha;have hp:ps[i]? =some y:=by
   rw [<-S.pre,List.getElem?_take_of_lt (by omega)];exact h1
  have aa:ps.Nodup:=by rw [<-S.pre];exact S.nd.sublist (List.take_sublist _ _)
  refine⟨u,rv,?_⟩;rcases S.par y (uE hp) with k|k
  ·exact .inl ⟨k,bindL_get aa hp hu k⟩
  ·obtain⟨c,e⟩:=cell_has (n:=s.heap.objs.size+1) k;refine .inr ⟨.inl k,c,e,?_⟩;have q:=x.cell y c e;rw [bindC_get aa hp hu (by show scope.names.lookup y≠_;rw [k];decide)] at q
   exact q
 ·exact O.hok.fresh (vd (x.above y c (vh h)))
 ·unfold xh;show _=N.length;rw [uf,u3,List.length_replicate];omega
theorem bindParams1 {M:Model}{A:Around}{E:Value->Shared->Prop}{s₀ s:Shared}{m Y:Str->Option Value}{env:Env}(f:Str×Value->PUnit->Sem (ForInStep PUnit))(hf:∀n v u,f (n,v) u=(do storeName env n v;pure (.yield ⟨⟩)))(O:env.scope.kind= .function)
  (n:Str) (v:Value) (r:List (Str×Value)) (Q:PUnit->Shared->Prop) (x:InCallC s₀ env.locals m env.cells Y s) (hl:env.kindOf n=some .local)
  (aa:∀x∈r,env.kindOf x.1=some .local∨(env.kindOf x.1=some .cell/\(env.cells.lookup x.1).isSome=true))
  (h:∀s',InCallC s₀ env.locals (bindL env.kindOf ((n,v)::r) m) env.cells (bindC env.kindOf ((n,v)::r) Y) s'->0<s'.toks->Q ⟨⟩ s'):wpAny M A (forIn ((n,v)::r) ⟨⟩ f) Q E s:=by
 rw [List.forIn_cons,hf];refine wpAny_bind (wpAny_bind (wpAny_storeName_local hl x.toInCall.ns (fun h' ac U=>u9 ?_) (by rw [O];rfl)))
 have x1:InCallC s₀ env.locals (fun y=>if y=n then some v else m y) env.cells Y {s with heap:=h',toks:=s.toks+1}:=by
  refine⟨⟨?_,ac,fun b o e=> ?_,x.toInCall.fresh⟩,fun k c hc=> ?_,x.apart,x.above⟩
  ·obtain⟨h₁,tk,rfl⟩:=x.toInCall.same;exact⟨h',_,rfl⟩
  ·have:=x.toInCall.keep b o e;exact U.extBut b o (uu (Nat.lt_of_lt_of_le (ug e) x.toInCall.fresh)) (x.toInCall.keep b o e)
  ·exact(x.cell k c hc).sameBut U (vj (x.above k c (mem_of_lookup hc)))
 refine uB (n:=1) (Nat.succ_le_succ (uF _)) (wpAny_bindParams f hf O r _ _ _ _ x1 aa fun s' y h1=>h s' ?_ h1);unfold bindL bindC;rw [if_pos hl,if_pos hl];exact y
theorem newEnv_tk {M:Model}{A:Around}{E:Value->Shared->Prop}{s:Shared}{scope:Scope}{globals:Addr}{binds:List (Str×Value)}{qual:Str}{func:Option Addr}{O:Value}{builtins:Addr}{Q:Env->Shared->Prop}
  (aa:scope.kind= .function)
  (ac:∀x∈binds,scope.names.lookup x.1=some .local∨(scope.names.lookup x.1=some .cell/\((cellsFrom (s.heap.objs.size+1) scope.names []).lookup x.1).isSome=true))
  (htk:0<s.toks∨∃n v r,binds=(n,v)::r/\scope.names.lookup n=some .local)
  (hq:∀Y,Y=newEnv scope s.heap.objs.size globals (cellsFrom (s.heap.objs.size+1) scope.names []) qual func O none builtins->
   ∀s',InCallC s Y.locals (bindL Y.kindOf binds fun _=>none) Y.cells (bindC Y.kindOf binds fun _=>none) s'->0<s'.toks->Q Y s'):
  wpAny M A (newFunctionEnv scope globals [] binds qual func O none builtins) Q E s:=by
 rcases htk with htk|⟨n,v,r,rfl,hl⟩
 ·exact uB (n:=1) htk (wpAny_newFunctionEnv_cells aa ac fun env he s' x h1=>hq env he s' x h1)
 ·simp only [newFunctionEnv,Option.isSome_none,uC,vK];refine wpAny_bind (wpAny_alloc ?_);refine wpAny_bind (wpAny_layCells _ (fun name kind cells=>by cases ad:kind==NameKind.cell<;>simp [ad]) _ _ _ _ ?_)
  have U:=cellsFrom_ok scope.names (s.heap.push {cls:= .type "frame",data:= .dict #[]}) (s.heap.objs.size+1) [] ⟨fun _ _ hm=>(nomatch hm),List.Pairwise.nil⟩ (by rw [va];exact Nat.le_refl _);rw [va] at U;rw [show({s with heap:=s.heap.push {cls:= .type "frame",data:= .dict #[]}}:Shared).heap.objs.size=s.heap.objs.size+1 from va ..]
  exact wpAny_bind (bindParams1 (s₀:=s) (env:=newEnv scope s.heap.objs.size globals (cellsFrom (s.heap.objs.size+1) scope.names []) qual func O none builtins)
   _ (fun _ _ _=>rfl) aa n v r _
   ⟨⟨⟨_,_,by rfl⟩,(Heap.Ns.new s.heap (.type "frame")).keeps (pushCells_keeps _ _),fun b o e=>pushCells_keeps _ _ b o (u4 _ e),Nat.le_refl _⟩,
    fun m c hc=>(U.empty m c (mem_of_lookup hc)).1,U.apart,fun n c hm=>(U.empty n c hm).2⟩
   hl (fun y hy=>ac y (u5 _ hy)) fun s' x h1=>u9 (hq _ rfl s' x h1))
theorem fn_of {CX:CXT}{P:Program}{w:World}{K:PySem.W.Frag}{mg:Str->Option Value}{base:Heap}{k:Nat}{f:Addr}{name qual:Str}{O:Arguments}{U:List Stmt}{scope:Scope}{dV kV doc pm cdv ct oc:Value}{an od:Option Addr}
  {osl:Array (Option Value)}{N ps:List Str}{sp:Sp} (lk:K.lookup f=some ⟨oc,od,.func (PySem.W.fnOf name qual O U scope dV kV doc pm an cdv ct),osl⟩) (af:PySem.W.codeIn K cdv qual=true) (S:qw N ps scope)
  (len:∀vs H Q E,sp vs H Q E->vs.length=ps.length)
  (Y:∀(A:Around) (outer:List Env) (s:Shared) (H:Hp) (vs:List V) (Q:VK) (E:XK),Room k (A.deeper (envOfC qual scope s.heap.objs.size f cdv))->sp vs H Q E->
   ∃t,PSs (cxOf CX P w K mg base N qual scope f cdv A outer s H E) U t/\t {nx:=fun _ H'=>Q .non H',rt:=Q} (xh N vs) H):
  FnOk P w K mg base CX (k+1) f (PySem.W.fnOf name qual O U scope dV kV doc pm an cdv ct) ps sp:=by
 refine⟨len,fun A outer s H args us vs Q E hr e0 hb r ac htk=> ?_⟩;have hl:=len _ _ _ _ ac;have KX:K.In s.heap:=e0.mod.kin.keeps fun b o e=>(e0.bs b o e).1;have ag:s.heap.NoLimit:=e0.mod.nolimit.keeps fun b o e=>(e0.bs b o e).1;have aa:∀y∈ps.zip us,scope.names.lookup y.1=some .local∨(scope.names.lookup y.1=some .cell/\((cellsFrom (s.heap.objs.size+1) scope.names []).lookup y.1).isSome=true):=fun⟨n,v⟩ hy=>by
  rcases S.par n (List.of_mem_zip hy).1 with q|q
  ·exact .inl q
  ·exact .inr ⟨q,PySem.W.cellsFrom_some _ _ _ (.inl q)⟩
 have ad:0<s.toks∨∃n v r,ps.zip us=(n,v)::r/\scope.names.lookup n=some .local:=by
  rcases htk with h|⟨y,q,e,hy⟩
  ·exact .inl h
  ·have:us.length=ps.length:=by rw [<-r.length];exact hl
   subst e
   match us,this with
   |u::us',_=>exact .inr ⟨y,u,q.zip us',rfl,hy⟩
 refine codeAny_call_function hr.depth (KX _ _ lk) rfl S.co S.gen rfl (PySem.W.codeRec_of KX af) (hb _ _ _ _ ?_);refine newEnv_tk S.kind aa ad fun env he s1 x ah=> ?_;subst he;refine⟨ag.keeps x.toInCall.keep,codeAny_func ?_⟩;obtain⟨t,ht,hq⟩:=Y A outer s H vs Q E (hr.deeper _) ac;have I:Inv (cxOf CX P w K mg base N qual scope f cdv A outer s H E) [] (xh N vs) H s1:=inv_start S hr.hd e0 hl r x ah;refine uJ (ht [] s1 (xh N vs) H _ I hq) (fun fl s' hs=> ?_) fun e s' hs=>hs;have ae:∀{σ':St}{H':Hp}{v:V}{u:Value},Inv (cxOf CX P w K mg base N qual scope f cdv A outer s H E) [] σ' H' s'->RelV v u->Q v H'->CE outer P w H s Q u s':=
  fun{σ' H' v u} J rv q=>⟨v,H',J.os,J.bare,J.tk,J.base,J.hok,rv,q⟩
 cases fl with
 |ret u=>
  obtain⟨v,σ',H',J,rv,q⟩:=hs;exact ae J rv q
 |next=>
  obtain⟨σ',H',J,q⟩:=hs;exact ae (v:=V.non) (u:=Value.none) J rfl q
 |brk=>
  obtain⟨_,_,_,q⟩:=hs;exact False.elim q
 |cont=>
  obtain⟨_,_,_,q⟩:=hs;exact False.elim q
section
variable {X:Cx}{x:Str}{p pos:Pos}{e:Expr}{es:List Expr}{t:TA}{id T:String}{r:List V->Hp->VK->Prop}
def tCB (r:List V->Hp->VK->Prop)(t:TA):TE:=fun σ H Q=>t σ H fun vs H1=>r vs H1 Q
theorem qu (Y:ye X (.builtin id) r)(hg:Gl X x)(hm:X.mg x=none)(hv:bootBuiltins x=some (.builtin id))(ha:PA X (e::es) t)(hn:x≠"__name__":=by decide)(O:(x==("__debug__":Str))=false:=by decide)
  (he:starEach (e::es) X.env=(false,eval e X.env)::starEach es X.env:=by rfl) (U:(backTo pos (starEach es X.env)).any (·.1)=false:=by rfl):PE X (.Call (.Name x p) (e::es) [] pos) (tCB r t):=by
 intro pins s σ H Q I h;refine uO (Jj I hg hm hv ?_ hn O);exact PyProof.Rows.callWith_builtin1 (thn (ha pos pins s σ H _ I h) fun us s1 ⟨vs,H1,I1,r1,q1⟩=>Y pins s1 σ H1 vs us Q I1 r1 q1) he U
theorem Qh (Y:ye X (.type T) r)(hg:Gl X x)(hm:X.mg x=none)(hv:bootBuiltins x=some (.type T))(ha:PA X (e::es) t)(hn:x≠"__name__":=by decide)(O:(x==("__debug__":Str))=false:=by decide)
  (he:starEach (e::es) X.env=(false,eval e X.env)::starEach es X.env:=by rfl) (U:(backTo pos (starEach es X.env)).any (·.1)=false:=by rfl):PE X (.Call (.Name x p) (e::es) [] pos) (tCB r t):=by
 intro pins s σ H Q I h;refine uO (Jj I hg hm hv ?_ hn O);exact vt (thn (ha pos pins s σ H _ I h) fun us s1 ⟨vs,H1,I1,r1,q1⟩=>Y pins s1 σ H1 vs us Q I1 r1 q1) he U
end
end L2
namespace HT
open PySem PyProof.Rows
section
variable {prog:Program}{w:World}{A:Around}{E:Value->Shared->Prop}{s:Shared}
def sIx (n d:Nat):Option Int->Nat
 |none=>d
 |some v=>if v<0 then(v+(n:Int)).toNat else min v.toNat n
theorem sIx_none (n d:Nat):sIx n d none=d:=rfl
theorem sIx_nat (n d k:Nat):sIx n d (some (k:Int))=min k n:=by
 show(if(k:Int)<0 then((k:Int)+(n:Int)).toNat else min (k:Int).toNat n)=min k n
 rw [if_neg (by omega),Int.toNat_natCast]
end
end HT
namespace L2
open PySem PySem.Spec PyProof.Rows
abbrev TO:=St->Hp->(Option Int->Hp->Prop)->Prop
def PO (X:Cx)(e:Option Expr)(t:TO):Prop:=
 ∀(pins:List (Addr×Obj)) (s:Shared) (σ:St) (H:Hp) (Q:Option Int->Hp->Prop),Inv X pins σ H s->t σ H Q->
  wpAny (model X.prog X.w) X.A (evalPart e X.env) (fun u s'=>∃o H',Inv X pins σ H' s'/\IsPart u o/\Q o H') X.xe s
def tNoPart:TO:=fun _ H Q=>Q none H
def tPart (t:TE):TO:=fun σ H Q=>t σ H fun x H1=>∃i,x= .int i/\Q (some i) H1
theorem intsAre_of {ns:List Int}:∀{us:List Value},Vals (ns.map V.int) us->IntsAre us ns:=by
 induction ns with
 |nil=>intro us r;rw [vP] at r;cases r;exact .nil
 |cons n ns O=>
  intro us r;rw [ua] at r;cases r with
  |cons U Y=>
   obtain⟨t,e⟩:=U;subst e;exact .cons n t (O Y)
section
variable {X:Cx}{e:Expr}{te:TE}{lo hi:Option Expr}{tl th:TO}{pos p2:Pos}
theorem po_none:PO X none tNoPart:=by
 intro pins s σ H Q I h;rw [evalPart_none];exact u9 ⟨none,H,I,.none,h⟩
theorem Qx (h:PE X e te):PO X (some e) (tPart te):=by
 intro pins s σ H Q I O;rw [evalPart_some];refine thn (h pins s σ H _ I O) fun u s1 ⟨x,H1,U,Y,q1⟩=> ?_;obtain⟨i,rfl,q⟩:=q1;obtain⟨t,rfl⟩:=Y;exact⟨some i,H1,U,.int i t,q⟩
def SlR (X:Cx)(r:V->Option Int->Option Int->Hp->VK->Prop):Prop:=
 ∀(pins:List (Addr×Obj)) (s:Shared) (σ:St) (H:Hp) (x:V) (v vl vu:Value) (lo hi:Option Int) (sl:Addr) (Q:VK),Inv X pins σ H s->RelV x v->s.heap.IsSliceOf sl vl vu .none->IsPart vl lo->IsPart vu hi->r x lo hi H Q->
  ∃T id,typeLookup (.type T) "__getitem__"=pure (some (.builtin id))/\s.TypeIs v T/\wpAny (model X.prog X.w) X.A (getItem v (.ref sl)) (EP X pins σ Q) X.xe s
def tSl (r:V->Option Int->Option Int->Hp->VK->Prop)(te:TE)(tl th:TO):TE:=fun σ H Q=>te σ H fun x H1=>tl σ H1 fun l H2=>th σ H2 fun u H3=>r x l u H3 Q
theorem yd {r:V->Option Int->Option Int->Hp->VK->Prop}(hr:SlR X r)(he:PE X e te)(hl:PO X lo tl)(hu:PO X hi th):PE X (.Subscript e (.Slice lo hi none p2) pos) (tSl r te tl th):=by
 intro pins s σ H Q I h;refine Subscript_ (thn (he pins s σ H _ I h) fun v s1 ⟨x,H1,I1,r1,q1⟩=> ?_);refine wpAny_Slice (thn (hl pins s1 σ H1 _ I1 q1) fun U s2 ⟨l,H2,I2,pl,q2⟩=>thn (hu pins s2 σ H2 _ I2 q2) fun Y O ⟨u,H3,I3,pu,q3⟩=> ?_);rw [evalPart_none];refine u9 ?_;have I4:Inv X pins σ H3 {O with heap:=O.heap.push {cls:= .type "slice",data:= .fields #[U,Y,.none]}}:=I3.kept (t':=O.toks) fun b ob q=>u4 _ q
 obtain⟨T,id,hT,ht,hg⟩:=hr pins {O with heap:=O.heap.push {cls:= .type "slice",data:= .fields #[U,Y,.none]}} σ H3 x v U Y l u O.heap.objs.size Q I4 r1 (Heap.IsSliceOf.new ..) pl pu q3
 show wpAny (model X.prog X.w) X.A (subscriptTail e (.Slice lo hi none p2) v (.ref O.heap.objs.size)) (EP X pins σ Q) X.xe {O with heap:=O.heap.push {cls:= .type "slice",data:= .fields #[U,Y,.none]}}
 exact tail_any (ops:= [.ref O.heap.objs.size,v]) ht hT hg (by with_unfolding_all rfl)
def cutV (xs:List V)(lo hi:Option Int):List V:=(xs.drop (HT.sIx xs.length 0 lo)).take (HT.sIx xs.length xs.length hi-HT.sIx xs.length 0 lo)
theorem cutV_length (xs:List V)(lo hi:Option Int):(cutV xs lo hi).length<=xs.length:=by
 unfold cutV;rw [vz,vA];omega
end
def ixN (n:Nat)(i:Int):Option Nat:=if 0<=i then(if i<n then some i.toNat else none) else if-(n:Int)<=i then some (i+n).toNat else none
def atI {α:Type}(xs:List α)(i:Int):Option α:=(ixN xs.length i).bind fun j=>xs[j]?
theorem ixN_seq {n:Nat}{i:Int}{j:Nat}(h:ixN n i=some j):seqIndex? i n=some j/\j<n/\ -(n:Int)<=i/\i<n:=by
 unfold ixN at h;by_cases O:0<=i
 ·rw [if_pos O] at h;by_cases h1:i<n
  ·rw [if_pos h1] at h;have e:i.toNat=j:=uI h;exact⟨by rw [seqIndex_of O h1,e],by omega,by omega,h1⟩
  ·rw [if_neg h1] at h;cases h
 ·rw [if_neg O] at h;by_cases h1: -(n:Int)<=i
  ·rw [if_pos h1] at h;have e:(i+n).toNat=j:=uI h;exact⟨by rw [seqIndex_neg (by omega) h1,e],by omega,h1,by omega⟩
  ·rw [if_neg h1] at h;cases h
theorem XO {α:Type}{xs:List α}{i:Int}{v:α}(h:atI xs i=some v):∃j,seqIndex? i xs.length=some j/\xs[j]? =some v/\j<xs.length/\ -(xs.length:Int)<=i/\i<xs.length:=by
 unfold atI at h;cases e:ixN xs.length i with
 |none=>rw [e] at h;cases h
 |some j=>
  rw [e] at h;obtain⟨h1,h2,O,h4⟩:=ixN_seq e;exact⟨j,h1,h,h2,O,h4⟩
theorem JQ {α:Type}{xs:List α}{j:Nat}{v:α}(h:xs[j]? =some v):atI xs (j:Int)=some v:=by
 have O:j<xs.length:=(List.getElem?_eq_some_iff.mp h).1;have e:ixN xs.length (j:Int)=some j:=by
  unfold ixN;rw [if_pos (by omega),if_pos (by omega)];simp
 unfold atI;rw [e];exact h
def PlainIx (b:Expr):Prop:=∀o i,subscripted b false o i=operate [o,i] (getItem o i)
def IxR (X:Cx)(r:R2):Prop:=
 ∀(value slice:Expr) (pins:List (Addr×Obj)) (s:Shared) (σ:St) (H:Hp) (x y:V) (v u:Value) (Q:VK),Inv X pins σ H s->RelV x v->RelV y u->r x y H Q->
  subscripted slice false v u=operate [v,u] (getItem v u)->wpAny (model X.prog X.w) X.A (subscriptTail value slice v u) (EP X pins σ Q) X.xe s
def MtR (X:Cx)(id:String)(r:V->List V->Hp->VK->Prop):Prop:=
 ∀(pins:List (Addr×Obj)) (s:Shared) (σ:St) (H:Hp) (x:V) (xs:List V) (v:Value) (us:List Value) (Q:VK),Inv X pins σ H s->RelV x v->Vals xs us->r x xs H Q->
  wpAny (model X.prog X.w) X.A (call (.builtin id) (v::us)) (EP X pins σ Q) X.xe s
section
variable {X:Cx}{a b:Expr}{ta tb:TE}{pos:Pos}
theorem qP {r:R2}(O:IxR X r)(ha:PE X a ta)(U:PE X b tb)(Y:PlainIx b):PE X (.Subscript a b pos) (tOp r ta tb):=by
 intro pins s σ H Q I h;exact Subscript_ (binT ha U I h fun v u s2 x y H2 I2 rx ry q=>O a b pins s2 σ H2 x y v u Q I2 rx ry q (Y _ _))
def rIxL (K:PySem.W.Frag):R2:=fun x y H Q=>∃p xs i v,x= .ref p/\y= .int i/\SqL K H p xs/\atI xs i=some v/\Q v H
def rIxT (K:PySem.W.Frag):R2:=fun x y H Q=>∃p xs i v,x= .ref p/\y= .int i/\SqT K H p xs/\atI xs i=some v/\Q v H
def rIxS:R2:=fun x y H Q=>∃z i c,x= .str z/\y= .int i/\z.length<=sizeLine/\atI z.cps.toList i=some c/\Q (.str ⟨#[c]⟩) H
theorem qZ:IxR X (rIxL X.K):=by
 intro value U pins s σ H x y v u Q I rx ry h hs;obtain⟨p,xs,i,z,rfl,rfl,hq,he,q⟩:=h;cases rx;obtain⟨t,rfl⟩:=ry;obtain⟨its,r,pl,hz⟩:=I.list hq;obtain⟨j,h1,h2,h3,h4,h5⟩:=XO he;obtain⟨w,ew,Y⟩:=r.get h2;have hl:=r.length;have hn:=jJ;have O:EP X pins σ Q w s:=⟨z,H,I,Y,q⟩;by_cases h0:0<=i
 ·have hj:i.toNat=j:=by
   rw [seqIndex_of h0 h5] at h1;exact uI h1
  exact item_listR pl.isList h0 (by omega) (by rw [hj];simpa using ew) O hs
 ·have hj:(i+(its.toArray.size:Int)).toNat=j:=by
   rw [seqIndex_neg (by omega) h4] at h1
   rw [ub,<-hl];exact uI h1
  exact subscriptTail_builtinR (x:=w) pl.isList.typeIs slot_list_getitem.lookup
   (wpAny_getItem_list_neg (Q:=fun r s'=>r=w/\EP X pins σ Q r s') pl.isList (by omega) (by rw [ub]<;>omega) (by omega) (by rw [hj];simpa using ew) ⟨rfl,O⟩) hs
theorem Qn:IxR X (rIxT X.K):=by
 intro value O pins s σ H x y v u Q I rx ry h hs;obtain⟨p,xs,i,z,rfl,rfl,hq,he,q⟩:=h;cases rx;obtain⟨t,rfl⟩:=ry;obtain⟨its,r,pl,hz⟩:=I.tuple hq;obtain⟨j,h1,h2,h3,h4,h5⟩:=XO he;obtain⟨w,ew,U⟩:=r.get h2;have hl:=r.length;have hn:=jJ;have Y:EP X pins σ Q w s:=⟨z,H,I,U,q⟩;exact subscriptTail_builtinR (x:=w) pl.typeIs slot_tuple_getitem.lookup
  (getItem_tuple (j:=j) (Q:=fun r s'=>r=w/\EP X pins σ Q r s') pl (by omega) (by omega) (by rw [ub,<-hl];exact h1) (by simpa using ew) ⟨rfl,Y⟩) hs
theorem J3:IxR X rIxS:=by
 intro value O pins s σ H x y v u Q I U Y h hs;obtain⟨z,i,c,rfl,rfl,hz,he,q⟩:=h;obtain⟨t,rfl⟩:=U;obtain⟨t',rfl⟩:=Y;obtain⟨j,h1,h2,h3,h4,h5⟩:=XO he;have hl:z.cps.toList.length=z.length:=by simp [Str.length]
 rw [hl] at h1 h4 h5;have hn:=jJ;exact tail_any (vq s z t) slot_str_getitem.lookup (getItem_str (c:=c) (by
  have e1:decide (i< -(2^63:Int))=false:=ud (by omega)
  have e2:decide (i≥2^63)=false:=ud (by omega)
  rw [e1,e2,Bool.or_false]) (by rw [h1];simpa using h2) ⟨.str ⟨#[c]⟩,H,I.tok _,⟨_,rfl⟩,q⟩) hs
theorem mapSeq_set (its:List Value)(n j:Nat)(u:Value):Obj.mapSeq (·.setIfInBounds j u) {cls:= .type "list",data:= .seq its.toArray n}={cls:= .type "list",data:= .seq (its.set j u).toArray n}:=by
 simp [Obj.mapSeq]
theorem Inv.lst {pins:List (Addr×Obj)}{σ:St}{H:Hp}{s:Shared}{p:Addr}{xs:List V}(I:Inv X pins σ H s)(h:H p=some (.lst xs)):
  ∃(its:List Value) (n:Nat),Vals xs its/\s.heap.get? p=some {cls:= .type "list",data:= .seq its.toArray n}/\xs.length<=sizeLine:=by
 obtain⟨z,its,n,r,e⟩:=I.hok p _ h;exact⟨its,n,r,e,z⟩
theorem Inv.lstUpd {pins:List (Addr×Obj)}{σ:St}{H:Hp}{s:Shared}{p:Addr}{xs ys:List V}{its its':List Value}{n O:Nat}{f:Obj->Obj}(I:Inv X pins σ H s)(h:H p=some (.lst xs))
  (Y:s.heap.get? p=some {cls:= .type "list",data:= .seq its.toArray n}) (U:f {cls:= .type "list",data:= .seq its.toArray n}={cls:= .type "list",data:= .seq its'.toArray O}) (r:Vals ys its') (hz:ys.length<=sizeLine) (t:Nat) (ht:0<t:=by((try dsimp only);first|assumption|exact Inv.tk (by assumption)|exact Nat.succ_pos _|exact Nat.lt_of_lt_of_le (Inv.tk (by assumption)) (by assumption)|exact Nat.add_pos_left (Inv.tk (by assumption)) _|omega)):
  Inv X pins σ (upd H p (.lst ys)) {s with heap:=s.heap.update p f,toks:=t}:=by
 have e:(s.heap.update p f).get? p=some {cls:= .type "list",data:= .seq its'.toArray O}:=by
  rw [Heap.get?_update_self f Y (by rw [U]<;>rfl),U]
 refine I.write (x:=p) (e:=p) (by rw [h];trivial) (.inl rfl) (fun b u hb q=>(uz _ _ (uY hb)).trans q) ⟨_,e⟩ ?_
 exact⟨hz,its',O,r,e⟩
def rSetL:V->V->V->Hp->(Hp->Prop)->Prop:=fun o i v H Q=>∃p xs k j,o= .ref p/\i= .int k/\H p=some (.lst xs)/\ixN xs.length k=some j/\Q (upd H p (.lst (xs.set j v)))
theorem set_list:PSet X rSetL:=by
 intro pins s σ H o i v ov iv u Q I ro ri rv h;obtain⟨p,xs,k,j,rfl,rfl,hp,hj,q⟩:=h;cases ro;obtain⟨t,rfl⟩:=ri;obtain⟨its,n,r,O,hz⟩:=I.lst hp;obtain⟨h1,h2,h3,h4⟩:=ixN_seq hj;have U:=r.length;have hn:=jJ;have I':Inv X pins σ (upd H p (.lst (xs.set j v))) {s with heap:=s.heap.update p (Obj.mapSeq (·.setIfInBounds j u))}:=
  I.lstUpd hp O (mapSeq_set its n j u) (r.set rv j) (by rw [List.length_set];exact hz) s.toks
 by_cases h0:0<=k
 ·have Y:k.toNat=j:=by
   rw [seqIndex_of h0 h4] at h1;exact uI h1
  exact PySem.W.ki_setAt O h0 (by omega) (by rw [ub,<-U];exact h4) (by rw [Y];exact⟨_,I',q⟩)
 ·have Y:(k+(its.toArray.size:Int)).toNat=j:=by
   rw [seqIndex_neg (by omega) h3] at h1
   rw [ub,<-U];exact uI h1
  exact PySem.W.ki_setBack O (by omega) (by rw [ub,<-U];exact h3) (by omega) (by rw [Y];exact⟨_,I',q⟩)
theorem slice_bounds (lo hi:Option Int)(n:Nat):(sliceBounds lo hi none n).1=((HT.sIx n 0 lo:Nat):Int)/\(sliceBounds lo hi none n).2.1=((HT.sIx n n hi:Nat):Int)/\(sliceBounds lo hi none n).2.2=1:=by
 refine⟨?_,?_,rfl⟩
 ·cases lo with
  |none=>simp [sliceBounds,HT.sIx]
  |some i=>
   simp only [sliceBounds,HT.sIx,Option.getD_none,show(1:Int)>0 by decide,Ug]
   by_cases h:i<0
   ·simp only [h,Ug]<;>omega
   ·simp only [h,vK]<;>omega
 ·cases hi with
  |none=>simp [sliceBounds,HT.sIx]
  |some i=>
   simp only [sliceBounds,HT.sIx,Option.getD_none,show(1:Int)>0 by decide,Ug]
   by_cases h:i<0
   ·simp only [h,Ug]<;>omega
   ·simp only [h,vK]<;>omega
theorem XG (its:List Value)(lo hi:Option Int):slicePick its.toArray lo hi none=((its.drop (HT.sIx its.length 0 lo)).take (HT.sIx its.length its.length hi-HT.sIx its.length 0 lo)).toArray:=by
 obtain⟨h1,h2,O⟩:=slice_bounds lo hi its.toArray.size;unfold slicePick;rw [h1,h2,O];simp only [sliceRange_one,pick_run,ub]<;>rfl
def rSlL (K:PySem.W.Frag):V->Option Int->Option Int->Hp->VK->Prop:=fun x lo hi H Q=>∃a xs,x= .ref a/\SqL K H a xs/\∀p,H p=none->Q (.ref p) (upd H p (.lst (cutV xs lo hi)))
theorem sl_list:SlR X (rSlL X.K):=by
 intro pins s σ H x v vl vu lo hi sl Q I Y hs pl pu h;obtain⟨a,xs,rfl,hx,q⟩:=h;cases Y;obtain⟨its,r,U,hz⟩:=I.list hx;have O:=r.length;refine⟨"list",_,slot_list_getitem.lookup,U.isList.typeIs,?_⟩;refine Ue U.isList hs pl pu .none (by simp) ?_ (by rw [ub]<;>omega)
 rw [XG,<-O];refine⟨.ref s.heap.objs.size,_,I.laid (t':=s.toks) (o:= .lst (cutV xs lo hi)) (fun b ob q=>u4 _ q) (Nat.le_refl _) ?_,rfl,q _ (I.hok.fresh (Nat.le_refl _))⟩;exact⟨uQ (cutV_length xs lo hi) hz,_,0,(r.drop (HT.sIx xs.length 0 lo)).take (HT.sIx xs.length xs.length hi-HT.sIx xs.length 0 lo),uh _ rfl⟩
def XQ:V->Bool
 | .non=>true
 | .bl _=>true
 | .int _=>true
 | .str _=>true
 |_=>false
def eqV:V->V->Bool
 | .non,.non=>true
 | .bl a,.bl b=>a==b
 | .bl a,.int b=>(if a then 1 else 0)==b
 | .int a,.bl b=>a==(if b then 1 else 0)
 | .int a,.int b=>a==b
 | .str a,.str b=>a==b
 |_,_=>false
theorem eqAt_V {A:Around}{s:Shared}{y x:V}{u v:Value}(U:RelV y u)(O:RelV x v)(fy:XQ y=true)(Y:XQ x=true):SeqAt.EqAt A s u v (eqV y x):=by
 cases y with
 |non=>
  cases U;cases x with
  |non=>cases O;exact SeqAt.EqAt.same _
  |bl b=>cases O;exact SeqAt.EqAt.none_bool b
  |int b=>obtain⟨t,rfl⟩:=O;exact SeqAt.EqAt.none_int b t
  |str b=>obtain⟨t,rfl⟩:=O;exact SeqAt.EqAt.none_str b t
  |_=>exact absurd (show false=true from Y) uc
 |bl a=>
  cases U;cases x with
  |non=>cases O;exact SeqAt.EqAt.bool_none a
  |bl b=>cases O;exact SeqAt.EqAt.bool_bool a b
  |int b=>obtain⟨t,rfl⟩:=O;exact SeqAt.EqAt.bool_int a b t
  |str b=>obtain⟨t,rfl⟩:=O;exact SeqAt.EqAt.bool_str a b t
  |_=>exact absurd (show false=true from Y) uc
 |int a=>
  obtain⟨t',rfl⟩:=U;cases x with
  |non=>cases O;exact SeqAt.EqAt.int_none a t'
  |bl b=>cases O;exact SeqAt.EqAt.int_bool a t' b
  |int b=>obtain⟨t,rfl⟩:=O;exact SeqAt.EqAt.int_int a t' b t
  |str b=>obtain⟨t,rfl⟩:=O;exact SeqAt.EqAt.int_str a t' b t
  |_=>exact absurd (show false=true from Y) uc
 |str a=>
  obtain⟨t',rfl⟩:=U;cases x with
  |non=>cases O;exact SeqAt.EqAt.str_none a t'
  |bl b=>cases O;exact SeqAt.EqAt.str_bool a t' b
  |int b=>obtain⟨t,rfl⟩:=O;exact SeqAt.EqAt.str_int a t' b t
  |str b=>obtain⟨t,rfl⟩:=O;exact SeqAt.EqAt.str_str a t' b t
  |_=>exact absurd (show false=true from Y) uc
 |_=>exact absurd (show false=true from fy) uc
def eqU (x:V)(u:Value):Bool:=match u with
 | .none=>eqV .non x
 | .bool b=>eqV (.bl b) x
 | .int i _=>eqV (.int i) x
 | .str z _=>eqV (.str z) x
 |_=>false
theorem eqU_of {x y:V}{u:Value}(r:RelV y u)(f:XQ y=true):eqU x u=eqV y x:=by
 cases y with
 |non=>cases r;rfl
 |bl b=>cases r;rfl
 |int i=>obtain⟨t,rfl⟩:=r;rfl
 |str z=>obtain⟨t,rfl⟩:=r;rfl
 |_=>exact absurd (show false=true from f) uc
theorem Jk {x:V}:∀{xs:List V}{us:List Value},Vals xs us->xs.all XQ=true->us.any (eqU x)=xs.any fun y=>eqV y x
 |_,_,.nil,_=>rfl
 |y::xs,u::us,.cons r t,f=>by
  rw [uM,uH] at f;rw [Uz,Uz,eqU_of r f.1,Jk t f.2]
theorem je {A:Around}{s:Shared}{x:V}{v:Value}(U:RelV x v)(Y:XQ x=true):∀{xs:List V}{us:List Value},Vals xs us->xs.all XQ=true->∀u∈us,SeqAt.EqAt A s u v (eqU x u)
 |_,_,.nil,_=>fun u O=>by cases O
 |y::xs,u::us,.cons r t,f=>fun u' O=>by
  rw [uM,uH] at f;rcases List.mem_cons.mp O with rfl|O
  ·rw [eqU_of r f.1];exact eqAt_V r U f.1 Y
  ·exact je U Y t f.2 u' O
def inV (x:V)(xs:List V):Bool:=xs.any fun y=>eqV y x
def rIn (K:PySem.W.Frag)(neg:Bool):R2:=fun x y H Q=>∃p xs,y= .ref p/\(SqL K H p xs∨SqT K H p xs)/\XQ x=true/\xs.all XQ=true/\Q (.bl (if neg then !inV x xs else inV x xs)) H
theorem yX:OpR X (compareOp .In) (rIn X.K false):=by
 intro pins s σ H x y v u Q I Y ry h;obtain⟨p,xs,rfl,O,fx,fs,q⟩:=h;cases ry;rcases O with O|O
 ·obtain⟨its,r,pl,hz⟩:=I.list O;refine SeqAt.in_listAt (eqU x) pl.isList (fun w U=>je Y fx r fs w (by simpa using U)) ⟨.bl _,H,I,rfl,?_⟩
  rw [show its.toArray.any (eqU x)=its.any (eqU x) by simp,Jk r fs]
  exact q
 ·obtain⟨its,r,pl,hz⟩:=I.tuple O;refine SeqAt.in_tupleAt (eqU x) pl (fun w U=>je Y fx r fs w (by simpa using U)) ⟨.bl _,H,I,rfl,?_⟩
  rw [show its.toArray.any (eqU x)=its.any (eqU x) by simp,Jk r fs]
  exact q
theorem op_notIn_seq:OpR X (compareOp .NotIn) (rIn X.K true):=by
 intro pins s σ H x y v u Q I Y ry h;obtain⟨p,xs,rfl,O,fx,fs,q⟩:=h;cases ry;rcases O with O|O
 ·obtain⟨its,r,pl,hz⟩:=I.list O;refine SeqAt.notIn_listAt (eqU x) pl.isList (fun w U=>je Y fx r fs w (by simpa using U)) ⟨.bl _,H,I,rfl,?_⟩
  rw [show its.toArray.any (eqU x)=its.any (eqU x) by simp,Jk r fs]
  exact q
 ·obtain⟨its,r,pl,hz⟩:=I.tuple O;refine SeqAt.notIn_tupleAt (eqU x) pl (fun w U=>je Y fx r fs w (by simpa using U)) ⟨.bl _,H,I,rfl,?_⟩
  rw [show its.toArray.any (eqU x)=its.any (eqU x) by simp,Jk r fs]
  exact q
theorem op_notIn_str:OpR X (compareOp .NotIn) (fun x y H Q=>∃i j,x= .str i/\y= .str j/\Q (.bl (!(!(Builtin.Str.occurrences j i 0 j.length 1).isEmpty))) H):=by
 intro pins s σ H x y v u Q I O U h;obtain⟨i,j,rfl,rfl,q⟩:=h;obtain⟨t,rfl⟩:=O;obtain⟨t',rfl⟩:=U;exact notIn_str ⟨.bl _,H,I,rfl,q⟩
theorem qI:ye X (.builtin "len") (fun xs H Q=>∃p ys,xs= [.ref p]/\(SqL X.K H p ys∨SqT X.K H p ys)/\Q (.int ys.length) H):=by
 intro pins s σ H xs us Q I r h;obtain⟨p,ys,rfl,U,q⟩:=h;obtain⟨u,rfl,rx⟩:=yR r;cases rx;have hn:=jJ;rcases U with U|U
 ·obtain⟨its,Y,pl,hz⟩:=I.list U;have O:=Y.length;exact Calls.call_len_list pl.isList (by simp only [ub]<;>omega) ⟨.int ys.length,H,I.tok _,⟨s.toks+1,by rw [ub,O]⟩,q⟩
 ·obtain⟨its,Y,pl,hz⟩:=I.tuple U;have O:=Y.length;exact len_tuple pl (by simp only [ub]<;>omega) ⟨.int ys.length,H,I.tok _,⟨s.toks+1,by rw [ub,O]⟩,q⟩
theorem QT:ye X (.builtin "len") (fun xs H Q=>∃z,xs= [.str z]/\z.length<=sizeLine/\Q (.int z.length) H):=by
 intro pins s σ H xs us Q I r h;obtain⟨z,rfl,O,q⟩:=h;obtain⟨u,rfl,t,rfl⟩:=yR r;have hn:=jJ;exact len_str (by omega) ⟨.int z.length,H,I.tok _,⟨_,rfl⟩,q⟩
theorem qX:ye X (.type "tuple") (fun xs H Q=>∃p ys,xs= [.ref p]/\((SqL X.K H p ys/\∀l,H l=none->Q (.ref l) (upd H l (.tup ys)))∨(SqT X.K H p ys/\Q (.ref p) H))):=by
 intro pins s σ H xs us Q I r h;obtain⟨p,ys,rfl,h⟩:=h;obtain⟨u,rfl,rx⟩:=yR r;cases rx;rcases h with⟨O,q⟩|⟨O,q⟩
 ·obtain⟨its,U,pl,Y⟩:=I.list O;have aa:=U.length;refine call_tuple_list pl.isList (fun h' kp=> ?_) (by simp only [ub]<;>omega)
  have I1:Inv X pins σ H {s with heap:=h'}:=I.kept (t':=s.toks) kp
  have I2:Inv X pins σ (upd H h'.objs.size (.tup ys)) {s with heap:=h'.push {cls:= .type "tuple",data:= .seq its.toArray}}:=
   I1.laid (t':=s.toks) (fun b o e=>u4 _ e) (Nat.le_refl _) (show qU X.prog X.w _ _ _ (.tup ys) from⟨Y,its,U,IsTup.new _ _⟩)
  exact⟨.ref h'.objs.size,_,I2,rfl,q _ (I1.hok.fresh (Nat.le_refl _))⟩
 ·obtain⟨its,U,pl,Y⟩:=I.tuple O;exact call_tuple_same pl ⟨.ref p,H,I,rfl,q⟩
def tyV (K:PySem.W.Frag)(T:String)(x:V)(H:Hp):Prop:=match x with
 | .str _=>T="str"
 | .int _=>T="int"
 | .ref p=>(T="list"/\∃xs,SqL K H p xs)∨(T="tuple"/\∃o,K.lookup p=some o/\o.cls= .type "tuple"/\o.dict=none)∨
   (T="dict"/\((∃kvs,H p=some (.dK kvs))∨∃kvs,H p=some (.dT kvs)))∨(T="set"/\∃S n,H p=some (.set S n))
 |_=>False
theorem tyV_is {pins:List (Addr×Obj)}{σ:St}{H:Hp}{s:Shared}{T:String}{x:V}{v:Value}(I:Inv X pins σ H s)(r:RelV x v)(ty:tyV X.K T x H):
  s.TypeIs v T/\∀a,v= .ref a->∃ob,s.heap.get? a=some ob/\ob.dict=none:=by
 cases x with
 |str z=>
  obtain⟨t,rfl⟩:=r;cases(show T="str" from ty)
  exact⟨vq s z t,fun _ e=>nomatch e⟩
 |int i=>
  obtain⟨t,rfl⟩:=r;cases(show T="int" from ty)
  exact⟨typeIs_int s i t,fun _ e=>nomatch e⟩
 |ref p=>
  cases r;rcases ty with⟨rfl,xs,Y⟩|⟨rfl,o,O,hc,hd⟩|⟨rfl,O⟩|⟨rfl,S,n,O⟩
  ·obtain⟨its,_,pl,_⟩:=I.list Y;refine⟨pl.isList.typeIs,fun a e=> ?_⟩;cases e;obtain⟨o,n,e,c,hd,_⟩:=pl;exact⟨o,e,hd⟩
  ·refine⟨⟨o,I.kIn p o O,hc⟩,fun a e=> ?_⟩;cases e;exact⟨o,I.kIn _ o O,hd⟩
  ·have z:∃o,s.heap.get? p=some o/\o.ExactDict:=by
    rcases O with⟨kvs,O⟩|⟨kvs,O⟩
    ·obtain⟨_,_,_,_,o,_,_,e,ex,_⟩:=I.hok p _ O;exact⟨o,e,ex⟩
    ·obtain⟨_,_,_,_,o,_,_,e,ex,_⟩:=I.hok p _ O;exact⟨o,e,ex⟩
   obtain⟨o,e,ex⟩:=z;refine⟨⟨o,e,ex.1⟩,fun a U=> ?_⟩;cases U;exact⟨o,e,ex.2.1⟩
  ·obtain⟨o,_,_,_,e,ex,_⟩:=I.hok p _ O;refine⟨⟨o,e,ex.1⟩,fun a U=> ?_⟩;cases U;exact⟨o,e,ex.2.1⟩
 |_=>exact False.elim ty
def tBM0 (K:PySem.W.Frag)(T:String)(r:V->List V->Hp->VK->Prop)(to:TE):TE:=fun σ H Q=>to σ H fun x H1=>tyV K T x H1/\r x [] H1 Q
def tBM (K:PySem.W.Frag)(T:String)(r:V->List V->Hp->VK->Prop)(to:TE)(t:TA):TE:=fun σ H Q=>to σ H fun x H1=>tyV K T x H1/\t σ H1 fun xs H2=>r x xs H2 Q
variable {o e:Expr}{es:List Expr}{to:TE}{t:TA}{name:Str}{apos cpos:Pos}{T id:String}{r:V->List V->Hp->VK->Prop}
theorem pe_bm0 (pa:PlainAttrs T)(slot:Slot T name id)(Y:typeOf (.builtin id)=pure (.type "method_descriptor"))(hm:MtR X id r)(ho:PE X o to)
  (O:attributeBase o name X.env (eval o X.env)=eval o X.env:=by rfl) (U:(apos.endLine==cpos.line)=true:=by rfl):PE X (.Call (.Attribute o name apos) [] [] cpos) (tBM0 X.K T r to):=by
 intro pins s σ H Q I h;refine wpAny_Call_method0_late O U (thn (ho pins s σ H _ I h) fun v s1 ⟨x,H1,I1,r1,ty,q1⟩=> ?_);obtain⟨h1,h2⟩:=tyV_is I1 r1 ty;exact⟨T,id,pa,slot,Y,h1,h2,vW rfl (PySem.evalArgs_none (hm pins s1 σ H1 x [] v [] Q I1 r1 .nil q1))⟩
theorem QY (pa:PlainAttrs T)(slot:Slot T name id)(ac:typeOf (.builtin id)=pure (.type "method_descriptor"))(hm:MtR X id r)(ho:PE X o to)(ha:PA X (e::es) t)
  (U:attributeBase o name X.env (eval o X.env)=eval o X.env:=by rfl)
  (aa:((backTo cpos (starEach (e::es) X.env)).all (fun x=> !x.1)&&(backToKw cpos (keywordEach [] X.env)).all (fun x=>x.1.isSome)
   &&decide ((e::es).length+([]:List Keyword).length+(if([]:List Keyword).isEmpty then 0 else 1)<30))=true:=by rfl)
  (Y:(apos.endLine==cpos.line)=true:=by rfl) (hs:starEach (e::es) X.env=(false,eval e X.env)::starEach es X.env:=by rfl) (O:(backTo cpos (starEach es X.env)).any (·.1)=false:=by rfl):
  PE X (.Call (.Attribute o name apos) (e::es) [] cpos) (tBM X.K T r to t):=by
 intro pins s σ H Q I h;refine wpAny_Call_method_late U aa Y rfl (thn (ho pins s σ H _ I h) fun v s1 ⟨x,H1,I1,r1,ty,q1⟩=> ?_);obtain⟨h1,h2⟩:=tyV_is I1 r1 ty;refine⟨T,id,pa,slot,ac,h1,h2,?_⟩;have hA:=ha cpos pins s1 σ H1 _ I1 q1;rw [hs] at hA⊢;refine vW (by show(false||(backTo cpos (starEach es X.env)).any (·.1))=false;rw [O]<;>rfl) (Calls.evalArgs_plain ?_)
 exact thn hA fun us s2 ⟨vs,H2,I2,r2,q2⟩=>hm pins s2 σ H2 x vs v us Q I2 r1 r2 q2
end
def MtM (X:Cx)(id:String)(r:V->List V->Hp->VK->Prop):Prop:=
 ∀(pins:List (Addr×Obj)) (s:Shared) (σ:St) (H:Hp) (x:V) (xs:List V) (v:Value) (us:List Value) (Q:VK),Inv X pins σ H s->RelV x v->Vals xs us->r x xs H Q->
  wpAny (model X.prog X.w) X.A (call (.builtin id) (v::us)) (EP X pins σ Q) X.xe s
theorem Vals.one:∀{x:V}{us:List Value},Vals [x] us->∃u,us= [u]/\RelV x u
 |_,_,.cons r .nil=>⟨_,rfl,r⟩
theorem Vals.zero:∀{us:List Value},Vals [] us->us= []
 |_,.nil=>rfl
theorem Vals.dropLast {xs:List V}{us:List Value}(h:Vals xs us):Vals xs.dropLast us.dropLast:=by
 induction h with
 |nil=>exact .nil
 |cons r t O=>
  cases t with
  |nil=>exact .nil
  |cons q t'=>exact .cons r O
theorem erase_last {α:Type}(l:List α):l.eraseIdx (l.length-1)=l.dropLast:=by
 induction l with
 |nil=>rfl
 |cons a r O=>
  cases r with
  |nil=>rfl
  |cons b r=>
   have e:(a::b::r).length-1=((b::r).length-1)+1:=by
    have h1:(a::b::r).length=r.length+2:=rfl;have h2:(b::r).length=r.length+1:=rfl;omega
   rw [e,List.eraseIdx_cons_succ,O]
   all_goals rfl
section
variable {X:Cx}{pins:List (Addr×Obj)}{σ:St}{H:Hp}{s:Shared}{l b:Addr}{xs ys zs:List V}
theorem Inv.lset {its its':List Value}{n:Nat}{f:Array Value->Array Value}{t':Nat}(I:Inv X pins σ H s)(O:H l=some (.lst xs))
  (e:s.heap.get? l=some {cls:= .type "list",data:= .seq its.toArray n}) (U:f its.toArray=its'.toArray) (Y:Vals ys its') (hz:ys.length<=sizeLine) (ht:0<t':=by((try dsimp only);first|assumption|exact Inv.tk (by assumption)|exact Nat.succ_pos _|exact Nat.lt_of_lt_of_le (Inv.tk (by assumption)) (by assumption)|exact Nat.add_pos_left (Inv.tk (by assumption)) _|omega)):
  Inv X pins σ (upd H l (.lst ys)) {s with heap:=s.heap.update l (Obj.mapSeq f),toks:=t'}:=by
 have q:=PySem.IsL.update e f;rw [U] at q;refine I.write (x:=l) (e:=l) (by rw [O];exact trivial) (.inl rfl) (fun b' u hb hu=>(uz s.heap (Obj.mapSeq f) (uY hb)).trans hu) ⟨_,q⟩ ?_
 exact⟨hz,its',_,Y,q⟩
theorem Inv.lnew {its:List Value}{t':Nat}(I:Inv X pins σ H s)(O:Vals ys its)(U:ys.length<=sizeLine)(Y:0<t':=by((try dsimp only);first|assumption|exact Inv.tk (by assumption)|exact Nat.succ_pos _|exact Nat.lt_of_lt_of_le (Inv.tk (by assumption)) (by assumption)|exact Nat.add_pos_left (Inv.tk (by assumption)) _|omega)):
  Inv X pins σ (upd H s.heap.objs.size (.lst ys)) {s with heap:=s.heap.push {cls:= .type "list",data:= .seq its.toArray},toks:=t'}:=
 I.laid (fun _ _ q=>u4 _ q) (Nat.le_refl _) ⟨U,its,0,O,uh _ rfl⟩
theorem Inv.fresh (I:Inv X pins σ H s):H s.heap.objs.size=none:=I.hok.fresh (Nat.le_refl _)
theorem Inv.lstM (I:Inv X pins σ H s)(O:H l=some (.lst xs)):xs.length<=sizeLine/\∃(its:List Value) (n:Nat),Vals xs its/\xs.length=its.length/\s.heap.get? l=some {cls:= .type "list",data:= .seq its.toArray n}:=by
 obtain⟨z,its,n,r,e⟩:=I.hok l _ O;exact⟨z,its,n,r,r.length,e⟩
theorem notLongL {n:Nat}(h:n<=sizeLine):Builtin.List.listTooLong n=false:=by
 unfold Builtin.List.listTooLong;exact ud (by omega)
end
section
variable {X:Cx}
def rAppend:V->List V->Hp->VK->Prop:=fun x vs H Q=>∃l xs y,x= .ref l/\vs= [y]/\H l=some (.lst xs)/\xs.length<sizeLine/\Q .non (upd H l (.lst (xs++ [y])))
theorem Q3:MtM X "list.append" rAppend:=by
 intro pins s σ H x vs v us Q I U Y h;obtain⟨l,xs,y,rfl,rfl,O,hz,q⟩:=h;cases U;obtain⟨u,rfl,ru⟩:=Y.one;obtain⟨z,its,n,r,hl,e⟩:=I.lstM O;refine vB F.slot_list_append ⟨_,e,rfl⟩ F.entry_list_append (F.args_list_append_2 _ _) (PySem.list_append l its.toArray n u (by rw [ub];omega)) ⟨e,?_⟩
 refine⟨.non,_,I.lset (its':=its++ [u]) O e (by simp) (r.append (.cons ru .nil)) ?_,rfl,q⟩
 rw [uf,uV];omega
def rExtend:V->List V->Hp->VK->Prop:=fun x vs H Q=>∃l b xs zs,x= .ref l/\vs= [.ref b]/\H l=some (.lst xs)/\H b=some (.lst zs)/\xs.length+zs.length<=sizeLine/\Q .non (upd H l (.lst (xs++zs)))
theorem mt_extend:MtM X "list.extend" rExtend:=by
 intro pins s σ H x vs v us Q I rx rv h;obtain⟨l,b,xs,zs,rfl,rfl,Y,hB,hz,q⟩:=h;cases rx;obtain⟨u,rfl,ru⟩:=rv.one;cases ru;obtain⟨z,its,n,r,hl,e⟩:=I.lstM Y;obtain⟨z2,O,n2,r2,aa,e2⟩:=I.lstM hB;have hsz:its.toArray.size+O.toArray.size<=sizeLine:=by rw [ub,ub];omega
 have U:¬(!its.toArray.isEmpty&&Builtin.List.listTooLong (its.toArray.size+O.toArray.size))=true:=by
  rw [notLongL hsz,Bool.and_false];exact uc
 refine vB F.slot_list_extend ⟨_,e,rfl⟩ F.entry_list_extend (F.args_list_extend_2 _ _)
  (AutoSeq1.list_extend_list_list_0 l its.toArray n b O.toArray n2 U (by rw [ub];omega) (by omega)) ⟨e,e2,?_⟩
 refine⟨.non,_,I.lset (its':=its++O) Y e (by simp) (r.append r2) ?_,rfl,q⟩
 rw [uf];omega
def rPop:V->List V->Hp->VK->Prop:=fun x vs H Q=>∃l xs y,x= .ref l/\vs= []/\H l=some (.lst xs)/\xs[xs.length-1]? =some y/\Q y (upd H l (.lst xs.dropLast))
theorem mt_pop:MtM X "list.pop" rPop:=by
 intro pins s σ H x vs v us Q I rx rv h;obtain⟨l,xs,y,rfl,rfl,Y,hy,q⟩:=h;cases rx;have O:=rv.zero;subst O;obtain⟨z,its,n,r,hl,e⟩:=I.lstM Y;obtain⟨u,hu,ru⟩:=r.get hy;have U:its.toArray[its.toArray.size-1]? =some u:=by
  show its.toArray[its.length-1]? =some u;rw [<-Array.getElem?_toList,<-hl];exact hu
 refine vB F.slot_list_pop ⟨_,e,rfl⟩ F.entry_list_pop (F.args_list_pop_1 _) (MeetsSeq.list_pop_last l its.toArray n u U (by rw [ub];omega)) ⟨e,?_⟩
 refine⟨y,_,I.lset (its':=its.dropLast) Y e ?_ r.dropLast ?_,ru,q⟩
 ·show its.toArray.eraseIdxIfInBounds (its.toArray.size-1)=its.dropLast.toArray;rw [ub,List.eraseIdxIfInBounds_toArray,erase_last]
 ·rw [List.length_dropLast];omega
def rCat:R2:=fun x y H Q=>∃l b xs zs,x= .ref l/\y= .ref b/\H l=some (.lst xs)/\H b=some (.lst zs)/\xs.length+zs.length<=sizeLine/\∀p,H p=none->Q (.ref p) (upd H p (.lst (xs++zs)))
theorem op_cat:OpR X (binaryOp .Add) rCat:=by
 intro pins s σ H x y v u Q I U Y h;obtain⟨l,b,xs,zs,rfl,rfl,hH,hB,hz,q⟩:=h;cases U;cases Y;obtain⟨z,its,n,r,hl,e⟩:=I.lstM hH;obtain⟨z2,O,n2,r2,aa,e2⟩:=I.lstM hB;refine PySem.P.add_list e e2 ?_ (by rw [ub,ub];omega)
 have ea:its.toArray++O.toArray=(its++O).toArray:=by simp
 rw [ea];exact⟨.ref _,_,I.lnew (t':=s.toks) (r.append r2) (by rw [uf];omega),rfl,q _ I.fresh⟩
end
section
variable {prog:Program}{w:World}{A:Around}{E:Value->Shared->Prop}{s:Shared}
set_option maxRecDepth 100000 in
end
section
variable {κ:Type}[DecidableEq κ]
def valV (kvs:List (κ×V))(k:κ):Option V:=(kvs.find? fun kv=>decide (kv.1=k)).map (·.2)
def putK (kvs:List (κ×V))(k:κ)(v:V):List (κ×V):=
 if(kvs.any fun kv=>decide (kv.1=k))=true then kvs.map (fun kv=>if kv.1=k then(kv.1,v) else kv) else kvs++ [(k,v)]
theorem jX {p:κ×V}{r:List (κ×V)}{k:κ}(e:p.1=k):valV (p::r) k=some p.2:=by simp [valV,uW,e]
theorem Y6 {p:κ×V}{r:List (κ×V)}{k:κ}(e:¬p.1=k):valV (p::r) k=valV r k:=by simp [valV,uW,e]
theorem Xc (k:κ):∀kvs:List (κ×V),(kvs.any fun kv=>decide (kv.1=k))=(valV kvs k).isSome
 | []=>rfl
 |p::r=>by
  rw [Uz];by_cases e:p.1=k
  ·simp only [jX e,u8 e,Bool.true_or,Option.isSome_some]
  ·rw [Y6 e,ud e,Bool.false_or];exact Xc k r
theorem JL (kvs:List (κ×V))(k:κ)(v:V):(putK kvs k v).length<=kvs.length+1:=by
 unfold putK;split
 ·rw [u3];omega
 ·rw [uf,ul,List.length_nil];omega
theorem putK_new {kvs:List (κ×V)}{k:κ}(v:V)(h:valV kvs k=none):putK kvs k v=kvs++ [(k,v)]:=by
 unfold putK;rw [Xc,h];exact if_neg (by decide)
theorem RelO.isSome_eq {o:Option V}{u:Option Value}(r:RelO o u):o.isSome=u.isSome:=by
 cases o with
 |none=>cases u with
  |none=>rfl
  |some _=>exact(show False from r).elim
 |some _=>cases u with
  |none=>exact(show False from r).elim
  |some _=>rfl
theorem KV.val {kvs:List (κ×V)}{vs:List (κ×Value)}(r:KV kvs vs)(k:κ):RelO (valV kvs k) (valueAt vs k):=by
 unfold KV at r
 induction r with
 |nil=>exact True.intro
 | @cons p q ps qs h t ih=>
  obtain⟨h1,h2⟩:=h;by_cases e:p.1=k
  ·have O:q.1=k:=h1.symm.trans e;have b:valueAt (q::qs) k=some q.2:=by simp [valueAt,uW,O]
   rw [jX e,b];exact h2
  ·have O:¬q.1=k:=fun z=>e (h1.trans z);have b:valueAt (q::qs) k=valueAt qs k:=by simp [valueAt,uW,O]
   rw [Y6 e,b];exact ih
theorem KV.any {kvs:List (κ×V)}{vs:List (κ×Value)}(r:KV kvs vs)(k:κ):(kvs.any fun kv=>decide (kv.1=k))=vs.any fun kv=>decide (kv.1=k):=by
 unfold KV at r
 induction r with
 |nil=>rfl
 |cons h t O=>rw [Uz,Uz,O,h.1]
theorem KV.repl {kvs:List (κ×V)}{vs:List (κ×Value)}(r:KV kvs vs)(k:κ){y:V}{u:Value}(O:RelV y u):
  KV (kvs.map fun kv=>if kv.1=k then(kv.1,y) else kv) (vs.map fun kv=>if kv.1=k then(kv.1,u) else kv):=by
 unfold KV at r⊢
 induction r with
 |nil=>exact .nil
 | @cons p q ps qs h t ih=>
  rw [ua,ua];refine .cons ?_ ih;obtain⟨h1,h2⟩:=h;by_cases e:p.1=k
  ·rw [if_pos e,if_pos (h1.symm.trans e)];exact⟨h1,O⟩
  ·rw [if_neg e,if_neg (fun z=>e (h1.trans z))];exact⟨h1,h2⟩
theorem KV.put {kvs:List (κ×V)}{vs:List (κ×Value)}(r:KV kvs vs)(k:κ){y:V}{u:Value}(O:RelV y u):KV (putK kvs k y) (stored vs k u):=by
 unfold putK stored;rw [r.any k];by_cases e:(vs.any fun kv=>decide (kv.1=k))=true
 ·rw [if_pos e,if_pos e];exact r.repl k O
 ·rw [if_neg e,if_neg e];exact Paired.snoc r ⟨rfl,O⟩
theorem KV.keys {kvs:List (κ×V)}{vs:List (κ×Value)}(r:KV kvs vs):kvs.map (·.1)=vs.map (·.1):=by
 unfold KV at r
 induction r with
 |nil=>rfl
 |cons h t O=>rw [ua,ua,O,h.1]
theorem KV.length {kvs:List (κ×V)}{vs:List (κ×Value)}(r:KV kvs vs):kvs.length=vs.length:=Paired.length r
end
theorem kV_is {P:Program}{w:World}{k:Key}{u:Value}(r:RelV (kV k) u):(qL P w).is k u=true:=by
 cases k with
 |inl i=>obtain⟨t,e⟩:=(show∃t,u=Value.int i t from r);subst e;exact mixKind_int P w i t
 |inr x=>obtain⟨t,e⟩:=(show∃t,u=Value.str x t from r);subst e;exact JY P w x t
theorem items_are {P:Program}{w:World}:∀{ks:List Key}{us:List Value},Vals (ks.map kV) us->ItemsAre (qL P w) ks us
 | [],_,r=>by rw [vP] at r;cases r;exact .nil
 |k::ks,_,r=>by
  rw [ua] at r;cases r with
  |cons h t=>exact .cons (kV_is h) (items_are t)
abbrev KT (H:Hp):List (List Key×V)->List (List Key×Addr×Value)->Prop:=Paired fun p q=>p.1=q.1/\H q.2.1=some (.tup (p.1.map kV))/\RelV p.2 q.2.2
theorem KT.val {H:Hp}{kvs:List (List Key×V)}{xs:List (List Key×Addr×Value)}(r:KT H kvs xs)(k:List Key):RelO (valV kvs k) ((atKey xs k).map (·.2)):=by
 induction r with
 |nil=>exact True.intro
 | @cons p q ps qs h t ih=>
  obtain⟨h1,_,h2⟩:=h;by_cases e:p.1=k
  ·have O:q.1=k:=h1.symm.trans e;have b:atKey (q::qs) k=some q.2:=by simp [atKey,uW,O]
   rw [jX e,b];exact h2
  ·have O:¬q.1=k:=fun z=>e (h1.trans z);have b:atKey (q::qs) k=atKey qs k:=by simp [atKey,uW,O]
   rw [Y6 e,b];exact ih
theorem KT.repl {H:Hp}{kvs:List (List Key×V)}{xs:List (List Key×Addr×Value)}(r:KT H kvs xs)(k:List Key){y:V}{u:Value}(O:RelV y u):
  KT H (kvs.map fun kv=>if kv.1=k then(kv.1,y) else kv) (xs.map (putAt k u)):=by
 induction r with
 |nil=>exact .nil
 | @cons p q ps qs h t ih=>
  rw [ua,ua];refine .cons ?_ ih;obtain⟨h1,h2,U⟩:=h;unfold putAt;by_cases e:p.1=k
  ·rw [if_pos e,if_pos (h1.symm.trans e)];exact⟨h1,h2,O⟩
  ·rw [if_neg e,if_neg (fun z=>e (h1.trans z))];exact⟨h1,h2,U⟩
theorem KT.put {H:Hp}{kvs:List (List Key×V)}{xs:List (List Key×Addr×Value)}(r:KT H kvs xs)(k:List Key){b:Addr}{y:V}{u:Value}(U:H b=some (.tup (k.map kV)))(O:RelV y u):
  KT H (putK kvs k y) (storedH xs k b u):=by
 have e:(kvs.any fun kv=>decide (kv.1=k))=(atKey xs k).isSome:=by
  rw [Xc,(r.val k).isSome_eq,Option.isSome_map]
 unfold putK storedH;rw [e];by_cases q:(atKey xs k).isSome=true
 ·rw [if_pos q,if_pos q];exact r.repl k O
 ·rw [if_neg q,if_neg q];exact Paired.snoc r ⟨rfl,U,O⟩
theorem KT.keeps {H H':Hp}{kvs:List (List Key×V)}{xs:List (List Key×Addr×Value)}(r:KT H kvs xs)(O:∀b ys,H b=some (.tup ys)->H' b=some (.tup ys)):KT H' kvs xs:=
 Paired.mapP r fun _ _ z=>⟨z.1,O _ _ z.2.1,z.2.2⟩
section
variable {P:Program}{w:World}{H:Hp}{h:Heap}{a:Addr}
theorem rd_of {u:HO}(ok:HOk P w H h)(e:Rd H a u):qU P w H h a u:=e.ok ok
theorem Xe {kvs:List (Key×V)}(ok:HOk P w H h)(e:Rd H a (.dK kvs)):kvs.length<=sizeLine/\(a==sysModules)=false/\∃vs,KV kvs vs/\h.DictOf (qL P w) a vs:=
 show qU P w H h a (.dK kvs) from rd_of ok e
theorem dk_of {kvs:List (Key×V)}(ok:HOk P w H h)(e:H a=some (.dK kvs)):kvs.length<=sizeLine/\(a==sysModules)=false/\∃vs,KV kvs vs/\h.DictOf (qL P w) a vs:=Xe ok (.inl e)
theorem key_of {ks:List Key}(ok:HOk P w H h)(e:H a=some (.tup (ks.map kV))):(tupleKind (qL P w)).is h ks a:=by
 obtain⟨_,its,r,o,h1,h2,n,O⟩:=(show qU P w H h a (.tup (ks.map kV)) from ok a _ e)
 exact⟨o,its.toArray,n,h1,h2,O,by simpa using items_are r⟩
theorem dt_rd {kvs:List (List Key×V)}(ok:HOk P w H h)(e:Rd H a (.dT kvs)):kvs.length<=sizeLine/\(a==sysModules)=false/\
  ∃xs,KT H kvs xs/\h.DictOfH (tupleKind (qL P w)) a xs:=by
 obtain⟨z,y,xs,r,o,es,ep,h1,h2,U,h4,Y⟩:=(show qU P w H h a (.dT kvs) from rd_of ok e)
 refine⟨z,y,xs,r,o,es,ep,h1,h2,U,h4,fun x O=> ?_,Y⟩;have all:∀{l:List (List Key×V)}{m:List (List Key×Addr×Value)},KT H l m->∀x∈m,(tupleKind (qL P w)).is h x.1 x.2.1:=by
  intro l m q
  induction q with
  |nil=>intro x O;exact nomatch O
  | @cons p q ps qs hq t ih=>
   intro x O;rcases List.mem_cons.mp O with e|O
   ·subst e;exact key_of ok (by rw [<-hq.1];exact hq.2.1)
   ·exact ih x O
 exact all r x O
theorem dt_of {kvs:List (List Key×V)}(ok:HOk P w H h)(e:H a=some (.dT kvs)):kvs.length<=sizeLine/\(a==sysModules)=false/\
  ∃xs,KT H kvs xs/\h.DictOfH (tupleKind (qL P w)) a xs:=dt_rd ok (.inl e)
end
def DGet (H:Hp)(a:Addr)(y:V)(r:Option V):Prop:=
 (∃kvs k,Rd H a (.dK kvs)/\y=kV k/\r=valV kvs k)∨∃kvs k b,Rd H a (.dT kvs)/\y= .ref b/\H b=some (.tup (k.map kV))/\r=valV kvs k
def DPut (H:Hp)(a:Addr)(y v:V)(H':Hp):Prop:=
 (∃kvs k,H a=some (.dK kvs)/\y=kV k/\kvs.length<sizeLine/\H'=upd H a (.dK (putK kvs k v)))∨
 ∃kvs k b,H a=some (.dT kvs)/\y= .ref b/\H b=some (.tup (k.map kV))/\kvs.length<sizeLine/\H'=upd H a (.dT (putK kvs k v))
theorem DGet.k {H:Hp}{a:Addr}{kvs:List (Key×V)}{k:Key}(e:H a=some (.dK kvs)):DGet H a (kV k) (valV kvs k):= .inl ⟨kvs,k,.inl e,rfl,rfl⟩
theorem DPut.k {H:Hp}{a:Addr}{kvs:List (Key×V)}{k:Key}{v:V}(e:H a=some (.dK kvs))(O:kvs.length<sizeLine):DPut H a (kV k) v (upd H a (.dK (putK kvs k v))):= .inl ⟨kvs,k,e,rfl,O,rfl⟩
section
variable {X:Cx}{pins:List (Addr×Obj)}{σ:St}{H:Hp}{s:Shared}{a:Addr}{y v:V}{u r:Value}{o:Option V}{A:Around}{E:Value->Shared->Prop}
theorem Inv.big (I:Inv X pins σ H s):sysModules<s.heap.objs.size:=by
 have h:mainGlobals<s.heap.objs.size:=(I.mod.glob.keeps I.bk).lt;exact Nat.lt_trans (by decide) h
theorem d_getItem {Q:Value->Shared->Prop}(hu:A.units+1<cLine)(I:Inv X pins σ H s)(g:DGet H a y (some v))(ry:RelV y u)(h:∀Y s',Inv X pins σ H s'->RelV v Y->Q Y s'):
  wpAny (model X.prog X.w) A (getItem (.ref a) u) Q E s:=by
 rcases g with⟨kvs,k,e,ey,l⟩|⟨kvs,k,b,e,ey,eb,l⟩
 ·subst ey;obtain⟨z,hd,vs,O,dd⟩:=Xe I.hok e;obtain⟨Y,hw,U⟩:=RelO.some_of (v:=v) (o:=valueAt vs k) (by rw [l];exact O.val k)
  exact wpAny_getItem_of (kV_is ry) dd.mapOf hw (h Y _ (I.tok _) U)
 ·subst ey;cases(show u=Value.ref b from ry)
  obtain⟨z,hd,xs,O,dd⟩:=dt_rd I.hok e;obtain⟨Y,hw,U⟩:=RelO.some_of (v:=v) (o:=(atKey xs k).map (·.2)) (by rw [l];exact O.val k)
  obtain⟨p,hp,aa⟩:=Option.map_eq_some_iff.mp hw;refine wpAny_getItem_heap (tupleKind_room_in1 hu) (key_of I.hok eb) dd hp ?_;rw [aa];exact h Y _ (I.tok _) U
theorem d_in {Q:Value->Shared->Prop}(hu:A.units+1<cLine)(I:Inv X pins σ H s)(g:DGet H a y o)(Y:RelV y u)(h:∀s',Inv X pins σ H s'->Q (.bool o.isSome) s'):
  wpAny (model X.prog X.w) A (compareOp .In u (.ref a)) Q E s:=by
 rcases g with⟨kvs,k,e,U,l⟩|⟨kvs,k,b,e,U,eb,l⟩
 ·subst U;obtain⟨z,hd,vs,O,dd⟩:=Xe I.hok e;refine wpAny_in_of (kV_is Y) hd dd.mapOf ?_;rw [<-(O.val k).isSome_eq,<-l];exact h _ (I.tok _)
 ·subst U;cases(show u=Value.ref b from Y)
  obtain⟨z,hd,xs,O,dd⟩:=dt_rd I.hok e;refine wpAny_in_heap (tupleKind_room_in1 hu) (key_of I.hok eb) hd dd ?_;have q:=(O.val k).isSome_eq;rw [Option.isSome_map] at q;rw [<-q,<-l];exact h _ (I.tok _)
theorem d_write {h':Heap}{t':Nat}{ob:HO}(I:Inv X pins σ H s)(O:Mut (H a))(U:Heap.SameBut a s.heap h')(Y:∃q,h'.get? a=some q)(new:qU X.prog X.w (upd H a ob) h' a ob)(ht:0<t':=by((try dsimp only);first|assumption|exact Inv.tk (by assumption)|exact Nat.succ_pos _|exact Nat.lt_of_lt_of_le (Inv.tk (by assumption)) (by assumption)|exact Nat.add_pos_left (Inv.tk (by assumption)) _|omega)):
  Inv X pins σ (upd H a ob) {s with heap:=h',toks:=t'}:=
 I.write (x:=a) (e:=a) O (.inl rfl) (fun b q hb z=>(U.2 b hb).trans z) Y new
theorem dk_new {P:Program}{w:World}{H':Hp}{h':Heap}{kvs:List (Key×V)}{vs:List (Key×Value)}(z:kvs.length<=sizeLine)(hd:(a==sysModules)=false)(O:KV kvs vs)(dd:h'.DictOf (qL P w) a vs):
  qU P w H' h' a (.dK kvs):=⟨z,hd,vs,O,dd⟩
theorem d_setItem {H':Hp}{Q:Unit->Shared->Prop}(hu:A.units+1<cLine)(I:Inv X pins σ H s)(g:DPut H a y v H')(ry:RelV y u)(rv:RelV v r)(h:∀s',Inv X pins σ H' s'->Q () s'):
  wpAny (model X.prog X.w) A (setItem (.ref a) u r) Q E s:=by
 rcases g with⟨kvs,k,e,ey,l,eH⟩|⟨kvs,k,b,e,ey,eb,l,eH⟩
 ·subst ey eH;obtain⟨z,hd,vs,O,dd⟩:=dk_of I.hok e;have hz:vs.length<=sizeLine:=by rw [<-O.length];exact z
  have hl:(putK kvs k v).length<=sizeLine:=by have:=JL kvs k v;omega
  refine wpAny_setItem_pairs (hsz:=hz) (kV_is ry) dd fun h' U hs=>h _ ?_;have he:∃q,h'.get? a=some q:=let⟨q,_,_,Y,_⟩:=U;⟨q,Y⟩;exact d_write I (by rw [e];exact True.intro) hs he (dk_new hl hd (O.put k rv) U)
 ·subst ey eH;cases(show u=Value.ref b from ry)
  obtain⟨z,hd,xs,O,dd⟩:=dt_of I.hok e;have hz:xs.length<=sizeLine:=by rw [<-Paired.length O];exact z
  have hl:(putK kvs k v).length<=sizeLine:=by have:=JL kvs k v;omega
  refine wpAny_setItem_heap (hsz:=hz) (tupleKind_room_in1 hu) (key_of I.hok eb) dd fun h' U hs=>h _ ?_;obtain⟨q,es,ep,Y,h2,h3,h4,_,h5⟩:=U;refine d_write I (by rw [e];exact True.intro) hs ⟨q,Y⟩ ⟨hl,hd,_,(O.put k eb rv).keeps fun c ys ec=> ?_,q,es,ep,Y,h2,h3,h4,h5⟩
  rw [ql (ne_of ec e (fun z=>nomatch z))];exact ec
end
section
variable {X:Cx}{pins:List (Addr×Obj)}{σ:St}{H:Hp}{s:Shared}{a:Addr}{kvs:List (Key×V)}{k:Key}{u:Value}{A:Around}{E:Value->Shared->Prop}
theorem d_len {Q:Value->Shared->Prop}(I:Inv X pins σ H s)(e:Rd H a (.dK kvs))(h:∀t s',Inv X pins σ H s'->Q (.int kvs.length t) s'):wpAny (model X.prog X.w) A (call (.builtin "len") [.ref a]) Q E s:=by
 obtain⟨z,hd,vs,O,dd⟩:=Xe I.hok e;refine call_len_dict hd dd (by rw [<-O.length];rw [uk] at z;omega) ?_
 rw [<-O.length];exact h _ _ (I.tok _)
end
def NoSl (i:Expr):Prop:=∀ov iv,subscripted i false ov iv=operate [ov,iv] (getItem ov iv)
theorem subD_of {prog:Program}{w:World}{A:Around}{E:Value->Shared->Prop}{s:Shared}{env:Env}{value O:Expr}{pos:Pos}{T id:String}{Q:Value->Shared->Prop}
  (hl:typeLookup (.type T) "__getitem__"=pure (some (.builtin id))) (hs:NoSl O)
  (h:wpAny (model prog w) A (eval value env) (fun o s₁=>wpAny (model prog w) A (eval O env) (fun i Y=>Y.TypeIs o T/\wpAny (model prog w) A (getItem o i) Q E Y) E s₁) E s):
  wpAny (model prog w) A (eval (.Subscript value O pos) env) Q E s:=by
 refine Subscript_ (uJ h (fun o s₁ h₁=>uJ h₁ (fun i Y h₂=> ?_) fun _ _ x=>x) fun _ _ x=>x);obtain⟨hT,h₂⟩:=h₂;unfold subscriptTail;refine wpAny_bind ?_;rw [getitemInPython_of_ne hT.not_modules];refine wpAny_bind (wpAny_specialOf hT hl ?_);have U:wpAny (model prog w) A (subscripted O false o i) (fun r s₃=>wpAny (model prog w) A (letTemporaryGo value o r>>=fun _=>pure r) Q E s₃) E Y:=by
  rw [hs o i];exact wpAny_operating (uJ h₂ (fun r s₃ h₃=>wpAny_bind (wpAny_letTemporaryGo (u9 h₃))) fun _ _ x=>x)
 first
  |exact u9 (wpAny_bind U)
  |exact wpAny_bind (u9 (wpAny_bind U))
  |exact wpAny_bind U
theorem dict_typeIs {X:Cx}{pins:List (Addr×Obj)}{σ:St}{H:Hp}{s:Shared}{a:Addr}{y:V}{o:Option V}(I:Inv X pins σ H s)(g:DGet H a y o):s.TypeIs (.ref a) "dict":=by
 rcases g with⟨kvs,k,e,_,_⟩|⟨kvs,k,b,e,_,_,_⟩
 ·obtain⟨_,_,vs,_,dd⟩:=Xe I.hok e;exact dd.typeIs
 ·obtain⟨_,_,xs,_,dd⟩:=dt_rd I.hok e;exact dd.typeIs
theorem dict_noDict {X:Cx}{pins:List (Addr×Obj)}{σ:St}{H:Hp}{s:Shared}{a:Addr}{y:V}{o:Option V}(I:Inv X pins σ H s)(g:DGet H a y o):
  ∀b,Value.ref a= .ref b->∃ob,s.heap.get? b=some ob/\ob.dict=none:=fun b q=>by
 cases q;rcases g with⟨kvs,k,e,_,_⟩|⟨kvs,k,b,e,_,_,_⟩
 ·obtain⟨_,_,vs,_,ob,_,_,h1,h2,_⟩:=Xe I.hok e;exact⟨ob,h1,h2.2.1⟩
 ·obtain⟨_,_,xs,_,ob,_,_,h1,h2,_⟩:=dt_rd I.hok e;exact⟨ob,h1,h2.2.1⟩
def tDGet (td ty:TE):TE:=fun σ H Q=>td σ H fun x H1=>ty σ H1 fun y H2=>∃a v,x= .ref a/\DGet H2 a y (some v)/\Q v H2
def tDIn (ty td:TE):TE:=fun σ H Q=>ty σ H fun y H1=>td σ H1 fun x H2=>∃a o,x= .ref a/\DGet H2 a y o/\Q (.bl o.isSome) H2
def sDPut (td ty tv:TE):TS:=fun D σ H=>tv σ H fun v H1=>td σ H1 fun x H2=>ty σ H2 fun y H3=>∃a H4,x= .ref a/\DPut H3 a y v H4/\D.nx σ H4
section
variable {X:Cx}{o i e value:Expr}{pos pos' tpos:Pos}{td ty tv:TE}
theorem pe_dget (Y:X.A.units+1<cLine)(ho:PE X o td)(hi:PE X i ty)(hs:NoSl i):PE X (.Subscript o i pos) (tDGet td ty):=by
 intro pins s σ H Q I h;refine subD_of PySem.F.slot_dict_getitem.lookup hs (thn (ho pins s σ H _ I h) fun u s1 ⟨x,H1,I1,rx,q1⟩=>thn (hi pins s1 σ H1 _ I1 q1) fun iv s2 ⟨y,H2,U,ry,a,v,ex,g,q2⟩=> ?_);subst ex;obtain rfl:u=Value.ref a:=rx;exact⟨dict_typeIs U g,d_getItem Y U g ry fun w' s3 I3 O=>⟨v,H2,I3,O,q2⟩⟩
theorem pc_din (O:X.A.units+1<cLine)(hi:PE X i ty)(U:PE X o td):PC X .In i o (tDIn ty td):=by
 intro pins s σ H Q I h;refine thn (hi pins s σ H _ I h) fun iv s1 ⟨y,H1,Y,ry,q1⟩=>thn (U pins s1 σ H1 _ Y q1) fun u s2 ⟨x,H2,I2,rx,a,ov,ex,g,q2⟩=> ?_;subst ex;obtain rfl:u=Value.ref a:=rx;exact d_in O I2 g ry fun s3 I3=>⟨.bl ov.isSome,H2,I3,rfl,q2⟩
theorem ps_dput (O:X.A.units+1<cLine)(U:PE X o td)(hi:PE X i ty)(Y:PE X value tv)(hs:swapsWith value (some (.Subscript o i pos')) pos.line X.env=pure false):
  PS X (.Assign [.Subscript o i pos'] value pos) (sDPut td ty tv):=by
 intro pins s σ H D I h;refine wpAny_Assign_Subscript (thn (Y pins s σ H _ I h) fun r s1 ⟨v,H1,I1,rv,q1⟩=>thn (U pins s1 σ H1 _ I1 q1) fun u s2 ⟨x,H2,I2,rx,q2⟩=>thn (hi pins s2 σ H2 _ I2 q2) fun iv s3 ⟨y,H3,I3,ry,a,H4,ex,g,q3⟩=> ?_) hs;subst ex;obtain rfl:u=Value.ref a:=rx;exact d_setItem O I3 g ry rv fun s4 I4=>⟨σ,H4,I4,q3⟩
end
theorem dk_empty {P:Program}{w:World}{H:Hp}(h:Heap)(O:sysModules<h.objs.size):qU P w H (h.push {cls:= .type "dict",data:= .dict #[]}) h.objs.size (.dK []):=
 ⟨uF _,beq_eq_false_iff_ne.mpr (uY (uu O)),[],.nil,Heap.DictOf.new h⟩
def tDNewK:TE:=fun _ H Q=>∀p,H p=none->Q (.ref p) (upd H p (.dK []))
section
variable {X:Cx}{pos:Pos}
theorem pe_dnewK:PE X (.Dict [] [] pos) tDNewK:=fun pins s σ H Q I h=>
 wpAny_Dict_empty ⟨.ref s.heap.objs.size,_,I.laid (a:=s.heap.objs.size) (o:= .dK []) (t':=s.toks) (fun _ _ q=>u4 _ q) (Nat.le_refl _) (dk_empty s.heap I.big),rfl,h _ (I.hok.fresh (Nat.le_refl _))⟩
end
end L2
namespace Att
open PySem PySem.W PySem.Calls PyProof.Rows
theorem JW {P:Params}{h:Heap}:∀(ns:List Int) (vs:List Value),WellAll P h vs (ns.map WData.int)->IntsAre vs ns:=by
 intro ns
 induction ns with
 |nil=>
  intro vs w;rw [vP] at w;cases w;exact .nil
 |cons n ns O=>
  intro vs w;rw [ua] at w;cases w with
  |cons a b=>
   cases a;exact .cons _ _ (O _ b)
theorem script_of {l:OpenLaw}{n:Nat}(hn:l.most=some n){P:Params}{h:Heap}{args:List WData}{O:List Value}
  (U:l.row.toRowW.claim.pre args=true) (ac:WellAll P h O args):
  ∃a vs ns,O= [Value.ref a]/\args= [WData.list (ns.map WData.int)]/\h.get? a=some {cls:= .type "list",data:= .seq vs.toArray}/\IntsAre vs ns/\ns.length<=n:=by
 have ad:WShape.hasAll [] args [.list .int]=true:=(pre_splitW U).1;have hc:l.pre.holds [] {args:=args}=true:=(pre_splitW U).2;obtain⟨d,r,rfl,h1,h2⟩:=hasAllW_cons ad;obtain rfl:=hasAllW_nil h2;obtain⟨xs,rfl,h3⟩:=hasW_list h1;obtain⟨ns,rfl⟩:=items_int h3;have Y:ns.length<=n:=by
  unfold OpenLaw.pre at hc;have h4:(WTm.not (.lt (.lit (.int (n:Int))) (.len (.arg 0)))).holds [] {args:= [.list (ns.map .int)]}=true:=by
   have h4:=(holds_andW hc).1;rw [hn] at h4;exact h4
  have h5:=condW_of h4 (w_not (w_lt w_lit (w_len_list (w_arg rfl))));rw [u3] at h5;refine Nat.le_of_not_lt fun q=> ?_;have q':(n:Int)<((ns.length:Nat):Int):=by omega
  first
   |(rw [u8 q'] at h5;exact absurd h5 (by decide))
   |(simp at h5;omega)
 cases ac with
 |cons w1 w2=>
  cases w2;cases w1 with
  |list ho aa=>exact⟨_,_,ns,rfl,rfl,ho,JW ns _ aa,Y⟩
theorem post_true (l:OpenLaw)(args:List WData):l.row.toRowW.claim.post args (.bool true) args=true:=
 postW_of (r:=l.row.toRowW) (X:=(true==true))
  (show WShape.has [] (.bool true) .bool=true by first|rfl|decide|simp [WShape.has,WShape.arms,WShape.armsAll])
  (show(WTm.eq .res (.lit (.bool true))).value [] {args:=args,res:=some (.bool true),after:=args}=some (.bool (true==true)) from w_eq_bool (w_res rfl) w_lit) rfl
theorem attach_call {l:OpenLaw}{n:Nat}{q:Program}{O:List Str}{XP:(Str->Option Value)->Heap->Prop}{YP:World->Heap->Prop}{d:DefRec}
  (hn:l.most=some n) (ae:d.params.defaults= [])
  (call:∀(w:World) (s₀ U:Shared) (mg mb:Str->Option Value) (fa:Addr) (o:Obj) (pm cd doc:Value) (a:Addr) (vs:List Value) (ns:List Int),
   Ground q O [] XP w s₀ mg mb U.heap->YP w U.heap->
   U.heap.get? fa=some o->o.data= .func (docDef d.name d.params d.body d.scope pm cd doc)->U.heap.CodeRec cd d.name->mg d.name=some (.ref fa)->
   U.heap.get? a=some {cls:= .type "list",data:= .seq vs.toArray}->IntsAre vs ns->ns.length<=n->U.gens= #[]->
   codeAny (model l.prog w) callerA (.call (.ref fa) ⟨[.ref a],[]⟩) (fun r s'=>r= .ok (.ret (.bool true))/\OldK U.heap s'.heap/\s'.os=U.os/\AllBare s'.gens) U):
  WalkO q O XP YP l.row.toRowW d [] (fun f vs=>PySem.call f vs):=by
 intro w s₀ U mg mb G Y fa o pm cd doc dV kV ho hd af hD ag hg args ah as hpre hlay hrd hwl hlo;obtain rfl:dV= .none:=Dflts.none hD ae;obtain rfl:kV= .none:=Dflts.noKw hD;obtain⟨a,vs,ns,rfl,rfl,ac,aa,ad⟩:=script_of hn hpre hwl;refine enter_call (U2 (call w s₀ U mg mb fa o pm cd doc a vs ns G Y ho (fd_plain hd) af ag ac aa ad hg) fun r s' hq=> ?_);obtain⟨rfl,h2,h3,h4⟩:=hq;exact⟨.inl ⟨.bool true,.bool true,[],rfl,fun _=>rfl,.bool true,post_true l _,fun _=>⟨List.Pairwise.nil,fun _ hm=>(nomatch hm)⟩⟩,h2,h3,h4⟩
end Att
namespace L2
open PySem PySem.Spec PyProof.Rows
theorem vals_ints:∀{vs:List Value}{ns:List Int},IntsAre vs ns->Vals (ns.map V.int) vs
 |_,_,.nil=> .nil
 |_,_,.cons n t h=> .cons ⟨t,rfl⟩ (vals_ints h)
def Only (H:Hp):Prop:=∀b,H b=none∨∃o xs,H b=some (.frz o (.lst xs))
theorem law_call {P:Program}{w:World}{K:PySem.W.Frag}{mg mb:Str->Option Value}{CX:CXT}{k:Nat}{fa a:Addr}{fd:FuncData}{x:Str}{sp:Sp}{O:Shared}{vs:List Value}{ns:List Int}
  (KX:K.In O.heap) (ae:O.heap.Ns mainGlobals mg) (Y:O.heap.Ns builtinsNs mb) (ak:∀x:Str,x≠"__name__"->mb x=bootBuiltins x) (af:O.heap.NoLimit) (hg:O.gens= #[])
  (ha:O.heap.get? a=some {cls:= .type "list",data:= .seq vs.toArray}) (hi:IntsAre vs ns) (hl:ns.length<=sizeLine) (hr:Room k callerA)
  (F:∀base:Heap,K.In base->base.Ns mainGlobals mg->FnOk P w K mg base CX k fa fd [x] sp) (ad:∀(s:Shared) (u:Value),BindsTo s fd ⟨[u],[]⟩ [(x,u)])
  (ag:fd.scope.names.lookup x=some .local) (al:∀H:Hp,Only H->SqL K H a (ns.map V.int)->sp [.ref a] H (fun v _=>v= .bl true) fun _ _ _=>False)
  (am:∀H e s',CX [] H O (fun _ _ _=>False) e s'->False):
  codeAny (model P w) callerA (.call (.ref fa) ⟨[.ref a],[]⟩) (fun r s'=>r= .ok (.ret (.bool true))/\OldK O.heap s'.heap/\s'.os=O.os/\AllBare s'.gens) O:=by
 have rv:=vals_ints hi;have ah:=hi.length;have ac:∀H:Hp,Only H->SqL K H a (ns.map V.int)->HOk P w H O.heap->(∀b,H b≠none->b=a)->(H a≠none->K.lookup a=none)->
   codeAny (model P w) callerA (.call (.ref fa) ⟨[.ref a],[]⟩) (fun r s'=>r= .ok (.ret (.bool true))/\OldK O.heap s'.heap/\s'.os=O.os/\AllBare s'.gens) O:=by
  intro H hO hS hok hA hK;have U:∀{b:Addr}{o:Obj},O.heap.get? b=some o->H b=none->(hidT O.heap H).get? b=some o:=fun e n=>hidT_get e n;have ao:∀{b:Addr}{o:Obj}{es:Array DictEntry}{ep:Nat},O.heap.get? b=some o->o.data= .dict es ep->H b=none:=fun{b o es ep} e d=>by
   cases q:H b with
   |none=>rfl
   |some u=>
    have e':b=a:=hA b (by rw [q];simp)
    subst e';rw [ha] at e;cases e;have d':Data.seq vs.toArray _=Data.dict es ep:=d;cases d'
  have aa:∀{b:Addr}{m:Str->Option Value},O.heap.Ns b m->(hidT O.heap H).Ns b m:=fun{b m} ⟨o,es,ep,e,d,r⟩=>⟨o,es,ep,U e (ao e d),d,r⟩;have ai:K.In (hidT O.heap H):=fun b o e=>U (KX b o e) (by
   cases q:H b with
   |none=>rfl
   |some u=>
    have e':b=a:=hA b (by rw [q];simp)
    subst e';rw [hK (by rw [q];simp)] at e;cases e)
  have hM:Mod K mg (hidT O.heap H):=⟨ai,aa ae,⟨mb,aa Y,ak⟩,let⟨mc,h1,h2⟩:=af;⟨mc,aa h1,h2⟩⟩;have e0:Env0 P w K mg (hidT O.heap H) callerA [] O H:=⟨rfl,hM,fun b o e=>of_hidT e,Nat.le_of_eq (hidT_size _ _),trivial,fun b Y=>absurd (show b∈([]:List Addr) from Y) (by simp),hok,.of_eq hg⟩
  refine U2 ((F _ ai (aa ae)).run callerA [] O H ⟨[.ref a],[]⟩ [.ref a] [.ref a] _ _ hr e0 (ad O (.ref a)) (.cons rfl .nil) (al H hO hS) (.inr ⟨_,_,rfl,ag⟩)) fun r s' h=> ?_;cases r with
  |error e=>exact(am H e s' h).elim
  |ok fl=>
   cases fl with
   |next=>exact False.elim h
   |brk=>exact False.elim h
   |cont=>exact False.elim h
   |ret u=>
    obtain⟨v,H',os,bare,htk,un,aj,r',q⟩:=h;have q':v= .bl true:=q;subst q';obtain rfl:u=Value.bool true:=r';refine⟨rfl,OldK.of_keep fun b o e=> ?_,os,bare⟩;cases q:H b with
    |none=>exact un.keep b o e q (by intro z;exact absurd (show b∈([]:List Addr) from z) (by simp)) (by simp)
    |some u=>
     rcases hO b with z|⟨ob,xs,z⟩
     ·rw [q] at z;cases z
     ·have z2:=un.frzs b ob _ z;obtain⟨e1,_⟩:=hok b _ z;obtain⟨e2,_⟩:=aj b _ z2;rw [e] at e1;cases e1;exact e2
 cases hk:K.lookup a with
 |some o=>
  have e:=KX a o hk;rw [ha] at e;cases e;refine ac (fun _=>none) (fun _=> .inl rfl) (.inr ⟨_,vs.toArray,_,hk,rfl,rfl,rfl,by rw [ub,ah];exact hl,by simpa using rv⟩) (fun b u z=>by have z':(none:Option HO)=some u:=z;cases z') (fun b z=>absurd rfl z) fun z=>absurd rfl z
 |none=>
  refine ac (fun b=>if b=a then some (.frz {cls:= .type "list",data:= .seq vs.toArray} (.lst (ns.map V.int))) else none) (fun b=> ?_) (.inl (.inr ⟨{cls:= .type "list",data:= .seq vs.toArray},if_pos rfl⟩)) (fun b u z=> ?_) (fun b z=> ?_) fun _=>hk
  ·by_cases Y:b=a
   ·exact .inr ⟨_,_,if_pos Y⟩
   ·exact .inl (if_neg Y)
  ·by_cases Y:b=a
   ·have z':=(if_pos Y).symm.trans z;cases z';subst Y;exact⟨ha,by rw [u3];exact hl,vs,_,rv,ha⟩
   ·have z':=(if_neg Y).symm.trans z;cases z'
  ·by_cases Y:b=a
   ·exact Y
   ·exact absurd (if_neg Y) z
abbrev KOf {K:PySem.W.Frag}{h:Heap}(_:K.In h):PySem.W.Frag:=K
theorem walk_of {l:PySem.W.OpenLaw}{n k:Nat}{q:Program}{U:List Str}{XP:(Str->Option Value)->Heap->Prop}{YP:World->Heap->Prop}{d:DefRec}{K:Params->PySem.W.Frag}{CX:World->CXT}{sp:World->Sp}{x:Str}
  (hn:l.most=some n) (ae:n<=sizeLine) (af:d.params.defaults= []) (hr:Room k callerA)
  (hY:∀(w:World) (h:Heap),YP w h->(K w.params).In h)
  (F:∀(w:World) (mg:Str->Option Value) (fa:Addr) (h:Heap),(K w.params).In h->h.Ns mainGlobals mg->mg d.name=some (.ref fa)->
   ∃fd:FuncData,(∀(s:Shared) (u:Value),BindsTo s fd ⟨[u],[]⟩ [(x,u)])/\fd.scope.names.lookup x=some .local/\
    ∀base:Heap,(K w.params).In base->base.Ns mainGlobals mg->FnOk l.prog w (K w.params) mg base (CX w) k fa fd [x] (sp w))
  (ag:∀(w:World) (H:Hp) (a:Addr) (ns:List Int),ns.length<=n->Only H->SqL (K w.params) H a (ns.map V.int)->sp w [.ref a] H (fun v _=>v= .bl true) fun _ _ _=>False)
  (ah:∀(w:World) (H:Hp) (s:Shared) (e:Value) (s':Shared),CX w [] H s (fun _ _ _=>False) e s'->False):
  PySem.W.WalkO q U XP YP l.row.toRowW d [] (fun f vs=>PySem.call f vs):=by
 refine Att.attach_call hn af fun w s₀ s₁ mg mb fa o pm cd doc a vs ns G Y ho hd aj ai ac aa O hg=> ?_;have KX:=hY w _ Y;obtain⟨fd,hb,ad,hF⟩:=F w mg fa _ KX G.T.g ai;exact law_call KX G.T.g G.T.b G.T.builtins G.T.nolimit hg ac aa (uQ O ae) hr hF hb ad (fun H hO hS=>ag w H a ns O hO hS) fun H e s'=>ah w H s₁ e s'
theorem walk_ofK {l:PySem.W.OpenLaw}{n k:Nat}{q:Program}{O:List Str}{XP:(Str->Option Value)->Heap->Prop}{YP:World->Heap->Prop}{d:DefRec}{K:Params->PySem.W.Frag}{CX:CXT}{sp:PySem.W.Frag->Sp}{x:Str}
  (hn:l.most=some n) (U:n<=sizeLine) (Y:d.params.defaults= []) (hr:Room k callerA)
  (hY:∀(w:World) (h:Heap),YP w h->(K w.params).In h)
  (F:∀(w:World) (mg:Str->Option Value) (fa:Addr) (h:Heap),(K w.params).In h->h.Ns mainGlobals mg->mg d.name=some (.ref fa)->
   ∃fd:FuncData,(∀(s:Shared) (u:Value),BindsTo s fd ⟨[u],[]⟩ [(x,u)])/\fd.scope.names.lookup x=some .local/\
    ∀base:Heap,(K w.params).In base->base.Ns mainGlobals mg->FnOk l.prog w (K w.params) mg base CX k fa fd [x] (sp (K w.params)))
  (aa:∀(K:PySem.W.Frag) (H:Hp) (a:Addr) (ns:List Int),ns.length<=n->Only H->SqL K H a (ns.map V.int)->sp K [.ref a] H (fun v _=>v= .bl true) fun _ _ _=>False)
  (ac:∀(H:Hp) (s:Shared) (e:Value) (s':Shared),CX [] H s (fun _ _ _=>False) e s'->False):
  PySem.W.WalkO q O XP YP l.row.toRowW d [] (fun f vs=>PySem.call f vs):=
 walk_of (K:=K) (CX:=fun _=>CX) (sp:=fun w=>sp (K w.params)) hn U Y hr hY F (fun w H a ns h1 h2 h3=>aa (K w.params) H a ns h1 h2 h3) fun _ H s e s'=>ac H s e s'
def jt (s:Stmt)(j:Nat):Stmt:=match s with
 | .ClassDef _ _ _ body _ _ _ _ _ _ _=>body.getD j (.Pass ⟨0,0,0,0⟩)
 |_=> .Pass ⟨0,0,0,0⟩
def YD (s:Stmt):Arguments:=match s with
 | .FunctionDef _ a _ _ _ _ _ _ _ _=>a
 |_=>{posonlyargs:= [],args:= [],vararg:=none,kwonlyargs:= [],kw_defaults:= [],kwarg:=none,defaults:= []}
def yf (s:Stmt):List Stmt:=match s with
 | .FunctionDef _ _ b _ _ _ _ _ _ _=>b
 |_=> []
def qj (s:Stmt):Scope:=match s with
 | .FunctionDef _ _ _ _ _ _ sc _ _ _=>sc
 |_=>{kind:= .function,names:= [],isGenerator:=false,isCoroutine:=false}
abbrev CX0:CXT:=fun _ _ _ _ _ _=>False
abbrev E0:XK:=fun _ _ _=>False
theorem qy {X:Cx}:yt CX0 X E0:=fun _ _ _ _ _ _ _ h=>h.elim
structure Fun (K:PySem.W.Frag)(x qual:Str)(st:Stmt)(f:Addr)(fd:FuncData):Prop where
 ex:∃(oc:Value) (od:Option Addr) (kV doc pm:Value) (an:Option Addr) (cdv ct:Value) (osl:Array (Option Value)),
  fd=PySem.W.fnOf x qual (YD st) (yf st) (qj st) .none kV doc pm an cdv ct/\K.lookup f=some ⟨oc,od,.func fd,osl⟩/\PySem.W.codeIn K cdv qual=true
 kp:PySem.W.keepIn K (.ref f)=true
section
variable {P:Program}{w:World}{K:PySem.W.Frag}{mg:Str->Option Value}{base:Heap}
theorem Fun.ok {x qual:Str}{st:Stmt}{f:Addr}{fd:FuncData}{N ps:List Str}{k:Nat}{sp:Sp}(F:Fun K x qual st f fd)(S:qw N ps (qj st))(len:∀vs H Q E,sp vs H Q E->vs.length=ps.length)
  (O:∀(cdv:Value) (A:Around) (outer:List Env) (s:Shared) (H:Hp) (vs:List V) (Q:VK) (E:XK),Room k (A.deeper (envOfC qual (qj st) s.heap.objs.size f cdv))->sp vs H Q E->
   ∃t,PSs (cxOf CX0 P w K mg base N qual (qj st) f cdv A outer s H E).nox (yf st) t/\t {nx:=fun _ H'=>Q .non H',rt:=Q} (xh N vs) H):FnOk P w K mg base CX0 (k+1) f fd ps sp:=by
 obtain⟨oc,od,kV,doc,pm,an,cdv,ct,osl,rfl,lk,U⟩:=F.ex;refine fn_of lk U S len fun A outer s H vs Q E hr Y=> ?_;obtain⟨t,h,q⟩:=O cdv A outer s H vs Q E hr Y;exact⟨t,h.nox,q⟩
theorem Fun.binds {x qual:Str}{st:Stmt}{f:Addr}{fd:FuncData}{ps:List Str}(F:Fun K x qual st f fd)
  (h:∀(kV doc pm:Value) (an:Option Addr) (cdv ct:Value) (us:List Value),us.length=ps.length->bindArgs (PySem.W.fnOf x qual (YD st) (yf st) (qj st) .none kV doc pm an cdv ct) ⟨us,[]⟩=pure (ps.zip us)):y6 K fd ps []:=by
 obtain⟨oc,od,kV,doc,pm,an,cdv,ct,osl,rfl,U,O⟩:=F.ex;exact .all (h kV doc pm an cdv ct)
theorem fun_mk {x qual:Str}{st:Stmt}{f:Addr}{oc:Value}{od an:Option Addr}{osl:Array (Option Value)}{kV doc pm cdv ct:Value}(l:K.lookup f=some ⟨oc,od,.func (PySem.W.fnOf x qual (YD st) (yf st) (qj st) .none kV doc pm an cdv ct),osl⟩)
  (c:PySem.W.codeIn K cdv qual=true) (k:PySem.W.keepIn K (.ref f)=true):Fun K x qual st f (PySem.W.fnOf x qual (YD st) (yf st) (qj st) .none kV doc pm an cdv ct):=⟨⟨oc,od,kV,doc,pm,an,cdv,ct,osl,rfl,l,c⟩,k⟩
end
theorem hu_of {A:Around}{k:Nat}(O:Room k A):A.units+1<cLine:=Nat.lt_of_le_of_lt (Nat.add_le_add_left (by decide:1<=64) _) O.units
theorem small1000 {n:Nat}(h:n<=1000):n<sizeLine:=Nat.lt_of_le_of_lt h (by decide)
section
variable {X:Cx}
theorem pv (i:Nat){x:Str}{pos:Pos}(U:X.N[i]? =some x:=by rfl)(Y:Vis X.env.scope x:=by first|exact Or.inl rfl|exact Or.inr (Or.inl rfl)|exact Or.inr (Or.inr rfl))(hd:(x==("__debug__":Str))=false:=by decide)
  (O:(x==("__classdict__":Str))=false:=by decide):PE X (.Name x pos) (tVar i):=pe_var U Y hd O
theorem call_lenD:ye X (.builtin "len") (fun xs H Q=>∃a kvs,xs= [V.ref a]/\H a=some (.dK kvs)/\Q (.int kvs.length) H):=by
 intro pins s σ H xs us Q I r h;obtain⟨a,kvs,rfl,ha,q⟩:=h;obtain⟨u,rfl,O⟩:=yR r;cases O;exact d_len I (.inl ha) fun t s' U=>⟨.int kvs.length,H,U,⟨t,rfl⟩,q⟩
end
theorem iteF {A B:Prop}(h:B):if false=true then A else B:=by
 rw [if_neg uc];exact h
theorem iteT {A B:Prop}(h:A):if true=true then A else B:=by
 rw [if_pos rfl];exact h
theorem ite2 {c A B:Prop}[Decidable c](h1:c->A)(h2:¬c->B):if c then A else B:=by
 by_cases h:c
 ·rw [if_pos h];exact h1 h
 ·rw [if_neg h];exact h2 h
def Same (H H':Hp):Prop:=∀b o,H b=some o->H' b=some o
theorem Same.refl (H:Hp):Same H H:=fun _ _ h=>h
theorem Same.trans {H H1 H2:Hp}(a:Same H H1)(b:Same H1 H2):Same H H2:=fun c o h=>b c o (a c o h)
theorem Same.free {H H':Hp}(e:Same H H'){l:Addr}(h:H' l=Option.none):H l=Option.none:=by
 cases q:H l with
 |none=>rfl
 |some o=>
  rw [e l o q] at h;cases h
end L2
namespace L2
open PySem
inductive D where
 |non|bl (b:Bool)|int (i:Int)|str (z:Str)|lst|dct|tup (xs:List D)
def qT (c:Nat):Bool:=decide (32<=c)&&decide (c<=126)&&decide (c≠37)
def Qy (z:Str):Bool:=decide (z.length<=300)&&z.cps.toList.all qT
mutual
def good:D->Bool
 | .str z=>Qy z
 | .tup xs=>decide (xs.length<=40)&&goodL xs
 |_=>false
def goodL:List D->Bool
 | []=>true
 |x::r=>good x&&goodL r
end
mutual
def sz:D->Nat
 | .str z=>z.length+1
 | .tup xs=>1+szL xs
 |_=>0
def szL:List D->Nat
 | []=>0
 |x::r=>sz x+szL r
end
mutual
def dp:D->Nat
 | .str _=>1
 | .tup xs=>1+dpL xs
 |_=>0
def dpL:List D->Nat
 | []=>0
 |x::r=>max (dp x) (dpL r)
end
mutual
def nd:D->Nat
 | .tup xs=>1+ndL xs
 |_=>1
def ndL:List D->Nat
 | []=>0
 |x::r=>nd x+ndL r
end
def isT (d:D):Bool:=good d&&decide (sz d<=600)&&decide (dp d<=12)
theorem jy:∀(xs ys:List D),szL (xs++ys)=szL xs+szL ys
 | [],ys=>by simp [szL]
 |x::r,ys=>by simp only [Ua,szL,jy r ys];omega
theorem jv:∀(xs ys:List D),ndL (xs++ys)=ndL xs+ndL ys
 | [],ys=>by simp [ndL]
 |x::r,ys=>by simp only [Ua,ndL,jv r ys];omega
theorem JX:∀(xs:List D),goodL xs=xs.all good
 | []=>rfl
 |x::r=>by simp only [goodL,uM,JX r]
theorem jg {k:Nat}:∀(xs:List D),dpL xs<=k↔∀x∈xs,dp x<=k
 | []=>by simp [dpL]
 |x::r=>by
  have U:=jg (k:=k) r;have e:dpL (x::r)=max (dp x) (dpL r):=by simp only [dpL]
  rw [e];constructor
  ·intro h y O;rcases List.mem_cons.mp O with rfl|O
   ·omega
   ·exact U.mp (by omega) y O
  ·intro h;have h1:=h x ui;have h2:=U.mpr fun y O=>h y (u5 _ O);omega
theorem dp_pos {d:D}(h:good d=true):1<=dp d:=by
 cases d<;>simp_all [good,dp]
def wOk (w:List (D×Nat)):Bool:=w.all fun p=>good p.1&&decide (p.2+dp p.1<=13)
def wSz (w:List (D×Nat)):Nat:=szL (w.map (·.1))
def G (w:List (D×Nat))(n:Nat):Bool:=wOk w&&decide (n+wSz w<=600)
theorem G_start (d:D):G [(d,1)] 0=isT d:=by
 simp only [G,wOk,wSz,isT,uM,List.all_nil,ua,vP,szL,UA,Nat.zero_add,Nat.add_zero];have e:decide (1+dp d<=13)=decide (dp d<=12):=by
  rw [vn];omega
 rw [e];cases good d<;>cases decide (sz d<=600)<;>cases decide (dp d<=12)<;>rfl
theorem G_nil {n:Nat}(h:n<=600):G [] n=true:=by simp [G,wOk,wSz,szL,h]
theorem G_snoc (w:List (D×Nat))(d:D)(k n:Nat):G (w++ [(d,k)]) n=(wOk w&&(good d&&decide (k+dp d<=13))&&decide (n+(wSz w+sz d)<=600)):=by
 simp only [G,wOk,wSz,uN,uM,List.all_nil,UA,ue,ua,vP,jy,szL,Nat.add_zero]
 rfl
theorem G_bad {w:List (D×Nat)}{d:D}{k n:Nat}(h:good d=false):G (w++ [(d,k)]) n=false:=by
 rw [G_snoc,h];simp
theorem G_deep {w:List (D×Nat)}{d:D}{k n:Nat}(h:12<k):G (w++ [(d,k)]) n=false:=by
 rw [G_snoc];cases O:good d with
 |false=>simp
 |true=>
  have:=dp_pos O;have e:decide (k+dp d<=13)=false:=ud (by omega)
  rw [e];simp
theorem G_big {w:List (D×Nat)}{d:D}{k n:Nat}(h:600<n+sz d):G (w++ [(d,k)]) n=false:=by
 rw [G_snoc];have e:decide (n+(wSz w+sz d)<=600)=false:=ud (by omega)
 rw [e];simp
theorem G_big1 {w:List (D×Nat)}{xs:List D}{k n:Nat}(h:600<n+1):G (w++ [(.tup xs,k)]) n=false:=G_big (by simp only [sz];omega)
theorem wOk_map (xs:List D)(k:Nat):wOk (xs.map fun x=>(x,k+1))=(goodL xs&&xs.all fun x=>decide (k+1+dp x<=13)):=by
 induction xs with
 |nil=>rfl
 |cons x r O=>
  simp only [ua,wOk,uM,goodL] at O⊢;rw [O];cases good x<;>cases decide (k+1+dp x<=13)<;>cases goodL r<;>simp
theorem wSz_map (xs:List D)(k:Nat):wSz (xs.map fun x=>(x,k+1))=szL xs:=by
 unfold wSz;rw [uG]
 congr 1
 induction xs with
 |nil=>rfl
 |cons x r O=>simp only [ua,O];rfl
theorem G_tup {w:List (D×Nat)}{xs:List D}{k n:Nat}(U:xs.length<=40)(hk:k<=12):G (w++ [(.tup xs,k)]) n=G (w++xs.map fun x=>(x,k+1)) (n+1):=by
 rw [G_snoc];unfold G;have Y:wOk (w++xs.map fun x=>(x,k+1))=(wOk w&&wOk (xs.map fun x=>(x,k+1))):=by unfold wOk;rw [uN]
 have e2:wSz (w++xs.map fun x=>(x,k+1))=wSz w+szL xs:=by
  have:=wSz_map xs k;unfold wSz at this⊢;rw [ue,jy,this]
 have e3:decide (k+dp (.tup xs)<=13)=xs.all fun x=>decide (k+1+dp x<=13):=by
  have q:=jg (k:=12-k) xs;have e0:dp (.tup xs)=1+dpL xs:=by simp only [dp]
  rw [e0,vk];constructor
  ·intro h;have h:=uj h;refine List.all_eq_true.mpr fun x O=>u8 ?_;have h2:=q.mp (by omega) x O
   omega
  ·intro h;refine u8 ?_;have h2:=q.mpr fun x O=>by
    have h3:=uj (List.all_eq_true.mp h x O);omega
   omega
 rw [Y,e2,e3,wOk_map];have e4:good (.tup xs)=goodL xs:=by simp only [good,u8 U,Bool.true_and]
 have e5:decide (n+(wSz w+sz (.tup xs))<=600)=decide (n+1+(wSz w+szL xs)<=600):=by
  rw [vn];simp only [sz];omega
 rw [e4,e5]
theorem G_str {w:List (D×Nat)}{z:Str}{k n:Nat}(O:Qy z=true)(hk:k<=12):G (w++ [(.str z,k)]) n=G w (n+(1+z.length)):=by
 rw [G_snoc];unfold G;have U:good (.str z)=true:=by simp only [good,O]
 have Y:decide (k+dp (.str z)<=13)=true:=u8 (by simp only [dp];omega)
 have e5:decide (n+(wSz w+sz (.str z))<=600)=decide (n+(1+z.length)+wSz w<=600):=by
  rw [vn];simp only [sz];omega
 rw [U,Y,e5];simp
end L2
namespace AwZ
open PySem PyProof.Rows
open PySem.AutoSeq1 (wpAny_loadPart')
section
variable {prog:Program}{w:World}{A:Around}{E:Value->Shared->Prop}{s:Shared}
theorem with_kw {M:Model}{env:Env}{pos:Pos}{T:String}{e:Expr}{rest:List Expr}{kws:List Keyword}{Q:Value->Shared->Prop}
  (h:wpAny M A (spliced (backTo pos (starEach (e::rest) env))) (fun vs s1=>wpAny M A (evalAll ((backToKw pos (keywordEach kws env)).map (·.2)))
   (fun us s2=>wpAny M A (call (.type T) vs (((backToKw pos (keywordEach kws env)).filterMap (·.1)).zip us)) Q E s2) E s1) E s)
  (U:backTo pos (starEach (e::rest) env)=(false,eval e env)::backTo pos (starEach rest env)) (O:(backTo pos (starEach (e::rest) env)).any (·.1)=false)
  (ha:(backToKw pos (keywordEach kws env)).all (·.1.isSome)=true) (Y:(backToKw pos (keywordEach kws env)).any (·.1.isNone)=false):
  wpAny M A (callWith pos (.type T) [] (backTo pos (starEach (e::rest) env)) (backToKw pos (keywordEach kws env))) Q E s:=by
 unfold callWith;rw [U] at h O⊢;have h':wpAny M A (evalArgs (.type T) true ((false,eval e env)::backTo pos (starEach rest env)) (backToKw pos (keywordEach kws env))) (fun a s1=>wpAny M A (call (.type T) a.pos a.kw) Q E s1) E s:=evalArgs_kwB ha h;refine wpAny_bind (wpAny_holding (uJ h' (fun a s1 g=>wpAny_bind (U4 ?_)) fun _ _ x=>x));simp only [O,Y,Bool.or_false];refine wpAny_bind (u9 ?_);exact wpAny_bind (uJ g (fun r s2 hr=>wpAny_bind (wpAny_holding (wpAny_point (u9 hr)))) fun _ _ x=>x)
theorem w_tc (T:String)(args:List Value)(O:List (Str×Value)):(Code.builtin "type.__call__" ⟨.type T::args,O⟩).weight=0:=rfl
theorem new_kw {T Y:String}{Bn:Builtin}{args:List Value}{O:List (Str×Value)}{S:PySem.Spec}{Q:Value->Shared->Prop}(U:TypeCalled T Y "object.__init__")
  (ag:(some Y !=some "object.__new__")=true) (ah:checkTypeCall T ⟨args,O⟩=pure ()) (ac:checkBuiltinCall Y ⟨.type T::args,O⟩=pure ())
  (hok:∀obj,argsOk "object.__init__" ⟨obj::args,O⟩) (en:entryFor table Y=some Bn) (g:Meets (Bn ⟨.type T::args,O⟩) S)
  (h:S A.in1 (wants (fun obj s1=>s1.TypeIs obj T/\Q obj s1) E) s):wpAny (model prog w) A (call (.type T) args O) Q E s:=by
 obtain⟨c,tl,hm⟩:=U.mro;have ad:=U.made;have af:=U.sub;refine U5 (codeAny_of_tree ?_);show wpAny _ _ (callAny (.type T) _) _ _ _;refine u9 ⟨Ui _ (by decide+kernel),Uj F.entry_type_call ?_⟩
 rw [Around.under_plain (w_tc T args O) (units_type_call_type T args O)];have g1:=U.notType;have g2:=U.canCreate
 repeat (any_goals (first|assumption|wp_step))
 refine U2 (vc U.plain en (wpAny_of_eq ac (g prog w A.in1 _ s h))) fun r s1 hr=> ?_;cases r with
 |error e=>exact hr
 |ok fl=>
  cases fl with
  |ret obj=>
   obtain⟨hT,hq⟩:=hr;have ai:=U.init.lookup;have aj:=U.init.bind obj
   repeat (any_goals (first|assumption|wp_step))
   have gi:Meets (Builtin.«object.__init__» ⟨obj::args,O⟩) (fun _ R s=>s.TypeIs obj T/\R (.ok (.ret .none)) s):=by
    refine Meets.of_wp fun prog w A R s hs=> ?_;obtain⟨hT,hq⟩:=hs;cases hc:(!args.isEmpty|| !O.isEmpty) with
    |false=>
     show wpAny _ _ (if(!args.isEmpty|| !O.isEmpty)=true then _ else _) _ _ _
     rw [if_neg (by rw [hc];exact uc)]
     exact u9 ⟨_,rfl,hq⟩
    |true=>
     repeat (any_goals (first|assumption|wp_step))
     exact⟨_,rfl,hq⟩
   refine U2 (vc U.init.plain F.entry_object_init (U.init.check _ _ _ _ _ _ _ _ hT (hok obj) (gi prog w A.in1 (wants (fun r s2=>r= .none/\Q obj s2) E) s1 ⟨hT,rfl,hq⟩))) fun r2 s2 aa=> ?_;cases r2 with
   |error e=>exact aa
   |ok ae=>
    cases ae with
    |ret r=>
     obtain⟨rfl,hq⟩:=aa
     repeat (any_goals (first|assumption|wp_step))
    |_=>exact aa.elim
  |_=>exact hr.elim
end
theorem args_init_kw (a b v:Value):argsOk "object.__init__" ⟨[a,b],[("start",v)]⟩:=by
 unfold argsOk;rw [signature?_of (id:="object.__init__") (n:= ['_', '_', 't', 'i', 'n', 'i', '_', '_']) (o:= ['t', 'c', 'e', 'j', 'b', 'o']) (by kernel_rfl) F.owner_object];kernel_rfl
theorem tc_enum (a v:Value):checkTypeCall "enumerate" ⟨[a],[("start",v)]⟩=pure ():=by kernel_rfl
theorem nc_enum (a v:Value):checkBuiltinCall "enumerate.__new__" ⟨[.type "enumerate",a],[("start",v)]⟩=pure ():=by kernel_rfl
end AwZ
namespace L2
open PySem PySem.Spec PyProof.Rows
def Its (x:Str):It:=⟨fun i _=>i<x.cps.size,fun i H v H'=>H'=H/\∃c,x.cps[i]? =some c/\v= .str ⟨#[c]⟩,fun i _=>i=x.cps.size⟩
theorem turn_str {P:Program}{w:World}{K:PySem.W.Frag}{tg:Expr}{x:Str}{t:Tok}{it:Addr}(ty:String)(O:ty="str_ascii_iterator"∨ty="str_iterator"):
  Turn P w K tg (Its x) [it] it (fun i h=>h.IsStrIter it ty x t i) where
 mem:=by simp
 obj:=fun i h st b U=>by
  have e:b=it:=by simpa using U
  subst e;obtain⟨o,e,c,d⟩:=st;exact⟨o,e,fun v z=>by rw [d] at z;cases z⟩
 keep:=fun i h h' st k=>by
  obtain⟨o,e,r⟩:=st;exact⟨o,k it (by simp) o e,r⟩
 item:=by
  intro X hP hw hK Y i pins s σ H E I hf st hg;subst hP hw hK;obtain⟨f0,f1,f2,f3,f4,f5⟩:=hf it (by simp)
  have W:Walks X.prog X.w X.A it [it] [it] x.cps.size (SignAt x) (fun i h=>h.IsStrIter it ty x t i):=by
   rcases O with rfl|rfl
   ·exact Walks.strAscii (I.ok.hd Y) it x t
   ·exact Walks.strWide (I.ok.hd Y) it x t
  refine uB (n:=1) I.tk (W.item i s _ _ hg st fun v h' tk hv aa kk=> ?_);intro htk;obtain⟨c,u,hx,rfl⟩:=hv;have I1:Inv X pins σ H {s with heap:=h',toks:=tk}:=I.turned (fun b o U e=>kk b o (by simpa using U) e) f0 f1 f3 f4 f5
  obtain⟨o,e,c',d⟩:=id aa;refine⟨_,rfl,go_of (s:={s with heap:=h',toks:=tk}) e c' d (by rcases O with rfl|rfl<;>decide) ⟨.str ⟨#[c]⟩,H,I1,⟨u,rfl⟩,⟨rfl,c,hx,rfl⟩,aa,fun b U=>(hf b U).1⟩⟩
 done:=by
  intro X hP hw hK Y i pins s σ H E I hf st hg;subst hP hw hK;have ac:i=x.cps.size:=hg;subst ac;obtain⟨f0,f1,f2,f3,f4,f5⟩:=hf it (by simp)
  have W:Walks X.prog X.w X.A it [it] [it] x.cps.size (SignAt x) (fun i h=>h.IsStrIter it ty x t i):=by
   rcases O with rfl|rfl
   ·exact Walks.strAscii (I.ok.hd Y) it x t
   ·exact Walks.strWide (I.ok.hd Y) it x t
  exact uB (n:=1) I.tk (W.done s _ _ st fun h' tk kk htk=>⟨rfl,I.turned (fun b o U e=>kk b o (by simpa using U) e) f0 f1 f3 f4 f5⟩)
 self:=fun _ _ _ _ _ st h=>by
  rcases O with rfl|rfl
  ·exact wpAny_pyIter_striter_ascii st h
  ·exact wpAny_pyIter_striter_wide st h
section
variable {X:Cx}{tg:Expr}
def iStr (tl:TE):TI:=fun σ H R=>tl σ H fun x H1=>∃z,x= .str z/\R (Its z) H1
theorem pi_str {l:Expr}{tl:TE}(U:PE X l tl):PI X tg l (iStr tl):=by
 intro pins s σ H R I h;refine thn (U pins s σ H _ I h) fun v s1 ⟨x,H1,O,Y,q1⟩=> ?_;obtain⟨z,e,q⟩:=q1;subst e;obtain⟨t,rfl⟩:=Y;have fp:∀(o:Obj),∀b∈ [s1.heap.objs.size],FpOk X pins H1 b:=fun o b hb=>by
  have e:b=s1.heap.objs.size:=by simpa using hb
  subst e;exact O.fpOk (Nat.le_refl _) (O.hok.fresh (Nat.le_refl _))
 cases ha:z.cps.all (·<128)
 ·refine wpAny_pyIter_wide ha ?_;exact⟨s1.heap.objs.size,[s1.heap.objs.size],_,_,H1,rfl,O.kept (t':=s1.toks) fun b o e=>u4 _ e,turn_str "str_iterator" (.inr rfl),⟨_,uh _ rfl,rfl,rfl⟩,fp default,q⟩
 ·refine wpAny_pyIter_ascii ha ?_;exact⟨s1.heap.objs.size,[s1.heap.objs.size],_,_,H1,rfl,O.kept (t':=s1.toks) fun b o e=>u4 _ e,turn_str "str_ascii_iterator" (.inl rfl),⟨_,uh _ rfl,rfl,rfl⟩,fp default,q⟩
def rSlS:V->Option Int->Option Int->Hp->VK->Prop:=fun x lo hi H Q=>∃z,x= .str z/\z.length<=sizeLine/\Q (.str (Txt.slice z lo hi)) H
def tokOf:Value->Option (Int×Tok)
 | .int i t=>some (i,t)
 |_=>none
theorem xL:SlR X rSlS:=by
 intro pins s σ H x v O U lo hi sl Q I rx hs pl pu h;obtain⟨z,rfl,hz,q⟩:=h;obtain⟨t,rfl⟩:=rx;refine⟨"str",_,F.slot_str_getitem.lookup,vq _ _ _,?_⟩;have Y:O=partValue (tokOf O)/\lo=(tokOf O).map (·.1):=by cases pl<;>exact⟨rfl,rfl⟩
 have hu:U=partValue (tokOf U)/\hi=(tokOf U).map (·.1):=by cases pu<;>exact⟨rfl,rfl⟩
 obtain⟨o,e1,e2,e3⟩:=hs;refine uB (n:=1) I.tk ?_;refine wpAny_getItem_str_slice (l:=tokOf O) (u:=tokOf U) (st:=none) ⟨o,e1,e2,by rw [e3,<-Y.1,<-hu.1];rfl⟩ rfl ?_
 refine post_val_or_str ⟨?_,fun t' k=> ?_⟩
 ·exact uQ (Txt.slice_le z _ _) hz
 ·intro htk;exact⟨.str (Txt.slice z lo hi),H,I.tok k,⟨t',by rw [Y.2,hu.2];rfl⟩,q⟩
theorem Qv {K:PySem.W.Frag}(U:X.K=K):ye X (.builtin "isinstance") (fun xs H Q=>∃x T t b,xs= [x,.ty T]/\TyOf K H x t/\PySem.W.kitOne K t (.type T)=some b/\Q (.bl b) H):=by
 intro pins s σ H xs us Q I r h;obtain⟨x,T,t,b,rfl,ty,e,q⟩:=h;obtain⟨u,u',rfl,Y,O⟩:=vals2 r;cases O;subst U;exact uB (n:=1) I.tk (isinst_ok I Y ty e fun tk htk=>⟨.bl b,H,I.tok tk,rfl,q⟩)
theorem all_range:∀bs:List Bool,(List.range bs.length).all (fun i=>bs.getD i true)=bs.all id
 | []=>rfl
 |b::r=>by
  rw [ul,List.range_succ_eq_map,uM,Uu,uM];have e:(List.range r.length).all ((fun i=>(b::r).getD i true)∘Nat.succ)=(List.range r.length).all fun i=>r.getD i true:=by
   congr 1
  rw [e,all_range r]
  rfl
theorem call_allL (hc:X.calm=true):ye X (.builtin "all") (fun xs H Q=>∃(p:Addr) (bs:List Bool),xs= [.ref p]/\SqL X.K H p (bs.map V.bl)/\Q (.bl (bs.all id)) H):=by
 intro pins s σ H xs us Q I r h;obtain⟨p,bs,rfl,hp,q⟩:=h;obtain⟨u,rfl,ru⟩:=yR r;cases ru;obtain⟨its,rv,pl,hz⟩:=I.list hp;have aa:p<s.heap.objs.size:=by obtain⟨o,n,e,_⟩:=pl;exact ug e
 refine uB (n:=1) I.tk ?_;refine call_all_walk (vN pl.isList ?_);have up:∀b o,s.heap.get? b=some o->(s.heap.push {cls:= .type "list_iterator",data:= .fields #[.ref p,.int 0 0]}).get? b=some o:=fun b o e=>u4 _ e;have hl:its.length=bs.length:=by have:=rv.length;simpa using this.symm
 refine⟨s.heap.objs.size,_,_,_,_,_,fun i=>bs.getD i true,rfl,Walks.list (show X.A.in1.handled=none from I.ok.hd hc) s.heap.objs.size p (uu aa) its.toArray,⟨⟨_,uh _ rfl,rfl,rfl⟩,pl.isList.push _⟩,?_,?_⟩
 ·intro i v s' Q' E' hv hQ;have O:its[i]? =some v:=by simpa using hv
  have hi:i<its.length:=(List.getElem?_eq_some_iff.mp O).1;obtain⟨u,e1,e2⟩:=rv.get (i:=i) (x:= .bl (bs[i]'(by omega))) (by simp [show i<bs.length by omega])
  rw [O] at e1;cases e1;cases e2;have:bs.getD i true=bs[i]'(by omega):=by simp [List.getD,show i<bs.length by omega]
  have U:Q' (bs.getD i true) s':=hQ;rw [this] at U;exact v6 U
 ·intro h' tk kk htk;have Y:(List.range its.toArray.size).all (fun i=>bs.getD i true)=bs.all id:=by
   rw [ub,hl];exact all_range bs
  rw [Y];have I1:=I.kept (t':=s.toks) (h':=s.heap.push {cls:= .type "list_iterator",data:= .fields #[.ref p,.int 0 0]}) up;have ac:=I.fpOk (Nat.le_refl _) (I.hok.fresh (Nat.le_refl s.heap.objs.size));obtain⟨f0,f1,f2,f3,f4,f5⟩:=ac;exact⟨.bl (bs.all id),H,I1.turned (it:=s.heap.objs.size) (fun b o hb e=>kk b o (by simpa using hb) e) f0 f1 f3 f4 f5,rfl,q⟩
end
section
variable {X:Cx}
theorem op_repS:OpR X (binaryOp .Mult) (fun x y H Q=>∃z k,x= .str z/\y= .int k/\MulOk z k/\Q (.str (Txt.mul z k)) H):=by
 intro pins s σ H x y v u Q I O U h;obtain⟨z,k,rfl,rfl,hok,q⟩:=h;obtain⟨t,rfl⟩:=O;obtain⟨t',rfl⟩:=U;exact uB (n:=1) I.tk (SB.mul hok fun t' Y htk=>⟨.str (Txt.mul z k),H,I.tok Y,⟨t',rfl⟩,q⟩)
theorem XI {x:Str}{i:Int}{pos:Pos}(O:Gl X x)(hm:∃t,X.mg x=some (.int i t))(hd:(x==("__debug__":Str))=false:=by decide):PE X (.Name x pos) (tC (.int i)):=by
 obtain⟨t,hm⟩:=hm;exact pe_glob O hm ⟨t,rfl⟩ hd
theorem pe_gS {x z:Str}{pos:Pos}(O:Gl X x)(hm:∃t,X.mg x=some (.str z t))(hd:(x==("__debug__":Str))=false:=by decide):PE X (.Name x pos) (tC (.str z)):=by
 obtain⟨t,hm⟩:=hm;exact pe_glob O hm ⟨t,rfl⟩ hd
theorem pe_gR {x:Str}{a:Addr}{pos:Pos}(O:Gl X x)(hm:X.mg x=some (.ref a))(hd:(x==("__debug__":Str))=false:=by decide):PE X (.Name x pos) (tC (.ref a)):=pe_glob O hm rfl hd
end
theorem qf {H:Hp}{p:Addr}(h:H p=none)(o:HO):Same H (upd H p o):=fun b u q=>by rw [ql (qh q h)];exact q
def Kept (p:Addr)(H H':Hp):Prop:=∀b o,H b=some o->b≠p->H' b=some o
theorem Kept.refl (p:Addr)(H:Hp):Kept p H H:=fun _ _ h _=>h
theorem Kept.trans {p:Addr}{H H1 H2:Hp}(a:Kept p H H1)(b:Kept p H1 H2):Kept p H H2:=fun c o h n=>b c o (a c o h n) n
theorem Kept.upd (p:Addr)(H:Hp)(o:HO):Kept p H (L2.upd H p o):=fun b u h n=>by rw [ql n];exact h
theorem Kept.same {p:Addr}{H H1 H':Hp}(k:Kept p H1 H')(s:Same H H1)(n:H p=none):Same H H':=fun b o h=>k b o (s b o h) (qh h n)
theorem QA {α:Type}{xs:List α}{i:Int}(O:0<=i)(h1:i<xs.length):∃c,atI xs i=some c:=by
 obtain⟨n,rfl⟩:∃n:Nat,i=(n:Int):=⟨i.toNat,by omega⟩
 have hn:n<xs.length:=by omega
 exact⟨xs[n],JQ (u7 hn)⟩
def clOf (cells:List (Str×Addr)):List (Str×NameKind)->List (Str×Addr)->List (Str×Addr)
 | [],cs=>cs
 |(n,k)::r,cs=>clOf cells r (if k== .free then(match cells.lookup n with|some a=>(n,a)::cs|none=>cs) else cs)
theorem Xq {cells:List (Str×Addr)}:∀{names:List (Str×NameKind)}{cs:List (Str×Addr)},(∀y c,cs.lookup y=some c->cells.lookup y=some c)->∀y c,(clOf cells names cs).lookup y=some c->cells.lookup y=some c
 | [],_,h=>h
 |(n,k)::r,cs,h=>by
  unfold clOf;refine Xq fun y c e=> ?_;split at e
  ·split at e
   ·rename_i a ha
    rw [uX] at e;split at e
    ·rename_i U
     have O:y=n:=beq_iff_eq.mp U;subst O;cases e;exact ha
    ·exact h y c e
   ·exact h y c e
  ·exact h y c e
theorem clOf_keep {cells:List (Str×Addr)}:∀{names:List (Str×NameKind)}{cs:List (Str×Addr)}{y:Str},(∃c,cs.lookup y=some c)->∃c,(clOf cells names cs).lookup y=some c
 | [],_,_,h=>h
 |(n,k)::r,cs,y,h=>by
  unfold clOf;refine clOf_keep ?_;split
  ·split
   ·rw [uX];split
    ·exact⟨_,rfl⟩
    ·exact h
   ·exact h
  ·exact h
theorem Xp {cells:List (Str×Addr)}:∀{names:List (Str×NameKind)}{cs:List (Str×Addr)}{y:Str},(y,NameKind.free)∈names->(∃c,cells.lookup y=some c)->∃c,(clOf cells names cs).lookup y=some c
 | [],_,_,h,_=>nomatch h
 |(n,k)::r,cs,y,h,O=>by
  unfold clOf;rcases List.mem_cons.mp h with e|h
  ·cases e;refine clOf_keep ?_;obtain⟨c,O⟩:=O;rw [if_pos (by rfl),O]
   exact⟨c,by simp [uX]⟩
  ·exact Xp h O
theorem jB {env:Env}:∀{names:List (Str×NameKind)}{cs:List (Str×Addr)},(∀y,(y,NameKind.free)∈names->∃c,env.cells.lookup y=some c)->
  (forIn names cs fun x r=>(do
   if x.2== .free then
    let a<-cellOf env x.1
    pure (ForInStep.yield ((x.1,a)::r))
   else pure (ForInStep.yield r):Sem (ForInStep (List (Str×Addr)))))=(pure (clOf env.cells names cs):Sem (List (Str×Addr)))
 | [],cs,_=>rfl
 |(n,k)::r,cs,h=>by
  rw [List.forIn_cons];have Y:∀y,(y,NameKind.free)∈r->∃c,env.cells.lookup y=some c:=fun y hy=>h y (u5 _ hy);unfold clOf;by_cases O:(k==NameKind.free)=true
  ·have U:k= .free:=by simpa using O
   subst U;obtain⟨c,hc⟩:=h n ui;have e:cellOf env n=pure c:=by unfold cellOf;rw [hc]
   simp only [O,Ug,e,hc,pure_bind];exact jB Y
  ·simp only [if_neg O,pure_bind];exact jB Y
theorem closure_ok {scope:Scope}{env:Env}(h:∀y,(y,NameKind.free)∈scope.names->∃c,env.cells.lookup y=some c):closureFor scope env=pure (clOf env.cells scope.names []):=by
 unfold closureFor;have q:=jB (cs:= []) h;show(forIn scope.names ([]:List (Str×Addr)) (fun x r=>(do
   if x.2== .free then
    let a<-cellOf env x.1
    pure (ForInStep.yield ((x.1,a)::r))
   else pure (ForInStep.yield r):Sem (ForInStep (List (Str×Addr)))))>>=fun cs=>pure cs)=_
 rw [q,pure_bind]
theorem jE {env:Env}(hf:env.scope.kind= .function):∀{names:List (Str×NameKind)}{x:Str},names.lookup x=some .free->env.kindOf x=some .cell->
  (names.map fun(n,k)=>if(k==NameKind.free&&env.scope.kind== .function&&env.kindOf n==some .cell) then(n,NameKind.cell) else(n,k)).lookup x=some .cell
 | [],_,h,_=>by simp at h
 |(n,k)::r,x,h,hc=>by
  have ih:= @jE env hf r x;show List.lookup x ((if(k==NameKind.free&&env.scope.kind== .function&&env.kindOf n==some .cell)=true then(n,NameKind.cell) else(n,k))::_)=_
  cases O:x==n with
  |true=>
   simp only [uX,O] at h;cases h;have Y:x=n:=beq_iff_eq.mp O;subst Y;rw [if_pos (by rw [hf,hc];rfl)]
   simp [uX]
  |false=>
   simp only [uX,O] at h;by_cases U:(k==NameKind.free&&env.scope.kind== .function&&env.kindOf n==some .cell)=true
   ·rw [if_pos U];simp only [uX,O];exact ih h hc
   ·rw [if_neg U];simp only [uX,O];exact ih h hc
theorem JO {env:Env}:∀{names:List (Str×NameKind)}{x:Str},(∀y∈names,y.2≠ .cell)->
  ((names.map fun(n,k)=>if(k==NameKind.free&&env.scope.kind== .function&&env.kindOf n==some .cell) then(n,NameKind.cell) else(n,k)).lookup x=some .cell∨
   (names.map fun(n,k)=>if(k==NameKind.free&&env.scope.kind== .function&&env.kindOf n==some .cell) then(n,NameKind.cell) else(n,k)).lookup x=some .free)->(x,NameKind.free)∈names
 | [],_,_,h=>by simp at h
 |(n,k)::r,x,hn,h=>by
  have ih:= @JO env r x (fun y hy=>hn y (u5 _ hy));have g:List.lookup x ((if(k==NameKind.free&&env.scope.kind== .function&&env.kindOf n==some .cell)=true then(n,NameKind.cell) else(n,k))::(r.map fun(n,k)=>if(k==NameKind.free&&env.scope.kind== .function&&env.kindOf n==some .cell) then(n,NameKind.cell) else(n,k)))=some .cell∨
   List.lookup x ((if(k==NameKind.free&&env.scope.kind== .function&&env.kindOf n==some .cell)=true then(n,NameKind.cell) else(n,k))::(r.map fun(n,k)=>if(k==NameKind.free&&env.scope.kind== .function&&env.kindOf n==some .cell) then(n,NameKind.cell) else(n,k)))=some .free:=h
  have aa:k≠ .cell:=hn (n,k) ui;by_cases Y:(k==NameKind.free&&env.scope.kind== .function&&env.kindOf n==some .cell)=true
  ·rw [if_pos Y] at g;have hk:k= .free:=by
    rw [uH,uH] at Y
    simpa using Y.1.1
   subst hk;cases U:x==n with
   |true=>
    have O:x=n:=beq_iff_eq.mp U;subst O;exact ui
   |false=>
    simp only [uX,U] at g;exact u5 _ (ih g)
  ·rw [if_neg Y] at g;cases U:x==n with
   |true=>
    have O:x=n:=beq_iff_eq.mp U;subst O;simp only [uX,U] at g;rcases g with g|g
    ·exact absurd (uI g) aa
    ·rw [show k=NameKind.free from uI g]
     exact ui
   |false=>
    simp only [uX,U] at g;exact u5 _ (ih g)
abbrev blk (X:Cx)(scope:Scope)(Nb:List Str)(cl:List (Str×Addr))(C:Addr)(s₀:Shared)(H₀:Hp)(fp:List Addr)(pn:List (Addr×Obj)):Cx:=
 {X with N:=Nb,s₀:=s₀,H₀:=H₀,env:=compEnvC scope cl C X.env,outer:=X.stack,ex:=fp,fn:=fun _=>false,pn:=pn,xe:=fun _ _=>False}
structure LcS (X:Cx)(scope:Scope)(Nb:List Str)(nt:Nat)(fr:List Nat):Prop where
 kind:scope.kind= .function
 cell:∀y∈scope.names,y.2≠ .cell
 names:∀y∈scope.names,y.2= .local->scope.names.lookup y.1=some .local
 free:∀y∈scope.names,y.2= .free->X.env.kindOf y.1=some .cell
 len:Nb.length=nt+fr.length
 fr:∀(k j:Nat) (x:Str),fr[k]? =some j->Nb[nt+k]? =some x->X.N[j]? =some x/\scope.names.lookup x=some .free
def sigB (nt:Nat)(fr:List Nat)(σ:St):St:=List.replicate nt none++fr.map fun j=>(σ[j]?).join
theorem HOk.sameBut {P:Program}{w:World}{H:Hp}{h h':Heap}{C:Addr}(ok:HOk P w H h)(hn:H C=none)(U:Heap.SameBut C h h'):HOk P w H h':=fun b ob e=>by
 refine(ok b ob e).stay (fun c Y O q=>(U.2 c ?_).trans q) (fun _ q=>q) fun _ _ q=>q;rintro rfl;rcases O with rfl|O
 ·rw [hn] at e;cases e
 ·rw [hn] at O;cases O
section
variable {pr:Program}{wo:World}{ar:Around}{RR:Result->Shared->Prop}{st:Shared}
abbrev nb (pr:Program)(wo:World)(ar:Around)(en:Env)(RR:Result->Shared->Prop):Value->Shared->Prop:=notedBy (model pr wo) ar en fun x t=>RR (.error x) t
abbrev tsts (en:Env)(cs:List Expr):Sem Bool:=forIn cs true fun c b=>if b=true then do let y<-isTrue c en (eval c en);pure (ForInStep.yield y) else pure (ForInStep.yield b)
theorem compLoop_by {el tg aa:Expr}{cs:List Expr}{sc:Scope}{ps:Pos}{U Y:Value}{O:Env}(J:Nat->Shared->Prop)
  (ac:∀k t,J k t->wpAny (model pr wo) ar (pyNext U) (fun r t1=>match r with
   |none=>RR (.ok .next) t1
   |some v=>wpAny (model pr wo) ar (letOwnedTupleGo tg U v) (fun _ t2=>wpAny (model pr wo) ar (assign tg O v) (fun _ t3=>wpAny (model pr wo) ar (tsts O cs) (fun b t4=>
     if b=true then wpAny (model pr wo) ar (eval el O) (fun x t5=>wpAny (model pr wo) ar (call (.builtin "list.append") [Y,x]) (fun _ t6=>∃m,m<k/\J m t6) (nb pr wo ar O RR) t5) (nb pr wo ar O RR) t4
     else∃m,m<k/\J m t4) (nb pr wo ar O RR) t3) (nb pr wo ar O RR) t2) (nb pr wo ar O RR) t1) (nb pr wo ar O RR) t)
  (k:Nat) (h0:J k st):codeAny (model pr wo) ar (.compLoop (.ListComp el [⟨tg,aa,cs,0⟩] sc ps) 0 U Y O) RR st:=by
 refine codeAny_loop rfl J (fun k t hJ=> ?_) k h0;show wpAny _ ar ((compTurn (.ListComp el [⟨tg,aa,cs,0⟩] sc ps) 0 U Y O).onRaise fun x=>do noteFrame x O;theTreesLotGoes x) _ _ t
 rw [compTurn_list];refine wpAny_noted (wpAny_bind (U4 (wpAny_bind (thn (ac k t hJ) fun r t1 q1=> ?_))));cases r with
 |none=>exact u9 q1
 |some v=>
  refine wpAny_bind (thn q1 fun _ t2 q2=>wpAny_bind (thn q2 fun _ t3 q3=>wpAny_bind (thn q3 fun b t4 q4=> ?_)));cases b with
  |false=>exact u9 ⟨rfl,q4⟩
  |true=>exact wpAny_bind (wpAny_bind (thn q4 fun x t5 q5=>wpAny_bind (thn q5 fun _ t6 q6=>u9 (u9 ⟨rfl,q6⟩))))
end
def PIfs (X:Cx)(ifs:List Expr)(t:TT):Prop:=
 ∀(pins:List (Addr×Obj)) (s:Shared) (σ:St) (H:Hp) (Q:Bool->Hp->Prop),Inv X pins σ H s->t σ H Q->wpAny (model X.prog X.w) X.A (tsts X.env ifs) (TP X pins σ Q) X.xe s
def tYes:TT:=fun _ H Q=>Q true H
theorem QJ {X:Cx}:PIfs X [] tYes:=fun _ _ _ H _ I h=>wpAny_tests_nil ⟨H,I,h⟩
def lcGo (D:Addr)(J:It)(g:TG)(tc:TT)(te:TE)(σb:St)(H1:Hp)(Q:VK):Prop:=
 ∃(n:Nat) (W:Nat->St->List V->Hp->Prop),n<=sizeLine/\W 0 σb [] (upd H1 D (.lst []))/\
  (∀i σ ys H,i<n->W i σ ys H->H D=some (.lst ys)->ys.length<=i->J.go i H/\∀x H',J.yld i H x H'->g x σ H' fun σ2 H2=>tc σ2 H2 fun b H3=>
   if b=true then te σ2 H3 fun y H4=>H4 D=some (.lst ys)/\W (i+1) σ2 (ys++ [y]) (upd H4 D (.lst (ys++ [y]))) else H3 D=some (.lst ys)/\W (i+1) σ2 ys H3)/\
  ∀σ ys H,W n σ ys H->H D=some (.lst ys)->J.stop n H/\Q (.ref D) H
def tLC (nt:Nat)(fr:List Nat)(wi:TI)(g:TG)(tc:TT)(te:TE):TE:=fun σ H Q=>wi σ H fun J H1=>∀D,H1 D=none->lcGo D J g tc te (sigB nt fr σ) H1 Q
section
variable {X:Cx}{scope:Scope}{Nb:List Str}{nt:Nat}{fr:List Nat}
theorem inv_blk {pins:List (Addr×Obj)}{σ:St}{H:Hp}{s:Shared}{fp:List Addr}{C:Addr}{h4:Heap}{tk:Nat}(S:LcS X scope Nb nt fr)(I:Inv X pins σ H s)(hC:C=s.heap.objs.size)
  (ag:h4.Ns C fun _=>none) (U:∀b o,s.heap.get? b=some o->h4.get? b=some o) (hf:∀b∈fp,FpOk X pins H b) (ho:∀b∈fp,∃o,s.heap.get? b=some o) (ht:0<tk:=by((try dsimp only);first|assumption|exact Inv.tk (by assumption)|exact Nat.succ_pos _|exact Nat.lt_of_lt_of_le (Inv.tk (by assumption)) (by assumption)|exact Nat.add_pos_left (Inv.tk (by assumption)) _|omega)):
  Inv (blk X scope Nb (clOf X.env.cells scope.names []) C s H fp (X.pn++pins)) [] (sigB nt fr σ) H {s with heap:=h4,toks:=tk}:=by
 subst hC;have sub:∀y c,(clOf X.env.cells scope.names []).lookup y=some c->X.env.cells.lookup y=some c:=Xq fun y c e=>by simp at e
 have Y:∀y,(y,NameKind.free)∈scope.names->X.env.kindOf y=some .cell:=fun y hy=>S.free _ hy rfl;have ad:∀b o,s.heap.get? b=some o->b≠s.heap.objs.size:=fun b o e z=>by rw [z] at e;exact absurd (ug e) (uS _)
 have O:∀b,b≠X.env.locals->b∉X.fs->b∉frs X.stack:=fun b h1 h2 z=>(List.mem_cons.mp (I.stkSub b z)).elim h1 h2;refine⟨⟨I.ok.mod,S.kind,I.ok.glob,I.ok.blt,Nat.le_refl _,fun x y c h1 h2=>I.ok.inj x y c (sub x c h1) (sub y c h2),fun x hx=> ?_,fun x c z=>(by cases z),I.ok.hd,I.ok.frames,.inl rfl,fun b hb=> ?_,I.bs,uQ I.ok.bsz I.sz,fun b o e hb=> ?_,fun b hb=> ?_,I.stack,I.stkFree⟩,
  rfl,I.bare,Un.kept U,⟨_,ag,fun i x v e1 e2 e3=> ?_⟩,fun x c e=> ?_,I.hok.fresh (Nat.le_refl _),fun x c e=>I.freeC x c (sub x c e),fun p hp=> ?_,I.hok.kept U,?_,ht⟩
 ·have hm:=JO (env:=X.env) S.cell hx;exact Xp hm (I.ok.has x (.inl (Y x hm)))
 ·obtain⟨o,e⟩:=ho b hb;exact⟨ad b o e,fun x c e'=>(hf b hb).2.2.2.2.1 x c (sub x c e')⟩
 ·rcases(hf b hb).2.2.2.1 with z|z
  ·exact I.ok.noex b o e z
  ·exact absurd (Nat.lt_of_lt_of_le (ug e) (uQ I.ok.bsz z)) (uS _)
 ·exact O b (hf b hb).2.1 (hf b hb).2.2.1
 ·
  have hi:nt<=i:=by
   rcases uZ i nt with z|z
   ·unfold sigB at e2;rw [vI (by simpa using z),List.getElem?_replicate] at e2
    split at e2<;>cases e2
   ·exact z
  obtain⟨k,rfl⟩:∃k,i=nt+k:=⟨i-nt,by omega⟩
  unfold sigB at e2;rw [vy (by simp)] at e2
  simp only [List.length_replicate,Nat.add_sub_cancel_left,um] at e2;cases ej:fr[k]? with
  |none=>rw [ej] at e2;cases e2
  |some j=>
   rw [ej] at e2;have aa:(σ[j]?).join=some v:=uI e2;have ae:σ[j]? =some (some v):=by
    cases q:σ[j]? with
    |none=>rw [q] at aa;cases aa
    |some z=>rw [q] at aa;exact congrArg some aa
   obtain⟨n1,n2⟩:=S.fr k j x ej e1;have kx:X.env.kindOf x=some .cell:=Y x (vh n2);obtain⟨m,hn,hl⟩:=I.loc;obtain⟨u,r,l⟩:=hl j x v n1 ae (.inr (.inl kx));refine⟨u,r,.inr ⟨.inl (jE I.ok.kind n2 kx),?_⟩⟩;rcases l with⟨z,_⟩|⟨_,c,ec,ac⟩
   ·rw [kx] at z;cases z
   ·obtain⟨c',af⟩:=Xp (cells:=X.env.cells) (cs:= []) (vh n2) ⟨c,ec⟩;have:=sub x c' af;rw [ec] at this;cases this;obtain⟨o,q,d⟩:=ac;exact⟨c,af,o,U c o q,d⟩
 ·obtain⟨v,o,q,d⟩:=I.cell x c (sub x c e);exact⟨v,o,U c o q,d⟩
 ·have ah:p∈X.pn++pins:=by simpa using hp
  obtain⟨e,n,ne,nf,d⟩:=I.pin p ah;exact⟨U _ _ e,n,ad _ _ e,O _ ne nf,d⟩
 ·show(sigB nt fr σ).length=Nb.length;unfold sigB;rw [S.len];simp
theorem lc_core {tg ac ak:Expr}{al:List Expr}{wi:TI}{g:TG}{tc:TT}{te:TE}{pos:Pos}{R:Value->Addr->Result->Shared->Prop}{pins:List (Addr×Obj)}{s:Shared}{σ:St}{H:Hp}{Q:VK}(S:LcS X scope Nb nt fr)(am:X.calm=true)(hi:PI X tg ac wi)
  (hg:∀cl C s₀ H₀ fp pn,PG (blk X scope Nb cl C s₀ H₀ fp pn) tg g) (hc:∀cl C s₀ H₀ fp pn,PIfs (blk X scope Nb cl C s₀ H₀ fp pn) al tc) (he:∀cl C s₀ H₀ fp pn,PE (blk X scope Nb cl C s₀ H₀ fp pn) ak te)
  (I:Inv X pins σ H s) (h:tLC nt fr wi g tc te σ H Q)
  (hR:∀(D C:Addr) (H':Hp) (s1:Shared) (m:Str->Option Value),Inv X pins σ H' s1->s1.heap.Ns C m->FpOk X pins H' C->Q (.ref D) H'->R (.ref D) C (.ok .next) s1):
  wpAny (model X.prog X.w) X.A (eval ac X.env) (fun x s₁=>wpAny (model X.prog X.w) X.A (pyIter x) (fun it s₂=>wpAny (model X.prog X.w) X.A (newList []) (fun av s₃=>
   wpAny (model X.prog X.w) X.A (newFunctionEnv scope X.env.globals (clOf X.env.cells scope.names []) [] X.env.qual none .none (some X.env)) (fun ah s₄=>
    codeAny (model X.prog X.w) X.A (.compStart (.ListComp ak [⟨tg,ac,al,0⟩] scope pos) 0 it av {ah with scope:=relabel scope X.env}) (R av ah.locals) s₄) X.xe s₃) X.xe s₂) X.xe s₁) X.xe s:=by
 refine thn (hi pins s σ H _ I h) fun v s1 h1=>thn h1 fun aQ s2 h2=> ?_;obtain⟨it,fp,tn,J,H2,e,I2,T,ao,f2,q2⟩:=h2;subst e;have aw:H2 s2.heap.objs.size=none:=I2.hok.fresh (Nat.le_refl _);obtain⟨n,W,hn,w0,step,aD⟩:=q2 _ aw;generalize hD:s2.heap.objs.size=D at*;refine U6 ?_;rw [hD];have I3:Inv X pins σ (upd H2 D (.lst [])) {s2 with heap:=s2.heap.push {cls:= .type "list",data:= .seq ([]:List Value).toArray}}:=by
  have:=I2.lnew (ys:= []) (its:= []) (t':=s2.toks) .nil (uF _);rw [hD] at this;exact this
 refine wpAny_newFunctionEnv S.cell (by intro y hy;simp at hy) (fun h4 ae ap=> ?_) S.kind
 dsimp only at ae ap⊢;generalize ax:s2.heap.push {cls:= .type "list",dict:=none,data:= .seq ([]:List Value).toArray}=Y at ae ap I3⊢;have hC:Y.objs.size=D+1:=by rw [<-ax,va,hD]
 have af:∀b o,Y.get? b=some o->h4.get? b=some o:=fun b o e=>ap.extBut b o (uu (ug e)) (u4 _ e);have aa:∀b o,s2.heap.get? b=some o->Y.get? b=some o:=fun b o e=>by rw [<-ax];exact u4 _ e
 have aq:∀b∈fp,∃o,s2.heap.get? b=some o:=fun b O=>let⟨o,e,_⟩:=T.obj _ _ ao b O;⟨o,e⟩;have aE:∀b∈fp,b≠D:=fun b O z=>by
  obtain⟨o,e⟩:=aq b O;have q:=ug e;rw [z,hD] at q;exact uS _ q
 have f3:∀b∈fp,FpOk X pins (upd H2 D (.lst [])) b:=fun b O=>⟨by rw [ql (aE b O)];exact(f2 b O).1,(f2 b O).2⟩
 have IB:=inv_blk (C:=Y.objs.size) (h4:=h4) (tk:=s2.toks+([]:List (Str×Value)).length) (fp:=fp) S I3 rfl ae af f3 fun b O=>let⟨o,e⟩:=aq b O;⟨o,aa b o e⟩;generalize U:blk X scope Nb (clOf X.env.cells scope.names []) Y.objs.size {s2 with heap:=Y} (upd H2 D (.lst [])) fp (X.pn++pins)=Xb at IB
 have gB:=hg (clOf X.env.cells scope.names []) Y.objs.size {s2 with heap:=Y} (upd H2 D (.lst [])) fp (X.pn++pins)
 have cB:=hc (clOf X.env.cells scope.names []) Y.objs.size {s2 with heap:=Y} (upd H2 D (.lst [])) fp (X.pn++pins)
 have eB:=he (clOf X.env.cells scope.names []) Y.objs.size {s2 with heap:=Y} (upd H2 D (.lst [])) fp (X.pn++pins)
 rw [U] at gB cB eB;have xP:Xb.prog=X.prog:=by rw [<-U]
 have xW:Xb.w=X.w:=by rw [<-U]
 have xK:Xb.K=X.K:=by rw [<-U]
 have xA:Xb.A=X.A:=by rw [<-U]
 have xC:Xb.calm=true:=by rw [<-U];exact am
 have xE:Xb.env=compEnvC scope (clOf X.env.cells scope.names []) Y.objs.size X.env:=by rw [<-U]
 have xX:Xb.xe=fun _ _=>False:=by rw [<-U]
 have ag:∀{H':Hp},(∀b∈fp,H' b=none)->∀b∈fp,FpOk Xb [] H' b:=fun hn b O=>by
  obtain⟨g1,g2,g3,g4,g5,g6⟩:=f2 b O;obtain⟨o,e⟩:=aq b O;subst U;refine⟨hn b O,fun z=> ?_,fun z=>(List.mem_cons.mp (I2.stkSub b z)).elim g2 g3,.inl O,fun x c ec=>g5 x c (Xq (fun y c e=>by simp at e) x c ec),fun p hp=>g6 p (by simpa using hp)⟩
  have ad:=ug (aa b o e);have z':b=Y.objs.size:=z;rw [z'] at ad;exact uS _ ad
 have ai:∀s5:Shared,s5={s2 with heap:=h4,toks:=s2.toks+([]:List (Str×Value)).length}->
   codeAny (model X.prog X.w) X.A (.compLoop (.ListComp ak [⟨tg,ac,al,0⟩] scope pos) 0 (.ref it) (.ref D) (compEnvC scope (clOf X.env.cells scope.names []) Y.objs.size X.env))
    (R (.ref D) Y.objs.size) s5:=by
  rintro s5 rfl;refine compLoop_by (fun k s'=>∃i σ' ys H',Inv Xb [] σ' H' s'/\tn i s'.heap/\(∀b∈fp,H' b=none)/\H' D=some (.lst ys)/\i<=n/\k=n-i/\ys.length<=i/\W i σ' ys H') ?_ n
   ⟨0,sigB nt fr σ,[],_,IB,T.keep _ _ _ ao fun b O o e=>af b o (aa b o e),fun b O=>(f3 b O).1,qe,uF _,rfl,Nat.le_refl _,w0⟩
  rintro k s' ⟨i,σ',ys,H',I',ay,az,aA,aF,rfl,aG,w'⟩;rcases uZ i n with ad|aH
  ·obtain⟨go,next⟩:=step i σ' ys H' ad w' aA aG;have ti:=T.item Xb xP xW xK xC i [] s' σ' H' (fun _ _=>False) I' (ag az) ay go;rw [xA] at ti;refine uJ ti (fun r s1 h1=> ?_) fun _ _ z=>z.elim;obtain⟨u,rfl,h1⟩:=h1;refine uJ h1 (fun _ aB aI=> ?_) fun _ _ z=>z.elim;obtain⟨x,H5,I5,r5,y5,au,aJ⟩:=aI;have aK:=I5.pinned (ag aJ) (T.obj _ _ au);have ga:=gB _ aB σ' H5 x u _ aK r5 (next x H5 y5);rw [xP,xW,xA,xE,xX] at ga;refine uJ ga (fun _ s3 aL=> ?_) fun _ _ z=>z.elim;obtain⟨σ6,H6,I6,q6⟩:=aL;have ca:=cB _ s3 σ6 H6 _ I6 q6;rw [xP,xW,xA,xE,xX] at ca;refine uJ ca (fun ok s4 aM=> ?_) fun _ _ z=>z.elim;obtain⟨H7,I7,q7⟩:=aM;have aj:∀{σ8:St}{H8:Hp}{s8:Shared},Inv Xb ([]++pinsAt fp aB.heap) σ8 H8 s8->Inv Xb [] σ8 H8 s8/\tn (i+1) s8.heap/\∀b∈fp,H8 b=none:=fun{σ8 H8 s8} I8=>by
    refine⟨I8.unpinned,T.keep _ _ _ au fun b O o e=>(I8.pin (b,o) (uK _ (uK _ (Yj O e)))).1,fun b O=> ?_⟩;obtain⟨o,e,d⟩:=T.obj _ _ au b O;exact(I8.pin (b,o) (uK _ (uK _ (Yj O e)))).2.1
   cases ok with
   |false=>
    rw [if_neg uc] at q7⊢;obtain⟨b1,b2,b3⟩:=aj I7;exact⟨n-(i+1),by omega,i+1,σ6,ys,H7,b1,b2,b3,q7.1,ad,rfl,by omega,q7.2⟩
   |true=>
    rw [if_pos rfl] at q7⊢;have ea:=eB _ s4 σ6 H7 _ I7 q7;rw [xP,xW,xA,xE,xX] at ea;refine uJ ea (fun y s5 h5=> ?_) fun _ _ z=>z.elim;obtain⟨yv,H8,I8,r8,aN,q8⟩:=h5;have ma:=Q3 (X:=Xb) _ s5 σ6 H8 (.ref D) [yv] (.ref D) [y] (fun _ H9=>H9=upd H8 D (.lst (ys++ [yv]))) I8 rfl (.cons r8 .nil) ⟨D,ys,yv,rfl,rfl,aN,by omega,rfl⟩
    rw [xP,xW,xA,xX] at ma;refine uJ ma (fun _ s6 h6=> ?_) fun _ _ z=>z.elim;obtain⟨_,H9,I9,_,rfl⟩:=h6;obtain⟨b1,b2,b3⟩:=aj I9;exact⟨n-(i+1),by omega,i+1,σ6,ys++ [yv],_,b1,b2,b3,qe,ad,rfl,by rw [uf,uV];omega,q8⟩
  ·have aC:i=n:=Nat.le_antisymm aF aH;subst aC;obtain⟨stop,hq⟩:=aD σ' ys H' w' aA;have td:=T.done Xb xP xW xK xC i [] s' σ' H' (fun _ _=>False) I' (ag az) ay stop;rw [xA] at td;refine uJ td (fun r s1 h1=> ?_) fun _ _ z=>z.elim;obtain⟨rfl,I6⟩:=h1;obtain⟨m,hm,_⟩:=id I6.loc;rw [xE] at hm;have aO:H' Y.objs.size=none:=by have:=I6.free;rw [xE] at this;exact this
   have u6:Un (frs X.stack) fp (upd H2 D (.lst [])) H' Y s1.heap:=by have:=I6.base;subst U;exact this
   have u2:Un (frs X.stack) fp H2 (upd H2 D (.lst [])) s2.heap Y:=Un.laid (fun b o e=>aa b o e) (by rw [hD];exact Nat.le_refl _) aw
   have aP:s1.os=s2.os:=by have:=I6.os;subst U;exact this
   have hok:HOk X.prog X.w H' s1.heap:=by
    have:=I6.hok;subst U;exact this
   refine hR D Y.objs.size H' s1 m (I2.call' (s':=s1) (ch:=fp) aP (u2.trans u6) hok I6.bare fun b O=> ?_) hm (I2.fpOk (by omega) aO) hq
   obtain⟨g1,g2,g3,g4,g5,g6⟩:=f2 b O;exact⟨g4,g2,g5,g6⟩
 exact codeAny_compStart_list (ai _ rfl) (T.self _ 0 _ _ _ (T.keep _ _ _ ao fun b O o e=>af b o (aa b o e)) (ai _ rfl))
theorem ji {tg O aa:Expr}{ac:List Expr}{wi:TI}{g:TG}{tc:TT}{te:TE}{pos:Pos}(S:LcS X scope Nb nt fr)(U:X.calm=true)(hi:PI X tg O wi)
  (hg:∀cl C s₀ H₀ fp pn,PG (blk X scope Nb cl C s₀ H₀ fp pn) tg g) (hc:∀cl C s₀ H₀ fp pn,PIfs (blk X scope Nb cl C s₀ H₀ fp pn) ac tc) (he:∀cl C s₀ H₀ fp pn,PE (blk X scope Nb cl C s₀ H₀ fp pn) aa te)
  (hs:∀x,foldedSetIterable O X.env x=pure x:=by intro _;rfl):PE X (.ListComp aa [⟨tg,O,ac,0⟩] scope pos) (tLC nt fr wi g tc te):=by
 intro pins s σ H Q I h;have Y:closureFor scope X.env=pure (clOf X.env.cells scope.names []):=closure_ok fun y hy=>I.ok.has y (.inl (S.free _ hy rfl));rw [eval_ListComp];refine wpAny_comprehension_free (use:=none) rfl hs Y S.kind S.names ?_;refine lc_core (R:=fun ad C=>compPost (model X.prog X.w) X.A X.xe none (EP X pins σ Q) ad C) S U hi hg hc he I h fun D C H' s1 m I1 hm fc q=> ?_;obtain⟨f0,f1,f2,f3,f4,f5⟩:=fc;exact⟨m,hm,fun h' ae=>⟨.ref D,H',I1.turned (t':=s1.toks) (it:=C) (fun b o hb e=>(ae.2 b hb).trans e) f0 f1 f3 f4 f5,rfl,q⟩⟩
end
theorem lcs0 {X:Cx}{sc:Scope}{x:Str}(O:sc.kind= .function:=by rfl)(U:∀y∈sc.names,y.2≠ .cell:=by decide+kernel)(hn:∀y∈sc.names,y.2= .local->sc.names.lookup y.1=some .local:=by decide+kernel)
  (Y:∀y∈sc.names,y.2≠ .free:=by decide+kernel):LcS X sc [x] 1 []:=⟨O,U,hn,fun y hy e=>absurd e (Y y hy),rfl,fun k j x h=>by simp at h⟩
theorem lcsN {X:Cx}{sc:Scope}{Nb:List Str}{nt:Nat}{fr:List Nat}(O:Scope)(U:List Str)(Y:X.env.scope=O:=by rfl)(hN:X.N=U:=by rfl)(hk:sc.kind= .function:=by rfl)(hc:∀y∈sc.names,y.2≠ .cell:=by decide+kernel)
  (hn:∀y∈sc.names,y.2= .local->sc.names.lookup y.1=some .local:=by decide+kernel) (hf:∀y∈sc.names,y.2= .free->O.names.lookup y.1=some .cell:=by decide+kernel) (hl:Nb.length=nt+fr.length:=by rfl)
  (hz:((fr.zip (Nb.drop nt)).all fun p=>decide (U[p.1]? =some p.2)&&decide (sc.names.lookup p.2=some .free))=true:=by decide+kernel):LcS X sc Nb nt fr:=by
 subst Y hN;refine⟨hk,hc,hn,hf,hl,fun k j x h1 h2=> ?_⟩;have hm:(fr.zip (Nb.drop nt))[k]? =some (j,x):=by
  rw [vJ];exact⟨h1,by rw [List.getElem?_drop];exact h2⟩
 have q:=List.all_eq_true.mp hz _ (uE hm);rw [uH] at q;exact⟨uj q.1,uj q.2⟩
theorem lc_str {z:Str}{D:Addr}{H1:Hp}{te:TE}{tl:St}{Q:VK}(f:Nat->V)(hz:z.length<=sizeLine)(hD:H1 D=none)
  (U:∀(i c:Nat) H (R:VK),z.cps[i]? =some c->Same H1 H->R (f c) H->te (some (.str ⟨#[c]⟩)::tl) H R)
  (hQ:∀H',Same H1 H'->H' D=some (.lst (z.cps.toList.map f))->Q (.ref D) H'):lcGo D (Its z) (Y8 0) tYes te (none::tl) H1 Q:=by
 refine⟨z.cps.size,fun i σ ys H=>(∃w,σ=w::tl)/\ys=(z.cps.toList.take i).map f/\Same H1 H,hz,⟨⟨none,rfl⟩,rfl,qf hD _⟩,?_,?_⟩
 ·rintro i σ ys H hi ⟨⟨w,rfl⟩,rfl,O⟩ Y hy;refine⟨hi,?_⟩;rintro x H' ⟨rfl,c,hc,rfl⟩;dsimp only [Y8,tYes,List.set];rw [if_pos rfl];refine U i c H' _ hc O ⟨Y,⟨some (.str ⟨#[c]⟩),rfl⟩,?_,?_⟩
  ·rw [vO,show z.cps.toList[i]? =some c by simpa using hc]
   simp
  ·intro b o e;rw [ql (qh e hD)];exact O b o e
 ·rintro σ ys H ⟨_,rfl,O⟩ Y;refine⟨rfl,hQ H O ?_⟩;rw [Y,v5 (by simp)]
mutual
def Is (H:Hp):D->V->Prop
 | .non,v=>v= .non
 | .bl b,v=>v= .bl b
 | .int i,v=>v= .int i
 | .str z,v=>v= .str z/\z.length<=sizeLine
 | .lst,v=>∃a xs,v= .ref a/\H a=some (.lst xs)
 | .dct,v=>∃a kvs,v= .ref a/\H a=some (.dK kvs)
 | .tup xs,v=>∃a vs,v= .ref a/\H a=some (.tup vs)/\IsL H xs vs
def IsL (H:Hp):List D->List V->Prop
 | [],vs=>vs= []
 |x::xs,vs=>∃v r,vs=v::r/\Is H x v/\IsL H xs r
end
structure Tk (H H':Hp):Prop where
 tup:∀b xs,H b=some (.tup xs)->H' b=some (.tup xs)
 lst:∀b xs,H b=some (.lst xs)->∃ys,H' b=some (.lst ys)
 dct:∀b xs,H b=some (.dK xs)->∃ys,H' b=some (.dK ys)
theorem Same.tk {H H':Hp}(s:Same H H'):Tk H H':=⟨fun b xs e=>s b _ e,fun b xs e=>⟨xs,s b _ e⟩,fun b xs e=>⟨xs,s b _ e⟩⟩
theorem Tk.trans {H H1 H2:Hp}(a:Tk H H1)(b:Tk H1 H2):Tk H H2:=⟨fun c xs e=>b.tup c xs (a.tup c xs e),fun c xs e=>let⟨ys,e1⟩:=a.lst c xs e;b.lst c ys e1,fun c xs e=>let⟨ys,e1⟩:=a.dct c xs e;b.dct c ys e1⟩
theorem Kept.tk {p:Addr}{H H':Hp}{xs ys:List V}(k:Kept p H H')(h:H p=some (.lst xs))(h':H' p=some (.lst ys)):Tk H H':=by
 refine⟨fun b zs e=>k b _ e fun z=> ?_,fun b zs e=> ?_,fun b zs e=>⟨zs,k b _ e fun z=> ?_⟩⟩
 ·rw [z,h] at e;cases e
 ·by_cases z:b=p
  ·exact⟨ys,z▸h'⟩
  ·exact⟨zs,k b _ e z⟩
 ·rw [z,h] at e;cases e
mutual
theorem Is.mono {H H':Hp}(t:Tk H H'):∀{d:D}{v:V},Is H d v->Is H' d v
 | .non,_,h=>h
 | .bl _,_,h=>h
 | .int _,_,h=>h
 | .str _,_,h=>h
 | .lst,_,h=>by
  obtain⟨a,vs,e,ha⟩:=h;obtain⟨ys,q⟩:=t.lst a vs ha;exact⟨a,ys,e,q⟩
 | .dct,_,h=>by
  obtain⟨a,vs,e,ha⟩:=h;obtain⟨ys,q⟩:=t.dct a vs ha;exact⟨a,ys,e,q⟩
 | .tup xs,_,h=>by
  obtain⟨a,vs,e,ha,O⟩:=h;exact⟨a,vs,e,t.tup a vs ha,IsL.mono t O⟩
theorem IsL.mono {H H':Hp}(t:Tk H H'):∀{ds:List D}{vs:List V},IsL H ds vs->IsL H' ds vs
 | [],_,h=>h
 |_::_,_,h=>by
  obtain⟨v,r,e,h1,h2⟩:=h;exact⟨v,r,e,Is.mono t h1,IsL.mono t h2⟩
end
theorem IsL.length {H:Hp}:∀{ds:List D}{vs:List V},IsL H ds vs->vs.length=ds.length
 | [],_,h=>by cases(show _= [] from h);rfl
 |_::_,_,h=>by
  obtain⟨v,r,rfl,_,h2⟩:=h;rw [ul,ul,IsL.length h2]
theorem IsL.get {H:Hp}:∀{ds:List D}{vs:List V}{i:Nat}{d:D},IsL H ds vs->ds[i]? =some d->∃v,vs[i]? =some v/\Is H d v
 | [],_,_,_,_,e=>by simp at e
 |x::_,_,0,d,h,e=>by
  obtain⟨v,r,rfl,h1,_⟩:=h;have:x=d:=by simpa using e
  exact⟨v,rfl,this▸h1⟩
 |_::_,_,i+1,d,h,e=>by
  obtain⟨v,r,rfl,_,h2⟩:=h;obtain⟨u,O,U⟩:=IsL.get (i:=i) (d:=d) h2 (by simpa using e)
  exact⟨u,by simpa using O,U⟩
theorem IsL.append {H:Hp}:∀{ds es:List D}{vs us:List V},IsL H ds vs->IsL H es us->IsL H (ds++es) (vs++us)
 | [],_,_,_,h,k=>by cases(show _= [] from h);exact k
 |_::_,_,_,_,h,k=>by
  obtain⟨v,r,rfl,h1,h2⟩:=h;exact⟨v,_,rfl,h1,IsL.append h2 k⟩
theorem IsL.one {H:Hp}{d:D}{v:V}(h:Is H d v):IsL H [d] [v]:=⟨v,[],rfl,h,rfl⟩
theorem Is.new {H:Hp}{ds:List D}{vs:List V}{p:Addr}(h:IsL H ds vs)(O:H p=none):Is (upd H p (.tup vs)) (.tup ds) (.ref p):=
 ⟨p,vs,rfl,qe,h.mono (qf O _).tk⟩
def tyD:D->Value
 | .non=> .type "NoneType"
 | .bl _=> .type "bool"
 | .int _=> .type "int"
 | .str _=> .type "str"
 | .lst=> .type "list"
 | .dct=> .type "dict"
 | .tup _=> .type "tuple"
theorem Is.ty {K:PySem.W.Frag}{H:Hp}{d:D}{v:V}(h:Is H d v):TyOf K H v (tyD d):=by
 cases d with
 |non=>cases(show v= .non from h);exact .non
 |bl b=>cases(show v= .bl b from h);exact .bl b
 |int i=>cases(show v= .int i from h);exact .int i
 |str z=>
  obtain⟨rfl,_⟩:=h;exact .str z
 |lst=>
  obtain⟨a,vs,rfl,ha⟩:=h;exact .lst ha
 |dct=>
  obtain⟨a,vs,rfl,ha⟩:=h;exact .dK ha
 |tup xs=>
  obtain⟨a,vs,rfl,ha,_⟩:=h;exact .tup ha
section
variable {X:Cx}
theorem op_gt_str:OpR X (compareOp .Gt) (fun x y H Q=>∃i j,x= .str i/\y= .str j/\Q (.bl (decide (j.cps.toList<i.cps.toList))) H):=by
 intro pins s σ H x y v u Q I O U h;obtain⟨i,j,rfl,rfl,q⟩:=h;obtain⟨t,rfl⟩:=O;obtain⟨t',rfl⟩:=U;exact PySem.P.gt_str (qK I q rfl)
theorem call_sumL (Y:X.calm=true):ye X (.builtin "sum") (fun xs H Q=>∃(p:Addr) (ns:List Int),xs= [.ref p]/\SqL X.K H p (ns.map V.int)/\Q (.int ns.sum) H):=by
 intro pins s σ H xs us Q I r h;obtain⟨p,ns,rfl,hp,q⟩:=h;obtain⟨u,rfl,ru⟩:=yR r;cases ru;obtain⟨its,rv,pl,hz⟩:=I.list hp;have hi:IntsAre its ns:=intsAre_of rv;obtain⟨ys,U⟩:=hi.allInts.items;have O:s.heap.IsList p (intItems ys):=U▸pl.isList;refine uB (n:=1) I.tk (sum_intListG (I.ok.hd Y) O fun h' tk t' hk=> ?_);intro htk;have e1:ns=ys.toList.map (·.1):=by
  have q1:=hi.numsOf;rw [<-nums_intItems,<-U];exact(show numsOf its.toArray.toList=ns from q1).symm
 have e2:preSum (numAt ys) ys.size=ns.sum:=by
  rw [preSum_eq,v5 (by simp),e1]
 rw [e2];exact⟨.int ns.sum,H,I.kept hk,⟨t',rfl⟩,q⟩
end
theorem Tk.updL {H:Hp}{p:Addr}{xs ys:List V}(h:H p=some (.lst xs)):Tk H (upd H p (.lst ys)):=by
 refine⟨fun b zs e=> ?_,fun b zs e=> ?_,fun b zs e=>⟨zs,?_⟩⟩
 ·rw [ql (fun z=>by rw [z,h] at e;cases e)];exact e
 ·by_cases z:b=p
  ·exact⟨ys,by rw [z];exact qe⟩
  ·exact⟨zs,by rw [ql z];exact e⟩
 ·rw [ql (fun z=>by rw [z,h] at e;cases e)];exact e
theorem lc_data {J:It}{A:Addr}{H1:Hp}{te:TE}{tl:St}{Q:VK}{ds:List D}(f:D->D)(hn:ds.length<=sizeLine)(hA:H1 A=none)
  (aa:∀i H,Same H1 H->i<ds.length->J.go i H) (hy:∀i H x H' d,Same H1 H->ds[i]? =some d->J.yld i H x H'->H'=H/\Is H d x) (U:∀H,Same H1 H->J.stop ds.length H)
  (ac:∀d x H (R:VK),d∈ds->Same H1 H->Is H d x->(∀y H',Same H H'->Is H' (f d) y->R y H')->te (some x::tl) H R)
  (hQ:∀H' ys,Same H1 H'->H' A=some (.lst ys)->IsL H' (ds.map f) ys->Q (.ref A) H'):lcGo A J (Y8 0) tYes te (none::tl) H1 Q:=by
 refine⟨ds.length,fun i σ ys H=>(∃w,σ=w::tl)/\IsL H ((ds.take i).map f) ys/\Same H1 H,hn,⟨⟨none,rfl⟩,rfl,qf hA _⟩,?_,?_⟩
 ·rintro i σ ys H hi ⟨⟨w,rfl⟩,hl,Y⟩ O ae;refine⟨aa i H Y hi,fun x H' y=> ?_⟩;obtain⟨rfl,hx⟩:=hy i H x H' ds[i] Y (u7 hi) y;dsimp only [Y8,tYes,List.set];rw [if_pos rfl];refine ac ds[i] x H' _ (uv hi) Y hx fun y' H4 s4 ad=>⟨s4 _ _ O,⟨some x,rfl⟩,?_,fun b o e=> ?_⟩
  ·have t:Tk H4 (upd H4 A (.lst (ys++ [y']))):=Tk.updL (s4 _ _ O);have e:(ds.take (i+1)).map f=(ds.take i).map f++ [f ds[i]]:=by
    rw [vO,u7 hi,ue]
    rfl
   rw [e];exact((hl.mono s4.tk).mono t).append (IsL.one (ad.mono t))
  ·rw [ql (qh e hA)];exact s4 b o (Y b o e)
 ·rintro σ ys H ⟨_,hl,Y⟩ O;refine⟨U H Y,hQ H ys Y O ?_⟩;rw [v5 (Nat.le_refl _)] at hl;exact hl
theorem lc_tupS {K:PySem.W.Frag}{a A:Addr}{H1:Hp}{te:TE}{tl:St}{Q:VK}{ds:List D}{vs:List V}(f:D->D)(ha:H1 a=some (.tup vs))(Y:IsL H1 ds vs)(hn:ds.length<=sizeLine)(hA:H1 A=none)
  (U:∀d x H (R:VK),d∈ds->Same H1 H->Is H d x->(∀y H',Same H H'->Is H' (f d) y->R y H')->te (some x::tl) H R)
  (hQ:∀H' ys,Same H1 H'->H' A=some (.lst ys)->IsL H' (ds.map f) ys->Q (.ref A) H'):lcGo A (Itt K a) (Y8 0) tYes te (none::tl) H1 Q:=by
 have ln:=Y.length;refine lc_data f hn hA (fun i H O hi=>⟨vs,vs[i]'(by omega),SqT.of (O _ _ ha),u7 _⟩) (fun i H x H' d O hd y=> ?_) (fun H O=>⟨vs,SqT.of (O _ _ ha),by omega⟩) U hQ
 obtain⟨rfl,y⟩:=y;obtain⟨v,e1,e2⟩:=Y.get hd;have e3:=y vs (SqT.of (O _ _ ha));rw [e1] at e3;cases e3;exact⟨rfl,e2.mono O.tk⟩
theorem ix_is {K:PySem.W.Frag}{H:Hp}{ds:List D}{v:V}{i:Int}{d:D}{Q:VK}(h:Is H (.tup ds) v)(hi:atI ds i=some d)(q:∀x,Is H d x->Q x H):rIxT K v (.int i) H Q:=by
 obtain⟨a,vs,rfl,ha,O⟩:=h;obtain⟨j,h1,h2,h3,h4,h5⟩:=XO hi;obtain⟨x,Y,e2⟩:=O.get h2;refine⟨a,vs,i,x,rfl,rfl,SqT.of ha,?_,q x e2⟩;have ln:=O.length;unfold atI at hi⊢;rw [ln];cases e:ixN ds.length i with
 |none=>rw [e] at hi;cases hi
 |some k=>
  rw [e] at hi;obtain⟨U,_⟩:=ixN_seq e;rw [h1] at U;cases U;exact Y
def inS (i j:Str):Bool:= !(Builtin.Str.occurrences j i 0 j.length 1).isEmpty
theorem jw (j:Str)(c:Nat):inS ⟨#[c]⟩ j=decide (c∈j.cps.toList):=StrLaws.found_one j c
theorem mulOk_of {z:Str}{n:Int}(Y:0<=n)(h1:n<=10000)(O:z.length<=1000):MulOk z n:=by
 have hs:sizeLine=16777216:=uk;refine⟨by rw [ud (by omega),ud (by omega)];rfl,fun hn _=> ?_,fun hn _=> ?_⟩
 ·have:(1000:Int)<=(2^63-1)/n:=by
   have U:(1000:Int)*n<=2^63-1:=by omega
   exact(Int.le_ediv_iff_mul_le (by omega)).mpr U
  omega
 ·unfold Builtin.Str.tooLong;refine ud ?_;have:z.length*n.toNat<=1000*10000:=Nat.mul_le_mul O (by omega)
  omega
theorem for_str {z:Str}{g:TG}{tb:TS}{E:Ends}{σ:St}{H:Hp}(O:Nat->St->Hp->Prop)(h0:O 0 σ H)
  (hs:∀(i c:Nat) σ H,z.cps[i]? =some c->O i σ H->g (.str ⟨#[c]⟩) σ H fun Y H2=>tb {E with nx:=O (i+1),ct:=O (i+1),bk:=E.nx} Y H2) (hd:∀σ H,O z.cps.size σ H->E.nx σ H):
  ∃W:Nat->Nat->St->Hp->Prop,(∃m,W 0 m σ H)/\∀i m σ H,W i m σ H->
   ((Its z).stop i H/\E.nx σ H)∨((Its z).go i H/\∃N:St->Hp->Prop,(∀σ' H',N σ' H'->∃m',m'<m/\W (i+1) m' σ' H')/\∀x H',(Its z).yld i H x H'->g x σ H' fun Y H2=>tb {E with nx:=N,ct:=N,bk:=E.nx} Y H2):=by
 refine⟨fun i m σ H=>m=z.cps.size-i/\i<=z.cps.size/\O i σ H,⟨z.cps.size,by simp,uF _,h0⟩,?_⟩
 rintro i m σ H ⟨rfl,hi,p⟩;by_cases U:i<z.cps.size
 ·refine .inr ⟨U,O (i+1),fun σ' H' p'=>⟨z.cps.size-(i+1),by omega,rfl,U,p'⟩,fun x H' y=> ?_⟩
  obtain⟨rfl,c,hc,rfl⟩:=y;exact hs i c σ _ hc p
 ·have e:i=z.cps.size:=by omega
  exact .inl ⟨e,hd σ H (e▸p)⟩
theorem IsL.unsnoc {H:Hp}:∀{ds:List D}{d:D}{vs:List V},IsL H (ds++ [d]) vs->∃us x,vs=us++ [x]/\IsL H ds us/\Is H d x
 | [],d,_,h=>by
  obtain⟨v,r,rfl,h1,h2⟩:=h;cases(show r= [] from h2)
  exact⟨[],v,rfl,rfl,h1⟩
 |e::r,d,_,h=>by
  obtain⟨v,q,rfl,h1,h2⟩:=h;obtain⟨us,x,rfl,O,h4⟩:=IsL.unsnoc h2;exact⟨v::us,x,rfl,⟨v,us,rfl,h1,O⟩,h4⟩
def isStr:D->Bool
 | .str _=>true
 |_=>false
def xc:D->Bool
 | .tup _=>true
 |_=>false
section
variable {K:PySem.W.Frag}
theorem kit_no {T U:String}{b:Bool}(h:(Value.type T==Value.type U)=false)(hm:PySem.W.kitMeta U=true)(O:(fastBuiltinMro T).map (·.contains (Value.type U))=some b):PySem.W.kitOne K (.type T) (.type U)=some b:=by
 unfold PySem.W.kitOne;rw [if_neg (by rw [h];exact uc)]
 show(if PySem.W.kitMeta U=true then PySem.W.subIn K (.type T) (.type U) else none)=some b
 rw [if_pos hm];exact O
theorem kit_self {T:String}(h:(Value.type T==Value.type T)=true):PySem.W.kitOne K (.type T) (.type T)=some true:=by
 unfold PySem.W.kitOne;rw [if_pos h]
theorem kit_str (d:D):PySem.W.kitOne K (tyD d) (.type "str")=some (isStr d):=by
 cases d with
 |str z=>exact kit_self (by decide)
 |_=>exact kit_no (b:=false) (by decide) (by decide+kernel) (by decide+kernel)
theorem kit_tup (d:D):PySem.W.kitOne K (tyD d) (.type "tuple")=some (xc d):=by
 cases d with
 |tup z=>exact kit_self (by decide)
 |_=>exact kit_no (b:=false) (by decide) (by decide+kernel) (by decide+kernel)
end
theorem lt_one (c k:Nat):decide ((⟨#[c]⟩:Str).cps.toList< [k])=decide (c<k):=by
 rw [vn];simp [List.cons_lt_cons_iff]
theorem one_gt (c k:Nat):decide ([k]<(⟨#[c]⟩:Str).cps.toList)=decide (k<c):=by
 rw [vn];simp [List.cons_lt_cons_iff]
def iTupB (K:PySem.W.Frag)(tl:TE):TI:=fun σ H R=>tl σ H fun x H1=>∃a xs,x= .ref a/\SqT K H1 a xs/\(xs.length<=sizeLine->R (Itt K a) H1)
theorem XM {X:Cx}{tg l:Expr}{tl:TE}(U:PE X l tl):PI X tg l (iTupB X.K tl):=by
 intro pins s σ H R I h;refine thn (U pins s σ H _ I h) fun v s1 ⟨x,H1,O,Y,q1⟩=> ?_;obtain⟨a,xs,e,hq,q⟩:=q1;subst e;cases Y;obtain⟨its,rv,p,hz⟩:=O.tuple hq;refine wpAny_pyIter_tuple (show s1.heap.IsTuple a its.toArray from p) ?_
 refine⟨s1.heap.objs.size,[s1.heap.objs.size],_,_,H1,rfl,O.kept (t':=s1.toks) fun b o e=>u4 _ e,xS a _,⟨_,uh _ rfl,rfl,rfl⟩,fun b hb=> ?_,q hz⟩;have e:b=s1.heap.objs.size:=by simpa using hb
 subst e;exact O.fpOk (Nat.le_refl _) (O.hok.fresh (Nat.le_refl _))
theorem call_lenB {X:Cx}:ye X (.builtin "len") (fun xs H Q=>∃p ys,xs= [.ref p]/\(SqL X.K H p ys∨SqT X.K H p ys)/\(ys.length<=sizeLine->Q (.int ys.length) H)):=by
 intro pins s σ H xs us Q I r h;obtain⟨p,ys,e,O,q⟩:=h;have U:ys.length<=sizeLine:=by
  rcases O with O|O
  ·exact(I.list O).choose_spec.2.2
  ·exact(I.tuple O).choose_spec.2.2
 exact qI pins s σ H xs us Q I r ⟨p,ys,e,O,q U⟩
end L2
namespace L2
open PySem PySem.Spec PyProof.Rows Builtin Builtin.Str
def posL (c:Nat):List Nat->Nat->List Nat
 | [],_=> []
 |a::r,i=>if a=c then i::posL c r (i+1) else posL c r (i+1)
def cutL (c:Nat):Nat->List Nat->List (List Nat)
 |0,L=> [L]
 |_+1,[]=> [[]]
 |n+1,a::r=>if a=c then []::cutL c n r else match cutL c (n+1) r with
  |p::q=>(a::p)::q
  | []=> [[a]]
def ofL (l:List Nat):Str:=⟨l.toArray⟩
theorem Qu (z:Str):ofL z.cps.toList=z:=by
 unfold ofL;simp
theorem JS (c:Nat):∀(n:Nat) (L:List Nat),∃p q,cutL c n L=p::q
 |0,L=>⟨L,[],by simp [cutL]⟩
 |n+1,[]=>⟨[],[],by simp [cutL]⟩
 |n+1,a::r=>by
  by_cases h:a=c
  ·exact⟨[],cutL c n r,by simp [cutL,h]⟩
  ·obtain⟨p,q,e⟩:=JS c (n+1) r;exact⟨a::p,q,by simp [cutL,h,e]⟩
theorem Xh {c:Nat}{n:Nat}{r:List Nat}:∀{p:List Nat},c∉p->cutL c (n+1) (p++c::r)=p::cutL c n r
 | [],_=>by simp [cutL]
 |a::p,h=>by
  have h1:a≠c:=fun e=>h (by simp [e])
  have O:=Xh (n:=n) (r:=r) (p:=p) (fun z=>h (u5 _ z));show cutL c (n+1) (a::(p++c::r))=_;rw [cutL,if_neg h1,O]
theorem yV {c:Nat}{n:Nat}:∀{p:List Nat},c∉p->cutL c n p= [p]
 | [],_=>by cases n<;>simp [cutL]
 |a::p,h=>by
  have h1:a≠c:=fun e=>h (by simp [e])
  cases n with
  |zero=>simp [cutL]
  |succ n=>
   have O:=yV (n:=n+1) (p:=p) (fun z=>h (u5 _ z));rw [cutL,if_neg h1,O]
theorem subAt_sign (x:Str)(c i:Nat)(h:i<x.length):subAt x ⟨#[c]⟩ i=decide (x.cps.toList[i]? =some c):=by
 rw [StrLaws.subAt_eq];have O:i<x.cps.toList.length:=by simpa [Str.length] using h
 have U:(x.cps.toList.drop i).take 1= [x.cps.toList[i]]:=by
  rw [ut O]
  rfl
 show((x.cps.toList.drop i).take 1== [c])=_;rw [U,u7 O];generalize x.cps.toList[i]=k;by_cases e:k=c
 ·simp [e]
 ·simp [e]
theorem occ_go (x:Str)(c n:Nat):∀(m k:Nat) (O:Array Nat) (free:Nat),k+m=x.length+1->free<=k->
  (forIn (List.range' k m) (O,free) (StrLaws.occBody x ⟨#[c]⟩ x.length n)).run.fst.toList=O.toList++(posL c (x.cps.toList.drop k) k).take (n-O.size)
 |0,k,O,free,hk,_=>by
  have hl:x.cps.toList.length<=k:=by simp [Str.length] at hk⊢;omega
  rw [vf hl];simp [posL]
 |m+1,k,O,free,hk,hf=>by
  rw [List.range'_succ,List.forIn_cons];unfold StrLaws.occBody;have ad:x.cps.toList.length=x.length:=by simp [Str.length]
  by_cases aa:k<x.length
  ·have ac:k<x.cps.toList.length:=by omega
   rw [ut ac];have hs:=subAt_sign x c k aa;rw [u7 ac] at hs;by_cases e:x.cps.toList[k]=c
   ·have U:subAt x ⟨#[c]⟩ k=true:=by rw [hs,e];simp
    by_cases hn:O.size<n
    ·rw [if_pos ⟨⟨⟨hn,hf⟩,by show k+1<=x.length;omega⟩,U⟩]
     have Y:=occ_go x c n m (k+1) (O.push k) (k+1) (by omega) (Nat.le_refl _)
     show(forIn (List.range' (k+1) m) (O.push k,k+1) (StrLaws.occBody x ⟨#[c]⟩ x.length n)).run.fst.toList=_;rw [Y];rw [posL,if_pos e,Array.toList_push,Array.size_push];obtain⟨j,hj⟩:∃j,n-O.size=j+1:=⟨n-O.size-1,by omega⟩
     rw [hj,List.take_succ_cons,show n-(O.size+1)=j by omega]
     simp
    ·rw [if_neg (fun z=>hn z.1.1.1)];have Y:=occ_go x c n m (k+1) O free (by omega) (by omega)
     show(forIn (List.range' (k+1) m) (O,free) (StrLaws.occBody x ⟨#[c]⟩ x.length n)).run.fst.toList=_;rw [Y,show n-O.size=0 by omega]
     simp
   ·have U:¬subAt x ⟨#[c]⟩ k=true:=by rw [hs];intro z;exact e (uI (uj z))
    rw [if_neg (fun z=>U z.2)];have Y:=occ_go x c n m (k+1) O free (by omega) (by omega)
    show(forIn (List.range' (k+1) m) (O,free) (StrLaws.occBody x ⟨#[c]⟩ x.length n)).run.fst.toList=_;rw [Y,posL,if_neg e]
  ·rw [if_neg (fun z=>aa (by have:=z.1.2;show k<x.length;have h1:k+1<=x.length:=this;omega))]
   have Y:=occ_go x c n m (k+1) O free (by omega) (by omega)
   show(forIn (List.range' (k+1) m) (O,free) (StrLaws.occBody x ⟨#[c]⟩ x.length n)).run.fst.toList=_;rw [Y];have h1:x.cps.toList.length<=k:=by omega
   rw [vf h1,vf (by omega)]
   simp [posL]
theorem occ_pos (x:Str)(c n:Nat):occurrences x ⟨#[c]⟩ 0 x.length n=(posL c x.cps.toList 0).take n:=by
 rw [StrLaws.occ_eq];have:=occ_go x c n (x.length+1) 0 #[] 0 (by omega) (Nat.le_refl _)
 simpa using this
def att (p:List Nat):List (List Nat)->List (List Nat)
 |q::r=>(p++q)::r
 | []=> [p]
theorem parts_go (x:Str)(c:Nat):∀(m n a b:Nat),a<=b->b+m=x.length->
  StrLaws.partsFrom x 1 a ((posL c (x.cps.toList.drop b) b).take n)=(att ((x.cps.toList.drop a).take (b-a)) (cutL c n (x.cps.toList.drop b))).map ofL:=by
 have ac:x.cps.toList.length=x.length:=by simp [Str.length]
 have O:∀i j,strSub x i j=ofL ((x.cps.toList.drop i).take (j-i)):=fun i j=>by
  rw [<-Qu (strSub x i j),StrLaws.strSub_toList]
 intro m
 induction m with
 |zero=>
  intro n a b aa hb;have h1:x.cps.toList.drop b= []:=vf (by omega)
  rw [h1];have e1:cutL c n []= [[]]:=by cases n<;>simp [cutL]
  rw [e1];simp only [posL,List.take_nil,StrLaws.partsFrom,att,uU,ua,vP];rw [O,show x.length-a=b-a by omega]
 |succ m ih=>
  intro n a b aa hb;have U:b<x.cps.toList.length:=by omega
  rw [ut U];cases n with
  |zero=>
   simp only [List.take_zero,StrLaws.partsFrom,cutL,att,ua,vP];rw [O,<-ut U];have Y:(x.cps.toList.drop a).take (x.length-a)=x.cps.toList.drop a:=v5 (by rw [vA];omega)
   have e3:x.cps.toList.drop b=(x.cps.toList.drop a).drop (b-a):=by rw [List.drop_drop];congr 1;omega
   rw [Y,e3,List.take_append_drop]
  |succ n=>
   by_cases e:x.cps.toList[b]=c
   ·rw [posL,if_pos e,List.take_succ_cons,StrLaws.partsFrom,cutL,if_pos e];rw [ih n (b+1) (b+1) (Nat.le_refl _) (by omega)]
    obtain⟨p,q,Y⟩:=JS c n (x.cps.toList.drop (b+1));rw [Y,O];simp [att]
   ·rw [posL,if_neg e,ih (n+1) a (b+1) (by omega) (by omega),cutL,if_neg e]
    obtain⟨p,q,Y⟩:=JS c (n+1) (x.cps.toList.drop (b+1));rw [Y];simp only [att,ua]
    congr 2
    have e3:b+1-a=(b-a)+1:=by omega
    have hx:b-a<(x.cps.toList.drop a).length:=by rw [vA];omega
    rw [e3,List.take_succ_eq_append_getElem hx];simp [show a+(b-a)=b by omega]
theorem j7 (x:Str)(c n:Nat):partsBetween x (occurrences x ⟨#[c]⟩ 0 x.length n) 1=(cutL c n x.cps.toList).map ofL:=by
 rw [StrLaws.partsBetween_eq,occ_pos];have:=parts_go x c x.length n 0 0 (Nat.le_refl _) (by omega)
 rw [Ut] at this;rw [this];obtain⟨p,q,e⟩:=JS c n x.cps.toList;rw [e];simp [att]
theorem J5 {c:Nat}:∀{L:List Nat}{i:Nat},posL c L i= []->c∉L
 | [],_,_=>by simp
 |a::r,i,h=>by
  by_cases e:a=c
  ·simp [posL,e] at h
  ·rw [posL,if_neg e] at h;have:=J5 h;simp [uY e,this]
theorem jm:∀(l:List Str) (k:Nat),Vals (l.map V.str) (strsFrom k l)
 | [],_=> .nil
 |x::r,k=> .cons ⟨k,rfl⟩ (jm r (k+1))
theorem vals_strs:∀{l:List Str}{us:List Value},Vals (l.map V.str) us->∃ps:List (Str×Tok),us=strValues ps/\ps.map (·.1)=l
 | [],_,.nil=>⟨[],rfl,rfl⟩
 |x::r,_,.cons ⟨t,e⟩ h=>by
  obtain⟨ps,O,U⟩:=vals_strs h;subst e;exact⟨(x,t)::ps,by rw [O];rfl,by rw [ua,U]⟩
theorem xO (z:Str):¬Builtin.Str.strKind z<Builtin.Str.strKind " ":=by
 have h1:Builtin.Str.strKind " "=1:=by decide+kernel
 rw [h1];unfold Builtin.Str.strKind;split
 ·omega
 ·split<;>omega
theorem jY (c:Nat):∀(n:Nat) (L:List Nat),(cutL c n L).length<=L.length+1
 |0,L=>by simp [cutL]
 |n+1,[]=>by simp [cutL]
 |n+1,a::r=>by
  by_cases h:a=c
  ·have:=jY c n r;simp [cutL,h];omega
  ·have:=jY c (n+1) r;obtain⟨p,q,e⟩:=JS c (n+1) r;rw [e] at this;simp only [cutL,if_neg h,e];simp at this⊢;omega
def spl (n:Nat)(z:Str):List Str:=(cutL 32 n z.cps.toList).map ofL
theorem spl_len (n:Nat)(z:Str):(spl n z).length<=z.length+1:=by
 unfold spl;rw [u3];have:=jY 32 n z.cps.toList
 simpa [Str.length] using this
theorem jZ:(" ":Str)=⟨#[32]⟩:=by decide+kernel
theorem spl_one {z:Str}{n:Nat}(hn:z.length<=n∨z.length<1∨True)(h:(occurrences z " " 0 z.length n).isEmpty=true)(O:n≠0):spl n z= [z]:=by
 rw [jZ,occ_pos,List.isEmpty_iff] at h;have h1:posL 32 z.cps.toList 0= []:=by
  cases e:posL 32 z.cps.toList 0 with
  |nil=>rfl
  |cons a r=>
   rw [e] at h;obtain⟨k,rfl⟩:∃k,n=k+1:=⟨n-1,by omega⟩
   simp at h
 unfold spl;rw [yV (J5 h1)];simp [Qu]
section
variable {X:Cx}
def rSplit:V->List V->Hp->VK->Prop:=fun x vs H Q=>∃z,x= .str z/\vs= [.str " "]/\z.length<=1000/\∀p,H p=none->Q (.ref p) (upd H p (.lst ((spl (z.length+1) z).map V.str)))
theorem Yp {pins:List (Addr×Obj)}{σ:St}{H:Hp}{s:Shared}{Q:VK}{ys:List V}{its:List Value}{t':Nat}(I:Inv X pins σ H s)(O:Vals ys its)(U:ys.length<=sizeLine)(q:∀p,H p=none->Q (.ref p) (upd H p (.lst ys)))(Y:0<t':=by((try dsimp only);first|assumption|exact Inv.tk (by assumption)|exact Nat.succ_pos _|exact Nat.lt_of_lt_of_le (Inv.tk (by assumption)) (by assumption)|exact Nat.add_pos_left (Inv.tk (by assumption)) _|omega)):
  EP X pins σ Q (.ref s.heap.objs.size) {s with heap:=s.heap.push {cls:= .type "list",data:= .seq its.toArray},toks:=t'}:=
 ⟨.ref s.heap.objs.size,_,I.lnew O U,rfl,q _ I.fresh⟩
theorem mt_split:MtM X "str.split" rSplit:=by
 intro pins s σ H x vs v us Q I Y rv h;obtain⟨z,rfl,rfl,hz,q⟩:=h;obtain⟨t,rfl⟩:=Y;obtain⟨u,rfl,t',rfl⟩:=rv.one;have O:z.length<=sizeLine:=by rw [uk];omega
 have one:spl (z.length+1) z= [z]->∀(T:Nat),0<T->EP X pins σ Q (.ref s.heap.objs.size) {s with heap:=s.heap.push {cls:= .type "list",data:= .seq [Value.str z t].toArray},toks:=T}:=fun e T hT=>by
  rw [e] at q;exact Yp (ys:= [V.str z]) I (.cons (show RelV (V.str z) _ from⟨t,rfl⟩) .nil) (by show 1<=sizeLine;decide) q
 cases h1:(decide (z.length<(" ":Str).length)||decide (Builtin.Str.strKind z<Builtin.Str.strKind " ")) with
 |true=>
  refine vB ve (vq _ _ _) v7 (vG _ _) (meets_str_split_cannot_occur z " " t t' h1) ?_;have h2:z.length<1:=by
   rw [Bool.or_eq_true] at h1;rcases h1 with h1|h1
   ·exact uj h1
   ·exact absurd (uj h1) (xO z)
  refine one ?_ s.toks I.tk;have e:z.cps.toList= []:=vT (by simpa [Str.length] using h2)
  unfold spl;rw [e,cutL];rw [<-Qu z,e]
  rfl
 |false=>
  cases U:(occurrences z " " 0 z.length (z.length+1)).isEmpty with
  |true=>
   refine vB ve (vq _ _ _) v7 (vG _ _) (meets_str_split_not_found z " " t t' h1 (by decide) U) ?_
   exact one (spl_one (.inr (.inr trivial)) U (by omega)) s.toks I.tk
  |false=>
   have hl:=spl_len (z.length+1) z;have e:partsBetween z (occurrences z " " 0 z.length (z.length+1)) (" ":Str).length=spl (z.length+1) z:=by
    rw [jZ];exact j7 z 32 (z.length+1)
   refine vB ve (vq _ _ _) v7 (vG _ _) (meets_str_split_sep z " " t t' h1 (by decide) U O (by rw [e,uk];omega)) ?_
   rw [e];exact Yp I (jm _ _) (by rw [u3,uk];omega) q
theorem YF (x y:Str)(k:Int)(t u v:Tok)(Y:(decide (k< -(2^63:Int))||decide (k≥2^63))=false)(h1:(decide (x.length<y.length)||decide (Builtin.Str.strKind x<Builtin.Str.strKind y))=false)(hy:(y.length==0)=false)
  (hf:(occurrences x y 0 x.length (limitOf x k)).isEmpty=true):Meets («str.split» ⟨[.str x t,.str y u,.int k v],[]⟩) (listOfItself x t):=by
 obtain⟨U,O⟩:=split_sep_max_tree x y k t u v Y;refine .of_wp fun prog w A R s h=> ?_;rw [O,h1,hy,hf];show wpAny _ _ (do rule "str.split.same-object";ret (<-newList [.str x t])) _ _ s
 exact wpAny_bind (Ur (wpAny_bind (UB (u9 ⟨_,rfl,h⟩) (by show 1<=sizeLine;decide))))
theorem yP (x y:Str)(k:Int)(t u v:Tok)(Y:(decide (k< -(2^63:Int))||decide (k≥2^63))=false)(h1:(decide (x.length<y.length)||decide (Builtin.Str.strKind x<Builtin.Str.strKind y))=true):
  Meets («str.split» ⟨[.str x t,.str y u,.int k v],[]⟩) (listOfItself x t):=by
 obtain⟨U,O⟩:=split_sep_max_tree x y k t u v Y;refine .of_wp fun prog w A R s h=> ?_;rw [O,h1];show wpAny _ _ (do rule "str.split.sep-cannot-occur";ret (<-newList [.str x t])) _ _ s
 exact wpAny_bind (Ur (wpAny_bind (UB (u9 ⟨_,rfl,h⟩) (by show 1<=sizeLine;decide))))
def rSplitN:V->List V->Hp->VK->Prop:=fun x vs H Q=>∃(z:Str) (n:Nat),x= .str z/\vs= [.str " ",.int (n:Int)]/\z.length<=1000/\0<n/\n<=1000/\∀p,H p=none->Q (.ref p) (upd H p (.lst ((spl n z).map V.str)))
theorem mt_splitN:MtM X "str.split" rSplitN:=by
 intro pins s σ H x vs v us Q I rx rv h;obtain⟨z,n,rfl,rfl,hz,ac,hn,q⟩:=h;obtain⟨t,rfl⟩:=rx;obtain⟨u,u',rfl,⟨t',rfl⟩,⟨U,rfl⟩⟩:=vals2 rv;have aa:z.length<=sizeLine:=by rw [uk];omega
 have hk:(decide ((n:Int)< -(2^63:Int))||decide ((n:Int)≥2^63))=false:=by
  rw [ud (by omega),ud (by omega)];rfl
 have O:limitOf z (n:Int)=n:=by
  unfold limitOf;rw [if_neg (by omega)]
  omega
 have one:spl n z= [z]->∀(T:Nat),0<T->EP X pins σ Q (.ref s.heap.objs.size) {s with heap:=s.heap.push {cls:= .type "list",data:= .seq [Value.str z t].toArray},toks:=T}:=fun e T hT=>by
  rw [e] at q;exact Yp (ys:= [V.str z]) I (.cons (show RelV (V.str z) _ from⟨t,rfl⟩) .nil) (by show 1<=sizeLine;decide) q
 cases h1:(decide (z.length<(" ":Str).length)||decide (Builtin.Str.strKind z<Builtin.Str.strKind " ")) with
 |true=>
  refine vB ve (vq _ _ _) v7 (F.args_str_split_3 _ _ _) (yP z " " n t t' U hk h1) ?_;have h2:z.length<1:=by
   rw [Bool.or_eq_true] at h1;rcases h1 with h1|h1
   ·exact uj h1
   ·exact absurd (uj h1) (xO z)
  refine one ?_ s.toks I.tk;have e:z.cps.toList= []:=vT (by simpa [Str.length] using h2)
  obtain⟨j,rfl⟩:∃j,n=j+1:=⟨n-1,by omega⟩
  unfold spl;rw [e,cutL];rw [<-Qu z,e]
  rfl
 |false=>
  cases Y:(occurrences z " " 0 z.length (limitOf z (n:Int))).isEmpty with
  |true=>
   refine vB ve (vq _ _ _) v7 (F.args_str_split_3 _ _ _) (YF z " " n t t' U hk h1 (by decide) Y) ?_
   rw [O] at Y;exact one (spl_one (.inr (.inr trivial)) Y (by omega)) s.toks I.tk
  |false=>
   have hl:=spl_len n z;have e:partsBetween z (occurrences z " " 0 z.length (limitOf z (n:Int))) (" ":Str).length=spl n z:=by
    rw [jZ,O];exact j7 z 32 n
   refine vB ve (vq _ _ _) v7 (F.args_str_split_3 _ _ _) (meets_str_split_sep_max z " " n t t' U hk h1 (by decide) Y aa (by rw [e,uk];omega)) ?_
   rw [e];exact Yp I (jm _ _) (by rw [u3,uk];omega) q
def rJoin (K:PySem.W.Frag):V->List V->Hp->VK->Prop:=fun x vs H Q=>∃(sep:Str) (p:Addr) (l:List Str),x= .str sep/\vs= [.ref p]/\SqL K H p (l.map V.str)/\(l.map (·.length)).sum+l.length*sep.length<=1000000/\Q (.str (Str.join sep l)) H
theorem QI:MtM X "str.join" (rJoin X.K):=by
 intro pins s σ H x vs v us Q I rx rv h;obtain⟨Y,p,l,rfl,rfl,hp,hz,q⟩:=h;obtain⟨t,rfl⟩:=rx;obtain⟨u,rfl,ru⟩:=rv.one;cases ru;obtain⟨its,r,pl,hl⟩:=I.list hp;obtain⟨ps,rfl,e2⟩:=vals_strs r;have U:tooLong ((ps.map (·.1)).toArray.foldl (·+ ·.length+Y.length) 0)=false:=by
  rw [e2];have:=StrLaws.joinTotal Y l;rw [this];unfold tooLong;refine ud ?_;rw [uk];omega
 refine vB F.slot_str_join (vq _ _ _) F.entry_str_join (F.args_str_join_2 _ _) (meets_str_join_list Y t p ps U) ⟨pl.isList,?_⟩;have O:(glued Y (ps.map (·.1))).length<=sizeLine:=joinFit_length U
 match ps,e2,O with
 | [],e2,O=>
  subst e2;exact⟨O,.str _,H,I.tok _,⟨_,rfl⟩,q⟩
 | [a],e2,_=>
  subst e2;exact⟨.str _,H,I,⟨a.2,rfl⟩,q⟩
 |a::b::r,e2,O=>
  subst e2;refine⟨O,.str _,H,I.tok _,⟨_,rfl⟩,?_⟩;rw [StrLaws.glued_eq_join];exact q
end
end L2
namespace L2
open PySem PySem.Spec PyProof.Rows
theorem Inv.turnedL {X:Cx}{pins:List (Addr×Obj)}{σ:St}{H:Hp}{s:Shared}{h':Heap}{t':Nat}{fp:List Addr}(I:Inv X pins σ H s)(k:∀b o,b∉fp->s.heap.get? b=some o->h'.get? b=some o)(U:∀b∈fp,FpOk X pins H b)(ht:0<t':=by((try dsimp only);first|assumption|exact Inv.tk (by assumption)|exact Nat.succ_pos _|exact Nat.lt_of_lt_of_le (Inv.tk (by assumption)) (by assumption)|exact Nat.add_pos_left (Inv.tk (by assumption)) _|omega)):Inv X pins σ H {s with heap:=h',toks:=t'}:=by
 have Y:∀b u,H b=some u->b∉fp:=fun b u e z=>by
  have:=(U b z).1;rw [this] at e;cases e
 have nL:X.env.locals∉fp:=fun z=>(U _ z).2.1 rfl;refine I.step (g':=s.gens) (d':=s.drawn) (ch:=fp) (fun b hb=>⟨(U b hb).2.2.2.1,(U b hb).2.1,(U b hb).2.2.2.2.1,(U b hb).2.2.2.2.2⟩) (fun b o _ _ O e _=>k b o O e) (fun b o _ _ O e _=>⟨o.slots,k b o O e⟩) (fun _ _ _ _ n=>n)
  (fun b o O e=>⟨o,k b o O e⟩) (fun _ _ e=>e) (fun _ _ _ e=>e) (fun b ps e=>⟨#[],by rw [e];simp⟩) (fun m hm=> ?_) (fun b u e=> ?_) I.bare
 ·obtain⟨o,es,ep,ho,r⟩:=hm;exact⟨o,es,ep,k _ o nL ho,r⟩
 ·refine(I.hok b u e).stay (fun c v O q=>k c v ?_ q) (fun _ q=>q) fun _ _ q=>q;rcases O with z|z
  ·rw [z];exact Y b u e
  ·exact Y c _ z
theorem Inv.handed {X:Cx}{pins:List (Addr×Obj)}{σ:St}{H:Hp}{s:Shared}{h':Heap}{t':Nat}{fp:List Addr}{ys:List V}{its:List Value}(I:Inv X pins σ H s)(Y:∀b∈fp,FpOk X pins H b)(hl:∀b∈fp,b<s.heap.objs.size)(hv:Vals ys its)(hz:ys.length<=sizeLine)
  (hn:h'.get? s.heap.objs.size=some {cls:= .type "tuple",data:= .seq its.toArray}) (hs:h'.objs.size=s.heap.objs.size+1) (k:∀b o,b∉fp->s.heap.get? b=some o->h'.get? b=some o) (ht:0<t':=by((try dsimp only);first|assumption|exact Inv.tk (by assumption)|exact Nat.succ_pos _|exact Nat.lt_of_lt_of_le (Inv.tk (by assumption)) (by assumption)|exact Nat.add_pos_left (Inv.tk (by assumption)) _|omega)):
  Inv X pins σ (upd H s.heap.objs.size (.tup ys)) {s with heap:=h',toks:=t'}/\∀b∈fp,FpOk X pins (upd H s.heap.objs.size (.tup ys)) b:=by
 have I1:Inv X pins σ (upd H s.heap.objs.size (.tup ys)) {s with heap:=s.heap.push {cls:= .type "tuple",data:= .seq its.toArray},toks:=t'}:=
  I.laid (o:= .tup ys) (fun _ _ w=>u4 _ w) (Nat.le_refl _) ⟨hz,its,hv,IsTup.new _ _⟩
 have O:∀b∈fp,FpOk X pins (upd H s.heap.objs.size (.tup ys)) b:=fun b U=>by
  obtain⟨f0,f1,f2,f3,f4,f5⟩:=Y b U;have:=hl b U;exact⟨by rw [ql (uu this)];exact f0,f1,f2,f3,f4,f5⟩
 refine⟨I1.turnedL (h':=h') (t':=t') (fun b o U e=> ?_) O,O⟩;rcases Heap.get?_push_cases (show(s.heap.push {cls:= .type "tuple",data:= .seq its.toArray}).get? b=some o from e) with⟨rfl,rfl⟩|e'
 ·exact hn
 ·exact k b o U e'
section
variable {X:Cx}
theorem two_le {n m x:Nat}(hm:m=n+1)(h:x=m∨x=n):n<=x:=by omega
end
section
variable {X:Cx}{K:PySem.W.Frag}
theorem pg_tupK {es:List Expr}{k:Nat}{t:TGs}{n:Nat}{pos:Pos}(U:X.K=K)(Y:X.calm=true)(h:PGs X es t)
  (hn:(assignEach es X.env).length=n:=by rfl) (O:(assignEach es X.env).findIdx? (·.1)=none:=by rfl):PG X (.Tuple es k pos) (gTup K n t):=by subst U;exact pg_tup Y h hn O
end
theorem Y7 {lo:Int}{n:Nat}{L:Addr}{H1:Hp}{te:TE}{tl:St}{Q:VK}(C:Nat->List V->Hp->Prop)(hn:n<=sizeLine)(h0:C 0 [] (upd H1 L (.lst [])))
  (hs:∀i ys H,i<n->C i ys H->H L=some (.lst ys)->ys.length<=i->∀R:VK,(∀y O,O L=some (.lst ys)->C (i+1) (ys++ [y]) (upd O L (.lst (ys++ [y])))->R y O)->te (some (.int (lo+(i:Int)))::tl) H R)
  (hQ:∀ys H,C n ys H->H L=some (.lst ys)->Q (.ref L) H):lcGo L (Itr lo n) (Y8 0) tYes te (none::tl) H1 Q:=by
 refine⟨n,fun i σ ys H=>(∃x,σ=x::tl)/\C i ys H,hn,⟨⟨none,rfl⟩,h0⟩,?_,?_⟩
 ·rintro i σ ys H hi ⟨⟨x,rfl⟩,U⟩ Y hy;refine⟨hi,?_⟩;rintro x' H' ⟨rfl,rfl⟩;dsimp only [Y8,tYes,List.set];rw [if_pos rfl];exact hs i ys H' hi U Y hy _ fun y O e c=>⟨e,⟨_,rfl⟩,c⟩
 ·rintro σ ys H ⟨_,U⟩ Y;exact⟨Nat.le_refl _,hQ ys H U Y⟩
theorem inV_str (z:Str)(l:List Str):inV (.str z) (l.map V.str)=decide (z∈l):=by
 unfold inV;rw [List.any_map,vk,List.any_eq_true,decide_eq_true_eq];constructor
 ·rintro⟨x,U,e⟩;have O:(x==z)=true:=e;rw [UC] at O;exact O▸U
 ·intro h;exact⟨z,h,by show(z==z)=true;exact beq_self_eq_true z⟩
theorem Y9:∀(x y:Str) (r:List Str),(Str.join " " (x::y::r)).cps.toList=x.cps.toList++32::(Str.join " " (y::r)).cps.toList:=by
 intro x y r;show((x.cps++(" ":Str).cps)++(Str.join " " (y::r)).cps).toList=_;rw [ur,ur,jZ];simp
abbrev Free (z:Str):Prop:=32∉z.cps.toList
theorem spl_join:∀(l:List Str) (z:Str) (n:Nat),(∀p∈l,Free p)->(n=0∨Free z)->spl (l.length+n) (Str.join " " (l++ [z]))=l++ [z]
 | [],z,n,_,hz=>by
  show spl (0+n) z= [z];rw [Nat.zero_add];unfold spl;rcases hz with rfl|hz
  ·rw [cutL];show [ofL z.cps.toList]= [z];rw [Qu]
  ·rw [yV hz];show [ofL z.cps.toList]= [z];rw [Qu]
 |p::l,z,n,hl,hz=>by
  have O:=spl_join l z n (fun q U=>hl q (u5 _ U)) hz;have Y:Free p:=hl p ui;obtain⟨y,r,e⟩:∃y r,l++ [z]=y::r:=by cases l<;>exact⟨_,_,rfl⟩
  show spl ((l.length+1)+n) (Str.join " " (p::(l++ [z])))=p::(l++ [z]);rw [e] at O⊢;unfold spl at O⊢;rw [Y9,show l.length+1+n=(l.length+n)+1 by omega,Xh Y,ua,O,Qu]
def VE:List Value:= [.type "ValueError",.type "Exception",.type "BaseException",.type "object"]
def CX1 (P:Program)(w:World):CXT:=fun outer H s E e s'=>∃(ea C:Addr) (a0:Value) (H':Hp) (B:Heap),e= .ref ea/\s'.os=s.os/\AllBare s'.gens/\0<s'.toks/\Un (frs outer) [] H H' s.heap s'.heap/\HOk P w H' B/\
 Heap.FlyingW B outer ea (.ref C) a0 s'.heap/\(∀b o,s.heap.get? b=some o->b∉frs outer->∃o',B.get? b=some o')/\E (.ref ea) (some C) H'
theorem cls_in {K:PySem.W.Frag}{h:Heap}{C:Addr}{bmB:List Value}{newId:String}(X:K.In h)(q:PySem.W.excIn K C bmB newId=true):
  ∃bm N nm Y bs hdct sn sub ab col dd k0 k1 k2 k3 k5 mN,h.get? C=some (excClassObj nm Y C N bs bm hdct sn sub ab col dd k0 k1 k2 k3 k5 newId)/\h.Ns N mN/\mN "__init__"=none/\OwnTail h bmB bm:=by
 unfold PySem.W.excIn at q;split at q
 ·rename_i dd cd sl ho
  split at q
  ·rename_i C' bm k0 k1 k2 k3 n k5 hm hs
   simp only [uH,UC,Bool.not_eq_true'] at q;obtain⟨⟨⟨⟨⟨rfl,rfl⟩,O⟩,ht⟩,hok⟩,U⟩:=q;obtain⟨nm,bs,aa,ns,Y,hd,sn,sub,ab,col,ac⟩:=cd;dsimp only at hm O hok U;subst hm O;obtain⟨l⟩:=sl;simp only at hs;subst hs;exact⟨bm,ns,nm,Y,bs,hd,sn,sub,ab,col,dd,k0,k1,k2,k3,k5,_,X _ _ ho,.of_isNs (PySem.W.isNs_of_in X hok),PySem.W.nsMap_none_of_in X hok U,PySem.W.tail_of_in X ht⟩
  ·cases q
 ·cases q
theorem Jw {h base B:Heap}:∀{l:List Env},h.FunFrames base l->(∀b∈frs l,B.get? b=none)->h.FunFrames B l
 | [],_,_=>trivial
 |env::r,⟨hk,⟨L,o,hf,hn,ho,hd⟩,hr⟩,hB=>by
  have e:frs (env::r)=L::frs r:=by unfold frs;rw [vg,hf]
  rw [e] at hB;exact⟨hk,⟨L,o,hf,hB L ui,ho,hd⟩,Jw hr fun b O=>hB b (u5 _ O)⟩
def tRaise (E:XK)(C:Addr)(ta:TE):TS:=fun _ σ H=>tCons ta tNil σ H fun vs H1=>vs.length=1/\∀e,E (.ref e) (some C) H1
theorem yF {P:Program}{w:World}{K:PySem.W.Frag}{mg:Str->Option Value}{base:Heap}{N:List Str}{qual:Str}{scope:Scope}{f:Addr}{U:Value}{A:Around}{outer:List Env}{s₀:Shared}{H₀:Hp}{E:XK}
  {x:Str}{C:Addr}{np cpos pos:Pos}{aa:Expr}{ta:TE} (hx:PySem.W.excIn K C VE "ValueError.__new__"=true) (hg:Gl (cxOf (CX1 P w) P w K mg base N qual scope f U A outer s₀ H₀ E) x) (hm:mg x=some (.ref C))
  (ha:PE (cxOf (CX1 P w) P w K mg base N qual scope f U A outer s₀ H₀ E) aa ta) (hd:(x==("__debug__":Str))=false:=by decide)
  (hs:starEach [aa] (envOfC qual scope s₀.heap.objs.size f U)= [(false,eval aa (envOfC qual scope s₀.heap.objs.size f U))]:=by rfl):
  PS (cxOf (CX1 P w) P w K mg base N qual scope f U A outer s₀ H₀ E) (.Raise (some (.Call (.Name x np) [aa] [] cpos)) none pos) (tRaise E C ta):=by
 intro pins s σ H D I h;obtain⟨bm,Nn,nm,q,bs,hdct,sn,sub,ab,col,dd,k0,k1,k2,k3,k5,mN,hC,hN,ao,T⟩:=cls_in I.mod.kin hx;have hT:bm.contains (.type "BaseException")=true:=T.hasType (by decide)
 refine wpAny_Raise_call_subT (C:=C) (nm:=nm) (q:=q) (N:=Nn) (bs:=bs) (bm:=bm) (hdct:=hdct) (sn:=sn) (sub:=sub) (ab:=ab) (col:=col) (dd:=dd) (k0:=k0) (k1:=k1) (k2:=k2) (k3:=k3) (k5:=k5)
  (mN:=mN) F.excBase_ValueError hT (I.ok.hd rfl) (by show(backTo cpos (starEach [aa] (envOfC qual scope s₀.heap.objs.size f U))).any (·.1)=false;rw [hs];rfl) ao (yD I hg hm ⟨rfl,?_⟩ hd)
 have ap:PA (cxOf (CX1 P w) P w K mg base N qual scope f U A outer s₀ H₀ E) [aa] (tCons ta tNil):=qa ha qb hs;have hp:=ap cpos pins s σ H (fun vs H1=>vs.length=1/\∀e,E (.ref e) (some C) H1) I h;show wpAny _ _ (evalArgs (.ref C) true (backTo cpos (starEach [aa] (envOfC qual scope s₀.heap.objs.size f U))) []) _ _ s;have aq:starEach [aa] (cxOf (CX1 P w) P w K mg base N qual scope f U A outer s₀ H₀ E).env= [(false,eval aa (envOfC qual scope s₀.heap.objs.size f U))]:=hs;rw [aq] at hp;rw [hs];refine Calls.evalArgs_plain (uJ hp (fun vs s₂ h₂=> ?_) fun _ _ y=>y);obtain⟨ws,H2,I2,r2,q2⟩:=h₂;obtain⟨hl,q2⟩:=q2;have bk:=I2.bk;have au:vs.length<=sizeLine:=by rw [<-r2.length,hl];decide
 refine⟨rfl,au,bk _ _ hC,hN.keeps bk,T.keeps bk,fun h' e ad=> ?_⟩;show wpAny (model P w) (A.deeper (envOfC qual scope s₀.heap.objs.size f U)) (leaving (envOfC qual scope s₀.heap.objs.size f U) (.ref e)) (fun _ ag=>CX1 P w outer H₀ s₀ E (.ref e) ag) (fun e' ag=>CX1 P w outer H₀ s₀ E e' ag) _;have av:(A.deeper (envOfC qual scope s₀.heap.objs.size f U)).frames=some (envOfC qual scope s₀.heap.objs.size f U::outer):=I2.ok.frames;have ai:s₂.heap.FunFrames base (envOfC qual scope s₀.heap.objs.size f U::outer):=I2.stack;have ah:∀b∈frs (envOfC qual scope s₀.heap.objs.size f U::outer),H2 b=none:=I2.stkFree;have aj:frs (envOfC qual scope s₀.heap.objs.size f U::outer)=s₀.heap.objs.size::frs outer:=rfl;have am:s₀.heap.objs.size<=s₀.heap.objs.size:=I2.ok.above;have O:Un (frs outer) [] H₀ H2 s₀.heap s₂.heap:=I2.base;refine wpAny_leaves_madeW (base:=TI.gone s₂.heap (frs (envOfC qual scope s₀.heap.objs.size f U::outer))) (h:=s₂.heap) (L:=s₀.heap.objs.size) av rfl (fun b o e=>(TI.gone_some e).2) (Jw ai fun b Y=>TI.gone_none Y) ad fun ak t af ax _ aw=> ?_;have ae:∀b o,b∉frs (envOfC qual scope s₀.heap.objs.size f U::outer)->s₂.heap.get? b=some o->ak.get? b=some o:=fun b o Y e=>af.1 b o (by rw [UD Y];exact e)
 have slots:∀b o,s₂.heap.get? b=some o->(∀vs,o.data≠ .fields vs)->∃sl,ak.get? b=some {o with slots:=sl}:=fun b o e hn=>aw b o (ad.keeps b o e) hn
 have nd:∀b∈frs outer,∀o,s₂.heap.get? b=some o->∀vs,o.data≠ .fields vs:=fun b Y o e=>by
  obtain⟨_,o',e',hn⟩:=ai.mem (show b∈(envOfC qual scope s₀.heap.objs.size f U::outer).filterMap (·.frame) from by rw [show(envOfC qual scope s₀.heap.objs.size f U::outer).filterMap (·.frame)=frs (envOfC qual scope s₀.heap.objs.size f U::outer) from rfl,aj];exact u5 _ Y)
  rw [e] at e';cases e';exact hn
 have ac:∀b o,s₀.heap.get? b=some o->b∉frs outer->b∉frs (envOfC qual scope s₀.heap.objs.size f U::outer):=fun b o e Y hm=>by
  rw [aj] at hm;rcases List.mem_cons.mp hm with rfl|hm
  ·exact absurd (ug e) (uS _)
  ·exact Y hm
 refine⟨e,C,.ref t,H2,_,rfl,I2.os,I2.bare,(by first|exact I2.tk|exact Nat.lt_of_lt_of_le I2.tk (Nat.le_add_right _ _)|((try dsimp only);first|assumption|exact Inv.tk (by assumption)|exact Nat.succ_pos _|exact Nat.lt_of_lt_of_le (Inv.tk (by assumption)) (by assumption)|exact Nat.add_pos_left (Inv.tk (by assumption)) _|omega)),⟨?_,?_,O.free,?_,O.tups,O.frzs,O.tbls⟩,?_,af,?_,q2 e⟩
 ·intro b o e1 hn Y hx;exact ae b o (ac b o e1 Y) (O.keep b o e1 hn Y hx)
 ·intro b o e1 hn Y hx;obtain⟨sl,e2⟩:=O.slot b o e1 hn Y hx;obtain⟨al,e3⟩:=slots b _ e2 (nd b Y _ e2);exact⟨al,e3⟩
 ·intro b o e1 hx;obtain⟨o',e2⟩:=O.there b o e1 hx;by_cases Y:b∈frs outer
  ·obtain⟨al,e3⟩:=slots b _ e2 (nd b Y _ e2);exact⟨_,e3⟩
  ·exact⟨o',ae b o' (ac b o e1 Y) e2⟩
 ·intro b u Y;refine(I2.hok b u Y).stay (fun c v hc q=> ?_) (fun _ q=>q) fun _ _ q=>q;rw [UD]
  ·exact q
  ·intro hm;have hn:=ah c hm;rcases hc with z|z
   ·rw [z,Y] at hn;cases hn
   ·rw [z] at hn;cases hn
 ·intro b o e1 Y;obtain⟨o',e2⟩:=O.there b o e1 (by simp)
  exact⟨o',by rw [UD (ac b o e1 Y)];exact e2⟩
abbrev Cx.marked (X:Cx)(ee:Addr)(xe:Value->Shared->Prop):Cx:={X with A:=X.A.mark (some (.ref ee)),calm:=false,xe:=xe}
section
variable {X:Cx}{pins:List (Addr×Obj)}{σ:St}{H:Hp}{s:Shared}{ee:Addr}{xe:Value->Shared->Prop}
theorem Cx.Ok.marked (ok:X.Ok):(X.marked ee xe).Ok:=
 ⟨ok.mod,ok.kind,ok.glob,ok.blt,ok.above,ok.inj,ok.has,ok.cab,(fun z=>absurd z uc),ok.frames,ok.stk,ok.exf,ok.bs,ok.bsz,ok.noex,ok.exfs,ok.funs,ok.frf⟩
theorem Inv.marked (I:Inv X pins σ H s):Inv (X.marked ee xe) pins σ H s:=⟨I.ok.marked,I.os,I.bare,I.base,I.loc,I.cell,I.free,I.freeC,I.pin,I.hok,I.len,I.tk⟩
theorem Inv.unmarked (ok:X.Ok)(I:Inv (X.marked ee xe) pins σ H s):Inv X pins σ H s:=⟨ok,I.os,I.bare,I.base,I.loc,I.cell,I.free,I.freeC,I.pin,I.hok,I.len,I.tk⟩
theorem SP.unmarked (ok:X.Ok){D:Ends}{f:Flow}{s':Shared}(h:SP (X.marked ee xe) pins D f s'):SP X pins D f s':=by
 cases f with
 |next=>obtain⟨O,H',I,q⟩:=h;exact⟨O,H',I.unmarked ok,q⟩
 |brk=>obtain⟨O,H',I,q⟩:=h;exact⟨O,H',I.unmarked ok,q⟩
 |cont=>obtain⟨O,H',I,q⟩:=h;exact⟨O,H',I.unmarked ok,q⟩
 |ret u=>obtain⟨v,O,H',I,r,q⟩:=h;exact⟨v,O,H',I.unmarked ok,r,q⟩
end
theorem Fun.okX {P:Program}{w:World}{K:PySem.W.Frag}{mg:Str->Option Value}{base:Heap}{x qual:Str}{st:Stmt}{f:Addr}{fd:FuncData}{N ps:List Str}{k:Nat}{sp:Sp}(F:Fun K x qual st f fd)(S:qw N ps (qj st))(len:∀vs H Q E,sp vs H Q E->vs.length=ps.length)
  (O:∀(cdv:Value) (A:Around) (outer:List Env) (s:Shared) (H:Hp) (vs:List V) (Q:VK) (E:XK),Room k (A.deeper (envOfC qual (qj st) s.heap.objs.size f cdv))->sp vs H Q E->
   ∃t,PSs (cxOf (CX1 P w) P w K mg base N qual (qj st) f cdv A outer s H E) (yf st) t/\t {nx:=fun _ H'=>Q .non H',rt:=Q} (xh N vs) H):FnOk P w K mg base (CX1 P w) (k+1) f fd ps sp:=by
 obtain⟨oc,od,kV,doc,pm,an,cdv,ct,osl,rfl,lk,U⟩:=F.ex;exact fn_of lk U S len fun A outer s H vs Q E hr Y=>O cdv A outer s H vs Q E hr Y
def ExcO (a C:Addr):HO:= .ext fun h=>∃o,h.get? a=some o/\o.cls= .ref C/\PySem.W.notCls o=true
theorem qU.here {P:Program}{w:World}{H:Hp}{h:Heap}{a:Addr}{o:HO}(x:qU P w H h a o):∃u,h.get? a=some u:=by
 cases o with
 |lst xs=>obtain⟨_,_,_,_,e⟩:=x;exact⟨_,e⟩
 |tup xs=>obtain⟨_,_,_,u,e,_⟩:=x;exact⟨_,e⟩
 |dK kvs=>obtain⟨_,_,_,_,u,_,_,e,_⟩:=x;exact⟨_,e⟩
 |dT kvs=>obtain⟨_,_,_,_,u,_,_,e,_⟩:=x;exact⟨_,e⟩
 |set S n=>obtain⟨u,_,_,_,e,_⟩:=x;exact⟨_,e⟩
 |ins C dx fs=>obtain⟨_,_,_,e,_⟩:=x;exact⟨_,e⟩
 |own y=>exact x
 |xd fs=>obtain⟨_,⟨_,_,_,e,_⟩,_⟩:=x;exact⟨_,e⟩
 |rng lo hi=>obtain⟨_,_,_,e⟩:=x;exact⟨_,e⟩
 |frz ob u=>obtain⟨e,_⟩:=x;exact⟨_,e⟩
 |tbl ps=>exact⟨_,show h.get? a=some _ from x⟩
 |met f y=>exact⟨_,show h.get? a=some _ from x⟩
 |ext φ=>obtain⟨_,q,_⟩:=x;exact q
def Ends.less (D:Ends)(i:Nat):Ends:={nx:=fun σ H=>D.nx (σ.set i none) H,rt:=D.rt,bk:=fun σ H=>D.bk (σ.set i none) H,ct:=fun σ H=>D.ct (σ.set i none) H}
section
variable {X:Cx}{pins:List (Addr×Obj)}{σ:St}{H:Hp}{s:Shared}
theorem Y4 {M:Model}{A:Around}{E:Value->Shared->Prop}{i:Nat}{x:Str}{pos:Pos}{Q:Unit->Shared->Prop}(I:Inv X pins σ H s)(hN:X.N.Nodup)(hi:X.N[i]? =some x)(Y:X.env.scope.names.lookup x=some .local)
  (h:∀s',Inv X pins (σ.set i none) H s'->Q () s'):wpAny M A (do bindName X.env x .none;unbindBehindTheSuite X.env x pos) Q E s:=by
 have hk:X.env.kindOf x=some .local:=Y;have ac:(X.env.scope.kind== .class||(X.env.scope.kind== .module&&X.env.locals !=X.env.globals))=false:=by rw [I.ok.kind];rfl
 have ad:i<σ.length:=by rw [I.len];exact(List.getElem?_eq_some_iff.mp hi).1
 refine wpAny_bind (wpAny_bindName (jj (v:= .non) I hN hi (.inl Y) rfl (fun s1 O=> ?_) (.inr Y)));obtain⟨m,hn,hl⟩:=id O.loc;have aa:(m x).isSome=true:=by
  obtain⟨u,ru,q⟩:=hl i x .non hi (by rw [vV ad]) (.inl Y)
  rcases q with⟨_,e⟩|⟨k,_⟩
  ·rw [e];rfl
  ·rw [hk] at k;rcases k with k|k<;>cases k
 unfold unbindBehindTheSuite;refine wpAny_onRaise ?_;unfold unbindName;refine wpAny_bind (wpAny_point (wpAny_bind ?_));unfold deleteName;simp only [hk,ac];rw [if_neg (by decide)]
 refine wpAny_bind (wpAny_nsDel_keeps hn fun h2 v ae U=> ?_);rw [aa];simp only [Ug,Bool.not_true,uC,vK];have cne:=O.cne;have ok2:HOk X.prog X.w H h2:=HOk.sameBut O.hok O.free U;have I2:Inv X pins (σ.set i none) H {s1 with heap:=h2}:=by
  refine⟨O.ok,O.os,O.bare,⟨fun b o e n hb Y=> ?_,fun b o e n hb Y=> ?_,O.base.free,fun b o e Y=> ?_,O.base.tups,O.base.frzs,O.base.tbls⟩,⟨_,ae,fun j y v' e1 e2 e3=> ?_⟩,fun y c e=> ?_,O.free,O.freeC,fun p hp=> ?_,ok2,by rw [List.length_set];exact I.len,O.tk⟩
  ·exact(U.2 b (uu (Nat.lt_of_lt_of_le (ug e) O.ok.above))).trans (O.base.keep b o e n hb Y)
  ·obtain⟨sl,e1⟩:=O.base.slot b o e n hb Y;exact⟨sl,(U.2 b (uu (Nat.lt_of_lt_of_le (ug e) O.ok.above))).trans e1⟩
  ·obtain⟨o',e1⟩:=O.base.there b o e Y;exact⟨o',(U.2 b (uu (Nat.lt_of_lt_of_le (ug e) O.ok.above))).trans e1⟩
  ·by_cases hj:j=i
   ·subst hj;rw [vV ad] at e2;cases e2
   ·rw [U8 (uY hj)] at e2;obtain⟨u',r',q⟩:=hl j y v' e1 (by rw [U8 (uY hj)];exact e2) e3
    refine⟨u',r',?_⟩;rcases q with⟨k,e⟩|⟨k,c,e,z⟩
    ·refine .inl ⟨k,?_⟩;have af:y≠x:=fun e=>hj (j5 hN e1 (e▸hi));simp [af,e]
    ·exact .inr ⟨k,c,e,z.sameBut U (cne y c e)⟩
  ·obtain⟨w',z⟩:=O.cell y c e;exact⟨w',z.sameBut U (cne y c e)⟩
  ·obtain⟨e,n,ne,nf,d⟩:=O.pin p hp;exact⟨(U.2 p.1 ne).trans e,n,ne,nf,d⟩
 exact u9 (wpAny_point (h _ I2))
end
end L2
namespace PySem.AwV
open PySem PySem.Calls PyProof.Rows Builtin Builtin.ObjectAttr Builtin.Getset_descriptor PySem.W
structure JP (K:Frag)(C:Addr):Prop where
 ga:findIn K (.ref C) "__getattribute__"=some (some (.builtin "BaseException.__getattribute__"))
 gt:findIn K (.ref C) "__getattr__"=some none
 cl:findIn K (.ref C) "__class__"=some (some (.builtin "object.__class__"))
 sp:specialIn K (.builtin "object.__class__") "__get__"=some (some (.builtin "getset_descriptor.__get__"))
 tk:takesIn K (.builtin "object.__class__")=some true
 ob:mroIn K C (.type "object")=some true
 be:mroIn K C (.type "BaseException")=some true
def ExcAt (x C:Addr)(h:Heap):Prop:=∃o,h.get? x=some o/\o.cls= .ref C/\notCls o=true
section
variable {prog:Program}{w:World}{A:Around}{E:Value->Shared->Prop}{s:Shared}{K:Frag}{x C:Addr}
theorem Y2 {M:Model}{h:Heap}(I:ExcAt x C h):Looks M h (typeOf (.ref x)) (.ref C):=by
 obtain⟨o,e,c,_⟩:=I;exact c▸(Looks.ld e).andThen .now
theorem exc_find {M:Model}{h:Heap}(X:K.In h)(Z:JP K C):Looks M h (find (.ref x) (.ref C) "__class__") (.bind (.builtin "getset_descriptor.__get__") (.builtin "object.__class__")):=by
 refine(looks_findIn (M:=M) X Z.cl).andThen (Looks.andThen (a:=some (.builtin "getset_descriptor.__get__")) (show Looks M h (getOf (some _)) _ from looks_specialIn X Z.sp) ?_)
 have O:=looks_takesIn (M:=M) X Z.tk;exact(show Looks M h (dataDescriptor? (some _) (some _)) (some (_,_)) from
  O.andThen .now).andThen (Looks.tag .now)
theorem exc_get {O:Value}{R:Result->Shared->Prop}(X:K.In s.heap)(I:ExcAt x C s.heap)(Z:JP K C)(h:R (.ok (.ret (.ref C))) s):
  codeAny (model prog w) A (.call (.builtin "getset_descriptor.__get__") ⟨[.builtin "object.__class__",.ref x,O],[]⟩) R s:=by
 obtain⟨U,g,Y,t,os⟩:=s;have L0:=Y2 (M:=model prog w) I;have L1:=looks_mroIn (M:=model prog w) X Z.ob;have ck:=KF.slot_gs.check (model prog w) A;refine vc KF.slot_gs.plain KF.entry_gs
  (KF.slot_gs.check _ _ _ _ _ _ _ _ KF.type_class (KF.args_gs _ _ _) ?_)
 unfold Builtin.«getset_descriptor.__get__»;unfold descrGet;rw [dga_obj];refine wpAny_bind (u9 ?_);unfold descrGetter descrCheckInstance;unfold descrNameAndClass isInstance;simp only [KF.owner_class]
 repeat lk
 refine⟨Ui _ (by decide+kernel),
  Uj KF.entry_class ?_⟩
 unfold Builtin.«object.__class__» shownTypeOf
 repeat lk
 exact h
theorem exc_check {rest:List Value}{Q:Unit->Shared->Prop}(X:K.In s.heap)(I:ExcAt x C s.heap)(Z:JP K C)(ha:argsOk "BaseException.__getattribute__" ⟨.ref x::rest,[]⟩)(h:Q () s):
  wpAny (model prog w) A (checkBuiltinCall "BaseException.__getattribute__" ⟨.ref x::rest,[]⟩) Q E s:=by
 have O:splitId "BaseException.__getattribute__"=some ("BaseException","__getattribute__"):=by decide+kernel
 have hk:builtinKind "BaseException.__getattribute__"=some .slot:=by
  simp only [builtinKind,O]
  decide+kernel
 have LI:Looks (model prog w) s.heap (isInstance (.ref x) (.type "BaseException")) true:=(Y2 I).andThen (looks_mroIn X Z.be);simp only [checkBuiltinCall,hk,O];refine wpAny_bind (LI A _ E s (fun _ _ e=>e) ?_);simp only [Bool.not_true,uC,vK];cases U:Manifest.signature? "BaseException.__getattribute__" with
 |none=>exact u9 h
 |some Y=>
  simp only [argsOk,U] at ha;have h2:Bind.checkArgs "BaseException.__getattribute__" Y ⟨.ref x::rest,[]⟩=pure ():=ha;exact(show wpAny (model prog w) A (Bind.checkArgs _ Y _) Q E s from by
   rw [h2];exact u9 h)
theorem exc_entry {tk:Tok}{Q:Fin->Shared->Prop}(X:K.In s.heap)(I:ExcAt x C s.heap)(Z:JP K C)(h:Q (.done (.ret (.ref C))) s):
  wpAny (model prog w) A (Builtin.«object.__getattribute__» ⟨[.ref x,.str "__class__" tk],[]⟩) Q E s:=by
 have O:=I;have U:=X;obtain⟨hh,g,dr,t,os⟩:=s;have Y:=Y2 (M:=model prog w) I;have L1:=exc_find (M:=model prog w) (x:=x) X Z;refine wpAny_bind (u9 (wpAny_bind (u9 (wpAny_bind (Y.at (wpAny_bind (L1.at ?_)))))));show wpAny (model prog w) A (holding [.builtin "object.__class__"] (call (.builtin "getset_descriptor.__get__") [.builtin "object.__class__",.ref x,.ref C])>>=ret) Q E _;refine wpAny_bind (wpAny_holding (U5 (exc_get U O Z ?_)));exact u9 h
theorem exc_class {Q:Option Value->Shared->Prop}(X:K.In s.heap)(I:ExcAt x C s.heap)(Z:JP K C)(h:Q (some (.ref C)) {s with toks:=s.toks+1}):
  wpAny (model prog w) A (getAttr? (.ref x) "__class__") Q E s:=by
 have O:=I;have U:=X;obtain⟨Y,g,dr,t,os⟩:=s;have L0:=Y2 (M:=model prog w) I;have L1:=looks_findIn (M:=model prog w) X Z.ga;have L2:=looks_findIn (M:=model prog w) X Z.gt;have f3:=F.excAttr_ValueError.ga.bind (.ref x);unfold getAttr? getAttrBy?;refine wpAny_bind (wpAny_mkText (wpAny_bind (vQ ?_)));unfold getAttrBy;refine wpAny_holding (wpAny_bind (L0.at (wpAny_bind (L1.at ?_))));show wpAny (model prog w) A (getAttrByItsOwn (.ref x) _ (.ref C) (.builtin "BaseException.__getattribute__") false false) _ _ _;unfold getAttrByItsOwn;refine wpAny_bind ((show Looks (model prog w) Y (hookBefore (.ref C)) none from L2).at ?_)
 refine wpAny_bind (vQ (wpAny_holding ?_));show wpAny (model prog w) A (boundAndCalled (.builtin "BaseException.__getattribute__") (.ref x) _) _ _ _;unfold boundAndCalled;rw [f3];refine wpAny_bind (u9 (U5 (vc F.excAttr_ValueError.ga.plain F.entry_bexc_ga (exc_check U O Z (F.args_bexc_ga _ _) (exc_entry U O Z ?_)))));show wpAny (model prog w) A (handedOut (.ref C)) _ _ _;rw [handedOut_of (show handedIn (.ref C)=true from rfl)]
 exact u9 (u9 h)
theorem exc_kit (Z:JP K C):KitX K (.ref x) (.ref C) (ExcAt x C) where
 ty:=fun _ _ _ I=>Y2 I
 it:=fun M h X _=>by
  obtain⟨cd,O,_⟩:=Option.bind_eq_some_iff.mp Z.ob;unfold clsIn at O;split at O
  ·rename_i U
   intro A' Q' E' s' k q;unfold isType loadHead;exact wpAny_bind (wpAny_loadPart (k _ _ (X _ _ U))
    (u9 q))
  ·cases O
 ne:=fun h tp dd its n sl X Y=>by
  obtain⟨cd,O,_⟩:=Option.bind_eq_some_iff.mp Z.ob;refine Bool.eq_false_iff.mpr fun q=> ?_;have e:C=tp:=Value.ref.inj (beq_iff_eq.mp q);subst e;unfold clsIn at O;split at O
  ·rename_i U
   have z:=(X _ _ U).symm.trans Y;cases z
  ·cases O
 ca:=fun X I q=>exc_class X I Z q
end
end PySem.AwV
namespace L2
open PySem PySem.Spec PyProof.Rows
inductive TyX (K:PySem.W.Frag) (H:Hp):V->Value->Prop where
 |ty {x:V}{t:Value} (h:TyOf K H x t):TyX K H x t
 |exc {a C:Addr} (h:H a=some (ExcO a C)) (Z:AwV.JP K C):TyX K H (.ref a) (.ref C)
section
variable {X:Cx}{pins:List (Addr×Obj)}{σ:St}{H:Hp}{s:Shared}
inductive ClsV:V->Value->Prop where
 |ty (T:String):ClsV (.ty T) (.type T)
 |own (C:Addr):ClsV (.ref C) (.ref C)
theorem isinst_x {x:V}{u t c:Value}{b:Bool}{A:Around}{E:Value->Shared->Prop}{Q:Value->Shared->Prop}(I:Inv X pins σ H s)(O:RelV x u)(ty:TyX X.K H x t)(e:PySem.W.kitOne X.K t c=some b)(h:∀tk,Q (.bool b) {s with toks:=tk}):
  wpAny (model X.prog X.w) A (call (.builtin "isinstance") [u,c]) Q E s:=by
 cases ty with
 |ty z=>exact isinst_ok I O z e h
 | @exc a C ea Z=>
  cases(show u=Value.ref a from O)
  obtain⟨p,_,_⟩:=(show qU X.prog X.w H s.heap a (ExcO a C) from I.hok a _ ea)
  exact uT (AwV.exc_kit Z) I.kIn p e (fun z=>nomatch z) h
theorem jM {K:PySem.W.Frag}(U:X.K=K):ye X (.builtin "isinstance") (fun xs H Q=>∃x y c t b,xs= [x,y]/\ClsV y c/\TyX K H x t/\PySem.W.kitOne K t c=some b/\Q (.bl b) H):=by
 intro pins s σ H xs us Q I r h;obtain⟨x,y,c,t,b,rfl,Y,ty,e,q⟩:=h;obtain⟨u,u',rfl,ru,O⟩:=vals2 r;subst U;have e':u'=c:=by cases Y<;>exact O
 subst e';exact uB (n:=1) I.tk (isinst_x I ru ty e fun tk htk=>⟨.bl b,H,I.tok tk,rfl,q⟩)
theorem vals_refs:∀{cs:List Addr}{its:List Value},Vals (cs.map V.ref) its->its=cs.map Value.ref
 | [],_,h=>by cases h;rfl
 |c::cs,_,h=>by
  cases h with
  |cons O U=>
   rw [vals_refs U,show _=Value.ref c from O]
   rfl
end
section
variable {X:Cx}
theorem jO:∀{ls:List Str}{its:List Value},Vals (ls.map V.str) its->StrsAre its ls
 | [],_,h=>by cases h;exact .nil
 |z::ls,_,h=>by
  cases h with
  |cons O U=>
   obtain⟨t,e⟩:=O;rw [e];exact .cons z t (jO U)
theorem jI:∀{ls:List Str}{its:List Value},StrsAre its ls->Vals (ls.map V.str) its
 |_,_,.nil=> .nil
 |_,_,.cons x t h=> .cons ⟨t,rfl⟩ (jI h)
theorem vals_ext:∀{xs:List V}{us:List Value},xs.length=us.length->(∀(j:Nat) (x:V) (v:Value),xs[j]? =some x->us[j]? =some v->RelV x v)->Vals xs us
 | [],[],_,_=> .nil
 |x::xs,u::us,hl,h=> .cons (h 0 x u rfl rfl) (vals_ext (by simpa using hl) fun j y v h1 h2=>h (j+1) y v (by simpa using h1) (by simpa using h2))
 | [],_::_,hl,_=>by simp at hl
 |_::_,[],hl,_=>by simp at hl
theorem call_sortedD (hc:X.calm=true):ye X (.builtin "sorted") (fun xs H Q=>∃(d:Addr) (kvs:List (Key×V)) (ls:List Str),xs= [.ref d]/\H d=some (.dK kvs)/\kvs.map (·.1)=ls.map Sum.inr/\ls.length<64/\∀(Y:List Str) (q:Addr),Y.Perm ls->sortedS Y=true->H q=none->Q (.ref q) (upd H q (.lst (Y.map V.str)))):=by
 intro pins s σ H xs us Q I r h;obtain⟨d,kvs,ls,rfl,hd,hk,ak,q⟩:=h;obtain⟨u,rfl,ru⟩:=yR r;cases ru;obtain⟨hz,lo,vs,ae,dd⟩:=dk_of I.hok hd;obtain⟨o,es,ep,ho⟩:=id dd;have af:s.heap.DictAt (qL X.prog X.w) d vs ep:=⟨o,es,ho⟩;have aa:vs.length=ls.length:=by
  have h1:=congrArg List.length hk;rw [u3,u3] at h1;rw [<-ae.length,h1]
 refine uB (n:=1) I.tk ?_;refine PySem.Calls.call_function_entry kind_sorted plain_sorted entry_sorted (args_sorted1 _) ?_;unfold Builtin.«sorted»;refine wpAny_bind (m:=checkCount "sorted" 1 1 _) (u9 ?_);refine wpAny_bind (PySem.W.kdu_collect (A:=X.A.in1) (PySem.W.kdl_dict lo) (I.ok.hd hc) af (by rw [aa,uk];omega) fun h' tk U ag O=> ?_)
 have hS:StrsAre U.toList ls:=by
  refine jO (vals_ext (by rw [u3,Ud];exact aa.symm.trans O.1.symm) fun j x v hx hv=> ?_)
  rw [um] at hx;cases ac:ls[j]? with
  |none=>rw [ac] at hx;cases hx
  |some z=>
   rw [ac] at hx;cases hx;obtain⟨k,y,e1,e2⟩:=O.2 j v (by rw [<-Array.getElem?_toList];exact hv)
   have e3:(kvs.map (·.1))[j]? =some k:=by
    rw [ae.keys,um,e1]
    rfl
   rw [hk,um,ac] at e3;cases e3;rcases qO (show keyIs (Sum.inr z) v=true from e2) with⟨i,t,e4,e5⟩|⟨z',t,e4,e5⟩
   ·cases e4
   ·cases e4;exact⟨t,e5⟩
 have ah:U.toList.length=ls.length:=by rw [Ud,O.1,aa]
 refine wpAny_bind (UB ?_ (by rw [ah,uk];omega))
 have ad:(h'.push (seqObj "list" U.toList.toArray 0)).get? h'.objs.size=some (seqObj "list" U.toList.toArray 0):=uh _ rfl;refine wpAny_bind (wpAny_holding (Ux slot_list_sort ⟨_,ad,rfl⟩ entry_list_sort (list_sort_treeK strKind_oneLt ad hS.keysOf (fun v₁ v₂ rest e=>keyKind_strs (by rw [<-e];exact hS)) (by omega) fun ai a1 a2=>⟨_,rfl,?_⟩) (args_list_sort _)))
 refine u9 ⟨_,rfl,?_⟩;obtain⟨Y,b1,b2,b3⟩:=sorted_out_str hS a1 a2;obtain⟨e,he⟩:=sortedHeap_at (out:=(arrOf ai).map (·.2)) ad;have aj:Y.length=ls.length:=b2.length_eq;intro htk;have I':Inv X pins σ H {s with heap:=h',toks:=tk}:=I.kept ag
 refine⟨.ref h'.objs.size,_,I'.laid (t':=tk) (o:= .lst (Y.map V.str)) (fun b u w=> ?_) (Nat.le_refl _) ⟨?_,_,e,jI b1,he⟩,rfl,q Y _ b2 b3 (I'.hok.fresh (Nat.le_refl _))⟩
 ·have hb:=ug w;rw [sortedHeap_old (uu hb) (by rw [size_push'];exact Nat.lt_succ_of_lt hb)]
  exact u4 _ w
 ·rw [u3,aj,uk];omega
theorem kV_rel {k:Key}{v:Value}(h:keyIs k v=true):RelV (kV k) v:=by
 rcases qO h with⟨i,t,rfl,rfl⟩|⟨z,t,rfl,rfl⟩
 ·exact⟨t,rfl⟩
 ·exact⟨t,rfl⟩
end
end L2
namespace PySem.AwK
open PySem Builtin Builtin.ObjectAttr
theorem lk_keys:typeLookup (.type "list") "keys"=pure none:=by rw [typeLookup_type,builtinLookup_eq_fast];kernel_rfl
section
variable {prog:Program}{w:World}{A:Around}{E:Value->Shared->Prop}{s:Shared}
theorem Xu:isSubtype (.type "AttributeError") (.type "AttributeError")=pure true:=by rw [isSubtype_type];kernel_rfl
theorem raise_attr {α:Type}{o:Value}{name O:Str}{Q:α->Shared->Prop}(hh:A.handled=none)(hm:O.length<=sizeLine)
  (hq:∀h' ac e,(∀b ob,s.heap.get? b=some ob->h'.get? b=some ob)->(∃oe,h'.get? e=some oe/\oe.cls= .type "AttributeError")->E (.ref e) {s with heap:=h',toks:=ac}):
  wpAny (model prog w) A (raiseAttrError o name O:Sem α) Q E s:=by
 unfold raiseAttrError;refine wpAny_bind (wpAny_mkStr (wpAny_bind ?_) hm);unfold newExc newTuple;refine wpAny_bind (U6 ?_ (by show(1:Nat)<=sizeLine;rw [uk];decide))
 refine wpAny_bind (m:=firstArgMember _ _) (wpAny_of_eq (a:=Value.none) (by kernel_rfl) ?_)
 obtain⟨h1,aa⟩:∃h1,h1=s.heap.push {cls:= .type "tuple",data:= .seq #[Value.str O s.toks]}:=⟨_,rfl⟩;have k1:∀b ob,s.heap.get? b=some ob->h1.get? b=some ob:=fun b ob e=>by rw [aa];exact u4 _ e
 show wpAny (model prog w) A (newObj (.type "AttributeError") (.fields #[.ref s.heap.objs.size,.none,.none,.none,.bool false,.none,unsetMember,unsetMember])) _ E {s with heap:=s.heap.push {cls:= .type "tuple",data:= .seq #[Value.str O s.toks]},toks:=s.toks+1}
 rw [<-aa];refine U6 ?_ (by unfold sizeOk;first|trivial|(rw [uk];simp)|decide)
 obtain⟨h2,U⟩:∃h2,h2=h1.push {cls:= .type "AttributeError",data:= .fields #[.ref s.heap.objs.size,.none,.none,.none,.bool false,.none,unsetMember,unsetMember]}:=⟨_,rfl⟩;have k2:∀b ob,h1.get? b=some ob->h2.get? b=some ob:=fun b ob e=>by rw [U];exact u4 _ e
 have Y:h2.get? h1.objs.size=some {cls:= .type "AttributeError",data:= .fields #[.ref s.heap.objs.size,.none,.none,.none,.bool false,.none,unsetMember,unsetMember]}:=by rw [U];exact uh _ rfl
 show wpAny (model prog w) A (do let x<-mkText name;noteAttr (.ref h1.objs.size) o x;raiseNew (.ref h1.objs.size)) Q E {s with heap:=h1.push {cls:= .type "AttributeError",data:= .fields #[.ref s.heap.objs.size,.none,.none,.none,.bool false,.none,unsetMember,unsetMember]},toks:=s.toks+1}
 rw [<-U];have ne:∀b ob,h1.get? b=some ob->b≠h1.objs.size:=fun b ob e=>uu (ug e);generalize h1.objs.size=e at Y ne⊢;refine wpAny_bind (wpAny_mkText (wpAny_bind ?_));have hT:∀g d t os,(⟨h2,g,d,t,os⟩:Shared).TypeIs (.ref e) "AttributeError":=fun _ _ _ _=>⟨_,Y,rfl⟩;unfold noteAttr lacksNameAndObj;refine wpAny_bind (wpAny_bind (Uy (hT _ _ _ _) Xu ?_));simp only [Bool.not_true,uC,vK];refine wpAny_bind (wpAny_load Y ?_);dsimp only;rw [if_neg (by simp [unsetMember,rawInt]),if_neg (by simp [unsetMember,doubtfulMember,rawInt])]
 refine u9 ?_;rw [if_pos rfl];refine wpAny_bind (Ur (wpAny_bind (wpAny_typeOf (hT _ _ _ _) ?_)));show wpAny (model prog w) A (layMembers e 6 #[Value.str name (s.toks+1),o]) _ E _;unfold layMembers;refine wpAny_bind (wpAny_load Y ?_);dsimp only;refine wpAny_update Y ?_;have e3:=Heap.get?_update_self (Obj.mapFields fun vs=>vs.extract 0 6++ #[Value.str name (s.toks+1),o]) Y rfl;have k3:∀b ob,b≠e->h2.get? b=some ob->(h2.update e (Obj.mapFields fun vs=>vs.extract 0 6++ #[Value.str name (s.toks+1),o])).get? b=some ob:=fun b ob hb q=>(uz _ _ (uY hb)).trans q;exact wpAny_raiseNew_none hh (hq _ _ e (fun b ob q=>k3 b ob (ne b ob (k1 b ob q)) (k2 b ob (k1 b ob q))) ⟨_,e3,rfl⟩)
end
section
variable {prog:Program}{w:World}{A:Around}{E:Value->Shared->Prop}{h:Heap}{g:Array GenState}{d:Drawn}{t:Nat}{os:OsState}{a:Addr}{its:Array Value}{n:Nat}{sl:Array (Option Value)}
theorem nk_entry {tk:Tok}{Q:Fin->Shared->Prop}(Y:A.handled=none)(hx:h.get? a=some {cls:= .type "list",dict:=none,data:= .seq its n,slots:=sl})
  (hq:∀h' O e,(∀b ob,h.get? b=some ob->h'.get? b=some ob)->(∃U,h'.get? e=some U/\U.cls= .type "AttributeError")->E (.ref e) ⟨h',g,d,O,os⟩):
  wpAny (model prog w) A (Builtin.«object.__getattribute__» ⟨[.ref a,.str "keys" tk],[]⟩) Q E ⟨h,g,d,t,os⟩:=by
 have hT:(⟨h,g,d,t,os⟩:Shared).TypeIs (.ref a) "list":=⟨_,hx,rfl⟩;have f4:=lk_keys
 repeat (any_goals (first|assumption|wp_step))
 exact raise_attr Y (by rw [uk];decide+kernel) hq
theorem nk_call {tk:Tok}{R:Result->Shared->Prop}(hh:A.handled=none)(U:h.get? a=some {cls:= .type "list",dict:=none,data:= .seq its n,slots:=sl})
  (hq:∀h' O e,(∀b ob,h.get? b=some ob->h'.get? b=some ob)->(∃Y,h'.get? e=some Y/\Y.cls= .type "AttributeError")->R (.error (.ref e)) ⟨h',g,d,O,os⟩):
  codeAny (model prog w) A (.call (.builtin "list.__getattribute__") ⟨[.ref a,.str "keys" tk],[]⟩) R ⟨h,g,d,t,os⟩:=
 vc F.slot_list_getattribute.plain F.entry_list_ga (F.slot_list_getattribute.check _ _ _ _ _ _ _ _ (show(⟨h,g,d,t,os⟩:Shared).TypeIs (.ref a) "list" from⟨_,U,rfl⟩) (F.args_list_getattribute_2 _ _) (nk_entry hh U hq))
theorem no_keys {Q:Option Value->Shared->Prop}(hh:A.handled=none)(U:h.get? a=some {cls:= .type "list",dict:=none,data:= .seq its n,slots:=sl})
  (hq:∀h' O,(∀b ob,h.get? b=some ob->h'.get? b=some ob)->Q none ⟨h',g,d,O,os⟩):wpAny (model prog w) A (getAttr? (.ref a) "keys") Q E ⟨h,g,d,t,os⟩:=by
 have hT:∀t,(⟨h,g,d,t,os⟩:Shared).TypeIs (.ref a) "list":=fun t=>⟨_,U,rfl⟩;unfold getAttr? getAttrBy?;refine wpAny_bind (wpAny_mkText (wpAny_bind (vQ ?_)));unfold getAttrBy;refine wpAny_holding (wpAny_bind (wpAny_typeOf (hT _) ?_));rw [F.slot_list_getattribute.lookup];refine wpAny_bind (u9 ?_);show wpAny (model prog w) A (getAttrByItsOwn (.ref a) _ (.type "list") (.builtin "list.__getattribute__") false false) _ _ _;unfold getAttrByItsOwn;refine wpAny_bind (m:=hookBefore _) (u9 ?_);refine wpAny_bind (vQ (wpAny_holding ?_));show wpAny (model prog w) A (boundAndCalled (.builtin "list.__getattribute__") (.ref a) _) _ _ _;unfold boundAndCalled;rw [F.slot_list_getattribute.bind];refine wpAny_bind (u9 (U5 (nk_call hh U fun h' O e k ⟨oe,e1,e2⟩=> ?_)));have Y:∀t,(⟨h',g,d,t,os⟩:Shared).TypeIs (.ref e) "AttributeError":=fun t=>⟨_,e1,e2⟩;show wpAny (model prog w) A (getattributeRaised (.ref a) _ (.type "list") (.ref e) none false false) _ _ ⟨h',g,d,O,os⟩;unfold getattributeRaised;refine wpAny_bind (Uy (Y _) Xu ?_);rw [if_pos rfl];have lg:hookBehind (.type "list") none=pure none:=by
  show typeLookup (.type "list") "__getattr__"=pure none;rw [typeLookup_type,builtinLookup_eq_fast]
  kernel_rfl
 rw [lg];refine wpAny_bind (u9 ?_);show wpAny (model prog w) A (attributeErrorLeaves (.ref a) _ (.ref e) false false) _ _ _;unfold attributeErrorLeaves;refine wpAny_throw ?_;refine wpAny_bind (Uy (Y _) Xu ?_);rw [if_pos rfl];exact u9 (hq h' O k)
end
theorem xq:entryFor table "dict.update.loop"=some Builtin.«dict.update.loop»:=entryFor_of_fast (by kernel_rfl)
theorem Yr:plainId "dict.update.loop"=true:=by decide+kernel
section
variable {prog:Program}{w:World}{A:Around}{E:Value->Shared->Prop}{K:Type}[DecidableEq K]{knd:KeyKind prog w K}
def addAll (cur:List (K×Value)):List (K×Value)->List (K×Value)
 | []=>cur
 |p::r=>addAll (stored cur p.1 p.2) r
structure PairAt (h:Heap)(d it:Addr)(v:Value)(p:K×Value):Prop where
 at_:∃(t:Addr) (o:Obj) (k:Value) (n:Nat),v= .ref t/\t≠d/\t≠it/\h.get? t=some o/\o.cls= .type "tuple"/\o.data= .seq #[k,p.2] n/\knd.is p.1 k=true
theorem pairs_loop (hh:A.handled=none){d it l:Addr}{items:Array Value}{ps:List (K×Value)}{R:Result->Shared->Prop}(ao:d≠l)(ap:it≠l)(aa:d≠it)(hn:items.size=ps.length)(hz:2*ps.length<=sizeLine)(res:Value):
  ∀(m i:Nat) (s:Shared) (O:List (K×Value)),i+m=ps.length->s.heap.IsListIter it l i->s.heap.IsList l items->s.heap.DictOf knd d O->O.length<=i->
  (∀(j:Nat) (v:Value) (p:K×Value),items[j]? =some v->ps[j]? =some p->PairAt (knd:=knd) s.heap d it v p)->
  (∀h' ac,h'.DictOf knd d (addAll O (ps.drop i))->(∀b o,b≠d->b≠it->s.heap.get? b=some o->h'.get? b=some o)->R (.ok (.ret res)) {s with heap:=h',toks:=ac})->
  codeAny (model prog w) A (.builtin "dict.update.loop" ⟨[.ref d,.ref it,rawInt i,res],[]⟩) R s:=by
 intro m
 induction m with
 |zero=>
  intro i s O hm ad hl hd hc hp hR;refine Uj xq ?_;rw [Around.under_plainId Yr _];show wpAny _ A.in1 (pyNext (.ref it)>>=_) _ _ s;refine wpAny_bind (wpAny_pyNext_list_end (A:=A.in1) hh ad hl (by rw [Array.getElem?_eq_none (by omega)]) fun h' eb=> ?_)
  have ae:h'.DictOf knd d O:=by
   obtain⟨o,es,ep,ho,r⟩:=hd;exact⟨o,es,ep,eb d o aa ho,r⟩
  have:=hR h' s.toks (by rw [vX (by omega)];exact ae) fun b o Y U e=>eb b o U e
  show wpAny (model prog w) A.in1 (Dict.addKeywords d []>>=fun _=>ret res) _ _ _;refine wpAny_bind (m:=Dict.addKeywords d []) (u9 ?_);exact u9 this
 |succ m ih=>
  intro i s O hm ad hl hd hc hp hR;refine Uj xq ?_;rw [Around.under_plainId Yr _];have hi:i<items.size:=by omega
  have ag:i<ps.length:=by omega
  have hx:items[i]? =some items[i]:=Array.getElem?_eq_getElem hi;have aq:ps[i]? =some ps[i]:=u7 ag;obtain⟨t,o,k,n,ev,ay,au,ho,av,aw,hk⟩:=(hp i _ _ hx aq).at_;rw [ev] at hx;show wpAny _ A.in1 (pyNext (.ref it)>>=_) _ _ s;refine wpAny_bind (wpAny_pyNext_list_item (A:=A.in1) ad hl hx fun h1 ah af=> ?_);have ai:h1.get? t=some o:=(af.2 t au).trans ho;have hT:(({s with heap:=h1}:Shared)).TypeIs (.ref t) "tuple":=⟨_,ai,av⟩
  have aj:h1.DictOf knd d O:=hd.sameBut af aa;dsimp only;refine wpAny_bind (wpAny_holding (wpAny_bind (wpAny_tryCatch ?_)));unfold Dict.pairItems;refine wpAny_bind (wpAny_typeOf hT ?_);rw [if_pos (by decide)]
  refine wpAny_bind ?_;unfold seqItems?;refine wpAny_bind (wpAny_load ai ?_);rw [aw];refine u9 (u9 ?_);show wpAny (model prog w) A.in1 (holding [k,ps[i].2] (dictSet d k ps[i].2)) _ _ _;refine wpAny_holding (wpAny_dictSet_pairs hk aj (fun h2 hd2 ak=> ?_) (by omega))
  have al:h2.IsListIter it l (i+1):=by
   obtain⟨oi,e,c⟩:=ah;exact⟨oi,(ak.2 it (uY aa)).trans e,c⟩
  have keep:∀b ob,b≠d->b≠it->s.heap.get? b=some ob->h2.get? b=some ob:=fun b ob Y U e=>(ak.2 b Y).trans ((af.2 b U).trans e);have ax:h2.IsList l items:=by
   obtain⟨ol,e,c⟩:=hl;exact⟨ol,keep l ol (uY ao) (uY ap) e,c⟩
  refine u9 ⟨plainId_quiet Yr _,?_⟩;have am:(stored O ps[i].1 ps[i].2).length<=i+1:=by
   unfold stored;split
   ·rw [u3];omega
   ·rw [uf];show O.length+1<=i+1;omega
  refine ih (i+1) _ _ (by omega) al ax hd2 am (fun j v p h1 h2=> ?_) fun h' ac ae kp=> ?_
  ·obtain⟨t',o',k',n',e1,e2,e3,e4,e5⟩:=(hp j v p h1 h2).at_;exact⟨⟨t',o',k',n',e1,e2,e3,keep t' o' e2 e3 e4,e5⟩⟩
  ·refine hR h' ac ?_ fun b ob Y U e=>kp b ob Y U (keep b ob Y U e);rw [ut ag];exact ae
theorem dict_pairs (hh:A.handled=none){s:Shared}{l:Addr}{items:Array Value}{n:Nat}{sl:Array (Option Value)}{ps:List (K×Value)}{Q:Value->Shared->Prop}(hl:s.heap.get? l=some {cls:= .type "list",dict:=none,data:= .seq items n,slots:=sl})(hn:items.size=ps.length)(hz:2*ps.length<=sizeLine)
  (hp:∀(j:Nat) (v:Value) (p:K×Value),items[j]? =some v->ps[j]? =some p->∃(t:Addr) (o:Obj) (k:Value) (n:Nat),v= .ref t/\s.heap.get? t=some o/\o.cls= .type "tuple"/\o.data= .seq #[k,p.2] n/\knd.is p.1 k=true)
  (hQ:∀h' aa,h'.DictOf knd s.heap.objs.size (addAll [] ps)->(∀b o,s.heap.get? b=some o->h'.get? b=some o)->Q (.ref s.heap.objs.size) {s with heap:=h',toks:=aa}):
  wpAny (model prog w) A (call (.type "dict") [.ref l]) Q E s:=by
 refine callType_codes (Q₁:=fun obj s₁=>obj= .ref s.heap.objs.size/\s₁={s with heap:=s.heap.push {cls:= .type "dict",data:= .dict #[]}}) F.kt_called_dict (F.kt_typeCall_dict_1 _) F.entry_dict_init (kt_code_dict_new _ ⟨rfl,rfl⟩) ?_
 rintro obj s₁ ⟨rfl,rfl⟩;have U:(s.heap.push {cls:= .type "dict",data:= .dict #[]}).DictOf knd s.heap.objs.size []:=Heap.DictOf.new s.heap;refine⟨U.typeIs,F.args_dict_init_2 _ _,?_⟩;unfold Builtin.«dict.__init__»;refine wpAny_bind ?_;unfold Builtin.Dict.selfAndRest;refine wpAny_bind (wpAny_notOrdered_dict U.typeIs ?_);refine(show wpAny _ _ (pure (s.heap.objs.size,[Value.ref l])) _ _ _ from ?_)
 refine u9 ?_;refine(show wpAny _ _ (Builtin.Dict.updateFrom "dict.__init__" s.heap.objs.size (.ref l) [] .none) _ _ _ from ?_)
 unfold Builtin.Dict.updateFrom;have Y:(s.heap.push {cls:= .type "dict",data:= .dict #[]}).get? l=some {cls:= .type "list",dict:=none,data:= .seq items n,slots:=sl}:=u4 _ hl;refine wpAny_bind (wpAny_typeOf (T:="list") ⟨_,Y,rfl⟩ ?_);rw [if_pos (by decide)]
 refine wpAny_bind (no_keys (A:=A.in1.in1) hh Y fun h2 ai k2=> ?_);rw [if_pos (show(none:Option Value).isNone=true from rfl)]
 have ac:l<s.heap.objs.size:=ug hl;have ad:h2.IsList l items:=⟨_,k2 _ _ Y,rfl,n,rfl⟩;refine wpAny_bind (Ur (wpAny_bind (vN ad ?_)));have hd2:h2.DictOf knd s.heap.objs.size []:=by
  obtain⟨o,es,ep,ho,r⟩:=U;exact⟨o,es,ep,k2 _ _ ho,r⟩
 have O:s.heap.objs.size<h2.objs.size:=by
  obtain⟨o,es,ep,ho,r⟩:=hd2;exact ug ho
 have k1:∀b o,s.heap.get? b=some o->h2.get? b=some o:=fun b o e=>k2 b o (u4 _ e);have k3:∀b o,h2.get? b=some o->(h2.push {cls:= .type "list_iterator",data:= .fields #[.ref l,.int 0 0]}).get? b=some o:=fun b o e=>u4 _ e;have ae:(h2.push {cls:= .type "list_iterator",data:= .fields #[.ref l,.int 0 0]}).IsList l items:=⟨_,k3 _ _ (k2 _ _ Y),rfl,n,rfl⟩;have af:(h2.push {cls:= .type "list_iterator",data:= .fields #[.ref l,.int 0 0]}).DictOf knd s.heap.objs.size []:=hd2.push _;refine u9 ⟨plainId_quiet Yr _,pairs_loop (A:=A.in1) hh (d:=s.heap.objs.size) (it:=h2.objs.size) (l:=l) (items:=items) (ps:=ps) (vj ac) (vj (Nat.lt_trans ac O)) (uu O) hn hz .none ps.length 0 _ [] (by omega) ⟨_,uh _ rfl,rfl,rfl⟩ ae af (Nat.le_refl _) (fun j v p h1 ag=> ?_) fun h' aa ah kp=> ?_⟩
 ·obtain⟨t,o,k,n',e1,e2,e3,e4,e5⟩:=hp j v p h1 ag;have ht:=ug e2;exact⟨⟨t,o,k,n',e1,uu ht,uu (Nat.lt_trans ht O),k3 _ _ (k1 _ _ e2),e3,e4,e5⟩⟩
 ·refine⟨rfl,hQ h' aa ah fun b o e=> ?_⟩;have hb:=ug e;exact kp b o (uu hb) (uu (Nat.lt_trans hb O)) (k3 _ _ (k1 _ _ e))
end
end PySem.AwK
namespace L2
open PySem PySem.Spec PyProof.Rows
section
variable {X:Cx}
def inrK (ps:List (Str×V)):List (Key×V):=ps.map fun p=>(Sum.inr p.1,p.2)
theorem inrK_keys (ps:List (Str×V)):(inrK ps).map (·.1)=(ps.map (·.1)).map Sum.inr:=by
 unfold inrK;rw [uG,uG]
 rfl
theorem stored_new {kvs:List (Key×Value)}{k:Key}{v:Value}(h:k∉kvs.map (·.1)):stored kvs k v=kvs++ [(k,v)]:=by
 unfold stored;rw [if_neg];intro q;obtain⟨p,O,e⟩:=List.any_eq_true.mp q;exact h (List.mem_map.mpr ⟨p,O,uj e⟩)
theorem xu:∀{ps O:List (Key×Value)},((O++ps).map (·.1)).Nodup->AwK.addAll O ps=O++ps
 | [],O,_=>(uU O).symm
 |p::r,O,h=>by
  unfold AwK.addAll;have U:p.1∉O.map (·.1):=by
   rw [ue,ua] at h;intro q;exact(List.nodup_append.mp h).2.2 _ q _ ui rfl
  rw [stored_new U,xu (by rw [uq];exact h),uq]
  rfl
theorem pairs_are {P:Program}{w:World}{H:Hp}{h:Heap}(ok:HOk P w H h):∀{ts:List Addr}{ps:List (Str×V)},ts.length=ps.length->(∀(i:Nat) (t:Addr) (p:Str×V),ts[i]? =some t->ps[i]? =some p->H t=some (.tup [.str p.1,p.2]))->
  ∃pv:List (Key×Value),KV (inrK ps) pv/\∀(j:Nat) (v:Value) (p:Key×Value),(ts.map Value.ref)[j]? =some v->pv[j]? =some p->∃(t:Addr) (o:Obj) (k:Value) (n:Nat),v= .ref t/\h.get? t=some o/\o.cls= .type "tuple"/\o.data= .seq #[k,p.2] n/\(qL P w).is p.1 k=true
 | [],[],_,_=>⟨[],.nil,fun j v p e=>by simp at e⟩
 |t::ts,p::ps,hl,hp=>by
  obtain⟨pv,h1,h2⟩:=pairs_are ok (ts:=ts) (ps:=ps) (by simpa using hl) fun i t' p' O U=>hp (i+1) t' p' (by simpa using O) (by simpa using U)
  obtain⟨_,its,Y,o,ho,hc,n,hd⟩:=(show qU P w H h t (.tup [.str p.1,p.2]) from ok t _ (hp 0 t p rfl rfl))
  cases Y with
  |cons r1 Y=>
  cases Y with
  |cons r2 Y=>
  cases Y with
  |nil=>
  obtain⟨tk,rfl⟩:=r1
  rename_i u
  refine⟨(Sum.inr p.1,u)::pv,.cons ⟨rfl,r2⟩ h1,fun j v q O U=> ?_⟩;cases j with
  |zero=>
   simp only [ua,List.getElem?_cons_zero,Option.some.injEq] at O U;subst O U;exact⟨t,o,_,n,rfl,ho,hc,hd,JY _ _ _ _⟩
  |succ j=>exact h2 j v q (by simpa using O) (by simpa using U)
 | [],_::_,hl,_=>by simp at hl
 |_::_,[],hl,_=>by simp at hl
def PairsL (H:Hp)(l:Addr)(ps:List (Str×V)):Prop:=∃ts:List Addr,H l=some (.lst (ts.map V.ref))/\ts.length=ps.length/\∀(i:Nat) (t:Addr) (p:Str×V),ts[i]? =some t->ps[i]? =some p->H t=some (.tup [.str p.1,p.2])
theorem dict_of {pins:List (Addr×Obj)}{σ:St}{H:Hp}{s:Shared}{l:Addr}{ps:List (Str×V)}{Q:Value->Shared->Prop}(hc:X.calm=true)(I:Inv X pins σ H s)(hl:PairsL H l ps)(hn:(ps.map (·.1)).Nodup)(hz:ps.length<=1000)
  (h:∀h' O pv,0<O->(∀b o,s.heap.get? b=some o->h'.get? b=some o)->KV (inrK ps) pv->h'.DictOf (qL X.prog X.w) s.heap.objs.size pv->Q (.ref s.heap.objs.size) {s with heap:=h',toks:=O}):
  wpAny (model X.prog X.w) X.A (call (.type "dict") [.ref l]) Q X.xe s:=by
 obtain⟨ts,e1,e2,e3⟩:=hl;obtain⟨_,its,n,rv,ho⟩:=(show qU X.prog X.w H s.heap l (.lst (ts.map V.ref)) from I.hok l _ e1)
 cases vals_refs rv;obtain⟨pv,r,hp⟩:=pairs_are I.hok e2 e3;have ac:pv.length=ps.length:=by
  rw [<-r.length];unfold inrK;rw [u3]
 have Y:(pv.map (·.1)).Nodup:=by
  rw [<-r.keys,inrK_keys];exact List.Pairwise.map _ (fun a b aa e=>aa (Sum.inr.inj e)) hn
 refine uB (n:=1) I.tk ?_;refine AwK.dict_pairs (knd:=qL X.prog X.w) (I.ok.hd hc) (ps:=pv) ho (by rw [ub,u3];omega) (by rw [uk];omega) (fun j v p h1 h2=>hp j v p (by simpa using h1) h2) fun h' O U kp=> ?_
 rw [xu (by simpa using Y),List.nil_append] at U
 exact fun htk=>h h' O pv htk kp r U
theorem call_dictF (hc:X.calm=true):ye X (.type "dict") (fun xs H Q=>∃(l:Addr) (ps:List (Str×V)),xs= [.ref l]/\PairsL H l ps/\(ps.map (·.1)).Nodup/\ps.length<=1000/\∀q o,H q=none->Q (.ref q) (upd H q (.frz o (.dK (inrK ps))))):=by
 intro pins s σ H xs us Q I r h;obtain⟨l,ps,rfl,hl,hn,hz,q⟩:=h;obtain⟨u,rfl,ru⟩:=yR r;cases ru;refine dict_of hc I hl hn hz fun h' aa pv htk kp O dd=> ?_;have U:(s.heap.objs.size==sysModules)=false:=by
  rw [beq_eq_false_iff_ne];exact vj I.big
 have Y:(inrK ps).length<=sizeLine:=by unfold inrK;rw [u3,uk];omega
 obtain⟨o,es,ep,ho,rr⟩:=id dd;exact⟨.ref s.heap.objs.size,_,I.laid (o:= .frz o (.dK (inrK ps))) kp (Nat.le_refl _) ⟨ho,dk_new Y U O dd⟩,rfl,q _ o I.fresh⟩
end
end L2
namespace AwQ
open PySem PySem.SeqAt
open PySem.AutoSeq1 (wpAny_loadPart')
open PySem.MeetsSeq PySem.MeetsSeq2 PySem.MeetsSeq3
def LtAt (A:Around)(s:Shared)(a b:Value)(r:Bool):Prop:=∀(P:Program) (w:World) (E:Value->Shared->Prop) (Q:Value->Shared->Prop),Q (.bool r) s->wpAny (model P w) A (richCompare .Lt a b) Q E s
def lexG (e lt:Nat->Bool)(d:Bool):Nat->Nat->Bool
 |_,0=>d
 |i,k+1=>if e i=true then lexG e lt d (i+1) k else lt i
theorem tuple_ltG (l b:Addr)(xs ys:Array Value)(n n2:Nat)(dd af:Option Addr)(sl ag:Array (Option Value))(e lt:Nat->Bool):
  Meets (Builtin.«tuple.__lt__» ⟨[.ref l,.ref b],[]⟩)
   (fun A R s=>s.heap.get? l=some {cls:= .type "tuple",dict:=dd,data:= .seq xs n,slots:=sl}/\s.heap.get? b=some {cls:= .type "tuple",dict:=af,data:= .seq ys n2,slots:=ag}/\
    (∀j (h1:j<xs.size) (h2:j<ys.size),EqAt A.in1 s xs[j] ys[j] (e j))/\(∀j (h1:j<xs.size) (h2:j<ys.size),(∀i,i<j->e i=true)->e j=false->LtAt A.in1 s xs[j] ys[j] (lt j))/\
    R (.ok (.ret (.bool (lexG e lt (decide (xs.size<ys.size)) 0 (min xs.size ys.size))))) s):=
 .of_wp fun prog w A R s h=>by
  obtain⟨hp,g,d,tk,os⟩:=s;obtain⟨hl,hb,he,ht,h⟩:=h;have f2:=AutoSeq1.sub_tuple_tuple;have hZ:(xs.toList.zip ys.toList).length=min xs.size ys.size:=by simp
  wp_walk using Uh hl,Uh hb,wpAny_forIn_list _ (fun rest b s'=>b.1=none/\s'=⟨hp,g,d,tk,os⟩/\∃i,i<=min xs.size ys.size/\(∀k,k<i->e k=true)/\rest=(xs.toList.zip ys.toList).drop i/\
   R (.ok (.ret (.bool (lexG e lt (decide (xs.size<ys.size)) i (min xs.size ys.size-i))))) ⟨hp,g,d,tk,os⟩) _
  case turn=>
   rintro⟨y,x⟩ rest b s' ⟨aa,rfl,i,_,U,hz,Y⟩;have ad:i<(xs.toList.zip ys.toList).length:=by
    rcases uZ i (xs.toList.zip ys.toList).length with q|q
    ·exact q
    ·rw [vf q] at hz;cases hz
   have hm:i<min xs.size ys.size:=hZ▸ad;have h1:i<xs.size:=by omega
   have h2:i<ys.size:=by omega
   rw [ut ad] at hz;injection hz with ae hrest
   have hy:y=xs[i]:=by have:=congrArg Prod.fst ae;simpa using this
   have hx:x=ys[i]:=by have:=congrArg Prod.snd ae;simpa using this
   subst hy hx;obtain⟨k,hk⟩:∃k,min xs.size ys.size-i=k+1:=⟨min xs.size ys.size-i-1,by omega⟩
   have ah:min xs.size ys.size-(i+1)=k:=by omega
   rw [hk] at Y;refine wpAny_bind (he i h1 h2 prog w _ _ ?_);cases O:e i with
   |true=>
    have ac:R (.ok (.ret (.bool (lexG e lt (decide (xs.size<ys.size)) (i+1) (min xs.size ys.size-(i+1)))))) ⟨hp,g,d,tk,os⟩:=by
     rw [ah];have:lexG e lt (decide (xs.size<ys.size)) i (k+1)=lexG e lt (decide (xs.size<ys.size)) (i+1) k:=by rw [lexG,if_pos O]
     rw [this] at Y;exact Y
    wp_walk
    exact⟨rfl,rfl,i+1,by omega,fun j hj=>by
     by_cases z:j=i
     ·rw [z];exact O
     ·exact U j (by omega),hrest,ac⟩
   |false=>
    have ac:R (.ok (.ret (.bool (lt i)))) ⟨hp,g,d,tk,os⟩:=by
     have:lexG e lt (decide (xs.size<ys.size)) i (k+1)=lt i:=by rw [lexG,if_neg (by rw [O];decide)]
     rw [this] at Y;exact Y
    have ai:=ht i h1 h2 U O prog w
    wp_walk using ai
    exact⟨_,rfl,by simpa using ac⟩
  case fin=>
   rintro⟨b1,b2⟩ s' ⟨aa,rfl,i,aj,_,hz,Y⟩;simp only at aa;subst aa;have ak:min xs.size ys.size<=i:=by
    rcases uZ i (xs.toList.zip ys.toList).length with q|q
    ·rw [ut q] at hz;cases hz
    ·exact hZ▸q
   have h0:min xs.size ys.size-i=0:=by omega
   rw [h0,lexG] at Y
   wp_walk
   exact⟨_,rfl,by simpa [Builtin.Tuple.tupleCompareSizes] using Y⟩
  case h=>
   exact⟨rfl,rfl,0,uF _,fun _ z=>absurd z (Nat.not_lt_zero _),rfl,by simpa using h⟩
theorem LtAt.tuples {A:Around}{s:Shared}{l b:Addr}{xs ys:Array Value}{e lt:Nat->Bool}(hl:s.heap.IsTuple l xs)(hb:s.heap.IsTuple b ys)(hu:A.units<cLine)
  (he:∀j (h1:j<xs.size) (h2:j<ys.size),EqAt A.in1 s xs[j] ys[j] (e j)) (ht:∀j (h1:j<xs.size) (h2:j<ys.size),(∀i,i<j->e i=true)->e j=false->LtAt A.in1 s xs[j] ys[j] (lt j)):
  LtAt A s (.ref l) (.ref b) (lexG e lt (decide (xs.size<ys.size)) 0 (min xs.size ys.size)):=fun P w E Q h=>by
 obtain⟨⟨cls,dd,data,sl⟩,ho,hc,n,hd⟩:=id hl;obtain⟨⟨ad,Y,aa,ac⟩,O,U,n2,hd2⟩:=id hb;simp only at hc hd U hd2;subst hc hd U hd2;exact richCompare_meets_room (op:= .Lt) ⟨_,ho,rfl⟩ ⟨_,O,rfl⟩ PySem.F.slot_tuple_lt PySem.F.entry_tuple_lt (PySem.F.args_tuple_lt_2 _ _) (tuple_ltG l b xs ys n n2 dd Y sl ac e lt)
  ⟨ho,O,he,ht,show Value.bool _≠Value.notImplemented/\Q (.bool _) s from⟨(fun z=>nomatch z),h⟩⟩ hu
theorem LtAt.int {A:Around}{s:Shared}(a:Int)(t:Tok)(c:Int)(u:Tok):LtAt A s (.int a t) (.int c u) (decide (a<c)):=fun P w E Q h=>
 (PyProof.Rows.lt_int h:wpAny (model P w) A (compareOp .Lt (.int a t) (.int c u)) Q E s)
end AwQ
namespace L2
open PySem PySem.Spec PyProof.Rows
mutual
def puD:D->Bool
 | .str _=>true
 | .int _=>true
 | .tup xs=>puL xs
 |_=>false
def puL:List D->Bool
 | []=>true
 |x::r=>puD x&&puL r
end
mutual
def eqD:D->D->Bool
 | .str a,.str b=>a==b
 | .int a,.int b=>a==b
 | .tup xs,.tup ys=>eqL xs ys
 |_,_=>false
def eqL:List D->List D->Bool
 | [],[]=>true
 |x::r,y::q=>eqD x y&&eqL r q
 |_,_=>false
end
mutual
def ltD:D->D->Option Bool
 | .str a,.str b=>some (decide (a.cps.toList<b.cps.toList))
 | .int a,.int b=>some (decide (a<b))
 | .tup xs,.tup ys=>ltL xs ys
 |_,_=>none
def ltL:List D->List D->Option Bool
 | [],[]=>some false
 | [],_::_=>some true
 |_::_,[]=>some false
 |x::r,y::q=>if eqD x y=true then ltL r q else ltD x y
end
mutual
theorem Xw:∀{d e:D},puD d=true->(eqD d e=true↔d=e)
 | .str a,e,_=>by cases e<;>simp [eqD]
 | .int a,e,_=>by cases e<;>simp [eqD]
 | .tup xs,.tup ys,h=>by
  have:=eqL_iff (xs:=xs) (ys:=ys) (by simpa [puD] using h)
  simp only [eqD,this,D.tup.injEq]
 | .tup xs,.non,_=>by simp [eqD]
 | .tup xs,.bl _,_=>by simp [eqD]
 | .tup xs,.int _,_=>by simp [eqD]
 | .tup xs,.str _,_=>by simp [eqD]
 | .tup xs,.lst,_=>by simp [eqD]
 | .tup xs,.dct,_=>by simp [eqD]
 | .non,_,h=>by simp [puD] at h
 | .bl _,_,h=>by simp [puD] at h
 | .lst,_,h=>by simp [puD] at h
 | .dct,_,h=>by simp [puD] at h
theorem eqL_iff:∀{xs ys:List D},puL xs=true->(eqL xs ys=true↔xs=ys)
 | [],[],_=>by simp [eqL]
 | [],_::_,_=>by simp [eqL]
 |_::_,[],_=>by simp [eqL]
 |x::r,y::q,h=>by
  have h':puD x=true/\puL r=true:=by simpa [puL] using h
  simp only [eqL,uH,Xw h'.1,eqL_iff h'.2,vv]
end
mutual
theorem Is.det {H:Hp}:∀{d e:D}{v:V},puD d=true->puD e=true->Is H d v->Is H e v->d=e
 | .str a,e,v,_,he,h1,h2=>by
  obtain⟨rfl,_⟩:=(show v= .str a/\_ from h1)
  cases e with
  |str b=>obtain⟨q,_⟩:=(show V.str a=V.str b/\_ from h2);cases q;rfl
  |int b=>cases(show V.str a=V.int b from h2)
  |tup ys=>obtain⟨p,us,q,_⟩:=(show∃p us,V.str a=V.ref p/\_ from h2);cases q
  |_=>simp [puD] at he
 | .int a,e,v,_,he,h1,h2=>by
  cases(show v= .int a from h1)
  cases e with
  |str b=>obtain⟨q,_⟩:=(show V.int a=V.str b/\_ from h2);cases q
  |int b=>cases(show V.int a=V.int b from h2);rfl
  |tup ys=>obtain⟨p,us,q,_⟩:=(show∃p us,V.int a=V.ref p/\_ from h2);cases q
  |_=>simp [puD] at he
 | .tup xs,e,v,hd,he,h1,h2=>by
  obtain⟨p,vs,rfl,hp,hl⟩:=(show∃p vs,v=V.ref p/\H p=some (.tup vs)/\IsL H xs vs from h1)
  cases e with
  |str b=>obtain⟨q,_⟩:=(show V.ref p=V.str b/\_ from h2);cases q
  |int b=>cases(show V.ref p=V.int b from h2)
  |tup ys=>
   obtain⟨U,us,q,O,Y⟩:=(show∃U us,V.ref p=V.ref U/\H U=some (.tup us)/\IsL H ys us from h2)
   cases q;rw [hp] at O;cases O;rw [IsL.det (by simpa [puD] using hd) (by simpa [puD] using he) hl Y]
  |_=>simp [puD] at he
 | .non,_,_,hd,_,_,_=>by simp [puD] at hd
 | .bl _,_,_,hd,_,_,_=>by simp [puD] at hd
 | .lst,_,_,hd,_,_,_=>by simp [puD] at hd
 | .dct,_,_,hd,_,_,_=>by simp [puD] at hd
theorem IsL.det {H:Hp}:∀{xs ys:List D}{vs:List V},puL xs=true->puL ys=true->IsL H xs vs->IsL H ys vs->xs=ys
 | [],[],_,_,_,_,_=>rfl
 | [],_::_,_,_,_,h1,h2=>by
  cases(show _= [] from h1)
  obtain⟨v,r,q,_⟩:=(show∃v r,[]=v::r/\_ from h2)
  cases q
 |_::_,[],_,_,_,h1,h2=>by
  cases(show _= [] from h2)
  obtain⟨v,r,q,_⟩:=(show∃v r,[]=v::r/\_ from h1)
  cases q
 |x::xs,y::ys,_,hd,he,h1,h2=>by
  obtain⟨v,r,rfl,Y,a2⟩:=h1;obtain⟨v',r',q,b1,b2⟩:=h2;cases q;have O:puD x=true/\puL xs=true:=by simpa [puL] using hd
  have U:puD y=true/\puL ys=true:=by simpa [puL] using he
  rw [Is.det O.1 U.1 Y b1,IsL.det O.2 U.2 a2 b2]
end
theorem eqL_all:∀(xs ys:List D),eqL xs ys=((List.range (min xs.length ys.length)).all (fun j=>eqD (xs.getD j .non) (ys.getD j .non))&&xs.length==ys.length)
 | [],[]=>by simp [eqL]
 | [],_::_=>by simp [eqL]
 |_::_,[]=>by simp [eqL]
 |x::r,y::q=>by
  have O:=eqL_all r q;rw [ul,ul,show min (r.length+1) (q.length+1)=min r.length q.length+1 by omega,List.range_succ_eq_map,uM,Uu]
  have e:(List.range (min r.length q.length)).all ((fun j=>eqD ((x::r).getD j .non) ((y::q).getD j .non))∘Nat.succ)=(List.range (min r.length q.length)).all fun j=>eqD (r.getD j .non) (q.getD j .non):=by congr 1
  rw [e];have U:(r.length+1==q.length+1)=(r.length==q.length):=by rw [vk];simp
  rw [U,Bool.and_assoc,<-O]
  rfl
section
variable {X:Cx}{pins:List (Addr×Obj)}{σ:St}{H:Hp}{s:Shared}
theorem eqAt_str (I:Inv X pins σ H s){z:Str}{t:Tok}{e:D}{u:V}{b:Value}{A:Around}(U:puD e=true)(h2:Is H e u)(O:RelV u b)(Y:A.units<cLine):SeqAt.EqAt A s (.str z t) b (eqD (.str z) e):=by
 cases e with
 |str y=>
  obtain⟨rfl,_⟩:=(show u= .str y/\_ from h2)
  obtain⟨t2,rfl⟩:=O;exact SeqAt.EqAt.str_str _ _ _ _
 |int y=>
  cases(show u= .int y from h2)
  obtain⟨t2,rfl⟩:=O;exact SeqAt.EqAt.str_int _ _ _ _
 |tup ys=>
  obtain⟨p,us,rfl,hp,hl⟩:=(show∃p us,u=V.ref p/\H p=some (.tup us)/\IsL H ys us from h2)
  cases O;obtain⟨its,_,q,_⟩:=I.tuple (.inl (.of hp));exact SeqAt.EqAt.str_tuple _ _ q Y
 |_=>simp [puD] at U
theorem eqAt_int (I:Inv X pins σ H s){z:Int}{t:Tok}{e:D}{u:V}{b:Value}{A:Around}(U:puD e=true)(h2:Is H e u)(O:RelV u b)(Y:A.units<cLine):SeqAt.EqAt A s (.int z t) b (eqD (.int z) e):=by
 cases e with
 |str y=>
  obtain⟨rfl,_⟩:=(show u= .str y/\_ from h2)
  obtain⟨t2,rfl⟩:=O;exact SeqAt.EqAt.int_str _ _ _ _
 |int y=>
  cases(show u= .int y from h2)
  obtain⟨t2,rfl⟩:=O;exact SeqAt.EqAt.int_int _ _ _ _
 |tup ys=>
  obtain⟨p,us,rfl,hp,hl⟩:=(show∃p us,u=V.ref p/\H p=some (.tup us)/\IsL H ys us from h2)
  cases O;obtain⟨its,_,q,_⟩:=I.tuple (.inl (.of hp));exact SeqAt.EqAt.int_tuple _ _ q Y
 |_=>simp [puD] at U
theorem QN:∀{xs:List D}{j:Nat}{x:D},puL xs=true->xs[j]? =some x->puD x=true
 | [],_,_,_,e=>by simp at e
 |y::r,0,x,h,e=>by
  have h':puD y=true/\puL r=true:=by simpa [puL] using h
  have:y=x:=by simpa using e
  exact this▸h'.1
 |y::r,j+1,x,h,e=>by
  have h':puD y=true/\puL r=true:=by simpa [puL] using h
  exact QN h'.2 (by simpa using e)
theorem eqAt_tup (I:Inv X pins σ H s){xs:List D}{e:D}{v u:V}{a b:Value}{A:Around}(hd:puD (.tup xs)=true)(he:puD e=true)(h1:Is H (.tup xs) v)(h2:Is H e u)(r1:RelV v a)(r2:RelV u b)(hu:A.units<cLine)
  (ih:∀x∈xs,∀(e:D) (v u:V) (a b:Value),puD x=true->puD e=true->Is H x v->Is H e u->RelV v a->RelV u b->SeqAt.EqAt A.in1 s a b (eqD x e)):SeqAt.EqAt A s a b (eqD (.tup xs) e):=by
 obtain⟨p,vs,rfl,hp,hl⟩:=(show∃p vs,v=V.ref p/\H p=some (.tup vs)/\IsL H xs vs from h1)
 cases r1;obtain⟨its,rv,q,_⟩:=I.tuple (.inl (.of hp));cases e with
 |str y=>
  obtain⟨rfl,_⟩:=(show u= .str y/\_ from h2)
  obtain⟨t2,rfl⟩:=r2;exact SeqAt.EqAt.tuple_str _ _ q hu
 |int y=>
  cases(show u= .int y from h2)
  obtain⟨t2,rfl⟩:=r2;exact SeqAt.EqAt.tuple_int _ _ q hu
 |tup ys=>
  by_cases hv:V.ref p=u
  ·have:=Is.det (e:= .tup ys) hd he h1 (hv▸h2);subst hv;cases r2;rw [<-this,(Xw hd).mpr rfl];exact SeqAt.EqAt.same _
  ·obtain⟨p',us,rfl,aa,O⟩:=(show∃p' us,u=V.ref p'/\H p'=some (.tup us)/\IsL H ys us from h2)
   cases r2;obtain⟨its',U,q',_⟩:=I.tuple (.inl (.of aa));have l1:its.length=xs.length:=by rw [<-rv.length,hl.length]
   have l2:its'.length=ys.length:=by rw [<-U.length,O.length]
   have ac:puL xs=true:=by simpa [puD] using hd
   have ad:puL ys=true:=by simpa [puD] using he
   have ae:=SeqAt.RcAt.tuples (e:=fun j=>eqD (xs.getD j .non) (ys.getD j .non)) q q' hu fun j a1 a2=>by
    have Y:j<xs.length:=by rw [<-l1];simpa using a1
    have j2:j<ys.length:=by rw [<-l2];simpa using a2
    obtain⟨v1,e1,i1⟩:=hl.get (i:=j) (d:=xs[j]) (by simp [Y])
    obtain⟨v2,e2,i2⟩:=O.get (i:=j) (d:=ys[j]) (by simp [j2])
    obtain⟨b1,f1,g1⟩:=rv.get e1;obtain⟨b2,f2,g2⟩:=U.get e2;have k1:its.toArray[j]=b1:=by
     have:=f1;rw [u7 (by rw [l1];exact Y)] at this
     simpa using this
    have k2:its'.toArray[j]=b2:=by
     have:=f2;rw [u7 (by rw [l2];exact j2)] at this
     simpa using this
    have d1:xs.getD j .non=xs[j]:=by simp [List.getD,Y]
    have d2:ys.getD j .non=ys[j]:=by simp [List.getD,j2]
    show SeqAt.EqAt _ s _ _ (eqD (xs.getD j .non) (ys.getD j .non));rw [k1,k2,d1,d2];exact ih _ (uv Y) _ _ _ _ _ (QN (j:=j) ac (by simp [Y])) (QN (j:=j) ad (by simp [j2])) i1 i2 g1 g2
   have e1:eqD (.tup xs) (.tup ys)=((List.range (min its.toArray.size its'.toArray.size)).all (fun j=>eqD (xs.getD j .non) (ys.getD j .non))&&its.toArray.size==its'.toArray.size):=by
    rw [ub,ub,l1,l2,<-eqL_all];simp only [eqD]
   rw [e1];exact SeqAt.EqAt.of_refs (fun z=>hv (by rw [z])) ae
 |_=>simp [puD] at he
theorem eqAt_D (I:Inv X pins σ H s):∀(n:Nat) (d e:D) (v u:V) (a b:Value) (A:Around),dp d<=n->puD d=true->puD e=true->Is H d v->Is H e u->RelV v a->RelV u b->A.units+n<cLine->SeqAt.EqAt A s a b (eqD d e):=by
 intro n
 induction n with
 |zero=>
  intro d e v u a b A hn hd U h1 h2 Y r2 hu;cases d with
  |int z=>
   cases(show v= .int z from h1)
   obtain⟨t,rfl⟩:=Y;exact eqAt_int I U h2 r2 hu
  |str z=>simp [dp] at hn
  |tup xs=>simp [dp] at hn
  |_=>simp [puD] at hd
 |succ n ih=>
  intro d e v u a b A hn hd U h1 h2 Y r2 hu;have O:A.units<cLine:=Nat.lt_of_le_of_lt (Nat.le_add_right _ _) hu;cases d with
  |int z=>
   cases(show v= .int z from h1)
   obtain⟨t,rfl⟩:=Y;exact eqAt_int I U h2 r2 O
  |str z=>
   obtain⟨rfl,_⟩:=(show v= .str z/\_ from h1)
   obtain⟨t,rfl⟩:=Y;exact eqAt_str I U h2 r2 O
  |tup xs=>
   have hm:dpL xs<=n:=by
    have:dp (.tup xs)=1+dpL xs:=by simp only [dp]
    omega
   exact eqAt_tup I hd U h1 h2 Y r2 O fun x hx e v u a b k1 k2 k3 k4 k5 k6=>ih x e v u a b A.in1 ((jg xs).mp hm x hx) k1 k2 k3 k4 k5 k6 (by rw [uA];omega)
  |_=>simp [puD] at hd
theorem lexG_succ {e lt:Nat->Bool}{d:Bool}:∀(k i:Nat),AwQ.lexG e lt d (i+1) k=AwQ.lexG (fun j=>e (j+1)) (fun j=>lt (j+1)) d i k
 |0,_=>rfl
 |k+1,i=>by rw [AwQ.lexG,AwQ.lexG,lexG_succ k (i+1)]
def eAt (xs ys:List D)(j:Nat):Bool:=eqD (xs.getD j .non) (ys.getD j .non)
def lAt (xs ys:List D)(j:Nat):Bool:=(ltD (xs.getD j .non) (ys.getD j .non)).getD false
theorem lex_ltL:∀{xs ys:List D}{r:Bool},ltL xs ys=some r->AwQ.lexG (eAt xs ys) (lAt xs ys) (decide (xs.length<ys.length)) 0 (min xs.length ys.length)=r
 | [],[],r,h=>by cases h;rfl
 | [],_::_,r,h=>by cases h;simp [AwQ.lexG]
 |_::_,[],r,h=>by cases h;simp [AwQ.lexG]
 |x::xs,y::ys,r,h=>by
  rw [ul,ul,show min (xs.length+1) (ys.length+1)=min xs.length ys.length+1 by omega,AwQ.lexG]
  have U:eAt (x::xs) (y::ys) 0=eqD x y:=rfl;have Y:decide (xs.length+1<ys.length+1)=decide (xs.length<ys.length):=by rw [vn];omega
  rw [U,Y,lexG_succ];cases O:eqD x y with
  |true=>
   rw [if_pos rfl];have:ltL xs ys=some r:=by rw [ltL,O,if_pos rfl] at h;exact h
   exact lex_ltL this
  |false=>
   rw [if_neg uc];have:ltD x y=some r:=by rw [ltL,O,if_neg uc] at h;exact h
   show(ltD x y).getD false=r;rw [this];rfl
theorem lt_at:∀{xs ys:List D}{r:Bool} (j:Nat),ltL xs ys=some r->j<xs.length->j<ys.length->(∀i,i<j->eAt xs ys i=true)->eAt xs ys j=false->ltD (xs.getD j .non) (ys.getD j .non)=some (lAt xs ys j)
 | [],_,_,j,_,h1,_,_,_=>by simp at h1
 |_::_,[],_,j,_,_,h2,_,_=>by simp at h2
 |x::xs,y::ys,r,0,h,_,_,_,hj=>by
  have O:eqD x y=false:=hj;have:ltD x y=some r:=by rw [ltL,O,if_neg uc] at h;exact h
  show ltD x y=some ((ltD x y).getD false);rw [this];rfl
 |x::xs,y::ys,r,j+1,h,h1,h2,hall,hj=>by
  have U:eqD x y=true:=hall 0 (Nat.succ_pos _);have:ltL xs ys=some r:=by rw [ltL,U,if_pos rfl] at h;exact h
  exact lt_at (xs:=xs) (ys:=ys) j this (by simpa using h1) (by simpa using h2) (fun i hi=>hall (i+1) (by omega)) hj
theorem ltAt_tup (I:Inv X pins σ H s){n:Nat}{xs ys:List D}{v u:V}{a b:Value}{A:Around}{r:Bool}(hn:dpL xs<=n)(hd:puD (.tup xs)=true)(he:puD (.tup ys)=true)(h1:Is H (.tup xs) v)(h2:Is H (.tup ys) u)(r1:RelV v a)(r2:RelV u b)(hu:A.units+1+n<cLine)
  (hr:ltL xs ys=some r)
  (ih:∀x∈xs,∀(e:D) (v u:V) (a b:Value) (r:Bool),puD x=true->puD e=true->Is H x v->Is H e u->RelV v a->RelV u b->ltD x e=some r->AwQ.LtAt A.in1 s a b r):AwQ.LtAt A s a b r:=by
 obtain⟨p,vs,rfl,hp,hl⟩:=(show∃p vs,v=V.ref p/\H p=some (.tup vs)/\IsL H xs vs from h1)
 obtain⟨p',us,rfl,ai,aa⟩:=(show∃p' us,u=V.ref p'/\H p'=some (.tup us)/\IsL H ys us from h2)
 cases r1;cases r2;obtain⟨its,rv,q,_⟩:=I.tuple (.inl (.of hp));obtain⟨its',ac,q',_⟩:=I.tuple (.inl (.of ai));have l1:its.length=xs.length:=by rw [<-rv.length,hl.length]
 have l2:its'.length=ys.length:=by rw [<-ac.length,aa.length]
 have ad:puL xs=true:=by simpa [puD] using hd
 have ae:puL ys=true:=by simpa [puD] using he
 have U:∀j (a1:j<its.toArray.size) (a2:j<its'.toArray.size),∃(O:j<xs.length) (Y:j<ys.length) (v1 v2:V),Is H xs[j] v1/\Is H ys[j] v2/\RelV v1 its.toArray[j]/\RelV v2 its'.toArray[j]:=fun j a1 a2=>by
  have O:j<xs.length:=by rw [<-l1];simpa using a1
  have Y:j<ys.length:=by rw [<-l2];simpa using a2
  obtain⟨v1,e1,i1⟩:=hl.get (i:=j) (d:=xs[j]) (by simp [O])
  obtain⟨v2,e2,i2⟩:=aa.get (i:=j) (d:=ys[j]) (by simp [Y])
  obtain⟨b1,f1,g1⟩:=rv.get e1;obtain⟨b2,f2,g2⟩:=ac.get e2;have k1:its.toArray[j]=b1:=by
   have:=f1;rw [u7 (by rw [l1];exact O)] at this
   simpa using this
  have k2:its'.toArray[j]=b2:=by
   have:=f2;rw [u7 (by rw [l2];exact Y)] at this
   simpa using this
  exact⟨O,Y,v1,v2,i1,i2,k1▸g1,k2▸g2⟩
 have af:=AwQ.LtAt.tuples (A:=A) (e:=eAt xs ys) (lt:=lAt xs ys) q q' (by omega) (fun j a1 a2=>by
  obtain⟨O,Y,v1,v2,i1,i2,g1,g2⟩:=U j a1 a2;have d1:xs.getD j .non=xs[j]:=by simp [List.getD,O]
  have d2:ys.getD j .non=ys[j]:=by simp [List.getD,Y]
  unfold eAt;rw [d1,d2];exact eqAt_D I n _ _ _ _ _ _ A.in1 ((jg xs).mp hn _ (uv O)) (QN (j:=j) ad (by simp [O])) (QN (j:=j) ae (by simp [Y])) i1 i2 g1 g2 (by rw [uA];omega))
  (fun j a1 a2 ag hj=>by
   obtain⟨O,Y,v1,v2,i1,i2,g1,g2⟩:=U j a1 a2;have d1:xs.getD j .non=xs[j]:=by simp [List.getD,O]
   have d2:ys.getD j .non=ys[j]:=by simp [List.getD,Y]
   have ah:=lt_at j hr O Y ag hj;rw [d1,d2] at ah;exact ih _ (uv O) _ _ _ _ _ _ (QN (j:=j) ad (by simp [O])) (QN (j:=j) ae (by simp [Y])) i1 i2 g1 g2 ah)
 have e1:=lex_ltL hr;rw [ub,ub,l1,l2,e1] at af;exact af
theorem ltAt_D (I:Inv X pins σ H s):∀(n:Nat) (d e:D) (v u:V) (a b:Value) (A:Around) (r:Bool),dp d<=n->puD d=true->puD e=true->Is H d v->Is H e u->RelV v a->RelV u b->A.units+n<cLine->ltD d e=some r->AwQ.LtAt A s a b r:=by
 intro n
 induction n with
 |zero=>
  intro d e v u a b A r hn hd he h1 h2 U Y hu O;cases d with
  |int z=>
   cases e with
   |int y=>
    cases(show v= .int z from h1)
    cases(show u= .int y from h2)
    obtain⟨t,rfl⟩:=U;obtain⟨t2,rfl⟩:=Y;cases O;exact AwQ.LtAt.int _ _ _ _
   |_=>simp [ltD] at O
  |str z=>simp [dp] at hn
  |tup xs=>simp [dp] at hn
  |_=>simp [puD] at hd
 |succ n ih=>
  intro d e v u a b A r hn hd he h1 h2 U Y hu O;cases d with
  |int z=>
   cases e with
   |int y=>
    cases(show v= .int z from h1)
    cases(show u= .int y from h2)
    obtain⟨t,rfl⟩:=U;obtain⟨t2,rfl⟩:=Y;cases O;exact AwQ.LtAt.int _ _ _ _
   |_=>simp [ltD] at O
  |str z=>
   cases e with
   |str y=>
    obtain⟨rfl,_⟩:=(show v= .str z/\_ from h1)
    obtain⟨rfl,_⟩:=(show u= .str y/\_ from h2)
    obtain⟨t,rfl⟩:=U;obtain⟨t2,rfl⟩:=Y;cases O;exact fun P w E Q h=>(PyProof.Rows.lt_str h:wpAny (model P w) A (compareOp .Lt (.str z t) (.str y t2)) Q E s)
   |_=>simp [ltD] at O
  |tup xs=>
   cases e with
   |tup ys=>
    have hm:dpL xs<=n:=by
     have:dp (.tup xs)=1+dpL xs:=by simp only [dp]
     omega
    have aa:ltL xs ys=some r:=by rw [ltD] at O;exact O
    exact ltAt_tup I hm hd he h1 h2 U Y (by omega) aa fun x hx e v u a b r k1 k2 k3 k4 k5 k6 k7=>ih x e v u a b A.in1 r ((jg xs).mp hm x hx) k1 k2 k3 k4 k5 k6 (by rw [uA];omega) k7
   |_=>simp [ltD] at O
  |_=>simp [puD] at hd
end
section
variable {X:Cx}
def trD:D->Bool
 | .str _=>true
 | .tup xs=>puL xs
 |_=>false
theorem parts_eq {pins:List (Addr×Obj)}{σ:St}{H:Hp}{s:Shared}(I:Inv X pins σ H s){A:Around}{n:Nat}{xs ys:List D}{vs us:List V}{its its':List Value}(hn:dpL xs<=n)(hd:puL xs=true)(he:puL ys=true)(hl:IsL H xs vs)(O:IsL H ys us)(rv:Vals vs its)(U:Vals us its')(hu:A.units+n<cLine):
  ∀j (a1:j<its.toArray.size) (a2:j<its'.toArray.size),SeqAt.EqAt A s its.toArray[j] its'.toArray[j] (eqD (xs.getD j .non) (ys.getD j .non)):=fun j a1 a2=>by
 have l1:its.length=xs.length:=by rw [<-rv.length,hl.length]
 have l2:its'.length=ys.length:=by rw [<-U.length,O.length]
 have Y:j<xs.length:=by rw [<-l1];simpa using a1
 have j2:j<ys.length:=by rw [<-l2];simpa using a2
 obtain⟨v1,e1,i1⟩:=hl.get (i:=j) (d:=xs[j]) (by simp [Y])
 obtain⟨v2,e2,i2⟩:=O.get (i:=j) (d:=ys[j]) (by simp [j2])
 obtain⟨b1,f1,g1⟩:=rv.get e1;obtain⟨b2,f2,g2⟩:=U.get e2;have k1:its.toArray[j]=b1:=by
  have:=f1;rw [u7 (by rw [l1];exact Y)] at this
  simpa using this
 have k2:its'.toArray[j]=b2:=by
  have:=f2;rw [u7 (by rw [l2];exact j2)] at this
  simpa using this
 have d1:xs.getD j .non=xs[j]:=by simp [List.getD,Y]
 have d2:ys.getD j .non=ys[j]:=by simp [List.getD,j2]
 rw [k1,k2,d1,d2];exact eqAt_D I n _ _ _ _ _ _ A ((jg xs).mp hn _ (uv Y)) (QN (j:=j) hd (by simp [Y])) (QN (j:=j) he (by simp [j2])) i1 i2 g1 g2 hu
theorem rc_D {pins:List (Addr×Obj)}{σ:St}{H:Hp}{s:Shared}(I:Inv X pins σ H s){A:Around}{d e:D}{x y:V}{v u:Value}(h1:Is H d x)(h2:Is H e y)(p1:trD d=true)(p2:trD e=true)(hn:dp d<=60)(rx:RelV x v)(ry:RelV y u)(hu:A.units+64<cLine):
  SeqAt.RcAt A s v u (eqD d e)/\SeqAt.RcNeAt A s v u (!eqD d e):=by
 have O:A.units<cLine:=by omega
 cases d with
 |str z=>
  obtain⟨rfl,_⟩:=(show x= .str z/\_ from h1)
  obtain⟨t,rfl⟩:=rx;cases e with
  |str w=>
   obtain⟨rfl,_⟩:=(show y= .str w/\_ from h2)
   obtain⟨t2,rfl⟩:=ry;exact⟨SeqAt.RcAt.str_str _ _ _ _,SeqAt.RcNeAt.str_str _ _ _ _⟩
  |tup ys=>
   obtain⟨p,us,rfl,hp,hl⟩:=(show∃p us,y=V.ref p/\H p=some (.tup us)/\IsL H ys us from h2)
   cases ry;obtain⟨its,_,q,_⟩:=I.tuple (.inl (.of hp));exact⟨SeqAt.RcAt.str_tuple _ _ q O,SeqAt.RcNeAt.str_tuple _ _ q O⟩
  |_=>simp [trD] at p2
 |tup xs=>
  obtain⟨p,vs,rfl,hp,hl⟩:=(show∃p vs,x=V.ref p/\H p=some (.tup vs)/\IsL H xs vs from h1)
  cases rx;obtain⟨its,rv,q,_⟩:=I.tuple (.inl (.of hp));cases e with
  |str w=>
   obtain⟨rfl,_⟩:=(show y= .str w/\_ from h2)
   obtain⟨t2,rfl⟩:=ry;exact⟨SeqAt.RcAt.tuple_str _ _ q O,SeqAt.RcNeAt.tuple_str _ _ q O⟩
  |tup ys=>
   obtain⟨p',us,rfl,aa,U⟩:=(show∃p' us,y=V.ref p'/\H p'=some (.tup us)/\IsL H ys us from h2)
   cases ry;obtain⟨its',Y,q',_⟩:=I.tuple (.inl (.of aa));have hm:dpL xs<=60:=by
    have:dp (.tup xs)=1+dpL xs:=by simp only [dp]
    omega
   have l1:its.length=xs.length:=by rw [<-rv.length,hl.length]
   have l2:its'.length=ys.length:=by rw [<-Y.length,U.length]
   have pe:=parts_eq I (A:=A.in1) hm (by simpa [trD] using p1) (by simpa [trD] using p2) hl U rv Y (by rw [uA];omega)
   have e1:eqD (.tup xs) (.tup ys)=((List.range (min its.toArray.size its'.toArray.size)).all (fun j=>eqD (xs.getD j .non) (ys.getD j .non))&&its.toArray.size==its'.toArray.size):=by
    rw [ub,ub,l1,l2,<-eqL_all];simp only [eqD]
   rw [e1];exact⟨SeqAt.RcAt.tuples q q' O pe,SeqAt.RcNeAt.tuples q q' O pe⟩
  |_=>simp [trD] at p2
 |_=>simp [trD] at p1
def rCmpD (g:Bool->Bool):V->V->Hp->VK->Prop:=fun x y H Q=>∃d e:D,Is H d x/\Is H e y/\trD d=true/\trD e=true/\dp d<=60/\Q (.bl (g (eqD d e))) H
theorem op_eqD (O:X.A.units+64<cLine):OpR X (compareOp .Eq) (rCmpD id):=by
 intro pins s σ H x y v u Q I U Y h;obtain⟨d,e,h1,h2,p1,p2,hn,q⟩:=h;exact(rc_D I h1 h2 p1 p2 hn U Y O).1 X.prog X.w X.xe _ ⟨.bl _,H,I,rfl,q⟩
def tRepl (y z:Str)(to:TE):TE:=fun σ H Q=>to σ H fun x H1=>∃w:Str,x= .str w/\w.length<=1000000/\Q (.str (Txt.replace w y z)) H1
theorem pe_repl {o:Expr}{to:TE}{y z:Str}{j1 j2:Nat}{p1 p2 apos cpos:Pos}(ho:PE X o to)(aa:(y==z)=false)(hz:z.length<=14)
  (O:attributeBase o "replace" X.env (eval o X.env)=eval o X.env:=by rfl)
  (Y:((backTo cpos (starEach [.Constant (.str y) j1 p1,.Constant (.str z) j2 p2] X.env)).all (fun x=> !x.1)&&(backToKw cpos (keywordEach [] X.env)).all (fun x=>x.1.isSome)
   &&decide (([.Constant (.str y) j1 p1,.Constant (.str z) j2 p2]:List Expr).length+([]:List Keyword).length+(if([]:List Keyword).isEmpty then 0 else 1)<30))=true:=by rfl)
  (U:(apos.endLine==cpos.line)=true:=by rfl):
  PE X (.Call (.Attribute o "replace" apos) [.Constant (.str y) j1 p1,.Constant (.str z) j2 p2] [] cpos) (tRepl y z to):=by
 intro pins s σ H Q I h;refine wpAny_Call_method_late O Y U rfl (thn (ho pins s σ H _ I h) fun v s1 ⟨x,H1,I1,r1,w,hx,hw,q⟩=> ?_);subst hx;obtain⟨h1,h2⟩:=tyV_is (T:="str") I1 r1 rfl;refine⟨"str","str.replace",uo,PySem.F.slot_str_replace,PySem.F.type_str_replace,h1,h2,?_⟩;obtain⟨t,rfl⟩:=r1;refine vW rfl (Calls.evalArgs_plain ?_);refine vY (vF (k:=j1) (pos:=p1) ?_);refine vY (vF (k:=j2) (pos:=p2) ?_);refine Uq ?_;have htk:=I1.tk;refine uB (n:=1) (show 1<=s1.toks+1+1 by omega) (SC.replaceW (s:={s1 with toks:=s1.toks+1+1}) (vj htk) (Nat.succ_ne_zero _) (uu (Uw _)) aa (by omega) hz fun t' k hk=> ?_)
 exact⟨.str (Txt.replace w y z),H1,I1.tok k,⟨t',rfl⟩,q⟩
def tFs (a b:Str)(te:TE):TE:=fun σ H Q=>te σ H fun x H1=>∃w:Str,x= .str w/\a.length+w.length+b.length<=1000000/\Q (.str (a++w++b)) H1
theorem pe_fs {e:Expr}{te:TE}{a b:Str}{j1 Y:Nat}{p1 p2 p3 pos:Pos}(he:PE X e te)(ha:a.length<=1000):PE X (.JoinedStr [.Constant (.str a) j1 p1,.FormattedValue e (-1) none p2,.Constant (.str b) Y p3] pos) (tFs a b te):=by
 intro pins s σ H Q I h;have U:=uk;refine wpAny_JoinedStr ?_;refine vF (k:=j1) (pos:=p1) ⟨a,_,rfl,?_,?_⟩
 ·rw [vC,U];omega
 ·refine wpAny_FormattedValue_plain (thn (he pins _ σ H _ (I.tok _) h) fun v s1 ⟨x,H1,I1,r1,w,hx,hw,q⟩=> ?_);subst hx;obtain⟨t,rfl⟩:=r1;have l2:(Str.empty++a++w).length<=sizeLine:=by rw [vC,strLen_append,U];omega
  have l3:(Str.empty++a++w++b).length<=sizeLine:=by rw [vC,strLen_append,strLen_append,U];omega
  have O:∀s2:Shared,Inv X pins σ H1 s2->Joins (model X.prog X.w) X.A X.xe [eval (.Constant (.str b) Y p3) X.env] (Str.empty++a++w) (fun out s₁=>out.length<=sizeLine/\EP X pins σ Q (.str out s₁.toks) {s₁ with toks:=s₁.toks+1}) s2:=fun s2 I2=>by
   refine vF (k:=Y) (pos:=p3) ⟨b,_,rfl,l3,l3,⟨.str (a++w++b),H1,?_,⟨_,by rw [vC]⟩,q⟩⟩
   exact I2.tok _
  exact wpAny_formatField_str ⟨w,_,rfl,l2,O s1 I1⟩ ⟨w,_,rfl,l2,O _ (I1.tok _)⟩ (by rw [U];omega)
end
theorem call_lenZ {X:Cx}:ye X (.builtin "len") (fun xs H Q=>(∃z:Str,xs= [.str z]/\z.length<=sizeLine/\Q (.int z.length) H)∨∃p ys,xs= [.ref p]/\(SqL X.K H p ys∨SqT X.K H p ys)/\(ys.length<=sizeLine->Q (.int ys.length) H)):=by
 intro pins s σ H xs us Q I r h;rcases h with⟨z,e,O,q⟩|h
 ·exact Xz pins s σ H xs us Q I r ⟨_,z.length,e,⟨O,rfl⟩,q⟩
 ·exact call_lenB pins s σ H xs us Q I r h
def gLstU (K:PySem.W.Frag)(n:Nat)(t:TGs):TG:=fun v σ H Q=>∃a xs,v= .ref a/\SqL K H a xs/\xs.length=n/\t xs σ H Q
theorem pg_lstU {X:Cx}{es:List Expr}{k:Nat}{t:TGs}{n:Nat}{pos:Pos}(hc:X.calm=true)(h:PGs X es t)
  (hn:(assignEach es X.env).length=n:=by rfl) (O:(assignEach es X.env).findIdx? (·.1)=none:=by rfl):PG X (.Tuple es k pos) (gLstU X.K n t):=by
 intro pins s σ H v u Q I r U;obtain⟨a,xs,e1,hq,hl,U⟩:=U;subst e1;cases r;obtain⟨its,Y,ht,hz⟩:=I.list hq;rw [assign_Tuple];refine wpAny_bind (U4 ?_);unfold unpack;rw [O,hn,<-hl,show xs.length=its.toArray.size by simp [Y.length]]
 refine wpAny_bind (wpAny_holding (PySem.W.kun_itemsOf (I.ok.hd hc) ht.isList fun h' hx=> ?_));have I1:Inv X pins σ H {s with heap:=h'}:=I.kept (t':=s.toks) fun b o e=>hx b o (uu (ug e)) e
 exact h pins _ σ H xs _ Q I1 (by simpa using Y) U
theorem pass1 {P:Program}{w:World}{K:PySem.W.Frag}{mg:Str->Option Value}{base:Heap}{N:List Str}{qual:Str}{scope:Scope}{f:Addr}{cd:Value}{A:Around}{outer:List Env}{s₀:Shared}{H₀:Hp}{E:XK}:
  yt (CX1 P w) (cxOf (CX1 P w) P w K mg base N qual scope f cd A outer s₀ H₀ E) E:=by
 intro pins σ H s e s' I h;obtain⟨ea,C,a0,H',B,rfl,aq,ae,htk,au,aj,ak,al,hE⟩:=h;show wpAny (model P w) (A.deeper (envOfC qual scope s₀.heap.objs.size f cd)) (leaving (envOfC qual scope s₀.heap.objs.size f cd) (.ref ea)) (fun _ af=>CX1 P w outer H₀ s₀ E (.ref ea) af) (fun e' af=>CX1 P w outer H₀ s₀ E e' af) _;have av:(A.deeper (envOfC qual scope s₀.heap.objs.size f cd)).frames=some (envOfC qual scope s₀.heap.objs.size f cd::outer):=I.ok.frames;have ag:frs (envOfC qual scope s₀.heap.objs.size f cd::outer)=s₀.heap.objs.size::frs outer:=rfl;have O:Un (frs outer) [] H₀ H s₀.heap s.heap:=I.base;have U:Un (frs (envOfC qual scope s₀.heap.objs.size f cd::outer)) [] H H' s.heap s'.heap:=au;have aa:Heap.FlyingW B (envOfC qual scope s₀.heap.objs.size f cd::outer) ea (.ref C) a0 s'.heap:=ak;have ac:∀b o,s.heap.get? b=some o->b∉frs (envOfC qual scope s₀.heap.objs.size f cd::outer)->∃o',B.get? b=some o':=al;have aw:=aa.2.2.1;have ad:∀b o,s₀.heap.get? b=some o->b∉frs outer->b∉frs (envOfC qual scope s₀.heap.objs.size f cd::outer):=fun b o e hb hm=>by
  rw [ag] at hm;rcases List.mem_cons.mp hm with rfl|hm
  ·exact absurd (ug e) (uS _)
  ·exact hb hm
 have nd:∀b∈frs outer,∀o,s'.heap.get? b=some o->∀vs,o.data≠ .fields vs:=fun b hb o e=>by
  obtain⟨_,o',e',hn⟩:=aw.mem (show b∈(envOfC qual scope s₀.heap.objs.size f cd::outer).filterMap (·.frame) from by rw [show(envOfC qual scope s₀.heap.objs.size f cd::outer).filterMap (·.frame)=frs (envOfC qual scope s₀.heap.objs.size f cd::outer) from rfl,ag];exact u5 _ hb)
  rw [e] at e';cases e';exact hn
 refine wpAny_leaves_onW (base:=B) (L:=s₀.heap.objs.size) av rfl aa fun ax ah am=> ?_;have ay:∀b o o',B.get? b=some o'->s'.heap.get? b=some o->ax.get? b=some o:=fun b o o' Y e2=>by
  have:=aa.1 b o' Y;rw [e2] at this;cases this;exact ah.1 b o Y
 refine⟨ea,C,a0,H',B,rfl,aq.trans I.os,ae,htk,⟨?_,?_,?_,?_,?_,?_,?_⟩,aj,ah,?_,hE⟩
 ·intro b o Y hn hb hx;have e2:=O.keep b o Y hn hb hx;have ai:=O.free b o Y hn hx;have ao:=ad b o Y hb;have e3:=U.keep b o e2 ai ao hx;obtain⟨o',e4⟩:=ac b o e2 ao;exact ay b o o' e4 e3
 ·intro b o Y hn hb hx;obtain⟨sl,e2⟩:=O.slot b o Y hn hb hx;have ai:=O.free b o Y hn hx;obtain⟨az,e3⟩:=U.slot b _ e2 ai (by rw [ag];exact u5 _ hb) hx
  obtain⟨ap,e4⟩:=am b _ e3 (nd b hb _ e3);exact⟨ap,e4⟩
 ·intro b o Y hn hx;obtain⟨o',e2⟩:=O.there b o Y hx;exact U.free b o' e2 (O.free b o Y hn hx) hx
 ·intro b o Y hx;obtain⟨o',e2⟩:=O.there b o Y hx;by_cases hb:b∈frs outer
  ·obtain⟨o2,e3⟩:=U.there b o' e2 hx;obtain⟨ap,e4⟩:=am b _ e3 (nd b hb _ e3);exact⟨_,e4⟩
  ·obtain⟨o2,e3⟩:=ac b o' e2 (ad b o Y hb);exact⟨o2,ah.1 b o2 e3⟩
 ·exact fun b xs e=>U.tups b xs (O.tups b xs e)
 ·exact fun b o u e=>U.frzs b o u (O.frzs b o u e)
 ·intro b ps e;obtain⟨m1,Y⟩:=O.tbls b ps e;obtain⟨m2,e2⟩:=U.tbls b _ Y;exact⟨m1++m2,by rw [<-Uf];exact e2⟩
 ·intro b o Y hb;obtain⟨o',e2⟩:=O.there b o Y (by simp)
  exact ac b o' e2 (ad b o Y hb)
theorem passF {X:Cx}:yt (CX1 X.prog X.w) X E0:=fun _ _ _ _ _ _ _ h=>by
 obtain⟨_,_,_,_,_,_,_,_,_,_,_,_,_,z⟩:=h;exact False.elim z
end L2
namespace L2
open PySem PyProof.Rows
theorem Tk.updD {H:Hp}{p:Addr}{xs ys:List (Key×V)}(h:H p=some (.dK xs)):Tk H (upd H p (.dK ys)):=by
 refine⟨fun b zs e=> ?_,fun b zs e=>⟨zs,?_⟩,fun b zs e=> ?_⟩
 ·rw [ql (fun z=>by rw [z,h] at e;cases e)];exact e
 ·rw [ql (fun z=>by rw [z,h] at e;cases e)];exact e
 ·by_cases z:b=p
  ·exact⟨ys,by rw [z];exact qe⟩
  ·exact⟨zs,by rw [ql z];exact e⟩
theorem Tk.updI {H:Hp}{p C dx U O:Addr}{xs ys:List (Str×V)}(h:H p=some (.ins C dx xs)):Tk H (upd H p (.ins U O ys)):=
 ⟨fun b zs e=>by rw [ql (fun z=>by rw [z,h] at e;cases e)];exact e,fun b zs e=>⟨zs,by rw [ql (fun z=>by rw [z,h] at e;cases e)];exact e⟩,fun b zs e=>⟨zs,by rw [ql (fun z=>by rw [z,h] at e;cases e)];exact e⟩⟩
theorem lc_strs {K:PySem.W.Frag}{a A:Addr}{H1:Hp}{te:TE}{tl:St}{Q:VK}{ls:List Str}(C:Nat->List V->Hp->Prop)(ha:H1 a=some (.lst (ls.map V.str)))(hn:ls.length<=sizeLine)(hA:H1 A=none)(h0:C 0 [] (upd H1 A (.lst [])))
  (aa:∀i z ys H,ls[i]? =some z->C i ys H->H A=some (.lst ys)->H a=some (.lst (ls.map V.str))->ys.length<=i->∀R:VK,(∀y U,U A=some (.lst ys)->U a=some (.lst (ls.map V.str))->C (i+1) (ys++ [y]) (upd U A (.lst (ys++ [y])))->R y U)->te (some (.str z)::tl) H R)
  (hQ:∀ys H,C ls.length ys H->H A=some (.lst ys)->Q (.ref A) H):lcGo A (Itl K a) (Y8 0) tYes te (none::tl) H1 Q:=by
 have Y:a≠A:=qh ha hA;refine⟨ls.length,fun i σ ys H=>(∃w,σ=w::tl)/\C i ys H/\H a=some (.lst (ls.map V.str)),hn,⟨⟨none,rfl⟩,h0,by rw [ql Y];exact ha⟩,?_,?_⟩
 ·rintro i σ ys H hi ⟨⟨w,rfl⟩,hc,hl⟩ O hy;have e0:(ls.map V.str)[i]? =some (V.str ls[i]):=by rw [um,u7 hi];rfl
  refine⟨⟨_,_,SqL.of hl,e0⟩,?_⟩;rintro x H' ⟨rfl,hx⟩;have e:=hx _ (SqL.of hl);rw [e0] at e;cases e;dsimp only [Y8,tYes,List.set];rw [if_pos rfl];exact aa i ls[i] ys H' (u7 hi) hc O hl hy _ fun y U h4 h5 c4=>⟨h4,⟨_,rfl⟩,c4,by rw [ql Y];exact h5⟩
 ·rintro σ ys H ⟨_,hc,hl⟩ O;exact⟨⟨_,SqL.of hl,by simp⟩,hQ ys H hc O⟩
section
variable {X:Cx}
theorem Inv.laidM {pins:List (Addr×Obj)}{σ:St}{H H':Hp}{s:Shared}{h':Heap}{t':Nat}(I:Inv X pins σ H s)(k:∀b u,s.heap.get? b=some u->h'.get? b=some u)(O:Same H H')
  (U:∀b o,H b=none->H' b=some o->s.heap.objs.size<=b/\qU X.prog X.w H' h' b o) (Y:0<t'):Inv X pins σ H' {s with heap:=h',toks:=t'}:=by
 refine I.un ⟨fun b u q _ _ _=>k b u q,fun b u q _ _ _=>⟨u.slots,k b u q⟩,fun b u q n _=> ?_,fun b u q _=>⟨u,k b u q⟩,fun b xs q=>O _ _ q,fun b u xs q=>O _ _ q,fun b ps q=>⟨#[],by rw [O _ _ q];simp⟩⟩ (fun b u e=> ?_) Y
 ·cases e:H' b with
  |none=>rfl
  |some o=>
   exact absurd (ug q) (Nat.not_lt.mpr (U b o n e).1)
 ·cases q:H b with
  |none=>exact(U b u q e).2
  |some o=>
   rw [O _ _ q] at e;cases e;exact(I.hok b _ q).stay (fun c v _ z=>k c v z) (fun c z=>O _ _ z) fun c xs z=>O _ _ z
end
section
variable {prog:Program}{w:World}{A:Around}{E:Value->Shared->Prop}{s:Shared}
theorem tuple_by {r:Addr}{T:String}{Q:Value->Shared->Prop}{G:List Value->Shared->Prop}(Y:T="dict_items"∨T="list_reverseiterator")(aa:s.TypeIs (.ref r) T)
  (U:∀(R:List Value->Shared->Prop) (E':Value->Shared->Prop),(∀vs s',G vs s'->R vs s')->wpAny (model prog w) A.in1.in1 (collect (.ref r)) R E' s)
  (hQ:∀vs s',G vs s'->vs.length<=sizeLine/\Q (.ref s'.heap.objs.size) {s' with heap:=s'.heap.push {cls:= .type "tuple",data:= .seq vs.toArray}}):
  wpAny (model prog w) A (call (.type "tuple") [.ref r]) Q E s:=by
 have new:codeAny (model prog w) A.in1 (.call (.builtin "tuple.__new__") ⟨[.type "tuple",.ref r],[]⟩) (wants (fun obj O=>O.TypeIs obj "tuple"/\Q obj O) E) s:=by
  refine codeAny_of_tree ?_;show wpAny _ A.in1.in1 (do checkBuiltinCall "tuple.__new__" ⟨[.type "tuple",.ref r],[]⟩;again (.builtin "tuple.__new__" ⟨[.type "tuple",.ref r],[]⟩)) _ _ s
  refine wpAny_bind (wpAny_of_eq (PySem.F.newCall_tuple_1 _) (u9 ⟨plainId_quiet PySem.F.plain_tuple_new _,Uj PySem.F.entry_tuple_new ?_⟩));rw [Around.under_plainId PySem.F.plain_tuple_new _];have ad:=sub_tuple_self;have ac:=init_tuple_lookup;have ae:=madeHere_tuple;rcases Y with rfl|rfl
  all_goals
   wp_walk using wpAny_typeOf aa,U
   intro vs s' hg;obtain⟨hl,hq⟩:=hQ vs s' hg;show wpAny _ _ (Builtin.Tuple.tupleExact vs.toArray>>=fun v=>ret v) _ _ _;unfold Builtin.Tuple.tupleExact;refine wpAny_bind (U6 ?_ (by show vs.toArray.size<=sizeLine;simpa using hl))
   refine u9 ?_;exact⟨⟨_,uh _ rfl,rfl⟩,hq⟩
 refine callType_codes (Q₁:=fun obj O=>O.TypeIs obj "tuple"/\Q obj O) PySem.F.called_tuple (PySem.F.typeCall_tuple_1 _) PySem.F.entry_object_init new fun obj O h₁=> ?_;exact⟨h₁.1,PySem.F.args_object_init_2 obj _,object_init_meets PySem.F.called_tuple.init.lookup PySem.F.called_tuple.made (by decide) prog w A.in1 _ O ⟨h₁.1,rfl,h₁.2⟩⟩
end
def addT (ps:List (Addr×List V))(H:Hp):Hp:=ps.foldl (fun h p=>upd h p.1 (.tup p.2)) H
theorem Y1:∀(ps:List (Addr×List V)) (H:Hp) (b:Addr),b∉ps.map (·.1)->addT ps H b=H b
 | [],_,_,_=>rfl
 |p::r,H,b,h=>by
  show addT r (upd H p.1 (.tup p.2)) b=_;rw [Y1 r _ b (fun m=>h (u5 _ m)),ql (fun e=>h (by rw [e];exact ui ..))]
theorem addT_at:∀(ps:List (Addr×List V)) (H:Hp) (p:Addr×List V),(ps.map (·.1)).Nodup->p∈ps->addT ps H p.1=some (.tup p.2)
 | [],_,_,_,h=>nomatch h
 |q::r,H,p,hn,h=>by
  have O:=List.nodup_cons.mp hn;show addT r (upd H q.1 (.tup q.2)) p.1=_;rcases List.mem_cons.mp h with rfl|h
  ·rw [Y1 r _ _ O.1,qe]
  ·exact addT_at r _ p O.2 h
def Xg (H:Hp)(kvs:List (Key×V))(ts:List Addr):Prop:=ts.length=kvs.length/\∀(j:Nat) (t:Addr) (p:Key×V),ts[j]? =some t->kvs[j]? =some p->H t=some (.tup [kV p.1,p.2])
def tItems (mk:List V->HO)(to:TE):TE:=fun σ H Q=>to σ H fun x H1=>∃(d:Addr) (kvs:List (Key×V)),x= .ref d/\Rd H1 d (.dK kvs)/\∀(t:Addr) (ts:List Addr) (H2:Hp),Same H1 H2->H1 t=none->H2 t=some (mk (ts.map V.ref))->Xg H2 kvs ts->Q (.ref t) H2
theorem Jp {α β:Type}:∀{as:List α}{bs:List β},as.length=bs.length->(as.zip bs).map (·.1)=as
 | [],[],_=>rfl
 |a::as,b::bs,h=>by
  rw [List.zip_cons_cons,ua,Jp (by simpa using h)]
theorem paired_at {α β:Type}{F:α->β->Prop}:∀{l₁:List α}{O:List β},Paired F l₁ O->∀{j:Nat}{a:α}{b:β},l₁[j]? =some a->O[j]? =some b->F a b
 |_,_,.nil,j,a,b,h,_=>by simp at h
 |_,_,.cons f r,0,a,b,h1,h2=>by
  cases h1;cases h2;exact f
 |_,_,.cons f r,j+1,a,b,h1,h2=>paired_at r (j:=j) (by simpa using h1) (by simpa using h2)
section
variable {X:Cx}{pins:List (Addr×Obj)}{σ:St}{H:Hp}{s:Shared}
theorem xM {r t:Addr}{kvs:List (Key×V)}{vs:List (Key×Value)}{as:List Addr}{h1 h2:Heap}{tk:Nat}{o:HO}(I:Inv X pins σ H s)(O:KV kvs vs)(k2:∀b u,s.heap.get? b=some u->h2.get? b=some u)(hl:as.length=vs.length)(hz:s.heap.objs.size<=r)
  (hG:PySem.W.KdxG (qL X.prog X.w) vs r h1 as) (ac:∀a∈as,∀u,h1.get? a=some u->h2.get? a=some u) (ht:s.heap.objs.size<=t) (ad:t∉as) (hu:∃u,o=u) (htk:0<tk)
  (new:∀H',Same H H'->Xg H' kvs as->qU X.prog X.w H' h2 t o):
  ∃H',Inv X pins σ H' {s with heap:=h2,toks:=tk}/\Same H H'/\H t=none/\H' t=some o/\Xg H' kvs as:=by
 have hn:as.Nodup:=hG.rise.imp fun h=>uu h;have hf:∀a∈as,H a=none:=fun a ha=>I.hok.fresh (uQ hz (vd (hG.above a ha)));have aa:H t=none:=I.hok.fresh ht;have ag:kvs.length=vs.length:=O.length
 let ps:List (Addr×List V):=as.zip (kvs.map fun p=> [kV p.1,p.2])
 have ef:ps.map (·.1)=as:=Jp (by rw [u3];omega)
 have ae:Same H (addT ps H):=fun b u e=>by
  rw [Y1 ps H b (by rw [ef];exact fun m=>by rw [hf b m] at e;cases e)]
  exact e
 have sm:Same H (upd (addT ps H) t o):=fun b u e=>by
  rw [ql (qh e aa)];exact ae _ _ e
 have it:Xg (upd (addT ps H) t o) kvs as:=by
  refine⟨by omega,fun j a p h3 h4=> ?_⟩
  have ma:=uE h3;rw [ql (fun e=>ad (by rw [<-e];exact ma))]
  refine addT_at ps H (a,[kV p.1,p.2]) (by rw [ef];exact hn) ?_
  refine uE (i:=j) ?_;show(as.zip (kvs.map fun p=> [kV p.1,p.2]))[j]? =_;rw [vJ];exact⟨h3,by rw [um,h4];rfl⟩
 refine⟨upd (addT ps H) t o,I.laidM k2 sm (fun b u e1 Y=> ?_) htk,sm,aa,qe,it⟩;by_cases hb:b=t
 ·subst hb;rw [qe] at Y;cases Y;exact⟨ht,new _ sm it⟩
 ·rw [ql hb] at Y;have mb:b∈as:=by
   refine Classical.byContradiction fun m=> ?_;rw [Y1 ps H b (by rw [ef];exact m),e1] at Y
   cases Y
  refine⟨uQ hz (vd (hG.above b mb)),?_⟩;obtain⟨j,hj⟩:=List.mem_iff_getElem?.mp mb;obtain⟨af,kk,x,f1,f2,f3⟩:=hG.pairs j b hj;have U:j<kvs.length:=by
   have:=(List.getElem?_eq_some_iff.mp f1).1;omega
  have e5:=it.2 j b kvs[j] hj (u7 U);rw [ql hb,Y] at e5;cases e5;have q1:kvs[j].1=kk:=by
   have:(kvs.map (·.1))[j]? =some kk:=by rw [O.keys,um,f1];rfl
   rw [um,u7 U] at this;exact uI this
  have q2:RelV kvs[j].2 x:=by
   exact(paired_at O (u7 U) f1).2
  refine⟨by show 2<=sizeLine;decide,[af,x],.cons (by rw [q1];exact kV_rel f2) (.cons q2 .nil),⟨_,ac b mb _ f3,rfl,_,rfl⟩⟩
theorem xD {o:Expr}{to:TE}{apos cpos:Pos}{R:Value->Shared->Prop}{Q:VK}(ho:PE X o to)(I:Inv X pins σ H s)(O:attributeBase o "items" X.env (eval o X.env)=eval o X.env)(U:(apos.endLine==cpos.line)=true)
  (h:to σ H Q)
  (k:∀(s1:Shared) (H1:Hp) (x:V),Inv X pins σ H1 s1->Q x H1->∃(d:Addr) (kvs:List (Key×V)),x= .ref d/\Rd H1 d (.dK kvs)/\R (.ref s1.heap.objs.size) {s1 with heap:=s1.heap.push {cls:= .type "dict_items",data:= .fields #[.ref d]}}):
  wpAny (model X.prog X.w) X.A (eval (.Call (.Attribute o "items" apos) [] [] cpos) X.env) R X.xe s:=by
 refine wpAny_Call_method0_late O U (thn (ho pins s σ H _ I h) fun v s1 ⟨x,H1,Y,r1,q⟩=> ?_);obtain⟨d,kvs,ex,hd,q2⟩:=k s1 H1 x Y q;subst ex;cases r1;obtain⟨hz,lo,vs,ac,dd⟩:=Xe Y.hok hd;have aa:∀a,Value.ref d= .ref a->∃ob,s1.heap.get? a=some ob/\ob.dict=none:=dict_noDict Y (y:=kV (Sum.inl 0)) (.inl ⟨kvs,Sum.inl 0,hd,rfl,rfl⟩);exact⟨"dict","dict.items",PySem.F.plainAttrs_dict,PySem.F.slot_dict_items,PySem.F.type_dict_items,dd.typeIs,aa,vW rfl (PySem.evalArgs_none (call_meetsIn PySem.F.slot_dict_items dd.typeIs PySem.F.entry_dict_items (PySem.F.args_dict_items_1 _) (meets_dict_items (qL X.prog X.w) d lo) ⟨⟨vs,dd⟩,q2⟩))⟩
theorem pe_tupItems {x:Str}{o:Expr}{to:TE}{p pos apos cpos:Pos}(hc:X.calm=true)(hg:Gl X x)(hm:X.mg x=none)(hv:bootBuiltins x=some (.type "tuple"))(ho:PE X o to)(hn:x≠"__name__":=by decide)(ac:(x==("__debug__":Str))=false:=by decide)
  (U:attributeBase o "items" X.env (eval o X.env)=eval o X.env:=by rfl) (Y:(apos.endLine==cpos.line)=true:=by rfl)
  (he:starEach [.Call (.Attribute o "items" apos) [] [] cpos] X.env=(false,eval (.Call (.Attribute o "items" apos) [] [] cpos) X.env)::starEach [] X.env:=by rfl) (ad:(backTo pos (starEach [] X.env)).any (·.1)=false:=by rfl):
  PE X (.Call (.Name x p) [.Call (.Attribute o "items" apos) [] [] cpos] [] pos) (tItems .tup to):=by
 intro pins s σ H Q I h;refine uO (Jj I hg hm hv ?_ hn ac);refine vt ?_ he ad;rw [he];show wpAny _ _ (spliced ((false,eval (.Call (.Attribute o "items" apos) [] [] cpos) X.env)::backTo pos (starEach [] X.env))) _ _ s;refine vY (xD ho I U Y h ?_);rintro s1 H1 x I1 ⟨d,kvs,rfl,hd,q⟩;refine⟨d,kvs,rfl,hd,Uq ?_⟩;obtain⟨hz,lo,vs,aa,dd⟩:=Xe I1.hok hd;obtain⟨o,es,ep,ho⟩:=id dd;have ae:s1.heap.DictAt (qL X.prog X.w) d vs ep:=⟨o,es,ho⟩;have O:(s1.heap.push {cls:= .type "dict_items",data:= .fields #[.ref d]}).IsItemsView s1.heap.objs.size d:=⟨_,uh _ rfl,rfl,rfl⟩;refine uB (n:=1) I1.tk ?_;refine tuple_by (G:=fun us s'=>∃(h':Heap) (tk:Nat) (as:List Addr),us=as.map Value.ref/\s'={s1 with heap:=h',toks:=tk}/\(∀b o,(s1.heap.push {cls:= .type "dict_items",data:= .fields #[.ref d]}).get? b=some o->h'.get? b=some o)/\as.length=vs.length/\PySem.W.KdxG (qL X.prog X.w) vs (s1.heap.push {cls:= .type "dict_items",data:= .fields #[.ref d]}).objs.size h' as)
  (.inl rfl) O.typeIs (fun R E' k=>PySem.W.kdx_collect (s:={s1 with heap:=s1.heap.push {cls:= .type "dict_items",data:= .fields #[.ref d]}}) (knd:=qL X.prog X.w) (kvs:=vs) (ep:=ep) (A:=X.A.in1.in1) (I1.ok.hd hc) O (ae.push _) (by rw [<-aa.length];exact hz) fun h' tk as k1 k2 k3=>k _ _ ⟨h',tk,as,rfl,rfl,k1,k2,k3⟩) ?_
 rintro us s' ⟨h',tk,as,rfl,rfl,k1,k2,k3⟩;have ai:=aa.length;refine⟨by rw [u3];omega,fun htk=> ?_⟩
 have hsz:s1.heap.objs.size<=(s1.heap.push {cls:= .type "dict_items",data:= .fields #[.ref d]}).objs.size:=by rw [va];exact vH _
 have k0:∀b u,s1.heap.get? b=some u->h'.get? b=some u:=fun b u e=>k1 b u (u4 _ e);have af:∀a∈as,a<h'.objs.size:=fun a ha=>k3.there ha;have hsz2:s1.heap.objs.size<=h'.objs.size:=by
  have:=ug (k1 _ _ (uh s1.heap (o:={cls:= .type "dict_items",data:= .fields #[.ref d]}) rfl));exact vd this
 have ag:∀l:List Addr,Vals (l.map V.ref) (l.map Value.ref):=by
  intro l
  induction l with
  |nil=>exact .nil
  |cons a r ih=>exact .cons rfl ih
 obtain⟨H2,I2,sm,tn,ah,it⟩:=xM (h2:=h'.push {cls:= .type "tuple",data:= .seq (as.map Value.ref).toArray}) (t:=h'.objs.size) (o:= .tup (as.map V.ref)) (tk:=tk) I1 aa (fun b u e=>u4 _ (k0 b u e)) k2 hsz k3 (fun a _ u e=>u4 _ e) hsz2 (fun m=>uS _ (af _ m)) ⟨_,rfl⟩ htk (fun H' _ _=>⟨by rw [u3];omega,as.map Value.ref,ag as,⟨_,uh _ rfl,rfl,_,rfl⟩⟩)
 exact⟨.ref h'.objs.size,H2,I2,rfl,q _ as H2 sm tn ah it⟩
end
def okHd:D->Bool
 | .non=>true
 |d=>trD d
section
variable {X:Cx}
def rEqM:V->V->Hp->VK->Prop:=fun x y H Q=>∃(d:D) (z:Str),Is H d x/\y= .str z/\z.length<=1000/\okHd d=true/\dp d<=60/\Q (.bl (eqD d (.str z))) H
theorem op_eqM (hu:X.A.units+64<cLine):OpR X (compareOp .Eq) rEqM:=by
 intro pins s σ H x y v u Q I O U h;obtain⟨d,z,hd,rfl,hz,Y,hp,q⟩:=h;cases d with
 |non=>
  cases(show x= .non from hd)
  exact Q1 pins s σ H .non (.str z) v u Q I O U ⟨rfl,by simpa [eqD] using q⟩
 |str a=>exact op_eqD hu pins s σ H x _ v u Q I O U ⟨_,.str z,hd,⟨rfl,by rw [uk];omega⟩,Y,rfl,hp,q⟩
 |tup a=>exact op_eqD hu pins s σ H x _ v u Q I O U ⟨_,.str z,hd,⟨rfl,by rw [uk];omega⟩,Y,rfl,hp,q⟩
 |_=>simp [okHd,trD] at Y
def rInM (K:PySem.W.Frag):V->V->Hp->VK->Prop:=fun x y H Q=>∃(d:D) (p:Addr) (ls:List Str),Is H d x/\y= .ref p/\(SqL K H p (ls.map V.str)∨SqT K H p (ls.map V.str))/\(∀z∈ls,z.length<=1000)/\okHd d=true/\dp d<=60/\Q (.bl (ls.any fun z=>eqD d (.str z))) H
theorem flat_ss (us:List Str):(us.map V.str).all XQ=true:=by
 rw [Uu,Ub];exact fun _ _=>rfl
theorem op_inM (hu:X.A.units+64<cLine):OpR X (compareOp .In) (rInM X.K):=by
 intro pins s σ H x y v u Q I rx ry h;obtain⟨d,p,ls,hd,rfl,O,ac,hk,hp,q⟩:=h;cases d with
 |non=>
  cases(show x= .non from hd)
  refine yX pins s σ H .non _ v u Q I rx ry ⟨p,_,rfl,O,rfl,flat_ss _,?_⟩;have e:inV .non (ls.map V.str)=ls.any fun z=>eqD .non (.str z):=by
   unfold inV;rw [List.any_map]
   rfl
  rw [if_neg uc,e];exact q
 |str a=>
  obtain⟨rfl,_⟩:=hd;refine yX pins s σ H _ _ v u Q I rx ry ⟨p,_,rfl,O,rfl,flat_ss _,?_⟩;have e:inV (.str a) (ls.map V.str)=ls.any fun z=>eqD (.str a) (.str z):=by
   unfold inV;rw [List.any_map];refine congrArg (fun f=>ls.any f) (funext fun z=> ?_);show(z==a)=(a==z);rw [vk,UC,UC];exact eq_comm
  rw [if_neg uc,e];exact q
 |tup xs=>
  have e:(ls.any fun z=>eqD (.tup xs) (.str z))=false:=by
   rw [List.any_eq_false];intro z _;simp [eqD]
  rw [e] at q;obtain⟨pa,vs,rfl,ha,hl⟩:=hd;cases rx;cases ry;obtain⟨ad,ae,af,_⟩:=I.tuple (.inl (.of ha));have ag:X.A.units<cLine:=by omega
  have U:∀{its:List Value},Vals (ls.map V.str) its->∀w∈its,∀A:Around,A.units+1<cLine->SeqAt.EqAt A s w (.ref pa) false:=by
   intro its r w Y A hA;obtain⟨j,hj⟩:=List.mem_iff_getElem?.mp Y;have aa:j<ls.length:=by
    have:=(List.getElem?_eq_some_iff.mp hj).1;have:=r.length;rw [u3] at this;omega
   obtain⟨u',e1,e2⟩:=r.get (i:=j) (x:=V.str ls[j]) (by rw [um,u7 aa];rfl)
   rw [hj] at e1;cases e1;have:=eqAt_D I 1 (.str ls[j]) (.tup xs) (.str ls[j]) (.ref pa) _ (.ref pa) A (by simp [dp]) rfl (by simpa [okHd,trD,puD] using hk) ⟨rfl,by have:=ac _ (uv aa);rw [uk];omega⟩ ⟨pa,vs,rfl,ha,hl⟩ e2 rfl (by omega)
   simpa [eqD] using this
  rcases O with O|O
  ·obtain⟨its,r,pl,hz⟩:=I.list O;refine SeqAt.in_listAt (fun _=>false) pl.isList (fun w Y=>U r w (by simpa using Y) _ ?_) ⟨.bl _,H,I,rfl,?_⟩
   ·first|omega|(rw [uA];omega)|(rw [uA,uA];omega)|(rw [uA,uA,uA];omega)
   ·rw [show its.toArray.any (fun _=>false)=false by rw [List.any_toArray];exact List.any_eq_false.mpr fun _ _=>uc]
    exact q
  ·obtain⟨its,r,pl,hz⟩:=I.tuple O;refine SeqAt.in_tupleAt (fun _=>false) pl (fun w Y=>U r w (by simpa using Y) _ ?_) ⟨.bl _,H,I,rfl,?_⟩
   ·first|omega|(rw [uA];omega)|(rw [uA,uA];omega)|(rw [uA,uA,uA];omega)
   ·rw [show its.toArray.any (fun _=>false)=false by rw [List.any_toArray];exact List.any_eq_false.mpr fun _ _=>uc]
    exact q
 |_=>simp [okHd,trD] at hk
end
end L2
namespace L2
open PySem PySem.Spec PyProof.Rows
section
variable {X:Cx}
theorem op_le_str:OpR X (compareOp .LtE) (fun x y H Q=>∃i j,x= .str i/\y= .str j/\Q (.bl (!decide (j.cps.toList<i.cps.toList))) H):=by
 intro pins s σ H x y v u Q I O U h;obtain⟨i,j,rfl,rfl,q⟩:=h;obtain⟨t,rfl⟩:=O;obtain⟨t',rfl⟩:=U;exact PySem.P.le_str (qK I q rfl)
end
section
variable {X:Cx}{pins:List (Addr×Obj)}{σ:St}{H:Hp}{s:Shared}
theorem all_true (n:Nat):(List.range n).all (fun _=>true)=true:=by simp
theorem op_neNil (hu:X.A.units+64<cLine):OpR X (compareOp .NotEq) (fun x y H Q=>∃a b xs,x= .ref a/\y= .ref b/\SqT X.K H a xs/\SqT X.K H b []/\Q (.bl (!xs.isEmpty)) H):=by
 intro pins s σ H x y v u Q I Y ry h;obtain⟨p,p',xs,rfl,rfl,hp,O,q0⟩:=h;cases Y;cases ry;obtain⟨its,rv,q,_⟩:=I.tuple hp;obtain⟨its',U,q',_⟩:=I.tuple O;cases U;have e2:=SeqAt.RcNeAt.tuples (A:=X.A) (e:=fun _=>true) q q' (by omega) fun j h1 h2=>absurd h2 (by simp)
 refine e2 X.prog X.w X.xe _ ⟨.bl _,H,I,?_,q0⟩;have l1:=rv.length;show Value.bool (!((List.range (min its.toArray.size 0)).all (fun _=>true)&&its.toArray.size==0))=Value.bool (!xs.isEmpty);rw [all_true,ub,<-l1];cases xs<;>rfl
theorem ps_tryN {O:List Stmt}{h₀:ExceptHandler}{Y:List ExceptHandler}{pos:Pos}{t:TS}(hb:PSs X.nox O t):PS X (.Try O (h₀::Y) [] [] pos) t:=by
 intro pins s σ H D I h;refine wpAny_Try_except (uJ (hb pins s σ H D (I.wish _) h) (fun f s1 q=> ?_) fun e s1 z=>False.elim z);have U:=SP.unwish q;cases f with
 |next=>exact vL U
 |ret v=>exact U
 |brk=>exact U
 |cont=>exact U
end
structure FF (K:PySem.W.Frag)(mg:Str->Option Value)(x:Str)(st:Stmt)(ps:List Str)(f:Addr)(fd:FuncData):Prop where
 F:Fun K x x st f fd
 b:y6 K fd ps []
 m:mg x=some (.ref f)
structure FM (K:PySem.W.Frag)(C:Addr)(x q:Str)(st:Stmt)(ps:List Str)(f:Addr)(fd:FuncData):Prop where
 F:Fun K x q st f fd
 b:y6 K fd ps []
 h:Meth K C x f
def FZ (K:PySem.W.Frag)(x q:Str)(st:Stmt)(f:Addr):Prop:=∃(oc kV dc pm cd ct:Value) (od an:Option Addr) (sl:Array (Option Value)),K.lookup f=some ⟨oc,od,.func (PySem.W.fnOf x q (YD st) (yf st) (qj st) .none kV dc pm an cd ct),sl⟩/\PySem.W.codeIn K cd q=true/\PySem.W.keepIn K (.ref f)=true
def FZg (K:PySem.W.Frag)(x:Str)(st:Stmt)(f:Addr):Prop:=PySem.W.nsIn K mainGlobals x=some (some (.ref f))/\FZ K x x st f
def FZm (K:PySem.W.Frag)(C:Addr)(x q:Str)(st:Stmt)(f:Addr):Prop:=PySem.W.findIn K (.ref C) x=some (some (.ref f))/\PySem.W.isFn K (.ref f)=true/\FZ K x q st f
def BOk (x q:Str)(st:Stmt)(ps:List Str):Prop:=∀(kV doc pm:Value) (an:Option Addr) (cdv ct:Value) (us:List Value),us.length=ps.length->bindArgs (PySem.W.fnOf x q (YD st) (yf st) (qj st) .none kV doc pm an cdv ct) ⟨us,[]⟩=pure (ps.zip us)
theorem Qf {K:PySem.W.Frag}{h:Heap}{mg:Str->Option Value}(X:K.In h)(G:h.Ns mainGlobals mg){x:Str}{st:Stmt}{f:Addr}(z:FZg K x st f)(ps:List Str)(O:BOk x x st ps):∃fd,FF K mg x st ps f fd:=by
 obtain⟨a,oc,kV,dc,pm,U,ct,od,an,sl,l,c,k⟩:=z;have F:=fun_mk (st:=st) l c k;exact⟨_,F,F.binds O,uR X G a⟩
theorem fm_of {K:PySem.W.Frag}{C:Addr}{x q:Str}{st:Stmt}{f:Addr}(z:FZm K C x q st f)(ps:List Str)(O:BOk x q st ps):∃fd,FM K C x q st ps f fd:=by
 obtain⟨a,i,oc,kV,dc,pm,U,ct,od,an,sl,l,c,k⟩:=z;have F:=fun_mk (st:=st) l c k;exact⟨_,F,F.binds O,⟨a,i,k⟩⟩
theorem FF.law {K:PySem.W.Frag}{mg:Str->Option Value}{x:Str}{st:Stmt}{ps:List Str}{f:Addr}{fd:FuncData}(T:FF K mg x st ps f fd){y:Str}(h:∀(kV doc pm:Value) (an:Option Addr) (cdv ct u:Value),bindArgs (PySem.W.fnOf x x (YD st) (yf st) (qj st) .none kV doc pm an cdv ct) ⟨[u],[]⟩=pure [(y,u)])(s:Shared)(u:Value):BindsTo s fd ⟨[u],[]⟩ [(y,u)]:=by
 obtain⟨oc,od,kV,doc,pm,an,cdv,ct,osl,rfl,U,O⟩:=T.F.ex;exact .of_eq (h kV doc pm an cdv ct u)
section
variable {X:Cx}
theorem vals_rev:∀{xs:List V}{us:List Value},Vals xs us->Vals xs.reverse us.reverse
 |_,_,.nil=> .nil
 |_,_,.cons h t=>by
  rw [Us,Us];exact(vals_rev t).append (.cons h .nil)
end
end L2
namespace L2
open PySem PyProof.Rows
structure SB (kd:SortKind)(xs0:Array Keyed)(st:SortSt):Prop where
 pm:(arrOf st).Perm xs0
 ki:kindOf st=kd
 ok:failedOf st=none
 pe:pendingOf st= #[]
section
variable {P:Program}{w:World}{A:Around}{s:Shared}{kd:SortKind}{xs0:Array Keyed}{rk:Keyed->Nat}
theorem SB.sz {st:SortSt}(h:SB kd xs0 st):(arrOf st).size=xs0.size:=h.pm.size_eq
theorem SB.arr {st:SortSt}(h:SB kd xs0 st){ys:Array Keyed}(O:ys.Perm (arrOf st)):SB kd xs0 (setArr st ys):=⟨O.trans h.pm,h.ki,h.ok,h.pe⟩
def rkAt (rk:Keyed->Nat)(xs:Array Keyed)(i:Nat):Nat:=(xs[i]?.map rk).getD 0
def Asc (rk:Keyed->Nat)(xs:Array Keyed)(n:Nat):Prop:=∀i j,i<=j->j<n->rkAt rk xs i<=rkAt rk xs j
def Dsc (rk:Keyed->Nat)(xs:Array Keyed)(n:Nat):Prop:=∀i j,i<=j->j<n->rkAt rk xs j<=rkAt rk xs i
theorem rk_bub {xs:Array Keyed}{c d:Nat}(O:c<xs.size)(hd:d<=c)(k:Nat):rkAt rk (bubble xs c d) k=if k=c-d then rkAt rk xs c else if c-d<k/\k<=c then rkAt rk xs (k-1) else rkAt rk xs k:=by
 unfold rkAt;rw [getElem?_bubble O d hd k];split
 ·rfl
 ·split<;>rfl
theorem rk_mir {xs:Array Keyed}{i j:Nat}(O:j<=xs.size)(k:Nat):rkAt rk (mirror xs i j ((j-i)/2)) k=if i<=k/\k<j then rkAt rk xs (i+j-1-k) else rkAt rk xs k:=by
 unfold rkAt;rw [getElem?_mirror_all O k];split<;>rfl
theorem yj {xs:Array Keyed}{i j:Nat}(O:j<=xs.size)(e:∀k,i<=k->k<j->rkAt rk xs k=rkAt rk xs (j-1))(k:Nat):rkAt rk (mirror xs i j ((j-i)/2)) k=rkAt rk xs k:=by
 rw [rk_mir O];split
 ·rw [e (i+j-1-k) (by omega) (by omega),e k (by omega) (by omega)]
 ·rfl
def ByRk (P:Program)(w:World)(A:Around)(s:Shared)(kd:SortKind)(xs0:Array Keyed)(rk:Keyed->Nat):Prop:=
 ∀x∈xs0.toList,∀y∈xs0.toList,∀(E:Value->Shared->Prop) (Q:Bool->Shared->Prop),Q (decide (rk x<rk y)) s->wpAny (model P w) A (keyLt' kd x.1 y.1) Q E s
variable {E:Value->Shared->Prop}
theorem SB.at {st:SortSt}(h:SB kd xs0 st){i:Nat}(hi:i<xs0.size):∃x,x∈xs0.toList/\(arrOf st)[i]? =some x/\rkAt rk (arrOf st) i=rk x:=by
 have O:i<(arrOf st).size:=by rw [h.sz];exact hi
 have e:(arrOf st)[i]? =some (arrOf st)[i]:=getElem?_pos _ i O;refine⟨(arrOf st)[i],(Array.perm_iff_toList_perm.mp h.pm).mem_iff.mp (by simp),e,?_⟩
 unfold rkAt;rw [e]
 rfl
theorem lt_rk {st:SortSt}{i j:Nat}{Q:Option Bool->SortSt->Prop}(U:ByRk P w A s kd xs0 rk)(O:SB kd xs0 st)(hi:i<xs0.size)(Y:j<xs0.size)
  (q:Q (some (decide (rkAt rk (arrOf st) i<rkAt rk (arrOf st) j))) st):wpS (model P w) A E s (ltAt' i j) Q st:=by
 obtain⟨x,mx,ex,rx⟩:=O.at (rk:=rk) hi;obtain⟨y,my,ey,ry⟩:=O.at (rk:=rk) Y;rw [rx,ry] at q;rw [ltAt'_eq];refine wpS_bind (wpS_get ?_);show wpS _ _ _ _ (elem' (arrOf st) i>>=fun u=>elem' (arrOf st) j>>=fun v=>lt' u v) Q st;rw [elem'_eq,elem'_eq,ex,ey];refine wpS_bind (vi (wpS_bind (vi ?_)));rw [lt'_eq];refine wpS_bind (wpS_get ?_);rw [O.ki];exact wpS_bind (wpS_lift (vQ (U x mx y my _ _ ⟨rfl,vi q⟩)))
theorem rk_insert {st:SortSt}{n ok:Nat}{Q:Bool->SortSt->Prop}(hc:ByRk P w A s kd xs0 rk)(hn:n<=xs0.size)(hok:ok<=n)(hB:SB kd xs0 st)(hs:Asc rk (arrOf st) ok)
  (q:∀O,SB kd xs0 O->Asc rk (arrOf O) n->Q true O):wpS (model P w) A E s (binarySort' 0 n ok) Q st:=by
 rw [binarySort'_eq];simp only [Nat.zero_add];refine wpS_bind (wpS_mono (wpS_forRange (I:=fun k c O=>c=(none,())/\SB kd xs0 O/\Asc rk (arrOf O) (min k n)) (Q:=fun c O=>c=(none,())/\SB kd xs0 O/\Asc rk (arrOf O) n) ?st ?en ?be) ?af)
 case af=>
  rintro c O ⟨rfl,b1,U⟩;exact vi (q O b1 U)
 case be=>
  refine⟨rfl,hB,fun i j a b=> ?_⟩;rcases Nat.eq_zero_or_pos ok with z|z
  ·rw [show i=j by omega]
   exact Nat.le_refl _
  ·exact hs i j a (by omega)
 case en=>
  rintro c O ⟨b0,b1,U⟩;refine⟨b0,b1,?_⟩;rw [show min (max (max ok 1) n) n=n by omega] at U
  exact U
 case st=>
  rintro k c O ka kn ⟨rfl,b1,U⟩;rw [show min k n=k by omega] at U
  have hk:k<xs0.size:=by omega
  refine wpS_bind (wpS_mono (wpS_forRange (I:=fun x c u=>u=O/\∃l r,c=(none,l,r)/\l<=r/\r<=k/\r-l<=k-x/\(∀i,i<l->rkAt rk (arrOf O) i<=rkAt rk (arrOf O) k)/\∀i,r<=i->i<k->rkAt rk (arrOf O) k<rkAt rk (arrOf O) i)
   (Q:=fun c u=>u=O/\∃l r,c=(none,l,r)/\l<=k/\(∀i,i<l->rkAt rk (arrOf O) i<=rkAt rk (arrOf O) k)/\∀i,l<=i->i<k->rkAt rk (arrOf O) k<rkAt rk (arrOf O) i) ?st2 ?en2 ?be2) ?af2)
  case be2=>exact⟨rfl,0,k,rfl,uF _,Nat.le_refl _,by omega,fun i z=>absurd z (Nat.not_lt_zero _),fun i z1 z2=>by omega⟩
  case en2=>
   rintro c u ⟨rfl,l,r,rfl,c1,c2,c3,c4,c5⟩;obtain rfl:l=r:=by omega
   exact⟨rfl,l,l,rfl,c2,c4,c5⟩
  case st2=>
   rintro x c u _ xk ⟨rfl,l,r,rfl,c1,c2,c3,c4,c5⟩;dsimp only;by_cases Y:l≥r
   ·rw [if_pos Y];obtain rfl:l=r:=by omega
    exact vi ⟨rfl,l,l,rfl,c2,c4,c5⟩
   ·rw [if_neg Y];refine wpS_bind (lt_rk hc b1 hk (by omega) ?_)
    by_cases le:rkAt rk (arrOf u) k<rkAt rk (arrOf u) ((l+r)/2)
    ·rw [u8 le];simp only [Ug];refine vi ⟨rfl,l,(l+r)/2,rfl,by omega,by omega,by omega,c4,fun i z1 z2=> ?_⟩
     exact Nat.lt_of_lt_of_le le (U _ _ z1 z2)
    ·rw [ud le];simp only [uC,vK];refine vi ⟨rfl,(l+r)/2+1,r,rfl,by omega,by omega,by omega,fun i z1=> ?_,c5⟩
     have:=U i ((l+r)/2) (by omega) (by omega)
     omega
  case af2=>
   rintro c u ⟨rfl,l,r,rfl,c2,c4,c5⟩;show wpS _ _ _ _ (moveDown' k l>>=fun _=>pure (ForInStep.yield (none,()))) _ _;rw [moveDown'_eq];refine wpS_bind (wpS_modify (vi ⟨rfl,b1.arr (bubble_perm _ _ _),?_⟩));rw [show min (k+1) n=k+1 by omega]
   have ks:k<(arrOf u).size:=by rw [b1.sz];exact hk
   intro i j ij jk;have e1:=rk_bub (rk:=rk) ks (show k-l<=k by omega) i
   have e2:=rk_bub (rk:=rk) ks (show k-l<=k by omega) j
   show rkAt rk (bubble (arrOf u) k (k-l)) i<=rkAt rk (bubble (arrOf u) k (k-l)) j;rw [e1,e2,show k-(k-l)=l by omega]
   have g1:∀y,y<l->rkAt rk (arrOf u) y<=rkAt rk (arrOf u) k:=c4;have g2:∀y,l<=y->y<k->rkAt rk (arrOf u) k<=rkAt rk (arrOf u) y:=fun y z1 z2=>vd (c5 y z1 z2);split<;>split<;>(try split)<;>(try split)<;>first
    |exact Nat.le_refl _
    |(exfalso;omega)
    |exact g1 _ (by omega)
    |exact g2 _ (by omega) (by omega)
    |exact U _ _ (by omega) (by omega)
theorem rk_up {st:SortSt}{a m:Nat}{Q:AscSt->SortSt->Prop}(U:ByRk P w A s kd xs0 rk)(hm:m<=xs0.size)(ha:1<=a)(Y:a<=m)(hB:SB kd xs0 st)(hs:Asc rk (arrOf st) a)
  (q:∀n,a<=n->n<=m->Asc rk (arrOf st) n->(n=m∨rkAt rk (arrOf st) n<rkAt rk (arrOf st) (n-1))->Q (none,n) st):wpS (model P w) A E s (ascLoop a m) Q st:=by
 unfold ascLoop;refine wpS_forRange (I:=fun x c u=>u=st/\c=(none,x)/\Asc rk (arrOf st) x) ?st ?en ⟨rfl,rfl,hs⟩
 case en=>
  rintro c u ⟨rfl,rfl,b⟩;rw [show max a m=m by omega] at b⊢
  exact q m Y (Nat.le_refl _) b (.inl rfl)
 case st=>
  rintro x c u xa xm ⟨rfl,rfl,b⟩;dsimp only;refine wpS_bind (lt_rk U hB (by omega) (by omega) ?_)
  by_cases O:rkAt rk (arrOf u) x<rkAt rk (arrOf u) (x-1)
  ·rw [u8 O];simp only [Ug];exact vi (q x xa (by omega) b (.inr O))
  ·rw [ud O];simp only [uC,vK];refine vi ⟨rfl,rfl,fun i j ij jx=> ?_⟩;rcases uZ j x with z|z
   ·exact b i j ij z
   ·obtain rfl:j=x:=by omega
    rcases uZ i j with y|y
    ·have:=b i (j-1) (by omega) (by omega)
     omega
    ·rw [show i=j by omega]
     exact Nat.le_refl _
theorem rk_tail {st:SortSt}{n m:Nat}{Q:Option Nat->SortSt->Prop}(hc:ByRk P w A s kd xs0 rk)(hm:m<=xs0.size)(h1:1<=n)(nm:n<=m)(U:SB kd xs0 st)(hs:Dsc rk (arrOf st) n)
  (q:∀k u,SB kd xs0 u->1<=k->k<=m->Asc rk (arrOf u) k->Q (some k) u):wpS (model P w) A E s (tail3 n m) Q st:=by
 unfold tail3;have Y:n<=(arrOf st).size:=by rw [U.sz];omega
 have O:SB kd xs0 (setArr st (mirror (arrOf st) 0 n ((n-0)/2))):=U.arr (mirror_perm _ _ _ _);refine wpS_bind (wpS_reverse (wpS_bind (rk_up hc hm h1 nm O ?_ fun k k1 k2 k3 _=>vi (q k _ O (by omega) k2 k3))))
 intro i j ij jn;have e1:=rk_mir (rk:=rk) (i:=0) Y i;have e2:=rk_mir (rk:=rk) (i:=0) Y j;rw [if_pos (by omega)] at e1 e2
 show rkAt rk (mirror (arrOf st) 0 n ((n-0)/2)) i<=rkAt rk (mirror (arrOf st) 0 n ((n-0)/2)) j;rw [e1,e2];exact hs _ _ (by omega) (by omega)
theorem YU {xs:Array Keyed}{x:Nat}(h:Dsc rk xs x)(e:1<=x->rkAt rk xs x<=rkAt rk xs (x-1)):Dsc rk xs (x+1):=by
 intro i j O U;rcases uZ j x with z|z
 ·exact h i j O z
 ·obtain rfl:j=x:=by omega
  rcases uZ i j with y|y
  ·have:=h i (j-1) (by omega) (by omega)
   have:=e (by omega)
   omega
  ·rw [show i=j by omega]
   exact Nat.le_refl _
theorem rk_down {st:SortSt}{n m:Nat}{Q:DescSt->SortSt->Prop}(hc:ByRk P w A s kd xs0 rk)(hm:m<=xs0.size)(h1:1<=n)(nm:n<=m)(hB:SB kd xs0 st)(hs:Dsc rk (arrOf st) n)
  (q:∀k e u,SB kd xs0 u->n<=k->k<=m->Dsc rk (arrOf u) k->e+1<=k->(∀i,k-(e+1)<=i->i<k->rkAt rk (arrOf u) i=rkAt rk (arrOf u) (k-1))->Q (none,k,e) u):wpS (model P w) A E s (descLoop n m) Q st:=by
 unfold descLoop;have one:∀(xs:Array Keyed) (x i:Nat),x-(0+1)<=i->i<x->rkAt rk xs i=rkAt rk xs (x-1):=fun xs x i z1 z2=>by rw [show i=x-1 by omega]
 refine wpS_forRange (I:=fun x c u=>∃e,c=(none,x,e)/\SB kd xs0 u/\Dsc rk (arrOf u) x/\e+1<=x/\∀i,x-(e+1)<=i->i<x->rkAt rk (arrOf u) i=rkAt rk (arrOf u) (x-1)) ?st ?en ⟨0,rfl,hB,hs,by omega,one _ _⟩
 case en=>
  rintro c u ⟨e,rfl,O,Y,b3,U⟩;rw [show max n m=m by omega] at Y b3 U⊢
  exact q m e u O nm (Nat.le_refl _) Y b3 U
 case st=>
  rintro x c u xa xm ⟨e,rfl,O,Y,b3,U⟩;dsimp only;have hz:x<=(arrOf u).size:=by rw [O.sz];omega
  refine wpS_bind (lt_rk hc O (by omega) (by omega) ?_)
  by_cases le:rkAt rk (arrOf u) x<rkAt rk (arrOf u) (x-1)
  ·rw [u8 le];simp only [Ug];by_cases pe:e>0
   ·rw [if_pos pe];refine wpS_bind (wpS_reverse (vi ⟨0,rfl,O.arr (mirror_perm _ _ _ _),?_,by omega,one _ _⟩))
    refine YU (fun i j ij jx=> ?_) fun _=> ?_
    ·show rkAt rk (mirror (arrOf u) _ _ _) j<=rkAt rk (mirror (arrOf u) _ _ _) i;rw [yj hz U,yj hz U];exact Y i j ij jx
    ·show rkAt rk (mirror (arrOf u) _ _ _) x<=rkAt rk (mirror (arrOf u) _ _ _) (x-1);rw [yj hz U,yj hz U];exact vd le
   ·rw [if_neg pe];exact vi ⟨0,rfl,O,YU Y fun _=>vd le,by omega,one _ _⟩
  ·rw [ud le];simp only [uC,vK];refine wpS_bind (lt_rk hc O (by omega) (by omega) ?_)
   by_cases gr:rkAt rk (arrOf u) (x-1)<rkAt rk (arrOf u) x
   ·rw [u8 gr];simp only [Ug];exact vi (q x e u O xa (by omega) Y b3 U)
   ·rw [ud gr];simp only [uC,vK];have ex:rkAt rk (arrOf u) x=rkAt rk (arrOf u) (x-1):=by omega
    refine vi ⟨e+1,rfl,O,YU Y fun _=>Nat.le_of_eq ex,by omega,fun i z1 z2=> ?_⟩
    rw [show x+1-1=x by omega]
    rcases uZ i x with y|y
    ·rw [ex];exact U i (by omega) y
    ·rw [show i=x by omega]
theorem rk_fall {st:SortSt}{n m:Nat}{Q:Option Nat->SortSt->Prop}(O:ByRk P w A s kd xs0 rk)(hm:m<=xs0.size)(nm:n+1<=m)(hB:SB kd xs0 st)(hs:Dsc rk (arrOf st) (n+1))
  (q:∀k u,SB kd xs0 u->1<=k->k<=m->Asc rk (arrOf u) k->Q (some k) u):wpS (model P w) A E s (descPart n m) Q st:=by
 unfold descPart;refine wpS_bind (wpS_lift (Ur ⟨rfl,?_⟩));refine wpS_bind (rk_down O hm (by omega) nm hB hs fun k e u U k1 k2 Y b3 b4=> ?_)
 dsimp only;have hz:k<=(arrOf u).size:=by rw [U.sz];omega
 by_cases pe:e>0
 ·rw [if_pos pe];refine wpS_bind (wpS_reverse (rk_tail O hm (by omega) k2 (U.arr (mirror_perm _ _ _ _)) (fun i j ij jk=> ?_) q))
  show rkAt rk (mirror (arrOf u) _ _ _) j<=rkAt rk (mirror (arrOf u) _ _ _) i;rw [yj hz b4,yj hz b4];exact Y i j ij jk
 ·rw [if_neg pe];exact rk_tail O hm (by omega) k2 U Y q
theorem rk_run {st:SortSt}{m:Nat}{Q:Option Nat->SortSt->Prop}(hc:ByRk P w A s kd xs0 rk)(hm:m<=xs0.size)(h1:1<=m)(Y:SB kd xs0 st)
  (q:∀k u,SB kd xs0 u->1<=k->k<=m->Asc rk (arrOf u) k->Q (some k) u):wpS (model P w) A E s (countRun' 0 m) Q st:=by
 rw [countRun0_eq];refine wpS_bind (rk_up hc hm (Nat.le_refl 1) h1 Y (fun i j ij jk=>by rw [show i=j by omega];exact Nat.le_refl _) fun n n1 n2 up aa=> ?_)
 dsimp only;by_cases all:n=m
 ·rw [if_pos (by simpa using all)]
  exact vi (q n st Y n1 n2 up)
 ·rw [if_neg (by simpa using all)]
  have le:=aa.resolve_left all;by_cases many:n>1
  ·rw [if_pos many];refine wpS_bind (lt_rk hc Y (by omega) (by omega) ?_)
   by_cases U:rkAt rk (arrOf st) 0<rkAt rk (arrOf st) (n-1)
   ·rw [u8 U];simp only [Ug];exact vi (q n st Y n1 n2 up)
   ·rw [ud U];simp only [uC,vK];have hz:n<=(arrOf st).size:=by rw [Y.sz];omega
    have O:∀k,0<=k->k<n->rkAt rk (arrOf st) k=rkAt rk (arrOf st) (n-1):=fun k _ kn=>by
     have a1:=up 0 k (by omega) kn
     have a2:=up k (n-1) (by omega) (by omega)
     omega
    refine wpS_bind (wpS_reverse (rk_fall hc hm (by omega) (Y.arr (mirror_perm _ _ _ _)) (YU (fun i j ij jn=> ?_) fun _=> ?_) q))
    ·show rkAt rk (mirror (arrOf st) _ _ _) j<=rkAt rk (mirror (arrOf st) _ _ _) i;rw [yj hz O,yj hz O,O i (by omega) (by omega),O j (by omega) jn]
     exact Nat.le_refl _
    ·show rkAt rk (mirror (arrOf st) _ _ _) n<=rkAt rk (mirror (arrOf st) _ _ _) (n-1);rw [yj hz O,yj hz O];exact vd le
  ·rw [if_neg many];obtain rfl:n=1:=by omega
   refine rk_fall hc hm (by omega) Y (YU (fun i j ij jn=> ?_) fun _=>vd le) q
   rw [show i=j by omega]
   exact Nat.le_refl _
def SD (rk:Keyed->Nat)(xs0:Array Keyed)(st:SortSt):Prop:=(arrOf st).Perm xs0/\failedOf st=none/\(pendingOf st).size=1/\Asc rk (arrOf st) xs0.size
theorem SB.end {st:SortSt}(b:SB kd xs0 st)(h:Asc rk (arrOf st) xs0.size)(z:Nat×Nat×Nat):SD rk xs0 (setPending st ((pendingOf st).push z)):=⟨b.pm,b.ok,by show((pendingOf st).push z).size=1;rw [b.pe];rfl,h⟩
theorem rk_all {st:SortSt}{Q:Unit->SortSt->Prop}(hc:ByRk P w A s kd xs0 rk)(hB:SB kd xs0 st)(h2:2<=xs0.size)(aa:xs0.size<64)
  (q:∀u,(arrOf u).Perm xs0->failedOf u=none->Asc rk (arrOf u) xs0.size->Q () u):wpS (model P w) A E s sortRuns' Q st:=by
 rw [sortRuns'_eq];refine wpS_bind (wpS_get ?_);dsimp only;have mr:minRun' xs0.size xs0.size 0=xs0.size:=by
  cases e:xs0.size with
  |zero=>omega
  |succ f=>rw [minRun'_succ,if_pos (by omega)]
 simp only [hB.sz,mr];refine wpS_bind (wpS_mono (wpS_forRange (I:=fun x c u=>(x=0/\c=(none,0)/\SB kd xs0 u)∨(1<=x/\c=(none,xs0.size)/\SD rk xs0 u)) (Q:=fun c u=>c=(none,xs0.size)/\SD rk xs0 u) ?st ?en (.inl ⟨rfl,rfl,hB⟩)) ?af)
 case en=>
  rintro c u (⟨z,_⟩|⟨_,b⟩)
  ·omega
  ·exact b
 case st=>
  rintro x c u _ hx (⟨rfl,rfl,b⟩|⟨_,rfl,b⟩)
  ·dsimp only;rw [if_neg (by omega)]
   simp only [Nat.sub_zero,Nat.min_self,Nat.zero_add];refine wpS_bind (rk_run hc (Nat.le_refl _) (by omega) b fun k v Y k1 k2 b2=> ?_)
   dsimp only;have O:∀v:SortSt,SB kd xs0 v->(pendingOf v).back? =none:=fun v bv=>by rw [bv.pe];rfl
   by_cases U:k<xs0.size
   ·rw [if_pos U];refine wpS_bind (wpS_lift (Ur ⟨rfl,?_⟩));refine wpS_bind (rk_insert hc (Nat.le_refl _) k2 Y b2 fun v2 b3 b4=> ?_);simp only [Bool.not_true,uC,vK];refine wpS_bind (wpS_get ?_);rw [O v2 b3];exact wpS_bind (wpS_modify (vi (.inr ⟨by omega,rfl,b3.end b4 _⟩)))
   ·rw [if_neg U];obtain rfl:k=xs0.size:=by omega
    refine wpS_bind (wpS_get ?_);rw [O v Y];exact wpS_bind (wpS_modify (vi (.inr ⟨by omega,rfl,Y.end b2 _⟩)))
  ·dsimp only;rw [if_pos (Nat.le_refl _)];exact vi ⟨rfl,b⟩
 case af=>
  rintro c u ⟨rfl,b⟩;dsimp only;refine wpS_bind (wpS_mono (wpS_forRange (I:=fun _ c v=>v=u/\c=(none,())) (Q:=fun c v=>v=u/\c=(none,())) ?_ (fun _ _ z=>z) ⟨rfl,rfl⟩) ?_)
  ·rintro x c v _ _ ⟨rfl,rfl⟩;refine wpS_bind (wpS_get ?_);rw [if_pos (Nat.le_of_eq b.2.2.1)];exact vi ⟨rfl,rfl⟩
  ·rintro c v ⟨rfl,rfl⟩;exact vi (q _ b.1 b.2.1 b.2.2.2)
end
theorem perm_lift {α β:Type}{g:α->β}{l m:List β}(h:l.Perm m):∀O:List α,m=O.map g->∃zs:List α,zs.Perm O/\l=zs.map g:=by
 induction h with
 |nil=>
  intro O e;cases(show O= [] by simpa using e.symm)
  exact⟨[],.nil,rfl⟩
 |cons x h ih=>
  intro O e;cases O with
  |nil=>cases e
  |cons z r=>
   rw [ua] at e;injection e with e1 e2
   obtain⟨zs,p,q⟩:=ih r e2;exact⟨z::zs,.cons z p,by rw [ua,q,e1]⟩
 |swap x y l=>
  intro O e
  match O,e with
  |a::b::r,e=>
   simp only [ua,vv] at e;exact⟨b::a::r,.swap a b r,by simp only [ua,e.1,e.2.1,e.2.2]⟩
 |trans h1 h2 U Y=>
  intro O e;obtain⟨zs,p,q⟩:=Y O e;obtain⟨ys,p',q'⟩:=U zs q;exact⟨ys,p'.trans p,q'⟩
section
variable {P:Program}{w:World}{A:Around}{E:Value->Shared->Prop}{s:Shared}
theorem mapM_ok {α β:Type}{f:α->β}{m:α->Sem β}:∀{vs:List α}{Q:List β->Shared->Prop},(∀v∈vs,∀Q:β->Shared->Prop,Q (f v) s->wpAny (model P w) A (m v) Q E s)->Q (vs.map f) s->wpAny (model P w) A (vs.mapM m) Q E s
 | [],Q,_,q=>by rw [List.mapM_nil];exact u9 q
 |v::vs,Q,h,q=>by
  rw [List.mapM_cons];exact wpAny_bind (h v ui _ (wpAny_bind (mapM_ok (fun u O=>h u (u5 _ O)) (u9 q))))
theorem one_type {vs:List Value}{T:String}{Q:Option Value->Shared->Prop}(h:∀v∈vs,s.TypeIs v T)(ne:vs≠ [])(q:Q (some (.type T)) s):wpAny (model P w) A (oneTypeOnly' vs.toArray) Q E s:=by
 rw [oneTypeOnly'_eq,List.mapM_toArray];refine wpAny_bind (wpAny_bind (mapM_ok (f:=fun _=>Value.type T) (fun v U Q q=>wpAny_typeOf (h v U) q) (u9 ?_)));cases vs with
 |nil=>exact absurd rfl ne
 |cons v r=>
  have Y:(List.map (fun _=>Value.type T) (v::r)).toArray[0]? =some (Value.type T):=by simp
  rw [Y];have O:((List.map (fun _=>Value.type T) (v::r)).toArray.all fun x=>x==Value.type T)=true:=by
   simp only [List.all_toArray,Uu,Ub];intro _ _;simp
  simp only [O,Ug];exact u9 q
theorem first_is:firstOfTuple'=fun v=>(do
  if(<-typeOf v) != .type "tuple" then return none
  return (<-Builtin.List.listItems v)[0]?):=rfl
theorem keyLt_tups (b:Bool)(x y:Value):keyLt' (tuples' b) x y=(do
  let xs<-Builtin.List.listItems x;let ys<-Builtin.List.listItems y
  for ((p,q),i) in(xs.toList.zip ys.toList).zipIdx do
   if !(<-eqBool p q) then return<-oneLt' (b&&i==0) p q
  return xs.size<ys.size):=rfl
end
def rkOf {α:Type}(lt:α->α->Bool)(l:List α)(x:α):Nat:=l.countP fun y=>lt y x
theorem countP_lt {α:Type}{p q:α->Bool}:∀{l:List α}{z:α},(∀y∈l,p y=true->q y=true)->z∈l->p z=false->q z=true->l.countP p<l.countP q
 |x::l,z,h,hz,h1,h2=>by
  have Y:l.countP p<=l.countP q:=List.countP_mono_left fun y O=>h y (u5 _ O);rw [List.countP_cons,List.countP_cons];rcases List.mem_cons.mp hz with rfl|hz
  ·rw [h1,h2];simp;omega
  ·have:=countP_lt (fun y O=>h y (u5 _ O)) hz h1 h2;have U:=h x ui;cases e:p x with
   |false=>cases q x<;>simp<;>omega
   |true=>rw [U e];simp;omega
structure OrdOn {α:Type}(lt:α->α->Bool)(l:List α):Prop where
 irr:∀x∈l,lt x x=false
 tr:∀x∈l,∀y∈l,∀z∈l,lt x y=true->lt y z=true->lt x z=true
 ng:∀x∈l,∀y∈l,∀z∈l,lt x z=true->lt x y=true∨lt y z=true
theorem rk_dec {α:Type}{lt:α->α->Bool}{l:List α}(o:OrdOn lt l){x y:α}(O:x∈l)(Y:y∈l):decide (rkOf lt l x<rkOf lt l y)=lt x y:=by
 cases e:lt x y with
 |true=>
  refine u8 (countP_lt (z:=x) (fun z U h=>o.tr z U x O y Y h e) O (o.irr x O) e)
 |false=>
  refine ud fun h=>absurd h (Nat.not_lt.mpr (List.countP_mono_left fun z U h=> ?_));rcases o.ng z U x O y Y h with h|h
  ·exact h
  ·rw [e] at h;cases h
theorem rk_le {α:Type}{lt:α->α->Bool}{l:List α}(o:OrdOn lt l){x y:α}(O:x∈l)(U:y∈l)(h:rkOf lt l x<=rkOf lt l y):lt y x=false:=by
 rw [<-rk_dec o U O];exact ud (Nat.not_lt.mpr h)
section
variable {X:Cx}{pins:List (Addr×Obj)}{σ:St}{H:Hp}{s:Shared}
theorem lex_parts (I:Inv X pins σ H s){xs ys:List D}{vs us:List V}{its its':List Value}{B:Around}{n:Nat}{r:Bool}(p1:puL xs=true/\dpL xs<=n)(p2:puL ys=true)(hl:IsL H xs vs)(aa:IsL H ys us)(rv:Vals vs its)(ac:Vals us its')(hu:B.units+n<cLine)(hr:ltL xs ys=some r):
  (∀j (h1:j<its.toArray.size) (h2:j<its'.toArray.size),SeqAt.EqAt B s its.toArray[j] its'.toArray[j] (eAt xs ys j))/\
  (∀j (h1:j<its.toArray.size) (h2:j<its'.toArray.size),(∀i,i<j->eAt xs ys i=true)->eAt xs ys j=false->AwQ.LtAt B s its.toArray[j] its'.toArray[j] (lAt xs ys j)):=by
 have l1:its.length=xs.length:=by rw [<-rv.length,hl.length]
 have l2:its'.length=ys.length:=by rw [<-ac.length,aa.length]
 have U:∀j (a1:j<its.toArray.size) (a2:j<its'.toArray.size),∃(O:j<xs.length) (Y:j<ys.length) (v1 v2:V),Is H xs[j] v1/\Is H ys[j] v2/\RelV v1 its.toArray[j]/\RelV v2 its'.toArray[j]:=fun j a1 a2=>by
  have O:j<xs.length:=by rw [<-l1];simpa using a1
  have Y:j<ys.length:=by rw [<-l2];simpa using a2
  obtain⟨v1,e1,i1⟩:=hl.get (i:=j) (d:=xs[j]) (by simp [O])
  obtain⟨v2,e2,i2⟩:=aa.get (i:=j) (d:=ys[j]) (by simp [Y])
  obtain⟨b1,f1,g1⟩:=rv.get e1;obtain⟨b2,f2,g2⟩:=ac.get e2;rw [u7 (by rw [l1];exact O)] at f1
  rw [u7 (by rw [l2];exact Y)] at f2
  cases f1;cases f2;exact⟨O,Y,v1,v2,i1,i2,by simpa using g1,by simpa using g2⟩
 refine⟨fun j a1 a2=> ?_,fun j a1 a2 ad hj=> ?_⟩
 ·obtain⟨O,Y,v1,v2,i1,i2,g1,g2⟩:=U j a1 a2;have d1:xs.getD j .non=xs[j]:=by simp [List.getD,O]
  have d2:ys.getD j .non=ys[j]:=by simp [List.getD,Y]
  unfold eAt;rw [d1,d2];exact eqAt_D I n _ _ _ _ _ _ B ((jg xs).mp p1.2 _ (uv O)) (QN (j:=j) p1.1 (by simp [O])) (QN (j:=j) p2 (by simp [Y])) i1 i2 g1 g2 hu
 ·obtain⟨O,Y,v1,v2,i1,i2,g1,g2⟩:=U j a1 a2;have d1:xs.getD j .non=xs[j]:=by simp [List.getD,O]
  have d2:ys.getD j .non=ys[j]:=by simp [List.getD,Y]
  have ae:=lt_at j hr O Y ad hj;rw [d1,d2] at ae;exact ltAt_D I n _ _ _ _ _ _ B _ ((jg xs).mp p1.2 _ (uv O)) (QN (j:=j) p1.1 (by simp [O])) (QN (j:=j) p2 (by simp [Y])) i1 i2 g1 g2 hu ae
end
theorem JM {xs:List V}{us:List Value}(r:Vals xs us):∀is:List Nat,Vals (is.filterMap (xs[·]?)) (is.filterMap (us[·]?))
 | []=> .nil
 |i::is=>by
  rw [vg,vg];have U:=r.length;cases e:xs[i]? with
  |none=>
   have:us[i]? =none:=List.getElem?_eq_none (by have:=List.getElem?_eq_none_iff.mp e;omega)
   rw [this];exact JM r is
  |some x=>
   obtain⟨u,O,g⟩:=r.get e;rw [O];exact .cons g (JM r is)
section
variable {X:Cx}
def tStp (K:PySem.W.Frag)(te:TE)(tl:TO):TE:=fun σ H Q=>te σ H fun x H1=>tl σ H1 fun _ H2=>∃a xs,x= .ref a/\SqL K H2 a xs/\∀ys p,ys.length<=xs.length->(∀y∈ys,y∈xs)->H2 p=none->Q (.ref p) (upd H2 p (.lst ys))
theorem pe_stepL {e:Expr}{te:TE}{lo:Option Expr}{tl:TO}{k:Int}{j pos p1 p2}(hk:k≠0)(he:PE X e te)(hl:PO X lo tl)(U:subscripted (.Slice lo none (some (.Constant (.int k) j p1)) p2) false=fun v u=>operate [v,u] (getItem v u):=by rfl):PE X (.Subscript e (.Slice lo none (some (.Constant (.int k) j p1)) p2) pos) (tStp X.K te tl):=by
 intro pins s σ H Q I h;refine Subscript_ (thn (he pins s σ H _ I h) fun v s1 ⟨x,H1,I1,r1,q1⟩=> ?_);refine wpAny_Slice (thn (hl pins s1 σ H1 _ I1 q1) fun vl s2 ⟨lv,H2,I2,pl,q2⟩=> ?_);rw [evalPart_none];refine u9 ?_;rw [evalPart_some];refine thn (qg (i:=k) pins s2 σ H2 (fun y H3=>y= .int k/\H3=H2) I2 ⟨rfl,rfl⟩) fun u O h3=> ?_;obtain⟨y,H3,I3,r3,rfl,rfl⟩:=h3;obtain⟨tk,rfl⟩:=r3;obtain⟨a,xs,rfl,hH,q⟩:=q2;cases r1;have I4:Inv X pins σ H3 {O with heap:=O.heap.push {cls:= .type "slice",data:= .fields #[vl,.none,.int k tk]}}:=I3.kept (t':=O.toks) fun b ob q=>u4 _ q
 obtain⟨its,r,Y,hz⟩:=I4.list hH;have aa:its.toArray.size=xs.length:=by rw [ub];exact r.length.symm
 show wpAny (model X.prog X.w) X.A (subscriptTail e (.Slice lo none (some (.Constant (.int k) j p1)) p2) (.ref a) (.ref O.heap.objs.size)) (EP X pins σ Q) X.xe {O with heap:=O.heap.push {cls:= .type "slice",data:= .fields #[vl,.none,.int k tk]}}
 refine tail_any (ops:= [.ref a,.ref O.heap.objs.size]) Y.isList.typeIs slot_list_getitem.lookup ?_ (by rw [U])
 refine Ue (st:=some k) Y.isList (Heap.IsSliceOf.new ..) pl .none (.int k tk) (by simpa using hk) ?_ (by rw [aa];exact hz)
 have hsz:=slicePick_size_le its.toArray lv none (some k);unfold slicePick at hsz⊢;generalize sliceRange (sliceBounds lv none (some k) its.toArray.size).1 (sliceBounds lv none (some k) its.toArray.size).2.1 (sliceBounds lv none (some k) its.toArray.size).2.2=is at hsz⊢;have ep:is.filterMap (its.toArray[·]?)=is.filterMap (its[·]?):=by simp
 rw [ep] at hsz⊢;have vp:=JM r is;have ac:(is.filterMap (xs[·]?)).length<=xs.length:=by
  rw [vp.length];rw [ub,ub,<-r.length] at hsz;exact hsz
 refine⟨.ref _,_,I4.laid (t':=O.toks) (o:= .lst (is.filterMap (xs[·]?))) (fun b ob q=>u4 _ q) (Nat.le_refl _) ⟨uQ ac hz,_,0,vp,uh _ rfl⟩,rfl,q _ _ ac (fun y hy=> ?_) (I4.hok.fresh (Nat.le_refl _))⟩;obtain⟨i,_,hi⟩:=List.mem_filterMap.mp hy;exact uE hi
end
def DcAt (h:Heap)(e:Addr)(dc:Option Addr):Prop:=∃o,h.get? e=some o/\o.dict=dc
theorem dict_mf (o:Obj)(f):(o.mapFields f).dict=o.dict:=by
 unfold Obj.mapFields;split<;>rfl
theorem DcAt.upd {h:Heap}{e b:Addr}{dc:Option Addr}{f}{O:Obj}{vs:Array Value}(x:DcAt h e dc)(U:h.get? e=some O)(hd:O.data= .fields vs):DcAt (h.update b (Obj.mapFields f)) e dc:=by
 obtain⟨o1,h1,h2⟩:=x;rw [U] at h1;cases h1;by_cases Y:b=e
 ·subst Y;exact⟨_,Heap.get?_update_self _ U (Obj.isFreed_of_fields (Uk hd _)),(dict_mf _ _).trans h2⟩
 ·exact⟨O,(uz _ _ Y).trans U,h2⟩
section
variable {M:Model}{A:Around}{E:Value->Shared->Prop}{s:Shared}{base:Heap}{env:Env}{outer:List Env}{L e:Addr}{dc:Option Addr}{cls a0:Value}
theorem entD_ok {U:Obj}{vs:Array Value}{head:Value}{aa:Bool}{Q:Unit->Shared->Prop}(ac:A.frames=some (env::outer))(hl:s.heap.FunFrames base (env::outer))(hf:env.frame=some L)(he:s.heap.get? e=some U)(hk:base.StaysIn s.heap)(hn:base.get? e=none)(hd:U.data= .fields vs)(hz:1<vs.size)(h0:vs[0]? =some a0)
  (hc:U.dict=dc) (h:∀h',Heap.HeldW base (env::outer) e U.cls a0 L h'->s.heap.UpToSlots h'->DcAt h' e dc->Q () {s with heap:=h'}):
  wpAny M A (do let a<-frameOf env;let pl<-entryPlaceOf L aa;let b<-EntryCells.newEntry head a .none (rawInt L) .none pl;setField (.ref e) 1 b) Q E s:=by
 have ne:e∉(env::outer).filterMap (·.frame):=fun hm=>by
  obtain⟨_,o,ho,q⟩:=hl.mem hm;rw [he] at ho;cases ho;exact q vs hd
 refine wpAny_bind (wpAny_frameOf_fun ac hl hf fun g hs=>wpAny_bind (wpAny_entryPlaceOf fun pl Y=> ?_));unfold EntryCells.newEntry newFields;refine wpAny_bind (U6 ?_ (Y.sizeOk5 _ _ _ _ _));have e1:g.get? e=some U:=(hs.2.1 e ne).trans he;have kb:base.StaysIn g:=fun b o hb=>(hs.2.1 b fun hm=>by rw [(hl.mem hm).1] at hb;cases hb).trans (hk b o hb)
 generalize hO:({cls:= .type "traceback",dict:=none,data:= .fields ([head,.ref L,.none,rawInt L,.none]++(if pl.isEmpty then List.replicate 6 Value.none else pl)).toArray}:Obj)=O
 have ad:O.data= .fields ([head,.ref L,.none,rawInt L,.none]++(if pl.isEmpty then List.replicate 6 Value.none else pl)).toArray:=by rw [<-hO]
 have ae:O.isFreed=false:=by rw [<-hO];rfl
 have e2:=u4 (h:=g) O e1;refine wpAny_setField e2 hd hz (h _ ?_ ?_ ?_)
 ·have nT:g.objs.size≠e:=vj (ug e1);have d3:=Uk hd (·.setIfInBounds 1 (Value.ref g.objs.size));have keep:∀b o,b≠e->g.get? b=some o->((g.push O).update e (Obj.mapFields (·.setIfInBounds 1 (Value.ref g.objs.size)))).get? b=some o:=fun b o hb q=>by
   rw [uz _ _ (uY hb)];exact u4 _ q
  refine⟨fun b o q=>keep b o (fun z=>by rw [z,hn] at q;cases q) (kb b o q),hn,hl.of_keeps fun b o q nf=> ?_,_,_,g.objs.size,O,_,Heap.get?_update_self _ e2 (Obj.isFreed_of_fields d3),⟨Obj.cls_mapFields _ _,by rw [Array.getElem?_setIfInBounds_ne (by decide)];exact h0⟩,d3,by simp [hz],kb.fresh,nT,?_,ad,?_⟩
  ·obtain⟨sl,q1⟩:=hs.2.2 b o q;exact⟨_,keep b _ (fun z=>by rw [z,he] at q;cases q;exact nf vs hd) q1,rfl⟩
  ·exact(uz _ _ (uY nT)).trans (uh g ae)
  ·first|(simp;done)|(rcases Y with rfl|⟨_,_,_,_,_,_,_,rfl⟩<;>simp)
 ·intro b o q nf;obtain⟨sl,q1⟩:=hs.2.2 b o q;refine⟨sl,?_⟩;rw [uz _ _ (fun z=>by rw [<-z,he] at q;cases q;exact nf vs hd)]
  exact u4 _ q1
 ·exact DcAt.upd ⟨U,e2,hc⟩ e2 hd
theorem jW {l:List Env}{fl:Value}{Q:Unit->Shared->Prop}(hk:base.StaysIn s.heap)(hn:base.get? e=none)(hl:s.heap.FunFrames base l)(ht:s.heap.TracedAtW base e cls a0 fl)(hc:DcAt s.heap e dc)
  (h:∀h',Heap.FlyingW base l e cls a0 h'->s.heap.UpToSlots h'->DcAt h' e dc->Q () {s with heap:=h'}):wpAny M A (setFlight (.ref e) none) Q E s:=by
 obtain⟨oe,vs,T,oT,ts,he,ac,hd,h1,Y,aa,hT,U,h3⟩:=ht;have hz:3<ts.size:=(Array.getElem?_eq_some_iff.mp h3).1;have O:∀f b,b≠T->(s.heap.update T f).get? b=s.heap.get? b:=fun f b hb=>uz _ _ (uY hb);have nr:∀b o,s.heap.get? b=some o->(∀vs,o.data≠ .fields vs)->b≠T:=fun b o q nf z=>by
  rw [z,hT] at q;cases q;exact nf ts U
 unfold setFlight;refine wpAny_bind (vR he hd h1 ?_);rw [if_pos (show(Value.ref T !=Value.none)=true from by simp)]
 refine wpAny_setField hT U hz (h _ ⟨fun b o q=>(O _ b fun z=>by rw [z,Y] at q;cases q).trans (hk b o q),hn,hl.of_keeps fun b o q nf=>⟨o,(O _ b (nr b o q nf)).trans q,rfl⟩,?_⟩ (fun b o q nf=>⟨o.slots,(O _ b (nr b o q nf)).trans q⟩) (hc.upd he hd))
 exact⟨oe,vs,T,_,_,(O _ e (uY aa)).trans he,ac,hd,h1,Y,aa,Heap.get?_update_self _ hT (Obj.isFreed_of_fields (Uk U _)),Uk U _,by simp [hz]⟩
theorem note_D1 {O:Obj}{vs:Array Value}{Q:Unit->Shared->Prop}(U:A.frames=some (env::outer))(hl:s.heap.FunFrames base (env::outer))(Y:env.frame=some L)(he:s.heap.get? e=some O)(hk:base.StaysIn s.heap)(hn:base.get? e=none)(hd:O.data= .fields vs)(h1:vs[1]? =some .none)(h0:vs[0]? =some a0)
  (hc:O.dict=dc) (h:∀h',Heap.HeldW base (env::outer) e O.cls a0 L h'->s.heap.UpToSlots h'->DcAt h' e dc->Q () {s with heap:=h'}):wpAny M A (noteFrame (.ref e) env) Q E s:=by
 unfold noteFrame;simp only [Y];refine wpAny_bind (vR he hd h1 ?_);rw [if_neg (by decide)]
 exact entD_ok U hl Y he hk hn hd (Array.getElem?_eq_some_iff.mp h1).1 h0 hc h
theorem note_D2 {Q:Unit->Shared->Prop}(ac:A.frames=some (env::outer))(hf:env.frame=some L)(x:Heap.FlyingW base (env::outer) e cls a0 s.heap)(hc:DcAt s.heap e dc)
  (h:∀h',Heap.HeldW base (env::outer) e cls a0 L h'->s.heap.UpToSlots h'->DcAt h' e dc->Q () {s with heap:=h'}):wpAny M A (noteFrame (.ref e) env) Q E s:=by
 obtain⟨hk,hn,hl,oe,vs,T,oT,ts,he,⟨aa,h0⟩,hd,h1,ad,ae,hT,U,h3⟩:=x;subst aa;obtain⟨o1,q1,q2⟩:=hc;rw [he] at q1;cases q1;unfold noteFrame;simp only [hf];refine wpAny_bind (vR he hd h1 ?_);rw [if_pos (show(Value.ref T !=Value.none)=true from by simp)]
 refine wpAny_bind (vR hT U h3 ?_);rw [if_neg (show¬((Value.none==rawInt L)=true) from by simp [rawInt])]
 refine wpAny_bind (wpAny_setField hT U (Array.getElem?_eq_some_iff.mp h3).1 ?_);have O:∀f b,b≠T->(s.heap.update T f).get? b=s.heap.get? b:=fun f b hb=>uz _ _ (uY hb);have nr:∀b o,s.heap.get? b=some o->(∀vs,o.data≠ .fields vs)->b≠T:=fun b o q Y z=>by
  rw [z,hT] at q;cases q;exact Y ts U
 refine entD_ok ac (hl.of_keeps fun b o q Y=>⟨o,(O _ b (nr b o q Y)).trans q,rfl⟩) hf ((O _ e (uY ae)).trans he) (fun b o q=>(O _ b fun z=>by rw [z,ad] at q;cases q).trans (hk b o q)) hn hd (Array.getElem?_eq_some_iff.mp h1).1 h0 q2 fun h' x1 x2 x3=>h h' x1 (fun b o q Y=> ?_) x3
 exact x2 b o ((O _ b (nr b o q Y)).trans q) Y
theorem leave_D1 {O:Obj}{vs:Array Value}{Q:Unit->Shared->Prop}(U:A.frames=some (env::outer))(Y:s.heap.FunFrames base (env::outer))(hf:env.frame=some L)(he:s.heap.get? e=some O)(hk:base.StaysIn s.heap)(hn:base.get? e=none)(hd:O.data= .fields vs)(h1:vs[1]? =some .none)(h0:vs[0]? =some a0)
  (hc:O.dict=dc) (h:∀h',Heap.FlyingW base outer e O.cls a0 h'->s.heap.UpToSlots h'->DcAt h' e dc->Q () {s with heap:=h'}):wpAny M A (leaving env (.ref e)) Q E s:=by
 unfold leaving;refine wpAny_bind (note_D1 U Y hf he hk hn hd h1 h0 hc fun g ⟨x1,x2,x3,x4⟩ u1 d1=> ?_);refine jW x1 x2 x3 x4 d1 fun g' ⟨y1,y2,⟨_,_,y3⟩,y4⟩ u2 d2=>h g' ⟨y1,y2,y3,y4⟩ (u1.trans u2) d2
theorem leave_D2 {Q:Unit->Shared->Prop}(O:A.frames=some (env::outer))(U:env.frame=some L)(x:Heap.FlyingW base (env::outer) e cls a0 s.heap)(Y:DcAt s.heap e dc)
  (h:∀h',Heap.FlyingW base outer e cls a0 h'->s.heap.UpToSlots h'->DcAt h' e dc->Q () {s with heap:=h'}):wpAny M A (leaving env (.ref e)) Q E s:=by
 unfold leaving;refine wpAny_bind (note_D2 O U x Y fun g ⟨x1,x2,x3,x4⟩ u1 d1=> ?_);refine jW x1 x2 x3 x4 d1 fun g' ⟨y1,y2,⟨_,_,y3⟩,y4⟩ u2 d2=>h g' ⟨y1,y2,y3,y4⟩ (u1.trans u2) d2
end
end L2
namespace L2
open PySem PyProof.Rows PySem.Builtin PySem.Builtin.ObjectAttr
def jQ:List Value->Bool
 | .ref _::r=>jQ r
 |l=>l==VE
theorem refuse_VE (self:Value):PySem.refuseLoop self "__setattr__" VE=pure ():=by kernel_rfl
theorem Jf (self:Value):∀{l:List Value},jQ l=true->PySem.refuseLoop self "__setattr__" l=pure ()
 | .ref c::r,e=>by rw [PySem.refuseLoop_ref];exact Jf self e
 | .type n::r,e=>by rw [show(Value.type n::r)=VE from by simpa [jQ] using e];exact refuse_VE self
 | [],e=>by cases e
theorem tail_has:∀{l:List Value},jQ l=true->l.contains (.type "object")=true
 | .ref c::r,e=>by rw [List.contains_cons,tail_has (l:=r) e,Bool.or_true]
 | .type n::r,e=>by rw [show(Value.type n::r)=VE from by simpa [jQ] using e];decide
 | [],e=>by cases e
def overVE (K:PySem.W.Frag)(C:Addr):Bool:=(PySem.W.clsIn K C).any fun cd=>jQ cd.mro
section
variable {prog:Program}{w:World}{K:PySem.W.Frag}{A:Around}{E:Value->Shared->Prop}{s:Shared}{e C:Addr}{name:Str}{v:Value}{vs:Array Value}{sl:Array (Option Value)}
theorem osa_exc {R:Result->Shared->Prop}{ox:Obj}{tk:Tok}(X:K.In s.heap)(I:PySem.W.InstAt s.heap e ox C none)(hp:overVE K C=true)(ht:PySem.W.takerIn K C name=some none)
  (h:∀b,wpAny (model prog w) A.in1 (storeInOwnDict (.ref e) (.ref C) (.str name tk) name v b) (fun aa s'=>match aa with| .done f=>R (.ok f) s'| .again c'=>c'.quiet=true/\codeAny (model prog w) A c' R s') (fun e s'=>R (.error e) s') s):
  codeAny (model prog w) A (.call (.builtin "object.__setattr__") ⟨[.ref e,.str name tk,v],[]⟩) R s:=by
 have U:=PySem.F.store_object;obtain⟨cd,hc,Y⟩:=Uv hp;have ne:cd.mro.isEmpty=false:=by
  cases q:cd.mro with
  |nil=>rw [q] at Y;cases Y
  |cons _ _=>rfl
 have sub:PySem.W.Looks (model prog w) s.heap (isInstance (.ref e) (.type "object")) true:=I.type.andThen (PySem.W.looks_mroIn X (by unfold PySem.W.mroIn;rw [hc,Option.bind_some,if_neg (by rw [ne];decide),tail_has Y]))
 refine vc U.slot.plain U.entry (@PySem.W.check_slot (model prog w) _ _ s "object.__setattr__" "object" "__setattr__" (.ref e) [.str name tk,v] [] _ U.kind U.split sub (U.args (.ref e) (.str name tk) v) ?_);obtain⟨O,ha,hr⟩:=Option.bind_eq_some_iff.mp ht;have hm:PySem.W.Looks (model prog w) s.heap (mroOf (.ref C)) cd.mro:=(PySem.W.looks_clsIn X hc).andThen .now;have L3:PySem.W.Looks (model prog w) s.heap (storeTaker? O) none:=by
  cases O with
  |none=>exact .now
  |some a=>
   obtain⟨b,hb,q⟩:=Option.map_eq_some_iff.mp hr;refine(PySem.W.looks_takesIn X hb).andThen ?_;cases b with
   |true=>cases q
   |false=>exact .now
 rw [PySem.W.osa_eq,PySem.refuse_eq];refine wpAny_bind (wpAny_bind (I.type.here (wpAny_bind (hm.here ?_))));rw [Jf _ Y];refine u9 (wpAny_bind (I.type.here (wpAny_bind ((U9 X ha).here (wpAny_bind (L3.here ?_))))));exact h _
theorem exc_set {Q:Unit->Shared->Prop}(X:K.In s.heap)(he:s.heap.get? e=some ⟨.ref C,none,.fields vs,sl⟩)(hs:PySem.W.findIn K (.ref C) "__setattr__"=some (some (.builtin "object.__setattr__")))(hp:overVE K C=true)(ht:PySem.W.takerIn K C name=some none)(hh:PySem.W.hasDictIn K C=true)
  (h:∀h',h'.get? e=some ⟨.ref C,some s.heap.objs.size,.fields vs,sl⟩->h'.Ns1 s.heap.objs.size (fun y=>if y=name then some v else none)->(∀b o,b≠e->s.heap.get? b=some o->h'.get? b=some o)->Q () {s with heap:=h',toks:=s.toks+2}):
  wpAny (model prog w) A (setAttr (.ref e) name v) Q E s:=by
 have J:PySem.W.InstAt s.heap e ⟨.ref C,none,.fields vs,sl⟩ C none:=⟨he,rfl,rfl,trivial⟩;refine PySem.W.set_plain X J hs (osa_exc (s:={s with toks:=s.toks+1}) X J hp ht fun b=> ?_)
 obtain⟨cd,hc,ad⟩:=Uv hh;refine wpAny_bind (u9 (wpAny_bind (wpAny_bind (wpAny_loadPart he (wpAny_bind (PySem.W.Looks.here (s:={s with toks:=s.toks+1}) (PySem.W.looks_clsIn X hc) ?_))))))
 rw [ad];show wpAny (model prog w) A.in1 (alloc {cls:= .type "dict",data:= .dict #[]}>>=_) _ _ _;refine wpAny_bind (wpAny_alloc ?_);have O:=u4 (h:=s.heap) {cls:= .type "dict",data:= .dict #[]} he;refine wpAny_bind (wpAny_update O ?_);refine u9 (a:=some s.heap.objs.size) ?_;have ne:s.heap.objs.size≠e:=vj (ug he);have U:=Heap.get?_update_self (fun o:Obj=>{cls:=o.cls,dict:=some s.heap.objs.size,data:=o.data,slots:=o.slots}) O rfl;have Y:=(uz (s.heap.push {cls:= .type "dict",data:= .dict #[]}) (fun o:Obj=>{cls:=o.cls,dict:=some s.heap.objs.size,data:=o.data,slots:=o.slots}) (uY ne)).trans (uh s.heap rfl);generalize hG:(s.heap.push {cls:= .type "dict",data:= .dict #[]}).update e (fun o:Obj=>{cls:=o.cls,dict:=some s.heap.objs.size,data:=o.data,slots:=o.slots})=G at U Y⊢;have hN:G.Ns1 s.heap.objs.size (fun _=>none):= .of_empty ⟨_,#[],0,Y,rfl,fun _ z=>by simp at z,fun _=>rfl⟩
 refine wpAny_bind (u9 (wpAny_bind ?_));refine wpAny_nsSet1 (s:={s with heap:=G,toks:=s.toks+1}) hN fun h' aa ac=> ?_
 obtain⟨oD,ag,ah,ae,hdD,af⟩:=aa.count (ns:= [name]) (fun x q=>by
  by_cases z:x=name
  ·rw [z];exact List.mem_singleton.mpr rfl
  ·rw [if_neg z] at q;exact absurd rfl q)
 refine wpAny_bind (wpAny_lookBehind ae (by rw [hdD];exact pastItsLine_dict (uQ af (by rw [uk];simp))) ?_)
 refine u9 (h _ ((ac.2 _ (uY ne)).trans U) aa fun b o hb q=> ?_);rw [ac.2 b (uu (ug q))];show G.get? b=some o;rw [<-hG,uz _ _ (uY hb)];exact u4 _ q
end
section
variable {prog:Program}{w:World}{K:PySem.W.Frag}{A:Around}{E:Value->Shared->Prop}{h:Heap}{g:Array GenState}{d:Drawn}{t:Nat}{os:OsState}
variable {nm q:Str}{C N f:Addr}{bs bm bmB:List Value}{hdct:Bool}{sn:List Str}{sub:List Value}{ab:Bool}{col:Option Bool}{dd:Option Addr}{k0 k1 k2 k3 k5:Option Value}{B newId initId:String}
abbrev Jc (h:Heap)(C:Addr)(rest:List Value):Heap:=(h.push {cls:= .type "tuple",data:= .seq rest.toArray}).push {cls:= .ref C,data:= .fields #[.ref h.objs.size,.none,.none,.none,.bool false,.none]}
theorem Xn (F:ExcBaseFacts B newId initId bmB)(T:OwnTail h bmB bm){mN:Str->Option Value}{rest:List Value}{Q:Fin->Shared->Prop}(X:K.In h)
  (U:h.get? C=some (excClassObj nm q C N bs bm hdct sn sub ab col dd k0 k1 k2 k3 k5 newId)) (hn:h.Ns N mN) (hi:mN "__init__"=some (.ref f)) (hf:PySem.W.typeIn K (.ref f)=some (.type "function")) (O:rest.length<=sizeLine)
  (hq:wpAny (model prog w) A (call (.ref f) (.ref (h.objs.size+1)::rest)) (fun v s'=>v= .none/\Q (.done (.ret (.ref (h.objs.size+1)))) s') E ⟨Jc h C rest,g,d,t,os⟩):
  wpAny (model prog w) A (Builtin.«type.__call__» ⟨.ref C::rest,[]⟩) Q E ⟨h,g,d,t,os⟩:=by
 (repeat (first|with_reducible refine U7 U ?_|with_reducible refine wpAny_madeBy_exc U ?_|wp_step))
 refine codeAny_call_builtin_code (Ui _ F.quiet) (wpAny_check_new_subT F T U ?_);refine codeAny_exc_new_subT F T U ?_ O;show wpAny _ _ _ _ _ _;have kp:∀b o,h.get? b=some o->(Jc h C rest).get? b=some o:=fun b o e=>u4 _ (u4 _ e);have Y:=kp _ _ U;have ac:(Jc h C rest).Ns N mN:=let⟨o,es,ep,e,r⟩:=hn;⟨o,es,ep,kp _ _ e,r⟩;have aa:(Jc h C rest).get? (h.objs.size+1)=some {cls:= .ref C,data:= .fields #[.ref h.objs.size,.none,.none,.none,.bool false,.none]}:=by heap_get
 have ad:(Value.ref C::bm).contains (.ref C)=true:=by simp
 have T₁:=T.keeps (h':=Jc h C rest) kp;unfold isInstance
 (repeat (first|with_reducible refine U7 aa ?_|(with_reducible refine wpAny_isSubtype_exc Y ?_;rw [ad])|wp_step))
 show wpAny _ _ (typeLookup (.ref C) _) _ _ _;refine wpAny_typeLookup_tail Y ac T₁ F.mroIs F.init.lookup ?_;rw [hi];refine wpAny_holding (wpAny_bind (PySem.W.Looks.here (s:=⟨Jc h C rest,g,d,t,os⟩) (PySem.W.bind_fn (h:=Jc h C rest) (fun b o z=>kp b o (X b o z)) (.ref (h.objs.size+1)) hf) (wpAny_bind ?_)));refine uJ hq (fun v s' hv=> ?_) fun _ _ z=>z;obtain⟨rfl,hv⟩:=hv;refine u9 ?_;show wpAny _ _ (if(Value.none !=Value.none)=true then _ else _) _ _ _
 rw [if_neg (by decide)]
 exact u9 hv
theorem exc_call (F:ExcBaseFacts B newId initId bmB)(T:OwnTail h bmB bm){mN:Str->Option Value}{rest:List Value}{Q:Value->Shared->Prop}(X:K.In h)
  (U:h.get? C=some (excClassObj nm q C N bs bm hdct sn sub ab col dd k0 k1 k2 k3 k5 newId)) (hn:h.Ns N mN) (hi:mN "__init__"=some (.ref f)) (hf:PySem.W.typeIn K (.ref f)=some (.type "function")) (O:rest.length<=sizeLine)
  (hq:wpAny (model prog w) (A.under (.builtin "type.__call__" ⟨.ref C::rest,[]⟩)) (call (.ref f) (.ref (h.objs.size+1)::rest)) (fun v s'=>v= .none/\Q (.ref (h.objs.size+1)) s') E ⟨Jc h C rest,g,d,t,os⟩):
  wpAny (model prog w) A (call (.ref C) rest) Q E ⟨h,g,d,t,os⟩:=by
 have f1:=tc_lookup;have f2:=tc_bind (.ref C);have hT:(⟨h,g,d,t,os⟩:Shared).TypeIs (.ref C) "type":=⟨_,U,rfl⟩;refine U5 (codeAny_of_tree ?_);show wpAny _ _ (callAny (.ref C) _) _ _ _;repeat (any_goals (first|assumption|with_reducible refine U7 U ?_|wp_step))
 refine⟨rfl,?_⟩;refine codeAny_call_builtin_at (Ui _ (by decide+kernel)) entry_typeCall (wpAny_check_type_call_sub U (Xn F T X U hn hi hf O (uJ hq (fun v s' Y=>⟨Y.1,?_⟩) fun e s' z=> ?_)))
 ·exact Y.2
 ·exact z
end
section
variable {M:Model}{A:Around}{E:Value->Shared->Prop}{s:Shared}{env:Env}
variable {nm q:Str}{C N:Addr}{bs bm bmB:List Value}{hdct:Bool}{sn:List Str}{sub:List Value}{ab:Bool}{col:Option Bool}{dd:Option Addr}{k0 k1 k2 k3 k5:Option Value}{newId:String}
theorem exc_raise {x:Sem Value}{Q:Flow->Shared->Prop}(hb:bm.contains (.type "BaseException")=true)(hh:A.handled=none)
  (h:wpAny M A x (fun v O=>∃e t dc,v= .ref e/\O.heap.get? C=some (excClassObj nm q C N bs bm hdct sn sub ab col dd k0 k1 k2 k3 k5 newId)/\O.heap.get? e=some {cls:= .ref C,dict:=dc,data:= .fields #[.ref t,.none,.none,.none,.bool false,.none]}/\E (.ref e) O) E s):
  wpAny M A (raiseStmt env (some x) none) Q E s:=by
 have U:(Value.ref C::bm).contains (.type "BaseException")=true:=by rw [List.contains_cons,hb,Bool.or_true]
 unfold raiseStmt;refine wpAny_bind (uJ h (fun v O h₁=> ?_) fun _ _ z=>z);obtain⟨e,t,dc,rfl,Y,he,hE⟩:=h₁;obtain⟨hp,g,d,tk,os⟩:=O
 (repeat (first|with_reducible refine U7 he ?_|with_reducible refine U7 Y ?_|(with_reducible refine wpAny_isSubtype_exc Y ?_;rw [U])|wp_step))
 exact wpAny_raiseNew_none hh hE
end
theorem tail_base:∀{l:List Value},jQ l=true->l.contains (.type "BaseException")=true
 | .ref c::r,e=>by rw [List.contains_cons,tail_base (l:=r) e,Bool.or_true]
 | .type n::r,e=>by rw [show(Value.type n::r)=VE from by simpa [jQ] using e];decide
 | [],e=>by cases e
section
variable {prog:Program}{w:World}{K:PySem.W.Frag}{A:Around}{E:Value->Shared->Prop}{s:Shared}{x C:Addr}{ox:Obj}{od:Option Obj}{name:Str}{v:Value}
theorem exc_get {O:Bool}{Q:Value->Shared->Prop}(X:K.In s.heap)(I:PySem.W.InstAt s.heap x ox C od)(Y:PySem.W.findIn K (.ref C) "__getattribute__"=some (some (.builtin "BaseException.__getattribute__")))(aa:PySem.W.findIn K (.ref C) "__getattr__"=some none)(hp:overVE K C=true)
  (hf:PySem.W.findObj K C od name=some (.value v)) (hh:PySem.W.handedIn v=true) (h:Q v {s with toks:=s.toks+1}):wpAny (model prog w) A (getAttr (.ref x) name O) Q E s:=by
 obtain⟨U,g,d,t,os⟩:=s;have FB:=PySem.F.attrBase_ValueError;obtain⟨cd,hc,ho⟩:=Uv hp;have ne:cd.mro.isEmpty=false:=by
  cases q:cd.mro with
  |nil=>rw [q] at ho;cases ho
  |cons _ _=>rfl
 have L0:=I.type (M:=model prog w);have L1:=U9 (M:=model prog w) X Y;have L2:=U9 (M:=model prog w) X aa;have L3:=PySem.W.looks_find (M:=model prog w) X I hf;have sub:PySem.W.Looks (model prog w) U (isInstance (.ref x) (.type "BaseException")) true:=I.type.andThen (PySem.W.looks_mroIn X (by unfold PySem.W.mroIn;rw [hc,Option.bind_some,if_neg (by rw [ne];decide),tail_base ho]))
 have nh:(O&&onTheHeap (Value.builtin "BaseException.__getattribute__"))=false:=by cases O<;>exact rfl
 have no:(Value.builtin "BaseException.__getattribute__"==Value.builtin "object.__getattribute__")=false:=by decide+kernel
 unfold getAttr getAttrBy;refine wpAny_bind (wpAny_mkText (wpAny_holding (wpAny_bind (L0.at (wpAny_bind (L1.at ?_))))));show wpAny _ _ (if(onTheHeap (Value.ref C)&&Value.builtin "BaseException.__getattribute__"==Value.builtin "object.__getattribute__")=true then _ else _) _ _ _
 rw [no,Bool.and_false,if_neg (by decide)]
 unfold getAttrByItsOwn;refine wpAny_bind ?_;show wpAny _ _ (typeLookup (.ref C) "__getattr__") _ _ _;refine L2.at (wpAny_bind (vQ (wpAny_holding ?_)));unfold callGetattribute;rw [nh,if_neg (by decide)]
 unfold boundAndCalled;rw [FB.ga.bind (.ref x)];refine wpAny_bind (u9 ?_);refine U5 (vc FB.ga.plain F.entry_bexc_ga (@PySem.W.check_slot (model prog w) _ _ ⟨U,g,d,t+1,os⟩ "BaseException.__getattribute__" "BaseException" "__getattribute__" (.ref x) [.str name t] [] _ (by decide+kernel) (by decide+kernel) sub (F.args_bexc_ga (.ref x) (.str name t)) ?_))
 refine wpAny_bind (u9 (wpAny_bind (u9 (wpAny_bind (L0.at (wpAny_bind (L3.at ?_)))))));refine u9 ?_;show wpAny _ _ (handedOut v) _ _ _;rw [PySem.W.handedOut_of hh];exact u9 h
end
end L2
namespace L2
open PySem PySem.Spec PyProof.Rows
def CX2 (P:Program)(w:World):CXT:=fun outer H s E e s'=>∃(ea C:Addr) (a0:Value) (H':Hp) (B:Heap) (dc:Addr),e= .ref ea/\s'.os=s.os/\AllBare s'.gens/\0<s'.toks/\Un (frs outer) [] H H' s.heap s'.heap/\HOk P w H' B/\
 Heap.FlyingW B outer ea (.ref C) a0 s'.heap/\(∀b o,s.heap.get? b=some o->b∉frs outer->∃o',B.get? b=some o')/\DcAt s'.heap ea (some dc)/\E (.ref dc) (some C) H'
theorem pass2 {P:Program}{w:World}{K:PySem.W.Frag}{mg:Str->Option Value}{base:Heap}{N:List Str}{qual:Str}{scope:Scope}{f:Addr}{cd:Value}{A:Around}{outer:List Env}{s₀:Shared}{H₀:Hp}{E:XK}:
  yt (CX2 P w) (cxOf (CX2 P w) P w K mg base N qual scope f cd A outer s₀ H₀ E) E:=by
 intro pins σ H s e s' I h;obtain⟨ea,C,a0,H',B,dc,rfl,au,ae,htk,av,aj,ak,al,aw,hE⟩:=h;show wpAny (model P w) (A.deeper (envOfC qual scope s₀.heap.objs.size f cd)) (leaving (envOfC qual scope s₀.heap.objs.size f cd) (.ref ea)) (fun _ af=>CX2 P w outer H₀ s₀ E (.ref ea) af) (fun e' af=>CX2 P w outer H₀ s₀ E e' af) _;have ax:(A.deeper (envOfC qual scope s₀.heap.objs.size f cd)).frames=some (envOfC qual scope s₀.heap.objs.size f cd::outer):=I.ok.frames;have ag:frs (envOfC qual scope s₀.heap.objs.size f cd::outer)=s₀.heap.objs.size::frs outer:=rfl;have O:Un (frs outer) [] H₀ H s₀.heap s.heap:=I.base;have U:Un (frs (envOfC qual scope s₀.heap.objs.size f cd::outer)) [] H H' s.heap s'.heap:=av;have aa:Heap.FlyingW B (envOfC qual scope s₀.heap.objs.size f cd::outer) ea (.ref C) a0 s'.heap:=ak;have ac:∀b o,s.heap.get? b=some o->b∉frs (envOfC qual scope s₀.heap.objs.size f cd::outer)->∃o',B.get? b=some o':=al;have ay:=aa.2.2.1;have ad:∀b o,s₀.heap.get? b=some o->b∉frs outer->b∉frs (envOfC qual scope s₀.heap.objs.size f cd::outer):=fun b o e hb hm=>by
  rw [ag] at hm;rcases List.mem_cons.mp hm with rfl|hm
  ·exact absurd (ug e) (uS _)
  ·exact hb hm
 have nd:∀b∈frs outer,∀o,s'.heap.get? b=some o->∀vs,o.data≠ .fields vs:=fun b hb o e=>by
  obtain⟨_,o',e',hn⟩:=ay.mem (show b∈(envOfC qual scope s₀.heap.objs.size f cd::outer).filterMap (·.frame) from by rw [show(envOfC qual scope s₀.heap.objs.size f cd::outer).filterMap (·.frame)=frs (envOfC qual scope s₀.heap.objs.size f cd::outer) from rfl,ag];exact u5 _ hb)
  rw [e] at e';cases e';exact hn
 refine leave_D2 (base:=B) (L:=s₀.heap.objs.size) ax rfl aa aw fun az ah am ao=> ?_;have aA:∀b o o',B.get? b=some o'->s'.heap.get? b=some o->az.get? b=some o:=fun b o o' Y e2=>by
  have:=aa.1 b o' Y;rw [e2] at this;cases this;exact ah.1 b o Y
 refine⟨ea,C,a0,H',B,dc,rfl,au.trans I.os,ae,htk,⟨?_,?_,?_,?_,?_,?_,?_⟩,aj,ah,?_,ao,hE⟩
 ·intro b o Y hn hb hx;have e2:=O.keep b o Y hn hb hx;have ai:=O.free b o Y hn hx;have ap:=ad b o Y hb;have e3:=U.keep b o e2 ai ap hx;obtain⟨o',e4⟩:=ac b o e2 ap;exact aA b o o' e4 e3
 ·intro b o Y hn hb hx;obtain⟨sl,e2⟩:=O.slot b o Y hn hb hx;have ai:=O.free b o Y hn hx;obtain⟨aB,e3⟩:=U.slot b _ e2 ai (by rw [ag];exact u5 _ hb) hx
  obtain⟨aq,e4⟩:=am b _ e3 (nd b hb _ e3);exact⟨aq,e4⟩
 ·intro b o Y hn hx;obtain⟨o',e2⟩:=O.there b o Y hx;exact U.free b o' e2 (O.free b o Y hn hx) hx
 ·intro b o Y hx;obtain⟨o',e2⟩:=O.there b o Y hx;by_cases hb:b∈frs outer
  ·obtain⟨o2,e3⟩:=U.there b o' e2 hx;obtain⟨aq,e4⟩:=am b _ e3 (nd b hb _ e3);exact⟨_,e4⟩
  ·obtain⟨o2,e3⟩:=ac b o' e2 (ad b o Y hb);exact⟨o2,ah.1 b o2 e3⟩
 ·exact fun b xs e=>U.tups b xs (O.tups b xs e)
 ·exact fun b o u e=>U.frzs b o u (O.frzs b o u e)
 ·intro b ps e;obtain⟨m1,Y⟩:=O.tbls b ps e;obtain⟨m2,e2⟩:=U.tbls b _ Y;exact⟨m1++m2,by rw [<-Uf];exact e2⟩
 ·intro b o Y hb;obtain⟨o',e2⟩:=O.there b o Y (by simp)
  exact ac b o' e2 (ad b o Y hb)
def ExcD (a C dc:Addr):HO:= .ext fun h=>∃o,h.get? a=some o/\o.cls= .ref C/\PySem.W.notCls o=true/\o.dict=some dc
theorem ExcD.ok {P:Program}{w:World}{H:Hp}{h:Heap}{a C dc:Addr}{o:Obj}(e:h.get? a=some o)(c:o.cls= .ref C)(n:PySem.W.notCls o=true)(d:o.dict=some dc):qU P w H h a (ExcD a C dc):=
 ⟨⟨o,e,c,n,d⟩,⟨o,e⟩,fun _ _ ⟨o,e,c,n,d⟩ k=>⟨o,k o e,c,n,d⟩⟩
def Cat2 (X:Cx)(pins:List (Addr×Obj))(σ:St)(E:XK)(e:Value)(s':Shared):Prop:=∃H1 s1,Inv X pins σ H1 s1/\CX2 X.prog X.w X.stack H1 s1 E e s'
section
variable {X:Cx}{pins:List (Addr×Obj)}{σ:St}{H:Hp}{s:Shared}{ee:Addr}{xe:Value->Shared->Prop}
theorem call_cat2 {k:Nat}{f:Addr}{fd:FuncData}{ps:List Str}{sp:Sp}{x:Str}{p pos:Pos}{e:Expr}{es:List Expr}{t:TA}{Q:VK}{E:XK}(F:FnOk X.prog X.w X.K X.mg X.base (CX2 X.prog X.w) k f fd ps sp)(hr:Room k X.A)(hg:Gl X x)(hm:X.mg x=some (.ref f))
  (hk:PySem.W.keepIn X.K (.ref f)=true) (hb:y6 X.K fd ps []) (ha:PA X.nox (e::es) t) (I:Inv X pins σ H s) (h:t σ H fun vs H1=>sp vs H1 Q E) (aa:(x==("__debug__":Str))=false)
  (he:starEach (e::es) X.env=(false,eval e X.env)::starEach es X.env) (ac:(backTo pos (starEach es X.env)).any (·.1)=false):
  wpAny (model X.prog X.w) X.A (eval (.Call (.Name x p) (e::es) [] pos) X.env) (EP X pins σ Q) (Cat2 X pins σ E) s:=by
 refine uO (yD I hg hm ?_ aa);refine vZ (h₀:=X.base) I.ok.mod.kin hk (uJ (ha pos pins s σ H _ (I.wish _) h) (fun us s1 h1=> ?_) fun _ _ z=>z.elim) he ac;obtain⟨vs,H1,ad,r,q⟩:=h1;have O:Inv X pins σ H1 s1:=ad.unwish;refine⟨O.kIn,?_⟩;have hl:us.length=ps.length:=by rw [<-r.length];exact F.len _ _ _ _ q
 have U:=hb s1 us O.kIn (by rw [uU];exact hl)
 rw [uU] at U;refine U5 (U2 (F.run X.A X.stack s1 H1 ⟨us,[]⟩ us vs Q E hr O.env0 U r q (.inl O.tk)) fun r s' Y=> ?_);cases r with
 |error e=>exact⟨H1,s1,O,Y⟩
 |ok fl=>
  cases fl with
  |ret u=>exact O.after Y
  |next=>exact False.elim Y
  |brk=>exact False.elim Y
  |cont=>exact False.elim Y
theorem catch_as2 {D:Ends}{e:Value}{s':Shared}{c n:Str}{i:Nat}{np au:Pos}{C':Addr}{b₀:Stmt}{ad:List Stmt}{ts:TS}
  (aD:Cat2 X pins σ (fun v C H2=>∃Cc dc,v= .ref dc/\C=some Cc/\PySem.W.exmOne X.K (.ref Cc) (.ref C')=some true/\∀O,H2 O=none->ts (D.less i) (σ.set i (some (.ref O))) (upd H2 O (ExcD O Cc dc))) e s') (ae:X.stack=X.env::X.outer/\X.env.frame=some X.env.locals)
  (hg:Gl X c) (hm:X.mg c=some (.ref C')) (hN:X.N.Nodup) (hi:X.N[i]? =some n) (hn:X.env.scope.names.lookup n=some .local) (hs:∀ee xe,PSs (X.marked ee xe) (b₀::ad) ts) (aE:(c==("__debug__":Str))=false):
  wpAny (model X.prog X.w) X.A (noteFrame e X.env) (fun _ s2=>wpAny (model X.prog X.w) X.A (setFlight e none) (fun _ s3=>wpAny (model X.prog X.w) X.A (handleBy e X.env [.ExceptHandler (some (.Name c np)) (some n) (b₀::ad) au]) (SP X pins D) X.xe s3) X.xe s2) X.xe s':=by
 obtain⟨H1,s1,I,O,Cc,a0,H',B,dc,rfl,aF,am,htk,aa,ai,Y,af,aG,C2,aM,hv,hC,hx,ao⟩:=aD;cases hC;cases hv;have ap:H' O=none:=by
  cases q:H' O with
  |none=>rfl
  |some u=>
   obtain⟨o,z⟩:=(ai O u q).here;rw [Y.2.1] at z;cases z
 have ao:=ao O ap;have nd:∀b∈frs X.stack,∀o,s'.heap.get? b=some o->∀vs,o.data≠ .fields vs:=fun b hb o e=>by
  obtain⟨_,o',e',hn⟩:=Y.2.2.1.mem (show b∈X.stack.filterMap (·.frame) from hb)
  rw [e] at e';cases e';exact hn
 have av:∀o,s1.heap.get? O=some o->False:=fun o z=>by
  by_cases hb:O∈frs X.stack
  ·obtain⟨_,_,_,oe,vs,_,_,_,he,_,hd,_⟩:=Y;exact nd O hb oe he vs hd
  ·obtain⟨o',q⟩:=af O o z hb;rw [Y.2.1] at q;cases q
 have step:∀hk,B.StaysIn hk->s'.heap.UpToSlots hk->(∃o,hk.get? O=some o/\o.cls= .ref Cc/\PySem.W.notCls o=true/\o.dict=some dc)->Inv X pins σ (upd H' O (ExcD O Cc dc)) {s' with heap:=hk}:=by
  intro hk hB hU ⟨oe,he,hc,aH,aI⟩;have aJ:∀b o o',B.get? b=some o'->s'.heap.get? b=some o->hk.get? b=some o:=fun b o o' e1 e2=>by
   have:=Y.1 b o' e1;rw [e2] at this;cases this;exact hB b o e1
  have aK:∀b o,s1.heap.get? b=some o->b≠O:=fun b o e z=>av o (z▸e);have aw:HOk X.prog X.w (upd H' O (ExcD O Cc dc)) hk:=fun b u e=>by
   by_cases z:b=O
   ·subst z;rw [qe] at e;cases e;exact ExcD.ok he hc aH aI
   ·rw [ql z] at e;have ag:∀c u,H' c=some u->upd H' O (ExcD O Cc dc) c=some u:=fun c u q=>by rw [ql (qh q ap)];exact q
    exact(ai b u e).stay (fun c v _ q=>hB c v q) (fun c q=>ag c _ q) fun c xs q=>ag c _ q
  have hT:∀b u,H' b=some u->upd H' O (ExcD O Cc dc) b=some u:=fun b u q=>by rw [ql (qh q ap)];exact q
  refine I.call' (s':={s' with heap:=hk}) (ch:= []) aF ⟨?_,?_,?_,?_,fun b xs q=>hT b _ (aa.tups b xs q),fun b o u q=>hT b _ (aa.frzs b o u q),fun b ps q=> ?_⟩ aw am (fun b z=>by simp at z)
  ·intro b o e1 hn hb ac;obtain⟨o',e2⟩:=af b o e1 hb;exact aJ b o o' e2 (aa.keep b o e1 hn hb ac)
  ·intro b o e1 hn hb ac;obtain⟨sl,e2⟩:=aa.slot b o e1 hn hb ac;obtain⟨ax,e3⟩:=hU b _ e2 (nd b hb _ e2);exact⟨ax,e3⟩
  ·intro b o e1 hn ac;rw [ql (aK b o e1)];exact aa.free b o e1 hn ac
  ·intro b o e1 ac;by_cases hb:b∈frs X.stack
   ·obtain⟨o',e2⟩:=aa.there b o e1 ac;obtain⟨ax,e3⟩:=hU b _ e2 (nd b hb _ e2);exact⟨_,e3⟩
   ·obtain⟨o',e2⟩:=af b o e1 hb;exact⟨o',hB b o' e2⟩
  ·obtain⟨more,q2⟩:=aa.tbls b ps q;exact⟨more,hT b _ q2⟩
 have ay:∀{l:List Env}{hk:Heap},Heap.FlyingW B l O (.ref Cc) a0 hk->DcAt hk O (some dc)->∃o,hk.get? O=some o/\o.cls= .ref Cc/\PySem.W.notCls o=true/\o.dict=some dc:=fun f z=>by
  obtain⟨_,_,_,oe,vs,_,_,_,he,hc,hd,_⟩:=f;obtain⟨o2,z1,z2⟩:=z;rw [he] at z1;cases z1;exact⟨oe,he,hc.1,by unfold PySem.W.notCls;rw [hd],z2⟩
 rw [ae.1] at Y;have aL:X.A.frames=some (X.env::X.outer):=by rw [I.ok.frames,ae.1]
 refine note_D2 (base:=B) aL ae.2 Y aG fun h1 aq aj az=> ?_;obtain⟨g1,g2,g3,g4⟩:=aq;refine jW (s:={s' with heap:=h1}) g1 g2 g3 g4 az fun h2 U ak al=> ?_
 have I2:=step h2 U.1 (aj.trans ak) (ay U al);refine wpAny_handleBy_cons (codeAny_handlers_test ?_) (by intro q;cases q)
 refine yD (X:=X.marked O X.xe) I2.marked hg hm ?_ aE;obtain⟨oe,he,aA⟩:=U.there;have LT:PySem.W.Looks (model X.prog X.w) h2 (typeOf (.ref O)) (.ref Cc):=aA▸(PySem.W.Looks.ld he).andThen .now;refine PySem.W.exm_one I2.kIn LT hx _ _ _ _ (fun b o e=>e) ?_;refine codeAny_handlers_suite_as (jW (s:={s' with heap:=h2}) U.1 U.2.1 U.2.2.1 U.2.2.2.at al fun h3 ah aB aC=> ?_)
 have I3:=step h3 ah.1 ((aj.trans ak).trans aB) (ay ah aC);refine jj (v:= .ref O) I3 hN hi (.inl hn) rfl (fun s4 I4=> ?_) (.inr hn);refine uJ (hs O _ pins _ _ _ (D.less i) I4.marked ao) (fun f s5 h5=> ?_) fun _ _ z=>z;have h5:=h5.unmarked I.ok;cases f with
 |next=>obtain⟨σ',H5,I5,q⟩:=h5;exact Y4 I5 hN hi hn fun s6 I6=>⟨_,H5,I6,q⟩
 |brk=>obtain⟨σ',H5,I5,q⟩:=h5;exact Y4 I5 hN hi hn fun s6 I6=>⟨_,H5,I6,q⟩
 |cont=>obtain⟨σ',H5,I5,q⟩:=h5;exact Y4 I5 hN hi hn fun s6 I6=>⟨_,H5,I6,q⟩
 |ret u=>obtain⟨v,σ',H5,I5,r,q⟩:=h5;exact Y4 I5 hN hi hn fun s6 I6=>⟨v,_,H5,I6,r,q⟩
def tTryEA2 (K:PySem.W.Frag)(sp:Sp)(t:TA)(i:Nat)(C':Addr)(ts:TS):TS:=fun D σ H=>t σ H fun vs H1=>sp vs H1 (fun _ H2=>D.nx σ H2) (fun v C H2=>∃Cc dc,v= .ref dc/\C=some Cc/\PySem.W.exmOne K (.ref Cc) (.ref C')=some true/\∀ea,H2 ea=none->ts (D.less i) (σ.set i (some (.ref ea))) (upd H2 ea (ExcD ea Cc dc)))
theorem ps_tryEA2 {i k:Nat}{f:Addr}{fd:FuncData}{ps:List Str}{sp:Sp}{x c n:Str}{p np cpos U Y pos:Pos}{e:Expr}{es:List Expr}{t:TA}{C':Addr}{b₀:Stmt}{O:List Stmt}{ts:TS}(hN:X.N.Nodup)(hi:X.N[i]? =some n)(hn:X.env.scope.names.lookup n=some .local)
  (F:FnOk X.prog X.w X.K X.mg X.base (CX2 X.prog X.w) k f fd ps sp) (hr:Room k X.A)
  (hg:Gl X x) (hm:X.mg x=some (.ref f)) (hk:PySem.W.keepIn X.K (.ref f)=true) (hb:y6 X.K fd ps []) (ha:PA X.nox (e::es) t) (aa:X.stack=X.env::X.outer/\X.env.frame=some X.env.locals) (ac:Gl X c) (ad:X.mg c=some (.ref C'))
  (hs:∀ee xe,PSs (X.marked ee xe) (b₀::O) ts) (ae:(x==("__debug__":Str))=false:=by decide) (af:(c==("__debug__":Str))=false:=by decide)
  (he:starEach (e::es) X.env=(false,eval e X.env)::starEach es X.env:=by rfl) (ag:(backTo cpos (starEach es X.env)).any (·.1)=false:=by rfl) (ah:swapsWith (.Call (.Name x p) (e::es) [] cpos) none U.line X.env=pure false:=by rfl):
  PS X (.Try [.Expr (.Call (.Name x p) (e::es) [] cpos) U] [.ExceptHandler (some (.Name c np)) (some n) (b₀::O) Y] [] [] pos) (tTryEA2 X.K sp t i C' ts):=by
 intro pins s σ H D I h;refine wpAny_Try_except (wpAny_execs_cons ?_);refine uJ (wpAny_Expr_any (Q:=SP X pins D) (uJ (call_cat2 F hr hg hm hk hb ha I h ae he ag) (fun v s1 ⟨y,H1,I1,r1,q1⟩=>⟨σ,H1,I1,q1⟩) fun _ _ z=>z) I.quiet ah) (fun fl s1 q=> ?_) fun e' s1 q=>catch_as2 q aa ac ad hN hi hn hs af;cases fl with
 |next=>exact vL (vL q)
 |ret v=>exact q
 |brk=>exact q
 |cont=>exact q
end
structure ClsX (K:PySem.W.Frag)(C:Addr):Prop where
 hd:PySem.W.hasDictIn K C=true
 ov:overVE K C=true
 sa:PySem.W.findIn K (.ref C) "__setattr__"=some (some (.builtin "object.__setattr__"))
 ga:PySem.W.findIn K (.ref C) "__getattribute__"=some (some (.builtin "BaseException.__getattribute__"))
 gh:PySem.W.findIn K (.ref C) "__getattr__"=some none
def ExcN (a C:Addr)(vs:Array Value):HO:= .ext fun h=>h.get? a=some ⟨.ref C,none,.fields vs,#[]⟩
def ExcM (a C dc:Addr)(vs:Array Value):HO:= .ext fun h=>h.get? a=some ⟨.ref C,some dc,.fields vs,#[]⟩
theorem ExcN.ok {P:Program}{w:World}{H:Hp}{h:Heap}{a C:Addr}{vs:Array Value}(e:h.get? a=some ⟨.ref C,none,.fields vs,#[]⟩):qU P w H h a (ExcN a C vs):=⟨e,⟨_,e⟩,fun _ _ e k=>k _ e⟩
theorem ExcM.ok {P:Program}{w:World}{H:Hp}{h:Heap}{a C dc:Addr}{vs:Array Value}(e:h.get? a=some ⟨.ref C,some dc,.fields vs,#[]⟩):qU P w H h a (ExcM a C dc vs):=⟨e,⟨_,e⟩,fun _ _ e k=>k _ e⟩
def tFldX (K:PySem.W.Frag)(ta:TE)(f:Str):TE:=fun σ H Q=>ta σ H fun x H1=>∃a C dc fs v,x= .ref a/\H1 a=some (ExcD a C dc)/\H1 dc=some (.xd fs)/\ClsX K C/\yY K C f/\fs.lookup f=some v/\Q v H1
def sFldX (K:PySem.W.Frag)(ta tv:TE)(f:Str):TS:=fun D σ H=>tv σ H fun y H1=>ta σ H1 fun x H2=>∃a C vs,x= .ref a/\H2 a=some (ExcN a C vs)/\ClsX K C/\yY K C f/\∀dc,H2 dc=none->dc≠a->D.nx σ (upd (upd H2 dc (.xd [(f,y)])) a (ExcM a C dc vs))
section
variable {X:Cx}{e o value:Expr}{f:Str}{pos pos':Pos}{ta tv:TE}
theorem pe_fldX (Y:PE X e ta)(hb:attributeBase e f X.env (eval e X.env)=eval e X.env):PE X (.Attribute e f pos) (tFldX X.K ta f):=by
 intro pins s σ H Q I h;refine attr_of hb (thn (Y pins s σ H _ I h) fun u s1 ⟨x,H1,O,rx,a,C,dc,fs,v,ex,ea,ed,c,n,l,q⟩=> ?_);subst ex;obtain rfl:u=Value.ref a:=rx;obtain⟨ob,e1,e2,e3,e4⟩:=(show qU X.prog X.w H1 s1.heap a (ExcD a C dc) from O.hok a _ ea).1
 obtain⟨mA,hn,r⟩:=(show qU X.prog X.w H1 s1.heap dc (.xd fs) from O.hok dc _ ed)
 obtain⟨od,ho,hl⟩:=Jd hn;obtain⟨u,hu,U⟩:=RelO.some_of (v:=v) (o:=mA f) (by rw [<-l];exact r f)
 have J:PySem.W.InstAt s1.heap a ob C (some od):=⟨e1,e2,e3,by rw [e4];exact ho⟩
 exact exc_get O.kIn J c.ga c.gh c.ov (PySem.W.findObj_own c.hd n rfl (by rw [hl,hu])) (handed_of U) ⟨v,H1,O.tok _,U,q⟩
theorem ps_fldX (ha:PE X o ta)(hv:PE X value tv)(hs:swapsWith value (some (.Attribute o f pos')) pos.line X.env=pure false):PS X (.Assign [.Attribute o f pos'] value pos) (sFldX X.K ta tv f):=by
 intro pins s σ H D I h;refine plainObj_wpAny_Assign_Attribute (thn (hv pins s σ H _ I h) fun u s1 ⟨y,H1,I1,ry,q⟩=>thn (ha pins s1 σ H1 _ I1 q) fun ov s2 ⟨x,H2,I2,rx,a,C,vs,ex,ea,c,n,q2⟩=> ?_) hs;subst ex;obtain rfl:ov=Value.ref a:=rx;have e1:s2.heap.get? a=some ⟨.ref C,none,.fields vs,#[]⟩:=(show qU X.prog X.w H2 s2.heap a (ExcN a C vs) from I2.hok a _ ea).1
 refine exc_set I2.kIn e1 c.sa c.ov n.taker c.hd fun h' e2 hn kp=> ?_;obtain⟨od,O,_⟩:=Jd hn;have fr:H2 s2.heap.objs.size=none:=I2.hok.fresh (Nat.le_refl _);have ne:s2.heap.objs.size≠a:=vj (ug e1);refine⟨σ,_,?_,q2 _ fr ne⟩;have U:od.isFreed=false:=by
  obtain⟨o',es,ep,Y,z2,_⟩:=hn;rw [O] at Y;cases Y;exact Obj.isFreed_of_dict z2
 have n1:(s2.heap.push od).Ns1 s2.heap.objs.size (fun y=>if y=f then some u else none):=by
  obtain⟨o',es,ep,Y,z2⟩:=hn;rw [O] at Y;cases Y;exact⟨_,es,ep,uh _ U,z2⟩
 have I3:Inv X pins σ (upd H2 s2.heap.objs.size (.xd [(f,y)])) {s2 with heap:=s2.heap.push od,toks:=s2.toks+2}:=by
  refine I2.laid (fun b o z=>u4 _ z) (Nat.le_refl _) ⟨_,n1,fun g=> ?_⟩;by_cases z:g=f
  ·have hb:(g==f)=true:=beq_iff_eq.mpr z;simp only [List.lookup,hb,if_pos z];exact ry
  ·have hb:(g==f)=false:=beq_eq_false_iff_ne.mpr z;simp only [List.lookup,hb,if_neg z]
   trivial
 refine I3.write (x:=a) (e:=a) (o:=ExcM a C s2.heap.objs.size vs) (t':=s2.toks+2) (by rw [ql (uY ne),ea];exact True.intro) (.inl rfl) (fun b o hb z=> ?_) ⟨_,e2⟩ (ExcM.ok e2)
 by_cases hz:b=s2.heap.objs.size
 ·subst hz;rw [show(s2.heap.push od).get? s2.heap.objs.size=some od from uh _ U] at z
  cases z;exact O
 ·refine kp b o hb ?_;rw [<-z];exact(Heap.get?_push_ne _ _ _ hz).symm
end
def excInI (K:PySem.W.Frag)(C f:Addr):Bool:=match K.lookup C with
 |some ⟨.type "type",_,.cls cd,sl⟩=>(match cd.mro,sl.toList with
  | .ref D::bm,[_,_,_,_,some (.builtin n),_]=>D==C&&n=="ValueError.__new__"&& !cd.hasDel&&PySem.W.tailIn K VE bm&&PySem.W.nsOkIn K cd.ns&&PySem.W.nsIn K cd.ns "__init__"==some (some (.ref f))
  |_,_=>false)
 |_=>false
theorem ns_val {K:PySem.W.Frag}{h:Heap}{N:Addr}{m:Str->Option Value}{n:Str}{v:Value}(X:K.In h)(G:h.Ns N m)(e:PySem.W.nsIn K N n=some (some v)):m n=some v:=by
 obtain⟨o,es,ep,O,hd,_,U⟩:=G;unfold PySem.W.nsIn at e;split at e
 ·rename_i q
  have z:=X _ _ q;rw [O] at z;cases z;cases hd;split at e
  ·rename_i en Y
   cases e;rw [<-U];unfold nsFind findBy;rw [<-Array.find?_toList,Y]
   rfl
  ·split at e<;>cases e
 ·cases e
theorem clsI_in {K:PySem.W.Frag}{h:Heap}{C f:Addr}(X:K.In h)(q:excInI K C f=true):
  ∃bm N nm Y bs hdct sn sub ab col dd k0 k1 k2 k3 k5 mN,h.get? C=some (excClassObj nm Y C N bs bm hdct sn sub ab col dd k0 k1 k2 k3 k5 "ValueError.__new__")/\h.Ns N mN/\mN "__init__"=some (.ref f)/\OwnTail h VE bm:=by
 unfold excInI at q;split at q
 ·rename_i dd cd sl ho
  split at q
  ·rename_i C' bm k0 k1 k2 k3 n k5 hm hs
   simp only [uH,UC,Bool.not_eq_true'] at q;obtain⟨⟨⟨⟨⟨rfl,rfl⟩,O⟩,ht⟩,hok⟩,U⟩:=q;obtain⟨nm,bs,aa,ns,Y,hd,sn,sub,ab,col,ac⟩:=cd;dsimp only at hm O hok U;subst hm O;obtain⟨l⟩:=sl;simp only at hs;subst hs;have hN:=Heap.Ns.of_isNs (PySem.W.isNs_of_in X hok);exact⟨bm,ns,nm,Y,bs,hd,sn,sub,ab,col,dd,k0,k1,k2,k3,k5,_,X _ _ ho,hN,ns_val X hN U,PySem.W.tail_of_in X ht⟩
  ·cases q
 ·cases q
structure MkX (K:PySem.W.Frag)(C f:Addr):Prop where
 cl:ClsX K C
 ex:excInI K C f=true
 fn:PySem.W.typeIn K (.ref f)=some (.type "function")
 kp:PySem.W.keepIn K (.ref C)=true
def spX (C:Addr)(fld:Str):Sp:=fun vs H Q _=>∃a ws y,vs= [.ref a,y]/\H a=some (ExcN a C ws)/\∀dc,H dc=none->dc≠a->Q .non (upd (upd H dc (.xd [(fld,y)])) a (ExcM a C dc ws))
theorem run_exc {X:Cx}{pins:List (Addr×Obj)}{σ:St}{H:Hp}{s:Shared}{k:Nat}{C f:Addr}{fd:FuncData}{ps:List Str}{U:Str}{y:V}{u:Value}{Q:Value->Shared->Prop}(M:MkX X.K C f)(F:FnOk X.prog X.w X.K X.mg X.base CX0 k f fd ps (spX C U))(hr:Room (k+1) X.A)(hb:y6 X.K fd ps [])(hl:ps.length=2)
  (I:Inv X pins σ H s) (ry:RelV y u)
  (h:∀a dc t s',s.heap.get? a=none->H a=none->H dc=none->dc≠a->Inv X pins σ (upd (upd (upd H a (ExcN a C #[.ref t,.none,.none,.none,.bool false,.none])) dc (.xd [(U,y)])) a (ExcM a C dc #[.ref t,.none,.none,.none,.bool false,.none])) s'->Q (.ref a) s'):
  wpAny (model X.prog X.w) X.A (call (.ref C) [u]) Q X.xe s:=by
 obtain⟨bm,N,nm,qn,bs,hdct,sn,sub,ab,col,dd,k0,k1,k2,k3,k5,mN,hC,hN,hi,T⟩:=clsI_in I.kIn M.ex;have fa:H (s.heap.objs.size+1)=none:=I.hok.fresh (vH _);have kp:∀b o,s.heap.get? b=some o->(Jc s.heap C [u]).get? b=some o:=fun b o e=>u4 _ (u4 _ e);have Y:(Jc s.heap C [u]).get? (s.heap.objs.size+1)=some ⟨.ref C,none,.fields #[.ref s.heap.objs.size,.none,.none,.none,.bool false,.none],#[]⟩:=by
  have:=uh (s.heap.push {cls:= .type "tuple",data:= .seq [u].toArray}) (o:={cls:= .ref C,data:= .fields #[.ref s.heap.objs.size,.none,.none,.none,.bool false,.none]}) rfl
  rwa [va] at this
 have I2:=I.laid (h':=Jc s.heap C [u]) (a:=s.heap.objs.size+1) (o:=ExcN (s.heap.objs.size+1) C #[.ref s.heap.objs.size,.none,.none,.none,.bool false,.none]) (t':=s.toks) kp (vH _) (ExcN.ok Y) I.tk;have aa:spX C U [.ref (s.heap.objs.size+1),y] (upd H (s.heap.objs.size+1) (ExcN (s.heap.objs.size+1) C #[.ref s.heap.objs.size,.none,.none,.none,.bool false,.none]))
   (fun v H3=>v= .non/\∃dc,H dc=none/\dc≠s.heap.objs.size+1/\H3=upd (upd (upd H (s.heap.objs.size+1) (ExcN (s.heap.objs.size+1) C #[.ref s.heap.objs.size,.none,.none,.none,.bool false,.none])) dc (.xd [(U,y)])) (s.heap.objs.size+1) (ExcM (s.heap.objs.size+1) C dc #[.ref s.heap.objs.size,.none,.none,.none,.bool false,.none])) E0:=
  ⟨_,_,y,rfl,qe,fun dc h1 h2=>⟨rfl,dc,by rwa [ql h2] at h1,h2,rfl⟩⟩
 have r2:Vals [V.ref (s.heap.objs.size+1),y] [Value.ref (s.heap.objs.size+1),u]:= .cons rfl (.cons ry .nil);obtain⟨hp,g,d,t,os⟩:=s;refine exc_call (K:=X.K) (f:=f) PySem.F.excBase_ValueError T I.kIn hC hN hi M.fn (show(1:Nat)<=sizeLine by decide) (U5 (U2 (F.run _ X.stack _ _ ⟨[Value.ref (hp.objs.size+1),u],[]⟩ [Value.ref (hp.objs.size+1),u] _ _ E0 (hr.make C [u] []) (I2.env0.make C [u] []) ?_ r2 aa (.inl I2.tk)) fun r s' O=> ?_))
 ·have:=hb _ [Value.ref (hp.objs.size+1),u] I2.kIn (by simp [hl])
  simpa using this
 ·cases r with
  |error e=>exact O.elim
  |ok fl=>
   cases fl with
   |ret u'=>
    obtain⟨v,H',I3,rv,ev,dc,h1,h2,eH⟩:=I2.after O;subst ev eH;exact⟨rv,h _ dc _ s' (Heap.get?_none_of_le (vH _)) fa h1 h2 I3⟩
   |next=>exact False.elim O
   |brk=>exact False.elim O
   |cont=>exact False.elim O
def tRaise2 (E:XK)(C:Addr)(fld:Str)(ta:TE):TS:=fun _ σ H=>tCons ta tNil σ H fun vs H1=>∃y,vs= [y]/\∀dc,H1 dc=none->E (.ref dc) (some C) (upd H1 dc (.xd [(fld,y)]))
theorem ps_raise2 {P:Program}{w:World}{K:PySem.W.Frag}{mg:Str->Option Value}{base:Heap}{N:List Str}{qual:Str}{scope:Scope}{f:Addr}{cd:Value}{A:Around}{outer:List Env}{s₀:Shared}{H₀:Hp}{E:XK}
  {x aa:Str}{C fi:Addr}{fd:FuncData}{ps:List Str}{k:Nat}{np cpos pos:Pos}{ad:Expr}{ta:TE} (M:MkX K C fi) (F:FnOk P w K mg base CX0 k fi fd ps (spX C aa)) (hr:Room (k+1) (A.deeper (envOfC qual scope s₀.heap.objs.size f cd))) (U:y6 K fd ps []) (hl:ps.length=2)
  (hg:Gl (cxOf (CX2 P w) P w K mg base N qual scope f cd A outer s₀ H₀ E) x) (hm:mg x=some (.ref C))
  (ha:PE (cxOf (CX2 P w) P w K mg base N qual scope f cd A outer s₀ H₀ E) ad ta) (hd:(x==("__debug__":Str))=false:=by decide)
  (hs:starEach [ad] (envOfC qual scope s₀.heap.objs.size f cd)= [(false,eval ad (envOfC qual scope s₀.heap.objs.size f cd))]:=by rfl):
  PS (cxOf (CX2 P w) P w K mg base N qual scope f cd A outer s₀ H₀ E) (.Raise (some (.Call (.Name x np) [ad] [] cpos)) none pos) (tRaise2 E C aa ta):=by
 intro pins s σ H D I h;obtain⟨bm,Nn,nm,q,bs,hdct,sn,sub,ab,col,dd,k0,k1,k2,k3,k5,mN,hC,hN,ay,T⟩:=clsI_in I.ok.mod.kin M.ex;have hT:bm.contains (.type "BaseException")=true:=T.hasType (by decide)
 rw [arm_exec_Raise];simp only [evalOpt,Option.map];refine wpAny_bind (U4 (exc_raise (C:=C) (nm:=nm) (q:=q) (N:=Nn) (bs:=bs) (bm:=bm) (hdct:=hdct) (sn:=sn) (sub:=sub) (ab:=ab) (col:=col) (dd:=dd) (k0:=k0) (k1:=k1) (k2:=k2) (k3:=k3) (k5:=k5) (newId:="ValueError.__new__") hT (I.ok.hd rfl) ?_));refine wpAny_bind (uJ (Q:=fun v s₁=>∃e t dc,v=Value.ref e/\s₁.heap.get? C=some (excClassObj nm q C Nn bs bm hdct sn sub ab col dd k0 k1 k2 k3 k5 "ValueError.__new__")/\s₁.heap.get? e=some {cls:= .ref C,dict:=dc,data:= .fields #[.ref t,.none,.none,.none,.bool false,.none]}/\(cxOf (CX2 P w) P w K mg base N qual scope f cd A outer s₀ H₀ E).xe (.ref e) s₁) ?_ (fun v s1 h1=>wpAny_bind (U4 (u9 h1))) fun _ _ z=>z);refine uO (yD I hg hm ?_ hd);have aq:PA (cxOf (CX2 P w) P w K mg base N qual scope f cd A outer s₀ H₀ E) [ad] (tCons ta tNil):=qa ha qb hs;refine vZ (h₀:=base) I.ok.mod.kin M.kp (thn (aq cpos pins s σ H _ I h) fun us s1 ⟨vs,H1,I1,r,y,ey,q1⟩=>⟨I1.kIn,?_⟩) hs rfl;subst ey;obtain⟨u,rfl,ru⟩:=yR r;refine run_exc M F hr U hl I1 ru fun a dc t s2 h0 h1 h2 h3 I2=> ?_;have e1:s2.heap.get? a=some ⟨.ref C,some dc,.fields #[.ref t,.none,.none,.none,.bool false,.none],#[]⟩:=(show qU P w _ s2.heap a (ExcM a C dc #[.ref t,.none,.none,.none,.bool false,.none]) from I2.hok a _ qe).1
 refine⟨a,t,some dc,rfl,I2.bk _ _ hC,e1,?_⟩;show wpAny (model P w) (A.deeper (envOfC qual scope s₀.heap.objs.size f cd)) (leaving (envOfC qual scope s₀.heap.objs.size f cd) (.ref a)) (fun _ ah=>CX2 P w outer H₀ s₀ E (.ref a) ah) (fun e' ah=>CX2 P w outer H₀ s₀ E e' ah) _;generalize ai:upd (upd (upd H1 a (ExcN a C #[.ref t,.none,.none,.none,.bool false,.none])) dc (.xd [(aa,y)])) a (ExcM a C dc #[.ref t,.none,.none,.none,.bool false,.none])=H3 at I2;have ga:H3 a=some (ExcM a C dc #[.ref t,.none,.none,.none,.bool false,.none]):=by rw [<-ai];exact qe
 have gn:∀b,b≠a->H3 b=upd H1 dc (.xd [(aa,y)]) b:=fun b U=>by
  rw [<-ai,ql U];by_cases z:b=dc
  ·subst z;rw [qe,qe]
  ·rw [ql z,ql U,ql z]
 have gz:upd H1 dc (.xd [(aa,y)]) a=none:=by rw [ql (uY h3)];exact h1
 have au:(A.deeper (envOfC qual scope s₀.heap.objs.size f cd)).frames=some (envOfC qual scope s₀.heap.objs.size f cd::outer):=I2.ok.frames;have aj:s2.heap.FunFrames base (envOfC qual scope s₀.heap.objs.size f cd::outer):=I2.stack;have ae:∀b∈frs (envOfC qual scope s₀.heap.objs.size f cd::outer),H3 b=none:=I2.stkFree;have ak:frs (envOfC qual scope s₀.heap.objs.size f cd::outer)=s₀.heap.objs.size::frs outer:=rfl;have O:Un (frs outer) [] H₀ H3 s₀.heap s2.heap:=I2.base;have az:a∉frs (envOfC qual scope s₀.heap.objs.size f cd::outer):=fun hm=>by
  have:=ae a hm;rw [ga] at this;cases this
 have fresh:∀b o,s₀.heap.get? b=some o->b≠a:=fun b o z e=>by
  subst e;obtain⟨o',z2⟩:=(show Un (frs outer) [] H₀ H1 s₀.heap s1.heap from I1.base).there _ o z (by simp)
  rw [h0] at z2;cases z2
 have ac:∀b o,s₀.heap.get? b=some o->b∉frs outer->b∉frs (envOfC qual scope s₀.heap.objs.size f cd::outer):=fun b o e U hm=>by
  rw [ak] at hm;rcases List.mem_cons.mp hm with rfl|hm
  ·exact absurd (ug e) (uS _)
  ·exact U hm
 have nd:∀b∈frs outer,∀o,s2.heap.get? b=some o->∀vs,o.data≠ .fields vs:=fun b U o e=>by
  obtain⟨_,o',e',hn⟩:=aj.mem (show b∈(envOfC qual scope s₀.heap.objs.size f cd::outer).filterMap (·.frame) from by rw [show(envOfC qual scope s₀.heap.objs.size f cd::outer).filterMap (·.frame)=frs (envOfC qual scope s₀.heap.objs.size f cd::outer) from rfl,ak];exact u5 _ U)
  rw [e] at e';cases e';exact hn
 refine leave_D1 (base:=TI.gone s2.heap (a::frs (envOfC qual scope s₀.heap.objs.size f cd::outer))) (L:=s₀.heap.objs.size) (dc:=some dc) (a0:= .ref t) au (Jw aj fun b U=>TI.gone_none (u5 _ U)) rfl e1 (fun b o e=>(TI.gone_some e).2) (TI.gone_none ui) rfl rfl rfl rfl fun av ag al aw=> ?_;have af:∀b o,b≠a->b∉frs (envOfC qual scope s₀.heap.objs.size f cd::outer)->s2.heap.get? b=some o->av.get? b=some o:=fun b o U hn e=>ag.1 b o (by rw [UD (fun z=>(List.mem_cons.mp z).elim U hn)];exact e)
 have Y:∀b u,H3 b=some u->b≠a->upd H1 dc (.xd [(aa,y)]) b=some u:=fun b u e U=>by rw [<-gn b U];exact e
 refine⟨a,C,.ref t,upd H1 dc (.xd [(aa,y)]),_,dc,rfl,I2.os,I2.bare,I2.tk,⟨?_,?_,?_,?_,?_,?_,?_⟩,?_,ag,?_,aw,q1 dc h2⟩
 ·intro b o e hn U hx;exact af b o (fresh b o e) (ac b o e U) (O.keep b o e hn U hx)
 ·intro b o e hn U hx;obtain⟨sl,e2⟩:=O.slot b o e hn U hx;obtain⟨am,e3⟩:=al b _ e2 (nd b U _ e2);exact⟨am,e3⟩
 ·intro b o e hn hx;rw [<-gn b (fresh b o e)];exact O.free b o e hn hx
 ·intro b o e hx;obtain⟨o',e2⟩:=O.there b o e hx;by_cases U:b∈frs outer
  ·obtain⟨am,e3⟩:=al b _ e2 (nd b U _ e2);exact⟨_,e3⟩
  ·exact⟨o',af b o' (fresh b o e) (ac b o e U) e2⟩
 ·intro b xs e;have z:=O.tups b xs e;exact Y b _ z fun q=>by rw [q,ga] at z;cases z
 ·intro b o u e;have z:=O.frzs b o u e;exact Y b _ z fun q=>by rw [q,ga] at z;cases z
 ·intro b ax e;obtain⟨more,z⟩:=O.tbls b ax e;exact⟨more,Y b _ z fun q=>by rw [q,ga] at z;cases z⟩
 ·intro b u U;have ao:b≠a:=fun z=>by rw [z,gz] at U;cases U
  have ap:H3 b=some u:=by rw [gn b ao];exact U
  refine(I2.hok b u ap).stay (fun c v hc q=> ?_) (fun c q=>Y c _ q fun z=>by rw [z,ga] at q;cases q) fun c xs q=>Y c _ q fun z=>by rw [z,ga] at q;cases q
  rw [UD]
  ·exact q
  ·intro hm;rcases List.mem_cons.mp hm with z|hm
   ·rcases hc with z'|z'
    ·exact ao (z'.symm.trans z)
    ·rw [z,ga] at z';cases z'
   ·have hn:=ae c hm;rcases hc with z|z
    ·rw [z,ap] at hn;cases hn
    ·rw [z] at hn;cases hn
 ·intro b o e U;obtain⟨o',e2⟩:=O.there b o e (by simp)
  exact⟨o',by rw [UD (fun z=>(List.mem_cons.mp z).elim (fresh b o e) (ac b o e U))];exact e2⟩
theorem Fun.ok2 {P:Program}{w:World}{K:PySem.W.Frag}{mg:Str->Option Value}{base:Heap}{x qual:Str}{st:Stmt}{f:Addr}{fd:FuncData}{N ps:List Str}{k:Nat}{sp:Sp}(F:Fun K x qual st f fd)(S:qw N ps (qj st))(len:∀vs H Q E,sp vs H Q E->vs.length=ps.length)
  (O:∀(cdv:Value) (A:Around) (outer:List Env) (s:Shared) (H:Hp) (vs:List V) (Q:VK) (E:XK),Room k (A.deeper (envOfC qual (qj st) s.heap.objs.size f cdv))->sp vs H Q E->
   ∃t,PSs (cxOf (CX2 P w) P w K mg base N qual (qj st) f cdv A outer s H E) (yf st) t/\t {nx:=fun _ H'=>Q .non H',rt:=Q} (xh N vs) H):FnOk P w K mg base (CX2 P w) (k+1) f fd ps sp:=by
 obtain⟨oc,od,kV,doc,pm,an,cdv,ct,osl,rfl,lk,U⟩:=F.ex;exact fn_of lk U S len fun A outer s H vs Q E hr Y=>O cdv A outer s H vs Q E hr Y
end L2
namespace L2
open PySem PySem.Spec PyProof.Rows Builtin Builtin.Str
theorem kind_line (z:Str):¬Builtin.Str.strKind z<Builtin.Str.strKind "\n":=by
 have h1:Builtin.Str.strKind "\n"=1:=by decide+kernel
 rw [h1];unfold Builtin.Str.strKind;split
 ·omega
 ·split<;>omega
def splL (n:Nat)(z:Str):List Str:=(cutL 10 n z.cps.toList).map ofL
theorem splL_len (n:Nat)(z:Str):(splL n z).length<=z.length+1:=by
 unfold splL;rw [u3];have:=jY 10 n z.cps.toList
 simpa [Str.length] using this
theorem line_eq:("\n":Str)=⟨#[10]⟩:=by decide+kernel
theorem splL_one {z:Str}{n:Nat}(hn:z.length<=n∨z.length<1∨True)(h:(occurrences z "\n" 0 z.length n).isEmpty=true)(O:n≠0):splL n z= [z]:=by
 rw [line_eq,occ_pos,List.isEmpty_iff] at h;have h1:posL 10 z.cps.toList 0= []:=by
  cases e:posL 10 z.cps.toList 0 with
  |nil=>rfl
  |cons a r=>
   rw [e] at h;obtain⟨k,rfl⟩:∃k,n=k+1:=⟨n-1,by omega⟩
   simp at h
 unfold splL;rw [yV (J5 h1)];simp [Qu]
section
variable {X:Cx}
def rSplitL:V->List V->Hp->VK->Prop:=fun x vs H Q=>∃z,x= .str z/\vs= [.str "\n"]/\z.length<sizeLine/\∀p,H p=none->Q (.ref p) (upd H p (.lst ((splL (z.length+1) z).map V.str)))
theorem mt_splitL:MtM X "str.split" rSplitL:=by
 intro pins s σ H x vs v us Q I Y rv h;obtain⟨z,rfl,rfl,hz,q⟩:=h;obtain⟨t,rfl⟩:=Y;obtain⟨u,rfl,t',rfl⟩:=rv.one;have O:z.length<=sizeLine:=by omega
 have one:splL (z.length+1) z= [z]->∀(T:Nat),0<T->EP X pins σ Q (.ref s.heap.objs.size) {s with heap:=s.heap.push {cls:= .type "list",data:= .seq [Value.str z t].toArray},toks:=T}:=fun e T hT=>by
  rw [e] at q;exact Yp (ys:= [V.str z]) I (.cons (show RelV (V.str z) _ from⟨t,rfl⟩) .nil) (by show 1<=sizeLine;decide) q
 cases h1:(decide (z.length<("\n":Str).length)||decide (Builtin.Str.strKind z<Builtin.Str.strKind "\n")) with
 |true=>
  refine vB ve (vq _ _ _) v7 (vG _ _) (meets_str_split_cannot_occur z "\n" t t' h1) ?_;have h2:z.length<1:=by
   rw [Bool.or_eq_true] at h1;rcases h1 with h1|h1
   ·exact uj h1
   ·exact absurd (uj h1) (kind_line z)
  refine one ?_ s.toks I.tk;have e:z.cps.toList= []:=vT (by simpa [Str.length] using h2)
  unfold splL;rw [e,cutL];rw [<-Qu z,e]
  rfl
 |false=>
  cases U:(occurrences z "\n" 0 z.length (z.length+1)).isEmpty with
  |true=>
   refine vB ve (vq _ _ _) v7 (vG _ _) (meets_str_split_not_found z "\n" t t' h1 (by decide) U) ?_
   exact one (splL_one (.inr (.inr trivial)) U (by omega)) s.toks I.tk
  |false=>
   have hl:=splL_len (z.length+1) z;have e:partsBetween z (occurrences z "\n" 0 z.length (z.length+1)) ("\n":Str).length=splL (z.length+1) z:=by
    rw [line_eq];exact j7 z 10 (z.length+1)
   refine vB ve (vq _ _ _) v7 (vG _ _) (meets_str_split_sep z "\n" t t' h1 (by decide) U O (by rw [e];omega)) ?_
   rw [e];exact Yp I (jm _ _) (by rw [u3];omega) q
end
end L2
namespace L2
open PySem PySem.Spec PyProof.Rows
section
variable {P:Program}{w:World}{A:Around}{E:Value->Shared->Prop}{s:Shared}{vs:List Value}{kd:SortKind}{rk:Keyed->Nat}
structure CmpR (P:Program)(w:World)(A:Around)(s:Shared)(vs:List Value)(kd:SortKind)(rk:Keyed->Nat):Prop where
 kk:∀h',(∀b o,s.heap.get? b=some o->h'.get? b=some o)->2<=vs.length->∀(E:Value->Shared->Prop) (Q:SortKind->Shared->Prop),Q kd {s with heap:=h'}->wpAny (model P w) A (keyKind' vs.toArray) Q E {s with heap:=h'}
 by_:∀h',(∀b o,s.heap.get? b=some o->h'.get? b=some o)->ByRk P w A {s with heap:=h'} kd (vs.toArray.zip vs.toArray) rk
theorem sort_R {a:Addr}{n:Nat}{Q:Fin->Shared->Prop}{O:Heap}(hk:∀b o,s.heap.get? b=some o->O.get? b=some o)(na:s.heap.get? a=none)(c:CmpR P w A s vs kd rk)(ho:O.get? a=some (seqObj "list" vs.toArray n))(ad:vs.length<64)
  (q:∀(ys:Array Keyed),ys.Perm (vs.toArray.zip vs.toArray)->Asc rk ys vs.length->Q (.done (.ret .none)) {s with heap:=sortedHeap O a vs (ys.map (·.2))}):
  wpAny (model P w) A (Builtin.«list.sort» ⟨[.ref a],[]⟩) Q E {s with heap:=O}:=by
 rw [list_sort_plain];have hs:=uk;have ha:a<O.objs.size:=ug ho;refine wpAny_bind (listItems_at (s:={s with heap:=O}) ho rfl (wpAny_bind (listUpdate_at (s:={s with heap:=O}) ho rfl ?_ (hsz:=by simp;omega) (hsz2:=by simp))))
 obtain⟨e1,aa⟩:∃e1,(O.update a (Obj.mapSeq fun _=> #[])).get? a=some (seqObj "list" #[] e1):=⟨_,get?_update_seq ho (fun _=> #[])⟩;refine wpAny_bind (seqEpoch_at (s:={s with heap:=O.update a (Obj.mapSeq fun _=> #[])}) aa rfl (wpAny_bind (wpAny_newTuple (wpAny_bind (UB (wpAny_holding ?_) (by simp))) (by simp;omega))))
 have U:(((O.update a (Obj.mapSeq fun _=> #[])).push (seqObj "tuple" vs.toArray 0)).push (seqObj "list" #[] 0)).get? a=some (seqObj "list" #[] e1):=u4 _ (u4 _ aa);have kp:∀b o,s.heap.get? b=some o->(((O.update a (Obj.mapSeq fun _=> #[])).push (seqObj "tuple" vs.toArray 0)).push (seqObj "list" #[] 0)).get? b=some o:=fun b o e=>u4 _ (u4 _ ((uz _ _ (fun z=>by rw [z,e] at na;cases na)).trans (hk b o e)))
 show wpAny (model P w) A _ Q E {s with heap:=((O.update a (Obj.mapSeq fun _=> #[])).push (seqObj "tuple" vs.toArray 0)).push (seqObj "list" #[] 0)}
 dsimp only;have hz:(vs.toArray.zip vs.toArray).size=vs.length:=by simp
 by_cases h2:vs.toArray.size<2
 ·rw [if_pos h2,if_pos h2];refine wpAny_bind (u9 ?_);rw [StateT.run_pure];refine wpAny_bind (u9 ?_);dsimp only;refine wpAny_bind (seqEpoch_at (s:={s with heap:=_}) U rfl (wpAny_bind (listUpdate_at (s:={s with heap:=_}) U rfl ?_ (hsz:=by simp) (hsz2:=by rw [Array.size_map];show(vs.toArray.zip vs.toArray).size<=_;omega))))
  simp only [bne_self_eq_false,uC,vK];refine u9 (q _ (Array.Perm.refl _) fun i j ae hj=> ?_);have:i=j:=by simp at h2;omega
  subst this;exact Nat.le_refl _
 ·rw [if_neg h2,if_neg h2];have ac:2<=vs.length:=by simp at h2;omega
  refine wpAny_bind (c.kk _ kp ac E _ ?_);refine wpAny_bind (uJ (rk_all (kd:=kd) (c.by_ _ kp) (st:=SortSt.mk' kd (vs.toArray.zip vs.toArray) #[] 7 none) (Q:=fun _ Y=>(arrOf Y).Perm (vs.toArray.zip vs.toArray)/\failedOf Y=none/\Asc rk (arrOf Y) (vs.toArray.zip vs.toArray).size)
   ⟨Array.Perm.refl _,rfl,rfl,rfl⟩ (by omega) (by omega) fun u a1 a2 a3=>⟨a1,a2,a3⟩) ?_ fun _ _ z=>z)
  rintro⟨⟨⟩,st⟩ s' ⟨rfl,hp,hf,hA⟩;dsimp only;refine wpAny_bind (seqEpoch_at (s:={s with heap:=_}) U rfl (wpAny_bind (listUpdate_at (s:={s with heap:=_}) U rfl ?_ (hsz:=by simp) (hsz2:=by rw [Array.size_map,hp.size_eq];omega))))
  rw [hf];simp only [bne_self_eq_false,uC,vK];exact u9 (q _ hp (by rw [<-hz];exact hA))
theorem sorted_R {l:Addr}{Q:Value->Shared->Prop}(hl:s.heap.IsList l vs.toArray)(U:vs.length<64)(c:CmpR P w A.in1.in1 s vs kd rk)
  (q:∀(ys:Array Keyed),ys.Perm (vs.toArray.zip vs.toArray)->Asc rk ys vs.length->Q (.ref (s.heap.objs.size+1)) {s with heap:=sortedAll s.heap vs (ys.map (·.2))}):
  wpAny (model P w) A (call (.builtin "sorted") [.ref l]) Q E s:=by
 refine Calls.call_function_entry kind_sorted plain_sorted entry_sorted (args_sorted1 _) ?_;have hs:=uk;unfold Builtin.«sorted»;refine wpAny_bind (m:=checkCount "sorted" 1 1 _) (u9 (wpAny_bind (collect_list hl (wpAny_bind (UB ?_ (by omega))) (by omega))))
 have Y:((s.heap.push (seqObj "list" #[] 0)).update s.heap.objs.size (Obj.mapSeq (·++vs.toArray))).objs.size=s.heap.objs.size+1:=by
  rw [Heap.size_update,size_push']
 have O:(((s.heap.push (seqObj "list" #[] 0)).update s.heap.objs.size (Obj.mapSeq (·++vs.toArray))).push (seqObj "list" vs.toArray 0)).get? (s.heap.objs.size+1)=some (seqObj "list" vs.toArray 0):=by
  rw [<-Y];exact uh _ rfl
 show wpAny _ _ _ _ _ {s with heap:=((s.heap.push (seqObj "list" #[] 0)).update s.heap.objs.size (Obj.mapSeq (·++vs.toArray))).push (seqObj "list" vs.toArray 0)};rw [Y]
 refine wpAny_bind (wpAny_holding (Ux slot_list_sort ⟨_,O,rfl⟩ entry_list_sort (sort_R (s:=s) (fun b o e=> ?_) (Heap.get?_none_of_le (vH _)) c O U fun ys a1 a2=>⟨_,rfl,?_⟩) (args_list_sort _)))
 ·have hb:=ug e;refine u4 _ ((uz _ _ (vj hb)).trans (u4 _ e))
 ·exact u9 ⟨_,rfl,q ys a1 a2⟩
end
end L2
namespace L2
open PySem PyProof.Rows
section
variable {P:Program}{w:World}{A:Around}{E:Value->Shared->Prop}{s:Shared}
theorem kind_tupsS {vs:List Value}{Q:SortKind->Shared->Prop}(h:∀v∈vs,∃a its i t,v= .ref a/\IsTup s.heap a its/\its[0]? =some (.str i t))(ne:vs≠ [])(q:Q (tuples' true) s):wpAny (model P w) A (keyKind' vs.toArray) Q E s:=by
 rw [keyKind'_eq,List.mapM_toArray];have hf:=first_is;have hd:∃f:Value->Option Value,∀v∈vs,∃a its i t,v= .ref a/\IsTup s.heap a its/\its[0]? =some (.str i t)/\f v=some (.str i t):=by
  refine⟨fun v=>match v with
   | .ref a=>match s.heap.get? a with
    |some o=>match o.data with
     | .seq its _=>its[0]?
     |_=>none
    |none=>none
   |_=>none,fun v O=> ?_⟩
  obtain⟨a,its,i,t,rfl,ht,e⟩:=h v O;obtain⟨o,ho,hc,n,aa⟩:=id ht;exact⟨a,its,i,t,rfl,ht,e,by simp only [ho,aa];exact e⟩
 obtain⟨f,U⟩:=hd;refine wpAny_bind (wpAny_bind (mapM_ok (f:=f) (fun v O Q q=> ?_) (u9 ?_)))
 ·rw [hf];obtain⟨a,its,i,t,rfl,ht,e,Y⟩:=U v O;obtain⟨o,ho,hc,n,aa⟩:=id ht;refine wpAny_bind (wpAny_typeOf (T:="tuple") ⟨o,ho,hc⟩ ?_);rw [if_neg (by decide)]
  refine wpAny_bind (listItems_at ho aa ?_);rw [e];rw [Y] at q;exact u9 q
 ·have ac:((List.map f vs).toArray.all fun x=>x.isSome)=true:=by
   simp only [List.all_toArray,Uu,Ub];intro v O;obtain⟨a,its,i,t,rfl,_,_,Y⟩:=U v O;simp only [Function.comp,Y]
   rfl
  rw [if_pos ac];have ad:∃us:List Value,(List.map f vs).toArray.filterMap id=us.toArray/\us≠ []/\∀u∈us,∃i t,u= .str i t:=by
   refine⟨vs.filterMap f,?_,?_,?_⟩
   ·simp
   ·cases vs with
    |nil=>exact absurd rfl ne
    |cons v r=>
     obtain⟨a,its,i,t,_,_,_,Y⟩:=U v ui;rw [vg,Y];simp
   ·intro u hu;obtain⟨v,O,e⟩:=List.mem_filterMap.mp hu;obtain⟨a,its,i,t,_,_,_,Y⟩:=U v O;rw [Y] at e;cases e;exact⟨i,t,rfl⟩
  obtain⟨us,e1,Y,e3⟩:=ad;rw [e1];refine wpAny_bind (Ur (wpAny_bind (one_type (T:="str") (fun v O=> ?_) Y ?_)))
  ·obtain⟨i,t,rfl⟩:=e3 v O;exact vq s i t
  ·exact u9 q
theorem key_tupsS {l b:Addr}{xs ys:Array Value}{e lt:Nat->Bool}{Q:Bool->Shared->Prop}(hl:IsTup s.heap l xs)(hb:IsTup s.heap b ys)
  (he:∀j (h1:j<xs.size) (h2:j<ys.size),SeqAt.EqAt A s xs[j] ys[j] (e j)) (ht:∀j (h1:j<xs.size) (h2:j<ys.size),(∀i,i<j->e i=true)->e j=false->AwQ.LtAt A s xs[j] ys[j] (lt j))
  (h0:∀(h1:0<xs.size) (h2:0<ys.size),∃i t k u,xs[0]= .str i t/\ys[0]= .str k u/\lt 0=decide (i.cps.toList<k.cps.toList))
  (q:Q (AwQ.lexG e lt (decide (xs.size<ys.size)) 0 (min xs.size ys.size)) s):wpAny (model P w) A (keyLt' (tuples' true) (.ref l) (.ref b)) Q E s:=by
 obtain⟨o,ho,hc,n,hd⟩:=id hl;obtain⟨o2,ad,ae,n2,hd2⟩:=id hb;rw [keyLt_tups];refine wpAny_bind (listItems_at ho hd (wpAny_bind (listItems_at ad hd2 ?_)));have hZ:((xs.toList.zip ys.toList).zipIdx).length=min xs.size ys.size:=by simp
 refine wpAny_bind (wpAny_forIn_list _ (fun rest (r:Option Bool×Unit) u=>r.1=none/\u=s/\∃i,i<=min xs.size ys.size/\(∀k,k<i->e k=true)/\rest=((xs.toList.zip ys.toList).zipIdx).drop i/\Q (AwQ.lexG e lt (decide (xs.size<ys.size)) i (min xs.size ys.size-i)) s) _ ?_ ?_ _ _ ⟨rfl,rfl,0,uF _,fun _ z=>absurd z (Nat.not_lt_zero _),rfl,by simpa using q⟩)
 ·rintro⟨⟨p,q'⟩,j⟩ rest ⟨r1,r2⟩ u ⟨hr,rfl,i,_,U,Y,O⟩;have ac:i<((xs.toList.zip ys.toList).zipIdx).length:=by
   rcases uZ i ((xs.toList.zip ys.toList).zipIdx).length with z|z
   ·exact z
   ·rw [vf z] at Y;cases Y
  have hm:i<min xs.size ys.size:=hZ▸ac;have h1:i<xs.size:=by omega
  have h2:i<ys.size:=by omega
  rw [ut ac] at Y;injection Y with aa hrest
  have hp:p=xs[i]:=by have:=congrArg (·.1.1) aa;simpa using this
  have hq:q'=ys[i]:=by have:=congrArg (·.1.2) aa;simpa using this
  have hj:j=i:=by have:=congrArg (·.2) aa;simpa using this
  subst hp hq hj;obtain⟨k,hk⟩:∃k,min xs.size ys.size-j=k+1:=⟨min xs.size ys.size-j-1,by omega⟩
  rw [hk,AwQ.lexG] at O;refine wpAny_bind (he j h1 h2 P w _ _ ?_);cases c:e j with
  |true=>
   rw [c,if_pos rfl] at O;rw [if_neg (by simp)]
   refine u9 ⟨rfl,rfl,j+1,by omega,fun m af=> ?_,hrest,by rw [show min xs.size ys.size-(j+1)=k by omega];exact O⟩
   by_cases y:m=j
   ·rw [y];exact c
   ·exact U m (by omega)
  |false=>
   rw [c,if_neg (by simp)] at O
   rw [if_pos (by simp)]
   refine wpAny_bind ?_;cases j with
   |zero=>
    obtain⟨i1,t1,k1,u1,e1,e2,e3⟩:=h0 h1 h2;rw [e1,e2];refine oneLt_str ?_;rw [e3] at O;exact u9 (u9 O)
   |succ j=>
    rw [oneLt'_eq];simp only [show(true&&(j+1==0))=false by simp,uC,vK]
    exact wpAny_bind (ht (j+1) h1 h2 U c P w _ _ (v6 (u9 (u9 O))))
 ·rintro⟨r1,r2⟩ u ⟨hr,rfl,i,ag,_,Y,O⟩;cases(show r1=none from hr)
  have ah:min xs.size ys.size<=i:=by
   rcases uZ i ((xs.toList.zip ys.toList).zipIdx).length with z|z
   ·rw [ut z] at Y;cases Y
   ·exact hZ▸z
  rw [show min xs.size ys.size-i=0 by omega,AwQ.lexG] at O
  exact u9 O
end
end L2
namespace L2
open PySem PySem.Spec PyProof.Rows
def ltS (a b:Str):Bool:=decide (a.cps.toList<b.cps.toList)
theorem ltS_ord (l:List Str):OrdOn ltS l:=by
 refine⟨fun x _=>ud (List.lt_irrefl _),fun x _ y _ z _ h1 h2=>u8 (List.lt_trans (uj h1) (uj h2)),fun x _ y _ z _ h=> ?_⟩;by_cases h1:x.cps.toList<y.cps.toList
 ·exact .inl (u8 h1)
 ·exact .inr (u8 (List.lt_of_le_of_lt (List.not_lt.mp h1) (uj h)))
structure TopsOk (H:Hp)(ds:List (Str×List D×V)):Prop where
 at_:∀x∈ds,Is H (.tup (.str x.1::x.2.1)) x.2.2
 pu:∀x∈ds,puL x.2.1=true/\dpL (.str x.1::x.2.1)<=40
 nd:(ds.map (·.1)).Nodup
 me:∀x∈ds,ltL x.2.1 x.2.1=some false
section
variable {X:Cx}{pins:List (Addr×Obj)}{σ:St}{H:Hp}{s:Shared}
theorem top_at {ds:List (Str×List D×V)}{us:List Value}(I:Inv X pins σ H s)(T:TopsOk H ds)(Y:Vals (ds.map (·.2.2)) us){i:Nat}{u:Value}(e:us[i]? =some u):
  ∃x l ws its t,ds[i]? =some x/\u= .ref l/\x.1.length<=sizeLine/\IsL H x.2.1 ws/\Vals ws its/\IsTup s.heap l (Value.str x.1 t::its).toArray:=by
 have hl:us.length=ds.length:=by rw [<-Y.length,u3]
 have hi:i<ds.length:=by rw [<-hl];exact(List.getElem?_eq_some_iff.mp e).1
 have e1:=u7 hi;obtain⟨u',f1,g⟩:=Y.get (i:=i) (x:=ds[i].2.2) (by rw [um,e1];rfl)
 rw [e] at f1;cases f1;obtain⟨l,ws,e2,O,il⟩:=(show∃l us,ds[i].2.2= .ref l/\H l=some (.tup us)/\IsL H (.str ds[i].1::ds[i].2.1) us by simpa [Is] using T.at_ _ (uv hi))
 rw [e2] at g;cases g;obtain⟨w1,r1,rfl,h1,h2⟩:=il;obtain⟨rfl,hz⟩:=(show w1= .str ds[i].1/\ds[i].1.length<=sizeLine by simpa [Is] using h1)
 obtain⟨_,its,U,pl⟩:=(show qU X.prog X.w H s.heap l (.tup (.str ds[i].1::r1)) from I.hok l _ O)
 cases U with
 |cons g1 g2=>
  obtain⟨t,rfl⟩:=g1;exact⟨_,l,r1,_,t,e1,rfl,hz,h2,g2,pl⟩
theorem cmp_T {ds:List (Str×List D×V)}{us:List Value}{B:Around}(I:Inv X pins σ H s)(T:TopsOk H ds)(rv:Vals (ds.map (·.2.2)) us)(hu:B.units+40<cLine):
  ∃rk,CmpR X.prog X.w B s us (tuples' true) rk/\∀(i:Nat) (x:Str×List D×V) (u:Value),ds[i]? =some x->us[i]? =some u->rk (u,u)=rkOf ltS (ds.map (·.1)) x.1:=by
 let hd:Value->Str:=fun v=>match v with
  | .ref a=>match s.heap.get? a with
   |some o=>match o.data with
    | .seq its _=>match its[0]? with
     |some (Value.str n _)=>n
     |_=>Str.empty
    |_=>Str.empty
   |none=>Str.empty
  |_=>Str.empty
 have ad:∀(i:Nat) (x:Str×List D×V) (u:Value),ds[i]? =some x->us[i]? =some u->hd u=x.1:=fun i x u e1 O=>by
  obtain⟨x',l,ws,its,t,f1,rfl,_,_,_,o,ho,hc,n,ae⟩:=top_at I T rv O;rw [e1] at f1;cases f1;show hd (.ref l)=_;simp only [hd,ho,ae];simp
 refine⟨fun p=>rkOf ltS (ds.map (·.1)) (hd p.1),⟨fun h' k h2 E Q q=> ?_,fun h' k p hp q hq E Q h=> ?_⟩,fun i x u e1 O=>by show rkOf ltS _ (hd u)=_;rw [ad i x u e1 O]⟩
 ·have I':Inv X pins σ H {s with heap:=h',toks:=s.toks}:=I.laidM k (fun _ _ e=>e) (fun b o e1 O=>by rw [e1] at O;cases O) I.tk
  refine kind_tupsS (s:={s with heap:=h'}) (fun v hv=> ?_) (fun z=>by rw [z] at h2;simp at h2) q
  obtain⟨i,hi⟩:=List.mem_iff_getElem?.mp hv;obtain⟨x,l,ws,its,t,_,rfl,_,_,_,pl⟩:=top_at I' T rv hi;exact⟨l,_,x.1,t,rfl,pl,by simp⟩
 ·have I':Inv X pins σ H {s with heap:=h',toks:=s.toks}:=I.laidM k (fun _ _ e=>e) (fun b o e1 O=>by rw [e1] at O;cases O) I.tk
  have mem:∀p∈(us.toArray.zip us.toArray).toList,∃i,us[i]? =some p.1:=fun p hp=>by
   have af:p∈us.zip us:=by simpa using hp
   obtain⟨i,hi⟩:=List.mem_iff_getElem?.mp af;rw [vJ] at hi;exact⟨i,hi.1⟩
  obtain⟨i,hi⟩:=mem p hp;obtain⟨j,hj⟩:=mem q hq;obtain⟨p1,p2⟩:=p;obtain⟨q1,q2⟩:=q;obtain⟨x,l,ws,its,t,ex,rfl,ag,ah,ai,pl⟩:=top_at I' T rv hi;obtain⟨y,m,zs,its',t',ey,rfl,aj,ak,al,am⟩:=top_at I' T rv hj;have mx:x∈ds:=uE ex;have my:y∈ds:=uE ey;simp only [ad i x _ ex hi,ad j y _ ey hj,rk_dec (ltS_ord _) (List.mem_map.mpr ⟨x,mx,rfl⟩) (List.mem_map.mpr ⟨y,my,rfl⟩)] at h;have hb:ltL (.str x.1::x.2.1) (.str y.1::y.2.1)=some (ltS x.1 y.1):=by
   by_cases hn:x.1=y.1
   ·have ao:x=y:=by
     have e3:(ds.map (·.1))[i]? =some x.1:=by rw [um,ex];rfl
     have e4:(ds.map (·.1))[j]? =some x.1:=by rw [um,ey,hn];rfl
     have:=j5 T.nd e3 e4;subst this;rw [ex] at ey;exact uI ey
    subst ao;have:ltS x.1 x.1=false:=(ltS_ord [x.1]).irr _ (by simp)
    rw [this];simp [ltL,eqD,T.me x mx]
   ·simp [ltL,eqD,hn,ltD,ltS]
  have U:IsL H (.str x.1::x.2.1) (.str x.1::ws):=⟨_,_,rfl,by simpa [Is] using ag,ah⟩
  have Y:IsL H (.str y.1::y.2.1) (.str y.1::zs):=⟨_,_,rfl,by simpa [Is] using aj,ak⟩
  have aa:Vals (.str x.1::ws) (Value.str x.1 t::its):= .cons ⟨t,rfl⟩ ai;have ac:Vals (.str y.1::zs) (Value.str y.1 t'::its'):= .cons ⟨t',rfl⟩ al;obtain⟨c1,c2⟩:=lex_parts (B:=B) (n:=40) I' ⟨by simpa [puL,puD] using (T.pu x mx).1,(T.pu x mx).2⟩ (by simpa [puL,puD] using (T.pu y my).1) U Y aa ac (by omega) hb
  refine key_tupsS (s:={s with heap:=h'}) pl am c1 c2 (fun h1 h2=>⟨x.1,t,y.1,t',by simp,by simp,by simp [lAt,ltD]⟩) ?_
  rw [ub,ub,show(Value.str x.1 t::its).length=(D.str x.1::x.2.1).length by rw [<-aa.length,U.length],show(Value.str y.1 t'::its').length=(D.str y.1::y.2.1).length by rw [<-ac.length,Y.length],lex_ltL hb]
  exact h
theorem call_sortedT (hu:X.A.units+64<cLine):ye X (.builtin "sorted") (fun xs H Q=>∃(p:Addr) (ds:List (Str×List D×V)),xs= [.ref p]/\SqL X.K H p (ds.map (·.2.2))/\TopsOk H ds/\ds.length<64/\∀(es:List (Str×List D×V)) (q:Addr),es.Perm ds->es.Pairwise (fun a b=>ltS b.1 a.1=false)->H q=none->Q (.ref q) (upd H q (.lst (es.map (·.2.2))))):=by
 intro pins s σ H xs us Q I r h;obtain⟨p,ds,rfl,hp,T,ak,q⟩:=h;obtain⟨u,rfl,ru⟩:=yR r;cases ru;obtain⟨its,rv,pl,hz⟩:=I.list hp;have hl:its.length=ds.length:=by have:=rv.length;simpa using this.symm
 obtain⟨rk,c,ag⟩:=cmp_T (B:=X.A.in1.in1) I T rv (by rw [uA,uA];omega)
 refine sorted_R pl.isList (by omega) c fun ys aa ac=> ?_
 have ah:ys.toList.Perm (its.zip its):=by simpa using Array.perm_iff_toList_perm.mp aa
 obtain⟨zs,ad,ae⟩:=perm_lift (g:=fun z:(Str×List D×V)×Value=>((z.2,z.2):Keyed)) ah (ds.zip its) (by
  refine List.ext_getElem? fun i=> ?_;rw [um];by_cases hi:i<ds.length
  ·rw [u7 (by simp;omega),u7 (by simp;omega)]
   simp
  ·rw [List.getElem?_eq_none (by simp;omega),List.getElem?_eq_none (by simp;omega)]
   rfl)
 have mem:∀z∈zs,z.1∈ds/\RelV z.1.2.2 z.2/\rk (z.2,z.2)=rkOf ltS (ds.map (·.1)) z.1.1:=fun z hz=>by
  obtain⟨i,hi⟩:=List.mem_iff_getElem?.mp (ad.mem_iff.mp hz);rw [vJ] at hi;obtain⟨u',f1,g⟩:=rv.get (i:=i) (x:=z.1.2.2) (by rw [um,hi.1];rfl)
  rw [hi.2] at f1;cases f1;exact⟨uE hi.1,g,ag i _ _ hi.1 hi.2⟩
 have af:(zs.map (·.1)).Perm ds:=by
  have:=ad.map (·.1)
  rwa [List.map_fst_zip (by omega)] at this
 have ai:(ys.map (·.2)).toList=zs.map (·.2):=by
  rw [Array.toList_map,ae,uG]
  rfl
 have O:∀l:List ((Str×List D×V)×Value),(∀z∈l,RelV z.1.2.2 z.2)->Vals ((l.map (·.1)).map (·.2.2)) (l.map (·.2)):=by
  intro l
  induction l with
  |nil=>intro _;exact .nil
  |cons z r ih=>intro hr;exact .cons (hr z ui) (ih fun y hy=>hr y (u5 _ hy))
 have Y:(zs.map (·.1)).length=ds.length:=af.length_eq;obtain⟨e,he⟩:=sortedAll_at s.heap its (ys.map (·.2));refine⟨.ref (s.heap.objs.size+1),_,I.laid (t':=s.toks) (o:= .lst ((zs.map (·.1)).map (·.2.2))) (fun b u w=>sortedAll_old w) (vH _) ⟨?_,(ys.map (·.2)).toList,e,?_,he⟩,rfl,q _ _ af ?_ (I.hok.fresh (vH _))⟩
 ·rw [u3,Y,uk];omega
 ·rw [ai];exact O zs fun z hz=>(mem z hz).2.1
 ·rw [List.pairwise_map,List.pairwise_iff_getElem];intro i j hi hj aj;have U:∀k (hk:k<zs.length),rkAt rk ys k=rkOf ltS (ds.map (·.1)) zs[k].1.1:=fun k hk=>by
   unfold rkAt;rw [<-Array.getElem?_toList,ae,um,u7 hk];exact(mem _ (uv hk)).2.2
  have al:zs.length=its.length:=by rw [u3] at Y;omega
  have:=ac i j (vd aj) (by omega)
  rw [U i hi,U j hj] at this;exact rk_le (ltS_ord _) (List.mem_map.mpr ⟨_,(mem _ (uv hi)).1,rfl⟩) (List.mem_map.mpr ⟨_,(mem _ (uv hj)).1,rfl⟩) this
end
end L2
namespace AwZ
open PySem PyProof.Rows
open PySem.AutoSeq1 (wpAny_loadPart')
def q1L (h:Heap)(l:Addr):Heap:=h.push {cls:= .type "list_iterator",data:= .fields #[.ref l,.int 0 0]}
section
variable {prog:Program}{w:World}{A:Around}{E:Value->Shared->Prop}{s:Shared}
theorem enumtL {e j t:Addr}{i:Nat}{c:Int}{its:Array Value}{x O:Value}{Q:Value->Shared->Prop}(he:IsEnum s.heap e j c O)(gj:s.heap.IsListIter j t i)(gt:s.heap.IsList t its)(gx:its[i]? =some x)(ej:e≠j)
  (q:∀h2,IsEnumOut h2 e j (c+1) x s.heap.objs.size->h2.IsListIter j t (i+1)->h2.get? s.heap.objs.size=some {cls:= .type "tuple",data:= .seq #[.int c s.toks,x]}->h2.objs.size=s.heap.objs.size+1->
   (∀b o,b≠e->b≠j->s.heap.get? b=some o->h2.get? b=some o)->Q (.ref s.heap.objs.size) {s with heap:=h2,toks:=s.toks+1}):
  wpAny (model prog w) A (Builtin.«enumerate.__next__» ⟨[.ref e],[]⟩) (fun aa t=>∃v,aa= .done (.ret v)/\Q v t) E s:=by
 obtain⟨U,g,d,tk,os⟩:=s;show wpAny _ _ (field (.ref e) 2>>=_) _ _ _;refine wpAny_bind (vR he rfl (x:= .ref j) rfl ?_);refine wpAny_bind (wpAny_nextOf_list_item gj gt gx fun h1 j1 s1=> ?_)
 replace s1:Heap.SameBut j U h1:=s1
 have e1:IsEnum h1 e j c O:=(s1.2 e ej).trans he;show wpAny _ _ (field (.ref e) 3>>=_) _ _ ⟨h1,g,d,tk,os⟩;refine wpAny_bind (vR e1 rfl (x:=rawInt c) rfl ?_);show wpAny _ _ (field (.ref e) 4>>=_) _ _ ⟨h1,g,d,tk,os⟩;refine wpAny_bind (vR e1 rfl (x:= .none) rfl ?_);show wpAny _ _ (mkInt c>>=_) _ _ ⟨h1,g,d,tk,os⟩;refine wpAny_bind (wpAny_mkInt ?_);show wpAny _ _ (setField (.ref e) 3 (rawInt (c+1))>>=_) _ _ ⟨h1,g,d,tk+1,os⟩;refine wpAny_bind (U0 e1 (by simp) fun h2 e2 s2=> ?_)
 replace s2:Heap.SameBut e h1 h2:=s2
 replace e2:IsEnum h2 e j (c+1) O:=e2
 show wpAny _ _ (setField (.ref e) 4 .none>>=_) _ _ ⟨h2,g,d,tk+1,os⟩;refine wpAny_bind (U0 e2 (by simp) fun Y e3 s3=> ?_)
 replace s3:Heap.SameBut e h2 Y:=s3
 replace e3:IsEnum Y e j (c+1) O:=e3
 show wpAny _ _ (newTuple [.int c tk,x]>>=_) _ _ ⟨Y,g,d,tk+1,os⟩;refine wpAny_bind (wpAny_newTuple ?_);have e4:IsEnum (Y.push {cls:= .type "tuple",data:= .seq #[.int c tk,x]}) e j (c+1) O:=u4 _ e3;generalize hg:Y.push {cls:= .type "tuple",data:= .seq #[.int c tk,x]}=h4 at e4;have sz:Y.objs.size=U.objs.size:=by rw [s3.1,s2.1,s1.1]
 have el:e<U.objs.size:=ug he;have t4:h4.get? U.objs.size=some {cls:= .type "tuple",data:= .seq #[.int c tk,x]}:=by rw [<-hg,<-sz];exact uh _ rfl
 have n4:h4.objs.size=U.objs.size+1:=by rw [<-hg,va,sz]
 have k4:∀b o,b≠e->b≠j->U.get? b=some o->h4.get? b=some o:=fun b o be bj y=>by
  rw [<-hg];exact u4 _ (s3.extBut b o be (s2.extBut b o be (s1.extBut b o bj y)))
 have j4:h4.IsListIter j t (i+1):=by
  obtain⟨o,y,r⟩:=j1;exact⟨o,by rw [<-hg];exact u4 _ (s3.extBut j o (uY ej) (s2.extBut j o (uY ej) y)),r⟩
 show wpAny _ _ (Builtin.SmallTypes.ownedTupleIsFree (.ref e)>>=_) _ _ ⟨h4,g,d,tk+1,os⟩;rw [sz];clear hg e3 s3 e2 s2 e1 s1 j1 sz Y h2 h1;refine wpAny_bind ?_;unfold Builtin.SmallTypes.ownedTupleIsFree;refine wpAny_bind (vR e4 rfl (x:= .none) rfl (u9 ?_));simp only [Ug];refine wpAny_bind (Ur ?_);refine wpAny_bind (vR e4 rfl (x:=O) rfl ?_);refine wpAny_bind (U0 e4 (by simp) fun h5 e5 s5=> ?_)
 replace s5:Heap.SameBut e h4 h5:=s5
 replace e5:IsEnum h5 e j (c+1) x:=e5
 show wpAny _ _ (Builtin.SmallTypes.ownedTupleHandOut (.ref e) (.ref U.objs.size)>>=_) _ _ ⟨h5,g,d,tk+1,os⟩;refine wpAny_bind ?_;unfold Builtin.SmallTypes.ownedTupleHandOut;refine wpAny_bind (U0 e5 (by simp) fun h6 e6 s6=> ?_)
 replace s6:Heap.SameBut e h5 h6:=s6
 replace e6:IsEnumOut h6 e j (c+1) x U.objs.size:=e6
 refine U0 e6 (by simp) fun h7 e7 s7=> ?_
 replace s7:Heap.SameBut e h6 h7:=s7
 replace e7:IsEnumOut h7 e j (c+1) x U.objs.size:=e7
 have up:∀b o,b≠e->h4.get? b=some o->h7.get? b=some o:=fun b o be y=>s7.extBut b o be (s6.extBut b o be (s5.extBut b o be y));refine wpAny_bind (wpAny_letGo (u9 ⟨_,rfl,q h7 e7 ?_ (up _ _ (vj el) t4) ?_ fun b o be bj y=>up b o be (k4 b o be bj y)⟩))
 ·obtain⟨o,y,r⟩:=j4;exact⟨o,up j o (uY ej) y,r⟩
 ·rw [s7.1,s6.1,s5.1,n4]
theorem enum_goL {e j t:Addr}{i:Nat}{c:Int}{its:Array Value}{x O:Value}{Q:Option Value->Shared->Prop}(U:IsEnum s.heap e j c O)(Y:s.heap.IsListIter j t i)(gt:s.heap.IsList t its)(gx:its[i]? =some x)(ej:e≠j)
  (q:∀h2,IsEnumOut h2 e j (c+1) x s.heap.objs.size->h2.IsListIter j t (i+1)->h2.get? s.heap.objs.size=some {cls:= .type "tuple",data:= .seq #[.int c s.toks,x]}->h2.objs.size=s.heap.objs.size+1->
   (∀b o,b≠e->b≠j->s.heap.get? b=some o->h2.get? b=some o)->Q (some (.ref s.heap.objs.size)) {s with heap:=h2,toks:=s.toks+1}):wpAny (model prog w) A (pyNext (.ref e)) Q E s:=by
 have te:s.TypeIs (.ref e) "enumerate":=⟨_,U,rfl⟩;unfold pyNext;exact wpAny_bind (vQ (wpAny_callSpecial?_slot (name:=Str.ofString "__next__") te U3
  (Ux U3 te F.entry_enumerate_next (enumtL U Y gt gx ej fun h2 b1 b2 b3 b4 b5=>u9 (q h2 b1 b2 b3 b4 b5)) (F.args_enumerate_next_1 _))))
theorem enum_stopL {e j t:Addr}{i:Nat}{c:Int}{its:Array Value}{O:Value}{Q:Option Value->Shared->Prop}(Y:A.handled=none)(U:IsEnum s.heap e j c O)(gj:s.heap.IsListIter j t i)(gt:s.heap.IsList t its)(gx:its[i]? =none)
  (q:∀h2,Heap.ExtBut j s.heap h2->Q none {s with heap:=h2}):wpAny (model prog w) A (pyNext (.ref e)) Q E s:=by
 have te:s.TypeIs (.ref e) "enumerate":=⟨_,U,rfl⟩;unfold pyNext;refine wpAny_bind (vQ (wpAny_callSpecial?_slot (name:=Str.ofString "__next__") te U3
  (Ux U3 te F.entry_enumerate_next ?_ (F.args_enumerate_next_1 _))))
 show wpAny _ _ (field (.ref e) 2>>=_) _ _ _;refine wpAny_bind (vR U rfl (x:= .ref j) rfl ?_);refine wpAny_bind (wpAny_nextOf_list_end Y gj gt gx fun h2 y s2 hy=> ?_);obtain⟨o,g,c⟩:=hy;refine wpAny_bind (Uy (T:="StopIteration") (b:=true) ⟨o,g,c⟩ isSubtype_stop ?_);exact u9 (q _ s2)
end
theorem enum_madeL (l:Addr)(its:Array Value)(k:Tok):Meets (Builtin.«enumerate.__new__» ⟨[.type "enumerate",.ref l],[("start",.int 1 k)]⟩) (fun _ R s=>s.heap.IsList l its/\
   R (.ok (.ret (.ref (q1L s.heap l).objs.size))) {s with heap:=(q1L s.heap l).push {cls:= .type "enumerate",data:= .fields #[.none,.bool false,.ref s.heap.objs.size,rawInt 1,.none,.none]}}):=
 .of_wp fun prog w A R s h=>by
  obtain⟨O,g,d,tk,os⟩:=s;obtain⟨U,h⟩:=h;have sub:=sub_enumerate;have h1:Heap.IsList (Shared.heap ⟨O,g,d,tk,os⟩) l its:=U
  wp_walk
  refine wpAny_stack_any fun st=>u9 ?_;split
  ·rename_i c _ _ _ _ _
   cases(c==Value.type "enumerate")
   ·wp_walk using vN h1
    exact⟨_,rfl,h⟩
   ·wp_walk using vN h1
    exact⟨_,rfl,h⟩
  ·wp_walk using vN h1
   exact⟨_,rfl,h⟩
end AwZ
namespace L2
open PySem PySem.Spec PyProof.Rows
def IteL (K:PySem.W.Frag)(a:Addr)(c:Int):It:=
 ⟨fun i H=>∃xs x,SqL K H a xs/\xs[i]? =some x,fun i H v H'=>∃p x,v= .ref p/\H p=none/\H'=upd H p (.tup [.int (c+i),x])/\∀xs,SqL K H a xs->xs[i]? =some x,fun i H=>∃xs,SqL K H a xs/\xs.length=i⟩
section
variable {X:Cx}
def tnEL (a e j:Addr)(c:Int)(k:Nat)(h:Heap):Prop:=(∃old,IsEnum h e j (c+k) old)/\h.IsListIter j a k/\e≠j
theorem turn_enumL {P:Program}{w:World}{K:PySem.W.Frag}{aa:List Expr}{cc:Nat}{tp:Pos}(a e j:Addr)(c:Int):Turn P w K (.Tuple aa cc tp) (IteL K a c) [e,j] e (tnEL a e j c) where
 mem:=by simp
 obj:=fun k h st x Y=>by
  obtain⟨⟨U,h1⟩,⟨o4,e4,c4,d4⟩,D⟩:=st;simp only [vb,vD,Ul] at Y;rcases Y with rfl|rfl
  ·exact⟨_,h1,fun v z=>by cases z⟩
  ·exact⟨o4,e4,fun v z=>by rw [d4] at z;cases z⟩
 keep:=fun k h h' st kk=>by
  obtain⟨⟨U,h1⟩,⟨o4,e4,r4⟩,D⟩:=st;exact⟨⟨U,kk e (by simp) _ h1⟩,⟨o4,kk j (by simp) _ e4,r4⟩,D⟩
 item:=by
  intro X hP hw hK O k pins s σ H E I hf st hg;subst hP hw hK;obtain⟨xs,x,ha,Y⟩:=hg;obtain⟨its,ra,pa,za⟩:=I.list ha;obtain⟨ux,af,ag⟩:=ra.get Y;obtain⟨⟨U,h1⟩,h4,D⟩:=st;have l1:=ug h1;have l4:j<s.heap.objs.size:=by obtain⟨o,e,_⟩:=h4;exact ug e
  refine AwZ.enum_goL h1 h4 pa.isList (x:=ux) (by simpa using af) D fun h' g1 g3 g5 g6 g7=> ?_
  obtain⟨I1,ac⟩:=I.handed (t':=s.toks+1) (ys:= [.int (c+k),x]) (its:= [.int (c+k) s.toks,ux]) hf (fun c O=>by
   simp only [vb,vD,Ul] at O;rcases O with rfl|rfl<;>assumption) (.cons (show RelV (V.int (c+k)) _ from⟨_,rfl⟩) (.cons ag .nil)) (by show 2<=sizeLine;decide) g5 g6 (fun c o O e=>by
    simp only [vb,vD,Ul,not_or] at O;exact g7 c o O.1 O.2 e)
  refine⟨_,rfl,wpAny_letOwnedTupleGo_enum (s:={s with heap:=h',toks:=s.toks+1}) g1 fun ad z2 s2=> ?_⟩
  have ae:∀c o,c≠e->h'.get? c=some o->ad.get? c=some o:=fun c o O e=>s2.extBut c o O e;refine⟨.ref s.heap.objs.size,_,I1.turnedL (fp:= [e]) (h':=ad) (t':=s.toks+1) (fun c o O e=>ae c o (by simpa using O) e) (fun c O=>ac c (by simp at O;simp [O])),rfl,⟨_,x,rfl,I.fresh,rfl,fun zs ah=> ?_⟩,⟨⟨ux,?_⟩,?_,D⟩,fun c O=>(ac c O).1⟩
  ·rw [I.list_inj ah ha];exact Y
  ·have e1:c+((k+1:Nat):Int)=c+(k:Int)+1:=by omega
   rw [e1];exact z2
  ·obtain⟨o,e,q⟩:=g3;exact⟨o,ae _ _ (uY D) e,q⟩
 done:=by
  intro X hP hw hK O k pins s σ H E I hf st hg;subst hP hw hK;obtain⟨xs,ha,Y⟩:=hg;obtain⟨its,ra,pa,za⟩:=I.list ha;have hl:=ra.length;obtain⟨⟨U,h1⟩,h4,D⟩:=st;refine AwZ.enum_stopL (A:=X.A) (I.ok.hd O) h1 h4 pa.isList (by simp;omega) fun h' kk=>⟨rfl,?_⟩
  exact I.turnedL (t':=s.toks) (fun c o O e=>by
   simp only [vb,vD,Ul,not_or] at O;exact kk c o O.2 e) hf
 self:=fun _ _ _ _ _ st h=>by
  obtain⟨⟨U,h1⟩,_⟩:=st;exact wpAny_pyIter_enum h1 h
def iEn1L (K:PySem.W.Frag)(te td:TE):TI:=fun σ H R=>te σ H fun x H1=>td σ H1 fun y H2=>∃a xs,x= .ref a/\y= .int 1/\SqL K H2 a xs/\(xs.length<=sizeLine->R (IteL K a 1) H2)
theorem pi_enum1L {U:List Expr}{c:Nat}{tp p pos kp:Pos}{e de:Expr}{te td:TE}(hg:Gl X "enumerate")(hm:X.mg "enumerate"=none)(he:PE X e te)(hd:PE X de td)(hs:starEach [e] X.env= [(false,eval e X.env)]:=by rfl):
  PI X (.Tuple U c tp) (.Call (.Name "enumerate" p) [e] [⟨some "start",de,kp⟩] pos) (iEn1L X.K te td):=by
 intro pins s σ H R I h;refine uO (Jj I hg hm boot_enumerate ?_);have ha:PA X [e] (tCons te tNil):=qa he qb hs;have hk:PK X [⟨some "start",de,kp⟩] (tCons td tNil):=pk_cons hd pk_nil;refine AwZ.with_kw (thn (ha pos pins s σ H (fun vs H1=>match vs with| [x]=>td σ H1 fun y H2=>∃a xs,x= .ref a/\y= .int 1/\SqL X.K H2 a xs/\(xs.length<=sizeLine->R (IteL X.K a 1) H2)|_=>False) I h) fun us s1 ⟨vs,H1,I1,r1,q1⟩=> ?_)
  (by show backTo pos (starEach [e] X.env)=_;rw [hs];rfl) (by show(backTo pos (starEach [e] X.env)).any (·.1)=false;rw [hs];rfl) (by rfl) (by rfl)
 match vs,r1,q1 with
 | [x],r1,q1=>
  refine thn (hk pos pins s1 σ H1 (fun zs H2=>match zs with| [y]=>∃a xs,x= .ref a/\y= .int 1/\SqL X.K H2 a xs/\(xs.length<=sizeLine->R (IteL X.K a 1) H2)|_=>False) I1 q1) fun ws s2 ⟨zs,H2,I2,r2,q2⟩=> ?_
  match zs,r2,q2 with
  | [y],r2,q2=>
   obtain⟨a,xs,rfl,rfl,hA,q⟩:=q2;obtain⟨u,rfl,ru⟩:=yR r1;cases ru;obtain⟨u2,rfl,t2,rfl⟩:=yR r2;obtain⟨its,ra,pa,za⟩:=I2.list hA;show wpAny _ X.A (call (.type "enumerate") [.ref a] [("start",.int 1 t2)]) _ _ s2;refine AwZ.new_kw F.called_enumerate (by decide) (AwZ.tc_enum _ _) (AwZ.nc_enum _ _) (fun obj=>AwZ.args_init_kw obj _ _) F.entry_enumerate_new (AwZ.enum_madeL a its.toArray t2) ⟨pa.isList,?_⟩
   have hz:(AwZ.q1L s2.heap a).objs.size=s2.heap.objs.size+1:=va ..;have O:IsEnum ((AwZ.q1L s2.heap a).push {cls:= .type "enumerate",data:= .fields #[.none,.bool false,.ref s2.heap.objs.size,rawInt 1,.none,.none]}) (AwZ.q1L s2.heap a).objs.size s2.heap.objs.size 1 .none:=uh _ rfl;refine⟨⟨_,O,rfl⟩,?_⟩;refine wpAny_pyIter_enum (s:={s2 with heap:=_}) O ?_
   refine⟨_,[(AwZ.q1L s2.heap a).objs.size,s2.heap.objs.size],_,_,H2,rfl,I2.kept (t':=s2.toks) (fun b o e=>u4 _ (u4 _ e)),turn_enumL a _ _ 1,⟨⟨.none,O⟩,⟨_,u4 _ (uh _ rfl),rfl,rfl⟩,fun e=>vj (Uw _) (hz.symm.trans e)⟩,fun x hx=> ?_,q za⟩;have Y:s2.heap.objs.size<=x:=by
    simp only [vb,vD,Ul] at hx;exact two_le hz hx
   exact I2.fpOk Y (I2.hok.fresh Y)
theorem passF2 {X:Cx}:yt (CX2 X.prog X.w) X E0:=fun _ _ _ _ _ _ _ h=>by
 obtain⟨_,_,_,_,_,_,_,_,_,_,_,_,_,_,_,z⟩:=h;exact False.elim z
def tFt (b:Str)(te:TE):TE:=fun σ H Q=>te σ H fun x H1=>∃w:Str,x= .str w/\w.length+b.length<=1000000/\Q (.str (w++b)) H1
theorem pe_ft {e:Expr}{te:TE}{b:Str}{U:Nat}{p2 Y pos:Pos}(he:PE X e te):PE X (.JoinedStr [.FormattedValue e (-1) none p2,.Constant (.str b) U Y] pos) (tFt b te):=by
 intro pins s σ H Q I h;have hs:=uk;refine wpAny_JoinedStr ?_;refine wpAny_FormattedValue_plain (thn (he pins _ σ H _ I h) fun v s1 ⟨x,H1,I1,r1,w,hx,hw,q⟩=> ?_);subst hx;obtain⟨t,rfl⟩:=r1;have l2:(Str.empty++w).length<=sizeLine:=by rw [vC,hs];omega
 have l3:(Str.empty++w++b).length<=sizeLine:=by rw [vC,strLen_append,hs];omega
 have O:∀s2:Shared,Inv X pins σ H1 s2->Joins (model X.prog X.w) X.A X.xe [eval (.Constant (.str b) U Y) X.env] (Str.empty++w) (fun out s₁=>out.length<=sizeLine/\EP X pins σ Q (.str out s₁.toks) {s₁ with toks:=s₁.toks+1}) s2:=fun s2 I2=>by
  refine vF (k:=U) (pos:=Y) ⟨b,_,rfl,l3,l3,⟨.str (w++b),H1,?_,⟨_,by rw [vC]⟩,q⟩⟩
  exact I2.tok _
 exact wpAny_formatField_str ⟨w,_,rfl,l2,O s1 I1⟩ ⟨w,_,rfl,l2,O _ (I1.tok _)⟩ (by rw [hs];omega)
def tRevL (K:PySem.W.Frag)(te:TE):TE:=fun σ H Q=>te σ H fun x H1=>∃a xs,x= .ref a/\SqL K H1 a xs/\∀p,H1 p=none->Q (.ref p) (upd H1 p (.lst xs.reverse))
theorem pe_revL {e:Expr}{te:TE}{pos p2:Pos}{e1:Expr}{t1:TE}(he:PE X e te)(h1:PE X e1 t1)(ht:∀σ H Q,Q (.int (-1)) H->t1 σ H Q)(O:subscripted (.Slice none none (some e1) p2) false=fun v u=>operate [v,u] (getItem v u):=by rfl):PE X (.Subscript e (.Slice none none (some e1) p2) pos) (tRevL X.K te):=by
 intro pins s σ H Q I h;refine Subscript_ (thn (he pins s σ H _ I h) fun v s1 ⟨x,H1,I1,r1,q1⟩=> ?_);refine wpAny_Slice ?_;rw [evalPart_none];refine u9 ?_;refine u9 ?_;rw [evalPart_some];refine thn (h1 pins s1 σ H1 _ I1 (ht σ H1 (fun y H2=>y= .int (-1)/\H2=H1) ⟨rfl,rfl⟩)) fun u s2 h2=> ?_;obtain⟨y,H2,I2,r2,rfl,rfl⟩:=h2;obtain⟨tk,rfl⟩:=r2;obtain⟨a,xs,rfl,hH,q⟩:=q1;cases r1;have I4:Inv X pins σ H2 {s2 with heap:=s2.heap.push {cls:= .type "slice",data:= .fields #[.none,.none,.int (-1) tk]}}:=I2.kept (t':=s2.toks) fun b ob q=>u4 _ q
 obtain⟨its,r,U,hz⟩:=I4.list hH;have Y:its.toArray.size=xs.length:=by rw [ub];exact r.length.symm
 show wpAny (model X.prog X.w) X.A (subscriptTail e (.Slice none none (some e1) p2) (.ref a) (.ref s2.heap.objs.size)) (EP X pins σ Q) X.xe {s2 with heap:=s2.heap.push {cls:= .type "slice",data:= .fields #[.none,.none,.int (-1) tk]}}
 refine tail_any (ops:= [.ref a,.ref s2.heap.objs.size]) U.isList.typeIs slot_list_getitem.lookup ?_ (by rw [O])
 refine Ue (lo:=none) (st:=some (-1)) U.isList (Heap.IsSliceOf.new ..) .none .none (.int (-1) tk) (by decide) ?_ (by rw [Y];exact hz)
 rw [PySem.W.krv_pick];refine⟨.ref _,_,I4.laid (t':=s2.toks) (o:= .lst xs.reverse) (fun b ob q=>u4 _ q) (Nat.le_refl _) ⟨by rw [List.length_reverse];exact hz,its.reverse,0,vals_rev r,uh _ rfl⟩,rfl,q _ (I4.hok.fresh (Nat.le_refl _))⟩
theorem pe_lstItems {x:Str}{o:Expr}{to:TE}{p pos apos cpos:Pos}(hc:X.calm=true)(hg:Gl X x)(hm:X.mg x=none)(hv:bootBuiltins x=some (.type "list"))(ho:PE X o to)(hn:x≠"__name__":=by decide)(ac:(x==("__debug__":Str))=false:=by decide)
  (O:attributeBase o "items" X.env (eval o X.env)=eval o X.env:=by rfl) (U:(apos.endLine==cpos.line)=true:=by rfl)
  (he:starEach [.Call (.Attribute o "items" apos) [] [] cpos] X.env=(false,eval (.Call (.Attribute o "items" apos) [] [] cpos) X.env)::starEach [] X.env:=by rfl) (ad:(backTo pos (starEach [] X.env)).any (·.1)=false:=by rfl):
  PE X (.Call (.Name x p) [.Call (.Attribute o "items" apos) [] [] cpos] [] pos) (tItems .lst to):=by
 intro pins s σ H Q I h;refine uO (Jj I hg hm hv ?_ hn ac);refine vt ?_ he ad;rw [he];show wpAny _ _ (spliced ((false,eval (.Call (.Attribute o "items" apos) [] [] cpos) X.env)::backTo pos (starEach [] X.env))) _ _ s;refine vY (xD ho I O U h ?_);rintro s1 H1 x I1 ⟨d,kvs,rfl,hd,q⟩;refine⟨d,kvs,rfl,hd,Uq ?_⟩;obtain⟨hz,lo,vs,Y,dd⟩:=Xe I1.hok hd;obtain⟨o,es,ep,ho⟩:=id dd;have ae:s1.heap.DictAt (qL X.prog X.w) d vs ep:=⟨o,es,ho⟩;have aa:(s1.heap.push {cls:= .type "dict_items",data:= .fields #[.ref d]}).IsItemsView s1.heap.objs.size d:=⟨_,uh _ rfl,rfl,rfl⟩;refine uB (n:=1) I1.tk ?_;have hsz:s1.heap.objs.size<=(s1.heap.push {cls:= .type "dict_items",data:= .fields #[.ref d]}).objs.size:=by rw [va];exact vH _
 refine PySem.W.kdx_call (s:={s1 with heap:=s1.heap.push {cls:= .type "dict_items",data:= .fields #[.ref d]}}) (knd:=qL X.prog X.w) (kvs:=vs) (ep:=ep) (I1.ok.hd hc) aa (ae.push _) (by rw [<-Y.length];exact hz) fun h' tk ah c as k1 kl k2 k3 ka htk=> ?_
 have ai:=Y.length;have k0:∀b u,s1.heap.get? b=some u->h'.get? b=some u:=fun b u e=>k1 b u (u4 _ e);have af:∀l:List Addr,Vals (l.map V.ref) (l.map Value.ref):=by
  intro l
  induction l with
  |nil=>exact .nil
  |cons a r ih=>exact .cons rfl ih
 obtain⟨H2,I2,sm,tn,ag,it⟩:=xM (h2:=h') (t:=(s1.heap.push {cls:= .type "dict_items",data:= .fields #[.ref d]}).objs.size) (o:= .lst (as.map V.ref)) (tk:=tk) I1 Y k0 k2 hsz k3 (fun a _ u e=>e) hsz (fun m=>uS _ (k3.above _ m)) ⟨_,rfl⟩ htk (fun H' _ _=>⟨by rw [u3];omega,as.map Value.ref,c,af as,by rw [<-ka];exact kl⟩)
 exact⟨.ref _,H2,I2,rfl,q _ as H2 sm tn ag it⟩
theorem pe_fldXK {K:PySem.W.Frag}{e:Expr}{f:Str}{pos:Pos}{ta:TE}(O:X.K=K)(U:PE X e ta)(Y:attributeBase e f X.env (eval e X.env)=eval e X.env):PE X (.Attribute e f pos) (tFldX K ta f):=by
 subst O;exact pe_fldX U Y
end
end L2
namespace K72
open PySem L2 PyProof.Rows
def top (i:Nat):Stmt:=PySem.Challenge.pw_askwright_k72_projects_written.main.body.getD i (.Pass ⟨0,0,0,0⟩)
abbrev yh:Stmt:=jt (top 6) 0
abbrev JI:Stmt:=top 16
abbrev YW:Stmt:=top 17
abbrev YK:Stmt:=top 18
abbrev YR:Stmt:=top 19
abbrev Ji:Stmt:=top 20
abbrev js:Stmt:=top 21
abbrev XJ:Stmt:=top 22
abbrev Jn:Stmt:=top 23
abbrev Je:Stmt:=top 25
abbrev YS:Stmt:=top 28
abbrev QQ:Stmt:=jt (top 29) 0
abbrev QL:Stmt:=jt (top 29) 1
abbrev Jy:Stmt:=top 31
abbrev J6:Stmt:=top 32
abbrev YE:Stmt:=top 33
abbrev Qm:Stmt:=jt (top 34) 0
abbrev Qg:Stmt:=jt (top 34) 1
abbrev qY:Stmt:=jt (top 34) 2
abbrev QO:Stmt:=top 36
abbrev yk:Stmt:=top 37
abbrev QX:Stmt:=top 38
abbrev yH:Stmt:=top 39
abbrev yB:Stmt:=top 41
abbrev Jh:Stmt:=top 42
abbrev jz:Stmt:=top 43
abbrev jq:Stmt:=top 44
abbrev Yk:Stmt:=top 45
abbrev Yq:Stmt:=top 46
abbrev YH:Stmt:=top 47
abbrev Yo:Stmt:=top 48
abbrev Yg:Stmt:=top 49
abbrev yI:Stmt:=top 50
abbrev YN:Stmt:=top 51
abbrev QR:Stmt:=top 52
abbrev QP:Stmt:=top 53
abbrev QS:Stmt:=top 54
abbrev yK:Stmt:=top 55
abbrev ju:Stmt:=top 57
abbrev YO:Stmt:=top 58
abbrev YM:Stmt:=top 59
abbrev s_law:Stmt:=top 60
structure Ad where
 yg:Addr
 Yu:FuncData
 f_is_text:Addr
 d_is_text:FuncData
 f_is_tree:Addr
 d_is_tree:FuncData
 ya:Addr
 Q4:FuncData
 JR:Addr
 Ja:FuncData
 y9:Addr
 Yh:FuncData
 xR:Addr
 xZ:FuncData
 Xj:Addr
 Xt:FuncData
 f_is_name:Addr
 d_is_name:FuncData
 f_is_pair:Addr
 d_is_pair:FuncData
 J0:Addr
 JT:FuncData
 yi:Addr
 Yt:FuncData
 yw:Addr
 yp:FuncData
 Jl:Addr
 JB:FuncData
 f_tree_in:Addr
 d_tree_in:FuncData
 JZ:Addr
 J9:FuncData
 Ql:Addr
 Q0:FuncData
 QW:Addr
 QV:FuncData
 QG:Addr
 QB:FuncData
 YB:Addr
 Yy:FuncData
 Qr:Addr
 Qo:FuncData
 yM:Addr
 yO:FuncData
 YX:Addr
 jl:FuncData
 YY:Addr
 jc:FuncData
 f_law_pot:Addr
 d_law_pot:FuncData
 xG:Addr
 xB:FuncData
 x9:Addr
 xN:FuncData
 xn:Addr
 xr:FuncData
 xt:Addr
 xI:FuncData
 JU:Addr
 J2:FuncData
 xY:Addr
 xo:FuncData
 jP:Addr
 jL:FuncData
 YZ:Addr
 jf:FuncData
 Jt:Addr
 JJ:FuncData
 Yv:Addr
 Yw:FuncData
 Qe:Addr
 Qd:FuncData
 YA:Addr
 YC:FuncData
 Qj:Addr
 Qi:FuncData
 xz:Addr
 xx:FuncData
 JN:Addr
 Jo:FuncData
 JC:Addr
 J1:FuncData
 f_law:Addr
 d_law:FuncData
 qB:Addr
 qm:Addr
 qN:Addr
structure Tx (K:PySem.W.Frag)(mg:Str->Option Value)(a:Ad):Prop where
 g_BadText_init:FM K a.qN "__init__" "BadText.__init__" yh ["self","row"] a.yg a.Yu
 g_is_text:FF K mg "is_text" JI ["value"] a.f_is_text a.d_is_text
 g_is_tree:FF K mg "is_tree" YW ["value"] a.f_is_tree a.d_is_tree
 g_tree_text:FF K mg "tree_text" YK ["tree"] a.ya a.Q4
 g_read_tree:FF K mg "read_tree" YR ["text"] a.JR a.Ja
 g_tree_at:FF K mg "tree_at" Ji ["text","place","depth"] a.y9 a.Yh
 g_words_at:FF K mg "words_at" js ["text","place"] a.xR a.xZ
 g_row_at:FF K mg "row_at" XJ ["text","place","depth"] a.Xj a.Xt
 g_is_name:FF K mg "is_name" Jn ["value"] a.f_is_name a.d_is_name
 g_is_pair:FF K mg "is_pair" Je ["value"] a.f_is_pair a.d_is_pair
 g_is_source:FF K mg "is_source" YS ["value"] a.J0 a.JT
 g_Project_init:FM K a.qB "__init__" "Project.__init__" QQ ["self","sources"] a.yi a.Yt
 g_Project_sources:FM K a.qB "sources" "Project.sources" QL ["self"] a.yw a.yp
 g_read_by:FF K mg "read_by" Jy ["reader","text"] a.Jl a.JB
 g_tree_in:FF K mg "tree_in" J6 ["text"] a.f_tree_in a.d_tree_in
 g_source_in:FF K mg "source_in" YE ["line"] a.JZ a.J9
 g_ProjectReader_init:FM K a.qm "__init__" "ProjectReader.__init__" Qm ["self"] a.Ql a.Q0
 g_ProjectReader_takes:FM K a.qm "takes" "ProjectReader.takes" Qg ["self","line"] a.QW a.QV
 g_ProjectReader_may_end:FM K a.qm "may_end" "ProjectReader.may_end" qY ["self"] a.QG a.QB
 g_project_text:FF K mg "project_text" QO ["project"] a.YB a.Yy
 g_read_project:FF K mg "read_project" yk ["text"] a.Qr a.Qo
 g_with_line_ends:FF K mg "with_line_ends" QX ["lines"] a.yM a.yO
 g_source_line:FF K mg "source_line" yH ["name","source"] a.YX a.jl
 g_law_cell_at:FF K mg "_law_cell_at" yB ["script","k"] a.YY a.jc
 g_law_pot:FF K mg "_law_pot" Jh ["cell","salt"] a.f_law_pot a.d_law_pot
 g_law_take:FF K mg "_law_take" jz ["pot","many"] a.xG a.xB
 g_law_word:FF K mg "_law_word" jq ["pot","names"] a.x9 a.xN
 g_law_line:FF K mg "_law_line" Yk ["pot","names","many","k"] a.xn a.xr
 g_law_rule:FF K mg "_law_rule" Yq ["pot","names"] a.xt a.xI
 g_law_maker:FF K mg "_law_maker" YH ["pot","names"] a.JU a.J2
 g_law_leaf:FF K mg "_law_leaf" Yo ["pot","names"] a.xY a.xo
 g_law_source:FF K mg "_law_source" Yg ["pot","names"] a.jP a.jL
 g_law_sources:FF K mg "_law_sources" yI ["script"] a.YZ a.jf
 g_law_signs:FF K mg "_law_signs" YN [] a.Jt a.JJ
 g_law_any_text:FF K mg "_law_any_text" QR ["pot","most"] a.Yv a.Yw
 g_law_any_tree:FF K mg "_law_any_tree" QP ["pot","deep"] a.Qe a.Qd
 g_law_any_name:FF K mg "_law_any_name" QS ["pot"] a.YA a.YC
 g_law_written:FF K mg "_law_written" yK ["tree"] a.Qj a.Qi
 g_law_many:FF K mg "_law_many" ju ["script"] a.xz a.xx
 g_law_right:FF K mg "_law_right" YO ["pairs"] a.JN a.Jo
 g_law_sixty:FF K mg "_law_sixty" YM ["cell"] a.JC a.J1
 g_law:FF K mg "law" s_law ["script"] a.f_law a.d_law
 QF:Cls K a.qB
 M_Project:Mk K a.qB a.yi
 yU:mg "Project"=some (.ref a.qB)
 yq:yY K a.qB "by_name"
 qJ:Cls K a.qm
 Jv:Mk K a.qm a.Ql
 JV:mg "ProjectReader"=some (.ref a.qm)
 qD:yY K a.qm "pairs"
 X_BadText:MkX K a.qN a.yg
 YV:mg "BadText"=some (.ref a.qN)
 ja:yY K a.qN "row"
 m_MOST_SIGNS:∃t,mg "MOST_SIGNS"=some (.int 300 t)
 m_MOST_PARTS:∃t,mg "MOST_PARTS"=some (.int 40 t)
 m_MOST_SIZE:∃t,mg "MOST_SIZE"=some (.int 600 t)
 jR:∃t,mg "MOST_DEPTH"=some (.int 12 t)
 jA:∃t,mg "MOST_NAME_SIGNS"=some (.int 24 t)
 m_LETTERS:∃t,mg "LETTERS"=some (.str "abcdefghijklmnopqrstuvwxyz" t)
 m_NAME_SIGNS:∃t,mg "NAME_SIGNS"=some (.str "abcdefghijklmnopqrstuvwxyz0123456789./" t)
 m_PERCENT:∃t,mg "PERCENT"=some (.int 37 t)
 jF:∃t,mg "MOST_NAMES"=some (.int 60 t)
 z_ord:mg "ord"=none
 yL:mg "len"=none
 qQ:mg "isinstance"=none
 z_str:mg "str"=none
 Q7:mg "tuple"=none
 z_all:mg "all"=none
 z_dict:mg "dict"=none
 z_sorted:mg "sorted"=none
 z_enumerate:mg "enumerate"=none
 yn:mg "range"=none
 z_abs:mg "abs"=none
 z_min:mg "min"=none
 z_sum:mg "sum"=none
 z_int:mg "int"=none
 z_list:mg "list"=none
theorem Jg:qw ["self","row"] ["self","row"] (qj yh):=by trivial
theorem xT:qw ["value","sign"] ["value"] (qj JI):=by trivial
theorem Qz:qw ["value","size","waiting","pair","part","depth"] ["value"] (qj YW):=by trivial
theorem yZ:qw ["tree","parts","signs"] ["tree"] (qj YK):=by trivial
theorem jK:qw ["text","got"] ["text"] (qj YR):=by trivial
theorem xw:qw ["text","place","depth","sign"] ["text","place","depth"] (qj Ji):=by trivial
theorem yA:qw ["text","place","signs"] ["text","place"] (qj js):=by trivial
theorem Ya:qw ["text","place","depth","parts","got"] ["text","place","depth"] (qj XJ):=by trivial
theorem sc_is_name:qw ["value"] ["value"] (qj Jn):=by trivial
theorem sc_is_pair:qw ["value"] ["value"] (qj Je):=by trivial
theorem sc_is_source:qw ["value"] ["value"] (qj YS):=by trivial
theorem QC:qw ["self","sources","by_name","name","source"] ["self","sources"] (qj QQ):=by trivial
theorem Y3:qw ["self"] ["self"] (qj QL):=by trivial
theorem Yn:qw ["reader","text","pieces","number","line"] ["reader","text"] (qj Jy):=by trivial
theorem sc_tree_in:qw ["text"] ["text"] (qj J6):=by trivial
theorem Yb:qw ["line","pieces","source"] ["line"] (qj YE):=by trivial
theorem Yf:qw ["self"] ["self"] (qj Qm):=by trivial
theorem QK:qw ["self","line","pair"] ["self","line"] (qj Qg):=by trivial
theorem yr:qw ["self"] ["self"] (qj qY):=by trivial
theorem JG:qw ["project"] ["project"] (qj QO):=by trivial
theorem JH:qw ["text"] ["text"] (qj yk):=by trivial
theorem jp:qw ["lines"] ["lines"] (qj QX):=by trivial
theorem xf:qw ["name","source"] ["name","source"] (qj yH):=by trivial
theorem xg:qw ["script","k"] ["script","k"] (qj yB):=by trivial
theorem Q2:qw ["cell","salt","step","big","k"] ["cell","salt"] (qj Jh):=by trivial
theorem J8:qw ["pot","many","digit"] ["pot","many"] (qj jz):=by trivial
theorem Jx:qw ["pot","names","some"] ["pot","names"] (qj jq):=by trivial
theorem Qw:qw ["pot","names","many","k","words","word","one","two","three","at"] ["pot","names","many","k"] (qj Yk):=by trivial
theorem yE:qw ["pot","names","body","many","lines"] ["pot","names"] (qj Yq):=by trivial
theorem yc:qw ["pot","names","asked","lines"] ["pot","names"] (qj YH):=by trivial
theorem j8:qw ["pot","names","kind"] ["pot","names"] (qj Yo):=by trivial
theorem jb:qw ["pot","names","kind"] ["pot","names"] (qj Yg):=by trivial
theorem Qq:qw ["script","names","pairs","k","cell"] ["script"] (qj yI):=by trivial
theorem jN:qw ["signs"] [] (qj YN):=by trivial
theorem Ye:qw ["pot","most","signs"] ["pot","most"] (qj QR):=by trivial
theorem xb:qw ["pot","deep"] ["pot","deep"] (qj QP):=by trivial
theorem Q6:qw ["pot","signs","name"] ["pot"] (qj QS):=by trivial
theorem xi:qw ["tree"] ["tree"] (qj yK):=by trivial
theorem QM:qw ["script","pairs","k","pot","kind","name"] ["script"] (qj ju):=by trivial
theorem qR:qw ["pairs","project","rows","name","source","what","text","back"] ["pairs"] (qj YO):=by trivial
theorem qS:qw ["cell","pot","rows","k","text","project","row","e"] ["cell"] (qj YM):=by trivial
theorem sc_law:qw ["script","pairs","empty"] ["script"] (qj s_law):=by trivial
structure Ga where
 bad:Addr
structure Fx (K:PySem.W.Frag)(mg:Str->Option Value)(g:Ga)(a:Ad):Prop where
 Q9:mg "BadTree"=some (.ref g.bad)
 x_BadTree:PySem.W.excIn K g.bad VE "ValueError.__new__"=true
 e_BadText:PySem.W.exmOne K (.ref a.qN) (.ref a.qN)=some true
 k_P:PySem.W.kitOne K (.ref a.qB) (.ref a.qB)=some true
 p_a:PySem.W.findIn K (.ref a.qB) "__class__"=some (some (.builtin "object.__class__"))
 p_n:PySem.W.specialIn K (.builtin "object.__class__") "__get__"=some (some (.builtin "getset_descriptor.__get__"))
 p_t:PySem.W.takesIn K (.builtin "object.__class__")=some true
 p_m:PySem.W.mroIn K a.qB (.type "object")=some true
def qV (H:Hp)(p:Addr):Prop:=∃x:Int,H p=some (.lst [.int x])/\0<=x
theorem qV.same {H H':Hp}{p:Addr}(h:qV H p)(s:Same H H'):qV H' p:=by
 obtain⟨x,e,r⟩:=h;exact⟨x,s _ _ e,r⟩
theorem qV.free {H:Hp}{p l:Addr}(h:qV H p)(n:H l=none):p≠l:=by
 obtain⟨x,e,r⟩:=h;exact qh e n
theorem qV.tk {H H':Hp}{p:Addr}(h:qV H p)(h':qV H' p)(k:Kept p H H'):Tk H H':=by
 obtain⟨x,e,_⟩:=h;obtain⟨U,O,_⟩:=h';exact k.tk e O
theorem xj {n:Nat}(h:n<=1000):n<=sizeLine:=vd (small1000 h)
theorem fits {n:Nat}(h:n<=16000000):n<=sizeLine:=by rw [uk];omega
theorem Q5 {α:Type}{xs:List α}{i:Int}{c:α}(h:atI xs i=some c):c∈xs:=by
 unfold atI at h;obtain⟨j,_,e⟩:=Option.bind_eq_some_iff.mp h;exact uE e
def sp_take:Sp:=fun vs H Q _=>∃(p:Addr) (many:Int),vs= [.ref p,.int many]/\qV H p/\0<many/\many<1073741824/\∀(d:Int) (H':Hp),0<=d->d<many->qV H' p->Kept p H H'->Q (.int d) H'
def sp_pot:Sp:=fun vs H Q _=>∃(c t:Int),vs= [.int c,.int t]/\0<=t/\t<1000/\∀(p:Addr) (H':Hp),H p=none->Same H H'->qV H' p->Q (.ref p) H'
def Q8 (z:Str):Bool:=z.cps.toList.all qT
theorem okAll_app {z y:Str}(h:Q8 z=true)(k:Q8 y=true):Q8 (z++y)=true:=by
 unfold Q8 at*;show(z.cps++y.cps).toList.all qT=true;rw [ur,uN,h,k];rfl
theorem qM (z y:Str):(z++y:Str).length=z.length+y.length:=by
 show(z.cps++y.cps).size=z.cps.size+y.cps.size;exact Array.size_append
section
variable {P:Program}{w:World}{K:PySem.W.Frag}{mg:Str->Option Value}{base:Heap}{a:Ad}{g:Ga}
theorem yl (T:Tx K mg a):FnOk P w K mg base CX0 1 a.xG a.xB ["pot","many"] sp_take:=by
 refine T.g_law_take.F.ok J8 (by trivial) (fun _ _ _ _ H _ Q E hr h=> ?_)
 obtain⟨p,many,rfl,⟨x,O,Y⟩,hm,U,k⟩:=h;refine⟨_,(@qc _ _ _ _ _ (@qx _ _ (2) _ _ _ _ J8.nd rfl (Or.inl rfl) (@qA _ _ _ _ _ _ _ _ j9 (@qP _ _ _ _ _ _ _ qZ (pv 0) qg (fun _ _=>rfl)) (pv 1)) (by trivial) (by trivial)) (@qc _ _ _ _ _ (@ps_asg _ _ _ _ _ _ (@qA _ _ _ _ _ _ _ _ op_fdiv (@qP _ _ _ _ _ _ _ qZ (pv 0) qg (fun _ _=>rfl)) (pv 1)) (@pg_sub _ _ _ _ _ _ _ (pv 0) qg set_list (by trivial)) (by trivial) (by trivial) (by trivial)) (@qd _ _ _ (@qo _ _ _ _ (pv 2))))),?_⟩
 refine⟨_,rfl,p,_,_,_,rfl,rfl,SqL.of O,rfl,_,rfl,_,_,rfl,rfl,hm,?_⟩;refine⟨_,rfl,p,_,_,_,rfl,rfl,SqL.of O,rfl,_,rfl,_,_,rfl,rfl,⟨hm,U⟩,_,rfl,p,_,_,_,rfl,rfl,O,rfl,?_⟩;refine⟨_,rfl,?_⟩;refine k _ _ (Um _ (by omega)) (U1 _ hm) ⟨x/many,qe,Int.ediv_nonneg Y (by omega)⟩ (Kept.upd _ _ _)
theorem ok_pot (T:Tx K mg a):FnOk P w K mg base CX0 1 a.f_law_pot a.d_law_pot ["cell","salt"] sp_pot:=by
 refine T.g_law_pot.F.ok Q2 (by trivial) (fun _ _ _ _ H _ Q E hr h=> ?_)
 obtain⟨c,t,rfl,h0,h1,k⟩:=h;refine⟨_,(@qc _ _ _ _ _ (@qH _ _ _ _ _ _ _ _ (@qp _ _ _ _ _ _ _ _ op_ge (@qu _ _ _ _ _ _ _ _ _ call_abs (by rfl) T.z_abs boot_abs (@qa _ _ _ _ _ (pv 0) qb (by trivial)) (by trivial) (by trivial) (by trivial) (by trivial)) (@qA _ _ _ _ _ _ _ _ op_pow qg qg) (qz _)) (@qd _ _ _ (@qo _ _ _ _ (@q9 _ _ _ _ (@qa _ _ _ _ _ (@qu _ _ _ _ _ _ _ _ _ call_abs (by rfl) T.z_abs boot_abs (@qa _ _ _ _ _ (pv 0) qb (by trivial)) (by trivial) (by trivial) (by trivial) (by trivial)) qb (by trivial))))) qq) (@qc _ _ _ _ _ (@qx _ _ (2) _ _ _ _ Q2.nd rfl (Or.inl rfl) (@qA _ _ _ _ _ _ _ _ j9 (@qA _ _ _ _ _ _ _ _ op_mul (@qA _ _ _ _ _ _ _ _ qW (@qA _ _ _ _ _ _ _ _ qW (@qA _ _ _ _ _ _ _ _ j9 (pv 0) qg) (@qA _ _ _ _ _ _ _ _ op_mul qg (pv 1))) qg) qg) qg) (by trivial) (by trivial)) (@qc _ _ _ _ _ (@qx _ _ (3) _ _ _ _ Q2.nd rfl (Or.inl rfl) qg (by trivial) (by trivial)) (@qc _ _ _ _ _ (@jG _ _ _ _ _ _ _ _ vw rfl (@Qp _ _ _ _ _ _ (by rfl) T.yn (@qa _ _ _ _ _ qg qb (by trivial)) (by trivial)) (@qG _ _ (4) _ Q2.nd rfl (Or.inl rfl) (by trivial)) (@qc _ _ _ _ _ (@qx _ _ (2) _ _ _ _ Q2.nd rfl (Or.inl rfl) (@qA _ _ _ _ _ _ _ _ j9 (@qA _ _ _ _ _ _ _ _ qW (@qA _ _ _ _ _ _ _ _ qW (@qA _ _ _ _ _ _ _ _ op_mul (pv 2) (pv 2)) (@qA _ _ _ _ _ _ _ _ op_mul qg (pv 4))) qg) qg) (by trivial) (by trivial)) (@qd _ _ _ (@qx _ _ (3) _ _ _ _ Q2.nd rfl (Or.inl rfl) (@qA _ _ _ _ _ _ _ _ qW (@qA _ _ _ _ _ _ _ _ op_mul (pv 3) qg) (pv 2)) (by trivial) (by trivial)))) (by trivial)) (@qd _ _ _ (@qo _ _ _ _ (@q9 _ _ _ _ (@qa _ _ _ _ _ (pv 3) qb (by trivial))))))))),?_⟩
 refine⟨_,rfl,_,rfl,_,_,rfl,rfl,⟨by decide,by decide,by decide⟩,_,_,rfl,rfl,_,rfl,?_⟩
 refine ite2 (fun _=> ?_) (fun _=> ?_)
 ·refine⟨_,rfl,_,rfl,(by show 1<=sizeLine;decide),fun p O=> ?_⟩
  refine k p _ O (qf O _) ⟨_,qe,?_⟩;split<;>omega
 ·refine⟨_,rfl,_,_,rfl,rfl,(by show(0:Int)<2147483647;decide),_,rfl,_,_,rfl,rfl,(.inl ⟨by decide,by decide⟩),_,_,rfl,rfl,_,_,rfl,rfl,_,_,rfl,rfl,(.inr ⟨by decide,by decide⟩),_,_,rfl,rfl,(by show(0:Int)<2147483647;decide),9,rfl,by decide,by decide,?_⟩
  let J1_:Nat->L2.St->Hp->Prop:=fun i σ H'=>∃(x b:Int) (kv:Option V),σ= [some (.int c),some (.int t),some (.int x),some (.int b),kv]/\0<=x/\x<2147483647/\0<=b/\H'=H
  refine jh (n:=9) J1_ ⟨_,_,none,rfl,Um _ (by decide),U1 _ (by decide),by decide,rfl⟩ ?_ ?_
  ·rintro i σ H' hi ⟨x,b,kv,rfl,Y,aa,hb,rfl⟩;have U:CMul x x:= .inl ⟨by omega,by omega⟩
   refine⟨_,rfl,_,rfl,_,_,rfl,rfl,U,_,rfl,_,_,rfl,rfl,(.inl ⟨by decide,by decide⟩),_,_,rfl,rfl,_,_,rfl,rfl,_,_,rfl,rfl,(by show(0:Int)<2147483629;decide),_,rfl,_,_,rfl,rfl,(.inr ⟨by decide,by decide⟩),_,rfl,_,_,rfl,rfl,?_⟩
   have q0:0<=(x*x+40692*(0+(i:Int))+3)%2147483629:=Um _ (by decide)
   have q1:(x*x+40692*(0+(i:Int))+3)%2147483629<2147483629:=U1 _ (by decide)
   exact⟨_,_,_,rfl,q0,Int.lt_trans q1 (by decide),Int.add_nonneg (Int.mul_nonneg hb (by decide)) q0,rfl⟩
  ·rintro σ H' ⟨x,b,kv,rfl,Y,aa,hb,rfl⟩;exact⟨_,rfl,(by show 1<=sizeLine;decide),fun p O=>k p _ O (qf O _) ⟨_,qe,hb⟩⟩
mutual
def lw:D->Bool
 | .str z=>Q8 z
 | .tup xs=>lwL xs
 |_=>false
def lwL:List D->Bool
 | []=>true
 |x::r=>lw x&&lwL r
end
theorem xv:∀(xs ys:List D),lwL (xs++ys)=(lwL xs&&lwL ys)
 | [],_=>by simp [lwL]
 |x::r,ys=>by simp only [Ua,lwL,xv r ys,Bool.and_assoc]
theorem okText_long {z:Str}(h:300<z.length):Qy z=false:=by
 unfold Qy;rw [ud (by omega)]
 rfl
theorem dp_row {d:D}{xs:List D}(h:d∈xs):dp d<dp (.tup xs):=by
 have:=(jg (k:=dpL xs) xs).mp (Nat.le_refl _) d h;simp only [dp];omega
theorem qC (z:Str):z.length=z.cps.toList.length:=by show z.cps.size=_;simp
theorem isT_short {z:Str}(h:Q8 z=true)(O:z.length<=300):isT (.str z)=true:=by
 have U:Qy z=true:=by
  unfold Qy;rw [u8 O,Bool.true_and];exact h
 have Y:sz (.str z)<=600:=by simp only [sz];omega
 have e2:dp (.str z)<=12:=by simp only [dp];omega
 have e3:good (.str z)=true:=by simp only [good];exact U
 unfold isT;rw [e3,u8 Y,u8 e2]
 rfl
theorem isT_dp {d:D}(h:isT d=true):dp d<=12:=by
 unfold isT at h;simp only [uH,decide_eq_true_eq] at h;exact h.2
def isTx:D->Bool
 | .str z=>Qy z
 |_=>false
def sp_is_text:Sp:=fun vs H Q _=>∃v d,vs= [v]/\Is H d v/\Q (.bl (isTx d)) H
def sp_is_tree:Sp:=fun vs H Q _=>∃v d,vs= [v]/\Is H d v/\∀H',Same H H'->Q (.bl (isT d)) H'
def pr (p:D×Nat):D:= .tup [p.1,.int (p.2:Int)]
theorem okText_bad {z:Str}{i c:Nat}(h:z.cps[i]? =some c)(O:qT c=false):Qy z=false:=by
 unfold Qy;have hm:c∈z.cps.toList:=by
  have:z.cps.toList[i]? =some c:=by simpa using h
  exact uE this
 have:z.cps.toList.all qT=false:=by
  rw [List.all_eq_false];exact⟨c,hm,by rw [O];exact uc⟩
 rw [this,Bool.and_false]
theorem ok_is_text (T:Tx K mg a):FnOk P w K mg base CX0 1 a.f_is_text a.d_is_text ["value"] sp_is_text:=by
 refine T.g_is_text.F.ok xT (by trivial) (fun _ _ _ _ H _ Q E hr h=> ?_)
 obtain⟨v,d,rfl,hv,k⟩:=h;refine⟨_,(@qc _ _ _ _ _ (@qH _ _ _ _ _ _ _ _ (@jo _ _ _ _ _ _ _ (@yo _ _ _ _ (@QU _ _ _ (@qu _ _ _ _ _ _ _ _ _ (@Qv _ _ rfl) (by rfl) T.qQ vm (@qa _ _ _ _ _ (pv 0) (@qa _ _ _ _ _ (@YQ _ _ (.ty "str") _ _ (by rfl) T.z_str boot_str rfl (by trivial) (by trivial)) qb (by trivial)) (by trivial)) (by trivial) (by trivial) (by trivial) (by trivial)) (by trivial))) (@yS _ _ _ _ (@qp _ _ _ _ _ _ _ _ op_gt (@qu _ _ _ _ _ _ _ _ _ QT (by rfl) T.yL uD (@qa _ _ _ _ _ (pv 0) qb (by trivial)) (by trivial) (by trivial) (by trivial) (by trivial)) (@XI _ _ _ _ (by rfl) T.m_MOST_SIGNS (by trivial)) (qz _)))).pt (@qd _ _ _ (@qo _ _ _ _ yW)) qq) (@qc _ _ _ _ _ (@jG _ _ _ _ _ _ _ _ vw rfl (@pi_str _ _ _ _ (pv 0)) (@qG _ _ (1) _ xT.nd rfl (Or.inl rfl) (by trivial)) (@qd _ _ _ (@qH _ _ _ _ _ _ _ _ (@jo _ _ _ _ _ _ _ (@qp _ _ _ _ _ _ _ _ op_lt_str (pv 1) qi (qz _)) (@jo _ _ _ _ _ _ _ (@qp _ _ _ _ _ _ _ _ op_gt_str (pv 1) qi (qz _)) (@yS _ _ _ _ (@qp _ _ _ _ _ _ _ _ Q1 (@qu _ _ _ _ _ _ _ _ _ call_ord (by rfl) T.z_ord boot_ord (@qa _ _ _ _ _ (pv 1) qb (by trivial)) (by trivial) (by trivial) (by trivial) (by trivial)) (@XI _ _ _ _ (by rfl) T.m_PERCENT (by trivial)) (qz _))))).pt (@qd _ _ _ (@qo _ _ _ _ yW)) qq)) (by trivial)) (@qd _ _ _ (@qo _ _ _ _ yW)))),?_⟩
 refine⟨_,rfl,v,"str",tyD d,isStr d,rfl,hv.ty,kit_str d,_,rfl,?_⟩;cases d with
 |str z=>
  obtain⟨rfl,hz⟩:=hv;refine iteF ?_;refine⟨_,rfl,z,rfl,hz,_,_,rfl,rfl,_,rfl,?_⟩;refine ite2 (fun c=> ?_) (fun c=> ?_)
  ·have c':(300:Int)<(z.length:Int):=uj c;have e:isTx (.str z)=false:=okText_long (by omega)
   rw [e] at k;exact k
  ·have c':¬(300:Int)<(z.length:Int):=fun q=>c (u8 q);refine⟨_,rfl,z,rfl,?_⟩;refine for_str (fun i σ H'=>(∃x,σ= [some (.str z),x])/\H'=H/\(z.cps.toList.take i).all qT=true) ⟨⟨_,rfl⟩,rfl,rfl⟩ ?_ ?_
   ·rintro i c σ H' hc ⟨⟨x,rfl⟩,rfl,O⟩;have bad:qT c=false->Q (.bl false) H':=fun e=>by
     have e':isTx (.str z)=false:=okText_bad hc e;rw [e'] at k;exact k
    refine⟨_,rfl,_,_,rfl,rfl,_,rfl,?_⟩;rw [show decide ((⟨#[c]⟩:Str).cps.toList<(" ":Str).cps.toList)=decide (c<32) from lt_one c 32]
    refine ite2 (fun Y=> ?_) (fun Y=> ?_)
    ·refine iteT (bad ?_);have:=uj Y;unfold qT;rw [ud (by omega)]
     rfl
    ·have aa:¬c<32:=fun q=>Y (u8 q);refine⟨_,rfl,_,_,rfl,rfl,_,rfl,?_⟩;rw [show decide (("~":Str).cps.toList<(⟨#[c]⟩:Str).cps.toList)=decide (126<c) from one_gt c 126]
     refine ite2 (fun c2=> ?_) (fun c2=> ?_)
     ·refine iteT (bad ?_);have:=uj c2;unfold qT;rw [ud (p:=c<=126) (by omega),Bool.and_false]
      rfl
     ·have ac:¬126<c:=fun q=>c2 (u8 q);refine⟨_,rfl,_,rfl,rfl,rfl,_,rfl,?_⟩;refine ite2 (fun c3=> ?_) (fun c3=> ?_)
      ·have U:c=37:=by
        have:=uj c3;have:=V.int.inj this;exact Int.ofNat.inj this
       exact bad (by subst U;rfl)
      ·have U:c≠37:=fun q=>c3 (u8 (by rw [q];rfl))
       refine⟨⟨_,rfl⟩,rfl,?_⟩;rw [vO,show z.cps.toList[i]? =some c by simpa using hc,uN,O]
       show(true&&(qT c&&true))=true;unfold qT;rw [u8 (by omega),u8 (p:=c<=126) (by omega),u8 U]
       rfl
   ·rintro σ H' ⟨⟨x,rfl⟩,rfl,O⟩;have e:isTx (.str z)=true:=by
     show Qy z=true;unfold Qy;rw [v5 (by simp)] at O
     rw [O,u8 (by omega)]
     rfl
    rw [e] at k;exact k
 |_=>exact iteT (iteT k)
theorem Y5 {α β:Type}(f:α->β)(xs:List α)(x:α):(xs++ [x]).map f=xs.map f++ [f x]:=by simp
theorem last_at {α:Type}(us:List α)(x:α):(us++ [x])[(us++ [x]).length-1]? =some x:=by simp
theorem drop_last {α:Type}(us:List α)(x:α):(us++ [x]).dropLast=us:=by simp
def Wt (v:V)(d:D)(H:Hp)(L:Addr)(m:Nat)(σ:L2.St)(H':Hp):Prop:=
 ∃(n:Nat) (w:List (D×Nat)) (ws:List V) (x3 x4 x5:Option V),σ= [some v,some (.int n),some (.ref L),x3,x4,x5]/\Same H H'/\H' L=some (.lst ws)/\IsL H' (w.map pr) ws/\G w n=isT d/\n<=600/\w.length<=1+40*n/\m=ndL (w.map (·.1))
theorem xU (T:Tx K mg a):FnOk P w K mg base CX0 2 a.f_is_tree a.d_is_tree ["value"] sp_is_tree:=by
 have O:=ok_is_text (P:=P) (w:=w) (base:=base) T;refine T.g_is_tree.F.ok Qz (by trivial) (fun _ _ _ _ H vs Q E hr h=> ?_)
 obtain⟨v,d,rfl,hv,k⟩:=h;refine⟨_,(@qc _ _ _ _ _ (@qx _ _ (1) _ _ _ _ Qz.nd rfl (Or.inl rfl) qg (by trivial) (by trivial)) (@qc _ _ _ _ _ (@qx _ _ (2) _ _ _ _ Qz.nd rfl (Or.inl rfl) (@q9 _ _ _ _ (@qa _ _ _ _ _ (@Qk _ _ _ _ _ (@qa _ _ _ _ _ (pv 0) (@qa _ _ _ _ _ qg qb (by trivial)) (by trivial))) qb (by trivial))) (by trivial) (by trivial)) (@qc _ _ _ _ _ (@Xm _ _ _ _ _ _ vw (@Xy _ _ _ (pv 2) (fun _=>rfl)) (@qc _ _ _ _ _ (@qx _ _ (3) _ _ _ _ Qz.nd rfl (Or.inl rfl) (@pe_bm0 _ _ _ _ _ _ _ _ _ uL PySem.F.slot_list_pop PySem.F.type_list_pop mt_pop (pv 2) (by trivial) (by trivial)) (by trivial) (by trivial)) (@qc _ _ _ _ _ (@qx _ _ (4) _ _ _ _ Qz.nd rfl (Or.inl rfl) (@qP _ _ _ _ _ _ _ Qn (pv 3) qg (fun _ _=>rfl)) (by trivial) (by trivial)) (@qc _ _ _ _ _ (@qx _ _ (5) _ _ _ _ Qz.nd rfl (Or.inr rfl) (@qP _ _ _ _ _ _ _ Qn (pv 3) qg (fun _ _=>rfl)) (by trivial) (by trivial)) (@qc _ _ _ _ _ (@qH _ _ _ _ _ _ _ _ (@pw_and _ _ _ _ _ _ _ (@QU _ _ _ (@qu _ _ _ _ _ _ _ _ _ (@Qv _ _ rfl) (by rfl) T.qQ vm (@qa _ _ _ _ _ (pv 4) (@qa _ _ _ _ _ (@YQ _ _ (.ty "tuple") _ _ (by rfl) T.Q7 vU rfl (by trivial) (by trivial)) qb (by trivial)) (by trivial)) (by trivial) (by trivial) (by trivial) (by trivial)) (by trivial)) (@pw_and1 _ _ _ _ (@qp _ _ _ _ _ _ _ _ op_le (@qu _ _ _ _ _ _ _ _ _ Xz (by rfl) T.yL uD (@qa _ _ _ _ _ (pv 4) qb (by trivial)) (by trivial) (by trivial) (by trivial) (by trivial)) (@XI _ _ _ _ (by rfl) T.m_MOST_PARTS (by trivial)) (qz _)))).pt (@qc _ _ _ _ _ (@ps_aug _ _ (1) _ _ _ _ _ _ Qz.nd rfl (Or.inl rfl) qg ip_add (by trivial)) (@qd _ _ _ (@yT _ _ _ _ (@QY _ _ _ _ _ _ _ _ _ _ _ _ uL PySem.F.slot_list_extend PySem.F.type_list_extend mt_extend (pv 2) (@qa _ _ _ _ _ (@ji _ _ (["below","depth"]) (1) ([5]) _ _ _ _ _ _ _ _ _ (lcsN (qj YW) ["value","size","waiting","pair","part","depth"]) rfl (@XM _ _ _ _ (pv 4)) (fun _ _ _ _ _ _=>(@qG _ _ (0) _ (show List.Nodup (["below","depth"]:List Str) by decide+kernel) rfl (Or.inl rfl) (by trivial))) (fun _ _ _ _ _ _=> @QJ _) (fun _ _ _ _ _ _=>(@Qk _ _ _ _ _ (@qa _ _ _ _ _ (pv 0) (@qa _ _ _ _ _ (@qA _ _ _ _ _ _ _ _ qW (pv 1) qg) qb (by trivial)) (by trivial)))) (by trivial)) qb (by trivial)) (by trivial) (by trivial) (by trivial) (by trivial) (by trivial)) (by trivial)))) (@qd _ _ _ (@qH _ _ _ _ _ _ _ _ (@QU _ _ _ (@qk _ _ _ _ _ _ _ _ _ _ _ _ _ _ _ _ O (hr.mono (by trivial)) (by rfl) T.g_is_text.m T.g_is_text.F.kp T.g_is_text.b .nil qy (@qa _ _ _ _ _ (pv 4) qb (by trivial)) (by trivial) (by trivial) (by trivial)) (by trivial)) (@qd _ _ _ (@ps_aug _ _ (1) _ _ _ _ _ _ Qz.nd rfl (Or.inl rfl) (@qA _ _ _ _ _ _ _ _ qW qg (@qu _ _ _ _ _ _ _ _ _ Xz (by rfl) T.yL uD (@qa _ _ _ _ _ (pv 4) qb (by trivial)) (by trivial) (by trivial) (by trivial) (by trivial))) ip_add (by trivial))) (@qd _ _ _ (@qo _ _ _ _ yW))))) (@qd _ _ _ (@qH _ _ _ _ _ _ _ _ (@jo _ _ _ _ _ _ _ (@qp _ _ _ _ _ _ _ _ op_gt (pv 5) (@XI _ _ _ _ (by rfl) T.jR (by trivial)) (qz _)) (@yS _ _ _ _ (@qp _ _ _ _ _ _ _ _ op_gt (pv 1) (@XI _ _ _ _ (by rfl) T.m_MOST_SIZE (by trivial)) (qz _)))).pt (@qd _ _ _ (@qo _ _ _ _ yW)) qq))))))) (@qd _ _ _ (@qo _ _ _ _ yW))))),?_⟩
 have no:∀{H':Hp}{w:List (D×Nat)}{n:Nat},Same H H'->G w n=isT d->G w n=false->Q (.bl false) H':=fun{H' w n} sm e1 e2=>by
  have q:=k H' sm;rw [<-e1,e2] at q;exact q
 refine⟨_,rfl,(by show 2<=sizeLine;decide),fun t1 h1=>⟨(by show 1<=sizeLine;decide),fun L hL=> ?_⟩⟩
 have s1:Same H (upd H t1 (.tup [v,.int 1])):=qf h1 _;have s2:Same H (upd (upd H t1 (.tup [v,.int 1])) L (.lst [.ref t1])):=s1.trans (qf hL _);have al:H L=none:=s1.free hL;have i1:Is (upd H t1 (.tup [v,.int 1])) (pr (d,1)) (.ref t1):=Is.new (ds:= [d,.int 1]) ⟨v,_,rfl,hv,_,_,rfl,rfl,rfl⟩ h1;refine⟨Wt v d H L,⟨_,0,[(d,1)],[.ref t1],none,none,none,rfl,s2,qe,IsL.one (i1.mono (qf hL _).tk),G_start d,by omega,by simp,rfl⟩,?_⟩
 rintro m σ H' ⟨n,w,ws,x3,x4,x5,rfl,sm,hl,hw,hG,hn,ap,rfl⟩;refine⟨_,rfl,!ws.isEmpty,.inl ⟨ws,SqL.of hl,rfl⟩,?_⟩;rcases List.eq_nil_or_concat w with rfl|⟨w',⟨e,j⟩,rfl⟩
 ·cases(show ws= [] from hw)
  refine iteF ?_;have q:=k H' sm;rw [<-hG,G_nil hn] at q;exact q
 ·rw [List.concat_eq_append] at*;rw [Y5] at hw;obtain⟨us,x,rfl,hu,hx⟩:=hw.unsnoc;have ne:(!(us++ [x]).isEmpty)=true:=by simp
  rw [ne];refine iteT ⟨fun σ' aq=>∃m',m'<ndL ((w'++ [(e,j)]).map (·.1))/\Wt v d H L m' σ' aq,fun _ _ h=>h,?_⟩;have hm:ndL ((w'++ [(e,j)]).map (·.1))=ndL (w'.map (·.1))+nd e:=by
   rw [Y5,jv];simp [ndL]
  have av:w'.length<=40*n:=by
   rw [uf,uV] at ap;omega
  have lu:=hu.length;rw [u3] at lu;refine⟨_,rfl,.inl ⟨rfl,_,SqL.of hl⟩,L,_,x,rfl,rfl,hl,last_at us x,?_⟩;rw [drop_last];have t2:Tk H' (upd H' L (.lst us)):=Tk.updL hl;have Y:Same H (upd H' L (.lst us)):=fun b o z=>by rw [ql (qh z al)];exact sm b o z
  have ah:Is (upd H' L (.lst us)) (.tup [e,.int (j:Int)]) x:=hx.mono t2;have ai:IsL (upd H' L (.lst us)) (w'.map pr) us:=hu.mono t2;have aa:upd H' L (.lst us) L=some (.lst us):=qe;generalize upd H' L (.lst us)=H2 at t2 Y ah ai aa⊢;clear t2 hl hx hu sm;refine⟨_,rfl,ix_is (i:=0) ah rfl fun y hy=> ?_⟩;refine⟨_,rfl,ix_is (i:=1) ah rfl fun y1 au=> ?_⟩;cases(show y1= .int (j:Int) from au)
  have ag:∀(n':Nat) (w2:List (D×Nat)) (ad:List V) (U:Hp),Same H U->U L=some (.lst ad)->IsL U (w2.map pr) ad->(j<=12->n'<=600->G w2 n'=isT d)->(12<j∨600<n'->isT d=false)->w2.length<=1+40*n'->ndL (w2.map (·.1))<ndL ((w'++ [(e,j)]).map (·.1))->
    ∃ae,[some v,some (V.int (n':Int)),some (V.ref L),some x,some y,some (V.int (j:Int))][5]? =some (some ae)/\∃i ac,ae=V.int i/\V.int 12=V.int ac/\∃k,V.bl (decide (ac<i))=V.bl k/\
     if k=true then if true=true then Q (.bl false) U else∃m',m'<ndL ((w'++ [(e,j)]).map (·.1))/\Wt v d H L m' [some v,some (V.int (n':Int)),some (V.ref L),some x,some y,some (V.int (j:Int))] U
     else∃am,[some v,some (V.int (n':Int)),some (V.ref L),some x,some y,some (V.int (j:Int))][1]? =some (some am)/\∃i ac,am=V.int i/\V.int 600=V.int ac/\∃k,V.bl (decide (ac<i))=V.bl k/\
      if k=true then Q (.bl false) U else∃m',m'<ndL ((w'++ [(e,j)]).map (·.1))/\Wt v d H L m' [some v,some (V.int (n':Int)),some (V.ref L),some x,some y,some (V.int (j:Int))] U:=by
   intro n' w2 ad U s3 l3 i3 g3 b3 ao m3;have bad:isT d=false->Q (.bl false) U:=fun e=>by
    have q:=k U s3;rw [e] at q;exact q
   refine⟨_,rfl,_,_,rfl,rfl,_,rfl,?_⟩;refine ite2 (fun c=>iteT (bad (b3 (.inl ?_)))) (fun c=>⟨_,rfl,_,_,rfl,rfl,_,rfl,?_⟩)
   ·have:=uj c;omega
   ·have c':¬(12:Int)<(j:Int):=fun q=>c (u8 q);refine ite2 (fun c2=>bad (b3 (.inr ?_))) (fun c2=> ?_)
    ·have:=uj c2;omega
    ·have aw:¬(600:Int)<(n':Int):=fun q=>c2 (u8 q);exact⟨_,m3,n',w2,ad,_,_,_,rfl,s3,l3,i3,g3 (by omega) (by omega),by omega,ao,rfl⟩
  refine⟨_,rfl,y,"tuple",tyD e,xc e,rfl,hy.ty,kit_tup e,_,rfl,?_⟩;cases e with
  |tup xs=>
   refine iteT ?_;obtain⟨a0,vs,rfl,af,aj⟩:=hy;have lv:=aj.length;refine⟨_,rfl,_,vs.length,rfl,.inr ⟨vs,SqT.of af,rfl⟩,_,_,rfl,rfl,_,rfl,?_⟩;refine ite2 (fun c=> ?_) (fun c=> ?_)
   ·have c':(vs.length:Int)<=40:=uj c;refine⟨_,rfl,_,_,rfl,rfl,?_⟩;refine⟨_,rfl,.inl ⟨rfl,_,SqL.of aa⟩,_,rfl,a0,vs,rfl,SqT.of af,fun ax A0 ak=> ?_⟩;refine lc_tupS (tl:= [some (.int (j:Int))]) (fun d0=> .tup [d0,.int ((j+1:Nat):Int)]) af aj (fits (by omega)) ak (fun d0 x0 U R _ s3 i3 r=> ?_) fun U ys s3 l3 i3=> ?_
    ·refine⟨_,rfl,_,rfl,_,_,rfl,rfl,(by show 2<=sizeLine;decide),fun p hp=> ?_⟩
     exact r _ _ (qf hp _) (Is.new (ds:= [d0,.int ((j+1:Nat):Int)]) ⟨x0,_,rfl,i3,_,_,rfl,rfl,rfl⟩ hp)
    ·have ly:=i3.length;rw [u3] at ly;have eA:A0≠L:=fun z=>by rw [z,aa] at ak;cases ak
     refine⟨L,A0,us,ys,rfl,rfl,s3 _ _ aa,l3,fits (by omega),?_⟩
     have t4:Tk U (upd U L (.lst (us++ys))):=Tk.updL (s3 _ _ aa);have em:(w'++xs.map fun d0=>(d0,j+1)).map pr=w'.map pr++xs.map fun d0=> .tup [d0,.int ((j+1:Nat):Int)]:=by
      rw [ue,uG];rfl
     have ef:(w'++xs.map fun d0=>(d0,j+1)).map (·.1)=w'.map (·.1)++xs:=by
      rw [ue,uG]
      congr 1
      exact List.map_id xs
     refine ag (n+1) (w'++xs.map fun d0=>(d0,j+1)) (us++ys) _ (fun b o z=>by rw [ql (qh z al)];exact s3 b o (Y b o z)) qe (by rw [em];exact((ai.mono s3.tk).mono t4).append (i3.mono t4)) (fun h1 h2=> ?_) (fun h=> ?_) ?_ ?_
     ·rw [<-hG,G_tup (by omega) h1]
     ·rw [<-hG];rcases h with h|h
      ·exact G_deep h
      ·exact G_big1 h
     ·rw [uf,u3];omega
     ·rw [ef,hm,jv];simp only [nd];omega
   ·have c':¬(vs.length:Int)<=40:=fun q=>c (u8 q);refine⟨_,rfl,_,.tup xs,rfl,(show Is _ (.tup xs) (.ref a0) from⟨a0,vs,rfl,af,aj⟩),_,rfl,?_⟩
    refine iteF ?_;refine no Y hG (G_bad ?_);simp only [good];rw [ud (by omega)]
    rfl
  |str z=>
   refine iteF ?_;obtain⟨rfl,hz⟩:=hy;refine⟨_,rfl,_,.str z,rfl,⟨rfl,hz⟩,_,rfl,?_⟩;cases ht:Qy z with
   |false=>
    have e1:isTx (.str z)=false:=ht;rw [e1];refine iteF ?_;refine no Y hG (G_bad ?_);simp only [good];exact ht
   |true=>
    have e1:isTx (.str z)=true:=ht;rw [e1];refine iteT ?_;refine⟨_,rfl,_,rfl,_,z.length,rfl,⟨hz,rfl⟩,_,_,rfl,rfl,_,_,rfl,rfl,?_⟩;have en:(n:Int)+(1+(z.length:Int))=((n+(1+z.length):Nat):Int):=by omega
    show∃ae,[some v,some (V.int ((n:Int)+(1+(z.length:Int)))),some (V.ref L),some x,some (V.str z),some (V.int (j:Int))][5]? =some (some ae)/\_;rw [en];refine ag (n+(1+z.length)) w' us _ Y aa ai (fun h1 h2=> ?_) (fun h=> ?_) (by omega) (by rw [hm];simp only [nd];omega)
    ·rw [<-hG,G_str ht h1]
    ·rw [<-hG];rcases h with h|h
     ·exact G_deep h
     ·refine G_big ?_;simp only [sz];omega
  |_=>
   refine iteF ?_;refine⟨_,rfl,_,_,rfl,hy,_,rfl,?_⟩;exact iteF (no Y hG (G_bad rfl))
def LET:Str:="abcdefghijklmnopqrstuvwxyz"
def NSG:Str:="abcdefghijklmnopqrstuvwxyz0123456789./"
def nm (z:Str):Bool:=decide (1<=(z.length:Int))&&decide ((z.length:Int)<=24)&&inS ⟨#[z.cps.getD 0 0]⟩ LET&&(z.cps.toList.map fun c=>inS ⟨#[c]⟩ NSG).all id
def isNm:D->Bool
 | .str z=>nm z
 |_=>false
def sp_name:Sp:=fun vs H Q _=>∃v d,vs= [v]/\Is H d v/\∀H',Same H H'->Q (.bl (isNm d)) H'
theorem first_at {z:Str}(h:1<=z.length):atI z.cps.toList 0=some (z.cps.getD 0 0):=by
 have h':0<z.cps.size:=h;have q:z.cps.toList[0]? =some (z.cps.getD 0 0):=by simp [Array.getD,h']
 exact JQ q
theorem allMap (z:Str):(z.cps.toList.map fun c=>V.bl (inS ⟨#[c]⟩ NSG))=(z.cps.toList.map fun c=>inS ⟨#[c]⟩ NSG).map V.bl:=by
 rw [uG]
 rfl
theorem nm_len {z:Str}(h:¬(1<=(z.length:Int)/\(z.length:Int)<=24)):nm z=false:=by
 unfold nm;by_cases h1:1<=(z.length:Int)
 ·have h2:¬(z.length:Int)<=24:=fun q=>h ⟨h1,q⟩;rw [ud h2];simp
 ·rw [ud h1];simp
theorem nm_first {z:Str}(h:inS ⟨#[z.cps.getD 0 0]⟩ LET=false):nm z=false:=by
 unfold nm;rw [h];simp
theorem nm_rest {z:Str}(h1:1<=(z.length:Int))(h2:(z.length:Int)<=24)(h:inS ⟨#[z.cps.getD 0 0]⟩ LET=true):nm z=(z.cps.toList.map fun c=>inS ⟨#[c]⟩ NSG).all id:=by
 unfold nm;rw [h,u8 h1,u8 h2];simp
theorem ok_name (T:Tx K mg a):FnOk P w K mg base CX0 1 a.f_is_name a.d_is_name ["value"] sp_name:=by
 refine T.g_is_name.F.ok sc_is_name (by trivial) (fun _ _ _ _ H _ Q E hr h=> ?_)
 obtain⟨x,d,rfl,hv,k⟩:=h;refine⟨_,(@qc _ _ _ _ _ (@qH _ _ _ _ _ _ _ _ (@jo _ _ _ _ _ _ _ (@yo _ _ _ _ (@QU _ _ _ (@qu _ _ _ _ _ _ _ _ _ (@Qv _ _ rfl) (by rfl) T.qQ vm (@qa _ _ _ _ _ (pv 0) (@qa _ _ _ _ _ (@YQ _ _ (.ty "str") _ _ (by rfl) T.z_str boot_str rfl (by trivial) (by trivial)) qb (by trivial)) (by trivial)) (by trivial) (by trivial) (by trivial) (by trivial)) (by trivial))) (@yS _ _ _ _ (@yo _ _ _ _ (@pt_chain _ _ _ _ _ _ _ _ _ _ _ _ op_le op_le qg (@qu _ _ _ _ _ _ _ _ _ QT (by rfl) T.yL uD (@qa _ _ _ _ _ (pv 0) qb (by trivial)) (by trivial) (by trivial) (by trivial) (by trivial)) (@XI _ _ _ _ (by rfl) T.jA (by trivial)) (by trivial))))).pt (@qd _ _ _ (@qo _ _ _ _ yW)) qq) (@qc _ _ _ _ _ (@qH _ _ _ _ _ _ _ _ (@qp _ _ _ _ _ _ _ _ op_notIn_str (@qP _ _ _ _ _ _ _ J3 (pv 0) qg (fun _ _=>rfl)) (@pe_gS _ _ _ _ (by rfl) T.m_LETTERS (by trivial)) (by with_unfolding_all rfl)) (@qd _ _ _ (@qo _ _ _ _ yW)) qq) (@qd _ _ _ (@qo _ _ _ _ (@qu _ _ _ _ _ _ _ _ _ (@call_allL _ rfl) (by rfl) T.z_all boot_all (@qa _ _ _ _ _ (@ji _ _ (["sign"]) (1) ([]) _ _ _ _ _ _ _ _ _ (lcs0) rfl (@pi_str _ _ _ _ (pv 0)) (fun _ _ _ _ _ _=>(@qG _ _ (0) _ (show List.Nodup (["sign"]:List Str) by decide+kernel) rfl (Or.inl rfl) (by trivial))) (fun _ _ _ _ _ _=> @QJ _) (fun _ _ _ _ _ _=>(@YT _ _ _ _ _ _ _ _ op_in_str (pv 0) (@pe_gS _ _ _ _ (by rfl) T.m_NAME_SIGNS (by trivial)) (by with_unfolding_all rfl))) (by trivial)) qb (by trivial)) (by trivial) (by trivial) (by trivial) (by trivial)))))),?_⟩
 refine⟨_,rfl,x,"str",tyD d,isStr d,rfl,hv.ty,kit_str d,_,rfl,?_⟩;cases hd:isStr d with
 |false=>
  refine iteT (iteT ?_);have:=k H (Same.refl H);have e:isNm d=false:=by cases d<;>first|rfl|simp [isStr] at hd
  rw [e] at this;exact this
 |true=>
  obtain⟨z,rfl⟩:∃z,d= .str z:=by cases d<;>simp [isStr] at hd;exact⟨_,rfl⟩
  obtain⟨rfl,U⟩:=hv;have k:∀H',Same H H'->Q (.bl (nm z)) H':=k;refine iteF ?_;refine⟨_,rfl,z,rfl,U,_,_,rfl,rfl,_,rfl,?_⟩;have stop:nm z=false->Q (.bl false) H:=fun e=>by
   have:=k H (Same.refl H);rw [e] at this;exact this
  refine ite2 (fun Y=> ?_) (fun Y=> ?_)
  ·have aa:1<=(z.length:Int):=uj Y;refine⟨_,_,rfl,rfl,_,rfl,?_⟩;by_cases O:(z.length:Int)<=24
   ·rw [u8 O];refine iteF ?_;refine⟨_,rfl,_,_,_,rfl,rfl,U,first_at (by omega),_,_,rfl,rfl,_,rfl,?_⟩
    cases e:inS ⟨#[z.cps.getD 0 0]⟩ LET with
    |false=>
     have e':(!(Builtin.Str.occurrences ("abcdefghijklmnopqrstuvwxyz":Str) ⟨#[z.cps.getD 0 0]⟩ 0 ("abcdefghijklmnopqrstuvwxyz":Str).length 1).isEmpty)=false:=e;rw [e'];refine iteT ?_;exact stop (nm_first e)
    |true=>
     have e':(!(Builtin.Str.occurrences ("abcdefghijklmnopqrstuvwxyz":Str) ⟨#[z.cps.getD 0 0]⟩ 0 ("abcdefghijklmnopqrstuvwxyz":Str).length 1).isEmpty)=true:=e;rw [e'];refine iteF ?_;refine⟨_,rfl,z,rfl,fun D hD=> ?_⟩;refine lc_str (fun c=> .bl (inS ⟨#[c]⟩ NSG)) (U) hD (fun i c H' R hc sm r=>⟨_,rfl,_,_,rfl,rfl,r⟩) fun H' sm hl=> ?_;refine⟨D,z.cps.toList.map fun c=>inS ⟨#[c]⟩ NSG,rfl,SqL.of (by rw [hl,allMap]),?_⟩
     have:=k H' sm;rw [nm_rest aa O e] at this;exact this
   ·rw [ud O];refine iteT ?_;exact stop (nm_len fun q=>O q.2)
  ·refine⟨_,rfl,?_⟩;refine iteT ?_;exact stop (nm_len fun q=>Y (u8 q.1))
def isP:D->Bool
 | .tup xs=>decide (xs.length=2)
 |_=>false
def isSrc:D->Bool
 | .tup [k,d]=>if eqD k (.str "made")=true then isNm d else(eqD k (.str "leaf")||eqD k (.str "rule"))&&isT d
 |_=>false
def okS:D->Bool
 | .tup [k,_]=>okHd k&&decide (dp k<=60)
 |_=>true
def sp_pair:Sp:=fun vs H Q _=>∃v d,vs= [v]/\Is H d v/\Q (.bl (isP d)) H
def sp_source:Sp:=fun vs H Q _=>∃v d,vs= [v]/\Is H d v/\okS d=true/\∀H',Same H H'->Q (.bl (isSrc d)) H'
def sp_cell (K:PySem.W.Frag):Sp:=fun vs H Q _=>∃(q:Addr) (ns:List Int) (k:Int),vs= [.ref q,.int k]/\0<=k/\SqL K H q (ns.map V.int)/\∀i:Int,Q (.int i) H
theorem iteB {b:Bool}{A B:Prop}(O:b=true)(h:A):if b=true then A else B:=by rw [if_pos O];exact h
theorem iteN {b:Bool}{A B:Prop}(O:b=false)(h:B):if b=true then A else B:=by rw [if_neg (by rw [O];exact uc)];exact h
theorem ok_pair (T:Tx K mg a):FnOk P w K mg base CX0 1 a.f_is_pair a.d_is_pair ["value"] sp_pair:=by
 refine T.g_is_pair.F.ok sc_is_pair (by trivial) (fun _ _ _ _ H _ Q E hr h=> ?_)
 obtain⟨v,d,rfl,U,k⟩:=h;refine⟨_,(@qd _ _ _ (@qo _ _ _ _ (@xV _ _ _ _ _ _ _ (@qu _ _ _ _ _ _ _ _ _ (@Qv _ _ rfl) (by rfl) T.qQ vm (@qa _ _ _ _ _ (pv 0) (@qa _ _ _ _ _ (@YQ _ _ (.ty "tuple") _ _ (by rfl) T.Q7 vU rfl (by trivial) (by trivial)) qb (by trivial)) (by trivial)) (by trivial) (by trivial) (by trivial) (by trivial)) (@pe_one _ _ _ _ _ (@YT _ _ _ _ _ _ _ _ Q1 (@qu _ _ _ _ _ _ _ _ _ call_lenZ (by rfl) T.yL uD (@qa _ _ _ _ _ (pv 0) qb (by trivial)) (by trivial) (by trivial) (by trivial) (by trivial)) qg (qz _)))))),?_⟩
 refine⟨_,rfl,v,"tuple",tyD d,xc d,rfl,U.ty,kit_tup d,_,rfl,?_⟩;cases Y:xc d with
 |false=>
  refine iteF ?_;have e:isP d=false:=by cases d<;>first|rfl|simp [xc] at Y
  rw [e] at k;exact k
 |true=>
  obtain⟨xs,rfl⟩:∃xs,d= .tup xs:=by cases d<;>simp [xc] at Y;exact⟨_,rfl⟩
  obtain⟨p,us,rfl,hp,O⟩:=U;have lu:=O.length;refine iteT ⟨_,rfl,.inr ⟨p,us,rfl,.inr (SqT.of hp),fun _=>⟨rfl,?_⟩⟩⟩;have e:decide (V.int (us.length:Int)=V.int 2)=isP (.tup xs):=by
   simp only [isP,vn];constructor
   ·intro h;have:=V.int.inj h;omega
   ·intro h;rw [lu,h]
    rfl
  rw [<-e] at k;exact k
theorem ok_source (T:Tx K mg a):FnOk P w K mg base CX0 3 a.J0 a.JT ["value"] sp_source:=by
 have O:=ok_pair (P:=P) (w:=w) (base:=base) T;have Yi:=ok_name (P:=P) (w:=w) (base:=base) T;have J4:=xU (P:=P) (w:=w) (base:=base) T;refine T.g_is_source.F.ok sc_is_source (by trivial) (fun _ _ _ s H _ Q E Y h=> ?_)
 obtain⟨v,d,rfl,hv,hok,k⟩:=h;refine⟨_,(@qc _ _ _ _ _ (@qH _ _ _ _ _ _ _ _ (@yo _ _ _ _ (@QU _ _ _ (@qk _ _ _ _ _ _ _ _ _ _ _ _ _ _ _ _ O (Y.mono (by trivial)) (by rfl) T.g_is_pair.m T.g_is_pair.F.kp T.g_is_pair.b .nil qy (@qa _ _ _ _ _ (pv 0) qb (by trivial)) (by trivial) (by trivial) (by trivial)) (by trivial))) (@qd _ _ _ (@qo _ _ _ _ yW)) qq) (@qc _ _ _ _ _ (@qH _ _ _ _ _ _ _ _ (@qp _ _ _ _ _ _ _ _ (@op_eqM _ Y.units) (@qP _ _ _ _ _ _ _ Qn (pv 0) qg (fun _ _=>rfl)) qi (qz _)) (@qd _ _ _ (@qo _ _ _ _ (@qk _ _ _ _ _ _ _ _ _ _ _ _ _ _ _ _ Yi (Y.mono (by trivial)) (by rfl) T.g_is_name.m T.g_is_name.F.kp T.g_is_name.b .nil qy (@qa _ _ _ _ _ (@qP _ _ _ _ _ _ _ Qn (pv 0) qg (fun _ _=>rfl)) qb (by trivial)) (by trivial) (by trivial) (by trivial)))) qq) (@qd _ _ _ (@qo _ _ _ _ (@xV _ _ _ _ _ _ _ (@YT _ _ _ _ _ _ _ _ (@op_inM _ Y.units) (@qP _ _ _ _ _ _ _ Qn (pv 0) qg (fun _ _=>rfl)) (@Qk _ _ _ _ _ (@qa _ _ _ _ _ qi (@qa _ _ _ _ _ qi qb (by trivial)) (by trivial))) (by with_unfolding_all rfl)) (@pe_one _ _ _ _ _ (@qk _ _ _ _ _ _ _ _ _ _ _ _ _ _ _ _ J4 (Y.mono (by trivial)) (by rfl) T.g_is_tree.m T.g_is_tree.F.kp T.g_is_tree.b .nil qy (@qa _ _ _ _ _ (@qP _ _ _ _ _ _ _ Qn (pv 0) qg (fun _ _=>rfl)) qb (by trivial)) (by trivial) (by trivial) (by trivial)))))))),?_⟩
 refine⟨_,rfl,v,_,rfl,hv,_,rfl,?_⟩;cases hP:isP d with
 |false=>
  refine iteT ?_;have e:isSrc d=false:=by
   cases d with
   |tup xs=>
    match xs,hP with
    | [],_=>rfl
    | [_],_=>rfl
    | [_,_],h=>simp [isP] at h
    |_::_::_::_,_=>rfl
   |_=>rfl
  have:=k H (Same.refl _);rw [e] at this;exact this
 |true=>
  refine iteF ?_;obtain⟨z,e,rfl⟩:∃z e,d= .tup [z,e]:=by
   cases d with
   |tup xs=>
    match xs,hP with
    | [],h=>simp [isP] at h
    | [_],h=>simp [isP] at h
    | [x,y],_=>exact⟨x,y,rfl⟩
    |_::_::_::_,h=>simp [isP] at h
   |_=>simp [isP] at hP
  obtain⟨p,us,rfl,hp,x1,r1,rfl,h1,x2,r2,rfl,h2,h3⟩:=id hv;cases(show r2= [] from h3)
  have U:okHd z=true/\dp z<=60:=by simpa [okS] using hok
  refine⟨_,rfl,p,_,_,_,rfl,rfl,SqT.of hp,rfl,z,"made",h1,rfl,by decide,U.1,U.2,_,rfl,?_⟩
  cases c:eqD z (.str "made") with
  |true=>
   refine iteT ⟨_,rfl,p,_,_,_,rfl,rfl,SqT.of hp,rfl,x2,e,rfl,h2,fun H' s'=> ?_⟩;have:=k H' s';simp only [isSrc,c,Ug] at this;exact this
  |false=>
   refine iteF ⟨_,rfl,p,_,_,_,rfl,rfl,SqT.of hp,rfl,(by show 2<=sizeLine;decide),fun q hq=> ?_⟩
   have s1:Same H (upd H q (.tup [.str "leaf",.str "rule"])):=qf hq _;refine⟨z,q,["leaf","rule"],h1.mono s1.tk,rfl,.inr (SqT.of qe),by decide+kernel,U.1,U.2,_,rfl,?_⟩
   have e2:(["leaf","rule"]:List Str).any (fun y=>eqD z (.str y))=(eqD z (.str "leaf")||eqD z (.str "rule")):=by simp
   rw [e2];cases c2:(eqD z (.str "leaf")||eqD z (.str "rule")) with
   |true=>
    refine iteT ⟨_,rfl,p,_,_,_,rfl,rfl,SqT.of (s1 _ _ hp),rfl,x2,e,rfl,h2.mono s1.tk,fun H' s'=> ?_⟩;have:=k H' (s1.trans s');simp only [isSrc,c,c2,Bool.true_and,uC,vK] at this;exact this
   |false=>
    refine iteF ?_;have:=k _ s1;simp only [isSrc,c,c2,Bool.false_and,uC,vK] at this;exact this
theorem ok_cell (T:Tx K mg a):FnOk P w K mg base CX0 1 a.YY a.jc ["script","k"] (sp_cell K):=by
 refine T.g_law_cell_at.F.ok xg (by trivial) (fun _ _ _ _ H _ Q E hr h=> ?_)
 obtain⟨q,ns,j,rfl,Y,O,k⟩:=h;refine⟨_,(@qc _ _ _ _ _ (@qH _ _ _ _ _ _ _ _ (@qp _ _ _ _ _ _ _ _ op_lt (pv 1) (@qu _ _ _ _ _ _ _ _ _ qI (by rfl) T.yL uD (@qa _ _ _ _ _ (pv 0) qb (by trivial)) (by trivial) (by trivial) (by trivial) (by trivial)) (qz _)) (@qd _ _ _ (@qo _ _ _ _ (@qP _ _ _ _ _ _ _ qZ (pv 0) (pv 1) (fun _ _=>rfl)))) qq) (@qd _ _ _ (@qo _ _ _ _ qg))),?_⟩
 refine⟨_,rfl,_,rfl,q,_,rfl,.inl O,_,_,rfl,rfl,_,rfl,?_⟩;refine ite2 (fun c=> ?_) (fun c=> ?_)
 ·have c':j<((ns.map V.int).length:Int):=uj c;obtain⟨v,U⟩:=QA Y c';obtain⟨i,_,rfl⟩:=List.mem_map.mp (Q5 U);exact⟨_,rfl,_,rfl,q,_,_,_,rfl,rfl,O,U,k _⟩
 ·exact k 0
def swp (c:Nat)(t l:List Nat):List Nat:=l.flatMap fun k=>if k=c then t else [k]
theorem Xv {c:Nat}{t:List Nat}:∀{l:List Nat},c∉l->swp c t l=l
 | [],_=>rfl
 |k::r,h=>by
  have h1:k≠c:=fun e=>h (by simp [e])
  have O:swp c t r=r:=Xv fun m=>h (by simp [m])
  unfold swp at*;rw [List.flatMap_cons,if_neg h1,O]
  rfl
theorem swp_app (c:Nat)(t a b:List Nat):swp c t (a++b)=swp c t a++swp c t b:=List.flatMap_append
theorem swp_join (c:Nat)(t:Str):∀O:List Str,(∀p∈O,c∉p.cps.toList)->swp c t.cps.toList (Str.join ⟨#[c]⟩ O).cps.toList=(Str.join t O).cps.toList
 | [],_=>rfl
 | [p],h=>Xv (h p (by simp))
 |p::q::r,h=>by
  have U:=swp_join c t (q::r) fun a ha=>h a (u5 _ ha);have Y:(Str.join ⟨#[c]⟩ (p::q::r)).cps.toList=p.cps.toList++([c]++(Str.join ⟨#[c]⟩ (q::r)).cps.toList):=by
   show(p++⟨#[c]⟩++Str.join ⟨#[c]⟩ (q::r)).cps.toList=_;simp only [uP,ur,uq]
  have e2:(Str.join t (p::q::r)).cps.toList=p.cps.toList++(t.cps.toList++(Str.join t (q::r)).cps.toList):=by
   show(p++t++Str.join t (q::r)).cps.toList=_;simp only [uP,ur,uq]
  have e3:swp c t.cps.toList [c]=t.cps.toList:=by simp [swp]
  rw [Y,e2,swp_app,swp_app,U,e3,Xv (h p (by simp))]
theorem Xs (x t:Str)(c:Nat):(Txt.replace x ⟨#[c]⟩ t).cps.toList=swp c t.cps.toList x.cps.toList:=by
 rw [StrLaws.replace_one,<-swp_join c t _ (StrLaws.split_free x c),StrLaws.join_split]
def esc (l:List Nat):List Nat:=l.flatMap fun k=>if k=92 then [92,92] else if k=34 then [92,34] else [k]
theorem swp_swp:∀l:List Nat,swp 34 [92,34] (swp 92 [92,92] l)=esc l
 | []=>rfl
 |k::r=>by
  have O:=swp_swp r;have U:swp 92 [92,92] (k::r)=(if k=92 then [92,92] else [k])++swp 92 [92,92] r:=rfl
  have Y:esc (k::r)=(if k=92 then [92,92] else if k=34 then [92,34] else [k])++esc r:=rfl
  rw [U,Y,swp_app,O]
  congr 1
  by_cases h:k=92
  ·subst h;rfl
  ·by_cases h2:k=34
   ·subst h2;rfl
   ·simp [swp,h,h2]
def bs1 (z:Str):Str:=Txt.replace z "\\" "\\\\"
def bs2 (z:Str):Str:=Txt.replace (bs1 z) "\"" "\\\""
theorem bs2_cps (z:Str):(bs2 z).cps.toList=esc z.cps.toList:=by
 have O:(bs1 z).cps.toList=swp 92 [92,92] z.cps.toList:=Xs z "\\\\" 92;have U:(bs2 z).cps.toList=swp 34 [92,34] (bs1 z).cps.toList:=Xs (bs1 z) "\\\"" 34;rw [U,O,swp_swp]
theorem swp_len (c a b:Nat):∀l:List Nat,(swp c [a,b] l).length<=2*l.length
 | []=>by simp [swp]
 |k::r=>by
  have U:=swp_len c a b r;have O:swp c [a,b] (k::r)=(if k=c then [a,b] else [k])++swp c [a,b] r:=rfl
  rw [O,uf,ul];split<;>simp<;>omega
theorem esc_len:∀l:List Nat,(esc l).length<=2*l.length
 | []=>by simp [esc]
 |k::r=>by
  have U:=esc_len r;have O:esc (k::r)=(if k=92 then [92,92] else if k=34 then [92,34] else [k])++esc r:=rfl
  rw [O,uf,ul];split
  ·simp;omega
  ·split<;>simp<;>omega
theorem bs1_len (z:Str):(bs1 z).length<=2*z.length:=by
 have O:(bs1 z).cps.toList=swp 92 [92,92] z.cps.toList:=Xs z "\\\\" 92;rw [qC,qC z,O];exact swp_len _ _ _ _
theorem bs2_len (z:Str):(bs2 z).length<=2*z.length:=by
 rw [qC,qC z,bs2_cps];exact esc_len _
theorem esc_inj:∀(z y s t:List Nat),esc z++34::s=esc y++34::t->z=y/\s=t
 | [],[],s,t,h=>by simpa [esc] using h
 | [],j::q,s,t,h=>by
  exfalso;have e1:esc (j::q)=(if j=92 then [92,92] else if j=34 then [92,34] else [j])++esc q:=rfl
  rw [e1] at h;by_cases h1:j=92
  ·simp [esc,h1] at h
  ·by_cases h2:j=34
   ·simp [esc,h2] at h
   ·simp [esc,h1,h2] at h;exact h2 h.1.symm
 |k::r,[],s,t,h=>by
  exfalso;have e1:esc (k::r)=(if k=92 then [92,92] else if k=34 then [92,34] else [k])++esc r:=rfl
  rw [e1] at h;by_cases h1:k=92
  ·simp [esc,h1] at h
  ·by_cases h2:k=34
   ·simp [esc,h2] at h
   ·simp [esc,h1,h2] at h
 |k::r,j::q,s,t,h=>by
  have e1:esc (k::r)=(if k=92 then [92,92] else if k=34 then [92,34] else [k])++esc r:=rfl
  have e2:esc (j::q)=(if j=92 then [92,92] else if j=34 then [92,34] else [j])++esc q:=rfl
  rw [e1,e2,uq,uq] at h;have Y:k=j->esc r++34::s=esc q++34::t->k::r=j::q/\s=t:=fun a b=>by
   obtain⟨c,d⟩:=esc_inj r q s t b;exact⟨by rw [a,c],d⟩
  by_cases h1:k=92
  ·by_cases O:j=92
   ·rw [if_pos h1,if_pos O] at h;exact Y (h1.trans O.symm) (vS h)
   ·exfalso;rw [if_pos h1,if_neg O] at h;by_cases U:j=34
    ·rw [if_pos U] at h;simp at h
    ·rw [if_neg U] at h;simp at h;exact O h.1.symm
  ·rw [if_neg h1] at h;by_cases h2:k=34
   ·rw [if_pos h2] at h;by_cases O:j=92
    ·exfalso;rw [if_pos O] at h;simp at h
    ·rw [if_neg O] at h;by_cases U:j=34
     ·rw [if_pos U] at h;exact Y (h2.trans U.symm) (vS h)
     ·exfalso;rw [if_neg U] at h;simp at h;exact O h.1.symm
   ·rw [if_neg h2] at h;by_cases O:j=92
    ·exfalso;rw [if_pos O] at h;simp at h;exact h1 h.1
    ·rw [if_neg O] at h;by_cases U:j=34
     ·exfalso;rw [if_pos U] at h;simp at h;exact h1 h.1
     ·rw [if_neg U] at h;have h':k=j/\esc r++34::s=esc q++34::t:=by simpa using h
      exact Y h'.1 h'.2
mutual
def sh:D->Bool
 | .str _=>true
 | .tup xs=>shL xs
 |_=>false
def shL:List D->Bool
 | []=>true
 |x::r=>sh x&&shL r
end
mutual
theorem lw_sh:∀{d:D},lw d=true->sh d=true
 | .str z,_=>by simp [sh]
 | .tup xs,h=>by
  have:=lwL_sh (xs:=xs) (by simpa [lw] using h)
  simpa [sh] using this
 | .non,h=>by simp [lw] at h
 | .bl _,h=>by simp [lw] at h
 | .int _,h=>by simp [lw] at h
 | .lst,h=>by simp [lw] at h
 | .dct,h=>by simp [lw] at h
theorem lwL_sh:∀{xs:List D},lwL xs=true->shL xs=true
 | [],_=>by simp [shL]
 |x::r,h=>by
  have h':lw x=true/\lwL r=true:=by simpa [lwL] using h
  simp [shL,lw_sh h'.1,lwL_sh h'.2]
end
theorem Jr:∀{xs:List D}{x:D},shL xs=true->x∈xs->sh x=true
 | [],_,_,h=>nomatch h
 |y::r,x,h,hx=>by
  have h':sh y=true/\shL r=true:=by simpa [shL] using h
  rcases List.mem_cons.mp hx with rfl|hx
  ·exact h'.1
  ·exact Jr h'.2 hx
mutual
def txt:D->Str
 | .str z=>"\""++bs2 z++"\""
 | .tup xs=>"("++Str.join " " (txtL xs)++")"
 |_=>""
def txtL:List D->List Str
 | []=> []
 |x::r=>txt x::txtL r
end
theorem jd:∀xs:List D,txtL xs=xs.map txt
 | []=>by simp [txtL]
 |x::r=>by simp only [txtL,ua,jd r]
def jn (xs:List D):List Nat:=(Str.join " " (txtL xs)).cps.toList
def tl (xs:List D):List Nat:=match xs with| []=> []|_::_=>32::jn xs
theorem yC (x:D)(r:List D):jn (x::r)=(txt x).cps.toList++tl r:=by
 cases r with
 |nil=>simp [jn,tl,txtL];rfl
 |cons y q=>
  unfold jn tl;simp only [txtL];show(txt x++" "++Str.join " " (txt y::txtL q)).cps.toList=_;simp only [uP,ur,uq]
  rfl
theorem yb (z:Str):(txt (.str z)).cps.toList=34::(esc z.cps.toList++ [34]):=by
 simp only [txt,uP,ur,bs2_cps]
 rfl
theorem QZ (xs:List D):(txt (.tup xs)).cps.toList=40::(jn xs++ [41]):=by
 simp only [txt,uP,ur]
 rfl
theorem txt_head {d:D}(h:sh d=true):∃c r,(txt d).cps.toList=c::r/\(c=34∨c=40):=by
 cases d with
 |str z=>exact⟨_,_,yb z,.inl rfl⟩
 |tup xs=>exact⟨_,_,QZ xs,.inr rfl⟩
 |_=>simp [sh] at h
mutual
theorem txt_inj:∀(d e:D) (s t:List Nat),sh d=true->sh e=true->(txt d).cps.toList++s=(txt e).cps.toList++t->d=e/\s=t
 | .str z,e,s,t,_,he,h=>by
  cases e with
  |str y=>
   rw [yb,yb] at h;have h':esc z.cps.toList++34::s=esc y.cps.toList++34::t:=by simpa using h
   obtain⟨a,b⟩:=esc_inj _ _ _ _ h';have:z=y:=by cases z;cases y;simp at a;rw [a]
   exact⟨by rw [this],b⟩
  |tup ys=>rw [yb,QZ] at h;simp at h
  |_=>simp [sh] at he
 | .tup xs,e,s,t,hd,he,h=>by
  cases e with
  |str y=>rw [yb,QZ] at h;simp at h
  |tup ys=>
   rw [QZ,QZ] at h;have h':jn xs++41::s=jn ys++41::t:=by simpa using h
   obtain⟨a,b⟩:=jn_inj xs ys s t (by simpa [sh] using hd) (by simpa [sh] using he) h'
   exact⟨by rw [a],b⟩
  |_=>simp [sh] at he
 | .non,_,_,_,h,_,_=>by simp [sh] at h
 | .bl _,_,_,_,h,_,_=>by simp [sh] at h
 | .int _,_,_,_,h,_,_=>by simp [sh] at h
 | .lst,_,_,_,h,_,_=>by simp [sh] at h
 | .dct,_,_,_,h,_,_=>by simp [sh] at h
theorem jn_inj:∀(xs ys:List D) (s t:List Nat),shL xs=true->shL ys=true->jn xs++41::s=jn ys++41::t->xs=ys/\s=t
 | [],[],s,t,_,_,h=>by
  have h':(41::s:List Nat)=41::t:=h;cases h';exact⟨rfl,rfl⟩
 | [],y::q,s,t,_,he,h=>by
  exfalso;have h2:sh y=true/\shL q=true:=by simpa [shL] using he
  obtain⟨c,r,e,O⟩:=txt_head h2.1;rw [yC,e] at h;have h':(41::s:List Nat)=c::(r++tl q++41::t):=h;cases h';rcases O with O|O<;>cases O
 |x::r,[],s,t,hd,_,h=>by
  exfalso;have h1:sh x=true/\shL r=true:=by simpa [shL] using hd
  obtain⟨c,Y,e,O⟩:=txt_head h1.1;rw [yC,e] at h;have h':c::(Y++tl r++41::s)=(41::t:List Nat):=h;cases h';rcases O with O|O<;>cases O
 |x::r,y::q,s,t,hd,he,h=>by
  have h1:sh x=true/\shL r=true:=by simpa [shL] using hd
  have h2:sh y=true/\shL q=true:=by simpa [shL] using he
  rw [yC,yC,uq,uq] at h;obtain⟨a,b⟩:=txt_inj x y _ _ h1.1 h2.1 h;subst a
  match r,q,h1,h2,b with
  | [],[],_,_,b=>
   have U:(41::s:List Nat)=41::t:=b;cases U;exact⟨rfl,rfl⟩
  | [],_::_,_,_,b=>
   exfalso;have U:(41::s:List Nat)=32::_:=b;cases U
  |_::_,[],_,_,b=>
   exfalso;have U:(32::_:List Nat)=41::t:=b;cases U
  |r0::r1,q0::q1,h1,h2,b=>
   have U:(32::(jn (r0::r1)++41::s):List Nat)=32::(jn (q0::q1)++41::t):=b;have b2:jn (r0::r1)++41::s=jn (q0::q1)++41::t:=by simpa using U
   obtain⟨c,d⟩:=jn_inj (r0::r1) (q0::q1) s t h1.2 h2.2 b2;exact⟨by rw [c],d⟩
end
mutual
theorem Yc:∀(d:D),sh d=true->(txt d).length+1<=3*sz d
 | .str z,_=>by
  have h:=bs2_len z;simp only [txt,qM,sz];show 1+(bs2 z).length+1+1<=_;omega
 | .tup xs,h=>by
  have:=txtL_len xs (by simpa [sh] using h)
  have e:(txt (.tup xs)).length=(jn xs).length+2:=by rw [qC,QZ];simp
  rw [e];simp only [sz];omega
 | .non,h=>by simp [sh] at h
 | .bl _,h=>by simp [sh] at h
 | .int _,h=>by simp [sh] at h
 | .lst,h=>by simp [sh] at h
 | .dct,h=>by simp [sh] at h
theorem txtL_len:∀(xs:List D),shL xs=true->(jn xs).length<=3*szL xs
 | [],_=>by show(0:Nat)<=_;omega
 |x::r,h=>by
  have h':sh x=true/\shL r=true:=by simpa [shL] using h
  have h1:=Yc x h'.1;have h2:=txtL_len r h'.2;have e:(tl r).length<=(jn r).length+1:=by
   cases r with
   |nil=>show(0:Nat)<=_;omega
   |cons y q=>show(jn (y::q)).length+1<=_;omega
  rw [yC,uf,<-qC];simp only [szL];omega
end
theorem Xo:∀(xs:List D),shL xs=true->((txtL xs).map (·.length)).sum+(txtL xs).length<=3*szL xs
 | [],_=>by simp [txtL]
 |x::r,h=>by
  have h':sh x=true/\shL r=true:=by simpa [shL] using h
  have h1:=Yc x h'.1;have h2:=Xo r h'.2;simp only [txtL,ua,vo,ul,szL];omega
def QE (n:Nat):Sp:=fun vs H Q _=>∃(v:V) (d:D),vs= [v]/\Is H d v/\sh d=true/\dp d<n/\sz d<=600/\∀H':Hp,Same H H'->Q (.str (txt d)) H'
theorem IsL.strsD {H:Hp}:∀{zs:List Str}{vs:List V},IsL H (zs.map D.str) vs->vs=zs.map V.str
 | [],vs,h=>h
 |z::r,vs,h=>by
  obtain⟨v,q,rfl,⟨rfl,_⟩,h2⟩:=h;rw [IsL.strsD h2]
  rfl
theorem szL_mem:∀{xs:List D}{x:D},x∈xs->sz x<=szL xs
 | [],_,h=>nomatch h
 |y::r,x,h=>by
  rcases List.mem_cons.mp h with rfl|h
  ·simp only [szL];omega
  ·have:=szL_mem h;simp only [szL];omega
theorem xH {f:Addr}{fd:FuncData}{l:Nat}:FnOk P w K mg base CX0 l f fd ["tree"] (QE 0):=by
 have O:∀vs H Q E,¬QE 0 vs H Q E:=fun vs H Q E h=>by
  obtain⟨p,k,_,_,_,h1,_⟩:=h;omega
 exact⟨fun vs H Q E h=>absurd h (O vs H Q E),fun A outer s H args us vs Q E _ _ _ _ h=>absurd h (O vs H Q E)⟩
theorem ok_ttext1 (T:Tx K mg a){n:Nat}(YJ:FnOk P w K mg base CX0 (n+1) a.ya a.Q4 ["tree"] (QE n)):FnOk P w K mg base CX0 (n+2) a.ya a.Q4 ["tree"] (QE (n+1)):=by
 refine T.g_tree_text.F.ok yZ (by trivial) (fun _ _ _ _ H vs Q E hr h=> ?_)
 obtain⟨v,d,rfl,hv,U,hd,hsz,k⟩:=h;refine⟨_,(@qc _ _ _ _ _ (@qH _ _ _ _ _ _ _ _ (@QU _ _ _ (@qu _ _ _ _ _ _ _ _ _ (@Qv _ _ rfl) (by rfl) T.qQ vm (@qa _ _ _ _ _ (pv 0) (@qa _ _ _ _ _ (@YQ _ _ (.ty "tuple") _ _ (by rfl) T.Q7 vU rfl (by trivial) (by trivial)) qb (by trivial)) (by trivial)) (by trivial) (by trivial) (by trivial) (by trivial)) (by trivial)) (@qc _ _ _ _ _ (@qx _ _ (1) _ _ _ _ yZ.nd rfl (Or.inl rfl) (@QY _ _ _ _ _ _ _ _ _ _ _ _ uo uw uy QI qi (@qa _ _ _ _ _ (@ji _ _ (["part"]) (1) ([]) _ _ _ _ _ _ _ _ _ (lcs0) rfl (@XM _ _ _ _ (pv 0)) (fun _ _ _ _ _ _=>(@qG _ _ (0) _ (show List.Nodup (["part"]:List Str) by decide+kernel) rfl (Or.inl rfl) (by trivial))) (fun _ _ _ _ _ _=> @QJ _) (fun _ _ _ _ _ _=>(@qk _ _ _ _ _ _ _ _ _ _ _ _ _ _ _ _ YJ (hr.mono (by trivial)) (by rfl) T.g_tree_text.m T.g_tree_text.F.kp T.g_tree_text.b .nil qy (@qa _ _ _ _ _ (pv 0) qb (by trivial)) (by trivial) (by trivial) (by trivial))) (by trivial)) qb (by trivial)) (by trivial) (by trivial) (by trivial) (by trivial) (by trivial)) (by trivial) (by trivial)) (@qd _ _ _ (@qo _ _ _ _ (@pe_fs _ _ _ _ _ _ _ _ _ _ _ (pv 1) (by decide))))) qq) (@qc _ _ _ _ _ (@qx _ _ (2) _ _ _ _ yZ.nd rfl (Or.inl rfl) (@pe_repl _ _ _ _ _ _ _ _ _ _ _ (@pe_repl _ _ _ _ _ _ _ _ _ _ _ (pv 0) (by decide) (by decide) (by trivial) (by trivial) (by trivial)) (by decide) (by decide) (by trivial) (by trivial) (by trivial)) (by trivial) (by trivial)) (@qd _ _ _ (@qo _ _ _ _ (@pe_fs _ _ _ _ _ _ _ _ _ _ _ (pv 2) (by decide)))))),?_⟩
 refine⟨_,rfl,v,"tuple",tyD d,xc d,rfl,hv.ty,kit_tup d,_,rfl,?_⟩;cases ht:xc d with
 |true=>
  refine iteT ?_;cases d with
  |tup xs=>
   obtain⟨a0,vs,rfl,aa,ac⟩:=hv;have lv:=ac.length;have Y:shL xs=true:=by simpa only [sh] using U
   have e2:sz (.tup xs)=1+szL xs:=by simp only [sz]
   have ag:=Xo xs Y;have ad:=Yc (.tup xs) U;have et:txt (.tup xs)="("++Str.join " " (xs.map txt)++")":=by rw [<-jd];simp only [txt]
   refine⟨rfl,_,rfl,a0,vs,rfl,SqT.of aa,fun ah A0 ae=> ?_⟩;have af:xs.length<=sizeLine:=by omega
   refine lc_tupS (tl:= []) (fun d=> .str (txt d)) aa ac af ae (fun d0 x0 H3 R O s3 i3 r=> ?_) fun H1 ys s1 l1 i1=> ?_
   ·have h0:=szL_mem O;have h1:=Yc d0 (Jr Y O);refine⟨_,rfl,x0,d0,rfl,i3,Jr Y O,?_,by omega,fun H4 s4=>r _ H4 s4 ⟨rfl,fits (by omega)⟩⟩
    have:=dp_row O;omega
   ·have ey:ys=(xs.map txt).map V.str:=IsL.strsD (by rw [uG] at⊢;exact i1)
    refine⟨" ",A0,xs.map txt,rfl,rfl,SqL.of (by rw [l1,ey]),?_,?_⟩
    ·rw [<-jd];show _+(txtL xs).length*1<=_;omega
    ·have hl:=qC (txt (.tup xs));refine⟨_,rfl,_,rfl,?_,?_⟩
     ·rw [et,qM,qM] at ad;omega
     ·have:=k H1 s1;rw [et] at this;exact this
  |_=>simp [xc] at ht
 |false=>
  refine iteF ?_;cases d with
  |str z=>
   obtain⟨rfl,hz⟩:=hv;have h1:=bs1_len z;have h2:=bs2_len z;have e2:sz (.str z)=z.length+1:=by simp only [sz]
   have et:txt (.str z)="\""++bs2 z++"\"":=by simp only [txt]
   refine⟨_,rfl,z,rfl,by omega,_,rfl,by show(bs1 z).length<=_;omega,?_⟩
   refine⟨_,rfl,bs2 z,rfl,?_,?_⟩
   ·show 1+(bs2 z).length+1<=_;omega
   ·have:=k H (Same.refl _);rw [et] at this;exact this
  |tup xs=>simp [xc] at ht
  |_=>simp [sh] at U
theorem ok_ttext (T:Tx K mg a):∀n:Nat,FnOk P w K mg base CX0 (n+1) a.ya a.Q4 ["tree"] (QE n)
 |0=>xH
 |n+1=>ok_ttext1 T (ok_ttext T n)
end
end K72
namespace K72
open PySem L2 PyProof.Rows Builtin Builtin.Str
theorem one_inj {a b:Nat}(h:(⟨#[a]⟩:Str)=⟨#[b]⟩):a=b:=by
 cases h
 rfl
theorem in_two (c:Nat):inV (.str ⟨#[c]⟩) [.str "\"",.str "\\"]=decide (c=34∨c=92):=by
 rw [show inV (.str ⟨#[c]⟩) [.str "\"",.str "\\"]=decide ((⟨#[c]⟩:Str)∈([⟨#[34]⟩,⟨#[92]⟩]:List Str)) from inV_str ⟨#[c]⟩ [⟨#[34]⟩,⟨#[92]⟩],vn]
 constructor
 ·intro h;rcases List.mem_cons.mp h with h|h
  ·exact .inl (one_inj h)
  ·exact .inr (one_inj (List.mem_singleton.mp h))
 ·rintro(rfl|rfl)
  ·exact ui
  ·exact u5 _ ui
theorem YL {z y:Str}(h:z.cps.toList=y.cps.toList):z=y:=by
 cases z;cases y;simp at h;rw [h]
theorem esc_app (a b:List Nat):esc (a++b)=esc a++esc b:=List.flatMap_append
def one (l:List Nat):Str:=match l with| []=>""|c::_=>⟨#[c]⟩
theorem slice_few (z:Str)(l u:Option Int):(Txt.slice z l u).length<=(strSliceIndices l u 1 z.length).length:=by
 unfold Txt.slice;split
 ·rename_i h
  rw [uH,UC,UC] at h;omega
 ·show(List.filterMap _ (strSliceIndices l u 1 z.length)).toArray.size<=_;rw [ub];exact List.length_filterMap_le _ _
theorem slice_end (z:Str){p:Nat}(h:z.length<=p):(Txt.slice z (some (p:Int)) (some ((p:Int)+1))).length<=0:=by
 refine uQ (slice_few z _ _) ?_;unfold strSliceIndices sliceRange;simp only [show(1:Int)>0 by decide,Ug,u3,List.length_range]
 (split<;>(try split)<;>(try split)<;>(try simp only [Int.ediv_one])<;>omega)
theorem str_nil {z:Str}(h:z.length<=0):z="":=by
 apply YL;rw [qC] at h;have:z.cps.toList= []:=List.length_eq_zero_iff.mp (by omega)
 rw [this]
 rfl
theorem yx (z:Str)(p:Nat):Txt.slice z (some (p:Int)) (some ((p:Int)+1))=one (z.cps.toList.drop p):=by
 rcases uZ p z.length with h|h
 ·have e:Txt.slice z (some (p:Int)) (some ((p+1:Nat):Int))=⟨((z.cps.toList.drop p).take (p+1-p)).toArray⟩:=StrLaws.sliceText_nat z (vH p) h;rw [show((p:Int)+1)=((p+1:Nat):Int) by omega,e,Nat.add_sub_cancel_left]
  rw [qC] at h;rw [ut h]
  rfl
 ·rw [str_nil (slice_end z h),vX (by rw [<-qC];exact h)]
  rfl
theorem yN {l:List Nat}{c:Nat}:(V.str (one l)=V.str ⟨#[c]⟩)↔∃r,l=c::r:=by
 constructor
 ·intro h;cases l with
  |nil=>cases h
  |cons x r=>
   have:x=c:=one_inj (V.str.inj h);exact⟨r,by rw [this]⟩
 ·rintro⟨r,rfl⟩
  rfl
theorem JE:∀l:List Nat,(Str.join "" (l.map fun c=>(⟨#[c]⟩:Str))).cps.toList=l
 | []=>rfl
 | [c]=>rfl
 |c::d::r=>by
  have O:=JE (d::r);have e:(Str.join "" ((c::d::r).map fun c=>(⟨#[c]⟩:Str))).cps.toList= [c]++([]++(Str.join "" ((d::r).map fun c=>(⟨#[c]⟩:Str))).cps.toList):=by
   show((⟨#[c]⟩:Str)++""++Str.join "" ((d::r).map fun c=>(⟨#[c]⟩:Str))).cps.toList=_;simp only [uP,ur,uq]
   rfl
  rw [e,O]
  rfl
theorem XN (k:Nat):esc [k]=if k=92 then [92,92] else if k=34 then [92,34] else [k]:=by simp [esc]
theorem esc_cut:∀(z0 z s r:List Nat),esc z0++s=esc z++34::r->∃y,z=z0++y/\s=esc y++34::r
 | [],z,s,r,h=>⟨z,rfl,h⟩
 |k::q,[],s,r,h=>by
  exfalso;have e1:esc (k::q)=(if k=92 then [92,92] else if k=34 then [92,34] else [k])++esc q:=rfl
  rw [e1] at h;by_cases h1:k=92
  ·simp [esc,h1] at h
  ·by_cases h2:k=34
   ·simp [esc,h2] at h
   ·simp [esc,h1,h2] at h
 |k::q,j::p,s,r,h=>by
  have e1:esc (k::q)=(if k=92 then [92,92] else if k=34 then [92,34] else [k])++esc q:=rfl
  have e2:esc (j::p)=(if j=92 then [92,92] else if j=34 then [92,34] else [j])++esc p:=rfl
  rw [e1,e2,uq,uq] at h;have Y:k=j->esc q++s=esc p++34::r->∃y,j::p=k::q++y/\s=esc y++34::r:=fun a b=>by
   obtain⟨y,c,d⟩:=esc_cut q p s r b;exact⟨y,by rw [a,c];rfl,d⟩
  by_cases h1:k=92
  ·rw [if_pos h1] at h;by_cases O:j=92
   ·rw [if_pos O] at h;exact Y (h1.trans O.symm) (vS h)
   ·exfalso;rw [if_neg O] at h;by_cases U:j=34
    ·rw [if_pos U] at h;simp at h
    ·rw [if_neg U] at h;simp at h;exact O h.1.symm
  ·rw [if_neg h1] at h;by_cases h2:k=34
   ·rw [if_pos h2] at h;by_cases O:j=92
    ·exfalso;rw [if_pos O] at h;simp at h
    ·rw [if_neg O] at h;by_cases U:j=34
     ·rw [if_pos U] at h;exact Y (h2.trans U.symm) (vS h)
     ·exfalso;rw [if_neg U] at h;simp at h;exact O h.1.symm
   ·rw [if_neg h2] at h;by_cases O:j=92
    ·exfalso;rw [if_pos O] at h;simp at h;exact h1 h.1
    ·rw [if_neg O] at h;by_cases U:j=34
     ·exfalso;rw [if_pos U] at h;simp at h;exact h1 h.1
     ·rw [if_neg U] at h;have h':k=j/\esc q++s=esc p++34::r:=by simpa using h
      exact Y h'.1 h'.2
def WR (s:List Nat)(z:Str)(r:List Nat):Prop:=s=esc z.cps.toList++34::r
theorem WR.cut {s t r:List Nat}{O:List Nat}{z:Str}(h:WR (esc O++s) z r):∃y,s=esc y++34::r:=by
 obtain⟨y,_,e⟩:=esc_cut O z.cps.toList s r h;exact⟨y,e⟩
theorem no_nil {y r:List Nat}:¬([]:List Nat)=esc y++34::r:=fun h=>by
 have:=congrArg List.length h;simp at this
theorem no_back {s y r:List Nat}(O:∀x t,s=x::t->x≠34/\x≠92):¬(92::s)=esc y++34::r:=fun h=>by
 cases y with
 |nil=>simp [esc] at h
 |cons k q=>
  have U:esc (k::q)=(if k=92 then [92,92] else if k=34 then [92,34] else [k])++esc q:=rfl
  rw [U] at h;by_cases h1:k=92
  ·rw [if_pos h1] at h;have h':s=92::(esc q++34::r):=by simpa using h
   exact(O _ _ h').2 rfl
  ·rw [if_neg h1] at h;by_cases h2:k=34
   ·rw [if_pos h2] at h;have h':s=34::(esc q++34::r):=by simpa using h
    exact(O _ _ h').1 rfl
   ·rw [if_neg h2] at h;have h':92=k/\s=esc q++34::r:=by simpa using h
    exact h1 h'.1.symm
def got (T:Str)(d:D)(r:List Nat):D:= .tup [d,.int ((T.length-r.length:Nat):Int)]
def sp_words (bad:Addr):Sp:=fun vs H Q E=>∃(T:Str) (p:Nat),vs= [.str T,.int (p:Int)]/\T.length<=100000/\p<=T.length/\
 (∀(z:Str) (r:List Nat) (v:V) (H':Hp),WR (T.cps.toList.drop p) z r->z.length<=100000->Same H H'->Is H' (got T (.str z) r) v->Q v H')/\
 ((∀z r,¬WR (T.cps.toList.drop p) z r)->∀(e:Addr) (H':Hp),Same H H'->E (.ref e) (some bad) H')
end K72
namespace K72
open PySem L2 PyProof.Rows
theorem y7 {l:List Nat}{q x:Nat}{t:List Nat}(h:l.drop q=x::t):l.drop (q+1)=t/\q<l.length/\l[q]? =some x:=by
 have O:q<l.length:=by
  rcases uZ q l.length with h'|h'
  ·exact h'
  ·rw [vX h'] at h;cases h
 rw [ut O] at h;obtain⟨a,b⟩:=List.cons.inj h;exact⟨b,O,by rw [u7 O,a]⟩
theorem iteFof {b:Bool}{p q:Prop}(e:b=false)(h:q):if b=true then p else q:=by rw [e];exact h
theorem iteTof {b:Bool}{p q:Prop}(e:b=true)(h:p):if b=true then p else q:=by rw [e];exact h
def hd2:List Nat->Bool
 | []=>false
 |x::_=>decide (x=34∨x=92)
theorem in_twoS (l:List Nat):inV (.str (one l)) [.str "\"",.str "\\"]=hd2 l:=by
 cases l with
 |nil=>rfl
 |cons x t=>exact in_two x
section
variable {P:Program}{w:World}{K:PySem.W.Frag}{mg:Str->Option Value}{base:Heap}{a:Ad}{g:Ga}
theorem ok_words (T:Tx K mg a)(C:Fx K mg g a):FnOk P w K mg base (CX1 P w) 1 a.xR a.xZ ["text","place"] (sp_words g.bad):=by
 refine T.g_words_at.F.okX yA (by trivial) (fun _ _ _ _ H _ Q E hr h=> ?_)
 obtain⟨Z,p,rfl,hZ,hp,kQ,kE⟩:=h;refine⟨_,(@qc _ _ _ _ _ (@qx _ _ (2) _ _ _ _ yA.nd rfl (Or.inl rfl) (@q9 _ _ _ _ qb) (by trivial) (by trivial)) (@qc _ _ _ _ _ (@Xm _ _ _ _ _ _ PassesOwn.leaving (@qp _ _ _ _ _ _ _ _ JF (@yd _ _ _ _ _ _ _ _ _ _ xL (pv 0) (@Qx _ _ _ (pv 1)) (@Qx _ _ _ (@qA _ _ _ _ _ _ _ _ qW (pv 1) qg))) qi (qz _)) (@qc _ _ _ _ _ (@qH _ _ _ _ _ _ _ _ (@qp _ _ _ _ _ _ _ _ Q1 (@yd _ _ _ _ _ _ _ _ _ _ xL (pv 0) (@Qx _ _ _ (pv 1)) (@Qx _ _ _ (@qA _ _ _ _ _ _ _ _ qW (pv 1) qg))) qi (qz _)) (@qc _ _ _ _ _ (@ps_aug _ _ (1) _ _ _ _ _ _ yA.nd rfl (Or.inl rfl) qg ip_add (by trivial)) (@qd _ _ _ (@qH _ _ _ _ _ _ _ _ (@qp _ _ _ _ _ _ _ _ op_notIn_seq (@yd _ _ _ _ _ _ _ _ _ _ xL (pv 0) (@Qx _ _ _ (pv 1)) (@Qx _ _ _ (@qA _ _ _ _ _ _ _ _ qW (pv 1) qg))) (@Qk _ _ _ _ _ (@qa _ _ _ _ _ qi (@qa _ _ _ _ _ qi qb (by trivial)) (by trivial))) (by with_unfolding_all rfl)) (@qd _ _ _ (@yF _ _ _ _ _ _ _ _ _ _ _ _ _ _ _ _ _ _ _ _ _ _ C.x_BadTree (by rfl) C.Q9 qi (by trivial) (by trivial))) qq))) qq) (@qc _ _ _ _ _ (@qH _ _ _ _ _ _ _ _ (@qp _ _ _ _ _ _ _ _ op_ge (pv 1) (@qu _ _ _ _ _ _ _ _ _ QT (by rfl) T.yL uD (@qa _ _ _ _ _ (pv 0) qb (by trivial)) (by trivial) (by trivial) (by trivial) (by trivial)) (qz _)) (@qd _ _ _ (@yF _ _ _ _ _ _ _ _ _ _ _ _ _ _ _ _ _ _ _ _ _ _ C.x_BadTree (by rfl) C.Q9 qi (by trivial) (by trivial))) qq) (@qc _ _ _ _ _ (@yT _ _ _ _ (@QY _ _ _ _ _ _ _ _ _ _ _ _ uL v8 v9 Q3 (pv 2) (@qa _ _ _ _ _ (@qP _ _ _ _ _ _ _ J3 (pv 0) (pv 1) (fun _ _=>rfl)) qb (by trivial)) (by trivial) (by trivial) (by trivial) (by trivial) (by trivial)) (by trivial)) (@qd _ _ _ (@ps_aug _ _ (1) _ _ _ _ _ _ yA.nd rfl (Or.inl rfl) qg ip_add (by trivial))))))) (@qd _ _ _ (@qo _ _ _ _ (@Qk _ _ _ _ _ (@qa _ _ _ _ _ (@QY _ _ _ _ _ _ _ _ _ _ _ _ uo uw uy QI qi (@qa _ _ _ _ _ (pv 2) qb (by trivial)) (by trivial) (by trivial) (by trivial) (by trivial) (by trivial)) (@qa _ _ _ _ _ (@qA _ _ _ _ _ _ _ _ qW (pv 1) qg) qb (by trivial)) (by trivial))))))),?_⟩
 have hs:=uk;have hz:Z.length<=sizeLine:=by omega
 have hl:Z.cps.toList.length=Z.length:=(qC Z).symm;refine⟨(by show 0<=sizeLine;omega),fun L gL=> ?_⟩
 refine⟨fun m σ H'=>∃(q:Nat) (O:List Nat),σ= [some (.str Z),some (.int (q:Int)),some (.ref L)]/\q<=Z.length/\Z.cps.toList.drop p=esc O++Z.cps.toList.drop q/\H' L=some (.lst (O.map fun c=> .str ⟨#[c]⟩))/\O.length<=q/\Same H H'/\m=Z.length-q,⟨_,p,[],rfl,hp,rfl,qe,uF _,qf gL _,rfl⟩,?_⟩;rintro m σ H' ⟨q,O,rfl,hq,hd,hL,ae,sm,rfl⟩;refine⟨_,rfl,_,rfl,_,rfl,_,rfl,_,_,rfl,rfl,_,rfl,Z,rfl,hz,rfl,_,rfl,?_⟩;rw [yx];by_cases c0:V.str (one (Z.cps.toList.drop q))=V.str (⟨#[34]⟩:Str)
 ·
  refine iteFof (by show(!decide (V.str (one (Z.cps.toList.drop q))=V.str (⟨#[34]⟩:Str)))=false;rw [u8 c0];rfl) ?_
  obtain⟨r,er⟩:=yN.mp c0;have ad:(Z.cps.toList.drop q).length=r.length+1:=by rw [er];rfl
  rw [vA,hl] at ad;refine⟨rfl,_,rfl,"",L,O.map (fun c=>(⟨#[c]⟩:Str)),rfl,rfl,SqL.of (by rw [hL,uG];rfl),?_,?_⟩
  ·rw [uG,u3];have:(O.map ((fun x:Str=>x.length)∘fun c=>(⟨#[c]⟩:Str))).sum=O.length:=by
    clear hd hL ae
    induction O with
    |nil=>rfl
    |cons c t ih=>rw [ua,vo,ih,ul];show 1+t.length=_;omega
   rw [this,show("":Str).length=0 from rfl]
   omega
  refine⟨_,rfl,_,_,rfl,rfl,(by show 2<=sizeLine;omega),fun t gt=> ?_⟩
  have eg:=JE O;have gl:(Str.join "" (O.map fun c=>(⟨#[c]⟩:Str))).length=O.length:=by rw [qC,eg]
  refine kQ _ r _ _ (by unfold WR;rw [eg,hd,er]) (by rw [gl];omega) (sm.trans (qf gt _)) ?_
  refine Is.new (ds:= [.str _,.int _]) ⟨_,_,rfl,⟨rfl,by rw [gl];omega⟩,_,_,rfl,?_,rfl⟩ gt
  show V.int ((q:Int)+1)=V.int ((Z.length-r.length:Nat):Int)
  congr 1
  omega
 ·refine iteTof (by show(!decide (V.str (one (Z.cps.toList.drop q))=V.str (⟨#[34]⟩:Str)))=true;rw [ud c0];rfl) ?_
  have aa:∀(H2:Hp),Same H H2->(∀y r,¬Z.cps.toList.drop q=esc y++34::r)->∀e:Addr,E (.ref e) (some g.bad) H2:=fun H2 s2 h e=>kE (fun z r hw=>by
   rw [hd] at hw;obtain⟨y,ey⟩:=WR.cut (t:= []) hw;exact h y r ey) e H2 s2
  have more:∀(q' x:Nat) (t:List Nat) (H2:Hp),q<=q'->Z.cps.toList.drop q'=x::t->Z.cps.toList.drop q=esc [x]++t->Same H H2->H2 L=some (.lst (O.map fun c=> .str ⟨#[c]⟩))->
    q'<Z.length/\Z.cps.toList[q']? =some x/\(∃(U:Nat) (Y:List Nat),([some (.str Z),some (.int ((q':Int)+1)),some (.ref L)]:L2.St)= [some (.str Z),some (.int (U:Int)),some (.ref L)]/\U<=Z.length/\Z.cps.toList.drop p=esc Y++Z.cps.toList.drop U/\(upd H2 L (.lst (O.map (fun c=>V.str ⟨#[c]⟩)++ [V.str ⟨#[x]⟩]))) L=some (.lst (Y.map fun c=> .str ⟨#[c]⟩))/\Y.length<=U/\Same H (upd H2 L (.lst (O.map (fun c=>V.str ⟨#[c]⟩)++ [V.str ⟨#[x]⟩])))/\Z.length-U<Z.length-q):=fun q' x t H2 aj ed ee s2 h2=>by
   obtain⟨d1,d2,d3⟩:=y7 ed;rw [hl] at d2;refine⟨d2,d3,q'+1,O++ [x],rfl,d2,?_,by rw [qe,ue];rfl,by rw [uf,uV];omega,?_,by omega⟩
   ·rw [hd,ee,esc_app,d1,uq]
   ·intro b o e;rw [ql (qh e gL)];exact s2 b o e
  refine⟨fun σ' H2=>∃(U:Nat) (Y:List Nat),σ'= [some (.str Z),some (.int (U:Int)),some (.ref L)]/\U<=Z.length/\Z.cps.toList.drop p=esc Y++Z.cps.toList.drop U/\H2 L=some (.lst (Y.map fun c=> .str ⟨#[c]⟩))/\Y.length<=U/\Same H H2/\Z.length-U<Z.length-q,?_,?_⟩
  ·rintro σ' H2 ⟨U,Y,r1,r2,r3,r4,r5,r6,r7⟩;exact⟨_,r7,U,Y,r1,r2,r3,r4,r5,r6,rfl⟩
  refine⟨_,rfl,_,rfl,_,rfl,_,rfl,_,_,rfl,rfl,_,rfl,Z,rfl,hz,rfl,_,rfl,?_⟩;rw [yx];refine ite2 (fun c1=> ?_) (fun c1=> ?_)
  ·
   have ac:V.str (one (Z.cps.toList.drop q))=V.str (⟨#[92]⟩:Str):=uj c1;obtain⟨t0,e0⟩:=yN.mp ac;obtain⟨d1,d2,d3⟩:=y7 e0;rw [hl] at d2;refine⟨_,rfl,_,_,rfl,rfl,?_⟩;refine⟨_,rfl,_,rfl,_,rfl,_,rfl,_,_,rfl,rfl,_,rfl,Z,rfl,hz,(by show 2<=sizeLine;omega),fun L2 g2=> ?_⟩
   have s2:Same H' (upd H' L2 (.tup [.str "\"",.str "\\"])):=qf g2 _;have af:Txt.slice Z (some ((q:Int)+1)) (some ((q:Int)+1+1))=one t0:=by
    have:=yx Z (q+1);rw [d1] at this;exact this
   rw [af];refine⟨L2,_,rfl,.inr (SqT.of qe),rfl,rfl,_,rfl,?_⟩;rw [show(if true=true then !inV (V.str (one t0)) [.str "\"",.str "\\"] else inV (V.str (one t0)) [.str "\"",.str "\\"])= !hd2 t0 from by rw [<-in_twoS];rfl]
   by_cases c2:∃x t,t0=x::t/\(x=34∨x=92)
   ·rw [show hd2 t0=true from by obtain⟨x,t,rfl,hx⟩:=c2;exact u8 hx]
    refine iteF ?_;obtain⟨x,t,rfl,hx⟩:=c2;have ed:Z.cps.toList.drop (q+1)=x::t:=d1;obtain⟨m1,m2,m3⟩:=more (q+1) x t _ (by omega) ed (by rw [e0,XN];rcases hx with rfl|rfl<;>rfl) (sm.trans s2) (s2 _ _ hL)
    have ag:¬((Z.length:Int)<=(q:Int)+1):=by omega
    refine⟨_,rfl,_,rfl,Z,rfl,hz,_,_,rfl,rfl,_,rfl,?_⟩;rw [ud ag];refine iteF ⟨_,rfl,.inl ⟨rfl,_,SqL.of (s2 _ _ hL)⟩,_,rfl,_,rfl,Z,_,x,rfl,rfl,hz,JQ (j:=q+1) m2,L,_,_,rfl,rfl,s2 _ _ hL,by rw [u3];omega,_,rfl,_,_,rfl,rfl,m3⟩
   ·rw [show hd2 t0=false from by
     cases t0 with
     |nil=>rfl
     |cons x t=>exact ud fun hx=>c2 ⟨x,t,rfl,hx⟩]
    refine iteT ⟨rfl,aa _ (sm.trans s2) fun y r hy=> ?_⟩;rw [e0] at hy;refine no_back (fun x t ht=> ?_) hy;exact⟨fun e=>c2 ⟨x,t,ht,.inl e⟩,fun e=>c2 ⟨x,t,ht,.inr e⟩⟩
  ·have ac:¬V.str (one (Z.cps.toList.drop q))=V.str (⟨#[92]⟩:Str):=fun h=>c1 (u8 h);refine⟨_,rfl,_,rfl,Z,rfl,hz,_,_,rfl,rfl,_,rfl,?_⟩;refine ite2 (fun c2=> ?_) (fun c2=> ?_)
   ·have ah:(Z.length:Int)<=(q:Int):=uj c2;refine⟨rfl,aa _ sm fun y r hy=> ?_⟩;rw [vX (by omega)] at hy
    exact no_nil hy
   ·have ah:¬(Z.length:Int)<=(q:Int):=fun h=>c2 (u8 h);have ai:q<Z.cps.toList.length:=by omega
    have ed:=ut ai;obtain⟨m1,m2,m3⟩:=more q _ _ H' (Nat.le_refl _) ed (by
     rw [XN,if_neg (fun h=>ac (yN.mpr ⟨_,by rw [ed,h]⟩)),if_neg (fun h=>c0 (yN.mpr ⟨_,by rw [ed,h]⟩))]
     exact ed) sm hL
    exact⟨_,rfl,.inl ⟨rfl,_,SqL.of hL⟩,_,rfl,_,rfl,Z,_,_,rfl,rfl,hz,JQ (j:=q) m2,L,_,_,rfl,rfl,hL,by rw [u3];omega,_,rfl,_,_,rfl,rfl,m3⟩
def TR (k:Nat)(s:List Nat)(d:D)(r:List Nat):Prop:=sh d=true/\dp d<=k/\s=(txt d).cps.toList++r
def RR (k:Nat)(b:Bool)(s:List Nat)(ys:List D)(r:List Nat):Prop:=shL ys=true/\dpL ys<=k/\s=(if b=true then jn ys else tl ys)++41::r
theorem sh_dp {d:D}(h:sh d=true):1<=dp d:=by
 cases d with
 |str z=>simp [dp]
 |tup xs=>simp only [dp];omega
 |_=>simp [sh] at h
theorem TR.zero {s r:List Nat}{d:D}:¬TR 0 s d r:=fun⟨h,h2,_⟩=>by have:=sh_dp h;omega
theorem TR.uniq {k O:Nat}{s r t:List Nat}{d e:D}(h:TR k s d r)(h':TR O s e t):d=e/\r=t:=
 txt_inj d e r t h.1 h'.1 (h.2.2.symm.trans h'.2.2)
theorem TR.len {k:Nat}{s r:List Nat}{d:D}(h:TR k s d r):r.length+2<=s.length:=by
 obtain⟨h1,_,rfl⟩:=h;cases d with
 |str z=>rw [yb];simp
 |tup xs=>rw [QZ];simp
 |_=>simp [sh] at h1
theorem TR.str {k:Nat}{s r:List Nat}{z:Str}(O:1<=k)(h:WR s z r):TR k (34::s) (.str z) r:=
 ⟨by simp [sh],by simp only [dp];exact O,by rw [yb,h];simp⟩
theorem TR.tup {k:Nat}{s r:List Nat}{ys:List D}(h:RR k true s ys r):TR (k+1) (40::s) (.tup ys) r:=
 ⟨by simpa [sh] using h.1,by have:=h.2.1;simp only [dp];omega,by rw [QZ,h.2.2];simp⟩
theorem TR.inv34 {k:Nat}{s r:List Nat}{d:D}(h:TR k (34::s) d r):∃z,d= .str z/\WR s z r:=by
 obtain⟨h1,_,e⟩:=h;cases d with
 |str z=>rw [yb] at e;exact⟨z,rfl,by unfold WR;simpa using e⟩
 |tup xs=>rw [QZ] at e;simp at e
 |_=>simp [sh] at h1
theorem TR.inv40 {k:Nat}{s r:List Nat}{d:D}(h:TR (k+1) (40::s) d r):∃ys,d= .tup ys/\RR k true s ys r:=by
 obtain⟨h1,h2,e⟩:=h;cases d with
 |str z=>rw [yb] at e;simp at e
 |tup xs=>
  rw [QZ] at e;refine⟨xs,rfl,by simpa [sh] using h1,by simp only [dp] at h2;omega,?_⟩
  simpa using e
 |_=>simp [sh] at h1
theorem TR.head {k:Nat}{s r:List Nat}{d:D}(h:TR k s d r):∃t,s=34::t∨s=40::t:=by
 obtain⟨h1,_,e⟩:=h;cases d with
 |str z=>rw [yb] at e;exact⟨_,.inl e⟩
 |tup xs=>rw [QZ] at e;exact⟨_,.inr e⟩
 |_=>simp [sh] at h1
theorem RR.nil {k:Nat}{b:Bool}(r:List Nat):RR k b (41::r) [] r:=
 ⟨rfl,by simp [dpL],by cases b<;>rfl⟩
theorem RR.cons {k:Nat}{s O r:List Nat}{d:D}{ys:List D}(h:TR k s d O)(h2:RR k false O ys r):RR k true s (d::ys) r:=by
 refine⟨by simp [shL,h.1,h2.1],?_,?_⟩
 ·have:=h.2.1;have:=h2.2.1;simp only [dpL];omega
 ·have e:=h2.2.2;rw [if_neg uc] at e;rw [if_pos rfl,yC,h.2.2,e,uq]
theorem RR.cons' {k:Nat}{s U r:List Nat}{d:D}{ys:List D}(h:TR k s d U)(h2:RR k false U ys r):RR k false (32::s) (d::ys) r:=by
 have O:=RR.cons h h2;refine⟨O.1,O.2.1,?_⟩;have e:=O.2.2;rw [if_pos rfl] at e;rw [if_neg uc,e]
 rfl
theorem RR.inv {k:Nat}{s r:List Nat}{ys:List D}(h:RR k true s ys r):(ys= []/\s=41::r)∨∃d y U,ys=d::y/\TR k s d U/\RR k false U y r:=by
 obtain⟨h1,h2,e⟩:=h;rw [if_pos rfl] at e;cases ys with
 |nil=>exact .inl ⟨rfl,e⟩
 |cons d y=>
  have O:sh d=true/\shL y=true:=by simpa [shL] using h1
  simp only [dpL] at h2;rw [yC,uq] at e;exact .inr ⟨d,y,_,rfl,⟨O.1,by omega,e⟩,O.2,by omega,by rw [if_neg uc]⟩
theorem RR.inv' {k:Nat}{s r:List Nat}{ys:List D}(h:RR k false s ys r):(ys= []/\s=41::r)∨∃d y s' O,ys=d::y/\s=32::s'/\TR k s' d O/\RR k false O y r:=by
 cases ys with
 |nil=>exact .inl ⟨rfl,h.2.2⟩
 |cons d y=>
  have e:s=32::(jn (d::y)++41::r):=h.2.2;have h':RR k true (jn (d::y)++41::r) (d::y) r:=⟨h.1,h.2.1,rfl⟩;rcases h'.inv with⟨z,_⟩|⟨d',y',O,U,Y,e3⟩
  ·cases z
  ·cases U;exact .inr ⟨d,y,_,O,rfl,e,Y,e3⟩
theorem suffix_drop {l a r:List Nat}{q:Nat}(h:l.drop q=a++r):l.drop (l.length-r.length)=r:=by
 have O:=congrArg List.length h;rw [vA,uf] at O;have e:l.length-r.length=q+a.length∨(a= []/\r= []):=by
  by_cases U:a.length+r.length=0
  ·exact .inr ⟨List.length_eq_zero_iff.mp (by omega),List.length_eq_zero_iff.mp (by omega)⟩
  ·exact .inl (by omega)
 rcases e with e|⟨rfl,rfl⟩
 ·rw [e,<-List.drop_drop,h,List.drop_left]
 ·simp
def sp_at (bad:Addr)(n:Nat):Sp:=fun vs H Q E=>∃(Z:Str) (p dep k:Nat),vs= [.str Z,.int (p:Int),.int (dep:Int)]/\Z.length<=100000/\p<=Z.length/\dep+k=13/\k<n/\
 (∀(d:D) (r:List Nat) (v:V) (H':Hp),TR k (Z.cps.toList.drop p) d r->Same H H'->Is H' (got Z d r) v->Q v H')/\
 ((∀d r,¬TR k (Z.cps.toList.drop p) d r)->∀(e:Addr) (H':Hp),Same H H'->E (.ref e) (some bad) H')
def sp_row (bad:Addr)(n:Nat):Sp:=fun vs H Q E=>∃(Z:Str) (p dep k:Nat),vs= [.str Z,.int (p:Int),.int (dep:Int)]/\Z.length<=100000/\p<=Z.length/\dep+k=12/\k<n/\
 (∀(ys:List D) (r:List Nat) (v:V) (H':Hp),RR k true (Z.cps.toList.drop p) ys r->Same H H'->Is H' (got Z (.tup ys) r) v->Q v H')/\
 ((∀ys r,¬RR k true (Z.cps.toList.drop p) ys r)->∀(e:Addr) (H':Hp),Same H H'->E (.ref e) (some bad) H')
theorem at_none {f:Addr}{fd:FuncData}{l:Nat}:FnOk P w K mg base (CX1 P w) l f fd ["text","place","depth"] (sp_at g.bad 0):=by
 have O:∀vs H Q E,¬sp_at g.bad 0 vs H Q E:=fun vs H Q E h=>by
  obtain⟨Z,p,U,k,_,_,_,_,h1,_⟩:=h;omega
 exact⟨fun vs H Q E h=>absurd h (O vs H Q E),fun A outer s H args us vs Q E _ _ _ _ h=>absurd h (O vs H Q E)⟩
theorem ok_at1 (T:Tx K mg a)(C:Fx K mg g a){n:Nat}(U:FnOk P w K mg base (CX1 P w) (2*n+3) a.Xj a.Xt ["text","place","depth"] (sp_row g.bad n)):FnOk P w K mg base (CX1 P w) (2*n+4) a.y9 a.Yh ["text","place","depth"] (sp_at g.bad (n+1)):=by
 have O:=ok_words (P:=P) (w:=w) (base:=base) T C;refine T.g_tree_at.F.okX xw (by trivial) (fun _ _ _ _ H _ Q E hr h=> ?_)
 obtain⟨Z,p,aa,k,rfl,hZ,hp,hk,af,kQ,kE⟩:=h;refine⟨_,(@qc _ _ _ _ _ (@qH _ _ _ _ _ _ _ _ (@qp _ _ _ _ _ _ _ _ op_gt (pv 2) (@XI _ _ _ _ (by rfl) T.jR (by trivial)) (qz _)) (@qd _ _ _ (@yF _ _ _ _ _ _ _ _ _ _ _ _ _ _ _ _ _ _ _ _ _ _ C.x_BadTree (by rfl) C.Q9 qi (by trivial) (by trivial))) qq) (@qc _ _ _ _ _ (@qx _ _ (3) _ _ _ _ xw.nd rfl (Or.inl rfl) (@yd _ _ _ _ _ _ _ _ _ _ xL (pv 0) (@Qx _ _ _ (pv 1)) (@Qx _ _ _ (@qA _ _ _ _ _ _ _ _ qW (pv 1) qg))) (by trivial) (by trivial)) (@qc _ _ _ _ _ (@qH _ _ _ _ _ _ _ _ (@qp _ _ _ _ _ _ _ _ Q1 (pv 3) qi (qz _)) (@qd _ _ _ (@qo _ _ _ _ (@qk _ _ _ _ _ _ _ _ _ _ _ _ _ _ _ _ O (hr.mono (by trivial)) (by rfl) T.g_words_at.m T.g_words_at.F.kp T.g_words_at.b .nil pass1 (@qa _ _ _ _ _ (pv 0) (@qa _ _ _ _ _ (@qA _ _ _ _ _ _ _ _ qW (pv 1) qg) qb (by trivial)) (by trivial)) (by trivial) (by trivial) (by trivial)))) qq) (@qc _ _ _ _ _ (@qH _ _ _ _ _ _ _ _ (@qp _ _ _ _ _ _ _ _ Q1 (pv 3) qi (qz _)) (@qd _ _ _ (@qo _ _ _ _ (@qk _ _ _ _ _ _ _ _ _ _ _ _ _ _ _ _ U (hr.mono (by trivial)) (by rfl) T.g_row_at.m T.g_row_at.F.kp T.g_row_at.b .nil pass1 (@qa _ _ _ _ _ (pv 0) (@qa _ _ _ _ _ (@qA _ _ _ _ _ _ _ _ qW (pv 1) qg) (@qa _ _ _ _ _ (pv 2) qb (by trivial)) (by trivial)) (by trivial)) (by trivial) (by trivial) (by trivial)))) qq) (@qd _ _ _ (@yF _ _ _ _ _ _ _ _ _ _ _ _ _ _ _ _ _ _ _ _ _ _ C.x_BadTree (by rfl) C.Q9 qi (by trivial) (by trivial))))))),?_⟩
 have hs:=uk;have hz:Z.length<=sizeLine:=by omega
 have hl:Z.cps.toList.length=Z.length:=(qC Z).symm;refine⟨_,rfl,_,_,rfl,rfl,_,rfl,?_⟩;refine ite2 (fun c=> ?_) (fun c=> ?_)
 ·have c':(12:Int)<(aa:Int):=uj c;have k0:k=0:=by omega
  subst k0;exact⟨rfl,fun e=>kE (fun d r=>TR.zero) e H (Same.refl _)⟩
 have c':¬(12:Int)<(aa:Int):=fun h=>c (u8 h);obtain⟨k',rfl⟩:∃k',k=k'+1:=⟨k-1,by omega⟩
 refine⟨_,rfl,_,rfl,_,rfl,_,rfl,_,_,rfl,rfl,_,rfl,Z,rfl,hz,?_⟩;rw [yx];refine⟨_,rfl,rfl,_,rfl,?_⟩;refine ite2 (fun c1=> ?_) (fun c1=> ?_)
 ·have ad:V.str (one (Z.cps.toList.drop p))=V.str (⟨#[34]⟩:Str):=uj c1;obtain⟨t,et⟩:=yN.mp ad;obtain⟨d1,d2,d3⟩:=y7 et;refine⟨_,rfl,_,rfl,_,_,rfl,rfl,Z,p+1,rfl,hZ,by omega,?_,?_⟩
  ·intro z r v H' Y _ sm hv;rw [d1] at Y;refine kQ (.str z) r v H' ?_ sm hv;rw [et];exact TR.str (by omega) Y
  ·intro ac e H' sm;refine kE (fun d r ht=> ?_) e H' sm;rw [et] at ht;obtain⟨z,_,Y⟩:=ht.inv34;exact ac z r (by rw [d1];exact Y)
 refine⟨_,rfl,rfl,_,rfl,?_⟩;refine ite2 (fun c2=> ?_) (fun c2=> ?_)
 ·have ae:V.str (one (Z.cps.toList.drop p))=V.str (⟨#[40]⟩:Str):=uj c2;obtain⟨t,et⟩:=yN.mp ae;obtain⟨d1,d2,d3⟩:=y7 et;refine⟨_,rfl,_,rfl,_,_,rfl,rfl,_,rfl,Z,p+1,aa,k',rfl,hZ,by omega,by omega,by omega,?_,?_⟩
  ·intro ys r v H' Y sm hv;rw [d1] at Y;refine kQ (.tup ys) r v H' ?_ sm hv;rw [et];exact TR.tup Y
  ·intro ac e H' sm;refine kE (fun d r ht=> ?_) e H' sm;rw [et] at ht;obtain⟨ys,_,Y⟩:=ht.inv40;exact ac ys r (by rw [d1];exact Y)
 ·refine⟨rfl,fun e=>kE (fun d r ht=> ?_) e H (Same.refl _)⟩;obtain⟨t,h|h⟩:=ht.head
  ·exact c1 (u8 (show V.str (one (Z.cps.toList.drop p))=V.str (⟨#[34]⟩:Str) from yN.mpr ⟨t,h⟩))
  ·exact c2 (u8 (show V.str (one (Z.cps.toList.drop p))=V.str (⟨#[40]⟩:Str) from yN.mpr ⟨t,h⟩))
theorem ok_row1 (T:Tx K mg a)(C:Fx K mg g a){n:Nat}(Jq:FnOk P w K mg base (CX1 P w) (2*n+2) a.y9 a.Yh ["text","place","depth"] (sp_at g.bad n)):FnOk P w K mg base (CX1 P w) (2*n+3) a.Xj a.Xt ["text","place","depth"] (sp_row g.bad n):=by
 refine T.g_row_at.F.okX Ya (by trivial) (fun _ _ _ s H vs Q E hr h=> ?_)
 obtain⟨Z,p,ae,k,rfl,hZ,hp,hk,ao,kQ,kE⟩:=h;refine⟨_,(@qc _ _ _ _ _ (@qx _ _ (3) _ _ _ _ Ya.nd rfl (Or.inl rfl) (@q9 _ _ _ _ qb) (by trivial) (by trivial)) (@qc _ _ _ _ _ (@Xm _ _ _ _ _ _ PassesOwn.leaving (@qp _ _ _ _ _ _ _ _ JF (@yd _ _ _ _ _ _ _ _ _ _ xL (pv 0) (@Qx _ _ _ (pv 1)) (@Qx _ _ _ (@qA _ _ _ _ _ _ _ _ qW (pv 1) qg))) qi (qz _)) (@qc _ _ _ _ _ (@qH _ _ _ _ _ _ _ _ (@Xy _ _ _ (pv 3) (fun _=>rfl)) (@qc _ _ _ _ _ (@qH _ _ _ _ _ _ _ _ (@qp _ _ _ _ _ _ _ _ JF (@yd _ _ _ _ _ _ _ _ _ _ xL (pv 0) (@Qx _ _ _ (pv 1)) (@Qx _ _ _ (@qA _ _ _ _ _ _ _ _ qW (pv 1) qg))) qi (qz _)) (@qd _ _ _ (@yF _ _ _ _ _ _ _ _ _ _ _ _ _ _ _ _ _ _ _ _ _ _ C.x_BadTree (by rfl) C.Q9 qi (by trivial) (by trivial))) qq) (@qd _ _ _ (@ps_aug _ _ (1) _ _ _ _ _ _ Ya.nd rfl (Or.inl rfl) qg ip_add (by trivial)))) qq) (@qc _ _ _ _ _ (@qx _ _ (4) _ _ _ _ Ya.nd rfl (Or.inl rfl) (@qk _ _ _ _ _ _ _ _ _ _ _ _ _ _ _ _ Jq (hr.mono (by trivial)) (by rfl) T.g_tree_at.m T.g_tree_at.F.kp T.g_tree_at.b .nil pass1 (@qa _ _ _ _ _ (pv 0) (@qa _ _ _ _ _ (pv 1) (@qa _ _ _ _ _ (@qA _ _ _ _ _ _ _ _ qW (pv 2) qg) qb (by trivial)) (by trivial)) (by trivial)) (by trivial) (by trivial) (by trivial)) (by trivial) (by trivial)) (@qc _ _ _ _ _ (@yT _ _ _ _ (@QY _ _ _ _ _ _ _ _ _ _ _ _ uL v8 v9 Q3 (pv 3) (@qa _ _ _ _ _ (@qP _ _ _ _ _ _ _ Qn (pv 4) qg (fun _ _=>rfl)) qb (by trivial)) (by trivial) (by trivial) (by trivial) (by trivial) (by trivial)) (by trivial)) (@qd _ _ _ (@qx _ _ (1) _ _ _ _ Ya.nd rfl (Or.inl rfl) (@qP _ _ _ _ _ _ _ Qn (pv 4) qg (fun _ _=>rfl)) (by trivial) (by trivial))))))) (@qd _ _ _ (@qo _ _ _ _ (@Qk _ _ _ _ _ (@qa _ _ _ _ _ (@Qh _ _ _ _ _ _ _ _ _ qX (by rfl) T.Q7 vU (@qa _ _ _ _ _ (pv 3) qb (by trivial)) (by trivial) (by trivial) (by trivial) (by trivial)) (@qa _ _ _ _ _ (@qA _ _ _ _ _ _ _ _ qW (pv 1) qg) qb (by trivial)) (by trivial))))))),?_⟩
 have hs:=uk;have hz:Z.length<=sizeLine:=by omega
 have hl:Z.cps.toList.length=Z.length:=(qC Z).symm;refine⟨(by show 0<=sizeLine;omega),fun L gL=> ?_⟩
 refine⟨fun m σ H'=>∃(q:Nat) (ds:List D) (us:List V) (gv:Option V),σ= [some (.str Z),some (.int (q:Int)),some (.int (ae:Int)),some (.ref L),gv]/\q<=Z.length/\H' L=some (.lst us)/\IsL H' ds us/\ds.length<=q/\
  (∀y r,RR k ds.isEmpty (Z.cps.toList.drop q) y r->RR k true (Z.cps.toList.drop p) (ds++y) r)/\(∀ys r,RR k true (Z.cps.toList.drop p) ys r->∃y,RR k ds.isEmpty (Z.cps.toList.drop q) y r)/\Same H H'/\m=Z.length-q,
  ⟨_,p,[],[],_,rfl,hp,qe,rfl,uF _,fun y r h=>h,fun ys r h=>⟨ys,h⟩,qf gL _,rfl⟩,?_⟩
 rintro m σ H' ⟨q,ds,us,gv,rfl,hq,hL,af,aw,ra,rb,sm,rfl⟩;have ax:=af.length;refine⟨_,rfl,_,rfl,_,rfl,_,rfl,_,_,rfl,rfl,_,rfl,Z,rfl,hz,rfl,_,rfl,?_⟩;rw [yx];by_cases c0:V.str (one (Z.cps.toList.drop q))=V.str (⟨#[41]⟩:Str)
 ·refine iteFof (by show(!decide (V.str (one (Z.cps.toList.drop q))=V.str (⟨#[41]⟩:Str)))=false;rw [u8 c0];rfl) ?_
  obtain⟨r,er⟩:=yN.mp c0;have ap:(Z.cps.toList.drop q).length=r.length+1:=by rw [er];rfl
  rw [vA,hl] at ap;refine⟨_,rfl,L,us,rfl,.inl ⟨SqL.of hL,fun t gt=>⟨_,rfl,_,_,rfl,rfl,(by show 2<=sizeLine;omega),fun t2 g2=> ?_⟩⟩⟩
  have hR:=ra [] r (by rw [er];exact RR.nil r)
  rw [uU] at hR;have s1:Same H' (upd H' t (.tup us)):=qf gt _;have i1:Is (upd H' t (.tup us)) (.tup ds) (.ref t):=Is.new af gt;refine kQ ds r _ _ hR (sm.trans (s1.trans (qf g2 _))) ?_;refine Is.new (ds:= [.tup ds,.int _]) ⟨_,_,rfl,i1,_,_,rfl,?_,rfl⟩ g2;show V.int ((q:Int)+1)=V.int ((Z.length-r.length:Nat):Int)
  congr 1
  omega
 ·refine iteTof (by show(!decide (V.str (one (Z.cps.toList.drop q))=V.str (⟨#[41]⟩:Str)))=true;rw [ud c0];rfl) ?_
  have ag:∀r,Z.cps.toList.drop q≠41::r:=fun r e=>c0 (yN.mpr ⟨r,e⟩);have ak:∀(q':Nat) (d:D) (r:List Nat) (v:V) (U:Hp),q<=q'->q'<=Z.length->TR k (Z.cps.toList.drop q') d r->Same H' U->Is U (got Z d r) v->
    (∀y Y,RR k false r y Y->RR k ds.isEmpty (Z.cps.toList.drop q) (d::y) Y)->(∀y Y,RR k ds.isEmpty (Z.cps.toList.drop q) y Y->∃y',RR k false r y' Y)->
    ∃(b:Addr) (x:V),v= .ref b/\U b=some (.tup [x,.int ((Z.length-r.length:Nat):Int)])/\U L=some (.lst us)/\(upd U L (.lst (us++ [x]))) b=some (.tup [x,.int ((Z.length-r.length:Nat):Int)])/\(∃(q2:Nat) (O:List D) (ac:List V) (gv:Option V),([some (.str Z),some (.int ((Z.length-r.length:Nat):Int)),some (.int (ae:Int)),some (.ref L),some (.ref b)]:L2.St)= [some (.str Z),some (.int (q2:Int)),some (.int (ae:Int)),some (.ref L),gv]/\q2<=Z.length/\(upd U L (.lst (us++ [x]))) L=some (.lst ac)/\IsL (upd U L (.lst (us++ [x]))) O ac/\O.length<=q2/\
     (∀y r,RR k O.isEmpty (Z.cps.toList.drop q2) y r->RR k true (Z.cps.toList.drop p) (O++y) r)/\(∀ys r,RR k true (Z.cps.toList.drop p) ys r->∃y,RR k O.isEmpty (Z.cps.toList.drop q2) y r)/\Same H (upd U L (.lst (us++ [x])))/\Z.length-q2<Z.length-q):=by
   intro q' d r v U ay az ht s3 hv t1 t2;have au:=ht.len;rw [vA,hl] at au;obtain⟨b,vs,rfl,hb,x,r1,rfl,hx,y,Y,rfl,hy,e4⟩:=hv;cases(show y=_ from hy)
   cases(show Y= [] from e4)
   have aa:=s3 _ _ hL;have aq:Tk U (upd U L (.lst (us++ [x]))):=Tk.updL aa;have nb:b≠L:=fun e=>by rw [e,aa] at hb;cases hb
   have ed:Z.cps.toList.drop (Z.length-r.length)=r:=by rw [<-hl];exact suffix_drop ht.2.2
   refine⟨b,x,rfl,hb,aa,by rw [ql nb];exact hb,Z.length-r.length,ds++ [d],us++ [x],_,rfl,by omega,qe,((af.mono s3.tk).mono aq).append (IsL.one (hx.mono aq)),by rw [uf,uV];omega,?_,?_,?_,by omega⟩
   ·intro y Y h;rw [ed] at h;have al:(ds++ [d]).isEmpty=false:=by cases ds<;>rfl
    rw [al] at h;have:=ra (d::y) Y (t1 y Y h);rw [uq];exact this
   ·intro ys Y h;obtain⟨y,hy⟩:=rb ys Y h;obtain⟨y',av⟩:=t2 y Y hy;have al:(ds++ [d]).isEmpty=false:=by cases ds<;>rfl
    rw [ed,al];exact⟨y',av⟩
   ·intro b o e;rw [ql (qh e gL)];exact s3 b o (sm b o e)
  have ah:∀(U:Hp),Same H' U->(∀y r,¬RR k ds.isEmpty (Z.cps.toList.drop q) y r)->∀e:Addr,E (.ref e) (some g.bad) U:=fun U s3 ai e=>kE (fun ys r h=>by
   obtain⟨y,hy⟩:=rb ys r h;exact ai y r hy) e U (sm.trans s3)
  refine⟨fun σ' H2=>∃(q2:Nat) (O:List D) (ac:List V) (gv:Option V),σ'= [some (.str Z),some (.int (q2:Int)),some (.int (ae:Int)),some (.ref L),gv]/\q2<=Z.length/\H2 L=some (.lst ac)/\IsL H2 O ac/\O.length<=q2/\
     (∀y r,RR k O.isEmpty (Z.cps.toList.drop q2) y r->RR k true (Z.cps.toList.drop p) (O++y) r)/\(∀ys r,RR k true (Z.cps.toList.drop p) ys r->∃y,RR k O.isEmpty (Z.cps.toList.drop q2) y r)/\Same H H2/\Z.length-q2<Z.length-q,?_,?_⟩
  ·rintro σ' H2 ⟨q2,O,ac,gv,r1,Y,r3,r4,r5,r6,r7,r8,r9⟩;exact⟨_,r9,q2,O,ac,gv,r1,Y,r3,r4,r5,r6,r7,r8,rfl⟩
  cases ds with
  |nil=>
   cases(show us= [] from af)
   refine⟨_,rfl,false,.inl ⟨[],SqL.of hL,rfl⟩,iteF ?_⟩;refine⟨_,rfl,_,rfl,_,rfl,_,_,rfl,rfl,Z,q,ae+1,k,rfl,hZ,hq,by omega,ao,?_,?_⟩
   ·intro d r v U ht s3 hv;obtain⟨b,x,rfl,hb,aa,am,inv⟩:=ak q d r v U (Nat.le_refl _) hq ht s3 hv (fun y Y h=>RR.cons ht h) (fun y Y h=>by
     rcases RR.inv h with⟨_,e⟩|⟨d',y',r',_,ad,h'⟩
     ·exact absurd e (ag Y)
     ·obtain⟨_,rfl⟩:=ht.uniq ad;exact⟨y',h'⟩)
    exact⟨_,rfl,.inl ⟨rfl,_,SqL.of aa⟩,_,rfl,b,_,0,x,rfl,rfl,SqT.of hb,rfl,L,[],x,rfl,rfl,aa,(by show 0<sizeLine;omega),_,rfl,b,_,1,_,rfl,rfl,SqT.of am,rfl,inv⟩
   ·intro ai e U s3;refine ah U s3 (fun y r h=> ?_) e;rcases RR.inv h with⟨_,e⟩|⟨d',y',r',_,ad,h'⟩
    ·exact ag r e
    ·exact ai d' r' ad
  |cons d0 aA=>
   obtain⟨u0,aB,rfl,_⟩:=id af;refine⟨_,rfl,true,.inl ⟨_,SqL.of hL,rfl⟩,iteT ?_⟩;refine⟨_,rfl,_,rfl,_,rfl,_,rfl,_,_,rfl,rfl,_,rfl,Z,rfl,hz,rfl,_,rfl,?_⟩;rw [yx];by_cases c1:V.str (one (Z.cps.toList.drop q))=V.str (⟨#[32]⟩:Str)
   ·refine iteFof (by show(!decide (V.str (one (Z.cps.toList.drop q))=V.str (⟨#[32]⟩:Str)))=false;rw [u8 c1];rfl) ?_
    obtain⟨t,et⟩:=yN.mp c1;obtain⟨d1,d2,d3⟩:=y7 et;rw [hl] at d2;refine⟨_,rfl,_,_,rfl,rfl,?_⟩;refine⟨_,rfl,_,rfl,_,rfl,_,_,rfl,rfl,Z,q+1,ae+1,k,rfl,hZ,d2,by omega,ao,?_,?_⟩
    ·intro d r v U ht s3 hv;have ad:=ht;rw [d1] at ad;obtain⟨b,x,rfl,hb,aa,am,inv⟩:=ak (q+1) d r v U (vH _) d2 ht s3 hv (fun y Y h=>by rw [et];exact RR.cons' ad h) (fun y Y h=>by
      rcases RR.inv' h with⟨_,e⟩|⟨d',y',s',r',_,es,aj,h'⟩
      ·exact absurd e (ag Y)
      ·rw [et] at es;cases es;obtain⟨_,rfl⟩:=ad.uniq aj;exact⟨y',h'⟩)
     exact⟨_,rfl,.inl ⟨rfl,_,SqL.of aa⟩,_,rfl,b,_,0,x,rfl,rfl,SqT.of hb,rfl,L,_,x,rfl,rfl,aa,by omega,_,rfl,b,_,1,_,rfl,rfl,SqT.of am,rfl,inv⟩
    ·intro ai e U s3;refine ah U s3 (fun y r h=> ?_) e;rcases RR.inv' h with⟨_,e⟩|⟨d',y',s',r',_,es,aj,h'⟩
     ·exact ag r e
     ·rw [et] at es;cases es;exact ai d' r' (by rw [d1];exact aj)
   ·refine iteTof (by show(!decide (V.str (one (Z.cps.toList.drop q))=V.str (⟨#[32]⟩:Str)))=true;rw [ud c1];rfl) ?_
    refine⟨rfl,ah H' (Same.refl _) fun y r h=> ?_⟩;rcases RR.inv' h with⟨_,e⟩|⟨d',y',s',r',_,es,aj,h'⟩
    ·exact ag r e
    ·exact c1 (yN.mpr ⟨s',es⟩)
theorem ok_at (T:Tx K mg a)(C:Fx K mg g a):∀n:Nat,FnOk P w K mg base (CX1 P w) (2*n+2) a.y9 a.Yh ["text","place","depth"] (sp_at g.bad n)
 |0=>at_none
 |n+1=>ok_at1 T C (ok_row1 T C (ok_at T C n))
def WT (Z:Str)(d:D):Prop:=sh d=true/\isT d=true/\Z.cps.toList=(txt d).cps.toList
theorem WT.tr {Z:Str}{d:D}(h:WT Z d){k:Nat}(O:12<=k):TR k (Z.cps.toList.drop 0) d []:=
 ⟨h.1,uQ (isT_dp h.2.1) O,by rw [uU];exact h.2.2⟩
def sp_read (bad:Addr):Sp:=fun vs H Q E=>∃Z:Str,vs= [.str Z]/\Z.length<=100000/\
 (∀(d:D) (v:V) (H':Hp),WT Z d->Same H H'->Is H' d v->Q v H')/\((∀d,¬WT Z d)->∀(e:Addr) (H':Hp),Same H H'->E (.ref e) (some bad) H')
theorem ok_read (T:Tx K mg a)(C:Fx K mg g a):FnOk P w K mg base (CX1 P w) 29 a.JR a.Ja ["text"] (sp_read g.bad):=by
 have Jq:FnOk P w K mg base (CX1 P w) 28 a.y9 a.Yh ["text","place","depth"] (sp_at g.bad 13):=ok_at T C 13;have J4:=xU (P:=P) (w:=w) (base:=base) T;refine T.g_read_tree.F.okX jK (by trivial) (fun _ _ _ _ H vs Q E hr h=> ?_)
 obtain⟨Z,rfl,hZ,kQ,kE⟩:=h;refine⟨_,(@qc _ _ _ _ _ (@qx _ _ (1) _ _ _ _ jK.nd rfl (Or.inl rfl) (@qk _ _ _ _ _ _ _ _ _ _ _ _ _ _ _ _ Jq (hr.mono (by trivial)) (by rfl) T.g_tree_at.m T.g_tree_at.F.kp T.g_tree_at.b .nil pass1 (@qa _ _ _ _ _ (pv 0) (@qa _ _ _ _ _ qg (@qa _ _ _ _ _ qg qb (by trivial)) (by trivial)) (by trivial)) (by trivial) (by trivial) (by trivial)) (by trivial) (by trivial)) (@qc _ _ _ _ _ (@qH _ _ _ _ _ _ _ _ (@qp _ _ _ _ _ _ _ _ JF (@qP _ _ _ _ _ _ _ Qn (pv 1) qg (fun _ _=>rfl)) (@qu _ _ _ _ _ _ _ _ _ QT (by rfl) T.yL uD (@qa _ _ _ _ _ (pv 0) qb (by trivial)) (by trivial) (by trivial) (by trivial) (by trivial)) (qz _)) (@qd _ _ _ (@yF _ _ _ _ _ _ _ _ _ _ _ _ _ _ _ _ _ _ _ _ _ _ C.x_BadTree (by rfl) C.Q9 qi (by trivial) (by trivial))) qq) (@qc _ _ _ _ _ (@qH _ _ _ _ _ _ _ _ (@yo _ _ _ _ (@QU _ _ _ (@qk _ _ _ _ _ _ _ _ _ _ _ _ _ _ _ _ J4 (hr.mono (by trivial)) (by rfl) T.g_is_tree.m T.g_is_tree.F.kp T.g_is_tree.b .nil qy (@qa _ _ _ _ _ (@qP _ _ _ _ _ _ _ Qn (pv 1) qg (fun _ _=>rfl)) qb (by trivial)) (by trivial) (by trivial) (by trivial)) (by trivial))) (@qd _ _ _ (@yF _ _ _ _ _ _ _ _ _ _ _ _ _ _ _ _ _ _ _ _ _ _ C.x_BadTree (by rfl) C.Q9 qi (by trivial) (by trivial))) qq) (@qd _ _ _ (@qo _ _ _ _ (@qP _ _ _ _ _ _ _ Qn (pv 1) qg (fun _ _=>rfl))))))),?_⟩
 have hs:=uk;have hz:Z.length<=sizeLine:=by omega
 have hl:Z.cps.toList.length=Z.length:=(qC Z).symm;refine⟨_,rfl,Z,0,1,12,rfl,hZ,uF _,rfl,by omega,?_,?_⟩
 ·intro d r v H1 U s1 hv;obtain⟨b,vs,rfl,Y,x,r1,rfl,hx,y,r2,rfl,hy,e4⟩:=hv;cases(show y=_ from hy)
  cases(show r2= [] from e4)
  have aa:=U.len;rw [Ut,hl] at aa;have no:∀(H2:Hp),Same H H2->(∀e,WT Z e->d=e/\r= []->False)->∀e:Addr,E (.ref e) (some g.bad) H2:=fun H2 s2 h e=>kE (fun d' O=>h d' O (U.uniq (O.tr (Nat.le_refl _)))) e H2 s2;refine⟨_,rfl,b,_,1,_,rfl,rfl,SqT.of Y,rfl,_,rfl,Z,rfl,hz,rfl,_,rfl,?_⟩;by_cases c:((Z.length-r.length:Nat):Int)=(Z.length:Int)
  ·refine iteFof (by show(!decide (V.int _=V.int _))=false;rw [u8 (by rw [c])];rfl) ?_
   have r0:r= []:=List.length_eq_zero_iff.mp (by omega)
   subst r0;refine⟨_,rfl,b,_,0,x,rfl,rfl,SqT.of Y,rfl,x,d,rfl,hx,fun H2 s2=>⟨_,rfl,?_⟩⟩;cases hT:isT d with
   |true=>
    refine iteF ⟨_,rfl,b,_,0,x,rfl,rfl,SqT.of (s2 _ _ Y),rfl,?_⟩;refine kQ d x H2 ⟨U.1,hT,?_⟩ (s1.trans s2) (hx.mono s2.tk);have:=U.2.2;rw [Ut,uU] at this;exact this
   |false=>
    refine iteT ⟨rfl,no H2 (s1.trans s2) fun e O he=> ?_⟩;rw [he.1,O.2.1] at hT;cases hT
  ·refine iteTof (by show(!decide (V.int _=V.int _))=true;rw [ud (fun h=>c (V.int.inj h))];rfl) ?_
   refine⟨rfl,no H1 s1 fun e O he=>c ?_⟩;rw [he.2];simp
 ·intro ac e H1 s1;exact kE (fun d O=>ac d [] (O.tr (Nat.le_refl _))) e H1 s1
theorem glue:∀l:List Str,(Str.join "" l).cps.toList=l.flatMap fun z=>z.cps.toList
 | []=>rfl
 | [z]=>by show z.cps.toList=_;simp
 |z::y::r=>by
  have O:=glue (y::r);have e:(Str.join "" (z::y::r)).cps.toList=z.cps.toList++([]++(Str.join "" (y::r)).cps.toList):=by
   show(z++""++Str.join "" (y::r)).cps.toList=_;simp only [uP,ur,uq]
   rfl
  rw [e,O];simp
def eS (c:Nat):Str:=Txt.mul "\\" (if inS ⟨#[c]⟩ "\"\\" then 1 else 0)++⟨#[c]⟩
theorem eS_cps (c:Nat):(eS c).cps.toList=esc [c]:=by
 unfold eS;rw [jw,XN,uP,ur];have e:("\"\\":Str).cps.toList= [34,92]:=by decide+kernel
 rw [e];by_cases h1:c=92
 ·subst h1;decide+kernel
 ·by_cases h2:c=34
  ·subst h2;decide+kernel
  ·have:decide (c∈ [34,92])=false:=ud fun m=>by
    rcases List.mem_cons.mp m with h|h
    ·exact h2 h
    ·exact h1 (List.mem_singleton.mp h)
   rw [this,if_neg h1,if_neg h2]
   rfl
theorem eS_len (c:Nat):(eS c).length<=2:=by
 rw [qC,eS_cps];exact esc_len [c]
theorem eS_all (z:Str):Str.join "" (z.cps.toList.map eS)=bs2 z:=YL (by
 rw [glue,bs2_cps,List.flatMap_map];unfold esc
 congr 1
 funext c
 have:=eS_cps c
 simpa [esc] using this)
def sp_tin:Sp:=fun vs H Q _=>∃(Z:Str) (d:D),vs= [.str Z]/\WT Z d/\Z.length<=100000/\∀(v:V) (H':Hp),Same H H'->Is H' d v->Q v H'
theorem ok_written1 (T:Tx K mg a){n:Nat}(QH:FnOk P w K mg base CX0 (n+1) a.Qj a.Qi ["tree"] (QE n)):FnOk P w K mg base CX0 (n+2) a.Qj a.Qi ["tree"] (QE (n+1)):=by
 refine T.g_law_written.F.ok xi (by trivial) (fun _ _ _ _ H vs Q E hr h=> ?_)
 obtain⟨v,d,rfl,hv,U,hd,hsz,k⟩:=h;refine⟨_,(@qc _ _ _ _ _ (@qH _ _ _ _ _ _ _ _ (@QU _ _ _ (@qu _ _ _ _ _ _ _ _ _ (@Qv _ _ rfl) (by rfl) T.qQ vm (@qa _ _ _ _ _ (pv 0) (@qa _ _ _ _ _ (@YQ _ _ (.ty "str") _ _ (by rfl) T.z_str boot_str rfl (by trivial) (by trivial)) qb (by trivial)) (by trivial)) (by trivial) (by trivial) (by trivial) (by trivial)) (by trivial)) (@qd _ _ _ (@qo _ _ _ _ (@qA _ _ _ _ _ _ _ _ qr (@qA _ _ _ _ _ _ _ _ qr qi (@QY _ _ _ _ _ _ _ _ _ _ _ _ uo uw uy QI qi (@qa _ _ _ _ _ (@ji _ _ (["sign"]) (1) ([]) _ _ _ _ _ _ _ _ _ (lcs0) rfl (@pi_str _ _ _ _ (pv 0)) (fun _ _ _ _ _ _=>(@qG _ _ (0) _ (show List.Nodup (["sign"]:List Str) by decide+kernel) rfl (Or.inl rfl) (by trivial))) (fun _ _ _ _ _ _=> @QJ _) (fun _ _ _ _ _ _=>(@qA _ _ _ _ _ _ _ _ qr (@qA _ _ _ _ _ _ _ _ op_repS qi (@Qh _ _ _ _ _ _ _ _ _ call_int1 (by rfl) T.z_int boot_int (@qa _ _ _ _ _ (@YT _ _ _ _ _ _ _ _ op_in_str (pv 0) qi (by with_unfolding_all rfl)) qb (by trivial)) (by trivial) (by trivial) (by trivial) (by trivial))) (pv 0))) (by trivial)) qb (by trivial)) (by trivial) (by trivial) (by trivial) (by trivial) (by trivial))) qi))) qq) (@qd _ _ _ (@qo _ _ _ _ (@qA _ _ _ _ _ _ _ _ qr (@qA _ _ _ _ _ _ _ _ qr qi (@QY _ _ _ _ _ _ _ _ _ _ _ _ uo uw uy QI qi (@qa _ _ _ _ _ (@ji _ _ (["part"]) (1) ([]) _ _ _ _ _ _ _ _ _ (lcs0) rfl (@XM _ _ _ _ (pv 0)) (fun _ _ _ _ _ _=>(@qG _ _ (0) _ (show List.Nodup (["part"]:List Str) by decide+kernel) rfl (Or.inl rfl) (by trivial))) (fun _ _ _ _ _ _=> @QJ _) (fun _ _ _ _ _ _=>(@qk _ _ _ _ _ _ _ _ _ _ _ _ _ _ _ _ QH (hr.mono (by trivial)) (by rfl) T.g_law_written.m T.g_law_written.F.kp T.g_law_written.b .nil qy (@qa _ _ _ _ _ (pv 0) qb (by trivial)) (by trivial) (by trivial) (by trivial))) (by trivial)) qb (by trivial)) (by trivial) (by trivial) (by trivial) (by trivial) (by trivial))) qi)))),?_⟩
 refine⟨_,rfl,v,"str",tyD d,isStr d,rfl,hv.ty,kit_str d,_,rfl,?_⟩;have hs:=uk;cases d with
 |str z=>
  refine iteT ?_;obtain⟨rfl,hz⟩:=hv;have e2:sz (.str z)=z.length+1:=by simp only [sz]
  refine⟨rfl,_,rfl,z,rfl,fun A0 Y=> ?_⟩;refine lc_str (tl:= []) (fun c=> .str (eS c)) hz Y (fun i c H3 R hc s3 r=> ?_) fun H1 s1 l1=> ?_
  ·have:=eS_len c;refine⟨_,rfl,⟨#[c]⟩,_,rfl,rfl,.inr ⟨_,rfl,"\\",_,rfl,rfl,mulOk_of (by split<;>decide) (by split<;>decide) (by decide),_,rfl,_,_,rfl,rfl,fits (by rw [<-qM];show(eS c).length<=_;omega),r⟩⟩
  ·have h2:=bs2_len z;have e3:((z.cps.toList.map eS).map (·.length)).sum<=2*z.cps.toList.length:=by
    generalize z.cps.toList=l
    induction l with
    |nil=>simp
    |cons c l ih=>have:=eS_len c;simp only [ua,vo,ul];omega
   have e4:=qC z;refine⟨"",A0,z.cps.toList.map eS,rfl,rfl,SqL.of (by rw [l1,uG];rfl),?_,?_⟩
   ·rw [u3];show _+_*0<=_;omega
   ·rw [eS_all];refine⟨_,_,rfl,rfl,fits (by rw [show("\"":Str).length=1 from rfl];omega),_,_,rfl,rfl,fits (by rw [qM,show("\"":Str).length=1 from rfl];omega),?_⟩
    have:=k H1 s1;simp only [txt] at this;exact this
 |tup xs=>
  refine iteF ?_;obtain⟨a0,vs,rfl,ac,ad⟩:=hv;have lv:=ad.length;have aa:shL xs=true:=by simpa only [sh] using U
  have e2:sz (.tup xs)=1+szL xs:=by simp only [sz]
  have ag:=Xo xs aa;have ae:=Yc (.tup xs) U;have et:txt (.tup xs)="("++Str.join " " (xs.map txt)++")":=by rw [<-jd];simp only [txt]
  refine⟨rfl,_,rfl,a0,vs,rfl,SqT.of ac,fun ah A0 Y=> ?_⟩;have af:xs.length<=sizeLine:=by omega
  refine lc_tupS (tl:= []) (fun d=> .str (txt d)) ac ad af Y (fun d0 x0 H3 R O s3 i3 r=> ?_) fun H1 ys s1 l1 i1=> ?_
  ·have h0:=szL_mem O;have h1:=Yc d0 (Jr aa O);refine⟨_,rfl,x0,d0,rfl,i3,Jr aa O,?_,by omega,fun H4 s4=>r _ H4 s4 ⟨rfl,fits (by omega)⟩⟩
   have:=dp_row O;omega
  ·have ey:ys=(xs.map txt).map V.str:=IsL.strsD (by rw [uG] at⊢;exact i1)
   refine⟨" ",A0,xs.map txt,rfl,rfl,SqL.of (by rw [l1,ey]),?_,?_⟩
   ·rw [<-jd];show _+(txtL xs).length*1<=_;omega
   ·rw [et,qM,qM] at ae;refine⟨_,_,rfl,rfl,fits (by omega),_,_,rfl,rfl,fits (by rw [qM];omega),?_⟩
    have:=k H1 s1;rw [et] at this;exact this
 |_=>simp [sh] at U
theorem jD (T:Tx K mg a):∀n:Nat,FnOk P w K mg base CX0 (n+1) a.Qj a.Qi ["tree"] (QE n)
 |0=>xH
 |n+1=>ok_written1 T (jD T n)
theorem ok_tin (T:Tx K mg a)(C:Fx K mg g a):FnOk P w K mg base CX0 30 a.f_tree_in a.d_tree_in ["text"] sp_tin:=by
 have O:=ok_read (P:=P) (w:=w) (base:=base) T C;refine T.g_tree_in.F.ok sc_tree_in (by trivial) (fun _ _ _ s H _ Q E Y h=> ?_)
 obtain⟨Z,d,rfl,U,hz,k⟩:=h;refine⟨_,(@qd _ _ _ (@ps_tryN _ _ _ _ _ _ (@qd _ _ _ (@qo _ _ _ _ (@qk _ _ _ _ _ _ _ _ _ _ _ _ _ _ _ _ O (Y.mono (by trivial)) (by rfl) T.g_read_tree.m T.g_read_tree.F.kp T.g_read_tree.b .nil passF (@qa _ _ _ _ _ (pv 0) qb (by trivial)) (by trivial) (by trivial) (by trivial)))))),?_⟩
 refine⟨_,rfl,Z,rfl,hz,fun d' v H' hd s' hv=> ?_,fun no=>absurd U (no d)⟩;rw [(U.tr (Nat.le_refl 12)).uniq (hd.tr (Nat.le_refl 12))|>.1] at k
 exact k v H' s' hv
def okN (z:Str):Bool:=(z.cps.toList.map fun c=>inS ⟨#[c]⟩ NSG).all id
theorem okN_app {z y:Str}(h:okN z=true)(k:okN y=true):okN (z++y)=true:=by
 unfold okN at*;show((z.cps++y.cps).toList.map _).all id=true;rw [ur,ue,uN,h,k]
 rfl
theorem okN_one {c:Nat}(h:c∈NSG.cps.toList):okN ⟨#[c]⟩=true:=by
 show([c].map fun c=>inS ⟨#[c]⟩ NSG).all id=true;rw [ua,vP,jw,u8 h]
 rfl
theorem nm_of {z:Str}(h:okN z=true)(h1:1<=z.length)(h2:z.length<=24)(O:inS ⟨#[z.cps.getD 0 0]⟩ LET=true):nm z=true:=by
 rw [nm_rest (by omega) (by omega) O]
 exact h
theorem jU {z:Str}(h:nm z=true):1<=z.length/\z.length<=24:=by
 by_cases c:1<=(z.length:Int)/\(z.length:Int)<=24
 ·omega
 ·rw [nm_len c] at h;cases h
def Nms (zs:List Str):Prop:=(∀z∈zs,nm z=true)/\zs.Nodup
mutual
theorem lw_pu:∀{d:D},lw d=true->puD d=true
 | .str z,_=>by simp [puD]
 | .tup xs,h=>by
  have:=lwL_pu (xs:=xs) (by simpa [lw] using h)
  simpa [puD] using this
 | .non,h=>by simp [lw] at h
 | .bl _,h=>by simp [lw] at h
 | .int _,h=>by simp [lw] at h
 | .lst,h=>by simp [lw] at h
 | .dct,h=>by simp [lw] at h
theorem lwL_pu:∀{xs:List D},lwL xs=true->puL xs=true
 | [],_=>by simp [puL]
 |x::r,h=>by
  have h':lw x=true/\lwL r=true:=by simpa [lwL] using h
  simp [puL,lw_pu h'.1,lwL_pu h'.2]
end
theorem lw_tr {d:D}(h:lw d=true):trD d=true:=by
 cases d with
 |str z=>rfl
 |tup xs=>
  have:=lwL_pu (xs:=xs) (by simpa [lw] using h)
  simpa [trD] using this
 |_=>simp [lw] at h
def Qt (d:D):Prop:=(∃k e,d= .tup [.str k,e])/\isSrc d=true/\lw d=true/\sz d<=306
def prD (p:Str×D):D:= .tup [.str p.1,p.2]
def PrOk (ps:List (Str×D)):Prop:=Nms (ps.map (·.1))/\∀p∈ps,Qt p.2
theorem Js {z:Str}(h:okN z=true):Q8 z=true:=by
 unfold Q8;rw [Ub];intro c U;have:=List.all_eq_true.mp h _ (List.mem_map.mpr ⟨c,U,rfl⟩);rw [id,jw] at this;have O:∀c∈NSG.cps.toList,qT c=true:=by decide+kernel
 exact O c (uj this)
theorem xJ {z:Str}(h:nm z=true):okN z=true:=by
 have U:=jU h;cases O:inS ⟨#[z.cps.getD 0 0]⟩ LET with
 |false=>rw [nm_first O] at h;cases h
 |true=>
  rw [nm_rest (by omega) (by omega) O] at h
  exact h
theorem Xd {z:Str}(h:nm z=true):Qt (.tup [.str "made",.str z]):=by
 have O:=jU h;refine⟨⟨_,_,rfl⟩,?_,?_,by simp only [sz,szL];show 1+(("made":Str).length+1+(z.length+1+0))<=306;have:("made":Str).length=4:=rfl;omega⟩
 ·show(if eqD (.str "made") (.str "made")=true then nm z else(eqD (.str "made") (.str "leaf")||eqD (.str "made") (.str "rule"))&&isT (.str z))=true
  rw [if_pos (by decide+kernel)]
  exact h
 ·have:Q8 "made"=true:=by decide+kernel
  simp only [lw,lwL,this,Js (xJ h)]
  rfl
theorem src_leaf {k:Str}{d:D}(O:k="leaf"∨k="rule")(h:isT d=true)(U:lw d=true)(hz:sz d<=300):Qt (.tup [.str k,d]):=by
 have Y:k.length=4:=by rcases O with rfl|rfl<;>rfl
 refine⟨⟨_,_,rfl⟩,?_,?_,by simp only [sz,szL];omega⟩
 ·show(if eqD (.str k) (.str "made")=true then isNm d else(eqD (.str k) (.str "leaf")||eqD (.str k) (.str "rule"))&&isT d)=true
  have e1:eqD (.str k) (.str "made")=false:=by rcases O with rfl|rfl<;>decide+kernel
  have e2:(eqD (.str k) (.str "leaf")||eqD (.str k) (.str "rule"))=true:=by rcases O with rfl|rfl<;>decide+kernel
  rw [e1,e2,h]
  rfl
 ·have:Q8 k=true:=by
   rcases O with rfl|rfl<;>decide+kernel
  simp only [lw,lwL,this,U]
  rfl
theorem src_okS {d:D}(h:Qt d):okS d=true:=by
 obtain⟨⟨k,e,rfl⟩,_⟩:=h;simp [okS,okHd,trD,dp]
theorem src_dp {d:D}(h:Qt d):dp d<=13:=by
 obtain⟨⟨k,e,rfl⟩,h1,h2,_⟩:=h;have U:dp e<=12:=by
  have O:(if eqD (.str k) (.str "made")=true then isNm e else(eqD (.str k) (.str "leaf")||eqD (.str k) (.str "rule"))&&isT e)=true:=h1
  split at O
  ·cases e<;>simp [isNm] at O<;>simp [dp]
  ·rw [uH] at O;exact isT_dp O.2
 simp only [dp,dpL];omega
theorem strI' {H:Hp}{z:Str}(h:z.length<=16000000):Is H (.str z) (.str z):=⟨rfl,fits h⟩
theorem ge_trans:∀a b c:List Nat,Spec.ltCps b a=false->Spec.ltCps c b=false->Spec.ltCps c a=false
 | [],_,[],_,_=>rfl
 | [],_,_::_,_,_=>rfl
 |x::a,[],_,h,_=>by simp [Spec.ltCps] at h
 |x::a,y::b,[],_,h=>by simp [Spec.ltCps] at h
 |x::a,y::b,z::c,h1,h2=>by
  simp only [Spec.ltCps,Bool.or_eq_false_iff,Bool.and_eq_false_iff,decide_eq_false_iff_not,beq_eq_false_iff_ne,ne_eq] at*;refine⟨by omega,?_⟩
  by_cases e:z=x
  ·refine .inr (ge_trans a b c ?_ ?_)
   ·rcases h1.2 with h|h
    ·omega
    ·exact h
   ·rcases h2.2 with h|h
    ·omega
    ·exact h
  ·exact .inl e
theorem ge_anti:∀a b:List Nat,Spec.ltCps a b=false->Spec.ltCps b a=false->a=b
 | [],[],_,_=>rfl
 | [],_::_,h,_=>by simp [Spec.ltCps] at h
 |_::_,[],_,h=>by simp [Spec.ltCps] at h
 |x::a,y::b,h1,h2=>by
  simp only [Spec.ltCps,Bool.or_eq_false_iff,Bool.and_eq_false_iff,decide_eq_false_iff_not,beq_eq_false_iff_ne,ne_eq] at*;have e:x=y:=by omega
  subst e;rw [ge_anti a b (by rcases h1.2 with h|h;exact absurd rfl h;exact h) (by rcases h2.2 with h|h;exact absurd rfl h;exact h)]
theorem rising_pw:∀(l:List Str) (p:Str),risingS p l=true->(p::l).Pairwise (fun a b=>Spec.ltCps b.cps.toList a.cps.toList=false)
 | [],p,_=>List.pairwise_singleton ..
 |x::r,p,h=>by
  have h':(!Spec.ltCps x.cps.toList p.cps.toList&&risingS x r)=true:=h;rw [uH,Bool.not_eq_true'] at h';have U:=rising_pw r x h'.2;refine List.pairwise_cons.mpr ⟨fun b O=> ?_,U⟩;rcases List.mem_cons.mp O with rfl|O
  ·exact h'.1
  ·exact ge_trans _ _ _ h'.1 (List.rel_of_pairwise_cons U O)
theorem Jb {l:List Str}(h:sortedS l=true):l.Pairwise (fun a b=>Spec.ltCps b.cps.toList a.cps.toList=false):=by
 cases l with
 |nil=>exact List.Pairwise.nil
 |cons x r=>exact rising_pw r x h
theorem sorted_one {l m:List Str}(h1:sortedS l=true)(h2:sortedS m=true)(h:l.Perm m):l=m:=
 List.Perm.eq_of_pairwise (fun a b _ _ x y=>YL (ge_anti _ _ y x)) (Jb h1) (Jb h2) h
def yQ (ps:List (Str×D))(z:Str):D:=((ps.find? fun p=>decide (p.1=z)).map (·.2)).getD .non
def jC (vs:List (Str×V))(z:Str):V:=(valV (inrK vs) (Sum.inr z)).getD .non
theorem JD (p:Str×V)(r:List (Str×V)):inrK (p::r)=(Sum.inr p.1,p.2)::inrK r:=rfl
theorem look2 {H:Hp}{z:Str}:∀{ps:List (Str×D)}{vs:List (Str×V)},vs.map (·.1)=ps.map (·.1)->IsL H (ps.map (·.2)) (vs.map (·.2))->z∈ps.map (·.1)->valV (inrK vs) (Sum.inr z)=some (jC vs z)/\Is H (yQ ps z) (jC vs z)
 | [],_,_,_,h=>nomatch h
 |p::ps,[],e,_,_=>by simp at e
 |p::ps,v::vs,e,hi,hz=>by
  simp only [ua,vv] at e;obtain⟨u,r,e2,h1,h2⟩:=hi;simp only [ua,vv] at e2;obtain⟨rfl,rfl⟩:=e2;by_cases c:p.1=z
  ·have O:v.1=z:=e.1.trans c;have U:valV (inrK (v::vs)) (Sum.inr z)=some v.2:=by
    rw [JD];exact jX (by rw [O])
   have Y:yQ (p::ps) z=p.2:=by simp [yQ,uW,c]
   unfold jC;rw [U,Y];exact⟨rfl,h1⟩
  ·have O:¬v.1=z:=fun q=>c (e.1.symm.trans q);have U:valV (inrK (v::vs)) (Sum.inr z)=valV (inrK vs) (Sum.inr z):=by
    rw [JD];exact Y6 (fun q=>O (Sum.inr.inj q))
   have Y:yQ (p::ps) z=yQ ps z:=by simp [yQ,uW,c]
   have aa:z∈ps.map (·.1):=by
    rcases List.mem_cons.mp hz with h|h
    ·exact absurd h.symm c
    ·exact h
   have ih:=look2 e.2 h2 aa;unfold jC at*;rw [U,Y];exact ih
theorem look0 {z:Str}:∀{vs:List (Str×V)},z∉vs.map (·.1)->valV (inrK vs) (Sum.inr z)=none
 | [],_=>rfl
 |v::vs,h=>by
  rw [JD,Y6 (fun q=>h (by rw [<-Sum.inr.inj q];exact ui ..))]
  exact look0 fun m=>h (u5 _ m)
theorem re_map:∀{ps:List (Str×D)},(ps.map (·.1)).Nodup->(ps.map (·.1)).map (fun z=>(z,yQ ps z))=ps
 | [],_=>rfl
 |p::ps,h=>by
  have h':=List.nodup_cons.mp h;have O:yQ (p::ps) p.1=p.2:=by simp [yQ,uW]
  rw [ua,ua,O]
  congr 1
  refine Eq.trans (vx fun z U=> ?_) (re_map h'.2);have:¬p.1=z:=fun q=>h'.1 (by show p.1∈_;rw [q];exact U)
  simp [yQ,uW,this]
def tabOf (ps:List (Str×D))(ms:List Str):List (Str×D):=ms.map fun z=>(z,yQ ps z)
theorem XH (ps:List (Str×D))(O:List Str):(tabOf ps O).map (·.1)=O:=by
 unfold tabOf;rw [uG];exact(vx fun _ _=>rfl).trans (List.map_id O)
theorem tab_perm {ps:List (Str×D)}{O:List Str}(hn:(ps.map (·.1)).Nodup)(h:O.Perm (ps.map (·.1))):(tabOf ps O).Perm ps:=by
 have:=h.map fun z=>(z,yQ ps z);rw [re_map hn] at this;exact this
def j6 (C:Addr)(H:Hp)(x:Addr)(qs:List (Str×D)):Prop:=∃(dx d:Addr) (o:Obj) (vs:List (Str×V)),H x=some (.ins C dx [("by_name",.ref d)])/\H d=some (.frz o (.dK (inrK vs)))/\vs.map (·.1)=qs.map (·.1)/\L2.IsL H (qs.map (·.2)) (vs.map (·.2))
theorem j6.same {C:Addr}{H H':Hp}{x:Addr}{qs:List (Str×D)}(h:j6 C H x qs)(s:Same H H'):j6 C H' x qs:=by
 obtain⟨dx,d,o,vs,h1,h2,O,h4⟩:=h;exact⟨dx,d,o,vs,s _ _ h1,s _ _ h2,O,h4.mono s.tk⟩
def jT (qs:List (Str×D)):Prop:=PrOk qs/\sortedS (qs.map (·.1))=true/\qs.length<=60
def sp_init (C:Addr):Sp:=fun vs H Q _=>∃(x dx t:Addr) (ps:List (Str×D)) (us:List V),vs= [.ref x,.ref t]/\H x=some (.ins C dx [])/\H t=some (.tup us)/\L2.IsL H (ps.map prD) us/\PrOk ps/\ps.length<=60/\
 ∀(qs:List (Str×D)) (H':Hp),(∀b o,H b=some o->b≠x->H' b=some o)->j6 C H' x qs->jT qs->qs.Perm ps->Q .non H'
theorem Nms.perm {l m:List Str}(h:Nms m)(p:l.Perm m):Nms l:=⟨fun z O=>h.1 z (p.mem_iff.mp O),(p.nodup_iff).mpr h.2⟩
theorem dat_of {ps:List (Str×D)}{z:Str}{d:D}(hn:(ps.map (·.1)).Nodup)(h:(z,d)∈ps):yQ ps z=d:=by
 induction ps with
 |nil=>cases h
 |cons p r Y=>
  have O:=List.nodup_cons.mp hn;rcases List.mem_cons.mp h with h|h
  ·subst h;simp [yQ,uW]
  ·have:¬p.1=z:=fun q=>O.1 (by show p.1∈_;rw [q];exact List.mem_map.mpr ⟨_,h,rfl⟩)
   have U:=Y O.2 h
   simpa [yQ,uW,this] using U
theorem dat_mem {ps:List (Str×D)}{z:Str}(hn:(ps.map (·.1)).Nodup)(h:z∈ps.map (·.1)):(z,yQ ps z)∈ps:=by
 obtain⟨p,O,rfl⟩:=List.mem_map.mp h;rw [dat_of hn (show(p.1,p.2)∈ps from O)]
 exact O
theorem dat_perm {qs ps:List (Str×D)}{z:Str}(hn:(ps.map (·.1)).Nodup)(O:qs.Perm ps)(h:z∈ps.map (·.1)):yQ qs z=yQ ps z:=by
 have U:(qs.map (·.1)).Nodup:=((O.map _).nodup_iff).mpr hn;exact dat_of U (O.mem_iff.mpr (dat_mem hn h))
theorem tab_eq {qs ps:List (Str×D)}(hn:(ps.map (·.1)).Nodup)(O:qs.Perm ps):tabOf ps (qs.map (·.1))=qs:=by
 have U:(qs.map (·.1)).Nodup:=((O.map _).nodup_iff).mpr hn;refine Eq.trans ?_ (re_map U);unfold tabOf;refine vx fun z Y=> ?_;rw [dat_perm hn O ((O.map _).mem_iff.mp Y)]
theorem prD_lw {l:List (Str×D)}(hN:∀p∈l,nm p.1=true)(hS:∀p∈l,Qt p.2):lw (.tup (l.map prD))=true/\dp (.tup (l.map prD))<=16:=by
 have O:∀l:List (Str×D),(∀p∈l,nm p.1=true)->(∀p∈l,Qt p.2)->lwL (l.map prD)=true/\dpL (l.map prD)<=14:=by
  intro l
  induction l with
  |nil=>exact fun _ _=>⟨rfl,by simp [dpL]⟩
  |cons p r ih=>
   intro h1 h2;obtain⟨i1,i2⟩:=ih (fun q U=>h1 q (u5 _ U)) fun q U=>h2 q (u5 _ U);have g1:=Js (xJ (h1 p (ui ..)));have Y:=h2 p (ui ..);have g3:=src_dp Y;refine⟨?_,?_⟩
   ·rw [ua];simp only [lwL,prD,lw,g1,Y.2.2.1,i1]
    rfl
   ·rw [ua];simp only [dpL,prD,dp];omega
 obtain⟨h1,h2⟩:=O l hN hS;exact⟨by simpa only [lw] using h1,by simp only [dp];omega⟩
theorem inrK_snoc (vs:List (Str×V))(z:Str)(v:V):inrK (vs++ [(z,v)])=inrK vs++ [(Sum.inr z,v)]:=by
 unfold inrK;rw [ue]
 rfl
theorem mapG {α β:Type}(f:α->β){l:List α}{i:Nat}(h:i<l.length):(l.map f)[i]? =some (f l[i]):=by
 rw [um,u7 h]
 rfl
theorem take1 {α:Type}{l:List α}{i:Nat}(h:i<l.length):l.take (i+1)=l.take i++ [l[i]]:=by
 rw [vO,u7 h]
 rfl
theorem ok_init (T:Tx K mg a):FnOk P w K mg base CX0 4 a.yi a.Yt ["self","sources"] (sp_init a.qB):=by
 have Yi:=ok_name (P:=P) (w:=w) (base:=base) T;have YI:=ok_source (P:=P) (w:=w) (base:=base) T;refine T.g_Project_init.F.ok QC (by trivial) (fun _ _ _ _ H vs Q E hr h=> ?_)
 obtain⟨x,dx,t,ps,us,rfl,hx,ht,am,hok,aH,k⟩:=h;have hs:=uk;refine⟨_,(@qc _ _ _ _ _ (@qx _ _ (2) _ _ _ _ QC.nd rfl (Or.inr rfl) pe_dnewK (by trivial) (by trivial)) (@qc _ _ _ _ _ (@jG _ _ _ _ _ _ _ _ vw rfl (@pi_tup _ _ _ _ (pv 1)) (@pg_tup _ _ _ _ _ _ rfl (QD (@qG _ _ (3) _ QC.nd rfl (Or.inl rfl) (by trivial)) (QD (@qG _ _ (4) _ QC.nd rfl (Or.inl rfl) (by trivial)) J7)) (by trivial) (by trivial)) (@qc _ _ _ _ _ (@qH _ _ _ _ _ _ _ _ (@yo _ _ _ _ (@QU _ _ _ (@qk _ _ _ _ _ _ _ _ _ _ _ _ _ _ _ _ Yi (hr.mono (by trivial)) (by rfl) T.g_is_name.m T.g_is_name.F.kp T.g_is_name.b .nil qy (@qa _ _ _ _ _ (pv 3) qb (by trivial)) (by trivial) (by trivial) (by trivial)) (by trivial))) (@qd _ _ _ jV) qq) (@qc _ _ _ _ _ (@qH _ _ _ _ _ _ _ _ (@yo _ _ _ _ (@QU _ _ _ (@qk _ _ _ _ _ _ _ _ _ _ _ _ _ _ _ _ YI (hr.mono (by trivial)) (by rfl) T.g_is_source.m T.g_is_source.F.kp T.g_is_source.b .nil qy (@qa _ _ _ _ _ (pv 4) qb (by trivial)) (by trivial) (by trivial) (by trivial)) (by trivial))) (@qd _ _ _ jV) qq) (@qc _ _ _ _ _ (@qH _ _ _ _ _ _ _ _ (@pt_cmp _ _ _ _ _ _ (@pc_din _ _ _ _ _ (hu_of hr) (pv 3) (pv 2)) (by trivial)) (@qd _ _ _ jV) qq) (@qc _ _ _ _ _ (@qH _ _ _ _ _ _ _ _ (@qp _ _ _ _ _ _ _ _ Q1 (@qu _ _ _ _ _ _ _ _ _ call_lenD (by rfl) T.yL uD (@qa _ _ _ _ _ (pv 2) qb (by trivial)) (by trivial) (by trivial) (by trivial) (by trivial)) (@XI _ _ _ _ (by rfl) T.jF (by trivial)) (qz _)) (@qd _ _ _ jV) qq) (@qd _ _ _ (@ps_dput _ _ _ _ _ _ _ _ _ (hu_of hr) (pv 2) (pv 3) (pv 4) rfl)))))) (by trivial)) (@qd _ _ _ (@ps_fld _ _ _ _ _ _ _ _ (pv 0) (@Qh _ _ _ _ _ _ _ _ _ (@call_dictF _ rfl) (by rfl) T.z_dict boot_dict (@qa _ _ _ _ _ (@ji _ _ (["name","by_name"]) (1) ([2]) _ _ _ _ _ _ _ _ _ (lcsN (qj QQ) ["self","sources","by_name","name","source"]) rfl (@pi_list _ _ _ _ (@qu _ _ _ _ _ _ _ _ _ (@call_sortedD _ rfl) (by rfl) T.z_sorted boot_sorted (@qa _ _ _ _ _ (pv 2) qb (by trivial)) (by trivial) (by trivial) (by trivial) (by trivial))) (fun _ _ _ _ _ _=>(@qG _ _ (0) _ (show List.Nodup (["name","by_name"]:List Str) by decide+kernel) rfl (Or.inl rfl) (by trivial))) (fun _ _ _ _ _ _=> @QJ _) (fun _ _ _ _ _ _=>(@Qk _ _ _ _ _ (@qa _ _ _ _ _ (pv 0) (@qa _ _ _ _ _ (@pe_dget _ _ _ _ _ _ (hu_of hr) (pv 1) (pv 0) (fun _ _=>rfl)) qb (by trivial)) (by trivial)))) (by trivial)) qb (by trivial)) (by trivial) (by trivial) (by trivial) (by trivial)) rfl)))),?_⟩
 intro d hd;have s1:Same H (upd H d (.dK [])):=qf hd _;have aI:d≠x:=fun e=>by rw [e,hx] at hd;cases hd
 have ao:=am.length;rw [u3] at ao;refine⟨_,rfl,t,rfl,⟨_,SqT.of (s1 _ _ ht)⟩,for_tup (K:=K) (a:=t) (xs:=us) (fun i σ H'=>∃(vs:List (Str×V)) (nv sv:Option V),σ= [some (.ref x),some (.ref t),some (.ref d),nv,sv]/\Same H H'/\H' d=some (.dK (inrK vs))/\vs.map (·.1)=(ps.take i).map (·.1)/\L2.IsL H' ((ps.take i).map (·.2)) (vs.map (·.2)))
  ⟨[],none,none,rfl,s1,qe,rfl,rfl⟩ (fun i σ H' _ ⟨_,_,_,_,sm,_⟩=>SqT.of (sm _ _ ht)) ?_ ?_⟩
 ·rintro i y σ H' hi ⟨vs,nv,sv,rfl,sm,ac,hk,hv⟩;have aJ:i<us.length:=(List.getElem?_eq_some_iff.mp hi).1;have U:i<ps.length:=by omega
  obtain⟨v,e1,e2⟩:=am.get (mapG prD U);rw [hi] at e1;cases e1;have ap:=hok.2 _ (uv U);have ax:nm ps[i].1=true:=hok.1.1 _ (List.mem_map.mpr ⟨_,uv U,rfl⟩);obtain⟨⟨sk,sd,aK⟩,ay,aL⟩:=ap;obtain⟨p,ws,rfl,hp,w1,r1,rfl,⟨rfl,hz⟩,w2,r2,rfl,h2,h3⟩:=e2;cases(show r2= [] from h3)
  have az:=sm _ _ hp;refine⟨p,_,rfl,SqT.of az,rfl,_,_,rfl,_,_,rfl,rfl,?_⟩;refine⟨_,rfl,_,.str ps[i].1,rfl,⟨rfl,hz⟩,fun H3 s3=>⟨_,rfl,iteN (by simp [isNm,ax]) ?_⟩⟩
  have aq:Is H3 ps[i].2 w2:=h2.mono (sm.trans s3).tk;refine⟨_,rfl,w2,ps[i].2,rfl,aq,src_okS (hok.2 _ (uv U)),fun H4 s4=>⟨_,rfl,iteN (by rw [ay];rfl) ?_⟩⟩
  have af:=s3.trans s4;have ad:=af _ _ ac;have nk:ps[i].1∉vs.map (·.1):=by
   rw [hk];have aa:=hok.1.2;have e:ps.map (·.1)=(ps.take i).map (·.1)++ps[i].1::(ps.drop (i+1)).map (·.1):=by
    rw [<-ua (f:=fun x:Str×D=>x.1),<-ut U,<-ue,List.take_append_drop]
   rw [e,List.nodup_append] at aa;exact fun m=>aa.2.2 _ m _ (ui ..) rfl
  have ev:=look0 nk;have aA:vs.length=i:=by
   have:=congrArg List.length hk;rw [u3,u3,vz] at this;omega
  refine⟨_,rfl,_,rfl,d,_,rfl,DGet.k (k:=Sum.inr ps[i].1) ad,_,rfl,iteN (by rw [ev];rfl) ?_⟩
  refine⟨_,rfl,d,_,rfl,ad,rfl,_,rfl,iteN (ud fun q=> ?_) ?_⟩
  ·have:=V.int.inj q;unfold inrK at this;rw [u3] at this;omega
  ·have aB:(inrK vs).length<sizeLine:=by
    unfold inrK;rw [u3];omega
   refine⟨_,rfl,_,rfl,_,rfl,d,_,rfl,DPut.k (k:=Sum.inr ps[i].1) ad aB,?_⟩;have tk:Tk H4 (upd H4 d (.dK (putK (inrK vs) (Sum.inr ps[i].1) w2))):=Tk.updD ad;refine⟨vs++ [(ps[i].1,w2)],_,_,rfl,?_,?_,?_,?_⟩
   ·intro b o e;rw [ql (qh e hd)];exact(sm.trans af) _ _ e
   ·rw [qe,putK_new _ ev,inrK_snoc]
   ·rw [take1 U,ue,ue,hk]
    rfl
   ·rw [take1 U,ue,ue];exact(((hv.mono af.tk).mono tk)).append (L2.IsL.one ((aq.mono s4.tk).mono tk))
 ·rintro σ H1 ⟨vs,nv,sv,rfl,sm,ac,hk,hv⟩;rw [ao,vE] at hk hv;have aA:vs.length=ps.length:=by
   have:=congrArg List.length hk
   rwa [u3,u3] at this
  have ag:(inrK vs).map (·.1)=(ps.map (·.1)).map Sum.inr:=by rw [inrK_keys,hk]
  refine⟨_,rfl,d,inrK vs,ps.map (·.1),rfl,ac,ag,by rw [u3];omega,fun Y q O ah hq=>⟨q,rfl,⟨_,SqL.of qe⟩,fun A0 ai=> ?_⟩⟩
  have s2:Same H1 (upd H1 q (.lst (Y.map V.str))):=qf hq _;have aM:Y.length=ps.length:=by
   have:=O.length_eq
   rwa [u3] at this
  refine lc_strs (K:=K) (tl:= [some (.ref d)]) (fun i ys H'=>∃ts:List Addr,ys=ts.map V.ref/\ts.length=i/\Same H1 H'/\H' A0=some (.lst ys)/\∀(j:Nat) (t:Addr) (z:Str),ts[j]? =some t->Y[j]? =some z->H' t=some (.tup [.str z,jC vs z])) qe (by omega) ai
   ⟨[],rfl,rfl,s2.trans (qf ai _),qe,fun j t z h=>by simp at h⟩ ?_ ?_
  ·rintro i z ys H' hz ⟨ts,rfl,ae,s3,hA,aj⟩ _ _ _ R r;have aC:z∈ps.map (·.1):=O.mem_iff.mp (uE hz);have lk:=look2 hk hv aC;refine⟨_,rfl,_,rfl,_,rfl,d,jC vs z,rfl,?_,(by show 2<=sizeLine;omega),fun t2 ak=> ?_⟩
   ·have:=DGet.k (k:=Sum.inr z) (s3 _ _ ac);rw [lk.1] at this;exact this
   ·have s4:=qf ak (.tup [V.str z,jC vs z]);have aD:t2≠A0:=fun e=>by rw [e,hA] at ak;cases ak
    refine r _ _ (s4 _ _ hA) (s4 _ _ (by assumption)) ⟨ts++ [t2],by rw [ue];rfl,by rw [uf,ae];rfl,?_,qe,?_⟩
    ·intro b o e;have nb:b≠A0:=qh (s2 _ _ e) ai;rw [ql nb];exact s4 _ _ (s3 _ _ e)
    ·intro j t z' h1 h2;rcases uZ j i with hj|hj
     ·rw [vI (by omega)] at h1
      have:=aj j t z' h1 h2;have nb:t≠A0:=fun e=>by rw [e,hA] at this;cases this
      rw [ql nb];exact s4 _ _ this
     ·have aE:j=i:=by
       have:=(List.getElem?_eq_some_iff.mp h1).1;rw [uf] at this;have:j<ts.length+1:=this;omega
      subst aE;rw [hz] at h2;cases h2;rw [vy (by omega),ae,Nat.sub_self] at h1
      cases h1;rw [ql aD];exact qe
  ·rintro ys H2 ⟨ts,rfl,ae,s3,hA,aj⟩ _;have aa:=hok.1.2;have aF:Y.Nodup:=O.nodup_iff.mpr aa;have au:(Y.map fun z=>(z,jC vs z)).map (·.1)=Y:=by
    rw [uG];exact(vx fun _ _=>rfl).trans (List.map_id Y)
   refine⟨A0,Y.map fun z=>(z,jC vs z),rfl,⟨ts,hA,by rw [u3];exact ae,fun j t p h1 h2=> ?_⟩,by rw [au];exact aF,by rw [u3];omega,fun q2 o al=> ?_⟩
   ·rw [um] at h2;cases h3:Y[j]? with
    |none=>rw [h3] at h2;cases h2
    |some z=>
     rw [h3] at h2;cases h2;exact aj j t z h1 h3
   ·have s4:=qf al (.frz o (.dK (inrK (Y.map fun z=>(z,jC vs z)))));have av:H1 x=some (.ins a.qB dx []):=sm _ _ hx;have aw:=s4 _ _ (s3 _ _ av);have nq:q2≠x:=fun e=>by rw [e,s3 _ _ av] at al;cases al
    refine⟨_,rfl,x,a.qB,dx,[],rfl,aw,T.QF,T.yq,(by show 0<1000;decide),?_⟩
    refine k (tabOf ps Y) _ ?_ ⟨dx,q2,o,Y.map fun z=>(z,jC vs z),qe,by rw [ql nq];exact qe,by rw [au,XH],?_⟩ ⟨⟨?_,?_⟩,by rw [XH];exact ah,by unfold tabOf;rw [u3];omega⟩ (tab_perm aa O)
    ·intro b ob e nb;rw [ql nb];exact s4 _ _ (s3 _ _ (sm _ _ e))
    ·have tk:Tk H1 (upd (upd H2 q2 (.frz o (.dK (inrK (Y.map fun z=>(z,jC vs z)))))) x (.ins a.qB dx (putF "by_name" (.ref q2) []))):=(s3.trans s4).tk.trans (Tk.updI aw);have aG:∀l:List Str,(∀z∈l,z∈ps.map (·.1))->L2.IsL H1 ((tabOf ps l).map (·.2)) ((l.map fun z=>(z,jC vs z)).map (·.2)):=by
      intro l
      induction l with
      |nil=>exact fun _=>rfl
      |cons z r ih=>exact fun h=>⟨_,_,rfl,(look2 hk hv (h z (ui ..))).2,ih fun y hy=>h y (u5 _ hy)⟩
     exact(aG Y fun z hz=>O.mem_iff.mp hz).mono tk
    ·rw [XH];exact hok.1.perm O
    ·intro p hp;exact hok.2 p ((tab_perm aa O).mem_iff.mp hp)
theorem fld_by {v:V}:List.lookup ("by_name":Str) [(("by_name":Str),v)]=some v:=by simp [List.lookup]
theorem yu {v:V}:List.lookup ("sources":Str) [(("by_name":Str),v)]=none:=by
 have:(("sources":Str)=="by_name")=false:=by decide+kernel
 simp [List.lookup,this]
def sp_sources (C:Addr):Sp:=fun vs H Q _=>∃(x:Addr) (qs:List (Str×D)),vs= [.ref x]/\j6 C H x qs/\jT qs/\∀(v:V) (H':Hp),Same H H'->Is H' (.tup (qs.map prD)) v->Q v H'
theorem prs_is {H:Hp}{qs:List (Str×D)}{vs:List (Str×V)}{ts:List Addr}(O:vs.map (·.1)=qs.map (·.1))(hi:L2.IsL H (qs.map (·.2)) (vs.map (·.2)))(U:ts.length=vs.length)(Y:∀p∈qs,p.1.length<=100)
  (ht:∀(j:Nat) (t:Addr) (p:Str×V),ts[j]? =some t->vs[j]? =some p->H t=some (.tup [.str p.1,p.2])):L2.IsL H (qs.map prD) (ts.map V.ref):=by
 induction qs generalizing vs ts with
 |nil=>
  have:vs= []:=by simpa using O
  subst this;have:ts= []:=by simpa using U
  subst this
  rfl
 |cons q qs ih=>
  cases vs with
  |nil=>simp at O
  |cons v vs=>
   cases ts with
   |nil=>simp at U
   |cons t ts=>
    simp only [ua,vv] at O;obtain⟨u,r,e2,h1,h2⟩:=hi;simp only [ua,vv] at e2;obtain⟨rfl,rfl⟩:=e2;have e0:=ht 0 t v rfl rfl;have hq:=Y q (ui ..);refine⟨_,_,rfl,⟨t,_,rfl,e0,⟨_,_,rfl,⟨by rw [O.1],fits (by omega)⟩,_,_,rfl,h1,rfl⟩⟩,ih O.2 h2 (by simpa using U) (fun p hp=>Y p (u5 _ hp)) fun j t' p h3 h4=>ht (j+1) t' p (by simpa using h3) (by simpa using h4)⟩
theorem Ym (T:Tx K mg a):FnOk P w K mg base CX0 1 a.yw a.yp ["self"] (sp_sources a.qB):=by
 refine T.g_Project_sources.F.ok Y3 (by trivial) (fun _ _ _ _ H vs Q E hr h=> ?_)
 obtain⟨x,qs,rfl,⟨dx,d,o,vs,U,hd,Y,hv⟩,hT,k⟩:=h;refine⟨_,(@qd _ _ _ (@qo _ _ _ _ (@pe_tupItems _ _ _ _ _ _ _ _ rfl (by rfl) T.Q7 vU (@xQ _ _ _ _ _ (pv 0) rfl) (by trivial) (by trivial) (by trivial) (by trivial) (by trivial) (by trivial)))),?_⟩
 refine⟨_,rfl,x,a.qB,dx,_,_,rfl,U,T.QF,T.yq,fld_by,d,inrK vs,rfl,.inr ⟨o,hd⟩,fun t ts H2 s2 _ ht O=> ?_⟩;refine k _ H2 s2 ⟨t,_,rfl,ht,prs_is Y (hv.mono s2.tk) ?_ (fun p hp=> ?_) fun j t' p h1 h2=> ?_⟩
 ·have:=O.1;unfold inrK at this
  rwa [u3] at this
 ·have:=jU (hT.1.1.1 p.1 (List.mem_map.mpr ⟨p,hp,rfl⟩));omega
 ·have:=O.2 j t' (Sum.inr p.1,p.2) h1 (by unfold inrK;rw [um,h2];rfl)
  exact this
def kd:D->Str
 | .tup (.str k::_)=>k
 |_=>""
def wh:D->Str
 | .tup [.str k,.str y]=>if k="made" then y else txt (.str y)
 | .tup [.str _,e]=>txt e
 |_=>""
def qF (p:Str×D):Str:=Str.join " " [kd p.2,p.1,wh p.2]
def ptxt (qs:List (Str×D)):Str:=Str.join "" (qs.map fun p=>qF p++"\n")
theorem yz {k:Str}(h:k="leaf"∨k="rule"):k≠"made":=by rcases h with rfl|rfl<;>decide+kernel
theorem str_eqD {k y:Str}:eqD (.str k) (.str y)=true↔k=y:=by simp [eqD]
theorem Y0 {d:D}(h:Qt d):(∃y,d= .tup [.str "made",.str y]/\nm y=true)∨∃k e,d= .tup [.str k,e]/\(k="leaf"∨k="rule")/\isT e=true/\lw e=true/\sz e<=300:=by
 obtain⟨⟨k,e,rfl⟩,h1,h2,h3⟩:=h;have O:(if eqD (.str k) (.str "made")=true then isNm e else(eqD (.str k) (.str "leaf")||eqD (.str k) (.str "rule"))&&isT e)=true:=h1
 by_cases c:eqD (.str k) (.str "made")=true
 ·rw [if_pos c] at O;cases e with
  |str y=>exact .inl ⟨y,by rw [str_eqD.mp c],O⟩
  |_=>simp [isNm] at O
 ·rw [if_neg c,uH,Bool.or_eq_true] at O;have Y:k="leaf"∨k="rule":=by
   rcases O.1 with h|h
   ·exact .inl (str_eqD.mp h)
   ·exact .inr (str_eqD.mp h)
  have U:lw e=true:=by
   simp only [lw,lwL,uH] at h2;exact h2.2.1
  have hl:k.length=4:=by rcases Y with rfl|rfl<;>rfl
  refine .inr ⟨k,e,rfl,Y,O.2,U,?_⟩;simp only [sz,szL] at h3;omega
theorem x6 {k:Str}{e:D}(h:k≠"made"):wh (.tup [.str k,e])=txt e:=by
 cases e<;>simp [wh,h]
theorem Xl (y:Str):wh (.tup [.str "made",.str y])=y:=by simp [wh]
theorem esc_ok:∀l:List Nat,l.all qT=true->(esc l).all qT=true
 | [],_=>rfl
 |c::r,h=>by
  rw [uM,uH] at h;have e:esc (c::r)=esc [c]++esc r:=esc_app [c] r;rw [e,uN,esc_ok r h.2,UA,XN];split
  ·decide
  ·split
   ·decide
   ·simp [h.1]
mutual
theorem txt_ok:∀{d:D},lw d=true->(txt d).cps.toList.all qT=true
 | .str z,h=>by
  rw [yb,uM,uN,esc_ok _ (by simpa [lw,Q8] using h)]
  decide
 | .tup xs,h=>by
  rw [QZ,uM,uN,jn_ok (by simpa [lw] using h)]
  decide
 | .non,h=>by simp [lw] at h
 | .bl _,h=>by simp [lw] at h
 | .int _,h=>by simp [lw] at h
 | .lst,h=>by simp [lw] at h
 | .dct,h=>by simp [lw] at h
theorem jn_ok:∀{xs:List D},lwL xs=true->(jn xs).all qT=true
 | [],_=>rfl
 | [x],h=>by
  have h':lw x=true:=by simpa [lwL] using h
  rw [yC,uN,txt_ok h']
  rfl
 |x::y::r,h=>by
  have h':lw x=true/\lwL (y::r)=true:=by simpa [lwL] using h
  rw [yC,uN,txt_ok h'.1];show(true&&List.all (32::jn (y::r)) qT)=true;rw [uM,jn_ok h'.2]
  decide
end
theorem okN_free {z:Str}(h:okN z=true):Free z:=fun hm=>by
 have:=List.all_eq_true.mp h _ (List.mem_map.mpr ⟨32,hm,rfl⟩);rw [id,jw] at this;exact absurd (uj this) (by decide+kernel)
theorem kd_ok {d:D}(h:Qt d):(kd d).length=4/\Q8 (kd d)=true/\Free (kd d):=by
 rcases Y0 h with⟨y,rfl,_⟩|⟨k,e,rfl,O,_⟩
 ·exact⟨rfl,(show Q8 "made"=true by decide+kernel),by show(32:Nat)∉("made":Str).cps.toList;decide+kernel⟩
 ·show k.length=4/\Q8 k=true/\Free k;rcases O with rfl|rfl
  ·exact⟨rfl,by decide+kernel,by show(32:Nat)∉("leaf":Str).cps.toList;decide+kernel⟩
  ·exact⟨rfl,by decide+kernel,by show(32:Nat)∉("rule":Str).cps.toList;decide+kernel⟩
theorem wh_ok {d:D}(h:Qt d):(wh d).length<=899/\Q8 (wh d)=true:=by
 rcases Y0 h with⟨y,rfl,hn⟩|⟨k,e,rfl,U,Y,O,hz⟩
 ·rw [Xl];have:=jU hn;exact⟨by omega,Js (xJ hn)⟩
 ·rw [x6 (yz U)];have:=Yc e (lw_sh O);exact⟨by omega,txt_ok O⟩
theorem join3 (a b c:Str):(Str.join " " [a,b,c]).cps.toList=a.cps.toList++32::(b.cps.toList++32::c.cps.toList):=by
 rw [L2.Y9,L2.Y9]
 rfl
theorem yy {p:Str×D}(hn:nm p.1=true)(h:Qt p.2):(qF p).length<=929:=by
 have h1:=kd_ok h;have h2:=wh_ok h;have O:=jU hn;rw [qC,qF,join3];simp only [uf,ul,<-qC];omega
theorem line_free {p:Str×D}(hn:nm p.1=true)(h:Qt p.2):10∉(qF p).cps.toList:=fun hm=>by
 have O:(qF p).cps.toList.all qT=true:=by
  rw [qF,join3,uN,uM,uN,uM];rw [show(kd p.2).cps.toList.all qT=true from(kd_ok h).2.1,show p.1.cps.toList.all qT=true from Js (xJ hn),show(wh p.2).cps.toList.all qT=true from(wh_ok h).2]
  decide
 exact absurd (List.all_eq_true.mp O 10 hm) (by decide)
theorem line_split {p:Str×D}(hn:nm p.1=true)(h:Qt p.2):spl 2 (qF p)= [kd p.2,p.1,wh p.2]:=by
 have:=spl_join [kd p.2,p.1] (wh p.2) 0 (fun q O=> ?_) (.inl rfl)
 ·exact this
 ·rcases List.mem_cons.mp O with rfl|O
  ·exact(kd_ok h).2.2
  ·cases List.mem_singleton.mp O;exact okN_free (xJ hn)
theorem JA:∀(ls:List Str) (m:Nat) (t:List Nat),(∀z∈ls,10∉z.cps.toList)->cutL 10 (ls.length+m) ((ls.flatMap fun z=>(z++"\n":Str).cps.toList)++t)=(ls.map fun z=>z.cps.toList)++cutL 10 m t
 | [],m,t,_=>by simp
 |z::r,m,t,h=>by
  have e:(z++"\n":Str).cps.toList=z.cps.toList++ [10]:=by
   rw [uP,ur]
   rfl
  rw [List.flatMap_cons,e,uq,uq,show(z::r).length+m=(r.length+m)+1 by simp;omega]
  show cutL 10 (r.length+m+1) (z.cps.toList++10::((r.flatMap fun z=>(z++"\n":Str).cps.toList)++t))=_;rw [Xh (h z ui),JA r m t fun y O=>h y (u5 _ O)]
  rfl
theorem XB:∀ls:List Str,ls.length<=(ls.flatMap fun z=>(z++"\n":Str).cps.toList).length
 | []=>by simp
 |z::r=>by
  have:=XB r;rw [List.flatMap_cons,uf,ul,<-qC,qM];show _<=z.length+1+_;omega
theorem XC (qs:List (Str×D)):(ptxt qs).cps.toList=(qs.map qF).flatMap fun z=>(z++"\n":Str).cps.toList:=by
 unfold ptxt;rw [glue,List.flatMap_map,List.flatMap_map]
theorem ptxt_split {qs:List (Str×D)}(hn:∀p∈qs,nm p.1=true)(Y:∀p∈qs,Qt p.2)(t:Str):∃m,t.length<=m/\splL ((ptxt qs++t).length+1) (ptxt qs++t)=qs.map qF++splL (m+1) t:=by
 have h1:=XB (qs.map qF);have O:(ptxt qs++t:Str).cps.toList=((qs.map qF).flatMap fun z=>(z++"\n":Str).cps.toList)++t.cps.toList:=by rw [uP,ur,XC]
 have e2:(ptxt qs++t:Str).length=((qs.map qF).flatMap fun z=>(z++"\n":Str).cps.toList).length+t.length:=by rw [qC,O,uf,<-qC]
 refine⟨((qs.map qF).flatMap fun z=>(z++"\n":Str).cps.toList).length-(qs.map qF).length+t.length,by omega,?_⟩
 unfold splL;rw [O,e2,show∀x:Nat,(qs.map qF).length<=x->x+t.length+1=(qs.map qF).length+((x-(qs.map qF).length+t.length)+1) from fun x hx=>by omega]
 ·rw [JA _ _ _ fun z hz=> ?_]
  ·rw [ue,uG]
   congr 1
   refine Eq.trans (vx fun z _=> ?_) (List.map_id _);exact Qu z
  ·obtain⟨p,U,rfl⟩:=List.mem_map.mp hz;exact line_free (hn p U) (Y p U)
 ·exact h1
theorem sums {c:Nat}:∀{l:List Str},(∀z∈l,z.length<=c)->(l.map (·.length)).sum<=l.length*c
 | [],_=>by simp
 |z::r,h=>by
  have:=sums fun y O=>h y (u5 _ O);have:=h z ui;simp only [ua,vo,ul,Nat.add_mul,Nat.one_mul];omega
theorem XA {qs:List (Str×D)}(hl:qs.length<=60)(hn:∀p∈qs,nm p.1=true)(U:∀p∈qs,Qt p.2):(ptxt qs).length<=60000:=by
 rw [qC,XC,List.length_flatMap];have e:∀l:List Str,(l.map fun z=>(z++"\n":Str).cps.toList.length).sum=((l.map fun z=>(z++"\n":Str)).map (·.length)).sum:=by
  intro l
  induction l with
  |nil=>rfl
  |cons z r Y=>simp only [ua,vo,Y];rw [qC]
 rw [e];refine uQ (sums (c:=930) fun z hz=> ?_) ?_
 ·obtain⟨y,hy,rfl⟩:=List.mem_map.mp hz;obtain⟨p,O,rfl⟩:=List.mem_map.mp hy;have:=yy (hn p O) (U p O);rw [qM];show _+1<=_;omega
 ·rw [u3,u3];omega
def sp_sline:Sp:=fun vs H Q _=>∃(z:Str) (v:V) (d:D),vs= [.str z,v]/\Is H d v/\Qt d/\nm z=true/\∀H',Same H H'->Q (.str (qF (z,d))) H'
def sp_wle:Sp:=fun vs H Q _=>∃(L:Addr) (zs:List Str),vs= [.ref L]/\H L=some (.lst (zs.map V.str))/\zs.length<=60/\(∀z∈zs,z.length<=1000)/\∀H',Same H H'->Q (.str (Str.join "" (zs.map fun z=>z++"\n"))) H'
def sp_ptext (C:Addr):Sp:=fun vs H Q _=>∃(x:Addr) (qs:List (Str×D)),vs= [.ref x]/\j6 C H x qs/\jT qs/\∀H',Same H H'->Q (.str (ptxt qs)) H'
theorem lc_pairs {K:PySem.W.Frag}{a A:Addr}{H1:Hp}{Q:VK}{te:TE}{ps:List (Str×D)}{vs:List V}(f:Str×D->D)(ha:H1 a=some (.tup vs))(hl:L2.IsL H1 (ps.map prD) vs)(hn:ps.length<=sizeLine)(hA:H1 A=none)
  (aa:∀p v H (R:VK),p∈ps->Same H1 H->Is H p.2 v->(∀y H',Same H H'->Is H' (f p) y->R y H')->te [some (.str p.1),some v] H R)
  (hQ:∀H' ys,Same H1 H'->H' A=some (.lst ys)->L2.IsL H' (ps.map f) ys->Q (.ref A) H'):lcGo A (Itt K a) (gTup K 2 (gCons (Y8 0) (gCons (Y8 1) gNil))) tYes te [none,none] H1 Q:=by
 have ln:vs.length=ps.length:=by rw [hl.length,u3]
 refine⟨ps.length,fun i σ ys H=>(∃w1 w2,σ= [w1,w2])/\L2.IsL H ((ps.take i).map f) ys/\Same H1 H,hn,⟨⟨none,none,rfl⟩,rfl,qf hA _⟩,?_,?_⟩
 ·rintro i σ ys H hi ⟨⟨w1,w2,rfl⟩,hy,O⟩ U af;refine⟨⟨vs,vs[i]'(by omega),SqT.of (O _ _ ha),u7 _⟩,fun x H' y=> ?_⟩
  obtain⟨rfl,y⟩:=y;obtain⟨v,e1,e2⟩:=hl.get (d:=prD ps[i]) (i:=i) (by rw [um,u7 hi];rfl)
  have e3:=y vs (SqT.of (O _ _ ha));rw [e1] at e3;cases e3;obtain⟨b0,zs,rfl,ac,qv,r1,rfl,⟨rfl,ag⟩,cv,r2,rfl,ad,ae⟩:=e2.mono O.tk;cases(show r2= [] from ae)
  refine⟨b0,_,rfl,SqT.of ac,rfl,_,_,rfl,_,_,rfl,rfl,?_⟩;dsimp only [tYes];rw [if_pos rfl];refine aa ps[i] cv H' _ (uv hi) O ad fun y H4 s4 i4=> ?_;have Y:=s4 _ _ U;refine⟨Y,⟨_,_,rfl⟩,?_,fun b o e=>by rw [ql (qh e hA)];exact s4 _ _ (O b o e)⟩
  have t:Tk H4 (upd H4 A (.lst (ys++ [y]))):=Tk.updL Y;have et:(ps.take (i+1)).map f=(ps.take i).map f++ [f ps[i]]:=by rw [vO,u7 hi,ue];rfl
  rw [et];exact((hy.mono s4.tk).mono t).append (L2.IsL.one (i4.mono t))
 ·rintro σ ys H ⟨_,hy,O⟩ U;rw [vE] at hy;exact⟨⟨vs,SqT.of (O _ _ ha),Nat.le_of_eq ln⟩,hQ H ys O U hy⟩
theorem ok_sline (T:Tx K mg a):FnOk P w K mg base CX0 15 a.YX a.jl ["name","source"] sp_sline:=by
 have YJ:FnOk P w K mg base CX0 14 a.ya a.Q4 ["tree"] (QE 13):=ok_ttext T 13;refine T.g_source_line.F.ok xf (by trivial) (fun _ _ _ s H _ Q E hr h=> ?_)
 obtain⟨z,v,d,rfl,hv,hS,hn,k⟩:=h;have hs:=uk;have hk:=kd_ok hS;have hw:=wh_ok hS;have hz:=jU hn;refine⟨_,(@qd _ _ _ (@qo _ _ _ _ (@QY _ _ _ _ _ _ _ _ _ _ _ _ uo uw uy QI qi (@qa _ _ _ _ _ (@q9 _ _ _ _ (@qa _ _ _ _ _ (@qP _ _ _ _ _ _ _ Qn (pv 1) qg (fun _ _=>rfl)) (@qa _ _ _ _ _ (pv 0) (@qa _ _ _ _ _ (@XD _ _ _ _ _ _ _ _ (@qp _ _ _ _ _ _ _ _ Q1 (@qP _ _ _ _ _ _ _ Qn (pv 1) qg (fun _ _=>rfl)) qi (qz _)) (@qP _ _ _ _ _ _ _ Qn (pv 1) qg (fun _ _=>rfl)) (@qk _ _ _ _ _ _ _ _ _ _ _ _ _ _ _ _ YJ (hr.mono (by trivial)) (by rfl) T.g_tree_text.m T.g_tree_text.F.kp T.g_tree_text.b .nil qy (@qa _ _ _ _ _ (@qP _ _ _ _ _ _ _ Qn (pv 1) qg (fun _ _=>rfl)) qb (by trivial)) (by trivial) (by trivial) (by trivial))) qb (by trivial)) (by trivial)) (by trivial))) qb (by trivial)) (by trivial) (by trivial) (by trivial) (by trivial) (by trivial)))),?_⟩
 have O:∀H',Same H H'->(([.str (kd d),.str z,.str (wh d)]:List V).length<=sizeLine/\∀p,H' p=none->rJoin K (.str " ") [.ref p] (upd H' p (.lst [.str (kd d),.str z,.str (wh d)])) Q):=fun H' s'=>by
  refine⟨by show 3<=sizeLine;omega,fun p U=>⟨" ",p,[kd d,z,wh d],rfl,rfl,SqL.of qe,?_,k _ (s'.trans (qf U _))⟩⟩
  simp only [ua,vP,vo,List.sum_nil,ul,List.length_nil];have:(" ":Str).length=1:=rfl;omega
 rcases Y0 hS with⟨y,rfl,hy⟩|⟨kk,e,rfl,Y,ht,hl,hsz⟩
 ·obtain⟨p,us,rfl,U,x1,r1,rfl,⟨rfl,_⟩,x2,r2,rfl,⟨rfl,_⟩,h3⟩:=hv;cases(show r2= [] from h3)
  refine⟨rfl,_,rfl,p,_,_,_,rfl,rfl,SqT.of U,rfl,_,rfl,_,rfl,p,_,_,_,rfl,rfl,SqT.of U,rfl,rfl,_,rfl,?_⟩;refine iteB (by decide+kernel) ⟨_,rfl,p,_,_,_,rfl,rfl,SqT.of U,rfl,?_⟩
  rw [Xl] at O;exact O H (Same.refl _)
 ·obtain⟨p,us,rfl,U,x1,r1,rfl,⟨rfl,_⟩,x2,r2,rfl,h2,h3⟩:=hv;cases(show r2= [] from h3)
  have hd:=isT_dp ht;refine⟨rfl,_,rfl,p,_,_,_,rfl,rfl,SqT.of U,rfl,_,rfl,_,rfl,p,_,_,_,rfl,rfl,SqT.of U,rfl,rfl,_,rfl,?_⟩;refine iteN (ud fun q=>yz Y (V.str.inj q)) ⟨_,rfl,p,_,_,_,rfl,rfl,SqT.of U,rfl,x2,e,rfl,h2,lw_sh hl,by omega,by omega,fun H1 s1=> ?_⟩
  rw [x6 (yz Y)] at O;exact O H1 s1
theorem ok_wle (T:Tx K mg a):FnOk P w K mg base CX0 1 a.yM a.yO ["lines"] sp_wle:=by
 refine T.g_with_line_ends.F.ok jp (by trivial) (fun _ _ _ _ H _ Q E hr h=> ?_)
 obtain⟨L,zs,rfl,hL,hl,hz,k⟩:=h;have hs:=uk;refine⟨_,(@qd _ _ _ (@qo _ _ _ _ (@QY _ _ _ _ _ _ _ _ _ _ _ _ uo uw uy QI qi (@qa _ _ _ _ _ (@ji _ _ (["line"]) (1) ([]) _ _ _ _ _ _ _ _ _ (lcs0) rfl (@pi_list _ _ _ _ (pv 0)) (fun _ _ _ _ _ _=>(@qG _ _ (0) _ (show List.Nodup (["line"]:List Str) by decide+kernel) rfl (Or.inl rfl) (by trivial))) (fun _ _ _ _ _ _=> @QJ _) (fun _ _ _ _ _ _=>(@pe_ft _ _ _ _ _ _ _ _ (pv 0))) (by trivial)) qb (by trivial)) (by trivial) (by trivial) (by trivial) (by trivial) (by trivial)))),?_⟩
 refine⟨rfl,_,rfl,L,rfl,⟨_,SqL.of hL⟩,fun A0 O=> ?_⟩;refine lc_strs (K:=K) (tl:= []) (fun i ys H'=>ys=((zs.take i).map fun z=>(z++"\n":Str)).map V.str/\Same H H') hL (by omega) O ⟨rfl,qf O _⟩ ?_ ?_
 ·rintro i z ys H' hi ⟨rfl,s1⟩ U Y _ R r;have:=hz z (uE hi);refine⟨_,rfl,z,rfl,(by show z.length+1<=_;omega),r _ _ U Y ⟨?_,fun b o e=>by rw [ql (qh e O)];exact s1 _ _ e⟩⟩
  rw [vO,hi,ue,ue]
  rfl
 ·rintro ys H' ⟨rfl,s1⟩ U;rw [vE] at U;refine⟨"",A0,zs.map fun z=>z++"\n",rfl,rfl,SqL.of U,?_,k H' s1⟩;have:=sums (c:=1001) (l:=zs.map fun z=>(z++"\n":Str)) fun y hy=>by
   obtain⟨z,aa,rfl⟩:=List.mem_map.mp hy;have:=hz z aa;rw [qM];show z.length+1<=_;omega
  rw [u3] at this;show _+_*0<=_;omega
theorem Xx (T:Tx K mg a):FnOk P w K mg base CX0 16 a.YB a.Yy ["project"] (sp_ptext a.qB):=by
 have XL:=ok_sline (P:=P) (w:=w) (base:=base) T;have jS:=ok_wle (P:=P) (w:=w) (base:=base) T;have qE:=Ym (P:=P) (w:=w) (base:=base) T;refine T.g_project_text.F.ok JG (by trivial) (fun _ _ _ _ H _ Q E Y h=> ?_)
 obtain⟨x,qs,rfl,hP,O,k⟩:=h;have hs:=uk;have af:=O.2.2;refine⟨_,(@qd _ _ _ (@qo _ _ _ _ (@qk _ _ _ _ _ _ _ _ _ _ _ _ _ _ _ _ jS (Y.mono (by trivial)) (by rfl) T.g_with_line_ends.m T.g_with_line_ends.F.kp T.g_with_line_ends.b .nil qy (@qa _ _ _ _ _ (@ji _ _ (["name","source"]) (2) ([]) _ _ _ _ _ _ _ _ _ (lcsN (qj QO) ["project"]) rfl (@XM _ _ _ _ (@Yl _ _ _ _ _ _ _ _ _ _ _ _ _ _ _ _ _ (pv 0) T.QF T.g_Project_sources.h qE (Y.mono (by trivial)) T.g_Project_sources.b .nil qy (by trivial))) (fun _ _ _ _ _ _=>(@pg_tupK _ (K) _ _ _ (2) _ rfl rfl (QD (@qG _ _ (0) _ (show List.Nodup (["name","source"]:List Str) by decide+kernel) rfl (Or.inl rfl) (by trivial)) (QD (@qG _ _ (1) _ (show List.Nodup (["name","source"]:List Str) by decide+kernel) rfl (Or.inl rfl) (by trivial)) J7)) (by trivial) (by trivial))) (fun _ _ _ _ _ _=> @QJ _) (fun _ _ _ _ _ _=>(@qk _ _ _ _ _ _ _ _ _ _ _ _ _ _ _ _ XL (Y.mono (by trivial)) (by rfl) T.g_source_line.m T.g_source_line.F.kp T.g_source_line.b .nil qy (@qa _ _ _ _ _ (pv 0) (@qa _ _ _ _ _ (pv 1) qb (by trivial)) (by trivial)) (by trivial) (by trivial) (by trivial))) (by trivial)) qb (by trivial)) (by trivial) (by trivial) (by trivial)))),?_⟩
 obtain⟨dx,dd,o,ws,hx,aa⟩:=id hP;refine⟨_,rfl,x,dx,_,rfl,hx,yu,x,qs,rfl,hP,O,fun v H1 s1 hv=> ?_⟩;obtain⟨t,us,rfl,ht,ac⟩:=hv;refine⟨t,us,rfl,SqT.of ht,fun _ A0 ad=> ?_⟩;refine lc_pairs (fun p=> .str (qF p)) ht ac (by omega) ad (fun p v H2 R U s2 hv r=> ?_) fun H2 ys s2 hA ae=> ?_
 ·have hn:=O.1.1.1 p.1 (List.mem_map.mpr ⟨p,U,rfl⟩);have hS:=O.1.2 p U;have:=yy hn hS;refine⟨_,rfl,_,rfl,p.1,v,p.2,rfl,hv,hS,hn,fun H3 s3=>r _ H3 s3 ⟨rfl,fits (by show(qF p).length<=_;omega)⟩⟩
 ·have ey:ys=(qs.map qF).map V.str:=IsL.strsD (by rw [uG];exact ae)
  subst ey;refine⟨A0,qs.map qF,rfl,hA,by rw [u3];omega,fun z hz=> ?_,fun H3 s3=> ?_⟩
  ·obtain⟨p,U,rfl⟩:=List.mem_map.mp hz;have:=yy (O.1.1.1 p.1 (List.mem_map.mpr ⟨p,U,rfl⟩)) (O.1.2 p U);omega
  ·rw [uG];exact k H3 ((s1.trans s2).trans s3)
theorem j3:∀a b:List Nat,Spec.ltCps a b=decide (a<b)
 | [],[]=>rfl
 | [],_::_=>by simp [Spec.ltCps]
 |_::_,[]=>by simp [Spec.ltCps]
 |x::a,y::b=>by
  rw [Spec.ltCps,j3 a b];simp only [List.cons_lt_cons_iff];rw [vk];simp
def Up (qs:List (Str×D)):Prop:=qs.Pairwise fun a b=>a.1.cps.toList<b.1.cps.toList
theorem lt_of_no {a b:Str}(h:¬b.cps.toList<a.cps.toList)(ne:a≠b):a.cps.toList<b.cps.toList:=by
 rcases Decidable.em (a.cps.toList<b.cps.toList) with h1|h1
 ·exact h1
 ·exact absurd (YL (List.le_antisymm (List.not_lt.mp h) (List.not_lt.mp h1))) ne
theorem up_of {qs:List (Str×D)}(h:(qs.map (·.1)).Pairwise fun a b=>Spec.ltCps b.cps.toList a.cps.toList=false)(hn:(qs.map (·.1)).Nodup):Up qs:=by
 have h2:(qs.map (·.1)).Pairwise fun a b=>a.cps.toList<b.cps.toList:=by
  refine List.Pairwise.imp₂ (fun a b h1 h2=> ?_) h hn;rw [j3] at h1;exact lt_of_no (of_decide_eq_false h1) h2
 exact(List.pairwise_map (f:=fun p:Str×D=>p.1)).mp h2
theorem jT.up {qs:List (Str×D)}(h:jT qs):Up qs:=up_of (Jb h.2.1) h.1.1.2
def RdAt (C:Addr)(H:Hp)(x L:Addr)(us:List V):Prop:=∃dx,H x=some (.ins C dx [("pairs",.ref L)])/\H L=some (.lst us)
def sp_srcin:Sp:=fun vs H Q _=>∃p:Str×D,vs= [.str (qF p)]/\nm p.1=true/\Qt p.2/\∀(v:V) (H':Hp),Same H H'->Is H' (prD p) v->Q v H'
def sp_rinit (C:Addr):Sp:=fun vs H Q _=>∃(x dx:Addr),vs= [.ref x]/\H x=some (.ins C dx [])/\∀(L:Addr) (H':Hp),H L=none->(∀b o,H b=some o->b≠x->H' b=some o)->RdAt C H' x L []->Q .non H'
def sp_mayend (C:Addr):Sp:=fun vs H Q _=>∃(x L:Addr) (us:List V),vs= [.ref x]/\RdAt C H x L us/\Q (.bl true) H
def sp_takes (C:Addr):Sp:=fun vs H Q _=>∃(x L:Addr) (us:List V) (ps:List (Str×D)) (p:Str×D),vs= [.ref x,.str (qF p)]/\nm p.1=true/\Qt p.2/\RdAt C H x L us/\L2.IsL H (ps.map prD) us/\ps.length<=60/\(ps.length<60->Up (ps++ [p]))/\
 (ps.length<60->∀(us':List V) (H':Hp),(∀b o,H b=some o->b≠L->H' b=some o)->RdAt C H' x L us'->L2.IsL H' ((ps++ [p]).map prD) us'->Q (.bl true) H')/\(ps.length=60->∀H',Same H H'->Q (.bl false) H')
theorem Jz {v:V}:List.lookup ("pairs":Str) [(("pairs":Str),v)]=some v:=by simp [List.lookup]
theorem no_takes {v:V}:List.lookup ("takes":Str) [(("pairs":Str),v)]=none:=by
 have:(("takes":Str)=="pairs")=false:=by decide+kernel
 simp [List.lookup,this]
theorem no_mayend {v:V}:List.lookup ("may_end":Str) [(("pairs":Str),v)]=none:=by
 have:(("may_end":Str)=="pairs")=false:=by decide+kernel
 simp [List.lookup,this]
theorem at_last {α:Type}(us:List α)(x:α):atI (us++ [x]) (-1)=some x:=by
 unfold atI ixN;have e:(-1+((us.length:Int)+1)).toNat=us.length:=by omega
 simp only [uf,uV];rw [if_neg (by decide),if_pos (by omega),show(-1+((us.length+1:Nat):Int)).toNat=us.length by omega]
 simp
theorem wt_of {d:D}(O:isT d=true)(U:lw d=true):WT (txt d) d:=⟨lw_sh U,O,rfl⟩
theorem ok_badtext (T:Tx K mg a):FnOk P w K mg base CX0 1 a.yg a.Yu ["self","row"] (spX a.qN "row"):=by
 refine T.g_BadText_init.F.ok Jg (by trivial) (fun _ _ _ _ H _ Q E U h=> ?_)
 obtain⟨b,ws,y,rfl,O,k⟩:=h;refine⟨_,(@qd _ _ _ (@ps_fldX _ _ _ _ _ _ _ _ (pv 0) (pv 1) rfl)),?_⟩;exact⟨_,rfl,_,rfl,b,_,ws,rfl,O,T.X_BadText.cl,T.ja,k⟩
theorem ok_srcin (T:Tx K mg a)(C:Fx K mg g a):FnOk P w K mg base CX0 31 a.JZ a.J9 ["line"] sp_srcin:=by
 have Yi:=ok_name (P:=P) (w:=w) (base:=base) T;have YI:=ok_source (P:=P) (w:=w) (base:=base) T;have O:=ok_tin (P:=P) (w:=w) (base:=base) T C;refine T.g_source_in.F.ok Yb (by trivial) (fun _ _ _ _ H _ Q E hr h=> ?_)
 obtain⟨⟨z,d⟩,rfl,hn,Y,k⟩:=h;have hs:=uk
 replace hn:nm z=true:=hn
 replace Y:Qt d:=Y
 have ag:=yy (p:=(z,d)) hn Y;have hz:=jU hn;have ah:=kd_ok Y;have ai:=wh_ok Y;refine⟨_,(@qc _ _ _ _ _ (@qx _ _ (1) _ _ _ _ Yb.nd rfl (Or.inl rfl) (@QY _ _ _ _ _ _ _ _ _ _ _ _ uo PySem.F.slot_str_split PySem.F.type_str_split mt_splitN (pv 0) (@qa _ _ _ _ _ qi (@qa _ _ _ _ _ qg qb (by trivial)) (by trivial)) (by trivial) (by trivial) (by trivial) (by trivial) (by trivial)) (by trivial) (by trivial)) (@qc _ _ _ _ _ (@qH _ _ _ _ _ _ _ _ (@jo _ _ _ _ _ _ _ (@qp _ _ _ _ _ _ _ _ op_lt (@qu _ _ _ _ _ _ _ _ _ qI (by rfl) T.yL uD (@qa _ _ _ _ _ (pv 1) qb (by trivial)) (by trivial) (by trivial) (by trivial) (by trivial)) qg (qz _)) (@yS _ _ _ _ (@yo _ _ _ _ (@QU _ _ _ (@qk _ _ _ _ _ _ _ _ _ _ _ _ _ _ _ _ Yi (hr.mono (by trivial)) (by rfl) T.g_is_name.m T.g_is_name.F.kp T.g_is_name.b .nil qy (@qa _ _ _ _ _ (@qP _ _ _ _ _ _ _ qZ (pv 1) qg (fun _ _=>rfl)) qb (by trivial)) (by trivial) (by trivial) (by trivial)) (by trivial))))).pt (@qd _ _ _ (@qo _ _ _ _ pe_non)) qq) (@qc _ _ _ _ _ (@qx _ _ (2) _ _ _ _ Yb.nd rfl (Or.inl rfl) (@Qk _ _ _ _ _ (@qa _ _ _ _ _ (@qP _ _ _ _ _ _ _ qZ (pv 1) qg (fun _ _=>rfl)) (@qa _ _ _ _ _ (@XD _ _ _ _ _ _ _ _ (@qp _ _ _ _ _ _ _ _ Q1 (@qP _ _ _ _ _ _ _ qZ (pv 1) qg (fun _ _=>rfl)) qi (qz _)) (@qP _ _ _ _ _ _ _ qZ (pv 1) qg (fun _ _=>rfl)) (@qk _ _ _ _ _ _ _ _ _ _ _ _ _ _ _ _ O (hr.mono (by trivial)) (by rfl) T.g_tree_in.m T.g_tree_in.F.kp T.g_tree_in.b .nil qy (@qa _ _ _ _ _ (@qP _ _ _ _ _ _ _ qZ (pv 1) qg (fun _ _=>rfl)) qb (by trivial)) (by trivial) (by trivial) (by trivial))) qb (by trivial)) (by trivial))) (by trivial) (by trivial)) (@qd _ _ _ (@qo _ _ _ _ (@XD _ _ _ _ _ _ _ _ (@QU _ _ _ (@qk _ _ _ _ _ _ _ _ _ _ _ _ _ _ _ _ YI (hr.mono (by trivial)) (by rfl) T.g_is_source.m T.g_is_source.F.kp T.g_is_source.b .nil qy (@qa _ _ _ _ _ (pv 2) qb (by trivial)) (by trivial) (by trivial) (by trivial)) (by trivial)) (@Qk _ _ _ _ _ (@qa _ _ _ _ _ (@qP _ _ _ _ _ _ _ qZ (pv 1) qg (fun _ _=>rfl)) (@qa _ _ _ _ _ (pv 2) qb (by trivial)) (by trivial))) pe_non)))))),?_⟩
 refine⟨_,rfl,rfl,_,2,rfl,rfl,by omega,by decide,by decide,fun q hq=> ?_⟩
 rw [line_split (p:=(z,d)) hn Y];have s1:=qf hq (.lst ([kd d,z,wh d].map V.str));have eq:(upd H q (.lst ([kd d,z,wh d].map V.str))) q=some (.lst [.str (kd d),.str z,.str (wh d)]):=qe;generalize upd H q (.lst ([kd d,z,wh d].map V.str))=H1 at s1 eq⊢;refine⟨_,rfl,q,_,rfl,.inl (SqL.of eq),_,_,rfl,rfl,_,rfl,iteN (by rfl) ?_⟩
 refine⟨_,rfl,q,_,_,_,rfl,rfl,SqL.of eq,rfl,_,.str z,rfl,⟨rfl,fits (by omega)⟩,fun H2 s2=>⟨_,rfl,iteN (by show(!nm z)=false;rw [hn];rfl) ?_⟩⟩
 have U:=s2 _ _ eq;have af:=s1.trans s2;have aa:∀(v:V) (e:D) (H3:Hp),Same H2 H3->d= .tup [.str (kd d),e]->Is H3 e v->([V.str (kd d),v].length<=sizeLine/\∀t,H3 t=none->∃v0,[some (V.str (qF (z,d))),some (V.ref q),some (V.ref t)][2]? =some (some v0)/\sp_source [v0] (upd H3 t (.tup [.str (kd d),v])) (fun y H4=>∃kb,y= .bl kb/\if kb=true then∃v1,[some (V.str (qF (z,d))),some (V.ref q),some (V.ref t)][1]? =some (some v1)/\rIxL K v1 (.int 1) H4 (fun y1 H5=>∃v2,[some (V.str (qF (z,d))),some (V.ref q),some (V.ref t)][2]? =some (some v2)/\([y1,v2].length<=sizeLine/\∀t2,H5 t2=none->Q (.ref t2) (upd H5 t2 (.tup [y1,v2])))) else Q .non H4) E0):=by
  intro v e H3 s3 ed hv;refine⟨by show 2<=sizeLine;omega,fun t ht=> ?_⟩
  have st:=qf ht (.tup [.str (kd d),v]);have hd:Is (upd H3 t (.tup [.str (kd d),v])) d (.ref t):=by
   rw [ed];exact Is.new (ds:= [.str (kd d),e]) ⟨_,_,rfl,⟨rfl,fits (by show(kd d).length<=_;omega)⟩,_,_,rfl,hv,rfl⟩ ht
  generalize upd H3 t (.tup [.str (kd d),v])=H4 at st hd⊢;refine⟨_,rfl,_,d,rfl,hd,src_okS Y,fun H5 s5=>⟨_,rfl,iteB Y.2.1 ?_⟩⟩;have ac:=(s3.trans st).trans s5;refine⟨_,rfl,q,_,_,_,rfl,rfl,SqL.of (ac _ _ U),rfl,_,rfl,(by show 2<=sizeLine;omega),fun t2 ad=> ?_⟩
  refine k _ _ ((af.trans ac).trans (qf ad _)) ?_;exact Is.new (ds:= [.str z,d]) ⟨_,_,rfl,⟨rfl,fits (by omega)⟩,_,_,rfl,hd.mono s5.tk,rfl⟩ ad
 refine⟨_,rfl,q,_,_,_,rfl,rfl,SqL.of U,rfl,_,rfl,q,_,_,_,rfl,rfl,SqL.of U,rfl,rfl,_,rfl,?_⟩;rcases Y0 Y with⟨y,rfl,hy⟩|⟨kk,e,rfl,ae,ht,hl,hsz⟩
 ·refine iteB (show decide (V.str "made"=V.str "made")=true by decide+kernel) ⟨_,rfl,q,_,_,_,rfl,rfl,SqL.of U,rfl,?_⟩
  rw [Xl];exact aa (.str y) (.str y) H2 (Same.refl _) rfl ⟨rfl,fits (by have:=jU hy;omega)⟩
 ·refine iteN (ud fun q=>yz ae (V.str.inj q)) ⟨_,rfl,q,_,_,_,rfl,rfl,SqL.of U,rfl,_,e,rfl,?_,by omega,fun v H3 s3 hv=> ?_⟩
  ·rw [x6 (yz ae)];exact wt_of ht hl
  ·exact aa v e H3 s3 rfl hv
theorem for_enL {K:PySem.W.Frag}{a:Addr}{c:Int}{xs:List V}{g:TG}{tb:TS}{D:Ends}{σ:L2.St}{H:Hp}(O:Nat->L2.St->Hp->Prop)(h0:O 0 σ H)(hl:∀i σ H,i<=xs.length->O i σ H->SqL K H a xs)
  (hs:∀i x σ H p,xs[i]? =some x->O i σ H->H p=none->g (.ref p) σ (upd H p (.tup [.int (c+i),x])) fun Y H2=>tb {D with nx:=O (i+1),ct:=O (i+1),bk:=D.nx} Y H2) (hd:∀σ H,O xs.length σ H->D.nx σ H):
  ∃W:Nat->Nat->L2.St->Hp->Prop,(∃m,W 0 m σ H)/\∀i m σ H,W i m σ H->
   ((IteL K a c).stop i H/\D.nx σ H)∨((IteL K a c).go i H/\∃N:L2.St->Hp->Prop,(∀σ' H',N σ' H'->∃m',m'<m/\W (i+1) m' σ' H')/\∀x H',(IteL K a c).yld i H x H'->g x σ H' fun Y H2=>tb {D with nx:=N,ct:=N,bk:=D.nx} Y H2):=by
 refine⟨fun i m σ H=>m=xs.length-i/\i<=xs.length/\O i σ H,⟨xs.length,by simp,uF _,h0⟩,?_⟩
 rintro i m σ H ⟨rfl,hi,p⟩;have q:=hl i σ H hi p;by_cases U:i<xs.length
 ·refine .inr ⟨⟨xs,xs[i],q,by simp [U]⟩,O (i+1),fun σ' H' p'=>⟨xs.length-(i+1),by omega,rfl,U,p'⟩,fun x H' y=> ?_⟩
  obtain⟨p2,y2,rfl,hp,rfl,y⟩:=y;exact hs i y2 σ _ p2 (y xs q) p hp
 ·have e:i=xs.length:=by omega
  subst e;exact .inl ⟨⟨xs,q,rfl⟩,hd σ H p⟩
theorem ok_rinit (T:Tx K mg a):FnOk P w K mg base CX0 1 a.Ql a.Q0 ["self"] (sp_rinit a.qm):=by
 refine T.g_ProjectReader_init.F.ok Yf (by trivial) (fun _ _ _ _ H _ Q E Y h=> ?_)
 obtain⟨x,dx,rfl,U,k⟩:=h;refine⟨_,(@qd _ _ _ (@ps_fld _ _ _ _ _ _ _ _ (pv 0) (@q9 _ _ _ _ qb) rfl)),?_⟩;refine⟨uF _,fun L O=> ?_⟩;have s1:=qf O (.lst ([]:List V));have ne:x≠L:=qh U O;refine⟨_,rfl,x,a.qm,dx,[],rfl,s1 _ _ U,T.qJ,T.qD,(by show 0<1000;decide),?_⟩
 refine k L _ O (fun b o e nb=>by rw [ql nb];exact s1 _ _ e) ⟨dx,qe,by rw [ql (uY ne)];exact qe⟩
theorem ok_mayend (T:Tx K mg a):FnOk P w K mg base CX0 1 a.QG a.QB ["self"] (sp_mayend a.qm):=by
 refine T.g_ProjectReader_may_end.F.ok yr (by trivial) (fun _ _ _ _ H _ Q E O h=> ?_)
 obtain⟨x,L,us,rfl,_,k⟩:=h;refine⟨_,(@qd _ _ _ (@qo _ _ _ _ yW)),?_⟩;exact k
theorem ok_takes (T:Tx K mg a)(C:Fx K mg g a):FnOk P w K mg base CX0 32 a.QW a.QV ["self","line"] (sp_takes a.qm):=by
 have O:=ok_srcin (P:=P) (w:=w) (base:=base) T C;refine T.g_ProjectReader_takes.F.ok QK (by trivial) (fun _ _ _ _ H _ Q E hr h=> ?_)
 obtain⟨x,L,us,ps,p,rfl,hn,hS,⟨dx,hx,hL⟩,Y,aj,ae,kT,kF⟩:=h;have hs:=uk;have ac:=Y.length;rw [u3] at ac;refine⟨_,(@qc _ _ _ _ _ (@qx _ _ (2) _ _ _ _ QK.nd rfl (Or.inl rfl) (@qk _ _ _ _ _ _ _ _ _ _ _ _ _ _ _ _ O (hr.mono (by trivial)) (by rfl) T.g_source_in.m T.g_source_in.F.kp T.g_source_in.b .nil qy (@qa _ _ _ _ _ (pv 1) qb (by trivial)) (by trivial) (by trivial) (by trivial)) (by trivial) (by trivial)) (@qc _ _ _ _ _ (@qH _ _ _ _ _ _ _ _ (@jo _ _ _ _ _ _ _ (@qp _ _ _ _ _ _ _ _ op_isN (pv 2) pe_non (qz _)) (@yS _ _ _ _ (@qp _ _ _ _ _ _ _ _ Q1 (@qu _ _ _ _ _ _ _ _ _ qI (by rfl) T.yL uD (@qa _ _ _ _ _ (@xQ _ _ _ _ _ (pv 0) rfl) qb (by trivial)) (by trivial) (by trivial) (by trivial) (by trivial)) (@XI _ _ _ _ (by rfl) T.jF (by trivial)) (qz _)))).pt (@qd _ _ _ (@qo _ _ _ _ yW)) qq) (@qc _ _ _ _ _ (@qH _ _ _ _ _ _ _ _ (@pw_and _ _ _ _ _ _ _ (@Xy _ _ _ (@xQ _ _ _ _ _ (pv 0) rfl) (fun _=>rfl)) (@pw_and1 _ _ _ _ (@qp _ _ _ _ _ _ _ _ op_le_str (@qP _ _ _ _ _ _ _ Qn (pv 2) qg (fun _ _=>rfl)) (@qP _ _ _ _ _ _ _ Qn (@qP _ _ _ _ _ _ _ qZ (@xQ _ _ _ _ _ (pv 0) rfl) (@pe_un _ _ _ _ _ _ un_neg qg) (fun _ _=>rfl)) qg (fun _ _=>rfl)) (qz _)))).pt (@qd _ _ _ (@qo _ _ _ _ yW)) qq) (@qc _ _ _ _ _ (@yT _ _ _ _ (@QY _ _ _ _ _ _ _ _ _ _ _ _ uL v8 v9 Q3 (@xQ _ _ _ _ _ (pv 0) rfl) (@qa _ _ _ _ _ (pv 2) qb (by trivial)) (by trivial) (by trivial) (by trivial) (by trivial) (by trivial)) (by trivial)) (@qd _ _ _ (@qo _ _ _ _ yW)))))),?_⟩
 refine⟨_,rfl,p,rfl,hn,hS,fun v H1 s1 hv=> ?_⟩;obtain⟨t,ws,rfl,ht,x1,r1,rfl,⟨rfl,hz⟩,x2,r2,rfl,h2,h3⟩:=id hv;cases(show r2= [] from h3)
 have aa:=s1 _ _ hx;have U:=s1 _ _ hL;refine⟨_,rfl,rfl,_,rfl,iteN (ud fun q=>nomatch q) ?_⟩;refine⟨_,rfl,x,a.qm,dx,_,_,rfl,aa,T.qJ,T.qD,Jz,L,us,rfl,.inl (SqL.of U),rfl,_,rfl,?_⟩;by_cases c:ps.length=60
 ·refine iteB (u8 (by rw [ac,c];rfl)) (kF c H1 s1)
 refine iteN (ud fun q=>c (by have:=V.int.inj q;omega)) ?_
 have ad:ps.length<60:=by omega
 have ne:x≠L:=fun e=>by rw [e,hL] at hx;cases hx
 refine⟨_,rfl,x,a.qm,dx,_,_,rfl,aa,T.qJ,T.qD,Jz,!us.isEmpty,.inl ⟨us,SqL.of U,rfl⟩,?_⟩;rcases List.eq_nil_or_concat us with rfl|⟨us',u,rfl⟩;refine iteN rfl (iteF ?_);rotate_left;rw [List.concat_eq_append] at*;rcases List.eq_nil_or_concat ps with rfl|⟨ps',p0,rfl⟩
 ·simp at ac
 rw [List.concat_eq_append] at*;rw [Y5] at Y;obtain⟨af,u2,e2,hu,ag⟩:=Y.unsnoc;obtain⟨rfl,rfl⟩:us'=af/\u=u2:=by
  have:=List.append_inj' e2 rfl;exact⟨this.1,by simpa using this.2⟩
 obtain⟨t0,ak,rfl,ah,y1,r1,rfl,⟨rfl,al⟩,y2,r2,rfl,g2,g3⟩:=id ag;cases(show r2= [] from g3)
 have ai:p0.1.cps.toList<p.1.cps.toList:=by
  have:=ae ad;unfold Up at this;rw [uq,List.pairwise_append] at this;exact List.rel_of_pairwise_cons this.2.1 (List.mem_singleton.mpr rfl)
 refine iteB (by simp) ⟨_,rfl,t,_,_,_,rfl,rfl,SqT.of ht,rfl,_,rfl,x,a.qm,dx,_,_,rfl,aa,T.qJ,T.qD,Jz,1,rfl,L,_,_,_,rfl,rfl,SqL.of U,at_last us' (.ref t0),t0,_,_,_,rfl,rfl,SqT.of (s1 _ _ ah),rfl,_,_,rfl,rfl,_,rfl,iteN (by rw [u8 ai];rfl) ?_⟩
 rw [<-Y5] at Y
 all_goals
  refine⟨_,rfl,x,a.qm,dx,_,_,rfl,aa,T.qJ,T.qD,Jz,.inl ⟨rfl,_,SqL.of U⟩,_,rfl,L,_,_,rfl,rfl,U,by omega,?_⟩
  refine kT ad _ _ (fun b o e nb=>by rw [ql nb];exact s1 _ _ e) ⟨dx,by rw [ql ne];exact aa,qe⟩ ?_
  rw [Y5];exact((Y.mono s1.tk).mono (Tk.updL U)).append (L2.IsL.one (hv.mono (Tk.updL U)))
def BadR (qs:List (Str×D))(rest:List Str):Prop:=(∃l,rest= [l]/\l≠"")∨(qs.length=60/\∃p l r,rest=qF p::l::r/\nm p.1=true/\Qt p.2)
def TxtOk (Z:Str)(qs:List (Str×D))(rest:List Str):Prop:=Z.length<=1000000/\splL (Z.length+1) Z=qs.map qF++rest/\(∀p∈qs,nm p.1=true/\Qt p.2)/\Up qs/\qs.length<=60
def sp_readby (C B:Addr):Sp:=fun vs H Q E=>∃(x L:Addr) (Z:Str) (qs:List (Str×D)) (rest:List Str),vs= [.ref x,.str Z]/\RdAt C H x L []/\TxtOk Z qs rest/\
 (rest=([""]:List Str)/\(∀us H',(∀b o,H b=some o->b≠L->H' b=some o)->RdAt C H' x L us->L2.IsL H' (qs.map prD) us->Q (.ref x) H')∨
  BadR qs rest/\∀dc H',H' dc=some (.xd [("row",.int ((qs.length+1:Nat):Int))])->(∀b o,H b=some o->b≠L->H' b=some o)->E (.ref dc) (some B) H')
theorem cut_init (xs:List V)(y:V):cutV (xs++ [y]) none (some (-1))=xs:=by
 unfold cutV HT.sIx;simp only [uf,uV,Ut,Nat.sub_zero];rw [if_pos (by decide),show(-1+((xs.length+1:Nat):Int)).toNat=xs.length by omega]
 simp
theorem rest_last {qs:List (Str×D)}{rest:List Str}(h:rest=([""]:List Str)∨BadR qs rest):∃i l,rest=i++ [l]:=by
 have:rest≠ []:=by
  rcases h with rfl|⟨l,rfl,_⟩|⟨_,p,l,r,rfl,_⟩<;>simp
 exact⟨rest.dropLast,rest.getLast this,(List.dropLast_concat_getLast this).symm⟩
theorem ok_readby (T:Tx K mg a)(C:Fx K mg g a):FnOk P w K mg base (CX2 P w) 33 a.Jl a.JB ["reader","text"] (sp_readby a.qm a.qN):=by
 have Yd:=ok_takes (P:=P) (w:=w) (base:=base) T C;have yJ:=ok_mayend (P:=P) (w:=w) (base:=base) T;have Yz:=ok_badtext (P:=P) (w:=w) (base:=base) T;refine T.g_read_by.F.ok2 Yn (fun vs H Q E h=> ?_) (fun cdv A outer s H vs Q E hr h=> ?_)
 ·obtain⟨x,L,Z,qs,rest,rfl,_⟩:=h
  rfl
 obtain⟨x,L,Z,qs,rest,rfl,⟨dx,hx,hL⟩,⟨hZ,av,hok,aw,ax⟩,hQ⟩:=h;have hs:=uk;refine⟨_,(@qc _ _ _ _ _ (@qx _ _ (2) _ _ _ _ Yn.nd rfl (Or.inl rfl) (@QY _ _ _ _ _ _ _ _ _ _ _ _ uo PySem.F.slot_str_split PySem.F.type_str_split mt_splitL (pv 1) (@qa _ _ _ _ _ qi qb (by trivial)) (by trivial) (by trivial) (by trivial) (by trivial) (by trivial)) (by trivial) (by trivial)) (@qc _ _ _ _ _ (@jG _ _ _ _ _ _ _ _ PassesOwn.leaving rfl (@pi_enum1L _ _ _ _ _ _ _ _ _ _ _ (by rfl) T.z_enumerate (@yd _ _ _ _ _ _ _ _ _ _ sl_list (pv 2) po_none (@Qx _ _ _ (@pe_un _ _ _ _ _ _ un_neg qg))) qg (by trivial)) (@pg_tup _ _ _ _ _ _ rfl (QD (@qG _ _ (3) _ Yn.nd rfl (Or.inl rfl) (by trivial)) (QD (@qG _ _ (4) _ Yn.nd rfl (Or.inl rfl) (by trivial)) J7)) (by trivial) (by trivial)) (@qd _ _ _ (@qH _ _ _ _ _ _ _ _ (@yo _ _ _ _ (@QU _ _ _ (@pe_meth _ _ _ _ _ _ _ _ _ _ _ _ _ _ _ _ _ _ _ _ (pv 0) T.qJ T.g_ProjectReader_takes.h Yd (hr.mono (by trivial)) T.g_ProjectReader_takes.b .nil qy (@qa _ _ _ _ _ (pv 4) qb (by trivial)) (by trivial) (by trivial) (by trivial)) (by trivial))) (@qd _ _ _ (@ps_raise2 _ _ _ _ _ _ _ _ _ _ _ _ _ _ _ _ _ _ _ _ _ _ _ _ _ _ _ T.X_BadText Yz (hr.mono (by trivial)) T.g_BadText_init.b rfl (by rfl) T.YV (pv 3) (by trivial) (by trivial))) qq)) (by trivial)) (@qc _ _ _ _ _ (@qH _ _ _ _ _ _ _ _ (@jo _ _ _ _ _ _ _ (@qp _ _ _ _ _ _ _ _ JF (@qP _ _ _ _ _ _ _ qZ (pv 2) (@pe_un _ _ _ _ _ _ un_neg qg) (fun _ _=>rfl)) qi (qz _)) (@yS _ _ _ _ (@yo _ _ _ _ (@QU _ _ _ (@Yl _ _ _ _ _ _ _ _ _ _ _ _ _ _ _ _ _ (pv 0) T.qJ T.g_ProjectReader_may_end.h yJ (hr.mono (by trivial)) T.g_ProjectReader_may_end.b .nil qy (by trivial)) (by trivial))))).pt (@qd _ _ _ (@ps_raise2 _ _ _ _ _ _ _ _ _ _ _ _ _ _ _ _ _ _ _ _ _ _ _ _ _ _ _ T.X_BadText Yz (hr.mono (by trivial)) T.g_BadText_init.b rfl (by rfl) T.YV (@qu _ _ _ _ _ _ _ _ _ qI (by rfl) T.yL uD (@qa _ _ _ _ _ (pv 2) qb (by trivial)) (by trivial) (by trivial) (by trivial) (by trivial)) (by trivial) (by trivial))) qq) (@qd _ _ _ (@qo _ _ _ _ (pv 0)))))),?_⟩
 refine⟨_,rfl,rfl,Z,rfl,rfl,by omega,fun q hq=> ?_⟩
 rw [av];obtain⟨O,l,rfl⟩:∃i l,rest=i++ [l]:=rest_last (qs:=qs) (by
  rcases hQ with⟨h,_⟩|⟨h,_⟩
  ·exact .inl h
  ·exact .inr h)
 have s1:=qf hq (.lst ((qs.map qF++(O++ [l])).map V.str));have eq:(upd H q (.lst ((qs.map qF++(O++ [l])).map V.str))) q=some (.lst ((qs.map qF++O).map V.str++ [.str l])):=by
  rw [qe,<-uq,ue (l₁:=qs.map qF++O)]
  rfl
 generalize upd H q (.lst ((qs.map qF++(O++ [l])).map V.str))=H1 at s1 eq⊢;have ag:=s1 _ _ hx;have ah:=s1 _ _ hL;have ai:x≠L:=fun e=>by rw [e,hL] at hx;cases hx
 have ay:L≠q:=qh hL hq;refine⟨_,rfl,1,rfl,_,rfl,q,_,rfl,SqL.of eq,fun q2 aj=> ?_⟩;rw [cut_init];have s2:=qf aj (.lst ((qs.map qF++O).map V.str));have ad:(upd H1 q2 (.lst ((qs.map qF++O).map V.str))) q2=some (.lst ((qs.map qF++O).map V.str)):=qe;generalize upd H1 q2 (.lst ((qs.map qF++O).map V.str))=H2 at s2 ad⊢;have ak:L≠q2:=qh ah aj;have az:=s1.trans s2;have keep:∀{H':Hp},(∀b o,H2 b=some o->b≠L->H' b=some o)->∀b o,H b=some o->b≠L->H' b=some o:=fun k b o e nb=>k b o (az _ _ e) nb;have bad:∀(σ':L2.St) (D':Ends) (H':Hp) (y:V) (ta:TE),(∀Q',Q' y H'->ta σ' H' Q')->y= .int ((qs.length+1:Nat):Int)->BadR qs (O++ [l])->(∀b o,H2 b=some o->b≠L->H' b=some o)->tRaise2 E a.qN "row" ta D' σ' H':=by
  intro σ' D' H' y ta aA ey hB hk;refine aA _ ⟨_,rfl,fun dc aB=> ?_⟩;rcases hQ with⟨h,_⟩|⟨_,kE⟩
  ·exfalso;rw [h] at hB;rcases hB with⟨l',e,ne⟩|⟨_,p,l',r,e,_⟩
   ·simp at e;exact ne e.symm
   ·simp at e
  ·subst ey;exact kE dc _ qe fun b o e nb=>by rw [ql (qh (keep hk b o e nb) aB)];exact keep hk b o e nb
 refine⟨q2,_,rfl,rfl,SqL.of ad,fun _=> ?_⟩;refine for_enL (K:=K) (a:=q2) (c:=1) (xs:=(qs.map qF++O).map V.str) (fun i σ H'=>∃(us:List V) (n0 l0:Option V),σ= [some (.ref x),some (.str Z),some (.ref q),n0,l0]/\i<=qs.length/\H' L=some (.lst us)/\L2.IsL H' ((qs.take i).map prD) us/\∀b o,H2 b=some o->b≠L->H' b=some o)
  ⟨[],none,none,rfl,uF _,s2 _ _ ah,rfl,fun b o e _=>e⟩ (fun i σ H' _ ⟨_,_,_,_,_,_,_,k⟩=>SqL.of (k _ _ ad (uY ak))) ?_ ?_
 ·rintro i y σ H' p hy ⟨us,n0,l0,rfl,hi,aa,U,hk⟩ hp;have s3:=qf hp (.tup [.int (1+(i:Int)),y]);have e3:(upd H' p (.tup [.int (1+(i:Int)),y])) p=some (.tup [.int (1+(i:Int)),y]):=qe;generalize upd H' p (.tup [.int (1+(i:Int)),y])=H3 at s3 e3⊢;have ae:∀b o,H2 b=some o->b≠L->H3 b=some o:=fun b o e nb=>s3 _ _ (hk b o e nb);have ac:=ae _ _ (s2 _ _ ag) ai;have al:=s3 _ _ aa;refine⟨p,_,rfl,SqT.of e3,rfl,_,_,rfl,_,_,rfl,rfl,?_⟩;rcases uZ i qs.length with Y|aF
  ·have ey:y= .str (qF qs[i]):=by
    rw [um,vI (by rw [u3];exact Y),um,u7 Y] at hy
    cases hy
    rfl
   subst ey;have am:=hok _ (uv Y);have ao:=take1 Y;have lt:(qs.take i).length=i:=by rw [vz];omega
   refine⟨_,rfl,x,dx,_,rfl,ac,no_takes,_,rfl,x,L,us,qs.take i,qs[i],rfl,am.1,am.2,⟨dx,ac,al⟩,U.mono s3.tk,by omega,fun _=> ?_,fun _ aC H4 k4 r4 i4=> ?_,fun h=>by omega⟩
   ·rw [<-ao];exact List.Pairwise.sublist (List.take_sublist _ _) aw
   ·refine⟨_,rfl,iteF ?_⟩;obtain⟨aG,aH,aD⟩:=r4;refine⟨aC,_,_,rfl,Y,aD,?_,fun b o e nb=>k4 b o (ae b o e nb) nb⟩;rw [ao];exact i4
  ·have aE:i=qs.length:=by omega
   subst aE;have hB:BadR qs (O++ [l])/\O≠ []:=by
    have ap:O≠ []:=fun e=>by
     subst e;rw [uU] at hy;have:=(List.getElem?_eq_some_iff.mp hy).1;simp at this
    rcases hQ with⟨h,_⟩|⟨h,_⟩
    ·exfalso;cases O with
     |nil=>exact ap rfl
     |cons b r=>simp at h
    ·exact⟨h,ap⟩
   rcases id hB.1 with⟨l',e,_⟩|⟨h6,pp,l',r,e,hn,hS⟩
   ·exfalso;cases O with
    |nil=>exact hB.2 rfl
    |cons b r=>simp at e
   obtain⟨r',rfl⟩:∃r',O=qF pp::r':=by
    cases O with
    |nil=>exact absurd rfl hB.2
    |cons b r2=>exact⟨r2,by simp at e;rw [e.1]⟩
   have ey:y= .str (qF pp):=by
    rw [um,vy (by rw [u3];exact Nat.le_refl _),u3,Nat.sub_self] at hy
    cases hy
    rfl
   subst ey;refine⟨_,rfl,x,dx,_,rfl,ac,no_takes,_,rfl,x,L,us,qs,pp,rfl,hn,hS,⟨dx,ac,al⟩,by rw [vE] at U;exact U.mono s3.tk,ax,fun h=>by omega,fun h=>by omega,fun _ H4 s4=> ?_⟩
   refine⟨_,rfl,iteT ?_⟩;exact bad _ _ _ (.int (1+(qs.length:Int))) _ (fun Q' h=>⟨_,rfl,h⟩) (by congr 1;omega) hB.1 fun b o e nb=>s4 _ _ (ae b o e nb)
 ·rintro σ H' ⟨us,n0,l0,rfl,hi,aa,U,hk⟩;have aq:O= []:=by
   rw [u3,uf,u3] at hi;exact List.length_eq_zero_iff.mp (by omega)
  subst aq;rw [uU,u3,u3,vE] at U;rw [uU] at eq;have au:=hk _ _ (s2 _ _ eq) (uY ay);have af:=hk _ _ (s2 _ _ ag) ai;refine⟨_,rfl,1,rfl,q,_,_,_,rfl,rfl,SqL.of au,at_last _ _,rfl,_,rfl,?_⟩;by_cases c:l=""
  ·subst c;refine iteN (by decide+kernel) ⟨_,rfl,x,dx,_,rfl,af,no_mayend,x,L,us,rfl,⟨dx,af,aa⟩,_,rfl,iteF ?_⟩
   refine⟨_,rfl,?_⟩;rcases hQ with⟨_,kQ⟩|⟨hB,_⟩
   ·exact kQ us H' (keep hk) ⟨dx,af,aa⟩ U
   ·exfalso;rcases hB with⟨l',e,ne⟩|⟨_,p,l',r,e,_⟩
    ·simp at e;exact ne e.symm
    ·simp at e
  ·refine iteB (by simpa using c) (iteT ?_)
   refine bad _ _ _ (.int ((qs.length+1:Nat):Int)) _ (fun Q' h=>⟨_,rfl,q,_,rfl,.inl (SqL.of au),?_⟩) rfl (.inl ⟨l,rfl,c⟩) hk;rw [uf,u3,u3];exact h
theorem up_nd {qs:List (Str×D)}(h:Up qs):(qs.map (·.1)).Nodup:=by
 have h2:(qs.map (·.1)).Pairwise (fun a b=>a.cps.toList<b.cps.toList):=List.pairwise_map.mpr h;refine List.Pairwise.imp (R:=fun a b:Str=>a.cps.toList<b.cps.toList) (S:=fun a b=>a≠b) (fun{a b} h1 e=> ?_) h2;rw [e] at h1;exact List.lt_irrefl _ h1
theorem rise_of:∀(l:List Str) (p:Str),(p::l).Pairwise (fun a b=>a.cps.toList<b.cps.toList)->risingS p l=true
 | [],_,_=>rfl
 |x::r,p,h=>by
  have h':=List.pairwise_cons.mp h;show(!Spec.ltCps x.cps.toList p.cps.toList&&risingS x r)=true;rw [rise_of r x h'.2,j3,ud (fun z=>List.lt_irrefl _ (List.lt_trans z (h'.1 x ui)))]
  rfl
theorem up_sort {qs:List (Str×D)}(h:Up qs):sortedS (qs.map (·.1))=true:=by
 have h2:(qs.map (·.1)).Pairwise (fun a b=>a.cps.toList<b.cps.toList):=List.pairwise_map.mpr h;cases e:qs.map (·.1) with
 |nil=>rfl
 |cons x r=>rw [e] at h2;exact rise_of r x h2
theorem tab_of {qs:List (Str×D)}(hok:∀p∈qs,nm p.1=true/\Qt p.2)(O:Up qs)(Y:qs.length<=60):jT qs:=
 ⟨⟨⟨fun z hz=>by obtain⟨p,U,rfl⟩:=List.mem_map.mp hz;exact(hok p U).1,up_nd O⟩,fun p U=>(hok p U).2⟩,up_sort O,Y⟩
theorem tab_one {qs ps:List (Str×D)}(h:jT qs)(h':sortedS (ps.map (·.1))=true)(O:qs.Perm ps):qs=ps:=by
 have hn:(ps.map (·.1)).Nodup:=((O.map _).nodup_iff).mp h.1.1.2;have e:=sorted_one h.2.1 h' (O.map _);rw [<-tab_eq hn O,e];exact re_map hn
def j0 (C B:Addr):Sp:=fun vs H Q E=>∃(Z:Str) (qs:List (Str×D)) (rest:List Str),vs= [.str Z]/\TxtOk Z qs rest/\
 (rest=([""]:List Str)/\(∀x H',Same H H'->j6 C H' x qs->jT qs->Q (.ref x) H')∨
  BadR qs rest/\∀dc H',H' dc=some (.xd [("row",.int ((qs.length+1:Nat):Int))])->Same H H'->E (.ref dc) (some B) H')
theorem XF (T:Tx K mg a)(C:Fx K mg g a):FnOk P w K mg base (CX2 P w) 34 a.Qr a.Qo ["text"] (j0 a.qB a.qN):=by
 have O:FnOk P w K mg base (CX2 P w) 33 a.Jl a.JB ["reader","text"] (sp_readby a.qm a.qN):=ok_readby T C;have Ys:=ok_rinit (P:=P) (w:=w) (base:=base) T;have ym:=ok_init (P:=P) (w:=w) (base:=base) T;refine T.g_read_project.F.ok2 JH (fun vs H Q E h=> ?_) (fun cdv A outer s H vs Q E hr h=> ?_)
 ·obtain⟨Z,qs,rest,rfl,_⟩:=h
  rfl
 obtain⟨Z,qs,rest,rfl,hT,hQ⟩:=h;have hs:=uk;refine⟨_,(@qd _ _ _ (@qo _ _ _ _ (@pe_make _ _ _ _ _ _ _ _ _ _ _ _ _ _ _ _ _ T.M_Project ym (hr.mono (by trivial)) (by rfl) T.yU T.g_Project_init.b .nil qy (@qa _ _ _ _ _ (@Qh _ _ _ _ _ _ _ _ _ qX (by rfl) T.Q7 vU (@qa _ _ _ _ _ (@xQ _ _ _ _ _ (@qk _ _ _ _ _ _ _ _ _ _ _ _ _ _ _ _ O (hr.mono (by trivial)) (by rfl) T.g_read_by.m T.g_read_by.F.kp T.g_read_by.b .nil pass2 (@qa _ _ _ _ _ (@pe_make0 _ _ _ _ _ _ _ _ _ _ _ _ _ _ T.Jv Ys (hr.mono (by trivial)) (by rfl) T.JV T.g_ProjectReader_init.b .nil qy (by trivial)) (@qa _ _ _ _ _ (pv 0) qb (by trivial)) (by trivial)) (by trivial) (by trivial) (by trivial)) rfl) qb (by trivial)) (by trivial) (by trivial) (by trivial) (by trivial)) qb (by trivial)) (by trivial) (by trivial) (by trivial)))),?_⟩
 intro x dx nx ac al;have m2:Same H (upd (upd H dx (.own x)) x (.ins a.qm dx [])):=fun b ob e=>by
  rw [ql (qh e nx),ql (qh e ac)];exact e
 refine⟨x,dx,rfl,qe,fun L H1 hL keep hR=>⟨rfl,?_⟩⟩;have s1:Same H H1:=fun b ob e=>keep b ob (m2 _ _ e) (qh e nx);have nL:∀b ob,H b=some ob->b≠L:=fun b ob e=>qh (m2 _ _ e) hL;refine⟨_,rfl,x,L,Z,qs,rest,rfl,hR,hT,?_⟩;rcases hQ with⟨ad,kQ⟩|⟨hB,kE⟩
 ·refine .inl ⟨ad,fun us H2 k2 r2 i2=> ?_⟩;have s2:Same H H2:=fun b ob e=>k2 b ob (s1 _ _ e) (nL b ob e);obtain⟨ae,af,ag⟩:=r2;have ah:=i2.length;rw [u3] at ah;refine⟨x,a.qm,ae,_,_,rfl,af,T.qJ,T.qD,Jz,L,us,rfl,.inl ⟨SqL.of ag,fun t ht=> ?_⟩⟩;have m1:=qf ht (.tup us);intro y dy ny ai am;have m3:Same (upd H2 t (.tup us)) (upd (upd (upd H2 t (.tup us)) dy (.own y)) y (.ins a.qB dy [])):=fun b ob e=>by
   rw [ql (qh e ny),ql (qh e ai)];exact e
  have U:=tab_of hT.2.2.1 hT.2.2.2.1 hT.2.2.2.2;refine⟨y,dy,t,qs,us,rfl,qe,m3 _ _ qe,i2.mono (m1.trans m3).tk,U.1,U.2.2,fun ao H3 Y hP aj aa=>⟨rfl,?_⟩⟩;have e:=tab_one aj U.2.1 aa;subst e;exact kQ y H3 (fun b ob e=>Y b ob ((m1.trans m3) _ _ (s2 _ _ e)) (qh (m1 _ _ (s2 _ _ e)) ny)) hP U
 ·exact .inr ⟨hB,fun dc H2 ak k2=>kE dc H2 ak fun b ob e=>k2 b ob (s1 _ _ e) (nL b ob e)⟩
def Nm4 (zs:List Str):Prop:=1<=zs.length/\zs.length<=8/\∀z∈zs,nm z=true/\z.length<=4
def Wd (n:Nat)(z:Str):Prop:=Q8 z=true/\z.length<=n
theorem Kept.of {p:Addr}{H H':Hp}(s:Same H H'):Kept p H H':=fun b o e _=>s b o e
theorem qV.ne_strs {H:Hp}{p l:Addr}{zs:List Str}(h:qV H p)(e:H l=some (.lst (zs.map V.str))):l≠p:=fun z=>by
 obtain⟨x,O,_⟩:=h;rw [<-z,e] at O;cases zs with
 |nil=>cases O
 |cons a r=>simp at O
def sp_word:Sp:=fun vs H Q _=>∃(p L:Addr) (zs:List Str),vs= [.ref p,.ref L]/\qV H p/\H L=some (.lst (zs.map V.str))/\Nm4 zs/\∀(z:Str) (H':Hp),Wd 4 z->qV H' p->Kept p H H'->Q (.str z) H'
def sp_line:Sp:=fun vs H Q _=>∃(p L:Addr) (zs:List Str) (many k:Nat),vs= [.ref p,.ref L,.int (many:Int),.int (k:Int)]/\qV H p/\H L=some (.lst (zs.map V.str))/\Nm4 zs/\1<=many/\many<=12/\k<=12/\∀(z:Str) (H':Hp),Wd 20 z->qV H' p->Kept p H H'->Q (.str z) H'
def FIV:List Str:= ["","x","b1 g","yes","c/d"]
theorem fiv_ok:∀z∈FIV,Wd 4 z:=by
 have:∀z∈FIV,Q8 z=true/\z.length<=4:=by decide+kernel
 exact this
theorem nm_all {z:Str}(h:nm z=true):Q8 z=true:=Js (xJ h)
theorem wd_of {zs:List Str}(h:Nm4 zs):∀z∈zs++FIV,Wd 4 z:=fun z O=>by
 rcases List.mem_append.mp O with h1|h1
 ·exact⟨nm_all (h.2.2 z h1).1,(h.2.2 z h1).2⟩
 ·exact fiv_ok z h1
theorem Wd.cat {n m k:Nat}{x y:Str}(h:Wd n x)(h':Wd m y)(e:n+m<=k):Wd k (x++y):=⟨okAll_app h.1 h'.1,by rw [qM];have:=h.2;have:=h'.2;omega⟩
theorem join_ok:∀{l:List Str},(∀z∈l,Q8 z=true)->Wd ((l.map (·.length)).sum+l.length) (Str.join " " l)
 | [],_=>⟨rfl,uF _⟩
 | [z],h=>⟨h z (by simp),by show z.length<=_;simp⟩
 |z::y::r,h=>by
  have O:=join_ok (l:=y::r) fun x U=>h x (u5 _ U);have Y:=h z (by simp)
  have e:=L2.Y9 z y r;refine⟨?_,?_⟩
  ·show(Str.join " " (z::y::r)).cps.toList.all qT=true;rw [e,uN,uM,show z.cps.toList.all qT=true from Y,show(Str.join " " (y::r)).cps.toList.all qT=true from O.1]
   decide
  ·rw [qC,e,uf,ul,<-qC,<-qC];have h1:=O.2;simp only [ua,vo,ul] at h1⊢;omega
def WL:List Str:= ["ask","ask","ask","has","names","text","text","copy","put","put","join","first","first","rest","size","cut","glue","like","none","rowed","go","say","fault","self"]
abbrev WTX:Str:="ask ask ask has names text text copy put put join first first rest size cut glue like none rowed"
theorem wl_spl:spl ((WTX++(" go say fault self":Str)).length+1) (WTX++(" go say fault self":Str))=WL:=by decide+kernel
theorem wl_ok:∀z∈WL,Wd 5 z:=by
 have:∀z∈WL,Q8 z=true/\z.length<=5:=by decide+kernel
 exact this
theorem abc_ok:∀c∈("abcdh":Str).cps.toList,qT c=true:=by decide+kernel
theorem abc_at {d:Int}(U:0<=d)(h1:d<5):∃c,atI ("abcdh":Str).cps.toList d=some c/\Wd 1 ⟨#[c]⟩:=by
 obtain⟨c,O⟩:=QA (xs:=("abcdh":Str).cps.toList) U (by show d<5;exact h1)
 refine⟨c,O,?_,Nat.le_refl _⟩;show [c].all qT=true;rw [uM,abc_ok c (Q5 O)]
 rfl
theorem num_ok:∀k:Nat,k<13->Q8 (toString (k:Int):Str)=true/\(toString (k:Int):Str).length<=2:=by decide+kernel
theorem ok_word (T:Tx K mg a):FnOk P w K mg base CX0 2 a.x9 a.xN ["pot","names"] sp_word:=by
 have qt:=yl (P:=P) (w:=w) (base:=base) T;refine T.g_law_word.F.ok Jx (by trivial) (fun _ _ _ _ H _ Q E hr h=> ?_)
 obtain⟨p,L,zs,rfl,hP,hL,U,k⟩:=h;have hs:=uk;have aa:=U.1;have ac:=U.2.1;refine⟨_,(@qc _ _ _ _ _ (@qx _ _ (2) _ _ _ _ Jx.nd rfl (Or.inl rfl) (@qA _ _ _ _ _ _ _ _ op_cat (pv 1) (@q9 _ _ _ _ (@qa _ _ _ _ _ qi (@qa _ _ _ _ _ qi (@qa _ _ _ _ _ qi (@qa _ _ _ _ _ qi (@qa _ _ _ _ _ qi qb (by trivial)) (by trivial)) (by trivial)) (by trivial)) (by trivial)))) (by trivial) (by trivial)) (@qd _ _ _ (@qo _ _ _ _ (@qP _ _ _ _ _ _ _ qZ (pv 2) (@qk _ _ _ _ _ _ _ _ _ _ _ _ _ _ _ _ qt (hr.mono (by trivial)) (by rfl) T.g_law_take.m T.g_law_take.F.kp T.g_law_take.b .nil qy (@qa _ _ _ _ _ (pv 0) (@qa _ _ _ _ _ (@qu _ _ _ _ _ _ _ _ _ qI (by rfl) T.yL uD (@qa _ _ _ _ _ (pv 2) qb (by trivial)) (by trivial) (by trivial) (by trivial) (by trivial)) qb (by trivial)) (by trivial)) (by trivial) (by trivial) (by trivial)) (fun _ _=>rfl))))),?_⟩
 refine⟨_,rfl,(by show 5<=sizeLine;decide),fun q hq=> ?_⟩
 have s1:Same H (upd H q (.lst [.str "",.str "x",.str "b1 g",.str "yes",.str "c/d"])):=qf hq _;refine⟨L,q,_,_,rfl,rfl,s1 _ _ hL,qe,(by rw [u3];show _+5<=sizeLine;omega),fun l hl=> ?_⟩
 have s2:=s1.trans (qf hl (.lst (zs.map V.str++ [.str "",.str "x",.str "b1 g",.str "yes",.str "c/d"])));have O:(upd (upd H q (.lst [.str "",.str "x",.str "b1 g",.str "yes",.str "c/d"])) l (.lst (zs.map V.str++ [.str "",.str "x",.str "b1 g",.str "yes",.str "c/d"]))) l=some (.lst ((zs++FIV).map V.str)):=by rw [qe,ue];rfl
 generalize upd (upd H q (.lst [.str "",.str "x",.str "b1 g",.str "yes",.str "c/d"])) l (.lst (zs.map V.str++ [.str "",.str "x",.str "b1 g",.str "yes",.str "c/d"]))=H2 at s2 O⊢;have P2:=hP.same s2;have l5:((zs++FIV).map V.str).length=zs.length+5:=by rw [u3,uf];rfl
 refine⟨_,rfl,_,rfl,_,rfl,l,_,rfl,.inl (SqL.of O),p,_,rfl,P2,by rw [l5];omega,by rw [l5];omega,fun d H' d0 d1 P3 K3=> ?_⟩
 have Y:=K3 _ _ O (P2.ne_strs O);obtain⟨v,hv⟩:=QA (xs:=(zs++FIV).map V.str) d0 d1;obtain⟨z,hz,rfl⟩:=List.mem_map.mp (Q5 hv);exact⟨l,_,d,_,rfl,rfl,SqL.of Y,hv,k z H' (wd_of U z hz) P3 ((Kept.of s2).trans K3)⟩
theorem joins {K:PySem.W.Frag}{H:Hp}{z:Str}{l:List Str}{Q:VK}(hl:l.length<=3)(O:Wd 5 z)(h:∀z∈l,Wd 2 z)(k:∀y H',Wd 20 y->Same H H'->Q (.str y) H'):((z::l).map V.str).length<=sizeLine/\∀p,H p=none->rJoin K (.str " ") [.ref p] (upd H p (.lst ((z::l).map V.str))) Q:=by
 have hs:=uk;have h1:=sums (c:=2) fun z O=>(h z O).2;have h2:=O.2;refine⟨by rw [u3,ul];omega,fun p Y=>⟨" ",p,z::l,rfl,rfl,SqL.of qe,?_,?_⟩⟩
 ·have e:(" ":Str).length=1:=rfl;rw [e];simp only [ua,vo,ul];omega
 ·have:=join_ok (l:=z::l) fun y U=>by
   rcases List.mem_cons.mp U with rfl|U
   ·exact O.1
   ·exact(h y U).1
  refine k _ _ ⟨this.1,?_⟩ (qf Y _);have h3:=this.2;simp only [ua,vo,ul] at h3;omega
theorem ok_line (T:Tx K mg a):FnOk P w K mg base CX0 3 a.xn a.xr ["pot","names","many","k"] sp_line:=by
 have qt:=yl (P:=P) (w:=w) (base:=base) T;have Qc:=ok_word (P:=P) (w:=w) (base:=base) T;refine T.g_law_line.F.ok Qw (by trivial) (fun _ _ _ s H _ Q E hr h=> ?_)
 obtain⟨p,L,zs,many,i,rfl,hP,hL,hN,ax,ay,hi,k⟩:=h;refine⟨_,(@qc _ _ _ _ _ (@qx _ _ (4) _ _ _ _ Qw.nd rfl (Or.inl rfl) qi (by trivial) (by trivial)) (@qc _ _ _ _ _ (@qx _ _ (5) _ _ _ _ Qw.nd rfl (Or.inl rfl) (@qP _ _ _ _ _ _ _ qZ (@QY _ _ _ _ _ _ _ _ _ _ _ _ uo PySem.F.slot_str_split PySem.F.type_str_split mt_split (@qA _ _ _ _ _ _ _ _ qr (pv 4) qi) (@qa _ _ _ _ _ qi qb (by trivial)) (by trivial) (by trivial) (by trivial) (by trivial) (by trivial)) (@qk _ _ _ _ _ _ _ _ _ _ _ _ _ _ _ _ qt (hr.mono (by trivial)) (by rfl) T.g_law_take.m T.g_law_take.F.kp T.g_law_take.b .nil qy (@qa _ _ _ _ _ (pv 0) (@qa _ _ _ _ _ qg qb (by trivial)) (by trivial)) (by trivial) (by trivial) (by trivial)) (fun _ _=>rfl)) (by trivial) (by trivial)) (@qc _ _ _ _ _ (@ps_asg _ _ _ _ _ _ (@ji _ _ (["j","pot"]) (1) ([0]) _ _ _ _ _ _ _ _ _ (lcsN (qj Yk) ["pot","names","many","k","words","word","one","two","three","at"]) rfl (@Qp _ _ _ _ _ _ (by rfl) T.yn (@qa _ _ _ _ _ qg qb (by trivial)) (by trivial)) (fun _ _ _ _ _ _=>(@qG _ _ (0) _ (show List.Nodup (["j","pot"]:List Str) by decide+kernel) rfl (Or.inl rfl) (by trivial))) (fun _ _ _ _ _ _=> @QJ _) (fun _ _ _ _ _ _=>(@qP _ _ _ _ _ _ _ J3 qi (@qk _ _ _ _ _ _ _ _ _ _ _ _ _ _ _ _ qt (hr.mono (by trivial)) (by rfl) T.g_law_take.m T.g_law_take.F.kp T.g_law_take.b .nil qy (@qa _ _ _ _ _ (pv 1) (@qa _ _ _ _ _ qg qb (by trivial)) (by trivial)) (by trivial) (by trivial) (by trivial)) (fun _ _=>rfl))) (by trivial)) (@pg_lstU _ _ _ _ _ _ rfl (QD (@qG _ _ (6) _ Qw.nd rfl (Or.inl rfl) (by trivial)) (QD (@qG _ _ (7) _ Qw.nd rfl (Or.inl rfl) (by trivial)) (QD (@qG _ _ (8) _ Qw.nd rfl (Or.inl rfl) (by trivial)) J7))) (by trivial) (by trivial)) (by trivial) (by trivial) (by trivial)) (@qc _ _ _ _ _ (@qx _ _ (9) _ _ _ _ Qw.nd rfl (Or.inl rfl) (@Qh _ _ _ _ _ _ _ _ _ jH (by rfl) T.z_str boot_str (@qa _ _ _ _ _ (@qu _ _ _ _ _ _ _ _ _ (@call_min2 _ rfl) (by rfl) T.z_min boot_min (@qa _ _ _ _ _ (pv 2) (@qa _ _ _ _ _ (@qA _ _ _ _ _ _ _ _ qW (@qA _ _ _ _ _ _ _ _ qW (pv 3) qg) (@qk _ _ _ _ _ _ _ _ _ _ _ _ _ _ _ _ qt (hr.mono (by trivial)) (by rfl) T.g_law_take.m T.g_law_take.F.kp T.g_law_take.b .nil qy (@qa _ _ _ _ _ (pv 0) (@qa _ _ _ _ _ (pv 2) qb (by trivial)) (by trivial)) (by trivial) (by trivial) (by trivial))) qb (by trivial)) (by trivial)) (by trivial) (by trivial) (by trivial) (by trivial)) qb (by trivial)) (by trivial) (by trivial) (by trivial) (by trivial)) (by trivial) (by trivial)) (@qc _ _ _ _ _ (@qH _ _ _ _ _ _ _ _ (@qp _ _ _ _ _ _ _ _ Q1 (pv 5) qi (qz _)) (@qd _ _ _ (@qo _ _ _ _ (@qA _ _ _ _ _ _ _ _ qr (@qA _ _ _ _ _ _ _ _ qr (@qA _ _ _ _ _ _ _ _ qr qi (pv 6)) qi) (@qk _ _ _ _ _ _ _ _ _ _ _ _ _ _ _ _ Qc (hr.mono (by trivial)) (by rfl) T.g_law_word.m T.g_law_word.F.kp T.g_law_word.b .nil qy (@qa _ _ _ _ _ (pv 0) (@qa _ _ _ _ _ (pv 1) qb (by trivial)) (by trivial)) (by trivial) (by trivial) (by trivial))))) qq) (@qc _ _ _ _ _ (@qH _ _ _ _ _ _ _ _ (@qp _ _ _ _ _ _ _ _ yX (pv 5) (@q9 _ _ _ _ (@qa _ _ _ _ _ qi (@qa _ _ _ _ _ qi qb (by trivial)) (by trivial))) (by with_unfolding_all rfl)) (@qd _ _ _ (@qo _ _ _ _ (@qA _ _ _ _ _ _ _ _ qr (@qA _ _ _ _ _ _ _ _ qr (pv 5) qi) (pv 6)))) qq) (@qc _ _ _ _ _ (@qH _ _ _ _ _ _ _ _ (@qp _ _ _ _ _ _ _ _ Q1 (pv 5) qi (qz _)) (@qd _ _ _ (@qo _ _ _ _ (pv 5))) qq) (@qc _ _ _ _ _ (@qH _ _ _ _ _ _ _ _ (@qp _ _ _ _ _ _ _ _ Q1 (pv 5) qi (qz _)) (@qd _ _ _ (@qo _ _ _ _ (@qA _ _ _ _ _ _ _ _ qr qi (pv 9)))) qq) (@qc _ _ _ _ _ (@qH _ _ _ _ _ _ _ _ (@qp _ _ _ _ _ _ _ _ yX (pv 5) (@q9 _ _ _ _ (@qa _ _ _ _ _ qi (@qa _ _ _ _ _ qi qb (by trivial)) (by trivial))) (by with_unfolding_all rfl)) (@qd _ _ _ (@qo _ _ _ _ (@QY _ _ _ _ _ _ _ _ _ _ _ _ uo uw uy QI qi (@qa _ _ _ _ _ (@q9 _ _ _ _ (@qa _ _ _ _ _ (pv 5) (@qa _ _ _ _ _ (pv 6) (@qa _ _ _ _ _ (pv 9) qb (by trivial)) (by trivial)) (by trivial))) qb (by trivial)) (by trivial) (by trivial) (by trivial) (by trivial) (by trivial)))) qq) (@qc _ _ _ _ _ (@qH _ _ _ _ _ _ _ _ (@qp _ _ _ _ _ _ _ _ Q1 (pv 5) qi (qz _)) (@qd _ _ _ (@qo _ _ _ _ (@QY _ _ _ _ _ _ _ _ _ _ _ _ uo uw uy QI qi (@qa _ _ _ _ _ (@q9 _ _ _ _ (@qa _ _ _ _ _ (pv 5) (@qa _ _ _ _ _ (pv 6) (@qa _ _ _ _ _ (pv 7) (@qa _ _ _ _ _ (pv 9) qb (by trivial)) (by trivial)) (by trivial)) (by trivial))) qb (by trivial)) (by trivial) (by trivial) (by trivial) (by trivial) (by trivial)))) qq) (@qc _ _ _ _ _ (@qH _ _ _ _ _ _ _ _ (@qp _ _ _ _ _ _ _ _ yX (pv 5) (@q9 _ _ _ _ (@qa _ _ _ _ _ qi (@qa _ _ _ _ _ qi qb (by trivial)) (by trivial))) (by with_unfolding_all rfl)) (@qd _ _ _ (@qo _ _ _ _ (@QY _ _ _ _ _ _ _ _ _ _ _ _ uo uw uy QI qi (@qa _ _ _ _ _ (@q9 _ _ _ _ (@qa _ _ _ _ _ (pv 5) (@qa _ _ _ _ _ (pv 6) (@qa _ _ _ _ _ (pv 7) (@qa _ _ _ _ _ (pv 8) qb (by trivial)) (by trivial)) (by trivial)) (by trivial))) qb (by trivial)) (by trivial) (by trivial) (by trivial) (by trivial) (by trivial)))) qq) (@qd _ _ _ (@qo _ _ _ _ (@QY _ _ _ _ _ _ _ _ _ _ _ _ uo uw uy QI qi (@qa _ _ _ _ _ (@q9 _ _ _ _ (@qa _ _ _ _ _ (pv 5) (@qa _ _ _ _ _ (pv 6) (@qa _ _ _ _ _ (pv 7) qb (by trivial)) (by trivial)) (by trivial))) qb (by trivial)) (by trivial) (by trivial) (by trivial) (by trivial) (by trivial))))))))))))))),?_⟩
 refine⟨_,rfl,_,_,rfl,rfl,(by decide+kernel),rfl,_,rfl,rfl,(by decide+kernel),fun q hq=> ?_⟩
 rw [show spl _ _=WL from wl_spl]
 have s1:Same H (upd H q (.lst (WL.map V.str))):=qf hq _;have eq:(upd H q (.lst (WL.map V.str))) q=some (.lst (WL.map V.str)):=qe;generalize upd H q (.lst (WL.map V.str))=H1 at s1 eq⊢;have P1:=hP.same s1;refine⟨_,rfl,p,24,rfl,P1,by decide,by decide,fun d H2 d0 d1 P2 K2=> ?_⟩
 obtain⟨v,hv⟩:=QA (xs:=WL.map V.str) d0 (by show d<24;exact d1)
 obtain⟨z,hz,rfl⟩:=List.mem_map.mp (Q5 hv);refine⟨q,_,d,_,rfl,rfl,SqL.of (K2 _ _ eq (P1.ne_strs eq)),hv,?_⟩;have Y:=wl_ok z hz;have aj:Kept p H H2:=(Kept.of s1).trans K2;clear K2 hv hz eq P1 s1 hq;refine⟨3,rfl,by decide,by decide,fun D hD=> ?_⟩
 refine Y7 (lo:=0) (tl:= [some (.ref p)]) (fun i ys H'=>∃bs:List Str,ys=bs.map V.str/\bs.length=i/\(∀b∈bs,Wd 1 b)/\qV H' p/\(∀b o,H2 b=some o->b≠p->H' b=some o)) (xj (by decide)) ⟨[],rfl,rfl,fun b hb=>by simp at hb,P2.same (qf hD _),fun b o e _=>qf hD _ _ _ e⟩ ?_ ?_
 ·rintro j ys H' hj ⟨bs,rfl,ac,U,P',K'⟩ ad O R hR;refine⟨_,rfl,p,5,rfl,P',by decide,by decide,fun d3 H4 e0 e1 P4 K4=> ?_⟩
  obtain⟨c,hc,am⟩:=abc_at e0 e1;refine⟨"abcdh",d3,c,rfl,rfl,(by decide+kernel),hc,?_⟩
  have nD:D≠p:=(P2.free hD).symm;refine hR _ H4 (K4 _ _ ad nD) ⟨bs++ [⟨#[c]⟩],by rw [ue];rfl,by rw [uf,ac];rfl,fun b hb=> ?_,?_,fun b o e np=> ?_⟩
  ·rcases List.mem_append.mp hb with h|h
   ·exact U b h
   ·rw [Uo] at h;subst h;exact am
  ·obtain⟨x,e2,h2⟩:=P4;exact⟨x,by rw [ql nD.symm];exact e2,h2⟩
  ·rw [ql (qh e hD)];exact K4 _ _ (K' b o e np) np
 ·rintro ys H' ⟨bs,rfl,ac,U,P',K'⟩ ad;obtain⟨x1,x2,x3,rfl⟩:∃x1 x2 x3,bs= [x1,x2,x3]:=by
   match bs,ac with
   | [x1,x2,x3],_=>exact⟨x1,x2,x3,rfl⟩
  have h1:Wd 2 x1:=⟨(U x1 (by simp)).1,by have:=(U x1 (by simp)).2;omega⟩
  have h2:Wd 2 x2:=⟨(U x2 (by simp)).1,by have:=(U x2 (by simp)).2;omega⟩
  have h3:Wd 2 x3:=⟨(U x3 (by simp)).1,by have:=(U x3 (by simp)).2;omega⟩
  have KD:Kept p H H':=fun b o e np=>K' b o (aj b o e np) np;refine⟨D,_,rfl,SqL.of ad,rfl,_,_,rfl,_,_,rfl,_,_,rfl,rfl,?_⟩;clear K' aj P2 U ac ad;refine⟨_,rfl,_,rfl,_,_,rfl,rfl,_,rfl,_,rfl,p,many,rfl,P',by omega,by omega,fun d5 H5 f0 f1 P5 K5=>⟨_,_,rfl,rfl,_,_,rfl,?_⟩⟩
  obtain⟨j,ej,ao,ap⟩:∃j:Int,j=(if(i:Int)+5+d5<(many:Int) then(i:Int)+5+d5 else(many:Int))/\1<=j/\j<=12:=⟨_,rfl,by split<;>omega,by split<;>omega⟩
  rw [<-ej];obtain⟨jn,rfl⟩:∃n:Nat,j=(n:Int):=⟨j.toNat,by omega⟩
  have ak:=num_ok jn (by omega)
  have h4:Wd 2 (toString ((jn:Nat):Int):Str):=ak;have af:((jn:Nat):Int).natAbs.log2<1920:=by have:=Nat.log2_le_self ((jn:Nat):Int).natAbs;omega
  refine⟨_,rfl,af,?_⟩;have ag:Kept p H H5:=KD.trans K5;have aq:=ag _ _ hL (hP.ne_strs hL);have aa:∀(y:Str) (H':Hp),Wd 20 y->Same H5 H'->Q (.str y) H':=fun y H' O s'=>k y H' O (P5.same s') (ag.trans (Kept.of s'));have ah:(2:Nat)<=sizeLine:=by decide
  have bl:Wd 1 " ":=⟨by decide+kernel,Nat.le_refl _⟩
  have fz:∀{n m:Nat}{x y:Str},Wd n x->Wd m y->n+m<=100->x.length+y.length<=sizeLine:=fun hx O h=>fits (by have:=hx.2;have:=O.2;omega)
  have tx:Wd 5 "text ":=⟨by decide+kernel,Nat.le_refl _⟩
  have go:Wd 3 "go ":=⟨by decide+kernel,Nat.le_refl _⟩
  clear ak ao ap af ej;refine⟨_,rfl,rfl,_,rfl,ite2 (fun _=> ?_) (fun _=> ?_)⟩
  ·have w1:=tx.cat h1 (k:=7) (by omega)
   have w2:=w1.cat bl (k:=8) (by omega)
   refine⟨_,rfl,_,_,rfl,rfl,fz tx h1 (by omega),_,_,rfl,rfl,fz w1 bl (by omega),_,rfl,_,rfl,p,L,zs,rfl,P5,aq,hN,fun y H6 O P6 K6=> ?_⟩
   exact⟨_,_,rfl,rfl,fz w2 O (by omega),k _ H6 (w2.cat O (by omega)) P6 (ag.trans K6)⟩
  refine⟨_,rfl,ah,fun l1 au=>⟨l1,_,rfl,.inl (SqL.of qe),rfl,rfl,_,rfl,?_⟩⟩;have ae:=qf au (.lst ([.str "self",.str "say"]:List V));refine ite2 (fun _=> ?_) (fun _=> ?_)
  ·have w1:=Y.cat bl (k:=6) (by omega)
   exact⟨_,rfl,_,_,rfl,rfl,fz Y bl (by omega),_,rfl,_,_,rfl,rfl,fz w1 h1 (by omega),aa _ _ (w1.cat h1 (by omega)) ae⟩
  refine⟨_,rfl,rfl,_,rfl,ite2 (fun _=> ?_) (fun _=> ?_)⟩
  ·exact⟨_,rfl,aa _ _ ⟨Y.1,by have:=Y.2;omega⟩ ae⟩
  refine⟨_,rfl,rfl,_,rfl,ite2 (fun _=> ?_) (fun _=> ?_)⟩
  ·exact⟨_,rfl,_,_,rfl,rfl,fz go h4 (by omega),aa _ _ (go.cat h4 (by omega)) ae⟩
  refine⟨_,rfl,ah,fun l2 av=>⟨l2,_,rfl,.inl (SqL.of qe),rfl,rfl,_,rfl,?_⟩⟩;have ai:=ae.trans (qf av (.lst ([.str "none",.str "rowed"]:List V)));refine ite2 (fun _=> ?_) (fun _=> ?_)
  ·refine⟨rfl,_,rfl,_,rfl,_,rfl,?_⟩;exact joins (l:= [x1,toString ((jn:Nat):Int)]) (by simp) Y (fun y O=>by simp at O;rcases O with rfl|rfl<;>assumption) fun y H' O s'=>aa y H' O (ai.trans s')
  refine⟨_,rfl,rfl,_,rfl,ite2 (fun _=> ?_) (fun _=> ?_)⟩
  ·refine⟨rfl,_,rfl,_,rfl,_,rfl,_,rfl,?_⟩;exact joins (l:= [x1,x2,toString ((jn:Nat):Int)]) (by simp) Y (fun y O=>by simp at O;rcases O with rfl|rfl|rfl<;>assumption) fun y H' O s'=>aa y H' O (ai.trans s')
  refine⟨_,rfl,ah,fun l3 aw=>⟨l3,_,rfl,.inl (SqL.of qe),rfl,rfl,_,rfl,?_⟩⟩;have al:=ai.trans (qf aw (.lst ([.str "cut",.str "glue"]:List V)));refine ite2 (fun _=> ?_) (fun _=> ?_)
  ·refine⟨rfl,_,rfl,_,rfl,_,rfl,_,rfl,?_⟩;exact joins (l:= [x1,x2,x3]) (by simp) Y (fun y O=>by simp at O;rcases O with rfl|rfl|rfl<;>assumption) fun y H' O s'=>aa y H' O (al.trans s')
  ·refine⟨rfl,_,rfl,_,rfl,_,rfl,?_⟩;exact joins (l:= [x1,x2]) (by simp) Y (fun y O=>by simp at O;rcases O with rfl|rfl<;>assumption) fun y H' O s'=>aa y H' O (al.trans s')
def TrOk (d:D):Prop:=isT d=true/\lw d=true/\sz d<=300
def sp_tre:Sp:=fun vs H Q _=>∃(p L:Addr) (zs:List Str),vs= [.ref p,.ref L]/\qV H p/\H L=some (.lst (zs.map V.str))/\Nm4 zs/\∀(v:V) (d:D) (H':Hp),TrOk d->Is H' d v->qV H' p->Kept p H H'->Q v H'
theorem IsL.ofStrs {H:Hp}:∀{l:List Str},(∀z∈l,z.length<=1000)->L2.IsL H (l.map D.str) (l.map V.str)
 | [],_=>rfl
 |z::r,h=>⟨_,_,rfl,⟨rfl,xj (h z ui)⟩,IsL.ofStrs fun y O=>h y (u5 _ O)⟩
theorem szL_strs {n:Nat}:∀{l:List Str},(∀z∈l,z.length<=n)->szL (l.map D.str)<=l.length*(n+1)
 | [],_=>by simp [szL]
 |z::r,h=>by
  have:=szL_strs (n:=n) fun y O=>h y (u5 (a:=y) z O);have:=h z ui;simp only [ua,szL,sz,ul,Nat.add_mul,Nat.one_mul];omega
theorem lw_strs:∀{l:List Str},(∀z∈l,Q8 z=true)->lwL (l.map D.str)=true
 | [],_=>rfl
 |z::r,h=>by
  rw [ua,lwL,lw_strs fun y O=>h y (u5 _ O),UA];exact h z ui
theorem dp_strs:∀l:List Str,dpL (l.map D.str)<=1
 | []=>by simp [dpL]
 |z::r=>by have:=dp_strs r;simp only [ua,dpL,dp];omega
theorem good_strs:∀{l:List Str},(∀z∈l,Wd 300 z)->goodL (l.map D.str)=true
 | [],_=>rfl
 |z::r,h=>by
  rw [ua,goodL,good_strs fun y O=>h y (u5 _ O),UA];show Qy z=true;unfold Qy;have:=h z ui;rw [u8 this.2];exact this.1
theorem tr_str {z:Str}(h:Wd 20 z):TrOk (.str z):=⟨isT_short h.1 (by have:=h.2;omega),h.1,by simp only [sz];have:=h.2;omega⟩
theorem tr_row {l:List Str}(hl:l.length<=14)(h:∀z∈l,Wd 20 z):TrOk (.tup (l.map D.str)):=by
 have h1:=szL_strs fun z O=>(h z O).2;have h2:=dp_strs l;have U:=good_strs fun z O=>(⟨(h z O).1,by have:=(h z O).2;omega⟩:Wd 300 z)
 have e:sz (.tup (l.map D.str))<=300:=by simp only [sz];omega
 refine⟨?_,by simpa only [lw] using lw_strs fun z O=>(h z O).1,e⟩
 have Y:dp (.tup (l.map D.str))<=12:=by simp only [dp];omega
 unfold isT;rw [u8 (show sz (.tup (l.map D.str))<=600 by omega),u8 Y]
 simp only [good];rw [U,u3,u8 (show l.length<=40 by omega)]
 rfl
theorem is_row {H:Hp}{l:List Str}{t:Addr}(h:∀z∈l,Wd 20 z)(O:H t=none):Is (upd H t (.tup (l.map V.str))) (.tup (l.map D.str)) (.ref t):=
 Is.new (IsL.ofStrs fun z U=>by have:=(h z U).2;omega) O
def MKL (z:Str):List Str:= ["row h","text b "++z,"ask c b","text a text d ","join a c","put h a","text a ask e d","put h a","text a say e","put h a","say h"]
theorem mkl_ok {z:Str}(h:Wd 4 z):∀y∈MKL z,Wd 20 y:=by
 have O:∀y∈(["row h","ask c b","text a text d ","join a c","put h a","text a ask e d","put h a","text a say e","put h a","say h"]:List Str),Q8 y=true/\y.length<=20:=by decide+kernel
 intro y U;rcases List.mem_cons.mp U with rfl|U
 ·exact O _ (by simp)
 ·rcases List.mem_cons.mp U with rfl|U
  ·exact Wd.cat (n:=7) (m:=4) ⟨by decide+kernel,Nat.le_refl _⟩ h (by omega)
  ·exact O y (u5 _ U)
theorem ok_maker (T:Tx K mg a):FnOk P w K mg base CX0 2 a.JU a.J2 ["pot","names"] sp_tre:=by
 have qt:=yl (P:=P) (w:=w) (base:=base) T;refine T.g_law_maker.F.ok yc (by trivial) (fun _ _ _ _ H _ Q E hr h=> ?_)
 obtain⟨p,L,zs,rfl,hP,hL,Y,k⟩:=h;have ac:=Y.1;have ad:=Y.2.1;refine⟨_,(@qc _ _ _ _ _ (@qx _ _ (2) _ _ _ _ yc.nd rfl (Or.inl rfl) (@qP _ _ _ _ _ _ _ qZ (pv 1) (@qk _ _ _ _ _ _ _ _ _ _ _ _ _ _ _ _ qt (hr.mono (by trivial)) (by rfl) T.g_law_take.m T.g_law_take.F.kp T.g_law_take.b .nil qy (@qa _ _ _ _ _ (pv 0) (@qa _ _ _ _ _ (@qu _ _ _ _ _ _ _ _ _ qI (by rfl) T.yL uD (@qa _ _ _ _ _ (pv 1) qb (by trivial)) (by trivial) (by trivial) (by trivial) (by trivial)) qb (by trivial)) (by trivial)) (by trivial) (by trivial) (by trivial)) (fun _ _=>rfl)) (by trivial) (by trivial)) (@qc _ _ _ _ _ (@qx _ _ (3) _ _ _ _ yc.nd rfl (Or.inl rfl) (@q9 _ _ _ _ (@qa _ _ _ _ _ qi (@qa _ _ _ _ _ (@qA _ _ _ _ _ _ _ _ qr qi (pv 2)) (@qa _ _ _ _ _ qi (@qa _ _ _ _ _ qi (@qa _ _ _ _ _ qi (@qa _ _ _ _ _ qi qb (by trivial)) (by trivial)) (by trivial)) (by trivial)) (by trivial)) (by trivial))) (by trivial) (by trivial)) (@qc _ _ _ _ _ (@qx _ _ (3) _ _ _ _ yc.nd rfl (Or.inl rfl) (@qA _ _ _ _ _ _ _ _ op_cat (pv 3) (@q9 _ _ _ _ (@qa _ _ _ _ _ qi (@qa _ _ _ _ _ qi (@qa _ _ _ _ _ qi (@qa _ _ _ _ _ qi (@qa _ _ _ _ _ qi qb (by trivial)) (by trivial)) (by trivial)) (by trivial)) (by trivial)))) (by trivial) (by trivial)) (@qd _ _ _ (@qo _ _ _ _ (@Qh _ _ _ _ _ _ _ _ _ qX (by rfl) T.Q7 vU (@qa _ _ _ _ _ (pv 3) qb (by trivial)) (by trivial) (by trivial) (by trivial) (by trivial))))))),?_⟩
 have aa:=hP.ne_strs hL;refine⟨_,rfl,_,rfl,_,rfl,L,_,rfl,.inl (SqL.of hL),p,_,rfl,hP,by rw [u3];omega,by rw [u3];omega,fun d1 H1 a0 a1 P1 K1=> ?_⟩
 obtain⟨v,hv⟩:=QA (xs:=zs.map V.str) a0 a1;obtain⟨z,hz,rfl⟩:=List.mem_map.mp (Q5 hv);have O:Wd 4 z:=⟨nm_all (Y.2.2 z hz).1,(Y.2.2 z hz).2⟩;refine⟨L,_,_,_,rfl,rfl,SqL.of (K1 _ _ hL aa),hv,?_⟩;have e7:("text b ":Str).length=7:=by decide+kernel
 refine⟨_,rfl,_,_,rfl,rfl,fits (by have:=O.2;omega),(by show 6<=sizeLine;decide),fun U h1=> ?_⟩
 have q1:=qf h1 (.lst (((MKL z).take 6).map V.str));have e1:(upd H1 U (.lst (((MKL z).take 6).map V.str))) U=some (.lst (((MKL z).take 6).map V.str)):=qe;show tSeq _ _ _ _ (upd H1 U (.lst (((MKL z).take 6).map V.str)));generalize upd H1 U (.lst (((MKL z).take 6).map V.str))=H2 at q1 e1⊢;refine⟨_,rfl,(by show 5<=sizeLine;decide),fun l2 h2=> ?_⟩
 have q2:=qf h2 (.lst (((MKL z).drop 6).map V.str));refine⟨U,l2,_,_,rfl,rfl,q2 _ _ e1,qe,fits (by show 6+5<=16000000;decide),fun l3 h3=> ?_⟩
 have q3:=q2.trans (qf h3 (.lst ((MKL z).map V.str)));refine⟨_,rfl,l3,(MKL z).map V.str,rfl,.inl ⟨SqL.of qe,fun t ht=> ?_⟩⟩;have q4:=qf ht (.tup ((MKL z).map V.str));exact k _ _ _ (tr_row (by show 11<=14;decide) (mkl_ok O)) (is_row (mkl_ok O) ht) ((P1.same q1).same (q3.trans q4)) (K1.trans (Kept.of (q1.trans (q3.trans q4))))
theorem ok_rule (T:Tx K mg a):FnOk P w K mg base CX0 4 a.xt a.xI ["pot","names"] sp_tre:=by
 have qt:=yl (P:=P) (w:=w) (base:=base) T;have Qc:=ok_word (P:=P) (w:=w) (base:=base) T;have U:=ok_line (P:=P) (w:=w) (base:=base) T;refine T.g_law_rule.F.ok yE (by trivial) (fun _ _ _ _ H _ Q E hr h=> ?_)
 obtain⟨p,L,zs,rfl,hP,hL,hN,k⟩:=h;refine⟨_,(@qc _ _ _ _ _ (@qx _ _ (2) _ _ _ _ yE.nd rfl (Or.inl rfl) (@qA _ _ _ _ _ _ _ _ qW qg (@qk _ _ _ _ _ _ _ _ _ _ _ _ _ _ _ _ qt (hr.mono (by trivial)) (by rfl) T.g_law_take.m T.g_law_take.F.kp T.g_law_take.b .nil qy (@qa _ _ _ _ _ (pv 0) (@qa _ _ _ _ _ qg qb (by trivial)) (by trivial)) (by trivial) (by trivial) (by trivial))) (by trivial) (by trivial)) (@qc _ _ _ _ _ (@qx _ _ (3) _ _ _ _ yE.nd rfl (Or.inr rfl) (@qA _ _ _ _ _ _ _ _ qW (pv 2) qg) (by trivial) (by trivial)) (@qc _ _ _ _ _ (@qx _ _ (4) _ _ _ _ yE.nd rfl (Or.inl rfl) (@q9 _ _ _ _ (@qa _ _ _ _ _ (@qA _ _ _ _ _ _ _ _ qr qi (@qk _ _ _ _ _ _ _ _ _ _ _ _ _ _ _ _ Qc (hr.mono (by trivial)) (by rfl) T.g_law_word.m T.g_law_word.F.kp T.g_law_word.b .nil qy (@qa _ _ _ _ _ (pv 0) (@qa _ _ _ _ _ (pv 1) qb (by trivial)) (by trivial)) (by trivial) (by trivial) (by trivial))) (@qa _ _ _ _ _ (@qA _ _ _ _ _ _ _ _ qr qi (@qk _ _ _ _ _ _ _ _ _ _ _ _ _ _ _ _ Qc (hr.mono (by trivial)) (by rfl) T.g_law_word.m T.g_law_word.F.kp T.g_law_word.b .nil qy (@qa _ _ _ _ _ (pv 0) (@qa _ _ _ _ _ (pv 1) qb (by trivial)) (by trivial)) (by trivial) (by trivial) (by trivial))) (@qa _ _ _ _ _ qi qb (by trivial)) (by trivial)) (by trivial))) (by trivial) (by trivial)) (@qc _ _ _ _ _ (@yT _ _ _ _ (@QY _ _ _ _ _ _ _ _ _ _ _ _ uL PySem.F.slot_list_extend PySem.F.type_list_extend mt_extend (pv 4) (@qa _ _ _ _ _ (@ji _ _ (["k","pot","names","many"]) (1) ([0,1,3]) _ _ _ _ _ _ _ _ _ (lcsN (qj Yq) ["pot","names","body","many","lines"]) rfl (@Qp _ _ _ _ _ _ (by rfl) T.yn (@qa _ _ _ _ _ (pv 2) qb (by trivial)) (by trivial)) (fun _ _ _ _ _ _=>(@qG _ _ (0) _ (show List.Nodup (["k","pot","names","many"]:List Str) by decide+kernel) rfl (Or.inl rfl) (by trivial))) (fun _ _ _ _ _ _=> @QJ _) (fun _ _ _ _ _ _=>(@qk _ _ _ _ _ _ _ _ _ _ _ _ _ _ _ _ U (hr.mono (by trivial)) (by rfl) T.g_law_line.m T.g_law_line.F.kp T.g_law_line.b .nil qy (@qa _ _ _ _ _ (pv 1) (@qa _ _ _ _ _ (pv 2) (@qa _ _ _ _ _ (pv 3) (@qa _ _ _ _ _ (pv 0) qb (by trivial)) (by trivial)) (by trivial)) (by trivial)) (by trivial) (by trivial) (by trivial))) (by trivial)) qb (by trivial)) (by trivial) (by trivial) (by trivial) (by trivial) (by trivial)) (by trivial)) (@qd _ _ _ (@qo _ _ _ _ (@Qh _ _ _ _ _ _ _ _ _ qX (by rfl) T.Q7 vU (@qa _ _ _ _ _ (@qA _ _ _ _ _ _ _ _ op_cat (pv 4) (@q9 _ _ _ _ (@qa _ _ _ _ _ (@qA _ _ _ _ _ _ _ _ qr qi (@qP _ _ _ _ _ _ _ J3 qi (@qk _ _ _ _ _ _ _ _ _ _ _ _ _ _ _ _ qt (hr.mono (by trivial)) (by rfl) T.g_law_take.m T.g_law_take.F.kp T.g_law_take.b .nil qy (@qa _ _ _ _ _ (pv 0) (@qa _ _ _ _ _ qg qb (by trivial)) (by trivial)) (by trivial) (by trivial) (by trivial)) (fun _ _=>rfl))) qb (by trivial)))) qb (by trivial)) (by trivial) (by trivial) (by trivial) (by trivial)))))))),?_⟩
 refine⟨_,rfl,p,8,rfl,hP,by decide,by decide,fun d1 H1 a0 a1 P1 K1=>⟨_,_,rfl,rfl,?_⟩⟩
 obtain⟨nb,ai,aD,aE⟩:∃nb:Nat,1+d1=(nb:Int)/\1<=nb/\nb<=8:=⟨(1+d1).toNat,by omega,by omega,by omega⟩
 have ac:=K1 _ _ hL (hP.ne_strs hL);dsimp only;rw [ai];clear ai a0 a1;refine⟨_,rfl,_,_,rfl,rfl,?_⟩;have ta:Wd 7 "text a ":=⟨by decide+kernel,Nat.le_refl _⟩
 have tb:Wd 7 "text b ":=⟨by decide+kernel,Nat.le_refl _⟩
 have fz:∀{n m:Nat}{x y:Str},Wd n x->Wd m y->n+m<=100->x.length+y.length<=sizeLine:=fun hx Y h=>fits (by have:=hx.2;have:=Y.2;omega)
 refine⟨_,rfl,_,rfl,p,L,zs,rfl,P1,ac,hN,fun z1 H5 aj P5 K5=>⟨_,_,rfl,rfl,fz ta aj (by omega),?_⟩⟩
 have ad:=K5 _ _ ac (P1.ne_strs ac);refine⟨_,rfl,_,rfl,p,L,zs,rfl,P5,ad,hN,fun z2 H6 ak P6 K6=>⟨_,_,rfl,rfl,fz tb ak (by omega),(by show 3<=sizeLine;decide),fun l hl=> ?_⟩⟩
 have aq:=K6 _ _ ad (P5.ne_strs ad);have al:Kept p H H6:=(K1.trans K5).trans K6;have s7:=qf hl (.lst (["text a "++z1,"text b "++z2,"row h"].map V.str));have e7:(upd H6 l (.lst (["text a "++z1,"text b "++z2,"row h"].map V.str))) l=some (.lst (["text a "++z1,"text b "++z2,"row h"].map V.str)):=qe;have P7:=P6.same s7;have ae:=s7 _ _ aq;have K7:Kept p H (upd H6 l (.lst (["text a "++z1,"text b "++z2,"row h"].map V.str))):=al.trans (Kept.of s7);have aa:∀y∈(["text a "++z1,"text b "++z2,"row h"]:List Str),Wd 20 y:=fun y Y=>by
  simp only [vb,Uc,Ul] at Y;rcases Y with rfl|rfl|rfl
  ·exact ta.cat aj (by omega)
  ·exact tb.cat ak (by omega)
  ·exact⟨by decide+kernel,by decide⟩
 show tSeq _ _ _ _ (upd H6 l (.lst (["text a "++z1,"text b "++z2,"row h"].map V.str)));generalize upd H6 l (.lst (["text a "++z1,"text b "++z2,"row h"].map V.str))=H7 at e7 P7 ae K7⊢;have au:(["text a "++z1,"text b "++z2,"row h"]:List Str).length=3:=rfl;generalize (["text a "++z1,"text b "++z2,"row h"]:List Str)=th at e7 aa au⊢;refine⟨_,rfl,.inl ⟨rfl,_,SqL.of e7⟩,?_⟩;refine⟨_,rfl,nb,rfl,by omega,by omega,fun D hD=> ?_⟩
 have nD:D≠p:=(P7.free hD).symm;have nl:l≠p:=P7.ne_strs e7;refine Y7 (lo:=0) (n:=nb) (tl:= [some (.ref p),some (.ref L),some (.int ((nb:Int)+4))]) (fun i ys H'=>∃O:List Str,ys=O.map V.str/\O.length=i/\(∀r∈O,Wd 20 r)/\qV H' p/\(∀b o,H7 b=some o->b≠p->H' b=some o)) (xj (by omega)) ⟨[],rfl,rfl,fun b hb=>by simp at hb,P7.same (qf hD _),fun b o e _=>qf hD _ _ _ e⟩ ?_ ?_
 ·rintro j ys H' hj ⟨O,rfl,am,af,P',K'⟩ ag Y R hR;have av:=K' _ _ ae (P7.ne_strs ae);refine⟨_,rfl,_,rfl,_,rfl,_,rfl,p,L,zs,nb+4,j,?_,P',av,hN,by omega,by omega,by omega,fun r H8 aw P8 K8=> ?_⟩
  ·rw [show(0:Int)+(j:Int)=(j:Int) by omega,show((nb+4:Nat):Int)=(nb:Int)+4 by omega]
   rfl
  ·refine hR _ H8 (K8 _ _ ag nD) ⟨O++ [r],by rw [ue];rfl,by rw [uf,am];rfl,fun b hb=> ?_,?_,fun b o e np=> ?_⟩
   ·rcases List.mem_append.mp hb with h|h
    ·exact af b h
    ·rw [Uo] at h;subst h;exact aw
   ·obtain⟨x,e2,h2⟩:=P8;exact⟨x,by rw [ql nD.symm];exact e2,h2⟩
   ·rw [ql (qh e hD)];exact K8 _ _ (K' b o e np) np
 ·rintro ys H' ⟨O,rfl,am,af,P',K'⟩ ag;have e8:=K' _ _ e7 nl;refine⟨l,D,_,_,rfl,rfl,e8,ag,fits (by rw [u3,u3];omega),?_⟩
  have e9:(upd H' l (.lst (th.map V.str++O.map V.str))) l=some (.lst ((th++O).map V.str)):=by rw [qe,ue]
  have P9:qV (upd H' l (.lst (th.map V.str++O.map V.str))) p:=by
   obtain⟨x,e2,h2⟩:=P';exact⟨x,by rw [ql nl.symm];exact e2,h2⟩
  have K9:Kept p H (upd H' l (.lst (th.map V.str++O.map V.str))):=fun b o e np=>by
   rw [ql (qh (al b o e np) hl)];exact K' b o (K7 b o e np) np
  generalize upd H' l (.lst (th.map V.str++O.map V.str))=H9 at e9 P9 K9⊢;refine⟨_,rfl,_,rfl,p,5,rfl,P9,by decide,by decide,fun d9 aF g0 g1 ax ao=> ?_⟩
  obtain⟨c9,hc,ay⟩:=abc_at g0 g1;have az:=ao _ _ e9 nl;refine⟨"abcdh",d9,c9,rfl,rfl,(by decide+kernel),hc,_,_,rfl,rfl,(by show("say ":Str).length+1<=sizeLine;decide+kernel),(by show 1<=sizeLine;decide),fun q1 aA=> ?_⟩
  have ap:=qf aA (.lst [.str ("say "++⟨#[c9]⟩)]);have hw:Wd 20 ("say "++⟨#[c9]⟩:Str):=Wd.cat (n:=4) (m:=1) ⟨by decide+kernel,Nat.le_refl _⟩ ay (by omega)
  refine⟨l,q1,_,_,rfl,rfl,ap _ _ az,qe,fits (by rw [u3,uf];show _+1<=_;omega),fun q2 aB=> ?_⟩
  have aC:=ap.trans (qf aB (.lst ((th++O).map V.str++ [.str ("say "++⟨#[c9]⟩)])));refine⟨q2,_,rfl,.inl ⟨SqL.of qe,fun t ht=> ?_⟩⟩;have ah:=aC.trans (qf ht (.tup ((th++O).map V.str++ [.str ("say "++⟨#[c9]⟩)])));have all:∀y∈th++O++ [("say "++⟨#[c9]⟩:Str)],Wd 20 y:=fun y Y=>by
   rcases List.mem_append.mp Y with Y|Y
   ·rcases List.mem_append.mp Y with Y|Y
    ·exact aa y Y
    ·exact af y Y
   ·cases List.mem_singleton.mp Y;exact hw
  have em:(th++O).map V.str++ [.str ("say "++⟨#[c9]⟩)]=(th++O++ [("say "++⟨#[c9]⟩:Str)]).map V.str:=by rw [ue (l₁:=th++O)];rfl
  rw [em] at ah ht⊢;refine k _ _ _ (tr_row (l:=th++O++ [("say "++⟨#[c9]⟩:Str)]) (by simp only [uf,uV];omega) all) (is_row all ht) (ax.same ah) ((K9.trans ao).trans (Kept.of ah))
theorem tr_three {z y:Str}(O:Wd 20 z)(U:Wd 20 y):TrOk (.tup [.tup [.str z,.tup []],.str y]):=by
 have h1:=O.2;have h2:=U.2;have Y:Qy z=true:=by unfold Qy;rw [u8 (show z.length<=300 by omega)];exact O.1
 have g2:Qy y=true:=by unfold Qy;rw [u8 (show y.length<=300 by omega)];exact U.1
 have e:sz (.tup [.tup [.str z,.tup []],.str y])<=300:=by simp only [sz,szL];omega
 refine⟨?_,by simp [lw,lwL,O.1,U.1],e⟩
 unfold isT;rw [u8 (show sz (.tup [.tup [.str z,.tup []],.str y])<=600 by omega),u8 (show dp (.tup [.tup [.str z,.tup []],.str y])<=12 by simp only [dp,dpL];omega)]
 simp [good,goodL,Y,g2]
def sp_srcd:Sp:=fun vs H Q _=>∃(p L:Addr) (zs:List Str),vs= [.ref p,.ref L]/\qV H p/\H L=some (.lst (zs.map V.str))/\Nm4 zs/\∀(v:V) (d:D) (H':Hp),Qt d->Is H' d v->qV H' p->Kept p H H'->Q v H'
theorem tr_src {k:Str}{d:D}(O:k="leaf"∨k="rule")(h:TrOk d):Qt (.tup [.str k,d]):=src_leaf O h.1 h.2.1 h.2.2
theorem src_row {H:Hp}{p:Addr}{k:Str}{d:D}{v:V}{Q:VK}(O:k="leaf"∨k="rule")(h:TrOk d)(Y:Is H d v)(q:∀t H',Same H H'->Is H' (.tup [.str k,d]) (.ref t)->Qt (.tup [.str k,d])->Q (.ref t) H'): [V.str k,v].length<=sizeLine/\∀t,H t=none->Q (.ref t) (upd H t (.tup [.str k,v])):=by
 refine⟨by show 2<=sizeLine;decide,fun t U=>q t _ (qf U _) (Is.new (ds:= [.str k,d]) ⟨_,_,rfl,⟨rfl,?_⟩,_,_,rfl,Y,rfl⟩ U) (tr_src O h)⟩
 rcases O with rfl|rfl<;>decide+kernel
theorem ok_leaf (T:Tx K mg a):FnOk P w K mg base CX0 5 a.xY a.xo ["pot","names"] sp_tre:=by
 have qt:=yl (P:=P) (w:=w) (base:=base) T;have Qc:=ok_word (P:=P) (w:=w) (base:=base) T;have jr:=ok_rule (P:=P) (w:=w) (base:=base) T;refine T.g_law_leaf.F.ok j8 (by trivial) (fun _ _ _ _ H _ Q E hr h=> ?_)
 obtain⟨p,L,zs,rfl,hP,hL,hN,k⟩:=h;have aa:∀{z:Str},Wd 4 z->Wd 20 z:=fun h=>⟨h.1,by have:=h.2;omega⟩
 refine⟨_,(@qc _ _ _ _ _ (@qx _ _ (2) _ _ _ _ j8.nd rfl (Or.inl rfl) (@qk _ _ _ _ _ _ _ _ _ _ _ _ _ _ _ _ qt (hr.mono (by trivial)) (by rfl) T.g_law_take.m T.g_law_take.F.kp T.g_law_take.b .nil qy (@qa _ _ _ _ _ (pv 0) (@qa _ _ _ _ _ qg qb (by trivial)) (by trivial)) (by trivial) (by trivial) (by trivial)) (by trivial) (by trivial)) (@qc _ _ _ _ _ (@qH _ _ _ _ _ _ _ _ (@qp _ _ _ _ _ _ _ _ op_lt (pv 2) qg (qz _)) (@qd _ _ _ (@qo _ _ _ _ (@qk _ _ _ _ _ _ _ _ _ _ _ _ _ _ _ _ Qc (hr.mono (by trivial)) (by rfl) T.g_law_word.m T.g_law_word.F.kp T.g_law_word.b .nil qy (@qa _ _ _ _ _ (pv 0) (@qa _ _ _ _ _ (pv 1) qb (by trivial)) (by trivial)) (by trivial) (by trivial) (by trivial)))) qq) (@qc _ _ _ _ _ (@qH _ _ _ _ _ _ _ _ (@qp _ _ _ _ _ _ _ _ Q1 (pv 2) qg (qz _)) (@qd _ _ _ (@qo _ _ _ _ (@Qh _ _ _ _ _ _ _ _ _ qX (by rfl) T.Q7 vU (@qa _ _ _ _ _ (@ji _ _ (["k","pot","names"]) (1) ([0,1]) _ _ _ _ _ _ _ _ _ (lcsN (qj Yo) ["pot","names","kind"]) rfl (@Qp _ _ _ _ _ _ (by rfl) T.yn (@qa _ _ _ _ _ (@qk _ _ _ _ _ _ _ _ _ _ _ _ _ _ _ _ qt (hr.mono (by trivial)) (by rfl) T.g_law_take.m T.g_law_take.F.kp T.g_law_take.b .nil qy (@qa _ _ _ _ _ (pv 0) (@qa _ _ _ _ _ qg qb (by trivial)) (by trivial)) (by trivial) (by trivial) (by trivial)) qb (by trivial)) (by trivial)) (fun _ _ _ _ _ _=>(@qG _ _ (0) _ (show List.Nodup (["k","pot","names"]:List Str) by decide+kernel) rfl (Or.inl rfl) (by trivial))) (fun _ _ _ _ _ _=> @QJ _) (fun _ _ _ _ _ _=>(@qk _ _ _ _ _ _ _ _ _ _ _ _ _ _ _ _ Qc (hr.mono (by trivial)) (by rfl) T.g_law_word.m T.g_law_word.F.kp T.g_law_word.b .nil qy (@qa _ _ _ _ _ (pv 1) (@qa _ _ _ _ _ (pv 2) qb (by trivial)) (by trivial)) (by trivial) (by trivial) (by trivial))) (by trivial)) qb (by trivial)) (by trivial) (by trivial) (by trivial) (by trivial)))) qq) (@qc _ _ _ _ _ (@qH _ _ _ _ _ _ _ _ (@qp _ _ _ _ _ _ _ _ Q1 (pv 2) qg (qz _)) (@qd _ _ _ (@qo _ _ _ _ (@Qk _ _ _ _ _ (@qa _ _ _ _ _ (@Qk _ _ _ _ _ (@qa _ _ _ _ _ (@qk _ _ _ _ _ _ _ _ _ _ _ _ _ _ _ _ Qc (hr.mono (by trivial)) (by rfl) T.g_law_word.m T.g_law_word.F.kp T.g_law_word.b .nil qy (@qa _ _ _ _ _ (pv 0) (@qa _ _ _ _ _ (pv 1) qb (by trivial)) (by trivial)) (by trivial) (by trivial) (by trivial)) (@qa _ _ _ _ _ (@Qk _ _ _ _ _ qb) qb (by trivial)) (by trivial))) (@qa _ _ _ _ _ (@qk _ _ _ _ _ _ _ _ _ _ _ _ _ _ _ _ Qc (hr.mono (by trivial)) (by rfl) T.g_law_word.m T.g_law_word.F.kp T.g_law_word.b .nil qy (@qa _ _ _ _ _ (pv 0) (@qa _ _ _ _ _ (pv 1) qb (by trivial)) (by trivial)) (by trivial) (by trivial) (by trivial)) qb (by trivial)) (by trivial))))) qq) (@qc _ _ _ _ _ (@qH _ _ _ _ _ _ _ _ (@qp _ _ _ _ _ _ _ _ Q1 (pv 2) qg (qz _)) (@qd _ _ _ (@qo _ _ _ _ (@qk _ _ _ _ _ _ _ _ _ _ _ _ _ _ _ _ jr (hr.mono (by trivial)) (by rfl) T.g_law_rule.m T.g_law_rule.F.kp T.g_law_rule.b .nil qy (@qa _ _ _ _ _ (pv 0) (@qa _ _ _ _ _ (pv 1) qb (by trivial)) (by trivial)) (by trivial) (by trivial) (by trivial)))) qq) (@qd _ _ _ (@qo _ _ _ _ (@Qk _ _ _ _ _ (@qa _ _ _ _ _ (@qA _ _ _ _ _ _ _ _ qr qi (@qk _ _ _ _ _ _ _ _ _ _ _ _ _ _ _ _ Qc (hr.mono (by trivial)) (by rfl) T.g_law_word.m T.g_law_word.F.kp T.g_law_word.b .nil qy (@qa _ _ _ _ _ (pv 0) (@qa _ _ _ _ _ (pv 1) qb (by trivial)) (by trivial)) (by trivial) (by trivial) (by trivial))) (@qa _ _ _ _ _ qi (@qa _ _ _ _ _ qi qb (by trivial)) (by trivial)) (by trivial)))))))))),?_⟩
 refine⟨_,rfl,p,6,rfl,hP,by decide,by decide,fun d1 H1 a0 a1 P1 K1=> ?_⟩
 have O:=K1 _ _ hL (hP.ne_strs hL);refine⟨_,rfl,_,_,rfl,rfl,_,rfl,ite2 (fun _=> ?_) (fun _=> ?_)⟩
 ·exact⟨_,rfl,_,rfl,p,L,zs,rfl,P1,O,hN,fun z H2 hz U Y=>k _ _ H2 (tr_str (aa hz)) ⟨rfl,fits (by have:=hz.2;omega)⟩ U (K1.trans Y)⟩
 refine⟨_,rfl,rfl,_,rfl,ite2 (fun _=> ?_) (fun _=> ?_)⟩
 ·refine⟨_,rfl,p,4,rfl,P1,by decide,by decide,fun d2 H2 b0 b1 U Y=> ?_⟩
  have ac:=Y _ _ O (P1.ne_strs O);obtain⟨n,rfl,hn⟩:∃n:Nat,d2=(n:Int)/\n<4:=⟨d2.toNat,by omega,by omega⟩
  refine⟨n,rfl,by omega,by omega,fun D hD=> ?_⟩
  have nD:D≠p:=(U.free hD).symm;refine Y7 (lo:=0) (n:=n) (tl:= [some (.ref p),some (.ref L)]) (fun i ys H'=>∃rs:List Str,ys=rs.map V.str/\rs.length=i/\(∀r∈rs,Wd 20 r)/\qV H' p/\(∀b o,H2 b=some o->b≠p->H' b=some o)) (xj (by omega)) ⟨[],rfl,rfl,fun b hb=>by simp at hb,U.same (qf hD _),fun b o e _=>qf hD _ _ _ e⟩ ?_ ?_
  ·rintro j ys H' hj ⟨rs,rfl,af,ad,P',K'⟩ ae hy R hR;have al:=K' _ _ ac (U.ne_strs ac);refine⟨_,rfl,_,rfl,p,L,zs,rfl,P',al,hN,fun r H8 am P8 K8=> ?_⟩;refine hR _ H8 (K8 _ _ ae nD) ⟨rs++ [r],by rw [ue];rfl,by rw [uf,af];rfl,fun b hb=> ?_,?_,fun b o e np=> ?_⟩
   ·rcases List.mem_append.mp hb with h|h
    ·exact ad b h
    ·rw [Uo] at h;subst h;exact aa am
   ·obtain⟨x,e2,h2⟩:=P8;exact⟨x,by rw [ql nD.symm];exact e2,h2⟩
   ·rw [ql (qh e hD)];exact K8 _ _ (K' b o e np) np
  ·rintro ys H' ⟨rs,rfl,af,ad,P',K'⟩ ae;refine⟨D,_,rfl,.inl ⟨SqL.of ae,fun t ht=> ?_⟩⟩;have s3:=qf ht (.tup (rs.map V.str));exact k _ _ _ (tr_row (by omega) ad) (is_row ad ht) (P'.same s3) (fun b o e np=>s3 _ _ (K' b o ((K1.trans Y) b o e np) np))
 refine⟨_,rfl,rfl,_,rfl,ite2 (fun _=> ?_) (fun _=> ?_)⟩
 ·refine⟨_,rfl,_,rfl,p,L,zs,rfl,P1,O,hN,fun z1 H2 ag U Y=>⟨uF _,fun t0 ah=>⟨by show 2<=sizeLine;decide,fun t1 ai=> ?_⟩⟩⟩
  have ac:=Y _ _ O (P1.ne_strs O);have s0:=qf ah (.tup ([]:List V));have s1:=s0.trans (qf ai (.tup [.str z1,.ref t0]));have i0:Is (upd H2 t0 (.tup [])) (.tup []) (.ref t0):=Is.new (ds:= []) rfl ah;have i1:Is (upd (upd H2 t0 (.tup [])) t1 (.tup [.str z1,.ref t0])) (.tup [.str z1,.tup []]) (.ref t1):=Is.new (ds:= [.str z1,.tup []]) ⟨_,_,rfl,⟨rfl,fits (by have:=ag.2;omega)⟩,_,_,rfl,i0,rfl⟩ ai
  generalize upd (upd H2 t0 (.tup [])) t1 (.tup [.str z1,.ref t0])=H3 at s1 i1⊢;have P3:=U.same s1;refine⟨_,rfl,_,rfl,p,L,zs,rfl,P3,s1 _ _ ac,hN,fun z2 H4 aj P4 K4=>⟨by show 2<=sizeLine;decide,fun t2 ak=> ?_⟩⟩
  have s2:=qf ak (.tup [.ref t1,.str z2]);refine k _ _ _ (tr_three (aa ag) (aa aj)) (Is.new (ds:= [.tup [.str z1,.tup []],.str z2]) ⟨_,_,rfl,i1.mono (P3.tk P4 K4),_,_,rfl,⟨rfl,fits (by have:=aj.2;omega)⟩,rfl⟩ ak) (P4.same s2) ((((K1.trans Y).trans (Kept.of s1)).trans K4).trans (Kept.of s2))
 refine⟨_,rfl,rfl,_,rfl,ite2 (fun _=> ?_) (fun _=> ?_)⟩
 ·exact⟨_,rfl,_,rfl,p,L,zs,rfl,P1,O,hN,fun v d H2 hd hv U Y=>k v d H2 hd hv U (K1.trans Y)⟩
 ·have ta:Wd 7 "text a ":=⟨by decide+kernel,Nat.le_refl _⟩
  refine⟨_,rfl,_,rfl,p,L,zs,rfl,P1,O,hN,fun z H2 hz U Y=>⟨_,_,rfl,rfl,fits (by have:=hz.2;have:=ta.2;omega),by show 3<=sizeLine;decide,fun t ht=> ?_⟩⟩
  have all:∀y∈(["text a "++z,"ask b a","say b"]:List Str),Wd 20 y:=fun y hy=>by
   simp only [vb,Uc,Ul] at hy;rcases hy with rfl|rfl|rfl
   ·exact ta.cat hz (by omega)
   ·exact⟨by decide+kernel,by decide⟩
   ·exact⟨by decide+kernel,by decide⟩
  have s2:=qf ht (.tup ((["text a "++z,"ask b a","say b"]:List Str).map V.str));exact k _ _ _ (tr_row (by show 3<=14;decide) all) (is_row all ht) (U.same s2) ((K1.trans Y).trans (Kept.of s2))
theorem ok_srcd (T:Tx K mg a):FnOk P w K mg base CX0 6 a.jP a.jL ["pot","names"] sp_srcd:=by
 have qt:=yl (P:=P) (w:=w) (base:=base) T;have x8:=ok_leaf (P:=P) (w:=w) (base:=base) T;have jr:=ok_rule (P:=P) (w:=w) (base:=base) T;have O:=ok_maker (P:=P) (w:=w) (base:=base) T;refine T.g_law_source.F.ok jb (by trivial) (fun _ _ _ _ H _ Q E hr h=> ?_)
 obtain⟨p,L,zs,rfl,hP,hL,hN,k⟩:=h;have af:=hN.1;have ag:=hN.2.1;refine⟨_,(@qc _ _ _ _ _ (@qx _ _ (2) _ _ _ _ jb.nd rfl (Or.inl rfl) (@qk _ _ _ _ _ _ _ _ _ _ _ _ _ _ _ _ qt (hr.mono (by trivial)) (by rfl) T.g_law_take.m T.g_law_take.F.kp T.g_law_take.b .nil qy (@qa _ _ _ _ _ (pv 0) (@qa _ _ _ _ _ qg qb (by trivial)) (by trivial)) (by trivial) (by trivial) (by trivial)) (by trivial) (by trivial)) (@qc _ _ _ _ _ (@qH _ _ _ _ _ _ _ _ (@qp _ _ _ _ _ _ _ _ op_lt (pv 2) qg (qz _)) (@qd _ _ _ (@qo _ _ _ _ (@Qk _ _ _ _ _ (@qa _ _ _ _ _ qi (@qa _ _ _ _ _ (@qk _ _ _ _ _ _ _ _ _ _ _ _ _ _ _ _ x8 (hr.mono (by trivial)) (by rfl) T.g_law_leaf.m T.g_law_leaf.F.kp T.g_law_leaf.b .nil qy (@qa _ _ _ _ _ (pv 0) (@qa _ _ _ _ _ (pv 1) qb (by trivial)) (by trivial)) (by trivial) (by trivial) (by trivial)) qb (by trivial)) (by trivial))))) qq) (@qc _ _ _ _ _ (@qH _ _ _ _ _ _ _ _ (@qp _ _ _ _ _ _ _ _ op_lt (pv 2) qg (qz _)) (@qd _ _ _ (@qo _ _ _ _ (@Qk _ _ _ _ _ (@qa _ _ _ _ _ qi (@qa _ _ _ _ _ (@qk _ _ _ _ _ _ _ _ _ _ _ _ _ _ _ _ jr (hr.mono (by trivial)) (by rfl) T.g_law_rule.m T.g_law_rule.F.kp T.g_law_rule.b .nil qy (@qa _ _ _ _ _ (pv 0) (@qa _ _ _ _ _ (pv 1) qb (by trivial)) (by trivial)) (by trivial) (by trivial) (by trivial)) qb (by trivial)) (by trivial))))) qq) (@qc _ _ _ _ _ (@qH _ _ _ _ _ _ _ _ (@qp _ _ _ _ _ _ _ _ Q1 (pv 2) qg (qz _)) (@qd _ _ _ (@qo _ _ _ _ (@Qk _ _ _ _ _ (@qa _ _ _ _ _ qi (@qa _ _ _ _ _ (@qk _ _ _ _ _ _ _ _ _ _ _ _ _ _ _ _ O (hr.mono (by trivial)) (by rfl) T.g_law_maker.m T.g_law_maker.F.kp T.g_law_maker.b .nil qy (@qa _ _ _ _ _ (pv 0) (@qa _ _ _ _ _ (pv 1) qb (by trivial)) (by trivial)) (by trivial) (by trivial) (by trivial)) qb (by trivial)) (by trivial))))) qq) (@qc _ _ _ _ _ (@qH _ _ _ _ _ _ _ _ (@pw_and _ _ _ _ _ _ _ (@qp _ _ _ _ _ _ _ _ Q1 (pv 2) qg (qz _)) (@pw_and1 _ _ _ _ (@qp _ _ _ _ _ _ _ _ Q1 (@qk _ _ _ _ _ _ _ _ _ _ _ _ _ _ _ _ qt (hr.mono (by trivial)) (by rfl) T.g_law_take.m T.g_law_take.F.kp T.g_law_take.b .nil qy (@qa _ _ _ _ _ (pv 0) (@qa _ _ _ _ _ qg qb (by trivial)) (by trivial)) (by trivial) (by trivial) (by trivial)) qg (qz _)))).pt (@qd _ _ _ (@qo _ _ _ _ (@Qk _ _ _ _ _ (@qa _ _ _ _ _ qi (@qa _ _ _ _ _ (@qk _ _ _ _ _ _ _ _ _ _ _ _ _ _ _ _ x8 (hr.mono (by trivial)) (by rfl) T.g_law_leaf.m T.g_law_leaf.F.kp T.g_law_leaf.b .nil qy (@qa _ _ _ _ _ (pv 0) (@qa _ _ _ _ _ (pv 1) qb (by trivial)) (by trivial)) (by trivial) (by trivial) (by trivial)) qb (by trivial)) (by trivial))))) qq) (@qd _ _ _ (@qo _ _ _ _ (@Qk _ _ _ _ _ (@qa _ _ _ _ _ qi (@qa _ _ _ _ _ (@qP _ _ _ _ _ _ _ qZ (pv 1) (@qk _ _ _ _ _ _ _ _ _ _ _ _ _ _ _ _ qt (hr.mono (by trivial)) (by rfl) T.g_law_take.m T.g_law_take.F.kp T.g_law_take.b .nil qy (@qa _ _ _ _ _ (pv 0) (@qa _ _ _ _ _ (@qu _ _ _ _ _ _ _ _ _ qI (by rfl) T.yL uD (@qa _ _ _ _ _ (pv 1) qb (by trivial)) (by trivial) (by trivial) (by trivial) (by trivial)) qb (by trivial)) (by trivial)) (by trivial) (by trivial) (by trivial)) (fun _ _=>rfl)) qb (by trivial)) (by trivial)))))))))),?_⟩
 refine⟨_,rfl,p,10,rfl,hP,by decide,by decide,fun d1 H1 a0 a1 P1 K1=> ?_⟩
 have aa:=K1 _ _ hL (hP.ne_strs hL);have ac:∀{U H2:Hp}{kk:Str}{d:D}{v:V},qV U p->Kept p H U->kk="leaf"∨kk="rule"->TrOk d->Is H2 d v->qV H2 p->Kept p U H2-> [V.str kk,v].length<=sizeLine/\∀t,H2 t=none->Q (.ref t) (upd H2 t (.tup [.str kk,v])):=fun{U H2 kk d v} P3 K3 hk hd Y P2 K2=>
  src_row (p:=p) hk hd Y fun t H4 s4 i4 o4=>k _ _ H4 o4 i4 (P2.same s4) ((K3.trans K2).trans (Kept.of s4))
 refine⟨_,rfl,_,_,rfl,rfl,_,rfl,ite2 (fun _=> ?_) (fun _=> ?_)⟩
 ·exact⟨_,rfl,_,rfl,p,L,zs,rfl,P1,aa,hN,fun v d H2 hd Y P2 K2=>ac P1 K1 (.inl rfl) hd Y P2 K2⟩
 refine⟨_,rfl,_,_,rfl,rfl,_,rfl,ite2 (fun _=> ?_) (fun _=> ?_)⟩
 ·exact⟨_,rfl,_,rfl,p,L,zs,rfl,P1,aa,hN,fun v d H2 hd Y P2 K2=>ac P1 K1 (.inr rfl) hd Y P2 K2⟩
 refine⟨_,rfl,rfl,_,rfl,ite2 (fun _=> ?_) (fun _=> ?_)⟩
 ·exact⟨_,rfl,_,rfl,p,L,zs,rfl,P1,aa,hN,fun v d H2 hd Y P2 K2=>ac P1 K1 (.inr rfl) hd Y P2 K2⟩
 have made:∀{U:Hp},qV U p->Kept p H U->∃v0,[some (V.ref p),some (V.ref L),some (V.int d1)][1]? =some (some v0)/\∃v1,[some (V.ref p),some (V.ref L),some (V.int d1)][0]? =some (some v1)/\∃v2,[some (V.ref p),some (V.ref L),some (V.int d1)][1]? =some (some v2)/\∃q ys,[v2]= [V.ref q]/\(SqL K U q ys∨SqT K U q ys)/\sp_take [v1,.int (ys.length:Int)] U (fun y H4=>rIxL K v0 y H4 fun y H5=>([V.str "made",y].length<=sizeLine/\∀t,H5 t=none->Q (.ref t) (upd H5 t (.tup [.str "made",y])))) E0:=by
  intro U P3 K3;have ad:=K3 _ _ hL (hP.ne_strs hL);refine⟨_,rfl,_,rfl,_,rfl,L,_,rfl,.inl (SqL.of ad),p,_,rfl,P3,by rw [u3];omega,by rw [u3];omega,fun d2 H4 b0 b1 P4 K4=> ?_⟩
  obtain⟨v,Y⟩:=QA (xs:=zs.map V.str) b0 b1;obtain⟨z,hz,rfl⟩:=List.mem_map.mp (Q5 Y);refine⟨L,_,_,_,rfl,rfl,SqL.of (K4 _ _ ad (P3.ne_strs ad)),Y,by show 2<=sizeLine;decide,fun t ht=> ?_⟩
  have s4:=qf ht (.tup [.str "made",.str z]);have ae:=hN.2.2 z hz;exact k _ _ _ (Xd ae.1) (Is.new (ds:= [.str "made",.str z]) ⟨_,_,rfl,⟨rfl,by decide+kernel⟩,_,_,rfl,⟨rfl,fits (by omega)⟩,rfl⟩ ht) (P4.same s4) ((K3.trans K4).trans (Kept.of s4))
 refine⟨_,rfl,rfl,_,rfl,ite2 (fun _=> ?_) (fun _=> ?_)⟩
 ·refine⟨_,rfl,p,4,rfl,P1,by decide,by decide,fun d2 H2 b0 b1 P2 K2=>⟨rfl,_,rfl,ite2 (fun _=> ?_) (fun _=> ?_)⟩⟩
  ·exact⟨_,rfl,_,rfl,p,L,zs,rfl,P2,K2 _ _ aa (P1.ne_strs aa),hN,fun v d U hd Y P3 K3=>ac P2 (K1.trans K2) (.inr rfl) hd Y P3 K3⟩
  ·exact made P2 (K1.trans K2)
 ·exact iteF (made P1 K1)
def SGN:Str:=" !\"#$&'()*+,-./0123456789:;<=>?\x40ABCDEFGHIJKLMNOPQRSTUVWXYZ"++"[\\]^_`abcdefghijklmnopqrstuvwxyz{|}~"
theorem sgn_len:SGN.length=94:=by decide+kernel
theorem sgn_all:∀c∈SGN.cps.toList,qT c=true:=by decide+kernel
def sp_signs:Sp:=fun vs H Q _=>vs= []/\Q (.str SGN) H
def sp_atext:Sp:=fun vs H Q _=>∃p:Addr,vs= [.ref p,.int 4]/\qV H p/\∀(z:Str) (H':Hp),Wd 4 z->qV H' p->Kept p H H'->Q (.str z) H'
def sB:Nat->Nat
 |0=>5
 |n+1=>1+3*sB n
def yG (n:Nat):Sp:=fun vs H Q _=>∃(p:Addr) (k:Nat),vs= [.ref p,.int (k:Int)]/\k<n/\qV H p/\∀(v:V) (d:D) (H':Hp),Is H' d v->lw d=true->good d=true->sz d<=sB k->dp d<=k+1->qV H' p->Kept p H H'->Q v H'
def sp_aname:Sp:=fun vs H Q _=>∃p:Addr,vs= [.ref p]/\qV H p/\∀(z:Str) (H':Hp),nm z=true->qV H' p->Kept p H H'->Q (.str z) H'
theorem sB_pos:∀k,5<=sB k
 |0=>Nat.le_refl _
 |k+1=>by have:=sB_pos k;simp only [sB];omega
theorem tr_any {d:D}{k:Nat}(O:k<=3)(h1:lw d=true)(h2:good d=true)(U:sz d<=sB k)(h4:dp d<=k+1):TrOk d:=by
 have e:sB k<=148:=by
  have:k=0∨k=1∨k=2∨k=3:=by omega
  rcases this with rfl|rfl|rfl|rfl<;>decide
 refine⟨?_,h1,by omega⟩
 unfold isT;rw [h2,u8 (show sz d<=600 by omega),u8 (show dp d<=12 by omega)]
 rfl
theorem xy {F:Nat->Bool}{l:List Nat}(h:∀c∈l,F c=true):(Str.join "" (l.map fun c=>(⟨#[c]⟩:Str))).cps.toList.all F=true/\(Str.join "" (l.map fun c=>(⟨#[c]⟩:Str))).length=l.length:=by
 have e:=JE l;exact⟨by rw [e,Ub];exact h,by rw [qC,e]⟩
theorem ones_sum (l:List Nat):((l.map fun c=>(⟨#[c]⟩:Str)).map (·.length)).sum=l.length:=by
 induction l with
 |nil=>rfl
 |cons c r O=>simp only [ua,vo,ul,O];show 1+_=_;omega
theorem goodL_snoc (xs:List D)(x:D):goodL (xs++ [x])=(goodL xs&&good x):=by
 rw [JX,JX,uN];simp
theorem szL_snoc:∀(xs:List D) (x:D),szL (xs++ [x])=szL xs+sz x
 | [],x=>by simp [szL]
 |y::r,x=>by simp only [Ua,szL,szL_snoc r x];omega
theorem dpL_snoc:∀(xs:List D) (x:D),dpL (xs++ [x])<=max (dpL xs) (dp x)
 | [],x=>by simp [dpL]
 |y::r,x=>by have:=dpL_snoc r x;simp only [Ua,dpL];omega
theorem ok_signs (T:Tx K mg a):FnOk P w K mg base CX0 1 a.Jt a.JJ [] sp_signs:=by
 refine T.g_law_signs.F.ok jN (by trivial) (fun _ _ _ _ H _ Q E O h=> ?_)
 obtain⟨rfl,k⟩:=h;refine⟨_,(@qc _ _ _ _ _ (@qx _ _ (0) _ _ _ _ jN.nd rfl (Or.inl rfl) qi (by trivial) (by trivial)) (@qd _ _ _ (@qo _ _ _ _ (@qA _ _ _ _ _ _ _ _ qr (pv 0) qi)))),?_⟩
 exact⟨_,rfl,_,_,rfl,rfl,by decide+kernel,k⟩
theorem xp (T:Tx K mg a){n m:Nat}{p D:Addr}{H:Hp}{S:Str}{te:TE}{Q:VK}(hS:S.length<=1000)(hm:0<m)(ac:m<=S.length)(hn:n<=100)(hP:qV H p)(Y:H D=none)
  (aa:∀(k:V) H' (R:VK),sp_take [.ref p,.int (m:Int)] H' (fun y H2=>rIxS (.str S) y H2 R) E0->te [some k,some (.str S),some (.ref p)] H' R)
  (hQ:∀(l:List Nat) (H':Hp),l.length=n->(∀c∈l,c∈S.cps.toList)->qV H' p->Kept p H H'->H' D=some (.lst ((l.map fun c=>(⟨#[c]⟩:Str)).map V.str))->Q (.ref D) H'):lcGo D (Itr 0 n) (Y8 0) tYes te [none,some (.str S),some (.ref p)] H Q:=by
 have nD:D≠p:=(hP.free Y).symm;refine Y7 (lo:=0) (n:=n) (tl:= [some (.str S),some (.ref p)]) (fun i ys H'=>∃l:List Nat,ys=(l.map fun c=>(⟨#[c]⟩:Str)).map V.str/\l.length=i/\(∀c∈l,c∈S.cps.toList)/\qV H' p/\(∀b o,H b=some o->b≠p->H' b=some o)) (xj (by omega)) ⟨[],rfl,rfl,fun b hb=>by simp at hb,hP.same (qf Y _),fun b o e _=>qf Y _ _ _ e⟩ ?_ ?_
 ·rintro j ys H' hj ⟨l,rfl,hl,hc,P',K'⟩ O hy R hR;refine aa _ _ _ ⟨p,m,rfl,P',by omega,by omega,fun d H2 d0 d1 P2 K2=> ?_⟩
  obtain⟨c,U⟩:=QA (xs:=S.cps.toList) d0 (by rw [<-qC];omega)
  refine⟨S,d,c,rfl,rfl,xj hS,U,hR _ H2 (K2 _ _ O nD) ⟨l++ [c],by rw [ue,ue];rfl,by rw [uf,hl];rfl,fun b hb=> ?_,?_,fun b o e np=> ?_⟩⟩
  ·rcases List.mem_append.mp hb with h|h
   ·exact hc b h
   ·rw [Uo] at h;subst h;exact Q5 U
  ·obtain⟨x,e2,h2⟩:=P2;exact⟨x,by rw [ql nD.symm];exact e2,h2⟩
  ·rw [ql (qh e Y)];exact K2 _ _ (K' b o e np) np
 ·rintro ys H' ⟨l,rfl,hl,hc,P',K'⟩ O;exact hQ l H' hl hc P' K' O
theorem ok_atext (T:Tx K mg a):FnOk P w K mg base CX0 2 a.Yv a.Yw ["pot","most"] sp_atext:=by
 have qt:=yl (P:=P) (w:=w) (base:=base) T;have O:=ok_signs (P:=P) (w:=w) (base:=base) T;refine T.g_law_any_text.F.ok Ye (by trivial) (fun _ _ _ _ H _ Q E U h=> ?_)
 obtain⟨p,rfl,hP,k⟩:=h;have hs:=sgn_len;refine⟨_,(@qc _ _ _ _ _ (@qx _ _ (2) _ _ _ _ Ye.nd rfl (Or.inr rfl) (@pe_call0 _ _ _ _ _ _ _ _ _ _ _ _ _ O (U.mono (by trivial)) (by rfl) T.g_law_signs.m T.g_law_signs.F.kp T.g_law_signs.b .nil qy (by trivial)) (by trivial) (by trivial)) (@qd _ _ _ (@qo _ _ _ _ (@QY _ _ _ _ _ _ _ _ _ _ _ _ uo uw uy QI qi (@qa _ _ _ _ _ (@ji _ _ (["k","signs","pot"]) (1) ([2,0]) _ _ _ _ _ _ _ _ _ (lcsN (qj QR) ["pot","most","signs"]) rfl (@Qp _ _ _ _ _ _ (by rfl) T.yn (@qa _ _ _ _ _ (@qk _ _ _ _ _ _ _ _ _ _ _ _ _ _ _ _ qt (U.mono (by trivial)) (by rfl) T.g_law_take.m T.g_law_take.F.kp T.g_law_take.b .nil qy (@qa _ _ _ _ _ (pv 0) (@qa _ _ _ _ _ (@qA _ _ _ _ _ _ _ _ qW (pv 1) qg) qb (by trivial)) (by trivial)) (by trivial) (by trivial) (by trivial)) qb (by trivial)) (by trivial)) (fun _ _ _ _ _ _=>(@qG _ _ (0) _ (show List.Nodup (["k","signs","pot"]:List Str) by decide+kernel) rfl (Or.inl rfl) (by trivial))) (fun _ _ _ _ _ _=> @QJ _) (fun _ _ _ _ _ _=>(@qP _ _ _ _ _ _ _ J3 (pv 1) (@qk _ _ _ _ _ _ _ _ _ _ _ _ _ _ _ _ qt (U.mono (by trivial)) (by rfl) T.g_law_take.m T.g_law_take.F.kp T.g_law_take.b .nil qy (@qa _ _ _ _ _ (pv 2) (@qa _ _ _ _ _ (@qu _ _ _ _ _ _ _ _ _ QT (by rfl) T.yL uD (@qa _ _ _ _ _ (pv 1) qb (by trivial)) (by trivial) (by trivial) (by trivial) (by trivial)) qb (by trivial)) (by trivial)) (by trivial) (by trivial) (by trivial)) (fun _ _=>rfl))) (by trivial)) qb (by trivial)) (by trivial) (by trivial) (by trivial) (by trivial) (by trivial))))),?_⟩
 refine⟨rfl,rfl,_,rfl,_,rfl,_,_,rfl,rfl,p,5,rfl,hP,by decide,by decide,fun d H1 d0 d1 P1 K1=> ?_⟩
 obtain⟨n,rfl,hn⟩:∃n:Nat,d=(n:Int)/\n<5:=⟨d.toNat,by omega,by omega⟩
 refine⟨n,rfl,by omega,by omega,fun D hD=> ?_⟩
 refine xp T (S:=SGN) (m:=94) (by omega) (by omega) (by omega) (by omega) P1 hD (fun k H' R h=>⟨_,rfl,_,rfl,_,rfl,SGN,rfl,xj (by omega),by rw [hs];exact h⟩) fun l H' hl hc P' K' Y=> ?_
 have hj:=xy (F:=qT) fun c h=>sgn_all c (hc c h);refine⟨"",D,_,rfl,rfl,SqL.of Y,?_,k _ H' ⟨hj.1,by rw [hj.2];omega⟩ P' (K1.trans K')⟩
 rw [ones_sum];show _+_*0<=_;omega
theorem atree_none {f:Addr}{fd:FuncData}{l:Nat}:FnOk P w K mg base CX0 l f fd ["pot","deep"] (yG 0):=by
 have O:∀vs H Q E,¬yG 0 vs H Q E:=fun vs H Q E h=>by
  obtain⟨p,k,_,h1,_⟩:=h;omega
 exact⟨fun vs H Q E h=>absurd h (O vs H Q E),fun A outer s H args us vs Q E _ _ _ _ h=>absurd h (O vs H Q E)⟩
theorem ok_atree1 (T:Tx K mg a){n:Nat}(Qs:FnOk P w K mg base CX0 (n+2) a.Qe a.Qd ["pot","deep"] (yG n)):FnOk P w K mg base CX0 (n+3) a.Qe a.Qd ["pot","deep"] (yG (n+1)):=by
 have qt:=yl (P:=P) (w:=w) (base:=base) T;have xl:=ok_atext (P:=P) (w:=w) (base:=base) T;refine T.g_law_any_tree.F.ok xb (by trivial) (fun _ _ _ _ H _ Q E hr h=> ?_)
 obtain⟨p,O,rfl,ad,hP,k⟩:=h;refine⟨_,(@qc _ _ _ _ _ (@qH _ _ _ _ _ _ _ _ (@jo _ _ _ _ _ _ _ (@qp _ _ _ _ _ _ _ _ Q1 (pv 1) qg (qz _)) (@yS _ _ _ _ (@qp _ _ _ _ _ _ _ _ op_gt (@qk _ _ _ _ _ _ _ _ _ _ _ _ _ _ _ _ qt (hr.mono (by trivial)) (by rfl) T.g_law_take.m T.g_law_take.F.kp T.g_law_take.b .nil qy (@qa _ _ _ _ _ (pv 0) (@qa _ _ _ _ _ qg qb (by trivial)) (by trivial)) (by trivial) (by trivial) (by trivial)) qg (qz _)))).pt (@qd _ _ _ (@qo _ _ _ _ (@qk _ _ _ _ _ _ _ _ _ _ _ _ _ _ _ _ xl (hr.mono (by trivial)) (by rfl) T.g_law_any_text.m T.g_law_any_text.F.kp T.g_law_any_text.b .nil qy (@qa _ _ _ _ _ (pv 0) (@qa _ _ _ _ _ qg qb (by trivial)) (by trivial)) (by trivial) (by trivial) (by trivial)))) qq) (@qd _ _ _ (@qo _ _ _ _ (@Qh _ _ _ _ _ _ _ _ _ qX (by rfl) T.Q7 vU (@qa _ _ _ _ _ (@ji _ _ (["k","pot","deep"]) (1) ([0,1]) _ _ _ _ _ _ _ _ _ (lcsN (qj QP) ["pot","deep"]) rfl (@Qp _ _ _ _ _ _ (by rfl) T.yn (@qa _ _ _ _ _ (@qk _ _ _ _ _ _ _ _ _ _ _ _ _ _ _ _ qt (hr.mono (by trivial)) (by rfl) T.g_law_take.m T.g_law_take.F.kp T.g_law_take.b .nil qy (@qa _ _ _ _ _ (pv 0) (@qa _ _ _ _ _ qg qb (by trivial)) (by trivial)) (by trivial) (by trivial) (by trivial)) qb (by trivial)) (by trivial)) (fun _ _ _ _ _ _=>(@qG _ _ (0) _ (show List.Nodup (["k","pot","deep"]:List Str) by decide+kernel) rfl (Or.inl rfl) (by trivial))) (fun _ _ _ _ _ _=> @QJ _) (fun _ _ _ _ _ _=>(@qk _ _ _ _ _ _ _ _ _ _ _ _ _ _ _ _ Qs (hr.mono (by trivial)) (by rfl) T.g_law_any_tree.m T.g_law_any_tree.F.kp T.g_law_any_tree.b .nil qy (@qa _ _ _ _ _ (pv 1) (@qa _ _ _ _ _ (@qA _ _ _ _ _ _ _ _ op_sub (pv 2) qg) qb (by trivial)) (by trivial)) (by trivial) (by trivial) (by trivial))) (by trivial)) qb (by trivial)) (by trivial) (by trivial) (by trivial) (by trivial))))),?_⟩
 have U:∀{H1:Hp},qV H1 p->Kept p H H1->∃v0,[some (V.ref p),some (V.int (O:Int))][0]? =some (some v0)/\sp_atext [v0,.int 4] H1 Q E0:=fun{H1} P1 K1=>by
  refine⟨_,rfl,p,rfl,P1,fun z H2 hz P2 K2=>k _ (.str z) H2 ⟨rfl,fits (by have:=hz.2;omega)⟩ hz.1 ?_ ?_ ?_ P2 (K1.trans K2)⟩
  ·show Qy z=true;unfold Qy;rw [u8 (show z.length<=300 by have:=hz.2;omega)]
   exact hz.1
  ·have:=sB_pos O;have:=hz.2;simp only [sz];omega
  ·simp only [dp];omega
 refine⟨_,rfl,rfl,_,rfl,ite2 (fun c=>iteT (U hP (Kept.refl _ _))) (fun c=> ?_)⟩;refine⟨_,rfl,p,3,rfl,hP,by decide,by decide,fun d1 H1 a0 a1 P1 K1=>⟨_,_,rfl,rfl,_,rfl,ite2 (fun _=>U P1 K1) (fun _=> ?_)⟩⟩
 have ae:1<=O:=by
  rcases Nat.eq_zero_or_pos O with h|h
  ·subst h;exact absurd (u8 rfl) c
  ·exact h
 obtain⟨m,rfl⟩:∃m,O=m+1:=⟨O-1,by omega⟩
 refine⟨_,rfl,p,4,rfl,P1,by decide,by decide,fun d2 H2 b0 b1 P2 K2=> ?_⟩
 obtain⟨nn,rfl,hn⟩:∃n:Nat,d2=(n:Int)/\n<4:=⟨d2.toNat,by omega,by omega⟩
 refine⟨nn,rfl,by omega,by omega,fun D hD=> ?_⟩
 have nD:D≠p:=(P2.free hD).symm;refine Y7 (lo:=0) (n:=nn) (tl:= [some (.ref p),some (.int ((m+1:Nat):Int))]) (fun i ys H'=>∃ds:List L2.D,L2.IsL H' ds ys/\ds.length=i/\lwL ds=true/\goodL ds=true/\szL ds<=i*sB m/\dpL ds<=m+1/\qV H' p/\(∀b o,H2 b=some o->b≠p->H' b=some o)) (xj (by omega)) ⟨[],rfl,rfl,rfl,rfl,by simp [szL],by simp [dpL],P2.same (qf hD _),fun b o e _=>qf hD _ _ _ e⟩ ?_ ?_
 ·rintro j ys H' hj ⟨ds,Y,hl,h1,h2,h3,h4,P',K'⟩ aa hy R hR;refine⟨_,rfl,_,rfl,_,_,rfl,rfl,p,m,?_,by omega,P',fun v d H8 hv g1 g2 g3 g4 P8 K8=> ?_⟩
  ·show [V.ref p,V.int (((m+1:Nat):Int)-1)]=_;rw [show(((m+1:Nat):Int)-1)=(m:Int) by omega]
  ·have ac:=K8 _ _ aa nD;refine hR _ H8 ac ⟨ds++ [d],?_,by rw [uf,hl];rfl,by rw [xv,h1];simp [lwL,g1],by rw [goodL_snoc,h2,g2];rfl,by rw [szL_snoc,Nat.add_mul,Nat.one_mul];omega,by have:=dpL_snoc ds d;omega,?_,fun b o e np=> ?_⟩
   ·have t:Tk H8 (upd H8 D (.lst (ys++ [v]))):=Tk.updL ac;exact((Y.mono (P'.tk P8 K8)).mono t).append (L2.IsL.one (hv.mono t))
   ·obtain⟨x,e2,h2⟩:=P8;exact⟨x,by rw [ql nD.symm];exact e2,h2⟩
   ·rw [ql (qh e hD)];exact K8 _ _ (K' b o e np) np
 ·rintro ys H' ⟨ds,Y,hl,h1,h2,h3,h4,P',K'⟩ aa;refine⟨D,_,rfl,.inl ⟨SqL.of aa,fun t ht=> ?_⟩⟩;have s3:=qf ht (.tup ys);refine k _ (.tup ds) _ (Is.new Y ht) h1 ?_ ?_ ?_ (P'.same s3) (fun b o e np=>s3 _ _ (K' b o ((K1.trans K2) b o e np) np))
  ·simp only [good];rw [h2,hl,u8 (show nn<=40 by omega)]
   rfl
  ·simp only [sz,sB];have:nn*sB m<=3*sB m:=Nat.mul_le_mul_right _ (by omega)
   omega
  ·simp only [dp];omega
theorem XE (T:Tx K mg a):∀n:Nat,FnOk P w K mg base CX0 (n+2) a.Qe a.Qd ["pot","deep"] (yG n)
 |0=>atree_none
 |n+1=>ok_atree1 T (XE T n)
theorem ok_aname (T:Tx K mg a):FnOk P w K mg base CX0 2 a.YA a.YC ["pot"] sp_aname:=by
 have qt:=yl (P:=P) (w:=w) (base:=base) T;refine T.g_law_any_name.F.ok Q6 (by trivial) (fun _ _ _ _ H _ Q E hr h=> ?_)
 obtain⟨p,rfl,hP,k⟩:=h;have hs:NSG.length=38:=by decide+kernel
 refine⟨_,(@qc _ _ _ _ _ (@qx _ _ (1) _ _ _ _ Q6.nd rfl (Or.inr rfl) qi (by trivial) (by trivial)) (@qc _ _ _ _ _ (@qx _ _ (2) _ _ _ _ Q6.nd rfl (Or.inl rfl) (@qP _ _ _ _ _ _ _ J3 (pv 1) (@qk _ _ _ _ _ _ _ _ _ _ _ _ _ _ _ _ qt (hr.mono (by trivial)) (by rfl) T.g_law_take.m T.g_law_take.F.kp T.g_law_take.b .nil qy (@qa _ _ _ _ _ (pv 0) (@qa _ _ _ _ _ qg qb (by trivial)) (by trivial)) (by trivial) (by trivial) (by trivial)) (fun _ _=>rfl)) (by trivial) (by trivial)) (@qd _ _ _ (@qo _ _ _ _ (@qA _ _ _ _ _ _ _ _ qr (pv 2) (@QY _ _ _ _ _ _ _ _ _ _ _ _ uo uw uy QI qi (@qa _ _ _ _ _ (@ji _ _ (["k","signs","pot"]) (1) ([1,0]) _ _ _ _ _ _ _ _ _ (lcsN (qj QS) ["pot","signs","name"]) rfl (@Qp _ _ _ _ _ _ (by rfl) T.yn (@qa _ _ _ _ _ (@qk _ _ _ _ _ _ _ _ _ _ _ _ _ _ _ _ qt (hr.mono (by trivial)) (by rfl) T.g_law_take.m T.g_law_take.F.kp T.g_law_take.b .nil qy (@qa _ _ _ _ _ (pv 0) (@qa _ _ _ _ _ qg qb (by trivial)) (by trivial)) (by trivial) (by trivial) (by trivial)) qb (by trivial)) (by trivial)) (fun _ _ _ _ _ _=>(@qG _ _ (0) _ (show List.Nodup (["k","signs","pot"]:List Str) by decide+kernel) rfl (Or.inl rfl) (by trivial))) (fun _ _ _ _ _ _=> @QJ _) (fun _ _ _ _ _ _=>(@qP _ _ _ _ _ _ _ J3 (pv 1) (@qk _ _ _ _ _ _ _ _ _ _ _ _ _ _ _ _ qt (hr.mono (by trivial)) (by rfl) T.g_law_take.m T.g_law_take.F.kp T.g_law_take.b .nil qy (@qa _ _ _ _ _ (pv 2) (@qa _ _ _ _ _ qg qb (by trivial)) (by trivial)) (by trivial) (by trivial) (by trivial)) (fun _ _=>rfl))) (by trivial)) qb (by trivial)) (by trivial) (by trivial) (by trivial) (by trivial) (by trivial))))))),?_⟩
 refine⟨_,rfl,_,rfl,p,26,rfl,hP,by decide,by decide,fun d0 H0 e0 e1 P0 K0=> ?_⟩
 obtain⟨U,O⟩:=QA (xs:=NSG.cps.toList) e0 (by rw [<-qC];omega)
 have Y:inS ⟨#[U]⟩ LET=true:=by
  obtain⟨i,rfl,hi⟩:∃i:Nat,d0=(i:Int)/\i<26:=⟨d0.toNat,by omega,by omega⟩
  have aa:∀i:Fin 26,(NSG.cps.toList[i.val]?).any (fun c=>decide (c∈LET.cps.toList))=true:=by decide+kernel
  have:=aa ⟨i,hi⟩;have e:NSG.cps.toList[i]? =some U:=by
   unfold atI ixN at O;rw [if_pos (by omega)] at O
   split at O
   ·simpa using O
   ·cases O
  rw [e] at this;rw [jw];exact this
 refine⟨NSG,d0,U,rfl,rfl,xj (by omega),O,?_⟩
 refine⟨_,rfl,rfl,_,rfl,p,4,rfl,P0,by decide,by decide,fun d H1 d0 d1 P1 K1=> ?_⟩
 obtain⟨n,rfl,hn⟩:∃n:Nat,d=(n:Int)/\n<4:=⟨d.toNat,by omega,by omega⟩
 refine⟨n,rfl,by omega,by omega,fun D hD=> ?_⟩
 refine xp T (S:=NSG) (m:=38) (by omega) (by omega) (by omega) (by omega) P1 hD (fun k H' R h=>⟨_,rfl,_,rfl,h⟩) fun l H' hl hc P' K' ac=> ?_
 have hj:=xy (F:=fun c=>inS ⟨#[c]⟩ NSG) (l:=l) fun c h=>by rw [jw];exact u8 (hc c h)
 refine⟨"",D,_,rfl,rfl,SqL.of ac,?_,?_⟩
 ·rw [ones_sum];show _+_*0<=_;omega
 generalize Str.join "" (l.map fun c=>(⟨#[c]⟩:Str))=y at hj;refine⟨_,_,rfl,rfl,fits (by show 1+y.length<=_;omega),k _ H' (nm_of (okN_app (okN_one (Q5 O)) ?_) ?_ ?_ ?_) P' ((K0.trans K1).trans K')⟩
 ·unfold okN;rw [Uu];exact hj.1
 ·rw [qM];show 1<=1+y.length;omega
 ·rw [qM];show 1+y.length<=24;omega
 ·have e:(⟨#[U]⟩++y:Str).cps.getD 0 0=U:=by
   rw [uP,Array.getD_eq_getD_getElem?,Array.getElem?_append_left (by show 0<1;decide)]
   rfl
  rw [e];exact Y
def setP {β:Type}(ps:List (Str×β))(z:Str)(e:β):List (Str×β):=ps.map fun p=>if p.1=z then(p.1,e) else p
def putP {β:Type}(ps:List (Str×β))(z:Str)(e:β):List (Str×β):=if z∈ps.map (·.1) then setP ps z e else ps++ [(z,e)]
theorem put_inr (vs:List (Str×V))(z:Str)(v:V):putK (inrK vs) (Sum.inr z) v=inrK (putP vs z v):=by
 unfold putP;by_cases c:z∈vs.map (·.1)
 ·rw [if_pos c];unfold putK;rw [if_pos]
  ·unfold inrK setP;rw [uG,uG];refine vx fun p _=> ?_;by_cases h:p.1=z
   ·simp [h]
   ·simp [h]
  ·unfold inrK;rw [List.any_map,List.any_eq_true];obtain⟨p,O,e⟩:=List.mem_map.mp c;exact⟨p,O,by simp [e]⟩
 ·rw [if_neg c,putK_new _ (look0 c)];unfold inrK;rw [ue]
  rfl
theorem set_tbl {H:Hp}{z:Str}{O:D}{u:V}(U:Is H O u):∀{ps:List (Str×D)}{vs:List (Str×V)},vs.map (·.1)=ps.map (·.1)->L2.IsL H (ps.map (·.2)) (vs.map (·.2))->(setP vs z u).map (·.1)=(setP ps z O).map (·.1)/\L2.IsL H ((setP ps z O).map (·.2)) ((setP vs z u).map (·.2))
 | [],[],_,_=>⟨rfl,rfl⟩
 | [],_::_,e,_=>by simp at e
 |_::_,[],e,_=>by simp at e
 |p::ps,v::vs,e,h=>by
  simp only [ua,vv] at e;obtain⟨u',r,Y,h1,h2⟩:=h;simp only [ua,vv] at Y;obtain⟨rfl,rfl⟩:=Y;obtain⟨i1,i2⟩:=set_tbl (z:=z) U e.2 h2;rw [show setP (p::ps) z O=(if p.1=z then(p.1,O) else p)::setP ps z O from rfl,show setP (v::vs) z u=(if v.1=z then(v.1,u) else v)::setP vs z u from rfl]
  by_cases c:p.1=z
  ·rw [if_pos c,if_pos (e.1.trans c)];refine⟨?_,⟨_,_,rfl,U,i2⟩⟩;rw [ua,ua,i1];exact congrArg (·::_) e.1
  ·rw [if_neg c,if_neg (fun q=>c (e.1.symm.trans q))];refine⟨?_,⟨_,_,rfl,h1,i2⟩⟩;rw [ua,ua,i1];exact congrArg (·::_) e.1
theorem put_tbl {H:Hp}{z:Str}{e:D}{u:V}(U:Is H e u){ps:List (Str×D)}{vs:List (Str×V)}(O:vs.map (·.1)=ps.map (·.1))(Y:L2.IsL H (ps.map (·.2)) (vs.map (·.2))):(putP vs z u).map (·.1)=(putP ps z e).map (·.1)/\L2.IsL H ((putP ps z e).map (·.2)) ((putP vs z u).map (·.2)):=by
 unfold putP;by_cases c:z∈ps.map (·.1)
 ·rw [if_pos c,if_pos (by rw [O];exact c)]
  exact set_tbl U O Y
 ·rw [if_neg c,if_neg (by rw [O];exact c)]
  refine⟨by rw [ue,ue,O];rfl,?_⟩
  rw [ue,ue];exact Y.append (L2.IsL.one U)
theorem SqL.keepK {K:PySem.W.Frag}{H H':Hp}{a:Addr}{xs:List V}(e:∀o,H a=some o->H' a=some o)(h:SqL K H a xs):SqL K H' a xs:=by
 rcases h with(h|⟨o,h⟩)|h
 ·exact .inl (.inl (e _ h))
 ·exact .inl (.inr ⟨o,e _ h⟩)
 ·exact .inr h
theorem PrOk.perm {l m:List (Str×D)}(h:PrOk m)(p:l.Perm m):PrOk l:=⟨h.1.perm (p.map _),fun x O=>h.2 x (p.mem_iff.mp O)⟩
theorem set_keys {β:Type}(z:Str)(e:β):∀ps:List (Str×β),(setP ps z e).map (·.1)=ps.map (·.1)
 | []=>rfl
 |p::r=>by
  rw [show setP (p::r) z e=(if p.1=z then(p.1,e) else p)::setP r z e from rfl,ua,ua,set_keys z e r]
  split<;>rfl
theorem put_ok {ps:List (Str×D)}{z:Str}{d:D}(h:PrOk ps)(hn:nm z=true)(hd:Qt d):PrOk (putP ps z d)/\(putP ps z d).length<=ps.length+1:=by
 unfold putP;by_cases c:z∈ps.map (·.1)
 ·rw [if_pos c];refine⟨⟨by rw [set_keys];exact h.1,fun p O=> ?_⟩,by unfold setP;rw [u3];omega⟩
  obtain⟨p0,Y,rfl⟩:=List.mem_map.mp O;split
  ·exact hd
  ·exact h.2 p0 Y
 ·rw [if_neg c];refine⟨⟨⟨fun y U=> ?_,?_⟩,fun p O=> ?_⟩,by rw [uf];exact Nat.le_refl _⟩
  ·rw [ue] at U;rcases List.mem_append.mp U with U|U
   ·exact h.1.1 y U
   ·cases List.mem_singleton.mp U;exact hn
  ·rw [ue,List.nodup_append];refine⟨h.1.2,by simp,fun a ha b hb e=> ?_⟩
   cases List.mem_singleton.mp hb;rw [e] at ha;exact c ha
  ·rcases List.mem_append.mp O with O|O
   ·exact h.2 p O
   ·cases List.mem_singleton.mp O;exact hd
def N8:List Str:= ["a","b1","c/d","e.f","g","h9","k","m/n"]
theorem n8_ok:∀z∈N8,nm z=true/\z.length<=4:=by decide+kernel
theorem n8_nd:N8.Nodup:=by decide+kernel
theorem n8_take {n:Nat}(h1:1<=n)(h2:n<=8):Nm4 (N8.take n)/\(N8.take n).length=n:=by
 have e:(N8.take n).length=n:=by rw [vz];show min n 8=n;omega
 exact⟨⟨by omega,by omega,fun z O=>n8_ok z (List.mem_of_mem_take O)⟩,e⟩
theorem cut_take {vs:List V}{n:Nat}:cutV vs none (some (n:Int))=vs.take n:=by
 unfold cutV;rw [HT.sIx_none,HT.sIx_nat,Ut,Nat.sub_zero];rcases Nat.le_total n vs.length with h|h
 ·rw [Nat.min_eq_left h]
 ·rw [Nat.min_eq_right h,v5 (Nat.le_refl _),v5 h]
theorem ints_of {ns:List Int}:∀{ys:List V},(∀y∈ys,y∈ns.map V.int)->∃O:List Int,ys=O.map V.int
 | [],_=>⟨[],rfl⟩
 |y::r,h=>by
  obtain⟨i,_,e⟩:=List.mem_map.mp (h y ui);obtain⟨O,U⟩:=ints_of (ys:=r) fun z Y=>h z (u5 _ Y);exact⟨i::O,by rw [U,<-e];rfl⟩
def sp_lprs (K:PySem.W.Frag):Sp:=fun vs H Q _=>∃(q:Addr) (ns:List Int),vs= [.ref q]/\SqL K H q (ns.map V.int)/\
 ∀(L:Addr) (ps:List (Str×D)) (us:List V) (H':Hp),H L=none->Same H H'->H' L=some (.lst us)->L2.IsL H' (ps.map prD) us->PrOk ps->ps.length<=60->Q (.ref L) H'
theorem sq_sm {K:PySem.W.Frag}{H H':Hp}{q:Addr}{xs:List V}(h:SqL K H q xs)(s:Same H H'):SqL K H' q xs:=SqL.keepK (fun o e=>s _ _ e) h
theorem ok_lsrcs (T:Tx K mg a):FnOk P w K mg base CX0 7 a.YZ a.jf ["script"] (sp_lprs K):=by
 have Xr:=ok_cell (P:=P) (w:=w) (base:=base) T;have y8:=ok_pot (P:=P) (w:=w) (base:=base) T;have U:=ok_srcd (P:=P) (w:=w) (base:=base) T;refine T.g_law_sources.F.ok Qq (by trivial) (fun _ _ _ _ H _ Q E hr h=> ?_)
 obtain⟨q,ns,rfl,hq,k⟩:=h;have hs:=uk;refine⟨_,(@qc _ _ _ _ _ (@qx _ _ (1) _ _ _ _ Qq.nd rfl (Or.inl rfl) (@yd _ _ _ _ _ _ _ _ _ _ sl_list (@q9 _ _ _ _ (@qa _ _ _ _ _ qi (@qa _ _ _ _ _ qi (@qa _ _ _ _ _ qi (@qa _ _ _ _ _ qi (@qa _ _ _ _ _ qi (@qa _ _ _ _ _ qi (@qa _ _ _ _ _ qi (@qa _ _ _ _ _ qi qb (by trivial)) (by trivial)) (by trivial)) (by trivial)) (by trivial)) (by trivial)) (by trivial)) (by trivial))) po_none (@Qx _ _ _ (@qA _ _ _ _ _ _ _ _ qW qg (@qA _ _ _ _ _ _ _ _ j9 (@qk _ _ _ _ _ _ _ _ _ _ _ _ _ _ _ _ Xr (hr.mono (by trivial)) (by rfl) T.g_law_cell_at.m T.g_law_cell_at.F.kp T.g_law_cell_at.b .nil qy (@qa _ _ _ _ _ (pv 0) (@qa _ _ _ _ _ qg qb (by trivial)) (by trivial)) (by trivial) (by trivial) (by trivial)) qg)))) (by trivial) (by trivial)) (@qc _ _ _ _ _ (@qx _ _ (2) _ _ _ _ Qq.nd rfl (Or.inl rfl) (@q9 _ _ _ _ qb) (by trivial) (by trivial)) (@qc _ _ _ _ _ (@jG _ _ _ _ _ _ _ _ vw rfl (@Qp _ _ _ _ _ _ (by rfl) T.yn (@qa _ _ _ _ _ (@qu _ _ _ _ _ _ _ _ _ qI (by rfl) T.yL uD (@qa _ _ _ _ _ (pv 1) qb (by trivial)) (by trivial) (by trivial) (by trivial) (by trivial)) qb (by trivial)) (by trivial)) (@qG _ _ (3) _ Qq.nd rfl (Or.inl rfl) (by trivial)) (@qc _ _ _ _ _ (@qx _ _ (4) _ _ _ _ Qq.nd rfl (Or.inl rfl) (@qu _ _ _ _ _ _ _ _ _ (@call_sumL _ rfl) (by rfl) T.z_sum boot_sum (@qa _ _ _ _ _ (@pe_stepL _ _ _ _ _ _ _ _ _ _ (by decide) (pv 0) (@Qx _ _ _ (@qA _ _ _ _ _ _ _ _ qW qg (pv 3))) (by trivial)) qb (by trivial)) (by trivial) (by trivial) (by trivial) (by trivial)) (by trivial) (by trivial)) (@qd _ _ _ (@qH _ _ _ _ _ _ _ _ (@qp _ _ _ _ _ _ _ _ JF (@qA _ _ _ _ _ _ _ _ j9 (pv 4) qg) qg (qz _)) (@qd _ _ _ (@yT _ _ _ _ (@QY _ _ _ _ _ _ _ _ _ _ _ _ uL v8 v9 Q3 (pv 2) (@qa _ _ _ _ _ (@Qk _ _ _ _ _ (@qa _ _ _ _ _ (@qP _ _ _ _ _ _ _ qZ (pv 1) (pv 3) (fun _ _=>rfl)) (@qa _ _ _ _ _ (@qk _ _ _ _ _ _ _ _ _ _ _ _ _ _ _ _ U (hr.mono (by trivial)) (by rfl) T.g_law_source.m T.g_law_source.F.kp T.g_law_source.b .nil qy (@qa _ _ _ _ _ (@qk _ _ _ _ _ _ _ _ _ _ _ _ _ _ _ _ y8 (hr.mono (by trivial)) (by rfl) T.g_law_pot.m T.g_law_pot.F.kp T.g_law_pot.b .nil qy (@qa _ _ _ _ _ (pv 4) (@qa _ _ _ _ _ (pv 3) qb (by trivial)) (by trivial)) (by trivial) (by trivial) (by trivial)) (@qa _ _ _ _ _ (pv 1) qb (by trivial)) (by trivial)) (by trivial) (by trivial) (by trivial)) qb (by trivial)) (by trivial))) qb (by trivial)) (by trivial) (by trivial) (by trivial) (by trivial) (by trivial)) (by trivial))) qq))) (by trivial)) (@qd _ _ _ (@qo _ _ _ _ (pv 2)))))),?_⟩
 refine⟨by show 8<=sizeLine;omega,fun l0 ap=> ?_⟩
 have s0:=qf ap (.lst (N8.map V.str));have e0:(upd H l0 (.lst (N8.map V.str))) l0=some (.lst (N8.map V.str)):=qe;show tNoPart _ (upd H l0 (.lst (N8.map V.str))) _;generalize upd H l0 (.lst (N8.map V.str))=H0 at s0 e0⊢;refine⟨_,rfl,q,ns,0,rfl,by decide,(sq_sm hq s0),fun c=>⟨_,_,rfl,rfl,(by show(0:Int)<8;decide),_,_,rfl,rfl,?_⟩⟩
 have m1:0<=c%8/\c%8<8:=⟨Um _ (by decide),U1 _ (by decide)⟩
 obtain⟨n,hn,aq,au⟩:∃n:Nat,1+c%8=(n:Int)/\1<=n/\n<=8:=⟨(1+c%8).toNat,by omega,by omega,by omega⟩
 obtain⟨hN,av⟩:=n8_take aq au;dsimp only;rw [hn];refine⟨_,rfl,l0,_,rfl,SqL.of e0,fun l hl=> ?_⟩;rw [cut_take,<-List.map_take];have ai:(N8.take n).Nodup:=List.Nodup.sublist (List.take_sublist _ _) n8_nd;generalize N8.take n=zs at hN av ai⊢;have s1:=s0.trans (qf hl (.lst (zs.map V.str)));have e1:(upd H0 l (.lst (zs.map V.str))) l=some (.lst (zs.map V.str)):=qe;generalize upd H0 l (.lst (zs.map V.str))=H1 at s1 e1⊢;refine⟨uF _,fun L hL=> ?_⟩;have s2:=s1.trans (qf hL (.lst ([]:List V)));have aj:H L=none:=s1.free hL;have aw:l≠L:=qh e1 hL;have e2:=qf hL (.lst ([]:List V)) _ _ e1;have eL:(upd H1 L (.lst [])) L=some (.lst []):=qe;generalize upd H1 L (.lst [])=H2 at s2 e2 eL⊢;refine⟨_,rfl,l,_,rfl,.inl (SqL.of e2),zs.length,by rw [u3],by omega,by omega,?_⟩
 refine jh (n:=zs.length) (fun i σ H'=>∃(ps:List (Str×D)) (us:List V) (x3 x4:Option V),σ= [some (.ref q),some (.ref l),some (.ref L),x3,x4]/\Same H H'/\H' l=some (.lst (zs.map V.str))/\H' L=some (.lst us)/\L2.IsL H' (ps.map prD) us/\(ps.map (·.1)).Sublist (zs.take i)/\∀p∈ps,Qt p.2) ⟨[],[],none,none,rfl,s2,e2,eL,rfl,List.nil_sublist _,fun p hp=>by simp at hp⟩ ?_ ?_
 ·rintro i σ H' hi ⟨ps,us,x3,x4,rfl,sm,el,ag,ad,O,Y⟩;have aD:ps.length<=8:=by
   have h1:=O.length_le;rw [u3,vz] at h1;omega
  have ax:=ad.length;rw [u3] at ax;refine⟨_,rfl,_,rfl,_,_,rfl,rfl,_,rfl,q,_,rfl,(sq_sm hq sm),fun ys y0 _ ak ay=> ?_⟩;obtain⟨ms,rfl⟩:=ints_of ak;have sy:=qf ay (.lst (ms.map V.int));have ey:(upd H' y0 (.lst (ms.map V.int))) y0=some (.lst (ms.map V.int)):=qe;have aa:=sy _ _ ag;have ac:=sy _ _ el;generalize upd H' y0 (.lst (ms.map V.int))=H3 at sy ey aa ac⊢;have af:=ad.mono sy.tk;have al:=sm.trans sy;refine⟨y0,ms,rfl,SqL.of ey,?_⟩;refine⟨_,rfl,_,_,rfl,rfl,(by show(0:Int)<11;decide),rfl,_,rfl,ite2 (fun _=> ?_) (fun _=> ?_)⟩
  ·have ah:i<zs.length:=hi;refine⟨_,rfl,.inl ⟨rfl,_,SqL.of aa⟩,_,rfl,_,rfl,l,_,_,V.str zs[i],rfl,rfl,SqL.of ac,?_,?_⟩
   ·rw [show(0:Int)+(i:Int)=((i:Nat):Int) by omega]
    exact JQ (by rw [um,u7 ah];rfl)
   refine⟨_,rfl,_,rfl,_,_,rfl,by omega,by omega,fun p H4 hp s4 P4=> ?_⟩
   have az:=s4 _ _ ac;have aE:=s4 _ _ aa;have aF:L≠p:=qh aa hp;refine⟨_,rfl,p,l,zs,rfl,P4,az,hN,fun v d H5 hd hv P5 K5=>⟨by show 2<=sizeLine;omega,fun t ht=> ?_⟩⟩
   have aA:Same H3 H5:=K5.same s4 hp;have st:=qf ht (.tup [.str zs[i],v]);have hz:=hN.2.2 _ (uv ah);have am:Is (upd H5 t (.tup [.str zs[i],v])) (prD (zs[i],d)) (.ref t):=Is.new (ds:= [.str zs[i],d]) ⟨_,_,rfl,⟨rfl,fits (by omega)⟩,_,_,rfl,hv,rfl⟩ ht
   generalize upd H5 t (.tup [.str zs[i],v])=H6 at st am⊢;have ae:=aA.trans st;have ao:=ae _ _ aa;refine⟨L,us,_,rfl,rfl,ao,by omega,?_⟩
   have tk:Tk H6 (upd H6 L (.lst (us++ [.ref t]))):=Tk.updL ao;refine⟨ps++ [(zs[i],d)],us++ [.ref t],_,_,rfl,fun b o e=> ?_,?_,qe,?_,?_,fun p' aB=> ?_⟩
   ·rw [ql (qh e aj)];exact ae _ _ (al _ _ e)
   ·rw [ql aw];exact ae _ _ ac
   ·rw [ue];exact((af.mono ae.tk).mono tk).append (L2.IsL.one (am.mono tk))
   ·rw [take1 ah,ue];exact O.append (List.Sublist.refl _)
   ·rcases List.mem_append.mp aB with h|h
    ·exact Y p' h
    ·cases List.mem_singleton.mp h;exact hd
  ·exact⟨ps,us,_,_,rfl,al,ac,aa,af,O.trans (by rw [take1 hi];exact List.sublist_append_left _ _),Y⟩
 ·rintro σ H' ⟨ps,us,x3,x4,rfl,sm,el,ag,ad,O,Y⟩;rw [vE] at O;have aC:=O.length_le;rw [u3] at aC;exact⟨_,rfl,k L ps us H' aj sm ag ad ⟨⟨fun z hz=>(hN.2.2 z (O.mem hz)).1,ai.sublist O⟩,Y⟩ (by omega)⟩
theorem ok_many (T:Tx K mg a):FnOk P w K mg base CX0 7 a.xz a.xx ["script"] (sp_lprs K):=by
 have y8:=ok_pot (P:=P) (w:=w) (base:=base) T;have qt:=yl (P:=P) (w:=w) (base:=base) T;have Yx:=ok_aname (P:=P) (w:=w) (base:=base) T;have Qs:FnOk P w K mg base CX0 6 a.Qe a.Qd ["pot","deep"] (yG 4):=XE T 4;refine T.g_law_many.F.ok QM (by trivial) (fun _ _ _ _ H vs Q E hr h=> ?_)
 obtain⟨q,ns,rfl,hq,k⟩:=h;have hs:=uk;refine⟨_,(@qc _ _ _ _ _ (@qx _ _ (1) _ _ _ _ QM.nd rfl (Or.inl rfl) pe_dnewK (by trivial) (by trivial)) (@qc _ _ _ _ _ (@jG _ _ _ _ _ _ _ _ vw rfl (@Qp _ _ _ _ _ _ (by rfl) T.yn (@qa _ _ _ _ _ (@qu _ _ _ _ _ _ _ _ _ (@call_min2 _ rfl) (by rfl) T.z_min boot_min (@qa _ _ _ _ _ (@qu _ _ _ _ _ _ _ _ _ qI (by rfl) T.yL uD (@qa _ _ _ _ _ (pv 0) qb (by trivial)) (by trivial) (by trivial) (by trivial) (by trivial)) (@qa _ _ _ _ _ qg qb (by trivial)) (by trivial)) (by trivial) (by trivial) (by trivial) (by trivial)) qb (by trivial)) (by trivial)) (@qG _ _ (2) _ QM.nd rfl (Or.inl rfl) (by trivial)) (@qc _ _ _ _ _ (@qx _ _ (3) _ _ _ _ QM.nd rfl (Or.inl rfl) (@qk _ _ _ _ _ _ _ _ _ _ _ _ _ _ _ _ y8 (hr.mono (by trivial)) (by rfl) T.g_law_pot.m T.g_law_pot.F.kp T.g_law_pot.b .nil qy (@qa _ _ _ _ _ (@qP _ _ _ _ _ _ _ qZ (pv 0) (pv 2) (fun _ _=>rfl)) (@qa _ _ _ _ _ (pv 2) qb (by trivial)) (by trivial)) (by trivial) (by trivial) (by trivial)) (by trivial) (by trivial)) (@qc _ _ _ _ _ (@qx _ _ (4) _ _ _ _ QM.nd rfl (Or.inl rfl) (@qP _ _ _ _ _ _ _ qZ (@q9 _ _ _ _ (@qa _ _ _ _ _ qi (@qa _ _ _ _ _ qi (@qa _ _ _ _ _ qi qb (by trivial)) (by trivial)) (by trivial))) (@qk _ _ _ _ _ _ _ _ _ _ _ _ _ _ _ _ qt (hr.mono (by trivial)) (by rfl) T.g_law_take.m T.g_law_take.F.kp T.g_law_take.b .nil qy (@qa _ _ _ _ _ (pv 3) (@qa _ _ _ _ _ qg qb (by trivial)) (by trivial)) (by trivial) (by trivial) (by trivial)) (fun _ _=>rfl)) (by trivial) (by trivial)) (@qc _ _ _ _ _ (@qx _ _ (5) _ _ _ _ QM.nd rfl (Or.inl rfl) (@qk _ _ _ _ _ _ _ _ _ _ _ _ _ _ _ _ Yx (hr.mono (by trivial)) (by rfl) T.g_law_any_name.m T.g_law_any_name.F.kp T.g_law_any_name.b .nil qy (@qa _ _ _ _ _ (pv 3) qb (by trivial)) (by trivial) (by trivial) (by trivial)) (by trivial) (by trivial)) (@qd _ _ _ (@qH _ _ _ _ _ _ _ _ (@qp _ _ _ _ _ _ _ _ Q1 (pv 4) qi (qz _)) (@qd _ _ _ (@ps_dput _ _ _ _ _ _ _ _ _ (hu_of hr) (pv 1) (pv 5) (@Qk _ _ _ _ _ (@qa _ _ _ _ _ (pv 4) (@qa _ _ _ _ _ (@qk _ _ _ _ _ _ _ _ _ _ _ _ _ _ _ _ Yx (hr.mono (by trivial)) (by rfl) T.g_law_any_name.m T.g_law_any_name.F.kp T.g_law_any_name.b .nil qy (@qa _ _ _ _ _ (pv 3) qb (by trivial)) (by trivial) (by trivial) (by trivial)) qb (by trivial)) (by trivial))) rfl)) (@qd _ _ _ (@ps_dput _ _ _ _ _ _ _ _ _ (hu_of hr) (pv 1) (pv 5) (@Qk _ _ _ _ _ (@qa _ _ _ _ _ (pv 4) (@qa _ _ _ _ _ (@qk _ _ _ _ _ _ _ _ _ _ _ _ _ _ _ _ Qs (hr.mono (by trivial)) (by rfl) T.g_law_any_tree.m T.g_law_any_tree.F.kp T.g_law_any_tree.b .nil qy (@qa _ _ _ _ _ (pv 3) (@qa _ _ _ _ _ qg qb (by trivial)) (by trivial)) (by trivial) (by trivial) (by trivial)) qb (by trivial)) (by trivial))) rfl))))))) (by trivial)) (@qd _ _ _ (@qo _ _ _ _ (@pe_lstItems _ _ _ _ _ _ _ _ rfl (by rfl) T.z_list boot_list (pv 1) (by trivial) (by trivial) (by trivial) (by trivial) (by trivial) (by trivial)))))),?_⟩
 intro d hd;have s1:=qf hd (.dK ([]:List (Key×V)));have ed:(upd H d (.dK ([]:List (Key×V)))) d=some (.dK (inrK [])):=qe;generalize upd H d (.dK ([]:List (Key×V)))=H1 at s1 ed⊢;obtain⟨n,hn,au,av⟩:∃n:Nat,(if(59:Int)<((ns.map V.int).length:Int) then(59:Int) else((ns.map V.int).length:Int))=(n:Int)/\n<=59/\n<=(ns.map V.int).length:=⟨min 59 (ns.map V.int).length,by split<;>omega,by omega,by omega⟩
 refine⟨_,rfl,q,_,rfl,.inl (sq_sm hq s1),_,_,rfl,n,by rw [<-hn],by omega,by omega,?_⟩
 refine jh (n:=n) (fun i σ H'=>∃(vs:List (Str×V)) (ps:List (Str×D)) (x2 x3 x4 x5:Option V),σ= [some (.ref q),some (.ref d),x2,x3,x4,x5]/\Same H H'/\H' d=some (.dK (inrK vs))/\vs.map (·.1)=ps.map (·.1)/\L2.IsL H' (ps.map (·.2)) (vs.map (·.2))/\PrOk ps/\ps.length<=i) ⟨[],[],none,none,none,none,rfl,s1,ed,rfl,rfl,⟨⟨fun z hz=>by simp at hz,List.nodup_nil⟩,fun p hp=>by simp at hp⟩,Nat.le_refl _⟩ ?_ ?_
 ·rintro i σ H' hi ⟨vs,ps,x2,x3,x4,x5,rfl,sm,ac,hk,hv,hok,ak⟩;obtain⟨v0,ad⟩:=QA (xs:=ns.map V.int) (i:=0+(i:Int)) (by omega) (by omega)
  obtain⟨c,_,rfl⟩:=List.mem_map.mp (Q5 ad);refine⟨_,rfl,_,rfl,q,_,_,_,rfl,rfl,(sq_sm hq sm),ad,_,rfl,c,_,rfl,by omega,by omega,fun p H2 hp s2 P2=> ?_⟩
  refine⟨by show 3<=sizeLine;omega,fun l hl=> ?_⟩
  have s3:=qf hl (.lst ((["leaf","rule","made"]:List Str).map V.str));have el:(upd H2 l (.lst ((["leaf","rule","made"]:List Str).map V.str))) l=some (.lst ((["leaf","rule","made"]:List Str).map V.str)):=qe;have P3:=P2.same s3;show tCall _ _ _ _ _ (upd H2 l (.lst ((["leaf","rule","made"]:List Str).map V.str))) _;generalize upd H2 l (.lst ((["leaf","rule","made"]:List Str).map V.str))=H3 at s3 el P3⊢;refine⟨_,rfl,p,3,rfl,P3,by decide,by decide,fun d1 H4 a0 a1 P4 K4=> ?_⟩
  obtain⟨v1,ae⟩:=QA (xs:=(["leaf","rule","made"]:List Str).map V.str) a0 (by show d1<3;exact a1)
  obtain⟨kind,aa,rfl⟩:=List.mem_map.mp (Q5 ae);refine⟨l,_,_,_,rfl,rfl,SqL.of (K4 _ _ el (P3.ne_strs el)),ae,?_⟩;refine⟨_,rfl,p,rfl,P4,fun name H5 al P5 K5=> ?_⟩;have s5:Same H' H5:=(K4.trans K5).same (s2.trans s3) hp;have af:∀{Y:Hp}{dd:D}{v:V}{t:Addr},Kept p H5 Y->Is Y dd v->Qt (.tup [.str kind,dd])->kind.length<=100->Y t=none->upd Y t (.tup [.str kind,v]) d=some (.dK (inrK vs))/\Same H (upd (upd Y t (.tup [.str kind,v])) d (.dK (putK (inrK vs) (Sum.inr name) (.ref t))))/\
    ∃(U:List (Str×V)) (O:List (Str×D)),(upd (upd Y t (.tup [.str kind,v])) d (.dK (putK (inrK vs) (Sum.inr name) (.ref t)))) d=some (.dK (inrK U))/\U.map (·.1)=O.map (·.1)/\L2.IsL (upd (upd Y t (.tup [.str kind,v])) d (.dK (putK (inrK vs) (Sum.inr name) (.ref t)))) (O.map (·.2)) (U.map (·.2))/\PrOk O/\O.length<=i+1:=by
   intro Y dd v t K6 am ao aw ht;have s6:Same H' Y:=K6.same s5 hp;have st:=qf ht (.tup [.str kind,v]);have hi:Is (upd Y t (.tup [.str kind,v])) (.tup [.str kind,dd]) (.ref t):=Is.new (ds:= [.str kind,dd]) ⟨_,_,rfl,⟨rfl,xj (by omega)⟩,_,_,rfl,am,rfl⟩ ht
   have s7:=s6.trans st;generalize upd Y t (.tup [.str kind,v])=H7 at st hi s7⊢;have ag:=s7 _ _ ac;have tk:Tk H7 (upd H7 d (.dK (putK (inrK vs) (Sum.inr name) (.ref t)))):=Tk.updD ag;obtain⟨g1,g2⟩:=put_tbl (z:=name) hi hk (hv.mono s7.tk);obtain⟨g3,g4⟩:=put_ok hok al ao;refine⟨ag,fun b o e=> ?_,putP vs name (.ref t),putP ps name (.tup [.str kind,dd]),by rw [qe,put_inr],g1,g2.mono tk,g3,by omega⟩
   rw [ql (qh e hd)];exact s7 _ _ (sm _ _ e)
  have ah:(inrK vs).length<sizeLine:=by
   have:=congrArg List.length hk;rw [u3,u3] at this;unfold inrK;rw [u3];omega
  refine⟨_,rfl,rfl,_,rfl,?_⟩;simp only [vb,Uc,Ul] at aa;by_cases cm:kind="made"
  ·subst cm;refine iteB (by decide+kernel) ⟨_,rfl,_,rfl,p,rfl,P5,fun y Y hy P6 K6=>⟨by show 2<=sizeLine;omega,fun t ht=> ?_⟩⟩
   obtain⟨f1,f2,U,O,f3,f4,f5,f6,f7⟩:=af K6 (strI' (by have:=jU hy;omega)) (Xd hy) (by decide) ht
   exact⟨_,rfl,_,rfl,d,_,rfl,DPut.k (k:=Sum.inr name) f1 ah,U,O,_,_,_,_,rfl,f2,f3,f4,f5,f6,f7⟩
  ·have ai:kind="leaf"∨kind="rule":=by
    rcases aa with h|h|h
    ·exact .inl h
    ·exact .inr h
    ·exact absurd h cm
   refine iteN (ud fun q=>cm (V.str.inj q)) ⟨_,rfl,_,rfl,p,3,rfl,by decide,P5,fun v dd Y ap h1 h2 h3 h4 P6 K6=>⟨by show 2<=sizeLine;omega,fun t ht=> ?_⟩⟩
   obtain⟨f1,f2,U,O,f3,f4,f5,f6,f7⟩:=af K6 ap (tr_src ai (tr_any (k:=3) (by decide) h1 h2 h3 h4)) (by rcases ai with rfl|rfl<;>decide) ht
   exact⟨_,rfl,_,rfl,d,_,rfl,DPut.k (k:=Sum.inr name) f1 ah,U,O,_,_,_,_,rfl,f2,f3,f4,f5,f6,f7⟩
 ·rintro σ H' ⟨vs,ps,x2,x3,x4,x5,rfl,sm,ac,hk,hv,hok,ak⟩;refine⟨_,rfl,d,inrK vs,rfl,.inl ac,fun t ts H2 s2 aq ht aj=> ?_⟩;refine k t ps (ts.map V.ref) H2 (sm.free aq) (sm.trans s2) ht (prs_is hk (hv.mono s2.tk) ?_ (fun p hp=> ?_) fun j t' p h1 h2=> ?_) hok (by omega)
  ·have:=aj.1;unfold inrK at this
   rwa [u3] at this
  ·have:=jU (hok.1.1 p.1 (List.mem_map.mpr ⟨p,hp,rfl⟩));omega
  ·have:=aj.2 j t' (Sum.inr p.1,p.2) h1 (by unfold inrK;rw [um,h2];rfl)
   exact this
def hdD (x:Str×List D×V):Str×D:=(x.1,x.2.1.headD .non)
theorem tops {H:Hp}:∀{ps:List (Str×D)}{us:List V},L2.IsL H (ps.map prD) us->∃ds:List (Str×List D×V),ds.map (·.2.2)=us/\ds.map hdD=ps/\∀x∈ds,x.2.1= [(hdD x).2]/\Is H (prD (hdD x)) x.2.2
 | [],us,h=>⟨[],(show us= [] from h).symm,rfl,fun x O=>by simp at O⟩
 |p::r,us,h=>by
  obtain⟨v,q,rfl,h1,h2⟩:=h;obtain⟨ds,U,Y,e3⟩:=tops h2;refine⟨(p.1,[p.2],v)::ds,by rw [ua,U],by rw [ua,Y];rfl,fun x O=> ?_⟩
  rcases List.mem_cons.mp O with rfl|O
  ·exact⟨rfl,h1⟩
  ·exact e3 x O
theorem tops_is {H:Hp}:∀{es:List (Str×List D×V)},(∀x∈es,Is H (prD (hdD x)) x.2.2)->L2.IsL H ((es.map hdD).map prD) (es.map (·.2.2))
 | [],_=>rfl
 |x::r,h=>⟨_,_,rfl,h x ui,tops_is fun y O=>h y (u5 _ O)⟩
theorem tops_ok {H:Hp}{ps:List (Str×D)}{ds:List (Str×List D×V)}(hok:PrOk ps)(e:ds.map hdD=ps)(h:∀x∈ds,x.2.1= [(hdD x).2]/\Is H (prD (hdD x)) x.2.2):TopsOk H ds:=by
 have U:∀x∈ds,Qt (hdD x).2:=fun x O=>hok.2 _ (by rw [<-e];exact List.mem_map.mpr ⟨x,O,rfl⟩)
 refine⟨fun x O=> ?_,fun x O=> ?_,?_,fun x O=> ?_⟩
 ·rw [(h x O).1];exact(h x O).2
 ·have h1:=src_dp (U x O);have h2:=lw_pu (U x O).2.2.1;rw [(h x O).1];exact⟨by simp only [puL,h2];rfl,by simp only [dpL,dp];omega⟩
 ·have:ds.map (·.1)=ps.map (·.1):=by rw [<-e,uG];rfl
  rw [this];exact hok.1.2
 ·have h2:=lw_pu (U x O).2.2.1;rw [(h x O).1];simp only [ltL];rw [if_pos ((Xw h2).mpr rfl)]
def sp_right:Sp:=fun vs H Q _=>∃(L:Addr) (ps:List (Str×D)) (us:List V),vs= [.ref L]/\H L=some (.lst us)/\L2.IsL H (ps.map prD) us/\PrOk ps/\ps.length<=60/\∀H',Same H H'->Q (.bl true) H'
theorem line_cat (k z y:Str):(((((k++" ":Str)++z:Str)++" ":Str)++y:Str)++"\n":Str)=(Str.join " " [k,z,y]++"\n":Str):=by
 apply YL;simp only [uP,ur,join3];have e:(" ":Str).cps.toList= [32]:=by decide+kernel
 rw [e];simp
theorem txt_ok0 {qs:List (Str×D)}(h:jT qs):TxtOk (ptxt qs) qs [""]:=by
 have hn:∀p∈qs,nm p.1=true:=fun p O=>h.1.1.1 _ (List.mem_map.mpr ⟨p,O,rfl⟩);have Y:=XA h.2.2 hn h.1.2;obtain⟨m,_,e⟩:=ptxt_split hn h.1.2 "";have U:(ptxt qs++"":Str)=ptxt qs:=YL (by rw [uP,ur];exact uU _)
 rw [U] at e;refine⟨by omega,?_,fun p O=>⟨hn p O,h.1.2 p O⟩,h.up,h.2.2⟩
 rw [e]
 congr 1
theorem ok_right (T:Tx K mg a)(C:Fx K mg g a):FnOk P w K mg base CX0 35 a.JN a.Jo ["pairs"] sp_right:=by
 have ym:=ok_init (P:=P) (w:=w) (base:=base) T;have QH:FnOk P w K mg base CX0 14 a.Qj a.Qi ["tree"] (QE 13):=jD T 13;have Qb:=Xx (P:=P) (w:=w) (base:=base) T;have Qa:FnOk P w K mg base (CX2 P w) 34 a.Qr a.Qo ["text"] (j0 a.qB a.qN):=XF T C;have qE:=Ym (P:=P) (w:=w) (base:=base) T;refine T.g_law_right.F.ok qR (by trivial) (fun _ _ _ _ H _ Q E hr h=> ?_)
 obtain⟨L,ps,us,rfl,hL,ao,hok,aB,k⟩:=h;have hs:=uk;refine⟨_,(@qc _ _ _ _ _ (@qx _ _ (1) _ _ _ _ qR.nd rfl (Or.inl rfl) (@pe_make _ _ _ _ _ _ _ _ _ _ _ _ _ _ _ _ _ T.M_Project ym (hr.mono (by trivial)) (by rfl) T.yU T.g_Project_init.b .nil qy (@qa _ _ _ _ _ (@Qh _ _ _ _ _ _ _ _ _ qX (by rfl) T.Q7 vU (@qa _ _ _ _ _ (pv 0) qb (by trivial)) (by trivial) (by trivial) (by trivial) (by trivial)) qb (by trivial)) (by trivial) (by trivial) (by trivial)) (by trivial) (by trivial)) (@qc _ _ _ _ _ (@qx _ _ (2) _ _ _ _ qR.nd rfl (Or.inl rfl) (@q9 _ _ _ _ qb) (by trivial) (by trivial)) (@qc _ _ _ _ _ (@jG _ _ _ _ _ _ _ _ vw rfl (@pi_list _ _ _ _ (@qu _ _ _ _ _ _ _ _ _ (@call_sortedT _ hr.units) (by rfl) T.z_sorted boot_sorted (@qa _ _ _ _ _ (pv 0) qb (by trivial)) (by trivial) (by trivial) (by trivial) (by trivial))) (@pg_tup _ _ _ _ _ _ rfl (QD (@qG _ _ (3) _ qR.nd rfl (Or.inl rfl) (by trivial)) (QD (@qG _ _ (4) _ qR.nd rfl (Or.inl rfl) (by trivial)) J7)) (by trivial) (by trivial)) (@qc _ _ _ _ _ (@qx _ _ (5) _ _ _ _ qR.nd rfl (Or.inl rfl) (@qP _ _ _ _ _ _ _ Qn (pv 4) qg (fun _ _=>rfl)) (by trivial) (by trivial)) (@qc _ _ _ _ _ (@qH _ _ _ _ _ _ _ _ (@qp _ _ _ _ _ _ _ _ JF (@qP _ _ _ _ _ _ _ Qn (pv 4) qg (fun _ _=>rfl)) qi (qz _)) (@qd _ _ _ (@qx _ _ (5) _ _ _ _ qR.nd rfl (Or.inl rfl) (@qk _ _ _ _ _ _ _ _ _ _ _ _ _ _ _ _ QH (hr.mono (by trivial)) (by rfl) T.g_law_written.m T.g_law_written.F.kp T.g_law_written.b .nil qy (@qa _ _ _ _ _ (@qP _ _ _ _ _ _ _ Qn (pv 4) qg (fun _ _=>rfl)) qb (by trivial)) (by trivial) (by trivial) (by trivial)) (by trivial) (by trivial))) qq) (@qd _ _ _ (@yT _ _ _ _ (@QY _ _ _ _ _ _ _ _ _ _ _ _ uL v8 v9 Q3 (pv 2) (@qa _ _ _ _ _ (@qA _ _ _ _ _ _ _ _ qr (@qA _ _ _ _ _ _ _ _ qr (@qA _ _ _ _ _ _ _ _ qr (@qA _ _ _ _ _ _ _ _ qr (@qA _ _ _ _ _ _ _ _ qr (@qP _ _ _ _ _ _ _ Qn (pv 4) qg (fun _ _=>rfl)) qi) (pv 3)) qi) (pv 5)) qi) qb (by trivial)) (by trivial) (by trivial) (by trivial) (by trivial) (by trivial)) (by trivial))))) (by trivial)) (@qc _ _ _ _ _ (@qx _ _ (6) _ _ _ _ qR.nd rfl (Or.inl rfl) (@qk _ _ _ _ _ _ _ _ _ _ _ _ _ _ _ _ Qb (hr.mono (by trivial)) (by rfl) T.g_project_text.m T.g_project_text.F.kp T.g_project_text.b .nil qy (@qa _ _ _ _ _ (pv 1) qb (by trivial)) (by trivial) (by trivial) (by trivial)) (by trivial) (by trivial)) (@qc _ _ _ _ _ (@qH _ _ _ _ _ _ _ _ (@jo _ _ _ _ _ _ _ (@yo _ _ _ _ (@QU _ _ _ (@qu _ _ _ _ _ _ _ _ _ (@Qv _ _ rfl) (by rfl) T.qQ vm (@qa _ _ _ _ _ (pv 6) (@qa _ _ _ _ _ (@YQ _ _ (.ty "str") _ _ (by rfl) T.z_str boot_str rfl (by trivial) (by trivial)) qb (by trivial)) (by trivial)) (by trivial) (by trivial) (by trivial) (by trivial)) (by trivial))) (@yS _ _ _ _ (@qp _ _ _ _ _ _ _ _ JF (pv 6) (@QY _ _ _ _ _ _ _ _ _ _ _ _ uo uw uy QI qi (@qa _ _ _ _ _ (pv 2) qb (by trivial)) (by trivial) (by trivial) (by trivial) (by trivial) (by trivial)) (qz _)))).pt (@qd _ _ _ (@qo _ _ _ _ yW)) qq) (@qc _ _ _ _ _ (@qx _ _ (7) _ _ _ _ qR.nd rfl (Or.inl rfl) (@qk _ _ _ _ _ _ _ _ _ _ _ _ _ _ _ _ Qa (hr.mono (by trivial)) (by rfl) T.g_read_project.m T.g_read_project.F.kp T.g_read_project.b .nil passF2 (@qa _ _ _ _ _ (pv 6) qb (by trivial)) (by trivial) (by trivial) (by trivial)) (by trivial) (by trivial)) (@qd _ _ _ (@qo _ _ _ _ (@xV _ _ _ _ _ _ _ (@qu _ _ _ _ _ _ _ _ _ (@jM _ _ rfl) (by rfl) T.qQ vm (@qa _ _ _ _ _ (pv 7) (@qa _ _ _ _ _ (@pe_gR _ _ _ _ (by rfl) T.yU (by trivial)) qb (by trivial)) (by trivial)) (by trivial) (by trivial) (by trivial) (by trivial)) (@xV _ _ _ _ _ _ _ (@YT _ _ _ _ _ _ _ _ (@op_eqD _ hr.units) (@Yl _ _ _ _ _ _ _ _ _ _ _ _ _ _ _ _ _ (pv 7) T.QF T.g_Project_sources.h qE (hr.mono (by trivial)) T.g_Project_sources.b .nil qy (by trivial)) (@Yl _ _ _ _ _ _ _ _ _ _ _ _ _ _ _ _ _ (pv 1) T.QF T.g_Project_sources.h qE (hr.mono (by trivial)) T.g_Project_sources.b .nil qy (by trivial)) (qz _)) (@pe_one _ _ _ _ _ (@YT _ _ _ _ _ _ _ _ Q1 (@qk _ _ _ _ _ _ _ _ _ _ _ _ _ _ _ _ Qb (hr.mono (by trivial)) (by rfl) T.g_project_text.m T.g_project_text.F.kp T.g_project_text.b .nil qy (@qa _ _ _ _ _ (pv 7) qb (by trivial)) (by trivial) (by trivial) (by trivial)) (pv 6) (qz _))))))))))))),?_⟩
 refine⟨_,rfl,L,us,rfl,.inl ⟨SqL.of hL,fun t ht=> ?_⟩⟩;have m1:=qf ht (.tup us);intro x dx nx ap aC;have m2:Same (upd H t (.tup us)) (upd (upd (upd H t (.tup us)) dx (.own x)) x (.ins a.qB dx [])):=fun b ob e=>by
  rw [ql (qh e nx),ql (qh e ap)];exact e
 refine⟨x,dx,t,ps,us,rfl,qe,m2 _ _ qe,ao.mono (m1.trans m2).tk,hok,aB,fun qs H1 keep hP hT af=>⟨rfl,?_⟩⟩;have s1:Same H H1:=fun b ob e=>keep b ob ((m1.trans m2) _ _ e) (qh (m1 _ _ e) nx);clear keep m1 m2 nx ap aC ht;refine⟨uF _,fun R hR=> ?_⟩;have s2:=qf hR (.lst ([]:List V));have eR:(upd H1 R (.lst [])) R=some (.lst []):=qe;have aq:=s2 _ _ (s1 _ _ hL);generalize upd H1 R (.lst [])=H2 at s2 eR aq⊢;obtain⟨ds,d1,d2,d3⟩:=tops (ao.mono (s1.trans s2).tk);have dl:ds.length=ps.length:=by rw [<-d2,u3]
 refine⟨_,rfl,L,ds,rfl,SqL.of (by rw [d1];exact aq),tops_ok hok d2 d3,by omega,fun es q ep au hq=> ?_⟩
 have aD:R≠q:=qh eR hq;have av:es.map hdD=qs:=by
  have aw:(es.map hdD).Perm ps:=by rw [<-d2];exact ep.map _
  refine(tab_one hT ?_ (af.trans aw.symm)).symm;refine up_sort (up_of ?_ (((aw.map _).nodup_iff).mpr hok.1.2));rw [uG];refine List.pairwise_map.mpr (au.imp fun{x y} h=> ?_);rw [j3];exact h
 have ag:=tops_is fun y hy=>(d3 y (ep.mem_iff.mp hy)).2;rw [av] at ag;have s3:=qf hq (.lst (es.map (·.2.2)));have eq:(upd H2 q (.lst (es.map (·.2.2)))) q=some (.lst (es.map (·.2.2))):=qe;have ah:=s3 _ _ eR;have Y:=ag.mono s3.tk;generalize upd H2 q (.lst (es.map (·.2.2)))=H3 at s3 eq ah Y⊢;generalize es.map (·.2.2)=ws at eq Y⊢;have ax:=Y.length;rw [u3] at ax;have aO:=hT.2.2;have aE:Same H1 H3:=s2.trans s3;clear ag ep au d1 d2 d3 av;refine⟨q,rfl,⟨_,SqL.of eq⟩,for_list (K:=K) (a:=q) (xs:=ws) (fun i σ H'=>∃x3 x4 x5:Option V,σ= [some (.ref L),some (.ref x),some (.ref R),x3,x4,x5,none,none]/\H' R=some (.lst (((qs.take i).map fun p=>(qF p++"\n":Str)).map V.str))/\(∀b o,H3 b=some o->b≠R->H' b=some o)) ⟨none,none,none,rfl,ah,fun b o e _=>e⟩ (fun i σ H' _ ⟨_,_,_,_,_,k⟩=>SqL.of (k _ _ eq (uY aD))) ?_ ?_⟩
 ·rintro i y σ H' hi ⟨x3,x4,x5,rfl,aa,kp⟩;have aQ:i<ws.length:=(List.getElem?_eq_some_iff.mp hi).1;have ac:i<qs.length:=by omega
  obtain⟨v,e1,e2⟩:=Y.get (mapG prD ac);rw [hi] at e1;cases e1;have hS:=hT.1.2 _ (uv ac);have hn:nm qs[i].1=true:=hT.1.1.1 _ (List.mem_map.mpr ⟨_,uv ac,rfl⟩);have aR:=yy hn hS;have aF:=kd_ok hS;have aG:=wh_ok hS;have hz:=jU hn;have aH:Tk H3 H':=Kept.tk (p:=R) kp ah aa;have ai:=e2.mono aH;obtain⟨⟨kk,e,ed⟩,_⟩:=id hS;have aj:kd qs[i].2=kk:=by rw [ed];rfl
  unfold prD at ai;rw [ed] at ai;obtain⟨t,aS,rfl,ht,y1,r1,rfl,⟨rfl,aT⟩,y2,r2,rfl,⟨sp,aU,rfl,ad,z1,r3,rfl,⟨rfl,aV⟩,v2,r4,rfl,ae,h5⟩,h3⟩:=ai;cases(show r2= [] from h3)
  cases(show r4= [] from h5)
  have fR:((qs.take i).map fun p=>(qF p++"\n":Str)).map V.str=((qs.take i).map fun p=>(qF p++"\n":Str)).map V.str:=rfl;refine⟨t,_,rfl,SqT.of ht,rfl,_,_,rfl,_,_,rfl,rfl,?_⟩;refine⟨_,rfl,sp,_,_,_,rfl,rfl,SqT.of ad,rfl,?_⟩;refine⟨_,rfl,sp,_,_,_,rfl,rfl,SqT.of ad,rfl,rfl,_,rfl,?_⟩;have aW:kk.length=4:=by rw [<-aj];exact aF.1
  have b1:(" ":Str).length=1:=rfl;have b2:("\n":Str).length=1:=rfl;rcases Y0 hS with⟨y,ey,hy⟩|⟨k2,aX,ey,ak,aI,ay,hsz2⟩;rw [ed] at ey;injection ey with ey
  injection ey with O U
  injection O with O
  injection U with U _
  subst O U;obtain⟨rfl,_⟩:=ae;have s4:Same H' H':=Same.refl _;have aJ:y.length<=899:=by have:=jU hy;omega
  have el:Str.join " " ["made",qs[i].1,y]=qF qs[i]:=by unfold qF;rw [aj,ed,Xl]
  refine iteN (by decide+kernel) ?_
  rotate_left;rw [ed] at ey;injection ey with ey
  injection ey with O U
  injection O with O
  injection U with U _
  subst O U;have aJ:(txt e).length<=899:=by have:=aG.1;rw [ed,x6 (yz ak)] at this;exact this
  have el:Str.join " " [kk,qs[i].1,txt e]=qF qs[i]:=by unfold qF;rw [aj,ed,x6 (yz ak)]
  refine iteB (by rw [ud fun q=>yz ak (V.str.inj q)];rfl) ⟨_,rfl,sp,_,_,_,rfl,rfl,SqT.of ad,rfl,v2,e,rfl,ae,lw_sh ay,by have:=isT_dp aI;omega,by omega,fun H4 s4=> ?_⟩
  rotate_left
  all_goals
   refine⟨_,rfl,.inl ⟨rfl,_,SqL.of (s4 _ _ aa)⟩,_,rfl,sp,_,_,_,rfl,rfl,SqT.of (s4 _ _ ad),rfl,_,_,rfl,rfl,fits (by omega),_,rfl,_,_,rfl,rfl,fits (by simp only [qM];omega),_,_,rfl,rfl,fits (by simp only [qM];omega),_,rfl,_,_,rfl,rfl,fits (by simp only [qM];omega),_,_,rfl,rfl,fits (by simp only [qM];omega),R,_,_,rfl,rfl,s4 _ _ aa,by rw [u3,u3,vz];omega,?_⟩
   refine⟨_,_,_,rfl,?_,fun b o e nb=>by rw [ql nb];exact s4 _ _ (kp b o e nb)⟩
   rw [qe,line_cat,el,take1 ac,ue,ue]
   rfl
 ·rintro σ H' ⟨x3,x4,x5,rfl,aa,kp⟩;rw [ax,vE] at aa;have s4:Same H1 H':=fun b o e=>kp _ _ (aE _ _ e) (qh e hR);have az:=hP.same s4;refine⟨_,rfl,x,qs,rfl,az,hT,fun H5 s5=> ?_⟩;have aP:((qs.map fun p=>(qF p++"\n":Str)).map (·.length)).sum<=qs.length*930:=by
   have:=sums (c:=930) (l:=qs.map fun p=>(qF p++"\n":Str)) fun z hz=>by
    obtain⟨p,hp,rfl⟩:=List.mem_map.mp hz;have:=yy (hT.1.1.1 _ (List.mem_map.mpr ⟨p,hp,rfl⟩)) (hT.1.2 p hp);rw [qM];show _+1<=_;omega
   rw [u3] at this;exact this
  refine⟨_,rfl,_,"str",_,true,rfl,.str _,rfl,_,rfl,iteF ?_⟩;refine⟨_,rfl,rfl,_,rfl,"",R,qs.map fun p=>(qF p++"\n":Str),rfl,rfl,SqL.of (s5 _ _ aa),?_,rfl,_,rfl,iteN ?_ ?_⟩
  ·show _+_*0<=_;omega
  ·show(!decide (V.str (ptxt qs)=V.str (ptxt qs)))=false;simp
  ·refine⟨_,rfl,ptxt qs,qs,[""],rfl,txt_ok0 hT,.inl ⟨rfl,fun y H6 s6 al _=> ?_⟩⟩;obtain⟨dy,aY,oy,wy,hy,_⟩:=id al;refine⟨_,rfl,_,_,_,_,true,rfl,.own _,.ty (.ins hy T.QF C.p_a C.p_n C.p_t C.p_m),C.k_P,_,rfl,iteT ?_⟩;obtain⟨am,aZ⟩:=prD_lw (l:=qs) (fun p hp=>hT.1.1.1 p.1 (List.mem_map.mpr ⟨p,hp,rfl⟩)) hT.1.2;have aK:=(az.same s5).same s6;refine⟨_,rfl,y,dy,_,rfl,hy,yu,y,qs,rfl,al,hT,fun v1 H7 s7 aL=> ?_⟩;have aA:=aK.same s7;obtain⟨aM,a1,ox,wx,aN,_⟩:=id aA;refine⟨_,rfl,x,aM,_,rfl,aN,yu,x,qs,rfl,aA,hT,fun v2 H8 s8 ae=>⟨_,_,aL.mono s8.tk,ae,lw_tr am,lw_tr am,by omega,_,rfl,?_⟩⟩
   rw [(Xw (lw_pu am)).mpr rfl];refine iteT ⟨_,rfl,y,qs,rfl,(al.same s7).same s8,hT,fun H9 s9=>⟨_,rfl,rfl,?_⟩⟩;have e:decide (V.str (ptxt qs)=V.str (ptxt qs))=true:=u8 rfl;rw [e];exact k H9 (fun b o z=>s9 _ _ (s8 _ _ (s7 _ _ (s6 _ _ (s5 _ _ (s4 _ _ (s1 _ _ z)))))))
def nmK (i:Nat):Str:="n"++(toString (100+(i:Int)):Str)
theorem nmK_ok:∀i,i<60->nm (nmK i)=true/\(nmK i).length=4:=by decide+kernel
theorem nmK_up:((List.range 60).map nmK).Pairwise (fun a b=>a.cps.toList<b.cps.toList):=by decide+kernel
theorem nmK_len:∀i:Nat,i<60->(toString (100+(i:Int)):Str).length=3:=by decide+kernel
theorem row_cat (z y:Str):(((("leaf n"++z:Str)++" ":Str)++y:Str)++"\n":Str)=(Str.join " " ["leaf","n"++z,y]++"\n":Str):=by
 apply YL;simp only [uP,ur,join3];have e:(" ":Str).cps.toList= [32]:=by decide+kernel
 have O:("leaf n":Str).cps.toList=("leaf":Str).cps.toList++32::("n":Str).cps.toList:=by decide+kernel
 rw [e,O];simp
theorem spl_tail {ls:List Str}{tl t:Str}(O:∀z∈ls,10∉z.cps.toList)(U:10∉tl.cps.toList)(e:t.cps.toList=(ls.flatMap fun z=>(z++"\n":Str).cps.toList)++tl.cps.toList):splL (t.length+1) t=ls++ [tl]:=by
 have h1:=XB ls;have h2:t.length=(ls.flatMap fun z=>(z++"\n":Str).cps.toList).length+tl.length:=by rw [qC,e,uf,<-qC]
 unfold splL;rw [e,show t.length+1=ls.length+(t.length+1-ls.length) by omega,JA _ _ _ O,yV U,ue,uG]
 have Y:(ofL∘fun z:Str=>z.cps.toList)=id:=funext fun z=>Qu z;rw [Y,List.map_id];show ls++ [ofL tl.cps.toList]=ls++ [tl];rw [Qu]
theorem Xf {qs:List (Str×D)}(h:jT qs){ls:List Str}{tl t:Str}(Y:∀z∈ls,10∉z.cps.toList)(ht:10∉tl.cps.toList)(e:t.cps.toList=(ls.flatMap fun z=>(z++"\n":Str).cps.toList)++tl.cps.toList)(aa:t.length<=100):TxtOk (ptxt qs++t) qs (ls++ [tl]):=by
 have hn:∀p∈qs,nm p.1=true:=fun p O=>h.1.1.1 _ (List.mem_map.mpr ⟨p,O,rfl⟩);have ac:=XA h.2.2 hn h.1.2;refine⟨by rw [qM];omega,?_,fun p O=>⟨hn p O,h.1.2 p O⟩,h.up,h.2.2⟩
 rw [<-uq];refine spl_tail (fun z U=> ?_) ht ?_
 ·rcases List.mem_append.mp U with U|U
  ·obtain⟨p,O,rfl⟩:=List.mem_map.mp U;exact line_free (hn p O) (h.1.2 p O)
  ·exact Y z U
 ·rw [uP,ur,XC,e,List.flatMap_append,uq]
def MOA:Str×D:=("o",.tup [.str "made",.str "a"])
theorem moa_line:qF MOA="made o a":=by decide+kernel
theorem moa_ok:nm MOA.1=true/\Qt MOA.2:=⟨by decide+kernel,Xd (by decide+kernel)⟩
def TLS:List Str:= ["made o a\n","made o a\nx\n","leaf o ()"]
theorem tls_bad {qs:List (Str×D)}(h:jT qs)(U:qs.length=60):∀t∈TLS,∃rest,TxtOk (ptxt qs++t) qs rest/\BadR qs rest:=by
 intro t Y;simp only [TLS,vb,Uc,Ul] at Y;rcases Y with rfl|rfl|rfl
 ·refine⟨(["made o a"]:List Str)++([""]:List Str),Xf (t:="made o a\n") h (ls:= ["made o a"]) (tl:="") (fun z O=> ?_) (by decide+kernel) (by decide+kernel) (by decide),.inr ⟨U,MOA,"",[],by rw [moa_line];rfl,moa_ok.1,moa_ok.2⟩⟩
  cases List.mem_singleton.mp O
  decide+kernel
 ·refine⟨(["made o a","x"]:List Str)++([""]:List Str),Xf (t:="made o a\nx\n") h (ls:= ["made o a","x"]) (tl:="") (fun z O=> ?_) (by decide+kernel) (by decide+kernel) (by decide),.inr ⟨U,MOA,"x",[""],by rw [moa_line];rfl,moa_ok.1,moa_ok.2⟩⟩
  simp only [vb,Uc,Ul] at O;rcases O with rfl|rfl<;>decide+kernel
 ·exact⟨([]:List Str)++(["leaf o ()"]:List Str),Xf (t:="leaf o ()") h (ls:= []) (tl:="leaf o ()") (fun z O=>by simp at O) (by decide+kernel) (by decide+kernel) (by decide),.inl ⟨"leaf o ()",rfl,by decide+kernel⟩⟩
theorem tls_len:∀t∈TLS,t.length<=100:=by decide+kernel
theorem fld_row {v:V}:List.lookup ("row":Str) [(("row":Str),v)]=some v:=by simp [List.lookup]
def sp_sixty:Sp:=fun vs H Q _=>∃c:Int,vs= [.int c]/\∀H',Same H H'->Q (.bl true) H'
theorem ok_sixty (T:Tx K mg a)(C:Fx K mg g a):FnOk P w K mg base CX0 35 a.JC a.J1 ["cell"] sp_sixty:=by
 have y8:=ok_pot (P:=P) (w:=w) (base:=base) T;have QH:FnOk P w K mg base CX0 14 a.Qj a.Qi ["tree"] (QE 13):=jD T 13;have Qs:FnOk P w K mg base CX0 6 a.Qe a.Qd ["pot","deep"] (yG 4):=XE T 4;have Qb:=Xx (P:=P) (w:=w) (base:=base) T;have Qa:FnOk P w K mg base (CX2 P w) 34 a.Qr a.Qo ["text"] (j0 a.qB a.qN):=XF T C;have qE:=Ym (P:=P) (w:=w) (base:=base) T;refine T.g_law_sixty.F.ok qS (by trivial) (fun _ _ _ _ H _ Q E hr h=> ?_)
 obtain⟨c,rfl,k⟩:=h;have hs:=uk;refine⟨_,(@qc _ _ _ _ _ (@qx _ _ (1) _ _ _ _ qS.nd rfl (Or.inl rfl) (@qk _ _ _ _ _ _ _ _ _ _ _ _ _ _ _ _ y8 (hr.mono (by trivial)) (by rfl) T.g_law_pot.m T.g_law_pot.F.kp T.g_law_pot.b .nil qy (@qa _ _ _ _ _ (pv 0) (@qa _ _ _ _ _ qg qb (by trivial)) (by trivial)) (by trivial) (by trivial) (by trivial)) (by trivial) (by trivial)) (@qc _ _ _ _ _ (@qx _ _ (2) _ _ _ _ qS.nd rfl (Or.inl rfl) (@q9 _ _ _ _ qb) (by trivial) (by trivial)) (@qc _ _ _ _ _ (@jG _ _ _ _ _ _ _ _ vw rfl (@Qp _ _ _ _ _ _ (by rfl) T.yn (@qa _ _ _ _ _ qg qb (by trivial)) (by trivial)) (@qG _ _ (3) _ qS.nd rfl (Or.inl rfl) (by trivial)) (@qd _ _ _ (@yT _ _ _ _ (@QY _ _ _ _ _ _ _ _ _ _ _ _ uL v8 v9 Q3 (pv 2) (@qa _ _ _ _ _ (@qA _ _ _ _ _ _ _ _ qr (@qA _ _ _ _ _ _ _ _ qr (@qA _ _ _ _ _ _ _ _ qr (@qA _ _ _ _ _ _ _ _ qr qi (@Qh _ _ _ _ _ _ _ _ _ jH (by rfl) T.z_str boot_str (@qa _ _ _ _ _ (@qA _ _ _ _ _ _ _ _ qW qg (pv 3)) qb (by trivial)) (by trivial) (by trivial) (by trivial) (by trivial))) qi) (@qk _ _ _ _ _ _ _ _ _ _ _ _ _ _ _ _ QH (hr.mono (by trivial)) (by rfl) T.g_law_written.m T.g_law_written.F.kp T.g_law_written.b .nil qy (@qa _ _ _ _ _ (@qk _ _ _ _ _ _ _ _ _ _ _ _ _ _ _ _ Qs (hr.mono (by trivial)) (by rfl) T.g_law_any_tree.m T.g_law_any_tree.F.kp T.g_law_any_tree.b .nil qy (@qa _ _ _ _ _ (pv 1) (@qa _ _ _ _ _ qg qb (by trivial)) (by trivial)) (by trivial) (by trivial) (by trivial)) qb (by trivial)) (by trivial) (by trivial) (by trivial))) qi) qb (by trivial)) (by trivial) (by trivial) (by trivial) (by trivial) (by trivial)) (by trivial))) (by trivial)) (@qc _ _ _ _ _ (@qx _ _ (4) _ _ _ _ qS.nd rfl (Or.inl rfl) (@QY _ _ _ _ _ _ _ _ _ _ _ _ uo uw uy QI qi (@qa _ _ _ _ _ (pv 2) qb (by trivial)) (by trivial) (by trivial) (by trivial) (by trivial) (by trivial)) (by trivial) (by trivial)) (@qc _ _ _ _ _ (@qx _ _ (5) _ _ _ _ qS.nd rfl (Or.inl rfl) (@qk _ _ _ _ _ _ _ _ _ _ _ _ _ _ _ _ Qa (hr.mono (by trivial)) (by rfl) T.g_read_project.m T.g_read_project.F.kp T.g_read_project.b .nil passF2 (@qa _ _ _ _ _ (pv 4) qb (by trivial)) (by trivial) (by trivial) (by trivial)) (by trivial) (by trivial)) (@qc _ _ _ _ _ (@qH _ _ _ _ _ _ _ _ (@jo _ _ _ _ _ _ _ (@qp _ _ _ _ _ _ _ _ JF (@qu _ _ _ _ _ _ _ _ _ qI (by rfl) T.yL uD (@qa _ _ _ _ _ (@Yl _ _ _ _ _ _ _ _ _ _ _ _ _ _ _ _ _ (pv 5) T.QF T.g_Project_sources.h qE (hr.mono (by trivial)) T.g_Project_sources.b .nil qy (by trivial)) qb (by trivial)) (by trivial) (by trivial) (by trivial) (by trivial)) qg (qz _)) (@yS _ _ _ _ (@qp _ _ _ _ _ _ _ _ JF (@qk _ _ _ _ _ _ _ _ _ _ _ _ _ _ _ _ Qb (hr.mono (by trivial)) (by rfl) T.g_project_text.m T.g_project_text.F.kp T.g_project_text.b .nil qy (@qa _ _ _ _ _ (pv 5) qb (by trivial)) (by trivial) (by trivial) (by trivial)) (pv 4) (qz _)))).pt (@qd _ _ _ (@qo _ _ _ _ yW)) qq) (@qc _ _ _ _ _ (@qx _ _ (6) _ _ _ _ qS.nd rfl (Or.inl rfl) qg (by trivial) (by trivial)) (@qc _ _ _ _ _ (@ps_tryEA2 _ (7) _ _ _ _ _ _ _ _ _ _ _ _ _ _ _ _ _ _ _ _ _ qS.nd rfl rfl Qa (hr.mono (by trivial)) (by rfl) T.g_read_project.m T.g_read_project.F.kp T.g_read_project.b (@qa _ _ _ _ _ (@qA _ _ _ _ _ _ _ _ qr (pv 4) (@qP _ _ _ _ _ _ _ qZ (@q9 _ _ _ _ (@qa _ _ _ _ _ qi (@qa _ _ _ _ _ qi (@qa _ _ _ _ _ qi qb (by trivial)) (by trivial)) (by trivial))) (@qA _ _ _ _ _ _ _ _ j9 (pv 0) qg) (fun _ _=>rfl))) qb (by trivial)) ⟨rfl,rfl⟩ (by rfl) T.YV (fun _ _=>(@qd _ _ _ (@qx _ _ (6) _ _ _ _ qS.nd rfl (Or.inl rfl) (@pe_fldXK _ (K) _ _ _ _ rfl (pv 7) rfl) (by trivial) (by trivial)))) (by trivial) (by trivial) (by trivial) (by trivial) (by trivial)) (@qd _ _ _ (@qo _ _ _ _ (@YT _ _ _ _ _ _ _ _ Q1 (pv 6) qg (qz _)))))))))))),?_⟩
 refine⟨_,rfl,c,7,rfl,by decide,by decide,fun p H1 hp s1 P1=> ?_⟩
 refine⟨uF _,fun R hR=> ?_⟩;have s2:=qf hR (.lst ([]:List V));have eR:(upd H1 R (.lst [])) R=some (.lst []):=qe;have P2:=P1.same s2;have af:R≠p:=(P1.free hR).symm;have ao:H R=none:=s1.free hR;generalize upd H1 R (.lst [])=H2 at s2 eR P2⊢;refine⟨60,rfl,by decide,by decide,?_⟩
 refine jh (n:=60) (fun i σ H'=>∃(qs:List (Str×D)) (x3:Option V),σ= [some (.int c),some (.ref p),some (.ref R),x3,none,none,none,none]/\qs.map (·.1)=(List.range i).map nmK/\(∀q∈qs,Qt q.2)/\H' R=some (.lst ((qs.map fun q=>(qF q++"\n":Str)).map V.str))/\qV H' p/\Same H H') ⟨[],none,rfl,rfl,fun q Y=>by simp at Y,eR,P2,s1.trans s2⟩ ?_ ?_
 ·rintro i σ H' hi ⟨qs,x3,rfl,O,U,aa,P',sm⟩;have ac:qs.length=i:=by
   have:=congrArg List.length O;rw [u3,u3,List.length_range] at this;exact this
  have ag:(100+(0+(i:Int))).natAbs.log2<1920:=by have:=Nat.log2_le_self (100+(0+(i:Int))).natAbs;omega
  have ei:(100+(0+(i:Int)):Int)=100+(i:Int):=by omega
  have aB:=nmK_len i hi;have b1:(" ":Str).length=1:=rfl;have b2:("\n":Str).length=1:=rfl;have b3:("leaf n":Str).length=6:=rfl;refine⟨_,rfl,.inl ⟨rfl,_,SqL.of aa⟩,_,rfl,_,_,rfl,rfl,_,rfl,ag,?_⟩;rw [ei];refine⟨_,_,rfl,rfl,fits (by omega),_,_,rfl,rfl,fits (by simp only [qM];omega),_,rfl,p,1,rfl,by decide,P',fun v d H3 hv h1 h2 h3 h4 P3 K3=> ?_⟩
  have ad:=tr_any (k:=1) (by decide) h1 h2 h3 h4
  have ap:=Yc d (lw_sh ad.2.1);have aC:=ad.2.2;refine⟨v,d,rfl,hv,lw_sh ad.2.1,by omega,by omega,fun H4 s4=> ?_⟩
  have aq:=s4 _ _ (K3 _ _ aa af);have au:=tr_src (k:="leaf") (.inl rfl) ad;refine⟨_,_,rfl,rfl,fits (by simp only [qM];omega),_,_,rfl,rfl,fits (by simp only [qM];omega),R,_,_,rfl,rfl,aq,by rw [u3,u3];omega,?_⟩
  refine⟨qs++ [(nmK i,.tup [.str "leaf",d])],_,rfl,?_,fun q Y=> ?_,?_,?_,fun b o e=> ?_⟩
  ·rw [ue,O,List.range_succ,ue]
   rfl
  ·rcases List.mem_append.mp Y with Y|Y
   ·exact U q Y
   ·cases List.mem_singleton.mp Y;exact au
  ·rw [qe,row_cat,ue,ue];have el:qF (nmK i,.tup [.str "leaf",d])=Str.join " " ["leaf",nmK i,txt d]:=by
    unfold qF;rw [x6 (yz (.inl rfl))]
    rfl
   show some (HO.lst (_++ [V.str _]))=some (HO.lst (_++ [V.str (qF (nmK i,.tup [.str "leaf",d])++"\n")]));rw [el]
   rfl
  ·obtain⟨x,e2,hx⟩:=P3.same s4;exact⟨x,by rw [ql af.symm];exact e2,hx⟩
  ·rw [ql (qh e ao)];exact s4 _ _ ((K3.same sm (by exact hp)) _ _ e)
 ·rintro σ H' ⟨qs,x3,rfl,O,U,aa,P',sm⟩;have ac:qs.length=60:=by
   have:=congrArg List.length O;rw [u3,u3,List.length_range] at this;exact this
  have hok:∀q∈qs,nm q.1=true/\Qt q.2:=fun q Y=>by
   refine⟨?_,U q Y⟩;have:q.1∈(List.range 60).map nmK:=by rw [<-O];exact List.mem_map.mpr ⟨q,Y,rfl⟩
   obtain⟨j,hj,ej⟩:=List.mem_map.mp this;rw [<-ej];exact(nmK_ok j (List.mem_range.mp hj)).1
  have ah:(qs.map (·.1)).Pairwise (fun a b=>a.cps.toList<b.cps.toList):=by rw [O];exact nmK_up
  have av:Up qs:=(List.pairwise_map (f:=fun p:Str×D=>p.1)).mp ah;have hT:=tab_of hok av (by omega)
  have aA:((qs.map fun p=>(qF p++"\n":Str)).map (·.length)).sum<=qs.length*930:=by
   have:=sums (c:=930) (l:=qs.map fun p=>(qF p++"\n":Str)) fun z hz=>by
    obtain⟨p,hp,rfl⟩:=List.mem_map.mp hz;have:=yy (hok p hp).1 (hok p hp).2;rw [qM];show _+1<=_;omega
   rw [u3] at this;exact this
  refine⟨rfl,_,rfl,"",R,qs.map fun p=>(qF p++"\n":Str),rfl,rfl,SqL.of aa,(by show _+_*0<=_;omega),?_⟩
  refine⟨_,rfl,ptxt qs,qs,[""],rfl,txt_ok0 hT,.inl ⟨rfl,fun y H3 s3 ae _=> ?_⟩⟩;obtain⟨dy,aD,oy,wy,hy,_⟩:=id ae;refine⟨_,rfl,y,dy,_,rfl,hy,yu,y,qs,rfl,ae,hT,fun v4 H4 s4 aw=> ?_⟩;obtain⟨t4,ax,rfl,ay,ai⟩:=aw;have l4:=ai.length;rw [u3] at l4;refine⟨t4,ax,rfl,.inr (SqT.of ay),rfl,_,rfl,iteN (by rw [l4,ac];rfl) ?_⟩
  refine⟨_,rfl,y,qs,rfl,ae.same s4,hT,fun H5 s5=>⟨_,rfl,rfl,_,rfl,iteN (by show(!decide (V.str (ptxt qs)=V.str (ptxt qs)))=false;simp) ?_⟩⟩
  have az:Same H H5:=fun b o e=>s5 _ _ (s4 _ _ (s3 _ _ (sm _ _ e)));have m3:0<=c%3/\c%3<3:=⟨Um _ (by decide),U1 _ (by decide)⟩
  refine⟨_,rfl,by show 3<=sizeLine;omega,fun l hl=> ?_⟩
  have s6:=qf hl (.lst (TLS.map V.str));have el:(upd H5 l (.lst (TLS.map V.str))) l=some (.lst (TLS.map V.str)):=qe;obtain⟨tv,aj⟩:=QA (xs:=TLS.map V.str) m3.1 (by show c%3<3;exact m3.2)
  obtain⟨t,ak,rfl⟩:=List.mem_map.mp (Q5 aj);obtain⟨rest,hX,hB⟩:=tls_bad hT ac t ak;have aE:=XA hT.2.2 (fun p hp=>(hok p hp).1) (fun p hp=>(hok p hp).2);have ap:=tls_len t ak;refine⟨_,rfl,_,_,rfl,rfl,(by show(0:Int)<3;decide),l,_,_,_,rfl,rfl,SqL.of el,aj,_,_,rfl,rfl,fits (by show(ptxt qs).length+_<=_;omega),ptxt qs++t,qs,rest,rfl,hX,.inr ⟨hB,fun dc H7 al s7=>⟨a.qN,dc,rfl,rfl,C.e_BadText,fun ea am=> ?_⟩⟩⟩
  refine⟨_,rfl,ea,_,dc,_,_,rfl,qe,by rw [ql (qh al am)];exact al,T.X_BadText.cl,T.ja,fld_row,?_⟩
  refine⟨_,rfl,rfl,?_⟩;have e:decide (V.int ((qs.length+1:Nat):Int)=V.int 61)=true:=by rw [ac];rfl
  rw [e];exact k _ fun b o z=>by
   have z7:=s7 _ _ (s6 _ _ (az _ _ z));rw [ql (qh z7 am)];exact z7
def sp_law (K:PySem.W.Frag):Sp:=fun vs H Q _=>∃(a:Addr) (ns:List Int),vs= [.ref a]/\SqL K H a (ns.map V.int)/\ns.length<=63/\∀H',Q (.bl true) H'
theorem IsL.rev {H:Hp}:∀{ds:List D}{vs:List V},L2.IsL H ds vs->L2.IsL H ds.reverse vs.reverse
 | [],vs,h=>by cases(show vs= [] from h);exact rfl
 |d::ds,vs,h=>by
  obtain⟨v,r,rfl,h1,h2⟩:=h;rw [Us,Us];exact(IsL.rev h2).append (L2.IsL.one h1)
theorem tab_nil:jT []:=⟨⟨⟨fun z O=>by simp at O,List.nodup_nil⟩,fun p U=>by simp at U⟩,rfl,uF _⟩
theorem ok_law (T:Tx K mg a)(C:Fx K mg g a):FnOk P w K mg base CX0 36 a.f_law a.d_law ["script"] (sp_law K):=by
 have U:=ok_many (P:=P) (w:=w) (base:=base) T;have Xk:=ok_lsrcs (P:=P) (w:=w) (base:=base) T;have Qa:FnOk P w K mg base (CX2 P w) 34 a.Qr a.Qo ["text"] (j0 a.qB a.qN):=XF T C;have qE:=Ym (P:=P) (w:=w) (base:=base) T;have Qb:=Xx (P:=P) (w:=w) (base:=base) T;have O:=ok_sixty (P:=P) (w:=w) (base:=base) T C;have YG:=ok_right (P:=P) (w:=w) (base:=base) T C;refine T.g_law.F.ok sc_law (by trivial) (fun _ _ _ _ H _ Q E Y h=> ?_)
 obtain⟨q,ns,rfl,hq,aB,k⟩:=h;refine⟨_,(@qc _ _ _ _ _ (@qx _ _ (1) _ _ _ _ sc_law.nd rfl (Or.inl rfl) (@qk _ _ _ _ _ _ _ _ _ _ _ _ _ _ _ _ U (Y.mono (by trivial)) (by rfl) T.g_law_many.m T.g_law_many.F.kp T.g_law_many.b .nil qy (@qa _ _ _ _ _ (pv 0) qb (by trivial)) (by trivial) (by trivial) (by trivial)) (by trivial) (by trivial)) (@qc _ _ _ _ _ (@qx _ _ (2) _ _ _ _ sc_law.nd rfl (Or.inl rfl) (@qk _ _ _ _ _ _ _ _ _ _ _ _ _ _ _ _ Qa (Y.mono (by trivial)) (by rfl) T.g_read_project.m T.g_read_project.F.kp T.g_read_project.b .nil passF2 (@qa _ _ _ _ _ qi qb (by trivial)) (by trivial) (by trivial) (by trivial)) (by trivial) (by trivial)) (@qc _ _ _ _ _ (@qH _ _ _ _ _ _ _ _ (@jo _ _ _ _ _ _ _ (@yo _ _ _ _ (@QU _ _ _ (@qu _ _ _ _ _ _ _ _ _ (@jM _ _ rfl) (by rfl) T.qQ vm (@qa _ _ _ _ _ (pv 2) (@qa _ _ _ _ _ (@pe_gR _ _ _ _ (by rfl) T.yU (by trivial)) qb (by trivial)) (by trivial)) (by trivial) (by trivial) (by trivial) (by trivial)) (by trivial))) (@jo _ _ _ _ _ _ _ (@qp _ _ _ _ _ _ _ _ (@op_neNil _ Y.units) (@Yl _ _ _ _ _ _ _ _ _ _ _ _ _ _ _ _ _ (pv 2) T.QF T.g_Project_sources.h qE (Y.mono (by trivial)) T.g_Project_sources.b .nil qy (by trivial)) (@Qk _ _ _ _ _ qb) (qz _)) (@yS _ _ _ _ (@qp _ _ _ _ _ _ _ _ JF (@qk _ _ _ _ _ _ _ _ _ _ _ _ _ _ _ _ Qb (Y.mono (by trivial)) (by rfl) T.g_project_text.m T.g_project_text.F.kp T.g_project_text.b .nil qy (@qa _ _ _ _ _ (pv 2) qb (by trivial)) (by trivial) (by trivial) (by trivial)) qi (qz _))))).pt (@qd _ _ _ (@qo _ _ _ _ yW)) qq) (@qc _ _ _ _ _ (@qH _ _ _ _ _ _ _ _ (@yo _ _ _ _ (@QU _ _ _ (@qk _ _ _ _ _ _ _ _ _ _ _ _ _ _ _ _ O (Y.mono (by trivial)) (by rfl) T.g_law_sixty.m T.g_law_sixty.F.kp T.g_law_sixty.b .nil qy (@qa _ _ _ _ _ (@qu _ _ _ _ _ _ _ _ _ (@call_sumL _ rfl) (by rfl) T.z_sum boot_sum (@qa _ _ _ _ _ (pv 0) qb (by trivial)) (by trivial) (by trivial) (by trivial) (by trivial)) qb (by trivial)) (by trivial) (by trivial) (by trivial)) (by trivial))) (@qd _ _ _ (@qo _ _ _ _ yW)) qq) (@qd _ _ _ (@qo _ _ _ _ (@xV _ _ _ _ _ _ _ (@qk _ _ _ _ _ _ _ _ _ _ _ _ _ _ _ _ YG (Y.mono (by trivial)) (by rfl) T.g_law_right.m T.g_law_right.F.kp T.g_law_right.b .nil qy (@qa _ _ _ _ _ (@qk _ _ _ _ _ _ _ _ _ _ _ _ _ _ _ _ Xk (Y.mono (by trivial)) (by rfl) T.g_law_sources.m T.g_law_sources.F.kp T.g_law_sources.b .nil qy (@qa _ _ _ _ _ (pv 0) qb (by trivial)) (by trivial) (by trivial) (by trivial)) qb (by trivial)) (by trivial) (by trivial) (by trivial)) (@xV _ _ _ _ _ _ _ (@qk _ _ _ _ _ _ _ _ _ _ _ _ _ _ _ _ YG (Y.mono (by trivial)) (by rfl) T.g_law_right.m T.g_law_right.F.kp T.g_law_right.b .nil qy (@qa _ _ _ _ _ (pv 1) qb (by trivial)) (by trivial) (by trivial) (by trivial)) (@pe_one _ _ _ _ _ (@qk _ _ _ _ _ _ _ _ _ _ _ _ _ _ _ _ YG (Y.mono (by trivial)) (by rfl) T.g_law_right.m T.g_law_right.F.kp T.g_law_right.b .nil qy (@qa _ _ _ _ _ (@pe_revL _ _ _ _ _ _ _ (pv 1) (@pe_un _ _ _ _ _ _ un_neg qg) (fun _ _ _ h=>⟨1,rfl,h⟩) (by trivial)) qb (by trivial)) (by trivial) (by trivial) (by trivial))))))))))),?_⟩
 refine⟨_,rfl,q,ns,rfl,hq,fun L ps us H1 _ s1 hL ad hok ae=> ?_⟩;refine⟨"",[],[""],rfl,txt_ok0 tab_nil,.inl ⟨rfl,fun y H2 s2 aa _=> ?_⟩⟩;obtain⟨dy,aC,oy,wy,hy,_⟩:=id aa;refine⟨_,rfl,_,_,_,_,true,rfl,.own _,.ty (.ins hy T.QF C.p_a C.p_n C.p_t C.p_m),C.k_P,_,rfl,iteF ?_⟩;refine⟨_,rfl,y,dy,_,rfl,hy,yu,y,[],rfl,aa,tab_nil,fun v3 H3 s3 ao=> ?_⟩;obtain⟨t3,ap,rfl,aq,af⟩:=ao;cases(show ap= [] from af)
 refine⟨uF _,fun e0 au=> ?_⟩;have s4:=qf au (.tup ([]:List V));refine⟨t3,e0,[],rfl,rfl,SqT.of (s4 _ _ aq),SqT.of qe,_,rfl,iteN rfl ?_⟩;have ag:=(aa.same s3).same s4;generalize upd H3 e0 (.tup [])=H4 at s4 ag⊢;refine⟨_,rfl,y,[],rfl,ag,tab_nil,fun H5 s5=>⟨rfl,_,rfl,iteN (by decide+kernel) ?_⟩⟩
 have ah:Same H1 H5:=((s2.trans s3).trans s4).trans s5;have ai:=s1.trans ah;refine⟨_,rfl,q,ns,rfl,sq_sm hq ai,_,rfl,fun H6 s6=>⟨_,rfl,iteF ?_⟩⟩;have av:=ai.trans s6;refine⟨_,rfl,q,ns,rfl,sq_sm hq av,fun L7 aw ax H7 _ s7 ay aj ak al=>⟨L7,aw,ax,rfl,ay,aj,ak,al,fun H8 s8=>⟨_,rfl,iteT ?_⟩⟩⟩;have ac:Same H1 H8:=((ah.trans s6).trans s7).trans s8;refine⟨_,rfl,L,ps,us,rfl,ac _ _ hL,ad.mono ac.tk,hok,ae,fun H9 s9=>⟨_,rfl,iteT ?_⟩⟩;have am:=ac.trans s9;refine⟨_,rfl,L,us,rfl,SqL.of (am _ _ hL),fun R hR=> ?_⟩;have az:=am.trans (qf hR (.lst us.reverse));refine⟨R,ps.reverse,us.reverse,rfl,qe,?_,hok.perm (List.reverse_perm ps),by rw [List.length_reverse];exact ae,fun aA _=>k aA⟩
 rw [List.map_reverse];exact IsL.rev (ad.mono az.tk)
end
theorem tx_mk {K:PySem.W.Frag}{h:Heap}{mg:Str->Option Value}(X:K.In h)(G:h.Ns mainGlobals mg){U O Y f1 f2 f3 f4 f5 f6 f7 f8 f9 ap aq au av aw ax ay az aA aB aC aD aE aF aG aH aI aJ aK aL aM aN aO aP aQ aR aS aT aU aV aW aX aY:Addr}{t1 t2 t3 t4 t5 t6 t7 t8 t9:Tok}
  (ai:PySem.W.nsIn K mainGlobals "Project"=some (some (.ref U))) (aj:Cls K U) (ag:PySem.W.makesIn K U=true/\PySem.W.keepIn K (.ref U)=true)
  (ae:PySem.W.nsIn K mainGlobals "ProjectReader"=some (some (.ref O))) (af:Cls K O) (aa:PySem.W.makesIn K O=true/\PySem.W.keepIn K (.ref O)=true)
  (ak:PySem.W.nsIn K mainGlobals "BadText"=some (some (.ref Y)))
  (h1:FZm K Y "__init__" "BadText.__init__" yh f1)
  (h2:FZg K "is_text" JI f2)
  (h3:FZg K "is_tree" YW f3)
  (h4:FZg K "tree_text" YK f4)
  (h5:FZg K "read_tree" YR f5)
  (h6:FZg K "tree_at" Ji f6)
  (h7:FZg K "words_at" js f7)
  (h8:FZg K "row_at" XJ f8)
  (h9:FZg K "is_name" Jn f9)
  (aZ:FZg K "is_pair" Je ap)
  (a1:FZg K "is_source" YS aq)
  (am:FZm K U "__init__" "Project.__init__" QQ au)
  (a2:FZm K U "sources" "Project.sources" QL av)
  (a3:FZg K "read_by" Jy aw)
  (a4:FZg K "tree_in" J6 ax)
  (a5:FZg K "source_in" YE ay)
  (ao:FZm K O "__init__" "ProjectReader.__init__" Qm az)
  (a6:FZm K O "takes" "ProjectReader.takes" Qg aA)
  (a7:FZm K O "may_end" "ProjectReader.may_end" qY aB)
  (a8:FZg K "project_text" QO aC)
  (a9:FZg K "read_project" yk aD)
  (ba:FZg K "with_line_ends" QX aE)
  (bb:FZg K "source_line" yH aF)
  (bc:FZg K "_law_cell_at" yB aG)
  (bd:FZg K "_law_pot" Jh aH)
  (bf:FZg K "_law_take" jz aI)
  (bg:FZg K "_law_word" jq aJ)
  (bh:FZg K "_law_line" Yk aK)
  (bi:FZg K "_law_rule" Yq aL)
  (bj:FZg K "_law_maker" YH aM)
  (bn:FZg K "_law_leaf" Yo aN)
  (bo:FZg K "_law_source" Yg aO)
  (bp:FZg K "_law_sources" yI aP)
  (bq:FZg K "_law_signs" YN aQ)
  (br:FZg K "_law_any_text" QR aR)
  (bt:FZg K "_law_any_tree" QP aS)
  (bu:FZg K "_law_any_name" QS aT)
  (bv:FZg K "_law_written" yK aU)
  (bw:FZg K "_law_many" ju aV)
  (bx:FZg K "_law_right" YO aW)
  (bz:FZg K "_law_sixty" YM aX)
  (bA:FZg K "law" s_law aY)
  (ad:PySem.W.findIn K (.ref U) "by_name"=some none)
  (ac:PySem.W.findIn K (.ref O) "pairs"=some none)
  (al:MkX K Y f1)
  (ah:PySem.W.findIn K (.ref Y) "row"=some none)
  (g1:PySem.W.nsIn K mainGlobals "MOST_SIGNS"=some (some (.int 300 t1)))
  (g2:PySem.W.nsIn K mainGlobals "MOST_PARTS"=some (some (.int 40 t2)))
  (g3:PySem.W.nsIn K mainGlobals "MOST_SIZE"=some (some (.int 600 t3)))
  (g4:PySem.W.nsIn K mainGlobals "MOST_DEPTH"=some (some (.int 12 t4)))
  (g5:PySem.W.nsIn K mainGlobals "MOST_NAME_SIGNS"=some (some (.int 24 t5)))
  (g6:PySem.W.nsIn K mainGlobals "LETTERS"=some (some (.str "abcdefghijklmnopqrstuvwxyz" t6)))
  (g7:PySem.W.nsIn K mainGlobals "NAME_SIGNS"=some (some (.str "abcdefghijklmnopqrstuvwxyz0123456789./" t7)))
  (g8:PySem.W.nsIn K mainGlobals "PERCENT"=some (some (.int 37 t8)))
  (g9:PySem.W.nsIn K mainGlobals "MOST_NAMES"=some (some (.int 60 t9)))
  (zz:∀x∈(["ord","len","isinstance","str","tuple","all","dict","sorted","enumerate","range","abs","min","sum","int","list"]:List Str),PySem.W.nsIn K mainGlobals x=some none):∃a,Tx K mg a:=by
 obtain⟨d1,F1⟩:=fm_of h1 ["self","row"] (by trivial)
 obtain⟨d2,F2⟩:=Qf X G h2 ["value"] (by trivial)
 obtain⟨d3,F3⟩:=Qf X G h3 ["value"] (by trivial)
 obtain⟨d4,F4⟩:=Qf X G h4 ["tree"] (by trivial)
 obtain⟨d5,F5⟩:=Qf X G h5 ["text"] (by trivial)
 obtain⟨d6,F6⟩:=Qf X G h6 ["text","place","depth"] (by trivial)
 obtain⟨d7,F7⟩:=Qf X G h7 ["text","place"] (by trivial)
 obtain⟨d8,F8⟩:=Qf X G h8 ["text","place","depth"] (by trivial)
 obtain⟨d9,F9⟩:=Qf X G h9 ["value"] (by trivial)
 obtain⟨bB,bC⟩:=Qf X G aZ ["value"] (by trivial)
 obtain⟨bD,bE⟩:=Qf X G a1 ["value"] (by trivial)
 obtain⟨bF,bG⟩:=fm_of am ["self","sources"] (by trivial)
 obtain⟨bH,bI⟩:=fm_of a2 ["self"] (by trivial)
 obtain⟨bJ,bK⟩:=Qf X G a3 ["reader","text"] (by trivial)
 obtain⟨bL,bM⟩:=Qf X G a4 ["text"] (by trivial)
 obtain⟨bN,bO⟩:=Qf X G a5 ["line"] (by trivial)
 obtain⟨bP,bQ⟩:=fm_of ao ["self"] (by trivial)
 obtain⟨bR,bS⟩:=fm_of a6 ["self","line"] (by trivial)
 obtain⟨bT,bU⟩:=fm_of a7 ["self"] (by trivial)
 obtain⟨bV,bW⟩:=Qf X G a8 ["project"] (by trivial)
 obtain⟨bX,bY⟩:=Qf X G a9 ["text"] (by trivial)
 obtain⟨bZ,b0⟩:=Qf X G ba ["lines"] (by trivial)
 obtain⟨b1,b2⟩:=Qf X G bb ["name","source"] (by trivial)
 obtain⟨b3,b4⟩:=Qf X G bc ["script","k"] (by trivial)
 obtain⟨b5,b6⟩:=Qf X G bd ["cell","salt"] (by trivial)
 obtain⟨b7,b8⟩:=Qf X G bf ["pot","many"] (by trivial)
 obtain⟨b9,ca⟩:=Qf X G bg ["pot","names"] (by trivial)
 obtain⟨cb,cc⟩:=Qf X G bh ["pot","names","many","k"] (by trivial)
 obtain⟨cd,ce⟩:=Qf X G bi ["pot","names"] (by trivial)
 obtain⟨cf,cg⟩:=Qf X G bj ["pot","names"] (by trivial)
 obtain⟨ch,ci⟩:=Qf X G bn ["pot","names"] (by trivial)
 obtain⟨cj,ck⟩:=Qf X G bo ["pot","names"] (by trivial)
 obtain⟨cm,cn⟩:=Qf X G bp ["script"] (by trivial)
 obtain⟨cp,cq⟩:=Qf X G bq [] (by trivial)
 obtain⟨cr,cs⟩:=Qf X G br ["pot","most"] (by trivial)
 obtain⟨cu,cv⟩:=Qf X G bt ["pot","deep"] (by trivial)
 obtain⟨cw,cx⟩:=Qf X G bu ["pot"] (by trivial)
 obtain⟨cy,cz⟩:=Qf X G bv ["tree"] (by trivial)
 obtain⟨cA,cB⟩:=Qf X G bw ["script"] (by trivial)
 obtain⟨cC,cD⟩:=Qf X G bx ["pairs"] (by trivial)
 obtain⟨cE,cF⟩:=Qf X G bz ["cell"] (by trivial)
 obtain⟨cG,cH⟩:=Qf X G bA ["script"] (by trivial)
 have z:∀x∈(["ord","len","isinstance","str","tuple","all","dict","sorted","enumerate","range","abs","min","sum","int","list"]:List Str),mg x=none:=fun x hx=>PySem.W.mg_none_of X G (zz x hx);simp only [vb,vD,Ul,forall_eq_or_imp,forall_eq] at z;obtain⟨z1,z2,z3,z4,z5,z6,z7,z8,z9,cI,cJ,cK,cL,cM,cN⟩:=z;exact⟨⟨f1,d1,f2,d2,f3,d3,f4,d4,f5,d5,f6,d6,f7,d7,f8,d8,f9,d9,ap,bB,aq,bD,au,bF,av,bH,aw,bJ,ax,bL,ay,bN,az,bP,aA,bR,aB,bT,aC,bV,aD,bX,aE,bZ,aF,b1,aG,b3,aH,b5,aI,b7,aJ,b9,aK,cb,aL,cd,aM,cf,aN,ch,aO,cj,aP,cm,aQ,cp,aR,cr,aS,cu,aT,cw,aU,cy,aV,cA,aW,cC,aX,cE,aY,cG,U,O,Y⟩,⟨F1,F2,F3,F4,F5,F6,F7,F8,F9,bC,bE,bG,bI,bK,bM,bO,bQ,bS,bU,bW,bY,b0,b2,b4,b6,b8,ca,cc,ce,cg,ci,ck,cn,cq,cs,cv,cx,cz,cB,cD,cF,cH,aj,⟨ag.1,am.1,am.2.1,ag.2⟩,uR X G ai,ad,af,⟨aa.1,ao.1,ao.2.1,aa.2⟩,uR X G ae,ac,al,uR X G ak,ah,⟨_,uR X G g1⟩,⟨_,uR X G g2⟩,⟨_,uR X G g3⟩,⟨_,uR X G g4⟩,⟨_,uR X G g5⟩,⟨_,uR X G g6⟩,⟨_,uR X G g7⟩,⟨_,uR X G g8⟩,⟨_,uR X G g9⟩,z1,z2,z3,z4,z5,z6,z7,z8,z9,cI,cJ,cK,cL,cM,cN⟩⟩
theorem fx_mk {K:PySem.W.Frag}{h:Heap}{mg:Str->Option Value}{a:Ad}(T:Tx K mg a)(X:K.In h)(G:h.Ns mainGlobals mg){U Y O:Addr}
  (gT:PySem.W.nsIn K mainGlobals "BadTree"=some (some (.ref U))) (bT:PySem.W.excIn K U VE "ValueError.__new__"=true)
  (gB:PySem.W.nsIn K mainGlobals "BadText"=some (some (.ref Y))) (eB:PySem.W.exmOne K (.ref Y) (.ref Y)=some true)
  (gP:PySem.W.nsIn K mainGlobals "Project"=some (some (.ref O))) (kP:PySem.W.kitOne K (.ref O) (.ref O)=some true)
  (pa:PySem.W.findIn K (.ref O) "__class__"=some (some (.builtin "object.__class__")))
  (pn:PySem.W.specialIn K (.builtin "object.__class__") "__get__"=some (some (.builtin "getset_descriptor.__get__")))
  (pt:PySem.W.takesIn K (.builtin "object.__class__")=some true) (pm:PySem.W.mroIn K O (.type "object")=some true):∃g,Fx K mg g a:=by
 have e1:=(uR X G gB).symm.trans T.YV;have e2:=(uR X G gP).symm.trans T.yU;cases e1;cases e2;exact⟨⟨U⟩,⟨uR X G gT,bT,eB,kP,pa,pn,pt,pm⟩⟩
end K72
open PySem PySem.W PyProof.Rows L2
set_option maxRecDepth 100000 in
set_option maxHeartbeats 0 in
theorem PySem.Challenge.cw_askwright_k72_projects_written_holds : PySem.Challenge.rw_askwright_k72_projects_written.Holds := by
 w_on;o_law;k_head;(case hw=>w_witness2)
 k_fill
 refine L2.walk_ofK (l:=PySem.Challenge.rw_askwright_k72_projects_written) (n:=63) (k:=36) (x:="script") (CX:=L2.CX0) (sp:=K72.sp_law) rfl (by decide) rfl ⟨rfl,by decide,by decide⟩ (fun w h Y=>PySem.W.kIn_of Y) ?F ?S ?C
 case F=>
  intro w mg fa h KX G hmg
  have T:∃a,K72.Tx (L2.KOf KX) mg a:=by
   dsimp only [L2.KOf]
   refine' K72.tx_mk KX G ..
   all_goals first|exact⟨by k_is,_,_,_,_,_,_,_,_,_,by k_is,by k_is,by k_is⟩|exact⟨by k_is,by k_is,_,_,_,_,_,_,_,_,_,by k_is,by k_is,by k_is⟩|(show _=_;k_is)|exact⟨by k_is,by k_is,by k_is,by k_is⟩|exact⟨by k_is,by k_is⟩|(intro x hx;simp only [vb,vD,Ul] at hx;rcases hx with rfl|rfl|rfl|rfl|rfl|rfl|rfl|rfl|rfl|rfl|rfl|rfl|rfl|rfl|rfl<;>k_is)|skip
   exact⟨⟨by k_is,by kernel_rfl,by k_is,by k_is,by k_is⟩,by kernel_rfl,by k_is,by k_is⟩
  obtain⟨a,T⟩:=T
  have C:∃g,K72.Fx (L2.KOf KX) mg g a:=by
   dsimp only [L2.KOf] at T⊢
   refine' K72.fx_mk T KX G (bT:= ?bT) (eB:= ?eB) (kP:= ?kP) (pa:= ?pa) (pn:= ?pn) (pt:= ?pt) (pm:= ?pm) ..
   all_goals try (show _=some (some (Value.ref _));k_is)
   (case bT=>k_exc);(case eB=>kts_exm);(case kP=>kit_is);(case pa=>k_is);(case pn=>k_is);(case pt=>k_is);(case pm=>k_is)
  obtain⟨g,C⟩:=C
  have e0:=hmg.symm.trans T.g_law.m
  cases e0
  exact⟨_,T.g_law.law (fun _ _ _ _ _ _ _=>rfl),(by obtain⟨_,_,_,_,_,_,_,_,_,e,_⟩:=T.g_law.F.ex;rw [e];rfl),fun base kb nb=>K72.ok_law T C⟩
 case S=>exact fun w H a ns hl hO hS=>⟨a,ns,rfl,hS,hl,fun _=>rfl⟩
 case C=>exact fun _ _ _ _ z=>z
