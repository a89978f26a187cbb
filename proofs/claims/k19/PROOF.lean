import PyProof.Rows.All
import Wide.All
import OpenK.AllK
import Wide.FinOn
import Lean
import PyProof.EqAt
import PyProof.EqKinds
import PyProof.TupleCall
import PySem.Str
import PyProof.ZipIter
import PyProof.Draws
import PyProof.StrLawsChain
import PyProof.StrLawsTight
import KE.KIntText
import OpenK.KTop
import PyProof.StationsW
import PyProof.ExcClass2
import PyProof.ExcBaseAll.ValueError
import PyProof.Rows.Catch
import OpenK.KOwn
import KE.KTryMore
import KE.FramesApart
import PyProof.RulesAs
import PyProof.NsDelKeeps
import PyProof.ExcArgs
import PyProof.Rows.SortStr
import KE.KDictSum
import PyProof.DictWalks
import PyProof.IsiH_list
import KE.KDictOf
import PyProof.NeKinds
import PyProof.StrCalls6
import PyProof.FString
import KE.KUnpack
import KE.KItemsList
import KE.KRevIter
import KE.IntBitsLaws
import PyProof.FString5
import PyProof.TupleKey
import Wide.Seal
import PyProof.Rows.SortShellK
import PyProof.DictRoadsH
import PyProof.Rows.SortRev
import PyProof.Rows.SetFrom
import PyProof.FactsAll.set_2
import PyProof.FactsAll.set_1
import PyProof.Rows.SortShell
import PyProof.Tail
import KE.KMinKey
import PyProof.ExcArgsOwn
import PyProof.ExcAttrAll.ValueError
import KE.KRevSl
import PySem.Challenge.RW_askwright_k19_whole_likeness_and_differe
namespace PySem.W.Fast
def tw17808927629379390187:=0
def tw5136851331041565470:=0
def tw3881323175976793190:=0
def tw8898940756136404855:=0
def tw7380084729661810530:=0
def tw18124866327287948756:=0
def tw14652955708492938425:=0
def tw9089524186126344626:=0
def tw18369760341647858190:=0
def tw6026460586527259085:=0
def tw14967500595954988112:=0
def tw18376471925558798454:=0
def tw17225767678236773537:=0
def tw11862362752792820042:=0
def tw15899342741302847081:=0
def tw9479333253363626581:=0
def tw12806350925553031463:=0
def tw6087173944577401449:=0
def tw1982902562779538614:=0
def tw16346002878455738606:=0
def tw3467902902734124360:=0
def tw9125840944786313389:=0
def tw9080596760731726127:=0
def tw10304161452212187238:=0
def tw6510481760067843075:=0
def tw12870763562885823584:=0
def tw1673688807270067020:=0
def tw163022425587478574:=0
def tw15502071515459983101:=0
def tw18019058436876554916:=0
def tw17203938151358764501:=0
def tw1177597839216140886:=0
def tw13451725590667592296:=0
def tw5772406697540213928:=0
def tw2679902635730676320:=0
def tw617455129594632012:=0
def tw2097962600210974558:=0
def tw14032158670134869087:=0
def tw4981947575940934024:=0
def tw11311034139634779804:=0
def tw12009161997520205253:=0
def tw8462656439750562259:=0
def tw14732470674995441120:=0
def tw14695064266039050500:=0
def tw2913372447426371443:=0
def tw2039057883988381993:=0
def tw2646318498534030715:=0
def tw2828697414333136880:=0
def tw4909698140310079224:=0
def tw11455515717675333432:=0
def tw10165978523028347086:=0
def tw3281486709120249133:=0
def tw15074689200875206295:=0
def tw178119506334021797:=0
def tw12518679973556123856:=0
def tw15249603506944030658:=0
def tw16980856232147436508:=0
def tw14454704321598724054:=0
def tw2112577099925530440:=0
def tw9603850788055100107:=0
def tw17917619087763072311:=0
def tw9357789997922751289:=0
def tw7230039226191642824:=0
def tw14395515486849019757:=0
def tw13528312667798407472:=0
def tw7852461144169761429:=0
def tw16223927454675193543:=0
def tw4574329750811457759:=0
def tw309844111347537743:=0
def tw3182982925077736220:=0
def tw12125674798796321358:=0
def tw17237678163117191725:=0
def tw3028308500957027924:=0
def tw9926169493059710793:=0
def tw8831727912225604654:=0
def tw8308817010948927117:=0
def tw8499962537374076963:=0
def tw16545586373163028993:=0
def tw898327524326629616:=0
def tw1602942509170471788:=0
def tw6027224056219440283:=0
def tw15153123921007316433:=0
def tw6792207553286909341:=0
def tw7093643912639151707:=0
def tw18167896286531487255:=0
def tw2417681504545571054:=0
def tw6083390431006570171:=0
def tw17934064913318510723:=0
def tw6233331768940977973:=0
def tw15004205531811678359:=0
def tw8720506941722136584:=0
def tw13635465030320464456:=0
def tw12998455589718518895:=0
def tw2591112878122452396:=0
def tw14261454085475426390:=0
def tw17804779469607834842:=0
def tw17701733603755956938:=0
def tw15377930414341920774:=0
def tw15543915231292458267:=0
def tw5333432954881753496:=0
def tw14886381546575936303:=0
def tw5341503945972011186:=0
def tw15460631753060796677:=0
end PySem.W.Fast
local macro_rules | `(tactic| trivial) => `(tactic| first | rfl | exact .inl rfl | exact .inr rfl | exact .inr (.inl rfl) | decide +kernel | (intro _; rfl) | omega | exact ⟨rfl,rfl,rfl,by decide +kernel,rfl,by decide +kernel,by decide +kernel⟩ | (intro _ _ _ _ _ _ us hl; rcases us with _|⟨_,_|⟨_,_|⟨_,_|⟨_,_|⟨_,_|⟨_,_⟩⟩⟩⟩⟩⟩ <;> first | rfl | cases hl) | (intro _ _ _ _ h; repeat' first | (obtain ⟨e,_⟩ := h; subst e; rfl) | (obtain ⟨_,h⟩ := h)))
set_option Elab.async false
set_option linter.all false
set_option maxRecDepth 100000
set_option maxHeartbeats 4000000
def u1:=@List.length_map
def u4:=@List.getElem?_eq_getElem
def u5:=@PySem.Heap.get?_push_of_some
def u7:=@List.length_append
def u8:=@Nat.le_refl
def u9:=@decide_eq_true
def ua:=@decide_eq_false
def ub:=@List.size_toArray
def uc:=@PySem.Heap.get?_push_size
def ud:=@List.map_append
def ue:=@List.mem_cons_of_mem
def uf:=@Bool.false_ne_true
def ug:=@Bool.false_eq_true
def uh:=@PySem.Heap.lt_size
def ui:=@List.map_cons
def uj:=@List.getElem_mem
def uk:=@List.getElem?_map
def ul:=@PyProof.Rows.wpS_pure
def um:=@List.append_assoc
def uo:=@List.mem_cons_self
def uq:=@Nat.ne_of_lt
def ur:=@of_decide_eq_true
def ut:=@List.take_add_one
def uu:=@List.take_append_drop
def uv:=@PySem.sizeLine_eq
def uw:=@Array.toList_append
def ux:=@PySem.wpAny_with_toks
def uy:=@PySem.boot_len
def uz:=@List.length_cons
def uA:=@List.length_take
def uB:=@PySem.Heap.get?_update_other
def uC:=@List.map_map
def uD:=@List.drop_eq_getElem_cons
def uE:=@decide_eq_false_iff_not
def uF:=@PySem.PassesOwn.never
def uG:=@Nat.le_trans
def uH:=@List.mem_append_right
def uI:=@PySem.Around.in1_units
def uJ:=@List.getElem?_append_right
def uK:=@List.mem_of_getElem?
def uL:=@List.pairwise_append
def uM:=@List.Pairwise.sublist
def uN:=@PySem.Around.under_plainId
def uO:=@Bool.and_eq_true
def uP:=@List.take_length
def uQ:=@Option.some.inj
def uR:=@List.getElem?_append_left
def uS:=@Array.getElem?_eq_getElem
def uT:=@List.take_of_length_le
def uU:=@if_false
def uV:=@List.find?_cons
def uW:=@PySem.wpAny_newObj_type
def uX:=@Array.toList_push
def uY:=@PySem.Heap.size_push
def uZ:=@decide_eq_true_eq
def vc:=@Nat.lt_or_ge
def vd:=@PySem.codeAny_builtin
def ve:=@List.length_drop
def vf:=@List.lookup_cons
def vg:=@if_true
def vh:=@Nat.zero_le
def vi:=@PySem.wpAny_mono
def vj:=@PySem.W.kia_one
def vk:=@PySem.Heap.SameBut.update
def vm:=@Nat.le_of_lt
def vn:=@PySem.wpAny_truthy_bool
def vo:=@Array.getElem?_toList
def vp:=@Nat.lt_irrefl
def vq:=@Bool.eq_iff_iff
def vt:=@PySem.wpAny_Call_Name_kw
def vv:=@List.all_cons
def vw:=@List.all_append
def vx:=@List.getElem?_drop
def vy:=@PySem.plainId_quiet
def vz:=@List.cons.injEq
def vA:=@List.filter_append
def vB:=@PySem.Obj.data_mapFields
def vC:=@PySem.Calls.callWith_builtin
def vD:=@PySem.mem_of_lookup
def vE:=@Bool.not_eq_true'
def vF:=@List.map_congr_left
def vG:=@PySem.W.mg_of
def vH:=@List.extract_eq_take_drop
def vI:=@List.length_singleton
def vJ:=@PySem.F.slot_dict_get
def vK:=@PySem.Calls.spliced_cons
def vL:=@Nat.lt_of_le_of_lt
def vM:=@List.getElem?_take
def vN:=@beq_self_eq_true
def vO:=@PySem.wpAny_call_entry
def vP:=@List.mem_of_mem_take
def vQ:=@PySem.F.plainAttrs_list
def vR:=@Nat.ne_of_gt
def vS:=@PySem.wpAny_setState_of
def vT:=@PyProof.Rows.callWith_type1
def vU:=@List.append_nil
def vV:=@beq_eq_false_iff_ne
def vW:=@List.flatten_append
def vX:=@List.drop_eq_nil_of_le
def vY:=@List.cons_append
def vZ:=@decide_eq_decide
def U0:=@PySem.F.plain_max_loop
def U1:=@PyProof.Rows.boot_tuple
def U2:=@List.length_filter_le
def U3:=@PySem.tupleKind_room_in1
def U4:=@List.perm_append_comm
def U5:=@List.mem_singleton
def U6:=@Int.emod_lt_of_pos
def U7:=@Array.toList_extract
def U8:=@PySem.wpAny_passesOwn
def U9:=@PySem.Calls.spliced_nil
def Ua:=@List.take_sublist
def Ub:=@Nat.lt_succ_of_lt
def Uc:=@List.drop_sublist
def Ud:=@List.mem_append
def Ue:=@Int.emod_nonneg
def Uf:=@PyProof.Rows.boot_isinstance
def Ug:=@Nat.zero_add
def Uh:=@List.filterMap_cons
def Ui:=@PySem.F.plainAttrs_dict
def Uj:=@Nat.add_sub_cancel_left
def Uk:=@List.mem_cons
def Ul:=@List.filter_cons
def Um:=@PySem.wpAny_isInstance
def Uo:=@PySem.wpAny_askSetting
def Up:=@PySem.F.entry_dict_get
def Uq:=@PySem.builtinLookup_eq_fast
def Ur:=@PySem.Obj.isFreed_of_fields
def Us:=@PySem.wpAny_pyIter_list
def Ut:=@List.all_eq_false
def Uu:=@Ne.symm
def Uv:=@List.mem_append_left
def Uw:=@PySem.Calls.evalArgs_plain
def Ux:=@List.mem_of_mem_drop
def Uy:=@Array.toList_reverse
def Uz:=@Bool.and_false
def UA:=@Classical.byContradiction
def UB:=@PySem.wpAny_setField
def UC:=@List.all_eq_true
def UD:=@List.not_mem_nil
def UE:=@List.replicate_succ
def UF:=@List.filter_sublist
def UG:=@PySem.codeAny_mono
def UH:=@PySem.F.args_tuple_add_2
def UI:=@List.all_map
def UJ:=@PyProof.Rows.wpS_modify
def UK:=@PySem.F.slot_list_append
def UL:=@PySem.F.type_list_append
def UM:=@Int.zero_add
def UN:=@PySem.SeqAt.EqAt.int_str
def UO:=@PySem.SeqAt.EqAt.str_int
def UP:=@PySem.F.entry_tuple_add
def UQ:=@Bool.true_and
def UR:=@PySem.wpAny_updateSeq
def US:=@Bool.not_true
def UT:=@List.pairwise_singleton
def UU:=@Bool.not_eq_false'
def UV:=@Nat.add_sub_cancel
def UW:=@PyProof.Rows.F.plain_set_update_loop
def UX:=@beq_iff_eq
def UY:=@PySem.SeqAt.RcAt.tuples
def UZ:=@PySem.wpAny_pyIter_slot
def V0:=@List.nodup_append
def V1:=@Nat.le_of_eq
def V2:=@List.map_nil
def V3:=@PySem.call_meetsIn
def V4:=@Nat.lt_succ_self
def V5:=@PySem.Paired.length
def V6:=@List.any_cons
def V7:=@PySem.wpAny_attempt
def V8:=@PySem.wpAny_of_eq
def V9:=@PyProof.Rows.wpS_get
namespace L2
open PySem PySem.Spec PyProof.Rows
abbrev Key:=Sum Int Str
def keyIs:Key->Value->Bool
 | .inl k,v=>Value.isInt k v
 | .inr x,v=>Value.isStrOf x v
def keyH (w:World):Key->Int
 | .inl k=>hashInt k
 | .inr x=>hashStr w x
theorem qK:∀{k:Key}{v:Value},keyIs k v=true->(∃i t,k=Sum.inl i/\v=Value.int i t)∨(∃x t,k=Sum.inr x/\v=Value.str x t)
 | .inl i,v,h=>by
  obtain⟨t,e⟩:=Value.isInt_shape (k:=i) (v:=v) h;exact .inl ⟨i,t,rfl,e⟩
 | .inr x,v,h=>by
  obtain⟨t,e⟩:=Value.isStrOf_shape (x:=x) (v:=v) h;exact .inr ⟨x,t,rfl,e⟩
theorem keyIs_int (i:Int)(t:Tok):keyIs (.inl i) (.int i t)=true:=by simp [keyIs,Value.isInt]
theorem keyIs_str (x:Str)(t:Tok):keyIs (.inr x) (.str x t)=true:=by simp [keyIs,Value.isStrOf]
theorem key_ll (a b:Int):decide ((Sum.inl a:Key)=Sum.inl b)=(a==b):=by
 by_cases e:a=b
 ·subst e;simp
 ·have h:¬(Sum.inl a:Key)=Sum.inl b:=fun q=>e (Sum.inl.inj q);rw [ua h];exact(beq_eq_false_iff_ne.mpr e).symm
theorem key_rr (a b:Str):decide ((Sum.inr a:Key)=Sum.inr b)=decide (a=b):=by
 by_cases e:a=b
 ·subst e;simp
 ·have h:¬(Sum.inr a:Key)=Sum.inr b:=fun q=>e (Sum.inr.inj q);rw [ua h,ua e]
theorem key_lr (a:Int)(b:Str):decide ((Sum.inl a:Key)=Sum.inr b)=false:=ua (fun q=>nomatch q)
theorem key_rl (a:Str)(b:Int):decide ((Sum.inr a:Key)=Sum.inl b)=false:=ua (fun q=>nomatch q)
def qz (prog:Program)(w:World):PySem.KeyKind prog w Key where
 is:=keyIs
 hash:=keyH w
 inj:=fun v a b ha hb=>by
  rcases qK ha with⟨i,t,rfl,rfl⟩|⟨x,t,rfl,rfl⟩
  ·rcases qK hb with⟨j,u,rfl,e⟩|⟨y,u,rfl,e⟩
   ·injection e with e1 _;rw [e1]
   ·exact nomatch e
  ·rcases qK hb with⟨j,u,rfl,e⟩|⟨y,u,rfl,e⟩
   ·exact nomatch e
   ·injection e with e1 _;rw [e1]
 byValue:=fun k v h=>by
  rcases qK h with⟨i,t,rfl,rfl⟩|⟨x,t,rfl,rfl⟩<;>rfl
 pyHash:=fun hv h=>by
  rcases qK hv with⟨i,t,rfl,rfl⟩|⟨x,t,rfl,rfl⟩
  ·exact wpAny_pyHash_int h
  ·exact wpAny_pyHash_str h
 eqBool:=fun hu hv h=>by
  rcases qK hu with⟨i,t,rfl,rfl⟩|⟨x,t,rfl,rfl⟩
  ·rcases qK hv with⟨j,u,rfl,rfl⟩|⟨y,u,rfl,rfl⟩
   ·rw [key_ll] at h;exact wpAny_eqBool_int h
   ·rw [key_lr] at h;exact UN i t y u _ _ _ _ h
  ·rcases qK hv with⟨j,u,rfl,rfl⟩|⟨y,u,rfl,rfl⟩
   ·rw [key_rl] at h;exact UO x t j u _ _ _ _ h
   ·rw [key_rr] at h;exact wpAny_eqBool_str h
 «strs»:=fun k x t v h=>by
  rcases qK h with⟨i,u,rfl,e⟩|⟨y,u,rfl,e⟩
  ·exact nomatch e
  ·injection e with e1 _
   subst e1
   cases v<;>rfl
theorem mixKind_int (prog:Program)(w:World)(i:Int)(t:Tok):(qz prog w).is (.inl i) (.int i t)=true:=keyIs_int i t
theorem jO (prog:Program)(w:World)(x:Str)(t:Tok):(qz prog w).is (.inr x) (.str x t)=true:=keyIs_str x t
inductive V where
 |non|bl (b:Bool)|int (i:Int)|str (x:Str)|byt (b:Array UInt8)|flt (b:UInt64)|ref (a:Addr)|ty (n:String)
 deriving DecidableEq
def RelV:V->Value->Prop
 | .non,u=>u=Value.none
 | .bl b,u=>u=Value.bool b
 | .int i,u=>∃t,u=Value.int i t
 | .str x,u=>∃t,u=Value.str x t
 | .byt b,u=>∃t,u=Value.bytes b t
 | .flt b,u=>∃t,u=Value.float b t
 | .ref a,u=>u=Value.ref a
 | .ty n,u=>u=Value.type n
abbrev Vals:List V->List Value->Prop:=Paired RelV
theorem Vals.length {xs:List V}{us:List Value}(r:Vals xs us):xs.length=us.length:=V5 r
theorem Vals.get:∀{xs:List V}{us:List Value}{i:Nat}{x:V},Vals xs us->xs[i]? =some x->∃u,us[i]? =some u/\RelV x u
 |_,_,_,_,.nil,e=>by simp at e
 |_,_,0,_,.cons r _,e=>by simp at e;subst e;exact⟨_,rfl,r⟩
 |_,_,i+1,x,.cons _ t,e=>by
  obtain⟨u,h1,h2⟩:=Vals.get (i:=i) (x:=x) t (by simpa using e)
  exact⟨u,by simpa using h1,h2⟩
theorem Vals.set {x:V}{u:Value}(r:RelV x u):∀{xs:List V}{us:List Value} (i:Nat),Vals xs us->Vals (xs.set i x) (us.set i u)
 |_,_,_,.nil=> .nil
 |_,_,0,.cons _ t=> .cons r t
 |_,_,i+1,.cons q t=> .cons q (Vals.set r i t)
theorem Vals.append:∀{xs ys:List V}{us ws:List Value},Vals xs us->Vals ys ws->Vals (xs++ys) (us++ws)
 |_,_,_,_,.nil,s=>s
 |_,_,_,_,.cons r t,s=> .cons r (Vals.append t s)
theorem Vals.take:∀{xs:List V}{us:List Value} (n:Nat),Vals xs us->Vals (xs.take n) (us.take n)
 |_,_,0,_=> .nil
 |_,_,_+1,.nil=> .nil
 |_,_,n+1,.cons r t=> .cons r (Vals.take n t)
theorem Vals.drop:∀{xs:List V}{us:List Value} (n:Nat),Vals xs us->Vals (xs.drop n) (us.drop n)
 |_,_,0,r=>r
 |_,_,_+1,.nil=> .nil
 |_,_,n+1,.cons _ t=>Vals.drop n t
def RelO:Option V->Option Value->Prop
 |some v,some u=>RelV v u
 |none,none=>True
 |_,_=>False
def KV {κ:Type}:List (κ×V)->List (κ×Value)->Prop:=Paired fun(p:κ×V) (q:κ×Value)=>p.1=q.1/\RelV p.2 q.2
def kV:Key->V
 | .inl i=> .int i
 | .inr x=> .str x
inductive HO where
 |lst (xs:List V)
 |tup (xs:List V)
 |dK (kvs:List (Key×V))|dT (kvs:List (List Key×V))
 |set (S:Int->Bool) (n:Nat)
 |ins (C dx:Addr) (fs:List (Str×V))
 |own (x:Addr)
 |xd (fs:List (Str×V))
 |met (f x:Addr)
 |rng (lo hi:Int)
 |frz (o:Obj) (u:HO)
 |tbl (ps:Array Value)
 |ext (φ:Heap->Prop)
abbrev Hp:=Addr->Option HO
def upd (H:Hp)(a:Addr)(o:HO):Hp:=fun b=>if b=a then some o else H b
theorem qd {H:Hp}{a:Addr}{o:HO}:upd H a o a=some o:=by unfold upd;rw [if_pos rfl]
theorem ql {H:Hp}{a b:Addr}{o:HO}(h:b≠a):upd H a o b=H b:=by unfold upd;rw [if_neg h]
theorem ne_of {H:Hp}{a b:Addr}{o u:HO}(h:H a=some o)(h':H b=some u)(d:o≠u):a≠b:=by
 intro e;subst e;rw [h] at h';exact d (uQ h')
theorem qh {H:Hp}{a b:Addr}{o:HO}(h:H a=some o)(h':H b=none):a≠b:=by
 intro e;subst e;rw [h] at h';cases h'
section
variable (P:Program)(w:World)
def qY (H:Hp)(h:Heap)(a:Addr):HO->Prop
 | .lst xs=>xs.length<=sizeLine/\∃(its:List Value) (n:Nat),Vals xs its/\h.get? a=some {cls:= .type "list",data:= .seq its.toArray n}
 | .tup xs=>xs.length<=sizeLine/\∃its:List Value,Vals xs its/\IsTup h a its.toArray
 | .dK kvs=>kvs.length<=sizeLine/\(a==sysModules)=false/\∃vs,KV kvs vs/\h.DictOf (qz P w) a vs
 | .dT kvs=>kvs.length<=sizeLine/\(a==sysModules)=false/\∃xs:List (List Key×Addr×Value),
   Paired (fun(p:List Key×V) (q:List Key×Addr×Value)=>p.1=q.1/\H q.2.1=some (.tup (p.1.map kV))/\RelV p.2 q.2.2) kvs xs/\
   ∃o es ep,h.get? a=some o/\o.ExactDict/\o.data= .dict es ep/\es.toList=xs.map (entryOfKey (tupleKind (qz P w)))/\(xs.map (·.1)).Nodup
 | .set S n=>h.SetOf (intKind P w) a S n
 | .ins C dx fs=>H dx=some (.own a)/\fs.length<=1000/\dx≠a/\h.get? a=some (PySem.W.instObj C dx)/\
   ∃mA,h.Ns1 dx mA/\(∀f,RelO (fs.lookup f) (mA f))/\PySem.Within mA (fs.map (·.1))
 | .own _=>∃o,h.get? a=some o
 | .xd fs=>∃mA,h.Ns1 a mA/\∀f,RelO (fs.lookup f) (mA f)
 | .rng lo hi=>∃t u v,h.get? a=some {cls:= .type "range",data:= .fields #[.int lo t,.int hi u,.int 1 v]}
 | .frz o u=>h.get? a=some o/\qY H h a u
 | .tbl ps=>h.get? a=some {cls:= .none,data:= .fields ps}
 | .met f x=>h.get? a=some (PySem.W.methodObj (.ref f) (.ref x))
 | .ext φ=>φ h/\(∃o,h.get? a=some o)/\∀h1 h2:Heap,φ h1->(∀o,h1.get? a=some o->h2.get? a=some o)->φ h2
def HOk (H:Hp)(h:Heap):Prop:=∀a o,H a=some o->qY P w H h a o
end
section
variable {P:Program}{w:World}{H H':Hp}{h h':Heap}{a:Addr}{o:HO}
theorem qY.lt (x:qY P w H h a o):a<h.objs.size:=by
 cases o with
 |lst xs=>obtain⟨_,_,_,_,e⟩:=x;exact uh e
 |tup xs=>obtain⟨_,_,_,p⟩:=x;exact p.lt
 |dK kvs=>obtain⟨_,_,_,_,o,_,_,e,_⟩:=x;exact uh e
 |dT kvs=>obtain⟨_,_,_,_,o,_,_,e,_⟩:=x;exact uh e
 |set S n=>obtain⟨o,_,_,_,e,_⟩:=x;exact uh e
 |ins C dx fs=>obtain⟨_,_,_,e,_⟩:=x;exact uh e
 |own y=>obtain⟨_,e⟩:=x;exact uh e
 |xd fs=>obtain⟨_,⟨_,_,_,e,_⟩,_⟩:=x;exact uh e
 |rng lo hi=>obtain⟨_,_,_,e⟩:=x;exact uh e
 |frz U u=>obtain⟨e,_⟩:=x;exact uh e
 |tbl ps=>exact uh (show h.get? a=some _ from x)
 |met f y=>exact uh (show h.get? a=some _ from x)
 |ext φ=>obtain⟨_,⟨_,e⟩,_⟩:=x;exact uh e
theorem Paired.mapP {α β:Type}{F G:α->β->Prop}:∀{U:List α}{Z:List β},Paired F U Z->(∀a b,F a b->G a b)->Paired G U Z
 |_,_,.nil,_=> .nil
 |_,_,.cons r t,f=> .cons (f _ _ r) (Paired.mapP t f)
theorem qY.stay (x:qY P w H h a o)(k:∀b u,(b=a∨H b=some (.own a))->h.get? b=some u->h'.get? b=some u)
  (Z:∀b,H b=some (.own a)->H' b=some (.own a)) (ht:∀b xs,H b=some (.tup xs)->H' b=some (.tup xs)):qY P w H' h' a o:=by
 induction o with
 |lst xs=>obtain⟨z,its,n,r,e⟩:=x;exact⟨z,its,n,r,k _ _ (.inl rfl) e⟩
 |tup xs=>obtain⟨z,its,r,U,e,c⟩:=x;exact⟨z,its,r,U,k _ _ (.inl rfl) e,c⟩
 |dK kvs=>obtain⟨z,y,vs,r,U,es,ep,e,c⟩:=x;exact⟨z,y,vs,r,U,es,ep,k _ _ (.inl rfl) e,c⟩
 |dT kvs=>
  obtain⟨z,y,xs,r,U,es,ep,e,c⟩:=x;exact⟨z,y,xs,Paired.mapP r fun p q z=>⟨z.1,ht _ _ z.2.1,z.2.2⟩,U,es,ep,k _ _ (.inl rfl) e,c⟩
 |set S n=>obtain⟨U,es,ep,t,e,c⟩:=x;exact⟨U,es,ep,t,k _ _ (.inl rfl) e,c⟩
 |ins C dx fs=>
  obtain⟨d,z,ne,e,mA,⟨od,es,ep,e2,c⟩,r⟩:=x;exact⟨Z _ d,z,ne,k _ _ (.inl rfl) e,mA,⟨od,es,ep,k _ _ (.inr d) e2,c⟩,r⟩
 |own y=>obtain⟨U,e⟩:=x;exact⟨U,k _ _ (.inl rfl) e⟩
 |xd fs=>obtain⟨mA,⟨od,es,ep,e,c⟩,r⟩:=x;exact⟨mA,⟨od,es,ep,k _ _ (.inl rfl) e,c⟩,r⟩
 |rng lo hi=>obtain⟨t,u,v,e⟩:=x;exact⟨t,u,v,k _ _ (.inl rfl) e⟩
 |frz U u ih=>obtain⟨e,q⟩:=x;exact⟨k _ _ (.inl rfl) e,ih q⟩
 |tbl ps=>
  have e:h.get? a=some {cls:= .none,data:= .fields ps}:=x;show h'.get? a=some {cls:= .none,data:= .fields ps};exact k a _ (.inl rfl) e
 |met f y=>
  have e:h.get? a=some (PySem.W.methodObj (.ref f) (.ref y)):=x;show h'.get? a=some (PySem.W.methodObj (.ref f) (.ref y));exact k a _ (.inl rfl) e
 |ext φ=>obtain⟨p,⟨o,e⟩,st⟩:=x;exact⟨st _ _ p fun o q=>k _ _ (.inl rfl) q,⟨o,k _ _ (.inl rfl) e⟩,st⟩
theorem HOk.lt (x:HOk P w H h)(e:H a=some o):a<h.objs.size:=(x a o e).lt
theorem HOk.fresh (x:HOk P w H h)(e:h.objs.size<=a):H a=none:=by
 cases q:H a with
 |none=>rfl
 |some u=>exact absurd (Nat.lt_of_lt_of_le (x.lt q) e) (vp _)
theorem HOk.kept (x:HOk P w H h)(k:∀b u,h.get? b=some u->h'.get? b=some u):HOk P w H h':=fun a o e=>
 (x a o e).stay (fun b u _ q=>k b u q) (fun _ q=>q) fun _ _ q=>q
theorem HOk.laid (x:HOk P w H h)(k:∀b u,h.get? b=some u->h'.get? b=some u)(Z:h.objs.size<=a)(new:qY P w (upd H a o) h' a o):HOk P w (upd H a o) h':=fun b u e=>by
 have hn:=x.fresh Z;by_cases U:b=a
 ·subst U;rw [qd] at e;cases e;exact new
 ·rw [ql U] at e;exact(x b u e).stay (fun c v _ q=>k c v q) (fun c q=>by rw [ql (qh q hn)];exact q) fun c xs q=>by rw [ql (qh q hn)];exact q
end
def Rd (H:Hp)(a:Addr)(u:HO):Prop:=H a=some u∨∃o,H a=some (.frz o u)
theorem Rd.of {H:Hp}{a:Addr}{u:HO}(h:H a=some u):Rd H a u:= .inl h
theorem Rd.ok {P:Program}{w:World}{H:Hp}{h:Heap}{a:Addr}{u:HO}(r:Rd H a u)(x:HOk P w H h):qY P w H h a u:=by
 rcases r with r|⟨o,r⟩
 ·exact x a u r
 ·obtain⟨_,q⟩:=x a _ r;exact q
def Mut:Option HO->Prop
 |some (.lst _)=>True
 |some (.dK _)=>True
 |some (.dT _)=>True
 |some (.set _ _)=>True
 |some (.ins _ _ _)=>True
 |some (.ext _)=>True
 |_=>False
section
variable {P:Program}{w:World}{H:Hp}{h h':Heap}{x e:Addr}{o':HO}
theorem HOk.write (ok:HOk P w H h)(mu:Mut (H x))(he:e=x∨H e=some (.own x))(k:∀b u,b≠e->h.get? b=some u->h'.get? b=some u)(ac:∃u,h'.get? e=some u)
  (new:qY P w (upd H x o') h' x o'):HOk P w (upd H x o') h':=fun b u q=>by
 have Z:∀c y,H c=some (.own y)->c≠x:=fun c y r z=>by subst z;rw [r] at mu;exact mu
 have aa:∀c xs,H c=some (.tup xs)->c≠x:=fun c xs r z=>by subst z;rw [r] at mu;exact mu
 by_cases hb:b=x
 ·subst hb;rw [qd] at q;cases q;exact new
 ·rw [ql hb] at q;by_cases U:b=e
  ·have q':H b=some (.own x):=by
    rcases he with z|z
    ·exact absurd (U.trans z) hb
    ·rw [U];exact z
   rw [q] at q';cases q';obtain⟨v,hv⟩:=ac;exact⟨v,by rw [U];exact hv⟩
  ·refine(ok b u q).stay (fun c v hc r=>k c v ?_ r) (fun c r=>by rw [ql (Z c b r)];exact r) fun c xs r=>by rw [ql (aa c xs r)];exact r
   rcases hc with rfl|hc
   ·exact U
   ·rintro rfl;rcases he with z|z
    ·exact Z c b hc z
    ·rw [hc] at z;cases z;exact hb rfl
end
structure Un (fs ex:List Addr)(H H':Hp)(h h':Heap):Prop where
 keep:∀b o,h.get? b=some o->H b=none->b∉fs->b∉ex->h'.get? b=some o
 slot:∀b o,h.get? b=some o->H b=none->b∈fs->b∉ex->∃sl,h'.get? b=some {o with slots:=sl}
 free:∀b o,h.get? b=some o->H b=none->b∉ex->H' b=none
 there:∀b o,h.get? b=some o->b∉ex->∃o',h'.get? b=some o'
 tups:∀b xs,H b=some (.tup xs)->H' b=some (.tup xs)
 frzs:∀b o u,H b=some (.frz o u)->H' b=some (.frz o u)
 tbls:∀b ps,H b=some (.tbl ps)->∃more,H' b=some (.tbl (ps++more))
section
variable {fs fs' ex ex':List Addr}{H H1 H2:Hp}{h h1 h2 h':Heap}{a x e:Addr}{o:HO}
theorem Un.any (u:Un fs ex H H1 h h1){b:Addr}{U:Obj}(q:h.get? b=some U)(n:H b=none)(Z:b∉ex):∃sl,h1.get? b=some {U with slots:=sl}:=by
 by_cases hb:b∈fs
 ·exact u.slot b U q n hb Z
 ·exact⟨U.slots,u.keep b U q n hb Z⟩
theorem Un.trans (a:Un fs ex H H1 h h1)(b:Un fs ex H1 H2 h1 h2):Un fs ex H H2 h h2 where
 keep:=fun c U q n hc Z=>b.keep c U (a.keep c U q n hc Z) (a.free c U q n Z) hc Z
 slot:=fun c U q n hc Z=>by
  obtain⟨sl,e1⟩:=a.slot c U q n hc Z;obtain⟨aa,e2⟩:=b.slot c _ e1 (a.free c U q n Z) hc Z;exact⟨aa,e2⟩
 free:=fun c U q n Z=>by
  obtain⟨o',e1⟩:=a.there c U q Z;exact b.free c o' e1 (a.free c U q n Z) Z
 there:=fun c U q Z=>by
  obtain⟨o',e1⟩:=a.there c U q Z;exact b.there c o' e1 Z
 tups:=fun c xs q=>b.tups c xs (a.tups c xs q)
 frzs:=fun c U xs q=>b.frzs c U xs (a.frzs c U xs q)
 tbls:=fun c ps q=>by
  obtain⟨m1,e1⟩:=a.tbls c ps q;obtain⟨m2,e2⟩:=b.tbls c _ e1;exact⟨m1++m2,by rw [e2,Array.append_assoc]⟩
theorem Un.kept (k:∀b u,h.get? b=some u->h'.get? b=some u):Un fs ex H H h h':=
 ⟨fun b U q _ _ _=>k b U q,fun b U q _ _ _=>⟨U.slots,k b U q⟩,fun _ _ _ n _=>n,fun b U q _=>⟨U,k b U q⟩,fun _ _ q=>q,fun _ _ _ q=>q,fun _ ps q=>⟨#[],by rw [q];simp⟩⟩
theorem Un.refl:Un fs ex H H h h:=Un.kept fun _ _ q=>q
theorem Un.laid (k:∀b u,h.get? b=some u->h'.get? b=some u)(U:h.objs.size<=a)(hn:H a=none):Un fs ex H (upd H a o) h h' where
 keep:=fun b u q _ _ _=>k b u q
 slot:=fun b u q _ _ _=>⟨u.slots,k b u q⟩
 free:=fun b u q n _=>by rw [ql (uq (Nat.lt_of_lt_of_le (uh q) U))];exact n
 there:=fun b u q _=>⟨u,k b u q⟩
 tups:=fun b xs q=>by rw [ql (qh q hn)];exact q
 frzs:=fun b u xs q=>by rw [ql (qh q hn)];exact q
 tbls:=fun b ps q=>⟨#[],by rw [ql (qh q hn),q];simp⟩
theorem Un.write (Z:Mut (H x))(he:e=x∨H e=some (.own x))(k:∀b u,b≠e->h.get? b=some u->h'.get? b=some u)(aa:∃u,h'.get? e=some u):Un fs ex H (upd H x o) h h':=by
 have hx:∀b,H b=none->b≠x:=fun b n z=>by subst z;rw [n] at Z;exact Z
 have hb:∀b,H b=none->b≠e:=fun b n z=>by
  subst z;rcases he with r|r
  ·exact hx b n r
  ·rw [n] at r;cases r
 have hm:∀b u,H b=some u->¬Mut (some u)->b≠x:=fun b u q nm z=>by subst z;rw [q] at Z;exact nm Z
 refine⟨fun b u q n _ _=>k b u (hb b n) q,fun b u q n _ _=>⟨u.slots,k b u (hb b n) q⟩,fun b u q n _=>by rw [ql (hx b n)];exact n,fun b u q _=> ?_,
  fun b xs q=>by rw [ql (hm b _ q fun z=>z)];exact q,fun b u xs q=>by rw [ql (hm b _ q fun z=>z)];exact q,fun b ps q=>⟨#[],by rw [ql (hm b _ q fun z=>z),q];simp⟩⟩
 by_cases U:b=e
 ·subst U;exact aa
 ·exact⟨u,k b u U q⟩
end
def trk (h:Heap)(H:Hp):List Addr:=(List.range h.objs.size).filter fun a=>(H a).isSome
def hidT (h:Heap)(H:Hp):Heap:=PySem.W.hideAll h (trk h H)
theorem hidT_size (h:Heap)(H:Hp):(hidT h H).objs.size=h.objs.size:=PySem.W.hideAll_size _ _
theorem hidT_get {h:Heap}{H:Hp}{b:Addr}{o:Obj}(e:h.get? b=some o)(n:H b=none):(hidT h H).get? b=some o:=
 PySem.W.hideAll_get _ e fun hm=>by
  have q:(H b).isSome=true:=(List.mem_filter.mp hm).2;rw [n] at q;simp at q
theorem of_hidT {h:Heap}{H:Hp}{b:Addr}{o:Obj}(e:(hidT h H).get? b=some o):h.get? b=some o/\H b=none:=by
 have U:h.get? b=some o:=PySem.W.of_hideAll (trk h H) e;refine⟨U,?_⟩;cases q:H b with
 |none=>rfl
 |some x=>
  have hm:b∈trk h H:=List.mem_filter.mpr ⟨List.mem_range.mpr (uh U),by simp [q]⟩
  have z:(hidT h H).get? b=none:=PySem.W.hideAll_none (trk h H) hm;rw [z] at e;cases e
structure Mod (K:PySem.W.Frag)(mg:Str->Option Value)(base:Heap):Prop where
 kin:K.In base
 glob:base.Ns mainGlobals mg
 blt:∃mb,base.Ns builtinsNs mb/\∀x:Str,x≠"__name__"->mb x=bootBuiltins x
 nolimit:base.NoLimit
structure Cx where
 prog:Program
 w:World
 K:PySem.W.Frag
 mg:Str->Option Value
 base:Heap
 A:Around
 N:List Str
 s₀:Shared
 H₀:Hp
 env:Env
 outer:List Env
 stack:List Env
 ex:List Addr
 fn:Str->Bool
 calm:Bool
 pn:List (Addr×Obj)
 xe:Value->Shared->Prop
def frs (l:List Env):List Addr:=l.filterMap (·.frame)
abbrev Cx.fs (X:Cx):List Addr:=frs X.outer
def Vis (sc:Scope)(x:Str):Prop:=sc.names.lookup x=some .local∨sc.names.lookup x=some .cell∨sc.names.lookup x=some .free
def Loc (sc:Scope)(x:Str):Prop:=sc.names.lookup x=some .local∨sc.names.lookup x=some .cell
def Look (env:Env)(h:Heap)(m:Str->Option Value)(x:Str)(u:Value):Prop:=
 (env.kindOf x=some .local/\m x=some u)∨((env.kindOf x=some .cell∨env.kindOf x=some .free)/\∃c,env.cells.lookup x=some c/\h.IsCell c (some u))
structure Cx.Ok (X:Cx):Prop where
 mod:Mod X.K X.mg X.base
 kind:X.env.scope.kind= .function
 glob:X.env.globals=mainGlobals
 blt:X.env.builtins=builtinsNs
 above:X.s₀.heap.objs.size<=X.env.locals
 inj:∀x y c,X.env.cells.lookup x=some c->X.env.cells.lookup y=some c->x=y
 has:∀x,(X.env.kindOf x=some .cell∨X.env.kindOf x=some .free)->∃c,X.env.cells.lookup x=some c
 cab:∀x c,X.fn x=true->X.env.cells.lookup x=some c->X.s₀.heap.objs.size<=c
 hd:X.calm=true->X.A.handled=none
 frames:X.A.frames=some X.stack
 stk:X.stack=X.outer∨(X.stack=X.env::X.outer/\X.env.frame=some X.env.locals)
 exf:∀b∈X.ex,b≠X.env.locals/\∀x c,X.env.cells.lookup x=some c->c≠b
 bs:∀b o,X.base.get? b=some o->X.s₀.heap.get? b=some o/\X.H₀ b=none
 bsz:X.base.objs.size<=X.s₀.heap.objs.size
 noex:∀b o,X.base.get? b=some o->b∉X.ex
 exfs:∀b∈X.ex,b∉X.fs
 funs:X.s₀.heap.FunFrames X.base X.outer
 frf:∀b∈X.fs,X.H₀ b=none
structure Inv (X:Cx)(pins:List (Addr×Obj))(σ:List (Option V))(H:Hp)(s:Shared):Prop where
 ok:X.Ok
 os:s.os=X.s₀.os
 bare:AllBare s.gens
 base:Un X.fs X.ex X.H₀ H X.s₀.heap s.heap
 loc:∃m,s.heap.Ns X.env.locals m/\∀(i:Nat) (x:Str) (v:V),X.N[i]? =some x->σ[i]? =some (some v)->Vis X.env.scope x->∃u,RelV v u/\Look X.env s.heap m x u
 cell:∀x c,X.env.cells.lookup x=some c->∃v,s.heap.IsCell c v
 free:H X.env.locals=none
 freeC:∀x c,X.env.cells.lookup x=some c->H c=none
 pin:∀p∈X.pn++pins,s.heap.get? p.1=some p.2/\H p.1=none/\p.1≠X.env.locals/\p.1∉X.fs/\∀v,p.2.data≠ .cell v
 hok:HOk X.prog X.w H s.heap
 len:σ.length=X.N.length
 tk:0<s.toks
section
variable {X:Cx}{pins:List (Addr×Obj)}{σ:List (Option V)}{H H':Hp}{s:Shared}{h':Heap}
theorem Cx.Ok.nofr (ok:X.Ok){b:Addr}{o:Obj}(e:X.base.get? b=some o):b∉X.fs:=fun U=>by
 have:=(ok.funs.mem U).1;rw [e] at this;cases this
theorem Inv.bs (I:Inv X pins σ H s):∀b o,X.base.get? b=some o->s.heap.get? b=some o/\H b=none:=fun b o e=>
 ⟨I.base.keep b o (I.ok.bs b o e).1 (I.ok.bs b o e).2 (I.ok.nofr e) (I.ok.noex b o e),I.base.free b o (I.ok.bs b o e).1 (I.ok.bs b o e).2 (I.ok.noex b o e)⟩
theorem Inv.bk (I:Inv X pins σ H s):∀b o,X.base.get? b=some o->s.heap.get? b=some o:=fun b o e=>(I.bs b o e).1
theorem Inv.mod (I:Inv X pins σ H s):Mod X.K X.mg X.base:=I.ok.mod
theorem Inv.kIn (I:Inv X pins σ H s):X.K.In s.heap:=I.ok.mod.kin.keeps I.bk
theorem Inv.lt (I:Inv X pins σ H s):X.env.locals<s.heap.objs.size:=let⟨_,hn,_⟩:=I.loc;hn.lt
theorem Inv.sz (I:Inv X pins σ H s):X.s₀.heap.objs.size<=s.heap.objs.size:=uG I.ok.above (vm I.lt)
theorem Inv.nofs (I:Inv X pins σ H s){a:Addr}(h:s.heap.objs.size<=a):a∉X.fs:=fun U=>by
 obtain⟨_,o,Z,_⟩:=I.ok.funs.mem U;exact absurd (Nat.lt_of_lt_of_le (uh Z) (uG I.sz h)) (vp _)
theorem Inv.cne (I:Inv X pins σ H s):∀x c,X.env.cells.lookup x=some c->c≠X.env.locals:=fun x c e z=>by
 obtain⟨v,o,ho,hd⟩:=I.cell x c e;obtain⟨m,⟨o',es,ep,U,Z,_⟩,_⟩:=I.loc;rw [z,U] at ho;cases ho;rw [Z] at hd;cases hd
theorem Inv.funs (I:Inv X pins σ H s):s.heap.FunFrames X.base X.outer:=by
 have all:∀(l:List Env),(∀b∈frs l,b∈X.fs)->X.s₀.heap.FunFrames X.base l->s.heap.FunFrames X.base l:=by
  intro l
  induction l with
  |nil=>intro _ _;trivial
  |cons env r ih=>
   intro hs hl;obtain⟨hk,⟨L,o,U,hn,ho,hd⟩,hr⟩:=hl;have Z:L∈X.fs:=hs L (by unfold frs;rw [Uh,U];exact uo)
   obtain⟨sl,e⟩:=I.base.slot L o ho (I.ok.frf L Z) Z fun z=>I.ok.exfs L z Z;exact⟨hk,⟨L,_,U,hn,e,hd⟩,ih (fun b hb=>hs b (by unfold frs;rw [Uh,U];exact ue _ hb)) hr⟩
 exact all X.outer (fun _ hb=>hb) I.ok.funs
theorem Inv.stack (I:Inv X pins σ H s):s.heap.FunFrames X.base X.stack:=by
 rcases I.ok.stk with e|⟨e,U⟩
 ·rw [e];exact I.funs
 ·rw [e];obtain⟨m,hn,_⟩:=I.loc;refine .cons (by rw [I.ok.kind];decide) U hn ?_ I.funs
  exact Heap.get?_none_of_le (uG I.ok.bsz I.ok.above)
theorem Inv.stkSub (I:Inv X pins σ H s):∀b∈frs X.stack,b∈X.env.locals::X.fs:=fun b U=>by
 rcases I.ok.stk with e|⟨e,Z⟩
 ·rw [e] at U;exact ue _ U
 ·rw [e] at U;unfold frs at U;rw [Uh,Z] at U;exact U
theorem Inv.stkFree (I:Inv X pins σ H s):∀b∈frs X.stack,H b=none:=fun b U=>by
 rcases List.mem_cons.mp (I.stkSub b U) with e|U
 ·rw [e];exact I.free
 ·obtain⟨_,o,Z,_⟩:=I.ok.funs.mem U;exact I.base.free b o Z (I.ok.frf b U) fun z=>I.ok.exfs b z U
theorem Inv.step {g':Array GenState}{t':Nat}{d':Drawn}{ch:List Addr}(I:Inv X pins σ H s)
  (Z:∀b∈ch,(b∈X.ex∨X.s₀.heap.objs.size<=b)/\b≠X.env.locals/\(∀x c,X.env.cells.lookup x=some c->c≠b)/\∀p∈X.pn++pins,p.1≠b)
  (keep:∀b o,b≠X.env.locals->b∉X.fs->b∉ch->s.heap.get? b=some o->H b=none->h'.get? b=some o)
  (slot:∀b o,b≠X.env.locals->b∈X.fs->b∉ch->s.heap.get? b=some o->H b=none->∃sl,h'.get? b=some {o with slots:=sl}) (free:∀b o,b∉ch->s.heap.get? b=some o->H b=none->H' b=none)
  (there:∀b o,b∉ch->s.heap.get? b=some o->∃o',h'.get? b=some o')
  (tups:∀b xs,H b=some (.tup xs)->H' b=some (.tup xs)) (frzs:∀b o u,H b=some (.frz o u)->H' b=some (.frz o u)) (tbls:∀b ps,H b=some (.tbl ps)->∃more,H' b=some (.tbl (ps++more)))
  (ns:∀m,s.heap.Ns X.env.locals m->h'.Ns X.env.locals m) (hok:HOk X.prog X.w H' h') (hg:AllBare g') (ht:0<t':=by((try dsimp only);first|assumption|exact Inv.tk (by assumption)|exact Nat.succ_pos _|exact Nat.lt_of_lt_of_le (Inv.tk (by assumption)) (by assumption)|exact Nat.add_pos_left (Inv.tk (by assumption)) _|omega)):
  Inv X pins σ H' {s with heap:=h',gens:=g',drawn:=d',toks:=t'}:=by
 have ae:∀b o,X.s₀.heap.get? b=some o->b≠X.env.locals:=fun b o e=>uq (Nat.lt_of_lt_of_le (uh e) I.ok.above);have ad:∀b o,X.s₀.heap.get? b=some o->b∉X.ex->b∉ch:=fun b o e U hb=>by
  rcases(Z b hb).1 with z|z
  ·exact U z
  ·exact absurd (Nat.lt_of_lt_of_le (uh e) z) (vp _)
 have aa:∀x c,X.env.cells.lookup x=some c->∀v,s.heap.IsCell c v->h'.IsCell c v:=fun x c e v ⟨o,ho,hd⟩=>by
  have ac:c∉ch:=fun z=>(Z c z).2.2.1 x c e rfl;by_cases hc:c∈X.fs
  ·obtain⟨sl,q⟩:=slot c o (I.cne x c e) hc ac ho (I.freeC x c e);exact⟨_,q,hd⟩
  ·exact⟨o,keep c o (I.cne x c e) hc ac ho (I.freeC x c e),hd⟩
 refine⟨I.ok,I.os,hg,⟨fun b o e n hb U=> ?_,fun b o e n hb U=> ?_,fun b o e n U=> ?_,fun b o e U=> ?_,fun b xs e=>tups b xs (I.base.tups b xs e),fun b o xs e=>frzs b o xs (I.base.frzs b o xs e),fun b ps e=> ?_⟩,?_,fun x c e=> ?_,?_,fun x c e=> ?_,fun p hp=> ?_,hok,I.len,ht⟩
 ·exact keep b o (ae b o e) hb (ad b o e U) (I.base.keep b o e n hb U) (I.base.free b o e n U)
 ·obtain⟨sl,e1⟩:=I.base.slot b o e n hb U;obtain⟨af,e2⟩:=slot b _ (ae b o e) hb (ad b o e U) e1 (I.base.free b o e n U);exact⟨af,e2⟩
 ·obtain⟨o',e1⟩:=I.base.there b o e U;exact free b o' (ad b o e U) e1 (I.base.free b o e n U)
 ·obtain⟨o',e1⟩:=I.base.there b o e U;exact there b o' (ad b o e U) e1
 ·obtain⟨m1,e1⟩:=I.base.tbls b ps e;obtain⟨m2,e2⟩:=tbls b _ e1;exact⟨m1++m2,by rw [e2,Array.append_assoc]⟩
 ·obtain⟨m,hn,hl⟩:=I.loc;refine⟨m,ns m hn,fun i x v e1 e2 e3=> ?_⟩;obtain⟨u,r,l⟩:=hl i x v e1 e2 e3;refine⟨u,r,?_⟩;rcases l with l|⟨k,c,e,z⟩
  ·exact .inl l
  ·exact .inr ⟨k,c,e,aa x c e _ z⟩
 ·obtain⟨v,z⟩:=I.cell x c e;exact⟨v,aa x c e v z⟩
 ·obtain⟨m,⟨o,_,_,ho,_⟩,_⟩:=I.loc;exact free _ o (fun z=>(Z _ z).2.1 rfl) ho I.free
 ·obtain⟨v,o,ho,hd⟩:=I.cell x c e;exact free c o (fun z=>(Z c z).2.2.1 x c e rfl) ho (I.freeC x c e)
 ·obtain⟨e,n,ne,nf,d⟩:=I.pin p hp;have ac:p.1∉ch:=fun z=>(Z p.1 z).2.2.2 p hp rfl;exact⟨keep p.1 p.2 ne nf ac e n,free p.1 p.2 ac e n,ne,nf,d⟩
theorem Inv.un {t':Nat}(I:Inv X pins σ H s)(u:Un X.fs [] H H' s.heap h')(hok:HOk X.prog X.w H' h')(ht:0<t':=by((try dsimp only);first|assumption|exact Inv.tk (by assumption)|exact Nat.succ_pos _|exact Nat.lt_of_lt_of_le (Inv.tk (by assumption)) (by assumption)|exact Nat.add_pos_left (Inv.tk (by assumption)) _|omega)):Inv X pins σ H' {s with heap:=h',toks:=t'}:=by
 obtain⟨m,⟨o,es,ep,ho,r⟩,_⟩:=id I.loc;obtain⟨sl,hL⟩:=u.any ho I.free (by simp)
 exact I.step (g':=s.gens) (d':=s.drawn) (ch:= []) (fun _ z=>nomatch z) (fun b o _ Z _ e n=>u.keep b o e n Z (by simp)) (fun b o _ Z _ e n=>u.slot b o e n Z (by simp)) (fun b o _ e n=>u.free b o e n (by simp)) (fun b o _ e=>u.there b o e (by simp)) u.tups u.frzs u.tbls (fun m' hm=>by
  obtain⟨o',es',aa,U,r'⟩:=hm;rw [ho] at U;cases U;exact⟨_,es',aa,hL,r'⟩) hok I.bare
theorem Inv.call {g':Array GenState}{t':Nat}{d':Drawn}{ch:List Addr}(I:Inv X pins σ H s)(u:Un (frs X.stack) ch H H' s.heap h')(hok:HOk X.prog X.w H' h')(hg:AllBare g')
  (Z:∀b∈ch,(b∈X.ex∨X.s₀.heap.objs.size<=b)/\b≠X.env.locals/\(∀x c,X.env.cells.lookup x=some c->c≠b)/\∀p∈X.pn++pins,p.1≠b) (ht:0<t':=by((try dsimp only);first|assumption|exact Inv.tk (by assumption)|exact Nat.succ_pos _|exact Nat.lt_of_lt_of_le (Inv.tk (by assumption)) (by assumption)|exact Nat.add_pos_left (Inv.tk (by assumption)) _|omega)):
  Inv X pins σ H' {s with heap:=h',gens:=g',drawn:=d',toks:=t'}:=by
 obtain⟨m,⟨o,es,ep,ho,r⟩,_⟩:=id I.loc;obtain⟨sl,hL⟩:=u.any ho I.free fun z=>(Z _ z).2.1 rfl;exact I.step (ch:=ch) Z (fun b o hL hb U e n=>u.keep b o e n (fun z=>(List.mem_cons.mp (I.stkSub b z)).elim hL hb) U) (fun b o _ _ U e n=>u.any e n U) (fun b o U e n=>u.free b o e n U) (fun b o U e=>u.there b o e U) u.tups u.frzs u.tbls (fun m' hm=>by
  obtain⟨o',es',ac,aa,r'⟩:=hm;rw [ho] at aa;cases aa;exact⟨_,es',ac,hL,r'⟩) hok hg
theorem Inv.turned {t':Nat}{it:Addr}(I:Inv X pins σ H s)(k:∀b o,b≠it->s.heap.get? b=some o->h'.get? b=some o)(hn:H it=none)(hL:it≠X.env.locals)
  (h1:it∈X.ex∨X.s₀.heap.objs.size<=it) (h2:∀x c,X.env.cells.lookup x=some c->c≠it) (h3:∀p∈X.pn++pins,p.1≠it) (ht:0<t':=by((try dsimp only);first|assumption|exact Inv.tk (by assumption)|exact Nat.succ_pos _|exact Nat.lt_of_lt_of_le (Inv.tk (by assumption)) (by assumption)|exact Nat.add_pos_left (Inv.tk (by assumption)) _|omega)):Inv X pins σ H {s with heap:=h',toks:=t'}:=by
 have Z:∀b u,H b=some u->b≠it:=fun b u e z=>by rw [z,hn] at e;cases e
 refine I.step (g':=s.gens) (d':=s.drawn) (ch:= [it]) (fun b hb=> ?_) (fun b o _ _ U e _=>k b o (fun z=>U (by simp [z])) e) (fun b o _ _ U e _=>⟨o.slots,k b o (fun z=>U (by simp [z])) e⟩) (fun _ _ _ _ n=>n)
  (fun b o U e=>⟨o,k b o (fun z=>U (by simp [z])) e⟩) (fun _ _ e=>e) (fun _ _ _ e=>e) (fun b ps e=>⟨#[],by rw [e];simp⟩) (fun m hm=> ?_) (fun b u e=> ?_) I.bare
 ·have e:b=it:=by simpa using hb
  subst e;exact⟨h1,hL,h2,h3⟩
 ·obtain⟨o,es,ep,ho,r⟩:=hm;exact⟨o,es,ep,k _ o (Uu hL) ho,r⟩
 ·refine(I.hok b u e).stay (fun c v U q=>k c v ?_ q) (fun _ q=>q) fun _ _ q=>q;rcases U with z|z
  ·rw [z];exact Z b u e
  ·exact Z c _ z
theorem Inv.tok (I:Inv X pins σ H s)(t:Nat)(U:0<t:=by((try dsimp only);first|assumption|exact Inv.tk (by assumption)|exact Nat.succ_pos _|exact Nat.lt_of_lt_of_le (Inv.tk (by assumption)) (by assumption)|exact Nat.add_pos_left (Inv.tk (by assumption)) _|omega)):Inv X pins σ H {s with toks:=t}:=I.un (h':=s.heap) (t':=t) Un.refl I.hok
theorem Inv.kept {t':Nat}(I:Inv X pins σ H s)(k:∀b u,s.heap.get? b=some u->h'.get? b=some u)(U:0<t':=by((try dsimp only);first|assumption|exact Inv.tk (by assumption)|exact Nat.succ_pos _|exact Nat.lt_of_lt_of_le (Inv.tk (by assumption)) (by assumption)|exact Nat.add_pos_left (Inv.tk (by assumption)) _|omega)):Inv X pins σ H {s with heap:=h',toks:=t'}:=I.un (Un.kept k) (I.hok.kept k)
theorem Inv.laid {a:Addr}{o:HO}{t':Nat}(I:Inv X pins σ H s)(k:∀b u,s.heap.get? b=some u->h'.get? b=some u)(U:s.heap.objs.size<=a)(new:qY X.prog X.w (upd H a o) h' a o)(Z:0<t':=by((try dsimp only);first|assumption|exact Inv.tk (by assumption)|exact Nat.succ_pos _|exact Nat.lt_of_lt_of_le (Inv.tk (by assumption)) (by assumption)|exact Nat.add_pos_left (Inv.tk (by assumption)) _|omega)):
  Inv X pins σ (upd H a o) {s with heap:=h',toks:=t'}:=I.un (Un.laid k U (I.hok.fresh U)) (I.hok.laid k U new)
theorem Inv.write {x e:Addr}{o:HO}{t':Nat}(I:Inv X pins σ H s)(Z:Mut (H x))(he:e=x∨H e=some (.own x))(k:∀b u,b≠e->s.heap.get? b=some u->h'.get? b=some u)(U:∃u,h'.get? e=some u)
  (new:qY X.prog X.w (upd H x o) h' x o) (ht:0<t':=by((try dsimp only);first|assumption|exact Inv.tk (by assumption)|exact Nat.succ_pos _|exact Nat.lt_of_lt_of_le (Inv.tk (by assumption)) (by assumption)|exact Nat.add_pos_left (Inv.tk (by assumption)) _|omega)):Inv X pins σ (upd H x o) {s with heap:=h',toks:=t'}:=I.un (Un.write Z he k U) (I.hok.write Z he k U new)
theorem Inv.pins_of {U:List (Addr×Obj)}(I:Inv X pins σ H s)(h:∀p∈U,s.heap.get? p.1=some p.2/\H p.1=none/\p.1≠X.env.locals/\p.1∉X.fs/\∀v,p.2.data≠ .cell v):Inv X U σ H s:=
 ⟨I.ok,I.os,I.bare,I.base,I.loc,I.cell,I.free,I.freeC,fun p Z=>(List.mem_append.mp Z).elim (fun z=>I.pin p (Uv _ z)) (h p),I.hok,I.len,I.tk⟩
theorem nodup_ix {N:List Str}(U:N.Nodup){i j:Nat}{x:Str}(a:N[i]? =some x)(b:N[j]? =some x):i=j:=by
 obtain⟨h1,Z⟩:=List.getElem?_eq_some_iff.mp a;obtain⟨h2,e2⟩:=List.getElem?_eq_some_iff.mp b;exact(List.getElem_inj U).mp (Z.trans e2.symm)
theorem store_ok2 {M:Model}{A:Around}{E:Value->Shared->Prop}{i:Nat}{x:Str}{v:V}{u:Value}{Q:Unit->Shared->Prop}(I:Inv X pins σ H s)(hN:X.N.Nodup)(hi:X.N[i]? =some x)(hx:Loc X.env.scope x)(r:RelV v u)
  (h:∀s',Inv X pins (σ.set i (some v)) H s'->(∃a,Heap.SameBut a s.heap s'.heap/\(a=X.env.locals∨X.env.cells.lookup x=some a))->Q () s') (hf:X.fn x=true∨X.env.scope.names.lookup x=some .local:=by first|exact .inl rfl|exact .inr rfl|assumption):wpAny M A (storeName X.env x u) Q E s:=by
 obtain⟨m,hn,hl⟩:=id I.loc;have ad:(X.env.scope.kind== .class||(X.env.scope.kind== .module&&X.env.locals !=X.env.globals))=false:=by rw [I.ok.kind];rfl
 have ae:i<σ.length:=by rw [I.len];exact(List.getElem?_eq_some_iff.mp hi).1
 have cne:=I.cne;have Z:∀{a:Addr}{h':Heap},(∃o,s.heap.get? a=some o/\H a=none)->Heap.SameBut a s.heap h'->HOk X.prog X.w H h':=fun{a h'} ha U b ob e=>by
  obtain⟨_,_,aa⟩:=ha;refine(I.hok b ob e).stay (fun c w' hc q=>(U.2 c ?_).trans q) (fun _ q=>q) fun _ _ q=>q;rintro rfl;rcases hc with rfl|hc
  ·rw [aa] at e;cases e
  ·rw [aa] at hc;cases hc
 rcases hx with hk|hk
 ·refine wpAny_storeName_local hk hn (fun h' aj U=> ?_) ad;obtain⟨oL,_,_,ak,_⟩:=id hn;refine h _ ⟨I.ok,I.os,I.bare,⟨fun b o e n hb hx=> ?_,fun b o e n hb hx=> ?_,I.base.free,fun b o e hx=> ?_,I.base.tups,I.base.frzs,I.base.tbls⟩,⟨_,aj,fun j y v' e1 e2 e3=> ?_⟩,fun y c e=> ?_,I.free,I.freeC,fun p hp=> ?_,Z ⟨oL,ak,I.free⟩ U,by simpa using I.len,by first|exact I.tk|exact Nat.succ_pos _⟩ ⟨_,U,.inl rfl⟩
  ·exact(U.2 b (uq (Nat.lt_of_lt_of_le (uh e) I.ok.above))).trans (I.base.keep b o e n hb hx)
  ·obtain⟨sl,e1⟩:=I.base.slot b o e n hb hx;exact⟨sl,(U.2 b (uq (Nat.lt_of_lt_of_le (uh e) I.ok.above))).trans e1⟩
  ·obtain⟨o',e1⟩:=I.base.there b o e hx;exact⟨o',(U.2 b (uq (Nat.lt_of_lt_of_le (uh e) I.ok.above))).trans e1⟩
  ·by_cases hj:j=i
   ·subst hj;rw [hi] at e1;cases e1;rw [List.getElem?_set_self ae] at e2;cases e2;exact⟨u,r,.inl ⟨hk,by simp⟩⟩
   ·rw [List.getElem?_set_ne (Uu hj)] at e2;obtain⟨u',r',q⟩:=hl j y v' e1 e2 e3;refine⟨u',r',?_⟩;rcases q with⟨k,e⟩|⟨k,c,e,z⟩
    ·refine .inl ⟨k,?_⟩;have:y≠x:=fun e=>hj (nodup_ix hN e1 (e▸hi));simp [this,e]
    ·exact .inr ⟨k,c,e,z.sameBut U (cne y c e)⟩
  ·obtain⟨w',z⟩:=I.cell y c e;exact⟨w',z.sameBut U (cne y c e)⟩
  ·obtain⟨e,n,ne,nf,d⟩:=I.pin p hp;exact⟨(U.2 p.1 ne).trans e,n,ne,nf,d⟩
 ·have ac:X.fn x=true:=by
   rcases hf with z|z
   ·exact z
   ·rw [z] at hk;cases hk
  obtain⟨c,hc⟩:=I.ok.has x (.inl hk);obtain⟨w',z⟩:=I.cell x c hc;refine wpAny_storeName_cell I.ok.kind hk hc z (fun h' af U=> ?_);obtain⟨oc,ag,ah⟩:=id z;refine h {s with heap:=h'} ⟨I.ok,I.os,I.bare,⟨fun b o e n hb hx=> ?_,fun b o e n hb hx=> ?_,I.base.free,fun b o e hx=> ?_,I.base.tups,I.base.frzs,I.base.tbls⟩,⟨m,hn.sameBut U (Uu (cne x c hc)),fun j y v' e1 e2 e3=> ?_⟩,fun y c' e=> ?_,I.free,I.freeC,fun p hp=> ?_,Z ⟨oc,ag,I.freeC x c hc⟩ U,by simpa using I.len,by first|exact I.tk|exact Nat.succ_pos _⟩ ⟨c,U,.inr hc⟩
  ·exact(U.2 b (uq (Nat.lt_of_lt_of_le (uh e) (I.ok.cab x c ac hc)))).trans (I.base.keep b o e n hb hx)
  ·obtain⟨sl,e1⟩:=I.base.slot b o e n hb hx;exact⟨sl,(U.2 b (uq (Nat.lt_of_lt_of_le (uh e) (I.ok.cab x c ac hc)))).trans e1⟩
  ·obtain⟨o',e1⟩:=I.base.there b o e hx;exact⟨o',(U.2 b (uq (Nat.lt_of_lt_of_le (uh e) (I.ok.cab x c ac hc)))).trans e1⟩
  ·by_cases hj:j=i
   ·subst hj;rw [hi] at e1;cases e1;rw [List.getElem?_set_self ae] at e2;cases e2;exact⟨u,r,.inr ⟨.inl hk,c,hc,af⟩⟩
   ·rw [List.getElem?_set_ne (Uu hj)] at e2;obtain⟨u',r',q⟩:=hl j y v' e1 e2 e3;refine⟨u',r',?_⟩;rcases q with q|⟨k,c',e,z'⟩
    ·exact .inl q
    ·refine .inr ⟨k,c',e,z'.sameBut U ?_⟩;rintro rfl;exact hj (nodup_ix hN e1 (I.ok.inj _ _ _ e hc▸hi))
  ·by_cases ai:c'=c
   ·subst ai;exact⟨_,af⟩
   ·obtain⟨w2,z2⟩:=I.cell y c' e;exact⟨w2,z2.sameBut U ai⟩
  ·obtain⟨e,n,ne,nf,d⟩:=I.pin p hp;refine⟨(U.2 p.1 ?_).trans e,n,ne,nf,d⟩;intro q;rw [q,ag] at e;have q':oc=p.2:=uQ e;exact d w' (by rw [<-q'];exact ah)
theorem xu {M:Model}{A:Around}{E:Value->Shared->Prop}{i:Nat}{x:Str}{v:V}{u:Value}{Q:Unit->Shared->Prop}(I:Inv X pins σ H s)(U:X.N.Nodup)(hi:X.N[i]? =some x)(Z:Loc X.env.scope x)(r:RelV v u)
  (h:∀s',Inv X pins (σ.set i (some v)) H s'->Q () s') (hf:X.fn x=true∨X.env.scope.names.lookup x=some .local:=by first|exact .inl rfl|exact .inr rfl|assumption):wpAny M A (storeName X.env x u) Q E s:=
 store_ok2 I U hi Z r (fun s' I' _=>h s' I') hf
theorem Inv.call' {s':Shared}{ch:List Addr}(I:Inv X pins σ H s)(Z:s'.os=s.os)(u:Un (frs X.stack) ch H H' s.heap s'.heap)(hok:HOk X.prog X.w H' s'.heap)(hg:AllBare s'.gens)
  (U:∀b∈ch,(b∈X.ex∨X.s₀.heap.objs.size<=b)/\b≠X.env.locals/\(∀x c,X.env.cells.lookup x=some c->c≠b)/\∀p∈X.pn++pins,p.1≠b) (ht:0<s'.toks:=by((try dsimp only);first|assumption|exact Inv.tk (by assumption)|exact Nat.succ_pos _|exact Nat.lt_of_lt_of_le (Inv.tk (by assumption)) (by assumption)|exact Nat.add_pos_left (Inv.tk (by assumption)) _|omega)):Inv X pins σ H' s':=by
 obtain⟨h',g',d',t',o'⟩:=s';have e:o'=s.os:=Z;subst e;exact I.call (g':=g') (t':=t') (d':=d') u hok hg U
end
abbrev XK:=Value->Option Addr->Hp->Prop
abbrev St:=List (Option V)
abbrev VK:=V->Hp->Prop
abbrev TE:=St->Hp->VK->Prop
abbrev TT:=St->Hp->(Bool->Hp->Prop)->Prop
abbrev TA:=St->Hp->(List V->Hp->Prop)->Prop
structure Ends where
 nx:St->Hp->Prop
 rt:VK
 bk:St->Hp->Prop:=fun _ _=>False
 ct:St->Hp->Prop:=fun _ _=>False
abbrev TS:=Ends->St->Hp->Prop
def EP (X:Cx)(pins:List (Addr×Obj))(σ:St)(Q:VK)(u:Value)(s':Shared):Prop:=∃v H',Inv X pins σ H' s'/\RelV v u/\Q v H'
def TP (X:Cx)(pins:List (Addr×Obj))(σ:St)(Q:Bool->Hp->Prop)(b:Bool)(s':Shared):Prop:=∃H',Inv X pins σ H' s'/\Q b H'
def AP (X:Cx)(pins:List (Addr×Obj))(σ:St)(Q:List V->Hp->Prop)(us:List Value)(s':Shared):Prop:=∃vs H',Inv X pins σ H' s'/\Vals vs us/\Q vs H'
def SP (X:Cx)(pins:List (Addr×Obj))(D:Ends)(f:Flow)(s':Shared):Prop:=
 match f with
 | .next=>∃σ' H',Inv X pins σ' H' s'/\D.nx σ' H'
 | .brk=>∃σ' H',Inv X pins σ' H' s'/\D.bk σ' H'
 | .cont=>∃σ' H',Inv X pins σ' H' s'/\D.ct σ' H'
 | .ret u=>∃v σ' H',Inv X pins σ' H' s'/\RelV v u/\D.rt v H'
def PE (X:Cx)(e:Expr)(t:TE):Prop:=
 ∀(pins:List (Addr×Obj)) (s:Shared) (σ:St) (H:Hp) (Q:VK),Inv X pins σ H s->t σ H Q->wpAny (model X.prog X.w) X.A (eval e X.env) (EP X pins σ Q) X.xe s
def PT (X:Cx)(e:Expr)(t:TT):Prop:=
 ∀(pins:List (Addr×Obj)) (s:Shared) (σ:St) (H:Hp) (Q:Bool->Hp->Prop),Inv X pins σ H s->t σ H Q->wpAny (model X.prog X.w) X.A (isTrue e X.env (eval e X.env)) (TP X pins σ Q) X.xe s
def PW (X:Cx)(e:Expr)(t:TT):Prop:=
 ∀(whole:Sem Value) (pins:List (Addr×Obj)) (s:Shared) (σ:St) (H:Hp) (Q:Bool->Hp->Prop),Inv X pins σ H s->t σ H Q->wpAny (model X.prog X.w) X.A (isTrue e X.env whole) (TP X pins σ Q) X.xe s
theorem PW.pt {X:Cx}{e:Expr}{t:TT}(h:PW X e t):PT X e t:=h _
def PA (X:Cx)(es:List Expr)(t:TA):Prop:=
 ∀(pos:Pos) (pins:List (Addr×Obj)) (s:Shared) (σ:St) (H:Hp) (Q:List V->Hp->Prop),Inv X pins σ H s->t σ H Q->wpAny (model X.prog X.w) X.A (spliced (backTo pos (starEach es X.env))) (AP X pins σ Q) X.xe s
def PS (X:Cx)(st:Stmt)(t:TS):Prop:=
 ∀(pins:List (Addr×Obj)) (s:Shared) (σ:St) (H:Hp) (D:Ends),Inv X pins σ H s->t D σ H->wpAny (model X.prog X.w) X.A (exec st X.env) (SP X pins D) X.xe s
def PSs (X:Cx)(st:List Stmt)(t:TS):Prop:=
 ∀(pins:List (Addr×Obj)) (s:Shared) (σ:St) (H:Hp) (D:Ends),Inv X pins σ H s->t D σ H->wpAny (model X.prog X.w) X.A (execs st X.env) (SP X pins D) X.xe s
theorem thn {α:Type}{t:Sem α}{Q U:α->Shared->Prop}{M:Model}{A:Around}{E:Value->Shared->Prop}{s:Shared}(h:wpAny M A t Q E s)(Z:∀a s,Q a s->U a s):wpAny M A t U E s:=vi h Z fun _ _ x=>x
section
variable {X:Cx}
def tVar (i:Nat):TE:=fun σ H Q=>∃v,σ[i]? =some (some v)/\Q v H
def tC (v:V):TE:=fun _ H Q=>Q v H
theorem pe_var {i:Nat}{x:Str}{pos:Pos}(hN:X.N[i]? =some x)(hv:Vis X.env.scope x)(hd:(x==("__debug__":Str))=false:=by decide)(aa:(x==("__classdict__":Str))=false:=by decide):PE X (.Name x pos) (tVar i):=by
 intro pins s σ H Q I h;obtain⟨v,e,h⟩:=h;obtain⟨m,hn,hl⟩:=I.loc;obtain⟨u,r,l⟩:=hl i x v hN e hv;have fin:EP X pins σ Q u s:=⟨v,H,I,r,h⟩;rcases l with⟨Z,hm⟩|⟨Z,c,hc,U⟩
 ·exact wpAny_Name (wpAny_loadName_local I.ok.kind Z hn hm fin) hd
 ·rcases Z with Z|Z
  ·exact wpAny_Name (wpAny_loadName_cell I.ok.kind Z hc U fin) hd
  ·exact wpAny_Name (wpAny_loadName_free I.ok.kind Z hc U fin aa) hd
theorem qg {i j pos}:PE X (.Constant (.int i) j pos) (tC (.int i)):=fun _ _ _ H _ I h=>wpAny_Constant_int ⟨.int i,H,I.tok _,⟨_,rfl⟩,h⟩
theorem Q9 {b j pos}:PE X (.Constant (.bool b) j pos) (tC (.bl b)):=fun _ _ _ H _ I h=>Constant_bool ⟨.bl b,H,I,rfl,h⟩
theorem pe_non {j pos}:PE X (.Constant .none j pos) (tC .non):=fun _ _ _ H _ I h=>Constant_none ⟨.non,H,I,rfl,h⟩
theorem qG {x j pos}:PE X (.Constant (.str x) j pos) (tC (.str x)):=fun _ _ _ H _ I h=>Calls.Constant_str ⟨.str x,H,I.tok _,⟨_,rfl⟩,h⟩
def Gl (X:Cx)(x:Str):Prop:=X.env.kindOf x=some .globalImplicit
theorem xU {E:Value->Shared->Prop}{pins:List (Addr×Obj)}{s:Shared}{σ:St}{H:Hp}{x:Str}{u:Value}{pos:Pos}{Q:Value->Shared->Prop}(I:Inv X pins σ H s)(U:Gl X x)(hm:X.mg x=some u)(h:Q u s)
  (hd:(x==("__debug__":Str))=false:=by decide):wpAny (model X.prog X.w) X.A (eval (.Name x pos) X.env) Q E s:=
 Calls.Name_function_global I.ok.kind U (Calls.loadGlobal_global (by rw [I.ok.glob];exact I.mod.glob.keeps I.bk) hm h) hd
theorem JD {E:Value->Shared->Prop}{pins:List (Addr×Obj)}{s:Shared}{σ:St}{H:Hp}{x:Str}{u:Value}{pos:Pos}{Q:Value->Shared->Prop}(I:Inv X pins σ H s)(U:Gl X x)(hm:X.mg x=none)(Z:bootBuiltins x=some u)(h:Q u s)
  (hn:x≠"__name__":=by decide) (hd:(x==("__debug__":Str))=false:=by decide):wpAny (model X.prog X.w) X.A (eval (.Name x pos) X.env) Q E s:=by
 obtain⟨mb,h1,h2⟩:=I.mod.blt;exact Calls.Name_function_global I.ok.kind U (Calls.loadGlobal_builtin (by rw [I.ok.glob];exact I.mod.glob.keeps I.bk) hm (by rw [I.ok.blt];exact h1.keeps I.bk) ((h2 x hn).trans Z) h) hd
theorem pe_glob {x:Str}{v:V}{u:Value}{pos:Pos}(U:Gl X x)(hm:X.mg x=some u)(r:RelV v u)(hd:(x==("__debug__":Str))=false:=by decide):PE X (.Name x pos) (tC v):=
 fun _ _ _ H _ I h=>xU I U hm ⟨v,H,I,r,h⟩ hd
theorem Yq {x:Str}{v:V}{u:Value}{pos:Pos}(U:Gl X x)(hm:X.mg x=none)(Z:bootBuiltins x=some u)(r:RelV v u)(hn:x≠"__name__":=by decide)(hd:(x==("__debug__":Str))=false:=by decide):PE X (.Name x pos) (tC v):=
 fun _ _ _ H _ I h=>JD I U hm Z ⟨v,H,I,r,h⟩ hn hd
variable {a b:Expr}{ta tb:TE}{pos:Pos}
def PC (X:Cx)(op:CmpOp)(a b:Expr)(t:TE):Prop:=
 ∀(pins:List (Addr×Obj)) (s:Shared) (σ:St) (H:Hp) (Q:VK),Inv X pins σ H s->t σ H Q->
  wpAny (model X.prog X.w) X.A (eval a X.env) (fun v s₁=>wpAny (model X.prog X.w) X.A (eval b X.env) (fun u s₂=>wpAny (model X.prog X.w) X.A (compareOp op v u) (EP X pins σ Q) X.xe s₂) X.xe s₁) X.xe s
def tB (t:TE):TT:=fun σ H Q=>t σ H fun x H1=>∃c,x= .bl c/\Q c H1
theorem pe_cmp {U:CmpOp}{t:TE}(h:PC X U a b t)(h1:behindInMarks U b=false:=by first|exact nobehind _ (by decide) (by decide)|rfl):PE X (.Compare a [U] [b] pos) t:=fun pins s σ H Q I Z=>wpAny_Compare1 (h pins s σ H Q I Z) h1
theorem JM {U:CmpOp}{t:TE}(h:PC X U a b t)(h1:behindInMarks U b=false:=by first|exact nobehind _ (by decide) (by decide)|rfl):PT X (.Compare a [U] [b] pos) (tB t):=by
 intro pins s σ H Q I Z;refine wpAny_isTrue_Compare1 (thn (h pins s σ H _ I Z) fun v s1 h1=>thn h1 fun u s2 h2=>thn h2 fun c s3 ⟨x,H1,I1,r1,q1⟩=> ?_) h1;obtain⟨d,rfl,q⟩:=q1;cases r1;exact vn ⟨H1,I1,q⟩
theorem Q4 {e:Expr}{t:TE}(h:PE X e t)(Z:∀U,isTrue e X.env U=(do let v<-U;standAt e.pos;holding [v] (truthy v)):=by intro _;rfl):PT X e (tB t):=by
 intro pins s σ H Q I hw;refine isTrue_plain (thn (h pins s σ H _ I hw) fun v s1 ⟨x,H1,I1,r1,q1⟩=> ?_) (Z _);obtain⟨d,rfl,q⟩:=q1;cases r1;exact vn ⟨H1,I1,q⟩
variable {tA tB':TT}{rest:List Expr}
def tAnd (t u:TT):TT:=fun σ H Q=>t σ H fun c H1=>if c=true then u σ H1 Q else Q false H1
def tOr (t u:TT):TT:=fun σ H Q=>t σ H fun c H1=>if c=true then Q true H1 else u σ H1 Q
def tNot (t:TT):TT:=fun σ H Q=>t σ H fun c H1=>Q (!c) H1
theorem Yl (ha:PT X a tA):PW X (.BoolOp .And [a] pos) tA:=by
 intro U pins s σ H Q I h;refine isTrue_and (thn (ha pins s σ H Q I h) fun c s1 e=> ?_);cases c with
 |true=>exact isTrue_and_nil e
 |false=>exact e
theorem jr (ha:PT X a tA):PW X (.BoolOp .Or [a] pos) tA:=by
 intro U pins s σ H Q I h;refine isTrue_or (thn (ha pins s σ H Q I h) fun c s1 e=> ?_);cases c with
 |false=>exact isTrue_or_nil e
 |true=>exact e
theorem jV (ha:PT X a tA)(hb:PW X (.BoolOp .And (b::rest) pos) tB'):PW X (.BoolOp .And (a::b::rest) pos) (tAnd tA tB'):=by
 intro wh pins s σ H Q I h;refine isTrue_and (thn (ha pins s σ H _ I h) fun c s1 ⟨H1,U,Z⟩=> ?_);cases c with
 |true=>exact hb wh pins s1 σ H1 Q U Z
 |false=>exact⟨H1,U,Z⟩
theorem xw (ha:PT X a tA)(hb:PW X (.BoolOp .Or (b::rest) pos) tB'):PW X (.BoolOp .Or (a::b::rest) pos) (tOr tA tB'):=by
 intro wh pins s σ H Q I h;refine isTrue_or (thn (ha pins s σ H _ I h) fun c s1 ⟨H1,U,Z⟩=> ?_);cases c with
 |true=>exact⟨H1,U,Z⟩
 |false=>exact hb wh pins s1 σ H1 Q U Z
theorem yH (ha:PT X a tA):PT X (.UnaryOp .Not a pos) (tNot tA):=by
 intro pins s σ H Q I h;exact isTrue_not (ha pins s σ H (fun c H1=>Q (!c) H1) I h)
def tAndV (ta tb:TE):TE:=fun σ H Q=>ta σ H fun x H1=>∃c,x= .bl c/\if c=true then tb σ H1 Q else Q (.bl false) H1
theorem pe_one {op}{t:TE}(h:PE X a t):PE X (.BoolOp op [a] pos) t:=fun pins s σ H Q I U=>BoolOp_one (h pins s σ H Q I U)
theorem J9 (ha:PE X a ta)(hb:PE X (.BoolOp .And (b::rest) pos) tb):PE X (.BoolOp .And (a::b::rest) pos) (tAndV ta tb):=by
 intro pins s σ H Q I h;refine BoolOp_and (thn (ha pins s σ H _ I h) fun v s1 ⟨x,H1,Z,r1,U⟩=> ?_);obtain⟨c,rfl,U⟩:=U;cases r1;refine vn ?_;cases c with
 |true=>exact hb pins s1 σ H1 Q Z U
 |false=>exact⟨.bl false,H1,Z,rfl,U⟩
def tIf (t:TT)(ta tb:TE):TE:=fun σ H Q=>t σ H fun c H1=>if c=true then ta σ H1 Q else tb σ H1 Q
theorem pe_ifExp {c:Expr}(hc:PT X c tA)(ha:PE X a ta)(hb:PE X b tb):PE X (.IfExp c a b pos) (tIf tA ta tb):=by
 intro pins s σ H Q I h;refine wpAny_IfExp (thn (hc pins s σ H _ I h) fun d s1 ⟨H1,U,Z⟩=> ?_);cases d with
 |true=>exact ha pins s1 σ H1 Q U Z
 |false=>exact hb pins s1 σ H1 Q U Z
end
def SqL (K:PySem.W.Frag)(H:Hp)(a:Addr)(xs:List V):Prop:=
 Rd H a (.lst xs)∨
  ∃(o:Obj) (its:Array Value) (n:Nat),K.lookup a=some o/\o.cls= .type "list"/\o.dict=none/\o.data= .seq its n/\its.size<=sizeLine/\Vals xs its.toList
def SqT (K:PySem.W.Frag)(H:Hp)(a:Addr)(xs:List V):Prop:=
 Rd H a (.tup xs)∨
  ∃(o:Obj) (its:Array Value) (n:Nat),K.lookup a=some o/\o.cls= .type "tuple"/\o.data= .seq its n/\its.size<=sizeLine/\Vals xs its.toList
def absV:Value->Option V
 | .none=>some .non
 | .bool b=>some (.bl b)
 | .int i _=>some (.int i)
 | .str x _=>some (.str x)
 | .bytes b _=>some (.byt b)
 | .float b _=>some (.flt b)
 | .ref a=>some (.ref a)
 | .type n=>some (.ty n)
 |_=>none
theorem RelV.abs {x:V}{u:Value}(r:RelV x u):absV u=some x:=by
 cases x with
 |non=>cases r;rfl
 |bl _=>cases r;rfl
 |int _=>obtain⟨t,rfl⟩:=r;rfl
 |str _=>obtain⟨t,rfl⟩:=r;rfl
 |byt _=>obtain⟨t,rfl⟩:=r;rfl
 |flt _=>obtain⟨t,rfl⟩:=r;rfl
 |ref _=>cases r;rfl
 |ty _=>cases r;rfl
theorem RelV.inj {x y:V}{u:Value}(r:RelV x u)(q:RelV y u):x=y:=uQ (r.abs.symm.trans q.abs)
theorem Vals.inj:∀{xs ys:List V}{us:List Value},Vals xs us->Vals ys us->xs=ys
 |_,_,_,.nil,.nil=>rfl
 |_,_,_,.cons r t,.cons r' t'=>by rw [r.inj r',Vals.inj t t']
section
variable {X:Cx}{pins:List (Addr×Obj)}{σ:St}{H:Hp}{s:Shared}{a:Addr}{xs ys:List V}
theorem SqL.of {K:PySem.W.Frag}(h:H a=some (.lst xs)):SqL K H a xs:= .inl (.inl h)
theorem SqT.of {K:PySem.W.Frag}(h:H a=some (.tup xs)):SqT K H a xs:= .inl (.inl h)
theorem Inv.list (I:Inv X pins σ H s)(h:SqL X.K H a xs):∃its:List Value,Vals xs its/\PlainL s.heap a its.toArray/\xs.length<=sizeLine:=by
 rcases h with h|⟨o,its,n,U,Z,hd,hs,hz,r⟩
 ·obtain⟨z,its,n,r,e⟩:=h.ok I.hok;exact⟨its,r,⟨_,n,e,rfl,rfl,rfl⟩,z⟩
 ·refine⟨its.toList,r,⟨o,n,I.kIn a o U,Z,hd,by simpa using hs⟩,?_⟩
  have e:=r.length;simp only [Array.length_toList] at e;omega
theorem Inv.tuple (I:Inv X pins σ H s)(h:SqT X.K H a xs):∃its:List Value,Vals xs its/\IsTup s.heap a its.toArray/\xs.length<=sizeLine:=by
 rcases h with h|⟨o,its,n,U,Z,hs,hz,r⟩
 ·obtain⟨z,its,r,p⟩:=h.ok I.hok;exact⟨its,r,p,z⟩
 ·refine⟨its.toList,r,⟨o,I.kIn a o U,Z,n,by simpa using hs⟩,?_⟩
  have e:=r.length;simp only [Array.length_toList] at e;omega
theorem Inv.list_inj (I:Inv X pins σ H s)(h:SqL X.K H a xs)(h':SqL X.K H a ys):xs=ys:=by
 obtain⟨its,r,⟨o,n,e,_,_,d⟩,_⟩:=I.list h;obtain⟨its',Z,⟨o',n',U,_,_,d'⟩,_⟩:=I.list h';rw [e] at U;cases U;rw [d] at d';injection d' with d1 _
 have:its=its':=by simpa using congrArg Array.toList d1
 subst this;exact r.inj Z
theorem Inv.tuple_inj (I:Inv X pins σ H s)(h:SqT X.K H a xs)(h':SqT X.K H a ys):xs=ys:=by
 obtain⟨its,r,⟨o,e,_,n,d⟩,_⟩:=I.tuple h;obtain⟨its',Z,⟨o',U,_,n',d'⟩,_⟩:=I.tuple h';rw [e] at U;cases U;rw [d] at d';injection d' with d1 _
 have:its=its':=by simpa using congrArg Array.toList d1
 subst this;exact r.inj Z
end
abbrev Cx.wish (X:Cx)(E:Value->Shared->Prop):Cx:={X with xe:=E}
abbrev Cx.nox (X:Cx):Cx:=X.wish fun _ _=>False
theorem Cx.Ok.wish {X:Cx}(ok:X.Ok)(E:Value->Shared->Prop):(X.wish E).Ok:=
 ⟨ok.mod,ok.kind,ok.glob,ok.blt,ok.above,ok.inj,ok.has,ok.cab,ok.hd,ok.frames,ok.stk,ok.exf,ok.bs,ok.bsz,ok.noex,ok.exfs,ok.funs,ok.frf⟩
theorem Cx.Ok.unwish {X:Cx}{E:Value->Shared->Prop}(ok:(X.wish E).Ok):X.Ok:=
 ⟨ok.mod,ok.kind,ok.glob,ok.blt,ok.above,ok.inj,ok.has,ok.cab,ok.hd,ok.frames,ok.stk,ok.exf,ok.bs,ok.bsz,ok.noex,ok.exfs,ok.funs,ok.frf⟩
section
variable {X:Cx}{pins:List (Addr×Obj)}{σ:St}{H:Hp}{s:Shared}{E:Value->Shared->Prop}
theorem Inv.wish (I:Inv X pins σ H s)(E:Value->Shared->Prop):Inv (X.wish E) pins σ H s:=⟨I.ok.wish E,I.os,I.bare,I.base,I.loc,I.cell,I.free,I.freeC,I.pin,I.hok,I.len,I.tk⟩
theorem Inv.unwish (I:Inv (X.wish E) pins σ H s):Inv X pins σ H s:=⟨I.ok.unwish,I.os,I.bare,I.base,I.loc,I.cell,I.free,I.freeC,I.pin,I.hok,I.len,I.tk⟩
theorem SP.unwish {D:Ends}{f:Flow}{s':Shared}(h:SP (X.wish E) pins D f s'):SP X pins D f s':=by
 cases f with
 |next=>obtain⟨U,H',I,q⟩:=h;exact⟨U,H',I.unwish,q⟩
 |brk=>obtain⟨U,H',I,q⟩:=h;exact⟨U,H',I.unwish,q⟩
 |cont=>obtain⟨U,H',I,q⟩:=h;exact⟨U,H',I.unwish,q⟩
 |ret u=>obtain⟨v,U,H',I,r,q⟩:=h;exact⟨v,U,H',I.unwish,r,q⟩
theorem PSs.nox {st:List Stmt}{t:TS}(h:PSs X.nox st t):PSs X st t:=fun pins s σ H D I hw=>
 vi (h pins s σ H D (I.wish _) hw) (fun _ _ q=>q.unwish) fun _ _ z=>False.elim z
end
section
variable {X:Cx}{st:Stmt}{rest:List Stmt}{t u:TS}{e:Expr}{te:TE}{pos:Pos}
def tNext:TS:=fun D σ H=>D.nx σ H
def tSeq (t u:TS):TS:=fun D σ H=>t {D with nx:=u D} σ H
theorem qw:PSs X [] tNext:=fun _ _ σ H _ I h=>wpAny_execs_nil ⟨σ,H,I,h⟩
theorem qc (h1:PS X st t)(h2:PSs X rest u):PSs X (st::rest) (tSeq t u):=by
 intro pins s σ H D I h;refine wpAny_execs_cons (thn (h1 pins s σ H {D with nx:=u D} I h) fun f s1 q=> ?_)
 cases f with
 |next=>
  obtain⟨U,H',Z,q⟩:=q;exact h2 pins s1 U H' D Z q
 |ret v=>exact q
 |brk=>exact q
 |cont=>exact q
theorem qf (h1:PS X st t):PSs X [st] t:=by
 intro pins s σ H D I h;refine wpAny_execs_cons (thn (h1 pins s σ H D I h) fun f s1 q=> ?_);cases f with
 |next=>exact wpAny_execs_nil q
 |ret v=>exact q
 |brk=>exact q
 |cont=>exact q
def tBreak:TS:=fun D σ H=>D.bk σ H
theorem ps_break:PS X (.Break pos) tBreak:=fun _ _ σ H _ I h=>wpAny_Break ⟨σ,H,I,h⟩
theorem Inv.quiet {pins:List (Addr×Obj)}{σ:St}{H:Hp}{s:Shared}(I:Inv X pins σ H s):interactive X.env=false:=by simp [interactive,I.ok.kind]
def tDrop (te:TE):TS:=fun D σ H=>te σ H fun _ H1=>D.nx σ H1
theorem Jy (U:PE X e te)(Z:swapsWith e none pos.line X.env=pure false:=by rfl):PS X (.Expr e pos) (tDrop te):=by
 intro pins s σ H D I h;exact wpAny_Expr_any (thn (U pins s σ H _ I h) fun v s1 ⟨x,H1,I1,r1,q1⟩=>⟨σ,H1,I1,q1⟩) I.quiet Z
def tRet (te:TE):TS:=fun D σ H=>te σ H D.rt
theorem qr (U:PE X e te):PS X (.Return (some e) pos) (tRet te):=by
 intro pins s σ H D I h;exact wpAny_Return_some (thn (U pins s σ H _ I h) fun v s1 ⟨x,H1,Z,r1,q1⟩=>⟨x,σ,H1,Z,r1,q1⟩)
def tIfS (c:TT)(t u:TS):TS:=fun D σ H=>c σ H fun b H1=>if b=true then t D σ H1 else u D σ H1
theorem qO {c:Expr}{a b:List Stmt}{tc:TT}(hc:PT X c tc)(ha:PSs X a t)(hb:PSs X b u):PS X (.If c a b pos) (tIfS tc t u):=by
 intro pins s σ H D I h;refine wpAny_If (thn (hc pins s σ H _ I h) fun d s1 ⟨H1,U,Z⟩=> ?_);cases d with
 |true=>exact ha pins s1 σ H1 D U Z
 |false=>exact hb pins s1 σ H1 D U Z
def tNever:TS:=fun _ _ _=>False
theorem YS:PS X st tNever:=fun _ _ _ _ _ _ h=>h.elim
end
abbrev TG:=V->St->Hp->(St->Hp->Prop)->Prop
abbrev TGs:=List V->St->Hp->(St->Hp->Prop)->Prop
def PG (X:Cx)(target:Expr)(t:TG):Prop:=
 ∀(pins:List (Addr×Obj)) (s:Shared) (σ:St) (H:Hp) (v:V) (u:Value) (Q:St->Hp->Prop),Inv X pins σ H s->RelV v u->t v σ H Q->
  wpAny (model X.prog X.w) X.A (assign target X.env u) (fun _ s'=>∃σ' H',Inv X pins σ' H' s'/\Q σ' H') X.xe s
def PGs (X:Cx)(ts:List Expr)(t:TGs):Prop:=
 ∀(pins:List (Addr×Obj)) (s:Shared) (σ:St) (H:Hp) (vs:List V) (us:List Value) (Q:St->Hp->Prop),Inv X pins σ H s->Vals vs us->t vs σ H Q->
  wpAny (model X.prog X.w) X.A (assignInOrder ((assignEach ts X.env).map (·.2)) us) (fun _ s'=>∃σ' H',Inv X pins σ' H' s'/\Q σ' H') X.xe s
abbrev TSet:=V->V->V->Hp->(Hp->Prop)->Prop
def PSet (X:Cx)(t:TSet):Prop:=
 ∀(pins:List (Addr×Obj)) (s:Shared) (σ:St) (H:Hp) (o i v:V) (ov iv u:Value) (Q:Hp->Prop),Inv X pins σ H s->RelV o ov->RelV i iv->RelV v u->t o i v H Q->
  wpAny (model X.prog X.w) X.A (setItem ov iv u) (fun _ s'=>∃H',Inv X pins σ H' s'/\Q H') X.xe s
abbrev TIp:=V->V->Hp->VK->Prop
def PIp (X:Cx)(op:Operator)(t:TIp):Prop:=
 ∀(pins:List (Addr×Obj)) (s:Shared) (σ:St) (H:Hp) (x y:V) (v u:Value) (Q:VK),Inv X pins σ H s->RelV x v->RelV y u->t x y H Q->
  wpAny (model X.prog X.w) X.A (inplaceOp op v u) (EP X pins σ Q) X.xe s
section
variable {X:Cx}{pos:Pos}
def QH (i:Nat):TG:=fun v σ H Q=>Q (σ.set i (some v)) H
theorem qq {i:Nat}{x:Str}(U:X.N.Nodup)(hi:X.N[i]? =some x)(Z:Loc X.env.scope x)(hf:X.fn x=true∨X.env.scope.names.lookup x=some .local:=by first|exact .inl rfl|exact .inr rfl|assumption):PG X (.Name x pos) (QH i):=by
 intro pins s σ H v u Q I r h;exact wpAny_assign_Name (xu I U hi Z r (fun s' I'=>⟨_,H,I',h⟩) hf)
def gNil:TGs:=fun vs σ H Q=>vs= []/\Q σ H
def gCons (t:TG)(u:TGs):TGs:=fun vs σ H Q=>∃v r,vs=v::r/\t v σ H fun σ' H'=>u r σ' H' Q
theorem xJ:PGs X [] gNil:=by
 intro pins s σ H vs us Q I r h;obtain⟨e,h⟩:=h;subst e;cases r;exact assignInOrder_nil ⟨σ,H,I,h⟩
theorem QJ {e:Expr}{es:List Expr}{t:TG}{u:TGs}(h1:PG X e t)(h2:PGs X es u)
  (U:(assignEach (e::es) X.env).map (·.2)=assign e X.env::(assignEach es X.env).map (·.2):=by rfl):PGs X (e::es) (gCons t u):=by
 intro pins s σ H vs us Q I r h;obtain⟨v,vr,Z,h⟩:=h;subst Z;cases r with
 |cons r rr=>
  rw [U];refine assignInOrder_cons (thn (h1 pins s σ H _ _ _ I r h) fun _ s1 ⟨σ1,H1,I1,q1⟩=> ?_);exact h2 pins s1 σ1 H1 _ _ Q I1 rr q1
def gTup (K:PySem.W.Frag)(n:Nat)(t:TGs):TG:=fun v σ H Q=>∃a xs,v= .ref a/\SqT K H a xs/\xs.length=n/\t xs σ H Q
theorem pg_tup {es:List Expr}{k:Nat}{t:TGs}{n:Nat}(hc:X.calm=true)(h:PGs X es t)
  (hn:(assignEach es X.env).length=n:=by rfl) (U:(assignEach es X.env).findIdx? (·.1)=none:=by rfl):PG X (.Tuple es k pos) (gTup X.K n t):=by
 intro pins s σ H v u Q I r Z;obtain⟨a,xs,e1,hq,hl,Z⟩:=Z;subst e1;cases r;obtain⟨its,rv,ht,hz⟩:=I.tuple hq;refine assign_Tuple_tuple (I.ok.hd hc) ht (by simp [hn,<-hl,rv.length]) U fun h' hx=> ?_
 have I1:Inv X pins σ H {s with heap:=h'}:=I.kept (t':=s.toks) fun b o e=>hx b o (uq (uh e)) e
 exact h pins _ σ H xs _ Q I1 (by simpa using rv) Z
def gSub (to ti:TE)(t:TSet):TG:=fun v σ H Q=>to σ H fun o H1=>ti σ H1 fun i H2=>t o i v H2 fun H3=>Q σ H3
theorem pg_sub {o i:Expr}{to ti:TE}{t:TSet}(ho:PE X o to)(hi:PE X i ti)(hs:PSet X t)
  (ha:∀v,assign (.Subscript o i pos) X.env v=(do
   let U<-holding [v] (eval o X.env)
   let Z<-holding [v,U] (eval i X.env)
   standAt pos
   holding [v,U,Z] (setItem U Z v)
   release [v,U,Z] []):=by intro _;rfl):PG X (.Subscript o i pos) (gSub to ti t):=by
 intro pins s σ H v u Q I r h;rw [ha];refine wpAny_bind (wpAny_holding (thn (ho pins s σ H _ I h) fun U s1 ⟨x,H1,I1,r1,q1⟩=> ?_));refine wpAny_bind (wpAny_holding (thn (hi pins s1 σ H1 _ I1 q1) fun Z s2 ⟨y,H2,I2,r2,q2⟩=> ?_));refine wpAny_bind (wpAny_standAt (wpAny_bind (wpAny_holding (thn (hs pins s2 σ H2 x y v U Z u _ I2 r1 r2 r q2) fun _ s3 ⟨H3,I3,q3⟩=> ?_))));exact wpAny_release ⟨σ,H3,I3,q3⟩
def tAsg (te:TE)(g:TG):TS:=fun D σ H=>te σ H fun x H1=>g x σ H1 D.nx
theorem ps_asg {tg e:Expr}{te:TE}{g:TG}(U:PE X e te)(Z:PG X tg g)(hs:swapsWithSole [tg] e pos.line X.env=pure false:=by rfl)(hw:swappedStores [tg] e X.env=pure none:=by rfl)
  (h1:(assignEach [tg] X.env).map (·.2)= [assign tg X.env]:=by rfl):PS X (.Assign [tg] e pos) (tAsg te g):=by
 intro pins s σ H D I h;refine wpAny_Assign_stores (thn (U pins s σ H _ I h) fun v s1 ⟨x,H1,I1,r1,q1⟩=> ?_) hs hw;rw [h1];exact thn (Z pins s1 σ H1 x v _ I1 r1 q1) fun _ s2 q=>q
theorem qt {i:Nat}{x:Str}{e:Expr}{te:TE}{pos':Pos}(U:X.N.Nodup)(hi:X.N[i]? =some x)(Z:Loc X.env.scope x)(he:PE X e te)(hs:swapsWith e (some (.Name x pos')) pos.line X.env=pure false:=by rfl)(hf:X.fn x=true∨X.env.scope.names.lookup x=some .local:=by first|exact .inl rfl|exact .inr rfl|assumption):
  PS X (.Assign [.Name x pos'] e pos) (tAsg te (QH i)):=by
 intro pins s σ H D I h;refine wpAny_Assign_Name (thn (he pins s σ H _ I h) fun v s1 ⟨y,H1,I1,r1,q1⟩=> ?_) hs;exact xu I1 U hi Z r1 (fun s2 I2=>⟨_,H1,I2,q1⟩) hf
def tAug (i:Nat)(te:TE)(ti:TIp):TS:=fun D σ H=>∃x,σ[i]? =some (some x)/\te σ H fun y H1=>ti x y H1 fun z H2=>D.nx (σ.set i (some z)) H2
theorem ps_aug {i:Nat}{x:Str}{e:Expr}{te:TE}{op:Operator}{ti:TIp}{pos':Pos}(hN:X.N.Nodup)(hi:X.N[i]? =some x)(hx:Loc X.env.scope x)(he:PE X e te)(ho:PIp X op ti)(hf:X.fn x=true∨X.env.scope.names.lookup x=some .local:=by first|exact .inl rfl|exact .inr rfl|assumption):
  PS X (.AugAssign (.Name x pos') op e pos) (tAug i te ti):=by
 intro pins s σ H D I h;obtain⟨v,e1,h⟩:=h;obtain⟨m,hn,hl⟩:=I.loc;have aa:Vis X.env.scope x:=by rcases hx with k|k;exact .inl k;exact .inr (.inl k)
 obtain⟨u,r,l⟩:=hl i x v hi e1 aa;refine wpAny_AugAssign_Name ?_;have go:wpAny (model X.prog X.w) X.A (eval e X.env) (fun w s₂=>wpAny (model X.prog X.w) X.A (inplaceOp op u w) (fun r s₃=>wpAny (model X.prog X.w) X.A (storeName X.env x r) (fun _=>SP X pins D .next) X.xe s₃) X.xe s₂) X.xe s:=by
  refine thn (he pins s σ H _ I h) fun w s1 ⟨y,H1,I1,r1,q1⟩=> ?_;refine thn (ho pins s1 σ H1 v y u w _ I1 r r1 q1) fun z s2 ⟨zv,H2,I2,r2,q2⟩=> ?_;exact xu I2 hN hi hx r2 (fun s3 I3=>⟨_,H2,I3,q2⟩) hf
 rcases l with⟨U,hm⟩|⟨U,c,hc,Z⟩
 ·exact wpAny_loadName_local I.ok.kind U hn hm go
 ·rcases U with U|U
  ·exact wpAny_loadName_cell I.ok.kind U hc Z go
  ·rcases hx with k|k
   ·have:X.env.scope.names.lookup x=some .free:=U;rw [k] at this;cases this
   ·have:X.env.scope.names.lookup x=some .free:=U;rw [k] at this;cases this
def ipI (f:Int->Int->Int):TIp:=fun x y H Q=>∃i j,x= .int i/\y= .int j/\Q (.int (f i j)) H
theorem ip_add:PIp X .Add (ipI fun i j=>i+j):=by
 intro pins s σ H x y v u Q I U Z h;obtain⟨i,j,e1,e2,q⟩:=h;subst e1;subst e2;obtain⟨t,rfl⟩:=U;obtain⟨t',rfl⟩:=Z;exact iadd_int ⟨.int _,H,I.tok _,⟨_,rfl⟩,q⟩
def tWhile (c:TT)(tb:TS):TS:=fun D σ H=>∃W:Nat->St->Hp->Prop,(∃m,W m σ H)/\∀m σ H,W m σ H->
 c σ H fun b H1=>if b=true then∃N:St->Hp->Prop,(∀σ' H',N σ' H'->∃m',m'<m/\W m' σ' H')/\tb {D with nx:=N,ct:=N,bk:=D.nx} σ H1 else D.nx σ H1
theorem ps_while {c:Expr}{U:List Stmt}{tc:TT}{tb:TS}(hp:PassesOwn (model X.prog X.w) X.A X.env X.xe)(hc:PT X c tc)(hb:PSs X U tb):PS X (.While c U [] pos) (tWhile tc tb):=by
 intro pins s σ H D I h;obtain⟨W,⟨m0,w0⟩,Z⟩:=h;refine wpAny_While (codeAny_whileLoop (fun n s'=>∃σ' H',Inv X pins σ' H' s'/\W n σ' H') ?_ m0 ⟨σ,H,I,w0⟩);rintro n s1 ⟨σ1,H1,I1,w1⟩;refine U8 hp (thn (hc pins s1 σ1 H1 _ I1 (Z n σ1 H1 w1)) fun b s2 ⟨H2,I2,q2⟩=> ?_);cases b with
 |true=>
  obtain⟨N,hN,q2⟩:=q2;rw [if_pos rfl];refine U8 hp (thn (hb pins s2 σ1 H2 _ I2 q2) fun f s3 q3=> ?_);cases f with
  |next=>
   obtain⟨σ3,H3,I3,n3⟩:=q3;obtain⟨m',hm,w3⟩:=hN σ3 H3 n3;exact⟨m',hm,σ3,H3,I3,w3⟩
  |cont=>
   obtain⟨σ3,H3,I3,n3⟩:=q3;obtain⟨m',hm,w3⟩:=hN σ3 H3 n3;exact⟨m',hm,σ3,H3,I3,w3⟩
  |brk=>exact q3
  |ret v=>exact q3
 |false=>
  rw [if_neg uf];exact wpAny_execs_nil ⟨σ1,H2,I2,q2⟩
end
structure It where
 go:Nat->Hp->Prop
 yld:Nat->Hp->V->Hp->Prop
 stop:Nat->Hp->Prop
def FpOk (X:Cx)(pins:List (Addr×Obj))(H:Hp)(b:Addr):Prop:=
 H b=none/\b≠X.env.locals/\b∉X.fs/\(b∈X.ex∨X.s₀.heap.objs.size<=b)/\(∀x c,X.env.cells.lookup x=some c->c≠b)/\∀p∈X.pn++pins,p.1≠b
theorem Inv.fpOk {X:Cx}{pins:List (Addr×Obj)}{σ:St}{H H':Hp}{s:Shared}{b:Addr}(I:Inv X pins σ H s)(U:s.heap.objs.size<=b)(hn:H' b=none):FpOk X pins H' b:=by
 refine⟨hn,vR (Nat.lt_of_lt_of_le I.lt U),I.nofs U,.inr (uG I.sz U),fun x c e z=> ?_,fun p Z z=> ?_⟩
 ·obtain⟨v,q⟩:=I.cell x c e;exact absurd (Nat.lt_of_lt_of_le q.lt (by rw [z];exact U)) (vp _)
 ·exact absurd (Nat.lt_of_lt_of_le (uh (I.pin p Z).1) (by rw [z];exact U)) (vp _)
structure Turn (P:Program)(w:World)(K:PySem.W.Frag)(tg:Expr)(J:It)(fp:List Addr)(it:Addr)(tn:Nat->Heap->Prop):Prop where
 mem:it∈fp
 obj:∀i h,tn i h->∀b∈fp,∃o,h.get? b=some o/\∀v,o.data≠ .cell v
 keep:∀i h h',tn i h->(∀b∈fp,∀o,h.get? b=some o->h'.get? b=some o)->tn i h'
 item:∀(X:Cx),X.prog=P->X.w=w->X.K=K->X.calm=true->∀(i:Nat) (pins:List (Addr×Obj)) (s:Shared) (σ:St) (H:Hp) (E:Value->Shared->Prop),Inv X pins σ H s->(∀b∈fp,FpOk X pins H b)->tn i s.heap->J.go i H->
  wpAny (model P w) X.A (pyNext (.ref it)) (fun r s1=>∃u,r=some u/\
   wpAny (model P w) X.A (letOwnedTupleGo tg (.ref it) u) (fun _ s2=>∃x H',Inv X pins σ H' s2/\RelV x u/\J.yld i H x H'/\tn (i+1) s2.heap/\∀b∈fp,H' b=none) E s1) E s
 done:∀(X:Cx),X.prog=P->X.w=w->X.K=K->X.calm=true->∀(i:Nat) (pins:List (Addr×Obj)) (s:Shared) (σ:St) (H:Hp) (E:Value->Shared->Prop),Inv X pins σ H s->(∀b∈fp,FpOk X pins H b)->tn i s.heap->J.stop i H->
  wpAny (model P w) X.A (pyNext (.ref it)) (fun r s1=>r=none/\Inv X pins σ H s1) E s
 self:∀(A:Around) (i:Nat) (s:Shared) (Q:Value->Shared->Prop) (E:Value->Shared->Prop),tn i s.heap->Q (.ref it) s->wpAny (model P w) A (pyIter (.ref it)) Q E s
abbrev TI:=St->Hp->(It->Hp->Prop)->Prop
def PIE (X:Cx)(pins:List (Addr×Obj))(σ:St)(tg:Expr)(R:It->Hp->Prop)(itv:Value)(s2:Shared):Prop:=
 ∃(it:Addr) (fp:List Addr) (tn:Nat->Heap->Prop) (J:It) (H':Hp),itv= .ref it/\Inv X pins σ H' s2/\Turn X.prog X.w X.K tg J fp it tn/\tn 0 s2.heap/\(∀b∈fp,FpOk X pins H' b)/\R J H'
def PI (X:Cx)(tg iter:Expr)(wi:TI):Prop:=
 ∀(pins:List (Addr×Obj)) (s:Shared) (σ:St) (H:Hp) (R:It->Hp->Prop),Inv X pins σ H s->wi σ H R->
  wpAny (model X.prog X.w) X.A (eval iter X.env) (fun v s1=>wpAny (model X.prog X.w) X.A (pyIter v) (PIE X pins σ tg R) X.xe s1) X.xe s
theorem go_of {M:Model}{A:Around}{E:Value->Shared->Prop}{s:Shared}{tg:Expr}{it:Addr}{u:Value}{o:Obj}{n:String}{vs:Array Value}{Q:Unit->Shared->Prop}(Z:s.heap.get? it=some o)(hc:o.cls= .type n)(hd:o.data= .fields vs)
  (hn: ["enumerate","zip","dict_itemiterator","dict_reverseitemiterator","odict_iterator","itertools.zip_longest","itertools.pairwise"].contains n=false) (U:Q () s):wpAny M A (letOwnedTupleGo tg (.ref it) u) Q E s:=by
 unfold letOwnedTupleGo;cases tg<;>first
  |exact wpAny_pure U
  |(cases u<;>first
    |exact wpAny_pure U
    |(refine wpAny_bind (wpAny_load Z ?_)
      rw [hc,hd];show wpAny M A (if(["enumerate","zip","dict_itemiterator","dict_reverseitemiterator","odict_iterator","itertools.zip_longest","itertools.pairwise"].contains n&&vs[0]? ==some (rawInt _))=true then _ else _) Q E s
      rw [if_neg (by intro h;rw [hn,Bool.false_and] at h;cases h)]
      exact wpAny_pure U))
def Itl (K:PySem.W.Frag)(a:Addr):It:=
 ⟨fun i H=>∃xs x,SqL K H a xs/\xs[i]? =some x,fun i H x H'=>H'=H/\∀xs,SqL K H a xs->xs[i]? =some x,fun i H=>∃xs,SqL K H a xs/\xs.length<=i⟩
def Itt (K:PySem.W.Frag)(a:Addr):It:=
 ⟨fun i H=>∃xs x,SqT K H a xs/\xs[i]? =some x,fun i H x H'=>H'=H/\∀xs,SqT K H a xs->xs[i]? =some x,fun i H=>∃xs,SqT K H a xs/\xs.length<=i⟩
def Itr (lo:Int)(n:Nat):It:=⟨fun i _=>i<n,fun i H x H'=>H'=H/\x= .int (lo+i),fun i _=>n<=i⟩
theorem turn_list {P:Program}{w:World}{K:PySem.W.Frag}{tg:Expr}(a it:Addr):Turn P w K tg (Itl K a) [it] it (fun i h=>h.IsListIter it a i) where
 mem:=by simp
 obj:=fun i h st b U=>by
  have e:b=it:=by simpa using U
  subst e;obtain⟨o,e,c,d⟩:=st;exact⟨o,e,fun v z=>by rw [d] at z;cases z⟩
 keep:=fun i h h' st k=>st.at fun o e=>k it (by simp) o e
 item:=by
  intro X hP hw hK hc i pins s σ H E I hf st hg;subst hP hw hK;obtain⟨xs,x,hq,hx⟩:=hg;obtain⟨its,rv,p,hz⟩:=I.list hq;obtain⟨u,hu,ru⟩:=rv.get hx;obtain⟨f0,f1,f2,f3,f4,f5⟩:=hf it (by simp)
  refine wpAny_pyNext_list_item st p.isList (x:=u) (by simpa using hu) fun h' Z sb=> ?_
  have I1:Inv X pins σ H {s with heap:=h'}:=I.turned (t':=s.toks) (fun b o U e=>(sb.2 b U).trans e) f0 f1 f3 f4 f5
  obtain⟨o,e,c,d⟩:=id Z;exact⟨u,rfl,go_of (s:={s with heap:=h'}) e c d (by decide) ⟨x,H,I1,ru,⟨rfl,fun ys hy=>by rw [I.list_inj hy hq];exact hx⟩,Z,fun b U=>(hf b U).1⟩⟩
 done:=by
  intro X hP hw hK hc i pins s σ H E I hf st hg;subst hP hw hK;obtain⟨xs,hq,hx⟩:=hg;obtain⟨its,rv,p,hz⟩:=I.list hq;obtain⟨f0,f1,f2,f3,f4,f5⟩:=hf it (by simp)
  have hl:=rv.length;exact wpAny_pyNext_list_end (I.ok.hd hc) st p.isList (by simp;omega) fun h' eb=>⟨rfl,I.turned (t':=s.toks) (fun b o U e=>eb b o U e) f0 f1 f3 f4 f5⟩
 self:=fun _ _ _ _ _ st h=>wpAny_pyIter_listiter st h
theorem JP {P:Program}{w:World}{K:PySem.W.Frag}{tg:Expr}(a it:Addr):Turn P w K tg (Itt K a) [it] it (fun i h=>h.IsTupleIter it a i) where
 mem:=by simp
 obj:=fun i h st b U=>by
  have e:b=it:=by simpa using U
  subst e;obtain⟨o,e,c,d⟩:=st;exact⟨o,e,fun v z=>by rw [d] at z;cases z⟩
 keep:=fun i h h' st k=>st.at fun o e=>k it (by simp) o e
 item:=by
  intro X hP hw hK hc i pins s σ H E I hf st hg;subst hP hw hK;obtain⟨xs,x,hq,hx⟩:=hg;obtain⟨its,rv,p,hz⟩:=I.tuple hq;obtain⟨u,hu,ru⟩:=rv.get hx;obtain⟨f0,f1,f2,f3,f4,f5⟩:=hf it (by simp)
  refine wpAny_pyNext_tuple_item st (show s.heap.IsTuple a its.toArray from p) (x:=u) (by simpa using hu) fun h' Z sb=> ?_
  have I1:Inv X pins σ H {s with heap:=h'}:=I.turned (t':=s.toks) (fun b o U e=>(sb.2 b U).trans e) f0 f1 f3 f4 f5
  obtain⟨o,e,c,d⟩:=id Z;exact⟨u,rfl,go_of (s:={s with heap:=h'}) e c d (by decide) ⟨x,H,I1,ru,⟨rfl,fun ys hy=>by rw [I.tuple_inj hy hq];exact hx⟩,Z,fun b U=>(hf b U).1⟩⟩
 done:=by
  intro X hP hw hK hc i pins s σ H E I hf st hg;subst hP hw hK;obtain⟨xs,hq,hx⟩:=hg;obtain⟨its,rv,p,hz⟩:=I.tuple hq;obtain⟨f0,f1,f2,f3,f4,f5⟩:=hf it (by simp)
  have hl:=rv.length;exact wpAny_pyNext_tuple_end (I.ok.hd hc) st (show s.heap.IsTuple a its.toArray from p) (by simp;omega) fun h' eb=>⟨rfl,I.turned (t':=s.toks) (fun b o U e=>eb b o U e) f0 f1 f3 f4 f5⟩
 self:=fun _ _ _ _ _ st h=>wpAny_pyIter_tupleiter st h
theorem turn_range {P:Program}{w:World}{K:PySem.W.Frag}{tg:Expr}(it:Addr)(lo:Int)(n:Nat):Turn P w K tg (Itr lo n) [it] it (fun i h=>IsRangeIter h it (lo+(i:Nat)*1) ((n:Int)-(i:Nat)) 1) where
 mem:=by simp
 obj:=fun i h st b U=>by
  have e:b=it:=by simpa using U
  subst e;exact⟨_,st,fun v z=>by
   have z':Data.fields _=Data.cell v:=z;cases z'⟩
 keep:=fun i h h' st k=>k it (by simp) _ st
 item:=by
  intro X hP hw hK hc i pins s σ H E I hf st hg;subst hP hw hK;obtain⟨f0,f1,f2,f3,f4,f5⟩:=hf it (by simp)
  have W:=Walks.range (prog:=X.prog) (w:=X.w) (I.ok.hd hc) it lo 1 n;refine ux (n:=1) I.tk (W.item i s _ _ hg st fun v h' tk hv Z kk=> ?_);intro htk;obtain⟨t,rfl⟩:=hv;have I1:Inv X pins σ H {s with heap:=h',toks:=tk}:=I.turned (fun b o U e=>kk b o (by simpa using U) e) f0 f1 f3 f4 f5
  refine⟨_,rfl,go_of (s:={s with heap:=h',toks:=tk}) (n:="range_iterator") Z rfl rfl (by decide) ⟨.int (lo+i),H,I1,⟨t,?_⟩,⟨rfl,rfl⟩,Z,fun b U=>(hf b U).1⟩⟩
  rw [Int.mul_one]
 done:=by
  intro X hP hw hK hc i pins s σ H E I hf st hg;subst hP hw hK;obtain⟨f0,f1,f2,f3,f4,f5⟩:=hf it (by simp)
  exact wpAny_pyNext_range_end (I.ok.hd hc) st (by have:n<=i:=hg;omega) fun h' eb=>⟨rfl,I.turned (t':=s.toks) (fun b o U e=>eb b o U e) f0 f1 f3 f4 f5⟩
 self:=fun _ _ _ _ _ st h=>wpAny_pyIter_rangeiter st h
section
variable {X:Cx}{tg:Expr}
def iList (K:PySem.W.Frag)(tl:TE):TI:=fun σ H R=>tl σ H fun x H1=>∃a,x= .ref a/\(∃xs,SqL K H1 a xs)/\R (Itl K a) H1
def iTup (K:PySem.W.Frag)(tl:TE):TI:=fun σ H R=>tl σ H fun x H1=>∃a,x= .ref a/\(∃xs,SqT K H1 a xs)/\R (Itt K a) H1
theorem QD {l:Expr}{tl:TE}(Z:PE X l tl):PI X tg l (iList X.K tl):=by
 intro pins s σ H R I h;refine thn (Z pins s σ H _ I h) fun v s1 ⟨x,H1,U,r1,q1⟩=> ?_;obtain⟨a,e,⟨xs,hq⟩,q⟩:=q1;subst e;cases r1;obtain⟨its,rv,p,hz⟩:=U.list hq;refine Us p.isList ?_;refine⟨s1.heap.objs.size,[s1.heap.objs.size],_,_,H1,rfl,U.kept (t':=s1.toks) fun b o e=>u5 _ e,turn_list a _,⟨_,uc _ rfl,rfl,rfl⟩,fun b hb=> ?_,q⟩;have e:b=s1.heap.objs.size:=by simpa using hb
 subst e;exact U.fpOk (u8 _) (U.hok.fresh (u8 _))
theorem pi_tup {l:Expr}{tl:TE}(Z:PE X l tl):PI X tg l (iTup X.K tl):=by
 intro pins s σ H R I h;refine thn (Z pins s σ H _ I h) fun v s1 ⟨x,H1,U,r1,q1⟩=> ?_;obtain⟨a,e,⟨xs,hq⟩,q⟩:=q1;subst e;cases r1;obtain⟨its,rv,p,hz⟩:=U.tuple hq;refine wpAny_pyIter_tuple (show s1.heap.IsTuple a its.toArray from p) ?_
 refine⟨s1.heap.objs.size,[s1.heap.objs.size],_,_,H1,rfl,U.kept (t':=s1.toks) fun b o e=>u5 _ e,JP a _,⟨_,uc _ rfl,rfl,rfl⟩,fun b hb=> ?_,q⟩;have e:b=s1.heap.objs.size:=by simpa using hb
 subst e;exact U.fpOk (u8 _) (U.hok.fresh (u8 _))
theorem range_it {pins:List (Addr×Obj)}{σ:St}{H:Hp}{s:Shared}{R:It->Hp->Prop}{E:Value->Shared->Prop}{lo hi:Int}{t u v:Tok}{tk:Nat}(I:Inv X pins σ H s)(h1: -(2^62)<=lo)(h2:lo<2^62)(Z: -(2^62)<=hi)(h4:hi<2^62)
  (q:R (Itr lo (hi-lo).toNat) H) (htk:0<tk:=by((try dsimp only);first|assumption|exact Inv.tk (by assumption)|exact Nat.succ_pos _|exact Nat.lt_of_lt_of_le (Inv.tk (by assumption)) (by assumption)|exact Nat.add_pos_left (Inv.tk (by assumption)) _|omega)):wpAny (model X.prog X.w) X.A (pyIter (.ref s.heap.objs.size)) (PIE X pins σ tg R) E {s with heap:=s.heap.push {cls:= .type "range",data:= .fields #[.int lo t,.int hi u,.int 1 v]},toks:=tk}:=by
 refine wpAny_pyIter_range (IsRange.new ..) (small_one h1 h2 Z h4) ?_;have U:Inv X pins σ H {s with heap:=s.heap.push {cls:= .type "range",data:= .fields #[.int lo t,.int hi u,.int 1 v]},toks:=tk}:=I.kept fun b o e=>u5 _ e
 refine⟨(s.heap.push {cls:= .type "range",data:= .fields #[.int lo t,.int hi u,.int 1 v]}).objs.size,[(s.heap.push {cls:= .type "range",data:= .fields #[.int lo t,.int hi u,.int 1 v]}).objs.size],_,_,H,rfl,
  U.kept (t':=tk) fun b o e=>u5 _ e,turn_range _ lo (hi-lo).toNat,?_,fun b hb=> ?_,q⟩
 ·have e1:lo+((0:Nat):Int)*1=lo:=by simp
  have e2:(((hi-lo).toNat:Nat):Int)-((0:Nat):Int)=Builtin.Range.rangeSize lo hi 1:=by rw [rangeSize_one];split<;>omega
  show IsRangeIter _ _ (lo+((0:Nat):Int)*1) ((((hi-lo).toNat:Nat):Int)-((0:Nat):Int)) 1;rw [e1,e2];exact uc _ rfl
 ·have e:b=(s.heap.push {cls:= .type "range",data:= .fields #[.int lo t,.int hi u,.int 1 v]}).objs.size:=by simpa using hb
  subst e;exact U.fpOk (u8 _) (U.hok.fresh (u8 _))
def iRng1 (ta:TA):TI:=fun σ H R=>ta σ H fun vs H1=>∃j:Int,vs= [.int j]/\ -(2^62)<=j/\j<2^62/\R (Itr 0 j.toNat) H1
theorem Qj {a:Expr}{ta:TA}{p pos:Pos}(Z:Gl X "range")(hm:X.mg "range"=none)(ha:PA X [a] ta)(hs:starEach [a] X.env= [(false,eval a X.env)]:=by rfl):PI X tg (.Call (.Name "range" p) [a] [] pos) (iRng1 ta):=by
 intro pins s σ H R I h;refine Call_ (JD I Z hm boot_range (vT (thn (ha pos pins s σ H _ I h) fun us s1 ⟨vs,H1,I1,r1,U⟩=> ?_) hs rfl));obtain⟨j,e,U,q2,q⟩:=U;subst e;cases r1 with
 |cons r rr=>
  cases rr;obtain⟨t,rfl⟩:=r;exact call_range_1 (range_it I1 (by omega) (by omega) U q2 (by simpa using q))
def tFor (wi:TI)(g:TG)(tb:TS):TS:=fun D σ H=>wi σ H fun J H1=>∃W:Nat->Nat->St->Hp->Prop,(∃m,W 0 m σ H1)/\∀i m σ H,W i m σ H->
 (J.stop i H/\D.nx σ H)∨(J.go i H/\∃N:St->Hp->Prop,(∀σ' H',N σ' H'->∃m',m'<m/\W (i+1) m' σ' H')/\∀x H',J.yld i H x H'->g x σ H' fun σ2 H2=>tb {D with nx:=N,ct:=N,bk:=D.nx} σ2 H2)
def pinsAt (fp:List Addr)(h:Heap):List (Addr×Obj):=fp.filterMap fun b=>(h.get? b).map fun o=>(b,o)
theorem yP {fp:List Addr}{h:Heap}{b:Addr}{o:Obj}(U:b∈fp)(e:h.get? b=some o):(b,o)∈pinsAt fp h:=List.mem_filterMap.mpr ⟨b,U,by rw [e];rfl⟩
theorem of_pinsAt {fp:List Addr}{h:Heap}{p:Addr×Obj}(U:p∈pinsAt fp h):p.1∈fp/\h.get? p.1=some p.2:=by
 obtain⟨b,Z,e⟩:=List.mem_filterMap.mp U;cases q:h.get? b with
 |none=>rw [q] at e;cases e
 |some o=>
  rw [q] at e;have e':(b,o)=p:=uQ e;subst e';exact⟨Z,q⟩
theorem Inv.pinned {pins:List (Addr×Obj)}{σ:St}{H:Hp}{s:Shared}{fp:List Addr}(I:Inv X pins σ H s)(hf:∀b∈fp,FpOk X pins H b)(ho:∀b∈fp,∃o,s.heap.get? b=some o/\∀v,o.data≠ .cell v):Inv X (pins++pinsAt fp s.heap) σ H s:=
 I.pins_of fun p hp=>(List.mem_append.mp hp).elim (fun z=>I.pin p (uH _ z)) fun z=>by
  obtain⟨U,e⟩:=of_pinsAt z;obtain⟨f0,f1,f2,_⟩:=hf p.1 U;obtain⟨o,Z,d⟩:=ho p.1 U;rw [e] at Z;cases Z;exact⟨e,f0,f1,f2,d⟩
theorem Inv.unpinned {pins pl:List (Addr×Obj)}{σ:St}{H:Hp}{s:Shared}(I:Inv X (pins++pl) σ H s):Inv X pins σ H s:=I.pins_of fun p U=>I.pin p (uH _ (Uv _ U))
theorem Qo {U:Expr}{ad:List Stmt}{wi:TI}{g:TG}{tb:TS}{pos:Pos}(hp:PassesOwn (model X.prog X.w) X.A X.env X.xe)(hc:X.calm=true)(hi:PI X tg U wi)(hg:PG X tg g)(Z:PSs X ad tb)
  (hs:∀x,foldedSetIterable U X.env x=pure x:=by intro _;rfl):PS X (.For tg U ad [] pos) (tFor wi g tb):=by
 intro pins s σ H D I h;refine wpAny_For (thn (hi pins s σ H _ I h) fun v s1 h1=>thn h1 fun al s2 h2=> ?_) hs;obtain⟨it,fp,tn,J,H2,e,I2,T,ai,f2,W,⟨m0,w0⟩,af⟩:=h2;subst e;have aa:∀{H':Hp},(∀b∈fp,H' b=none)->∀b∈fp,FpOk X pins H' b:=fun hn b Z=>⟨hn b Z,(f2 b Z).2⟩;refine codeAny_forLoop_any (fun n s'=>∃i σ' H',Inv X pins σ' H' s'/\tn i s'.heap/\(∀b∈fp,H' b=none)/\W i n σ' H') ?_ m0 ⟨0,σ,H2,I2,ai,fun b Z=>(f2 b Z).1,w0⟩;rintro n s3 ⟨i,σ3,H3,I3,ag,ah,w3⟩;rcases af i n σ3 H3 w3 with⟨stop,qn⟩|⟨go,N,hN,step⟩
 ·refine U8 hp (thn (T.done X rfl rfl rfl hc i pins s3 σ3 H3 X.xe I3 (aa ah) ag stop) fun r s4 ⟨hr,I4⟩=> ?_);subst hr;exact wpAny_execs_nil ⟨σ3,H3,I4,qn⟩
 ·refine U8 hp (thn (T.item X rfl rfl rfl hc i pins s3 σ3 H3 X.xe I3 (aa ah) ag go) fun r s4 ⟨u,hr,h4⟩=> ?_);subst hr;refine U8 hp (thn h4 fun _ s5 ⟨x,H5,I5,r5,y5,ae,aj⟩=> ?_);have ak:=I5.pinned (aa aj) (T.obj _ _ ae);refine U8 hp (thn (hg _ s5 σ3 H5 x u _ ak r5 (step x H5 y5)) fun _ s6 ⟨σ6,H6,I6,q6⟩=> ?_);refine U8 hp (thn (Z _ s6 σ6 H6 _ I6 q6) fun f s7 q7=> ?_);have ac:∀{σ7:St}{H7:Hp},Inv X (pins++pinsAt fp s5.heap) σ7 H7 s7->N σ7 H7->∃m,m<n/\∃i σ' H',Inv X pins σ' H' s7/\tn i s7.heap/\(∀b∈fp,H' b=none)/\W i m σ' H':=fun{σ7 H7} I7 n7=>by
   obtain⟨m',hm,w7⟩:=hN σ7 H7 n7;refine⟨m',hm,i+1,σ7,H7,I7.unpinned,T.keep _ _ _ ae fun b Z o e=>(I7.pin (b,o) (uH _ (uH _ (yP Z e)))).1,fun b Z=> ?_,w7⟩;obtain⟨o,e,d⟩:=T.obj _ _ ae b Z;exact(I7.pin (b,o) (uH _ (uH _ (yP Z e)))).2.1
  cases f with
  |next=>obtain⟨σ7,H7,I7,n7⟩:=q7;exact ac I7 n7
  |cont=>obtain⟨σ7,H7,I7,n7⟩:=q7;exact ac I7 n7
  |brk=>obtain⟨σ7,H7,I7,q7⟩:=q7;exact⟨σ7,H7,I7.unpinned,q7⟩
  |ret v=>obtain⟨x7,σ7,H7,I7,r7,q7⟩:=q7;exact⟨x7,σ7,H7,I7.unpinned,r7,q7⟩
end
theorem yS {K:PySem.W.Frag}{a:Addr}{xs:List V}{g:TG}{tb:TS}{D:Ends}{σ:St}{H:Hp}(U:Nat->St->Hp->Prop)(h0:U 0 σ H)(hl:∀i σ H,i<=xs.length->U i σ H->SqL K H a xs)
  (hs:∀i x σ H,xs[i]? =some x->U i σ H->g x σ H fun σ2 H2=>tb {D with nx:=U (i+1),ct:=U (i+1),bk:=D.nx} σ2 H2) (hd:∀σ H,U xs.length σ H->D.nx σ H):
  ∃W:Nat->Nat->St->Hp->Prop,(∃m,W 0 m σ H)/\∀i m σ H,W i m σ H->
   ((Itl K a).stop i H/\D.nx σ H)∨((Itl K a).go i H/\∃N:St->Hp->Prop,(∀σ' H',N σ' H'->∃m',m'<m/\W (i+1) m' σ' H')/\∀x H',(Itl K a).yld i H x H'->g x σ H' fun σ2 H2=>tb {D with nx:=N,ct:=N,bk:=D.nx} σ2 H2):=by
 refine⟨fun i m σ H=>m=xs.length-i/\i<=xs.length/\U i σ H,⟨xs.length,by simp,vh _,h0⟩,?_⟩
 rintro i m σ H ⟨rfl,hi,p⟩;have q:=hl i σ H hi p;by_cases Z:i<xs.length
 ·refine .inr ⟨⟨xs,xs[i],q,by simp [Z]⟩,U (i+1),fun σ' H' p'=>⟨xs.length-(i+1),by omega,rfl,Z,p'⟩,fun x H' y=> ?_⟩
  obtain⟨e,y⟩:=y;subst e;exact hs i x σ _ (y xs q) p
 ·have e:i=xs.length:=by omega
  subst e;exact .inl ⟨⟨xs,q,u8 _⟩,hd σ H p⟩
theorem xZ {K:PySem.W.Frag}{a:Addr}{xs:List V}{g:TG}{tb:TS}{D:Ends}{σ:St}{H:Hp}(U:Nat->St->Hp->Prop)(h0:U 0 σ H)(hl:∀i σ H,i<=xs.length->U i σ H->SqT K H a xs)
  (hs:∀i x σ H,xs[i]? =some x->U i σ H->g x σ H fun σ2 H2=>tb {D with nx:=U (i+1),ct:=U (i+1),bk:=D.nx} σ2 H2) (hd:∀σ H,U xs.length σ H->D.nx σ H):
  ∃W:Nat->Nat->St->Hp->Prop,(∃m,W 0 m σ H)/\∀i m σ H,W i m σ H->
   ((Itt K a).stop i H/\D.nx σ H)∨((Itt K a).go i H/\∃N:St->Hp->Prop,(∀σ' H',N σ' H'->∃m',m'<m/\W (i+1) m' σ' H')/\∀x H',(Itt K a).yld i H x H'->g x σ H' fun σ2 H2=>tb {D with nx:=N,ct:=N,bk:=D.nx} σ2 H2):=by
 refine⟨fun i m σ H=>m=xs.length-i/\i<=xs.length/\U i σ H,⟨xs.length,by simp,vh _,h0⟩,?_⟩
 rintro i m σ H ⟨rfl,hi,p⟩;have q:=hl i σ H hi p;by_cases Z:i<xs.length
 ·refine .inr ⟨⟨xs,xs[i],q,by simp [Z]⟩,U (i+1),fun σ' H' p'=>⟨xs.length-(i+1),by omega,rfl,Z,p'⟩,fun x H' y=> ?_⟩
  obtain⟨e,y⟩:=y;subst e;exact hs i x σ _ (y xs q) p
 ·have e:i=xs.length:=by omega
  subst e;exact .inl ⟨⟨xs,q,u8 _⟩,hd σ H p⟩
theorem QT {lo:Int}{n:Nat}{g:TG}{tb:TS}{D:Ends}{σ:St}{H:Hp}(U:Nat->St->Hp->Prop)(h0:U 0 σ H)
  (hs:∀i σ H,i<n->U i σ H->g (.int (lo+i)) σ H fun σ2 H2=>tb {D with nx:=U (i+1),ct:=U (i+1),bk:=D.nx} σ2 H2) (hd:∀σ H,U n σ H->D.nx σ H):
  ∃W:Nat->Nat->St->Hp->Prop,(∃m,W 0 m σ H)/\∀i m σ H,W i m σ H->
   ((Itr lo n).stop i H/\D.nx σ H)∨((Itr lo n).go i H/\∃N:St->Hp->Prop,(∀σ' H',N σ' H'->∃m',m'<m/\W (i+1) m' σ' H')/\∀x H',(Itr lo n).yld i H x H'->g x σ H' fun σ2 H2=>tb {D with nx:=N,ct:=N,bk:=D.nx} σ2 H2):=by
 refine⟨fun i m σ H=>m=n-i/\i<=n/\U i σ H,⟨n,by simp,vh _,h0⟩,?_⟩
 rintro i m σ H ⟨rfl,hi,p⟩;by_cases Z:i<n
 ·refine .inr ⟨Z,U (i+1),fun σ' H' p'=>⟨n-(i+1),by omega,rfl,Z,p'⟩,fun x H' y=> ?_⟩
  obtain⟨e,y⟩:=y;subst e y;exact hs i σ _ Z p
 ·have e:i=n:=by omega
  subst e;exact .inl ⟨u8 _,hd σ H p⟩
abbrev R2:=V->V->Hp->VK->Prop
def OpR (X:Cx)(f:Value->Value->Sem Value)(r:R2):Prop:=
 ∀(pins:List (Addr×Obj)) (s:Shared) (σ:St) (H:Hp) (x y:V) (v u:Value) (Q:VK),Inv X pins σ H s->RelV x v->RelV y u->r x y H Q->
  wpAny (model X.prog X.w) X.A (f v u) (EP X pins σ Q) X.xe s
def UnR (X:Cx)(f:Value->Sem Value)(r:V->Hp->VK->Prop):Prop:=
 ∀(pins:List (Addr×Obj)) (s:Shared) (σ:St) (H:Hp) (x:V) (v:Value) (Q:VK),Inv X pins σ H s->RelV x v->r x H Q->
  wpAny (model X.prog X.w) X.A (f v) (EP X pins σ Q) X.xe s
def Qn (X:Cx)(f:Value)(r:List V->Hp->VK->Prop):Prop:=
 ∀(pins:List (Addr×Obj)) (s:Shared) (σ:St) (H:Hp) (xs:List V) (us:List Value) (Q:VK),Inv X pins σ H s->Vals xs us->r xs H Q->
  wpAny (model X.prog X.w) X.A (call f us) (EP X pins σ Q) X.xe s
def TruR (X:Cx)(r:V->Hp->(Bool->Hp->Prop)->Prop):Prop:=
 ∀(pins:List (Addr×Obj)) (s:Shared) (σ:St) (H:Hp) (x:V) (v:Value) (Q:Bool->Hp->Prop),Inv X pins σ H s->RelV x v->r x H Q->
  wpAny (model X.prog X.w) X.A (truthy v) (TP X pins σ Q) X.xe s
def tOp (r:R2)(ta tb:TE):TE:=fun σ H Q=>ta σ H fun x H1=>tb σ H1 fun y H2=>r x y H2 Q
def tUn (r:V->Hp->VK->Prop)(ta:TE):TE:=fun σ H Q=>ta σ H fun x H1=>r x H1 Q
def rI (C:Int->Int->Prop)(g:Int->Int->V):R2:=fun x y H Q=>∃i j,x= .int i/\y= .int j/\C i j/\Q (g i j) H
def rI0 (g:Int->Int->V):R2:=fun x y H Q=>∃i j,x= .int i/\y= .int j/\Q (g i j) H
def rU (g:Int->V):V->Hp->VK->Prop:=fun x H Q=>∃i,x= .int i/\Q (g i) H
section
variable {X:Cx}{a b c:Expr}{ta tb tc:TE}{pos:Pos}
theorem binT (ha:PE X a ta)(U:PE X b tb){pins:List (Addr×Obj)}{s:Shared}{σ:St}{H:Hp}{R:V->V->Hp->Prop}(I:Inv X pins σ H s)
  (h:ta σ H fun x H1=>tb σ H1 fun y H2=>R x y H2) {Q:Value->Shared->Prop}{f:Value->Value->Sem Value}
  (Z:∀v u s2 x y H2,Inv X pins σ H2 s2->RelV x v->RelV y u->R x y H2->wpAny (model X.prog X.w) X.A (f v u) Q X.xe s2):
  wpAny (model X.prog X.w) X.A (eval a X.env) (fun v s₁=>wpAny (model X.prog X.w) X.A (eval b X.env) (fun u s₂=>wpAny (model X.prog X.w) X.A (f v u) Q X.xe s₂) X.xe s₁) X.xe s:=by
 refine thn (ha pins s σ H _ I h) fun v s1 ⟨x,H1,I1,r1,q1⟩=> ?_;refine thn (U pins s1 σ H1 _ I1 q1) fun u s2 ⟨y,H2,I2,r2,q2⟩=> ?_;exact Z v u s2 x y H2 I2 r1 r2 q2
theorem qB {U:Operator}{r:R2}(Z:OpR X (binaryOp U) r)(ha:PE X a ta)(hb:PE X b tb):PE X (.BinOp a U b pos) (tOp r ta tb):=by
 intro pins s σ H Q I h;exact wpAny_BinOp (binT ha hb I h fun v u s2 x y H2 I2 rx ry q=>Z pins s2 σ H2 x y v u Q I2 rx ry q)
theorem pe_un {U:UnaryOp}{r:V->Hp->VK->Prop}(Z:UnR X (unaryOp U) r)(ha:PE X a ta):PE X (.UnaryOp U a pos) (tUn r ta):=by
 intro pins s σ H Q I h;exact UnaryOp_ (thn (ha pins s σ H _ I h) fun v s1 ⟨x,H1,I1,r1,q1⟩=>Z pins s1 σ H1 x v Q I1 r1 q1)
theorem opI {f:Value->Value->Sem Value}{C:Int->Int->Prop}{g:Int->Int->Int}
  (U:∀(i j:Int) (t u:Tok) (s:Shared) (Q:Value->Shared->Prop) (E:Value->Shared->Prop),C i j->Q (.int (g i j) s.toks) {s with toks:=s.toks+1}->wpAny (model X.prog X.w) X.A (f (.int i t) (.int j u)) Q E s):
  OpR X f (rI C fun i j=> .int (g i j)):=by
 intro pins s σ H x y v u Q I Z ry h;obtain⟨i,j,rfl,rfl,hc,q⟩:=h;obtain⟨t,rfl⟩:=Z;obtain⟨t',rfl⟩:=ry;exact U i j t t' s _ _ hc ⟨.int (g i j),H,I.tok _,⟨_,rfl⟩,q⟩
theorem opI0 {f:Value->Value->Sem Value}{g:Int->Int->Int}
  (U:∀(i j:Int) (t u:Tok) (s:Shared) (Q:Value->Shared->Prop) (E:Value->Shared->Prop),Q (.int (g i j) s.toks) {s with toks:=s.toks+1}->wpAny (model X.prog X.w) X.A (f (.int i t) (.int j u)) Q E s):
  OpR X f (rI0 fun i j=> .int (g i j)):=by
 intro pins s σ H x y v u Q I Z ry h;obtain⟨i,j,rfl,rfl,q⟩:=h;obtain⟨t,rfl⟩:=Z;obtain⟨t',rfl⟩:=ry;exact U i j t t' s _ _ ⟨.int (g i j),H,I.tok _,⟨_,rfl⟩,q⟩
theorem opB0 {f:Value->Value->Sem Value}{g:Int->Int->Bool}
  (U:∀(i j:Int) (t u:Tok) (s:Shared) (Q:Value->Shared->Prop) (E:Value->Shared->Prop),Q (.bool (g i j)) s->wpAny (model X.prog X.w) X.A (f (.int i t) (.int j u)) Q E s):
  OpR X f (rI0 fun i j=> .bl (g i j)):=by
 intro pins s σ H x y v u Q I Z ry h;obtain⟨i,j,rfl,rfl,q⟩:=h;obtain⟨t,rfl⟩:=Z;obtain⟨t',rfl⟩:=ry;exact U i j t t' s _ _ ⟨.bl (g i j),H,I,rfl,q⟩
def CDiv (i j:Int):Prop:=0<j/\j<1073741824
def CPow (i j:Int):Prop:=0<=j/\j<=1000000/\i.natAbs<2^64
def CMul (i j:Int):Prop:=(-(2^64)<i/\i<2^64)∨(-(2^64)<j/\j<2^64)
theorem CMul.ok {i j:Int}(h:CMul i j):IntMulOk i j:=by
 rcases h with⟨h1,h2⟩|⟨h1,h2⟩
 ·exact .of_left (intBits_le_64 h1 h2)
 ·exact .of_right (intBits_le_64 h1 h2)
theorem QV:OpR X (binaryOp .Add) (rI0 fun i j=> .int (i+j)):=opI0 fun _ _ _ _ _ _ _ q=>add_int q
theorem op_sub:OpR X (binaryOp .Sub) (rI0 fun i j=> .int (i-j)):=opI0 fun _ _ _ _ _ _ _ q=>sub_int q
theorem op_mul:OpR X (binaryOp .Mult) (rI CMul fun i j=> .int (i*j)):=opI fun _ _ _ _ _ _ _ U q=>mul_int q U.ok
theorem xL:OpR X (binaryOp .FloorDiv) (rI CDiv fun i j=> .int (i/j)):=opI fun i j _ _ _ _ _ U q=>by
 have h1:(0:Int)<j:=U.1;have h2:j<1073741824:=U.2;exact floordiv_int (by omega) (by rw [Int.fdiv_eq_ediv_of_nonneg i (by omega)];exact q) (.inl (PyProof.noPylong_small (by omega)))
theorem y9:OpR X (binaryOp .Mod) (rI (fun _ j=>0<j) fun i j=> .int (i%j)):=opI fun i j _ _ _ _ _ U q=>by
 have h1:(0:Int)<j:=U;exact mod_int' (by omega) (by rw [Int.fmod_eq_emod_of_nonneg i (by omega)];exact q)
theorem op_pow:OpR X (binaryOp .Pow) (rI CPow fun i j=> .int (i^j.toNat)):=opI fun _ _ _ _ _ _ _ U q=>pow_int_small U.1 U.2.1 U.2.2 q
theorem unI {f:Value->Sem Value}{g:Int->Int}
  (U:∀(i:Int) (t:Tok) (s:Shared) (Q:Value->Shared->Prop) (E:Value->Shared->Prop),Q (.int (g i) s.toks) {s with toks:=s.toks+1}->wpAny (model X.prog X.w) X.A (f (.int i t)) Q E s):
  UnR X f (rU fun i=> .int (g i)):=by
 intro pins s σ H x v Q I Z h;obtain⟨i,rfl,q⟩:=h;obtain⟨t,rfl⟩:=Z;exact U i t s _ _ ⟨.int (g i),H,I.tok _,⟨_,rfl⟩,q⟩
theorem un_neg:UnR X (unaryOp .USub) (rU fun i=> .int (-i)):=unI fun _ _ _ _ _ q=>neg_int q
def scal:V->V->Bool
 | .non,.non=>true| .non,.int _=>true| .int _,.non=>true| .non,.bl _=>true| .bl _,.non=>true| .non,.str _=>true| .str _,.non=>true
 | .int _,.int _=>true| .bl _,.bl _=>true| .str _,.str _=>true| .byt _,.byt _=>true
 | .int _,.str _=>true| .str _,.int _=>true| .bl _,.str _=>true| .str _,.bl _=>true
 |_,_=>false
def rEq:R2:=fun x y H Q=>scal x y=true/\Q (.bl (decide (x=y))) H
def rNe:R2:=fun x y H Q=>scal x y=true/\Q (.bl (!decide (x=y))) H
theorem dec_int {i j:Int}:decide (V.int i=V.int j)=(i==j):=by
 rw [vq];simp
theorem dec_bl {i j:Bool}:decide (V.bl i=V.bl j)=(i==j):=by
 rw [vq];simp
theorem dec_str {i j:Str}:decide (V.str i=V.str j)=(i==j):=by
 rw [vq];simp
theorem dec_byt {i j:Array UInt8}:decide (V.byt i=V.byt j)=(i.toList==j.toList):=by
 rw [vq];cases i;cases j;simp
theorem qI {pins:List (Addr×Obj)}{σ:St}{H:Hp}{s:Shared}{Q:VK}{k U:Bool}(I:Inv X pins σ H s)(q:Q (.bl k) H)(e:k=U):EP X pins σ Q (.bool U) s:=by
 subst e;exact⟨.bl k,H,I,rfl,q⟩
theorem yF:OpR X (compareOp .Eq) rEq:=by
 intro pins s σ H x y v u Q I rx U h;obtain⟨Z,q⟩:=h;cases x with
 |non=>
  cases rx;cases y with
  |non=>cases U;exact PySem.EqNone.eq_none_none (qI I q (by simp))
  |bl j=>cases U;exact PySem.EqNone.eq_none_bool (qI I q (by simp))
  |int j=>obtain⟨t',rfl⟩:=U;exact PySem.EqNone.eq_none_int (qI I q (by simp))
  |str j=>obtain⟨t',rfl⟩:=U;exact PySem.EqNone.eq_none_str (qI I q (by simp))
  |_=>exact absurd (show false=true from Z) uf
 |bl i=>
  cases rx;cases y with
  |non=>cases U;exact PySem.EqNone.eq_bool_none (qI I q (by simp))
  |bl j=>cases U;exact eq_bool (qI I q dec_bl)
  |str j=>obtain⟨t',rfl⟩:=U;exact PySem.EqMixed.eq_bool_str (qI I q (by simp))
  |_=>exact absurd (show false=true from Z) uf
 |int i=>
  obtain⟨t,rfl⟩:=rx;cases y with
  |non=>cases U;exact PySem.EqNone.eq_int_none (qI I q (by simp))
  |int j=>obtain⟨t',rfl⟩:=U;exact eq_int (qI I q dec_int)
  |str j=>obtain⟨t',rfl⟩:=U;exact PySem.EqMixed.eq_int_str (qI I q (by simp))
  |_=>exact absurd (show false=true from Z) uf
 |str i=>
  obtain⟨t,rfl⟩:=rx;cases y with
  |non=>cases U;exact PySem.EqNone.eq_str_none (qI I q (by simp))
  |bl j=>cases U;exact PySem.EqMixed.eq_str_bool (qI I q (by simp))
  |int j=>obtain⟨t',rfl⟩:=U;exact PySem.EqMixed.eq_str_int (qI I q (by simp))
  |str j=>obtain⟨t',rfl⟩:=U;exact eq_str (qI I q dec_str)
  |_=>exact absurd (show false=true from Z) uf
 |byt i=>
  obtain⟨t,rfl⟩:=rx;cases y with
  |byt j=>obtain⟨t',rfl⟩:=U;exact PySem.W.eq_bytes (qI I q dec_byt)
  |_=>exact absurd (show false=true from Z) uf
 |_=>cases y<;>exact absurd (show false=true from Z) uf
theorem op_ne:OpR X (compareOp .NotEq) rNe:=by
 intro pins s σ H x y v u Q I rx U h;obtain⟨Z,q⟩:=h;cases x with
 |non=>
  cases rx;cases y with
  |non=>cases U;exact PySem.EqNone.ne_none_none (qI I q (by simp))
  |bl j=>cases U;exact PySem.EqNone.ne_none_bool (qI I q (by simp))
  |int j=>obtain⟨t',rfl⟩:=U;exact PySem.EqNone.ne_none_int (qI I q (by simp))
  |str j=>obtain⟨t',rfl⟩:=U;exact PySem.EqNone.ne_none_str (qI I q (by simp))
  |_=>exact absurd (show false=true from Z) uf
 |bl i=>
  cases rx;cases y with
  |non=>cases U;exact PySem.EqNone.ne_bool_none (qI I q (by simp))
  |bl j=>cases U;exact ne_bool (qI I q (congrArg not dec_bl))
  |str j=>obtain⟨t',rfl⟩:=U;exact PySem.EqMixed.ne_bool_str (qI I q (by simp))
  |_=>exact absurd (show false=true from Z) uf
 |int i=>
  obtain⟨t,rfl⟩:=rx;cases y with
  |non=>cases U;exact PySem.EqNone.ne_int_none (qI I q (by simp))
  |int j=>obtain⟨t',rfl⟩:=U;exact ne_int (qI I q (congrArg not dec_int))
  |str j=>obtain⟨t',rfl⟩:=U;exact PySem.EqMixed.ne_int_str (qI I q (by simp))
  |_=>exact absurd (show false=true from Z) uf
 |str i=>
  obtain⟨t,rfl⟩:=rx;cases y with
  |non=>cases U;exact PySem.EqNone.ne_str_none (qI I q (by simp))
  |bl j=>cases U;exact PySem.EqMixed.ne_str_bool (qI I q (by simp))
  |int j=>obtain⟨t',rfl⟩:=U;exact PySem.EqMixed.ne_str_int (qI I q (by simp))
  |str j=>obtain⟨t',rfl⟩:=U;exact ne_str (qI I q (congrArg not dec_str))
  |_=>exact absurd (show false=true from Z) uf
 |byt i=>
  obtain⟨t,rfl⟩:=rx;cases y with
  |byt j=>obtain⟨t',rfl⟩:=U;exact PySem.W.ne_bytes (qI I q (congrArg not dec_byt))
  |_=>exact absurd (show false=true from Z) uf
 |_=>cases y<;>exact absurd (show false=true from Z) uf
theorem op_lt:OpR X (compareOp .Lt) (rI0 fun i j=> .bl (decide (i<j))):=opB0 fun _ _ _ _ _ _ _ q=>lt_int q
theorem op_le:OpR X (compareOp .LtE) (rI0 fun i j=> .bl (decide (i<=j))):=opB0 fun _ _ _ _ _ _ _ q=>le_int q
theorem op_gt:OpR X (compareOp .Gt) (rI0 fun i j=> .bl (decide (j<i))):=opB0 fun _ _ _ _ _ _ _ q=>gt_int q
theorem op_ge:OpR X (compareOp .GtE) (rI0 fun i j=> .bl (decide (j<=i))):=opB0 fun _ _ _ _ _ _ _ q=>ge_int q
theorem op_lt_str:OpR X (compareOp .Lt) (fun x y H Q=>∃i j,x= .str i/\y= .str j/\Q (.bl (decide (i.cps.toList<j.cps.toList))) H):=by
 intro pins s σ H x y v u Q I U Z h;obtain⟨i,j,rfl,rfl,q⟩:=h;obtain⟨t,rfl⟩:=U;obtain⟨t',rfl⟩:=Z;exact lt_str (qI I q rfl)
theorem Jt:OpR X (compareOp .In) (fun x y H Q=>∃i j,x= .str i/\y= .str j/\Q (.bl (!(Builtin.Str.occurrences j i 0 j.length 1).isEmpty)) H):=by
 intro pins s σ H x y v u Q I U Z h;obtain⟨i,j,rfl,rfl,q⟩:=h;obtain⟨t,rfl⟩:=U;obtain⟨t',rfl⟩:=Z;exact in_str (qI I q rfl)
theorem op_isN:OpR X (compareOp .Is) (fun x y H Q=>y= .non/\Q (.bl (decide (x= .non))) H):=by
 intro pins s σ H x y v u Q I U Z h;obtain⟨rfl,q⟩:=h;cases Z;refine is_none_gen (qI I q ?_);cases x<;>first
  |(cases U;rfl)
  |(obtain⟨t,rfl⟩:=U;rfl)
theorem qx (b:Expr){U:CmpOp}(h:U≠ .In:=by decide)(h2:U≠ .NotIn:=by decide):behindInMarks U b=false:=by
 have Z:(U==CmpOp.In)=false:=by cases U<;>first|rfl|exact absurd rfl h
 have e2:(U==CmpOp.NotIn)=false:=by cases U<;>first|rfl|exact absurd rfl h2
 cases b<;>simp [behindInMarks,Z,e2]
theorem yq {U:CmpOp}{r:R2}(Z:OpR X (compareOp U) r)(ha:PE X a ta)(hb:PE X b tb)(hm:behindInMarks U b=false):PE X (.Compare a [U] [b] pos) (tOp r ta tb):=by
 intro pins s σ H Q I h;exact wpAny_Compare1 (binT ha hb I h fun v u s2 x y H2 I2 rx ry q=>Z pins s2 σ H2 x y v u Q I2 rx ry q) hm
def tTest (t:TE):TT:=fun σ H Q=>t σ H fun x H'=>∃k,x= .bl k/\Q k H'
theorem qo {U:CmpOp}{r:R2}(Z:OpR X (compareOp U) r)(ha:PE X a ta)(hb:PE X b tb)(hm:behindInMarks U b=false):PT X (.Compare a [U] [b] pos) (tTest (tOp r ta tb)):=by
 intro pins s σ H Q I h;refine wpAny_isTrue_Compare1 (thn (ha pins s σ H _ I h) fun v s1 ⟨x,H1,I1,r1,q1⟩=>thn (hb pins s1 σ H1 _ I1 q1) fun u s2 ⟨y,H2,I2,r2,q2⟩=>
  thn (Z pins s2 σ H2 x y v u _ I2 r1 r2 q2) fun c s3 ⟨z,H3,I3,r3,k,e,q3⟩=> ?_) hm
 subst e;cases r3;exact vn ⟨H3,I3,q3⟩
def tChain (r r':R2)(ta tb tc:TE):TE:=fun σ H Q=>ta σ H fun x H1=>tb σ H1 fun y H2=>r x y H2 fun z H3=>∃k,z= .bl k/\
 (if k=true then tc σ H3 fun w' H4=>r' y w' H4 Q else Q (.bl false) H3)
theorem pt_chain {Z U:CmpOp}{r r':R2}(ho:OpR X (compareOp Z) r)(aa:OpR X (compareOp U) r')(ha:PE X a ta)(hb:PE X b tb)(hc:PE X c tc)
  (hm:lastMarks [Z,U] [b,c]=false:=by with_unfolding_all rfl):PT X (.Compare a [Z,U] [b,c] pos) (tTest (tChain r r' ta tb tc)):=by
 intro pins s σ H Q I h;refine isTrue_chain (thn (ha pins s σ H _ I h) fun v s1 ⟨x,H1,I1,r1,q1⟩=>test_link (thn (hb pins s1 σ H1 _ I1 q1) fun u s2 ⟨y,H2,I2,r2,q2⟩=>
  thn (ho pins s2 σ H2 x y v u _ I2 r1 r2 q2) fun d s3 ⟨z,H3,I3,r3,k,e,q3⟩=> ?_)) hm
 subst e;cases r3;refine vn ?_;cases k with
 |false=>
  obtain⟨k',e',q'⟩:=q3;cases e';exact ite_ff ⟨H3,I3,q'⟩
 |true=>
  refine ite_tt (test_last (thn (hc pins s3 σ H3 _ I3 q3) fun w' s4 ⟨z',H4,I4,r4,q4⟩=>thn (aa pins s4 σ H4 y z' u w' _ I4 r2 r4 q4) fun d' s5 ⟨z2,H5,I5,r5,k2,e2,q5⟩=> ?_));subst e2;cases r5;exact vn ⟨H5,I5,q5⟩
def TruV (K:PySem.W.Frag)(x:V)(H:Hp)(k:Bool):Prop:=
 match x with
 | .non=>k=false
 | .bl b=>k=b
 | .int i=>k=(i !=0)
 | .str y=>y.length<=sizeLine/\k=((y.length:Int) !=0)
 | .byt y=>y.size<=sizeLine/\k=((y.size:Int) !=0)
 | .ref p=>(∃xs,SqL K H p xs/\k= !xs.isEmpty)∨(∃xs,SqT K H p xs/\k= !xs.isEmpty)∨∃kvs,H p=some (.dK kvs)/\k= !kvs.isEmpty
 |_=>False
theorem isEmpty_kv {κ:Type}{kvs:List (κ×V)}{vs:List (κ×Value)}(r:KV kvs vs):(!vs.isEmpty)= !kvs.isEmpty:=by
 cases r<;>rfl
theorem xh {xs:List V}{its:List Value}(r:Vals xs its):(!its.toArray.isEmpty)= !xs.isEmpty:=by
 cases r<;>simp
theorem jg:(sizeLine:Nat)<2^63:=by rw [uv];decide
theorem tru_ok:TruR X (fun x H Q=>∃k,TruV X.K x H k/\Q k H):=by
 intro pins s σ H x v Q I rx h;obtain⟨k,e,q⟩:=h;have hl:=jg;have hs:sizeLine=16777216:=uv;cases x with
 |non=>
  cases rx;have U:k=false:=e;subst U;exact truthy_none ⟨H,I,q⟩
 |bl b=>
  cases rx;have U:k=b:=e;subst U;exact vn ⟨H,I,q⟩
 |int i=>
  obtain⟨t,rfl⟩:=rx;have U:k=(i !=0):=e;subst U;exact PySem.P.truthy_int ⟨H,I,q⟩
 |str y=>
  obtain⟨t,rfl⟩:=rx;obtain⟨hy,U⟩:y.length<=sizeLine/\k=((y.length:Int) !=0):=e;subst U;exact PySem.P.truthy_str (by omega) ⟨H,I.tok _,q⟩
 |byt y=>
  obtain⟨t,rfl⟩:=rx;obtain⟨hy,U⟩:y.size<=sizeLine/\k=((y.size:Int) !=0):=e;subst U;exact PySem.W.truthy_bytes (by omega) ⟨H,I.tok _,q⟩
 |ref p=>
  cases rx;have U:(∃xs,SqL X.K H p xs/\k= !xs.isEmpty)∨(∃xs,SqT X.K H p xs/\k= !xs.isEmpty)∨∃kvs,H p=some (.dK kvs)/\k= !kvs.isEmpty:=e;rcases U with⟨xs,hx,U⟩|⟨xs,hx,U⟩|⟨kvs,hx,U⟩
  ·subst U;obtain⟨its,r,pl,hz⟩:=I.list hx;have Z:=r.length;exact wpAny_truthy_list pl.isList (by simp only [ub];omega) ⟨H,I.tok _,by rw [xh r];exact q⟩
  ·subst U;obtain⟨its,r,pl,hz⟩:=I.tuple hx;have Z:=r.length;exact truthy_tuple pl (by simp only [ub];omega) ⟨H,I.tok _,by rw [xh r];exact q⟩
  ·subst U;obtain⟨hz,hS,vs,r,m⟩:kvs.length<=sizeLine/\(p==sysModules)=false/\∃vs,KV kvs vs/\s.heap.DictOf (qz X.prog X.w) p vs:=I.hok p _ hx;have Z:kvs.length=vs.length:=V5 r;exact wpAny_truthy_dict hS m (by omega) ⟨H,I.tok _,by rw [isEmpty_kv r];exact q⟩
 |_=>exact(show False from e).elim
theorem pt_truth (ha:PE X a ta)(Z:∀U,isTrue a X.env U=(do let v<-U;standAt a.pos;holding [v] (truthy v))):
  PT X a (fun σ H Q=>ta σ H fun x H'=>∃k,TruV X.K x H' k/\Q k H'):=by
 intro pins s σ H Q I h;exact isTrue_plain (thn (ha pins s σ H _ I h) fun v s1 ⟨x,H1,I1,r1,q1⟩=>tru_ok pins s1 σ H1 x v Q I1 r1 q1) (Z _)
theorem qR:OpR X (binaryOp .Add) (fun x y H Q=>∃i j,x= .str i/\y= .str j/\i.length+j.length<=sizeLine/\Q (.str (i++j)) H):=by
 intro pins s σ H x y v u Q I U Z h;obtain⟨i,j,rfl,rfl,hz,q⟩:=h;obtain⟨t,rfl⟩:=U;obtain⟨t',rfl⟩:=Z;exact ux (n:=1) I.tk (add_str (fun t' tk htk=>⟨.str (i++j),H,I.tok _,⟨_,rfl⟩,q⟩) hz)
theorem QX {x:V}{us:List Value}(r:Vals [x] us):∃u,us= [u]/\RelV x u:=by
 cases r with
 |cons U Z=>cases Z;exact⟨_,rfl,U⟩
theorem vals2 {x y:V}{us:List Value}(r:Vals [x,y] us):∃u U,us= [u,U]/\RelV x u/\RelV y U:=by
 cases r with
 |cons Z r2=>
  cases r2 with
  |cons r3 r4=>cases r4;exact⟨_,_,rfl,Z,r3⟩
theorem call_abs:Qn X (.builtin "abs") (fun xs H Q=>∃i,xs= [.int i]/\Q (.int (if i<0 then-i else i)) H):=by
 intro pins s σ H xs us Q I r h;obtain⟨i,rfl,q⟩:=h;obtain⟨u,rfl,t,rfl⟩:=QX r;exact ux (n:=1) I.tk (call_abs_int fun u tk htk=>⟨.int (if i<0 then-i else i),H,I.tok _,⟨_,rfl⟩,q⟩)
theorem call_min2 (Z:X.calm=true):Qn X (.builtin "min") (fun xs H Q=>∃i j,xs= [.int i,.int j]/\Q (.int (if j<i then j else i)) H):=by
 intro pins s σ H xs us Q I r h;obtain⟨i,j,rfl,q⟩:=h;obtain⟨u,w',rfl,⟨t,rfl⟩,⟨t',rfl⟩⟩:=vals2 r;refine ux (n:=1) I.tk (min_two_ints (I.ok.hd Z) fun h' tk k htk=>⟨_,H,I.kept k,?_,q⟩);by_cases U:j<i
 ·rw [if_pos U,if_pos U];exact⟨_,rfl⟩
 ·rw [if_neg U,if_neg U];exact⟨_,rfl⟩
theorem jo:Qn X (.type "str") (fun xs H Q=>∃i,xs= [.int i]/\i.natAbs.log2<1920/\Q (.str (toString i)) H):=by
 intro pins s σ H xs us Q I r h;obtain⟨i,rfl,hz,q⟩:=h;obtain⟨u,rfl,t,rfl⟩:=QX r;exact PySem.P.str_of_int hz ⟨.str _,H,I.tok _,⟨_,rfl⟩,q⟩
theorem call_ord:Qn X (.builtin "ord") (fun xs H Q=>∃x,xs= [.str x]/\x.length=1/\Q (.int (x.cps.getD 0 0:Nat)) H):=by
 intro pins s σ H xs us Q I r h;obtain⟨x,rfl,hz,q⟩:=h;obtain⟨u,rfl,t,rfl⟩:=QX r;exact ord_of_one hz ⟨.int _,H,I.tok _,⟨_,rfl⟩,q⟩
def LenV (K:PySem.W.Frag)(x:V)(H:Hp)(n:Nat):Prop:=
 match x with
 | .str y=>y.length<=sizeLine/\n=y.length
 | .byt y=>y.size<=sizeLine/\n=y.size
 | .ref p=>(∃xs,SqL K H p xs/\n=xs.length)∨∃xs,SqT K H p xs/\n=xs.length
 |_=>False
theorem yL:Qn X (.builtin "len") (fun xs H Q=>∃x n,xs= [x]/\LenV X.K x H n/\Q (.int n) H):=by
 intro pins s σ H xs us Q I r h;obtain⟨x,n,rfl,e,q⟩:=h;obtain⟨u,rfl,rx⟩:=QX r;have hl:=jg;have hs:sizeLine=16777216:=uv;cases x with
 |str y=>
  obtain⟨t,rfl⟩:=rx;obtain⟨hy,Z⟩:y.length<=sizeLine/\n=y.length:=e;subst Z;exact len_str (by omega) ⟨.int _,H,I.tok _,⟨_,rfl⟩,q⟩
 |byt y=>
  obtain⟨t,rfl⟩:=rx;obtain⟨hy,Z⟩:y.size<=sizeLine/\n=y.size:=e;subst Z;exact PySem.W.len_bytes (by omega) ⟨.int _,H,I.tok _,⟨_,rfl⟩,q⟩
 |ref p=>
  cases rx;have Z:(∃xs,SqL X.K H p xs/\n=xs.length)∨∃xs,SqT X.K H p xs/\n=xs.length:=e;rcases Z with⟨xs,hx,Z⟩|⟨xs,hx,Z⟩
  ·subst Z;obtain⟨its,r',pl,hz⟩:=I.list hx;have U:=r'.length;exact Calls.call_len_list pl.isList (by simp only [ub];omega) ⟨.int xs.length,H,I.tok _,⟨_,by simp only [ub];rw [U]⟩,q⟩
  ·subst Z;obtain⟨its,r',pl,hz⟩:=I.tuple hx;have U:=r'.length;exact len_tuple pl (by simp only [ub];omega) ⟨.int xs.length,H,I.tok _,⟨_,by simp only [ub];rw [U]⟩,q⟩
 |_=>exact(show False from e).elim
end
structure ObjM (h:Heap)(x dx C:Addr)(mA:Str->Option Value):Prop where
 obj:h.get? x=some (PySem.W.instObj C dx)
 ns:h.Ns1 dx mA
 ne:dx≠x
theorem lookIn_ns {h:Heap}{dx:Addr}{mA:Str->Option Value}(n:h.Ns1 dx mA):∃od,h.get? dx=some od/\∀name,PySem.W.lookIn name od=some (mA name):=by
 obtain⟨o,es,ep,Z,hd,hk,_,hm⟩:=n;refine⟨o,Z,fun name=> ?_⟩;have e:=hm name;unfold nsFind findBy at e;rw [<-Array.find?_toList] at e;unfold PySem.W.lookIn;rw [hd];dsimp only;split
 ·rename_i y q
  rw [q] at e;exact congrArg some e
 ·rename_i q
  rw [q] at e;have a:es.toList.any (·.refKey)=false:=by
   rw [List.any_eq_false];intro y hy;obtain⟨z,t,U⟩:=hk y (Array.mem_toList_iff.mp hy);simp [DictEntry.refKey,U]
  have a':¬es.toList.any (·.refKey)=true:=by rw [a];exact uf
  rw [if_neg a'];exact congrArg some e
theorem ObjM.look {h:Heap}{x dx C:Addr}{mA:Str->Option Value}(I:ObjM h x dx C mA):∃od,PySem.W.InstAt h x (PySem.W.instObj C dx) C (some od)/\∀name,PySem.W.lookIn name od=some (mA name):=
 let⟨od,ho,hl⟩:=lookIn_ns I.ns
 ⟨od,⟨I.obj,rfl,rfl,ho⟩,hl⟩
section
variable {prog:Program}{w:World}{A:Around}{E:Value->Shared->Prop}{s:Shared}{K:PySem.W.Frag}{x dx C f:Addr}{mA:Str->Option Value}{name:Str}{v:Value}
theorem get_map {U:Bool}{Q:Value->Shared->Prop}(X:K.In s.heap)(I:ObjM s.heap x dx C mA)(hg:PySem.W.plainGet K C name=true)(hh:PySem.W.hasDictIn K C=true)
  (ha:PySem.W.findIn K (.ref C) name=some none) (hv:mA name=some v) (Z:PySem.W.handedIn v=true) (h:Q v {s with toks:=s.toks+1}):
  wpAny (model prog w) A (getAttr (.ref x) name U) Q E s:=by
 obtain⟨od,J,hl⟩:=I.look;exact PySem.W.get_value X J (PySem.W.plainGet_of hg).1 (PySem.W.findObj_own hh ha rfl (by rw [hl,hv])) Z h
theorem get_meth {pl:Sem Bool}{Q:Value×List Value->Shared->Prop}(X:K.In s.heap)(I:ObjM s.heap x dx C mA)(U:PySem.W.plainGet K C name=true)
  (Z:PySem.W.findIn K (.ref C) name=some (some (.ref f))) (ht:PySem.W.isFn K (.ref f)=true) (hv:mA name=none) (h:Q (.ref f,[.ref x]) s):
  wpAny (model prog w) A (getMethod (.ref x) name pl) Q E s:=by
 obtain⟨od,J,hl⟩:=I.look;exact PySem.W.method_fn X J (PySem.W.plainGet_of U).1 (PySem.W.plainGet_of U).2 Z (beq_iff_eq.mp ht) (by show(PySem.W.lookIn name od).map (·.isSome)=some false;rw [hl,hv];rfl) h
theorem set_map {ns:List Str}{Q:Unit->Shared->Prop}(X:K.In s.heap)(I:ObjM s.heap x dx C mA)
  (hs:PySem.W.findIn K (.ref C) "__setattr__"=some (some (.builtin "object.__setattr__"))) (hp:PySem.W.plainOver K C=true) (ht:PySem.W.takerIn K C name=some none) (hh:PySem.W.hasDictIn K C=true)
  (hw:PySem.Within mA ns) (hsz:ns.length<=sizeLine)
  (h:∀h',ObjM h' x dx C (fun y=>if y=name then some v else mA y)->Heap.SameBut dx s.heap h'->Q () {s with heap:=h',toks:=s.toks+2}):
  wpAny (model prog w) A (setAttr (.ref x) name v) Q E s:=by
 obtain⟨od,J,hl⟩:=I.look;refine PySem.W.set_plain X J hs (PySem.W.osa_open (s:={s with toks:=s.toks+1}) (r:=none) X J hp ht fun b=> ?_)
 obtain⟨cd,hc,aa⟩:=PySem.W.any_some hh;have hx:s.heap.get? x=some ⟨.ref C,some dx,.plain,#[]⟩:=I.obj;refine wpAny_bind (wpAny_pure (wpAny_bind (wpAny_bind (wpAny_loadPart hx (wpAny_bind (PySem.W.Looks.here (s:={s with toks:=s.toks+1}) (PySem.W.looks_clsIn X hc) ?_))))))
 rw [aa];refine wpAny_pure (a:=some dx) (wpAny_bind (wpAny_pure (wpAny_bind ?_)));refine wpAny_nsSet1 (s:={s with toks:=s.toks+1}) I.ns fun h' U Z=> ?_
 obtain⟨oD,af,ag,ac,ad,ae⟩:=U.count (PySem.Within.cons name v hw);refine wpAny_bind (wpAny_lookBehind ac (by rw [ad];exact pastItsLine_dict (uG ae (by rw [uz];omega))) ?_)
 exact wpAny_pure (h _ ⟨(Z.2 _ (Uu I.ne)).trans I.obj,U,I.ne⟩ Z)
theorem make_map {R:Result->Shared->Prop}{vs:List Value}{U:List (Str×Value)}(X:K.In s.heap)(hm:PySem.W.makesIn K C=true)
  (hi:PySem.W.findIn K (.ref C) "__init__"=some (some (.ref f))) (Z:PySem.W.typeIn K (.ref f)=some (.type "function"))
  (h:codeAny (model prog w) (A.under (.builtin "type.__call__" ⟨.ref C::vs,U⟩)) (.call (.ref f) ⟨.ref (s.heap.objs.size+1)::vs,U⟩) (PySem.W.InitBack (s.heap.objs.size+1) R)
   {s with heap:=(s.heap.push PySem.W.emptyDict).push (PySem.W.instObj C s.heap.objs.size)}):
  codeAny (model prog w) A (.call (.ref C) ⟨vs,U⟩) R s:=by
 obtain⟨hh,g,d,t,os⟩:=s;exact PySem.W.make_core (PySem.W.makes_of X hm) (PySem.W.looks_findIn X hi) (fun self=>PySem.W.bind_fn X self Z) (.inl rfl) h
end
def putF (f:Str)(v:V):List (Str×V)->List (Str×V)
 | []=> [(f,v)]
 |(g,x)::r=>if g=f then(g,v)::r else(g,x)::putF f v r
theorem Jo (f g:Str)(v:V):∀fs:List (Str×V),(putF f v fs).lookup g=if g=f then some v else fs.lookup g
 | []=>by
  show List.lookup g [(f,v)]=_;by_cases h:g=f
  ·have U:(g==f)=true:=beq_iff_eq.mpr h;simp only [List.lookup,U,if_pos h]
  ·have U:(g==f)=false:=beq_eq_false_iff_ne.mpr h;simp only [List.lookup,U,if_neg h]
 |(k,x)::r=>by
  have ih:=Jo f g v r;rw [show putF f v ((k,x)::r)=(if k=f then(k,v)::r else(k,x)::putF f v r) from rfl]
  by_cases Z:k=f
  ·rw [if_pos Z];by_cases h:g=k
   ·have U:(g==k)=true:=beq_iff_eq.mpr h;simp only [List.lookup,U,if_pos (h.trans Z)]
   ·have U:(g==k)=false:=beq_eq_false_iff_ne.mpr h;simp only [List.lookup,U,if_neg (fun e:g=f=>h (e.trans Z.symm))]
  ·rw [if_neg Z];by_cases h:g=k
   ·have U:(g==k)=true:=beq_iff_eq.mpr h;simp only [List.lookup,U,if_neg (fun e:g=f=>Z (h.symm.trans e))]
   ·have U:(g==k)=false:=beq_eq_false_iff_ne.mpr h;simp only [List.lookup,U];exact ih
theorem JA (f:Str)(v:V):∀fs:List (Str×V),f∈(putF f v fs).map (·.1)/\∀g,g∈fs.map (·.1)->g∈(putF f v fs).map (·.1)
 | []=>⟨by simp [putF],fun g h=>by simp at h⟩
 |(k,x)::r=>by
  obtain⟨Z,i2⟩:=JA f v r;rw [show putF f v ((k,x)::r)=(if k=f then(k,v)::r else(k,x)::putF f v r) from rfl]
  by_cases U:k=f
  ·rw [if_pos U];subst U;exact⟨by simp,fun g h=>by simpa using h⟩
  ·rw [if_neg U];refine⟨?_,fun g h=> ?_⟩
   ·rw [ui];exact ue _ Z
   ·rw [ui] at h⊢;rcases List.mem_cons.mp h with e|e
    ·exact List.mem_cons.mpr (.inl e)
    ·exact ue _ (i2 g e)
theorem Js (f:Str)(v:V):∀fs:List (Str×V),(putF f v fs).length<=fs.length+1
 | []=>by simp [putF]
 |(k,x)::r=>by
  have Z:=Js f v r;rw [show putF f v ((k,x)::r)=(if k=f then(k,v)::r else(k,x)::putF f v r) from rfl]
  by_cases U:k=f
  ·rw [if_pos U,uz,uz];omega
  ·rw [if_neg U,uz,uz];omega
theorem RelO.some_of {v:V}{o:Option Value}(r:RelO (some v) o):∃u,o=some u/\RelV v u:=by
 cases o with
 |none=>exact(show False from r).elim
 |some u=>exact⟨u,rfl,r⟩
theorem RelO.none_of {o:Option Value}(r:RelO none o):o=none:=by
 cases o with
 |none=>rfl
 |some u=>exact(show False from r).elim
theorem handed_of {v:V}{u:Value}(r:RelV v u):PySem.W.handedIn u=true:=by
 cases v with
 |non=>cases(show u=Value.none from r);rfl
 |bl b=>cases(show u=Value.bool b from r);rfl
 |int i=>obtain⟨t,e⟩:=(show∃t,u=Value.int i t from r);cases e;rfl
 |str x=>obtain⟨t,e⟩:=(show∃t,u=Value.str x t from r);cases e;rfl
 |byt b=>obtain⟨t,e⟩:=(show∃t,u=Value.bytes b t from r);cases e;rfl
 |flt b=>obtain⟨t,e⟩:=(show∃t,u=Value.float b t from r);cases e;rfl
 |ref a=>cases(show u=Value.ref a from r);rfl
 |ty n=>cases(show u=Value.type n from r);rfl
section
variable {P:Program}{w:World}{H H':Hp}{h h':Heap}{a C dx:Addr}{fs fs':List (Str×V)}
theorem x6 (hok:HOk P w H h)(e:H a=some (.ins C dx fs)):∃mA,ObjM h a dx C mA/\(∀f,RelO (fs.lookup f) (mA f))/\PySem.Within mA (fs.map (·.1))/\fs.length<=1000/\H dx=some (.own a):=by
 obtain⟨d,z,ne,U,mA,n,r,q⟩:=(show qY P w H h a (.ins C dx fs) from hok a _ e)
 exact⟨mA,⟨U,n,ne⟩,r,q,z,d⟩
end
structure Cls (K:PySem.W.Frag)(C:Addr):Prop where
 pg:PySem.W.plainGet K C Str.empty=true
 hd:PySem.W.hasDictIn K C=true
 po:PySem.W.plainOver K C=true
 sa:PySem.W.findIn K (.ref C) "__setattr__"=some (some (.builtin "object.__setattr__"))
theorem Cls.get {K:PySem.W.Frag}{C:Addr}(c:Cls K C)(f:Str):PySem.W.plainGet K C f=true:=c.pg
def Jf (K:PySem.W.Frag)(C:Addr)(f:Str):Prop:=PySem.W.findIn K (.ref C) f=some none
theorem Jf.taker {K:PySem.W.Frag}{C:Addr}{f:Str}(n:Jf K C f):PySem.W.takerIn K C f=some none:=by
 unfold PySem.W.takerIn;rw [show PySem.W.findIn K (.ref C) f=some none from n]
 rfl
structure Meth (K:PySem.W.Frag)(C:Addr)(m:Str)(f:Addr):Prop where
 at_:PySem.W.findIn K (.ref C) m=some (some (.ref f))
 fn:PySem.W.isFn K (.ref f)=true
 kp:PySem.W.keepIn K (.ref f)=true
section
variable {X:Cx}{pins:List (Addr×Obj)}{σ:St}{H:Hp}{s:Shared}{a C dx:Addr}{fs:List (Str×V)}{f:Str}{v:V}{A:Around}{E:Value->Shared->Prop}
theorem getattr_ok {b:Bool}{Q:Value->Shared->Prop}(I:Inv X pins σ H s)(e:H a=some (.ins C dx fs))(c:Cls X.K C)(n:Jf X.K C f)(l:fs.lookup f=some v)
  (h:∀u s',Inv X pins σ H s'->RelV v u->Q u s'):wpAny (model X.prog X.w) A (getAttr (.ref a) f b) Q E s:=by
 obtain⟨mA,O,r,_,_,_⟩:=x6 I.hok e;obtain⟨u,Z,U⟩:=RelO.some_of (v:=v) (o:=mA f) (by rw [<-l];exact r f)
 exact get_map I.kIn O (c.get f) c.hd n Z (handed_of U) (h u _ (I.tok _) U)
theorem J6 {m:Str}{g:Addr}{pl:Sem Bool}{Q:Value×List Value->Shared->Prop}(I:Inv X pins σ H s)(e:H a=some (.ins C dx fs))(c:Cls X.K C)(k:Meth X.K C m g)(l:fs.lookup m=none)
  (h:Q (.ref g,[.ref a]) s):wpAny (model X.prog X.w) A (getMethod (.ref a) m pl) Q E s:=by
 obtain⟨mA,O,r,_,_,_⟩:=x6 I.hok e;have hn:mA m=none:=RelO.none_of (by rw [<-l];exact r m)
 exact get_meth I.kIn O (c.get m) k.at_ k.fn hn h
theorem setattr_ok {y:V}{u:Value}{Q:Unit->Shared->Prop}(I:Inv X pins σ H s)(e:H a=some (.ins C dx fs))(c:Cls X.K C)(n:Jf X.K C f)(hl:fs.length<1000)(ry:RelV y u)
  (h:∀s',Inv X pins σ (upd H a (.ins C dx (putF f y fs))) s'->Q () s'):wpAny (model X.prog X.w) A (setAttr (.ref a) f u) Q E s:=by
 obtain⟨mA,O,r,Z,_,ho⟩:=x6 I.hok e;have hz:(fs.map (·.1)).length<=sizeLine:=by rw [u1,uv];omega
 refine set_map I.kIn O c.sa c.po n.taker c.hd Z hz fun h' U sb=>h _ ?_;have hd:∃o,h'.get? dx=some o:=let⟨o,_,_,e',_⟩:=U.ns;⟨o,e'⟩;refine I.write (x:=a) (e:=dx) (by rw [e];exact True.intro) (.inr ho) (fun b q hb z=>(sb.2 b hb).trans z) hd ?_
 refine⟨by rw [ql O.ne];exact ho,?_,O.ne,U.obj,_,U.ns,fun g=> ?_,fun g hg=> ?_⟩
 ·have:=Js f y fs;omega
 ·show RelO ((putF f y fs).lookup g) (if g=f then some u else mA g)
  rw [Jo];by_cases q:g=f
  ·rw [if_pos q,if_pos q];exact ry
  ·rw [if_neg q,if_neg q];exact r g
 ·by_cases q:g=f
  ·rw [q];exact(JA f y fs).1
  ·refine(JA f y fs).2 g (Z g fun z=>hg ?_);show(if g=f then some u else mA g)=none
   rw [if_neg q];exact z
theorem Inv.made (I:Inv X pins σ H s):Inv X pins σ (upd (upd H s.heap.objs.size (.own (s.heap.objs.size+1))) (s.heap.objs.size+1) (.ins C s.heap.objs.size []))
  {s with heap:=(s.heap.push PySem.W.emptyDict).push (PySem.W.instObj C s.heap.objs.size)}:=by
 have U:(s.heap.push PySem.W.emptyDict).get? s.heap.objs.size=some PySem.W.emptyDict:=uc s.heap rfl;have Z:((s.heap.push PySem.W.emptyDict).push (PySem.W.instObj C s.heap.objs.size)).get? (s.heap.objs.size+1)=some (PySem.W.instObj C s.heap.objs.size):=by
  have:=uc (s.heap.push PySem.W.emptyDict) (o:=PySem.W.instObj C s.heap.objs.size) rfl
  rwa [uY] at this
 have e3:(s.heap.push PySem.W.emptyDict).Ns s.heap.objs.size (fun _=>none):=⟨PySem.W.emptyDict,#[],_,U,rfl,(fun e he=>absurd he (by simp)),fun _=>rfl⟩
 have I1:=I.laid (a:=s.heap.objs.size) (o:= .own (s.heap.objs.size+1)) (h':=s.heap.push PySem.W.emptyDict) (t':=s.toks) (fun b u q=>u5 _ q) (u8 _) ⟨_,U⟩;refine I1.laid (a:=s.heap.objs.size+1) (o:= .ins C s.heap.objs.size []) (t':=s.toks) (fun b u q=>u5 _ q) (V1 (uY _ _)) ?_;have ne:s.heap.objs.size≠s.heap.objs.size+1:=uq (V4 _);refine⟨by rw [ql ne,qd],vh _,ne,Z,fun _=>none,(Heap.Ns1.of_empty e3).at fun o q=>u5 _ q,fun _=>True.intro,fun y hy=>absurd rfl hy⟩
theorem attr_of {prog:Program}{w:World}{env:Env}{e:Expr}{f:Str}{pos:Pos}{s:Shared}{Q:Value->Shared->Prop}(U:attributeBase e f env (eval e env)=eval e env)
  (h:wpAny (model prog w) A (eval e env) (fun o Z=>wpAny (model prog w) A (getAttr o f true) Q E Z) E s):wpAny (model prog w) A (eval (.Attribute e f pos) env) Q E s:=
 Attribute_any_ h (by rw [arm_eval_Attribute,U])
end
def tFld (K:PySem.W.Frag)(ta:TE)(f:Str):TE:=fun σ H Q=>ta σ H fun x H1=>∃a C dx fs v,x= .ref a/\H1 a=some (.ins C dx fs)/\Cls K C/\Jf K C f/\fs.lookup f=some v/\Q v H1
def sFld (K:PySem.W.Frag)(ta tv:TE)(f:Str):TS:=fun D σ H=>tv σ H fun y H1=>ta σ H1 fun x H2=>∃a C dx fs,x= .ref a/\H2 a=some (.ins C dx fs)/\Cls K C/\Jf K C f/\fs.length<1000/\
 D.nx σ (upd H2 a (.ins C dx (putF f y fs)))
section
variable {X:Cx}{o e value:Expr}{f:Str}{pos pos' tpos:Pos}{ta tv:TE}
theorem pe_fld (U:PE X e ta)(Z:attributeBase e f X.env (eval e X.env)=eval e X.env):PE X (.Attribute e f pos) (tFld X.K ta f):=by
 intro pins s σ H Q I h;refine attr_of Z (thn (U pins s σ H _ I h) fun u s1 ⟨x,H1,I1,rx,a,C,dx,fs,v,ex,ea,c,n,l,q⟩=> ?_);subst ex;obtain rfl:u=Value.ref a:=rx;exact getattr_ok I1 ea c n l fun u' s2 I2 ru=>⟨v,H1,I2,ru,q⟩
theorem ps_fld (ha:PE X o ta)(U:PE X value tv)(Z:swapsWith value (some (.Attribute o f pos')) pos.line X.env=pure false):PS X (.Assign [.Attribute o f pos'] value pos) (sFld X.K ta tv f):=by
 intro pins s σ H D I h;refine plainObj_wpAny_Assign_Attribute (thn (U pins s σ H _ I h) fun u s1 ⟨y,H1,I1,ry,q⟩=>thn (ha pins s1 σ H1 _ I1 q) fun ov s2 ⟨x,H2,I2,rx,a,C,dx,fs,ex,ea,c,n,l,q2⟩=> ?_) Z;subst ex;obtain rfl:ov=Value.ref a:=rx;exact setattr_ok I2 ea c n l ry fun s3 I3=>⟨σ,_,I3,q2⟩
end
section
variable {X:Cx}{pins:List (Addr×Obj)}{σ:St}{H:Hp}{s:Shared}{A:Around}{E:Value->Shared->Prop}{Q:Value->Shared->Prop}{c:Value}{b:Bool}
inductive TyOf (K:PySem.W.Frag) (H:Hp):V->Value->Prop where
 |non:TyOf K H .non (.type "NoneType")
 |bl (x:Bool):TyOf K H (.bl x) (.type "bool")
 |int (i:Int):TyOf K H (.int i) (.type "int")
 |str (x:Str):TyOf K H (.str x) (.type "str")
 |flt (x:UInt64):TyOf K H (.flt x) (.type "float")
 |lst {a:Addr}{xs:List V} (e:H a=some (.lst xs)):TyOf K H (.ref a) (.type "list")
 |frz {a:Addr}{o:Obj}{xs:List V} (e:H a=some (.frz o (.lst xs))):TyOf K H (.ref a) (.type "list")
 |tup {a:Addr}{xs:List V} (e:H a=some (.tup xs)):TyOf K H (.ref a) (.type "tuple")
 |dK {a:Addr}{kvs:List (Key×V)} (e:H a=some (.dK kvs)):TyOf K H (.ref a) (.type "dict")
 |dT {a:Addr}{kvs:List (List Key×V)} (e:H a=some (.dT kvs)):TyOf K H (.ref a) (.type "dict")
 |ins {a C dx:Addr}{fs:List (Str×V)} (e:H a=some (.ins C dx fs)) (cl:Cls K C) (ha:PySem.W.findIn K (.ref C) "__class__"=some (some (.builtin "object.__class__")))
   (hn:PySem.W.specialIn K (.builtin "object.__class__") "__get__"=some (some (.builtin "getset_descriptor.__get__"))) (htk:PySem.W.takesIn K (.builtin "object.__class__")=some true)
   (hm:PySem.W.mroIn K C (.type "object")=some true):TyOf K H (.ref a) (.ref C)
theorem isinst_ok {x:V}{u t:Value}(I:Inv X pins σ H s)(U:RelV x u)(ty:TyOf X.K H x t)(e:PySem.W.kitOne X.K t c=some b)(h:∀tk,Q (.bool b) {s with toks:=tk}):
  wpAny (model X.prog X.w) A (call (.builtin "isinstance") [u,c]) Q E s:=by
 cases ty with
 |non=>cases(show u=Value.none from U);exact vj PySem.W.kitx_none I.kIn True.intro e (fun z=>nomatch z) h
 |bl y=>cases(show u=Value.bool y from U);exact vj PySem.W.kitx_bool I.kIn True.intro e (fun z=>nomatch z) h
 |int i=>obtain⟨t,q⟩:=(show∃t,u=Value.int i t from U);cases q;exact vj PySem.W.kitx_int I.kIn True.intro e (fun z=>nomatch z) h
 |str y=>obtain⟨t,q⟩:=(show∃t,u=Value.str y t from U);cases q;exact vj PySem.W.kitx_str I.kIn True.intro e (fun z=>nomatch z) h
 |flt y=>obtain⟨t,q⟩:=(show∃t,u=Value.float y t from U);cases q;exact vj PySem.W.kitx_float I.kIn True.intro e (fun z=>nomatch z) h
 | @lst a xs ea=>
  cases(show u=Value.ref a from U)
  obtain⟨_,_,n,_,h1⟩:=(show qY X.prog X.w H s.heap a (.lst xs) from I.hok a _ ea)
  exact vj PySem.W.kitx_list I.kIn ⟨_,h1,rfl⟩ e (fun z=>nomatch z) h
 | @frz a ob xs ea=>
  cases(show u=Value.ref a from U)
  obtain⟨_,_,_,n,_,h1⟩:=(show qY X.prog X.w H s.heap a (.frz ob (.lst xs)) from I.hok a _ ea)
  exact vj PySem.W.kitx_list I.kIn ⟨_,h1,rfl⟩ e (fun z=>nomatch z) h
 | @tup a xs ea=>
  cases(show u=Value.ref a from U)
  obtain⟨_,_,_,p⟩:=(show qY X.prog X.w H s.heap a (.tup xs) from I.hok a _ ea)
  obtain⟨o,h1,h2,_⟩:=p;exact vj PySem.W.kitx_tuple I.kIn ⟨o,h1,h2⟩ e (fun z=>nomatch z) h
 | @dK a kvs ea=>
  cases(show u=Value.ref a from U)
  obtain⟨_,_,vs,_,p⟩:=(show qY X.prog X.w H s.heap a (.dK kvs) from I.hok a _ ea)
  obtain⟨o,es,ep,h1,h2,_⟩:=p;exact vj PySem.W.kitx_dict I.kIn ⟨o,h1,h2.1⟩ e (fun z=>nomatch z) h
 | @dT a kvs ea=>
  cases(show u=Value.ref a from U)
  obtain⟨_,_,xs,_,o,es,ep,h1,h2,_⟩:=(show qY X.prog X.w H s.heap a (.dT kvs) from I.hok a _ ea)
  exact vj PySem.W.kitx_dict I.kIn ⟨o,h1,h2.1⟩ e (fun z=>nomatch z) h
 | @ins a C dx fs ea cl ha hn htk hm=>
  cases(show u=Value.ref a from U)
  obtain⟨mA,O,_⟩:=x6 I.hok ea;obtain⟨od,J,_⟩:=O.look;exact vj (PySem.W.kitx_own (cl.get _) cl.hd ha hn htk hm) I.kIn J e (fun z=>nomatch z) h
end
structure Room (k:Nat)(A:Around):Prop where
 hd:A.handled=none
 dp:A.depth+3*k+5<recursionLimit
 un:A.units+16*k+200<cLine
theorem Room.mono {j k:Nat}{A:Around}(r:Room k A)(h:j<=k):Room j A:=⟨r.hd,by have:=r.dp;omega,by have:=r.un;omega⟩
theorem Room.deeper {k:Nat}{A:Around}(r:Room (k+1) A)(env:Env):Room k (A.deeper env):=
 ⟨r.hd,by have:=r.dp;show A.depth+1+3*k+5<_;omega,by have:=r.un;show A.units+3+16*k+200<_;omega⟩
theorem make_depth {A:Around}{C:Addr}{us:List Value}{U:List (Str×Value)}:(A.under (.builtin "type.__call__" ⟨.ref C::us,U⟩)).depth=A.depth+1:=by
 first|rfl|simp [Around.under,Code.weight,Code.isCreation,Code.isGuard,Code.isCaller,Code.frames,Code.isFrame,guardIds]
theorem make_units {A:Around}{C:Addr}{us:List Value}{U:List (Str×Value)}:(A.under (.builtin "type.__call__" ⟨.ref C::us,U⟩)).units=A.units+1:=by
 first|rfl|simp [Around.under,Code.cUnits,Code.frames,Code.isFrame]
theorem Room.make {k:Nat}{A:Around}(r:Room (k+1) A)(C:Addr)(us:List Value)(U:List (Str×Value)):Room k (A.under (.builtin "type.__call__" ⟨.ref C::us,U⟩)):=
 ⟨r.hd,by have:=r.dp;rw [make_depth];omega,by have:=r.un;rw [make_units];omega⟩
theorem Room.depth {k:Nat}{A:Around}(r:Room k A):A.depth<recursionLimit:=by have:=r.dp;omega
theorem Room.units {k:Nat}{A:Around}(r:Room k A):A.units+64<cLine:=by have:=r.un;omega
def tNil:TA:=fun _ H Q=>Q [] H
def tCons (ta:TE)(tr:TA):TA:=fun σ H Q=>ta σ H fun x H1=>tr σ H1 fun xs H2=>Q (x::xs) H2
section
variable {X:Cx}{e:Expr}{es:List Expr}{te:TE}{t:TA}{pos:Pos}
theorem qb:PA X [] tNil:=fun _ _ _ _ H Q I h=>U9 ⟨[],H,I,.nil,h⟩
theorem qa (ha:PE X e te)(U:PA X es t)(Z:starEach (e::es) X.env=(false,eval e X.env)::starEach es X.env:=by rfl):PA X (e::es) (tCons te t):=by
 intro pos pins s σ H Q I h;rw [Z];show wpAny _ _ (spliced ((false,eval e X.env)::backTo pos (starEach es X.env))) _ _ s;refine vK (thn (ha pins s σ H _ I h) fun u s1 ⟨x,H1,I1,r1,q1⟩=> ?_);exact thn (U pos pins s1 σ H1 _ I1 q1) fun us s2 ⟨xs,H2,I2,r2,q2⟩=>⟨x::xs,H2,I2,.cons r1 r2,q2⟩
def tTup (t:TA):TE:=fun σ H Q=>t σ H fun xs H1=>xs.length<=sizeLine/\∀p,H1 p=none->Q (.ref p) (upd H1 p (.tup xs))
def tLst (t:TA):TE:=fun σ H Q=>t σ H fun xs H1=>xs.length<=sizeLine/\∀p,H1 p=none->Q (.ref p) (upd H1 p (.lst xs))
theorem qP {x1}(h:PA X es t):PE X (.Tuple es x1 pos) (tTup t):=by
 intro pins s σ H Q I Z;refine wpAny_Tuple_spliced (thn (h pos pins s σ H _ I Z) fun us s1 ⟨xs,H1,U,r,z,q⟩=>⟨by rw [<-r.length];exact z,?_⟩)
 have hf:H1 s1.heap.objs.size=none:=U.hok.fresh (u8 _);refine⟨.ref s1.heap.objs.size,upd H1 s1.heap.objs.size (.tup xs),U.laid (t':=s1.toks) (fun b u e=>u5 _ e) (u8 _) ?_,rfl,q _ hf⟩;exact⟨z,us,r,⟨_,uc _ rfl,rfl,_,rfl⟩⟩
theorem yi (h:PA X es t):PE X (.List es pos) (tLst t):=by
 intro pins s σ H Q I Z;refine wpAny_List_spliced (thn (h pos pins s σ H _ I Z) fun us s1 ⟨xs,H1,U,r,z,q⟩=>⟨by rw [<-r.length];exact z,?_⟩)
 have hf:H1 s1.heap.objs.size=none:=U.hok.fresh (u8 _);refine⟨.ref s1.heap.objs.size,upd H1 s1.heap.objs.size (.lst xs),U.laid (t':=s1.toks) (fun b u e=>u5 _ e) (u8 _) ?_,rfl,q _ hf⟩;exact⟨z,us,0,r,uc _ rfl⟩
end
abbrev Sp:=List V->Hp->VK->XK->Prop
abbrev CXT:=List Env->Hp->Shared->XK->Value->Shared->Prop
structure Env0 (P:Program)(w:World)(K:PySem.W.Frag)(mg:Str->Option Value)(base:Heap)(A:Around)(outer:List Env)(s:Shared)(H:Hp):Prop where
 frames:A.frames=some outer
 mod:Mod K mg base
 bs:∀b o,base.get? b=some o->s.heap.get? b=some o/\H b=none
 bsz:base.objs.size<=s.heap.objs.size
 funs:s.heap.FunFrames base outer
 frf:∀b∈frs outer,H b=none
 hok:HOk P w H s.heap
 bare:AllBare s.gens
def CE (outer:List Env)(P:Program)(w:World)(H:Hp)(s:Shared)(Q:VK)(u:Value)(s':Shared):Prop:=
 ∃v H',s'.os=s.os/\AllBare s'.gens/\0<s'.toks/\Un (frs outer) [] H H' s.heap s'.heap/\HOk P w H' s'.heap/\RelV v u/\Q v H'
def CR (CX:CXT)(outer:List Env)(P:Program)(w:World)(H:Hp)(s:Shared)(Q:VK)(E:XK)(r:Result)(s':Shared):Prop:=
 match r with
 | .ok (.ret u)=>CE outer P w H s Q u s'
 | .ok _=>False
 | .error e=>CX outer H s E e s'
structure FnOk (P:Program)(w:World)(K:PySem.W.Frag)(mg:Str->Option Value)(base:Heap)(CX:CXT)(k:Nat)(f:Addr)(fd:FuncData)(ps:List Str)(sp:Sp):Prop where
 len:∀vs H Q E,sp vs H Q E->vs.length=ps.length
 run:∀(A:Around) (outer:List Env) (s:Shared) (H:Hp) (args:Args) (us:List Value) (vs:List V) (Q:VK) (E:XK),Room k A->Env0 P w K mg base A outer s H->BindsTo s fd args (ps.zip us)->Vals vs us->sp vs H Q E->(0<s.toks∨∃x r,ps=x::r/\fd.scope.names.lookup x=some .local)->
  codeAny (model P w) A (.call (.ref f) args) (CR CX outer P w H s Q E) s
theorem Env0.make {P:Program}{w:World}{K:PySem.W.Frag}{mg:Str->Option Value}{base:Heap}{A:Around}{outer:List Env}{s:Shared}{H:Hp}(e:Env0 P w K mg base A outer s H)(C:Addr)(us:List Value)(U:List (Str×Value)):
  Env0 P w K mg base (A.under (.builtin "type.__call__" ⟨.ref C::us,U⟩)) outer s H:=⟨by first|exact e.frames|(simpa [Around.under,Code.envs,Code.isFrame,pushEnvs] using e.frames),e.mod,e.bs,e.bsz,e.funs,e.frf,e.hok,e.bare⟩
section
variable {X:Cx}{pins:List (Addr×Obj)}{σ:St}{H:Hp}{s s':Shared}
theorem Inv.env0 (I:Inv X pins σ H s):Env0 X.prog X.w X.K X.mg X.base X.A X.stack s H:=
 ⟨I.ok.frames,I.ok.mod,I.bs,uG I.ok.bsz I.sz,I.stack,I.stkFree,I.hok,I.bare⟩
theorem Inv.after {Q:VK}{u:Value}(I:Inv X pins σ H s)(h:CE X.stack X.prog X.w H s Q u s'):EP X pins σ Q u s':=by
 obtain⟨v,H',os,bare,htk,un,hok,r,q⟩:=h;obtain⟨Z,g,d,t,U⟩:=s';obtain rfl:U=s.os:=os;exact⟨v,H',I.call (h':=Z) (g':=g) (d':=d) (t':=t) (ch:= []) un hok bare (fun b z=>absurd z (by simp)),r,q⟩
end
def tCall (sp:Sp)(dvs:List V)(E:XK)(t:TA):TE:=fun σ H Q=>t σ H fun vs H1=>sp (vs++dvs) H1 Q E
def tMeth (C:Addr)(m:Str)(sp:Sp)(dvs:List V)(E:XK)(ta:TE)(t:TA):TE:=fun σ H Q=>ta σ H fun x H1=>∃a dx fs,x= .ref a/\H1 a=some (.ins C dx fs)/\fs.lookup m=none/\
 t σ H1 fun vs H2=>sp (x::(vs++dvs)) H2 Q E
def tMake (C:Addr)(sp:Sp)(dvs:List V)(E:XK)(t:TA):TE:=fun σ H Q=>t σ H fun vs H1=>∀x dx,H1 x=none->H1 dx=none->dx≠x->
 sp (.ref x::(vs++dvs)) (upd (upd H1 dx (.own x)) x (.ins C dx [])) (fun v H2=>v= .non/\Q (.ref x) H2) E
def jy (K:PySem.W.Frag)(fd:FuncData)(ps:List Str)(ds:List Value):Prop:=
 ∀(s:Shared) (us:List Value),K.In s.heap->(us++ds).length=ps.length->BindsTo s fd ⟨us,[]⟩ (ps.zip (us++ds))
theorem jy.all {K:PySem.W.Frag}{fd:FuncData}{ps:List Str}(h:∀us:List Value,us.length=ps.length->bindArgs fd ⟨us,[]⟩=pure (ps.zip us)):jy K fd ps []:=fun s us _ U=>by
 rw [vU] at U⊢;exact .of_eq (h us U)
def jm (CX:CXT)(X:Cx)(E:XK):Prop:=∀(pins:List (Addr×Obj)) (σ:St) (H:Hp) (s:Shared) (e:Value) (s':Shared),Inv X pins σ H s->CX X.stack H s E e s'->X.xe e s'
section
variable {X:Cx}{CX:CXT}{k:Nat}{f C:Addr}{fd:FuncData}{ps:List Str}{sp:Sp}{dvs:List V}{ds:List Value}{E:XK}{x m:Str}{p pos apos:Pos}{e o:Expr}{es:List Expr}{ta:TE}{t:TA}
theorem run_fn {pins:List (Addr×Obj)}{σ:St}{H:Hp}{s:Shared}{Q:VK}{us:List Value}{vs:List V}(F:FnOk X.prog X.w X.K X.mg X.base CX k f fd ps sp)(hr:Room k X.A)(hb:jy X.K fd ps ds)(hd:Vals dvs ds)(hx:jm CX X E)
  (I:Inv X pins σ H s) (r:Vals vs us) (h:sp (vs++dvs) H Q E):wpAny (model X.prog X.w) X.A (call (.ref f) us) (EP X pins σ Q) X.xe s:=by
 have Z:Vals (vs++dvs) (us++ds):=r.append hd;have hl:(us++ds).length=ps.length:=by rw [<-Z.length];exact F.len _ _ _ _ h
 refine wpAny_call (UG (F.run X.A X.stack s H ⟨us,[]⟩ (us++ds) (vs++dvs) Q E hr I.env0 (hb s us I.kIn hl) Z h (.inl I.tk)) fun r s' U=> ?_);cases r with
 |error e=>exact hx pins σ H s e s' I U
 |ok fl=>
  cases fl with
  |ret u=>exact I.after U
  |next=>exact False.elim U
  |brk=>exact False.elim U
  |cont=>exact False.elim U
theorem qj (F:FnOk X.prog X.w X.K X.mg X.base CX k f fd ps sp)(hr:Room k X.A)(hg:Gl X x)(hm:X.mg x=some (.ref f))(hk:PySem.W.keepIn X.K (.ref f)=true)(hb:jy X.K fd ps ds)(hd:Vals dvs ds)(hx:jm CX X E)
  (ha:PA X (e::es) t) (U:(x==("__debug__":Str))=false:=by decide) (he:starEach (e::es) X.env=(false,eval e X.env)::starEach es X.env:=by rfl) (Z:(backTo pos (starEach es X.env)).any (·.1)=false:=by rfl):
  PE X (.Call (.Name x p) (e::es) [] pos) (tCall sp dvs E t):=by
 intro pins s σ H Q I h;refine vt (xU I hg hm ?_ U);refine PySem.W.callWith_K (h₀:=X.base) I.ok.mod.kin hk (thn (ha pos pins s σ H _ I h) fun us s1 ⟨vs,H1,I1,r,q⟩=>⟨I1.kIn,?_⟩) he Z;exact run_fn F hr hb hd hx I1 r q
theorem pe_call0 (F:FnOk X.prog X.w X.K X.mg X.base CX k f fd ps sp)(Z:Room k X.A)(hg:Gl X x)(hm:X.mg x=some (.ref f))(hk:PySem.W.keepIn X.K (.ref f)=true)(hb:jy X.K fd ps ds)(hd:Vals dvs ds)(hx:jm CX X E)
  (U:(x==("__debug__":Str))=false:=by decide):PE X (.Call (.Name x p) [] [] pos) (tCall sp dvs E tNil):=by
 intro pins s σ H Q I h;refine vt (xU I hg hm ?_ U);exact PySem.W.callWith_K0 I.kIn hk (run_fn (us:= []) F Z hb hd hx I .nil h)
theorem Yc {pl:Sem Bool}(he:PE X o ta)(c:Cls X.K C)(hm:Meth X.K C m f)(F:FnOk X.prog X.w X.K X.mg X.base CX k f fd ps sp)(hr:Room k X.A)(hb:jy X.K fd ps ds)(hd:Vals dvs ds)(hx:jm CX X E)(ha:PA X (e::es) t)
  (U:starEach (e::es) X.env=(false,eval e X.env)::starEach es X.env:=by rfl) (Z:(backTo pos (starEach es X.env)).any (·.1)=false:=by rfl)
  (ht:eval (.Call (.Attribute o m apos) (e::es) [] pos) X.env=(do
   let ov<-eval o X.env
   standAt apos.atName
   let(f,first)<-holding [ov] (getMethod ov m pl)
   callWith pos f first (backTo pos (starEach (e::es) X.env)) (backToKw pos (keywordEach [] X.env))):=by rfl):
  PE X (.Call (.Attribute o m apos) (e::es) [] pos) (tMeth C m sp dvs E ta t):=by
 intro pins s σ H Q I h;refine PySem.W.methodCall_KW (pl:=pl) (thn (he pins s σ H _ I h) fun u s1 ⟨x,H1,I1,rx,a,dx,fs,ex,ea,l,q⟩=> ?_) ht;subst ex;obtain rfl:u=Value.ref a:=rx;refine J6 I1 ea c hm l ?_;refine PySem.W.callWith_K (first:= [.ref a]) (h₀:=X.base) I.ok.mod.kin hm.kp (thn (ha pos pins s1 σ H1 _ I1 q) fun us s2 ⟨vs,H2,I2,r,q2⟩=>⟨I2.kIn,?_⟩) U Z;exact run_fn (us:= .ref a::us) (vs:= .ref a::vs) F hr hb hd hx I2 (.cons rfl r) q2
theorem yO {pl:Sem Bool}(Z:PE X o ta)(c:Cls X.K C)(hm:Meth X.K C m f)(F:FnOk X.prog X.w X.K X.mg X.base CX k f fd ps sp)(hr:Room k X.A)(hb:jy X.K fd ps ds)(hd:Vals dvs ds)(hx:jm CX X E)
  (ht:eval (.Call (.Attribute o m apos) [] [] pos) X.env=(do
   let ov<-eval o X.env
   standAt apos.atName
   let(f,first)<-holding [ov] (getMethod ov m pl)
   callWith pos f first (backTo pos (starEach [] X.env)) (backToKw pos (keywordEach [] X.env))):=by rfl):
  PE X (.Call (.Attribute o m apos) [] [] pos) (tMeth C m sp dvs E ta tNil):=by
 intro pins s σ H Q I h;refine PySem.W.methodCall_KW (pl:=pl) (thn (Z pins s σ H _ I h) fun u s1 ⟨x,H1,U,rx,a,dx,fs,ex,ea,l,q⟩=> ?_) ht;subst ex;obtain rfl:u=Value.ref a:=rx;refine J6 U ea c hm l ?_;exact PySem.W.callWith_K0 (first:= [.ref a]) U.kIn hm.kp (run_fn (us:= [.ref a]) (vs:= [.ref a]) F hr hb hd hx U (.cons rfl .nil) q)
structure Mk (K:PySem.W.Frag)(C f:Addr):Prop where
 makes:PySem.W.makesIn K C=true
 init:PySem.W.findIn K (.ref C) "__init__"=some (some (.ref f))
 fn:PySem.W.isFn K (.ref f)=true
 kp:PySem.W.keepIn K (.ref C)=true
theorem run_make {pins:List (Addr×Obj)}{σ:St}{H:Hp}{s:Shared}{Q:VK}{us:List Value}{vs:List V}(M:Mk X.K C f)(F:FnOk X.prog X.w X.K X.mg X.base CX k f fd ps sp)(hr:Room (k+1) X.A)(hb:jy X.K fd ps ds)(hd:Vals dvs ds)
  (hx:jm CX X E) (I:Inv X pins σ H s) (r:Vals vs us)
  (h:∀x dx,H x=none->H dx=none->dx≠x->sp (.ref x::(vs++dvs)) (upd (upd H dx (.own x)) x (.ins C dx [])) (fun v H2=>v= .non/\Q (.ref x) H2) E):
  wpAny (model X.prog X.w) X.A (call (.ref C) us) (EP X pins σ Q) X.xe s:=by
 have hq:=h (s.heap.objs.size+1) s.heap.objs.size (I.hok.fresh (Nat.le_succ _)) (I.hok.fresh (u8 _)) (uq (V4 _));have Z:=Inv.made (C:=C) I;have r2:Vals (V.ref (s.heap.objs.size+1)::(vs++dvs)) (Value.ref (s.heap.objs.size+1)::(us++ds)):= .cons rfl (r.append hd);have hl:(Value.ref (s.heap.objs.size+1)::us++ds).length=ps.length:=by
  have e:=r2.length;rw [F.len _ _ _ _ hq] at e;exact e.symm
 refine wpAny_call (make_map (f:=f) I.kIn M.makes M.init (beq_iff_eq.mp M.fn) (UG (F.run _ X.stack _ _ ⟨Value.ref (s.heap.objs.size+1)::us,[]⟩ (Value.ref (s.heap.objs.size+1)::(us++ds)) _ _ E (hr.make C us [])
  (Z.env0.make C us []) (hb _ (Value.ref (s.heap.objs.size+1)::us) Z.kIn hl) r2 hq (.inl Z.tk)) fun r s' U=> ?_))
 cases r with
 |error e=>exact hx pins σ _ _ e s' Z U
 |ok fl=>
  cases fl with
  |ret u=>
   obtain⟨v,H',I3,rv,ev,q3⟩:=Z.after U;subst ev;exact⟨rv,⟨V.ref (s.heap.objs.size+1),H',I3,rfl,q3⟩⟩
  |next=>exact False.elim U
  |brk=>exact False.elim U
  |cont=>exact False.elim U
theorem xY (M:Mk X.K C f)(F:FnOk X.prog X.w X.K X.mg X.base CX k f fd ps sp)(hr:Room (k+1) X.A)(hg:Gl X x)(hm:X.mg x=some (.ref C))(hb:jy X.K fd ps ds)(hd:Vals dvs ds)(hx:jm CX X E)
  (ha:PA X (e::es) t) (U:(x==("__debug__":Str))=false:=by decide) (he:starEach (e::es) X.env=(false,eval e X.env)::starEach es X.env:=by rfl) (Z:(backTo pos (starEach es X.env)).any (·.1)=false:=by rfl):
  PE X (.Call (.Name x p) (e::es) [] pos) (tMake C sp dvs E t):=by
 intro pins s σ H Q I h;refine vt (xU I hg hm ?_ U);refine PySem.W.callWith_K (h₀:=X.base) I.ok.mod.kin M.kp (thn (ha pos pins s σ H _ I h) fun us s1 ⟨vs,H1,I1,r,q⟩=>⟨I1.kIn,?_⟩) he Z;exact run_make M F hr hb hd hx I1 r q
end
def PK (X:Cx)(kws:List Keyword)(t:TA):Prop:=
 ∀(pos:Pos) (pins:List (Addr×Obj)) (s:Shared) (σ:St) (H:Hp) (Q:List V->Hp->Prop),Inv X pins σ H s->t σ H Q->wpAny (model X.prog X.w) X.A (evalAll ((backToKw pos (keywordEach kws X.env)).map (·.2))) (AP X pins σ Q) X.xe s
section
variable {X:Cx}{CX:CXT}{k:Nat}{f C:Addr}{fd:FuncData}{ps ks:List Str}{sp:Sp}{E:XK}{x m:Str}{p pos apos kpos:Pos}{e o:Expr}{es:List Expr}{kws:List Keyword}{te ta:TE}{t tk:TA}{nm:Option Str}
theorem pk_nil:PK X [] tNil:=fun _ _ _ _ H Q I h=>wpAny_evalAll_nil ⟨[],H,I,.nil,h⟩
theorem pk_cons (ha:PE X e te)(U:PK X kws t):PK X (⟨nm,e,kpos⟩::kws) (tCons te t):=by
 intro pos pins s σ H Q I h;show wpAny _ _ (evalAll ((do let v<-eval e X.env;standAt pos;pure v)::(backToKw pos (keywordEach kws X.env)).map (·.2))) _ _ s
 refine wpAny_evalAll_cons (wpAny_bind (thn (ha pins s σ H _ I h) fun u s1 ⟨x,H1,Z,r1,q1⟩=>wpAny_bind (wpAny_standAt (wpAny_pure ?_))));exact thn (U pos pins s1 σ H1 _ Z q1) fun us s2 ⟨xs,H2,I2,r2,q2⟩=>⟨x::xs,H2,I2,.cons r1 r2,q2⟩
variable {g:List Value->List Value->List Value}{gV:List V->List V->List V}
end
structure qA (N P:List Str)(sc:Scope):Prop where
 kind:sc.kind= .function
 co:sc.isCoroutine=false
 gen:sc.isGenerator=false
 nd:N.Nodup
 pre:N.take P.length=P
 par:∀x∈P,sc.names.lookup x=some .local∨sc.names.lookup x=some .cell
 nofree:∀y∈sc.names,y.2≠ .free
theorem bindL_out {kindOf:Str->Option NameKind}{x:Str}:∀{binds:List (Str×Value)}{m:Str->Option Value},(∀v,(x,v)∉binds)->bindL kindOf binds m x=m x
 | [],_,_=>rfl
 |(n,v)::r,m,h=>by
  unfold bindL;rw [bindL_out fun w U=>h w (ue _ U)];split
  ·have:x≠n:=by rintro rfl;exact h v uo
   simp [this]
  ·rfl
theorem bindC_out {kindOf:Str->Option NameKind}{x:Str}:∀{binds:List (Str×Value)}{m:Str->Option Value},(∀v,(x,v)∉binds)->bindC kindOf binds m x=m x
 | [],_,_=>rfl
 |(n,v)::r,m,h=>by
  unfold bindC;rw [bindC_out fun w U=>h w (ue _ U)];split
  ·rfl
  ·have:x≠n:=by rintro rfl;exact h v uo
   simp [this]
theorem bindL_get {kindOf:Str->Option NameKind}{x:Str}{v:Value}:∀{P:List Str}{vs:List Value}{i:Nat}{m:Str->Option Value},P.Nodup->P[i]? =some x->vs[i]? =some v->kindOf x=some .local->
  bindL kindOf (P.zip vs) m x=some v
 | [],_,_,_,_,h,_,_=>by simp at h
 |_::_,[],_,_,_,_,h,_=>by simp at h
 |p::P,w::vs,0,m,nd,h1,h2,hk=>by
  simp at h1 h2;subst h1;subst h2;show bindL kindOf ((p,w)::P.zip vs) m p=_;unfold bindL;rw [bindL_out fun v U=>(List.nodup_cons.mp nd).1 (List.of_mem_zip U).1,if_pos hk];simp
 |p::P,w::vs,i+1,m,nd,h1,h2,hk=>by
  show bindL kindOf ((p,w)::P.zip vs) m x=_;unfold bindL;exact bindL_get (i:=i) (List.nodup_cons.mp nd).2 (by simpa using h1) (by simpa using h2) hk
theorem bindC_get {kindOf:Str->Option NameKind}{x:Str}{v:Value}:∀{P:List Str}{vs:List Value}{i:Nat}{m:Str->Option Value},P.Nodup->P[i]? =some x->vs[i]? =some v->kindOf x≠some .local->
  bindC kindOf (P.zip vs) m x=some v
 | [],_,_,_,_,h,_,_=>by simp at h
 |_::_,[],_,_,_,_,h,_=>by simp at h
 |p::P,w::vs,0,m,nd,h1,h2,hk=>by
  simp at h1 h2;subst h1;subst h2;show bindC kindOf ((p,w)::P.zip vs) m p=_;unfold bindC;rw [bindC_out fun v U=>(List.nodup_cons.mp nd).1 (List.of_mem_zip U).1,if_neg hk];simp
 |p::P,w::vs,i+1,m,nd,h1,h2,hk=>by
  show bindC kindOf ((p,w)::P.zip vs) m x=_;unfold bindC;exact bindC_get (i:=i) (List.nodup_cons.mp nd).2 (by simpa using h1) (by simpa using h2) hk
def start (N:List Str)(vs:List V):St:=vs.map some++List.replicate (N.length-vs.length) none
def cxOf (CX:CXT)(P:Program)(w:World)(K:PySem.W.Frag)(mg:Str->Option Value)(base:Heap)(N:List Str)(qual:Str)(scope:Scope)(f:Addr)(cd:Value)(A:Around)(outer:List Env)(s:Shared)(H:Hp)(E:XK):Cx where
 prog:=P
 w:=w
 K:=K
 mg:=mg
 base:=base
 A:=A.deeper (envOfC qual scope s.heap.objs.size f cd)
 N:=N
 s₀:=s
 H₀:=H
 env:=envOfC qual scope s.heap.objs.size f cd
 outer:=outer
 stack:=envOfC qual scope s.heap.objs.size f cd::outer
 ex:= []
 calm:=true
 fn:=fun _=>true
 pn:= []
 xe:=fun e s'=>wpAny (model P w) (A.deeper (envOfC qual scope s.heap.objs.size f cd)) (leaving (envOfC qual scope s.heap.objs.size f cd) e) (fun _ s''=>CX outer H s E e s'') (fun e' s''=>CX outer H s E e' s'') s'
theorem cell_has {sc:Scope}{n:Nat}{x:Str}(h:sc.names.lookup x=some .cell):∃c,(cellsFrom n sc.names []).lookup x=some c:=by
 have q:=PySem.W.cellsFrom_some sc.names n [] (.inl h);exact Option.isSome_iff_exists.mp q
theorem inv_start {CX:CXT}{P:Program}{w:World}{K:PySem.W.Frag}{mg:Str->Option Value}{base:Heap}{N ps:List Str}{qual:Str}{scope:Scope}{f:Addr}{cd:Value}{A:Around}{outer:List Env}{s s1:Shared}{H:Hp}{E:XK}{us:List Value}{vs:List V}
  (S:qA N ps scope) (hd:A.handled=none) (U:Env0 P w K mg base A outer s H) (hl:vs.length=ps.length) (r:Vals vs us)
  (x:InCallC s s.heap.objs.size (bindL (envOfC qual scope s.heap.objs.size f cd).kindOf (ps.zip us) fun _=>none) (cellsFrom (s.heap.objs.size+1) scope.names []) (bindC (envOfC qual scope s.heap.objs.size f cd).kindOf (ps.zip us) fun _=>none) s1) (ac:0<s1.toks):
  Inv (cxOf CX P w K mg base N qual scope f cd A outer s H E) [] (start N vs) H s1:=by
 have ad:ps.length<=N.length:=by have:=congrArg List.length S.pre;rw [uA] at this;omega
 obtain⟨h1,tk,rfl,hk⟩:=x.done;have Z:∀b:Addr,b∉(cxOf CX P w K mg base N qual scope f cd A outer s H E).ex:=fun b z=>absurd (show b∈([]:List Addr) from z) (by simp)
 refine⟨⟨U.mod,S.kind,rfl,rfl,u8 _,fun y z c h1 h2=> ?_,fun y hy=> ?_,fun y c _ h=> ?_,fun _=>hd,Around.frames_deeper U.frames,.inr ⟨rfl,rfl⟩,fun b z=>absurd z (Z b),U.bs,U.bsz,fun b _ _=>Z b,fun b z=>absurd z (Z b),U.funs,U.frf⟩,
  rfl,U.bare,Un.kept hk,⟨_,x.toInCall.ns,fun i y v h1 h2 h3=> ?_⟩,fun y c h=>⟨_,x.cell y c h⟩,U.hok.fresh (u8 _),fun y c h=> ?_,fun p hp=>absurd (show p∈([]:List (Addr×Obj)) from hp) (by simp),U.hok.kept hk,?_,ac⟩
 ·exact name_of_addr x.apart (vD h1) (vD h2)
 ·have hy:scope.names.lookup y=some .cell∨scope.names.lookup y=some .free:=hy;rcases hy with hy|hy
  ·exact cell_has hy
  ·exact absurd rfl (S.nofree _ (vD hy))
 ·exact vm (x.above y c (vD h))
 ·have hi:i<vs.length:=by
   unfold start at h2;by_cases hi:i<vs.length
   ·exact hi
   ·rw [uJ (by simpa using hi)] at h2
    rw [List.getElem?_replicate] at h2;split at h2<;>cases h2
  have ha:vs[i]? =some v:=by
   unfold start at h2;rw [uR (by simpa using hi),uk] at h2
   cases e:vs[i]? with
   |none=>rw [e] at h2;cases h2
   |some a=>rw [e] at h2;cases h2;rfl
  obtain⟨u,hu,rv⟩:=r.get ha;have hp:ps[i]? =some y:=by
   rw [<-S.pre,List.getElem?_take_of_lt (by omega)];exact h1
  have aa:ps.Nodup:=by rw [<-S.pre];exact S.nd.sublist (Ua _ _)
  refine⟨u,rv,?_⟩;rcases S.par y (uK hp) with k|k
  ·exact .inl ⟨k,bindL_get aa hp hu k⟩
  ·obtain⟨c,e⟩:=cell_has (n:=s.heap.objs.size+1) k;refine .inr ⟨.inl k,c,e,?_⟩;have q:=x.cell y c e;rw [bindC_get aa hp hu (by show scope.names.lookup y≠_;rw [k];decide)] at q
   exact q
 ·exact U.hok.fresh (vm (x.above y c (vD h)))
 ·unfold start;show _=N.length;rw [u7,u1,List.length_replicate];omega
theorem bindParams1 {M:Model}{A:Around}{E:Value->Shared->Prop}{s₀ s:Shared}{m cm:Str->Option Value}{env:Env}(f:Str×Value->PUnit->Sem (ForInStep PUnit))(hf:∀n v u,f (n,v) u=(do storeName env n v;pure (.yield ⟨⟩)))(U:env.scope.kind= .function)
  (n:Str) (v:Value) (r:List (Str×Value)) (Q:PUnit->Shared->Prop) (x:InCallC s₀ env.locals m env.cells cm s) (hl:env.kindOf n=some .local)
  (aa:∀x∈r,env.kindOf x.1=some .local∨(env.kindOf x.1=some .cell/\(env.cells.lookup x.1).isSome=true))
  (h:∀s',InCallC s₀ env.locals (bindL env.kindOf ((n,v)::r) m) env.cells (bindC env.kindOf ((n,v)::r) cm) s'->0<s'.toks->Q ⟨⟩ s'):wpAny M A (forIn ((n,v)::r) ⟨⟩ f) Q E s:=by
 rw [List.forIn_cons,hf];refine wpAny_bind (wpAny_bind (wpAny_storeName_local hl x.toInCall.ns (fun h' ac Z=>wpAny_pure ?_) (by rw [U];rfl)))
 have x1:InCallC s₀ env.locals (fun y=>if y=n then some v else m y) env.cells cm {s with heap:=h',toks:=s.toks+1}:=by
  refine⟨⟨?_,ac,fun b o e=> ?_,x.toInCall.fresh⟩,fun k c hc=> ?_,x.apart,x.above⟩
  ·obtain⟨h₁,tk,rfl⟩:=x.toInCall.same;exact⟨h',_,rfl⟩
  ·have:=x.toInCall.keep b o e;exact Z.extBut b o (uq (Nat.lt_of_lt_of_le (uh e) x.toInCall.fresh)) (x.toInCall.keep b o e)
  ·exact(x.cell k c hc).sameBut Z (vR (x.above k c (mem_of_lookup hc)))
 refine ux (n:=1) (Nat.succ_le_succ (vh _)) (wpAny_bindParams f hf U r _ _ _ _ x1 aa fun s' y h1=>h s' ?_ h1);unfold bindL bindC;rw [if_pos hl,if_pos hl];exact y
theorem newEnv_tk {M:Model}{A:Around}{E:Value->Shared->Prop}{s:Shared}{scope:Scope}{globals:Addr}{binds:List (Str×Value)}{qual:Str}{func:Option Addr}{U:Value}{builtins:Addr}{Q:Env->Shared->Prop}
  (aa:scope.kind= .function)
  (ac:∀x∈binds,scope.names.lookup x.1=some .local∨(scope.names.lookup x.1=some .cell/\((cellsFrom (s.heap.objs.size+1) scope.names []).lookup x.1).isSome=true))
  (htk:0<s.toks∨∃n v r,binds=(n,v)::r/\scope.names.lookup n=some .local)
  (hq:∀en,en=newEnv scope s.heap.objs.size globals (cellsFrom (s.heap.objs.size+1) scope.names []) qual func U none builtins->
   ∀s',InCallC s en.locals (bindL en.kindOf binds fun _=>none) en.cells (bindC en.kindOf binds fun _=>none) s'->0<s'.toks->Q en s'):
  wpAny M A (newFunctionEnv scope globals [] binds qual func U none builtins) Q E s:=by
 rcases htk with htk|⟨n,v,r,rfl,hl⟩
 ·exact ux (n:=1) htk (wpAny_newFunctionEnv_cells aa ac fun env he s' x h1=>hq env he s' x h1)
 ·simp only [newFunctionEnv,Option.isSome_none,ug,uU];refine wpAny_bind (wpAny_alloc ?_);refine wpAny_bind (wpAny_layCells _ (fun name kind cells=>by cases ad:kind==NameKind.cell<;>simp [ad]) _ _ _ _ ?_)
  have Z:=cellsFrom_ok scope.names (s.heap.push {cls:= .type "frame",data:= .dict #[]}) (s.heap.objs.size+1) [] ⟨fun _ _ hm=>(nomatch hm),List.Pairwise.nil⟩ (by rw [uY];exact u8 _);rw [uY] at Z;rw [show({s with heap:=s.heap.push {cls:= .type "frame",data:= .dict #[]}}:Shared).heap.objs.size=s.heap.objs.size+1 from uY ..]
  exact wpAny_bind (bindParams1 (s₀:=s) (env:=newEnv scope s.heap.objs.size globals (cellsFrom (s.heap.objs.size+1) scope.names []) qual func U none builtins)
   _ (fun _ _ _=>rfl) aa n v r _
   ⟨⟨⟨_,_,by rfl⟩,(Heap.Ns.new s.heap (.type "frame")).keeps (pushCells_keeps _ _),fun b o e=>pushCells_keeps _ _ b o (u5 _ e),u8 _⟩,
    fun m c hc=>(Z.empty m c (mem_of_lookup hc)).1,Z.apart,fun n c hm=>(Z.empty n c hm).2⟩
   hl (fun y hy=>ac y (ue _ hy)) fun s' x h1=>wpAny_pure (hq _ rfl s' x h1))
theorem fn_of {CX:CXT}{P:Program}{w:World}{K:PySem.W.Frag}{mg:Str->Option Value}{base:Heap}{k:Nat}{f:Addr}{name qual:Str}{U:Arguments}{Z:List Stmt}{scope:Scope}{dV kV doc pm cdv ct oc:Value}{an od:Option Addr}
  {osl:Array (Option Value)}{N ps:List Str}{sp:Sp} (lk:K.lookup f=some ⟨oc,od,.func (PySem.W.fnOf name qual U Z scope dV kV doc pm an cdv ct),osl⟩) (af:PySem.W.codeIn K cdv qual=true) (S:qA N ps scope)
  (len:∀vs H Q E,sp vs H Q E->vs.length=ps.length)
  (aa:∀(A:Around) (outer:List Env) (s:Shared) (H:Hp) (vs:List V) (Q:VK) (E:XK),Room k (A.deeper (envOfC qual scope s.heap.objs.size f cdv))->sp vs H Q E->
   ∃t,PSs (cxOf CX P w K mg base N qual scope f cdv A outer s H E) Z t/\t {nx:=fun _ H'=>Q .non H',rt:=Q} (start N vs) H):
  FnOk P w K mg base CX (k+1) f (PySem.W.fnOf name qual U Z scope dV kV doc pm an cdv ct) ps sp:=by
 refine⟨len,fun A outer s H args us vs Q E hr e0 hb r ad htk=> ?_⟩;have hl:=len _ _ _ _ ad;have KX:K.In s.heap:=e0.mod.kin.keeps fun b o e=>(e0.bs b o e).1;have ag:s.heap.NoLimit:=e0.mod.nolimit.keeps fun b o e=>(e0.bs b o e).1;have ac:∀y∈ps.zip us,scope.names.lookup y.1=some .local∨(scope.names.lookup y.1=some .cell/\((cellsFrom (s.heap.objs.size+1) scope.names []).lookup y.1).isSome=true):=fun⟨n,v⟩ hy=>by
  rcases S.par n (List.of_mem_zip hy).1 with q|q
  ·exact .inl q
  ·exact .inr ⟨q,PySem.W.cellsFrom_some _ _ _ (.inl q)⟩
 have ae:0<s.toks∨∃n v r,ps.zip us=(n,v)::r/\scope.names.lookup n=some .local:=by
  rcases htk with h|⟨y,q,e,hy⟩
  ·exact .inl h
  ·have:us.length=ps.length:=by rw [<-r.length];exact hl
   subst e
   match us,this with
   |u::us',_=>exact .inr ⟨y,u,q.zip us',rfl,hy⟩
 refine codeAny_call_function hr.depth (KX _ _ lk) rfl S.co S.gen rfl (PySem.W.codeRec_of KX af) (hb _ _ _ _ ?_);refine newEnv_tk S.kind ac ae fun env he s1 x ah=> ?_;subst he;refine⟨ag.keeps x.toInCall.keep,codeAny_func ?_⟩;obtain⟨t,ht,hq⟩:=aa A outer s H vs Q E (hr.deeper _) ad;have I:Inv (cxOf CX P w K mg base N qual scope f cdv A outer s H E) [] (start N vs) H s1:=inv_start S hr.hd e0 hl r x ah;refine vi (ht [] s1 (start N vs) H _ I hq) (fun fl s' hs=> ?_) fun e s' hs=>hs;have fin:∀{σ':St}{H':Hp}{v:V}{u:Value},Inv (cxOf CX P w K mg base N qual scope f cdv A outer s H E) [] σ' H' s'->RelV v u->Q v H'->CE outer P w H s Q u s':=
  fun{σ' H' v u} J rv q=>⟨v,H',J.os,J.bare,J.tk,J.base,J.hok,rv,q⟩
 cases fl with
 |ret u=>
  obtain⟨v,σ',H',J,rv,q⟩:=hs;exact fin J rv q
 |next=>
  obtain⟨σ',H',J,q⟩:=hs;exact fin (v:=V.non) (u:=Value.none) J rfl q
 |brk=>
  obtain⟨_,_,_,q⟩:=hs;exact False.elim q
 |cont=>
  obtain⟨_,_,_,q⟩:=hs;exact False.elim q
section
variable {X:Cx}{x:Str}{p pos:Pos}{e:Expr}{es:List Expr}{t:TA}{id T:String}{r:List V->Hp->VK->Prop}
def tCB (r:List V->Hp->VK->Prop)(t:TA):TE:=fun σ H Q=>t σ H fun vs H1=>r vs H1 Q
theorem qk (hc:Qn X (.builtin id) r)(hg:Gl X x)(hm:X.mg x=none)(hv:bootBuiltins x=some (.builtin id))(ha:PA X (e::es) t)(hn:x≠"__name__":=by decide)(U:(x==("__debug__":Str))=false:=by decide)
  (he:starEach (e::es) X.env=(false,eval e X.env)::starEach es X.env:=by rfl) (Z:(backTo pos (starEach es X.env)).any (·.1)=false:=by rfl):PE X (.Call (.Name x p) (e::es) [] pos) (tCB r t):=by
 intro pins s σ H Q I h;refine vt (JD I hg hm hv ?_ hn U);exact PyProof.Rows.callWith_builtin1 (thn (ha pos pins s σ H _ I h) fun us s1 ⟨vs,H1,I1,r1,q1⟩=>hc pins s1 σ H1 vs us Q I1 r1 q1) he Z
theorem qF (hc:Qn X (.type T) r)(hg:Gl X x)(hm:X.mg x=none)(hv:bootBuiltins x=some (.type T))(ha:PA X (e::es) t)(hn:x≠"__name__":=by decide)(U:(x==("__debug__":Str))=false:=by decide)
  (he:starEach (e::es) X.env=(false,eval e X.env)::starEach es X.env:=by rfl) (Z:(backTo pos (starEach es X.env)).any (·.1)=false:=by rfl):PE X (.Call (.Name x p) (e::es) [] pos) (tCB r t):=by
 intro pins s σ H Q I h;refine vt (JD I hg hm hv ?_ hn U);exact vT (thn (ha pos pins s σ H _ I h) fun us s1 ⟨vs,H1,I1,r1,q1⟩=>hc pins s1 σ H1 vs us Q I1 r1 q1) he Z
end
end L2
namespace HT
open PySem PyProof.Rows
section
variable {prog:Program}{w:World}{A:Around}{E:Value->Shared->Prop}{s:Shared}
theorem cat_tup {t b:Addr}{vs ws:List Value}{Q:Value->Shared->Prop}(ht:IsTup s.heap t vs.toArray)(hb:IsTup s.heap b ws.toArray)(hv:vs≠ [])
  (h1:ws= []->Q (.ref t) s) (h2:ws≠ []->Q (.ref s.heap.objs.size) {s with heap:=s.heap.push {cls:= .type "tuple",data:= .seq (vs++ws).toArray}})
  (hsz:vs.length+ws.length<=sizeLine):wpAny (model prog w) A (binaryOp .Add (.ref t) (.ref b)) Q E s:=by
 obtain⟨⟨cls,dd,data,sl⟩,ho,hc,n,hd⟩:=id ht;obtain⟨⟨af,Z,ae,aa⟩,U,ac,n2,ad⟩:=id hb;simp only at hc hd ac ad;subst hc hd ac ad;have e:vs.toArray++ws.toArray=(vs++ws).toArray:=by simp
 by_cases hw:ws= []
 ·exact concat_meets ⟨_,ho,rfl⟩ ⟨_,U,rfl⟩ noFill_tuple_add seq_tuple_add PySem.F.slot_tuple_add UP (UH _ _)
   (tuple_addW1 t b vs.toArray ws.toArray n n2 dd Z sl aa (by simpa using hv) (by simp [hw])) ⟨ho,U,h1 hw⟩
 ·refine concat_meets ⟨_,ho,rfl⟩ ⟨_,U,rfl⟩ noFill_tuple_add seq_tuple_add PySem.F.slot_tuple_add UP (UH _ _)
   (tuple_addW2 t b vs.toArray ws.toArray n n2 dd Z sl aa (by simpa using hv) (by simpa using hw) (by rw [ub,ub];exact hsz)) ⟨ho,U,?_⟩
  rw [e];exact h2 hw
def sIx (n d:Nat):Option Int->Nat
 |none=>d
 |some v=>if v<0 then(v+(n:Int)).toNat else min v.toNat n
end
end HT
namespace L2
open PySem PySem.Spec PyProof.Rows
abbrev TO:=St->Hp->(Option Int->Hp->Prop)->Prop
def PO (X:Cx)(e:Option Expr)(t:TO):Prop:=
 ∀(pins:List (Addr×Obj)) (s:Shared) (σ:St) (H:Hp) (Q:Option Int->Hp->Prop),Inv X pins σ H s->t σ H Q->
  wpAny (model X.prog X.w) X.A (evalPart e X.env) (fun u s'=>∃o H',Inv X pins σ H' s'/\IsPart u o/\Q o H') X.xe s
def tNoPart:TO:=fun _ H Q=>Q none H
def tPart (t:TE):TO:=fun σ H Q=>t σ H fun x H1=>∃i,x= .int i/\Q (some i) H1
theorem JW {ns:List Int}:∀{us:List Value},Vals (ns.map V.int) us->IntsAre us ns:=by
 induction ns with
 |nil=>intro us r;rw [V2] at r;cases r;exact .nil
 |cons n ns U=>
  intro us r;rw [ui] at r;cases r with
  |cons Z r2=>
   obtain⟨t,e⟩:=Z;subst e;exact .cons n t (U r2)
section
variable {X:Cx}{e:Expr}{te:TE}{lo hi:Option Expr}{tl th:TO}{pos p2:Pos}
theorem Jl:PO X none tNoPart:=by
 intro pins s σ H Q I h;rw [evalPart_none];exact wpAny_pure ⟨none,H,I,.none,h⟩
theorem Jm (h:PE X e te):PO X (some e) (tPart te):=by
 intro pins s σ H Q I U;rw [evalPart_some];refine thn (h pins s σ H _ I U) fun u s1 ⟨x,H1,Z,r1,q1⟩=> ?_;obtain⟨i,rfl,q⟩:=q1;obtain⟨t,rfl⟩:=r1;exact⟨some i,H1,Z,.int i t,q⟩
def SlR (X:Cx)(r:V->Option Int->Option Int->Hp->VK->Prop):Prop:=
 ∀(pins:List (Addr×Obj)) (s:Shared) (σ:St) (H:Hp) (x:V) (v vl vu:Value) (lo hi:Option Int) (sl:Addr) (Q:VK),Inv X pins σ H s->RelV x v->s.heap.IsSliceOf sl vl vu .none->IsPart vl lo->IsPart vu hi->r x lo hi H Q->
  ∃T id,typeLookup (.type T) "__getitem__"=pure (some (.builtin id))/\s.TypeIs v T/\wpAny (model X.prog X.w) X.A (getItem v (.ref sl)) (EP X pins σ Q) X.xe s
def tSl (r:V->Option Int->Option Int->Hp->VK->Prop)(te:TE)(tl th:TO):TE:=fun σ H Q=>te σ H fun x H1=>tl σ H1 fun l H2=>th σ H2 fun u H3=>r x l u H3 Q
theorem YE {r:V->Option Int->Option Int->Hp->VK->Prop}(hr:SlR X r)(he:PE X e te)(hl:PO X lo tl)(hu:PO X hi th):PE X (.Subscript e (.Slice lo hi none p2) pos) (tSl r te tl th):=by
 intro pins s σ H Q I h;refine Subscript_ (thn (he pins s σ H _ I h) fun v s1 ⟨x,H1,I1,r1,q1⟩=> ?_);refine wpAny_Slice (thn (hl pins s1 σ H1 _ I1 q1) fun Z s2 ⟨l,H2,I2,pl,q2⟩=>thn (hu pins s2 σ H2 _ I2 q2) fun vu U ⟨u,H3,I3,pu,q3⟩=> ?_);rw [evalPart_none];refine wpAny_pure ?_;have I4:Inv X pins σ H3 {U with heap:=U.heap.push {cls:= .type "slice",data:= .fields #[Z,vu,.none]}}:=I3.kept (t':=U.toks) fun b ob q=>u5 _ q
 obtain⟨T,id,hT,ht,hg⟩:=hr pins {U with heap:=U.heap.push {cls:= .type "slice",data:= .fields #[Z,vu,.none]}} σ H3 x v Z vu l u U.heap.objs.size Q I4 r1 (Heap.IsSliceOf.new ..) pl pu q3
 show wpAny (model X.prog X.w) X.A (subscriptTail e (.Slice lo hi none p2) v (.ref U.heap.objs.size)) (EP X pins σ Q) X.xe {U with heap:=U.heap.push {cls:= .type "slice",data:= .fields #[Z,vu,.none]}}
 exact tail_any (ops:= [.ref U.heap.objs.size,v]) ht hT hg (by with_unfolding_all rfl)
def cutV (xs:List V)(lo hi:Option Int):List V:=(xs.drop (HT.sIx xs.length 0 lo)).take (HT.sIx xs.length xs.length hi-HT.sIx xs.length 0 lo)
theorem cutV_length (xs:List V)(lo hi:Option Int):(cutV xs lo hi).length<=xs.length:=by
 unfold cutV;rw [uA,ve];omega
def rCatT (K:PySem.W.Frag):R2:=fun x y H Q=>∃a b xs ys,x= .ref a/\y= .ref b/\SqT K H a xs/\SqT K H b ys/\xs≠ []/\xs.length+ys.length<=sizeLine/\
 (ys= []->Q (.ref a) H)/\(ys≠ []->∀p,H p=none->Q (.ref p) (upd H p (.tup (xs++ys))))
theorem Vals.nil_iff {xs:List V}{us:List Value}(r:Vals xs us):us= []↔xs= []:=by
 cases r with
 |nil=>simp
 |cons _ _=>simp
theorem op_catT:OpR X (binaryOp .Add) (rCatT X.K):=by
 intro pins s σ H x y v u Q I rx ry h;obtain⟨a,b,xs,ys,rfl,rfl,ha,hb,hx,hz,q1,q2⟩:=h;cases rx;cases ry;obtain⟨its,Z,p1,_⟩:=I.tuple ha;obtain⟨aa,U,p2,_⟩:=I.tuple hb;refine HT.cat_tup p1 p2 (fun z=>hx (Z.nil_iff.mp z)) (fun z=>⟨.ref a,H,I,rfl,q1 (U.nil_iff.mp z)⟩) (fun z=> ?_) (by rw [<-Z.length,<-U.length];exact hz)
 refine⟨.ref s.heap.objs.size,_,I.laid (t':=s.toks) (o:= .tup (xs++ys)) (fun b ob q=>u5 _ q) (u8 _) ?_,rfl,q2 (fun w=>z (U.nil_iff.mpr w)) _ (I.hok.fresh (u8 _))⟩;exact⟨by rw [u7];exact hz,_,Z.append U,IsTup.new _ _⟩
end
def ixN (n:Nat)(i:Int):Option Nat:=if 0<=i then(if i<n then some i.toNat else none) else if-(n:Int)<=i then some (i+n).toNat else none
def atI {α:Type}(xs:List α)(i:Int):Option α:=(ixN xs.length i).bind fun j=>xs[j]?
theorem ixN_seq {n:Nat}{i:Int}{j:Nat}(h:ixN n i=some j):seqIndex? i n=some j/\j<n/\ -(n:Int)<=i/\i<n:=by
 unfold ixN at h;by_cases U:0<=i
 ·rw [if_pos U] at h;by_cases h1:i<n
  ·rw [if_pos h1] at h;have e:i.toNat=j:=uQ h;exact⟨by rw [seqIndex_of U h1,e],by omega,by omega,h1⟩
  ·rw [if_neg h1] at h;cases h
 ·rw [if_neg U] at h;by_cases h1: -(n:Int)<=i
  ·rw [if_pos h1] at h;have e:(i+n).toNat=j:=uQ h;exact⟨by rw [seqIndex_neg (by omega) h1,e],by omega,h1,by omega⟩
  ·rw [if_neg h1] at h;cases h
theorem xT {α:Type}{xs:List α}{i:Int}{v:α}(h:atI xs i=some v):∃j,seqIndex? i xs.length=some j/\xs[j]? =some v/\j<xs.length/\ -(xs.length:Int)<=i/\i<xs.length:=by
 unfold atI at h;cases e:ixN xs.length i with
 |none=>rw [e] at h;cases h
 |some j=>
  rw [e] at h;obtain⟨h1,h2,U,h4⟩:=ixN_seq e;exact⟨j,h1,h,h2,U,h4⟩
theorem Xc {α:Type}{xs:List α}{j:Nat}{v:α}(h:xs[j]? =some v):atI xs (j:Int)=some v:=by
 have U:j<xs.length:=(List.getElem?_eq_some_iff.mp h).1;have e:ixN xs.length (j:Int)=some j:=by
  unfold ixN;rw [if_pos (by omega),if_pos (by omega)];simp
 unfold atI;rw [e];exact h
def PlainIx (b:Expr):Prop:=∀o i,subscripted b false o i=operate [o,i] (getItem o i)
def IxR (X:Cx)(r:R2):Prop:=
 ∀(value slice:Expr) (pins:List (Addr×Obj)) (s:Shared) (σ:St) (H:Hp) (x y:V) (v u:Value) (Q:VK),Inv X pins σ H s->RelV x v->RelV y u->r x y H Q->
  subscripted slice false v u=operate [v,u] (getItem v u)->wpAny (model X.prog X.w) X.A (subscriptTail value slice v u) (EP X pins σ Q) X.xe s
def MtR (X:Cx)(id:String)(r:V->List V->Hp->VK->Prop):Prop:=
 ∀(pins:List (Addr×Obj)) (s:Shared) (σ:St) (H:Hp) (x:V) (xs:List V) (v:Value) (us:List Value) (Q:VK),Inv X pins σ H s->RelV x v->Vals xs us->r x xs H Q->
  wpAny (model X.prog X.w) X.A (call (.builtin id) (v::us)) (EP X pins σ Q) X.xe s
section
variable {X:Cx}{a b:Expr}{ta tb:TE}{pos:Pos}
theorem IxR.or {r Z:R2}(h:IxR X r)(h':IxR X Z):IxR X (fun x y H Q=>r x y H Q∨Z x y H Q):=by
 intro value U pins s σ H x y v u Q I rx ry q hs;rcases q with q|q
 ·exact h value U pins s σ H x y v u Q I rx ry q hs
 ·exact h' value U pins s σ H x y v u Q I rx ry q hs
theorem qL {r:R2}(U:IxR X r)(ha:PE X a ta)(Z:PE X b tb)(hs:PlainIx b):PE X (.Subscript a b pos) (tOp r ta tb):=by
 intro pins s σ H Q I h;exact Subscript_ (binT ha Z I h fun v u s2 x y H2 I2 rx ry q=>U a b pins s2 σ H2 x y v u Q I2 rx ry q (hs _ _))
def rIxL (K:PySem.W.Frag):R2:=fun x y H Q=>∃p xs i v,x= .ref p/\y= .int i/\SqL K H p xs/\atI xs i=some v/\Q v H
def rIxT (K:PySem.W.Frag):R2:=fun x y H Q=>∃p xs i v,x= .ref p/\y= .int i/\SqT K H p xs/\atI xs i=some v/\Q v H
def rIxS:R2:=fun x y H Q=>∃z i c,x= .str z/\y= .int i/\z.length<=sizeLine/\atI z.cps.toList i=some c/\Q (.str ⟨#[c]⟩) H
theorem qH:IxR X (rIxL X.K):=by
 intro value U pins s σ H x y v u Q I rx ry h hs;obtain⟨p,xs,i,z,rfl,rfl,hq,he,q⟩:=h;cases rx;obtain⟨t,rfl⟩:=ry;obtain⟨its,r,pl,hz⟩:=I.list hq;obtain⟨j,h1,h2,h3,h4,h5⟩:=xT he;obtain⟨w,ew,Z⟩:=r.get h2;have hl:=r.length;have hn:=jg;have fin:EP X pins σ Q w s:=⟨z,H,I,Z,q⟩;by_cases h0:0<=i
 ·have hj:i.toNat=j:=by
   rw [seqIndex_of h0 h5] at h1;exact uQ h1
  exact item_listR pl.isList h0 (by omega) (by rw [hj];simpa using ew) fin hs
 ·have hj:(i+(its.toArray.size:Int)).toNat=j:=by
   rw [seqIndex_neg (by omega) h4] at h1
   rw [ub,<-hl];exact uQ h1
  exact subscriptTail_builtinR (x:=w) pl.isList.typeIs slot_list_getitem.lookup
   (wpAny_getItem_list_neg (Q:=fun r s'=>r=w/\EP X pins σ Q r s') pl.isList (by omega) (by rw [ub]<;>omega) (by omega) (by rw [hj];simpa using ew) ⟨rfl,fin⟩) hs
theorem y7:IxR X (rIxT X.K):=by
 intro value U pins s σ H x y v u Q I rx ry h hs;obtain⟨p,xs,i,z,rfl,rfl,hq,he,q⟩:=h;cases rx;obtain⟨t,rfl⟩:=ry;obtain⟨its,r,pl,hz⟩:=I.tuple hq;obtain⟨j,h1,h2,h3,h4,h5⟩:=xT he;obtain⟨w,ew,Z⟩:=r.get h2;have hl:=r.length;have hn:=jg;have fin:EP X pins σ Q w s:=⟨z,H,I,Z,q⟩;exact subscriptTail_builtinR (x:=w) pl.typeIs slot_tuple_getitem.lookup
  (getItem_tuple (j:=j) (Q:=fun r s'=>r=w/\EP X pins σ Q r s') pl (by omega) (by omega) (by rw [ub,<-hl];exact h1) (by simpa using ew) ⟨rfl,fin⟩) hs
theorem J4:IxR X rIxS:=by
 intro value U pins s σ H x y v u Q I Z ry h hs;obtain⟨z,i,c,rfl,rfl,hz,he,q⟩:=h;obtain⟨t,rfl⟩:=Z;obtain⟨t',rfl⟩:=ry;obtain⟨j,h1,h2,h3,h4,h5⟩:=xT he;have hl:z.cps.toList.length=z.length:=by simp [Str.length]
 rw [hl] at h1 h4 h5;have hn:=jg;exact tail_any (typeIs_str s z t) slot_str_getitem.lookup (getItem_str (c:=c) (by
  have e1:decide (i< -(2^63:Int))=false:=ua (by omega)
  have e2:decide (i≥2^63)=false:=ua (by omega)
  rw [e1,e2,Bool.or_false]) (by rw [h1];simpa using h2) ⟨.str ⟨#[c]⟩,H,I.tok _,⟨_,rfl⟩,q⟩) hs
def rIx (K:PySem.W.Frag):R2:=fun x y H Q=>rIxL K x y H Q∨rIxT K x y H Q∨rIxS x y H Q
theorem ix_seq:IxR X (rIx X.K):=qH.or (y7.or J4)
theorem mapSeq_set (its:List Value)(n j:Nat)(u:Value):Obj.mapSeq (·.setIfInBounds j u) {cls:= .type "list",data:= .seq its.toArray n}={cls:= .type "list",data:= .seq (its.set j u).toArray n}:=by
 simp [Obj.mapSeq]
theorem Inv.lst {pins:List (Addr×Obj)}{σ:St}{H:Hp}{s:Shared}{p:Addr}{xs:List V}(I:Inv X pins σ H s)(h:H p=some (.lst xs)):
  ∃(its:List Value) (n:Nat),Vals xs its/\s.heap.get? p=some {cls:= .type "list",data:= .seq its.toArray n}/\xs.length<=sizeLine:=by
 obtain⟨z,its,n,r,e⟩:=I.hok p _ h;exact⟨its,n,r,e,z⟩
theorem Inv.lstUpd {pins:List (Addr×Obj)}{σ:St}{H:Hp}{s:Shared}{p:Addr}{xs ys:List V}{its its':List Value}{n U:Nat}{f:Obj->Obj}(I:Inv X pins σ H s)(h:H p=some (.lst xs))
  (ho:s.heap.get? p=some {cls:= .type "list",data:= .seq its.toArray n}) (Z:f {cls:= .type "list",data:= .seq its.toArray n}={cls:= .type "list",data:= .seq its'.toArray U}) (r:Vals ys its') (hz:ys.length<=sizeLine) (t:Nat) (ht:0<t:=by((try dsimp only);first|assumption|exact Inv.tk (by assumption)|exact Nat.succ_pos _|exact Nat.lt_of_lt_of_le (Inv.tk (by assumption)) (by assumption)|exact Nat.add_pos_left (Inv.tk (by assumption)) _|omega)):
  Inv X pins σ (upd H p (.lst ys)) {s with heap:=s.heap.update p f,toks:=t}:=by
 have e:(s.heap.update p f).get? p=some {cls:= .type "list",data:= .seq its'.toArray U}:=by
  rw [Heap.get?_update_self f ho (by rw [Z]<;>rfl),Z]
 refine I.write (x:=p) (e:=p) (by rw [h];trivial) (.inl rfl) (fun b u hb q=>(uB _ _ (Uu hb)).trans q) ⟨_,e⟩ ?_
 exact⟨hz,its',U,r,e⟩
def rSetL:V->V->V->Hp->(Hp->Prop)->Prop:=fun o i v H Q=>∃p xs k j,o= .ref p/\i= .int k/\H p=some (.lst xs)/\ixN xs.length k=some j/\Q (upd H p (.lst (xs.set j v)))
theorem set_list:PSet X rSetL:=by
 intro pins s σ H o i v ov iv u Q I ro ri rv h;obtain⟨p,xs,k,j,rfl,rfl,hp,hj,q⟩:=h;cases ro;obtain⟨t,rfl⟩:=ri;obtain⟨its,n,r,U,hz⟩:=I.lst hp;obtain⟨h1,h2,h3,h4⟩:=ixN_seq hj;have Z:=r.length;have hn:=jg;have I':Inv X pins σ (upd H p (.lst (xs.set j v))) {s with heap:=s.heap.update p (Obj.mapSeq (·.setIfInBounds j u))}:=
  I.lstUpd hp U (mapSeq_set its n j u) (r.set rv j) (by rw [List.length_set];exact hz) s.toks
 by_cases h0:0<=k
 ·have hk:k.toNat=j:=by
   rw [seqIndex_of h0 h4] at h1;exact uQ h1
  exact PySem.W.ki_setAt U h0 (by omega) (by rw [ub,<-Z];exact h4) (by rw [hk];exact⟨_,I',q⟩)
 ·have hk:(k+(its.toArray.size:Int)).toNat=j:=by
   rw [seqIndex_neg (by omega) h3] at h1
   rw [ub,<-Z];exact uQ h1
  exact PySem.W.ki_setBack U (by omega) (by rw [ub,<-Z];exact h3) (by omega) (by rw [hk];exact⟨_,I',q⟩)
theorem slice_bounds (lo hi:Option Int)(n:Nat):(sliceBounds lo hi none n).1=((HT.sIx n 0 lo:Nat):Int)/\(sliceBounds lo hi none n).2.1=((HT.sIx n n hi:Nat):Int)/\(sliceBounds lo hi none n).2.2=1:=by
 refine⟨?_,?_,rfl⟩
 ·cases lo with
  |none=>simp [sliceBounds,HT.sIx]
  |some i=>
   simp only [sliceBounds,HT.sIx,Option.getD_none,show(1:Int)>0 by decide,vg]
   by_cases h:i<0
   ·simp only [h,vg]<;>omega
   ·simp only [h,uU]<;>omega
 ·cases hi with
  |none=>simp [sliceBounds,HT.sIx]
  |some i=>
   simp only [sliceBounds,HT.sIx,Option.getD_none,show(1:Int)>0 by decide,vg]
   by_cases h:i<0
   ·simp only [h,vg]<;>omega
   ·simp only [h,uU]<;>omega
theorem xB (its:List Value)(lo hi:Option Int):slicePick its.toArray lo hi none=((its.drop (HT.sIx its.length 0 lo)).take (HT.sIx its.length its.length hi-HT.sIx its.length 0 lo)).toArray:=by
 obtain⟨h1,h2,U⟩:=slice_bounds lo hi its.toArray.size;unfold slicePick;rw [h1,h2,U];simp only [sliceRange_one,pick_run,ub]<;>rfl
def rSlL (K:PySem.W.Frag):V->Option Int->Option Int->Hp->VK->Prop:=fun x lo hi H Q=>∃a xs,x= .ref a/\SqL K H a xs/\∀p,H p=none->Q (.ref p) (upd H p (.lst (cutV xs lo hi)))
theorem sl_list:SlR X (rSlL X.K):=by
 intro pins s σ H x v vl vu lo hi sl Q I rx hs pl pu h;obtain⟨a,xs,rfl,hx,q⟩:=h;cases rx;obtain⟨its,r,Z,hz⟩:=I.list hx;have U:=r.length;refine⟨"list",_,slot_list_getitem.lookup,Z.isList.typeIs,?_⟩;refine wpAny_getItem_list_slice Z.isList hs pl pu .none (by simp) ?_ (by rw [ub]<;>omega)
 rw [xB,<-U];refine⟨.ref s.heap.objs.size,_,I.laid (t':=s.toks) (o:= .lst (cutV xs lo hi)) (fun b ob q=>u5 _ q) (u8 _) ?_,rfl,q _ (I.hok.fresh (u8 _))⟩;exact⟨uG (cutV_length xs lo hi) hz,_,0,(r.drop (HT.sIx xs.length 0 lo)).take (HT.sIx xs.length xs.length hi-HT.sIx xs.length 0 lo),uc _ rfl⟩
def JI:V->Bool
 | .non=>true
 | .bl _=>true
 | .int _=>true
 | .str _=>true
 |_=>false
def eqV:V->V->Bool
 | .non,.non=>true
 | .bl a,.bl b=>a==b
 | .bl a,.int b=>(if a then 1 else 0)==b
 | .int a,.bl b=>a==(if b then 1 else 0)
 | .int a,.int b=>a==b
 | .str a,.str b=>a==b
 |_,_=>false
theorem eqAt_V {A:Around}{s:Shared}{y x:V}{u v:Value}(Z:RelV y u)(U:RelV x v)(fy:JI y=true)(fx:JI x=true):SeqAt.EqAt A s u v (eqV y x):=by
 cases y with
 |non=>
  cases Z;cases x with
  |non=>cases U;exact SeqAt.EqAt.same _
  |bl b=>cases U;exact SeqAt.EqAt.none_bool b
  |int b=>obtain⟨t,rfl⟩:=U;exact SeqAt.EqAt.none_int b t
  |str b=>obtain⟨t,rfl⟩:=U;exact SeqAt.EqAt.none_str b t
  |_=>exact absurd (show false=true from fx) uf
 |bl a=>
  cases Z;cases x with
  |non=>cases U;exact SeqAt.EqAt.bool_none a
  |bl b=>cases U;exact SeqAt.EqAt.bool_bool a b
  |int b=>obtain⟨t,rfl⟩:=U;exact SeqAt.EqAt.bool_int a b t
  |str b=>obtain⟨t,rfl⟩:=U;exact SeqAt.EqAt.bool_str a b t
  |_=>exact absurd (show false=true from fx) uf
 |int a=>
  obtain⟨t',rfl⟩:=Z;cases x with
  |non=>cases U;exact SeqAt.EqAt.int_none a t'
  |bl b=>cases U;exact SeqAt.EqAt.int_bool a t' b
  |int b=>obtain⟨t,rfl⟩:=U;exact SeqAt.EqAt.int_int a t' b t
  |str b=>obtain⟨t,rfl⟩:=U;exact UN a t' b t
  |_=>exact absurd (show false=true from fx) uf
 |str a=>
  obtain⟨t',rfl⟩:=Z;cases x with
  |non=>cases U;exact SeqAt.EqAt.str_none a t'
  |bl b=>cases U;exact SeqAt.EqAt.str_bool a t' b
  |int b=>obtain⟨t,rfl⟩:=U;exact UO a t' b t
  |str b=>obtain⟨t,rfl⟩:=U;exact SeqAt.EqAt.str_str a t' b t
  |_=>exact absurd (show false=true from fx) uf
 |_=>exact absurd (show false=true from fy) uf
def eqU (x:V)(u:Value):Bool:=match u with
 | .none=>eqV .non x
 | .bool b=>eqV (.bl b) x
 | .int i _=>eqV (.int i) x
 | .str z _=>eqV (.str z) x
 |_=>false
theorem eqU_of {x y:V}{u:Value}(r:RelV y u)(f:JI y=true):eqU x u=eqV y x:=by
 cases y with
 |non=>cases r;rfl
 |bl b=>cases r;rfl
 |int i=>obtain⟨t,rfl⟩:=r;rfl
 |str z=>obtain⟨t,rfl⟩:=r;rfl
 |_=>exact absurd (show false=true from f) uf
theorem jX {x:V}:∀{xs:List V}{us:List Value},Vals xs us->xs.all JI=true->us.any (eqU x)=xs.any fun y=>eqV y x
 |_,_,.nil,_=>rfl
 |y::xs,u::us,.cons r t,f=>by
  rw [vv,uO] at f;rw [V6,V6,eqU_of r f.1,jX t f.2]
theorem YO {A:Around}{s:Shared}{x:V}{v:Value}(Z:RelV x v)(fx:JI x=true):∀{xs:List V}{us:List Value},Vals xs us->xs.all JI=true->∀u∈us,SeqAt.EqAt A s u v (eqU x u)
 |_,_,.nil,_=>fun u U=>by cases U
 |y::xs,u::us,.cons r t,f=>fun u' U=>by
  rw [vv,uO] at f;rcases List.mem_cons.mp U with rfl|U
  ·rw [eqU_of r f.1];exact eqAt_V r Z f.1 fx
  ·exact YO Z fx t f.2 u' U
def inV (x:V)(xs:List V):Bool:=xs.any fun y=>eqV y x
def rIn (K:PySem.W.Frag)(neg:Bool):R2:=fun x y H Q=>∃p xs,y= .ref p/\(SqL K H p xs∨SqT K H p xs)/\JI x=true/\xs.all JI=true/\Q (.bl (if neg then !inV x xs else inV x xs)) H
theorem jN:OpR X (compareOp .In) (rIn X.K false):=by
 intro pins s σ H x y v u Q I rx ry h;obtain⟨p,xs,rfl,U,fx,fs,q⟩:=h;cases ry;rcases U with U|U
 ·obtain⟨its,r,pl,hz⟩:=I.list U;refine SeqAt.in_listAt (eqU x) pl.isList (fun w Z=>YO rx fx r fs w (by simpa using Z)) ⟨.bl _,H,I,rfl,?_⟩
  rw [show its.toArray.any (eqU x)=its.any (eqU x) by simp,jX r fs]
  exact q
 ·obtain⟨its,r,pl,hz⟩:=I.tuple U;refine SeqAt.in_tupleAt (eqU x) pl (fun w Z=>YO rx fx r fs w (by simpa using Z)) ⟨.bl _,H,I,rfl,?_⟩
  rw [show its.toArray.any (eqU x)=its.any (eqU x) by simp,jX r fs]
  exact q
theorem op_notIn_seq:OpR X (compareOp .NotIn) (rIn X.K true):=by
 intro pins s σ H x y v u Q I rx ry h;obtain⟨p,xs,rfl,U,fx,fs,q⟩:=h;cases ry;rcases U with U|U
 ·obtain⟨its,r,pl,hz⟩:=I.list U;refine SeqAt.notIn_listAt (eqU x) pl.isList (fun w Z=>YO rx fx r fs w (by simpa using Z)) ⟨.bl _,H,I,rfl,?_⟩
  rw [show its.toArray.any (eqU x)=its.any (eqU x) by simp,jX r fs]
  exact q
 ·obtain⟨its,r,pl,hz⟩:=I.tuple U;refine SeqAt.notIn_tupleAt (eqU x) pl (fun w Z=>YO rx fx r fs w (by simpa using Z)) ⟨.bl _,H,I,rfl,?_⟩
  rw [show its.toArray.any (eqU x)=its.any (eqU x) by simp,jX r fs]
  exact q
theorem op_notIn_str:OpR X (compareOp .NotIn) (fun x y H Q=>∃i j,x= .str i/\y= .str j/\Q (.bl (!(!(Builtin.Str.occurrences j i 0 j.length 1).isEmpty))) H):=by
 intro pins s σ H x y v u Q I U Z h;obtain⟨i,j,rfl,rfl,q⟩:=h;obtain⟨t,rfl⟩:=U;obtain⟨t',rfl⟩:=Z;exact notIn_str ⟨.bl _,H,I,rfl,q⟩
theorem qJ:Qn X (.builtin "len") (fun xs H Q=>∃p ys,xs= [.ref p]/\(SqL X.K H p ys∨SqT X.K H p ys)/\Q (.int ys.length) H):=by
 intro pins s σ H xs us Q I r h;obtain⟨p,ys,rfl,Z,q⟩:=h;obtain⟨u,rfl,rx⟩:=QX r;cases rx;have hn:=jg;rcases Z with Z|Z
 ·obtain⟨its,r',pl,hz⟩:=I.list Z;have U:=r'.length;exact Calls.call_len_list pl.isList (by simp only [ub]<;>omega) ⟨.int ys.length,H,I.tok _,⟨s.toks+1,by rw [ub,U]⟩,q⟩
 ·obtain⟨its,r',pl,hz⟩:=I.tuple Z;have U:=r'.length;exact len_tuple pl (by simp only [ub]<;>omega) ⟨.int ys.length,H,I.tok _,⟨s.toks+1,by rw [ub,U]⟩,q⟩
theorem Qg:Qn X (.builtin "len") (fun xs H Q=>∃z,xs= [.str z]/\z.length<=sizeLine/\Q (.int z.length) H):=by
 intro pins s σ H xs us Q I r h;obtain⟨z,rfl,hz,q⟩:=h;obtain⟨u,rfl,t,rfl⟩:=QX r;have hn:=jg;exact len_str (by omega) ⟨.int z.length,H,I.tok _,⟨_,rfl⟩,q⟩
theorem call_list_of:Qn X (.type "list") (fun xs H Q=>∃p ys,xs= [.ref p]/\(SqL X.K H p ys∨SqT X.K H p ys)/\∀l,H l=none->Q (.ref l) (upd H l (.lst ys))):=by
 intro pins s σ H xs us Q I r h;obtain⟨p,ys,rfl,hq,q⟩:=h;obtain⟨u,rfl,rx⟩:=QX r;cases rx;have fin:∀(its:List Value),Vals ys its->ys.length<=sizeLine->∀(h':Heap) (U:Nat),(∀b o',s.heap.get? b=some o'->h'.get? b=some o')->
   h'.get? s.heap.objs.size=some {cls:= .type "list",dict:=none,data:= .seq its.toArray U,slots:= #[]}->EP X pins σ Q (.ref s.heap.objs.size) {s with heap:=h'}:=fun its Z hz h' U kp e=>
  ⟨.ref s.heap.objs.size,_,I.laid (t':=s.toks) kp (u8 _) (show qY X.prog X.w _ h' _ (.lst ys) from⟨hz,its,U,Z,e⟩),rfl,q _ (I.hok.fresh (u8 _))⟩
 rcases hq with hq|hq
 ·obtain⟨its,Z,pl,hz⟩:=I.list hq;have aa:=Z.length;obtain⟨o,ho,hc,n,hd⟩:=pl.isList;exact call_list_seq p (.inl rfl) ho hc hd (fun h' U kp e=>fin its Z hz h' U kp e) (by simp only [ub]<;>omega)
 ·obtain⟨its,Z,pl,hz⟩:=I.tuple hq;have aa:=Z.length;obtain⟨o,ho,hc,n,hd⟩:=pl;exact call_list_seq p (.inr rfl) ho hc hd (fun h' U kp e=>fin its Z hz h' U kp e) (by simp only [ub]<;>omega)
theorem qV:Qn X (.type "tuple") (fun xs H Q=>∃p ys,xs= [.ref p]/\((SqL X.K H p ys/\∀l,H l=none->Q (.ref l) (upd H l (.tup ys)))∨(SqT X.K H p ys/\Q (.ref p) H))):=by
 intro pins s σ H xs us Q I r h;obtain⟨p,ys,rfl,h⟩:=h;obtain⟨u,rfl,rx⟩:=QX r;cases rx;rcases h with⟨U,q⟩|⟨U,q⟩
 ·obtain⟨its,Z,pl,hz⟩:=I.list U;have aa:=Z.length;refine call_tuple_list pl.isList (fun h' kp=> ?_) (by simp only [ub]<;>omega)
  have I1:Inv X pins σ H {s with heap:=h'}:=I.kept (t':=s.toks) kp
  have I2:Inv X pins σ (upd H h'.objs.size (.tup ys)) {s with heap:=h'.push {cls:= .type "tuple",data:= .seq its.toArray}}:=
   I1.laid (t':=s.toks) (fun b o e=>u5 _ e) (u8 _) (show qY X.prog X.w _ _ _ (.tup ys) from⟨hz,its,Z,IsTup.new _ _⟩)
  exact⟨.ref h'.objs.size,_,I2,rfl,q _ (I1.hok.fresh (u8 _))⟩
 ·obtain⟨its,Z,pl,hz⟩:=I.tuple U;exact call_tuple_same pl ⟨.ref p,H,I,rfl,q⟩
def tyV (K:PySem.W.Frag)(T:String)(x:V)(H:Hp):Prop:=match x with
 | .str _=>T="str"
 | .int _=>T="int"
 | .ref p=>(T="list"/\∃xs,SqL K H p xs)∨(T="tuple"/\∃o,K.lookup p=some o/\o.cls= .type "tuple"/\o.dict=none)∨
   (T="dict"/\((∃kvs,H p=some (.dK kvs))∨∃kvs,H p=some (.dT kvs)))∨(T="set"/\∃S n,H p=some (.set S n))
 |_=>False
theorem tyV_is {pins:List (Addr×Obj)}{σ:St}{H:Hp}{s:Shared}{T:String}{x:V}{v:Value}(I:Inv X pins σ H s)(r:RelV x v)(ty:tyV X.K T x H):
  s.TypeIs v T/\∀a,v= .ref a->∃ob,s.heap.get? a=some ob/\ob.dict=none:=by
 cases x with
 |str z=>
  obtain⟨t,rfl⟩:=r;cases(show T="str" from ty)
  exact⟨typeIs_str s z t,fun _ e=>nomatch e⟩
 |int i=>
  obtain⟨t,rfl⟩:=r;cases(show T="int" from ty)
  exact⟨typeIs_int s i t,fun _ e=>nomatch e⟩
 |ref p=>
  cases r;rcases ty with⟨rfl,xs,hq⟩|⟨rfl,o,U,hc,hd⟩|⟨rfl,U⟩|⟨rfl,S,n,U⟩
  ·obtain⟨its,_,pl,_⟩:=I.list hq;refine⟨pl.isList.typeIs,fun a e=> ?_⟩;cases e;obtain⟨o,n,e,c,hd,_⟩:=pl;exact⟨o,e,hd⟩
  ·refine⟨⟨o,I.kIn p o U,hc⟩,fun a e=> ?_⟩;cases e;exact⟨o,I.kIn _ o U,hd⟩
  ·have z:∃o,s.heap.get? p=some o/\o.ExactDict:=by
    rcases U with⟨kvs,U⟩|⟨kvs,U⟩
    ·obtain⟨_,_,_,_,o,_,_,e,ex,_⟩:=I.hok p _ U;exact⟨o,e,ex⟩
    ·obtain⟨_,_,_,_,o,_,_,e,ex,_⟩:=I.hok p _ U;exact⟨o,e,ex⟩
   obtain⟨o,e,ex⟩:=z;refine⟨⟨o,e,ex.1⟩,fun a Z=> ?_⟩;cases Z;exact⟨o,e,ex.2.1⟩
  ·obtain⟨o,_,_,_,e,ex,_⟩:=I.hok p _ U;refine⟨⟨o,e,ex.1⟩,fun a Z=> ?_⟩;cases Z;exact⟨o,e,ex.2.1⟩
 |_=>exact False.elim ty
def tBM0 (K:PySem.W.Frag)(T:String)(r:V->List V->Hp->VK->Prop)(to:TE):TE:=fun σ H Q=>to σ H fun x H1=>tyV K T x H1/\r x [] H1 Q
def tBM (K:PySem.W.Frag)(T:String)(r:V->List V->Hp->VK->Prop)(to:TE)(t:TA):TE:=fun σ H Q=>to σ H fun x H1=>tyV K T x H1/\t σ H1 fun xs H2=>r x xs H2 Q
variable {o e:Expr}{es:List Expr}{to:TE}{t:TA}{name:Str}{apos cpos:Pos}{T id:String}{r:V->List V->Hp->VK->Prop}
theorem pe_bm0 (pa:PlainAttrs T)(slot:Slot T name id)(aa:typeOf (.builtin id)=pure (.type "method_descriptor"))(hm:MtR X id r)(ho:PE X o to)
  (U:attributeBase o name X.env (eval o X.env)=eval o X.env:=by rfl) (Z:(apos.endLine==cpos.line)=true:=by rfl):PE X (.Call (.Attribute o name apos) [] [] cpos) (tBM0 X.K T r to):=by
 intro pins s σ H Q I h;refine wpAny_Call_method0_late U Z (thn (ho pins s σ H _ I h) fun v s1 ⟨x,H1,I1,r1,ty,q1⟩=> ?_);obtain⟨h1,h2⟩:=tyV_is I1 r1 ty;exact⟨T,id,pa,slot,aa,h1,h2,vC rfl (PySem.evalArgs_none (hm pins s1 σ H1 x [] v [] Q I1 r1 .nil q1))⟩
theorem pe_bm (pa:PlainAttrs T)(slot:Slot T name id)(ad:typeOf (.builtin id)=pure (.type "method_descriptor"))(hm:MtR X id r)(ho:PE X o to)(ha:PA X (e::es) t)
  (Z:attributeBase o name X.env (eval o X.env)=eval o X.env:=by rfl)
  (ac:((backTo cpos (starEach (e::es) X.env)).all (fun x=> !x.1)&&(backToKw cpos (keywordEach [] X.env)).all (fun x=>x.1.isSome)
   &&decide ((e::es).length+([]:List Keyword).length+(if([]:List Keyword).isEmpty then 0 else 1)<30))=true:=by rfl)
  (aa:(apos.endLine==cpos.line)=true:=by rfl) (hs:starEach (e::es) X.env=(false,eval e X.env)::starEach es X.env:=by rfl) (U:(backTo cpos (starEach es X.env)).any (·.1)=false:=by rfl):
  PE X (.Call (.Attribute o name apos) (e::es) [] cpos) (tBM X.K T r to t):=by
 intro pins s σ H Q I h;refine wpAny_Call_method_late Z ac aa rfl (thn (ho pins s σ H _ I h) fun v s1 ⟨x,H1,I1,r1,ty,q1⟩=> ?_);obtain⟨h1,h2⟩:=tyV_is I1 r1 ty;refine⟨T,id,pa,slot,ad,h1,h2,?_⟩;have hA:=ha cpos pins s1 σ H1 _ I1 q1;rw [hs] at hA⊢;refine vC (by show(false||(backTo cpos (starEach es X.env)).any (·.1))=false;rw [U]<;>rfl) (Uw ?_)
 exact thn hA fun us s2 ⟨vs,H2,I2,r2,q2⟩=>hm pins s2 σ H2 x vs v us Q I2 r1 r2 q2
end
def MtM (X:Cx)(id:String)(r:V->List V->Hp->VK->Prop):Prop:=
 ∀(pins:List (Addr×Obj)) (s:Shared) (σ:St) (H:Hp) (x:V) (xs:List V) (v:Value) (us:List Value) (Q:VK),Inv X pins σ H s->RelV x v->Vals xs us->r x xs H Q->
  wpAny (model X.prog X.w) X.A (call (.builtin id) (v::us)) (EP X pins σ Q) X.xe s
theorem Vals.one:∀{x:V}{us:List Value},Vals [x] us->∃u,us= [u]/\RelV x u
 |_,_,.cons r .nil=>⟨_,rfl,r⟩
theorem Vals.zero:∀{us:List Value},Vals [] us->us= []
 |_,.nil=>rfl
theorem Vals.dropLast {xs:List V}{us:List Value}(h:Vals xs us):Vals xs.dropLast us.dropLast:=by
 induction h with
 |nil=>exact .nil
 |cons r t U=>
  cases t with
  |nil=>exact .nil
  |cons q t'=>exact .cons r U
theorem erase_last {α:Type}(l:List α):l.eraseIdx (l.length-1)=l.dropLast:=by
 induction l with
 |nil=>rfl
 |cons a r U=>
  cases r with
  |nil=>rfl
  |cons b r=>
   have e:(a::b::r).length-1=((b::r).length-1)+1:=by
    have h1:(a::b::r).length=r.length+2:=rfl;have h2:(b::r).length=r.length+1:=rfl;omega
   rw [e,List.eraseIdx_cons_succ,U]
   all_goals rfl
section
variable {X:Cx}{pins:List (Addr×Obj)}{σ:St}{H:Hp}{s:Shared}{l b:Addr}{xs ys zs:List V}
theorem Inv.lset {its its':List Value}{n:Nat}{f:Array Value->Array Value}{t':Nat}(I:Inv X pins σ H s)(U:H l=some (.lst xs))
  (e:s.heap.get? l=some {cls:= .type "list",data:= .seq its.toArray n}) (Z:f its.toArray=its'.toArray) (hv:Vals ys its') (hz:ys.length<=sizeLine) (ht:0<t':=by((try dsimp only);first|assumption|exact Inv.tk (by assumption)|exact Nat.succ_pos _|exact Nat.lt_of_lt_of_le (Inv.tk (by assumption)) (by assumption)|exact Nat.add_pos_left (Inv.tk (by assumption)) _|omega)):
  Inv X pins σ (upd H l (.lst ys)) {s with heap:=s.heap.update l (Obj.mapSeq f),toks:=t'}:=by
 have q:=PySem.IsL.update e f;rw [Z] at q;refine I.write (x:=l) (e:=l) (by rw [U];exact trivial) (.inl rfl) (fun b' u hb hu=>(uB s.heap (Obj.mapSeq f) (Uu hb)).trans hu) ⟨_,q⟩ ?_
 exact⟨hz,its',_,hv,q⟩
theorem Inv.lnew {its:List Value}{t':Nat}(I:Inv X pins σ H s)(U:Vals ys its)(hz:ys.length<=sizeLine)(Z:0<t':=by((try dsimp only);first|assumption|exact Inv.tk (by assumption)|exact Nat.succ_pos _|exact Nat.lt_of_lt_of_le (Inv.tk (by assumption)) (by assumption)|exact Nat.add_pos_left (Inv.tk (by assumption)) _|omega)):
  Inv X pins σ (upd H s.heap.objs.size (.lst ys)) {s with heap:=s.heap.push {cls:= .type "list",data:= .seq its.toArray},toks:=t'}:=
 I.laid (fun _ _ q=>u5 _ q) (u8 _) ⟨hz,its,0,U,uc _ rfl⟩
theorem Inv.fresh (I:Inv X pins σ H s):H s.heap.objs.size=none:=I.hok.fresh (u8 _)
theorem Inv.lstM (I:Inv X pins σ H s)(U:H l=some (.lst xs)):xs.length<=sizeLine/\∃(its:List Value) (n:Nat),Vals xs its/\xs.length=its.length/\s.heap.get? l=some {cls:= .type "list",data:= .seq its.toArray n}:=by
 obtain⟨z,its,n,r,e⟩:=I.hok l _ U;exact⟨z,its,n,r,r.length,e⟩
theorem notLongL {n:Nat}(h:n<=sizeLine):Builtin.List.listTooLong n=false:=by
 unfold Builtin.List.listTooLong;exact ua (by omega)
end
section
variable {X:Cx}
def rAppend:V->List V->Hp->VK->Prop:=fun x vs H Q=>∃l xs y,x= .ref l/\vs= [y]/\H l=some (.lst xs)/\xs.length<sizeLine/\Q .non (upd H l (.lst (xs++ [y])))
theorem YK:MtM X "list.append" rAppend:=by
 intro pins s σ H x vs v us Q I Z rv h;obtain⟨l,xs,y,rfl,rfl,U,hz,q⟩:=h;cases Z;obtain⟨u,rfl,ru⟩:=rv.one;obtain⟨z,its,n,r,hl,e⟩:=I.lstM U;refine call_meets F.slot_list_append ⟨_,e,rfl⟩ F.entry_list_append (F.args_list_append_2 _ _) (PySem.list_append l its.toArray n u (by rw [ub];omega)) ⟨e,?_⟩
 refine⟨.non,_,I.lset (its':=its++ [u]) U e (by simp) (r.append (.cons ru .nil)) ?_,rfl,q⟩
 rw [u7,vI];omega
def rExtend:V->List V->Hp->VK->Prop:=fun x vs H Q=>∃l b xs zs,x= .ref l/\vs= [.ref b]/\H l=some (.lst xs)/\H b=some (.lst zs)/\xs.length+zs.length<=sizeLine/\Q .non (upd H l (.lst (xs++zs)))
theorem mt_extend:MtM X "list.extend" rExtend:=by
 intro pins s σ H x vs v us Q I rx rv h;obtain⟨l,b,xs,zs,rfl,rfl,hH,hB,hz,q⟩:=h;cases rx;obtain⟨u,rfl,ru⟩:=rv.one;cases ru;obtain⟨z,its,n,r,hl,e⟩:=I.lstM hH;obtain⟨z2,U,n2,r2,aa,e2⟩:=I.lstM hB;have hsz:its.toArray.size+U.toArray.size<=sizeLine:=by rw [ub,ub];omega
 have Z:¬(!its.toArray.isEmpty&&Builtin.List.listTooLong (its.toArray.size+U.toArray.size))=true:=by
  rw [notLongL hsz,Uz];exact uf
 refine call_meets F.slot_list_extend ⟨_,e,rfl⟩ F.entry_list_extend (F.args_list_extend_2 _ _)
  (AutoSeq1.list_extend_list_list_0 l its.toArray n b U.toArray n2 Z (by rw [ub];omega) (by omega)) ⟨e,e2,?_⟩
 refine⟨.non,_,I.lset (its':=its++U) hH e (by simp) (r.append r2) ?_,rfl,q⟩
 rw [u7];omega
def rPop:V->List V->Hp->VK->Prop:=fun x vs H Q=>∃l xs y,x= .ref l/\vs= []/\H l=some (.lst xs)/\xs[xs.length-1]? =some y/\Q y (upd H l (.lst xs.dropLast))
theorem mt_pop:MtM X "list.pop" rPop:=by
 intro pins s σ H x vs v us Q I rx rv h;obtain⟨l,xs,y,rfl,rfl,hH,hy,q⟩:=h;cases rx;have U:=rv.zero;subst U;obtain⟨z,its,n,r,hl,e⟩:=I.lstM hH;obtain⟨u,hu,ru⟩:=r.get hy;have Z:its.toArray[its.toArray.size-1]? =some u:=by
  show its.toArray[its.length-1]? =some u;rw [<-vo,<-hl];exact hu
 refine call_meets F.slot_list_pop ⟨_,e,rfl⟩ F.entry_list_pop (F.args_list_pop_1 _) (MeetsSeq.list_pop_last l its.toArray n u Z (by rw [ub];omega)) ⟨e,?_⟩
 refine⟨y,_,I.lset (its':=its.dropLast) hH e ?_ r.dropLast ?_,ru,q⟩
 ·show its.toArray.eraseIdxIfInBounds (its.toArray.size-1)=its.dropLast.toArray;rw [ub,List.eraseIdxIfInBounds_toArray,erase_last]
 ·rw [List.length_dropLast];omega
def rCat:R2:=fun x y H Q=>∃l b xs zs,x= .ref l/\y= .ref b/\H l=some (.lst xs)/\H b=some (.lst zs)/\xs.length+zs.length<=sizeLine/\∀p,H p=none->Q (.ref p) (upd H p (.lst (xs++zs)))
theorem op_cat:OpR X (binaryOp .Add) rCat:=by
 intro pins s σ H x y v u Q I Z ry h;obtain⟨l,b,xs,zs,rfl,rfl,hH,hB,hz,q⟩:=h;cases Z;cases ry;obtain⟨z,its,n,r,hl,e⟩:=I.lstM hH;obtain⟨z2,U,n2,r2,aa,e2⟩:=I.lstM hB;refine PySem.P.add_list e e2 ?_ (by rw [ub,ub];omega)
 have ea:its.toArray++U.toArray=(its++U).toArray:=by simp
 rw [ea];exact⟨.ref _,_,I.lnew (t':=s.toks) (r.append r2) (by rw [u7];omega),rfl,q _ I.fresh⟩
end
section
variable {prog:Program}{w:World}{A:Around}{E:Value->Shared->Prop}{s:Shared}
set_option maxRecDepth 100000 in
end
section
variable {κ:Type}[DecidableEq κ]
def valV (kvs:List (κ×V))(k:κ):Option V:=(kvs.find? fun kv=>decide (kv.1=k)).map (·.2)
def putK (kvs:List (κ×V))(k:κ)(v:V):List (κ×V):=
 if(kvs.any fun kv=>decide (kv.1=k))=true then kvs.map (fun kv=>if kv.1=k then(kv.1,v) else kv) else kvs++ [(k,v)]
def dropK (kvs:List (κ×V))(k:κ):List (κ×V):=kvs.filter fun kv=>decide (kv.1≠k)
theorem jB {p:κ×V}{r:List (κ×V)}{k:κ}(e:p.1=k):valV (p::r) k=some p.2:=by simp [valV,uV,e]
theorem YH {p:κ×V}{r:List (κ×V)}{k:κ}(e:¬p.1=k):valV (p::r) k=valV r k:=by simp [valV,uV,e]
theorem xr (k:κ):∀kvs:List (κ×V),(kvs.any fun kv=>decide (kv.1=k))=(valV kvs k).isSome
 | []=>rfl
 |p::r=>by
  rw [V6];by_cases e:p.1=k
  ·simp only [jB e,u9 e,Bool.true_or,Option.isSome_some]
  ·rw [YH e,ua e,Bool.false_or];exact xr k r
theorem Jd (kvs:List (κ×V))(k:κ)(v:V):(putK kvs k v).length<=kvs.length+1:=by
 unfold putK;split
 ·rw [u1];omega
 ·rw [u7,uz,List.length_nil];omega
theorem putK_new {kvs:List (κ×V)}{k:κ}(v:V)(h:valV kvs k=none):putK kvs k v=kvs++ [(k,v)]:=by
 unfold putK;rw [xr,h];exact if_neg (by decide)
theorem RelO.isSome_eq {o:Option V}{u:Option Value}(r:RelO o u):o.isSome=u.isSome:=by
 cases o with
 |none=>cases u with
  |none=>rfl
  |some _=>exact(show False from r).elim
 |some _=>cases u with
  |none=>exact(show False from r).elim
  |some _=>rfl
theorem RelO.getD {o:Option V}{u:Option Value}{d:V}{d':Value}(r:RelO o u)(U:RelV d d'):RelV (o.getD d) (u.getD d'):=by
 cases o with
 |none=>cases u with
  |none=>exact U
  |some _=>exact(show False from r).elim
 |some _=>cases u with
  |none=>exact(show False from r).elim
  |some _=>exact r
theorem KV.val {kvs:List (κ×V)}{vs:List (κ×Value)}(r:KV kvs vs)(k:κ):RelO (valV kvs k) (valueAt vs k):=by
 unfold KV at r
 induction r with
 |nil=>exact True.intro
 | @cons p q ps qs h t ih=>
  obtain⟨h1,h2⟩:=h;by_cases e:p.1=k
  ·have U:q.1=k:=h1.symm.trans e;have b:valueAt (q::qs) k=some q.2:=by simp [valueAt,uV,U]
   rw [jB e,b];exact h2
  ·have U:¬q.1=k:=fun z=>e (h1.trans z);have b:valueAt (q::qs) k=valueAt qs k:=by simp [valueAt,uV,U]
   rw [YH e,b];exact ih
theorem KV.any {kvs:List (κ×V)}{vs:List (κ×Value)}(r:KV kvs vs)(k:κ):(kvs.any fun kv=>decide (kv.1=k))=vs.any fun kv=>decide (kv.1=k):=by
 unfold KV at r
 induction r with
 |nil=>rfl
 |cons h t U=>rw [V6,V6,U,h.1]
theorem KV.repl {kvs:List (κ×V)}{vs:List (κ×Value)}(r:KV kvs vs)(k:κ){y:V}{u:Value}(U:RelV y u):
  KV (kvs.map fun kv=>if kv.1=k then(kv.1,y) else kv) (vs.map fun kv=>if kv.1=k then(kv.1,u) else kv):=by
 unfold KV at r⊢
 induction r with
 |nil=>exact .nil
 | @cons p q ps qs h t ih=>
  rw [ui,ui];refine .cons ?_ ih;obtain⟨h1,h2⟩:=h;by_cases e:p.1=k
  ·rw [if_pos e,if_pos (h1.symm.trans e)];exact⟨h1,U⟩
  ·rw [if_neg e,if_neg (fun z=>e (h1.trans z))];exact⟨h1,h2⟩
theorem KV.put {kvs:List (κ×V)}{vs:List (κ×Value)}(r:KV kvs vs)(k:κ){y:V}{u:Value}(U:RelV y u):KV (putK kvs k y) (stored vs k u):=by
 unfold putK stored;rw [r.any k];by_cases e:(vs.any fun kv=>decide (kv.1=k))=true
 ·rw [if_pos e,if_pos e];exact r.repl k U
 ·rw [if_neg e,if_neg e];exact Paired.snoc r ⟨rfl,U⟩
theorem KV.drop {kvs:List (κ×V)}{vs:List (κ×Value)}(r:KV kvs vs)(k:κ):KV (dropK kvs k) (without vs k):=by
 unfold KV at r⊢;unfold dropK without
 induction r with
 |nil=>exact .nil
 | @cons p q ps qs h t ih=>
  obtain⟨h1,h2⟩:=h;rw [Ul,Ul];by_cases e:p.1=k
  ·have a:¬decide (p.1≠k)=true:=by simp [e]
   have b:¬decide (q.1≠k)=true:=by simp [h1.symm.trans e]
   rw [if_neg a,if_neg b];exact ih
  ·have U:¬q.1=k:=fun z=>e (h1.trans z);have a:decide (p.1≠k)=true:=by simp [e]
   have b:decide (q.1≠k)=true:=by simp [U]
   rw [if_pos a,if_pos b];exact .cons ⟨h1,h2⟩ ih
theorem KV.keys {kvs:List (κ×V)}{vs:List (κ×Value)}(r:KV kvs vs):kvs.map (·.1)=vs.map (·.1):=by
 unfold KV at r
 induction r with
 |nil=>rfl
 |cons h t U=>rw [ui,ui,U,h.1]
theorem KV.length {kvs:List (κ×V)}{vs:List (κ×Value)}(r:KV kvs vs):kvs.length=vs.length:=V5 r
theorem dropK_le (kvs:List (κ×V))(k:κ):(dropK kvs k).length<=kvs.length:=U2 _ _
end
theorem kV_is {P:Program}{w:World}{k:Key}{u:Value}(r:RelV (kV k) u):(qz P w).is k u=true:=by
 cases k with
 |inl i=>obtain⟨t,e⟩:=(show∃t,u=Value.int i t from r);subst e;exact mixKind_int P w i t
 |inr x=>obtain⟨t,e⟩:=(show∃t,u=Value.str x t from r);subst e;exact jO P w x t
theorem items_are {P:Program}{w:World}:∀{ks:List Key}{us:List Value},Vals (ks.map kV) us->ItemsAre (qz P w) ks us
 | [],_,r=>by rw [V2] at r;cases r;exact .nil
 |k::ks,_,r=>by
  rw [ui] at r;cases r with
  |cons h t=>exact .cons (kV_is h) (items_are t)
abbrev KT (H:Hp):List (List Key×V)->List (List Key×Addr×Value)->Prop:=Paired fun p q=>p.1=q.1/\H q.2.1=some (.tup (p.1.map kV))/\RelV p.2 q.2.2
theorem KT.val {H:Hp}{kvs:List (List Key×V)}{xs:List (List Key×Addr×Value)}(r:KT H kvs xs)(k:List Key):RelO (valV kvs k) ((atKey xs k).map (·.2)):=by
 induction r with
 |nil=>exact True.intro
 | @cons p q ps qs h t ih=>
  obtain⟨h1,_,h2⟩:=h;by_cases e:p.1=k
  ·have U:q.1=k:=h1.symm.trans e;have b:atKey (q::qs) k=some q.2:=by simp [atKey,uV,U]
   rw [jB e,b];exact h2
  ·have U:¬q.1=k:=fun z=>e (h1.trans z);have b:atKey (q::qs) k=atKey qs k:=by simp [atKey,uV,U]
   rw [YH e,b];exact ih
theorem KT.repl {H:Hp}{kvs:List (List Key×V)}{xs:List (List Key×Addr×Value)}(r:KT H kvs xs)(k:List Key){y:V}{u:Value}(U:RelV y u):
  KT H (kvs.map fun kv=>if kv.1=k then(kv.1,y) else kv) (xs.map (putAt k u)):=by
 induction r with
 |nil=>exact .nil
 | @cons p q ps qs h t ih=>
  rw [ui,ui];refine .cons ?_ ih;obtain⟨h1,h2,Z⟩:=h;unfold putAt;by_cases e:p.1=k
  ·rw [if_pos e,if_pos (h1.symm.trans e)];exact⟨h1,h2,U⟩
  ·rw [if_neg e,if_neg (fun z=>e (h1.trans z))];exact⟨h1,h2,Z⟩
theorem KT.put {H:Hp}{kvs:List (List Key×V)}{xs:List (List Key×Addr×Value)}(r:KT H kvs xs)(k:List Key){b:Addr}{y:V}{u:Value}(Z:H b=some (.tup (k.map kV)))(U:RelV y u):
  KT H (putK kvs k y) (storedH xs k b u):=by
 have e:(kvs.any fun kv=>decide (kv.1=k))=(atKey xs k).isSome:=by
  rw [xr,(r.val k).isSome_eq,Option.isSome_map]
 unfold putK storedH;rw [e];by_cases q:(atKey xs k).isSome=true
 ·rw [if_pos q,if_pos q];exact r.repl k U
 ·rw [if_neg q,if_neg q];exact Paired.snoc r ⟨rfl,Z,U⟩
theorem KT.keeps {H H':Hp}{kvs:List (List Key×V)}{xs:List (List Key×Addr×Value)}(r:KT H kvs xs)(U:∀b ys,H b=some (.tup ys)->H' b=some (.tup ys)):KT H' kvs xs:=
 Paired.mapP r fun _ _ z=>⟨z.1,U _ _ z.2.1,z.2.2⟩
section
variable {P:Program}{w:World}{H:Hp}{h:Heap}{a:Addr}
theorem rd_of {u:HO}(ok:HOk P w H h)(e:Rd H a u):qY P w H h a u:=e.ok ok
theorem YU {kvs:List (Key×V)}(ok:HOk P w H h)(e:Rd H a (.dK kvs)):kvs.length<=sizeLine/\(a==sysModules)=false/\∃vs,KV kvs vs/\h.DictOf (qz P w) a vs:=
 show qY P w H h a (.dK kvs) from rd_of ok e
theorem dk_of {kvs:List (Key×V)}(ok:HOk P w H h)(e:H a=some (.dK kvs)):kvs.length<=sizeLine/\(a==sysModules)=false/\∃vs,KV kvs vs/\h.DictOf (qz P w) a vs:=YU ok (.inl e)
theorem jF {ks:List Key}(ok:HOk P w H h)(e:H a=some (.tup (ks.map kV))):(tupleKind (qz P w)).is h ks a:=by
 obtain⟨_,its,r,o,h1,h2,n,U⟩:=(show qY P w H h a (.tup (ks.map kV)) from ok a _ e)
 exact⟨o,its.toArray,n,h1,h2,U,by simpa using items_are r⟩
theorem xG {kvs:List (List Key×V)}(ok:HOk P w H h)(e:Rd H a (.dT kvs)):kvs.length<=sizeLine/\(a==sysModules)=false/\
  ∃xs,KT H kvs xs/\h.DictOfH (tupleKind (qz P w)) a xs:=by
 obtain⟨z,y,xs,r,o,es,ep,h1,h2,Z,h4,h5⟩:=(show qY P w H h a (.dT kvs) from rd_of ok e)
 refine⟨z,y,xs,r,o,es,ep,h1,h2,Z,h4,fun x U=> ?_,h5⟩;have all:∀{l:List (List Key×V)}{m:List (List Key×Addr×Value)},KT H l m->∀x∈m,(tupleKind (qz P w)).is h x.1 x.2.1:=by
  intro l m q
  induction q with
  |nil=>intro x U;exact nomatch U
  | @cons p q ps qs hq t ih=>
   intro x U;rcases List.mem_cons.mp U with e|U
   ·subst e;exact jF ok (by rw [<-hq.1];exact hq.2.1)
   ·exact ih x U
 exact all r x U
theorem dt_of {kvs:List (List Key×V)}(ok:HOk P w H h)(e:H a=some (.dT kvs)):kvs.length<=sizeLine/\(a==sysModules)=false/\
  ∃xs,KT H kvs xs/\h.DictOfH (tupleKind (qz P w)) a xs:=xG ok (.inl e)
end
def DGet (H:Hp)(a:Addr)(y:V)(r:Option V):Prop:=
 (∃kvs k,Rd H a (.dK kvs)/\y=kV k/\r=valV kvs k)∨∃kvs k b,Rd H a (.dT kvs)/\y= .ref b/\H b=some (.tup (k.map kV))/\r=valV kvs k
def DPut (H:Hp)(a:Addr)(y v:V)(H':Hp):Prop:=
 (∃kvs k,H a=some (.dK kvs)/\y=kV k/\kvs.length<sizeLine/\H'=upd H a (.dK (putK kvs k v)))∨
 ∃kvs k b,H a=some (.dT kvs)/\y= .ref b/\H b=some (.tup (k.map kV))/\kvs.length<sizeLine/\H'=upd H a (.dT (putK kvs k v))
theorem DGet.k {H:Hp}{a:Addr}{kvs:List (Key×V)}{k:Key}(e:H a=some (.dK kvs)):DGet H a (kV k) (valV kvs k):= .inl ⟨kvs,k,.inl e,rfl,rfl⟩
theorem DPut.k {H:Hp}{a:Addr}{kvs:List (Key×V)}{k:Key}{v:V}(e:H a=some (.dK kvs))(U:kvs.length<sizeLine):DPut H a (kV k) v (upd H a (.dK (putK kvs k v))):= .inl ⟨kvs,k,e,rfl,U,rfl⟩
section
variable {X:Cx}{pins:List (Addr×Obj)}{σ:St}{H:Hp}{s:Shared}{a:Addr}{y v:V}{u r:Value}{o:Option V}{A:Around}{E:Value->Shared->Prop}
theorem Inv.big (I:Inv X pins σ H s):sysModules<s.heap.objs.size:=by
 have h:mainGlobals<s.heap.objs.size:=(I.mod.glob.keeps I.bk).lt;exact Nat.lt_trans (by decide) h
theorem d_getItem {Q:Value->Shared->Prop}(hu:A.units+1<cLine)(I:Inv X pins σ H s)(g:DGet H a y (some v))(ry:RelV y u)(h:∀w' s',Inv X pins σ H s'->RelV v w'->Q w' s'):
  wpAny (model X.prog X.w) A (getItem (.ref a) u) Q E s:=by
 rcases g with⟨kvs,k,e,ey,l⟩|⟨kvs,k,b,e,ey,eb,l⟩
 ·subst ey;obtain⟨z,hd,vs,U,dd⟩:=YU I.hok e;obtain⟨w',hw,Z⟩:=RelO.some_of (v:=v) (o:=valueAt vs k) (by rw [l];exact U.val k)
  exact wpAny_getItem_of (kV_is ry) dd.mapOf hw (h w' _ (I.tok _) Z)
 ·subst ey;cases(show u=Value.ref b from ry)
  obtain⟨z,hd,xs,U,dd⟩:=xG I.hok e;obtain⟨w',hw,Z⟩:=RelO.some_of (v:=v) (o:=(atKey xs k).map (·.2)) (by rw [l];exact U.val k)
  obtain⟨p,hp,aa⟩:=Option.map_eq_some_iff.mp hw;refine wpAny_getItem_heap (U3 hu) (jF I.hok eb) dd hp ?_;rw [aa];exact h w' _ (I.tok _) Z
theorem d_in {Q:Value->Shared->Prop}(hu:A.units+1<cLine)(I:Inv X pins σ H s)(g:DGet H a y o)(ry:RelV y u)(h:∀s',Inv X pins σ H s'->Q (.bool o.isSome) s'):
  wpAny (model X.prog X.w) A (compareOp .In u (.ref a)) Q E s:=by
 rcases g with⟨kvs,k,e,Z,l⟩|⟨kvs,k,b,e,Z,eb,l⟩
 ·subst Z;obtain⟨z,hd,vs,U,dd⟩:=YU I.hok e;refine wpAny_in_of (kV_is ry) hd dd.mapOf ?_;rw [<-(U.val k).isSome_eq,<-l];exact h _ (I.tok _)
 ·subst Z;cases(show u=Value.ref b from ry)
  obtain⟨z,hd,xs,U,dd⟩:=xG I.hok e;refine wpAny_in_heap (U3 hu) (jF I.hok eb) hd dd ?_;have q:=(U.val k).isSome_eq;rw [Option.isSome_map] at q;rw [<-q,<-l];exact h _ (I.tok _)
theorem d_notIn {Q:Value->Shared->Prop}(hu:A.units+1<cLine)(I:Inv X pins σ H s)(g:DGet H a y o)(ry:RelV y u)(h:∀s',Inv X pins σ H s'->Q (.bool (!o.isSome)) s'):
  wpAny (model X.prog X.w) A (compareOp .NotIn u (.ref a)) Q E s:=by
 rcases g with⟨kvs,k,e,Z,l⟩|⟨kvs,k,b,e,Z,eb,l⟩
 ·subst Z;obtain⟨z,hd,vs,U,dd⟩:=YU I.hok e;refine wpAny_notIn_of (kV_is ry) hd dd.mapOf ?_;rw [<-(U.val k).isSome_eq,<-l];exact h _ (I.tok _)
 ·subst Z;cases(show u=Value.ref b from ry)
  obtain⟨z,hd,xs,U,dd⟩:=xG I.hok e;refine wpAny_notIn_heap (U3 hu) (jF I.hok eb) hd dd ?_;have q:=(U.val k).isSome_eq;rw [Option.isSome_map] at q;rw [<-q,<-l];exact h _ (I.tok _)
theorem d_write {h':Heap}{t':Nat}{U:HO}(I:Inv X pins σ H s)(Z:Mut (H a))(hs:Heap.SameBut a s.heap h')(he:∃q,h'.get? a=some q)(new:qY X.prog X.w (upd H a U) h' a U)(ht:0<t':=by((try dsimp only);first|assumption|exact Inv.tk (by assumption)|exact Nat.succ_pos _|exact Nat.lt_of_lt_of_le (Inv.tk (by assumption)) (by assumption)|exact Nat.add_pos_left (Inv.tk (by assumption)) _|omega)):
  Inv X pins σ (upd H a U) {s with heap:=h',toks:=t'}:=
 I.write (x:=a) (e:=a) Z (.inl rfl) (fun b q hb z=>(hs.2 b hb).trans z) he new
theorem JY {P:Program}{w:World}{H':Hp}{h':Heap}{kvs:List (Key×V)}{vs:List (Key×Value)}(z:kvs.length<=sizeLine)(hd:(a==sysModules)=false)(U:KV kvs vs)(dd:h'.DictOf (qz P w) a vs):
  qY P w H' h' a (.dK kvs):=⟨z,hd,vs,U,dd⟩
theorem d_setItem {H':Hp}{Q:Unit->Shared->Prop}(hu:A.units+1<cLine)(I:Inv X pins σ H s)(g:DPut H a y v H')(ry:RelV y u)(rv:RelV v r)(h:∀s',Inv X pins σ H' s'->Q () s'):
  wpAny (model X.prog X.w) A (setItem (.ref a) u r) Q E s:=by
 rcases g with⟨kvs,k,e,ey,l,eH⟩|⟨kvs,k,b,e,ey,eb,l,eH⟩
 ·subst ey eH;obtain⟨z,hd,vs,U,dd⟩:=dk_of I.hok e;have hz:vs.length<=sizeLine:=by rw [<-U.length];exact z
  have hl:(putK kvs k v).length<=sizeLine:=by have:=Jd kvs k v;omega
  refine wpAny_setItem_pairs (hsz:=hz) (kV_is ry) dd fun h' Z hs=>h _ ?_;have he:∃q,h'.get? a=some q:=let⟨q,_,_,hq,_⟩:=Z;⟨q,hq⟩;exact d_write I (by rw [e];exact True.intro) hs he (JY hl hd (U.put k rv) Z)
 ·subst ey eH;cases(show u=Value.ref b from ry)
  obtain⟨z,hd,xs,U,dd⟩:=dt_of I.hok e;have hz:xs.length<=sizeLine:=by rw [<-V5 U];exact z
  have hl:(putK kvs k v).length<=sizeLine:=by have:=Jd kvs k v;omega
  refine wpAny_setItem_heap (hsz:=hz) (U3 hu) (jF I.hok eb) dd fun h' Z hs=>h _ ?_;obtain⟨q,es,ep,hq,h2,h3,h4,_,h5⟩:=Z;refine d_write I (by rw [e];exact True.intro) hs ⟨q,hq⟩ ⟨hl,hd,_,(U.put k eb rv).keeps fun c ys ec=> ?_,q,es,ep,hq,h2,h3,h4,h5⟩
  rw [ql (ne_of ec e (fun z=>nomatch z))];exact ec
end
section
variable {X:Cx}{pins:List (Addr×Obj)}{σ:St}{H:Hp}{s:Shared}{a:Addr}{kvs:List (Key×V)}{k:Key}{u:Value}{A:Around}{E:Value->Shared->Prop}
theorem d_pop {v:V}{more:List Value}{Q:Value->Shared->Prop}(I:Inv X pins σ H s)(e:H a=some (.dK kvs))(ry:RelV (kV k) u)(l:valV kvs k=some v)(hm:more= []∨∃x,more= [x])
  (h:∀Z s',Inv X pins σ (upd H a (.dK (dropK kvs k))) s'->RelV v Z->Q Z s'):wpAny (model X.prog X.w) A (call (.builtin "dict.pop") (.ref a::u::more)) Q E s:=by
 obtain⟨z,hd,vs,U,dd⟩:=dk_of I.hok e;obtain⟨Z,hw,ac⟩:=RelO.some_of (v:=v) (o:=valueAt vs k) (by rw [<-l];exact U.val k)
 have hp:(keyPart u).isSome=true:=by
  cases k with
  |inl i=>obtain⟨t,q⟩:=(show∃t,u=Value.int i t from ry);subst q;rfl
  |inr x=>obtain⟨t,q⟩:=(show∃t,u=Value.str x t from ry);subst q;rfl
 have ha:argsOk "dict.pop" ⟨.ref a::u::more,[]⟩:=by
  rcases hm with q|⟨x,q⟩
  ·subst q;exact PySem.F.args_dict_pop_2 _ _
  ·subst q;exact PySem.F.args_dict_pop_3 _ _ _
 refine V3 PySem.F.slot_dict_pop dd.typeIs PySem.F.entry_dict_pop ha (meets_dict_pop_there (qz X.prog X.w) a (kV_is ry) more hm hp)
  ⟨vs,Z,dd,by rw [<-U.length];exact z,hw,fun h' aa hs=>h Z _ ?_ ac⟩
 have he:∃q,h'.get? a=some q:=let⟨q,_,_,hq,_⟩:=aa;⟨q,hq⟩;exact d_write I (by rw [e];exact True.intro) hs he (JY (uG (dropK_le kvs k) z) hd (U.drop k) aa)
theorem d_len {Q:Value->Shared->Prop}(I:Inv X pins σ H s)(e:Rd H a (.dK kvs))(h:∀t s',Inv X pins σ H s'->Q (.int kvs.length t) s'):wpAny (model X.prog X.w) A (call (.builtin "len") [.ref a]) Q E s:=by
 obtain⟨z,hd,vs,U,dd⟩:=YU I.hok e;refine call_len_dict hd dd (by rw [<-U.length];rw [uv] at z;omega) ?_
 rw [<-U.length];exact h _ _ (I.tok _)
end
def NoSl (i:Expr):Prop:=∀ov iv,subscripted i false ov iv=operate [ov,iv] (getItem ov iv)
theorem subD_of {prog:Program}{w:World}{A:Around}{E:Value->Shared->Prop}{s:Shared}{env:Env}{value U:Expr}{pos:Pos}{T id:String}{Q:Value->Shared->Prop}
  (hl:typeLookup (.type T) "__getitem__"=pure (some (.builtin id))) (hs:NoSl U)
  (h:wpAny (model prog w) A (eval value env) (fun o s₁=>wpAny (model prog w) A (eval U env) (fun i Z=>Z.TypeIs o T/\wpAny (model prog w) A (getItem o i) Q E Z) E s₁) E s):
  wpAny (model prog w) A (eval (.Subscript value U pos) env) Q E s:=by
 refine Subscript_ (vi h (fun o s₁ h₁=>vi h₁ (fun i Z h₂=> ?_) fun _ _ x=>x) fun _ _ x=>x);obtain⟨hT,h₂⟩:=h₂;unfold subscriptTail;refine wpAny_bind ?_;rw [getitemInPython_of_ne hT.not_modules];refine wpAny_bind (wpAny_specialOf hT hl ?_);have fin:wpAny (model prog w) A (subscripted U false o i) (fun r s₃=>wpAny (model prog w) A (letTemporaryGo value o r>>=fun _=>pure r) Q E s₃) E Z:=by
  rw [hs o i];exact wpAny_operating (vi h₂ (fun r s₃ h₃=>wpAny_bind (wpAny_letTemporaryGo (wpAny_pure h₃))) fun _ _ x=>x)
 first
  |exact wpAny_pure (wpAny_bind fin)
  |exact wpAny_bind (wpAny_pure (wpAny_bind fin))
  |exact wpAny_bind fin
theorem dict_typeIs {X:Cx}{pins:List (Addr×Obj)}{σ:St}{H:Hp}{s:Shared}{a:Addr}{y:V}{o:Option V}(I:Inv X pins σ H s)(g:DGet H a y o):s.TypeIs (.ref a) "dict":=by
 rcases g with⟨kvs,k,e,_,_⟩|⟨kvs,k,b,e,_,_,_⟩
 ·obtain⟨_,_,vs,_,dd⟩:=YU I.hok e;exact dd.typeIs
 ·obtain⟨_,_,xs,_,dd⟩:=xG I.hok e;exact dd.typeIs
theorem dict_noDict {X:Cx}{pins:List (Addr×Obj)}{σ:St}{H:Hp}{s:Shared}{a:Addr}{y:V}{o:Option V}(I:Inv X pins σ H s)(g:DGet H a y o):
  ∀b,Value.ref a= .ref b->∃U,s.heap.get? b=some U/\U.dict=none:=fun b q=>by
 cases q;rcases g with⟨kvs,k,e,_,_⟩|⟨kvs,k,b,e,_,_,_⟩
 ·obtain⟨_,_,vs,_,U,_,_,h1,h2,_⟩:=YU I.hok e;exact⟨U,h1,h2.2.1⟩
 ·obtain⟨_,_,xs,_,U,_,_,h1,h2,_⟩:=xG I.hok e;exact⟨U,h1,h2.2.1⟩
def tDGet (td ty:TE):TE:=fun σ H Q=>td σ H fun x H1=>ty σ H1 fun y H2=>∃a v,x= .ref a/\DGet H2 a y (some v)/\Q v H2
def tDIn (ty td:TE):TE:=fun σ H Q=>ty σ H fun y H1=>td σ H1 fun x H2=>∃a o,x= .ref a/\DGet H2 a y o/\Q (.bl o.isSome) H2
def tDNotIn (ty td:TE):TE:=fun σ H Q=>ty σ H fun y H1=>td σ H1 fun x H2=>∃a o,x= .ref a/\DGet H2 a y o/\Q (.bl (!o.isSome)) H2
def sDPut (td ty tv:TE):TS:=fun D σ H=>tv σ H fun v H1=>td σ H1 fun x H2=>ty σ H2 fun y H3=>∃a H4,x= .ref a/\DPut H3 a y v H4/\D.nx σ H4
section
variable {X:Cx}{o i e value:Expr}{pos pos' tpos:Pos}{td ty tv:TE}
theorem pe_dget (hu:X.A.units+1<cLine)(ho:PE X o td)(hi:PE X i ty)(hs:NoSl i):PE X (.Subscript o i pos) (tDGet td ty):=by
 intro pins s σ H Q I h;refine subD_of PySem.F.slot_dict_getitem.lookup hs (thn (ho pins s σ H _ I h) fun u s1 ⟨x,H1,I1,rx,q1⟩=>thn (hi pins s1 σ H1 _ I1 q1) fun iv s2 ⟨y,H2,Z,ry,a,v,ex,g,q2⟩=> ?_);subst ex;obtain rfl:u=Value.ref a:=rx;exact⟨dict_typeIs Z g,d_getItem hu Z g ry fun w' s3 I3 U=>⟨v,H2,I3,U,q2⟩⟩
theorem jI (U:X.A.units+1<cLine)(hi:PE X i ty)(Z:PE X o td):PC X .In i o (tDIn ty td):=by
 intro pins s σ H Q I h;refine thn (hi pins s σ H _ I h) fun iv s1 ⟨y,H1,I1,ry,q1⟩=>thn (Z pins s1 σ H1 _ I1 q1) fun u s2 ⟨x,H2,I2,rx,a,ov,ex,g,q2⟩=> ?_;subst ex;obtain rfl:u=Value.ref a:=rx;exact d_in U I2 g ry fun s3 I3=>⟨.bl ov.isSome,H2,I3,rfl,q2⟩
theorem pc_dnotin (U:X.A.units+1<cLine)(hi:PE X i ty)(Z:PE X o td):PC X .NotIn i o (tDNotIn ty td):=by
 intro pins s σ H Q I h;refine thn (hi pins s σ H _ I h) fun iv s1 ⟨y,H1,I1,ry,q1⟩=>thn (Z pins s1 σ H1 _ I1 q1) fun u s2 ⟨x,H2,I2,rx,a,ov,ex,g,q2⟩=> ?_;subst ex;obtain rfl:u=Value.ref a:=rx;exact d_notIn U I2 g ry fun s3 I3=>⟨.bl (!ov.isSome),H2,I3,rfl,q2⟩
theorem ps_dput (U:X.A.units+1<cLine)(Z:PE X o td)(hi:PE X i ty)(hv:PE X value tv)(hs:swapsWith value (some (.Subscript o i pos')) pos.line X.env=pure false):
  PS X (.Assign [.Subscript o i pos'] value pos) (sDPut td ty tv):=by
 intro pins s σ H D I h;refine wpAny_Assign_Subscript (thn (hv pins s σ H _ I h) fun r s1 ⟨v,H1,I1,rv,q1⟩=>thn (Z pins s1 σ H1 _ I1 q1) fun u s2 ⟨x,H2,I2,rx,q2⟩=>thn (hi pins s2 σ H2 _ I2 q2) fun iv s3 ⟨y,H3,I3,ry,a,H4,ex,g,q3⟩=> ?_) hs;subst ex;obtain rfl:u=Value.ref a:=rx;exact d_setItem U I3 g ry rv fun s4 I4=>⟨σ,H4,I4,q3⟩
end
theorem dk_empty {P:Program}{w:World}{H:Hp}(h:Heap)(U:sysModules<h.objs.size):qY P w H (h.push {cls:= .type "dict",data:= .dict #[]}) h.objs.size (.dK []):=
 ⟨vh _,beq_eq_false_iff_ne.mpr (Uu (uq U)),[],.nil,Heap.DictOf.new h⟩
def tDNewK:TE:=fun _ H Q=>∀p,H p=none->Q (.ref p) (upd H p (.dK []))
section
variable {X:Cx}{pos:Pos}
theorem pe_dnewK:PE X (.Dict [] [] pos) tDNewK:=fun pins s σ H Q I h=>
 wpAny_Dict_empty ⟨.ref s.heap.objs.size,_,I.laid (a:=s.heap.objs.size) (o:= .dK []) (t':=s.toks) (fun _ _ q=>u5 _ q) (u8 _) (dk_empty s.heap I.big),rfl,h _ (I.hok.fresh (u8 _))⟩
end
structure M1 (X:Cx)(o:Expr)(m:Str)(apos:Pos)(e:Expr)(cpos:Pos):Prop where
 base:attributeBase o m X.env (eval o X.env)=eval o X.env
 few:((backTo cpos (starEach [e] X.env)).all (fun x=> !x.1)&&(backToKw cpos (keywordEach [] X.env)).all (fun x=>x.1.isSome)
  &&decide (([e]:List Expr).length+([]:List Keyword).length+(if([]:List Keyword).isEmpty then 0 else 1)<30))=true
 line:(apos.endLine==cpos.line)=true
 trees:backTo cpos (starEach [e] X.env)= [(false,eval e X.env)]
structure M2 (X:Cx)(o:Expr)(m:Str)(apos:Pos)(e f:Expr)(cpos:Pos):Prop where
 base:attributeBase o m X.env (eval o X.env)=eval o X.env
 few:((backTo cpos (starEach [e,f] X.env)).all (fun x=> !x.1)&&(backToKw cpos (keywordEach [] X.env)).all (fun x=>x.1.isSome)
  &&decide (([e,f]:List Expr).length+([]:List Keyword).length+(if([]:List Keyword).isEmpty then 0 else 1)<30))=true
 line:(apos.endLine==cpos.line)=true
 trees:backTo cpos (starEach [e,f] X.env)= [(false,eval e X.env),(false,eval f X.env)]
def IsD (H:Hp)(a:Addr):Prop:=(∃kvs,Rd H a (.dK kvs))∨∃kvs,Rd H a (.dT kvs)
theorem isD_at {X:Cx}{pins:List (Addr×Obj)}{σ:St}{H:Hp}{s:Shared}{a:Addr}(I:Inv X pins σ H s)(d:IsD H a):
  s.TypeIs (.ref a) "dict"/\(∀b,Value.ref a= .ref b->∃U,s.heap.get? b=some U/\U.dict=none)/\(a==sysModules)=false:=by
 rcases d with⟨kvs,e⟩|⟨kvs,e⟩
 ·obtain⟨_,hd,vs,_,dd⟩:=YU I.hok e;refine⟨dd.typeIs,fun b q=> ?_,hd⟩;cases q;obtain⟨U,_,_,h1,h2,_⟩:=dd;exact⟨U,h1,h2.2.1⟩
 ·obtain⟨_,hd,xs,_,dd⟩:=xG I.hok e;refine⟨dd.typeIs,fun b q=> ?_,hd⟩;cases q;obtain⟨U,_,_,h1,h2,_⟩:=dd;exact⟨U,h1,h2.2.1⟩
section
variable {X:Cx}{pins:List (Addr×Obj)}{σ:St}{H:Hp}{s:Shared}{a:Addr}{y d:V}{u r:Value}{o:Option V}{A:Around}{E:Value->Shared->Prop}
theorem d_get1 {Q:Value->Shared->Prop}(hu:A.units+1<cLine)(I:Inv X pins σ H s)(g:DGet H a y o)(ry:RelV y u)(h:∀w' s',Inv X pins σ H s'->RelV (o.getD .non) w'->Q w' s'):
  wpAny (model X.prog X.w) A (call (.builtin "dict.get") [.ref a,u]) Q E s:=by
 rcases g with⟨kvs,k,e,Z,l⟩|⟨kvs,k,b,e,Z,eb,l⟩
 ·subst Z;obtain⟨z,hd,vs,U,dd⟩:=YU I.hok e;refine V3 vJ dd.typeIs Up (PySem.F.args_dict_get_2 _ _) (meets_dict_get (qz X.prog X.w) a (kV_is ry) hd) ⟨_,dd.mapOf,h _ _ (I.tok _) ?_⟩;rw [l];exact(U.val k).getD rfl
 ·subst Z;cases(show u=Value.ref b from ry)
  obtain⟨z,hd,xs,U,dd⟩:=xG I.hok e;refine V3 vJ dd.typeIs Up (PySem.F.args_dict_get_2 _ _) (meetsH_dict_get (tupleKind (qz X.prog X.w)) a b hd) ⟨U3 hu,k,xs,jF I.hok eb,dd,h _ _ (I.tok _) ?_⟩;rw [l];exact(U.val k).getD rfl
theorem d_get2 {Q:Value->Shared->Prop}(hu:A.units+1<cLine)(I:Inv X pins σ H s)(g:DGet H a y o)(ry:RelV y u)(rd:RelV d r)(h:∀w' s',Inv X pins σ H s'->RelV (o.getD d) w'->Q w' s'):
  wpAny (model X.prog X.w) A (call (.builtin "dict.get") [.ref a,u,r]) Q E s:=by
 rcases g with⟨kvs,k,e,Z,l⟩|⟨kvs,k,b,e,Z,eb,l⟩
 ·subst Z;obtain⟨z,hd,vs,U,dd⟩:=YU I.hok e;refine V3 vJ dd.typeIs Up (PySem.F.args_dict_get_3 _ _ _) (meets_dict_get_default (qz X.prog X.w) a (kV_is ry) hd r) ⟨_,dd.mapOf,h _ _ (I.tok _) ?_⟩;rw [l];exact(U.val k).getD rd
 ·subst Z;cases(show u=Value.ref b from ry)
  obtain⟨z,hd,xs,U,dd⟩:=xG I.hok e;refine V3 vJ dd.typeIs Up (PySem.F.args_dict_get_3 _ _ _) (meetsH_dict_get_default (tupleKind (qz X.prog X.w)) a b hd r) ⟨U3 hu,k,xs,jF I.hok eb,dd,h _ _ (I.tok _) ?_⟩;rw [l];exact(U.val k).getD rd
end
def tDGet1 (td ty:TE):TE:=fun σ H Q=>td σ H fun x H1=>∃a,x= .ref a/\IsD H1 a/\ty σ H1 fun y H2=>∃o,DGet H2 a y o/\Q (o.getD .non) H2
def tDGet2 (td ty tx:TE):TE:=fun σ H Q=>td σ H fun x H1=>∃a,x= .ref a/\IsD H1 a/\ty σ H1 fun y H2=>tx σ H2 fun z H3=>∃o,DGet H3 a y o/\Q (o.getD z) H3
def tDPop1 (td ty:TE):TE:=fun σ H Q=>td σ H fun x H1=>∃a,x= .ref a/\IsD H1 a/\ty σ H1 fun y H2=>∃kvs k v,H2 a=some (.dK kvs)/\y=kV k/\valV kvs k=some v/\Q v (upd H2 a (.dK (dropK kvs k)))
section
variable {X:Cx}{o e f:Expr}{apos cpos:Pos}{td ty tx:TE}
theorem pe_dget1 (hu:X.A.units+1<cLine)(ho:PE X o td)(he:PE X e ty)(m:M1 X o "get" apos e cpos):PE X (.Call (.Attribute o "get" apos) [e] [] cpos) (tDGet1 td ty):=by
 intro pins s σ H Q I h;refine wpAny_Call_method m.base m.few m.line Ui vJ PySem.F.type_dict_get (thn (ho pins s σ H _ I h) fun u s1 ⟨x,H1,Z,rx,a,ex,d,q1⟩=> ?_);subst ex;obtain rfl:u=Value.ref a:=rx;obtain⟨t1,t2,_⟩:=isD_at Z d;refine⟨t1,t2,?_⟩;rw [m.trees];refine vC rfl (Uw (vK (thn (he pins s1 σ H1 _ Z q1) fun iv s2 ⟨y,H2,I2,ry,ov,g,q2⟩=>U9 ?_)));exact d_get1 hu I2 g ry fun w' s3 I3 U=>⟨_,H2,I3,U,q2⟩
theorem jD (hu:X.A.units+1<cLine)(ho:PE X o td)(he:PE X e ty)(hf:PE X f tx)(m:M2 X o "get" apos e f cpos):PE X (.Call (.Attribute o "get" apos) [e,f] [] cpos) (tDGet2 td ty tx):=by
 intro pins s σ H Q I h;refine wpAny_Call_method m.base m.few m.line Ui vJ PySem.F.type_dict_get (thn (ho pins s σ H _ I h) fun u s1 ⟨x,H1,Z,rx,a,ex,d,q1⟩=> ?_);subst ex;obtain rfl:u=Value.ref a:=rx;obtain⟨t1,t2,_⟩:=isD_at Z d;refine⟨t1,t2,?_⟩;rw [m.trees];refine vC rfl (Uw (vK (thn (he pins s1 σ H1 _ Z q1) fun iv s2 ⟨y,H2,I2,ry,q2⟩=>
  vK (thn (hf pins s2 σ H2 _ I2 q2) fun fv s3 ⟨z,H3,I3,rz,ov,g,q3⟩=>U9 ?_))))
 exact d_get2 hu I3 g ry rz fun w' s4 I4 U=>⟨_,H3,I4,U,q3⟩
theorem pe_dpop1 (ho:PE X o td)(he:PE X e ty)(m:M1 X o "pop" apos e cpos):PE X (.Call (.Attribute o "pop" apos) [e] [] cpos) (tDPop1 td ty):=by
 intro pins s σ H Q I h;refine wpAny_Call_method m.base m.few m.line Ui PySem.F.slot_dict_pop PySem.F.type_dict_pop (thn (ho pins s σ H _ I h) fun u s1 ⟨x,H1,Z,rx,a,ex,d,q1⟩=> ?_);subst ex;obtain rfl:u=Value.ref a:=rx;obtain⟨t1,t2,_⟩:=isD_at Z d;refine⟨t1,t2,?_⟩;rw [m.trees];refine vC rfl (Uw (vK (thn (he pins s1 σ H1 _ Z q1) fun iv s2 ⟨y,H2,I2,ry,kvs,k,v,ea,ey,l,q2⟩=>U9 ?_)));subst ey;exact d_pop I2 ea ry l (.inl rfl) fun w' s3 I3 U=>⟨v,_,I3,U,q2⟩
end
end L2
namespace Att
open PySem PySem.W PySem.Calls PyProof.Rows
theorem Je {P:Params}{h:Heap}:∀(ns:List Int) (vs:List Value),WellAll P h vs (ns.map WData.int)->IntsAre vs ns:=by
 intro ns
 induction ns with
 |nil=>
  intro vs w;rw [V2] at w;cases w;exact .nil
 |cons n ns U=>
  intro vs w;rw [ui] at w;cases w with
  |cons a b=>
   cases a;exact .cons _ _ (U _ b)
theorem script_of {l:OpenLaw}{n:Nat}(hn:l.most=some n){P:Params}{h:Heap}{args:List WData}{U:List Value}
  (Z:l.row.toRowW.claim.pre args=true) (ad:WellAll P h U args):
  ∃a vs ns,U= [Value.ref a]/\args= [WData.list (ns.map WData.int)]/\h.get? a=some {cls:= .type "list",data:= .seq vs.toArray}/\IntsAre vs ns/\ns.length<=n:=by
 have ae:WShape.hasAll [] args [.list .int]=true:=(pre_splitW Z).1;have hc:l.pre.holds [] {args:=args}=true:=(pre_splitW Z).2;obtain⟨d,r,rfl,h1,h2⟩:=hasAllW_cons ae;obtain rfl:=hasAllW_nil h2;obtain⟨xs,rfl,h3⟩:=hasW_list h1;obtain⟨ns,rfl⟩:=items_int h3;have aa:ns.length<=n:=by
  unfold OpenLaw.pre at hc;have h4:(WTm.not (.lt (.lit (.int (n:Int))) (.len (.arg 0)))).holds [] {args:= [.list (ns.map .int)]}=true:=by
   have h4:=(holds_andW hc).1;rw [hn] at h4;exact h4
  have h5:=condW_of h4 (w_not (w_lt w_lit (w_len_list (w_arg rfl))));rw [u1] at h5;refine Nat.le_of_not_lt fun q=> ?_;have q':(n:Int)<((ns.length:Nat):Int):=by omega
  first
   |(rw [u9 q'] at h5;exact absurd h5 (by decide))
   |(simp at h5;omega)
 cases ad with
 |cons w1 w2=>
  cases w2;cases w1 with
  |list ho ac=>exact⟨_,_,ns,rfl,rfl,ho,Je ns _ ac,aa⟩
theorem post_true (l:OpenLaw)(args:List WData):l.row.toRowW.claim.post args (.bool true) args=true:=
 postW_of (r:=l.row.toRowW) (X:=(true==true))
  (show WShape.has [] (.bool true) .bool=true by first|rfl|decide|simp [WShape.has,WShape.arms,WShape.armsAll])
  (show(WTm.eq .res (.lit (.bool true))).value [] {args:=args,res:=some (.bool true),after:=args}=some (.bool (true==true)) from w_eq_bool (w_res rfl) w_lit) rfl
theorem attach_call {l:OpenLaw}{n:Nat}{q:Program}{U:List Str}{XP:(Str->Option Value)->Heap->Prop}{YP:World->Heap->Prop}{d:DefRec}
  (hn:l.most=some n) (ae:d.params.defaults= [])
  (call:∀(w:World) (s₀ Z:Shared) (mg mb:Str->Option Value) (fa:Addr) (o:Obj) (pm cd doc:Value) (a:Addr) (vs:List Value) (ns:List Int),
   Ground q U [] XP w s₀ mg mb Z.heap->YP w Z.heap->
   Z.heap.get? fa=some o->o.data= .func (docDef d.name d.params d.body d.scope pm cd doc)->Z.heap.CodeRec cd d.name->mg d.name=some (.ref fa)->
   Z.heap.get? a=some {cls:= .type "list",data:= .seq vs.toArray}->IntsAre vs ns->ns.length<=n->Z.gens= #[]->
   codeAny (model l.prog w) callerA (.call (.ref fa) ⟨[.ref a],[]⟩) (fun r s'=>r= .ok (.ret (.bool true))/\OldK Z.heap s'.heap/\s'.os=Z.os/\AllBare s'.gens) Z):
  WalkO q U XP YP l.row.toRowW d [] (fun f vs=>PySem.call f vs):=by
 intro w s₀ Z mg mb G Y fa o pm cd doc dV kV ho hd af hD ag hg args ah as hpre hlay hrd hwl hlo;obtain rfl:dV= .none:=Dflts.none hD ae;obtain rfl:kV= .none:=Dflts.noKw hD;obtain⟨a,vs,ns,rfl,rfl,ac,aa,ad⟩:=script_of hn hpre hwl;refine enter_call (UG (call w s₀ Z mg mb fa o pm cd doc a vs ns G Y ho (fd_plain hd) af ag ac aa ad hg) fun r s' hq=> ?_);obtain⟨rfl,h2,h3,h4⟩:=hq;exact⟨.inl ⟨.bool true,.bool true,[],rfl,fun _=>rfl,.bool true,post_true l _,fun _=>⟨List.Pairwise.nil,fun _ hm=>(nomatch hm)⟩⟩,h2,h3,h4⟩
end Att
namespace L2
open PySem PySem.Spec PyProof.Rows
theorem vals_ints:∀{vs:List Value}{ns:List Int},IntsAre vs ns->Vals (ns.map V.int) vs
 |_,_,.nil=> .nil
 |_,_,.cons n t h=> .cons ⟨t,rfl⟩ (vals_ints h)
def Only (H:Hp):Prop:=∀b,H b=none∨∃o xs,H b=some (.frz o (.lst xs))
theorem law_call {P:Program}{w:World}{K:PySem.W.Frag}{mg mb:Str->Option Value}{CX:CXT}{k:Nat}{fa a:Addr}{fd:FuncData}{x:Str}{sp:Sp}{U:Shared}{vs:List Value}{ns:List Int}
  (KX:K.In U.heap) (ae:U.heap.Ns mainGlobals mg) (hb:U.heap.Ns builtinsNs mb) (ak:∀x:Str,x≠"__name__"->mb x=bootBuiltins x) (af:U.heap.NoLimit) (hg:U.gens= #[])
  (ha:U.heap.get? a=some {cls:= .type "list",data:= .seq vs.toArray}) (hi:IntsAre vs ns) (hl:ns.length<=sizeLine) (hr:Room k callerA)
  (F:∀base:Heap,K.In base->base.Ns mainGlobals mg->FnOk P w K mg base CX k fa fd [x] sp) (ad:∀(s:Shared) (u:Value),BindsTo s fd ⟨[u],[]⟩ [(x,u)])
  (ag:fd.scope.names.lookup x=some .local) (al:∀H:Hp,Only H->SqL K H a (ns.map V.int)->sp [.ref a] H (fun v _=>v= .bl true) fun _ _ _=>False)
  (am:∀H e s',CX [] H U (fun _ _ _=>False) e s'->False):
  codeAny (model P w) callerA (.call (.ref fa) ⟨[.ref a],[]⟩) (fun r s'=>r= .ok (.ret (.bool true))/\OldK U.heap s'.heap/\s'.os=U.os/\AllBare s'.gens) U:=by
 have rv:=vals_ints hi;have ah:=hi.length;have ac:∀H:Hp,Only H->SqL K H a (ns.map V.int)->HOk P w H U.heap->(∀b,H b≠none->b=a)->(H a≠none->K.lookup a=none)->
   codeAny (model P w) callerA (.call (.ref fa) ⟨[.ref a],[]⟩) (fun r s'=>r= .ok (.ret (.bool true))/\OldK U.heap s'.heap/\s'.os=U.os/\AllBare s'.gens) U:=by
  intro H hO hS hok hA hK;have Z:∀{b:Addr}{o:Obj},U.heap.get? b=some o->H b=none->(hidT U.heap H).get? b=some o:=fun e n=>hidT_get e n;have ao:∀{b:Addr}{o:Obj}{es:Array DictEntry}{ep:Nat},U.heap.get? b=some o->o.data= .dict es ep->H b=none:=fun{b o es ep} e d=>by
   cases q:H b with
   |none=>rfl
   |some u=>
    have e':b=a:=hA b (by rw [q];simp)
    subst e';rw [ha] at e;cases e;have d':Data.seq vs.toArray _=Data.dict es ep:=d;cases d'
  have aa:∀{b:Addr}{m:Str->Option Value},U.heap.Ns b m->(hidT U.heap H).Ns b m:=fun{b m} ⟨o,es,ep,e,d,r⟩=>⟨o,es,ep,Z e (ao e d),d,r⟩;have ai:K.In (hidT U.heap H):=fun b o e=>Z (KX b o e) (by
   cases q:H b with
   |none=>rfl
   |some u=>
    have e':b=a:=hA b (by rw [q];simp)
    subst e';rw [hK (by rw [q];simp)] at e;cases e)
  have hM:Mod K mg (hidT U.heap H):=⟨ai,aa ae,⟨mb,aa hb,ak⟩,let⟨mc,h1,h2⟩:=af;⟨mc,aa h1,h2⟩⟩;have e0:Env0 P w K mg (hidT U.heap H) callerA [] U H:=⟨rfl,hM,fun b o e=>of_hidT e,V1 (hidT_size _ _),trivial,fun b hb=>absurd (show b∈([]:List Addr) from hb) (by simp),hok,.of_eq hg⟩
  refine UG ((F _ ai (aa ae)).run callerA [] U H ⟨[.ref a],[]⟩ [.ref a] [.ref a] _ _ hr e0 (ad U (.ref a)) (.cons rfl .nil) (al H hO hS) (.inr ⟨_,_,rfl,ag⟩)) fun r s' h=> ?_;cases r with
  |error e=>exact(am H e s' h).elim
  |ok fl=>
   cases fl with
   |next=>exact False.elim h
   |brk=>exact False.elim h
   |cont=>exact False.elim h
   |ret u=>
    obtain⟨v,H',os,bare,htk,un,aj,r',q⟩:=h;have q':v= .bl true:=q;subst q';obtain rfl:u=Value.bool true:=r';refine⟨rfl,OldK.of_keep fun b o e=> ?_,os,bare⟩;cases q:H b with
    |none=>exact un.keep b o e q (by intro z;exact absurd (show b∈([]:List Addr) from z) (by simp)) (by simp)
    |some u=>
     rcases hO b with z|⟨ob,xs,z⟩
     ·rw [q] at z;cases z
     ·have z2:=un.frzs b ob _ z;obtain⟨e1,_⟩:=hok b _ z;obtain⟨e2,_⟩:=aj b _ z2;rw [e] at e1;cases e1;exact e2
 cases hk:K.lookup a with
 |some o=>
  have e:=KX a o hk;rw [ha] at e;cases e;refine ac (fun _=>none) (fun _=> .inl rfl) (.inr ⟨_,vs.toArray,_,hk,rfl,rfl,rfl,by rw [ub,ah];exact hl,by simpa using rv⟩) (fun b u z=>by have z':(none:Option HO)=some u:=z;cases z') (fun b z=>absurd rfl z) fun z=>absurd rfl z
 |none=>
  refine ac (fun b=>if b=a then some (.frz {cls:= .type "list",data:= .seq vs.toArray} (.lst (ns.map V.int))) else none) (fun b=> ?_) (.inl (.inr ⟨{cls:= .type "list",data:= .seq vs.toArray},if_pos rfl⟩)) (fun b u z=> ?_) (fun b z=> ?_) fun _=>hk
  ·by_cases hb:b=a
   ·exact .inr ⟨_,_,if_pos hb⟩
   ·exact .inl (if_neg hb)
  ·by_cases hb:b=a
   ·have z':=(if_pos hb).symm.trans z;cases z';subst hb;exact⟨ha,by rw [u1];exact hl,vs,_,rv,ha⟩
   ·have z':=(if_neg hb).symm.trans z;cases z'
  ·by_cases hb:b=a
   ·exact hb
   ·exact absurd (if_neg hb) z
abbrev KOf {K:PySem.W.Frag}{h:Heap}(_:K.In h):PySem.W.Frag:=K
theorem walk_of {l:PySem.W.OpenLaw}{n k:Nat}{q:Program}{Z:List Str}{XP:(Str->Option Value)->Heap->Prop}{YP:World->Heap->Prop}{d:DefRec}{K:Params->PySem.W.Frag}{CX:World->CXT}{sp:World->Sp}{x:Str}
  (hn:l.most=some n) (ae:n<=sizeLine) (af:d.params.defaults= []) (hr:Room k callerA)
  (hY:∀(w:World) (h:Heap),YP w h->(K w.params).In h)
  (F:∀(w:World) (mg:Str->Option Value) (fa:Addr) (h:Heap),(K w.params).In h->h.Ns mainGlobals mg->mg d.name=some (.ref fa)->
   ∃fd:FuncData,(∀(s:Shared) (u:Value),BindsTo s fd ⟨[u],[]⟩ [(x,u)])/\fd.scope.names.lookup x=some .local/\
    ∀base:Heap,(K w.params).In base->base.Ns mainGlobals mg->FnOk l.prog w (K w.params) mg base (CX w) k fa fd [x] (sp w))
  (ag:∀(w:World) (H:Hp) (a:Addr) (ns:List Int),ns.length<=n->Only H->SqL (K w.params) H a (ns.map V.int)->sp w [.ref a] H (fun v _=>v= .bl true) fun _ _ _=>False)
  (ah:∀(w:World) (H:Hp) (s:Shared) (e:Value) (s':Shared),CX w [] H s (fun _ _ _=>False) e s'->False):
  PySem.W.WalkO q Z XP YP l.row.toRowW d [] (fun f vs=>PySem.call f vs):=by
 refine Att.attach_call hn af fun w s₀ s₁ mg mb fa o pm cd doc a vs ns G Y ho hd aj ai ac aa U hg=> ?_;have KX:=hY w _ Y;obtain⟨fd,hb,ad,hF⟩:=F w mg fa _ KX G.T.g ai;exact law_call KX G.T.g G.T.b G.T.builtins G.T.nolimit hg ac aa (uG U ae) hr hF hb ad (fun H hO hS=>ag w H a ns U hO hS) fun H e s'=>ah w H s₁ e s'
theorem walk_ofK {l:PySem.W.OpenLaw}{n k:Nat}{q:Program}{U:List Str}{XP:(Str->Option Value)->Heap->Prop}{YP:World->Heap->Prop}{d:DefRec}{K:Params->PySem.W.Frag}{CX:CXT}{sp:PySem.W.Frag->Sp}{x:Str}
  (hn:l.most=some n) (Z:n<=sizeLine) (aa:d.params.defaults= []) (hr:Room k callerA)
  (hY:∀(w:World) (h:Heap),YP w h->(K w.params).In h)
  (F:∀(w:World) (mg:Str->Option Value) (fa:Addr) (h:Heap),(K w.params).In h->h.Ns mainGlobals mg->mg d.name=some (.ref fa)->
   ∃fd:FuncData,(∀(s:Shared) (u:Value),BindsTo s fd ⟨[u],[]⟩ [(x,u)])/\fd.scope.names.lookup x=some .local/\
    ∀base:Heap,(K w.params).In base->base.Ns mainGlobals mg->FnOk l.prog w (K w.params) mg base CX k fa fd [x] (sp (K w.params)))
  (ac:∀(K:PySem.W.Frag) (H:Hp) (a:Addr) (ns:List Int),ns.length<=n->Only H->SqL K H a (ns.map V.int)->sp K [.ref a] H (fun v _=>v= .bl true) fun _ _ _=>False)
  (ad:∀(H:Hp) (s:Shared) (e:Value) (s':Shared),CX [] H s (fun _ _ _=>False) e s'->False):
  PySem.W.WalkO q U XP YP l.row.toRowW d [] (fun f vs=>PySem.call f vs):=
 walk_of (K:=K) (CX:=fun _=>CX) (sp:=fun w=>sp (K w.params)) hn Z aa hr hY F (fun w H a ns h1 h2 h3=>ac (K w.params) H a ns h1 h2 h3) fun _ H s e s'=>ad H s e s'
def xq (s:Stmt)(j:Nat):Stmt:=match s with
 | .ClassDef _ _ _ body _ _ _ _ _ _ _=>body.getD j (.Pass ⟨0,0,0,0⟩)
 |_=> .Pass ⟨0,0,0,0⟩
def Yo (s:Stmt):Arguments:=match s with
 | .FunctionDef _ a _ _ _ _ _ _ _ _=>a
 |_=>{posonlyargs:= [],args:= [],vararg:=none,kwonlyargs:= [],kw_defaults:= [],kwarg:=none,defaults:= []}
def yC (s:Stmt):List Stmt:=match s with
 | .FunctionDef _ _ b _ _ _ _ _ _ _=>b
 |_=> []
def qi (s:Stmt):Scope:=match s with
 | .FunctionDef _ _ _ _ _ _ sc _ _ _=>sc
 |_=>{kind:= .function,names:= [],isGenerator:=false,isCoroutine:=false}
abbrev CX0:CXT:=fun _ _ _ _ _ _=>False
abbrev E0:XK:=fun _ _ _=>False
theorem qu {X:Cx}:jm CX0 X E0:=fun _ _ _ _ _ _ _ h=>h.elim
structure Fun (K:PySem.W.Frag)(x qual:Str)(st:Stmt)(f:Addr)(fd:FuncData):Prop where
 ex:∃(oc:Value) (od:Option Addr) (kV doc pm:Value) (an:Option Addr) (cdv ct:Value) (osl:Array (Option Value)),
  fd=PySem.W.fnOf x qual (Yo st) (yC st) (qi st) .none kV doc pm an cdv ct/\K.lookup f=some ⟨oc,od,.func fd,osl⟩/\PySem.W.codeIn K cdv qual=true
 kp:PySem.W.keepIn K (.ref f)=true
section
variable {P:Program}{w:World}{K:PySem.W.Frag}{mg:Str->Option Value}{base:Heap}
theorem Fun.ok {x qual:Str}{st:Stmt}{f:Addr}{fd:FuncData}{N ps:List Str}{k:Nat}{sp:Sp}(F:Fun K x qual st f fd)(S:qA N ps (qi st))(len:∀vs H Q E,sp vs H Q E->vs.length=ps.length)
  (U:∀(cdv:Value) (A:Around) (outer:List Env) (s:Shared) (H:Hp) (vs:List V) (Q:VK) (E:XK),Room k (A.deeper (envOfC qual (qi st) s.heap.objs.size f cdv))->sp vs H Q E->
   ∃t,PSs (cxOf CX0 P w K mg base N qual (qi st) f cdv A outer s H E).nox (yC st) t/\t {nx:=fun _ H'=>Q .non H',rt:=Q} (start N vs) H):FnOk P w K mg base CX0 (k+1) f fd ps sp:=by
 obtain⟨oc,od,kV,doc,pm,an,cdv,ct,osl,rfl,lk,Z⟩:=F.ex;refine fn_of lk Z S len fun A outer s H vs Q E hr aa=> ?_;obtain⟨t,h,q⟩:=U cdv A outer s H vs Q E hr aa;exact⟨t,h.nox,q⟩
theorem Fun.binds {x qual:Str}{st:Stmt}{f:Addr}{fd:FuncData}{ps:List Str}(F:Fun K x qual st f fd)
  (h:∀(kV doc pm:Value) (an:Option Addr) (cdv ct:Value) (us:List Value),us.length=ps.length->bindArgs (PySem.W.fnOf x qual (Yo st) (yC st) (qi st) .none kV doc pm an cdv ct) ⟨us,[]⟩=pure (ps.zip us)):jy K fd ps []:=by
 obtain⟨oc,od,kV,doc,pm,an,cdv,ct,osl,rfl,Z,U⟩:=F.ex;exact .all (h kV doc pm an cdv ct)
theorem fun_mk {x qual:Str}{st:Stmt}{f:Addr}{oc:Value}{od an:Option Addr}{osl:Array (Option Value)}{kV doc pm cdv ct:Value}(l:K.lookup f=some ⟨oc,od,.func (PySem.W.fnOf x qual (Yo st) (yC st) (qi st) .none kV doc pm an cdv ct),osl⟩)
  (c:PySem.W.codeIn K cdv qual=true) (k:PySem.W.keepIn K (.ref f)=true):Fun K x qual st f (PySem.W.fnOf x qual (Yo st) (yC st) (qi st) .none kV doc pm an cdv ct):=⟨⟨oc,od,kV,doc,pm,an,cdv,ct,osl,rfl,l,c⟩,k⟩
end
theorem yy {A:Around}{k:Nat}(U:Room k A):A.units+1<cLine:=vL (Nat.add_le_add_left (by decide:1<=64) _) U.units
theorem small1000 {n:Nat}(h:n<=1000):n<sizeLine:=vL h (by decide)
section
variable {X:Cx}
theorem pv (i:Nat){x:Str}{pos:Pos}(Z:X.N[i]? =some x:=by rfl)(hv:Vis X.env.scope x:=by first|exact Or.inl rfl|exact Or.inr (Or.inl rfl)|exact Or.inr (Or.inr rfl))(hd:(x==("__debug__":Str))=false:=by decide)
  (U:(x==("__classdict__":Str))=false:=by decide):PE X (.Name x pos) (tVar i):=pe_var Z hv hd U
theorem call_lenD:Qn X (.builtin "len") (fun xs H Q=>∃a kvs,xs= [V.ref a]/\H a=some (.dK kvs)/\Q (.int kvs.length) H):=by
 intro pins s σ H xs us Q I r h;obtain⟨a,kvs,rfl,ha,q⟩:=h;obtain⟨u,rfl,U⟩:=QX r;cases U;exact d_len I (.inl ha) fun t s' Z=>⟨.int kvs.length,H,Z,⟨t,rfl⟩,q⟩
end
theorem iteF {A B:Prop}(h:B):if false=true then A else B:=by
 rw [if_neg uf];exact h
theorem iteT {A B:Prop}(h:A):if true=true then A else B:=by
 rw [if_pos rfl];exact h
theorem ite2 {c A B:Prop}[Decidable c](h1:c->A)(h2:¬c->B):if c then A else B:=by
 by_cases h:c
 ·rw [if_pos h];exact h1 h
 ·rw [if_neg h];exact h2 h
theorem iteNS {c A B:Prop}[Decidable c](U:c)(h:B):if(!decide c)=true then A else B:=by
 rw [u9 U];exact iteF h
def Same (H H':Hp):Prop:=∀b o,H b=some o->H' b=some o
theorem Same.refl (H:Hp):Same H H:=fun _ _ h=>h
theorem Same.trans {H H1 H2:Hp}(a:Same H H1)(b:Same H1 H2):Same H H2:=fun c o h=>b c o (a c o h)
theorem Same.free {H H':Hp}(e:Same H H'){l:Addr}(h:H' l=Option.none):H l=Option.none:=by
 cases q:H l with
 |none=>rfl
 |some o=>
  rw [e l o q] at h;cases h
theorem Same.seq {K:PySem.W.Frag}{H H':Hp}{a:Addr}{xs:List V}(e:Same H H')(h:SqL K H a xs):SqL K H' a xs:=by
 rcases h with(h|⟨o,h⟩)|h
 ·exact .inl (.inl (e _ _ h))
 ·exact .inl (.inr ⟨o,e _ _ h⟩)
 ·exact .inr h
end L2
namespace L2
open PySem
inductive D where
 |non|bl (b:Bool)|int (i:Int)|str (z:Str)|lst|dct|tup (xs:List D)
def Qb (c:Nat):Bool:=decide (32<=c)&&decide (c<=126)&&decide (c≠37)
def Q2 (z:Str):Bool:=decide (z.length<=300)&&z.cps.toList.all Qb
mutual
def good:D->Bool
 | .str z=>Q2 z
 | .tup xs=>decide (xs.length<=40)&&goodL xs
 |_=>false
def goodL:List D->Bool
 | []=>true
 |x::r=>good x&&goodL r
end
mutual
def sz:D->Nat
 | .str z=>z.length+1
 | .tup xs=>1+szL xs
 |_=>0
def szL:List D->Nat
 | []=>0
 |x::r=>sz x+szL r
end
mutual
def dp:D->Nat
 | .str _=>1
 | .tup xs=>1+dpL xs
 |_=>0
def dpL:List D->Nat
 | []=>0
 |x::r=>max (dp x) (dpL r)
end
mutual
def nd:D->Nat
 | .tup xs=>1+ndL xs
 |_=>1
def ndL:List D->Nat
 | []=>0
 |x::r=>nd x+ndL r
end
def isT (d:D):Bool:=good d&&decide (sz d<=600)&&decide (dp d<=12)
theorem je:∀(xs ys:List D),szL (xs++ys)=szL xs+szL ys
 | [],ys=>by simp [szL]
 |x::r,ys=>by simp only [vY,szL,je r ys];omega
theorem jb:∀(xs ys:List D),ndL (xs++ys)=ndL xs+ndL ys
 | [],ys=>by simp [ndL]
 |x::r,ys=>by simp only [vY,ndL,jb r ys];omega
theorem JN:∀(xs ys:List D),dpL (xs++ys)=max (dpL xs) (dpL ys)
 | [],ys=>by simp [dpL]
 |x::r,ys=>by simp only [vY,dpL,JN r ys];omega
theorem goodL_all:∀(xs:List D),goodL xs=xs.all good
 | []=>rfl
 |x::r=>by simp only [goodL,vv,goodL_all r]
theorem ji {k:Nat}:∀(xs:List D),dpL xs<=k↔∀x∈xs,dp x<=k
 | []=>by simp [dpL]
 |x::r=>by
  have Z:=ji (k:=k) r;have e:dpL (x::r)=max (dp x) (dpL r):=by simp only [dpL]
  rw [e];constructor
  ·intro h y U;rcases List.mem_cons.mp U with rfl|U
   ·omega
   ·exact Z.mp (by omega) y U
  ·intro h;have h1:=h x uo;have h2:=Z.mpr fun y U=>h y (ue _ U);omega
theorem dp_pos {d:D}(h:good d=true):1<=dp d:=by
 cases d<;>simp_all [good,dp]
def wOk (w:List (D×Nat)):Bool:=w.all fun p=>good p.1&&decide (p.2+dp p.1<=13)
def wSz (w:List (D×Nat)):Nat:=szL (w.map (·.1))
def G (w:List (D×Nat))(n:Nat):Bool:=wOk w&&decide (n+wSz w<=600)
theorem G_start (d:D):G [(d,1)] 0=isT d:=by
 simp only [G,wOk,wSz,isT,vv,List.all_nil,ui,V2,szL,Bool.and_true,Ug,Nat.add_zero];have e:decide (1+dp d<=13)=decide (dp d<=12):=by
  rw [vZ];omega
 rw [e];cases good d<;>cases decide (sz d<=600)<;>cases decide (dp d<=12)<;>rfl
theorem G_nil {n:Nat}(h:n<=600):G [] n=true:=by simp [G,wOk,wSz,szL,h]
theorem G_snoc (w:List (D×Nat))(d:D)(k n:Nat):G (w++ [(d,k)]) n=(wOk w&&(good d&&decide (k+dp d<=13))&&decide (n+(wSz w+sz d)<=600)):=by
 simp only [G,wOk,wSz,vw,vv,List.all_nil,Bool.and_true,ud,ui,V2,je,szL,Nat.add_zero]
 rfl
theorem G_bad {w:List (D×Nat)}{d:D}{k n:Nat}(h:good d=false):G (w++ [(d,k)]) n=false:=by
 rw [G_snoc,h];simp
theorem G_deep {w:List (D×Nat)}{d:D}{k n:Nat}(h:12<k):G (w++ [(d,k)]) n=false:=by
 rw [G_snoc];cases U:good d with
 |false=>simp
 |true=>
  have:=dp_pos U;have e:decide (k+dp d<=13)=false:=ua (by omega)
  rw [e];simp
theorem G_big {w:List (D×Nat)}{d:D}{k n:Nat}(h:600<n+sz d):G (w++ [(d,k)]) n=false:=by
 rw [G_snoc];have e:decide (n+(wSz w+sz d)<=600)=false:=ua (by omega)
 rw [e];simp
theorem G_big1 {w:List (D×Nat)}{xs:List D}{k n:Nat}(h:600<n+1):G (w++ [(.tup xs,k)]) n=false:=G_big (by simp only [sz];omega)
theorem wOk_map (xs:List D)(k:Nat):wOk (xs.map fun x=>(x,k+1))=(goodL xs&&xs.all fun x=>decide (k+1+dp x<=13)):=by
 induction xs with
 |nil=>rfl
 |cons x r U=>
  simp only [ui,wOk,vv,goodL] at U⊢;rw [U];cases good x<;>cases decide (k+1+dp x<=13)<;>cases goodL r<;>simp
theorem wSz_map (xs:List D)(k:Nat):wSz (xs.map fun x=>(x,k+1))=szL xs:=by
 unfold wSz;rw [uC]
 congr 1
 induction xs with
 |nil=>rfl
 |cons x r U=>simp only [ui,U];rfl
theorem G_tup {w:List (D×Nat)}{xs:List D}{k n:Nat}(Z:xs.length<=40)(hk:k<=12):G (w++ [(.tup xs,k)]) n=G (w++xs.map fun x=>(x,k+1)) (n+1):=by
 rw [G_snoc];unfold G;have e1:wOk (w++xs.map fun x=>(x,k+1))=(wOk w&&wOk (xs.map fun x=>(x,k+1))):=by unfold wOk;rw [vw]
 have e2:wSz (w++xs.map fun x=>(x,k+1))=wSz w+szL xs:=by
  have:=wSz_map xs k;unfold wSz at this⊢;rw [ud,je,this]
 have e3:decide (k+dp (.tup xs)<=13)=xs.all fun x=>decide (k+1+dp x<=13):=by
  have q:=ji (k:=12-k) xs;have e0:dp (.tup xs)=1+dpL xs:=by simp only [dp]
  rw [e0,vq];constructor
  ·intro h;have h:=ur h;refine List.all_eq_true.mpr fun x U=>u9 ?_;have h2:=q.mp (by omega) x U
   omega
  ·intro h;refine u9 ?_;have h2:=q.mpr fun x U=>by
    have h3:=ur (List.all_eq_true.mp h x U);omega
   omega
 rw [e1,e2,e3,wOk_map];have e4:good (.tup xs)=goodL xs:=by simp only [good,u9 Z,UQ]
 have e5:decide (n+(wSz w+sz (.tup xs))<=600)=decide (n+1+(wSz w+szL xs)<=600):=by
  rw [vZ];simp only [sz];omega
 rw [e4,e5]
theorem G_str {w:List (D×Nat)}{z:Str}{k n:Nat}(U:Q2 z=true)(hk:k<=12):G (w++ [(.str z,k)]) n=G w (n+(1+z.length)):=by
 rw [G_snoc];unfold G;have Z:good (.str z)=true:=by simp only [good,U]
 have e3:decide (k+dp (.str z)<=13)=true:=u9 (by simp only [dp];omega)
 have e5:decide (n+(wSz w+sz (.str z))<=600)=decide (n+(1+z.length)+wSz w<=600):=by
  rw [vZ];simp only [sz];omega
 rw [Z,e3,e5];simp
end L2
namespace L2
open PySem PySem.Spec PyProof.Rows
def Its (x:Str):It:=⟨fun i _=>i<x.cps.size,fun i H v H'=>H'=H/\∃c,x.cps[i]? =some c/\v= .str ⟨#[c]⟩,fun i _=>i=x.cps.size⟩
theorem turn_str {P:Program}{w:World}{K:PySem.W.Frag}{tg:Expr}{x:Str}{t:Tok}{it:Addr}(ty:String)(U:ty="str_ascii_iterator"∨ty="str_iterator"):
  Turn P w K tg (Its x) [it] it (fun i h=>h.IsStrIter it ty x t i) where
 mem:=by simp
 obj:=fun i h st b Z=>by
  have e:b=it:=by simpa using Z
  subst e;obtain⟨o,e,c,d⟩:=st;exact⟨o,e,fun v z=>by rw [d] at z;cases z⟩
 keep:=fun i h h' st k=>by
  obtain⟨o,e,r⟩:=st;exact⟨o,k it (by simp) o e,r⟩
 item:=by
  intro X hP hw hK hc i pins s σ H E I hf st hg;subst hP hw hK;obtain⟨f0,f1,f2,f3,f4,f5⟩:=hf it (by simp)
  have W:Walks X.prog X.w X.A it [it] [it] x.cps.size (SignAt x) (fun i h=>h.IsStrIter it ty x t i):=by
   rcases U with rfl|rfl
   ·exact Walks.strAscii (I.ok.hd hc) it x t
   ·exact Walks.strWide (I.ok.hd hc) it x t
  refine ux (n:=1) I.tk (W.item i s _ _ hg st fun v h' tk hv aa kk=> ?_);intro htk;obtain⟨c,u,hx,rfl⟩:=hv;have I1:Inv X pins σ H {s with heap:=h',toks:=tk}:=I.turned (fun b o Z e=>kk b o (by simpa using Z) e) f0 f1 f3 f4 f5
  obtain⟨o,e,c',d⟩:=id aa;refine⟨_,rfl,go_of (s:={s with heap:=h',toks:=tk}) e c' d (by rcases U with rfl|rfl<;>decide) ⟨.str ⟨#[c]⟩,H,I1,⟨u,rfl⟩,⟨rfl,c,hx,rfl⟩,aa,fun b Z=>(hf b Z).1⟩⟩
 done:=by
  intro X hP hw hK hc i pins s σ H E I hf st hg;subst hP hw hK;have ac:i=x.cps.size:=hg;subst ac;obtain⟨f0,f1,f2,f3,f4,f5⟩:=hf it (by simp)
  have W:Walks X.prog X.w X.A it [it] [it] x.cps.size (SignAt x) (fun i h=>h.IsStrIter it ty x t i):=by
   rcases U with rfl|rfl
   ·exact Walks.strAscii (I.ok.hd hc) it x t
   ·exact Walks.strWide (I.ok.hd hc) it x t
  exact ux (n:=1) I.tk (W.done s _ _ st fun h' tk kk htk=>⟨rfl,I.turned (fun b o Z e=>kk b o (by simpa using Z) e) f0 f1 f3 f4 f5⟩)
 self:=fun _ _ _ _ _ st h=>by
  rcases U with rfl|rfl
  ·exact wpAny_pyIter_striter_ascii st h
  ·exact wpAny_pyIter_striter_wide st h
section
variable {X:Cx}{tg:Expr}
def iStr (tl:TE):TI:=fun σ H R=>tl σ H fun x H1=>∃z,x= .str z/\R (Its z) H1
theorem pi_str {l:Expr}{tl:TE}(Z:PE X l tl):PI X tg l (iStr tl):=by
 intro pins s σ H R I h;refine thn (Z pins s σ H _ I h) fun v s1 ⟨x,H1,U,r1,q1⟩=> ?_;obtain⟨z,e,q⟩:=q1;subst e;obtain⟨t,rfl⟩:=r1;have fp:∀(o:Obj),∀b∈ [s1.heap.objs.size],FpOk X pins H1 b:=fun o b hb=>by
  have e:b=s1.heap.objs.size:=by simpa using hb
  subst e;exact U.fpOk (u8 _) (U.hok.fresh (u8 _))
 cases ha:z.cps.all (·<128)
 ·refine wpAny_pyIter_wide ha ?_;exact⟨s1.heap.objs.size,[s1.heap.objs.size],_,_,H1,rfl,U.kept (t':=s1.toks) fun b o e=>u5 _ e,turn_str "str_iterator" (.inr rfl),⟨_,uc _ rfl,rfl,rfl⟩,fp default,q⟩
 ·refine wpAny_pyIter_ascii ha ?_;exact⟨s1.heap.objs.size,[s1.heap.objs.size],_,_,H1,rfl,U.kept (t':=s1.toks) fun b o e=>u5 _ e,turn_str "str_ascii_iterator" (.inl rfl),⟨_,uc _ rfl,rfl,rfl⟩,fp default,q⟩
def rSlS:V->Option Int->Option Int->Hp->VK->Prop:=fun x lo hi H Q=>∃z,x= .str z/\z.length<=sizeLine/\Q (.str (Txt.slice z lo hi)) H
def tokOf:Value->Option (Int×Tok)
 | .int i t=>some (i,t)
 |_=>none
theorem sl_str:SlR X rSlS:=by
 intro pins s σ H x v U Z lo hi sl Q I rx hs pl pu h;obtain⟨z,rfl,hz,q⟩:=h;obtain⟨t,rfl⟩:=rx;refine⟨"str",_,F.slot_str_getitem.lookup,typeIs_str _ _ _,?_⟩;have hl:U=partValue (tokOf U)/\lo=(tokOf U).map (·.1):=by cases pl<;>exact⟨rfl,rfl⟩
 have hu:Z=partValue (tokOf Z)/\hi=(tokOf Z).map (·.1):=by cases pu<;>exact⟨rfl,rfl⟩
 obtain⟨o,e1,e2,e3⟩:=hs;refine ux (n:=1) I.tk ?_;refine wpAny_getItem_str_slice (l:=tokOf U) (u:=tokOf Z) (st:=none) ⟨o,e1,e2,by rw [e3,<-hl.1,<-hu.1];rfl⟩ rfl ?_
 refine post_val_or_str ⟨?_,fun t' k=> ?_⟩
 ·exact uG (Txt.slice_le z _ _) hz
 ·intro htk;exact⟨.str (Txt.slice z lo hi),H,I.tok k,⟨t',by rw [hl.2,hu.2];rfl⟩,q⟩
theorem op_isB:OpR X (compareOp .Is) (fun x y H Q=>∃c,y= .bl c/\Q (.bl (decide (x= .bl c))) H):=by
 intro pins s σ H x y v u Q I U Z h;obtain⟨c,rfl,q⟩:=h;cases Z;have hp:plainIs v (.bool c)=true:=by
  cases x<;>first
   |(cases U;rfl)
   |(obtain⟨t,rfl⟩:=U;rfl)
 refine wpAny_is_plain hp (qI I q ?_);cases x with
 |bl b=>cases U;cases b<;>cases c<;>rfl
 |non=>cases U;rfl
 |ref a=>cases U;rfl
 |ty n=>cases U;rfl
 |int i=>obtain⟨t,rfl⟩:=U;rfl
 |str i=>obtain⟨t,rfl⟩:=U;rfl
 |byt i=>obtain⟨t,rfl⟩:=U;rfl
 |flt i=>obtain⟨t,rfl⟩:=U;rfl
theorem Qd {K:PySem.W.Frag}(Z:X.K=K):Qn X (.builtin "isinstance") (fun xs H Q=>∃x T t b,xs= [x,.ty T]/\TyOf K H x t/\PySem.W.kitOne K t (.type T)=some b/\Q (.bl b) H):=by
 intro pins s σ H xs us Q I r h;obtain⟨x,T,t,b,rfl,ty,e,q⟩:=h;obtain⟨u,u',rfl,ru,U⟩:=vals2 r;cases U;subst Z;exact ux (n:=1) I.tk (isinst_ok I ru ty e fun tk htk=>⟨.bl b,H,I.tok tk,rfl,q⟩)
theorem all_range:∀bs:List Bool,(List.range bs.length).all (fun i=>bs.getD i true)=bs.all id
 | []=>rfl
 |b::r=>by
  rw [uz,List.range_succ_eq_map,vv,UI,vv];have e:(List.range r.length).all ((fun i=>(b::r).getD i true)∘Nat.succ)=(List.range r.length).all fun i=>r.getD i true:=by
   congr 1
  rw [e,all_range r]
  rfl
theorem Jq (hc:X.calm=true):Qn X (.builtin "all") (fun xs H Q=>∃(p:Addr) (bs:List Bool),xs= [.ref p]/\SqL X.K H p (bs.map V.bl)/\Q (.bl (bs.all id)) H):=by
 intro pins s σ H xs us Q I r h;obtain⟨p,bs,rfl,hp,q⟩:=h;obtain⟨u,rfl,ru⟩:=QX r;cases ru;obtain⟨its,rv,pl,hz⟩:=I.list hp;have ac:p<s.heap.objs.size:=by obtain⟨o,n,e,_⟩:=pl;exact uh e
 refine ux (n:=1) I.tk ?_;refine call_all_walk (Us pl.isList ?_);have up:∀b o,s.heap.get? b=some o->(s.heap.push {cls:= .type "list_iterator",data:= .fields #[.ref p,.int 0 0]}).get? b=some o:=fun b o e=>u5 _ e;have hl:its.length=bs.length:=by have:=rv.length;simpa using this.symm
 refine⟨s.heap.objs.size,_,_,_,_,_,fun i=>bs.getD i true,rfl,Walks.list (show X.A.in1.handled=none from I.ok.hd hc) s.heap.objs.size p (uq ac) its.toArray,⟨⟨_,uc _ rfl,rfl,rfl⟩,pl.isList.push _⟩,?_,?_⟩
 ·intro i v s' Q' E' hv hQ;have U:its[i]? =some v:=by simpa using hv
  have hi:i<its.length:=(List.getElem?_eq_some_iff.mp U).1;obtain⟨u,e1,e2⟩:=rv.get (i:=i) (x:= .bl (bs[i]'(by omega))) (by simp [show i<bs.length by omega])
  rw [U] at e1;cases e1;cases e2;have:bs.getD i true=bs[i]'(by omega):=by simp [List.getD,show i<bs.length by omega]
  have Z:Q' (bs.getD i true) s':=hQ;rw [this] at Z;exact vn Z
 ·intro h' tk kk htk;have aa:(List.range its.toArray.size).all (fun i=>bs.getD i true)=bs.all id:=by
   rw [ub,hl];exact all_range bs
  rw [aa];have I1:=I.kept (t':=s.toks) (h':=s.heap.push {cls:= .type "list_iterator",data:= .fields #[.ref p,.int 0 0]}) up;have ad:=I.fpOk (u8 _) (I.hok.fresh (u8 s.heap.objs.size));obtain⟨f0,f1,f2,f3,f4,f5⟩:=ad;exact⟨.bl (bs.all id),H,I1.turned (it:=s.heap.objs.size) (fun b o hb e=>kk b o (by simpa using hb) e) f0 f1 f3 f4 f5,rfl,q⟩
end
section
variable {X:Cx}
theorem op_repS:OpR X (binaryOp .Mult) (fun x y H Q=>∃z k,x= .str z/\y= .int k/\MulOk z k/\Q (.str (Txt.mul z k)) H):=by
 intro pins s σ H x y v u Q I U Z h;obtain⟨z,k,rfl,rfl,hok,q⟩:=h;obtain⟨t,rfl⟩:=U;obtain⟨t',rfl⟩:=Z;exact ux (n:=1) I.tk (SB.mul hok fun t' k' htk=>⟨.str (Txt.mul z k),H,I.tok k',⟨t',rfl⟩,q⟩)
theorem pe_gI {x:Str}{i:Int}{pos:Pos}(U:Gl X x)(hm:∃t,X.mg x=some (.int i t))(hd:(x==("__debug__":Str))=false:=by decide):PE X (.Name x pos) (tC (.int i)):=by
 obtain⟨t,hm⟩:=hm;exact pe_glob U hm ⟨t,rfl⟩ hd
theorem pe_gS {x z:Str}{pos:Pos}(U:Gl X x)(hm:∃t,X.mg x=some (.str z t))(hd:(x==("__debug__":Str))=false:=by decide):PE X (.Name x pos) (tC (.str z)):=by
 obtain⟨t,hm⟩:=hm;exact pe_glob U hm ⟨t,rfl⟩ hd
end
theorem qe {H:Hp}{p:Addr}(h:H p=none)(o:HO):Same H (upd H p o):=fun b u q=>by rw [ql (qh q h)];exact q
def Kept (p:Addr)(H H':Hp):Prop:=∀b o,H b=some o->b≠p->H' b=some o
theorem Kept.trans {p:Addr}{H H1 H2:Hp}(a:Kept p H H1)(b:Kept p H1 H2):Kept p H H2:=fun c o h n=>b c o (a c o h n) n
theorem Same.kept {p:Addr}{H H':Hp}(e:Same H H'):Kept p H H':=fun b o h _=>e b o h
theorem Kept.upd (p:Addr)(H:Hp)(o:HO):Kept p H (L2.upd H p o):=fun b u h n=>by rw [ql n];exact h
theorem Kept.same {p:Addr}{H H1 H':Hp}(k:Kept p H1 H')(s:Same H H1)(n:H p=none):Same H H':=fun b o h=>k b o (s b o h) (qh h n)
theorem Qw {α:Type}{xs:List α}{i:Int}(U:0<=i)(h1:i<xs.length):∃c,atI xs i=some c:=by
 obtain⟨n,rfl⟩:∃n:Nat,i=(n:Int):=⟨i.toNat,by omega⟩
 have hn:n<xs.length:=by omega
 exact⟨xs[n],Xc (u4 hn)⟩
def clOf (cells:List (Str×Addr)):List (Str×NameKind)->List (Str×Addr)->List (Str×Addr)
 | [],cs=>cs
 |(n,k)::r,cs=>clOf cells r (if k== .free then(match cells.lookup n with|some a=>(n,a)::cs|none=>cs) else cs)
theorem x8 {cells:List (Str×Addr)}:∀{names:List (Str×NameKind)}{cs:List (Str×Addr)},(∀y c,cs.lookup y=some c->cells.lookup y=some c)->∀y c,(clOf cells names cs).lookup y=some c->cells.lookup y=some c
 | [],_,h=>h
 |(n,k)::r,cs,h=>by
  unfold clOf;refine x8 fun y c e=> ?_;split at e
  ·split at e
   ·rename_i a ha
    rw [vf] at e;split at e
    ·rename_i Z
     have U:y=n:=beq_iff_eq.mp Z;subst U;cases e;exact ha
    ·exact h y c e
   ·exact h y c e
  ·exact h y c e
theorem clOf_keep {cells:List (Str×Addr)}:∀{names:List (Str×NameKind)}{cs:List (Str×Addr)}{y:Str},(∃c,cs.lookup y=some c)->∃c,(clOf cells names cs).lookup y=some c
 | [],_,_,h=>h
 |(n,k)::r,cs,y,h=>by
  unfold clOf;refine clOf_keep ?_;split
  ·split
   ·rw [vf];split
    ·exact⟨_,rfl⟩
    ·exact h
   ·exact h
  ·exact h
theorem xQ {cells:List (Str×Addr)}:∀{names:List (Str×NameKind)}{cs:List (Str×Addr)}{y:Str},(y,NameKind.free)∈names->(∃c,cells.lookup y=some c)->∃c,(clOf cells names cs).lookup y=some c
 | [],_,_,h,_=>nomatch h
 |(n,k)::r,cs,y,h,U=>by
  unfold clOf;rcases List.mem_cons.mp h with e|h
  ·cases e;refine clOf_keep ?_;obtain⟨c,U⟩:=U;rw [if_pos (by rfl),U]
   exact⟨c,by simp [vf]⟩
  ·exact xQ h U
theorem Y4 {env:Env}:∀{names:List (Str×NameKind)}{cs:List (Str×Addr)},(∀y,(y,NameKind.free)∈names->∃c,env.cells.lookup y=some c)->
  (forIn names cs fun x r=>(do
   if x.2== .free then
    let a<-cellOf env x.1
    pure (ForInStep.yield ((x.1,a)::r))
   else pure (ForInStep.yield r):Sem (ForInStep (List (Str×Addr)))))=(pure (clOf env.cells names cs):Sem (List (Str×Addr)))
 | [],cs,_=>rfl
 |(n,k)::r,cs,h=>by
  rw [List.forIn_cons];have hr:∀y,(y,NameKind.free)∈r->∃c,env.cells.lookup y=some c:=fun y hy=>h y (ue _ hy);unfold clOf;by_cases U:(k==NameKind.free)=true
  ·have Z:k= .free:=by simpa using U
   subst Z;obtain⟨c,hc⟩:=h n uo;have e:cellOf env n=pure c:=by unfold cellOf;rw [hc]
   simp only [U,vg,e,hc,pure_bind];exact Y4 hr
  ·simp only [if_neg U,pure_bind];exact Y4 hr
theorem J8 {scope:Scope}{env:Env}(h:∀y,(y,NameKind.free)∈scope.names->∃c,env.cells.lookup y=some c):closureFor scope env=pure (clOf env.cells scope.names []):=by
 unfold closureFor;have q:=Y4 (cs:= []) h;show(forIn scope.names ([]:List (Str×Addr)) (fun x r=>(do
   if x.2== .free then
    let a<-cellOf env x.1
    pure (ForInStep.yield ((x.1,a)::r))
   else pure (ForInStep.yield r):Sem (ForInStep (List (Str×Addr)))))>>=fun cs=>pure cs)=_
 rw [q,pure_bind]
theorem jl {env:Env}(hf:env.scope.kind= .function):∀{names:List (Str×NameKind)}{x:Str},names.lookup x=some .free->env.kindOf x=some .cell->
  (names.map fun(n,k)=>if(k==NameKind.free&&env.scope.kind== .function&&env.kindOf n==some .cell) then(n,NameKind.cell) else(n,k)).lookup x=some .cell
 | [],_,h,_=>by simp at h
 |(n,k)::r,x,h,hc=>by
  have ih:= @jl env hf r x;show List.lookup x ((if(k==NameKind.free&&env.scope.kind== .function&&env.kindOf n==some .cell)=true then(n,NameKind.cell) else(n,k))::_)=_
  cases U:x==n with
  |true=>
   simp only [vf,U] at h;cases h;have aa:x=n:=beq_iff_eq.mp U;subst aa;rw [if_pos (by rw [hf,hc];rfl)]
   simp [vf]
  |false=>
   simp only [vf,U] at h;by_cases Z:(k==NameKind.free&&env.scope.kind== .function&&env.kindOf n==some .cell)=true
   ·rw [if_pos Z];simp only [vf,U];exact ih h hc
   ·rw [if_neg Z];simp only [vf,U];exact ih h hc
theorem j7 {env:Env}:∀{names:List (Str×NameKind)}{x:Str},(∀y∈names,y.2≠ .cell)->
  ((names.map fun(n,k)=>if(k==NameKind.free&&env.scope.kind== .function&&env.kindOf n==some .cell) then(n,NameKind.cell) else(n,k)).lookup x=some .cell∨
   (names.map fun(n,k)=>if(k==NameKind.free&&env.scope.kind== .function&&env.kindOf n==some .cell) then(n,NameKind.cell) else(n,k)).lookup x=some .free)->(x,NameKind.free)∈names
 | [],_,_,h=>by simp at h
 |(n,k)::r,x,hn,h=>by
  have ih:= @j7 env r x (fun y hy=>hn y (ue _ hy));have g:List.lookup x ((if(k==NameKind.free&&env.scope.kind== .function&&env.kindOf n==some .cell)=true then(n,NameKind.cell) else(n,k))::(r.map fun(n,k)=>if(k==NameKind.free&&env.scope.kind== .function&&env.kindOf n==some .cell) then(n,NameKind.cell) else(n,k)))=some .cell∨
   List.lookup x ((if(k==NameKind.free&&env.scope.kind== .function&&env.kindOf n==some .cell)=true then(n,NameKind.cell) else(n,k))::(r.map fun(n,k)=>if(k==NameKind.free&&env.scope.kind== .function&&env.kindOf n==some .cell) then(n,NameKind.cell) else(n,k)))=some .free:=h
  have aa:k≠ .cell:=hn (n,k) uo;by_cases hc:(k==NameKind.free&&env.scope.kind== .function&&env.kindOf n==some .cell)=true
  ·rw [if_pos hc] at g;have hk:k= .free:=by
    rw [uO,uO] at hc
    simpa using hc.1.1
   subst hk;cases Z:x==n with
   |true=>
    have U:x=n:=beq_iff_eq.mp Z;subst U;exact uo
   |false=>
    simp only [vf,Z] at g;exact ue _ (ih g)
  ·rw [if_neg hc] at g;cases Z:x==n with
   |true=>
    have U:x=n:=beq_iff_eq.mp Z;subst U;simp only [vf,Z] at g;rcases g with g|g
    ·exact absurd (uQ g) aa
    ·rw [show k=NameKind.free from uQ g]
     exact uo
   |false=>
    simp only [vf,Z] at g;exact ue _ (ih g)
abbrev blk (X:Cx)(scope:Scope)(Nb:List Str)(cl:List (Str×Addr))(C:Addr)(s₀:Shared)(H₀:Hp)(fp:List Addr)(pn:List (Addr×Obj)):Cx:=
 {X with N:=Nb,s₀:=s₀,H₀:=H₀,env:=compEnvC scope cl C X.env,outer:=X.stack,ex:=fp,fn:=fun _=>false,pn:=pn,xe:=fun _ _=>False}
structure LcS (X:Cx)(scope:Scope)(Nb:List Str)(nt:Nat)(fr:List Nat):Prop where
 kind:scope.kind= .function
 cell:∀y∈scope.names,y.2≠ .cell
 names:∀y∈scope.names,y.2= .local->scope.names.lookup y.1=some .local
 free:∀y∈scope.names,y.2= .free->X.env.kindOf y.1=some .cell
 len:Nb.length=nt+fr.length
 fr:∀(k j:Nat) (x:Str),fr[k]? =some j->Nb[nt+k]? =some x->X.N[j]? =some x/\scope.names.lookup x=some .free
def sigB (nt:Nat)(fr:List Nat)(σ:St):St:=List.replicate nt none++fr.map fun j=>(σ[j]?).join
section
variable {pr:Program}{wo:World}{ar:Around}{RR:Result->Shared->Prop}{st:Shared}
abbrev nb (pr:Program)(wo:World)(ar:Around)(en:Env)(RR:Result->Shared->Prop):Value->Shared->Prop:=notedBy (model pr wo) ar en fun x t=>RR (.error x) t
abbrev tsts (en:Env)(cs:List Expr):Sem Bool:=forIn cs true fun c b=>if b=true then do let y<-isTrue c en (eval c en);pure (ForInStep.yield y) else pure (ForInStep.yield b)
theorem compLoop_by {el tg ac:Expr}{cs:List Expr}{sc:Scope}{ps:Pos}{Z aa:Value}{U:Env}(J:Nat->Shared->Prop)
  (ad:∀k t,J k t->wpAny (model pr wo) ar (pyNext Z) (fun r t1=>match r with
   |none=>RR (.ok .next) t1
   |some v=>wpAny (model pr wo) ar (letOwnedTupleGo tg Z v) (fun _ t2=>wpAny (model pr wo) ar (assign tg U v) (fun _ t3=>wpAny (model pr wo) ar (tsts U cs) (fun b t4=>
     if b=true then wpAny (model pr wo) ar (eval el U) (fun x t5=>wpAny (model pr wo) ar (call (.builtin "list.append") [aa,x]) (fun _ t6=>∃m,m<k/\J m t6) (nb pr wo ar U RR) t5) (nb pr wo ar U RR) t4
     else∃m,m<k/\J m t4) (nb pr wo ar U RR) t3) (nb pr wo ar U RR) t2) (nb pr wo ar U RR) t1) (nb pr wo ar U RR) t)
  (k:Nat) (h0:J k st):codeAny (model pr wo) ar (.compLoop (.ListComp el [⟨tg,ac,cs,0⟩] sc ps) 0 Z aa U) RR st:=by
 refine codeAny_loop rfl J (fun k t hJ=> ?_) k h0;show wpAny _ ar ((compTurn (.ListComp el [⟨tg,ac,cs,0⟩] sc ps) 0 Z aa U).onRaise fun x=>do noteFrame x U;theTreesLotGoes x) _ _ t
 rw [compTurn_list];refine wpAny_noted (wpAny_bind (wpAny_standAt (wpAny_bind (thn (ad k t hJ) fun r t1 q1=> ?_))));cases r with
 |none=>exact wpAny_pure q1
 |some v=>
  refine wpAny_bind (thn q1 fun _ t2 q2=>wpAny_bind (thn q2 fun _ t3 q3=>wpAny_bind (thn q3 fun b t4 q4=> ?_)));cases b with
  |false=>exact wpAny_pure ⟨rfl,q4⟩
  |true=>exact wpAny_bind (wpAny_bind (thn q4 fun x t5 q5=>wpAny_bind (thn q5 fun _ t6 q6=>wpAny_pure (wpAny_pure ⟨rfl,q6⟩))))
end
def PIfs (X:Cx)(ifs:List Expr)(t:TT):Prop:=
 ∀(pins:List (Addr×Obj)) (s:Shared) (σ:St) (H:Hp) (Q:Bool->Hp->Prop),Inv X pins σ H s->t σ H Q->wpAny (model X.prog X.w) X.A (tsts X.env ifs) (TP X pins σ Q) X.xe s
def tYes:TT:=fun _ H Q=>Q true H
theorem QS {X:Cx}:PIfs X [] tYes:=fun _ _ _ H _ I h=>wpAny_tests_nil ⟨H,I,h⟩
theorem Yi {X:Cx}{c:Expr}{t:TT}(h:PT X c t):PIfs X [c] t:=fun pins s σ H Q I U=>wpAny_tests_one (h pins s σ H Q I U)
def lcGo (D:Addr)(J:It)(g:TG)(tc:TT)(te:TE)(σb:St)(H1:Hp)(Q:VK):Prop:=
 ∃(n:Nat) (W:Nat->St->List V->Hp->Prop),n<=sizeLine/\W 0 σb [] (upd H1 D (.lst []))/\
  (∀i σ ys H,i<n->W i σ ys H->H D=some (.lst ys)->ys.length<=i->J.go i H/\∀x H',J.yld i H x H'->g x σ H' fun σ2 H2=>tc σ2 H2 fun b H3=>
   if b=true then te σ2 H3 fun y H4=>H4 D=some (.lst ys)/\W (i+1) σ2 (ys++ [y]) (upd H4 D (.lst (ys++ [y]))) else H3 D=some (.lst ys)/\W (i+1) σ2 ys H3)/\
  ∀σ ys H,W n σ ys H->H D=some (.lst ys)->J.stop n H/\Q (.ref D) H
def tLC (nt:Nat)(fr:List Nat)(wi:TI)(g:TG)(tc:TT)(te:TE):TE:=fun σ H Q=>wi σ H fun J H1=>∀D,H1 D=none->lcGo D J g tc te (sigB nt fr σ) H1 Q
section
variable {X:Cx}{scope:Scope}{Nb:List Str}{nt:Nat}{fr:List Nat}
theorem inv_blk {pins:List (Addr×Obj)}{σ:St}{H:Hp}{s:Shared}{fp:List Addr}{C:Addr}{h4:Heap}{tk:Nat}(S:LcS X scope Nb nt fr)(I:Inv X pins σ H s)(hC:C=s.heap.objs.size)
  (ah:h4.Ns C fun _=>none) (Z:∀b o,s.heap.get? b=some o->h4.get? b=some o) (hf:∀b∈fp,FpOk X pins H b) (ho:∀b∈fp,∃o,s.heap.get? b=some o) (ht:0<tk:=by((try dsimp only);first|assumption|exact Inv.tk (by assumption)|exact Nat.succ_pos _|exact Nat.lt_of_lt_of_le (Inv.tk (by assumption)) (by assumption)|exact Nat.add_pos_left (Inv.tk (by assumption)) _|omega)):
  Inv (blk X scope Nb (clOf X.env.cells scope.names []) C s H fp (X.pn++pins)) [] (sigB nt fr σ) H {s with heap:=h4,toks:=tk}:=by
 subst hC;have sub:∀y c,(clOf X.env.cells scope.names []).lookup y=some c->X.env.cells.lookup y=some c:=x8 fun y c e=>by simp at e
 have aa:∀y,(y,NameKind.free)∈scope.names->X.env.kindOf y=some .cell:=fun y hy=>S.free _ hy rfl;have ae:∀b o,s.heap.get? b=some o->b≠s.heap.objs.size:=fun b o e z=>by rw [z] at e;exact absurd (uh e) (vp _)
 have U:∀b,b≠X.env.locals->b∉X.fs->b∉frs X.stack:=fun b h1 h2 z=>(List.mem_cons.mp (I.stkSub b z)).elim h1 h2;refine⟨⟨I.ok.mod,S.kind,I.ok.glob,I.ok.blt,u8 _,fun x y c h1 h2=>I.ok.inj x y c (sub x c h1) (sub y c h2),fun x hx=> ?_,fun x c z=>(by cases z),I.ok.hd,I.ok.frames,.inl rfl,fun b hb=> ?_,I.bs,uG I.ok.bsz I.sz,fun b o e hb=> ?_,fun b hb=> ?_,I.stack,I.stkFree⟩,
  rfl,I.bare,Un.kept Z,⟨_,ah,fun i x v e1 e2 e3=> ?_⟩,fun x c e=> ?_,I.hok.fresh (u8 _),fun x c e=>I.freeC x c (sub x c e),fun p hp=> ?_,I.hok.kept Z,?_,ht⟩
 ·have hm:=j7 (env:=X.env) S.cell hx;exact xQ hm (I.ok.has x (.inl (aa x hm)))
 ·obtain⟨o,e⟩:=ho b hb;exact⟨ae b o e,fun x c e'=>(hf b hb).2.2.2.2.1 x c (sub x c e')⟩
 ·rcases(hf b hb).2.2.2.1 with z|z
  ·exact I.ok.noex b o e z
  ·exact absurd (Nat.lt_of_lt_of_le (uh e) (uG I.ok.bsz z)) (vp _)
 ·exact U b (hf b hb).2.1 (hf b hb).2.2.1
 ·
  have hi:nt<=i:=by
   rcases vc i nt with z|z
   ·unfold sigB at e2;rw [uR (by simpa using z),List.getElem?_replicate] at e2
    split at e2<;>cases e2
   ·exact z
  obtain⟨k,rfl⟩:∃k,i=nt+k:=⟨i-nt,by omega⟩
  unfold sigB at e2;rw [uJ (by simp)] at e2
  simp only [List.length_replicate,Uj,uk] at e2;cases ej:fr[k]? with
  |none=>rw [ej] at e2;cases e2
  |some j=>
   rw [ej] at e2;have ac:(σ[j]?).join=some v:=uQ e2;have af:σ[j]? =some (some v):=by
    cases q:σ[j]? with
    |none=>rw [q] at ac;cases ac
    |some z=>rw [q] at ac;exact congrArg some ac
   obtain⟨n1,n2⟩:=S.fr k j x ej e1;have kx:X.env.kindOf x=some .cell:=aa x (vD n2);obtain⟨m,hn,hl⟩:=I.loc;obtain⟨u,r,l⟩:=hl j x v n1 af (.inr (.inl kx));refine⟨u,r,.inr ⟨.inl (jl I.ok.kind n2 kx),?_⟩⟩;rcases l with⟨z,_⟩|⟨_,c,ec,ad⟩
   ·rw [kx] at z;cases z
   ·obtain⟨c',ag⟩:=xQ (cells:=X.env.cells) (cs:= []) (vD n2) ⟨c,ec⟩;have:=sub x c' ag;rw [ec] at this;cases this;obtain⟨o,q,d⟩:=ad;exact⟨c,ag,o,Z c o q,d⟩
 ·obtain⟨v,o,q,d⟩:=I.cell x c (sub x c e);exact⟨v,o,Z c o q,d⟩
 ·have ai:p∈X.pn++pins:=by simpa using hp
  obtain⟨e,n,ne,nf,d⟩:=I.pin p ai;exact⟨Z _ _ e,n,ae _ _ e,U _ ne nf,d⟩
 ·show(sigB nt fr σ).length=Nb.length;unfold sigB;rw [S.len];simp
theorem lc_core {tg ac ak:Expr}{al:List Expr}{wi:TI}{g:TG}{tc:TT}{te:TE}{pos:Pos}{R:Value->Addr->Result->Shared->Prop}{pins:List (Addr×Obj)}{s:Shared}{σ:St}{H:Hp}{Q:VK}(S:LcS X scope Nb nt fr)(am:X.calm=true)(hi:PI X tg ac wi)
  (hg:∀cl C s₀ H₀ fp pn,PG (blk X scope Nb cl C s₀ H₀ fp pn) tg g) (hc:∀cl C s₀ H₀ fp pn,PIfs (blk X scope Nb cl C s₀ H₀ fp pn) al tc) (he:∀cl C s₀ H₀ fp pn,PE (blk X scope Nb cl C s₀ H₀ fp pn) ak te)
  (I:Inv X pins σ H s) (h:tLC nt fr wi g tc te σ H Q)
  (hR:∀(D C:Addr) (H':Hp) (s1:Shared) (m:Str->Option Value),Inv X pins σ H' s1->s1.heap.Ns C m->FpOk X pins H' C->Q (.ref D) H'->R (.ref D) C (.ok .next) s1):
  wpAny (model X.prog X.w) X.A (eval ac X.env) (fun x s₁=>wpAny (model X.prog X.w) X.A (pyIter x) (fun it s₂=>wpAny (model X.prog X.w) X.A (newList []) (fun av s₃=>
   wpAny (model X.prog X.w) X.A (newFunctionEnv scope X.env.globals (clOf X.env.cells scope.names []) [] X.env.qual none .none (some X.env)) (fun ah s₄=>
    codeAny (model X.prog X.w) X.A (.compStart (.ListComp ak [⟨tg,ac,al,0⟩] scope pos) 0 it av {ah with scope:=relabel scope X.env}) (R av ah.locals) s₄) X.xe s₃) X.xe s₂) X.xe s₁) X.xe s:=by
 refine thn (hi pins s σ H _ I h) fun v s1 h1=>thn h1 fun aP s2 h2=> ?_;obtain⟨it,fp,tn,J,H2,e,I2,T,ao,f2,q2⟩:=h2;subst e;have aw:H2 s2.heap.objs.size=none:=I2.hok.fresh (u8 _);obtain⟨n,W,hn,w0,step,fin⟩:=q2 _ aw;generalize hD:s2.heap.objs.size=D at*;refine uW ?_;rw [hD];have I3:Inv X pins σ (upd H2 D (.lst [])) {s2 with heap:=s2.heap.push {cls:= .type "list",data:= .seq ([]:List Value).toArray}}:=by
  have:=I2.lnew (ys:= []) (its:= []) (t':=s2.toks) .nil (vh _);rw [hD] at this;exact this
 refine wpAny_newFunctionEnv S.cell (by intro y hy;simp at hy) (fun h4 ae ap=> ?_) S.kind
 dsimp only at ae ap⊢;generalize ax:s2.heap.push {cls:= .type "list",dict:=none,data:= .seq ([]:List Value).toArray}=h3 at ae ap I3⊢;have hC:h3.objs.size=D+1:=by rw [<-ax,uY,hD]
 have af:∀b o,h3.get? b=some o->h4.get? b=some o:=fun b o e=>ap.extBut b o (uq (uh e)) (u5 _ e);have aa:∀b o,s2.heap.get? b=some o->h3.get? b=some o:=fun b o e=>by rw [<-ax];exact u5 _ e
 have aq:∀b∈fp,∃o,s2.heap.get? b=some o:=fun b U=>let⟨o,e,_⟩:=T.obj _ _ ao b U;⟨o,e⟩;have aD:∀b∈fp,b≠D:=fun b U z=>by
  obtain⟨o,e⟩:=aq b U;have q:=uh e;rw [z,hD] at q;exact vp _ q
 have f3:∀b∈fp,FpOk X pins (upd H2 D (.lst [])) b:=fun b U=>⟨by rw [ql (aD b U)];exact(f2 b U).1,(f2 b U).2⟩
 have IB:=inv_blk (C:=h3.objs.size) (h4:=h4) (tk:=s2.toks+([]:List (Str×Value)).length) (fp:=fp) S I3 rfl ae af f3 fun b U=>let⟨o,e⟩:=aq b U;⟨o,aa b o e⟩;generalize Z:blk X scope Nb (clOf X.env.cells scope.names []) h3.objs.size {s2 with heap:=h3} (upd H2 D (.lst [])) fp (X.pn++pins)=Xb at IB
 have gB:=hg (clOf X.env.cells scope.names []) h3.objs.size {s2 with heap:=h3} (upd H2 D (.lst [])) fp (X.pn++pins)
 have cB:=hc (clOf X.env.cells scope.names []) h3.objs.size {s2 with heap:=h3} (upd H2 D (.lst [])) fp (X.pn++pins)
 have eB:=he (clOf X.env.cells scope.names []) h3.objs.size {s2 with heap:=h3} (upd H2 D (.lst [])) fp (X.pn++pins)
 rw [Z] at gB cB eB;have xP:Xb.prog=X.prog:=by rw [<-Z]
 have xW:Xb.w=X.w:=by rw [<-Z]
 have xK:Xb.K=X.K:=by rw [<-Z]
 have xA:Xb.A=X.A:=by rw [<-Z]
 have xC:Xb.calm=true:=by rw [<-Z];exact am
 have xE:Xb.env=compEnvC scope (clOf X.env.cells scope.names []) h3.objs.size X.env:=by rw [<-Z]
 have xX:Xb.xe=fun _ _=>False:=by rw [<-Z]
 have ag:∀{H':Hp},(∀b∈fp,H' b=none)->∀b∈fp,FpOk Xb [] H' b:=fun hn b U=>by
  obtain⟨g1,g2,g3,g4,g5,g6⟩:=f2 b U;obtain⟨o,e⟩:=aq b U;subst Z;refine⟨hn b U,fun z=> ?_,fun z=>(List.mem_cons.mp (I2.stkSub b z)).elim g2 g3,.inl U,fun x c ec=>g5 x c (x8 (fun y c e=>by simp at e) x c ec),fun p hp=>g6 p (by simpa using hp)⟩
  have ad:=uh (aa b o e);have z':b=h3.objs.size:=z;rw [z'] at ad;exact vp _ ad
 have ai:∀s5:Shared,s5={s2 with heap:=h4,toks:=s2.toks+([]:List (Str×Value)).length}->
   codeAny (model X.prog X.w) X.A (.compLoop (.ListComp ak [⟨tg,ac,al,0⟩] scope pos) 0 (.ref it) (.ref D) (compEnvC scope (clOf X.env.cells scope.names []) h3.objs.size X.env))
    (R (.ref D) h3.objs.size) s5:=by
  rintro s5 rfl;refine compLoop_by (fun k s'=>∃i σ' ys H',Inv Xb [] σ' H' s'/\tn i s'.heap/\(∀b∈fp,H' b=none)/\H' D=some (.lst ys)/\i<=n/\k=n-i/\ys.length<=i/\W i σ' ys H') ?_ n
   ⟨0,sigB nt fr σ,[],_,IB,T.keep _ _ _ ao fun b U o e=>af b o (aa b o e),fun b U=>(f3 b U).1,qd,vh _,rfl,u8 _,w0⟩
  rintro k s' ⟨i,σ',ys,H',I',ay,az,aA,aE,rfl,aF,w'⟩;rcases vc i n with ad|aG
  ·obtain⟨go,next⟩:=step i σ' ys H' ad w' aA aF;have ti:=T.item Xb xP xW xK xC i [] s' σ' H' (fun _ _=>False) I' (ag az) ay go;rw [xA] at ti;refine vi ti (fun r s1 h1=> ?_) fun _ _ z=>z.elim;obtain⟨u,rfl,h1⟩:=h1;refine vi h1 (fun _ aB aH=> ?_) fun _ _ z=>z.elim;obtain⟨x,H5,I5,r5,y5,au,aI⟩:=aH;have aJ:=I5.pinned (ag aI) (T.obj _ _ au);have ga:=gB _ aB σ' H5 x u _ aJ r5 (next x H5 y5);rw [xP,xW,xA,xE,xX] at ga;refine vi ga (fun _ s3 aK=> ?_) fun _ _ z=>z.elim;obtain⟨σ6,H6,I6,q6⟩:=aK;have ca:=cB _ s3 σ6 H6 _ I6 q6;rw [xP,xW,xA,xE,xX] at ca;refine vi ca (fun ok s4 aL=> ?_) fun _ _ z=>z.elim;obtain⟨H7,I7,q7⟩:=aL;have aj:∀{σ8:St}{H8:Hp}{s8:Shared},Inv Xb ([]++pinsAt fp aB.heap) σ8 H8 s8->Inv Xb [] σ8 H8 s8/\tn (i+1) s8.heap/\∀b∈fp,H8 b=none:=fun{σ8 H8 s8} I8=>by
    refine⟨I8.unpinned,T.keep _ _ _ au fun b U o e=>(I8.pin (b,o) (uH _ (uH _ (yP U e)))).1,fun b U=> ?_⟩;obtain⟨o,e,d⟩:=T.obj _ _ au b U;exact(I8.pin (b,o) (uH _ (uH _ (yP U e)))).2.1
   cases ok with
   |false=>
    rw [if_neg uf] at q7⊢;obtain⟨b1,b2,b3⟩:=aj I7;exact⟨n-(i+1),by omega,i+1,σ6,ys,H7,b1,b2,b3,q7.1,ad,rfl,by omega,q7.2⟩
   |true=>
    rw [if_pos rfl] at q7⊢;have ea:=eB _ s4 σ6 H7 _ I7 q7;rw [xP,xW,xA,xE,xX] at ea;refine vi ea (fun y s5 h5=> ?_) fun _ _ z=>z.elim;obtain⟨yv,H8,I8,r8,aM,q8⟩:=h5;have ma:=YK (X:=Xb) _ s5 σ6 H8 (.ref D) [yv] (.ref D) [y] (fun _ H9=>H9=upd H8 D (.lst (ys++ [yv]))) I8 rfl (.cons r8 .nil) ⟨D,ys,yv,rfl,rfl,aM,by omega,rfl⟩
    rw [xP,xW,xA,xX] at ma;refine vi ma (fun _ s6 h6=> ?_) fun _ _ z=>z.elim;obtain⟨_,H9,I9,_,rfl⟩:=h6;obtain⟨b1,b2,b3⟩:=aj I9;exact⟨n-(i+1),by omega,i+1,σ6,ys++ [yv],_,b1,b2,b3,qd,ad,rfl,by rw [u7,vI];omega,q8⟩
  ·have aC:i=n:=Nat.le_antisymm aE aG;subst aC;obtain⟨stop,hq⟩:=fin σ' ys H' w' aA;have td:=T.done Xb xP xW xK xC i [] s' σ' H' (fun _ _=>False) I' (ag az) ay stop;rw [xA] at td;refine vi td (fun r s1 h1=> ?_) fun _ _ z=>z.elim;obtain⟨rfl,I6⟩:=h1;obtain⟨m,hm,_⟩:=id I6.loc;rw [xE] at hm;have aN:H' h3.objs.size=none:=by have:=I6.free;rw [xE] at this;exact this
   have u6:Un (frs X.stack) fp (upd H2 D (.lst [])) H' h3 s1.heap:=by have:=I6.base;subst Z;exact this
   have u2:Un (frs X.stack) fp H2 (upd H2 D (.lst [])) s2.heap h3:=Un.laid (fun b o e=>aa b o e) (by rw [hD];exact u8 _) aw
   have aO:s1.os=s2.os:=by have:=I6.os;subst Z;exact this
   have hok:HOk X.prog X.w H' s1.heap:=by
    have:=I6.hok;subst Z;exact this
   refine hR D h3.objs.size H' s1 m (I2.call' (s':=s1) (ch:=fp) aO (u2.trans u6) hok I6.bare fun b U=> ?_) hm (I2.fpOk (by omega) aN) hq
   obtain⟨g1,g2,g3,g4,g5,g6⟩:=f2 b U;exact⟨g4,g2,g5,g6⟩
 exact codeAny_compStart_list (ai _ rfl) (T.self _ 0 _ _ _ (T.keep _ _ _ ao fun b U o e=>af b o (aa b o e)) (ai _ rfl))
theorem Yp {tg U ac:Expr}{ad:List Expr}{wi:TI}{g:TG}{tc:TT}{te:TE}{pos:Pos}(S:LcS X scope Nb nt fr)(Z:X.calm=true)(hi:PI X tg U wi)
  (hg:∀cl C s₀ H₀ fp pn,PG (blk X scope Nb cl C s₀ H₀ fp pn) tg g) (hc:∀cl C s₀ H₀ fp pn,PIfs (blk X scope Nb cl C s₀ H₀ fp pn) ad tc) (he:∀cl C s₀ H₀ fp pn,PE (blk X scope Nb cl C s₀ H₀ fp pn) ac te)
  (hs:∀x,foldedSetIterable U X.env x=pure x:=by intro _;rfl):PE X (.ListComp ac [⟨tg,U,ad,0⟩] scope pos) (tLC nt fr wi g tc te):=by
 intro pins s σ H Q I h;have aa:closureFor scope X.env=pure (clOf X.env.cells scope.names []):=J8 fun y hy=>I.ok.has y (.inl (S.free _ hy rfl));rw [eval_ListComp];refine wpAny_comprehension_free (use:=none) rfl hs aa S.kind S.names ?_;refine lc_core (R:=fun ae C=>compPost (model X.prog X.w) X.A X.xe none (EP X pins σ Q) ae C) S Z hi hg hc he I h fun D C H' s1 m I1 hm fc q=> ?_;obtain⟨f0,f1,f2,f3,f4,f5⟩:=fc;exact⟨m,hm,fun h' af=>⟨.ref D,H',I1.turned (t':=s1.toks) (it:=C) (fun b o hb e=>(af.2 b hb).trans e) f0 f1 f3 f4 f5,rfl,q⟩⟩
theorem xD {i:Nat}{y:Str}{tg U Z:Expr}{aa:List Expr}{wi:TI}{g:TG}{tc:TT}{te:TE}{pos ac py:Pos}(hN:X.N.Nodup)(af:X.N[i]? =some y)(hy:Loc X.env.scope y)(S:LcS X scope Nb nt fr)(ad:X.calm=true)(hi:PI X tg U wi)
  (hg:∀cl C s₀ H₀ fp pn,PG (blk X scope Nb cl C s₀ H₀ fp pn) tg g) (hc:∀cl C s₀ H₀ fp pn,PIfs (blk X scope Nb cl C s₀ H₀ fp pn) aa tc) (he:∀cl C s₀ H₀ fp pn,PE (blk X scope Nb cl C s₀ H₀ fp pn) Z te)
  (hs:∀x,foldedSetIterable U X.env x=pure x:=by intro _;rfl) (ag:swapsWith (.ListComp Z [⟨tg,U,aa,0⟩] scope pos) (some (.Name y py)) ac.line X.env=pure true:=by rfl)
  (hf:X.fn y=true∨X.env.scope.names.lookup y=some .local:=by first|exact .inl rfl|exact .inr rfl|assumption):
  PS X (.Assign [.Name y py] (.ListComp Z [⟨tg,U,aa,0⟩] scope pos) ac) (tAsg (tLC nt fr wi g tc te) (QH i)):=by
 intro pins s σ H D I h;have ae:closureFor scope X.env=pure (clOf X.env.cells scope.names []):=J8 fun y hy=>I.ok.has y (.inl (S.free _ hy rfl));rw [exec_Assign_Name_used _ _ _ _ ag];refine wpAny_bind (wpAny_standAt (wpAny_bind ?_));show wpAny _ X.A (do let _<-comprehension (.ListComp Z [⟨tg,U,aa,0⟩] scope pos) scope X.env _ (newList []) false (eval U X.env) (some (assign (.Name y py) X.env))) _ _ s
 refine wpAny_bind (vi (wpAny_comprehension_free (use:=some (assign (.Name y py) X.env)) (Q:=fun _ s'=>SP X pins D .next s') rfl hs ae S.kind S.names ?_) (fun _ s' hq=>wpAny_pure (wpAny_pure hq)) fun _ _ e=>e);refine lc_core (R:=fun ah C=>compPost (model X.prog X.w) X.A X.xe (some (assign (.Name y py) X.env)) (fun _ s'=>SP X pins D .next s') ah C) S ad hi hg hc he I h fun A C H' s1 m I1 hm fc q=> ?_;obtain⟨f0,f1,f2,f3,f4,f5⟩:=fc;show wpAny _ X.A (assign (.Name y py) X.env (.ref A)) _ _ s1;refine wpAny_assign_Name (store_ok2 (v:= .ref A) I1 hN af hy (show RelV (.ref A) (.ref A) from rfl) (fun s' I' ⟨a,sb,ha⟩=> ?_) hf)
 have ai:C≠a:=by
  rcases ha with rfl|ha
  ·exact f1
  ·exact fun z=>f4 y a ha z.symm
 refine⟨m,hm.sameBut sb ai,fun h' aj=>⟨_,H',I'.turned (t':=s'.toks) (it:=C) (fun b o hb e=>(aj.2 b hb).trans e) f0 f1 f3 f4 f5,q⟩⟩
end
theorem lcs0 {X:Cx}{sc:Scope}{x:Str}(U:sc.kind= .function:=by rfl)(Z:∀y∈sc.names,y.2≠ .cell:=by decide+kernel)(hn:∀y∈sc.names,y.2= .local->sc.names.lookup y.1=some .local:=by decide+kernel)
  (hf:∀y∈sc.names,y.2≠ .free:=by decide+kernel):LcS X sc [x] 1 []:=⟨U,Z,hn,fun y hy e=>absurd e (hf y hy),rfl,fun k j x h=>by simp at h⟩
theorem lcsN {X:Cx}{sc:Scope}{Nb:List Str}{nt:Nat}{fr:List Nat}(U:Scope)(Z:List Str)(hX:X.env.scope=U:=by rfl)(hN:X.N=Z:=by rfl)(hk:sc.kind= .function:=by rfl)(hc:∀y∈sc.names,y.2≠ .cell:=by decide+kernel)
  (hn:∀y∈sc.names,y.2= .local->sc.names.lookup y.1=some .local:=by decide+kernel) (hf:∀y∈sc.names,y.2= .free->U.names.lookup y.1=some .cell:=by decide+kernel) (hl:Nb.length=nt+fr.length:=by rfl)
  (hz:((fr.zip (Nb.drop nt)).all fun p=>decide (Z[p.1]? =some p.2)&&decide (sc.names.lookup p.2=some .free))=true:=by decide+kernel):LcS X sc Nb nt fr:=by
 subst hX hN;refine⟨hk,hc,hn,hf,hl,fun k j x h1 h2=> ?_⟩;have hm:(fr.zip (Nb.drop nt))[k]? =some (j,x):=by
  rw [List.getElem?_zip_eq_some];exact⟨h1,by rw [vx];exact h2⟩
 have q:=List.all_eq_true.mp hz _ (uK hm);rw [uO] at q;exact⟨ur q.1,ur q.2⟩
theorem lc_str {z:Str}{D:Addr}{H1:Hp}{te:TE}{tl:St}{Q:VK}(f:Nat->V)(hz:z.length<=sizeLine)(hD:H1 D=none)
  (Z:∀(i c:Nat) H (R:VK),z.cps[i]? =some c->Same H1 H->R (f c) H->te (some (.str ⟨#[c]⟩)::tl) H R)
  (hQ:∀H',Same H1 H'->H' D=some (.lst (z.cps.toList.map f))->Q (.ref D) H'):lcGo D (Its z) (QH 0) tYes te (none::tl) H1 Q:=by
 refine⟨z.cps.size,fun i σ ys H=>(∃w,σ=w::tl)/\ys=(z.cps.toList.take i).map f/\Same H1 H,hz,⟨⟨none,rfl⟩,rfl,qe hD _⟩,?_,?_⟩
 ·rintro i σ ys H hi ⟨⟨w,rfl⟩,rfl,U⟩ hl hy;refine⟨hi,?_⟩;rintro x H' ⟨rfl,c,hc,rfl⟩;dsimp only [QH,tYes,List.set];rw [if_pos rfl];refine Z i c H' _ hc U ⟨hl,⟨some (.str ⟨#[c]⟩),rfl⟩,?_,?_⟩
  ·rw [ut,show z.cps.toList[i]? =some c by simpa using hc]
   simp
  ·intro b o e;rw [ql (qh e hD)];exact U b o e
 ·rintro σ ys H ⟨_,rfl,U⟩ hl;refine⟨rfl,hQ H U ?_⟩;rw [hl,uT (by simp)]
mutual
def Is (H:Hp):D->V->Prop
 | .non,v=>v= .non
 | .bl b,v=>v= .bl b
 | .int i,v=>v= .int i
 | .str z,v=>v= .str z/\z.length<=sizeLine
 | .lst,v=>∃a xs,v= .ref a/\H a=some (.lst xs)
 | .dct,v=>∃a kvs,v= .ref a/\H a=some (.dK kvs)
 | .tup xs,v=>∃a vs,v= .ref a/\H a=some (.tup vs)/\IsL H xs vs
def IsL (H:Hp):List D->List V->Prop
 | [],vs=>vs= []
 |x::xs,vs=>∃v r,vs=v::r/\Is H x v/\IsL H xs r
end
structure Tk (H H':Hp):Prop where
 tup:∀b xs,H b=some (.tup xs)->H' b=some (.tup xs)
 lst:∀b xs,H b=some (.lst xs)->∃ys,H' b=some (.lst ys)
 dct:∀b xs,H b=some (.dK xs)->∃ys,H' b=some (.dK ys)
theorem Same.tk {H H':Hp}(s:Same H H'):Tk H H':=⟨fun b xs e=>s b _ e,fun b xs e=>⟨xs,s b _ e⟩,fun b xs e=>⟨xs,s b _ e⟩⟩
theorem Tk.trans {H H1 H2:Hp}(a:Tk H H1)(b:Tk H1 H2):Tk H H2:=⟨fun c xs e=>b.tup c xs (a.tup c xs e),fun c xs e=>let⟨ys,e1⟩:=a.lst c xs e;b.lst c ys e1,fun c xs e=>let⟨ys,e1⟩:=a.dct c xs e;b.dct c ys e1⟩
theorem Kept.tk {p:Addr}{H H':Hp}{xs ys:List V}(k:Kept p H H')(h:H p=some (.lst xs))(h':H' p=some (.lst ys)):Tk H H':=by
 refine⟨fun b zs e=>k b _ e fun z=> ?_,fun b zs e=> ?_,fun b zs e=>⟨zs,k b _ e fun z=> ?_⟩⟩
 ·rw [z,h] at e;cases e
 ·by_cases z:b=p
  ·exact⟨ys,z▸h'⟩
  ·exact⟨zs,k b _ e z⟩
 ·rw [z,h] at e;cases e
mutual
theorem Is.mono {H H':Hp}(t:Tk H H'):∀{d:D}{v:V},Is H d v->Is H' d v
 | .non,_,h=>h
 | .bl _,_,h=>h
 | .int _,_,h=>h
 | .str _,_,h=>h
 | .lst,_,h=>by
  obtain⟨a,vs,e,ha⟩:=h;obtain⟨ys,q⟩:=t.lst a vs ha;exact⟨a,ys,e,q⟩
 | .dct,_,h=>by
  obtain⟨a,vs,e,ha⟩:=h;obtain⟨ys,q⟩:=t.dct a vs ha;exact⟨a,ys,e,q⟩
 | .tup xs,_,h=>by
  obtain⟨a,vs,e,ha,U⟩:=h;exact⟨a,vs,e,t.tup a vs ha,IsL.mono t U⟩
theorem IsL.mono {H H':Hp}(t:Tk H H'):∀{ds:List D}{vs:List V},IsL H ds vs->IsL H' ds vs
 | [],_,h=>h
 |_::_,_,h=>by
  obtain⟨v,r,e,h1,h2⟩:=h;exact⟨v,r,e,Is.mono t h1,IsL.mono t h2⟩
end
theorem IsL.length {H:Hp}:∀{ds:List D}{vs:List V},IsL H ds vs->vs.length=ds.length
 | [],_,h=>by cases(show _= [] from h);rfl
 |_::_,_,h=>by
  obtain⟨v,r,rfl,_,h2⟩:=h;rw [uz,uz,IsL.length h2]
theorem IsL.get {H:Hp}:∀{ds:List D}{vs:List V}{i:Nat}{d:D},IsL H ds vs->ds[i]? =some d->∃v,vs[i]? =some v/\Is H d v
 | [],_,_,_,_,e=>by simp at e
 |x::_,_,0,d,h,e=>by
  obtain⟨v,r,rfl,h1,_⟩:=h;have:x=d:=by simpa using e
  exact⟨v,rfl,this▸h1⟩
 |_::_,_,i+1,d,h,e=>by
  obtain⟨v,r,rfl,_,h2⟩:=h;obtain⟨u,U,Z⟩:=IsL.get (i:=i) (d:=d) h2 (by simpa using e)
  exact⟨u,by simpa using U,Z⟩
theorem IsL.append {H:Hp}:∀{ds es:List D}{vs us:List V},IsL H ds vs->IsL H es us->IsL H (ds++es) (vs++us)
 | [],_,_,_,h,k=>by cases(show _= [] from h);exact k
 |_::_,_,_,_,h,k=>by
  obtain⟨v,r,rfl,h1,h2⟩:=h;exact⟨v,_,rfl,h1,IsL.append h2 k⟩
theorem IsL.one {H:Hp}{d:D}{v:V}(h:Is H d v):IsL H [d] [v]:=⟨v,[],rfl,h,rfl⟩
theorem Is.new {H:Hp}{ds:List D}{vs:List V}{p:Addr}(h:IsL H ds vs)(U:H p=none):Is (upd H p (.tup vs)) (.tup ds) (.ref p):=
 ⟨p,vs,rfl,qd,h.mono (qe U _).tk⟩
def tyD:D->Value
 | .non=> .type "NoneType"
 | .bl _=> .type "bool"
 | .int _=> .type "int"
 | .str _=> .type "str"
 | .lst=> .type "list"
 | .dct=> .type "dict"
 | .tup _=> .type "tuple"
theorem Is.ty {K:PySem.W.Frag}{H:Hp}{d:D}{v:V}(h:Is H d v):TyOf K H v (tyD d):=by
 cases d with
 |non=>cases(show v= .non from h);exact .non
 |bl b=>cases(show v= .bl b from h);exact .bl b
 |int i=>cases(show v= .int i from h);exact .int i
 |str z=>
  obtain⟨rfl,_⟩:=h;exact .str z
 |lst=>
  obtain⟨a,vs,rfl,ha⟩:=h;exact .lst ha
 |dct=>
  obtain⟨a,vs,rfl,ha⟩:=h;exact .dK ha
 |tup xs=>
  obtain⟨a,vs,rfl,ha,_⟩:=h;exact .tup ha
end L2
namespace PySem.AwM
open PySem
def qZ (val:Nat->Int):Nat->Int
 |0=>val 0
 |k+1=>if val (k+1)>qZ val k then val (k+1) else qZ val k
section
variable {pg:Program}{wd:World}{ar:Around}{RR:Result->Shared->Prop}{it:Addr}{fs ws:List Addr}{n:Nat}{PP:Nat->Value->Prop}{SS:Nat->Heap->Prop}
theorem maxD_loop (W:Walks pg wd ar.in1 it fs ws n PP SS)(val:Nat->Int)(hv:∀i v,PP i v->∃t,v= .int (val i) t)(L:Addr)(hL:L∉fs)(kw:List (Str×Value))(r:Nat):
  ∀(j:Nat) (t:Shared) (tb:Tok) (c:Nat),n-(j+1)=r->j+1<=n->SS (j+1) t.heap->t.heap.get? L=some {cls:= .type "list",dict:=none,data:= .seq #[.int (qZ val j) tb,.int (qZ val j) tb] c,slots:= #[]}->
  (∀h' tk ah,(∀b o,b∉ws->b≠L->t.heap.get? b=some o->h'.get? b=some o)->RR (.ok (.ret (.int (qZ val (n-1)) ah))) {t with heap:=h',toks:=tk})->codeAny (model pg wd) ar (.builtin "max.loop" ⟨[.ref it,.none,.ref L],kw⟩) RR t:=by
 have hw:L∉ws:=fun z=>hL (W.sub _ z);have af:(toString "max"++toString ".loop":String)="max.loop":=by decide
 induction r with
 |zero=>
  intro j t tb c hr hj hs hl hR;have Z:n=j+1:=by omega
  subst Z;refine vd F.entry_max_loop ?_;rw [uN U0 _];refine wpAny_bind (m:=seqItems? (.ref L)) (wpAny_seqItems hl rfl ?_);refine wpAny_bind (m:=tryCatch (pyNext (.ref it)) _) (wpAny_tryCatch (W.done t _ _ hs fun h' tk kk=> ?_));have aa:=kk L _ hw hl;refine wpAny_bind (m:=updateSeq L fun _=> #[]) (UR aa rfl (wpAny_bind (wpAny_letGo (wpAny_pure ?_))));exact hR _ tk tb fun b o hb U e=>(uB _ _ fun z=>U z.symm).trans (kk b o hb e)
 |succ r ih=>
  intro j t tb c hr hj hs hl hR;have Z:j+1<n:=by omega
  refine vd F.entry_max_loop ?_;rw [uN U0 _];refine wpAny_bind (m:=seqItems? (.ref L)) (wpAny_seqItems hl rfl ?_);refine wpAny_bind (m:=tryCatch (pyNext (.ref it)) _) (wpAny_tryCatch (W.item (j+1) t _ _ Z hs fun v h' tk hP ag kk=> ?_));obtain⟨tv,rfl⟩:=hv _ _ hP;have aa:=kk L _ hw hl;show wpAny _ ar.in1 (tryCatch (holding [.int (val (j+1)) tv,.int (val (j+1)) tv] (richCompare .Gt (.int (val (j+1)) tv) (.int (qZ val j) tb)>>=_)) _>>=_) _ _ _;have ai:=CmpOf.ints_gt (prog:=pg) (w:=wd) (A:=ar.in1) (P:=fun i v=>v= .int (if i=0 then val (j+1) else qZ val j) (if i=0 then tv else tb)) (fun i=>if i=0 then val (j+1) else qZ val j) fun i v e=>⟨_,e⟩
  refine wpAny_bind (wpAny_tryCatch (wpAny_holding (wpAny_bind (ai 0 1 _ _ _ _ _ rfl rfl (wpAny_bind (wpAny_holding (vn (wpAny_bind (wpAny_letGo (wpAny_pure ?_))))))))));show wpAny _ ar.in1 (if decide (val (j+1)>qZ val j)=true then _ else _) _ _ _
  by_cases hg:val (j+1)>qZ val j
  ·have eb:qZ val (j+1)=val (j+1):=by unfold qZ;rw [if_pos hg]
   rw [u9 hg];simp only [vg];refine wpAny_bind (UR aa rfl (wpAny_bind (wpAny_letGo ?_)));rw [af];refine wpAny_pure ⟨vy U0 _,ih (j+1) _ tv _ (by omega) Z (W.frame _ _ _ ag fun b aj o e=> ?_) (by rw [eb];exact Heap.get?_update_self _ aa rfl) fun h2 ad ae k2=> ?_⟩
   ·exact(uB _ _ fun z=>hL (by rw [z];exact aj)).trans e
   ·exact hR h2 ad ae fun b o ac U e=>k2 b o ac U ((uB _ _ fun z=>U z.symm).trans (kk b o ac e))
  ·have eb:qZ val (j+1)=qZ val j:=by rw [qZ,if_neg hg]
   rw [ua hg];simp only [ug,uU];refine wpAny_bind (wpAny_letGo ?_);rw [af];refine wpAny_pure ⟨vy U0 _,ih (j+1) _ tb c (by omega) Z ag (by rw [eb];exact aa) fun h2 ad ae k2=>hR h2 ad ae fun b o ac U e=>k2 b o ac U (kk b o ac e)⟩
theorem maxD_first (W:Walks pg wd ar.in1 it fs ws n PP SS)(val:Nat->Int)(hv:∀i v,PP i v->∃t,v= .int (val i) t)(L:Addr)(hL:L∉fs)(dv:Value){t:Shared}{c:Nat}(hs:SS 0 t.heap)
  (hl:t.heap.get? L=some {cls:= .type "list",dict:=none,data:= .seq #[] c,slots:= #[]})
  (ac:n=0->∀h' tk,(∀b o,b∉ws->b≠L->t.heap.get? b=some o->h'.get? b=some o)->RR (.ok (.ret dv)) {t with heap:=h',toks:=tk})
  (hR:0<n->∀h' tk ad,(∀b o,b∉ws->b≠L->t.heap.get? b=some o->h'.get? b=some o)->RR (.ok (.ret (.int (qZ val (n-1)) ad))) {t with heap:=h',toks:=tk}):
  codeAny (model pg wd) ar (.builtin "max.loop" ⟨[.ref it,.none,.ref L],[("default",dv)]⟩) RR t:=by
 have hw:L∉ws:=fun z=>hL (W.sub _ z);have ae:(toString "max"++toString ".loop":String)="max.loop":=by decide
 refine vd F.entry_max_loop ?_;rw [uN U0 _];refine wpAny_bind (m:=seqItems? (.ref L)) (wpAny_seqItems hl rfl ?_);by_cases h0:n=0
 ·subst h0;refine wpAny_bind (m:=tryCatch (pyNext (.ref it)) _) (wpAny_tryCatch (W.done t _ _ hs fun h' tk kk=> ?_));exact wpAny_bind (wpAny_rule (wpAny_pure (ac rfl h' tk fun b o hb _ e=>kk b o hb e)))
 ·have hn:0<n:=by omega
  refine wpAny_bind (m:=tryCatch (pyNext (.ref it)) _) (wpAny_tryCatch (W.item 0 t _ _ hn hs fun v h' tk hP af kk=> ?_));obtain⟨tv,rfl⟩:=hv _ _ hP;have U:=kk L _ hw hl;refine wpAny_bind (m:=updateSeq L fun _=> #[.int (val 0) tv,.int (val 0) tv]) (UR U rfl ?_);rw [ae];refine wpAny_pure ⟨vy U0 _,maxD_loop W val hv L hL _ _ 0 _ tv _ rfl hn (W.frame _ _ _ af fun b ag o e=> ?_) (Heap.get?_update_self _ U rfl) fun h2 ah ai k2=> ?_⟩
  ·exact(uB _ _ fun z=>hL (by rw [z];exact ag)).trans e
  ·exact hR hn h2 ah ai fun b o Z aa e=>k2 b o Z aa ((uB _ _ fun z=>aa z.symm).trans (kk b o Z e))
end
end PySem.AwM
namespace PySem.AwM
open PyProof.Rows
theorem args_maxD (a d:Value):argsOk "max" ⟨[a],[("default",d)]⟩:=by unfold argsOk;kernel_rfl
theorem fn_tree_kw {pg:Program}{wd:World}{ar:Around}{U:Value->Shared->Prop}{t:Shared}{nm:String}{bb:Builtin}{xs:List Value}{Z:List (Str×Value)}{QQ:Value->Shared->Prop}(h1:builtinKind nm=none)(h2:plainId nm=true)
  (h3:entryFor table nm=some bb) (h4:argsOk nm ⟨xs,Z⟩)
  (h5:wpAny (model pg wd) ar.in1 (bb ⟨xs,Z⟩) (fun fin t'=>match fin with
   | .done f=>(match(Except.ok f:Result) with| .ok (.ret v)=>QQ v t'| .ok _=>False| .error e=>U e t')
   | .again c=>c.quiet=true/\codeAny (model pg wd) ar c (fun r t2=>match r with| .ok (.ret v)=>QQ v t2| .ok _=>False| .error e=>U e t2) t') U t):
  wpAny (model pg wd) ar (call (.builtin nm) xs Z) QQ U t:=by
 refine wpAny_call (codeAny_call_builtin h2 h3 ?_);simp only [checkBuiltinCall,h1];cases hs:Manifest.signature? nm with
 |none=>exact wpAny_pure h5
 |some sg=>
  have q:Bind.checkArgs nm sg ⟨xs,Z⟩=pure ():=by simpa only [argsOk,hs] using h4
  simp only [q];exact wpAny_pure h5
theorem ints_len {vs:List Value}{ns:List Int}(h:IntsAre vs ns):vs.length=ns.length:=by
 induction h with
 |nil=>rfl
 |cons a b Z U=>simp [U]
theorem ints_get {vs:List Value}{ns:List Int}(h:IntsAre vs ns):∀{i:Nat}{v:Value},vs[i]? =some v->∃t,v= .int (ns.getD i 0) t:=by
 induction h with
 |nil=>intro i v e;simp at e
 |cons a b Z U=>
  intro i v e;cases i with
  |zero=>simp at e;subst e;exact⟨_,rfl⟩
  |succ i=>
   obtain⟨t,q⟩:=U (i:=i) (v:=v) (by simpa using e)
   exact⟨t,by simpa using q⟩
theorem call_maxD {pg:Program}{wd:World}{ar:Around}{EE:Value->Shared->Prop}{t:Shared}{l:Addr}{vs:List Value}{ns:List Int}{U:Value}{QQ:Value->Shared->Prop}(hh:ar.handled=none)(hl:t.heap.IsList l vs.toArray)(hi:IntsAre vs ns)
  (ac:ns= []->∀h' tk,(∀b o,t.heap.get? b=some o->h'.get? b=some o)->QQ U {t with heap:=h',toks:=tk})
  (hQ:ns≠ []->∀h' tk tb,(∀b o,t.heap.get? b=some o->h'.get? b=some o)->QQ (.int (qZ (fun i=>ns.getD i 0) (ns.length-1)) tb) {t with heap:=h',toks:=tk}):
  wpAny (model pg wd) ar (call (.builtin "max") [.ref l] [("default",U)]) QQ EE t:=by
 have ad:(toString "max"++toString ".loop":String)="max.loop":=by decide
 refine fn_tree_kw F.kind_max F.plain_max F.entry_max (args_maxD _ _) ?_;show wpAny _ ar.in1 (Builtin.Builtins.bindParams "max" ["key","default"] 0 ⟨[],[("default",U)]⟩>>=_) _ _ t;refine wpAny_bind (V8 (show Builtin.Builtins.bindParams "max" ["key","default"] 0 ⟨[],[("default",U)]⟩=pure [none,some U] from rfl) ?_)
 refine wpAny_bind (wpAny_pure ?_);have Z:l<t.heap.objs.size:=by obtain⟨_,e,_⟩:=hl;exact uh e
 refine wpAny_bind (Us hl ?_);refine wpAny_bind (uW ?_);rw [ad];have hsz:vs.toArray.size=ns.length:=by rw [ub];exact ints_len hi
 have W:=Walks.list (prog:=pg) (w:=wd) (A:=ar.in1) hh t.heap.objs.size l (uq Z) vs.toArray;have aa:∀b o,t.heap.get? b=some o->((t.heap.push {cls:= .type "list_iterator",data:= .fields #[.ref l,.int 0 0]}).push {cls:= .type "list",data:= .seq ([]:List Value).toArray}).get? b=some o:=fun b o e=>u5 _ (u5 _ e);have ae:(t.heap.push {cls:= .type "list_iterator",data:= .fields #[.ref l,.int 0 0]}).objs.size∉ [t.heap.objs.size,l]:=by
  rw [uY];intro hm;rcases List.mem_cons.mp hm with e|hm
  ·exact absurd (show t.heap.objs.size+1=t.heap.objs.size from e) (by omega)
  ·exact absurd (show t.heap.objs.size+1=(l:Nat) from List.mem_singleton.mp hm) (fun z=>absurd Z (Nat.not_lt.mpr (by rw [<-z];exact Nat.le_succ _)))
 have kept:∀h':Heap,(∀b o,b∉ [t.heap.objs.size]->b≠(t.heap.push {cls:= .type "list_iterator",data:= .fields #[.ref l,.int 0 0]}).objs.size->((t.heap.push {cls:= .type "list_iterator",data:= .fields #[.ref l,.int 0 0]}).push {cls:= .type "list",data:= .seq ([]:List Value).toArray}).get? b=some o->h'.get? b=some o)->∀b o,t.heap.get? b=some o->h'.get? b=some o:=fun h' k b o e=>by
  have hb:=uh e;refine k b o (fun hm=> ?_) ?_ (aa b o e)
  ·exact absurd (List.mem_singleton.mp hm) (uq hb)
  ·rw [uY];exact uq (Ub hb)
 refine wpAny_pure ⟨vy U0 _,maxD_first W (fun i=>ns.getD i 0) (fun i v e=>ints_get hi (by simpa using e)) _ ae U ⟨⟨_,u5 _ (uc _ rfl),rfl,rfl⟩,(hl.push _).push _⟩ (uc _ rfl) (fun h0 h' tk k=> ?_) fun h0 h' tk tb k=> ?_⟩
 ·exact ac (List.eq_nil_of_length_eq_zero (by rw [<-hsz];exact h0)) h' tk (kept h' k)
 ·rw [hsz];exact hQ (fun z=>by rw [z] at hsz;rw [hsz] at h0;exact vp _ h0) h' tk tb (kept h' k)
end PySem.AwM
namespace L2
open PySem PySem.Spec PyProof.Rows
section
variable {X:Cx}
theorem op_gt_str:OpR X (compareOp .Gt) (fun x y H Q=>∃i j,x= .str i/\y= .str j/\Q (.bl (decide (j.cps.toList<i.cps.toList))) H):=by
 intro pins s σ H x y v u Q I U Z h;obtain⟨i,j,rfl,rfl,q⟩:=h;obtain⟨t,rfl⟩:=U;obtain⟨t',rfl⟩:=Z;exact PySem.P.gt_str (qI I q rfl)
theorem call_sumL (hc:X.calm=true):Qn X (.builtin "sum") (fun xs H Q=>∃(p:Addr) (ns:List Int),xs= [.ref p]/\SqL X.K H p (ns.map V.int)/\Q (.int ns.sum) H):=by
 intro pins s σ H xs us Q I r h;obtain⟨p,ns,rfl,hp,q⟩:=h;obtain⟨u,rfl,ru⟩:=QX r;cases ru;obtain⟨its,rv,pl,hz⟩:=I.list hp;have hi:IntsAre its ns:=JW rv;obtain⟨ys,Z⟩:=hi.allInts.items;have U:s.heap.IsList p (intItems ys):=Z▸pl.isList;refine ux (n:=1) I.tk (sum_intListG (I.ok.hd hc) U fun h' tk t' hk=> ?_);intro htk;have e1:ns=ys.toList.map (·.1):=by
  have q1:=hi.numsOf;rw [<-nums_intItems,<-Z];exact(show numsOf its.toArray.toList=ns from q1).symm
 have e2:preSum (numAt ys) ys.size=ns.sum:=by
  rw [preSum_eq,uT (by simp),e1]
 rw [e2];exact⟨.int ns.sum,H,I.kept hk,⟨t',rfl⟩,q⟩
def JJ (d:Int)(ns:List Int):Int:=if ns= [] then d else AwM.qZ (fun i=>ns.getD i 0) (ns.length-1)
def tMaxD (K:PySem.W.Frag)(te td:TE):TE:=fun σ H Q=>te σ H fun x H1=>td σ H1 fun y H2=>∃(p:Addr) (ns:List Int) (d:Int),x= .ref p/\y= .int d/\SqL K H2 p (ns.map V.int)/\Q (.int (JJ d ns)) H2
theorem pe_maxD {e Z:Expr}{te td:TE}{p pos kp:Pos}(hc:X.calm=true)(hg:Gl X "max")(hm:X.mg "max"=none)(he:PE X e te)(hd:PE X Z td)
  (hs:starEach [e] X.env= [(false,eval e X.env)]:=by rfl):PE X (.Call (.Name "max" p) [e] [⟨some "default",Z,kp⟩] pos) (tMaxD X.K te td):=by
 intro pins s σ H Q I h;refine vt (JD I hg hm boot_max ?_);have ha:PA X [e] (tCons te tNil):=qa he qb hs;have hk:PK X [⟨some "default",Z,kp⟩] (tCons td tNil):=pk_cons hd pk_nil;refine callWith_kw (thn (ha pos pins s σ H (fun vs H1=>match vs with| [x]=>td σ H1 fun y H2=>∃(p:Addr) (ns:List Int) (d:Int),x= .ref p/\y= .int d/\SqL X.K H2 p (ns.map V.int)/\Q (.int (JJ d ns)) H2|_=>False) I h) fun us s1 ⟨vs,H1,I1,r1,q1⟩=> ?_)
  (by show backTo pos (starEach [e] X.env)=_;rw [hs];rfl) (by show(backTo pos (starEach [e] X.env)).any (·.1)=false;rw [hs];rfl)
 match vs,r1,q1 with
 | [x],r1,q1=>
  refine thn (hk pos pins s1 σ H1 (fun zs H2=>match zs with| [y]=>∃(p:Addr) (ns:List Int) (d:Int),x= .ref p/\y= .int d/\SqL X.K H2 p (ns.map V.int)/\Q (.int (JJ d ns)) H2|_=>False) I1 q1) fun ws s2 ⟨zs,H2,U,r2,q2⟩=> ?_
  match zs,r2,q2 with
  | [y],r2,q2=>
   obtain⟨l,ns,d,rfl,rfl,hp,q⟩:=q2;obtain⟨u,rfl,ru⟩:=QX r1;cases ru;obtain⟨u2,rfl,t2,rfl⟩:=QX r2;obtain⟨its,rv,pl,hz⟩:=U.list hp;have hi:IntsAre its ns:=JW rv;show wpAny _ X.A (call (.builtin "max") [.ref l] [("default",.int d t2)]) _ _ s2;refine ux (n:=1) U.tk (AwM.call_maxD (U.ok.hd hc) pl.isList hi (fun h0 h' tk k=> ?_) fun h0 h' tk tb k=> ?_)
   ·intro htk;exact⟨.int d,H2,U.kept k,⟨t2,rfl⟩,by have e:JJ d ns=d:=if_pos h0;rw [e] at q;exact q⟩
   ·intro htk;exact⟨.int (JJ d ns),H2,U.kept k,⟨tb,by have e:JJ d ns=AwM.qZ (fun i=>ns.getD i 0) (ns.length-1):=if_neg h0;rw [e]⟩,q⟩
def rCatG (K:PySem.W.Frag):R2:=fun x y H Q=>∃a b xs ys,x= .ref a/\y= .ref b/\SqT K H a xs/\SqT K H b ys/\xs.length+ys.length<=sizeLine/\
 (xs= []->Q (.ref b) H)/\(xs≠ []->ys= []->Q (.ref a) H)/\(xs≠ []->ys≠ []->∀p,H p=none->Q (.ref p) (upd H p (.tup (xs++ys))))
theorem Y7:OpR X (binaryOp .Add) (rCatG X.K):=by
 intro pins s σ H x y v u Q I Z ry h;obtain⟨a,b,xs,ys,rfl,rfl,ha,hb,hz,q0,q1,q2⟩:=h;by_cases U:xs= []
 ·cases Z;cases ry;obtain⟨its,r1,p1,_⟩:=I.tuple ha;obtain⟨aa,r2,p2,_⟩:=I.tuple hb;subst U;cases r1;obtain⟨⟨c1,d1,t1,l1⟩,o1,e1,n1,f1⟩:=id p1;obtain⟨⟨c2,d2,t2,l2⟩,o2,e2,n2,f2⟩:=id p2;simp only at e1 f1 e2 f2;subst e1 f1 e2 f2;exact concat_meets p1.typeIs p2.typeIs noFill_tuple_add seq_tuple_add PySem.F.slot_tuple_add UP (UH _ _) (tuple_addW0 a b _ _ n1 n2 d1 d2 l1 l2 rfl) ⟨o1,o2,⟨.ref b,H,I,rfl,q0 rfl⟩⟩
 ·exact op_catT pins s σ H (.ref a) (.ref b) v u Q I Z ry ⟨a,b,xs,ys,rfl,rfl,ha,hb,U,hz,q1 U,q2 U⟩
end
theorem Tk.updL {H:Hp}{p:Addr}{xs ys:List V}(h:H p=some (.lst xs)):Tk H (upd H p (.lst ys)):=by
 refine⟨fun b zs e=> ?_,fun b zs e=> ?_,fun b zs e=>⟨zs,?_⟩⟩
 ·rw [ql (fun z=>by rw [z,h] at e;cases e)];exact e
 ·by_cases z:b=p
  ·exact⟨ys,by rw [z];exact qd⟩
  ·exact⟨zs,by rw [ql z];exact e⟩
 ·rw [ql (fun z=>by rw [z,h] at e;cases e)];exact e
theorem lc_data {J:It}{A:Addr}{H1:Hp}{te:TE}{tl:St}{Q:VK}{ds:List D}(f:D->D)(hn:ds.length<=sizeLine)(hA:H1 A=none)
  (aa:∀i H,Same H1 H->i<ds.length->J.go i H) (hy:∀i H x H' d,Same H1 H->ds[i]? =some d->J.yld i H x H'->H'=H/\Is H d x) (Z:∀H,Same H1 H->J.stop ds.length H)
  (ac:∀d x H (R:VK),d∈ds->Same H1 H->Is H d x->(∀y H',Same H H'->Is H' (f d) y->R y H')->te (some x::tl) H R)
  (hQ:∀H' ys,Same H1 H'->H' A=some (.lst ys)->IsL H' (ds.map f) ys->Q (.ref A) H'):lcGo A J (QH 0) tYes te (none::tl) H1 Q:=by
 refine⟨ds.length,fun i σ ys H=>(∃w,σ=w::tl)/\IsL H ((ds.take i).map f) ys/\Same H1 H,hn,⟨⟨none,rfl⟩,rfl,qe hA _⟩,?_,?_⟩
 ·rintro i σ ys H hi ⟨⟨w,rfl⟩,hl,sm⟩ U ae;refine⟨aa i H sm hi,fun x H' y=> ?_⟩;obtain⟨rfl,hx⟩:=hy i H x H' ds[i] sm (u4 hi) y;dsimp only [QH,tYes,List.set];rw [if_pos rfl];refine ac ds[i] x H' _ (uj hi) sm hx fun y' H4 s4 ad=>⟨s4 _ _ U,⟨some x,rfl⟩,?_,fun b o e=> ?_⟩
  ·have t:Tk H4 (upd H4 A (.lst (ys++ [y']))):=Tk.updL (s4 _ _ U);have e:(ds.take (i+1)).map f=(ds.take i).map f++ [f ds[i]]:=by
    rw [ut,u4 hi,ud]
    rfl
   rw [e];exact((hl.mono s4.tk).mono t).append (IsL.one (ad.mono t))
  ·rw [ql (qh e hA)];exact s4 b o (sm b o e)
 ·rintro σ ys H ⟨_,hl,sm⟩ U;refine⟨Z H sm,hQ H ys sm U ?_⟩;rw [uT (u8 _)] at hl;exact hl
theorem lc_tupS {K:PySem.W.Frag}{a A:Addr}{H1:Hp}{te:TE}{tl:St}{Q:VK}{ds:List D}{vs:List V}(f:D->D)(ha:H1 a=some (.tup vs))(hl:IsL H1 ds vs)(hn:ds.length<=sizeLine)(hA:H1 A=none)
  (Z:∀d x H (R:VK),d∈ds->Same H1 H->Is H d x->(∀y H',Same H H'->Is H' (f d) y->R y H')->te (some x::tl) H R)
  (hQ:∀H' ys,Same H1 H'->H' A=some (.lst ys)->IsL H' (ds.map f) ys->Q (.ref A) H'):lcGo A (Itt K a) (QH 0) tYes te (none::tl) H1 Q:=by
 have ln:=hl.length;refine lc_data f hn hA (fun i H U hi=>⟨vs,vs[i]'(by omega),SqT.of (U _ _ ha),u4 _⟩) (fun i H x H' d U hd y=> ?_) (fun H U=>⟨vs,SqT.of (U _ _ ha),by omega⟩) Z hQ
 obtain⟨rfl,y⟩:=y;obtain⟨v,e1,e2⟩:=hl.get hd;have e3:=y vs (SqT.of (U _ _ ha));rw [e1] at e3;cases e3;exact⟨rfl,e2.mono U.tk⟩
theorem Jb {K:PySem.W.Frag}{a A:Addr}{H1:Hp}{te:TE}{tl:St}{Q:VK}{ds:List D}{vs:List V}(f:D->D)(ha:H1 a=some (.lst vs))(hl:IsL H1 ds vs)(hn:ds.length<=sizeLine)(hA:H1 A=none)
  (Z:∀d x H (R:VK),d∈ds->Same H1 H->Is H d x->(∀y H',Same H H'->Is H' (f d) y->R y H')->te (some x::tl) H R)
  (hQ:∀H' ys,Same H1 H'->H' A=some (.lst ys)->IsL H' (ds.map f) ys->Q (.ref A) H'):lcGo A (Itl K a) (QH 0) tYes te (none::tl) H1 Q:=by
 have ln:=hl.length;refine lc_data f hn hA (fun i H U hi=>⟨vs,vs[i]'(by omega),SqL.of (U _ _ ha),u4 _⟩) (fun i H x H' d U hd y=> ?_) (fun H U=>⟨vs,SqL.of (U _ _ ha),by omega⟩) Z hQ
 obtain⟨rfl,y⟩:=y;obtain⟨v,e1,e2⟩:=hl.get hd;have e3:=y vs (SqL.of (U _ _ ha));rw [e1] at e3;cases e3;exact⟨rfl,e2.mono U.tk⟩
theorem IsL.bls {H:Hp}:∀{bs:List Bool}{vs:List V},IsL H (bs.map D.bl) vs->vs=bs.map V.bl
 | [],_,h=>h
 |_::_,_,h=>by
  obtain⟨v,r,rfl,h1,h2⟩:=h;rw [IsL.bls h2,show v=_ from h1];rfl
theorem IsL.ints {H:Hp}:∀{ns:List Int}{vs:List V},IsL H (ns.map D.int) vs->vs=ns.map V.int
 | [],_,h=>h
 |_::_,_,h=>by
  obtain⟨v,r,rfl,h1,h2⟩:=h;rw [IsL.ints h2,show v=_ from h1];rfl
theorem ix_is {K:PySem.W.Frag}{H:Hp}{ds:List D}{v:V}{i:Int}{d:D}{Q:VK}(h:Is H (.tup ds) v)(hi:atI ds i=some d)(q:∀x,Is H d x->Q x H):rIxT K v (.int i) H Q:=by
 obtain⟨a,vs,rfl,ha,U⟩:=h;obtain⟨j,h1,h2,h3,h4,h5⟩:=xT hi;obtain⟨x,e1,e2⟩:=U.get h2;refine⟨a,vs,i,x,rfl,rfl,SqT.of ha,?_,q x e2⟩;have ln:=U.length;unfold atI at hi⊢;rw [ln];cases e:ixN ds.length i with
 |none=>rw [e] at hi;cases hi
 |some k=>
  rw [e] at hi;obtain⟨Z,_⟩:=ixN_seq e;rw [h1] at Z;cases Z;exact e1
theorem bestOf_le (val:Nat->Int):∀k i,i<=k->val i<=AwM.qZ val k
 |0,i,h=>by
  have:i=0:=by omega
  subst this;exact Int.le_refl _
 |k+1,i,h=>by
  unfold AwM.qZ;rcases vc i (k+1) with z|z
  ·have:=bestOf_le val k i (by omega)
   split<;>omega
  ·have:i=k+1:=by omega
   subst this;split<;>omega
theorem bestOf_is (val:Nat->Int):∀k,∃i,i<=k/\AwM.qZ val k=val i
 |0=>⟨0,u8 _,rfl⟩
 |k+1=>by
  unfold AwM.qZ;split
  ·exact⟨k+1,u8 _,rfl⟩
  ·obtain⟨i,h1,h2⟩:=bestOf_is val k;exact⟨i,by omega,h2⟩
theorem maxOr_is {m:Int}{ns:List Int}(U:ns≠ [])(h1:∀x∈ns,x<=m)(h2:m∈ns)(d:Int):JJ d ns=m:=by
 unfold JJ;rw [if_neg U];have hl:0<ns.length:=List.length_pos_iff.mpr U;obtain⟨i,hi,e⟩:=bestOf_is (fun i=>ns.getD i 0) (ns.length-1);have Z:i<ns.length:=by omega
 have e1:ns.getD i 0=ns[i]:=by simp [List.getD,Z]
 rw [e1] at e;have a:=h1 _ (uj Z);obtain⟨j,hj,ej⟩:=List.getElem_of_mem h2;have b:=bestOf_le (fun i=>ns.getD i 0) (ns.length-1) j (by omega)
 have e2:ns.getD j 0=ns[j]:=by simp [List.getD,hj]
 rw [e2,ej] at b;omega
theorem maxOr_dp (ds:List D):JJ 0 (ds.map fun d=>(dp d:Int))=(dpL ds:Int):=by
 cases ds with
 |nil=>simp [JJ,dpL]
 |cons x r=>
  refine maxOr_is (by simp) (fun y U=> ?_) ?_ 0
  ·obtain⟨d,hd,rfl⟩:=List.mem_map.mp U;have:=(ji (k:=dpL (x::r)) (x::r)).mp (u8 _) d hd;omega
  ·have:∀ds:List D,ds≠ []->∃d∈ds,dp d=dpL ds:=by
    intro ds
    induction ds with
    |nil=>intro h;exact absurd rfl h
    |cons y q Z=>
     intro _;have e:dpL (y::q)=max (dp y) (dpL q):=by simp only [dpL]
     rcases vc (dp y) (dpL q) with z|z
     ·have hq:q≠ []:=by rintro rfl;simp [dpL] at z
      obtain⟨d,hd,e'⟩:=Z hq;exact⟨d,ue _ hd,by omega⟩
     ·exact⟨y,uo,by omega⟩
   obtain⟨d,hd,e⟩:=this (x::r) (by simp)
   exact List.mem_map.mpr ⟨d,hd,by rw [e]⟩
theorem sum_sz (ds:List D):(ds.map fun d=>(sz d:Int)).sum=(szL ds:Int):=by
 induction ds with
 |nil=>simp [szL]
 |cons x r U=>
  rw [ui,List.sum_cons,U];have e:szL (x::r)=sz x+szL r:=by simp only [szL]
  rw [e];omega
def inS (i j:Str):Bool:= !(Builtin.Str.occurrences j i 0 j.length 1).isEmpty
theorem jZ (j:Str)(c:Nat):inS ⟨#[c]⟩ j=decide (c∈j.cps.toList):=StrLaws.found_one j c
theorem mulOk_of {z:Str}{n:Int}(Z:0<=n)(h1:n<=10000)(hz:z.length<=1000):MulOk z n:=by
 have hs:sizeLine=16777216:=uv;refine⟨by rw [ua (by omega),ua (by omega)];rfl,fun hn _=> ?_,fun hn _=> ?_⟩
 ·have:(1000:Int)<=(2^63-1)/n:=by
   have U:(1000:Int)*n<=2^63-1:=by omega
   exact(Int.le_ediv_iff_mul_le (by omega)).mpr U
  omega
 ·unfold Builtin.Str.tooLong;refine ua ?_;have:z.length*n.toNat<=1000*10000:=Nat.mul_le_mul hz (by omega)
  omega
theorem jj (xs:Array Nat):∀(k:Nat) (U:Array Nat),((List.replicate k xs).foldl (·++ ·) U).size=U.size+k*xs.size
 |0,U=>by simp
 |k+1,U=>by rw [UE,List.foldl_cons,jj xs k,Array.size_append,Nat.succ_mul];omega
theorem joined_size (xs:Array Nat)(k:Nat):((List.replicate k xs).foldl (·++ ·) #[]).size=k*xs.size:=by
 rw [jj];simp
theorem mul_len {z:Str}{n:Int}(hz:z.length<=1)(h1:n<=10000):(Txt.mul z n).length<=10000:=by
 unfold Txt.mul;split
 ·show 0<=10000;decide
 ·split
  ·omega
  ·show((List.replicate n.toNat z.cps).foldl (·++ ·) #[]).size<=10000;rw [joined_size];have:n.toNat*z.cps.size<=10000*1:=Nat.mul_le_mul (by omega) hz
   omega
theorem for_str {z:Str}{g:TG}{tb:TS}{E:Ends}{σ:St}{H:Hp}(U:Nat->St->Hp->Prop)(h0:U 0 σ H)
  (hs:∀(i c:Nat) σ H,z.cps[i]? =some c->U i σ H->g (.str ⟨#[c]⟩) σ H fun σ2 H2=>tb {E with nx:=U (i+1),ct:=U (i+1),bk:=E.nx} σ2 H2) (hd:∀σ H,U z.cps.size σ H->E.nx σ H):
  ∃W:Nat->Nat->St->Hp->Prop,(∃m,W 0 m σ H)/\∀i m σ H,W i m σ H->
   ((Its z).stop i H/\E.nx σ H)∨((Its z).go i H/\∃N:St->Hp->Prop,(∀σ' H',N σ' H'->∃m',m'<m/\W (i+1) m' σ' H')/\∀x H',(Its z).yld i H x H'->g x σ H' fun σ2 H2=>tb {E with nx:=N,ct:=N,bk:=E.nx} σ2 H2):=by
 refine⟨fun i m σ H=>m=z.cps.size-i/\i<=z.cps.size/\U i σ H,⟨z.cps.size,by simp,vh _,h0⟩,?_⟩
 rintro i m σ H ⟨rfl,hi,p⟩;by_cases Z:i<z.cps.size
 ·refine .inr ⟨Z,U (i+1),fun σ' H' p'=>⟨z.cps.size-(i+1),by omega,rfl,Z,p'⟩,fun x H' y=> ?_⟩
  obtain⟨rfl,c,hc,rfl⟩:=y;exact hs i c σ _ hc p
 ·have e:i=z.cps.size:=by omega
  exact .inl ⟨e,hd σ H (e▸p)⟩
theorem IsL.unsnoc {H:Hp}:∀{ds:List D}{d:D}{vs:List V},IsL H (ds++ [d]) vs->∃us x,vs=us++ [x]/\IsL H ds us/\Is H d x
 | [],d,_,h=>by
  obtain⟨v,r,rfl,h1,h2⟩:=h;cases(show r= [] from h2)
  exact⟨[],v,rfl,rfl,h1⟩
 |e::r,d,_,h=>by
  obtain⟨v,q,rfl,h1,h2⟩:=h;obtain⟨us,x,rfl,U,h4⟩:=IsL.unsnoc h2;exact⟨v::us,x,rfl,⟨v,us,rfl,h1,U⟩,h4⟩
def isStr:D->Bool
 | .str _=>true
 |_=>false
def jU:D->Bool
 | .tup _=>true
 |_=>false
section
variable {K:PySem.W.Frag}
theorem kit_no {T U:String}{b:Bool}(h:(Value.type T==Value.type U)=false)(hm:PySem.W.kitMeta U=true)(Z:(fastBuiltinMro T).map (·.contains (Value.type U))=some b):PySem.W.kitOne K (.type T) (.type U)=some b:=by
 unfold PySem.W.kitOne;rw [if_neg (by rw [h];exact uf)]
 show(if PySem.W.kitMeta U=true then PySem.W.subIn K (.type T) (.type U) else none)=some b
 rw [if_pos hm];exact Z
theorem Xa {T:String}(h:(Value.type T==Value.type T)=true):PySem.W.kitOne K (.type T) (.type T)=some true:=by
 unfold PySem.W.kitOne;rw [if_pos h]
theorem kit_str (d:D):PySem.W.kitOne K (tyD d) (.type "str")=some (isStr d):=by
 cases d with
 |str z=>exact Xa (by decide)
 |_=>exact kit_no (b:=false) (by decide) (by decide+kernel) (by decide+kernel)
theorem kit_tup (d:D):PySem.W.kitOne K (tyD d) (.type "tuple")=some (jU d):=by
 cases d with
 |tup z=>exact Xa (by decide)
 |_=>exact kit_no (b:=false) (by decide) (by decide+kernel) (by decide+kernel)
end
theorem lt_one (c k:Nat):decide ((⟨#[c]⟩:Str).cps.toList< [k])=decide (c<k):=by
 rw [vZ];simp [List.cons_lt_cons_iff]
theorem one_gt (c k:Nat):decide ([k]<(⟨#[c]⟩:Str).cps.toList)=decide (k<c):=by
 rw [vZ];simp [List.cons_lt_cons_iff]
theorem YW {X:Cx}{K:PySem.W.Frag}(h:X.K=K):IxR X (rIxT K):=by subst h;exact y7
theorem ix_listK {X:Cx}{K:PySem.W.Frag}(h:X.K=K):IxR X (rIxL K):=by subst h;exact qH
def iTupB (K:PySem.W.Frag)(tl:TE):TI:=fun σ H R=>tl σ H fun x H1=>∃a xs,x= .ref a/\SqT K H1 a xs/\(xs.length<=sizeLine->R (Itt K a) H1)
theorem Yd {X:Cx}{tg l:Expr}{tl:TE}(Z:PE X l tl):PI X tg l (iTupB X.K tl):=by
 intro pins s σ H R I h;refine thn (Z pins s σ H _ I h) fun v s1 ⟨x,H1,U,r1,q1⟩=> ?_;obtain⟨a,xs,e,hq,q⟩:=q1;subst e;cases r1;obtain⟨its,rv,p,hz⟩:=U.tuple hq;refine wpAny_pyIter_tuple (show s1.heap.IsTuple a its.toArray from p) ?_
 refine⟨s1.heap.objs.size,[s1.heap.objs.size],_,_,H1,rfl,U.kept (t':=s1.toks) fun b o e=>u5 _ e,JP a _,⟨_,uc _ rfl,rfl,rfl⟩,fun b hb=> ?_,q hz⟩;have e:b=s1.heap.objs.size:=by simpa using hb
 subst e;exact U.fpOk (u8 _) (U.hok.fresh (u8 _))
theorem call_lenB {X:Cx}:Qn X (.builtin "len") (fun xs H Q=>∃p ys,xs= [.ref p]/\(SqL X.K H p ys∨SqT X.K H p ys)/\(ys.length<=sizeLine->Q (.int ys.length) H)):=by
 intro pins s σ H xs us Q I r h;obtain⟨p,ys,e,U,q⟩:=h;have hz:ys.length<=sizeLine:=by
  rcases U with U|U
  ·exact(I.list U).choose_spec.2.2
  ·exact(I.tuple U).choose_spec.2.2
 exact qJ pins s σ H xs us Q I r ⟨p,ys,e,U,q hz⟩
section
variable {X:Cx}{K:PySem.W.Frag}
theorem xS (h:X.K=K):Qn X (.builtin "len") (fun xs H Q=>∃p ys,xs= [.ref p]/\(SqL K H p ys∨SqT K H p ys)/\Q (.int ys.length) H):=by subst h;exact qJ
theorem pg_tupK {es:List Expr}{k:Nat}{t:TGs}{n:Nat}{pos:Pos}(Z:X.K=K)(hc:X.calm=true)(h:PGs X es t)
  (hn:(assignEach es X.env).length=n:=by rfl) (U:(assignEach es X.env).findIdx? (·.1)=none:=by rfl):PG X (.Tuple es k pos) (gTup K n t):=by subst Z;exact pg_tup hc h hn U
end
theorem lc_range {lo:Int}{n:Nat}{L:Addr}{H1:Hp}{te:TE}{tl:St}{Q:VK}(C:Nat->List V->Hp->Prop)(hn:n<=sizeLine)(h0:C 0 [] (upd H1 L (.lst [])))
  (hs:∀i ys H,i<n->C i ys H->H L=some (.lst ys)->ys.length<=i->∀R:VK,(∀y U,U L=some (.lst ys)->C (i+1) (ys++ [y]) (upd U L (.lst (ys++ [y])))->R y U)->te (some (.int (lo+(i:Int)))::tl) H R)
  (hQ:∀ys H,C n ys H->H L=some (.lst ys)->Q (.ref L) H):lcGo L (Itr lo n) (QH 0) tYes te (none::tl) H1 Q:=by
 refine⟨n,fun i σ ys H=>(∃x,σ=x::tl)/\C i ys H,hn,⟨⟨none,rfl⟩,h0⟩,?_,?_⟩
 ·rintro i σ ys H hi ⟨⟨x,rfl⟩,Z⟩ hL hy;refine⟨hi,?_⟩;rintro x' H' ⟨rfl,rfl⟩;dsimp only [QH,tYes,List.set];rw [if_pos rfl];exact hs i ys H' hi Z hL hy _ fun y U e c=>⟨e,⟨_,rfl⟩,c⟩
 ·rintro σ ys H ⟨_,Z⟩ hL;exact⟨u8 _,hQ ys H Z hL⟩
theorem inV_str (z:Str)(l:List Str):inV (.str z) (l.map V.str)=decide (z∈l):=by
 unfold inV;rw [List.any_map,vq,List.any_eq_true,uZ];constructor
 ·rintro⟨x,Z,e⟩;have U:(x==z)=true:=e;rw [UX] at U;exact U▸Z
 ·intro h;exact⟨z,h,by show(z==z)=true;exact vN z⟩
section
variable {X:Cx}{pins:List (Addr×Obj)}{σ:St}{H:Hp}{s:Shared}
theorem jK:∀{cs:List Addr}{its:List Value},Vals (cs.map V.ref) its->its=cs.map Value.ref
 | [],_,h=>by cases h;rfl
 |c::cs,_,h=>by
  cases h with
  |cons U Z=>
   rw [jK Z,show _=Value.ref c from U]
   rfl
end
section
variable {X:Cx}
theorem Qh:∀{ls:List Str}{its:List Value},Vals (ls.map V.str) its->StrsAre its ls
 | [],_,h=>by cases h;exact .nil
 |z::ls,_,h=>by
  cases h with
  |cons U Z=>
   obtain⟨t,e⟩:=U;rw [e];exact .cons z t (Qh Z)
theorem QB:∀{ls:List Str}{its:List Value},StrsAre its ls->Vals (ls.map V.str) its
 |_,_,.nil=> .nil
 |_,_,.cons x t h=> .cons ⟨t,rfl⟩ (QB h)
theorem jC:∀{xs:List V}{us:List Value},xs.length=us.length->(∀(j:Nat) (x:V) (v:Value),xs[j]? =some x->us[j]? =some v->RelV x v)->Vals xs us
 | [],[],_,_=> .nil
 |x::xs,u::us,hl,h=> .cons (h 0 x u rfl rfl) (jC (by simpa using hl) fun j y v h1 h2=>h (j+1) y v (by simpa using h1) (by simpa using h2))
 | [],_::_,hl,_=>by simp at hl
 |_::_,[],hl,_=>by simp at hl
theorem js:Qn X (.builtin "sorted") (fun xs H Q=>∃(p:Addr) (ls:List Str),xs= [.ref p]/\SqL X.K H p (ls.map V.str)/\ls.length<64/\∀(ms:List Str) (q:Addr),ms.Perm ls->sortedS ms=true->H q=none->Q (.ref q) (upd H q (.lst (ms.map V.str)))):=by
 intro pins s σ H xs us Q I r h;obtain⟨p,ls,rfl,hp,aa,q⟩:=h;obtain⟨u,rfl,ru⟩:=QX r;cases ru;obtain⟨its,Z,pl,hz⟩:=I.list hp;have hS:=Qh Z;have hl:its.length=ls.length:=by have:=Z.length;simpa using this.symm
 refine sorted_strs pl.isList hS (by omega) fun out ms a1 a2 a3=> ?_
 obtain⟨e,he⟩:=sortedAll_at s.heap its out;have U:ms.length=ls.length:=a2.length_eq;refine⟨.ref (s.heap.objs.size+1),_,I.laid (t':=s.toks) (o:= .lst (ms.map V.str)) (fun b u w=>sortedAll_old w) (Nat.le_succ _) ⟨?_,out.toList,e,QB a1,he⟩,rfl,q ms _ a2 a3 (I.hok.fresh (Nat.le_succ _))⟩;rw [u1,U,uv];omega
theorem call_sortedD (hc:X.calm=true):Qn X (.builtin "sorted") (fun xs H Q=>∃(d:Addr) (kvs:List (Key×V)) (ls:List Str),xs= [.ref d]/\H d=some (.dK kvs)/\kvs.map (·.1)=ls.map Sum.inr/\ls.length<64/\∀(ms:List Str) (q:Addr),ms.Perm ls->sortedS ms=true->H q=none->Q (.ref q) (upd H q (.lst (ms.map V.str)))):=by
 intro pins s σ H xs us Q I r h;obtain⟨d,kvs,ls,rfl,hd,hk,ak,q⟩:=h;obtain⟨u,rfl,ru⟩:=QX r;cases ru;obtain⟨hz,lo,vs,ae,dd⟩:=dk_of I.hok hd;obtain⟨o,es,ep,ho⟩:=id dd;have af:s.heap.DictAt (qz X.prog X.w) d vs ep:=⟨o,es,ho⟩;have aa:vs.length=ls.length:=by
  have h1:=congrArg List.length hk;rw [u1,u1] at h1;rw [<-ae.length,h1]
 refine ux (n:=1) I.tk ?_;refine PySem.Calls.call_function_entry kind_sorted plain_sorted entry_sorted (args_sorted1 _) ?_;unfold Builtin.«sorted»;refine wpAny_bind (m:=checkCount "sorted" 1 1 _) (wpAny_pure ?_);refine wpAny_bind (PySem.W.kdu_collect (A:=X.A.in1) (PySem.W.kdl_dict lo) (I.ok.hd hc) af (by rw [aa,uv];omega) fun h' tk Z ag U=> ?_)
 have hS:StrsAre Z.toList ls:=by
  refine Qh (jC (by rw [u1,Array.length_toList];exact aa.symm.trans U.1.symm) fun j x v hx hv=> ?_)
  rw [uk] at hx;cases ac:ls[j]? with
  |none=>rw [ac] at hx;cases hx
  |some z=>
   rw [ac] at hx;cases hx;obtain⟨k,y,e1,e2⟩:=U.2 j v (by rw [<-vo];exact hv)
   have e3:(kvs.map (·.1))[j]? =some k:=by
    rw [ae.keys,uk,e1]
    rfl
   rw [hk,uk,ac] at e3;cases e3;rcases qK (show keyIs (Sum.inr z) v=true from e2) with⟨i,t,e4,e5⟩|⟨z',t,e4,e5⟩
   ·cases e4
   ·cases e4;exact⟨t,e5⟩
 have ah:Z.toList.length=ls.length:=by rw [Array.length_toList,U.1,aa]
 refine wpAny_bind (wpAny_newList ?_ (by rw [ah,uv];omega))
 have ad:(h'.push (seqObj "list" Z.toList.toArray 0)).get? h'.objs.size=some (seqObj "list" Z.toList.toArray 0):=uc _ rfl;refine wpAny_bind (wpAny_holding (vO slot_list_sort ⟨_,ad,rfl⟩ entry_list_sort (list_sort_treeK strKind_oneLt ad hS.keysOf (fun v₁ v₂ rest e=>keyKind_strs (by rw [<-e];exact hS)) (by omega) fun ai a1 a2=>⟨_,rfl,?_⟩) (args_list_sort _)))
 refine wpAny_pure ⟨_,rfl,?_⟩;obtain⟨ms,b1,b2,b3⟩:=sorted_out_str hS a1 a2;obtain⟨e,he⟩:=sortedHeap_at (out:=(arrOf ai).map (·.2)) ad;have aj:ms.length=ls.length:=b2.length_eq;intro htk;have I':Inv X pins σ H {s with heap:=h',toks:=tk}:=I.kept ag
 refine⟨.ref h'.objs.size,_,I'.laid (t':=tk) (o:= .lst (ms.map V.str)) (fun b u w=> ?_) (u8 _) ⟨?_,_,e,QB b1,he⟩,rfl,q ms _ b2 b3 (I'.hok.fresh (u8 _))⟩
 ·have hb:=uh w;rw [sortedHeap_old (uq hb) (by rw [size_push'];exact Ub hb)]
  exact u5 _ w
 ·rw [u1,aj,uv];omega
def Itd (d:Addr)(o:Obj):It:=
 ⟨fun i H=>∃kvs,H d=some (.frz o (.dK kvs))/\i<kvs.length,fun i H x H'=>H'=H/\∀kvs,H d=some (.frz o (.dK kvs))->(kvs.map fun p=>kV p.1)[i]? =some x,fun i H=>∃kvs,H d=some (.frz o (.dK kvs))/\kvs.length<=i⟩
theorem pairs_len {P:Program}{w:World}{es:List DictEntry}{kvs:List (Key×Value)}(h:Pairs (qz P w) es kvs):es.length=kvs.length:=h.length
theorem frz_at {P:Program}{w:World}{H:Hp}{h:Heap}{d:Addr}{o:Obj}{kvs:List (Key×V)}{es:Array DictEntry}{ep:Nat}(ok:HOk P w H h)(e:H d=some (.frz o (.dK kvs)))(hd:o.data= .dict es ep):
  (d==sysModules)=false/\∃vs,KV kvs vs/\h.DictAt (qz P w) d vs ep/\vs.length=es.size/\kvs.length<=sizeLine:=by
 obtain⟨Z,hz,lo,vs,r,o',es',aa,U,c1,c2,c3,c4,c5⟩:=(show qY P w H h d (.frz o (.dK kvs)) from ok d _ e)
 rw [Z] at U;cases U;rw [hd] at c2;cases c2;exact⟨lo,vs,r,⟨o,es,Z,c1,hd,c3,c4,c5⟩,by rw [<-Array.length_toList];exact(pairs_len c4).symm,hz⟩
theorem kV_rel {k:Key}{v:Value}(h:keyIs k v=true):RelV (kV k) v:=by
 rcases qK h with⟨i,t,rfl,rfl⟩|⟨z,t,rfl,rfl⟩
 ·exact⟨t,rfl⟩
 ·exact⟨t,rfl⟩
theorem turn_dict {P:Program}{w:World}{K:PySem.W.Frag}{tg:Expr}(d it:Addr){o:Obj}{es:Array DictEntry}{ep:Nat}(hd:o.data= .dict es ep):Turn P w K tg (Itd d o) [it] it (fun i h=>h.IsKeyIter it d i es.size ep) where
 mem:=by simp
 obj:=fun i h st b U=>by
  have e:b=it:=by simpa using U
  subst e;obtain⟨o,e,c,d⟩:=st;exact⟨o,e,fun v z=>by rw [d] at z;cases z⟩
 keep:=fun i h h' st k=>by
  obtain⟨o,e,c,dd⟩:=st;exact⟨o,k it (by simp) o e,c,dd⟩
 item:=by
  intro X hP hw hK hc i pins s σ H E I hf st hg;subst hP hw hK;obtain⟨kvs,hq,hx⟩:=hg;obtain⟨lo,vs,r,Z,hl,_⟩:=frz_at I.hok hq hd;have ae:=r.length;obtain⟨f0,f1,f2,f3,f4,f5⟩:=hf it (by simp)
  obtain⟨⟨k,v⟩,aa⟩:∃p,vs[i]? =some p:=⟨_,u4 (by omega)⟩
  refine wpAny_pyNext_dict_item (by rw [hl];exact st) Z aa fun af h' hk ac sb=> ?_
  have I1:Inv X pins σ H {s with heap:=h'}:=I.turned (t':=s.toks) (fun b o U e=>(sb.2 b U).trans e) f0 f1 f3 f4 f5
  obtain⟨oi,e,c,di⟩:=id ac;refine⟨af,rfl,go_of (s:={s with heap:=h'}) e c di (by decide) ⟨kV k,H,I1,kV_rel hk,⟨rfl,fun ag ad=> ?_⟩,by rw [<-hl];exact ac,fun b U=>(hf b U).1⟩⟩
  rw [hq] at ad;cases ad;have e3:(kvs.map (·.1))[i]? =some k:=by
   rw [r.keys,uk,aa]
   rfl
  rw [uk] at e3⊢;cases h4:kvs[i]? with
  |none=>rw [h4] at e3;cases e3
  |some p=>
   rw [h4] at e3;cases e3
   rfl
 done:=by
  intro X hP hw hK hc i pins s σ H E I hf st hg;subst hP hw hK;obtain⟨kvs,hq,hx⟩:=hg;obtain⟨lo,vs,r,Z,hl,_⟩:=frz_at I.hok hq hd;have ae:=r.length;obtain⟨f0,f1,f2,f3,f4,f5⟩:=hf it (by simp)
  exact wpAny_pyNext_dict_end (I.ok.hd hc) (by rw [hl];exact st) Z (List.getElem?_eq_none (by omega)) fun h' eb=>⟨rfl,I.turned (t':=s.toks) (fun b o U e=>eb b o U e) f0 f1 f3 f4 f5⟩
 self:=fun _ _ _ _ _ st h=>wpAny_pyIter_keyiter st h
def iDicF (tl:TE):TI:=fun σ H R=>tl σ H fun x H1=>∃d o kvs,x= .ref d/\H1 d=some (.frz o (.dK kvs))/\R (Itd d o) H1
theorem pi_dicF {tg l:Expr}{tl:TE}(hl:PE X l tl):PI X tg l (iDicF tl):=by
 intro pins s σ H R I h;refine thn (hl pins s σ H _ I h) fun v s1 ⟨x,H1,U,r1,q1⟩=> ?_;obtain⟨d,o,kvs,rfl,hq,q⟩:=q1;cases r1;obtain⟨ho,_,lo,vs,r,o',es,ep,Z,c1,c2,_⟩:=(show qY X.prog X.w H1 s1.heap d (.frz o (.dK kvs)) from U.hok d _ hq)
 rw [ho] at Z;cases Z;obtain⟨lo,vs,r,aa,hl,_⟩:=frz_at U.hok hq c2;refine wpAny_pyIter_dict lo aa ?_;refine⟨s1.heap.objs.size,[s1.heap.objs.size],_,_,H1,rfl,U.kept (t':=s1.toks) fun b o e=>u5 _ e,turn_dict d _ c2,⟨_,uc _ rfl,rfl,by rw [hl];rfl⟩,fun b hb=> ?_,q⟩
 have e:b=s1.heap.objs.size:=by simpa using hb
 subst e;exact U.fpOk (u8 _) (U.hok.fresh (u8 _))
end
end L2
namespace PySem.AwK
open PySem Builtin Builtin.ObjectAttr
theorem lk_keys:typeLookup (.type "list") "keys"=pure none:=by rw [typeLookup_type,Uq];kernel_rfl
section
variable {prog:Program}{w:World}{A:Around}{E:Value->Shared->Prop}{s:Shared}
theorem Xd:isSubtype (.type "AttributeError") (.type "AttributeError")=pure true:=by rw [isSubtype_type];kernel_rfl
theorem raise_attr {α:Type}{o:Value}{name Z:Str}{Q:α->Shared->Prop}(hh:A.handled=none)(hm:Z.length<=sizeLine)
  (hq:∀h' ad e,(∀b U,s.heap.get? b=some U->h'.get? b=some U)->(∃oe,h'.get? e=some oe/\oe.cls= .type "AttributeError")->E (.ref e) {s with heap:=h',toks:=ad}):
  wpAny (model prog w) A (raiseAttrError o name Z:Sem α) Q E s:=by
 unfold raiseAttrError;refine wpAny_bind (wpAny_mkStr (wpAny_bind ?_) hm);unfold newExc newTuple;refine wpAny_bind (uW ?_ (by show(1:Nat)<=sizeLine;rw [uv];decide))
 refine wpAny_bind (m:=firstArgMember _ _) (V8 (a:=Value.none) (by kernel_rfl) ?_)
 obtain⟨h1,ac⟩:∃h1,h1=s.heap.push {cls:= .type "tuple",data:= .seq #[Value.str Z s.toks]}:=⟨_,rfl⟩;have k1:∀b U,s.heap.get? b=some U->h1.get? b=some U:=fun b U e=>by rw [ac];exact u5 _ e
 show wpAny (model prog w) A (newObj (.type "AttributeError") (.fields #[.ref s.heap.objs.size,.none,.none,.none,.bool false,.none,unsetMember,unsetMember])) _ E {s with heap:=s.heap.push {cls:= .type "tuple",data:= .seq #[Value.str Z s.toks]},toks:=s.toks+1}
 rw [<-ac];refine uW ?_ (by unfold sizeOk;first|trivial|(rw [uv];simp)|decide)
 obtain⟨h2,aa⟩:∃h2,h2=h1.push {cls:= .type "AttributeError",data:= .fields #[.ref s.heap.objs.size,.none,.none,.none,.bool false,.none,unsetMember,unsetMember]}:=⟨_,rfl⟩;have k2:∀b U,h1.get? b=some U->h2.get? b=some U:=fun b U e=>by rw [aa];exact u5 _ e
 have e2:h2.get? h1.objs.size=some {cls:= .type "AttributeError",data:= .fields #[.ref s.heap.objs.size,.none,.none,.none,.bool false,.none,unsetMember,unsetMember]}:=by rw [aa];exact uc _ rfl
 show wpAny (model prog w) A (do let x<-mkText name;noteAttr (.ref h1.objs.size) o x;raiseNew (.ref h1.objs.size)) Q E {s with heap:=h1.push {cls:= .type "AttributeError",data:= .fields #[.ref s.heap.objs.size,.none,.none,.none,.bool false,.none,unsetMember,unsetMember]},toks:=s.toks+1}
 rw [<-aa];have ne:∀b U,h1.get? b=some U->b≠h1.objs.size:=fun b U e=>uq (uh e);generalize h1.objs.size=e at e2 ne⊢;refine wpAny_bind (wpAny_mkText (wpAny_bind ?_));have hT:∀g d t os,(⟨h2,g,d,t,os⟩:Shared).TypeIs (.ref e) "AttributeError":=fun _ _ _ _=>⟨_,e2,rfl⟩;unfold noteAttr lacksNameAndObj;refine wpAny_bind (wpAny_bind (Um (hT _ _ _ _) Xd ?_));simp only [US,ug,uU];refine wpAny_bind (wpAny_load e2 ?_);dsimp only;rw [if_neg (by simp [unsetMember,rawInt]),if_neg (by simp [unsetMember,doubtfulMember,rawInt])]
 refine wpAny_pure ?_;rw [if_pos rfl];refine wpAny_bind (wpAny_rule (wpAny_bind (wpAny_typeOf (hT _ _ _ _) ?_)));show wpAny (model prog w) A (layMembers e 6 #[Value.str name (s.toks+1),o]) _ E _;unfold layMembers;refine wpAny_bind (wpAny_load e2 ?_);dsimp only;refine wpAny_update e2 ?_;have e3:=Heap.get?_update_self (Obj.mapFields fun vs=>vs.extract 0 6++ #[Value.str name (s.toks+1),o]) e2 rfl;have k3:∀b U,b≠e->h2.get? b=some U->(h2.update e (Obj.mapFields fun vs=>vs.extract 0 6++ #[Value.str name (s.toks+1),o])).get? b=some U:=fun b U hb q=>(uB _ _ (Uu hb)).trans q;exact wpAny_raiseNew_none hh (hq _ _ e (fun b U q=>k3 b U (ne b U (k1 b U q)) (k2 b U (k1 b U q))) ⟨_,e3,rfl⟩)
end
section
variable {prog:Program}{w:World}{A:Around}{E:Value->Shared->Prop}{h:Heap}{g:Array GenState}{d:Drawn}{t:Nat}{os:OsState}{a:Addr}{its:Array Value}{n:Nat}{sl:Array (Option Value)}
theorem nk_entry {tk:Tok}{Q:Fin->Shared->Prop}(hh:A.handled=none)(hx:h.get? a=some {cls:= .type "list",dict:=none,data:= .seq its n,slots:=sl})
  (hq:∀h' U e,(∀b Z,h.get? b=some Z->h'.get? b=some Z)->(∃oe,h'.get? e=some oe/\oe.cls= .type "AttributeError")->E (.ref e) ⟨h',g,d,U,os⟩):
  wpAny (model prog w) A (Builtin.«object.__getattribute__» ⟨[.ref a,.str "keys" tk],[]⟩) Q E ⟨h,g,d,t,os⟩:=by
 have hT:(⟨h,g,d,t,os⟩:Shared).TypeIs (.ref a) "list":=⟨_,hx,rfl⟩;have f4:=lk_keys
 repeat (any_goals (first|assumption|wp_step))
 exact raise_attr hh (by rw [uv];decide+kernel) hq
theorem nk_call {tk:Tok}{R:Result->Shared->Prop}(hh:A.handled=none)(Z:h.get? a=some {cls:= .type "list",dict:=none,data:= .seq its n,slots:=sl})
  (hq:∀h' U e,(∀b ob,h.get? b=some ob->h'.get? b=some ob)->(∃oe,h'.get? e=some oe/\oe.cls= .type "AttributeError")->R (.error (.ref e)) ⟨h',g,d,U,os⟩):
  codeAny (model prog w) A (.call (.builtin "list.__getattribute__") ⟨[.ref a,.str "keys" tk],[]⟩) R ⟨h,g,d,t,os⟩:=
 codeAny_call_builtin F.slot_list_getattribute.plain F.entry_list_ga (F.slot_list_getattribute.check _ _ _ _ _ _ _ _ (show(⟨h,g,d,t,os⟩:Shared).TypeIs (.ref a) "list" from⟨_,Z,rfl⟩) (F.args_list_getattribute_2 _ _) (nk_entry hh Z hq))
theorem no_keys {Q:Option Value->Shared->Prop}(hh:A.handled=none)(Z:h.get? a=some {cls:= .type "list",dict:=none,data:= .seq its n,slots:=sl})
  (hq:∀h' U,(∀b ob,h.get? b=some ob->h'.get? b=some ob)->Q none ⟨h',g,d,U,os⟩):wpAny (model prog w) A (getAttr? (.ref a) "keys") Q E ⟨h,g,d,t,os⟩:=by
 have hT:∀t,(⟨h,g,d,t,os⟩:Shared).TypeIs (.ref a) "list":=fun t=>⟨_,Z,rfl⟩;unfold getAttr? getAttrBy?;refine wpAny_bind (wpAny_mkText (wpAny_bind (V7 ?_)));unfold getAttrBy;refine wpAny_holding (wpAny_bind (wpAny_typeOf (hT _) ?_));rw [F.slot_list_getattribute.lookup];refine wpAny_bind (wpAny_pure ?_);show wpAny (model prog w) A (getAttrByItsOwn (.ref a) _ (.type "list") (.builtin "list.__getattribute__") false false) _ _ _;unfold getAttrByItsOwn;refine wpAny_bind (m:=hookBefore _) (wpAny_pure ?_);refine wpAny_bind (V7 (wpAny_holding ?_));show wpAny (model prog w) A (boundAndCalled (.builtin "list.__getattribute__") (.ref a) _) _ _ _;unfold boundAndCalled;rw [F.slot_list_getattribute.bind];refine wpAny_bind (wpAny_pure (wpAny_call (nk_call hh Z fun h' U e k ⟨oe,e1,e2⟩=> ?_)));have hE:∀t,(⟨h',g,d,t,os⟩:Shared).TypeIs (.ref e) "AttributeError":=fun t=>⟨_,e1,e2⟩;show wpAny (model prog w) A (getattributeRaised (.ref a) _ (.type "list") (.ref e) none false false) _ _ ⟨h',g,d,U,os⟩;unfold getattributeRaised;refine wpAny_bind (Um (hE _) Xd ?_);rw [if_pos rfl];have lg:hookBehind (.type "list") none=pure none:=by
  show typeLookup (.type "list") "__getattr__"=pure none;rw [typeLookup_type,Uq]
  kernel_rfl
 rw [lg];refine wpAny_bind (wpAny_pure ?_);show wpAny (model prog w) A (attributeErrorLeaves (.ref a) _ (.ref e) false false) _ _ _;unfold attributeErrorLeaves;refine wpAny_throw ?_;refine wpAny_bind (Um (hE _) Xd ?_);rw [if_pos rfl];exact wpAny_pure (hq h' U k)
end
theorem J3:entryFor table "dict.update.loop"=some Builtin.«dict.update.loop»:=entryFor_of_fast (by kernel_rfl)
theorem yU:plainId "dict.update.loop"=true:=by decide+kernel
section
variable {prog:Program}{w:World}{A:Around}{E:Value->Shared->Prop}{K:Type}[DecidableEq K]{knd:KeyKind prog w K}
def Jw (cur:List (K×Value)):List (K×Value)->List (K×Value)
 | []=>cur
 |p::r=>Jw (stored cur p.1 p.2) r
structure PairAt (h:Heap)(d it:Addr)(v:Value)(p:K×Value):Prop where
 at_:∃(t:Addr) (o:Obj) (k:Value) (n:Nat),v= .ref t/\t≠d/\t≠it/\h.get? t=some o/\o.cls= .type "tuple"/\o.data= .seq #[k,p.2] n/\knd.is p.1 k=true
theorem pairs_loop (hh:A.handled=none){d it l:Addr}{items:Array Value}{ps:List (K×Value)}{R:Result->Shared->Prop}(ao:d≠l)(ap:it≠l)(aa:d≠it)(hn:items.size=ps.length)(hz:2*ps.length<=sizeLine)(res:Value):
  ∀(m i:Nat) (s:Shared) (cur:List (K×Value)),i+m=ps.length->s.heap.IsListIter it l i->s.heap.IsList l items->s.heap.DictOf knd d cur->cur.length<=i->
  (∀(j:Nat) (v:Value) (p:K×Value),items[j]? =some v->ps[j]? =some p->PairAt (knd:=knd) s.heap d it v p)->
  (∀h' ac,h'.DictOf knd d (Jw cur (ps.drop i))->(∀b o,b≠d->b≠it->s.heap.get? b=some o->h'.get? b=some o)->R (.ok (.ret res)) {s with heap:=h',toks:=ac})->
  codeAny (model prog w) A (.builtin "dict.update.loop" ⟨[.ref d,.ref it,rawInt i,res],[]⟩) R s:=by
 intro m
 induction m with
 |zero=>
  intro i s cur hm ad hl hd hc hp hR;refine vd J3 ?_;rw [uN yU _];show wpAny _ A.in1 (pyNext (.ref it)>>=_) _ _ s;refine wpAny_bind (wpAny_pyNext_list_end (A:=A.in1) hh ad hl (by rw [Array.getElem?_eq_none (by omega)]) fun h' eb=> ?_)
  have ae:h'.DictOf knd d cur:=by
   obtain⟨o,es,ep,ho,r⟩:=hd;exact⟨o,es,ep,eb d o aa ho,r⟩
  have:=hR h' s.toks (by rw [vX (by omega)];exact ae) fun b o Z U e=>eb b o U e
  show wpAny (model prog w) A.in1 (Dict.addKeywords d []>>=fun _=>ret res) _ _ _;refine wpAny_bind (m:=Dict.addKeywords d []) (wpAny_pure ?_);exact wpAny_pure this
 |succ m ih=>
  intro i s cur hm ad hl hd hc hp hR;refine vd J3 ?_;rw [uN yU _];have hi:i<items.size:=by omega
  have ag:i<ps.length:=by omega
  have hx:items[i]? =some items[i]:=uS hi;have aq:ps[i]? =some ps[i]:=u4 ag;obtain⟨t,o,k,n,ev,az,au,ho,av,aw,hk⟩:=(hp i _ _ hx aq).at_;rw [ev] at hx;show wpAny _ A.in1 (pyNext (.ref it)>>=_) _ _ s;refine wpAny_bind (wpAny_pyNext_list_item (A:=A.in1) ad hl hx fun h1 ah af=> ?_);have ai:h1.get? t=some o:=(af.2 t au).trans ho;have hT:(({s with heap:=h1}:Shared)).TypeIs (.ref t) "tuple":=⟨_,ai,av⟩
  have aj:h1.DictOf knd d cur:=hd.sameBut af aa;dsimp only;refine wpAny_bind (wpAny_holding (wpAny_bind (wpAny_tryCatch ?_)));unfold Dict.pairItems;refine wpAny_bind (wpAny_typeOf hT ?_);rw [if_pos (by decide)]
  refine wpAny_bind ?_;unfold seqItems?;refine wpAny_bind (wpAny_load ai ?_);rw [aw];refine wpAny_pure (wpAny_pure ?_);show wpAny (model prog w) A.in1 (holding [k,ps[i].2] (dictSet d k ps[i].2)) _ _ _;refine wpAny_holding (wpAny_dictSet_pairs hk aj (fun h2 ax ak=> ?_) (by omega))
  have al:h2.IsListIter it l (i+1):=by
   obtain⟨oi,e,c⟩:=ah;exact⟨oi,(ak.2 it (Uu aa)).trans e,c⟩
  have keep:∀b ob,b≠d->b≠it->s.heap.get? b=some ob->h2.get? b=some ob:=fun b ob Z U e=>(ak.2 b Z).trans ((af.2 b U).trans e);have ay:h2.IsList l items:=by
   obtain⟨ol,e,c⟩:=hl;exact⟨ol,keep l ol (Uu ao) (Uu ap) e,c⟩
  refine wpAny_pure ⟨vy yU _,?_⟩;have am:(stored cur ps[i].1 ps[i].2).length<=i+1:=by
   unfold stored;split
   ·rw [u1];omega
   ·rw [u7];show cur.length+1<=i+1;omega
  refine ih (i+1) _ _ (by omega) al ay ax am (fun j v p h1 h2=> ?_) fun h' ac ae kp=> ?_
  ·obtain⟨t',o',k',n',e1,e2,e3,e4,e5⟩:=(hp j v p h1 h2).at_;exact⟨⟨t',o',k',n',e1,e2,e3,keep t' o' e2 e3 e4,e5⟩⟩
  ·refine hR h' ac ?_ fun b ob Z U e=>kp b ob Z U (keep b ob Z U e);rw [uD ag];exact ae
theorem JU (hh:A.handled=none){s:Shared}{l:Addr}{items:Array Value}{n:Nat}{sl:Array (Option Value)}{ps:List (K×Value)}{Q:Value->Shared->Prop}(hl:s.heap.get? l=some {cls:= .type "list",dict:=none,data:= .seq items n,slots:=sl})(hn:items.size=ps.length)(hz:2*ps.length<=sizeLine)
  (hp:∀(j:Nat) (v:Value) (p:K×Value),items[j]? =some v->ps[j]? =some p->∃(t:Addr) (o:Obj) (k:Value) (n:Nat),v= .ref t/\s.heap.get? t=some o/\o.cls= .type "tuple"/\o.data= .seq #[k,p.2] n/\knd.is p.1 k=true)
  (hQ:∀h' ac,h'.DictOf knd s.heap.objs.size (Jw [] ps)->(∀b o,s.heap.get? b=some o->h'.get? b=some o)->Q (.ref s.heap.objs.size) {s with heap:=h',toks:=ac}):
  wpAny (model prog w) A (call (.type "dict") [.ref l]) Q E s:=by
 refine callType_codes (Q₁:=fun obj s₁=>obj= .ref s.heap.objs.size/\s₁={s with heap:=s.heap.push {cls:= .type "dict",data:= .dict #[]}}) F.kt_called_dict (F.kt_typeCall_dict_1 _) F.entry_dict_init (kt_code_dict_new _ ⟨rfl,rfl⟩) ?_
 rintro obj s₁ ⟨rfl,rfl⟩;have Z:(s.heap.push {cls:= .type "dict",data:= .dict #[]}).DictOf knd s.heap.objs.size []:=Heap.DictOf.new s.heap;refine⟨Z.typeIs,F.args_dict_init_2 _ _,?_⟩;unfold Builtin.«dict.__init__»;refine wpAny_bind ?_;unfold Builtin.Dict.selfAndRest;refine wpAny_bind (wpAny_notOrdered_dict Z.typeIs ?_);refine(show wpAny _ _ (pure (s.heap.objs.size,[Value.ref l])) _ _ _ from ?_)
 refine wpAny_pure ?_;refine(show wpAny _ _ (Builtin.Dict.updateFrom "dict.__init__" s.heap.objs.size (.ref l) [] .none) _ _ _ from ?_)
 unfold Builtin.Dict.updateFrom;have aa:(s.heap.push {cls:= .type "dict",data:= .dict #[]}).get? l=some {cls:= .type "list",dict:=none,data:= .seq items n,slots:=sl}:=u5 _ hl;refine wpAny_bind (wpAny_typeOf (T:="list") ⟨_,aa,rfl⟩ ?_);rw [if_pos (by decide)]
 refine wpAny_bind (no_keys (A:=A.in1.in1) hh aa fun h2 ak k2=> ?_);rw [if_pos (show(none:Option Value).isNone=true from rfl)]
 have ad:l<s.heap.objs.size:=uh hl;have af:h2.IsList l items:=⟨_,k2 _ _ aa,rfl,n,rfl⟩;refine wpAny_bind (wpAny_rule (wpAny_bind (Us af ?_)));have ae:h2.DictOf knd s.heap.objs.size []:=by
  obtain⟨o,es,ep,ho,r⟩:=Z;exact⟨o,es,ep,k2 _ _ ho,r⟩
 have U:s.heap.objs.size<h2.objs.size:=by
  obtain⟨o,es,ep,ho,r⟩:=ae;exact uh ho
 have k1:∀b o,s.heap.get? b=some o->h2.get? b=some o:=fun b o e=>k2 b o (u5 _ e);have k3:∀b o,h2.get? b=some o->(h2.push {cls:= .type "list_iterator",data:= .fields #[.ref l,.int 0 0]}).get? b=some o:=fun b o e=>u5 _ e;have ag:(h2.push {cls:= .type "list_iterator",data:= .fields #[.ref l,.int 0 0]}).IsList l items:=⟨_,k3 _ _ (k2 _ _ aa),rfl,n,rfl⟩;have ah:(h2.push {cls:= .type "list_iterator",data:= .fields #[.ref l,.int 0 0]}).DictOf knd s.heap.objs.size []:=ae.push _;refine wpAny_pure ⟨vy yU _,pairs_loop (A:=A.in1) hh (d:=s.heap.objs.size) (it:=h2.objs.size) (l:=l) (items:=items) (ps:=ps) (vR ad) (vR (Nat.lt_trans ad U)) (uq U) hn hz .none ps.length 0 _ [] (by omega) ⟨_,uc _ rfl,rfl,rfl⟩ ag ah (u8 _) (fun j v p h1 ai=> ?_) fun h' ac aj kp=> ?_⟩
 ·obtain⟨t,o,k,n',e1,e2,e3,e4,e5⟩:=hp j v p h1 ai;have ht:=uh e2;exact⟨⟨t,o,k,n',e1,uq ht,uq (Nat.lt_trans ht U),k3 _ _ (k1 _ _ e2),e3,e4,e5⟩⟩
 ·refine⟨rfl,hQ h' ac aj fun b o e=> ?_⟩;have hb:=uh e;exact kp b o (uq hb) (uq (Nat.lt_trans hb U)) (k3 _ _ (k1 _ _ e))
end
end PySem.AwK
namespace L2
open PySem PySem.Spec PyProof.Rows
section
variable {X:Cx}
def inrK (ps:List (Str×V)):List (Key×V):=ps.map fun p=>(Sum.inr p.1,p.2)
theorem jS (ps:List (Str×V)):(inrK ps).map (·.1)=(ps.map (·.1)).map Sum.inr:=by
 unfold inrK;rw [uC,uC]
 rfl
theorem stored_new {kvs:List (Key×Value)}{k:Key}{v:Value}(h:k∉kvs.map (·.1)):stored kvs k v=kvs++ [(k,v)]:=by
 unfold stored;rw [if_neg];intro q;obtain⟨p,U,e⟩:=List.any_eq_true.mp q;exact h (List.mem_map.mpr ⟨p,U,ur e⟩)
theorem J7:∀{ps cur:List (Key×Value)},((cur++ps).map (·.1)).Nodup->AwK.Jw cur ps=cur++ps
 | [],cur,_=>(vU cur).symm
 |p::r,cur,h=>by
  unfold AwK.Jw;have U:p.1∉cur.map (·.1):=by
   rw [ud,ui] at h;intro q;exact(List.nodup_append.mp h).2.2 _ q _ uo rfl
  rw [stored_new U,J7 (by rw [um];exact h),um]
  rfl
theorem jJ {P:Program}{w:World}{H:Hp}{h:Heap}(ok:HOk P w H h):∀{ts:List Addr}{ps:List (Str×V)},ts.length=ps.length->(∀(i:Nat) (t:Addr) (p:Str×V),ts[i]? =some t->ps[i]? =some p->H t=some (.tup [.str p.1,p.2]))->
  ∃pv:List (Key×Value),KV (inrK ps) pv/\∀(j:Nat) (v:Value) (p:Key×Value),(ts.map Value.ref)[j]? =some v->pv[j]? =some p->∃(t:Addr) (o:Obj) (k:Value) (n:Nat),v= .ref t/\h.get? t=some o/\o.cls= .type "tuple"/\o.data= .seq #[k,p.2] n/\(qz P w).is p.1 k=true
 | [],[],_,_=>⟨[],.nil,fun j v p e=>by simp at e⟩
 |t::ts,p::ps,hl,hp=>by
  obtain⟨pv,h1,h2⟩:=jJ ok (ts:=ts) (ps:=ps) (by simpa using hl) fun i t' p' U Z=>hp (i+1) t' p' (by simpa using U) (by simpa using Z)
  obtain⟨_,its,rv,o,ho,hc,n,hd⟩:=(show qY P w H h t (.tup [.str p.1,p.2]) from ok t _ (hp 0 t p rfl rfl))
  cases rv with
  |cons r1 rv=>
  cases rv with
  |cons r2 rv=>
  cases rv with
  |nil=>
  obtain⟨tk,rfl⟩:=r1
  rename_i u
  refine⟨(Sum.inr p.1,u)::pv,.cons ⟨rfl,r2⟩ h1,fun j v q U Z=> ?_⟩;cases j with
  |zero=>
   simp only [ui,List.getElem?_cons_zero,Option.some.injEq] at U Z;subst U Z;exact⟨t,o,_,n,rfl,ho,hc,hd,jO _ _ _ _⟩
  |succ j=>exact h2 j v q (by simpa using U) (by simpa using Z)
 | [],_::_,hl,_=>by simp at hl
 |_::_,[],hl,_=>by simp at hl
def PairsL (H:Hp)(l:Addr)(ps:List (Str×V)):Prop:=∃ts:List Addr,H l=some (.lst (ts.map V.ref))/\ts.length=ps.length/\∀(i:Nat) (t:Addr) (p:Str×V),ts[i]? =some t->ps[i]? =some p->H t=some (.tup [.str p.1,p.2])
theorem dict_of {pins:List (Addr×Obj)}{σ:St}{H:Hp}{s:Shared}{l:Addr}{ps:List (Str×V)}{Q:Value->Shared->Prop}(hc:X.calm=true)(I:Inv X pins σ H s)(hl:PairsL H l ps)(hn:(ps.map (·.1)).Nodup)(hz:ps.length<=1000)
  (h:∀h' U pv,0<U->(∀b o,s.heap.get? b=some o->h'.get? b=some o)->KV (inrK ps) pv->h'.DictOf (qz X.prog X.w) s.heap.objs.size pv->Q (.ref s.heap.objs.size) {s with heap:=h',toks:=U}):
  wpAny (model X.prog X.w) X.A (call (.type "dict") [.ref l]) Q X.xe s:=by
 obtain⟨ts,e1,e2,e3⟩:=hl;obtain⟨_,its,n,rv,ho⟩:=(show qY X.prog X.w H s.heap l (.lst (ts.map V.ref)) from I.hok l _ e1)
 cases jK rv;obtain⟨pv,r,hp⟩:=jJ I.hok e2 e3;have ad:pv.length=ps.length:=by
  rw [<-r.length];unfold inrK;rw [u1]
 have aa:(pv.map (·.1)).Nodup:=by
  rw [<-r.keys,jS];exact List.Pairwise.map _ (fun a b ac e=>ac (Sum.inr.inj e)) hn
 refine ux (n:=1) I.tk ?_;refine AwK.JU (knd:=qz X.prog X.w) (I.ok.hd hc) (ps:=pv) ho (by rw [ub,u1];omega) (by rw [uv];omega) (fun j v p h1 h2=>hp j v p (by simpa using h1) h2) fun h' U Z kp=> ?_
 rw [J7 (by simpa using aa),List.nil_append] at Z
 exact fun htk=>h h' U pv htk kp r Z
theorem call_dictP (hc:X.calm=true):Qn X (.type "dict") (fun xs H Q=>∃(l:Addr) (ps:List (Str×V)),xs= [.ref l]/\PairsL H l ps/\(ps.map (·.1)).Nodup/\ps.length<=1000/\∀q,H q=none->Q (.ref q) (upd H q (.dK (inrK ps)))):=by
 intro pins s σ H xs us Q I r h;obtain⟨l,ps,rfl,hl,hn,hz,q⟩:=h;obtain⟨u,rfl,ru⟩:=QX r;cases ru;refine dict_of hc I hl hn hz fun h' ac pv htk kp U dd=> ?_;have Z:(s.heap.objs.size==sysModules)=false:=by
  rw [vV];exact vR I.big
 have aa:(inrK ps).length<=sizeLine:=by unfold inrK;rw [u1,uv];omega
 exact⟨.ref s.heap.objs.size,_,I.laid kp (u8 _) (JY aa Z U dd),rfl,q _ I.fresh⟩
theorem call_dictF (hc:X.calm=true):Qn X (.type "dict") (fun xs H Q=>∃(l:Addr) (ps:List (Str×V)),xs= [.ref l]/\PairsL H l ps/\(ps.map (·.1)).Nodup/\ps.length<=1000/\∀q o,H q=none->Q (.ref q) (upd H q (.frz o (.dK (inrK ps))))):=by
 intro pins s σ H xs us Q I r h;obtain⟨l,ps,rfl,hl,hn,hz,q⟩:=h;obtain⟨u,rfl,ru⟩:=QX r;cases ru;refine dict_of hc I hl hn hz fun h' ac pv htk kp U dd=> ?_;have Z:(s.heap.objs.size==sysModules)=false:=by
  rw [vV];exact vR I.big
 have aa:(inrK ps).length<=sizeLine:=by unfold inrK;rw [u1,uv];omega
 obtain⟨o,es,ep,ho,rr⟩:=id dd;exact⟨.ref s.heap.objs.size,_,I.laid (o:= .frz o (.dK (inrK ps))) kp (u8 _) ⟨ho,JY aa Z U dd⟩,rfl,q _ o I.fresh⟩
end
mutual
def puD:D->Bool
 | .str _=>true
 | .int _=>true
 | .tup xs=>puL xs
 |_=>false
def puL:List D->Bool
 | []=>true
 |x::r=>puD x&&puL r
end
mutual
def eqD:D->D->Bool
 | .str a,.str b=>a==b
 | .int a,.int b=>a==b
 | .tup xs,.tup ys=>eqL xs ys
 |_,_=>false
def eqL:List D->List D->Bool
 | [],[]=>true
 |x::r,y::q=>eqD x y&&eqL r q
 |_,_=>false
end
mutual
theorem xy:∀{d e:D},puD d=true->(eqD d e=true↔d=e)
 | .str a,e,_=>by cases e<;>simp [eqD]
 | .int a,e,_=>by cases e<;>simp [eqD]
 | .tup xs,.tup ys,h=>by
  have:=eqL_iff (xs:=xs) (ys:=ys) (by simpa [puD] using h)
  simp only [eqD,this,D.tup.injEq]
 | .tup xs,.non,_=>by simp [eqD]
 | .tup xs,.bl _,_=>by simp [eqD]
 | .tup xs,.int _,_=>by simp [eqD]
 | .tup xs,.str _,_=>by simp [eqD]
 | .tup xs,.lst,_=>by simp [eqD]
 | .tup xs,.dct,_=>by simp [eqD]
 | .non,_,h=>by simp [puD] at h
 | .bl _,_,h=>by simp [puD] at h
 | .lst,_,h=>by simp [puD] at h
 | .dct,_,h=>by simp [puD] at h
theorem eqL_iff:∀{xs ys:List D},puL xs=true->(eqL xs ys=true↔xs=ys)
 | [],[],_=>by simp [eqL]
 | [],_::_,_=>by simp [eqL]
 |_::_,[],_=>by simp [eqL]
 |x::r,y::q,h=>by
  have h':puD x=true/\puL r=true:=by simpa [puL] using h
  simp only [eqL,uO,xy h'.1,eqL_iff h'.2,vz]
end
mutual
theorem Is.det {H:Hp}:∀{d e:D}{v:V},puD d=true->puD e=true->Is H d v->Is H e v->d=e
 | .str a,e,v,_,he,h1,h2=>by
  obtain⟨rfl,_⟩:=(show v= .str a/\_ from h1)
  cases e with
  |str b=>obtain⟨q,_⟩:=(show V.str a=V.str b/\_ from h2);cases q;rfl
  |int b=>cases(show V.str a=V.int b from h2)
  |tup ys=>obtain⟨p,us,q,_⟩:=(show∃p us,V.str a=V.ref p/\_ from h2);cases q
  |_=>simp [puD] at he
 | .int a,e,v,_,he,h1,h2=>by
  cases(show v= .int a from h1)
  cases e with
  |str b=>obtain⟨q,_⟩:=(show V.int a=V.str b/\_ from h2);cases q
  |int b=>cases(show V.int a=V.int b from h2);rfl
  |tup ys=>obtain⟨p,us,q,_⟩:=(show∃p us,V.int a=V.ref p/\_ from h2);cases q
  |_=>simp [puD] at he
 | .tup xs,e,v,hd,he,h1,h2=>by
  obtain⟨p,vs,rfl,hp,hl⟩:=(show∃p vs,v=V.ref p/\H p=some (.tup vs)/\IsL H xs vs from h1)
  cases e with
  |str b=>obtain⟨q,_⟩:=(show V.ref p=V.str b/\_ from h2);cases q
  |int b=>cases(show V.ref p=V.int b from h2)
  |tup ys=>
   obtain⟨Z,us,q,U,aa⟩:=(show∃Z us,V.ref p=V.ref Z/\H Z=some (.tup us)/\IsL H ys us from h2)
   cases q;rw [hp] at U;cases U;rw [IsL.det (by simpa [puD] using hd) (by simpa [puD] using he) hl aa]
  |_=>simp [puD] at he
 | .non,_,_,hd,_,_,_=>by simp [puD] at hd
 | .bl _,_,_,hd,_,_,_=>by simp [puD] at hd
 | .lst,_,_,hd,_,_,_=>by simp [puD] at hd
 | .dct,_,_,hd,_,_,_=>by simp [puD] at hd
theorem IsL.det {H:Hp}:∀{xs ys:List D}{vs:List V},puL xs=true->puL ys=true->IsL H xs vs->IsL H ys vs->xs=ys
 | [],[],_,_,_,_,_=>rfl
 | [],_::_,_,_,_,h1,h2=>by
  cases(show _= [] from h1)
  obtain⟨v,r,q,_⟩:=(show∃v r,[]=v::r/\_ from h2)
  cases q
 |_::_,[],_,_,_,h1,h2=>by
  cases(show _= [] from h2)
  obtain⟨v,r,q,_⟩:=(show∃v r,[]=v::r/\_ from h1)
  cases q
 |x::xs,y::ys,_,hd,he,h1,h2=>by
  obtain⟨v,r,rfl,a1,a2⟩:=h1;obtain⟨v',r',q,b1,b2⟩:=h2;cases q;have U:puD x=true/\puL xs=true:=by simpa [puL] using hd
  have Z:puD y=true/\puL ys=true:=by simpa [puL] using he
  rw [Is.det U.1 Z.1 a1 b1,IsL.det U.2 Z.2 a2 b2]
end
theorem eqL_all:∀(xs ys:List D),eqL xs ys=((List.range (min xs.length ys.length)).all (fun j=>eqD (xs.getD j .non) (ys.getD j .non))&&xs.length==ys.length)
 | [],[]=>by simp [eqL]
 | [],_::_=>by simp [eqL]
 |_::_,[]=>by simp [eqL]
 |x::r,y::q=>by
  have U:=eqL_all r q;rw [uz,uz,show min (r.length+1) (q.length+1)=min r.length q.length+1 by omega,List.range_succ_eq_map,vv,UI]
  have e:(List.range (min r.length q.length)).all ((fun j=>eqD ((x::r).getD j .non) ((y::q).getD j .non))∘Nat.succ)=(List.range (min r.length q.length)).all fun j=>eqD (r.getD j .non) (q.getD j .non):=by congr 1
  rw [e];have Z:(r.length+1==q.length+1)=(r.length==q.length):=by rw [vq];simp
  rw [Z,Bool.and_assoc,<-U]
  rfl
section
variable {X:Cx}{pins:List (Addr×Obj)}{σ:St}{H:Hp}{s:Shared}
theorem eqAt_str (I:Inv X pins σ H s){z:Str}{t:Tok}{e:D}{u:V}{b:Value}{A:Around}(Z:puD e=true)(h2:Is H e u)(U:RelV u b)(hu:A.units<cLine):SeqAt.EqAt A s (.str z t) b (eqD (.str z) e):=by
 cases e with
 |str y=>
  obtain⟨rfl,_⟩:=(show u= .str y/\_ from h2)
  obtain⟨t2,rfl⟩:=U;exact SeqAt.EqAt.str_str _ _ _ _
 |int y=>
  cases(show u= .int y from h2)
  obtain⟨t2,rfl⟩:=U;exact UO _ _ _ _
 |tup ys=>
  obtain⟨p,us,rfl,hp,hl⟩:=(show∃p us,u=V.ref p/\H p=some (.tup us)/\IsL H ys us from h2)
  cases U;obtain⟨its,_,q,_⟩:=I.tuple (.inl (.of hp));exact SeqAt.EqAt.str_tuple _ _ q hu
 |_=>simp [puD] at Z
theorem eqAt_int (I:Inv X pins σ H s){z:Int}{t:Tok}{e:D}{u:V}{b:Value}{A:Around}(Z:puD e=true)(h2:Is H e u)(U:RelV u b)(hu:A.units<cLine):SeqAt.EqAt A s (.int z t) b (eqD (.int z) e):=by
 cases e with
 |str y=>
  obtain⟨rfl,_⟩:=(show u= .str y/\_ from h2)
  obtain⟨t2,rfl⟩:=U;exact UN _ _ _ _
 |int y=>
  cases(show u= .int y from h2)
  obtain⟨t2,rfl⟩:=U;exact SeqAt.EqAt.int_int _ _ _ _
 |tup ys=>
  obtain⟨p,us,rfl,hp,hl⟩:=(show∃p us,u=V.ref p/\H p=some (.tup us)/\IsL H ys us from h2)
  cases U;obtain⟨its,_,q,_⟩:=I.tuple (.inl (.of hp));exact SeqAt.EqAt.int_tuple _ _ q hu
 |_=>simp [puD] at Z
theorem Ji:∀{xs:List D}{j:Nat}{x:D},puL xs=true->xs[j]? =some x->puD x=true
 | [],_,_,_,e=>by simp at e
 |y::r,0,x,h,e=>by
  have h':puD y=true/\puL r=true:=by simpa [puL] using h
  have:y=x:=by simpa using e
  exact this▸h'.1
 |y::r,j+1,x,h,e=>by
  have h':puD y=true/\puL r=true:=by simpa [puL] using h
  exact Ji h'.2 (by simpa using e)
theorem eqAt_tup (I:Inv X pins σ H s){xs:List D}{e:D}{v u:V}{a b:Value}{A:Around}(hd:puD (.tup xs)=true)(he:puD e=true)(h1:Is H (.tup xs) v)(h2:Is H e u)(r1:RelV v a)(r2:RelV u b)(hu:A.units<cLine)
  (ih:∀x∈xs,∀(e:D) (v u:V) (a b:Value),puD x=true->puD e=true->Is H x v->Is H e u->RelV v a->RelV u b->SeqAt.EqAt A.in1 s a b (eqD x e)):SeqAt.EqAt A s a b (eqD (.tup xs) e):=by
 obtain⟨p,vs,rfl,hp,hl⟩:=(show∃p vs,v=V.ref p/\H p=some (.tup vs)/\IsL H xs vs from h1)
 cases r1;obtain⟨its,rv,q,_⟩:=I.tuple (.inl (.of hp));cases e with
 |str y=>
  obtain⟨rfl,_⟩:=(show u= .str y/\_ from h2)
  obtain⟨t2,rfl⟩:=r2;exact SeqAt.EqAt.tuple_str _ _ q hu
 |int y=>
  cases(show u= .int y from h2)
  obtain⟨t2,rfl⟩:=r2;exact SeqAt.EqAt.tuple_int _ _ q hu
 |tup ys=>
  by_cases hv:V.ref p=u
  ·have:=Is.det (e:= .tup ys) hd he h1 (hv▸h2);subst hv;cases r2;rw [<-this,(xy hd).mpr rfl];exact SeqAt.EqAt.same _
  ·obtain⟨p',us,rfl,aa,U⟩:=(show∃p' us,u=V.ref p'/\H p'=some (.tup us)/\IsL H ys us from h2)
   cases r2;obtain⟨its',Z,q',_⟩:=I.tuple (.inl (.of aa));have l1:its.length=xs.length:=by rw [<-rv.length,hl.length]
   have l2:its'.length=ys.length:=by rw [<-Z.length,U.length]
   have ac:puL xs=true:=by simpa [puD] using hd
   have ad:puL ys=true:=by simpa [puD] using he
   have ae:=UY (e:=fun j=>eqD (xs.getD j .non) (ys.getD j .non)) q q' hu fun j a1 a2=>by
    have j1:j<xs.length:=by rw [<-l1];simpa using a1
    have j2:j<ys.length:=by rw [<-l2];simpa using a2
    obtain⟨v1,e1,i1⟩:=hl.get (i:=j) (d:=xs[j]) (by simp [j1])
    obtain⟨v2,e2,i2⟩:=U.get (i:=j) (d:=ys[j]) (by simp [j2])
    obtain⟨b1,f1,g1⟩:=rv.get e1;obtain⟨b2,f2,g2⟩:=Z.get e2;have k1:its.toArray[j]=b1:=by
     have:=f1;rw [u4 (by rw [l1];exact j1)] at this
     simpa using this
    have k2:its'.toArray[j]=b2:=by
     have:=f2;rw [u4 (by rw [l2];exact j2)] at this
     simpa using this
    have d1:xs.getD j .non=xs[j]:=by simp [List.getD,j1]
    have d2:ys.getD j .non=ys[j]:=by simp [List.getD,j2]
    show SeqAt.EqAt _ s _ _ (eqD (xs.getD j .non) (ys.getD j .non));rw [k1,k2,d1,d2];exact ih _ (uj j1) _ _ _ _ _ (Ji (j:=j) ac (by simp [j1])) (Ji (j:=j) ad (by simp [j2])) i1 i2 g1 g2
   have e1:eqD (.tup xs) (.tup ys)=((List.range (min its.toArray.size its'.toArray.size)).all (fun j=>eqD (xs.getD j .non) (ys.getD j .non))&&its.toArray.size==its'.toArray.size):=by
    rw [ub,ub,l1,l2,<-eqL_all];simp only [eqD]
   rw [e1];exact SeqAt.EqAt.of_refs (fun z=>hv (by rw [z])) ae
 |_=>simp [puD] at he
theorem eqAt_D (I:Inv X pins σ H s):∀(n:Nat) (d e:D) (v u:V) (a b:Value) (A:Around),dp d<=n->puD d=true->puD e=true->Is H d v->Is H e u->RelV v a->RelV u b->A.units+n<cLine->SeqAt.EqAt A s a b (eqD d e):=by
 intro n
 induction n with
 |zero=>
  intro d e v u a b A hn hd Z h1 h2 r1 r2 hu;cases d with
  |int z=>
   cases(show v= .int z from h1)
   obtain⟨t,rfl⟩:=r1;exact eqAt_int I Z h2 r2 hu
  |str z=>simp [dp] at hn
  |tup xs=>simp [dp] at hn
  |_=>simp [puD] at hd
 |succ n ih=>
  intro d e v u a b A hn hd Z h1 h2 r1 r2 hu;have U:A.units<cLine:=vL (Nat.le_add_right _ _) hu;cases d with
  |int z=>
   cases(show v= .int z from h1)
   obtain⟨t,rfl⟩:=r1;exact eqAt_int I Z h2 r2 U
  |str z=>
   obtain⟨rfl,_⟩:=(show v= .str z/\_ from h1)
   obtain⟨t,rfl⟩:=r1;exact eqAt_str I Z h2 r2 U
  |tup xs=>
   have hm:dpL xs<=n:=by
    have:dp (.tup xs)=1+dpL xs:=by simp only [dp]
    omega
   exact eqAt_tup I hd Z h1 h2 r1 r2 U fun x hx e v u a b k1 k2 k3 k4 k5 k6=>ih x e v u a b A.in1 ((ji xs).mp hm x hx) k1 k2 k3 k4 k5 k6 (by rw [uI];omega)
  |_=>simp [puD] at hd
end
section
variable {X:Cx}
def trD:D->Bool
 | .str _=>true
 | .tup xs=>puL xs
 |_=>false
theorem trD_pu {d:D}(h:trD d=true):puD d=true:=by
 cases d<;>simp_all [trD,puD]
theorem parts_eq {pins:List (Addr×Obj)}{σ:St}{H:Hp}{s:Shared}(I:Inv X pins σ H s){A:Around}{n:Nat}{xs ys:List D}{vs us:List V}{its its':List Value}(hn:dpL xs<=n)(hd:puL xs=true)(he:puL ys=true)(hl:IsL H xs vs)(U:IsL H ys us)(rv:Vals vs its)(Z:Vals us its')(hu:A.units+n<cLine):
  ∀j (a1:j<its.toArray.size) (a2:j<its'.toArray.size),SeqAt.EqAt A s its.toArray[j] its'.toArray[j] (eqD (xs.getD j .non) (ys.getD j .non)):=fun j a1 a2=>by
 have l1:its.length=xs.length:=by rw [<-rv.length,hl.length]
 have l2:its'.length=ys.length:=by rw [<-Z.length,U.length]
 have j1:j<xs.length:=by rw [<-l1];simpa using a1
 have j2:j<ys.length:=by rw [<-l2];simpa using a2
 obtain⟨v1,e1,i1⟩:=hl.get (i:=j) (d:=xs[j]) (by simp [j1])
 obtain⟨v2,e2,i2⟩:=U.get (i:=j) (d:=ys[j]) (by simp [j2])
 obtain⟨b1,f1,g1⟩:=rv.get e1;obtain⟨b2,f2,g2⟩:=Z.get e2;have k1:its.toArray[j]=b1:=by
  have:=f1;rw [u4 (by rw [l1];exact j1)] at this
  simpa using this
 have k2:its'.toArray[j]=b2:=by
  have:=f2;rw [u4 (by rw [l2];exact j2)] at this
  simpa using this
 have d1:xs.getD j .non=xs[j]:=by simp [List.getD,j1]
 have d2:ys.getD j .non=ys[j]:=by simp [List.getD,j2]
 rw [k1,k2,d1,d2];exact eqAt_D I n _ _ _ _ _ _ A ((ji xs).mp hn _ (uj j1)) (Ji (j:=j) hd (by simp [j1])) (Ji (j:=j) he (by simp [j2])) i1 i2 g1 g2 hu
theorem rc_D {pins:List (Addr×Obj)}{σ:St}{H:Hp}{s:Shared}(I:Inv X pins σ H s){A:Around}{d e:D}{x y:V}{v u:Value}(h1:Is H d x)(h2:Is H e y)(p1:trD d=true)(p2:trD e=true)(hn:dp d<=60)(rx:RelV x v)(ry:RelV y u)(hu:A.units+64<cLine):
  SeqAt.RcAt A s v u (eqD d e)/\SeqAt.RcNeAt A s v u (!eqD d e):=by
 have U:A.units<cLine:=by omega
 cases d with
 |str z=>
  obtain⟨rfl,_⟩:=(show x= .str z/\_ from h1)
  obtain⟨t,rfl⟩:=rx;cases e with
  |str w=>
   obtain⟨rfl,_⟩:=(show y= .str w/\_ from h2)
   obtain⟨t2,rfl⟩:=ry;exact⟨SeqAt.RcAt.str_str _ _ _ _,SeqAt.RcNeAt.str_str _ _ _ _⟩
  |tup ys=>
   obtain⟨p,us,rfl,hp,hl⟩:=(show∃p us,y=V.ref p/\H p=some (.tup us)/\IsL H ys us from h2)
   cases ry;obtain⟨its,_,q,_⟩:=I.tuple (.inl (.of hp));exact⟨SeqAt.RcAt.str_tuple _ _ q U,SeqAt.RcNeAt.str_tuple _ _ q U⟩
  |_=>simp [trD] at p2
 |tup xs=>
  obtain⟨p,vs,rfl,hp,hl⟩:=(show∃p vs,x=V.ref p/\H p=some (.tup vs)/\IsL H xs vs from h1)
  cases rx;obtain⟨its,rv,q,_⟩:=I.tuple (.inl (.of hp));cases e with
  |str w=>
   obtain⟨rfl,_⟩:=(show y= .str w/\_ from h2)
   obtain⟨t2,rfl⟩:=ry;exact⟨SeqAt.RcAt.tuple_str _ _ q U,SeqAt.RcNeAt.tuple_str _ _ q U⟩
  |tup ys=>
   obtain⟨p',us,rfl,ac,Z⟩:=(show∃p' us,y=V.ref p'/\H p'=some (.tup us)/\IsL H ys us from h2)
   cases ry;obtain⟨its',aa,q',_⟩:=I.tuple (.inl (.of ac));have hm:dpL xs<=60:=by
    have:dp (.tup xs)=1+dpL xs:=by simp only [dp]
    omega
   have l1:its.length=xs.length:=by rw [<-rv.length,hl.length]
   have l2:its'.length=ys.length:=by rw [<-aa.length,Z.length]
   have pe:=parts_eq I (A:=A.in1) hm (by simpa [trD] using p1) (by simpa [trD] using p2) hl Z rv aa (by rw [uI];omega)
   have e1:eqD (.tup xs) (.tup ys)=((List.range (min its.toArray.size its'.toArray.size)).all (fun j=>eqD (xs.getD j .non) (ys.getD j .non))&&its.toArray.size==its'.toArray.size):=by
    rw [ub,ub,l1,l2,<-eqL_all];simp only [eqD]
   rw [e1];exact⟨UY q q' U pe,SeqAt.RcNeAt.tuples q q' U pe⟩
  |_=>simp [trD] at p2
 |_=>simp [trD] at p1
def rCmpD (g:Bool->Bool):V->V->Hp->VK->Prop:=fun x y H Q=>∃d e:D,Is H d x/\Is H e y/\trD d=true/\trD e=true/\dp d<=60/\Q (.bl (g (eqD d e))) H
theorem op_eqD (U:X.A.units+64<cLine):OpR X (compareOp .Eq) (rCmpD id):=by
 intro pins s σ H x y v u Q I Z ry h;obtain⟨d,e,h1,h2,p1,p2,hn,q⟩:=h;exact(rc_D I h1 h2 p1 p2 hn Z ry U).1 X.prog X.w X.xe _ ⟨.bl _,H,I,rfl,q⟩
theorem op_neD (U:X.A.units+64<cLine):OpR X (compareOp .NotEq) (rCmpD not):=by
 intro pins s σ H x y v u Q I Z ry h;obtain⟨d,e,h1,h2,p1,p2,hn,q⟩:=h;exact(rc_D I h1 h2 p1 p2 hn Z ry U).2 X.prog X.w X.xe _ ⟨.bl _,H,I,rfl,q⟩
end
theorem call_lenZ {X:Cx}:Qn X (.builtin "len") (fun xs H Q=>(∃z:Str,xs= [.str z]/\z.length<=sizeLine/\Q (.int z.length) H)∨∃p ys,xs= [.ref p]/\(SqL X.K H p ys∨SqT X.K H p ys)/\(ys.length<=sizeLine->Q (.int ys.length) H)):=by
 intro pins s σ H xs us Q I r h;rcases h with⟨z,e,hz,q⟩|h
 ·exact yL pins s σ H xs us Q I r ⟨_,z.length,e,⟨hz,rfl⟩,q⟩
 ·exact call_lenB pins s σ H xs us Q I r h
end L2
namespace L2
open PySem PyProof.Rows
theorem Tk.updD {H:Hp}{p:Addr}{xs ys:List (Key×V)}(h:H p=some (.dK xs)):Tk H (upd H p (.dK ys)):=by
 refine⟨fun b zs e=> ?_,fun b zs e=>⟨zs,?_⟩,fun b zs e=> ?_⟩
 ·rw [ql (fun z=>by rw [z,h] at e;cases e)];exact e
 ·rw [ql (fun z=>by rw [z,h] at e;cases e)];exact e
 ·by_cases z:b=p
  ·exact⟨ys,by rw [z];exact qd⟩
  ·exact⟨zs,by rw [ql z];exact e⟩
theorem Tk.updI {H:Hp}{p C dx Z U:Addr}{xs ys:List (Str×V)}(h:H p=some (.ins C dx xs)):Tk H (upd H p (.ins Z U ys)):=
 ⟨fun b zs e=>by rw [ql (fun z=>by rw [z,h] at e;cases e)];exact e,fun b zs e=>⟨zs,by rw [ql (fun z=>by rw [z,h] at e;cases e)];exact e⟩,fun b zs e=>⟨zs,by rw [ql (fun z=>by rw [z,h] at e;cases e)];exact e⟩⟩
section
variable {X:Cx}
def rStarts:V->List V->Hp->VK->Prop:=fun x vs H Q=>∃z y:Str,x= .str z/\vs= [.str y]/\Q (.bl (Txt.startswith z y)) H
theorem mt_starts:MtM X "str.startswith" rStarts:=by
 intro pins s σ H x vs v us Q I U Z h;obtain⟨z,y,rfl,rfl,q⟩:=h;obtain⟨t,rfl⟩:=U;obtain⟨u,rfl,t',rfl⟩:=Z.one;exact SC.startswith ⟨.bl (Txt.startswith z y),H,I,rfl,q⟩
end
theorem lc_dicF {d A:Addr}{o:Obj}{H1:Hp}{tc:TT}{te:TE}{tl:St}{Q:VK}{kvs:List (Key×V)}{ls:List Str}(p:Str->Bool)(f:Str->V)(hd:H1 d=some (.frz o (.dK kvs)))(hk:kvs.map (·.1)=ls.map Sum.inr)(hn:ls.length<=sizeLine)(hA:H1 A=none)
  (aa:∀z H (R:Bool->Hp->Prop),z∈ls->Same H1 H->R (p z) H->tc (some (.str z)::tl) H R)
  (ac:∀z H (R:VK),z∈ls->Same H1 H->R (f z) H->te (some (.str z)::tl) H R)
  (hQ:∀H',Same H1 H'->H' A=some (.lst ((ls.filter p).map f))->Q (.ref A) H'):lcGo A (Itd d o) (QH 0) tc te (none::tl) H1 Q:=by
 have ae:kvs.length=ls.length:=by
  have:=congrArg List.length hk
  simpa using this
 refine⟨ls.length,fun i σ ys H=>(∃w,σ=w::tl)/\ys=((ls.take i).filter p).map f/\Same H1 H,hn,⟨⟨none,rfl⟩,rfl,qe hA _⟩,?_,?_⟩
 ·rintro i σ ys H hi ⟨⟨w,rfl⟩,rfl,U⟩ Z hy;refine⟨⟨kvs,U _ _ hd,by omega⟩,?_⟩
  rintro x H' ⟨rfl,hx⟩;have e:=hx kvs (U _ _ hd);have e2:(kvs.map fun p=>kV p.1)[i]? =some (V.str ls[i]):=by
   have:(kvs.map fun p=>kV p.1)=(kvs.map (·.1)).map kV:=by rw [uC];rfl
   rw [this,hk,uC,uk,u4 hi]
   rfl
  rw [e2] at e;cases e;have et:ls.take (i+1)=ls.take i++ [ls[i]]:=by rw [ut,u4 hi];rfl
  have ad:∀ys,Same H1 (upd H' A (.lst ys)):=fun ys b o' e=>by
   rw [ql (qh e hA)];exact U _ _ e
  dsimp only [QH,List.set];refine aa ls[i] H' _ (uj hi) U ?_;cases hp:p ls[i] with
  |true=>
   refine iteT (ac ls[i] H' _ (uj hi) U ⟨Z,⟨_,rfl⟩,?_,ad _⟩);rw [et,vA,ud];simp [hp]
  |false=>
   refine iteF ⟨Z,⟨_,rfl⟩,?_,U⟩;rw [et,vA,ud];simp [hp]
 ·rintro σ ys H ⟨_,rfl,U⟩ Z;rw [uP] at Z;exact⟨⟨kvs,U _ _ hd,by omega⟩,hQ H U Z⟩
theorem lc_strs {K:PySem.W.Frag}{a A:Addr}{H1:Hp}{te:TE}{tl:St}{Q:VK}{ls:List Str}(C:Nat->List V->Hp->Prop)(ha:H1 a=some (.lst (ls.map V.str)))(hn:ls.length<=sizeLine)(hA:H1 A=none)(h0:C 0 [] (upd H1 A (.lst [])))
  (ac:∀i z ys H,ls[i]? =some z->C i ys H->H A=some (.lst ys)->H a=some (.lst (ls.map V.str))->ys.length<=i->∀R:VK,(∀y Z,Z A=some (.lst ys)->Z a=some (.lst (ls.map V.str))->C (i+1) (ys++ [y]) (upd Z A (.lst (ys++ [y])))->R y Z)->te (some (.str z)::tl) H R)
  (hQ:∀ys H,C ls.length ys H->H A=some (.lst ys)->Q (.ref A) H):lcGo A (Itl K a) (QH 0) tYes te (none::tl) H1 Q:=by
 have aa:a≠A:=qh ha hA;refine⟨ls.length,fun i σ ys H=>(∃w,σ=w::tl)/\C i ys H/\H a=some (.lst (ls.map V.str)),hn,⟨⟨none,rfl⟩,h0,by rw [ql aa];exact ha⟩,?_,?_⟩
 ·rintro i σ ys H hi ⟨⟨w,rfl⟩,hc,hl⟩ U hy;have e0:(ls.map V.str)[i]? =some (V.str ls[i]):=by rw [uk,u4 hi];rfl
  refine⟨⟨_,_,SqL.of hl,e0⟩,?_⟩;rintro x H' ⟨rfl,hx⟩;have e:=hx _ (SqL.of hl);rw [e0] at e;cases e;dsimp only [QH,tYes,List.set];rw [if_pos rfl];exact ac i ls[i] ys H' (u4 hi) hc U hl hy _ fun y Z h4 h5 c4=>⟨h4,⟨_,rfl⟩,c4,by rw [ql aa];exact h5⟩
 ·rintro σ ys H ⟨_,hc,hl⟩ U;exact⟨⟨_,SqL.of hl,by simp⟩,hQ ys H hc U⟩
section
variable {X:Cx}{K:PySem.W.Frag}{o e:Expr}{es:List Expr}{to:TE}{t:TA}{name:Str}{apos cpos:Pos}{T id:String}{r:V->List V->Hp->VK->Prop}
theorem pe_bmK (hK:X.K=K)(pa:PlainAttrs T)(slot:Slot T name id)(ad:typeOf (.builtin id)=pure (.type "method_descriptor"))(hm:MtR X id r)(ho:PE X o to)(ha:PA X (e::es) t)
  (Z:attributeBase o name X.env (eval o X.env)=eval o X.env:=by rfl)
  (ac:((backTo cpos (starEach (e::es) X.env)).all (fun x=> !x.1)&&(backToKw cpos (keywordEach [] X.env)).all (fun x=>x.1.isSome)
   &&decide ((e::es).length+([]:List Keyword).length+(if([]:List Keyword).isEmpty then 0 else 1)<30))=true:=by rfl)
  (aa:(apos.endLine==cpos.line)=true:=by rfl) (hs:starEach (e::es) X.env=(false,eval e X.env)::starEach es X.env:=by rfl) (U:(backTo cpos (starEach es X.env)).any (·.1)=false:=by rfl):
  PE X (.Call (.Attribute o name apos) (e::es) [] cpos) (tBM K T r to t):=by
 subst hK;exact pe_bm pa slot ad hm ho ha Z ac aa hs U
end
section
variable {X:Cx}
theorem Y9 (hc:X.calm=true):Qn X (.type "list") (fun xs H Q=>∃(d:Addr) (kvs:List (Key×V)),xs= [.ref d]/\Rd H d (.dK kvs)/\∀l,H l=none->Q (.ref l) (upd H l (.lst (kvs.map fun p=>kV p.1)))):=by
 intro pins s σ H xs us Q I r h;obtain⟨d,kvs,rfl,hd,q⟩:=h;obtain⟨u,rfl,ru⟩:=QX r;cases ru;obtain⟨hz,lo,vs,Z,dd⟩:=YU I.hok hd;obtain⟨o,es,ep,ho⟩:=id dd;have aa:s.heap.DictAt (qz X.prog X.w) d vs ep:=⟨o,es,ho⟩;refine ux (n:=1) I.tk ?_;refine PySem.W.kdl_call (PySem.W.kdl_dict lo) (I.ok.hd hc) aa (by rw [<-Z.length];exact hz) fun h' tk ac c ad hS U=> ?_
 intro htk;refine⟨.ref s.heap.objs.size,_,I.laid (t':=tk) (o:= .lst (kvs.map fun p=>kV p.1)) ad (u8 _) ⟨by rw [u1];exact hz,ac.toList,c,?_,by rw [Array.toArray_toList];exact hS⟩,rfl,q _ (I.hok.fresh (u8 _))⟩
 refine jC (by rw [u1,Z.length,Array.length_toList];exact U.1.symm) fun j x v hx hv=> ?_
 obtain⟨k,y,e1,e2⟩:=U.2 j v (by rw [<-vo];exact hv)
 have e3:(kvs.map (·.1))[j]? =some k:=by
  rw [Z.keys,uk,e1]
  rfl
 have e4:(kvs.map fun p=>kV p.1)=(kvs.map (·.1)).map kV:=by rw [uC];rfl
 rw [e4,uk,e3] at hx;cases hx;exact kV_rel e2
theorem Inv.laidM {pins:List (Addr×Obj)}{σ:St}{H H':Hp}{s:Shared}{h':Heap}{t':Nat}(I:Inv X pins σ H s)(k:∀b u,s.heap.get? b=some u->h'.get? b=some u)(U:Same H H')
  (Z:∀b o,H b=none->H' b=some o->s.heap.objs.size<=b/\qY X.prog X.w H' h' b o) (ht:0<t'):Inv X pins σ H' {s with heap:=h',toks:=t'}:=by
 refine I.un ⟨fun b u q _ _ _=>k b u q,fun b u q _ _ _=>⟨u.slots,k b u q⟩,fun b u q n _=> ?_,fun b u q _=>⟨u,k b u q⟩,fun b xs q=>U _ _ q,fun b u xs q=>U _ _ q,fun b ps q=>⟨#[],by rw [U _ _ q];simp⟩⟩ (fun b u e=> ?_) ht
 ·cases e:H' b with
  |none=>rfl
  |some o=>
   exact absurd (uh q) (Nat.not_lt.mpr (Z b o n e).1)
 ·cases q:H b with
  |none=>exact(Z b u q e).2
  |some o=>
   rw [U _ _ q] at e;cases e;exact(I.hok b _ q).stay (fun c v _ z=>k c v z) (fun c z=>U _ _ z) fun c xs z=>U _ _ z
end
section
variable {prog:Program}{w:World}{A:Around}{E:Value->Shared->Prop}{s:Shared}
theorem tuple_by {r:Addr}{T:String}{Q:Value->Shared->Prop}{G:List Value->Shared->Prop}(aa:T="dict_items"∨T="list_reverseiterator")(ac:s.TypeIs (.ref r) T)
  (Z:∀(R:List Value->Shared->Prop) (E':Value->Shared->Prop),(∀vs s',G vs s'->R vs s')->wpAny (model prog w) A.in1.in1 (collect (.ref r)) R E' s)
  (hQ:∀vs s',G vs s'->vs.length<=sizeLine/\Q (.ref s'.heap.objs.size) {s' with heap:=s'.heap.push {cls:= .type "tuple",data:= .seq vs.toArray}}):
  wpAny (model prog w) A (call (.type "tuple") [.ref r]) Q E s:=by
 have new:codeAny (model prog w) A.in1 (.call (.builtin "tuple.__new__") ⟨[.type "tuple",.ref r],[]⟩) (wants (fun obj U=>U.TypeIs obj "tuple"/\Q obj U) E) s:=by
  refine codeAny_of_tree ?_;show wpAny _ A.in1.in1 (do checkBuiltinCall "tuple.__new__" ⟨[.type "tuple",.ref r],[]⟩;again (.builtin "tuple.__new__" ⟨[.type "tuple",.ref r],[]⟩)) _ _ s
  refine wpAny_bind (V8 (PySem.F.newCall_tuple_1 _) (wpAny_pure ⟨vy PySem.F.plain_tuple_new _,vd PySem.F.entry_tuple_new ?_⟩));rw [uN PySem.F.plain_tuple_new _];have ae:=sub_tuple_self;have ad:=init_tuple_lookup;have af:=madeHere_tuple;rcases aa with rfl|rfl
  all_goals
   wp_walk using wpAny_typeOf ac,Z
   intro vs s' hg;obtain⟨hl,hq⟩:=hQ vs s' hg;show wpAny _ _ (Builtin.Tuple.tupleExact vs.toArray>>=fun v=>ret v) _ _ _;unfold Builtin.Tuple.tupleExact;refine wpAny_bind (uW ?_ (by show vs.toArray.size<=sizeLine;simpa using hl))
   refine wpAny_pure ?_;exact⟨⟨_,uc _ rfl,rfl⟩,hq⟩
 refine callType_codes (Q₁:=fun obj U=>U.TypeIs obj "tuple"/\Q obj U) PySem.F.called_tuple (PySem.F.typeCall_tuple_1 _) PySem.F.entry_object_init new fun obj U h₁=> ?_;exact⟨h₁.1,PySem.F.args_object_init_2 obj _,object_init_meets PySem.F.called_tuple.init.lookup PySem.F.called_tuple.made (by decide) prog w A.in1 _ U ⟨h₁.1,rfl,h₁.2⟩⟩
end
def addT (ps:List (Addr×List V))(H:Hp):Hp:=ps.foldl (fun h p=>upd h p.1 (.tup p.2)) H
theorem YD:∀(ps:List (Addr×List V)) (H:Hp) (b:Addr),b∉ps.map (·.1)->addT ps H b=H b
 | [],_,_,_=>rfl
 |p::r,H,b,h=>by
  show addT r (upd H p.1 (.tup p.2)) b=_;rw [YD r _ b (fun m=>h (ue _ m)),ql (fun e=>h (by rw [e];exact uo ..))]
theorem addT_at:∀(ps:List (Addr×List V)) (H:Hp) (p:Addr×List V),(ps.map (·.1)).Nodup->p∈ps->addT ps H p.1=some (.tup p.2)
 | [],_,_,_,h=>nomatch h
 |q::r,H,p,hn,h=>by
  have U:=List.nodup_cons.mp hn;show addT r (upd H q.1 (.tup q.2)) p.1=_;rcases List.mem_cons.mp h with rfl|h
  ·rw [YD r _ _ U.1,qd]
  ·exact addT_at r _ p U.2 h
def YZ (H:Hp)(kvs:List (Key×V))(ts:List Addr):Prop:=ts.length=kvs.length/\∀(j:Nat) (t:Addr) (p:Key×V),ts[j]? =some t->kvs[j]? =some p->H t=some (.tup [kV p.1,p.2])
def tItems (mk:List V->HO)(to:TE):TE:=fun σ H Q=>to σ H fun x H1=>∃(d:Addr) (kvs:List (Key×V)),x= .ref d/\Rd H1 d (.dK kvs)/\∀(t:Addr) (ts:List Addr) (H2:Hp),Same H1 H2->H1 t=none->H2 t=some (mk (ts.map V.ref))->YZ H2 kvs ts->Q (.ref t) H2
theorem Jr {α β:Type}:∀{as:List α}{bs:List β},as.length=bs.length->(as.zip bs).map (·.1)=as
 | [],[],_=>rfl
 |a::as,b::bs,h=>by
  rw [List.zip_cons_cons,ui,Jr (by simpa using h)]
theorem paired_at {α β:Type}{F:α->β->Prop}:∀{U:List α}{Z:List β},Paired F U Z->∀{j:Nat}{a:α}{b:β},U[j]? =some a->Z[j]? =some b->F a b
 |_,_,.nil,j,a,b,h,_=>by simp at h
 |_,_,.cons f r,0,a,b,h1,h2=>by
  cases h1;cases h2;exact f
 |_,_,.cons f r,j+1,a,b,h1,h2=>paired_at r (j:=j) (by simpa using h1) (by simpa using h2)
section
variable {X:Cx}{pins:List (Addr×Obj)}{σ:St}{H:Hp}{s:Shared}
theorem xp {r t:Addr}{kvs:List (Key×V)}{vs:List (Key×Value)}{as:List Addr}{h1 h2:Heap}{tk:Nat}{o:HO}(I:Inv X pins σ H s)(U:KV kvs vs)(k2:∀b u,s.heap.get? b=some u->h2.get? b=some u)(hl:as.length=vs.length)(hz:s.heap.objs.size<=r)
  (hG:PySem.W.KdxG (qz X.prog X.w) vs r h1 as) (ac:∀a∈as,∀u,h1.get? a=some u->h2.get? a=some u) (ht:s.heap.objs.size<=t) (ad:t∉as) (hu:∃u,o=u) (htk:0<tk)
  (new:∀H',Same H H'->YZ H' kvs as->qY X.prog X.w H' h2 t o):
  ∃H',Inv X pins σ H' {s with heap:=h2,toks:=tk}/\Same H H'/\H t=none/\H' t=some o/\YZ H' kvs as:=by
 have hn:as.Nodup:=hG.rise.imp fun h=>uq h;have hf:∀a∈as,H a=none:=fun a ha=>I.hok.fresh (uG hz (vm (hG.above a ha)));have aa:H t=none:=I.hok.fresh ht;have ag:kvs.length=vs.length:=U.length
 let ps:List (Addr×List V):=as.zip (kvs.map fun p=> [kV p.1,p.2])
 have ef:ps.map (·.1)=as:=Jr (by rw [u1];omega)
 have ae:Same H (addT ps H):=fun b u e=>by
  rw [YD ps H b (by rw [ef];exact fun m=>by rw [hf b m] at e;cases e)]
  exact e
 have sm:Same H (upd (addT ps H) t o):=fun b u e=>by
  rw [ql (qh e aa)];exact ae _ _ e
 have it:YZ (upd (addT ps H) t o) kvs as:=by
  refine⟨by omega,fun j a p h3 h4=> ?_⟩
  have ma:=uK h3;rw [ql (fun e=>ad (by rw [<-e];exact ma))]
  refine addT_at ps H (a,[kV p.1,p.2]) (by rw [ef];exact hn) ?_
  refine uK (i:=j) ?_;show(as.zip (kvs.map fun p=> [kV p.1,p.2]))[j]? =_;rw [List.getElem?_zip_eq_some];exact⟨h3,by rw [uk,h4];rfl⟩
 refine⟨upd (addT ps H) t o,I.laidM k2 sm (fun b u e1 e2=> ?_) htk,sm,aa,qd,it⟩;by_cases hb:b=t
 ·subst hb;rw [qd] at e2;cases e2;exact⟨ht,new _ sm it⟩
 ·rw [ql hb] at e2;have mb:b∈as:=by
   refine UA fun m=> ?_;rw [YD ps H b (by rw [ef];exact m),e1] at e2
   cases e2
  refine⟨uG hz (vm (hG.above b mb)),?_⟩;obtain⟨j,hj⟩:=List.mem_iff_getElem?.mp mb;obtain⟨af,kk,x,f1,f2,f3⟩:=hG.pairs j b hj;have Z:j<kvs.length:=by
   have:=(List.getElem?_eq_some_iff.mp f1).1;omega
  have e5:=it.2 j b kvs[j] hj (u4 Z);rw [ql hb,e2] at e5;cases e5;have q1:kvs[j].1=kk:=by
   have:(kvs.map (·.1))[j]? =some kk:=by rw [U.keys,uk,f1];rfl
   rw [uk,u4 Z] at this;exact uQ this
  have q2:RelV kvs[j].2 x:=by
   exact(paired_at U (u4 Z) f1).2
  refine⟨by show 2<=sizeLine;decide,[af,x],.cons (by rw [q1];exact kV_rel f2) (.cons q2 .nil),⟨_,ac b mb _ f3,rfl,_,rfl⟩⟩
theorem J0 {o:Expr}{to:TE}{apos cpos:Pos}{R:Value->Shared->Prop}{Q:VK}(ho:PE X o to)(I:Inv X pins σ H s)(U:attributeBase o "items" X.env (eval o X.env)=eval o X.env)(Z:(apos.endLine==cpos.line)=true)
  (h:to σ H Q)
  (k:∀(s1:Shared) (H1:Hp) (x:V),Inv X pins σ H1 s1->Q x H1->∃(d:Addr) (kvs:List (Key×V)),x= .ref d/\Rd H1 d (.dK kvs)/\R (.ref s1.heap.objs.size) {s1 with heap:=s1.heap.push {cls:= .type "dict_items",data:= .fields #[.ref d]}}):
  wpAny (model X.prog X.w) X.A (eval (.Call (.Attribute o "items" apos) [] [] cpos) X.env) R X.xe s:=by
 refine wpAny_Call_method0_late U Z (thn (ho pins s σ H _ I h) fun v s1 ⟨x,H1,I1,r1,q⟩=> ?_);obtain⟨d,kvs,ex,hd,q2⟩:=k s1 H1 x I1 q;subst ex;cases r1;obtain⟨hz,lo,vs,ac,dd⟩:=YU I1.hok hd;have aa:∀a,Value.ref d= .ref a->∃ob,s1.heap.get? a=some ob/\ob.dict=none:=dict_noDict I1 (y:=kV (Sum.inl 0)) (.inl ⟨kvs,Sum.inl 0,hd,rfl,rfl⟩);exact⟨"dict","dict.items",Ui,PySem.F.slot_dict_items,PySem.F.type_dict_items,dd.typeIs,aa,vC rfl (PySem.evalArgs_none (V3 PySem.F.slot_dict_items dd.typeIs PySem.F.entry_dict_items (PySem.F.args_dict_items_1 _) (meets_dict_items (qz X.prog X.w) d lo) ⟨⟨vs,dd⟩,q2⟩))⟩
theorem Yj {x:Str}{o:Expr}{to:TE}{p pos apos cpos:Pos}(hc:X.calm=true)(hg:Gl X x)(hm:X.mg x=none)(hv:bootBuiltins x=some (.type "tuple"))(ho:PE X o to)(hn:x≠"__name__":=by decide)(ad:(x==("__debug__":Str))=false:=by decide)
  (Z:attributeBase o "items" X.env (eval o X.env)=eval o X.env:=by rfl) (aa:(apos.endLine==cpos.line)=true:=by rfl)
  (he:starEach [.Call (.Attribute o "items" apos) [] [] cpos] X.env=(false,eval (.Call (.Attribute o "items" apos) [] [] cpos) X.env)::starEach [] X.env:=by rfl) (ae:(backTo pos (starEach [] X.env)).any (·.1)=false:=by rfl):
  PE X (.Call (.Name x p) [.Call (.Attribute o "items" apos) [] [] cpos] [] pos) (tItems .tup to):=by
 intro pins s σ H Q I h;refine vt (JD I hg hm hv ?_ hn ad);refine vT ?_ he ae;rw [he];show wpAny _ _ (spliced ((false,eval (.Call (.Attribute o "items" apos) [] [] cpos) X.env)::backTo pos (starEach [] X.env))) _ _ s;refine vK (J0 ho I Z aa h ?_);rintro s1 H1 x I1 ⟨d,kvs,rfl,hd,q⟩;refine⟨d,kvs,rfl,hd,U9 ?_⟩;obtain⟨hz,lo,vs,ac,dd⟩:=YU I1.hok hd;obtain⟨o,es,ep,ho⟩:=id dd;have af:s1.heap.DictAt (qz X.prog X.w) d vs ep:=⟨o,es,ho⟩;have U:(s1.heap.push {cls:= .type "dict_items",data:= .fields #[.ref d]}).IsItemsView s1.heap.objs.size d:=⟨_,uc _ rfl,rfl,rfl⟩;refine ux (n:=1) I1.tk ?_;refine tuple_by (G:=fun us s'=>∃(h':Heap) (tk:Nat) (as:List Addr),us=as.map Value.ref/\s'={s1 with heap:=h',toks:=tk}/\(∀b o,(s1.heap.push {cls:= .type "dict_items",data:= .fields #[.ref d]}).get? b=some o->h'.get? b=some o)/\as.length=vs.length/\PySem.W.KdxG (qz X.prog X.w) vs (s1.heap.push {cls:= .type "dict_items",data:= .fields #[.ref d]}).objs.size h' as)
  (.inl rfl) U.typeIs (fun R E' k=>PySem.W.kdx_collect (s:={s1 with heap:=s1.heap.push {cls:= .type "dict_items",data:= .fields #[.ref d]}}) (knd:=qz X.prog X.w) (kvs:=vs) (ep:=ep) (A:=X.A.in1.in1) (I1.ok.hd hc) U (af.push _) (by rw [<-ac.length];exact hz) fun h' tk as k1 k2 k3=>k _ _ ⟨h',tk,as,rfl,rfl,k1,k2,k3⟩) ?_
 rintro us s' ⟨h',tk,as,rfl,rfl,k1,k2,k3⟩;have aj:=ac.length;refine⟨by rw [u1];omega,fun htk=> ?_⟩
 have hsz:s1.heap.objs.size<=(s1.heap.push {cls:= .type "dict_items",data:= .fields #[.ref d]}).objs.size:=by rw [uY];exact Nat.le_succ _
 have k0:∀b u,s1.heap.get? b=some u->h'.get? b=some u:=fun b u e=>k1 b u (u5 _ e);have ag:∀a∈as,a<h'.objs.size:=fun a ha=>k3.there ha;have hsz2:s1.heap.objs.size<=h'.objs.size:=by
  have:=uh (k1 _ _ (uc s1.heap (o:={cls:= .type "dict_items",data:= .fields #[.ref d]}) rfl));exact vm this
 have ah:∀l:List Addr,Vals (l.map V.ref) (l.map Value.ref):=by
  intro l
  induction l with
  |nil=>exact .nil
  |cons a r ih=>exact .cons rfl ih
 obtain⟨H2,I2,sm,tn,ai,it⟩:=xp (h2:=h'.push {cls:= .type "tuple",data:= .seq (as.map Value.ref).toArray}) (t:=h'.objs.size) (o:= .tup (as.map V.ref)) (tk:=tk) I1 ac (fun b u e=>u5 _ (k0 b u e)) k2 hsz k3 (fun a _ u e=>u5 _ e) hsz2 (fun m=>vp _ (ag _ m)) ⟨_,rfl⟩ htk (fun H' _ _=>⟨by rw [u1];omega,as.map Value.ref,ah as,⟨_,uc _ rfl,rfl,_,rfl⟩⟩)
 exact⟨.ref h'.objs.size,H2,I2,rfl,q _ as H2 sm tn ai it⟩
end
def okHd:D->Bool
 | .non=>true
 |d=>trD d
section
variable {X:Cx}
def rEqM:V->V->Hp->VK->Prop:=fun x y H Q=>∃(d:D) (z:Str),Is H d x/\y= .str z/\z.length<=1000/\okHd d=true/\dp d<=60/\Q (.bl (eqD d (.str z))) H
theorem op_eqM (hu:X.A.units+64<cLine):OpR X (compareOp .Eq) rEqM:=by
 intro pins s σ H x y v u Q I U Z h;obtain⟨d,z,hd,rfl,hz,hk,hp,q⟩:=h;cases d with
 |non=>
  cases(show x= .non from hd)
  exact yF pins s σ H .non (.str z) v u Q I U Z ⟨rfl,by simpa [eqD] using q⟩
 |str a=>exact op_eqD hu pins s σ H x _ v u Q I U Z ⟨_,.str z,hd,⟨rfl,by rw [uv];omega⟩,hk,rfl,hp,q⟩
 |tup a=>exact op_eqD hu pins s σ H x _ v u Q I U Z ⟨_,.str z,hd,⟨rfl,by rw [uv];omega⟩,hk,rfl,hp,q⟩
 |_=>simp [okHd,trD] at hk
def rInM (K:PySem.W.Frag):V->V->Hp->VK->Prop:=fun x y H Q=>∃(d:D) (p:Addr) (ls:List Str),Is H d x/\y= .ref p/\(SqL K H p (ls.map V.str)∨SqT K H p (ls.map V.str))/\(∀z∈ls,z.length<=1000)/\okHd d=true/\dp d<=60/\Q (.bl (ls.any fun z=>eqD d (.str z))) H
theorem flat_ss (us:List Str):(us.map V.str).all JI=true:=by
 rw [UI,UC];exact fun _ _=>rfl
theorem op_inM (hu:X.A.units+64<cLine):OpR X (compareOp .In) (rInM X.K):=by
 intro pins s σ H x y v u Q I rx ry h;obtain⟨d,p,ls,hd,rfl,U,ac,hk,hp,q⟩:=h;cases d with
 |non=>
  cases(show x= .non from hd)
  refine jN pins s σ H .non _ v u Q I rx ry ⟨p,_,rfl,U,rfl,flat_ss _,?_⟩;have e:inV .non (ls.map V.str)=ls.any fun z=>eqD .non (.str z):=by
   unfold inV;rw [List.any_map]
   rfl
  rw [if_neg uf,e];exact q
 |str a=>
  obtain⟨rfl,_⟩:=hd;refine jN pins s σ H _ _ v u Q I rx ry ⟨p,_,rfl,U,rfl,flat_ss _,?_⟩;have e:inV (.str a) (ls.map V.str)=ls.any fun z=>eqD (.str a) (.str z):=by
   unfold inV;rw [List.any_map];refine congrArg (fun f=>ls.any f) (funext fun z=> ?_);show(z==a)=(a==z);rw [vq,UX,UX];exact eq_comm
  rw [if_neg uf,e];exact q
 |tup xs=>
  have e:(ls.any fun z=>eqD (.tup xs) (.str z))=false:=by
   rw [List.any_eq_false];intro z _;simp [eqD]
  rw [e] at q;obtain⟨pa,vs,rfl,ha,hl⟩:=hd;cases rx;cases ry;obtain⟨ad,ae,af,_⟩:=I.tuple (.inl (.of ha));have ag:X.A.units<cLine:=by omega
  have Z:∀{its:List Value},Vals (ls.map V.str) its->∀w∈its,∀A:Around,A.units+1<cLine->SeqAt.EqAt A s w (.ref pa) false:=by
   intro its r w hw A hA;obtain⟨j,hj⟩:=List.mem_iff_getElem?.mp hw;have aa:j<ls.length:=by
    have:=(List.getElem?_eq_some_iff.mp hj).1;have:=r.length;rw [u1] at this;omega
   obtain⟨u',e1,e2⟩:=r.get (i:=j) (x:=V.str ls[j]) (by rw [uk,u4 aa];rfl)
   rw [hj] at e1;cases e1;have:=eqAt_D I 1 (.str ls[j]) (.tup xs) (.str ls[j]) (.ref pa) _ (.ref pa) A (by simp [dp]) rfl (by simpa [okHd,trD,puD] using hk) ⟨rfl,by have:=ac _ (uj aa);rw [uv];omega⟩ ⟨pa,vs,rfl,ha,hl⟩ e2 rfl (by omega)
   simpa [eqD] using this
  rcases U with U|U
  ·obtain⟨its,r,pl,hz⟩:=I.list U;refine SeqAt.in_listAt (fun _=>false) pl.isList (fun w hw=>Z r w (by simpa using hw) _ ?_) ⟨.bl _,H,I,rfl,?_⟩
   ·first|omega|(rw [uI];omega)|(rw [uI,uI];omega)|(rw [uI,uI,uI];omega)
   ·rw [show its.toArray.any (fun _=>false)=false by rw [List.any_toArray];exact List.any_eq_false.mpr fun _ _=>uf]
    exact q
  ·obtain⟨its,r,pl,hz⟩:=I.tuple U;refine SeqAt.in_tupleAt (fun _=>false) pl (fun w hw=>Z r w (by simpa using hw) _ ?_) ⟨.bl _,H,I,rfl,?_⟩
   ·first|omega|(rw [uI];omega)|(rw [uI,uI];omega)|(rw [uI,uI,uI];omega)
   ·rw [show its.toArray.any (fun _=>false)=false by rw [List.any_toArray];exact List.any_eq_false.mpr fun _ _=>uf]
    exact q
 |_=>simp [okHd,trD] at hk
end
end L2
namespace L2
open PySem PySem.Spec PyProof.Rows
mutual
def nD:D->Bool
 | .non=>true
 | .str _=>true
 | .int _=>true
 | .tup xs=>nL xs
 |_=>false
def nL:List D->Bool
 | []=>true
 |x::r=>nD x&&nL r
end
theorem nL_get:∀{xs:List D}{j:Nat}{x:D},nL xs=true->xs[j]? =some x->nD x=true
 | [],_,_,_,e=>by simp at e
 |y::r,0,x,h,e=>by
  have h':nD y=true/\nL r=true:=by simpa [nL] using h
  have:y=x:=by simpa using e
  exact this▸h'.1
 |y::r,j+1,x,h,e=>by
  have h':nD y=true/\nL r=true:=by simpa [nL] using h
  exact nL_get h'.2 (by simpa using e)
section
variable {X:Cx}{pins:List (Addr×Obj)}{σ:St}{H:Hp}{s:Shared}
theorem all_true (n:Nat):(List.range n).all (fun _=>true)=true:=by simp
theorem call_dictC (hc:X.calm=true):Qn X (.type "dict") (fun xs H Q=>∃(d:Addr) (kvs:List (Key×V)),xs= [.ref d]/\H d=some (.dK kvs)/\∀q,H q=none->Q (.ref q) (upd H q (.dK kvs))):=by
 intro pins s σ H xs us Q I r h;obtain⟨d,kvs,rfl,hd,q⟩:=h;obtain⟨u,rfl,ru⟩:=QX r;cases ru;obtain⟨hz,aa,vs,kv,dd⟩:=I.hok d _ hd;have U:vs.length<=sizeLine:=by rw [<-V5 kv];exact hz
 refine kt_call_dict aa dd U fun h' ac ad=> ?_;have Z:(s.heap.objs.size==sysModules)=false:=by
  rw [vV];exact vR I.big
 have kp:∀b o,s.heap.get? b=some o->h'.get? b=some o:=fun b o e=>(ad.2 b (uq (uh e))).trans (u5 _ e);exact⟨.ref s.heap.objs.size,_,I.laid (t':=s.toks) kp (u8 _) (JY hz Z kv ac),rfl,q _ I.fresh⟩
theorem op_neNil (hu:X.A.units+64<cLine):OpR X (compareOp .NotEq) (fun x y H Q=>∃a b xs,x= .ref a/\y= .ref b/\SqT X.K H a xs/\SqT X.K H b []/\Q (.bl (!xs.isEmpty)) H):=by
 intro pins s σ H x y v u Q I rx ry h;obtain⟨p,p',xs,rfl,rfl,hp,U,q0⟩:=h;cases rx;cases ry;obtain⟨its,rv,q,_⟩:=I.tuple hp;obtain⟨its',Z,q',_⟩:=I.tuple U;cases Z;have e2:=SeqAt.RcNeAt.tuples (A:=X.A) (e:=fun _=>true) q q' (by omega) fun j h1 h2=>absurd h2 (by simp)
 refine e2 X.prog X.w X.xe _ ⟨.bl _,H,I,?_,q0⟩;have l1:=rv.length;show Value.bool (!((List.range (min its.toArray.size 0)).all (fun _=>true)&&its.toArray.size==0))=Value.bool (!xs.isEmpty);rw [all_true,ub,<-l1];cases xs<;>rfl
mutual
def eqN:D->D->Bool
 | .non,.non=>true
 | .str a,.str b=>a==b
 | .int a,.int b=>a==b
 | .tup xs,.tup ys=>eqNL xs ys
 |_,_=>false
def eqNL:List D->List D->Bool
 | [],[]=>true
 |x::r,y::q=>eqN x y&&eqNL r q
 |_,_=>false
end
mutual
theorem eqN_iff:∀{d e:D},nD d=true->(eqN d e=true↔d=e)
 | .non,e,_=>by cases e<;>simp [eqN]
 | .str a,e,_=>by cases e<;>simp [eqN]
 | .int a,e,_=>by cases e<;>simp [eqN]
 | .tup xs,.tup ys,h=>by
  have:=eqNL_iff (xs:=xs) (ys:=ys) (by simpa [nD] using h)
  simp only [eqN,this,D.tup.injEq]
 | .tup xs,.non,_=>by simp [eqN]
 | .tup xs,.bl _,_=>by simp [eqN]
 | .tup xs,.int _,_=>by simp [eqN]
 | .tup xs,.str _,_=>by simp [eqN]
 | .tup xs,.lst,_=>by simp [eqN]
 | .tup xs,.dct,_=>by simp [eqN]
 | .bl _,_,h=>by simp [nD] at h
 | .lst,_,h=>by simp [nD] at h
 | .dct,_,h=>by simp [nD] at h
theorem eqNL_iff:∀{xs ys:List D},nL xs=true->(eqNL xs ys=true↔xs=ys)
 | [],[],_=>by simp [eqNL]
 | [],_::_,_=>by simp [eqNL]
 |_::_,[],_=>by simp [eqNL]
 |x::r,y::q,h=>by
  have h':nD x=true/\nL r=true:=by simpa [nL] using h
  simp only [eqNL,uO,eqN_iff h'.1,eqNL_iff h'.2,vz]
end
mutual
theorem Is.detN {H:Hp}:∀{d e:D}{v:V},nD d=true->nD e=true->Is H d v->Is H e v->d=e
 | .non,e,v,_,he,h1,h2=>by
  cases(show v= .non from h1)
  cases e with
  |non=>rfl
  |str b=>obtain⟨q,_⟩:=(show V.non=V.str b/\_ from h2);cases q
  |int b=>cases(show V.non=V.int b from h2)
  |tup ys=>obtain⟨p,us,q,_⟩:=(show∃p us,V.non=V.ref p/\_ from h2);cases q
  |_=>simp [nD] at he
 | .str a,e,v,_,he,h1,h2=>by
  obtain⟨rfl,_⟩:=(show v= .str a/\_ from h1)
  cases e with
  |non=>cases(show V.str a=V.non from h2)
  |str b=>obtain⟨q,_⟩:=(show V.str a=V.str b/\_ from h2);cases q;rfl
  |int b=>cases(show V.str a=V.int b from h2)
  |tup ys=>obtain⟨p,us,q,_⟩:=(show∃p us,V.str a=V.ref p/\_ from h2);cases q
  |_=>simp [nD] at he
 | .int a,e,v,_,he,h1,h2=>by
  cases(show v= .int a from h1)
  cases e with
  |non=>cases(show V.int a=V.non from h2)
  |str b=>obtain⟨q,_⟩:=(show V.int a=V.str b/\_ from h2);cases q
  |int b=>cases(show V.int a=V.int b from h2);rfl
  |tup ys=>obtain⟨p,us,q,_⟩:=(show∃p us,V.int a=V.ref p/\_ from h2);cases q
  |_=>simp [nD] at he
 | .tup xs,e,v,hd,he,h1,h2=>by
  obtain⟨p,vs,rfl,hp,hl⟩:=(show∃p vs,v=V.ref p/\H p=some (.tup vs)/\IsL H xs vs from h1)
  cases e with
  |non=>cases(show V.ref p=V.non from h2)
  |str b=>obtain⟨q,_⟩:=(show V.ref p=V.str b/\_ from h2);cases q
  |int b=>cases(show V.ref p=V.int b from h2)
  |tup ys=>
   obtain⟨Z,us,q,U,aa⟩:=(show∃Z us,V.ref p=V.ref Z/\H Z=some (.tup us)/\IsL H ys us from h2)
   cases q;rw [hp] at U;cases U;rw [IsL.detN (by simpa [nD] using hd) (by simpa [nD] using he) hl aa]
  |_=>simp [nD] at he
 | .bl _,_,_,hd,_,_,_=>by simp [nD] at hd
 | .lst,_,_,hd,_,_,_=>by simp [nD] at hd
 | .dct,_,_,hd,_,_,_=>by simp [nD] at hd
theorem IsL.detN {H:Hp}:∀{xs ys:List D}{vs:List V},nL xs=true->nL ys=true->IsL H xs vs->IsL H ys vs->xs=ys
 | [],[],_,_,_,_,_=>rfl
 | [],_::_,_,_,_,h1,h2=>by
  cases(show _= [] from h1)
  obtain⟨v,r,q,_⟩:=(show∃v r,[]=v::r/\_ from h2)
  cases q
 |_::_,[],_,_,_,h1,h2=>by
  cases(show _= [] from h2)
  obtain⟨v,r,q,_⟩:=(show∃v r,[]=v::r/\_ from h1)
  cases q
 |x::xs,y::ys,_,hd,he,h1,h2=>by
  obtain⟨v,r,rfl,a1,a2⟩:=h1;obtain⟨v',r',q,b1,b2⟩:=h2;cases q;have U:nD x=true/\nL xs=true:=by simpa [nL] using hd
  have Z:nD y=true/\nL ys=true:=by simpa [nL] using he
  rw [Is.detN U.1 Z.1 a1 b1,IsL.detN U.2 Z.2 a2 b2]
end
theorem xt:∀(xs ys:List D),eqNL xs ys=((List.range (min xs.length ys.length)).all (fun j=>eqN (xs.getD j .non) (ys.getD j .non))&&xs.length==ys.length)
 | [],[]=>by simp [eqNL]
 | [],_::_=>by simp [eqNL]
 |_::_,[]=>by simp [eqNL]
 |x::r,y::q=>by
  have U:=xt r q;rw [uz,uz,show min (r.length+1) (q.length+1)=min r.length q.length+1 by omega,List.range_succ_eq_map,vv,UI]
  have e:(List.range (min r.length q.length)).all ((fun j=>eqN ((x::r).getD j .non) ((y::q).getD j .non))∘Nat.succ)=(List.range (min r.length q.length)).all fun j=>eqN (r.getD j .non) (q.getD j .non):=by congr 1
  rw [e];have Z:(r.length+1==q.length+1)=(r.length==q.length):=by rw [vq];simp
  rw [Z,Bool.and_assoc,<-U]
  rfl
theorem eqAt_nonN (I:Inv X pins σ H s){e:D}{u:V}{b:Value}{A:Around}(Z:nD e=true)(h2:Is H e u)(U:RelV u b)(hu:A.units<cLine):SeqAt.EqAt A s .none b (eqN .non e):=by
 cases e with
 |non=>
  cases(show u= .non from h2)
  cases U;exact SeqAt.EqAt.same _
 |str y=>
  obtain⟨rfl,_⟩:=(show u= .str y/\_ from h2)
  obtain⟨t2,rfl⟩:=U;exact SeqAt.EqAt.none_str _ _
 |int y=>
  cases(show u= .int y from h2)
  obtain⟨t2,rfl⟩:=U;exact SeqAt.EqAt.none_int _ _
 |tup ys=>
  obtain⟨p,us,rfl,hp,hl⟩:=(show∃p us,u=V.ref p/\H p=some (.tup us)/\IsL H ys us from h2)
  cases U;obtain⟨its,_,q,_⟩:=I.tuple (.inl (.of hp));exact SeqAt.EqAt.none_tuple q hu
 |_=>simp [nD] at Z
theorem eqAt_strN (I:Inv X pins σ H s){z:Str}{t:Tok}{e:D}{u:V}{b:Value}{A:Around}(Z:nD e=true)(h2:Is H e u)(U:RelV u b)(hu:A.units<cLine):SeqAt.EqAt A s (.str z t) b (eqN (.str z) e):=by
 cases e with
 |non=>
  cases(show u= .non from h2)
  cases U;exact SeqAt.EqAt.str_none _ _
 |str y=>
  obtain⟨rfl,_⟩:=(show u= .str y/\_ from h2)
  obtain⟨t2,rfl⟩:=U;exact SeqAt.EqAt.str_str _ _ _ _
 |int y=>
  cases(show u= .int y from h2)
  obtain⟨t2,rfl⟩:=U;exact UO _ _ _ _
 |tup ys=>
  obtain⟨p,us,rfl,hp,hl⟩:=(show∃p us,u=V.ref p/\H p=some (.tup us)/\IsL H ys us from h2)
  cases U;obtain⟨its,_,q,_⟩:=I.tuple (.inl (.of hp));exact SeqAt.EqAt.str_tuple _ _ q hu
 |_=>simp [nD] at Z
theorem eqAt_intN (I:Inv X pins σ H s){z:Int}{t:Tok}{e:D}{u:V}{b:Value}{A:Around}(Z:nD e=true)(h2:Is H e u)(U:RelV u b)(hu:A.units<cLine):SeqAt.EqAt A s (.int z t) b (eqN (.int z) e):=by
 cases e with
 |non=>
  cases(show u= .non from h2)
  cases U;exact SeqAt.EqAt.int_none _ _
 |str y=>
  obtain⟨rfl,_⟩:=(show u= .str y/\_ from h2)
  obtain⟨t2,rfl⟩:=U;exact UN _ _ _ _
 |int y=>
  cases(show u= .int y from h2)
  obtain⟨t2,rfl⟩:=U;exact SeqAt.EqAt.int_int _ _ _ _
 |tup ys=>
  obtain⟨p,us,rfl,hp,hl⟩:=(show∃p us,u=V.ref p/\H p=some (.tup us)/\IsL H ys us from h2)
  cases U;obtain⟨its,_,q,_⟩:=I.tuple (.inl (.of hp));exact SeqAt.EqAt.int_tuple _ _ q hu
 |_=>simp [nD] at Z
theorem parts_N {xs ys:List D}{vs us:List V}{its its':List Value}{A:Around}(hd:nL xs=true)(he:nL ys=true)(hl:IsL H xs vs)(U:IsL H ys us)(rv:Vals vs its)(Z:Vals us its')
  (ih:∀x∈xs,∀(e:D) (v u:V) (a b:Value),nD x=true->nD e=true->Is H x v->Is H e u->RelV v a->RelV u b->SeqAt.EqAt A s a b (eqN x e)):
  ∀j (a1:j<its.toArray.size) (a2:j<its'.toArray.size),SeqAt.EqAt A s its.toArray[j] its'.toArray[j] (eqN (xs.getD j .non) (ys.getD j .non)):=fun j a1 a2=>by
 have l1:its.length=xs.length:=by rw [<-rv.length,hl.length]
 have l2:its'.length=ys.length:=by rw [<-Z.length,U.length]
 have j1:j<xs.length:=by rw [<-l1];simpa using a1
 have j2:j<ys.length:=by rw [<-l2];simpa using a2
 obtain⟨v1,e1,i1⟩:=hl.get (i:=j) (d:=xs[j]) (by simp [j1])
 obtain⟨v2,e2,i2⟩:=U.get (i:=j) (d:=ys[j]) (by simp [j2])
 obtain⟨b1,f1,g1⟩:=rv.get e1;obtain⟨b2,f2,g2⟩:=Z.get e2;have k1:its.toArray[j]=b1:=by
  have:=f1;rw [u4 (by rw [l1];exact j1)] at this
  simpa using this
 have k2:its'.toArray[j]=b2:=by
  have:=f2;rw [u4 (by rw [l2];exact j2)] at this
  simpa using this
 have d1:xs.getD j .non=xs[j]:=by simp [List.getD,j1]
 have d2:ys.getD j .non=ys[j]:=by simp [List.getD,j2]
 rw [k1,k2,d1,d2];exact ih _ (uj j1) _ _ _ _ _ (nL_get (j:=j) hd (by simp [j1])) (nL_get (j:=j) he (by simp [j2])) i1 i2 g1 g2
theorem eqAt_tupN (I:Inv X pins σ H s){xs:List D}{e:D}{v u:V}{a b:Value}{A:Around}(hd:nD (.tup xs)=true)(he:nD e=true)(h1:Is H (.tup xs) v)(h2:Is H e u)(r1:RelV v a)(U:RelV u b)(hu:A.units<cLine)
  (ih:∀x∈xs,∀(e:D) (v u:V) (a b:Value),nD x=true->nD e=true->Is H x v->Is H e u->RelV v a->RelV u b->SeqAt.EqAt A.in1 s a b (eqN x e)):SeqAt.EqAt A s a b (eqN (.tup xs) e):=by
 obtain⟨p,vs,rfl,hp,hl⟩:=(show∃p vs,v=V.ref p/\H p=some (.tup vs)/\IsL H xs vs from h1)
 cases r1;obtain⟨its,rv,q,_⟩:=I.tuple (.inl (.of hp));cases e with
 |non=>
  cases(show u= .non from h2)
  cases U;exact SeqAt.EqAt.tuple_none q hu
 |str y=>
  obtain⟨rfl,_⟩:=(show u= .str y/\_ from h2)
  obtain⟨t2,rfl⟩:=U;exact SeqAt.EqAt.tuple_str _ _ q hu
 |int y=>
  cases(show u= .int y from h2)
  obtain⟨t2,rfl⟩:=U;exact SeqAt.EqAt.tuple_int _ _ q hu
 |tup ys=>
  by_cases hv:V.ref p=u
  ·have:=Is.detN (e:= .tup ys) hd he h1 (hv▸h2);subst hv;cases U;rw [<-this,(eqN_iff hd).mpr rfl];exact SeqAt.EqAt.same _
  ·obtain⟨p',us,rfl,ac,Z⟩:=(show∃p' us,u=V.ref p'/\H p'=some (.tup us)/\IsL H ys us from h2)
   cases U;obtain⟨its',aa,q',_⟩:=I.tuple (.inl (.of ac));have l1:its.length=xs.length:=by rw [<-rv.length,hl.length]
   have l2:its'.length=ys.length:=by rw [<-aa.length,Z.length]
   have ad:=UY (e:=fun j=>eqN (xs.getD j .non) (ys.getD j .non)) q q' hu (parts_N (by simpa [nD] using hd) (by simpa [nD] using he) hl Z rv aa ih)
   have e1:eqN (.tup xs) (.tup ys)=((List.range (min its.toArray.size its'.toArray.size)).all (fun j=>eqN (xs.getD j .non) (ys.getD j .non))&&its.toArray.size==its'.toArray.size):=by
    rw [ub,ub,l1,l2,<-xt];simp only [eqN]
   rw [e1];exact SeqAt.EqAt.of_refs (fun z=>hv (by rw [z])) ad
 |_=>simp [nD] at he
theorem eqAt_N (I:Inv X pins σ H s):∀(n:Nat) (d e:D) (v u:V) (a b:Value) (A:Around),dp d<=n->nD d=true->nD e=true->Is H d v->Is H e u->RelV v a->RelV u b->A.units+n<cLine->SeqAt.EqAt A s a b (eqN d e):=by
 intro n
 induction n with
 |zero=>
  intro d e v u a b A hn hd Z h1 h2 r1 r2 hu;cases d with
  |non=>
   cases(show v= .non from h1)
   cases r1;exact eqAt_nonN I Z h2 r2 hu
  |int z=>
   cases(show v= .int z from h1)
   obtain⟨t,rfl⟩:=r1;exact eqAt_intN I Z h2 r2 hu
  |str z=>simp [dp] at hn
  |tup xs=>simp [dp] at hn
  |_=>simp [nD] at hd
 |succ n ih=>
  intro d e v u a b A hn hd Z h1 h2 r1 r2 hu;have U:A.units<cLine:=vL (Nat.le_add_right _ _) hu;cases d with
  |non=>
   cases(show v= .non from h1)
   cases r1;exact eqAt_nonN I Z h2 r2 U
  |int z=>
   cases(show v= .int z from h1)
   obtain⟨t,rfl⟩:=r1;exact eqAt_intN I Z h2 r2 U
  |str z=>
   obtain⟨rfl,_⟩:=(show v= .str z/\_ from h1)
   obtain⟨t,rfl⟩:=r1;exact eqAt_strN I Z h2 r2 U
  |tup xs=>
   have hm:dpL xs<=n:=by
    have:dp (.tup xs)=1+dpL xs:=by simp only [dp]
    omega
   exact eqAt_tupN I hd Z h1 h2 r1 r2 U fun x hx e v u a b k1 k2 k3 k4 k5 k6=>ih x e v u a b A.in1 ((ji xs).mp hm x hx) k1 k2 k3 k4 k5 k6 (by rw [uI];omega)
  |_=>simp [nD] at hd
def rCmpN (g:Bool->Bool):R2:=fun x y H Q=>∃ds es:List D,Is H (.tup ds) x/\Is H (.tup es) y/\nL ds=true/\nL es=true/\dpL ds<=60/\Q (.bl (g (eqNL ds es))) H
theorem rc_N (I:Inv X pins σ H s){ds es:List D}{x y:V}{v u:Value}(h1:Is H (.tup ds) x)(h2:Is H (.tup es) y)(hn:nL ds=true)(aa:nL es=true)(hd:dpL ds<=60)(rx:RelV x v)(ry:RelV y u)(hu:X.A.units+64<cLine):
  SeqAt.RcAt X.A s v u (eqNL ds es)/\SeqAt.RcNeAt X.A s v u (!eqNL ds es):=by
 obtain⟨p,vs,rfl,hp,hl⟩:=(show∃p vs,x=V.ref p/\H p=some (.tup vs)/\IsL H ds vs from h1)
 obtain⟨p',us,rfl,ac,U⟩:=(show∃p vs,y=V.ref p/\H p=some (.tup vs)/\IsL H es vs from h2)
 cases rx;cases ry;obtain⟨its,rv,q,_⟩:=I.tuple (.inl (.of hp));obtain⟨its',Z,q',_⟩:=I.tuple (.inl (.of ac));have l1:its.length=ds.length:=by rw [<-rv.length,hl.length]
 have l2:its'.length=es.length:=by rw [<-Z.length,U.length]
 have pe:=parts_N (A:=X.A.in1) hn aa hl U rv Z fun x hx e v u a b k1 k2 k3 k4 k5 k6=>eqAt_N I 60 x e v u a b X.A.in1 ((ji ds).mp hd x hx) k1 k2 k3 k4 k5 k6 (by rw [uI];omega)
 have e1:=UY (e:=fun j=>eqN (ds.getD j .non) (es.getD j .non)) q q' (by omega) pe
 have e2:=SeqAt.RcNeAt.tuples (e:=fun j=>eqN (ds.getD j .non) (es.getD j .non)) q q' (by omega) pe
 rw [ub,ub,l1,l2,<-xt] at e1 e2;exact⟨e1,e2⟩
theorem op_neTN (Z:X.A.units+64<cLine):OpR X (compareOp .NotEq) (rCmpN not):=by
 intro pins s σ H x y v u Q I rx ry h;obtain⟨ds,es,h1,h2,hn,U,hd,q⟩:=h;exact(rc_N I h1 h2 hn U hd rx ry Z).2 X.prog X.w X.xe _ ⟨.bl _,H,I,rfl,q⟩
end
structure FF (K:PySem.W.Frag)(mg:Str->Option Value)(x:Str)(st:Stmt)(ps:List Str)(f:Addr)(fd:FuncData):Prop where
 F:Fun K x x st f fd
 b:jy K fd ps []
 m:mg x=some (.ref f)
structure FM (K:PySem.W.Frag)(C:Addr)(x q:Str)(st:Stmt)(ps:List Str)(f:Addr)(fd:FuncData):Prop where
 F:Fun K x q st f fd
 b:jy K fd ps []
 h:Meth K C x f
def FZ (K:PySem.W.Frag)(x q:Str)(st:Stmt)(f:Addr):Prop:=∃(oc kV dc pm cd ct:Value) (od an:Option Addr) (sl:Array (Option Value)),K.lookup f=some ⟨oc,od,.func (PySem.W.fnOf x q (Yo st) (yC st) (qi st) .none kV dc pm an cd ct),sl⟩/\PySem.W.codeIn K cd q=true/\PySem.W.keepIn K (.ref f)=true
def FZg (K:PySem.W.Frag)(x:Str)(st:Stmt)(f:Addr):Prop:=PySem.W.nsIn K mainGlobals x=some (some (.ref f))/\FZ K x x st f
def FZm (K:PySem.W.Frag)(C:Addr)(x q:Str)(st:Stmt)(f:Addr):Prop:=PySem.W.findIn K (.ref C) x=some (some (.ref f))/\PySem.W.isFn K (.ref f)=true/\FZ K x q st f
def BOk (x q:Str)(st:Stmt)(ps:List Str):Prop:=∀(kV doc pm:Value) (an:Option Addr) (cdv ct:Value) (us:List Value),us.length=ps.length->bindArgs (PySem.W.fnOf x q (Yo st) (yC st) (qi st) .none kV doc pm an cdv ct) ⟨us,[]⟩=pure (ps.zip us)
theorem QC {K:PySem.W.Frag}{h:Heap}{mg:Str->Option Value}(X:K.In h)(G:h.Ns mainGlobals mg){x:Str}{st:Stmt}{f:Addr}(z:FZg K x st f)(ps:List Str)(U:BOk x x st ps):∃fd,FF K mg x st ps f fd:=by
 obtain⟨a,oc,kV,dc,pm,Z,ct,od,an,sl,l,c,k⟩:=z;have F:=fun_mk (st:=st) l c k;exact⟨_,F,F.binds U,vG X G a⟩
theorem fm_of {K:PySem.W.Frag}{C:Addr}{x q:Str}{st:Stmt}{f:Addr}(z:FZm K C x q st f)(ps:List Str)(U:BOk x q st ps):∃fd,FM K C x q st ps f fd:=by
 obtain⟨a,i,oc,kV,dc,pm,Z,ct,od,an,sl,l,c,k⟩:=z;have F:=fun_mk (st:=st) l c k;exact⟨_,F,F.binds U,⟨a,i,k⟩⟩
theorem FF.law {K:PySem.W.Frag}{mg:Str->Option Value}{x:Str}{st:Stmt}{ps:List Str}{f:Addr}{fd:FuncData}(T:FF K mg x st ps f fd){y:Str}(h:∀(kV doc pm:Value) (an:Option Addr) (cdv ct u:Value),bindArgs (PySem.W.fnOf x x (Yo st) (yC st) (qi st) .none kV doc pm an cdv ct) ⟨[u],[]⟩=pure [(y,u)])(s:Shared)(u:Value):BindsTo s fd ⟨[u],[]⟩ [(y,u)]:=by
 obtain⟨oc,od,kV,doc,pm,an,cdv,ct,osl,rfl,Z,U⟩:=T.F.ex;exact .of_eq (h kV doc pm an cdv ct u)
end L2
namespace L2
open PySem PyProof.Rows
mutual
def hvD (h:Heap):D->Value->Prop
 | .non,v=>v= .none
 | .str z,v=>∃t,v= .str z t
 | .tup ds,v=>∃a o items n,v= .ref a/\h.get? a=some o/\o.cls= .type "tuple"/\o.data= .seq items n/\hvL h ds items.toList
 |_,_=>False
def hvL (h:Heap):List D->List Value->Prop
 | [],vs=>vs= []
 |d::ds,vs=>∃v r,vs=v::r/\hvD h d v/\hvL h ds r
end
mutual
def kD:D->Bool
 | .non=>true
 | .str _=>true
 | .tup xs=>kL xs
 |_=>false
def kL:List D->Bool
 | []=>true
 |x::r=>kD x&&kL r
end
mutual
theorem kD_n:∀{d:D},kD d=true->nD d=true
 | .non,_=>by simp [nD]
 | .str _,_=>by simp [nD]
 | .tup xs,h=>by
  have:=kL_n (xs:=xs) (by simpa [kD] using h)
  simpa [nD] using this
 | .bl _,h=>by simp [kD] at h
 | .int _,h=>by simp [kD] at h
 | .lst,h=>by simp [kD] at h
 | .dct,h=>by simp [kD] at h
theorem kL_n:∀{xs:List D},kL xs=true->nL xs=true
 | [],_=>by simp [nL]
 |x::r,h=>by
  have h':kD x=true/\kL r=true:=by simpa [kL] using h
  simp [nL,kD_n h'.1,kL_n h'.2]
end
structure SB (kd:SortKind)(xs0:Array Keyed)(st:SortSt):Prop where
 pm:(arrOf st).Perm xs0
 ki:kindOf st=kd
 ok:failedOf st=none
 pe:pendingOf st= #[]
section
variable {P:Program}{w:World}{A:Around}{s:Shared}{kd:SortKind}{xs0:Array Keyed}{rk:Keyed->Nat}
theorem SB.sz {st:SortSt}(h:SB kd xs0 st):(arrOf st).size=xs0.size:=h.pm.size_eq
def rkAt (rk:Keyed->Nat)(xs:Array Keyed)(i:Nat):Nat:=(xs[i]?.map rk).getD 0
def Asc (rk:Keyed->Nat)(xs:Array Keyed)(n:Nat):Prop:=∀i j,i<=j->j<n->rkAt rk xs i<=rkAt rk xs j
theorem rk_bub {xs:Array Keyed}{c d:Nat}(U:c<xs.size)(hd:d<=c)(k:Nat):rkAt rk (bubble xs c d) k=if k=c-d then rkAt rk xs c else if c-d<k/\k<=c then rkAt rk xs (k-1) else rkAt rk xs k:=by
 unfold rkAt;rw [getElem?_bubble U d hd k];split
 ·rfl
 ·split<;>rfl
theorem rk_mir {xs:Array Keyed}{i j:Nat}(U:j<=xs.size)(k:Nat):rkAt rk (mirror xs i j ((j-i)/2)) k=if i<=k/\k<j then rkAt rk xs (i+j-1-k) else rkAt rk xs k:=by
 unfold rkAt;rw [getElem?_mirror_all U k];split<;>rfl
theorem Q6 {xs:Array Keyed}{i j:Nat}(U:j<=xs.size)(e:∀k,i<=k->k<j->rkAt rk xs k=rkAt rk xs (j-1))(k:Nat):rkAt rk (mirror xs i j ((j-i)/2)) k=rkAt rk xs k:=by
 rw [rk_mir U];split
 ·rw [e (i+j-1-k) (by omega) (by omega),e k (by omega) (by omega)]
 ·rfl
def ByRk (P:Program)(w:World)(A:Around)(s:Shared)(kd:SortKind)(xs0:Array Keyed)(rk:Keyed->Nat):Prop:=
 ∀x∈xs0.toList,∀y∈xs0.toList,∀(E:Value->Shared->Prop) (Q:Bool->Shared->Prop),Q (decide (rk x<rk y)) s->wpAny (model P w) A (keyLt' kd x.1 y.1) Q E s
variable {E:Value->Shared->Prop}
end
def rkOf {α:Type}(lt:α->α->Bool)(l:List α)(x:α):Nat:=l.countP fun y=>lt y x
theorem countP_lt {α:Type}{p q:α->Bool}:∀{l:List α}{z:α},(∀y∈l,p y=true->q y=true)->z∈l->p z=false->q z=true->l.countP p<l.countP q
 |x::l,z,h,hz,h1,h2=>by
  have hl:l.countP p<=l.countP q:=List.countP_mono_left fun y U=>h y (ue _ U);rw [List.countP_cons,List.countP_cons];rcases List.mem_cons.mp hz with rfl|hz
  ·rw [h1,h2];simp;omega
  ·have:=countP_lt (fun y U=>h y (ue _ U)) hz h1 h2;have Z:=h x uo;cases e:p x with
   |false=>cases q x<;>simp<;>omega
   |true=>rw [Z e];simp;omega
structure OrdOn {α:Type}(lt:α->α->Bool)(l:List α):Prop where
 irr:∀x∈l,lt x x=false
 tr:∀x∈l,∀y∈l,∀z∈l,lt x y=true->lt y z=true->lt x z=true
 ng:∀x∈l,∀y∈l,∀z∈l,lt x z=true->lt x y=true∨lt y z=true
theorem rk_dec {α:Type}{lt:α->α->Bool}{l:List α}(o:OrdOn lt l){x y:α}(U:x∈l)(Z:y∈l):decide (rkOf lt l x<rkOf lt l y)=lt x y:=by
 cases e:lt x y with
 |true=>
  refine u9 (countP_lt (z:=x) (fun z hz h=>o.tr z hz x U y Z h e) U (o.irr x U) e)
 |false=>
  refine ua fun h=>absurd h (Nat.not_lt.mpr (List.countP_mono_left fun z hz h=> ?_));rcases o.ng z hz x U y Z h with h|h
  ·exact h
  ·rw [e] at h;cases h
theorem rk_le {α:Type}{lt:α->α->Bool}{l:List α}(o:OrdOn lt l){x y:α}(U:x∈l)(Z:y∈l)(h:rkOf lt l x<=rkOf lt l y):lt y x=false:=by
 rw [<-rk_dec o Z U];exact ua (Nat.not_lt.mpr h)
section
variable {P:Program}{w:World}{A:Around}{E:Value->Shared->Prop}{s:Shared}
abbrev Qz (led:Bool):Obj:={cls:= .type "set",dict:=none,data:= .set #[] 0 (.fresh 0 0 led)}
end
theorem Ya:entryFor table "set.__iter__"=some Builtin.«frozenset.__iter__»:=entryFor_alias (id':="frozenset.__iter__") (by kernel_rfl) rfl (by decide+kernel) (by kernel_rfl)
theorem qT:Slot "set_iterator" "__next__" "set_iterator.__next__":= .of (owner:="set_iterator") (n:="__next__") (by rw [typeLookup_type,Uq];kernel_rfl) (by decide+kernel) (by decide+kernel) (by decide+kernel) (by first|exact .inl (by decide+kernel)|exact .inr (by decide+kernel)) (by rw [isSubtype_type];kernel_rfl)
theorem Q5:Slot "set_iterator" "__iter__" "set_iterator.__iter__":= .of (owner:="set_iterator") (n:="__iter__") (by rw [typeLookup_type,Uq];kernel_rfl) (by decide+kernel) (by decide+kernel) (by decide+kernel) (by first|exact .inl (by decide+kernel)|exact .inr (by decide+kernel)) (by rw [isSubtype_type];kernel_rfl)
theorem YF:entryFor table "set_iterator.__next__"=some Builtin.«set_iterator.__next__»:=entryFor_of_fast (by kernel_rfl)
theorem Yz:entryFor table "set_iterator.__iter__"=some Builtin.«dict_keyiterator.__iter__»:=entryFor_alias (id':="dict_keyiterator.__iter__") (by kernel_rfl) rfl (by decide+kernel) (by kernel_rfl)
theorem jf (a:Value):argsOk "set_iterator.__next__" ⟨[a],[]⟩:=by unfold argsOk;kernel_rfl
theorem jq (a:Value):argsOk "set_iterator.__iter__" ⟨[a],[]⟩:=by unfold argsOk;kernel_rfl
theorem YG (a:Value):argsOk "set.__iter__" ⟨[a],[]⟩:=by unfold argsOk;kernel_rfl
section
variable {P:Program}{w:World}{A:Around}{E:Value->Shared->Prop}{s:Shared}{d it:Addr}
theorem hint_set {Q:Bool->Shared->Prop}(Z:s.TypeIs (.ref d) "set")(q:Q false s):wpAny (model P w) A (Builtin.List.listLengthHint (.ref d)) Q E s:=by
 unfold Builtin.List.listLengthHint;refine wpAny_bind (wpAny_specialOf Z PySem.F.slot_set_len.lookup ?_);generalize U:("set.__len__":String)=aa
 wp_delta
 rw [show splitId aa=some ("set","__len__") from by subst U;decide+kernel]
 subst U;refine wpAny_bind (Um (T:="set") (b:=true) Z (by rw [isSubtype_type];kernel_rfl) ?_)
 refine wpAny_ite_split (fun z=>absurd z (by decide)) fun _=> ?_
 refine wpAny_ite_split (fun _=>wpAny_bind (wpAny_typeOf Z (wpAny_pure q))) fun z=>absurd (by decide+kernel) z
end
end L2
namespace L2
open PySem PySem.Spec PyProof.Rows
theorem boot_set:bootBuiltins "set"=some (.type "set"):=by decide+kernel
end L2
namespace L2
open PySem PyProof.Rows
abbrev SE:=Array (Int×Value)
def setO (es:SE)(ep:Nat)(t:SetTable):Obj:={cls:= .type "set",dict:=none,data:= .set es ep t}
section
variable {P:Program}{w:World}{A:Around}{E:Value->Shared->Prop}{s:Shared}
theorem put_at {h:Heap}{a:Addr}{es es':SE}{ep:Nat}{t t':SetTable}(U:h.get? a=some (setO es ep t)):(h.update a (Obj.putSet es' t')).get? a=some (setO es' (ep+1) t'):=by
 have:=Heap.get?_update_self (Obj.putSet es' t') U (by rw [putSet_of es' t' rfl];rfl)
 rw [putSet_of es' t' rfl] at this;exact this
theorem tail_exact {g:Bool->Sem Unit}(hg:∀(b:Bool) (s₁:Shared) (Q':Unit->Shared->Prop),Q' () s₁->wpAny (model P w) A (g b) Q' E s₁){a:Addr}{es U:SE}{ep:Nat}{t Z:SetTable}(ho:s.heap.get? a=some (setO es ep t))(ac:U.size<scanBound){dm:Bool}{R:Option Bool->Shared->Prop}
  (h:∀(h':Heap) (ae:Nat),Heap.SameBut a s.heap h'->h'.get? a=some (setO (if(!dm&&Z.tooFull)=true then((relayAll Z U (SetTable.grown U.size)).1,(relayAll Z U (SetTable.grown U.size)).2.1) else(U,Z)).1 ae (if(!dm&&Z.tooFull)=true then((relayAll Z U (SetTable.grown U.size)).1,(relayAll Z U (SetTable.grown U.size)).2.1) else(U,Z)).2)->R (some true) {s with heap:=h'}):
  wpAny (model P w) A (do
    storeSet a U Z
    if(!dm&&Z.tooFull)=true then do
      g (relayAll Z U (SetTable.grown U.size)).2.2
      storeSet a (relayAll Z U (SetTable.grown U.size)).1 (relayAll Z U (SetTable.grown U.size)).2.1
      pure (some true)
     else pure (some true)) R E s:=by
 refine wpAny_bind (wpAny_storeSet_of ho rfl ?_ (fits_of_scanBound ac));have aa:=put_at (es':=U) (t':=Z) ho;have ad:=vk s.heap a (Obj.putSet U Z);split
 ·rename_i hc
  simp only [if_pos hc] at h;have hp:=relayAll_perm Z U (SetTable.grown U.size);generalize af:relayAll Z U (SetTable.grown U.size)=Rl at hp h⊢;obtain⟨nb,u3,ag⟩:=Rl;dsimp only at hp h⊢;have hsz:nb.size=U.size:=by rw [<-Array.length_toList,hp.length_eq,Array.length_toList]
  refine wpAny_bind (hg _ _ _ ?_);refine wpAny_bind (wpAny_storeSet_of aa rfl ?_ (fits_of_scanBound (by rw [hsz];exact ac)))
  exact wpAny_pure (h _ _ (ad.trans (vk _ a _)) (put_at aa))
 ·rename_i hc
  simp only [if_neg hc] at h;exact wpAny_pure (h _ _ ad aa)
def byT (w:World):Bool:=w.params.followText "set-order"
theorem set_new_e (a:Value){Q₁:Value->Shared->Prop}(h:Q₁ (.ref s.heap.objs.size) {s with heap:=s.heap.push (Qz (!byT w))}):
  codeAny (model P w) A (.call (.builtin "set.__new__") ⟨[.type "set",a],[]⟩) (wants Q₁ E) s:=by
 refine codeAny_of_tree ?_;show wpAny _ A.in1 (do checkBuiltinCall "set.__new__" ⟨[.type "set",a],[]⟩;again (.builtin "set.__new__" ⟨[.type "set",a],[]⟩)) _ _ s
 refine wpAny_bind (V8 (F.newCall_set_1 a) (wpAny_pure ⟨vy F.plain_set_new _,vd F.entry_set_new ?_⟩));rw [uN F.plain_set_new _];unfold Builtin.«set.__new__» Builtin.Frozenset.newClass;have U:=sub_set_self;obtain⟨Z,g,d,tk,os⟩:=s;dsimp only
 wp_walk
 refine Uo (wpAny_pure ?_);dsimp only;simp only [newObj];refine wpAny_bind (wpAny_alloc (wpAny_pure ?_));exact wpAny_pure h
end
def yh (w:World)(t:SetTable)(i:Nat):Nat:=if byT w=true then 0 else if i=0 then 0 else t.place.getD (i-1) 0+1
def Wlk (t:SetTable)(n:Nat):Prop:=∀i,i<=n->SetTable.below t.place (if i=0 then 0 else t.place.getD (i-1) 0+1)=i
def YY (w:World)(a:Addr)(es:SE)(ep:Nat):SE:=if byT w=true then pickOrder (w.params.setOrder a ep) es else es
theorem go_perm {α:Type}(next:Nat->Nat):∀(U k:Nat) (left:List α) (out:Array α),left.length=U->List.Perm (pickOrder.go next U k left out).toList (out.toList++left)
 |0,k,left,out,h=>by
  have:left= []:=List.length_eq_zero_iff.mp h;subst this;simp [pickOrder.go]
 |U+1,k,left,out,h=>by
  unfold pickOrder.go;have Z:next k%left.length<left.length:=Nat.mod_lt _ (by omega)
  rw [u4 Z];dsimp only;refine(go_perm next U (k+1) _ _ (by rw [List.length_eraseIdx_of_lt Z];omega)).trans ?_
  rw [uX,um];refine List.Perm.append_left _ ?_;rw [List.eraseIdx_eq_take_drop_succ];generalize next k%left.length=i at Z;have e:left=left.take i++left[i]::left.drop (i+1):=by rw [<-uD Z,uu]
  have p:List.Perm (left[i]::(left.take i++left.drop (i+1))) (left.take i++left[i]::left.drop (i+1)):=List.perm_middle.symm;rw [<-e] at p;exact p
theorem walk_perm (w:World)(a:Addr)(es:SE)(ep:Nat):List.Perm (YY w a es ep).toList es.toList:=by
 unfold YY;split
 ·have:=go_perm (w.params.setOrder a ep) es.size 0 es.toList #[] (by simp)
  simpa [pickOrder] using this
 ·exact List.Perm.refl _
theorem walk_size (w:World)(a:Addr)(es:SE)(ep:Nat):(YY w a es ep).size=es.size:=by
 have:=(walk_perm w a es ep).length_eq
 simpa using this
def SIt (w:World)(h:Heap)(it d:Addr)(n ep:Nat)(t:SetTable)(i:Nat):Prop:=∃o,h.get? it=some o/\o.cls= .type "set_iterator"/\o.data= .fields #[.int (yh w t i:Nat) 0,.int (i:Nat) 0,.ref d,.int (n:Nat) 0,.int (ep:Nat) 0]
section
variable {P:Program}{w:World}{A:Around}{E:Value->Shared->Prop}{s:Shared}{d it:Addr}{es:SE}{ep:Nat}{t:SetTable}
theorem SIt.ty {n i:Nat}(x:SIt w s.heap it d n ep t i):s.TypeIs (.ref it) "set_iterator":=let⟨o,h,c,_⟩:=x;⟨o,h,c⟩
theorem SIt.to {h h':Heap}{n i:Nat}(x:SIt w h it d n ep t i)(k:∀o,h.get? it=some o->h'.get? it=some o):SIt w h' it d n ep t i:=let⟨o,e,r⟩:=x;⟨o,k o e,r⟩
theorem slot0 (w:World)(t:SetTable):yh w t 0=0:=by unfold yh;split<;>rfl
end
end L2
namespace L2
open PySem PySem.Spec PyProof.Rows
section
variable {X:Cx}
def rNeA:R2:=fun x y H Q=>∃d e:D,Is H d x/\Is H e y/\kD d=true/\kD e=true/\dp d<=60/\Q (.bl (!eqN d e)) H
theorem xo (hu:X.A.units+64<cLine):OpR X (compareOp .NotEq) rNeA:=by
 intro pins s σ H x y v u Q I U Z h;obtain⟨d,e,h1,h2,k1,k2,hd,q⟩:=h;have aa:X.A.units<cLine:=by omega
 cases d with
 |non=>
  cases(show x= .non from h1)
  cases e with
  |non=>
   cases(show y= .non from h2)
   exact op_ne pins s σ H .non .non v u Q I U Z ⟨rfl,by simpa [eqN] using q⟩
  |str z=>
   obtain⟨rfl,_⟩:=(show y= .str z/\_ from h2)
   exact op_ne pins s σ H .non (.str z) v u Q I U Z ⟨rfl,by simpa [eqN] using q⟩
  |tup ys=>
   obtain⟨p,us,rfl,hp,hl⟩:=(show∃p us,y=V.ref p/\H p=some (.tup us)/\IsL H ys us from h2)
   cases U;cases Z;obtain⟨its,_,tq,_⟩:=I.tuple (.inl (.of hp));exact SeqAt.RcNeAt.none_tuple tq aa X.prog X.w X.xe _ ⟨.bl true,H,I,rfl,by simpa [eqN] using q⟩
  |_=>simp [kD] at k2
 |str z=>
  obtain⟨rfl,_⟩:=(show x= .str z/\_ from h1)
  cases e with
  |non=>
   cases(show y= .non from h2)
   exact op_ne pins s σ H (.str z) .non v u Q I U Z ⟨rfl,by simpa [eqN] using q⟩
  |str w=>
   obtain⟨rfl,_⟩:=(show y= .str w/\_ from h2)
   refine op_ne pins s σ H (.str z) (.str w) v u Q I U Z ⟨rfl,?_⟩;have e1:eqN (.str z) (.str w)=decide (V.str z=V.str w):=by
    simp only [eqN];by_cases c:z=w
    ·subst c;simp
    ·simp [c]
   rw [e1] at q;exact q
  |tup ys=>
   obtain⟨p,us,rfl,hp,hl⟩:=(show∃p us,y=V.ref p/\H p=some (.tup us)/\IsL H ys us from h2)
   obtain⟨t,rfl⟩:=U;cases Z;obtain⟨its,_,tq,_⟩:=I.tuple (.inl (.of hp));exact SeqAt.RcNeAt.str_tuple _ _ tq aa X.prog X.w X.xe _ ⟨.bl true,H,I,rfl,by simpa [eqN] using q⟩
  |_=>simp [kD] at k2
 |tup xs=>
  cases e with
  |non=>
   obtain⟨p,us,rfl,hp,hl⟩:=(show∃p us,x=V.ref p/\H p=some (.tup us)/\IsL H xs us from h1)
   cases(show y= .non from h2)
   cases U;cases Z;obtain⟨its,_,tq,_⟩:=I.tuple (.inl (.of hp));exact SeqAt.RcNeAt.tuple_none tq aa X.prog X.w X.xe _ ⟨.bl true,H,I,rfl,by simpa [eqN] using q⟩
  |str w=>
   obtain⟨p,us,rfl,hp,hl⟩:=(show∃p us,x=V.ref p/\H p=some (.tup us)/\IsL H xs us from h1)
   obtain⟨rfl,_⟩:=(show y= .str w/\_ from h2)
   cases U;obtain⟨t,rfl⟩:=Z;obtain⟨its,_,tq,_⟩:=I.tuple (.inl (.of hp));exact SeqAt.RcNeAt.tuple_str _ _ tq aa X.prog X.w X.xe _ ⟨.bl true,H,I,rfl,by simpa [eqN] using q⟩
  |tup ys=>
   refine op_neTN hu pins s σ H x y v u Q I U Z ⟨xs,ys,h1,h2,kL_n (by simpa [kD] using k1),kL_n (by simpa [kD] using k2),?_,by simpa [eqN] using q⟩
   have:dp (.tup xs)=1+dpL xs:=by simp only [dp]
   omega
  |_=>simp [kD] at k2
 |_=>simp [kD] at k1
def ltS (a b:Str):Bool:=decide (a.cps.toList<b.cps.toList)
theorem ltS_ord (l:List Str):OrdOn ltS l:=by
 refine⟨fun x _=>ua (List.lt_irrefl _),fun x _ y _ z _ h1 h2=>u9 (List.lt_trans (ur h1) (ur h2)),fun x _ y _ z _ h=> ?_⟩;by_cases h1:x.cps.toList<y.cps.toList
 ·exact .inl (u9 h1)
 ·exact .inr (u9 (List.lt_of_le_of_lt (List.not_lt.mp h1) (ur h)))
theorem Jv {x:Str}{o:Expr}{to:TE}{p pos apos cpos:Pos}(hc:X.calm=true)(hg:Gl X x)(hm:X.mg x=none)(hv:bootBuiltins x=some (.type "list"))(ho:PE X o to)(hn:x≠"__name__":=by decide)(ad:(x==("__debug__":Str))=false:=by decide)
  (U:attributeBase o "items" X.env (eval o X.env)=eval o X.env:=by rfl) (Z:(apos.endLine==cpos.line)=true:=by rfl)
  (he:starEach [.Call (.Attribute o "items" apos) [] [] cpos] X.env=(false,eval (.Call (.Attribute o "items" apos) [] [] cpos) X.env)::starEach [] X.env:=by rfl) (ae:(backTo pos (starEach [] X.env)).any (·.1)=false:=by rfl):
  PE X (.Call (.Name x p) [.Call (.Attribute o "items" apos) [] [] cpos] [] pos) (tItems .lst to):=by
 intro pins s σ H Q I h;refine vt (JD I hg hm hv ?_ hn ad);refine vT ?_ he ae;rw [he];show wpAny _ _ (spliced ((false,eval (.Call (.Attribute o "items" apos) [] [] cpos) X.env)::backTo pos (starEach [] X.env))) _ _ s;refine vK (J0 ho I U Z h ?_);rintro s1 H1 x I1 ⟨d,kvs,rfl,hd,q⟩;refine⟨d,kvs,rfl,hd,U9 ?_⟩;obtain⟨hz,lo,vs,aa,dd⟩:=YU I1.hok hd;obtain⟨o,es,ep,ho⟩:=id dd;have af:s1.heap.DictAt (qz X.prog X.w) d vs ep:=⟨o,es,ho⟩;have ac:(s1.heap.push {cls:= .type "dict_items",data:= .fields #[.ref d]}).IsItemsView s1.heap.objs.size d:=⟨_,uc _ rfl,rfl,rfl⟩;refine ux (n:=1) I1.tk ?_;have hsz:s1.heap.objs.size<=(s1.heap.push {cls:= .type "dict_items",data:= .fields #[.ref d]}).objs.size:=by rw [uY];exact Nat.le_succ _
 refine PySem.W.kdx_call (s:={s1 with heap:=s1.heap.push {cls:= .type "dict_items",data:= .fields #[.ref d]}}) (knd:=qz X.prog X.w) (kvs:=vs) (ep:=ep) (I1.ok.hd hc) ac (af.push _) (by rw [<-aa.length];exact hz) fun h' tk ai c as k1 kl k2 k3 ka htk=> ?_
 have aj:=aa.length;have k0:∀b u,s1.heap.get? b=some u->h'.get? b=some u:=fun b u e=>k1 b u (u5 _ e);have ag:∀l:List Addr,Vals (l.map V.ref) (l.map Value.ref):=by
  intro l
  induction l with
  |nil=>exact .nil
  |cons a r ih=>exact .cons rfl ih
 obtain⟨H2,I2,sm,tn,ah,it⟩:=xp (h2:=h') (t:=(s1.heap.push {cls:= .type "dict_items",data:= .fields #[.ref d]}).objs.size) (o:= .lst (as.map V.ref)) (tk:=tk) I1 aa k0 k2 hsz k3 (fun a _ u e=>e) hsz (fun m=>vp _ (k3.above _ m)) ⟨_,rfl⟩ htk (fun H' _ _=>⟨by rw [u1];omega,as.map Value.ref,c,ag as,by rw [<-ka];exact kl⟩)
 exact⟨.ref _,H2,I2,rfl,q _ as H2 sm tn ah it⟩
end
end L2
namespace L2
open PySem PyProof.Rows
def QE:Bool->Keyed->Array Keyed->Nat->Nat->Nat->StateT SortSt Sem (Option Nat):=sortPriv%PySem.Builtin.gallop
def beyQ (lf:Bool)(ky:Keyed)(xs:Array Keyed)(b i:Nat):StateT SortSt Sem (Option Bool):=do
 let u<-elem' xs (b+i)
 if lf then lt' u ky else return (<-lt' ky u).map (!·)
theorem gallop'_eq (U:Bool)(ky:Keyed)(xs:Array Keyed)(b n h:Nat):QE U ky xs b n h=(do
 let mut la:=0
 let mut of:=1
 let mut l:=0
 let mut r:=0
 let some rt<-beyQ U ky xs b h|return none
 if rt then
  let mx:=n-h
  for _ in [0:n] do
   if of≥mx then break
   let some mo<-beyQ U ky xs b (h+of)|return none
   if !mo then break
   la:=of
   of:=2*of+1
  l:=h+la+1
  r:=h+min of mx
 else
  let mx:=h+1
  for _ in [0:n] do
   if of≥mx then break
   let some fo<-beyQ U ky xs b (h-of)|return none
   if fo then break
   la:=of
   of:=2*of+1
  l:=h+1-min of mx
  r:=h-la
 for _ in [0:n] do
  if l≥r then break
  let m:=l+(r-l)/2
  let some mo<-beyQ U ky xs b m|return none
  if mo then l:=m+1 else r:=m
 return some r):=rfl
section
variable {P:Program}{w:World}{A:Around}{E:Value->Shared->Prop}{s:Shared}{kd:SortKind}{xs0:Array Keyed}{rk:Keyed->Nat}{st:SortSt}
def bey (rk:Keyed->Nat)(lf:Bool)(ky:Keyed)(xs:Array Keyed)(b i:Nat):Bool:=if lf then decide (rkAt rk xs (b+i)<rk ky) else !decide (rk ky<rkAt rk xs (b+i))
theorem lt_two {x y:Keyed}{Q:Option Bool->SortSt->Prop}(U:ByRk P w A s kd xs0 rk)(Z:kindOf st=kd)(hx:x∈xs0.toList)(hy:y∈xs0.toList)(q:Q (some (decide (rk x<rk y))) st):wpS (model P w) A E s (lt' x y) Q st:=by
 rw [lt'_eq];refine wpS_bind (V9 ?_);rw [Z];exact wpS_bind (wpS_lift (V7 (U x hx y hy _ _ ⟨rfl,ul q⟩)))
theorem QO {xs:Array Keyed}{i:Nat}{x:Keyed}{Q:Keyed->SortSt->Prop}(e:xs[i]? =some x)(q:Q x st):wpS (model P w) A E s (elem' xs i) Q st:=by
 rw [elem'_eq,e];exact ul q
theorem qS {xs:Array Keyed}{i:Nat}{x:Keyed}(e:xs[i]? =some x):rkAt rk xs i=rk x:=by
 unfold rkAt;rw [e]
 rfl
theorem bey_ok {U:Bool}{ky:Keyed}{xs:Array Keyed}{b i:Nat}{Q:Option Bool->SortSt->Prop}(Z:ByRk P w A s kd xs0 rk)(hk:kindOf st=kd)(hy:ky∈xs0.toList)(hx:∃x,xs[b+i]? =some x/\x∈xs0.toList)
  (q:Q (some (bey rk U ky xs b i)) st):wpS (model P w) A E s (beyQ U ky xs b i) Q st:=by
 obtain⟨x,e,mx⟩:=hx;have er:=qS (rk:=rk) e;unfold beyQ;unfold bey at q;rw [er] at q;refine wpS_bind (QO e ?_);cases U with
 |true=>exact lt_two Z hk mx hy q
 |false=>exact wpS_bind (lt_two Z hk hy mx (ul q))
theorem gal {lf:Bool}{ky:Keyed}{xs:Array Keyed}{b n h:Nat}{Q:Option Nat->SortSt->Prop}(hc:ByRk P w A s kd xs0 rk)(hk:kindOf st=kd)(hy:ky∈xs0.toList)(hx:∀i,i<n->∃x,xs[b+i]? =some x/\x∈xs0.toList)(hh:h<n)
  (mo:∀i j,i<=j->j<n->bey rk lf ky xs b j=true->bey rk lf ky xs b i=true)
  (q:∀p,p<=n->(∀i,i<p->bey rk lf ky xs b i=true)->(∀i,p<=i->i<n->bey rk lf ky xs b i=false)->Q (some p) st):wpS (model P w) A E s (QE lf ky xs b n h) Q st:=by
 have nb:∀i j,i<=j->j<n->bey rk lf ky xs b i=false->bey rk lf ky xs b j=false:=fun i j ij jn e=>by
  cases e2:bey rk lf ky xs b j with
  |false=>rfl
  |true=>rw [mo i j ij jn e2] at e;cases e
 have fin:∀(l r:Nat) (c0:Option (Option Nat)×Nat×Nat),c0=(none,l,r)->l<=r->r<=n->(∀i,i<l->bey rk lf ky xs b i=true)->(∀i,r<=i->i<n->bey rk lf ky xs b i=false)->
   wpS (model P w) A E s (forIn [0:n] c0 fun _ c=>if c.2.1≥c.2.2 then pure (ForInStep.done (none,c.2.1,c.2.2)) else beyQ lf ky xs b (c.2.1+(c.2.2-c.2.1)/2)>>=fun v=>match v with|some m=>if m=true then pure (ForInStep.yield (none,c.2.1+(c.2.2-c.2.1)/2+1,c.2.2)) else pure (ForInStep.yield (none,c.2.1,c.2.1+(c.2.2-c.2.1)/2))|_=>pure (ForInStep.done (some none,c.2.1,c.2.2)))
    (fun c u=>u=st/\∃p,c=(none,p,p)/\p<=n/\(∀i,i<p->bey rk lf ky xs b i=true)/\∀i,p<=i->i<n->bey rk lf ky xs b i=false) st:=by
  intro l r c0 e0 lr rn h1 h2;refine wpS_forRange (I:=fun x c u=>u=st/\∃l r,c=(none,l,r)/\l<=r/\r<=n/\r-l<=n-x/\(∀i,i<l->bey rk lf ky xs b i=true)/\∀i,r<=i->i<n->bey rk lf ky xs b i=false) ?_ ?_ ⟨rfl,l,r,e0,lr,rn,by omega,h1,h2⟩
  ·rintro x c u _ xn ⟨rfl,l,r,rfl,c1,c2,c3,c4,c5⟩;dsimp only;by_cases Z:l≥r
   ·rw [if_pos Z];obtain rfl:l=r:=by omega
    exact ul ⟨rfl,l,rfl,c2,c4,c5⟩
   ·rw [if_neg Z];refine wpS_bind (bey_ok hc hk hy (hx _ (by omega)) ?_)
    cases e:bey rk lf ky xs b (l+(r-l)/2) with
    |true=>
     simp only [vg];exact ul ⟨rfl,_,r,rfl,by omega,c2,by omega,fun i hi=>mo i _ (by omega) (by omega) e,c5⟩
    |false=>
     simp only [ug,uU];exact ul ⟨rfl,l,_,rfl,by omega,by omega,by omega,c4,fun i h1 h2=>nb _ i h1 h2 e⟩
  ·rintro c u ⟨rfl,l,r,rfl,c1,c2,c3,c4,c5⟩;obtain rfl:l=r:=by omega
   exact⟨rfl,l,rfl,c2,c4,c5⟩
 rw [gallop'_eq];dsimp only;refine wpS_bind (bey_ok hc hk hy (hx h hh) ?_);cases e0:bey rk lf ky xs b h with
 |true=>
  simp only [vg];refine wpS_bind (wpS_mono (wpS_forRange (I:=fun x c u=>u=st/\∃U of,c=(none,U,of)/\x+1<=of/\U<of/\h+U<n/\bey rk lf ky xs b (h+U)=true) (Q:=fun c u=>u=st/\∃U of,c=(none,U,of)/\U<of/\h+U<n/\bey rk lf ky xs b (h+U)=true/\(n-h<=of∨h+of<n/\bey rk lf ky xs b (h+of)=false)) ?_ ?_ ⟨rfl,0,1,rfl,by omega,by omega,by omega,e0⟩) ?_)
  ·rintro x c u _ xn ⟨rfl,U,of,rfl,c1,c2,c3,c4⟩;dsimp only;by_cases Z:of≥n-h
   ·rw [if_pos Z];exact ul ⟨rfl,U,of,rfl,c2,c3,c4,.inl Z⟩
   ·rw [if_neg Z];refine wpS_bind (bey_ok hc hk hy (hx _ (by omega)) ?_)
    cases e:bey rk lf ky xs b (h+of) with
    |true=>
     simp only [US,ug,uU];exact ul ⟨rfl,of,_,rfl,by omega,by omega,by omega,e⟩
    |false=>
     simp only [Bool.not_false,vg];exact ul ⟨rfl,U,of,rfl,c2,c3,c4,.inr ⟨by omega,e⟩⟩
  ·rintro c u ⟨rfl,U,of,rfl,c1,c2,c3,c4⟩;exact⟨rfl,U,of,rfl,c2,c3,c4,.inl (by omega)⟩
  ·rintro c u ⟨rfl,U,of,rfl,c2,c3,c4,c5⟩;dsimp only;refine wpS_bind (wpS_mono (fin (h+U+1) (h+min of (n-h)) _ rfl (by omega) (by omega) (fun i hi=>mo i _ (by omega) c3 c4) fun i h1 h2=> ?_) ?_)
   ·rcases c5 with c5|⟨c5,c6⟩
    ·omega
    ·exact nb _ i (by omega) h2 c6
   ·rintro c u ⟨rfl,p,rfl,p1,p2,p3⟩;exact ul (q p p1 p2 p3)
 |false=>
  simp only [ug,uU];refine wpS_bind (wpS_mono (wpS_forRange (I:=fun x c u=>u=st/\∃U of,c=(none,U,of)/\x+1<=of/\U<of/\U<=h/\bey rk lf ky xs b (h-U)=false) (Q:=fun c u=>u=st/\∃U of,c=(none,U,of)/\U<of/\U<=h/\bey rk lf ky xs b (h-U)=false/\(h+1<=of∨of<=h/\bey rk lf ky xs b (h-of)=true)) ?_ ?_ ⟨rfl,0,1,rfl,by omega,by omega,by omega,e0⟩) ?_)
  ·rintro x c u _ xn ⟨rfl,U,of,rfl,c1,c2,c3,c4⟩;dsimp only;by_cases Z:of≥h+1
   ·rw [if_pos Z];exact ul ⟨rfl,U,of,rfl,c2,c3,c4,.inl Z⟩
   ·rw [if_neg Z];refine wpS_bind (bey_ok hc hk hy (hx _ (by omega)) ?_)
    cases e:bey rk lf ky xs b (h-of) with
    |true=>
     simp only [vg];exact ul ⟨rfl,U,of,rfl,c2,c3,c4,.inr ⟨by omega,e⟩⟩
    |false=>
     simp only [ug,uU];exact ul ⟨rfl,of,_,rfl,by omega,by omega,by omega,e⟩
  ·rintro c u ⟨rfl,U,of,rfl,c1,c2,c3,c4⟩;exact⟨rfl,U,of,rfl,c2,c3,c4,.inl (by omega)⟩
  ·rintro c u ⟨rfl,U,of,rfl,c2,c3,c4,c5⟩;dsimp only;refine wpS_bind (wpS_mono (fin (h+1-min of (h+1)) (h-U) _ rfl (by omega) (by omega) (fun i hi=> ?_) fun i h1 h2=>nb _ i h1 h2 c4) ?_)
   ·rcases c5 with c5|⟨c5,c6⟩
    ·omega
    ·exact mo i _ (by omega) (by omega) c6
   ·rintro c u ⟨rfl,p,rfl,p1,p2,p3⟩;exact ul (q p p1 p2 p3)
end
def yl:Nat->StateT SortSt Sem Unit:=sortPriv%PySem.Builtin.setMinGallop
def jz:Array Keyed->Array Keyed->StateT SortSt Sem (Array Keyed):=sortPriv%PySem.Builtin.mergeLo
def jA:Array Keyed->Array Keyed->StateT SortSt Sem (Array Keyed):=sortPriv%PySem.Builtin.mergeHi
def loD (x y o:Array Keyed)(i j:Nat):Array Keyed:=o++x.extract i x.size++y.extract j y.size
def loL (x y o:Array Keyed)(i j:Nat):Array Keyed:=o++y.extract j y.size++x.extract i x.size
theorem mergeLo'_eq (x y:Array Keyed):jz x y=(do
 rule "list.sort.merge-lo"
 let tt:=x.size+y.size
 let mut o:Array Keyed:= #[<-elem' y 0]
 let mut i:=0
 let mut j:=1
 if j==y.size then return loD x y o i j
 if i+1==x.size then return loL x y o i j
 let mut mg:=gallopOf (<-get)
 for _ in [0:tt] do
  let mut ca:=0
  let mut cb:=0
  for _ in [0:tt] do
   let some bw<-lt' (<-elem' y j) (<-elem' x i)|return loD x y o i j
   if bw then
    o:=o.push (<-elem' y j);j:=j+1;cb:=cb+1;ca:=0
    if j==y.size then return loD x y o i j
    if cb≥mg then break
   else
    o:=o.push (<-elem' x i);i:=i+1;ca:=ca+1;cb:=0
    if i+1==x.size then return loL x y o i j
    if ca≥mg then break
  rule "list.sort.gallop"
  mg:=mg+1
  for _ in [0:tt] do
   if mg>1 then mg:=mg-1
   yl mg
   let some k<-QE false (<-elem' y j) x i (x.size-i) 0|return loD x y o i j
   ca:=k
   if k>0 then
    o:=o++x.extract i (i+k);i:=i+k
    if i+1==x.size then return loL x y o i j
    if i==x.size then return loD x y o i j
   o:=o.push (<-elem' y j);j:=j+1
   if j==y.size then return loD x y o i j
   let some k<-QE true (<-elem' x i) y j (y.size-j) 0|return loD x y o i j
   cb:=k
   if k>0 then
    o:=o++y.extract j (j+k);j:=j+k
    if j==y.size then return loD x y o i j
   o:=o.push (<-elem' x i);i:=i+1
   if i+1==x.size then return loL x y o i j
   if ca<7&&cb<7 then break
  mg:=mg+1
  yl mg
 unsupported "internal:list.sort.merge-bound"):=rfl
section
variable {rk:Keyed->Nat}
abbrev Rr (rk:Keyed->Nat)(a b:Keyed):Prop:=rk a<=rk b
structure LI (rk:Keyed->Nat)(X Y O:List Keyed)(i j:Nat):Prop where
 pm:O.Perm (X.take i++Y.take j)
 so:O.Pairwise (Rr rk)
 lx:∀a∈O,∀b∈X.drop i,rk a<=rk b
 ly:∀a∈O,∀b∈Y.drop j,rk a<=rk b
theorem LI.swap {X Y O:List Keyed}{i j:Nat}(h:LI rk X Y O i j):LI rk Y X O j i:=⟨h.pm.trans U4,h.so,h.ly,h.lx⟩
theorem LI.push {X Y O:List Keyed}{i j:Nat}{y:Keyed}(hY:Y.Pairwise (Rr rk))(h:LI rk X Y O i j)(e:Y[j]? =some y)(hx:∀b∈X.drop i,rk y<=rk b):LI rk X Y (O++ [y]) i (j+1):=by
 have hj:j<Y.length:=(List.getElem?_eq_some_iff.mp e).1;have ey:Y[j]=y:=(List.getElem?_eq_some_iff.mp e).2;have ed:Y.drop j=y::Y.drop (j+1):=by rw [uD hj,ey]
 have Z:y∈Y.drop j:=by rw [ed];exact uo
 have aa:(Y.drop j).Pairwise (Rr rk):=uM (Uc _ _) hY;rw [ed] at aa;refine⟨?_,?_,fun a ha b U=> ?_,fun a ha b U=> ?_⟩
 ·rw [ut,e];have:=h.pm.append_right [y];rw [um] at this;exact this
 ·rw [uL];refine⟨h.so,UT ..,fun a ha b U=> ?_⟩;cases List.mem_singleton.mp U;exact h.ly a ha y Z
 ·rcases List.mem_append.mp ha with ha|ha
  ·exact h.lx a ha b U
  ·cases List.mem_singleton.mp ha;exact hx b U
 ·rcases List.mem_append.mp ha with ha|ha
  ·exact h.ly a ha b (by rw [ed];exact ue _ U)
  ·cases List.mem_singleton.mp ha;exact List.rel_of_pairwise_cons aa U
theorem LI.pushX {X Y O:List Keyed}{i j:Nat}{x:Keyed}(U:X.Pairwise (Rr rk))(h:LI rk X Y O i j)(e:X[i]? =some x)(Z:∀b∈Y.drop j,rk x<=rk b):LI rk X Y (O++ [x]) (i+1) j:=(h.swap.push U e Z).swap
theorem LI.many {X Y O:List Keyed}{i j:Nat}(Z:Y.Pairwise (Rr rk))(h:LI rk X Y O i j):∀k:Nat,j+k<=Y.length->(∀m,m<k->∀y,Y[j+m]? =some y->∀b∈X.drop i,rk y<=rk b)->LI rk X Y (O++(Y.drop j).take k) i (j+k)
 |0,_,_=>by simpa using h
 |k+1,hk,hx=>by
  have ih:=LI.many Z h k (by omega) fun m hm=>hx m (by omega)
  have U:j+k<Y.length:=by omega
  have e:=u4 U;have:=ih.push Z e (hx k (by omega) _ e)
  have et:(Y.drop j).take (k+1)=(Y.drop j).take k++ [Y[j+k]]:=by
   rw [ut,vx,e]
   rfl
  rw [et,<-um];exact this
theorem LI.manyX {X Y O:List Keyed}{i j:Nat}(U:X.Pairwise (Rr rk))(h:LI rk X Y O i j)(k:Nat)(Z:i+k<=X.length)(hy:∀m,m<k->∀x,X[i+m]? =some x->∀b∈Y.drop j,rk x<=rk b):LI rk X Y (O++(X.drop i).take k) (i+k) j:=(h.swap.many U k Z hy).swap
def Fin' (rk:Keyed->Nat)(X Y R:List Keyed):Prop:=R.Perm (X++Y)/\R.Pairwise (Rr rk)
theorem LI.endY {X Y O:List Keyed}{i j:Nat}(Z:X.Pairwise (Rr rk))(h:LI rk X Y O i j)(e:Y.length<=j):Fin' rk X Y (O++X.drop i):=by
 refine⟨?_,?_⟩
 ·have h1:=h.pm;rw [uT e] at h1;have h2:=h1.append_right (X.drop i);rw [um] at h2;refine h2.trans ?_;have U:(X.take i++(Y++X.drop i)).Perm (X.take i++(X.drop i++Y)):=List.perm_append_comm.append_left _;rw [<-um,<-um,uu] at U;rw [<-um];exact U
 ·rw [uL];exact⟨h.so,uM (Uc _ _) Z,h.lx⟩
theorem Fin'.swap {X Y R:List Keyed}(h:Fin' rk X Y R):Fin' rk Y X R:=⟨h.1.trans U4,h.2⟩
theorem LI.endX {X Y O:List Keyed}{i j:Nat}(hX:X.Pairwise (Rr rk))(hY:Y.Pairwise (Rr rk))(h:LI rk X Y O i j)(hl:∀b∈Y,∀x∈X.drop i,rk b<=rk x):Fin' rk X Y (O++Y.drop j++X.drop i):=by
 refine⟨?_,?_⟩
 ·have h2:=(h.pm.append_right (Y.drop j)).append_right (X.drop i);rw [um (X.take i),uu,um (X.take i)] at h2;refine h2.trans ?_;have U:(X.take i++(Y++X.drop i)).Perm (X.take i++(X.drop i++Y)):=List.perm_append_comm.append_left _;rw [<-um (X.take i) (X.drop i),uu] at U;exact U
 ·rw [uL];refine⟨?_,uM (Uc _ _) hX,fun a ha b Z=> ?_⟩
  ·rw [uL];exact⟨h.so,uM (Uc _ _) hY,h.ly⟩
  ·rcases List.mem_append.mp ha with ha|ha
   ·exact h.lx a ha b Z
   ·exact hl a (Ux ha) b Z
end
abbrev LoS:=Option (Array Keyed)×Array Keyed×Nat×Nat×Nat×Nat×Nat
abbrev LoT:=Option (Array Keyed)×Array Keyed×Nat×Nat×Nat×Nat
def loC (x y o:Array Keyed)(i j mg ca k:Nat):StateT SortSt Sem (ForInStep LoS):=do
 let u<-elem' x i
 if(i+1+1==x.size)=true then pure (ForInStep.done (some (loL x y (o.push u) (i+1) j),o.push u,i+1,j,mg,ca,k))
 else if(decide (ca<7)&&decide (k<7))=true then pure (ForInStep.done (none,o.push u,i+1,j,mg,ca,k)) else pure (ForInStep.yield (none,o.push u,i+1,j,mg,ca,k))
def loB (x y o:Array Keyed)(i j mg ca cb:Nat):StateT SortSt Sem (ForInStep LoS):=do
 let u<-elem' y j
 if(j+1==y.size)=true then pure (ForInStep.done (some (loD x y (o.push u) i (j+1)),o.push u,i,j+1,mg,ca,cb))
 else do
  let v<-elem' x i
  let z<-QE true v y (j+1) (y.size-(j+1)) 0
  match z with
  |some k=>
   if k>0 then
    if(j+1+k==y.size)=true then pure (ForInStep.done (some (loD x y (o.push u++y.extract (j+1) (j+1+k)) i (j+1+k)),o.push u++y.extract (j+1) (j+1+k),i,j+1+k,mg,ca,k))
    else loC x y (o.push u++y.extract (j+1) (j+1+k)) i (j+1+k) mg ca k
   else loC x y (o.push u) i (j+1) mg ca k
  |_=>pure (ForInStep.done (some (loD x y (o.push u) i (j+1)),o.push u,i,j+1,mg,ca,cb))
def loA (x y o:Array Keyed)(i j mg ca cb:Nat):StateT SortSt Sem (ForInStep LoS):=do
 yl mg
 let v<-elem' y j
 let z<-QE false v x i (x.size-i) 0
 match z with
 |some k=>
  if k>0 then
   if(i+k+1==x.size)=true then pure (ForInStep.done (some (loL x y (o++x.extract i (i+k)) (i+k) j),o++x.extract i (i+k),i+k,j,mg,k,cb))
   else if(i+k==x.size)=true then pure (ForInStep.done (some (loD x y (o++x.extract i (i+k)) (i+k) j),o++x.extract i (i+k),i+k,j,mg,k,cb))
   else loB x y (o++x.extract i (i+k)) (i+k) j mg k cb
  else loB x y o i j mg k cb
 |_=>pure (ForInStep.done (some (loD x y o i j),o,i,j,mg,ca,cb))
def loY (x y o:Array Keyed)(i j ca cb mg:Nat):StateT SortSt Sem (ForInStep LoT):=do
 let u<-elem' y j
 let v<-elem' x i
 let z<-lt' u v
 match z with
 |some bw=>
  if bw=true then do
   let u<-elem' y j
   if(j+1==y.size)=true then pure (ForInStep.done (some (loD x y (o.push u) i (j+1)),o.push u,i,j+1,0,cb+1))
   else if cb+1≥mg then pure (ForInStep.done (none,o.push u,i,j+1,0,cb+1)) else pure (ForInStep.yield (none,o.push u,i,j+1,0,cb+1))
  else do
   let u<-elem' x i
   if(i+1+1==x.size)=true then pure (ForInStep.done (some (loL x y (o.push u) (i+1) j),o.push u,i+1,j,ca+1,0))
   else if ca+1≥mg then pure (ForInStep.done (none,o.push u,i+1,j,ca+1,0)) else pure (ForInStep.yield (none,o.push u,i+1,j,ca+1,0))
 |_=>pure (ForInStep.done (some (loD x y o i j),o,i,j,ca,cb))
theorem JF (x y:Array Keyed):jz x y=(do
 rule "list.sort.merge-lo"
 let o<-elem' y 0
 if(1==y.size)=true then pure (loD x y #[o] 0 1)
 else if(0+1==x.size)=true then pure (loL x y #[o] 0 1)
 else do
  let g<-get
  let r<-forIn [0:x.size+y.size] ((none,#[o],0,1,gallopOf g):Option (Array Keyed)×Array Keyed×Nat×Nat×Nat) fun _ c=>do
   let d<-forIn [0:x.size+y.size] ((none,c.2.1,c.2.2.1,c.2.2.2.1,0,0):LoT) fun _ d=>loY x y d.2.1 d.2.2.1 d.2.2.2.1 d.2.2.2.2.1 d.2.2.2.2.2 c.2.2.2.2
   match d.1 with
   |some r=>pure (ForInStep.done (some r,d.2.1,d.2.2.1,d.2.2.2.1,c.2.2.2.2))
   |none=>do
    rule "list.sort.gallop"
    let e<-forIn [0:x.size+y.size] ((none,d.2.1,d.2.2.1,d.2.2.2.1,c.2.2.2.2+1,d.2.2.2.2.1,d.2.2.2.2.2):LoS) fun _ e=>if e.2.2.2.2.1>1 then loA x y e.2.1 e.2.2.1 e.2.2.2.1 (e.2.2.2.2.1-1) e.2.2.2.2.2.1 e.2.2.2.2.2.2 else loA x y e.2.1 e.2.2.1 e.2.2.2.1 e.2.2.2.2.1 e.2.2.2.2.2.1 e.2.2.2.2.2.2
    match e.1 with
    |some r=>pure (ForInStep.done (some r,e.2.1,e.2.2.1,e.2.2.2.1,e.2.2.2.2.1))
    |none=>do
     yl (e.2.2.2.2.1+1)
     pure (ForInStep.yield (none,e.2.1,e.2.2.1,e.2.2.2.1,e.2.2.2.2.1+1))
  match r.1 with
  |some r=>pure r
  |none=>unsupported "internal:list.sort.merge-bound"):=by
 rw [mergeLo'_eq];unfold loA loB loC loY;dsimp only;refine bind_congr fun _=> ?_;refine bind_congr fun o0=> ?_;refine ite_congr rfl (fun _=>rfl) fun _=> ?_;refine ite_congr rfl (fun _=>rfl) fun _=> ?_;refine bind_congr fun g0=> ?_;have U:∀{α β:Type}{m Z:StateT SortSt Sem α}{f f':α->StateT SortSt Sem β},m=Z->(∀a,f a=f' a)->(m>>=f)=(Z>>=f'):=fun h1 h2=>by rw [h1,funext h2]
 refine U ?_ ?_
 ·refine congrArg _ (funext fun a=>funext fun c=> ?_);refine U ?_ ?_
  ·refine congrArg _ (funext fun a=>funext fun d=> ?_);refine U rfl fun u=>U rfl fun v=>U rfl fun z=> ?_;cases z with
   |none=>rfl
   |some bw=>rfl
  ·rintro⟨d1,d⟩;cases d1 with
   |some r=>rfl
   |none=>
    dsimp only;refine U rfl fun _=> ?_;refine U ?_ ?_
    ·refine congrArg _ (funext fun a=>funext fun e=> ?_);refine ite_congr rfl (fun _=> ?_) fun _=> ?_
     ·refine U rfl fun _=>U rfl fun v=>U rfl fun z=> ?_;cases z with
      |none=>rfl
      |some k=>
       dsimp only
       all_goals (refine ite_congr rfl (fun _=> ?_) fun _=> ?_)
       all_goals (try refine ite_congr rfl (fun _=>rfl) fun _=>ite_congr rfl (fun _=>rfl) fun _=> ?_)
       all_goals (refine U rfl fun u=>ite_congr rfl (fun _=>rfl) fun _=>U rfl fun v=>U rfl fun z=> ?_;cases z<;>rfl)
     ·refine U rfl fun _=>U rfl fun v=>U rfl fun z=> ?_;cases z with
      |none=>rfl
      |some k=>
       dsimp only
       all_goals (refine ite_congr rfl (fun _=> ?_) fun _=> ?_)
       all_goals (try refine ite_congr rfl (fun _=>rfl) fun _=>ite_congr rfl (fun _=>rfl) fun _=> ?_)
       all_goals (refine U rfl fun u=>ite_congr rfl (fun _=>rfl) fun _=>U rfl fun v=>U rfl fun z=> ?_;cases z<;>rfl)
    ·rintro⟨e1,e⟩;cases e1 with
     |some r=>rfl
     |none=>rfl
 ·rintro⟨r1,r⟩;cases r1 with
  |some r=>rfl
  |none=>rfl
section
variable {P:Program}{w:World}{A:Around}{E:Value->Shared->Prop}{s:Shared}{kd:SortKind}{xs0:Array Keyed}{rk:Keyed->Nat}{st:SortSt}
def GK (st u:SortSt):Prop:=kindOf u=kindOf st/\arrOf u=arrOf st/\pendingOf u=pendingOf st/\failedOf u=failedOf st
theorem GK.refl (st:SortSt):GK st st:=⟨rfl,rfl,rfl,rfl⟩
theorem xz {g:Nat}{Q:Unit->SortSt->Prop}(q:∀u,GK st u->Q () u):wpS (model P w) A E s (yl g) Q st:=by
 show wpS _ _ _ _ (modify fun v=>SortSt.mk' (kindOf v) (arrOf v) (pendingOf v) g (failedOf v)) Q st;exact UJ (q _ ⟨rfl,rfl,rfl,rfl⟩)
theorem GK.trans {a b c:SortSt}(h:GK a b)(k:GK b c):GK a c:=⟨k.1.trans h.1,k.2.1.trans h.2.1,k.2.2.1.trans h.2.2.1,k.2.2.2.trans h.2.2.2⟩
structure MOk (rk:Keyed->Nat)(xs0:Array Keyed)(x y:Array Keyed):Prop where
 sx:x.toList.Pairwise (Rr rk)
 sy:y.toList.Pairwise (Rr rk)
 nx:0<x.size
 ny:0<y.size
 ix:∀a∈x.toList,a∈xs0.toList
 iy:∀a∈y.toList,a∈xs0.toList
 fst:∀a∈x.toList,∀b,y[0]? =some b->rk b<=rk a
 lst:∀a∈y.toList,∀b,x[x.size-1]? =some b->rk a<=rk b
theorem ju {x:Array Keyed}(h:x.toList.Pairwise (Rr rk)){i j:Nat}(Z:i<=j)(U:j<x.size):rkAt rk x i<=rkAt rk x j:=by
 have e1:x[i]? =some x[i]:=by simp [vL Z U]
 have e2:x[j]? =some x[j]:=by simp [U]
 rw [qS e1,qS e2];rcases vc i j with h1|h1
 ·have:=List.pairwise_iff_getElem.mp h i j (by simpa using Nat.lt_trans h1 U) (by simpa using U) h1
  simpa using this
 ·have:i=j:=by omega
  subst this;exact u8 _
theorem Qq {x:Array Keyed}{i:Nat}(h:i<x.size):∃a,x[i]? =some a/\x.toList[i]? =some a/\a∈x.toList:=⟨x[i],by simp [h],by simp [h],by simp⟩
theorem jP {x:Array Keyed}{i:Nat}{b:Keyed}(h:b∈x.toList.drop i):∃j,i<=j/\j<x.size/\x[j]? =some b:=by
 obtain⟨m,hm⟩:=List.mem_iff_getElem?.mp h;rw [vx] at hm;have:=(List.getElem?_eq_some_iff.mp hm).1;exact⟨i+m,by omega,by simpa using this,by simpa using hm⟩
theorem ext_list (x:Array Keyed)(i k:Nat):(x.extract i (i+k)).toList=(x.toList.drop i).take k:=by
 rw [U7,vH]
 congr 1
 omega
theorem xV (x:Array Keyed)(i:Nat):(x.extract i x.size).toList=x.toList.drop i:=by
 rw [U7,vH];exact uT (by rw [ve,Array.length_toList];omega)
theorem loD_list (x y o:Array Keyed)(i j:Nat):(loD x y o i j).toList=o.toList++x.toList.drop i++y.toList.drop j:=by
 unfold loD;rw [uw,uw,xV,xV]
theorem loL_list (x y o:Array Keyed)(i j:Nat):(loL x y o i j).toList=o.toList++y.toList.drop j++x.toList.drop i:=by
 unfold loL;rw [uw,uw,xV,xV]
theorem fin_D {x y o:Array Keyed}{i j:Nat}(M:MOk rk xs0 x y)(h:LI rk x.toList y.toList o.toList i j)(e:y.size<=j):Fin' rk x.toList y.toList (loD x y o i j).toList:=by
 have:=h.endY M.sx (by simpa using e)
 rw [loD_list,vX (as:=y.toList) (by simpa using e),vU]
 exact this
theorem fin_D2 {x y o:Array Keyed}{i j:Nat}(M:MOk rk xs0 x y)(h:LI rk x.toList y.toList o.toList i j)(e:x.size<=i):Fin' rk x.toList y.toList (loD x y o i j).toList:=by
 have:=(h.swap.endY M.sy (by simpa using e)).swap
 rw [loD_list,vX (as:=x.toList) (by simpa using e),vU]
 exact this
theorem fin_L {x y o:Array Keyed}{i j:Nat}(M:MOk rk xs0 x y)(h:LI rk x.toList y.toList o.toList i j)(e:i+1=x.size):Fin' rk x.toList y.toList (loL x y o i j).toList:=by
 rw [loL_list];refine h.endX M.sx M.sy fun b U a ha=> ?_;obtain⟨m,m1,m2,Z⟩:=jP ha;exact M.lst b U a (by rw [show x.size-1=m by omega];exact Z)
def PoS (rk:Keyed->Nat)(st:SortSt)(x y:Array Keyed)(m:Nat)(c:LoS):Prop:=match c.1 with
 |some r=>Fin' rk x.toList y.toList r.toList
 |none=>LI rk x.toList y.toList c.2.1.toList c.2.2.1 c.2.2.2.1/\c.2.2.1+1<x.size/\c.2.2.2.1<y.size/\m<=c.2.2.1+c.2.2.2.1
def PoR (rk:Keyed->Nat)(st:SortSt)(x y:Array Keyed)(m:Nat)(r:ForInStep LoS)(u:SortSt):Prop:=GK st u/\match r with
 | .done c=>PoS rk st x y m c
 | .yield c=>c.1=none/\PoS rk st x y m c
theorem lo_C {x y o:Array Keyed}{i j mg ca k m:Nat}{u:SortSt}(M:MOk rk xs0 x y)(U:GK st u)(h:LI rk x.toList y.toList o.toList i j)(hi:i+1<x.size)(hj:j<y.size)(hm:m<=i+j+1)(Z:∀b∈y.toList.drop j,rkAt rk x i<=rk b):
  wpS (model P w) A E s (loC x y o i j mg ca k) (PoR rk st x y m) u:=by
 unfold loC;obtain⟨a,e1,e2,e3⟩:=Qq (x:=x) (i:=i) (by omega)
 refine wpS_bind (QO e1 ?_);have er:=qS (rk:=rk) e1;have h2:=h.pushX M.sx e2 (fun b hb=>by rw [<-er];exact Z b hb)
 rw [<-uX] at h2;by_cases c1:i+1+1=x.size
 ·rw [if_pos (by simpa using c1)]
  exact ul ⟨U,fin_L M h2 c1⟩
 ·rw [if_neg (by simpa using c1)]
  by_cases c2:(decide (ca<7)&&decide (k<7))=true
  ·rw [if_pos c2];exact ul ⟨U,h2,by show i+1+1<_;omega,hj,by show m<=i+1+j;omega⟩
  ·rw [if_neg c2];exact ul ⟨U,rfl,h2,by show i+1+1<_;omega,hj,by show m<=i+1+j;omega⟩
theorem lo_B {x y o:Array Keyed}{i j mg ca cb m:Nat}{u:SortSt}(hc:ByRk P w A s kd xs0 rk)(hk:kindOf st=kd)(M:MOk rk xs0 x y)(Z:GK st u)(h:LI rk x.toList y.toList o.toList i j)(hi:i+1<x.size)(hj:j<y.size)(hm:m<=i+j+1)(aa:∀b∈x.toList.drop i,rkAt rk y j<=rk b):
  wpS (model P w) A E s (loB x y o i j mg ca cb) (PoR rk st x y m) u:=by
 unfold loB;obtain⟨b,e1,e2,e3⟩:=Qq (x:=y) (i:=j) hj;refine wpS_bind (QO e1 ?_);have er:=qS (rk:=rk) e1;have h2:=h.push M.sy e2 (fun a ha=>by rw [<-er];exact aa a ha)
 rw [<-uX] at h2;by_cases c1:j+1=y.size
 ·rw [if_pos (by simpa using c1)]
  exact ul ⟨Z,fin_D M h2 (by omega)⟩
 rw [if_neg (by simpa using c1)]
 obtain⟨a,f1,f2,f3⟩:=Qq (x:=x) (i:=i) (by omega)
 have fr:=qS (rk:=rk) f1;refine wpS_bind (QO f1 ?_);refine wpS_bind (gal hc (Z.1.trans hk) (M.ix a f3) (fun n hn=> ?_) (by omega) (fun n n' nn hn e=> ?_) fun k k1 k2 k3=> ?_)
 ·obtain⟨b',g1,g2,g3⟩:=Qq (x:=y) (i:=j+1+n) (by omega)
  exact⟨b',g1,M.iy b' g3⟩
 ·have:=ju M.sy (i:=j+1+n) (j:=j+1+n') (by omega) (by omega)
  simp only [bey,vg,uZ] at e⊢;omega
 dsimp only;have step:∀n,n<k->rkAt rk y (j+1+n)<rk a:=fun n hn=>by
  have:=k2 n hn
  simpa [bey] using this
 have rest:∀n,k<=n->j+1+n<y.size->rk a<=rkAt rk y (j+1+n):=fun n hn hy=>by
  have:=k3 n hn (by omega)
  simp only [bey,vg,uE] at this;omega
 have hC:∀b∈y.toList.drop (j+1+k),rkAt rk x i<=rk b:=fun b' U=>by
  obtain⟨t,t1,t2,et⟩:=jP U;have:=rest (t-(j+1)) (by omega) (by omega)
  rw [show j+1+(t-(j+1))=t by omega,qS et] at this
  rw [fr];exact this
 by_cases ck:k>0
 ·rw [if_pos ck];have h3:=h2.many M.sy k (by rw [Array.length_toList];omega) fun n hn y' ac b' U=>by
   have e5:rkAt rk y (j+1+n)=rk y':=qS (by simpa using ac)
   have:=step n hn;obtain⟨t,t1,t2,et⟩:=jP U;have:=ju M.sx (i:=i) (j:=t) t1 t2;rw [qS et,fr] at this;omega
  rw [<-ext_list,<-uw] at h3;by_cases c2:j+1+k=y.size
  ·rw [if_pos (by simpa using c2)]
   exact ul ⟨Z,fin_D M h3 (by omega)⟩
  ·rw [if_neg (by simpa using c2)]
   exact lo_C M Z h3 hi (by omega) (by omega) hC
 ·rw [if_neg ck];obtain rfl:k=0:=by omega
  exact lo_C M Z h2 hi (by omega) (by omega) hC
theorem lo_A {x y o:Array Keyed}{i j mg ca cb m:Nat}{u:SortSt}(hc:ByRk P w A s kd xs0 rk)(hk:kindOf st=kd)(M:MOk rk xs0 x y)(hu:GK st u)(h:LI rk x.toList y.toList o.toList i j)(hi:i+1<x.size)(hj:j<y.size)(hm:m<=i+j+1):
  wpS (model P w) A E s (loA x y o i j mg ca cb) (PoR rk st x y m) u:=by
 unfold loA;refine wpS_bind (xz fun v U=> ?_);have U:=hu.trans U;obtain⟨b,f1,f2,f3⟩:=Qq (x:=y) (i:=j) hj;have fr:=qS (rk:=rk) f1;refine wpS_bind (QO f1 ?_);refine wpS_bind (gal hc (U.1.trans hk) (M.iy b f3) (fun n hn=> ?_) (by omega) (fun n n' nn hn e=> ?_) fun k k1 k2 k3=> ?_)
 ·obtain⟨b',g1,g2,g3⟩:=Qq (x:=x) (i:=i+n) (by omega)
  exact⟨b',g1,M.ix b' g3⟩
 ·have:=ju M.sx (i:=i+n) (j:=i+n') (by omega) (by omega)
  simp only [bey,ug,uU,vE,uE] at e⊢;omega
 dsimp only;have step:∀n,n<k->rkAt rk x (i+n)<=rk b:=fun n hn=>by
  have:=k2 n hn;simp only [bey,ug,uU,vE,uE] at this;omega
 have hB:∀a∈x.toList.drop (i+k),rkAt rk y j<=rk a:=fun a' aa=>by
  obtain⟨t,t1,t2,et⟩:=jP aa;have:=k3 (t-i) (by omega) (by omega)
  simp only [bey,ug,uU,UU,uZ] at this;rw [show i+(t-i)=t by omega,qS et] at this
  rw [fr];omega
 by_cases ck:k>0
 ·rw [if_pos ck];have Z:=h.manyX M.sx k (by rw [Array.length_toList];omega) fun n hn x' ac b' ad=>by
   have e5:rkAt rk x (i+n)=rk x':=qS (by simpa using ac)
   have:=step n hn;obtain⟨t,t1,t2,et⟩:=jP ad;have:=ju M.sy (i:=j) (j:=t) t1 t2;rw [qS et,fr] at this;omega
  rw [<-ext_list,<-uw] at Z;by_cases c1:i+k+1=x.size
  ·rw [if_pos (by simpa using c1)]
   exact ul ⟨U,fin_L M Z c1⟩
  ·rw [if_neg (by simpa using c1)]
   by_cases c2:i+k=x.size
   ·rw [if_pos (by simpa using c2)]
    exact ul ⟨U,fin_D2 M Z (by omega)⟩
   ·rw [if_neg (by simpa using c2)]
    exact lo_B hc hk M U Z (by omega) hj (by omega) hB
 ·rw [if_neg ck];obtain rfl:k=0:=by omega
  exact lo_B hc hk M U h hi hj hm hB
def PoT (rk:Keyed->Nat)(x y:Array Keyed)(m:Nat)(c:LoT):Prop:=match c.1 with
 |some r=>Fin' rk x.toList y.toList r.toList
 |none=>LI rk x.toList y.toList c.2.1.toList c.2.2.1 c.2.2.2.1/\c.2.2.1+1<x.size/\c.2.2.2.1<y.size/\m<=c.2.2.1+c.2.2.2.1
theorem lo_Y {x y o:Array Keyed}{i j mg ca cb m:Nat}{u:SortSt}(hc:ByRk P w A s kd xs0 rk)(hk:kindOf u=kd)(M:MOk rk xs0 x y)(h:LI rk x.toList y.toList o.toList i j)(hi:i+1<x.size)(hj:j<y.size)(hm:m<=i+j):
  wpS (model P w) A E s (loY x y o i j ca cb mg) (fun r v=>v=u/\match r with| .done c=>PoT rk x y m c| .yield c=>c.1=none/\PoT rk x y m c) u:=by
 unfold loY;obtain⟨b,e1,e2,e3⟩:=Qq (x:=y) (i:=j) hj;obtain⟨a,f1,f2,f3⟩:=Qq (x:=x) (i:=i) (by omega)
 refine wpS_bind (QO e1 (wpS_bind (QO f1 (wpS_bind (lt_two hc hk (M.iy b e3) (M.ix a f3) ?_)))));have er:=qS (rk:=rk) e1;have fr:=qS (rk:=rk) f1;dsimp only;by_cases le:rk b<rk a
 ·rw [u9 le];simp only [vg];refine wpS_bind (QO e1 ?_);have h2:=h.push M.sy e2 (fun a' ha=>by
   obtain⟨t,t1,t2,et⟩:=jP ha;have:=ju M.sx (i:=i) (j:=t) t1 t2;rw [qS et,fr] at this;omega)
  rw [<-uX] at h2;by_cases U:j+1=y.size
  ·rw [if_pos (by simpa using U)]
   exact ul ⟨rfl,fin_D M h2 (by omega)⟩
  ·rw [if_neg (by simpa using U)]
   by_cases Z:cb+1≥mg
   ·rw [if_pos Z];exact ul ⟨rfl,h2,hi,by show j+1<_;omega,by show m<=i+(j+1);omega⟩
   ·rw [if_neg Z];exact ul ⟨rfl,rfl,h2,hi,by show j+1<_;omega,by show m<=i+(j+1);omega⟩
 ·rw [ua le];simp only [ug,uU];refine wpS_bind (QO f1 ?_);have h2:=h.pushX M.sx f2 (fun b' hb=>by
   obtain⟨t,t1,t2,et⟩:=jP hb;have:=ju M.sy (i:=j) (j:=t) t1 t2;rw [qS et,er] at this;omega)
  rw [<-uX] at h2;by_cases U:i+1+1=x.size
  ·rw [if_pos (by simpa using U)]
   exact ul ⟨rfl,fin_L M h2 U⟩
  ·rw [if_neg (by simpa using U)]
   by_cases Z:ca+1≥mg
   ·rw [if_pos Z];exact ul ⟨rfl,h2,by show i+1+1<_;omega,hj,by show m<=i+1+j;omega⟩
   ·rw [if_neg Z];exact ul ⟨rfl,rfl,h2,by show i+1+1<_;omega,hj,by show m<=i+1+j;omega⟩
theorem merge_lo {x y:Array Keyed}{Q:Array Keyed->SortSt->Prop}(hc:ByRk P w A s kd xs0 rk)(hk:kindOf st=kd)(M:MOk rk xs0 x y)(q:∀r u,Fin' rk x.toList y.toList r.toList->GK st u->Q r u):wpS (model P w) A E s (jz x y) Q st:=by
 rw [JF];have nx:=M.nx;have ny:=M.ny;refine wpS_bind (wpS_lift (wpAny_rule ⟨rfl,?_⟩));obtain⟨b,e1,e2,e3⟩:=Qq (x:=y) (i:=0) ny;refine wpS_bind (QO e1 ?_);have h0:LI rk x.toList y.toList ([]:List Keyed) 0 0:=⟨by simp,List.Pairwise.nil,fun a ha=>by simp at ha,fun a ha=>by simp at ha⟩
 have h1:=h0.push M.sy e2 (fun a ha=>M.fst a (by simpa using ha) b e1)
 have h1:LI rk x.toList y.toList (#[b]:Array Keyed).toList 0 1:=h1;by_cases c1:1=y.size
 ·rw [if_pos (by simpa using c1)]
  exact ul (q _ _ (fin_D M h1 (by omega)) (GK.refl _))
 rw [if_neg (by simpa using c1)]
 by_cases c2:0+1=x.size
 ·rw [if_pos (by simpa using c2)]
  exact ul (q _ _ (fin_L M h1 c2) (GK.refl _))
 rw [if_neg (by simpa using c2)]
 refine wpS_bind (V9 ?_);refine wpS_bind (wpS_mono (wpS_forRange (I:=fun t c u=>GK st u/\c.1=none/\LI rk x.toList y.toList c.2.1.toList c.2.2.1 c.2.2.2.1/\c.2.2.1+1<x.size/\c.2.2.2.1<y.size/\t<=c.2.2.1+c.2.2.2.1) (Q:=fun c u=>GK st u/\∃r,c.1=some r/\Fin' rk x.toList y.toList r.toList) ?_ ?_ ⟨GK.refl _,rfl,h1,by show 0+1<_;omega,by show 1<_;omega,vh _⟩) ?_)
 ·rintro t ⟨c0,o,i,j,mg⟩ u _ ht ⟨hu,rfl,hl,hi,hj,hm⟩;dsimp only at hl hi hj hm⊢;refine wpS_bind (wpS_mono (wpS_forRange (I:=fun _ d v=>v=u/\d.1=none/\PoT rk x y t d) (Q:=fun d v=>v=u/\PoT rk x y t d) ?_ ?_ ⟨rfl,rfl,hl,hi,hj,hm⟩) ?_)
  ·rintro t' ⟨d0,o',i',j',ca,cb⟩ v _ _ ⟨rfl,rfl,g1,g2,g3,g4⟩;refine wpS_mono (lo_Y hc (hu.1.trans hk) M g1 g2 g3 g4) fun r Z ⟨ev,hr⟩=> ?_;cases r with
   |done c=>exact⟨ev,hr⟩
   |yield c=>exact⟨ev,hr⟩
  ·rintro d v ⟨ev,_,hd⟩;exact⟨ev,hd⟩
  ·rintro⟨d0,o',i',j',ca,cb⟩ v ⟨rfl,hd⟩;cases d0 with
   |some r=>exact ul ⟨hu,r,rfl,hd⟩
   |none=>
    obtain⟨g1,g2,g3,g4⟩:=hd;dsimp only at g1 g2 g3 g4⊢;refine wpS_bind (wpS_lift (wpAny_rule ⟨rfl,?_⟩));refine wpS_bind (wpS_mono (wpS_forRange (I:=fun n e Z=>GK st Z/\e.1=none/\PoS rk st x y (if n=0 then t else t+1) e) (Q:=fun e Z=>GK st Z/\PoS rk st x y (t+1) e) ?_ ?_ ⟨hu,rfl,g1,g2,g3,g4⟩) ?_)
    ·rintro n ⟨e0,o2,i2,j2,ae,aa,ac⟩ Z _ _ ⟨U,rfl,p1,p2,p3,p4⟩;dsimp only at p1 p2 p3 p4;have af:∀ad,wpS (model P w) A E s (loA x y o2 i2 j2 ad aa ac) (PoR rk st x y (t+1)) Z:=fun ad=>lo_A (m:=t+1) hc hk M U p1 p2 p3 (by split at p4<;>omega)
     dsimp only;split
     all_goals
      refine wpS_mono (af _) fun r ag ⟨hg,hr⟩=> ?_;cases r with
      |done c=>exact⟨hg,hr⟩
      |yield c=>exact⟨hg,hr.1,by rw [if_neg (by omega)];exact hr.2⟩
    ·rintro e Z ⟨U,he,hp⟩;refine⟨U,?_⟩;rw [if_neg (by omega)] at hp
     exact hp
    ·rintro⟨e0,o2,i2,j2,ae,aa,ac⟩ Z ⟨U,hp⟩;cases e0 with
     |some r=>exact ul ⟨U,r,rfl,hp⟩
     |none=>
      obtain⟨p1,p2,p3,p4⟩:=hp;refine wpS_bind (xz fun ag hg=>ul ⟨U.trans hg,rfl,p1,p2,p3,p4⟩)
 ·rintro⟨c0,o,i,j,mg⟩ u ⟨hu,rfl,hl,hi,hj,hm⟩;exfalso;dsimp only at hi hj hm;omega
 ·rintro⟨c0,o,i,j,mg⟩ u ⟨hu,r,e,hr⟩;cases e;exact ul (q r u hr hu)
end
def hiD (x y o:Array Keyed)(i j:Nat):Array Keyed:=x.extract 0 i++y.extract 0 j++o.reverse
def hiF (x y o:Array Keyed)(i j:Nat):Array Keyed:=y.extract 0 j++x.extract 0 i++o.reverse
theorem mergeHi'_eq (x y:Array Keyed):jA x y=(do
 rule "list.sort.merge-hi"
 let tt:=x.size+y.size
 let mut i:=x.size-1
 let mut j:=y.size
 let mut o:Array Keyed:= #[<-elem' x i]
 if i==0 then return hiD x y o i j
 if j==1 then return hiF x y o i j
 let mut mg:=gallopOf (<-get)
 for _ in [0:tt] do
  let mut ca:=0
  let mut cb:=0
  for _ in [0:tt] do
   let some aw<-lt' (<-elem' y (j-1)) (<-elem' x (i-1))|return hiD x y o i j
   if aw then
    i:=i-1;o:=o.push (<-elem' x i);ca:=ca+1;cb:=0
    if i==0 then return hiD x y o i j
    if ca≥mg then break
   else
    j:=j-1;o:=o.push (<-elem' y j);cb:=cb+1;ca:=0
    if j==1 then return hiF x y o i j
    if cb≥mg then break
  rule "list.sort.gallop"
  mg:=mg+1
  for _ in [0:tt] do
   if mg>1 then mg:=mg-1
   yl mg
   let some p<-QE false (<-elem' y (j-1)) x 0 i (i-1)|return hiD x y o i j
   let k:=i-p
   ca:=k
   if k>0 then
    o:=o++(x.extract p i).reverse;i:=p
    if i==0 then return hiD x y o i j
   j:=j-1;o:=o.push (<-elem' y j)
   if j==1 then return hiF x y o i j
   let some p<-QE true (<-elem' x (i-1)) y 0 j (j-1)|return hiD x y o i j
   let k:=j-p
   cb:=k
   if k>0 then
    o:=o++(y.extract p j).reverse;j:=p
    if j==1 then return hiF x y o i j
    if j==0 then return hiD x y o i j
   i:=i-1;o:=o.push (<-elem' x i)
   if i==0 then return hiD x y o i j
   if ca<7&&cb<7 then break
  mg:=mg+1
  yl mg
 unsupported "internal:list.sort.merge-bound"):=rfl
abbrev HiS:=Option (Array Keyed)×Nat×Nat×Array Keyed×Nat×Nat×Nat
abbrev HiT:=Option (Array Keyed)×Nat×Nat×Array Keyed×Nat×Nat
def hiC (x y o:Array Keyed)(i j mg ca k:Nat):StateT SortSt Sem (ForInStep HiS):=do
 let u<-elem' x (i-1)
 if(i-1==0)=true then pure (ForInStep.done (some (hiD x y (o.push u) (i-1) j),i-1,j,o.push u,mg,ca,k))
 else if(decide (ca<7)&&decide (k<7))=true then pure (ForInStep.done (none,i-1,j,o.push u,mg,ca,k)) else pure (ForInStep.yield (none,i-1,j,o.push u,mg,ca,k))
def hiB (x y o:Array Keyed)(i j mg ca cb:Nat):StateT SortSt Sem (ForInStep HiS):=do
 let u<-elem' y (j-1)
 if(j-1==1)=true then pure (ForInStep.done (some (hiF x y (o.push u) i (j-1)),i,j-1,o.push u,mg,ca,cb))
 else do
  let v<-elem' x (i-1)
  let z<-QE true v y 0 (j-1) (j-1-1)
  match z with
  |some p=>
   if j-1-p>0 then
    if(p==1)=true then pure (ForInStep.done (some (hiF x y (o.push u++(y.extract p (j-1)).reverse) i p),i,p,o.push u++(y.extract p (j-1)).reverse,mg,ca,j-1-p))
    else if(p==0)=true then pure (ForInStep.done (some (hiD x y (o.push u++(y.extract p (j-1)).reverse) i p),i,p,o.push u++(y.extract p (j-1)).reverse,mg,ca,j-1-p))
    else hiC x y (o.push u++(y.extract p (j-1)).reverse) i p mg ca (j-1-p)
   else hiC x y (o.push u) i (j-1) mg ca (j-1-p)
  |_=>pure (ForInStep.done (some (hiD x y (o.push u) i (j-1)),i,j-1,o.push u,mg,ca,cb))
def hiA (x y o:Array Keyed)(i j mg ca cb:Nat):StateT SortSt Sem (ForInStep HiS):=do
 yl mg
 let v<-elem' y (j-1)
 let z<-QE false v x 0 i (i-1)
 match z with
 |some p=>
  if i-p>0 then
   if(p==0)=true then pure (ForInStep.done (some (hiD x y (o++(x.extract p i).reverse) p j),p,j,o++(x.extract p i).reverse,mg,i-p,cb))
   else hiB x y (o++(x.extract p i).reverse) p j mg (i-p) cb
  else hiB x y o i j mg (i-p) cb
 |_=>pure (ForInStep.done (some (hiD x y o i j),i,j,o,mg,ca,cb))
def hiY (x y o:Array Keyed)(i j ca cb mg:Nat):StateT SortSt Sem (ForInStep HiT):=do
 let u<-elem' y (j-1)
 let v<-elem' x (i-1)
 let z<-lt' u v
 match z with
 |some aw=>
  if aw=true then do
   let u<-elem' x (i-1)
   if(i-1==0)=true then pure (ForInStep.done (some (hiD x y (o.push u) (i-1) j),i-1,j,o.push u,ca+1,0))
   else if ca+1≥mg then pure (ForInStep.done (none,i-1,j,o.push u,ca+1,0)) else pure (ForInStep.yield (none,i-1,j,o.push u,ca+1,0))
  else do
   let u<-elem' y (j-1)
   if(j-1==1)=true then pure (ForInStep.done (some (hiF x y (o.push u) i (j-1)),i,j-1,o.push u,0,cb+1))
   else if cb+1≥mg then pure (ForInStep.done (none,i,j-1,o.push u,0,cb+1)) else pure (ForInStep.yield (none,i,j-1,o.push u,0,cb+1))
 |_=>pure (ForInStep.done (some (hiD x y o i j),i,j,o,ca,cb))
theorem JH (x y:Array Keyed):jA x y=(do
 rule "list.sort.merge-hi"
 let o<-elem' x (x.size-1)
 if(x.size-1==0)=true then pure (hiD x y #[o] (x.size-1) y.size)
 else if(y.size==1)=true then pure (hiF x y #[o] (x.size-1) y.size)
 else do
  let g<-get
  let r<-forIn [0:x.size+y.size] ((none,x.size-1,y.size,#[o],gallopOf g):Option (Array Keyed)×Nat×Nat×Array Keyed×Nat) fun _ c=>do
   let d<-forIn [0:x.size+y.size] ((none,c.2.1,c.2.2.1,c.2.2.2.1,0,0):HiT) fun _ d=>hiY x y d.2.2.2.1 d.2.1 d.2.2.1 d.2.2.2.2.1 d.2.2.2.2.2 c.2.2.2.2
   match d.1 with
   |some r=>pure (ForInStep.done (some r,d.2.1,d.2.2.1,d.2.2.2.1,c.2.2.2.2))
   |none=>do
    rule "list.sort.gallop"
    let e<-forIn [0:x.size+y.size] ((none,d.2.1,d.2.2.1,d.2.2.2.1,c.2.2.2.2+1,d.2.2.2.2.1,d.2.2.2.2.2):HiS) fun _ e=>if e.2.2.2.2.1>1 then hiA x y e.2.2.2.1 e.2.1 e.2.2.1 (e.2.2.2.2.1-1) e.2.2.2.2.2.1 e.2.2.2.2.2.2 else hiA x y e.2.2.2.1 e.2.1 e.2.2.1 e.2.2.2.2.1 e.2.2.2.2.2.1 e.2.2.2.2.2.2
    match e.1 with
    |some r=>pure (ForInStep.done (some r,e.2.1,e.2.2.1,e.2.2.2.1,e.2.2.2.2.1))
    |none=>do
     yl (e.2.2.2.2.1+1)
     pure (ForInStep.yield (none,e.2.1,e.2.2.1,e.2.2.2.1,e.2.2.2.2.1+1))
  match r.1 with
  |some r=>pure r
  |none=>unsupported "internal:list.sort.merge-bound"):=by
 rw [mergeHi'_eq];unfold hiA hiB hiC hiY;dsimp only;have U:∀{α β:Type}{m Z:StateT SortSt Sem α}{f f':α->StateT SortSt Sem β},m=Z->(∀a,f a=f' a)->(m>>=f)=(Z>>=f'):=fun h1 h2=>by rw [h1,funext h2]
 refine U rfl fun _=>U rfl fun o0=> ?_;refine ite_congr rfl (fun _=>rfl) fun _=> ?_;refine ite_congr rfl (fun _=>rfl) fun _=> ?_;refine U rfl fun g0=> ?_;refine U ?_ ?_
 ·refine congrArg _ (funext fun a=>funext fun c=> ?_);refine U ?_ ?_
  ·refine congrArg _ (funext fun a=>funext fun d=> ?_);refine U rfl fun u=>U rfl fun v=>U rfl fun z=> ?_;cases z with
   |none=>rfl
   |some bw=>rfl
  ·rintro⟨d1,d⟩;cases d1 with
   |some r=>rfl
   |none=>
    dsimp only;refine U rfl fun _=> ?_;refine U ?_ ?_
    ·refine congrArg _ (funext fun a=>funext fun e=> ?_);refine ite_congr rfl (fun _=> ?_) fun _=> ?_
     all_goals
      refine U rfl fun _=>U rfl fun v=>U rfl fun z=> ?_;cases z with
      |none=>rfl
      |some k=>rfl
    ·rintro⟨e1,e⟩;cases e1 with
     |some r=>rfl
     |none=>rfl
 ·rintro⟨r1,r⟩;cases r1 with
  |some r=>rfl
  |none=>rfl
section
variable {rk:Keyed->Nat}
structure HI (rk:Keyed->Nat)(X Y O:List Keyed)(i j:Nat):Prop where
 pm:O.Perm (X.drop i++Y.drop j)
 so:O.Pairwise (fun a b=>rk b<=rk a)
 lx:∀a∈O,∀b∈X.take i,rk b<=rk a
 ly:∀a∈O,∀b∈Y.take j,rk b<=rk a
theorem HI.swap {X Y O:List Keyed}{i j:Nat}(h:HI rk X Y O i j):HI rk Y X O j i:=⟨h.pm.trans U4,h.so,h.ly,h.lx⟩
theorem HI.push {X Y O:List Keyed}{i j:Nat}{y:Keyed}(hY:Y.Pairwise (Rr rk))(h:HI rk X Y O i (j+1))(e:Y[j]? =some y)(hx:∀b∈X.take i,rk b<=rk y):HI rk X Y (O++ [y]) i j:=by
 have hj:j<Y.length:=(List.getElem?_eq_some_iff.mp e).1;have ey:Y[j]=y:=(List.getElem?_eq_some_iff.mp e).2;have ed:Y.drop j=y::Y.drop (j+1):=by rw [uD hj,ey]
 have et:Y.take (j+1)=Y.take j++ [y]:=by rw [ut,e];rfl
 have Z:y∈Y.take (j+1):=by rw [et];simp
 have aa:(Y.take (j+1)).Pairwise (Rr rk):=uM (Ua _ _) hY;rw [et,uL] at aa;refine⟨?_,?_,fun a ha b U=> ?_,fun a ha b U=> ?_⟩
 ·rw [ed];have:=h.pm.append_right [y];refine this.trans ?_;rw [um];exact(U4).append_left _
 ·rw [uL];refine⟨h.so,UT ..,fun a ha b U=> ?_⟩;cases List.mem_singleton.mp U;exact h.ly a ha y Z
 ·rcases List.mem_append.mp ha with ha|ha
  ·exact h.lx a ha b U
  ·cases List.mem_singleton.mp ha;exact hx b U
 ·rcases List.mem_append.mp ha with ha|ha
  ·exact h.ly a ha b (by rw [et];exact Uv _ U)
  ·cases List.mem_singleton.mp ha;exact aa.2.2 b U y (List.mem_singleton.mpr rfl)
theorem HI.pushX {X Y O:List Keyed}{i j:Nat}{x:Keyed}(U:X.Pairwise (Rr rk))(h:HI rk X Y O (i+1) j)(e:X[i]? =some x)(Z:∀b∈Y.take j,rk b<=rk x):HI rk X Y (O++ [x]) i j:=(h.swap.push U e Z).swap
theorem HI.many {X Y:List Keyed}{i j:Nat}(Z:Y.Pairwise (Rr rk)):∀(k:Nat) {O:List Keyed},HI rk X Y O i (j+k)->j+k<=Y.length->(∀m,m<k->∀y,Y[j+m]? =some y->∀b∈X.take i,rk b<=rk y)->HI rk X Y (O++((Y.drop j).take k).reverse) i j
 |0,O,h,_,_=>by simpa using h
 |k+1,O,h,hk,hx=>by
  have U:j+k<Y.length:=by omega
  have e:=u4 U;have h1:=HI.push (j:=j+k) Z h e (hx k (by omega) _ e)
  have ih:=HI.many Z k h1 (by omega) fun m hm=>hx m (by omega)
  have et:(Y.drop j).take (k+1)=(Y.drop j).take k++ [Y[j+k]]:=by
   rw [ut,vx,e]
   rfl
  rw [et,List.reverse_append,<-um];exact ih
theorem HI.manyX {X Y O:List Keyed}{i j:Nat}(U:X.Pairwise (Rr rk))(k:Nat)(h:HI rk X Y O (i+k) j)(Z:i+k<=X.length)(hy:∀m,m<k->∀x,X[i+m]? =some x->∀b∈Y.take j,rk b<=rk x):HI rk X Y (O++((X.drop i).take k).reverse) i j:=(HI.many U k h.swap Z hy).swap
theorem HI.fin {X Y O:List Keyed}{i j:Nat}(Z:X.Pairwise (Rr rk))(hY:Y.Pairwise (Rr rk))(h:HI rk X Y O i j)(hl:∀b∈Y.take j,∀x∈X.take i,rk b<=rk x):Fin' rk X Y (Y.take j++X.take i++O.reverse):=by
 refine⟨?_,?_⟩
 ·have h1:O.reverse.Perm (X.drop i++Y.drop j):=(List.reverse_perm O).trans h.pm;have h2:=h1.append_left (Y.take j++X.take i);refine h2.trans ?_;have h3:(Y.take j++X.take i++(X.drop i++Y.drop j))=Y.take j++((X.take i++X.drop i)++Y.drop j):=by simp only [um]
  rw [h3,uu];have h4:(Y.take j++(X++Y.drop j)).Perm (X++(Y.take j++Y.drop j)):=by
   rw [<-um,<-um];exact(U4).append_right _
  rw [uu] at h4;exact h4
 ·rw [uL];refine⟨?_,?_,fun a ha b hb=> ?_⟩
  ·rw [uL];exact⟨uM (Ua _ _) hY,uM (Ua _ _) Z,hl⟩
  ·exact List.pairwise_reverse.mpr h.so
  ·have U:=List.mem_reverse.mp hb;rcases List.mem_append.mp ha with ha|ha
   ·exact h.ly b U a ha
   ·exact h.lx b U a ha
end
section
variable {P:Program}{w:World}{A:Around}{E:Value->Shared->Prop}{s:Shared}{kd:SortKind}{xs0:Array Keyed}{rk:Keyed->Nat}{st:SortSt}
theorem yV (x:Array Keyed)(i:Nat):(x.extract 0 i).toList=x.toList.take i:=by
 rw [U7,vH];simp
theorem ext_pq (x:Array Keyed){p i:Nat}(h:p<=i):(x.extract p i).reverse.toList=((x.toList.drop p).take (i-p)).reverse:=by
 rw [Uy,U7,vH]
theorem Jh {x:Array Keyed}{i:Nat}{b:Keyed}(h:b∈x.toList.take i):∃j,j<i/\j<x.size/\x[j]? =some b:=by
 obtain⟨m,hm⟩:=List.mem_iff_getElem?.mp h;rw [vM] at hm;split at hm
 ·have:=(List.getElem?_eq_some_iff.mp hm).1;exact⟨m,by assumption,by simpa using this,by simpa using hm⟩
 ·cases hm
theorem fin_H {x y o:Array Keyed}{j:Nat}(M:MOk rk xs0 x y)(h:HI rk x.toList y.toList o.toList 0 j):Fin' rk x.toList y.toList (hiD x y o 0 j).toList:=by
 have:=h.fin M.sx M.sy (fun b _ a ha=>by simp at ha)
 unfold hiD;rw [uw,uw,yV,yV,Uy]
 simpa using this
theorem fin_H0 {x y o:Array Keyed}{i:Nat}(M:MOk rk xs0 x y)(h:HI rk x.toList y.toList o.toList i 0):Fin' rk x.toList y.toList (hiD x y o i 0).toList:=by
 have:=h.fin M.sx M.sy (fun b U=>by simp at U)
 unfold hiD;rw [uw,uw,yV,yV,Uy]
 simpa using this
theorem fin_F {x y o:Array Keyed}{i:Nat}(M:MOk rk xs0 x y)(h:HI rk x.toList y.toList o.toList i 1):Fin' rk x.toList y.toList (hiF x y o i 1).toList:=by
 have:=h.fin M.sx M.sy (fun b U a ha=>by
  obtain⟨t,t1,t2,Z⟩:=Jh U;obtain rfl:t=0:=by omega
  exact M.fst a (vP ha) b Z)
 unfold hiF;rw [uw,uw,yV,yV,Uy];exact this
def PhS (rk:Keyed->Nat)(x y:Array Keyed)(m:Nat)(c:HiS):Prop:=match c.1 with
 |some r=>Fin' rk x.toList y.toList r.toList
 |none=>HI rk x.toList y.toList c.2.2.2.1.toList c.2.1 c.2.2.1/\1<=c.2.1/\c.2.1<x.size/\2<=c.2.2.1/\c.2.2.1<=y.size/\c.2.1+c.2.2.1<=m
def PhR (rk:Keyed->Nat)(st:SortSt)(x y:Array Keyed)(m:Nat)(r:ForInStep HiS)(u:SortSt):Prop:=GK st u/\match r with
 | .done c=>PhS rk x y m c
 | .yield c=>c.1=none/\PhS rk x y m c
theorem hi_C {x y o:Array Keyed}{i j mg ca k m:Nat}{u:SortSt}(M:MOk rk xs0 x y)(Z:GK st u)(h:HI rk x.toList y.toList o.toList (i+1) j)(hi:i+1<x.size)(hj:2<=j)(U:j<=y.size)(hm:i+j<=m)(aa:∀b∈y.toList.take j,rk b<=rkAt rk x i):
  wpS (model P w) A E s (hiC x y o (i+1) j mg ca k) (PhR rk st x y m) u:=by
 unfold hiC;simp only [UV];obtain⟨a,e1,e2,e3⟩:=Qq (x:=x) (i:=i) (by omega)
 refine wpS_bind (QO e1 ?_);have er:=qS (rk:=rk) e1;have h2:=h.pushX M.sx e2 (fun b hb=>by rw [<-er];exact aa b hb)
 rw [<-uX] at h2;by_cases c1:i=0
 ·subst c1;simp only [vN,vg];exact ul ⟨Z,fin_H M h2⟩
 ·rw [if_neg (by simpa using c1)]
  by_cases c2:(decide (ca<7)&&decide (k<7))=true
  ·rw [if_pos c2];exact ul ⟨Z,h2,by show 1<=i;omega,by show i<_;omega,hj,U,hm⟩
  ·rw [if_neg c2];exact ul ⟨Z,rfl,h2,by show 1<=i;omega,by show i<_;omega,hj,U,hm⟩
theorem hi_B {x y o:Array Keyed}{i j mg ca cb m:Nat}{u:SortSt}(hc:ByRk P w A s kd xs0 rk)(hk:kindOf st=kd)(M:MOk rk xs0 x y)(hu:GK st u)(h:HI rk x.toList y.toList o.toList (i+1) (j+1))(hi:i+1<x.size)(hj:1<=j)(aa:j<y.size)(hm:i+j<=m)(ac:∀b∈x.toList.take (i+1),rk b<=rkAt rk y j):
  wpS (model P w) A E s (hiB x y o (i+1) (j+1) mg ca cb) (PhR rk st x y m) u:=by
 unfold hiB;simp only [UV];obtain⟨b,e1,e2,e3⟩:=Qq (x:=y) (i:=j) aa;refine wpS_bind (QO e1 ?_);have er:=qS (rk:=rk) e1;have h2:=h.push M.sy e2 (fun a ha=>by rw [<-er];exact ac a ha)
 rw [<-uX] at h2;by_cases c1:j=1
 ·subst c1;simp only [vN,vg];exact ul ⟨hu,fin_F M h2⟩
 rw [if_neg (by simpa using c1)]
 obtain⟨a,f1,f2,f3⟩:=Qq (x:=x) (i:=i) (by omega)
 have fr:=qS (rk:=rk) f1;refine wpS_bind (QO f1 ?_);refine wpS_bind (gal hc (hu.1.trans hk) (M.ix a f3) (fun n hn=> ?_) (by omega) (fun n n' nn hn e=> ?_) fun p p1 p2 p3=> ?_)
 ·obtain⟨b',g1,g2,g3⟩:=Qq (x:=y) (i:=0+n) (by omega)
  exact⟨b',g1,M.iy b' g3⟩
 ·have:=ju M.sy (i:=0+n) (j:=0+n') (by omega) (by omega)
  simp only [bey,vg,uZ] at e⊢;omega
 dsimp only;have U:∀b'∈y.toList.take p,rk b'<=rkAt rk x i:=fun b' Z=>by
  obtain⟨t,t1,t2,et⟩:=Jh Z;have:=p2 t t1;simp only [bey,vg,uZ,Ug,qS et] at this;rw [fr];omega
 by_cases ck:j-p>0
 ·rw [if_pos ck];have h3:=HI.many (j:=p) M.sy (j-p) (by rw [show p+(j-p)=j by omega];exact h2) (by rw [Array.length_toList];omega) fun n hn y' ad b' Z=>by
   have e5:rkAt rk y (p+n)=rk y':=qS (by simpa using ad)
   have:=p3 (p+n) (by omega) (by omega)
   simp only [bey,vg,uE,Ug,e5] at this;obtain⟨t,t1,t2,et⟩:=Jh Z;have:=ju M.sx (i:=t) (j:=i) (by omega) (by omega)
   rw [qS et,fr] at this;omega
  rw [<-ext_pq y (by omega),<-uw] at h3
  by_cases c2:p=1
  ·subst c2;simp only [vN,vg];exact ul ⟨hu,fin_F M h3⟩
  ·rw [if_neg (by simpa using c2)]
   by_cases c3:p=0
   ·subst c3;simp only [vN,vg];exact ul ⟨hu,fin_H0 M h3⟩
   ·rw [if_neg (by simpa using c3)]
    exact hi_C M hu h3 hi (by omega) (by omega) (by omega) U
 ·rw [if_neg ck];obtain rfl:p=j:=by omega
  exact hi_C M hu h2 hi (by omega) (by omega) (by omega) U
theorem hi_A {x y o:Array Keyed}{i j mg ca cb m:Nat}{u:SortSt}(hc:ByRk P w A s kd xs0 rk)(hk:kindOf st=kd)(M:MOk rk xs0 x y)(hu:GK st u)(h:HI rk x.toList y.toList o.toList (i+1) (j+1))(hi:i+1<x.size)(hj:1<=j)(Z:j<y.size)(hm:i+j<=m):
  wpS (model P w) A E s (hiA x y o (i+1) (j+1) mg ca cb) (PhR rk st x y m) u:=by
 unfold hiA;simp only [UV];refine wpS_bind (xz fun v hv=> ?_);have hv:=hu.trans hv;obtain⟨b,f1,f2,f3⟩:=Qq (x:=y) (i:=j) Z;have fr:=qS (rk:=rk) f1;refine wpS_bind (QO f1 ?_);refine wpS_bind (gal hc (hv.1.trans hk) (M.iy b f3) (fun n hn=> ?_) (by omega) (fun n n' nn hn e=> ?_) fun p p1 p2 p3=> ?_)
 ·obtain⟨b',g1,g2,g3⟩:=Qq (x:=x) (i:=0+n) (by omega)
  exact⟨b',g1,M.ix b' g3⟩
 ·have:=ju M.sx (i:=0+n) (j:=0+n') (by omega) (by omega)
  simp only [bey,ug,uU,vE,uE] at e⊢;omega
 dsimp only;have U:∀a'∈x.toList.take p,rk a'<=rkAt rk y j:=fun a' aa=>by
  obtain⟨t,t1,t2,et⟩:=Jh aa;have:=p2 t t1;simp only [bey,ug,uU,vE,uE,Ug,qS et] at this;rw [fr];omega
 by_cases ck:i+1-p>0
 ·rw [if_pos ck];have h3:=HI.manyX (i:=p) M.sx (i+1-p) (by rw [show p+(i+1-p)=i+1 by omega];exact h) (by rw [Array.length_toList];omega) fun n hn x' ac b' ad=>by
   have e5:rkAt rk x (p+n)=rk x':=qS (by simpa using ac)
   have:=p3 (p+n) (by omega) (by omega)
   simp only [bey,ug,uU,UU,uZ,Ug,e5] at this;obtain⟨t,t1,t2,et⟩:=Jh ad;have:=ju M.sy (i:=t) (j:=j) (by omega) (by omega)
   rw [qS et,fr] at this;omega
  rw [<-ext_pq x (by omega),<-uw] at h3
  by_cases c2:p=0
  ·subst c2;simp only [vN,vg];exact ul ⟨hv,fin_H M h3⟩
  ·rw [if_neg (by simpa using c2)]
   obtain⟨p',rfl⟩:∃p',p=p'+1:=⟨p-1,by omega⟩
   exact hi_B hc hk M hv h3 (by omega) hj Z (by omega) U
 ·rw [if_neg ck];obtain rfl:p=i+1:=by omega
  exact hi_B hc hk M hv h hi hj Z hm U
def PhT (rk:Keyed->Nat)(x y:Array Keyed)(m:Nat)(c:HiT):Prop:=match c.1 with
 |some r=>Fin' rk x.toList y.toList r.toList
 |none=>HI rk x.toList y.toList c.2.2.2.1.toList c.2.1 c.2.2.1/\1<=c.2.1/\c.2.1<x.size/\2<=c.2.2.1/\c.2.2.1<=y.size/\c.2.1+c.2.2.1<=m
theorem hi_Y {x y o:Array Keyed}{i j mg ca cb m:Nat}{u:SortSt}(hc:ByRk P w A s kd xs0 rk)(hk:kindOf u=kd)(M:MOk rk xs0 x y)(h:HI rk x.toList y.toList o.toList (i+1) (j+1))(hi:i+1<x.size)(hj:1<=j)(aa:j<y.size)(hm:i+j+2<=m):
  wpS (model P w) A E s (hiY x y o (i+1) (j+1) ca cb mg) (fun r v=>v=u/\match r with| .done c=>PhT rk x y m c| .yield c=>c.1=none/\PhT rk x y m c) u:=by
 unfold hiY;simp only [UV];obtain⟨b,e1,e2,e3⟩:=Qq (x:=y) (i:=j) aa;obtain⟨a,f1,f2,f3⟩:=Qq (x:=x) (i:=i) (by omega)
 refine wpS_bind (QO e1 (wpS_bind (QO f1 (wpS_bind (lt_two hc hk (M.iy b e3) (M.ix a f3) ?_)))));have er:=qS (rk:=rk) e1;have fr:=qS (rk:=rk) f1;dsimp only;by_cases le:rk b<rk a
 ·rw [u9 le];simp only [vg];refine wpS_bind (QO f1 ?_);have h2:=h.pushX M.sx f2 (fun b' hb=>by
   obtain⟨t,t1,t2,et⟩:=Jh hb;have:=ju M.sy (i:=t) (j:=j) (by omega) (by omega)
   rw [qS et,er] at this;omega)
  rw [<-uX] at h2;by_cases U:i=0
  ·subst U;simp only [vN,vg];exact ul ⟨rfl,fin_H M h2⟩
  ·rw [if_neg (by simpa using U)]
   by_cases Z:ca+1≥mg
   ·rw [if_pos Z];exact ul ⟨rfl,h2,by show 1<=i;omega,by show i<_;omega,by show 2<=j+1;omega,by show j+1<=_;omega,by show i+(j+1)<=m;omega⟩
   ·rw [if_neg Z];exact ul ⟨rfl,rfl,h2,by show 1<=i;omega,by show i<_;omega,by show 2<=j+1;omega,by show j+1<=_;omega,by show i+(j+1)<=m;omega⟩
 ·rw [ua le];simp only [ug,uU];refine wpS_bind (QO e1 ?_);have h2:=h.push M.sy e2 (fun a' ha=>by
   obtain⟨t,t1,t2,et⟩:=Jh ha;have:=ju M.sx (i:=t) (j:=i) (by omega) (by omega)
   rw [qS et,fr] at this;omega)
  rw [<-uX] at h2;by_cases U:j=1
  ·subst U;simp only [vN,vg];exact ul ⟨rfl,fin_F M h2⟩
  ·rw [if_neg (by simpa using U)]
   by_cases Z:cb+1≥mg
   ·rw [if_pos Z];exact ul ⟨rfl,h2,by show 1<=i+1;omega,hi,by show 2<=j;omega,by show j<=_;omega,by show i+1+j<=m;omega⟩
   ·rw [if_neg Z];exact ul ⟨rfl,rfl,h2,by show 1<=i+1;omega,hi,by show 2<=j;omega,by show j<=_;omega,by show i+1+j<=m;omega⟩
theorem merge_hi {x y:Array Keyed}{Q:Array Keyed->SortSt->Prop}(hc:ByRk P w A s kd xs0 rk)(hk:kindOf st=kd)(M:MOk rk xs0 x y)(q:∀r u,Fin' rk x.toList y.toList r.toList->GK st u->Q r u):wpS (model P w) A E s (jA x y) Q st:=by
 rw [JH];have nx:=M.nx;have ny:=M.ny;refine wpS_bind (wpS_lift (wpAny_rule ⟨rfl,?_⟩));obtain⟨b,e1,e2,e3⟩:=Qq (x:=x) (i:=x.size-1) (by omega)
 refine wpS_bind (QO e1 ?_);have h0:HI rk x.toList y.toList ([]:List Keyed) (x.size-1+1) y.size:=⟨by rw [vX (by rw [Array.length_toList];omega),vX (by rw [Array.length_toList];omega)];simp,List.Pairwise.nil,fun a ha=>by simp at ha,fun a ha=>by simp at ha⟩
 have h1:=h0.pushX M.sx e2 (fun a ha=>M.lst a (vP ha) b e1);have h1:HI rk x.toList y.toList (#[b]:Array Keyed).toList (x.size-1) y.size:=h1;by_cases c1:x.size-1=0
 ·rw [if_pos (by simpa using c1)]
  rw [c1] at h1⊢;exact ul (q _ _ (fin_H M h1) (GK.refl _))
 rw [if_neg (by simpa using c1)]
 by_cases c2:y.size=1
 ·rw [if_pos (by simpa using c2)]
  rw [c2] at h1⊢;exact ul (q _ _ (fin_F M h1) (GK.refl _))
 rw [if_neg (by simpa using c2)]
 refine wpS_bind (V9 ?_);refine wpS_bind (wpS_mono (wpS_forRange (I:=fun t c u=>GK st u/\c.1=none/\HI rk x.toList y.toList c.2.2.2.1.toList c.2.1 c.2.2.1/\1<=c.2.1/\c.2.1<x.size/\2<=c.2.2.1/\c.2.2.1<=y.size/\c.2.1+c.2.2.1+t<=x.size+y.size) (Q:=fun c u=>GK st u/\∃r,c.1=some r/\Fin' rk x.toList y.toList r.toList) ?_ ?_ ⟨GK.refl _,rfl,h1,by show 1<=x.size-1;omega,by show x.size-1<_;omega,by show 2<=y.size;omega,by show y.size<=_;omega,by show x.size-1+y.size+0<=_;omega⟩) ?_)
 ·rintro t ⟨c0,i,j,o,mg⟩ u _ ht ⟨hu,rfl,hl,Z,ac,aa,ad,hm⟩;dsimp only at hl Z ac aa ad hm⊢;have ah:i+j<=x.size+y.size-t:=by omega
  refine wpS_bind (wpS_mono (wpS_forRange (I:=fun _ d v=>v=u/\d.1=none/\PhT rk x y (x.size+y.size-t) d) (Q:=fun d v=>v=u/\PhT rk x y (x.size+y.size-t) d) ?_ ?_ ⟨rfl,rfl,hl,Z,ac,aa,ad,ah⟩) ?_)
  ·rintro t' ⟨d0,i',j',o',ca,cb⟩ v _ _ ⟨rfl,rfl,g1,g2,g3,g4,g5,g6⟩;dsimp only at g1 g2 g3 g4 g5 g6⊢;obtain⟨al,rfl⟩:∃n,i'=n+1:=⟨i'-1,by omega⟩
   obtain⟨am,rfl⟩:∃n,j'=n+1:=⟨j'-1,by omega⟩
   refine wpS_mono (hi_Y hc (hu.1.trans hk) M g1 g3 (by omega) (by omega) (m:=x.size+y.size-t) (by omega)) fun r v' ⟨ev,hr⟩=> ?_
   cases r with
   |done c=>exact⟨ev,hr⟩
   |yield c=>exact⟨ev,hr⟩
  ·rintro d v ⟨ev,_,hd⟩;exact⟨ev,hd⟩
  ·rintro⟨d0,i',j',o',ca,cb⟩ v ⟨rfl,hd⟩;cases d0 with
   |some r=>exact ul ⟨hu,r,rfl,hd⟩
   |none=>
    obtain⟨g1,g2,g3,g4,g5,g6⟩:=hd;dsimp only at g1 g2 g3 g4 g5 g6⊢;refine wpS_bind (wpS_lift (wpAny_rule ⟨rfl,?_⟩));refine wpS_bind (wpS_mono (wpS_forRange (I:=fun n e v'=>GK st v'/\e.1=none/\PhS rk x y (if n=0 then x.size+y.size-t else x.size+y.size-(t+1)) e) (Q:=fun e v'=>GK st v'/\PhS rk x y (x.size+y.size-(t+1)) e) ?_ ?_ ⟨hu,rfl,g1,g2,g3,g4,g5,g6⟩) ?_)
    ·rintro n ⟨e0,i2,j2,o2,ai,ae,af⟩ v' _ _ ⟨U,rfl,p1,p2,p3,p4,p5,p6⟩;dsimp only at p1 p2 p3 p4 p5 p6;obtain⟨i3,rfl⟩:∃n,i2=n+1:=⟨i2-1,by omega⟩
     obtain⟨j3,rfl⟩:∃n,j2=n+1:=⟨j2-1,by omega⟩
     have aj:∀ag,wpS (model P w) A E s (hiA x y o2 (i3+1) (j3+1) ag ae af) (PhR rk st x y (x.size+y.size-(t+1))) v':=fun ag=>hi_A hc hk M U p1 p3 (by omega) (by omega) (by split at p6<;>omega)
     dsimp only;split
     all_goals
      refine wpS_mono (aj _) fun r ak ⟨hg,hr⟩=> ?_;cases r with
      |done c=>exact⟨hg,hr⟩
      |yield c=>exact⟨hg,hr.1,by rw [if_neg (by omega)];exact hr.2⟩
    ·rintro e v' ⟨U,he,hp⟩;refine⟨U,?_⟩;rw [if_neg (by omega)] at hp
     exact hp
    ·rintro⟨e0,i2,j2,o2,ai,ae,af⟩ v' ⟨U,hp⟩;cases e0 with
     |some r=>exact ul ⟨U,r,rfl,hp⟩
     |none=>
      obtain⟨p1,p2,p3,p4,p5,p6⟩:=hp;refine wpS_bind (xz fun ak hg=>ul ⟨U.trans hg,rfl,p1,p2,p3,p4,p5,?_⟩);dsimp only at p2 p4 p6⊢;omega
 ·rintro⟨c0,i,j,o,mg⟩ u ⟨hu,rfl,hl,Z,ac,aa,ad,hm⟩;exfalso;dsimp only at Z aa hm;omega
 ·rintro⟨c0,i,j,o,mg⟩ u ⟨hu,r,e,hr⟩;cases e;exact ul (q r u hr hu)
def lay (xs:Array Keyed)(sa:Nat)(l:List Keyed):Array Keyed:=l.zipIdx.foldl (fun a (p,j)=>a.setIfInBounds (sa+j) p) xs
theorem mergeAt'_eq (i:Nat):mergeAt' i=(do
 let v<-get
 let(some (sa,na,pw),some (sb,nb,_)):=((pendingOf v)[i]?,(pendingOf v)[i+1]?)|unsupported "internal:list.sort.pending"
 set (setPending v (((pendingOf v).setIfInBounds i (sa,na+nb,pw)).eraseIdxIfInBounds (i+1)))
 let some k<-QE false (<-elem' (arrOf v) sb) (arrOf v) sa na 0|return false
 let(sa,na):=(sa+k,na-k)
 if na==0 then return true
 let some nb<-QE true (<-elem' (arrOf v) (sa+na-1)) (arrOf v) sb nb (nb-1)|return false
 if nb==0 then return true
 let x:=(arrOf v).extract sa sb
 let y:=(arrOf v).extract sb (sb+nb)
 let mm<-if na<=nb then jz x y else jA x y
 modify fun u=>setArr u (lay (arrOf u) sa mm.toList)
 return (failedOf (<-get)).isNone):=rfl
theorem lay_snoc (xs:Array Keyed)(sa:Nat)(l:List Keyed)(a:Keyed):lay xs sa (l++ [a])=(lay xs sa l).setIfInBounds (sa+l.length) a:=by
 unfold lay;rw [List.zipIdx_append,List.foldl_append];simp
theorem lay_list:∀(n:Nat) (l:List Keyed) (xs:Array Keyed) (sa:Nat),l.length=n->sa+l.length<=xs.size->(lay xs sa l).toList=xs.toList.take sa++l++xs.toList.drop (sa+l.length)
 |0,l,xs,sa,hl,h=>by
  obtain rfl:=List.length_eq_zero_iff.mp hl;show xs.toList=_;simp
 |n+1,l,xs,sa,hl,h=>by
  obtain⟨U,a,rfl⟩:∃U a,l=U++ [a]:=by
   rcases List.eq_nil_or_concat l with rfl|⟨U,a,rfl⟩
   ·simp at hl
   ·exact⟨U,a,by simp⟩
  rw [u7,vI] at hl h;have ih:=lay_list n U xs sa (by omega) (by omega)
  rw [lay_snoc,Array.toList_setIfInBounds,ih,u7,vI];have hsz:xs.toList.length=xs.size:=by simp
  have Z:sa+U.length<xs.toList.length:=by omega
  rw [uD Z];have e:(xs.toList.take sa++U).length=sa+U.length:=by rw [u7,uA];omega
  rw [List.set_append_right _ _ (by omega),e,Nat.sub_self]
  simp [Nat.add_assoc]
def offs:Nat->List (List Keyed)->List (Nat×Nat)
 |_,[]=> []
 |a,r::rs=>(a,r.length)::offs (a+r.length) rs
theorem yr:∀(a:Nat) (rs qs:List (List Keyed)),offs a (rs++qs)=offs a rs++offs (a+rs.flatten.length) qs
 |a,[],qs=>by simp [offs]
 |a,r::rs,qs=>by
  rw [vY,offs,offs,yr (a+r.length) rs qs,vY,List.flatten_cons,u7,Nat.add_assoc]
theorem Ye:∀(a:Nat) (rs:List (List Keyed)),(offs a rs).length=rs.length
 |_,[]=>rfl
 |a,r::rs=>by rw [offs,uz,uz,Ye]
def pr2 (t:Nat×Nat×Nat):Nat×Nat:=(t.1,t.2.1)
structure SC (kd:SortKind)(xs0:Array Keyed)(rk:Keyed->Nat)(rs:List (List Keyed))(rest:List Keyed)(st:SortSt):Prop where
 pm:(arrOf st).Perm xs0
 ki:kindOf st=kd
 ok:failedOf st=none
 pe:(pendingOf st).toList.map pr2=offs 0 rs
 ar:(arrOf st).toList=rs.flatten++rest
 so:∀r∈rs,r.Pairwise (Rr rk)/\r≠ []
theorem SC.mem {rs:List (List Keyed)}{rest:List Keyed}(h:SC kd xs0 rk rs rest st){a:Keyed}(ha:a∈(arrOf st).toList):a∈xs0.toList:=(Array.perm_iff_toList_perm.mp h.pm).mem_iff.mp ha
theorem JK {xs:Array Keyed}{P X S:List Keyed}(h:xs.toList=P++X++S){i:Nat}(hi:i<X.length):xs[P.length+i]? =some X[i]:=by
 have:xs.toList[P.length+i]? =some X[i]:=by
  rw [h,um,uJ (by omega),Uj,uR hi,u4 hi]
 simpa using this
theorem mid_ext {xs:Array Keyed}{P X S:List Keyed}(h:xs.toList=P++X++S){a n:Nat}(ha:a=P.length)(hn:n=P.length+X.length):(xs.extract a n).toList=X:=by
 subst ha hn;rw [U7,vH,h,um,List.drop_left,Uj,List.take_left]
theorem pw_at {X:List Keyed}(h:X.Pairwise (Rr rk)){i j:Nat}(Z:i<=j)(U:j<X.length):rk (X[i]'(by omega))<=rk X[j]:=by
 rcases vc i j with h1|h1
 ·exact List.pairwise_iff_getElem.mp h i j (by omega) U h1
 ·have:i=j:=by omega
  subst this;exact u8 _
theorem wpS_set {v:SortSt}{Q:PUnit->SortSt->Prop}(h:Q ⟨⟩ v):wpS (model P w) A E s (set v:StateT SortSt Sem PUnit) Q st:=by
 unfold wpS;rw [StateT.run_set];exact wpAny_pure ⟨rfl,h⟩
theorem pend_two {L:List (Nat×Nat×Nat)}{U Z:List (List Keyed)}{X Y:List Keyed}(h:L.map pr2=offs 0 (U++X::Y::Z)):
  ∃L1 L2 p1 p2,L=L1++(U.flatten.length,X.length,p1)::(U.flatten.length+X.length,Y.length,p2)::L2/\L1.length=U.length/\L1.map pr2=offs 0 U/\L2.map pr2=offs (U.flatten.length+X.length+Y.length) Z:=by
 rw [yr,Ug,offs,offs] at h;obtain⟨L1,L',rfl,h1,h2⟩:=List.map_eq_append_iff.mp h;obtain⟨t1,aa,rfl,h3,h4⟩:=List.map_eq_cons_iff.mp h2;obtain⟨t2,L2,rfl,h5,h6⟩:=List.map_eq_cons_iff.mp h4;obtain⟨a1,b1,c1⟩:=t1;obtain⟨a2,b2,c2⟩:=t2;cases h3;cases h5;have:=congrArg List.length h1;rw [u1,Ye] at this;exact⟨L1,L2,c1,c2,rfl,this,h1,h6⟩
theorem SC.laid {U aa:List (List Keyed)}{X Y Z rest:List Keyed}(h:SC kd xs0 rk (U++X::Y::aa) rest st){u:SortSt}(hz:Z.length=X.length+Y.length)(hp:Z.Perm (X++Y))(hs:Z.Pairwise (Rr rk))(ku:kindOf u=kindOf st)(fu:failedOf u=failedOf st)
  (au:(arrOf u).toList=U.flatten++Z++(aa.flatten++rest)) (pu:(pendingOf u).toList.map pr2=offs 0 (U++Z::aa)):SC kd xs0 rk (U++Z::aa) rest u:=by
 have ha:(arrOf st).toList=U.flatten++(X++Y)++(aa.flatten++rest):=by rw [h.ar];simp [vW]
 refine⟨?_,ku.trans h.ki,fu.trans h.ok,pu,by rw [au];simp [vW],fun r hr=> ?_⟩
 ·refine(Array.perm_iff_toList_perm.mpr ?_).trans h.pm;rw [au,ha];exact(hp.append_left _).append_right _
 ·rcases List.mem_append.mp hr with hr|hr
  ·exact h.so r (Uv _ hr)
  ·rcases List.mem_cons.mp hr with rfl|hr
   ·refine⟨hs,fun e=> ?_⟩;have:=(h.so X (by simp)).2
    rw [e] at hz;exact this (List.length_eq_zero_iff.mp (by simp at hz;omega))
   ·exact h.so r (by simp [hr])
theorem merge_at {U aa:List (List Keyed)}{X Y rest:List Keyed}{Q:Bool->SortSt->Prop}(hc:ByRk P w A s kd xs0 rk)(h:SC kd xs0 rk (U++X::Y::aa) rest st)
  (q:∀Z u,Z.length=X.length+Y.length->SC kd xs0 rk (U++Z::aa) rest u->Q true u):wpS (model P w) A E s (mergeAt' U.length) Q st:=by
 obtain⟨L1,L2,p1,p2,eL,ai,ay,az⟩:=pend_two h.pe;have pX:=(h.so X (by simp)).1
 have pY:=(h.so Y (by simp)).1
 have nX:0<X.length:=List.length_pos_iff.mpr (h.so X (by simp)).2
 have nY:0<Y.length:=List.length_pos_iff.mpr (h.so Y (by simp)).2
 have aX:(arrOf st).toList=U.flatten++X++(Y++(aa.flatten++rest)):=by rw [h.ar];simp [vW]
 have aY:(arrOf st).toList=(U.flatten++X)++Y++(aa.flatten++rest):=by rw [h.ar];simp [vW]
 have ac:(U.flatten++X).length=U.flatten.length+X.length:=u7;have mX:∀a∈X,a∈xs0.toList:=fun a ha=>h.mem (by rw [aX];simp [ha])
 have mY:∀a∈Y,a∈xs0.toList:=fun a ha=>h.mem (by rw [aY];simp [ha])
 have g1:(pendingOf st)[U.length]? =some (U.flatten.length,X.length,p1):=by
  have:(pendingOf st).toList[U.length]? =some (U.flatten.length,X.length,p1):=by rw [eL,<-ai];simp
  simpa using this
 have g2:(pendingOf st)[U.length+1]? =some (U.flatten.length+X.length,Y.length,p2):=by
  have:(pendingOf st).toList[U.length+1]? =some (U.flatten.length+X.length,Y.length,p2):=by rw [eL,<-ai,uJ (by omega)];simp
  simpa using this
 rw [mergeAt'_eq];refine wpS_bind (V9 ?_);rw [g1,g2];dsimp only;refine wpS_bind (wpS_set ?_);generalize hv:setPending st (((pendingOf st).setIfInBounds U.length (U.flatten.length,X.length+Y.length,p1)).eraseIdxIfInBounds (U.length+1))=v;have kv:kindOf v=kindOf st:=by rw [<-hv]
 have fv:failedOf v=failedOf st:=by rw [<-hv]
 have av:arrOf v=arrOf st:=by rw [<-hv]
 have pv:∀Z:List Keyed,Z.length=X.length+Y.length->(pendingOf v).toList.map pr2=offs 0 (U++Z::aa):=fun Z hZ=>by
  have e:(pendingOf v).toList=L1++(U.flatten.length,X.length+Y.length,p1)::L2:=by
   rw [<-hv];show(((pendingOf st).setIfInBounds U.length (U.flatten.length,X.length+Y.length,p1)).eraseIdxIfInBounds (U.length+1)).toList=_;rw [Array.toList_eraseIdxIfInBounds,Array.toList_setIfInBounds,eL,<-ai,List.set_append_right _ _ (u8 _),Nat.sub_self,List.set_cons_zero,List.eraseIdx_append_of_length_le (by omega),Uj]
   rfl
  rw [e,ud,ui,ay,az,yr,Ug,offs,hZ,Nat.add_assoc]
  rfl
 have ag:kindOf v=kd:=kv.trans h.ki;have y0:=JK aY (i:=0) nY;rw [ac,Nat.add_zero] at y0;refine wpS_bind (QO y0 ?_);have rX:∀i (hi:i<X.length),rkAt rk (arrOf st) (U.flatten.length+i)=rk X[i]:=fun i hi=>qS (JK aX hi);have rY:∀i (hi:i<Y.length),rkAt rk (arrOf st) (U.flatten.length+X.length+i)=rk Y[i]:=fun i hi=>by
  have:=JK aY hi;rw [ac] at this;exact qS this
 refine wpS_bind (gal hc ag (mY _ (uj nY)) (fun i hi=>⟨X[i],JK aX hi,mX _ (uj hi)⟩) nX (fun i j ij hj e=> ?_) fun k k1 k2 k3=> ?_)
 ·simp only [bey,ug,uU,vE,uE,rX j hj,rX i (by omega)] at e⊢
  have:=pw_at pX ij hj;omega
 dsimp only;have lo:∀i (hi:i<k),rk (X[i]'(by omega))<=rk Y[0]:=fun i hi=>by
  have:=k2 i hi;simp only [bey,ug,uU,vE,uE,rX i (by omega)] at this
  omega
 have up:∀i (hi:i<X.length),k<=i->rk Y[0]<=rk X[i]:=fun i hi ki=>by
  have:=k3 i ki hi;simp only [bey,ug,uU,UU,uZ,rX i hi] at this;omega
 have am:(X++Y).Pairwise (Rr rk)->Q true v:=fun hp=>q (X++Y) v u7 (h.laid u7 (List.Perm.refl _) hp kv fv (by rw [av,aX];simp) (pv _ u7))
 have ao:∀b∈Y,rk Y[0]<=rk b:=fun b hb=>by
  obtain⟨j,hj,rfl⟩:=List.mem_iff_getElem.mp hb;exact pw_at pY (vh _) hj
 by_cases c1:X.length-k=0
 ·rw [if_pos (by simpa using c1)]
  refine ul (am ?_);rw [uL];refine⟨pX,pY,fun a ha b hb=> ?_⟩;obtain⟨i,hi,rfl⟩:=List.mem_iff_getElem.mp ha;exact uG (lo i (by omega)) (ao b hb)
 rw [if_neg (by simpa using c1)]
 have xl:=JK aX (i:=X.length-1) (by omega)
 rw [show U.flatten.length+k+(X.length-k)-1=U.flatten.length+(X.length-1) by omega]
 refine wpS_bind (QO xl ?_);refine wpS_bind (gal hc ag (mX _ (uj _)) (fun i hi=>⟨Y[i],by have:=JK aY hi;rw [ac] at this;exact this,mY _ (uj hi)⟩) (by omega) (fun i j ij hj e=> ?_) fun n n1 n2 n3=> ?_)
 ·simp only [bey,vg,uZ,rY j hj,rY i (by omega)] at e⊢
  have:=pw_at pY ij hj;omega
 dsimp only;have aj:∀a∈X,rk a<=rk (X[X.length-1]'(by omega)):=fun a ha=>by
  obtain⟨i,hi,rfl⟩:=List.mem_iff_getElem.mp ha;exact pw_at pX (by omega) (by omega)
 have ap:∀i (hi:i<n),rk (Y[i]'(by omega))<=rk (X[X.length-1]'(by omega)):=fun i hi=>by
  have:=n2 i hi;simp only [bey,vg,uZ,rY i (by omega)] at this
  omega
 have aq:∀i (hi:i<Y.length),n<=i->rk (X[X.length-1]'(by omega))<=rk Y[i]:=fun i hi ni=>by
  have:=n3 i ni hi;simp only [bey,vg,uE,rY i hi] at this;omega
 by_cases c2:n=0
 ·rw [if_pos (by simpa using c2)]
  refine ul (am ?_);rw [uL];refine⟨pX,pY,fun a ha b hb=> ?_⟩;obtain⟨j,hj,rfl⟩:=List.mem_iff_getElem.mp hb;exact uG (aj a ha) (aq j hj (by omega))
 rw [if_neg (by simpa using c2)]
 have ex:((arrOf st).extract (U.flatten.length+k) (U.flatten.length+X.length)).toList=X.drop k:=by
  refine mid_ext (P:=U.flatten++X.take k) (S:=Y++(aa.flatten++rest)) ?_ ?_ ?_
  ·have e:U.flatten++X.take k++X.drop k=U.flatten++X:=by rw [um,uu]
   rw [aX,e]
  ·rw [u7,uA];omega
  ·rw [u7,uA,ve];omega
 have ey:((arrOf st).extract (U.flatten.length+X.length) (U.flatten.length+X.length+n)).toList=Y.take n:=by
  refine mid_ext (P:=U.flatten++X) (S:=Y.drop n++(aa.flatten++rest)) ?_ ?_ ?_
  ·rw [aY,um _ (Y.take n),<-um (Y.take n),uu,um _ Y]
  ·exact ac.symm
  ·rw [ac,uA];omega
 generalize (arrOf st).extract (U.flatten.length+k) (U.flatten.length+X.length)=x at ex⊢;generalize (arrOf st).extract (U.flatten.length+X.length) (U.flatten.length+X.length+n)=y at ey⊢;have sx:x.size=X.length-k:=by rw [<-Array.length_toList,ex,ve]
 have sy:y.size=n:=by rw [<-Array.length_toList,ey,uA];omega
 have M:MOk rk xs0 x y:=by
  refine⟨by rw [ex];exact uM (Uc _ _) pX,by rw [ey];exact uM (Ua _ _) pY,by omega,by omega,fun a ha=>mX a (Ux (by rw [<-ex];exact ha)),fun a ha=>mY a (vP (by rw [<-ey];exact ha)),fun a ha b hb=> ?_,fun a ha b hb=> ?_⟩
  ·rw [ex] at ha;obtain⟨i,hi⟩:=List.mem_iff_getElem?.mp ha;rw [vx] at hi;obtain⟨ak,ad⟩:=List.getElem?_eq_some_iff.mp hi;have ae:y.toList[0]? =some b:=by simpa using hb
   rw [ey,vM,if_pos (by omega),u4 nY] at ae
   cases ae;rw [<-ad];exact up (k+i) ak (by omega)
  ·rw [ey] at ha;obtain⟨j,hj⟩:=List.mem_iff_getElem?.mp ha;rw [vM] at hj;split at hj
   ·rename_i aA
    obtain⟨ah,af⟩:=List.getElem?_eq_some_iff.mp hj;have ae:x.toList[x.size-1]? =some b:=by simpa using hb
    rw [ex,vx,show k+(x.size-1)=X.length-1 by omega,u4 (by omega)] at ae
    cases ae;rw [<-af];exact ap j aA
   ·cases hj
 have fin:∀(mm:Array Keyed) (u:SortSt),Fin' rk x.toList y.toList mm.toList->GK v u->wpS (model P w) A E s (do modify fun z=>setArr z (lay (arrOf z) (U.flatten.length+k) mm.toList);return (failedOf (<-get)).isNone) Q u:=by
  intro mm u hF hG;rw [ex,ey] at hF;refine wpS_bind (UJ (wpS_bind (V9 (ul ?_))));have aw:failedOf u=none:=(hG.2.2.2.trans fv).trans h.ok;have lm:mm.toList.length=X.length-k+n:=by
   have:=hF.1.length_eq;rw [u7,ve,uA] at this;omega
  show Q (failedOf u).isNone _;rw [aw];have au:arrOf u=arrOf st:=hG.2.1.trans av;have al:(X.take k++mm.toList++Y.drop n).length=X.length+Y.length:=by
   rw [u7,u7,uA,ve];omega
  have hsz:(arrOf st).size=U.flatten.length+X.length+Y.length+(aa.flatten++rest).length:=by
   rw [<-Array.length_toList,aY,u7,u7,ac]
  refine q (X.take k++mm.toList++Y.drop n) _ al (h.laid al ?_ ?_ (hG.1.trans kv) (aw.trans h.ok.symm) ?_ ?_)
  ·have h1:=(hF.1.append_left (X.take k)).append_right (Y.drop n);refine h1.trans ?_;rw [<-um (X.take k),uu,um X,uu]
  ·rw [uL,uL];have ax:∀a∈mm.toList,a∈X.drop k∨a∈Y.take n:=fun a ha=>List.mem_append.mp (hF.1.mem_iff.mp ha);refine⟨⟨uM (Ua _ _) pX,hF.2,fun a ha b hb=> ?_⟩,uM (Uc _ _) pY,fun a ha b hb=> ?_⟩
   ·obtain⟨i,hi⟩:=List.mem_iff_getElem?.mp ha;rw [vM] at hi;split at hi
    ·rename_i aB
     obtain⟨ak,ad⟩:=List.getElem?_eq_some_iff.mp hi;have h0:=lo i aB;rw [ad] at h0;rcases ax b hb with hb|hb
     ·obtain⟨j,hj⟩:=List.mem_iff_getElem?.mp hb;rw [vx] at hj;obtain⟨ah,af⟩:=List.getElem?_eq_some_iff.mp hj;have:=pw_at pX (i:=i) (j:=k+j) (by omega) ah
      rw [ad,af] at this;exact this
     ·exact uG h0 (ao b (vP hb))
    ·cases hi
   ·obtain⟨j,hj⟩:=List.mem_iff_getElem?.mp hb;rw [vx] at hj;obtain⟨ah,af⟩:=List.getElem?_eq_some_iff.mp hj;have h0:=aq (n+j) ah (by omega)
    rw [af] at h0;rcases List.mem_append.mp ha with ha|ha
    ·exact uG (aj a (vP ha)) h0
    ·rcases ax a ha with ha|ha
     ·exact uG (aj a (Ux ha)) h0
     ·obtain⟨i,hi⟩:=List.mem_iff_getElem?.mp ha;rw [vM] at hi;split at hi
      ·rename_i aC
       obtain⟨ak,ad⟩:=List.getElem?_eq_some_iff.mp hi;have:=ap i aC;rw [ad] at this;exact uG this h0
      ·cases hi
  ·show(lay (arrOf u) (U.flatten.length+k) mm.toList).toList=_;rw [au,lay_list _ _ _ _ rfl (by omega),lm]
   have t1:(arrOf st).toList.take (U.flatten.length+k)=U.flatten++X.take k:=by
    have e:(arrOf st).toList=(U.flatten++X.take k)++(X.drop k++(Y++(aa.flatten++rest))):=by
     have e2:U.flatten++X.take k++X.drop k=U.flatten++X:=by rw [um,uu]
     rw [aX,<-um (U.flatten++X.take k),e2]
    rw [e];exact List.take_left' (by rw [u7,uA];omega)
   have t2:(arrOf st).toList.drop (U.flatten.length+k+(X.length-k+n))=Y.drop n++(aa.flatten++rest):=by
    have e:(arrOf st).toList=(U.flatten++X++Y.take n)++(Y.drop n++(aa.flatten++rest)):=by
     have e2:U.flatten++X++Y.take n++Y.drop n=U.flatten++X++Y:=by rw [um _ (Y.take n),uu]
     rw [aY,<-um (U.flatten++X++Y.take n),e2]
    rw [e];exact List.drop_left' (by rw [u7,ac,uA];omega)
   rw [t1,t2];simp
  ·show(pendingOf u).toList.map pr2=_;rw [hG.2.2.1];exact pv _ al
 by_cases c3:X.length-k<=n
 ·rw [if_pos c3];exact wpS_bind (merge_lo hc ag M fun r u hF hG=>fin r u hF hG)
 ·rw [if_neg c3];exact wpS_bind (merge_hi hc ag M fun r u hF hG=>fin r u hF hG)
end
structure SL (kd:SortKind)(xs0 b0:Array Keyed)(p0:Array (Nat×Nat×Nat))(lo:Nat)(st:SortSt):Prop where
 pm:(arrOf st).Perm xs0
 ki:kindOf st=kd
 ok:failedOf st=none
 pe:pendingOf st=p0
 pr:∀k,k<lo->(arrOf st)[k]? =b0[k]?
section
variable {P:Program}{w:World}{A:Around}{E:Value->Shared->Prop}{s:Shared}{kd:SortKind}{xs0 b0:Array Keyed}{p0:Array (Nat×Nat×Nat)}{lo:Nat}{rk:Keyed->Nat}
theorem SL.sz {st:SortSt}(h:SL kd xs0 b0 p0 lo st):(arrOf st).size=xs0.size:=h.pm.size_eq
theorem SL.mir {st:SortSt}(h:SL kd xs0 b0 p0 lo st){i j:Nat}(hi:lo<=i)(U:j<=(arrOf st).size):SL kd xs0 b0 p0 lo (setArr st (mirror (arrOf st) i j ((j-i)/2))):=
 ⟨(mirror_perm _ _ _ _).trans h.pm,h.ki,h.ok,h.pe,fun k Z=>by
  show(mirror (arrOf st) i j ((j-i)/2))[k]? =_;rw [getElem?_mirror_all U k,if_neg (by omega)]
  exact h.pr k Z⟩
def AscL (rk:Keyed->Nat)(xs:Array Keyed)(lo n:Nat):Prop:=∀i j,i<=j->j<n->rkAt rk xs (lo+i)<=rkAt rk xs (lo+j)
def DscL (rk:Keyed->Nat)(xs:Array Keyed)(lo n:Nat):Prop:=∀i j,i<=j->j<n->rkAt rk xs (lo+j)<=rkAt rk xs (lo+i)
variable {E:Value->Shared->Prop}
theorem SL.at {st:SortSt}(h:SL kd xs0 b0 p0 lo st){i:Nat}(hi:i<xs0.size):∃x,x∈xs0.toList/\(arrOf st)[i]? =some x/\rkAt rk (arrOf st) i=rk x:=by
 have U:i<(arrOf st).size:=by rw [h.sz];exact hi
 have e:(arrOf st)[i]? =some (arrOf st)[i]:=getElem?_pos _ i U;exact⟨(arrOf st)[i],(Array.perm_iff_toList_perm.mp h.pm).mem_iff.mp (by simp),e,qS e⟩
theorem lt_L {st:SortSt}{i j:Nat}{Q:Option Bool->SortSt->Prop}(Z:ByRk P w A s kd xs0 rk)(U:SL kd xs0 b0 p0 lo st)(hi:i<xs0.size)(hj:j<xs0.size)
  (q:Q (some (decide (rkAt rk (arrOf st) i<rkAt rk (arrOf st) j))) st):wpS (model P w) A E s (ltAt' i j) Q st:=by
 obtain⟨x,mx,ex,rx⟩:=U.at (rk:=rk) hi;obtain⟨y,my,ey,ry⟩:=U.at (rk:=rk) hj;rw [rx,ry] at q;rw [ltAt'_eq];refine wpS_bind (V9 ?_);refine wpS_bind (QO ex (wpS_bind (QO ey (lt_two Z U.ki mx my q))))
theorem ins_L {st:SortSt}{n ok:Nat}{Q:Bool->SortSt->Prop}(hc:ByRk P w A s kd xs0 rk)(hn:lo+n<=xs0.size)(hok:ok<=n)(hB:SL kd xs0 b0 p0 lo st)(hs:AscL rk (arrOf st) lo ok)
  (q:∀u,SL kd xs0 b0 p0 lo u->AscL rk (arrOf u) lo n->Q true u):wpS (model P w) A E s (binarySort' lo n ok) Q st:=by
 rw [binarySort'_eq];refine wpS_bind (wpS_mono (wpS_forRange (I:=fun k c u=>c=(none,())/\SL kd xs0 b0 p0 lo u/\AscL rk (arrOf u) lo (min k n)) (Q:=fun c u=>c=(none,())/\SL kd xs0 b0 p0 lo u/\AscL rk (arrOf u) lo n) ?st ?en ?be) ?af)
 case af=>
  rintro c u ⟨rfl,Z,U⟩;exact ul (q u Z U)
 case be=>
  refine⟨rfl,hB,fun i j a b=> ?_⟩;rcases Nat.eq_zero_or_pos ok with z|z
  ·rw [show i=j by omega]
   exact u8 _
  ·exact hs i j a (by omega)
 case en=>
  rintro c u ⟨z0,Z,U⟩;refine⟨z0,Z,?_⟩;rw [show min (max (max ok 1) n) n=n by omega] at U
  exact U
 case st=>
  rintro k c v ka kn ⟨rfl,Z,U⟩;rw [show min k n=k by omega] at U
  have hk:lo+k<xs0.size:=by omega
  refine wpS_bind (wpS_mono (wpS_forRange (I:=fun x c u=>u=v/\∃l r,c=(none,l,r)/\l<=r/\r<=k/\r-l<=k-x/\(∀i,i<l->rkAt rk (arrOf v) (lo+i)<=rkAt rk (arrOf v) (lo+k))/\∀i,r<=i->i<k->rkAt rk (arrOf v) (lo+k)<rkAt rk (arrOf v) (lo+i))
   (Q:=fun c u=>u=v/\∃l r,c=(none,l,r)/\l<=k/\(∀i,i<l->rkAt rk (arrOf v) (lo+i)<=rkAt rk (arrOf v) (lo+k))/\∀i,l<=i->i<k->rkAt rk (arrOf v) (lo+k)<rkAt rk (arrOf v) (lo+i)) ?st2 ?en2 ?be2) ?af2)
  case be2=>exact⟨rfl,0,k,rfl,vh _,u8 _,by omega,fun i z=>absurd z (Nat.not_lt_zero _),fun i z1 z2=>by omega⟩
  case en2=>
   rintro c u ⟨rfl,l,r,rfl,c1,c2,c3,c4,c5⟩;obtain rfl:l=r:=by omega
   exact⟨rfl,l,l,rfl,c2,c4,c5⟩
  case st2=>
   rintro x c u _ xk ⟨rfl,l,r,rfl,c1,c2,c3,c4,c5⟩;dsimp only;by_cases aa:l≥r
   ·rw [if_pos aa];obtain rfl:l=r:=by omega
    exact ul ⟨rfl,l,l,rfl,c2,c4,c5⟩
   ·rw [if_neg aa];refine wpS_bind (lt_L hc Z hk (by omega) ?_)
    by_cases le:rkAt rk (arrOf u) (lo+k)<rkAt rk (arrOf u) (lo+(l+r)/2)
    ·rw [u9 le];simp only [vg];refine ul ⟨rfl,l,(l+r)/2,rfl,by omega,by omega,by omega,c4,fun i z1 z2=> ?_⟩
     exact Nat.lt_of_lt_of_le le (U _ _ z1 z2)
    ·rw [ua le];simp only [ug,uU];refine ul ⟨rfl,(l+r)/2+1,r,rfl,by omega,by omega,by omega,fun i z1=> ?_,c5⟩
     have:=U i ((l+r)/2) (by omega) (by omega)
     omega
  case af2=>
   rintro c u ⟨rfl,l,r,rfl,c2,c4,c5⟩;show wpS _ _ _ _ (moveDown' (lo+k) (lo+l)>>=fun _=>pure (ForInStep.yield (none,()))) _ _;rw [moveDown'_eq];have ks:lo+k<(arrOf u).size:=by rw [Z.sz];exact hk
   refine wpS_bind (UJ (ul ⟨rfl,⟨(bubble_perm _ _ _).trans Z.pm,Z.ki,Z.ok,Z.pe,fun t ht=> ?_⟩,?_⟩))
   ·show(bubble (arrOf u) (lo+k) (lo+k-(lo+l)))[t]? =_;rw [getElem?_bubble ks _ (by omega) t,if_neg (by omega),if_neg (by omega)]
    exact Z.pr t ht
   rw [show min (k+1) n=k+1 by omega]
   intro i j ij jk;have e1:=rk_bub (rk:=rk) ks (show lo+k-(lo+l)<=lo+k by omega) (lo+i)
   have e2:=rk_bub (rk:=rk) ks (show lo+k-(lo+l)<=lo+k by omega) (lo+j)
   show rkAt rk (bubble (arrOf u) (lo+k) (lo+k-(lo+l))) (lo+i)<=rkAt rk (bubble (arrOf u) (lo+k) (lo+k-(lo+l))) (lo+j);rw [e1,e2,show lo+k-(lo+k-(lo+l))=lo+l by omega]
   have g2:∀y,l<=y->y<k->rkAt rk (arrOf u) (lo+k)<=rkAt rk (arrOf u) (lo+y):=fun y z1 z2=>vm (c5 y z1 z2);have sh:∀y,l<y->lo+y-1=lo+(y-1):=fun y hy=>by omega
   split<;>split<;>(try split)<;>(try split)<;>first
    |exact u8 _
    |(exfalso;omega)
    |exact c4 _ (by omega)
    |exact g2 _ (by omega) (by omega)
    |exact U _ _ (by omega) (by omega)
    |(rw [sh j (by omega)];exact g2 _ (by omega) (by omega))
    |(rw [sh j (by omega)];exact U _ _ (by omega) (by omega))
    |(rw [sh i (by omega)];exact U _ _ (by omega) (by omega))
    |(rw [sh i (by omega),sh j (by omega)];exact U _ _ (by omega) (by omega))
end
def ascQ (lo a m:Nat):StateT SortSt Sem AscSt:=
 forIn [a:m] ((none,a):AscSt) fun _ c=>do
  let z<-ltAt' (lo+c.2) (lo+c.2-1)
  match z with
  |some b=>if b=true then pure (ForInStep.done (none,c.2)) else pure (ForInStep.yield (none,c.2+1))
  |_=>pure (ForInStep.done (some none,c.2))
def tailQ (lo n m:Nat):StateT SortSt Sem (Option Nat):=do
 reverseSlice' lo (lo+n)
 let c<-ascQ lo n m
 match c.1 with
 |some r=>pure r
 |none=>pure (some c.2)
def descQ (lo n m:Nat):StateT SortSt Sem DescSt:=
 forIn [n:m] ((none,n,0):DescSt) fun _ c=>do
  let z<-ltAt' (lo+c.2.1) (lo+c.2.1-1)
  match z with
  |some b=>
   if b=true then
    if c.2.2>0 then do
     reverseSlice' (lo+c.2.1-(c.2.2+1)) (lo+c.2.1)
     pure (ForInStep.yield (none,c.2.1+1,0))
    else pure (ForInStep.yield (none,c.2.1+1,0))
   else do
    let z<-ltAt' (lo+c.2.1-1) (lo+c.2.1)
    match z with
    |some g=>if g=true then pure (ForInStep.done (none,c.2.1,c.2.2)) else pure (ForInStep.yield (none,c.2.1+1,c.2.2+1))
    |_=>pure (ForInStep.done (some none,c.2.1,c.2.2))
  |_=>pure (ForInStep.done (some none,c.2.1,c.2.2))
def fallQ (lo n m:Nat):StateT SortSt Sem (Option Nat):=do
 rule "list.sort.descending-run"
 let c<-descQ lo (n+1) m
 match c.1 with
 |some r=>pure r
 |none=>
  if c.2.2>0 then do
   reverseSlice' (lo+c.2.1-(c.2.2+1)) (lo+c.2.1)
   tailQ lo c.2.1 m
  else tailQ lo c.2.1 m
theorem j8 (lo m:Nat):countRun' lo m=(do
  let c<-ascQ lo 1 m
  match c.1 with
  |some r=>pure r
  |none=>
   if(c.2==m)=true then pure (some c.2)
   else if c.2>1 then do
    let z<-ltAt' lo (lo+c.2-1)
    match z with
    |some b=>if b=true then pure (some c.2) else do
      reverseSlice' lo (lo+c.2)
      fallQ lo c.2 m
    |_=>pure none
   else fallQ lo c.2 m):=by
 rw [countRun'_eq];unfold fallQ tailQ descQ ascQ;dsimp only;have U:∀{α β:Type}{m m':StateT SortSt Sem α}{f f':α->StateT SortSt Sem β},m=m'->(∀a,f a=f' a)->(m>>=f)=(m'>>=f'):=fun h1 h2=>by rw [h1,funext h2]
 have t3:∀c:AscSt,(match c.fst with|some r=>(pure r:StateT SortSt Sem (Option Nat))|none=>pure (some c.snd))=(match c.fst with|some r=>pure r|none=>pure (some c.snd)):=fun c=>rfl
 refine U ?_ ?_
 ·refine congrArg _ (funext fun a=>funext fun c=>U rfl fun z=> ?_);cases z<;>rfl
 ·rintro⟨r,n⟩;cases r with
  |some r=>rfl
  |none=>
   dsimp only;have dt:∀n0:Nat,(∀(X Y:StateT SortSt Sem (Option Nat)),True):=fun _ _ _=>trivial;refine ite_congr rfl (fun _=>rfl) fun _=>ite_congr rfl (fun _=>U rfl fun z=> ?_) fun _=> ?_
   ·cases z with
    |none=>rfl
    |some b=>
     dsimp only;refine ite_congr rfl (fun _=>rfl) fun _=>U rfl fun _=>U rfl fun _=>U ?_ ?_
     ·refine congrArg _ (funext fun a=>funext fun c=>U rfl fun z=> ?_);cases z with
      |none=>rfl
      |some b=>
       dsimp only;refine ite_congr rfl (fun _=>rfl) fun _=>U rfl fun z=> ?_;cases z<;>rfl
     ·rintro⟨r2,n2,q2⟩;cases r2 with
      |some r2=>rfl
      |none=>
       dsimp only;refine ite_congr rfl (fun _=>U rfl fun _=>U rfl fun _=>U ?_ ?_) fun _=>U rfl fun _=>U ?_ ?_
       ·refine congrArg _ (funext fun a=>funext fun c=>U rfl fun z=> ?_);cases z<;>rfl
       ·rintro⟨Z,n3⟩;cases Z<;>rfl
       ·refine congrArg _ (funext fun a=>funext fun c=>U rfl fun z=> ?_);cases z<;>rfl
       ·rintro⟨Z,n3⟩;cases Z<;>rfl
   ·refine U rfl fun _=>U ?_ ?_
    ·refine congrArg _ (funext fun a=>funext fun c=>U rfl fun z=> ?_);cases z with
     |none=>rfl
     |some b=>
      dsimp only;refine ite_congr rfl (fun _=>rfl) fun _=>U rfl fun z=> ?_;cases z<;>rfl
    ·rintro⟨r2,n2,q2⟩;cases r2 with
     |some r2=>rfl
     |none=>
      dsimp only;refine ite_congr rfl (fun _=>U rfl fun _=>U rfl fun _=>U ?_ ?_) fun _=>U rfl fun _=>U ?_ ?_
      ·refine congrArg _ (funext fun a=>funext fun c=>U rfl fun z=> ?_);cases z<;>rfl
      ·rintro⟨Z,n3⟩;cases Z<;>rfl
      ·refine congrArg _ (funext fun a=>funext fun c=>U rfl fun z=> ?_);cases z<;>rfl
      ·rintro⟨Z,n3⟩;cases Z<;>rfl
section
variable {P:Program}{w:World}{A:Around}{E:Value->Shared->Prop}{s:Shared}{kd:SortKind}{xs0 b0:Array Keyed}{p0:Array (Nat×Nat×Nat)}{lo:Nat}{rk:Keyed->Nat}
theorem up_L {st:SortSt}{a m:Nat}{Q:AscSt->SortSt->Prop}(Z:ByRk P w A s kd xs0 rk)(hm:lo+m<=xs0.size)(ha:1<=a)(am:a<=m)(hB:SL kd xs0 b0 p0 lo st)(hs:AscL rk (arrOf st) lo a)
  (q:∀n,a<=n->n<=m->AscL rk (arrOf st) lo n->(n=m∨rkAt rk (arrOf st) (lo+n)<rkAt rk (arrOf st) (lo+n-1))->Q (none,n) st):wpS (model P w) A E s (ascQ lo a m) Q st:=by
 unfold ascQ;refine wpS_forRange (I:=fun x c u=>u=st/\c=(none,x)/\AscL rk (arrOf st) lo x) ?st ?en ⟨rfl,rfl,hs⟩
 case en=>
  rintro c u ⟨rfl,rfl,b⟩;rw [show max a m=m by omega] at b⊢
  exact q m am (u8 _) b (.inl rfl)
 case st=>
  rintro x c u xa xm ⟨rfl,rfl,b⟩;dsimp only;refine wpS_bind (lt_L Z hB (by omega) (by omega) ?_)
  by_cases U:rkAt rk (arrOf u) (lo+x)<rkAt rk (arrOf u) (lo+x-1)
  ·rw [u9 U];simp only [vg];exact ul (q x xa (by omega) b (.inr U))
  ·rw [ua U];simp only [ug,uU];refine ul ⟨rfl,rfl,fun i j ij jx=> ?_⟩;rcases vc j x with z|z
   ·exact b i j ij z
   ·obtain rfl:j=x:=by omega
    rcases vc i j with y|y
    ·have:=b i (j-1) (by omega) (by omega)
     rw [show lo+(j-1)=lo+j-1 by omega] at this
     omega
    ·rw [show i=j by omega]
     exact u8 _
theorem tail_L {st:SortSt}{n m:Nat}{Q:Option Nat->SortSt->Prop}(hc:ByRk P w A s kd xs0 rk)(hm:lo+m<=xs0.size)(h1:1<=n)(nm:n<=m)(Z:SL kd xs0 b0 p0 lo st)(hs:DscL rk (arrOf st) lo n)
  (q:∀k u,SL kd xs0 b0 p0 lo u->1<=k->k<=m->AscL rk (arrOf u) lo k->Q (some k) u):wpS (model P w) A E s (tailQ lo n m) Q st:=by
 unfold tailQ;have hz:lo+n<=(arrOf st).size:=by rw [Z.sz];omega
 have U:=Z.mir (i:=lo) (j:=lo+n) (u8 _) hz;refine wpS_bind (wpS_reverse (wpS_bind (up_L hc hm h1 nm U ?_ fun k k1 k2 k3 _=>ul (q k _ U (by omega) k2 k3))))
 intro i j ij jn;have e1:=rk_mir (rk:=rk) (i:=lo) hz (lo+i);have e2:=rk_mir (rk:=rk) (i:=lo) hz (lo+j);rw [if_pos (by omega)] at e1 e2
 show rkAt rk (mirror (arrOf st) lo (lo+n) _) (lo+i)<=rkAt rk (mirror (arrOf st) lo (lo+n) _) (lo+j);rw [e1,e2,show lo+(lo+n)-1-(lo+i)=lo+(n-1-i) by omega,show lo+(lo+n)-1-(lo+j)=lo+(n-1-j) by omega]
 exact hs _ _ (by omega) (by omega)
theorem dsc_L {xs:Array Keyed}{x:Nat}(h:DscL rk xs lo x)(e:1<=x->rkAt rk xs (lo+x)<=rkAt rk xs (lo+x-1)):DscL rk xs lo (x+1):=by
 intro i j U Z;rcases vc j x with z|z
 ·exact h i j U z
 ·obtain rfl:j=x:=by omega
  rcases vc i j with y|y
  ·have h1:=h i (j-1) (by omega) (by omega)
   have h2:=e (by omega)
   rw [show lo+(j-1)=lo+j-1 by omega] at h1
   omega
  ·rw [show i=j by omega]
   exact u8 _
theorem down_L {st:SortSt}{n m:Nat}{Q:DescSt->SortSt->Prop}(hc:ByRk P w A s kd xs0 rk)(hm:lo+m<=xs0.size)(h1:1<=n)(nm:n<=m)(hB:SL kd xs0 b0 p0 lo st)(hs:DscL rk (arrOf st) lo n)
  (q:∀k e u,SL kd xs0 b0 p0 lo u->n<=k->k<=m->DscL rk (arrOf u) lo k->e+1<=k->(∀i,lo+k-(e+1)<=i->i<lo+k->rkAt rk (arrOf u) i=rkAt rk (arrOf u) (lo+k-1))->Q (none,k,e) u):wpS (model P w) A E s (descQ lo n m) Q st:=by
 unfold descQ;have one:∀(xs:Array Keyed) (x i:Nat),x-(0+1)<=i->i<x->rkAt rk xs i=rkAt rk xs (x-1):=fun xs x i z1 z2=>by rw [show i=x-1 by omega]
 refine wpS_forRange (I:=fun x c u=>∃e,c=(none,x,e)/\SL kd xs0 b0 p0 lo u/\DscL rk (arrOf u) lo x/\e+1<=x/\∀i,lo+x-(e+1)<=i->i<lo+x->rkAt rk (arrOf u) i=rkAt rk (arrOf u) (lo+x-1)) ?st ?en ⟨0,rfl,hB,hs,by omega,one _ _⟩
 case en=>
  rintro c u ⟨e,rfl,U,b2,b3,Z⟩;rw [show max n m=m by omega] at b2 b3 Z⊢
  exact q m e u U nm (u8 _) b2 b3 Z
 case st=>
  rintro x c u xa xm ⟨e,rfl,U,b2,b3,Z⟩;dsimp only;have hz:lo+x<=(arrOf u).size:=by rw [U.sz];omega
  refine wpS_bind (lt_L hc U (by omega) (by omega) ?_)
  by_cases le:rkAt rk (arrOf u) (lo+x)<rkAt rk (arrOf u) (lo+x-1)
  ·rw [u9 le];simp only [vg];by_cases pe:e>0
   ·rw [if_pos pe];refine wpS_bind (wpS_reverse (ul ⟨0,rfl,U.mir (by omega) hz,?_,by omega,one _ _⟩))
    refine dsc_L (fun i j ij jx=> ?_) fun _=> ?_
    ·show rkAt rk (mirror (arrOf u) _ _ _) (lo+j)<=rkAt rk (mirror (arrOf u) _ _ _) (lo+i);rw [Q6 hz Z,Q6 hz Z];exact b2 i j ij jx
    ·show rkAt rk (mirror (arrOf u) _ _ _) (lo+x)<=rkAt rk (mirror (arrOf u) _ _ _) (lo+x-1);rw [Q6 hz Z,Q6 hz Z];exact vm le
   ·rw [if_neg pe];exact ul ⟨0,rfl,U,dsc_L b2 fun _=>vm le,by omega,one _ _⟩
  ·rw [ua le];simp only [ug,uU];refine wpS_bind (lt_L hc U (by omega) (by omega) ?_)
   by_cases gr:rkAt rk (arrOf u) (lo+x-1)<rkAt rk (arrOf u) (lo+x)
   ·rw [u9 gr];simp only [vg];exact ul (q x e u U xa (by omega) b2 b3 Z)
   ·rw [ua gr];simp only [ug,uU];have ex:rkAt rk (arrOf u) (lo+x)=rkAt rk (arrOf u) (lo+x-1):=by omega
    refine ul ⟨e+1,rfl,U,dsc_L b2 fun _=>V1 ex,by omega,fun i z1 z2=> ?_⟩
    rw [show lo+(x+1)-1=lo+x by omega]
    rcases vc i (lo+x) with y|y
    ·rw [ex];exact Z i (by omega) y
    ·rw [show i=lo+x by omega]
theorem fall_L {st:SortSt}{n m:Nat}{Q:Option Nat->SortSt->Prop}(U:ByRk P w A s kd xs0 rk)(hm:lo+m<=xs0.size)(nm:n+1<=m)(hB:SL kd xs0 b0 p0 lo st)(hs:DscL rk (arrOf st) lo (n+1))
  (q:∀k u,SL kd xs0 b0 p0 lo u->1<=k->k<=m->AscL rk (arrOf u) lo k->Q (some k) u):wpS (model P w) A E s (fallQ lo n m) Q st:=by
 unfold fallQ;refine wpS_bind (wpS_lift (wpAny_rule ⟨rfl,?_⟩));refine wpS_bind (down_L U hm (by omega) nm hB hs fun k e u Z k1 k2 b2 b3 b4=> ?_)
 dsimp only;have hz:lo+k<=(arrOf u).size:=by rw [Z.sz];omega
 by_cases pe:e>0
 ·rw [if_pos pe];refine wpS_bind (wpS_reverse (tail_L U hm (by omega) k2 (Z.mir (by omega) hz) (fun i j ij jk=> ?_) q))
  show rkAt rk (mirror (arrOf u) _ _ _) (lo+j)<=rkAt rk (mirror (arrOf u) _ _ _) (lo+i);rw [Q6 hz b4,Q6 hz b4];exact b2 i j ij jk
 ·rw [if_neg pe];exact tail_L U hm (by omega) k2 Z b2 q
theorem run_L {st:SortSt}{m:Nat}{Q:Option Nat->SortSt->Prop}(hc:ByRk P w A s kd xs0 rk)(hm:lo+m<=xs0.size)(h1:1<=m)(hB:SL kd xs0 b0 p0 lo st)
  (q:∀k u,SL kd xs0 b0 p0 lo u->1<=k->k<=m->AscL rk (arrOf u) lo k->Q (some k) u):wpS (model P w) A E s (countRun' lo m) Q st:=by
 rw [j8];refine wpS_bind (up_L hc hm (u8 1) h1 hB (fun i j ij jk=>by rw [show i=j by omega];exact u8 _) fun n n1 n2 up aa=> ?_)
 dsimp only;by_cases all:n=m
 ·rw [if_pos (by simpa using all)]
  exact ul (q n st hB n1 n2 up)
 ·rw [if_neg (by simpa using all)]
  have le:=aa.resolve_left all;by_cases many:n>1
  ·rw [if_pos many];refine wpS_bind (lt_L hc hB (by omega) (by omega) ?_)
   by_cases Z:rkAt rk (arrOf st) lo<rkAt rk (arrOf st) (lo+n-1)
   ·rw [u9 Z];simp only [vg];exact ul (q n st hB n1 n2 up)
   ·rw [ua Z];simp only [ug,uU];have hz:lo+n<=(arrOf st).size:=by rw [hB.sz];omega
    have U:∀k,lo<=k->k<lo+n->rkAt rk (arrOf st) k=rkAt rk (arrOf st) (lo+n-1):=fun k lk kn=>by
     have a1:=up 0 (k-lo) (by omega) (by omega)
     have a2:=up (k-lo) (n-1) (by omega) (by omega)
     rw [Nat.add_zero,show lo+(k-lo)=k by omega] at a1
     rw [show lo+(k-lo)=k by omega,show lo+(n-1)=lo+n-1 by omega] at a2
     omega
    refine wpS_bind (wpS_reverse (fall_L hc hm (by omega) (hB.mir (u8 _) hz) (dsc_L (fun i j ij jn=> ?_) fun _=> ?_) q))
    ·show rkAt rk (mirror (arrOf st) _ _ _) (lo+j)<=rkAt rk (mirror (arrOf st) _ _ _) (lo+i);rw [Q6 hz U,Q6 hz U,U (lo+i) (by omega) (by omega),U (lo+j) (by omega) (by omega)]
     exact u8 _
    ·show rkAt rk (mirror (arrOf st) _ _ _) (lo+n)<=rkAt rk (mirror (arrOf st) _ _ _) (lo+n-1);rw [Q6 hz U,Q6 hz U];exact vm le
  ·rw [if_neg many];obtain rfl:n=1:=by omega
   refine fall_L hc hm (by omega) hB (dsc_L (fun i j ij jn=> ?_) fun _=>vm le) q
   rw [show i=j by omega]
   exact u8 _
end
section
variable {P:Program}{w:World}{A:Around}{E:Value->Shared->Prop}{s:Shared}{kd:SortKind}{xs0:Array Keyed}{rk:Keyed->Nat}{st:SortSt}
theorem SC.len {rs:List (List Keyed)}{rest:List Keyed}(h:SC kd xs0 rk rs rest st):rs.flatten.length+rest.length=xs0.size:=by
 rw [<-h.pm.size_eq,<-Array.length_toList,h.ar,u7]
theorem SC.psz {rs:List (List Keyed)}{rest:List Keyed}(h:SC kd xs0 rk rs rest st):(pendingOf st).size=rs.length:=by
 have:=congrArg List.length h.pe;rw [u1,Ye] at this;rw [<-this,Array.length_toList]
theorem SC.run {rs:List (List Keyed)}{rest:List Keyed}{v:SortSt}{n:Nat}(h:SC kd xs0 rk rs rest st)(U:SL kd xs0 (arrOf st) (pendingOf st) rs.flatten.length v)(ha:AscL rk (arrOf v) rs.flatten.length n)(hn:rs.flatten.length+n<=xs0.size):
  ∃R r2,R.length=n/\R.Pairwise (Rr rk)/\SC kd xs0 rk rs (R++r2) v:=by
 have hs:(arrOf v).toList.length=xs0.size:=by rw [Array.length_toList,U.sz]
 have ht:(arrOf v).toList.take rs.flatten.length=rs.flatten:=by
  have e:(arrOf st).toList.take rs.flatten.length=rs.flatten:=by rw [h.ar,List.take_left]
  refine(List.ext_getElem? fun i=> ?_).trans e;rw [vM,vM];split
  ·rename_i hi
   have:=U.pr i hi
   simpa using this
  ·rfl
 refine⟨((arrOf v).toList.drop rs.flatten.length).take n,((arrOf v).toList.drop rs.flatten.length).drop n,?_,?_,U.pm,U.ki,U.ok,?_,?_,h.so⟩
 ·rw [uA,ve];omega
 ·rw [List.pairwise_iff_getElem];intro i j hi hj ij;have Z:j<n:=by rw [uA] at hj;omega
  rw [List.getElem_take,List.getElem_take,List.getElem_drop,List.getElem_drop];have:=ha i j (vm ij) Z;rw [qS (x:=(arrOf v).toList[rs.flatten.length+i]'(by omega)) (by simp),qS (x:=(arrOf v).toList[rs.flatten.length+j]'(by omega)) (by simp)] at this
  exact this
 ·rw [U.pe];exact h.pe
 ·rw [uu]
  conv=>lhs;rw [<-uu rs.flatten.length (arrOf v).toList]
  rw [ht]
theorem SC.push {rs:List (List Keyed)}{R Z:List Keyed}(h:SC kd xs0 rk rs (R++Z) st)(hR:R.Pairwise (Rr rk))(h1:1<=R.length):SC kd xs0 rk (rs++ [R]) Z (setPending st ((pendingOf st).push (rs.flatten.length,R.length,0))):=by
 refine⟨h.pm,h.ki,h.ok,?_,?_,fun r U=> ?_⟩
 ·show((pendingOf st).push _).toList.map pr2=_;rw [uX,ud,h.pe,yr,Ug]
  rfl
 ·show(arrOf st).toList=_;rw [h.ar];simp
 ·rcases List.mem_append.mp U with U|U
  ·exact h.so r U
  ·rw [List.mem_singleton.mp U];exact⟨hR,fun e=>by rw [e] at h1;simp at h1⟩
theorem map_modify {L:List (Nat×Nat×Nat)}{f:Nat×Nat×Nat->Nat×Nat×Nat}(U:∀t,pr2 (f t)=pr2 t):∀i,(L.modify i f).map pr2=L.map pr2:=by
 induction L with
 |nil=>intro i;simp
 |cons t r Z=>
  intro i;cases i with
  |zero=>simp [U]
  |succ i=>simp [Z i]
theorem SC.pow {rs:List (List Keyed)}{rest:List Keyed}(h:SC kd xs0 rk rs rest st)(i:Nat){f:Nat×Nat×Nat->Nat×Nat×Nat}(U:∀t,pr2 (f t)=pr2 t):SC kd xs0 rk rs rest (setPending st ((pendingOf st).modify i f)):=
 ⟨h.pm,h.ki,h.ok,by show((pendingOf st).modify i f).toList.map pr2=_;rw [Array.toList_modify,map_modify U];exact h.pe,h.ar,h.so⟩
theorem two_at {rs:List (List Keyed)}{i:Nat}(h:i+1<rs.length):∃U X Y Z,rs=U++X::Y::Z/\U.length=i:=by
 refine⟨rs.take i,rs[i],rs[i+1],rs.drop (i+2),?_,by rw [uA];omega⟩
 rw [<-uD h,<-uD (by omega),uu]
theorem merge_i {rs:List (List Keyed)}{rest:List Keyed}{i:Nat}{Q:Bool->SortSt->Prop}(U:ByRk P w A s kd xs0 rk)(h:SC kd xs0 rk rs rest st)(hi:i+1<rs.length)
  (q:∀qs u,qs.length+1=rs.length->qs.flatten.length=rs.flatten.length->SC kd xs0 rk qs rest u->Q true u):wpS (model P w) A E s (mergeAt' i) Q st:=by
 obtain⟨aa,X,Y,ac,rfl,rfl⟩:=two_at hi;refine merge_at U h fun Z u hZ hu=>q _ u ?_ ?_ hu
 ·simp;omega
 ·simp [hZ];omega
theorem SC.few {rs:List (List Keyed)}{rest:List Keyed}(h:SC kd xs0 rk rs rest st):rs.length<=rs.flatten.length:=by
 have U:∀qs:List (List Keyed),(∀r∈qs,r≠ [])->qs.length<=qs.flatten.length:=by
  intro qs
  induction qs with
  |nil=>intro _;simp
  |cons r t ih=>
   intro hh;have:=ih fun r Z=>hh r (ue _ Z);have:=List.length_pos_iff.mpr (hh r uo);rw [List.flatten_cons,u7,uz];omega
 exact U rs fun r Z=>(h.so r Z).2
theorem SC.asc {rs:List (List Keyed)}(h:SC kd xs0 rk rs [] st)(h1:rs.length<=1):Asc rk (arrOf st) xs0.size:=by
 intro i j ij hj;have U:=h.len
 match rs,h,h1 with
 | [],h,_=>simp at U;omega
 | [r],h,_=>
  have ha:(arrOf st).toList=r:=by rw [h.ar];simp
  have hr:r.length=xs0.size:=by simpa using U
  have g:∀k (Z:k<r.length),(arrOf st)[k]? =some r[k]:=fun k Z=>by
   have:(arrOf st).toList[k]? =some r[k]:=by rw [ha];exact u4 Z
   simpa using this
  rw [qS (g i (by omega)),qS (g j (by omega))]
  exact pw_at (h.so r (by simp)).1 ij (by omega)
theorem any_rk {Q:Unit->SortSt->Prop}(hc:ByRk P w A s kd xs0 rk)(hB:SB kd xs0 st)
  (q:∀u,(arrOf u).Perm xs0->failedOf u=none->Asc rk (arrOf u) xs0.size->Q () u):wpS (model P w) A E s sortRuns' Q st:=by
 have h0:SC kd xs0 rk [] (arrOf st).toList st:=⟨hB.pm,hB.ki,hB.ok,by rw [hB.pe];rfl,by simp,fun r hr=>by cases hr⟩
 rw [sortRuns'_eq];refine wpS_bind (V9 ?_);dsimp only;simp only [hB.sz];generalize minRun' xs0.size xs0.size 0=mr;refine wpS_bind (wpS_mono (wpS_forRange (I:=fun x c u=>∃rs rest,c=(none,rs.flatten.length)/\SC kd xs0 rk rs rest u/\x<=rs.flatten.length) (Q:=fun c u=>∃rs,c=(none,xs0.size)/\SC kd xs0 rk rs [] u) ?st ?en ⟨[],_,rfl,h0,vh _⟩) ?af)
 case en=>
  rintro c u ⟨rs,rest,rfl,b,hx⟩;have:=b.len;obtain rfl:rest= []:=List.length_eq_zero_iff.mp (by omega)
  refine⟨rs,?_,b⟩;rw [show rs.flatten.length=xs0.size by simpa using this]
 case st=>
  rintro x c u _ hx ⟨rs,rest,rfl,b,ai⟩;dsimp only;have hl:=b.len;by_cases ac:rs.flatten.length≥xs0.size
  ·rw [if_pos ac];obtain rfl:rest= []:=List.length_eq_zero_iff.mp (by omega)
   exact ul ⟨rs,by rw [show rs.flatten.length=xs0.size by simpa using hl],b⟩
  rw [if_neg ac];have ah:SL kd xs0 (arrOf u) (pendingOf u) rs.flatten.length u:=⟨b.pm,b.ki,b.ok,rfl,fun _ _=>rfl⟩;refine wpS_bind (run_L hc (by omega) (by omega) ah fun k v b1 k1 k2 b2=> ?_)
  dsimp only;by_cases few:k<mr
  ·rw [if_pos few];refine wpS_bind (wpS_lift (wpAny_rule ⟨rfl,?_⟩));refine wpS_bind (ins_L hc (n:=min (xs0.size-rs.flatten.length) mr) (by omega) (by omega) b1 b2 fun v2 b3 b4=> ?_)
   simp only [US,ug,uU];have n1:1<=min (xs0.size-rs.flatten.length) mr:=by omega
   have n2:rs.flatten.length+min (xs0.size-rs.flatten.length) mr<=xs0.size:=by omega
   generalize min (xs0.size-rs.flatten.length) mr=n at n1 n2 b4⊢;obtain⟨R,r2,rfl,hR,hv⟩:=b.run b3 b4 n2;have U:∀(qs:List (List Keyed)) (z:SortSt),qs.flatten.length=rs.flatten.length->SC kd xs0 rk qs (R++r2) z->∃Z aa,((none,rs.flatten.length+R.length):Option Unit×Nat)=(none,Z.flatten.length)/\SC kd xs0 rk Z aa (setPending z ((pendingOf z).push (rs.flatten.length,R.length,0)))/\x+1<=Z.flatten.length:=by
    intro qs z e hz;have:=hz.push hR n1;rw [e] at this;refine⟨_,_,?_,this,?_⟩<;>rw [vW,u7,List.flatten_singleton,e];omega
   refine wpS_bind (V9 ?_);cases hb:(pendingOf v2).back? with
   |none=>exact wpS_bind (UJ (ul (U rs v2 rfl hv)))
   |some t=>
    obtain⟨s1,n3,p3⟩:=t;dsimp only;refine wpS_bind (wpS_mono (wpS_forRange (I:=fun _ c z=>c=(none,())/\∃qs,qs.flatten.length=rs.flatten.length/\SC kd xs0 rk qs (R++r2) z) (Q:=fun c z=>c=(none,())/\∃qs,qs.flatten.length=rs.flatten.length/\SC kd xs0 rk qs (R++r2) z) ?st3 (fun _ _ hh=>hh) ⟨rfl,rs,rfl,hv⟩) ?af3)
    case af3=>
     rintro c z ⟨rfl,qs,e,hz⟩;exact wpS_bind (UJ (wpS_bind (UJ (ul (U qs _ e (hz.pow _ fun _=>rfl))))))
    case st3=>
     rintro y c z _ _ ⟨rfl,qs,e,hz⟩;refine wpS_bind (V9 ?_);rw [hz.psz];by_cases c1:qs.length>1
     ·rw [if_pos c1];cases hg:(pendingOf z)[qs.length-2]? with
      |none=>exact ul ⟨rfl,qs,e,hz⟩
      |some t=>
       obtain⟨s4,n4,ad⟩:=t;dsimp only;split
       ·exact ul ⟨rfl,qs,e,hz⟩
       ·refine wpS_bind (merge_i hc hz (by omega) fun ae z' h1 h2 ag=> ?_)
        simp only [US,ug,uU];exact ul ⟨rfl,ae,h2.trans e,ag⟩
     ·rw [if_neg c1];exact ul ⟨rfl,qs,e,hz⟩
  ·rw [if_neg few];have n1:=k1;have n2:rs.flatten.length+k<=xs0.size:=by omega
   obtain⟨R,r2,rfl,hR,hv⟩:=b.run b1 b2 n2;have U:∀(qs:List (List Keyed)) (z:SortSt),qs.flatten.length=rs.flatten.length->SC kd xs0 rk qs (R++r2) z->∃Z aa,((none,rs.flatten.length+R.length):Option Unit×Nat)=(none,Z.flatten.length)/\SC kd xs0 rk Z aa (setPending z ((pendingOf z).push (rs.flatten.length,R.length,0)))/\x+1<=Z.flatten.length:=by
    intro qs z e hz;have:=hz.push hR n1;rw [e] at this;refine⟨_,_,?_,this,?_⟩<;>rw [vW,u7,List.flatten_singleton,e];omega
   refine wpS_bind (V9 ?_);cases hb:(pendingOf v).back? with
   |none=>exact wpS_bind (UJ (ul (U rs v rfl hv)))
   |some t=>
    obtain⟨s1,n3,p3⟩:=t;dsimp only;refine wpS_bind (wpS_mono (wpS_forRange (I:=fun _ c z=>c=(none,())/\∃qs,qs.flatten.length=rs.flatten.length/\SC kd xs0 rk qs (R++r2) z) (Q:=fun c z=>c=(none,())/\∃qs,qs.flatten.length=rs.flatten.length/\SC kd xs0 rk qs (R++r2) z) ?st3 (fun _ _ hh=>hh) ⟨rfl,rs,rfl,hv⟩) ?af3)
    case af3=>
     rintro c z ⟨rfl,qs,e,hz⟩;exact wpS_bind (UJ (wpS_bind (UJ (ul (U qs _ e (hz.pow _ fun _=>rfl))))))
    case st3=>
     rintro y c z _ _ ⟨rfl,qs,e,hz⟩;refine wpS_bind (V9 ?_);rw [hz.psz];by_cases c1:qs.length>1
     ·rw [if_pos c1];cases hg:(pendingOf z)[qs.length-2]? with
      |none=>exact ul ⟨rfl,qs,e,hz⟩
      |some t=>
       obtain⟨s4,n4,ad⟩:=t;dsimp only;split
       ·exact ul ⟨rfl,qs,e,hz⟩
       ·refine wpS_bind (merge_i hc hz (by omega) fun ae z' h1 h2 ag=> ?_)
        simp only [US,ug,uU];exact ul ⟨rfl,ae,h2.trans e,ag⟩
     ·rw [if_neg c1];exact ul ⟨rfl,qs,e,hz⟩
 case af=>
  rintro c u ⟨rs,rfl,b⟩;dsimp only;refine wpS_bind (wpS_mono (wpS_forRange (I:=fun x c v=>∃rs,c=(none,())/\SC kd xs0 rk rs [] v/\(rs.length<=1∨rs.length+x<=xs0.size)) (Q:=fun c v=>∃rs,c=(none,())/\SC kd xs0 rk rs [] v/\rs.length<=1) ?st2 ?en2 ⟨rs,rfl,b,?be2⟩) ?af2)
  case be2=>
   have h1:=b.few;have h2:=b.len;rw [List.length_nil] at h2;right;omega
  case en2=>
   rintro c v ⟨rs,rfl,b,hh⟩;exact⟨rs,rfl,b,by omega⟩
  case st2=>
   rintro x c v _ hx ⟨rs,rfl,b,hh⟩;refine wpS_bind (V9 ?_);rw [b.psz];by_cases one:rs.length<=1
   ·rw [if_pos one];exact ul ⟨rs,rfl,b,one⟩
   rw [if_neg one];have hi:∀c:Bool,(if c=true then rs.length-2-1 else rs.length-2)+1<rs.length:=fun c=>by cases c<;>simp<;>omega
   refine wpS_bind (merge_i hc b (hi _) fun qs z h1 h2 hz=> ?_);simp only [US,ug,uU];exact ul ⟨qs,rfl,hz,by omega⟩
  case af2=>
   rintro c v ⟨rs,rfl,b,hh⟩;exact ul (q _ b.pm b.ok (b.asc hh))
end
end L2
namespace L2
open PySem PySem.Spec PyProof.Rows
section
variable {P:Program}{w:World}{A:Around}{E:Value->Shared->Prop}{s:Shared}{vs:List Value}{ls:List Str}
def rkS (ls:List Str)(k:Keyed):Nat:=rkOf ltS ls (strOf k.1)
theorem by_S (hS:StrsAre vs ls):ByRk P w A s oneType' (vs.toArray.zip vs.toArray) (rkS ls):=by
 have mem:∀p∈(vs.toArray.zip vs.toArray).toList,∃x t,p.1= .str x t/\x∈ls:=fun p Z=>by
  have aa:p∈vs.zip vs:=by simpa using Z
  obtain⟨e1,U⟩:=mem_zip_self aa;obtain⟨x,t,e⟩:=hS.all _ U;refine⟨x,t,e,?_⟩;rw [<-hS.strs];exact List.mem_map.mpr ⟨p.1,U,by rw [e];rfl⟩
 intro p Z q hq E Q h;obtain⟨x,t,e1,m1⟩:=mem p Z;obtain⟨y,u,U,m2⟩:=mem q hq;rw [keyLt'_oneType,e1,U];refine oneLt_str ?_;have:=rk_dec (ltS_ord ls) m1 m2;simp only [rkS,e1,U,strOf] at h;rw [this] at h;exact h
theorem out_S (hS:StrsAre vs ls){ys:Array Keyed}(hp:ys.Perm (vs.toArray.zip vs.toArray))(ha:Asc (rkS ls) ys vs.length):∃ms,StrsAre (ys.map (·.2)).toList ms/\ms.Perm ls/\sortedS ms=true:=by
 have hl:ys.toList.Perm (vs.zip vs):=by simpa using Array.perm_iff_toList_perm.mp hp
 have U:∀p,p∈ys.toList->p.1=p.2/\p.1∈vs:=fun p Z=>mem_zip_self (hl.mem_iff.mp Z);have aa:∀p∈ys.toList,strOf p.1∈ls:=fun p hp=>by rw [<-hS.strs];exact List.mem_map.mpr ⟨_,(U p hp).2,rfl⟩
 refine⟨ys.toList.map (fun p=>strOf p.1),?_,?_,?_⟩
 ·have e:(ys.map (·.2)).toList=ys.toList.map (·.1):=by
   rw [Array.toList_map];exact vF fun p Z=>(U p Z).1.symm
  rw [e];have h1:=strsAre_map (ys.toList.map (·.1)) (by
   intro v hv;obtain⟨p,Z,rfl⟩:=List.mem_map.mp hv;exact hS.all _ (U p Z).2)
  rwa [uC] at h1
 ·have h1:=hl.map (fun p=>strOf p.1);have e2:(vs.zip vs).map (fun p=>strOf p.1)=ls:=by
   have:(vs.zip vs).map (fun p=>strOf p.1)=((vs.zip vs).map Prod.fst).map strOf:=by rw [uC];rfl
   rw [this,List.map_fst_zip (u8 _),hS.strs]
  rwa [e2] at h1
 ·apply sortedS_of_pairwise;rw [List.pairwise_iff_getElem];intro i j hi hj ac;have ad:ys.toList.length=vs.length:=by rw [hl.length_eq];simp
  rw [u1] at hi hj;have h1:=ha i j (vm ac) (by omega)
  rw [qS (x:=ys.toList[i]) (by simp),qS (x:=ys.toList[j]) (by simp)] at h1
  rw [List.getElem_map,List.getElem_map,ltCps_eq];exact rk_le (ltS_ord ls) (aa _ (uj hi)) (aa _ (uj hj)) h1
theorem sort_S {a:Addr}{n:Nat}{Q:Fin->Shared->Prop}(hS:StrsAre vs ls)(hz:vs.length<=sizeLine)(ho:s.heap.get? a=some (seqObj "list" vs.toArray n))
  (q:∀(out:Array Value) (ms:List Str),StrsAre out.toList ms->ms.Perm ls->sortedS ms=true->Q (.done (.ret .none)) {s with heap:=sortedHeap s.heap a vs out}):
  wpAny (model P w) A (Builtin.«list.sort» ⟨[.ref a],[]⟩) Q E s:=by
 rw [list_sort_plain];have ha:a<s.heap.objs.size:=uh ho;refine wpAny_bind (listItems_at ho rfl (wpAny_bind (listUpdate_at ho rfl ?_ (hsz:=by simpa using hz) (hsz2:=by simp))))
 obtain⟨e1,ad⟩:∃e1,(s.heap.update a (Obj.mapSeq fun _=> #[])).get? a=some (seqObj "list" #[] e1):=⟨_,get?_update_seq ho (fun _=> #[])⟩;refine wpAny_bind (seqEpoch_at (s:={s with heap:=s.heap.update a (Obj.mapSeq fun _=> #[])}) ad rfl (wpAny_bind (wpAny_newTuple (wpAny_bind (wpAny_newList (wpAny_holding ?_) (by simp))) (by simpa using hz))))
 have aa:(((s.heap.update a (Obj.mapSeq fun _=> #[])).push (seqObj "tuple" vs.toArray 0)).push (seqObj "list" #[] 0)).get? a=some (seqObj "list" #[] e1):=u5 _ (u5 _ ad);show wpAny (model P w) A _ Q E {s with heap:=((s.heap.update a (Obj.mapSeq fun _=> #[])).push (seqObj "tuple" vs.toArray 0)).push (seqObj "list" #[] 0)}
 dsimp only;have ae:(vs.toArray.zip vs.toArray).size=vs.length:=by simp
 by_cases h2:vs.toArray.size<2
 ·rw [if_pos h2,if_pos h2];refine wpAny_bind (wpAny_pure ?_);rw [StateT.run_pure];refine wpAny_bind (wpAny_pure ?_);dsimp only;refine wpAny_bind (seqEpoch_at (s:={s with heap:=_}) aa rfl (wpAny_bind (listUpdate_at (s:={s with heap:=_}) aa rfl ?_ (hsz:=by simp) (hsz2:=by rw [Array.size_map];show(vs.toArray.zip vs.toArray).size<=_;omega))))
  obtain⟨ms,m1,m2,m3⟩:=out_S hS (ys:=vs.toArray.zip vs.toArray) (Array.Perm.refl _) fun i j af hj=>by
   have:i=j:=by simp at h2;omega
   subst this;exact u8 _
  simp only [bne_self_eq_false,ug,uU];exact wpAny_pure (q _ ms m1 m2 m3)
 ·rw [if_neg h2,if_neg h2];obtain⟨U,Z,r,rfl⟩:∃U Z r,vs=U::Z::r:=by
   match vs,h2 with
   | [],h2=>simp at h2
   | [_],h2=>simp at h2
   |U::Z::r,_=>exact⟨U,Z,r,rfl⟩
  rw [keyKind_strs hS];refine wpAny_bind (wpAny_pure ?_);refine wpAny_bind (vi (any_rk (by_S hS) (st:=SortSt.mk' oneType' ((U::Z::r).toArray.zip (U::Z::r).toArray) #[] 7 none) (Q:=fun _ ac=>(arrOf ac).Perm ((U::Z::r).toArray.zip (U::Z::r).toArray)/\failedOf ac=none/\Asc (rkS ls) (arrOf ac) ((U::Z::r).toArray.zip (U::Z::r).toArray).size)
   ⟨Array.Perm.refl _,rfl,rfl,rfl⟩ fun u a1 a2 a3=>⟨a1,a2,a3⟩) ?_ fun _ _ z=>z)
  rintro⟨⟨⟩,st⟩ s' ⟨rfl,hp,hf,hA⟩;dsimp only;refine wpAny_bind (seqEpoch_at (s:={s with heap:=_}) aa rfl (wpAny_bind (listUpdate_at (s:={s with heap:=_}) aa rfl ?_ (hsz:=by simp) (hsz2:=by rw [Array.size_map,hp.size_eq];omega))))
  rw [hf];obtain⟨ms,m1,m2,m3⟩:=out_S hS hp (by rw [<-ae];exact hA)
  simp only [bne_self_eq_false,ug,uU];exact wpAny_pure (q _ ms m1 m2 m3)
theorem sorted_by {r:Value}{Q:Value->Shared->Prop}(Z:wpAny (model P w) A.in1 (collect r) (fun vs s'=>vs.length<=sizeLine/\∃ls,StrsAre vs ls/\
   ∀(out:List Value) (ms:List Str) (h':Heap) (e:Nat),StrsAre out ms->ms.Perm ls->sortedS ms=true->(∀b u,s'.heap.get? b=some u->h'.get? b=some u)->h'.get? s'.heap.objs.size=some (seqObj "list" out.toArray e)->Q (.ref s'.heap.objs.size) {s' with heap:=h'}) E s):
  wpAny (model P w) A (call (.builtin "sorted") [r]) Q E s:=by
 refine Calls.call_function_entry kind_sorted plain_sorted entry_sorted (args_sorted1 _) ?_;unfold Builtin.«sorted»;refine wpAny_bind (m:=checkCount "sorted" 1 1 _) (wpAny_pure (wpAny_bind (vi Z ?_ fun _ _ z=>z)));rintro vs s' ⟨hz,ls,hS,q⟩;refine wpAny_bind (wpAny_newList ?_ hz);have U:(s'.heap.push (seqObj "list" vs.toArray 0)).get? s'.heap.objs.size=some (seqObj "list" vs.toArray 0):=uc _ rfl;refine wpAny_bind (wpAny_holding (vO slot_list_sort ⟨_,U,rfl⟩ entry_list_sort (sort_S (s:={s' with heap:=s'.heap.push (seqObj "list" vs.toArray 0)}) hS hz U fun out ms b1 b2 b3=>⟨_,rfl,?_⟩) (args_list_sort _)))
 refine wpAny_pure ⟨_,rfl,?_⟩;obtain⟨n,he⟩:=sortedHeap_at (out:=out) U;refine q out.toList ms _ n b1 b2 b3 (fun b u w=> ?_) (by simpa using he)
 have hb:=uh w;rw [sortedHeap_old (uq hb) (by rw [size_push'];exact Ub hb)]
 exact u5 _ w
end
section
variable {X:Cx}
theorem call_sortedN:Qn X (.builtin "sorted") (fun xs H Q=>∃(p:Addr) (ls:List Str),xs= [.ref p]/\SqL X.K H p (ls.map V.str)/\∀(ms:List Str) (q:Addr),ms.Perm ls->sortedS ms=true->H q=none->Q (.ref q) (upd H q (.lst (ms.map V.str)))):=by
 intro pins s σ H xs us Q I r h;obtain⟨p,ls,rfl,hp,q⟩:=h;obtain⟨u,rfl,ru⟩:=QX r;cases ru;obtain⟨its,U,pl,hz⟩:=I.list hp;have hS:=Qh U;have Z:its.length=ls.length:=by have:=U.length;simpa using this.symm
 rw [u1,<-Z] at hz;refine sorted_by (collect_list pl.isList ⟨hz,ls,hS,fun out ms h' e b1 b2 b3 k he=> ?_⟩ hz);have hsz:s.heap.objs.size<=((s.heap.push (seqObj "list" #[] 0)).update s.heap.objs.size (Obj.mapSeq (·++its.toArray))).objs.size:=by rw [Heap.size_update,size_push'];exact Nat.le_succ _
 refine⟨.ref _,_,I.laid (t':=s.toks) (o:= .lst (ms.map V.str)) (fun b u w=>k b u ?_) hsz ⟨?_,out,e,QB b1,he⟩,rfl,q ms _ b2 b3 (I.hok.fresh hsz)⟩
 ·have hb:=uh w;exact(uB _ _ (vR hb)).trans (u5 _ w)
 ·rw [u1,b2.length_eq,<-Z];exact hz
end
def plF (t:SetTable):SetTable:={t with plain:=false}
theorem put_led (t:SetTable)(j:Nat):(t.put j).1.led=t.led:=rfl
theorem stand_led (t:SetTable)(n:Nat):(t.orStandIn n).led=t.led:=by
 unfold SetTable.orStandIn;split<;>rfl
theorem lay_led (t:SetTable)(es:SE)(h:Int)(x:Value):(layNew t es h x).2.1.led=t.led:=by
 unfold layNew;cases t.freeSlot h with
 |none=>rfl
 |some p=>
  obtain⟨a,b⟩:=p;dsimp only;rw [stand_led,put_led]
theorem relay_led (t:SetTable)(es:SE)(n:Nat):(relayAll t es n).2.1.led=t.led/\(t.plain=false->(relayAll t es n).2.1.plain=false):=by
 unfold relayAll SetTable.relaid SetTable.laid;cases SetTable.layClean (SetTable.sizeAbove n-1) (es.map (·.1)) with
 |none=>exact⟨rfl,fun _=>rfl⟩
 |some U=>
  dsimp only [bind,Option.bind,pure];split
  ·exact⟨rfl,fun h=>h⟩
  ·exact⟨rfl,fun _=>rfl⟩
def StrEs (P:Program)(w:World)(es:SE):Prop:=∀e∈es.toList,∃z t,e.2= .str z t/\e.1=(PySem.strKind P w).hash z
def Yv (es:SE):List Str:=es.toList.map fun e=>strOf e.2
structure TOk (P:Program)(w:World)(es:SE)(t:SetTable):Prop where
 isS:StrEs P w es
 fits:t.fits es.size=true
 led:t.led= !byT w
 pl:1<=es.size->t.plain=false
 nd:(Yv es).Nodup
section
variable {P:Program}{w:World}{A:Around}{E:Value->Shared->Prop}{s:Shared}
theorem StrEs.elems {es:SE}(h:StrEs P w es):ElemsOf (PySem.strKind P w) es.toList:=fun e Z=>by
 obtain⟨z,tk,U,e2⟩:=h e Z;exact⟨⟨z,by rw [U];exact strKind_is _ _ _ _,e2⟩,by rw [U];rfl⟩
theorem tok_fresh:TOk P w #[] (.fresh 0 0 (!byT w)):=⟨fun e U=>by simp at U,by cases byT w<;>rfl,rfl,fun h=>by simp at h,by simp [Yv]⟩
theorem key_here {es:SE}(h:StrEs P w es){z:Str}{e:Int×Value}(U:e∈es.toList):(PySem.strKind P w).is z e.2=decide (z=strOf e.2):=by
 obtain⟨y,tk,Z,_⟩:=h e U;rw [Z];exact KeyKind.is_eq_decide (strKind_is P w y tk) z
theorem add_T {a:Addr}{es:SE}{ep:Nat}{t:SetTable}{z:Str}{tk:Tok}{Q:Bool->Shared->Prop}(ho:s.heap.get? a=some (setO es ep t))(hk:TOk P w es t)(hb:es.size+1<scanBound)
  (q:∀(h':Heap) (es':SE) (aa:Nat) (t':SetTable) (b:Bool),Heap.SameBut a s.heap h'->h'.get? a=some (setO es' aa t')->TOk P w es' t'->es'.size<=es.size+1->(∀y,y∈Yv es'↔y∈Yv es∨y=z)->Q b {s with heap:=h'}):
  wpAny (model P w) A (setAddHashed a (.str z tk) ((PySem.strKind P w).hash z)) Q E s:=by
 have ai:(PySem.strKind P w).is z (.str z tk)=true:=strKind_is _ _ _ _;unfold setAddHashed setAddHashedIn;refine wpAny_holding (wpAny_bind (vS ho rfl hk.fits ?_));dsimp only;rw [byScan_of (knd:=PySem.strKind P w) rfl (by omega) hk.isS.elems]
 simp only [↓reduceIte];unfold setAddByScan;refine wpAny_bind ?_;refine wpAny_bind (wpAny_rule ?_);refine wpAny_bind (wpAny_setScan_of (knd:=PySem.strKind P w) (adding:=true) ai ho rfl hk.fits hk.isS.elems ?_);cases hr:List.findIdx? (fun e=>(PySem.strKind P w).is z e.2) es.toList with
 |some j=>
  dsimp only;obtain⟨hj,aj,_⟩:=List.findIdx?_eq_some_iff_getElem.mp hr;refine wpAny_pure (wpAny_pure (q s.heap es ep t false (Heap.SameBut.refl a s.heap) ho hk (Nat.le_succ _) fun y=>⟨.inl,fun h=>h.elim id fun e=> ?_⟩));rw [e];rw [key_here hk.isS (uj hj)] at aj;exact List.mem_map.mpr ⟨_,uj hj,(ur aj).symm⟩
 |none=>
  dsimp only;have ap:z∉Yv es:=fun hm=>by
   obtain⟨e,he,e2⟩:=List.mem_map.mp hm;have:=List.findIdx?_eq_none_iff.mp hr e he;rw [key_here hk.isS he,e2] at this;simp at this
  have ak:∀(b:Bool) {s₁:Shared}{Q':Unit->Shared->Prop},Q' () s₁->wpAny (model P w) A (match b with|true=>rule "set.scan.the-table-gave-way"|false=>pure ()) Q' E s₁:=fun b s₁ Q' hq=>by cases b<;>first|exact wpAny_pure hq|exact wpAny_rule hq
  have ac:=layNew_perm t es ((PySem.strKind P w).hash z) (.str z tk);have af:=layNew_fits t es ((PySem.strKind P w).hash z) (.str z tk);have ad:=lay_led t es ((PySem.strKind P w).hash z) (.str z tk);generalize layNew t es ((PySem.strKind P w).hash z) (.str z tk)=L at ac af ad⊢;obtain⟨U,Z,dm,gv⟩:=L;dsimp only at ac af ad⊢;have hsz:U.size=es.size+1:=by
   rw [<-Array.length_toList,ac.length_eq,uX,u7,Array.length_toList]
   rfl
  have aq:U.size<scanBound:=by omega
  have good:∀(nb:SE) (t':SetTable),List.Perm nb.toList U.toList->t'.fits nb.size=true->t'.led=t.led->t'.plain=false->TOk P w nb t'/\nb.size<=es.size+1/\∀y,y∈Yv nb↔y∈Yv es∨y=z:=by
   intro nb t' hp hf hl ag;have ah:List.Perm nb.toList (es.toList++ [((PySem.strKind P w).hash z,.str z tk)]):=by
    rw [<-uX];exact hp.trans ac
   have al:List.Perm (Yv nb) (Yv es++ [z]):=by
    have:=ah.map fun e=>strOf e.2;rw [ud] at this;exact this
   refine⟨⟨fun e he=> ?_,hf,hl.trans hk.led,fun _=>ag,?_⟩,?_,fun y=> ?_⟩
   ·rcases List.mem_append.mp (ah.mem_iff.mp he) with he|he
    ·exact hk.isS e he
    ·cases List.mem_singleton.mp he;exact⟨z,tk,rfl,rfl⟩
   ·refine al.nodup_iff.mpr (List.nodup_append.mpr ⟨hk.nd,by simp,fun x hx y hy=> ?_⟩)
    rw [U5] at hy;exact fun e=>ap (by rw [<-hy,<-e];exact hx)
   ·rw [<-Array.length_toList,ah.length_eq,u7,Array.length_toList];exact u8 _
   ·rw [al.mem_iff,Ud,U5]
  have am:wpAny (model P w) A (do
    storeSet a U (plF Z)
    if(!dm&&(plF Z).tooFull)=true then do
      (match(relayAll (plF Z) U (SetTable.grown U.size)).2.2 with|true=>rule "set.scan.the-table-gave-way"|false=>pure ())
      storeSet a (relayAll (plF Z) U (SetTable.grown U.size)).1 (relayAll (plF Z) U (SetTable.grown U.size)).2.1
      pure (some true)
     else pure (some true)) (fun r s'=>∃h',r=some true/\s'={s with heap:=h'}/\∀b,Q b {s with heap:=h'}) E s:=by
   refine tail_exact (g:=fun b=>match b with|true=>rule "set.scan.the-table-gave-way"|false=>pure ()) (es:=es) (fun b s₁ Q' hq=>ak b hq) ho aq fun h' aa ao ae=>⟨h',rfl,rfl,fun b=> ?_⟩
   by_cases hc:(!dm&&(plF Z).tooFull)=true
   ·simp only [if_pos hc] at ae;obtain⟨l1,l2⟩:=relay_led (plF Z) U (SetTable.grown U.size);obtain⟨g1,g2,g3⟩:=good _ _ (relayAll_perm (plF Z) U (SetTable.grown U.size)) (relayAll_fits (plF Z) U (SetTable.grown U.size)) (l1.trans ad) (l2 rfl);exact q h' _ aa _ b ao ae g1 g2 g3
   ·simp only [if_neg hc] at ae;obtain⟨g1,g2,g3⟩:=good U (plF Z) (List.Perm.refl _) af ad rfl;exact q h' _ aa _ b ao ae g1 g2 g3
  refine wpAny_bind (ak _ ?_);have fin:∀t2,t2=plF Z->wpAny (model P w) A (do
    storeSet a U t2
    if(!dm&&t2.tooFull)=true then do
      (match(relayAll t2 U (SetTable.grown U.size)).2.2 with|true=>rule "set.scan.the-table-gave-way"|false=>pure ())
      storeSet a (relayAll t2 U (SetTable.grown U.size)).1 (relayAll t2 U (SetTable.grown U.size)).2.1
      pure (some true)
     else pure (some true)) (fun r s'=>∃h',r=some true/\s'={s with heap:=h'}/\∀b,Q b {s with heap:=h'}) E s:=fun t2 e=>by rw [e];exact am
  split
  ·refine wpAny_bind ?_;rw [hashByValue_scannable 8 (show Value.scannable (.str z tk)=true from rfl)]
   refine wpAny_pure ?_;refine vi (fin (if plainKind (.str z tk)=true then Z else{Z with plain:=false}) rfl) ?_ fun _ _ e=>e
   rintro r s' ⟨h',rfl,rfl,hq⟩;exact wpAny_pure (hq _)
  ·rename_i ag
   refine wpAny_bind (wpAny_pure ?_);have e2:Z=plF Z:=by
    cases Z;simp only [plF,SetTable.mk.injEq,true_and]
    simpa using ag
   refine vi (fin (if true=true then Z else{Z with plain:=false}) (by rw [if_pos rfl];exact e2)) ?_ fun _ _ e=>e
   rintro r s' ⟨h',rfl,rfl,hq⟩;exact wpAny_pure (hq _)
end
def TxS (P:Program)(w:World)(h:Heap)(a:Addr)(ls:List Str):Prop:=∃es ep t,h.get? a=some (setO es ep t)/\TOk P w es t/\es.size<=ls.length/\∀y,y∈Yv es↔y∈ls
theorem TxS.to {P:Program}{w:World}{h h':Heap}{a:Addr}{ls:List Str}(x:TxS P w h a ls)(k:∀o,h.get? a=some o->h'.get? a=some o):TxS P w h' a ls:=let⟨es,ep,t,e,r⟩:=x;⟨es,ep,t,k _ e,r⟩
section
variable {prog:Program}{w:World}{A:Around}{R:Result->Shared->Prop}{I:Addr}{fp wr:List Addr}{G:Array GenState->Array GenState->Prop}{n:Nat}{Pp:Nat->Value->Prop}{St:Nat->Shared->Prop}
theorem loop_T {ls:List Str}(W:WalksS prog w A.in1 I fp wr G n Pp St)(aa:∀i v,Pp i v->∃z t,ls[i]? =some z/\v= .str z t)(S:Addr)(ac:S∉fp)(hn:n=ls.length)(Z:n+1<scanBound):
  ∀(k i:Nat) (s:Shared),n-i=k->i<=n->St i s->TxS prog w s.heap S (ls.take i)->
   (∀s',Moved (S::wr) G s s'->TxS prog w s'.heap S ls->R (.ok (.ret .none)) s')->
   codeAny (model prog w) A (.builtin "set.update.loop" ⟨[.ref S,.ref I],[]⟩) R s:=by
 have ad:S∉wr:=fun h=>ac (W.sub _ h);have inS:∀b∈wr,b∈S::wr:=fun b Z=>ue _ Z;intro k
 induction k with
 |zero=>
  intro i s hk hi U hS hR;have ak:i=n:=by omega
  subst ak;refine vd F.entry_set_update_loop ?_;rw [uN UW _];show wpAny _ A.in1 (pyNext (.ref I)>>=_) _ _ s;refine wpAny_bind (W.done s _ _ U fun s' hm=> ?_);show wpAny _ A.in1 (ret Value.none) _ _ s';rw [hn,uP] at hS;exact wpAny_pure (hR s' (hm.mono inS) (hS.to fun o e=>hm.heap S _ ad e))
 |succ k ih=>
  intro i s hk hi U hS hR;have ae:i<n:=by omega
  refine vd F.entry_set_update_loop ?_;rw [uN UW _];show wpAny _ A.in1 (pyNext (.ref I)>>=_) _ _ s;refine wpAny_bind (W.item i s _ _ ae U fun v s' hP af hm=> ?_);obtain⟨z,t,hz,rfl⟩:=aa i v hP;obtain⟨es,ep,tb,e1,e2,e3,e4⟩:=hS.to fun o e=>hm.heap S _ ad e;show wpAny _ A.in1 (holding [Value.str z t] (setAdd S (.str z t))>>=_) _ _ s';refine wpAny_bind (wpAny_holding ?_);unfold setAdd;refine wpAny_holding ?_;refine wpAny_bind ((PySem.strKind prog w).pyHash (k:=z) (strKind_is _ _ _ _) ?_);have hl:es.size<=i:=uG e3 (by rw [uA];omega)
  refine add_T (s:={s' with toks:=s'.toks+1}) e1 e2 (by omega) fun h' es' al am b ag ao ap aq ah=> ?_
  have et:ls.take (i+1)=ls.take i++ [z]:=by rw [ut,hz];rfl
  have au:TxS prog w h' S (ls.take (i+1)):=⟨es',al,am,ao,ap,by rw [et,u7];exact uG aq (Nat.succ_le_succ e3),fun y=>by rw [ah y,e4 y,et,Ud,U5]⟩
  refine wpAny_pure ⟨vy UW _,ih (i+1) _ (by omega) ae (W.frame _ s' _ _ af (Nat.le_succ _) fun b Z o e=> ?_) au fun av ai aj=> ?_⟩
  ·rw [ag.2 b (fun h:b=S=>ac (by rw [<-h];exact Z))];exact e
  ·refine hR av (Moved.trans W.gtrans ((hm.mono inS).then_heap (Nat.le_succ _) fun b o Z e=> ?_) ai) aj;rw [ag.2 b (fun h:b=S=>Z (by rw [h];exact uo))];exact e
end
section
variable {P:Program}{w:World}{A:Around}{E:Value->Shared->Prop}{s:Shared}
theorem strs_at:∀{vs:List Value}{ls:List Str},StrsAre vs ls->∀(i:Nat) (v:Value),vs[i]? =some v->∃z t,ls[i]? =some z/\v= .str z t
 |_,_,.nil,i,v,h=>by simp at h
 |_,_,.cons x t r,0,v,h=>by cases h;exact⟨x,t,rfl,rfl⟩
 |_,_,.cons x t r,i+1,v,h=>strs_at r i v (by simpa using h)
theorem strs_len {vs:List Value}{ls:List Str}(h:StrsAre vs ls):vs.length=ls.length:=by rw [<-h.strs,u1]
theorem set_T {l:Addr}{items:Array Value}{ls:List Str}{Q:Value->Shared->Prop}(hh:A.handled=none)(hl:s.heap.IsList l items)(hS:StrsAre items.toList ls)(hz:items.size+1<scanBound)
  (q:∀(h':Heap) (tk:Nat),(∀b o,s.heap.get? b=some o->h'.get? b=some o)->TxS P w h' s.heap.objs.size ls->s.toks<=tk->Q (.ref s.heap.objs.size) {s with heap:=h',toks:=tk}):wpAny (model P w) A (call (.type "set") [.ref l]) Q E s:=by
 obtain⟨c,tl,au⟩:=F.called_set.mro;have made:=F.called_set.made;have av:=F.called_set.sub;refine wpAny_call (codeAny_of_tree ?_);show wpAny _ _ (callAny (.type "set") _) _ _ _;refine wpAny_pure ⟨Code.quiet_builtin _ (by decide+kernel),vd F.entry_type_call ?_⟩
 rw [Around.under_plain (weight_type_call_type "set" [.ref l] []) rfl];have h1:=F.called_set.notType;have h2:=F.called_set.canCreate;have h3:=F.typeCall_set_1 (.ref l)
 repeat (any_goals (first|assumption|wp_step))
 refine UG (set_new_e (.ref l) (E:=E) (Q₁:=fun obj u=>obj= .ref s.heap.objs.size/\u={s with heap:=s.heap.push (Qz (!byT w))}) ⟨rfl,rfl⟩) fun r u U=> ?_
 match r,U with
 | .error e,U=>exact U
 | .ok (.ret obj),U=>
  obtain⟨rfl,rfl⟩:=U;have Z:(s.heap.push (Qz (!byT w))).get? s.heap.objs.size=some (setO #[] 0 (.fresh 0 0 (!byT w))):=uc _ rfl;have aa:TxS P w (s.heap.push (Qz (!byT w))) s.heap.objs.size []:=⟨_,_,_,Z,tok_fresh,u8 _,fun y=>by simp [Yv]⟩
  generalize aq:(!byT w)=led at Z aa;have ae:Shared.TypeIs {s with heap:=s.heap.push (Qz led)} (.ref s.heap.objs.size) "set":=⟨_,Z,rfl⟩
  have l1:=F.called_set.init.lookup;have l2:=F.called_set.init.bind (.ref s.heap.objs.size)
  repeat (any_goals (first|assumption|wp_step))
  refine UG (codeAny_call_builtin (R:=wants (fun r u=>r= .none/\∃h' tk,u={s with heap:=h',toks:=tk}/\(∀b o,s.heap.get? b=some o->h'.get? b=some o)/\TxS P w h' s.heap.objs.size ls/\s.toks<=tk) E) F.called_set.init.plain F.entry_set_init (check_set_init_1 ae ?_)) fun r u U=> ?_
  ·obtain⟨⟨oc,od,aw,os⟩,ol,hc,n,hd⟩:=hl;simp only at hc hd;subst hc hd;have af:(s.heap.push (Qz led)).get? l=some {cls:= .type "list",dict:=od,data:= .seq items n,slots:=os}:=u5 _ ol;have a1:=F.sub_list_set;have a2:=F.sub_list_frozenset;have a3:(Value.type "list"==Value.type "dict")=false:=by decide
   have ac:(s.heap.push (Qz led)).IsList l items:=⟨_,af,rfl,n,rfl⟩;unfold Builtin.«set.__init__» noKeywords Builtin.Frozenset.updateFrom;generalize ag:pyIter=PI
   wp_walk
   subst ag;refine Us ac ?_;refine wpAny_bind (wpAny_runValue ?_);have ltS:l<s.heap.objs.size:=uh ol;have ah:A.in1.in1.in1.handled=none:=by simp [hh]
   have ai:l≠(s.heap.push (Qz led)).objs.size:=by rw [uY];exact uq (Ub ltS)
   have aj:s.heap.objs.size∉ [(s.heap.push (Qz led)).objs.size,l]:=by
    rw [uY];simp only [Uk,U5,UD,or_false,not_or];exact⟨uq (V4 _),vR ltS⟩
   have ad:items.size=ls.length:=by rw [<-Array.length_toList];exact strs_len hS
   refine loop_T (n:=items.size) ((Walks.list ah _ l ai items).toS) (fun i v h=>strs_at hS i v (by rw [vo];exact h)) s.heap.objs.size aj ad hz (items.size-0) 0 _ (by omega) (vh _) ⟨⟨_,uc _ rfl,rfl,rfl⟩,(ac.push _)⟩ (aa.to fun o e=>u5 _ e) ?hR
   case hR=>
    intro s' hm ak;obtain⟨h',g',d',al,am⟩:=s';have eg:g'=s.gens:=hm.gens;have ed:d'=s.drawn:=hm.drawn;have eo:am=s.os:=hm.os;subst eg;subst ed;subst eo;show wpAny _ _ _ _ _ _;refine wpAny_pure ?_;show wpAny _ _ (ret Value.none) _ _ _;refine wpAny_pure ⟨rfl,h',al,rfl,fun b o e=> ?_,ak,hm.toks⟩;have hb:=uh e;have ao:b≠s.heap.objs.size:=uq hb;have ap:b≠(s.heap.push (Qz led)).objs.size:=by rw [uY];exact uq (Ub hb)
    exact hm.heap b o (by simp only [Uk,U5,UD,or_false,not_or];exact⟨ao,ap⟩) (u5 _ (u5 _ e))
  ·match r,U with
   | .error e,U=>exact U
   | .ok (.ret v),U=>
    obtain⟨rfl,h',tk,rfl,k1,k2,k3⟩:=U
    repeat (any_goals (first|assumption|wp_step))
    exact q _ _ k1 k2 k3
end
structure SGT (w:World)(h:Heap)(a:Addr)(es:SE)(ep:Nat)(t:SetTable):Prop where
 here:h.get? a=some (setO es ep t)
 fits:t.fits es.size=true
 led:byT w=false->t.led=true/\es.size<=1
theorem SGT.to {w:World}{h h':Heap}{a:Addr}{es:SE}{ep:Nat}{t:SetTable}(x:SGT w h a es ep t)(k:∀o,h.get? a=some o->h'.get? a=some o):SGT w h' a es ep t:=⟨k _ x.here,x.fits,x.led⟩
theorem SGT.wlk {w:World}{h:Heap}{a:Addr}{es:SE}{ep:Nat}{t:SetTable}(x:SGT w h a es ep t)(l:es.size<=1):Wlk t es.size:=by
 have U:t.place.size=es.size:=by
  have:=x.fits;simp only [SetTable.fits,uO,UX] at this;exact this.1
 obtain⟨aa,Z,ac,fi,led,mv,pl⟩:=t;dsimp only at U;intro i hi;obtain⟨pl⟩:=Z
 match pl,U with
 | [],U=>
  have:es.size=0:=by simpa using U.symm
  have:i=0:=by omega
  subst this
  rfl
 | [j],U=>
  have he:es.size=1:=by simpa using U.symm
  have:i=0∨i=1:=by omega
  rcases this with rfl|rfl
  ·simp [SetTable.below,SetTable.below.go]
  ·simp [SetTable.below,SetTable.below.go]
 |_::_::_,U=>simp at U;omega
section
variable {P:Program}{w:World}{A:Around}{E:Value->Shared->Prop}{s:Shared}{d it:Addr}{es:SE}{ep:Nat}{t:SetTable}
theorem yg {Q:Array (Int×Value)×Nat×SetTable->Shared->Prop}(h:SGT w s.heap d es ep t)(q:Q (es,ep,t) s):wpAny (model P w) A (setState d) Q E s:=vS h.here rfl h.fits q
theorem next_sgt {i:Nat}{Q:Option (Value×Nat)->Shared->Prop}(h:SGT w s.heap d es ep t)(hi:i<=es.size)(q:Q ((YY w d es ep)[i]?.map fun e=>(e.2,yh w t (i+1))) s):wpAny (model P w) A (setNext d (yh w t i) i ep) Q E s:=by
 unfold setNext setsByText;refine wpAny_bind (yg h (wpAny_bind (wpAny_bind (Uo (wpAny_pure ?_)))));dsimp only;have eb:(model P w).w.params.followText "set-order"=byT w:=rfl;rw [eb];cases U:byT w with
 |true=>
  rw [if_pos rfl,if_neg (by simp)]
  refine wpAny_bind ?_;unfold setWalk setsByText;refine wpAny_bind (yg h (wpAny_bind (wpAny_bind (Uo (wpAny_pure ?_)))));dsimp only;rw [eb,U,if_pos rfl];refine wpAny_bind (Uo (wpAny_pure (wpAny_pure ?_)));unfold YY yh at q;rw [U,if_pos rfl] at q;simp only [vg] at q;unfold yh;rw [U];exact q
 |false=>
  obtain⟨l1,l2⟩:=h.led U;have l3:=h.wlk l2;rw [if_neg (by decide)]
  split
  ·rename_i hc
   have h2:(!t.plain&&decide (es.size>1))=true:=hc;simp at h2;omega
  ·refine wpAny_bind (m:=if(!t.led&& !es.isEmpty)=true then _ else _) ?_
   rw [if_neg (by rw [l1];simp)]
   refine wpAny_pure (wpAny_pure ?_);have aa:yh w t i=if i=0 then 0 else t.place.getD (i-1) 0+1:=by unfold yh;rw [U];simp
   rw [aa,l3 i hi];unfold YY at q;rw [U,if_neg (by decide)] at q
   have af:t.place.size=es.size:=by
    have:=h.fits;simp only [SetTable.fits,uO,UX] at this;exact this.1
   rcases vc i es.size with ac|ad
   ·have Z:es[i]? =some es[i]:=uS ac;have e2:t.place[i]? =some (t.place[i]'(by omega)):=uS (by omega)
    rw [Z] at q;have ae:yh w t (i+1)=t.place[i]'(by omega)+1:=by
     unfold yh;rw [U,if_neg (by decide),if_neg (by omega)]
     simp [Array.getD,show i<t.place.size by omega]
    rw [ae] at q;simp only [Z,e2];exact q
   ·have Z:es[i]? =none:=Array.getElem?_eq_none ad;rw [Z] at q;simp only [Z];exact q
theorem SGT.ty (h:SGT w s.heap d es ep t):s.TypeIs (.ref d) "set":=⟨_,h.here,rfl⟩
theorem iter_sgt {Q:Value->Shared->Prop}(U:SGT w s.heap d es ep t)(q:Q (.ref s.heap.objs.size) {s with heap:=s.heap.push {cls:= .type "set_iterator",data:= .fields #[.int 0 0,.int 0 0,.ref d,.int (es.size:Nat) 0,.int ep 0]}}):wpAny (model P w) A (pyIter (.ref d)) Q E s:=by
 have Z:=U.ty;refine UZ Z F.slot_set_iter (vO F.slot_set_iter Z Ya ?_ (YG _));unfold Builtin.«frozenset.__iter__» Builtin.Frozenset.slot0 Builtin.Frozenset.sizeOf setEntries setDrawn setsByText setEpoch;show wpAny _ _ (pure d>>=_) _ _ s;refine wpAny_bind (wpAny_pure (wpAny_bind (wpAny_bind (wpAny_bind (yg U (wpAny_pure (wpAny_pure ?_)))))));refine wpAny_bind (wpAny_bind (yg U (wpAny_bind (wpAny_bind (Uo (wpAny_pure (wpAny_pure ?_)))))));dsimp only;have eb:(model P w).w.params.followText "set-order"=byT w:=rfl;rw [eb];split
 ·rename_i h
  rw [uO] at h;have hb:byT w=false:=by simpa using h.1
  have h2:(!t.plain&&decide (es.size>1))=true:=h.2;have h3:=(U.led hb).2;simp at h2;omega
 ·refine wpAny_bind (wpAny_pure (wpAny_bind (wpAny_bind (yg U (wpAny_pure ?_)))));unfold newFields;refine wpAny_bind (uW (wpAny_pure ⟨_,rfl,"set_iterator",_,⟨_,uc _ rfl,rfl⟩,qT.lookup,?_⟩))
  simpa [rawInt] using q
theorem nxt_sgt {i:Nat}{Q:Option Value->Shared->Prop}(hh:A.handled=none)(hi:i<=es.size)(Z:SIt w s.heap it d es.size ep t i)(hN:SGT w s.heap d es ep t)
  (q1:∀e h',(YY w d es ep)[i]? =some e->SIt w h' it d es.size ep t (i+1)->Heap.SameBut it s.heap h'->Q (some e.2) {s with heap:=h'}) (q2:(YY w d es ep)[i]? =none->∀h',Heap.ExtBut it s.heap h'->Q none {s with heap:=h'}):wpAny (model P w) A (pyNext (.ref it)) Q E s:=by
 have hT:=Z.ty;obtain⟨o,ho,hc,hd⟩:=Z;unfold pyNext;refine wpAny_bind (V7 (wpAny_callSpecial?_slot (name:=Str.ofString "__next__") hT qT (vO qT hT YF ?_ (jf _))));unfold Builtin.«set_iterator.__next__» setEntries;refine wpAny_bind (wpAny_pure ?_);refine wpAny_bind (wpAny_fieldsOf ho hd ?_);refine wpAny_bind (wpAny_bind (yg hN (wpAny_pure ?_)));dsimp only;rw [if_neg (by simp)]
 simp only [Int.toNat_natCast];refine wpAny_bind (next_sgt (i:=i) hN hi ?_);cases e:(YY w d es ep)[i]? with
 |some x=>
  dsimp only [Option.map];refine wpAny_bind (UB ho hd (by simp) ?_)
  have h1:=Heap.get?_update_self (Obj.mapFields (·.setIfInBounds 0 (rawInt ((yh w t (i+1):Nat):Int)))) ho (Ur (vB hd _));have U:=vB hd (·.setIfInBounds 0 (rawInt ((yh w t (i+1):Nat):Int)));refine wpAny_bind (UB h1 U (by simp) ?_)
  have h2:=Heap.get?_update_self (Obj.mapFields (·.setIfInBounds 1 (rawInt ((i:Int)+1)))) h1 (Ur (vB U _));have aa:=vB U (·.setIfInBounds 1 (rawInt ((i:Int)+1)));show wpAny _ _ (ret x.2) _ _ _;refine wpAny_pure ⟨_,rfl,wpAny_pure (q1 x _ e ⟨_,h2,?_,?_⟩ ((vk ..).trans (vk ..)))⟩
  ·rw [Obj.cls_mapFields,Obj.cls_mapFields];exact hc
  ·rw [aa];simp [rawInt]
 |none=>
  dsimp only [Option.map];refine wpAny_bind (UB ho hd (by simp) ?_)
  show wpAny _ _ (newExc (.type "StopIteration") []>>=_) _ _ _;refine wpAny_bind ?_;simp only [newExc,newTuple];refine wpAny_bind (uW ?_ (by size_fits))
  refine wpAny_bind (m:=firstArgMember _ _) (V8 (a:=Value.none) (by first|rfl|(simp only [firstArgMember];rfl)) ?_)
  refine uW ?_ (by size_fits)
  simp only [raiseNew];refine wpAny_bind (wpAny_handled ?_);rw [show A.in1.handled=none from hh]
  refine wpAny_bind (wpAny_pure (wpAny_throw ?_));refine wpAny_bind (Um (T:="StopIteration") (b:=true) ⟨_,uc _ rfl,rfl⟩ isSubtype_stop ?_);exact wpAny_pure (q2 e _ (((vk ..).extBut.push _).push _))
theorem walk_sgt (hh:A.handled=none)(I d:Addr)(ne:d≠I):
  Walks P w A I [I,d] [I] es.size (fun i v=>∃e,(YY w d es ep)[i]? =some e/\v=e.2) (fun i h=>i<=es.size/\SIt w h I d es.size ep t i/\SGT w h d es ep t) where
 sub:=fun b U=>by simp at U;simp [U]
 frame:=fun _ _ _ st hk=>⟨st.1,st.2.1.to fun o e=>hk I (by simp) o e,st.2.2.to fun o e=>hk d (by simp) o e⟩
 item:=fun i s Q E hi st Z=>nxt_sgt hh st.1 st.2.1 st.2.2 (fun e h' he aa sb=>Z e.2 h' s.toks ⟨e,he,rfl⟩ ⟨hi,aa,st.2.2.to fun o x=>sb.extBut d o ne x⟩ fun b o U x=>sb.extBut b o (fun z=>U (by simp [z])) x) fun e=>by
  rw [uS (by rw [walk_size];exact hi)] at e
  cases e
 done:=fun s Q E st Z=>nxt_sgt hh st.1 st.2.1 st.2.2 (fun e h' he _ _=>by rw [Array.getElem?_eq_none (by rw [walk_size];exact u8 _)] at he;cases he) fun _ h' eb=>Z h' s.toks fun b o U x=>eb b o (fun z=>U (by simp [z])) x
 self:=fun i s Q E st Z=>by
  refine UZ st.2.1.ty Q5 (vO Q5 st.2.1.ty Yz ?_ (jq _));show wpAny _ _ (ret (.ref _)) _ _ s;exact wpAny_pure ⟨_,rfl,"set_iterator",_,st.2.1.ty,qT.lookup,Z⟩
end
section
variable {P:Program}{w:World}{A:Around}{E:Value->Shared->Prop}{s:Shared}
theorem wp_draw {n:Nat}{Q:Nat->Shared->Prop}(U:n≠0)(q:∀i d',i<n->Q i {s with drawn:=d'}):wpAny (model P w) A (choose .order n) Q E s:=fun Γ p _=>by
 unfold choose;rw [Sem.wp_choose];exact⟨U,q _ _ (Nat.mod_lt _ (by omega))⟩
theorem J2 {α:Type}:∀(n:Nat) (xs:List α) {Q:List α->Shared->Prop}{s:Shared},xs.length=n->(∀ys d',ys.Perm xs->Q ys {s with drawn:=d'})->wpAny (model P w) A (drawOrder n xs) Q E s
 |0,xs,Q,s,hn,q=>by
  obtain rfl:=List.length_eq_zero_iff.mp hn;unfold drawOrder;exact wpAny_pure (q [] s.drawn (List.Perm.refl _))
 |n+1,[],Q,s,hn,q=>by simp at hn
 |n+1,x::xs,Q,s,hn,q=>by
  unfold drawOrder;refine wpAny_bind (wp_draw (by simp) fun i d' hi=> ?_)
  rw [u4 hi];dsimp only;refine wpAny_bind (J2 n ((x::xs).eraseIdx i) (s:={s with drawn:=d'}) (by rw [List.length_eraseIdx_of_lt hi,hn];rfl) fun ys U Z=>wpAny_pure (q _ U ?_))
  refine(List.Perm.cons _ Z).trans ?_;rw [List.eraseIdx_eq_take_drop_succ];have e:x::xs=(x::xs).take i++(x::xs)[i]::(x::xs).drop (i+1):=by rw [<-uD hi,uu]
  have p:List.Perm ((x::xs)[i]::((x::xs).take i++(x::xs).drop (i+1))) ((x::xs).take i++(x::xs)[i]::(x::xs).drop (i+1)):=List.perm_middle.symm;rw [<-e] at p;exact p
variable {d it tu:Addr}{es:SE}{ep:Nat}{t:SetTable}{ord:List Nat}
def plcs (ord:List Nat):List Value:=ord.map fun(i:Nat)=>rawInt i
structure DIt (h:Heap)(it d tu:Addr)(es:SE)(ep:Nat)(t:SetTable)(ord:List Nat)(i:Nat):Prop where
 me:∃o,h.get? it=some o/\o.cls= .type "set_iterator"/\o.data= .fields #[.ref tu,.int (i:Nat) 0,.ref d,.int (es.size:Nat) 0,.int (ep:Nat) 0]
 st:h.get? d=some (setO es ep t)
 fits:t.fits es.size=true
 tup:∃o n,h.get? tu=some o/\o.data= .seq (plcs ord).toArray n
 pm:ord.Perm (List.range es.size)
theorem DIt.ty {i:Nat}(x:DIt s.heap it d tu es ep t ord i):s.TypeIs (.ref it) "set_iterator":=let⟨o,h,c,_⟩:=x.me;⟨o,h,c⟩
theorem DIt.to {h h':Heap}{i:Nat}(x:DIt h it d tu es ep t ord i)(k:∀b∈ [it,d,tu],∀o,h.get? b=some o->h'.get? b=some o):DIt h' it d tu es ep t ord i:=
 ⟨let⟨o,e,r⟩:=x.me;⟨o,k _ (by simp) o e,r⟩,k _ (by simp) _ x.st,x.fits,let⟨o,n,e,r⟩:=x.tup;⟨o,n,k _ (by simp) o e,r⟩,x.pm⟩
def ordE (es:SE)(ord:List Nat):List (Int×Value):=ord.filterMap fun i=>es[i]?
theorem xx {es:SE}{ord:List Nat}(h:ord.Perm (List.range es.size)):(ordE es ord).Perm es.toList:=by
 refine(h.filterMap _).trans ?_;have:(List.range es.size).filterMap (fun i=>es[i]?)=es.toList:=by
  refine List.ext_getElem? fun i=> ?_;have U:∀n,n<=es.size->(List.range n).filterMap (fun i=>es[i]?)=es.toList.take n:=by
   intro n
   induction n with
   |zero=>intro _;simp
   |succ n ih=>
    intro hn;have Z:n<es.size:=by omega
    have e1:es[n]? =some es[n]:=uS Z;have e2:es.toList[n]? =some es[n]:=by rw [vo];exact e1
    rw [List.range_succ,List.filterMap_append,ih (by omega),ut,e2,Uh,e1]
    rfl
  rw [U _ (u8 _),uT (by simp)]
 rw [this]
theorem ord_at {es:SE}{ord:List Nat}(h:ord.Perm (List.range es.size))(i:Nat):(ordE es ord)[i]? =(ord[i]?).bind fun j=>es[j]? :=by
 have Z:∀l:List Nat,(∀j∈l,j<es.size)->∀i:Nat,(ordE es l)[i]? =(l[i]?).bind fun j=>es[j]? :=by
  intro l
  induction l with
  |nil=>intro _ i;simp [ordE]
  |cons j r ih=>
   intro hl i;have U:=hl j uo;have e:ordE es (j::r)=es[j]::ordE es r:=by
    unfold ordE;rw [Uh,uS U]
   rw [e];cases i with
   |zero=>simp [uS U]
   |succ i=>simpa using ih (fun j U=>hl j (ue _ U)) i
 exact Z ord (fun j U=>by simpa using h.mem_iff.mp U) i
theorem nxt_drw {i:Nat}{Q:Option Value->Shared->Prop}(hh:A.handled=none)(U:DIt s.heap it d tu es ep t ord i)(n1:d≠it)(n2:tu≠it)
  (q1:∀e h',(ordE es ord)[i]? =some e->DIt h' it d tu es ep t ord (i+1)->Heap.SameBut it s.heap h'->Q (some e.2) {s with heap:=h'}) (q2:(ordE es ord)[i]? =none->∀h',Heap.ExtBut it s.heap h'->Q none {s with heap:=h'}):wpAny (model P w) A (pyNext (.ref it)) Q E s:=by
 have hT:=U.ty;obtain⟨o,ho,hc,hd⟩:=U.me;obtain⟨o2,n,aa,ac⟩:=U.tup;unfold pyNext;refine wpAny_bind (V7 (wpAny_callSpecial?_slot (name:=Str.ofString "__next__") hT qT (vO qT hT YF ?_ (jf _))));unfold Builtin.«set_iterator.__next__» setEntries;refine wpAny_bind (wpAny_pure ?_);refine wpAny_bind (wpAny_fieldsOf ho hd ?_);refine wpAny_bind (wpAny_bind (vS U.st rfl U.fits (wpAny_pure ?_)));dsimp only;rw [if_neg (by simp)]
 refine wpAny_bind (wpAny_seqItems aa ac ?_);dsimp only;simp only [Int.toNat_natCast];have ad:(plcs ord).toArray[i]? =(ord[i]?).map fun(j:Nat)=>rawInt j:=by
  simp [plcs]
 rw [ad];rw [ord_at U.pm] at q1 q2;cases e:ord[i]? with
 |some j=>
  rw [e] at q1;have hj:j<es.size:=by simpa using U.pm.mem_iff.mp (uK e)
  have ej:es[j]? =some es[j]:=uS hj;dsimp only [Option.map,rawInt];unfold setNextDrawn;refine wpAny_bind (wpAny_bind (vS U.st rfl U.fits ?_));dsimp only;rw [if_neg (by simp)]
  simp only [Int.toNat_natCast,ej];refine wpAny_pure ?_;refine wpAny_bind (UB ho hd (by simp) ?_)
  have h1:=Heap.get?_update_self (Obj.mapFields (·.setIfInBounds 1 (rawInt ((i:Int)+1)))) ho (Ur (vB hd _));have Z:=vB hd (·.setIfInBounds 1 (rawInt ((i:Int)+1)));have sb:=vk s.heap it (Obj.mapFields (·.setIfInBounds 1 (rawInt ((i:Int)+1))));show wpAny _ _ (ret es[j].2) _ _ _;refine wpAny_pure ⟨_,rfl,wpAny_pure (q1 es[j] _ (by simpa using ej) ⟨⟨_,h1,?_,?_⟩,?_,U.fits,⟨o2,n,?_,ac⟩,U.pm⟩ sb)⟩
  ·rw [Obj.cls_mapFields];exact hc
  ·rw [Z];simp [rawInt]
  ·exact sb.extBut d _ n1 U.st
  ·exact sb.extBut tu _ n2 aa
 |none=>
  rw [e] at q2;dsimp only [Option.map];refine wpAny_bind (UB ho hd (by simp) ?_)
  have h1:=Heap.get?_update_self (Obj.mapFields (·.setIfInBounds 0 (rawInt 0))) ho (Ur (vB hd _));have Z:=vB hd (·.setIfInBounds 0 (rawInt 0));refine wpAny_bind (UB h1 Z (by simp) ?_)
  show wpAny _ _ (newExc (.type "StopIteration") []>>=_) _ _ _;refine wpAny_bind ?_;simp only [newExc,newTuple];refine wpAny_bind (uW ?_ (by size_fits))
  refine wpAny_bind (m:=firstArgMember _ _) (V8 (a:=Value.none) (by first|rfl|(simp only [firstArgMember];rfl)) ?_)
  refine uW ?_ (by size_fits)
  simp only [raiseNew];refine wpAny_bind (wpAny_handled ?_);rw [show A.in1.handled=none from hh]
  refine wpAny_bind (wpAny_pure (wpAny_throw ?_));refine wpAny_bind (Um (T:="StopIteration") (b:=true) ⟨_,uc _ rfl,rfl⟩ isSubtype_stop ?_);exact wpAny_pure (q2 (by simp) _ ((((vk ..).trans (vk ..)).extBut.push _).push _))
theorem walk_drw (hh:A.handled=none)(I d tu:Addr)(n1:d≠I)(n2:tu≠I)(pm:ord.Perm (List.range es.size)):
  Walks P w A I [I,d,tu] [I] es.size (fun i v=>∃e,(ordE es ord)[i]? =some e/\v=e.2) (fun i h=>DIt h I d tu es ep t ord i) where
 sub:=fun b U=>by simp at U;simp [U]
 frame:=fun _ _ _ st hk=>st.to hk
 item:=fun i s Q E hi st Z=>nxt_drw hh st n1 n2 (fun e h' he aa sb=>Z e.2 h' s.toks ⟨e,he,rfl⟩ aa fun b o U x=>sb.extBut b o (fun z=>U (by simp [z])) x) fun e=>by
  rw [u4 (by rw [(xx pm).length_eq];simpa using hi)] at e
  cases e
 done:=fun s Q E st Z=>nxt_drw hh st n1 n2 (fun e h' he _ _=>by rw [List.getElem?_eq_none (by rw [(xx pm).length_eq];simp)] at he;cases he) fun _ h' eb=>Z h' s.toks fun b o U x=>eb b o (fun z=>U (by simp [z])) x
 self:=fun i s Q E st Z=>by
  refine UZ st.ty Q5 (vO Q5 st.ty Yz ?_ (jq _));show wpAny _ _ (ret (.ref _)) _ _ s;exact wpAny_pure ⟨_,rfl,"set_iterator",_,st.ty,qT.lookup,Z⟩
theorem iter_drw {Q:Value->Shared->Prop}(U:s.heap.get? d=some (setO es ep t))(Z:t.fits es.size=true)(hb:byT w=false)(aa:t.plain=false)(h2:2<=es.size)(hz:es.size<=sizeLine)
  (q:∀(ord:List Nat) d',ord.Perm (List.range es.size)->Q (.ref (s.heap.objs.size+1)) {s with heap:=(s.heap.push {cls:= .type "tuple",data:= .seq (plcs ord).toArray}).push {cls:= .type "set_iterator",data:= .fields #[.ref s.heap.objs.size,.int 0 0,.ref d,.int (es.size:Nat) 0,.int ep 0]},drawn:=d'}):wpAny (model P w) A (pyIter (.ref d)) Q E s:=by
 have hT:s.TypeIs (.ref d) "set":=⟨_,U,rfl⟩;refine UZ hT F.slot_set_iter (vO F.slot_set_iter hT Ya ?_ (YG _));unfold Builtin.«frozenset.__iter__» Builtin.Frozenset.slot0 Builtin.Frozenset.sizeOf setEntries setDrawn setsByText setEpoch;show wpAny _ _ (pure d>>=_) _ _ s;refine wpAny_bind (wpAny_pure (wpAny_bind (wpAny_bind (wpAny_bind (vS U rfl Z (wpAny_pure (wpAny_pure ?_)))))));refine wpAny_bind (wpAny_bind (vS U rfl Z (wpAny_bind (wpAny_bind (Uo (wpAny_pure (wpAny_pure ?_)))))));dsimp only;have eb:(model P w).w.params.followText "set-order"=byT w:=rfl;rw [eb];split
 ·refine wpAny_bind (J2 es.size (List.range es.size) (by simp) fun ord d' hp=> ?_)
  refine wpAny_bind (wpAny_newTuple ?_ (by rw [u1,hp.length_eq,List.length_range];exact hz))
  have ac:(s.heap.push {cls:= .type "tuple",data:= .seq (plcs ord).toArray}).get? d=some (setO es ep t):=u5 _ U;refine wpAny_bind (wpAny_bind (vS (s:={s with heap:=s.heap.push {cls:= .type "tuple",data:= .seq (plcs ord).toArray},drawn:=d'}) ac rfl Z (wpAny_pure ?_)))
  unfold newFields;refine wpAny_bind (uW (wpAny_pure ⟨_,rfl,"set_iterator",_,⟨_,uc _ rfl,rfl⟩,qT.lookup,?_⟩));have:=q ord d' hp
  simpa [rawInt,size_push'] using this
 ·rename_i h
  exact absurd (show(!byT w&&(!t.plain&&decide (es.size>1)))=true by rw [hb,aa];simp;omega) h
end
section
variable {P:Program}{w:World}{A:Around}{E:Value->Shared->Prop}{s:Shared}{a:Addr}{es:SE}{ep:Nat}{t:SetTable}
def wkP (ord:List (Int×Value))(i:Nat)(v:Value):Prop:=∃e,ord[i]? =some e/\v=e.2
theorem iter_T {Q:Value->Shared->Prop}(hh:A.handled=none)(Z:s.heap.get? a=some (setO es ep t))(ok:TOk P w es t)(hz:es.size<=sizeLine)
  (q:∀(h1:Heap) (d1:Drawn) (I:Addr) (fp:List Addr) (St:Nat->Heap->Prop) (ord:List (Int×Value)),(∀b o,s.heap.get? b=some o->h1.get? b=some o)->s.heap.objs.size<=I->(∀b∈fp,b=a∨s.heap.objs.size<=b)->Walks P w A I fp [I] es.size (wkP ord) St->St 0 h1->ord.Perm es.toList->Q (.ref I) {s with heap:=h1,drawn:=d1}):
  wpAny (model P w) A (pyIter (.ref a)) Q E s:=by
 have la:=uh Z;by_cases hc:byT w=false/\2<=es.size
 ·refine iter_drw Z ok.fits hc.1 (ok.pl (by omega)) hc.2 hz fun ord d' hp=> ?_
  have aa:(s.heap.push {cls:= .type "tuple",data:= .seq (plcs ord).toArray}).objs.size=s.heap.objs.size+1:=by rw [uY]
  have hT:((s.heap.push {cls:= .type "tuple",data:= .seq (plcs ord).toArray}).push {cls:= .type "set_iterator",data:= .fields #[.ref s.heap.objs.size,.int 0 0,.ref a,.int (es.size:Nat) 0,.int ep 0]}).get? (s.heap.objs.size+1)=some {cls:= .type "set_iterator",data:= .fields #[.ref s.heap.objs.size,.int 0 0,.ref a,.int (es.size:Nat) 0,.int ep 0]}:=by
   rw [<-aa];exact uc _ rfl
  refine q _ d' (s.heap.objs.size+1) [s.heap.objs.size+1,a,s.heap.objs.size] _ (ordE es ord) (fun b o e=>u5 _ (u5 _ e)) (Nat.le_succ _) (fun b U=> ?_) (walk_drw (ep:=ep) (t:=t) hh _ a s.heap.objs.size (uq (Ub la)) (uq (V4 _)) hp) ⟨⟨_,hT,rfl,rfl⟩,u5 _ (u5 _ Z),ok.fits,⟨_,_,u5 _ (uc _ rfl),rfl⟩,hp⟩ (xx hp);simp only [Uk,UD,or_false] at U;rcases U with e|e|e
  ·exact .inr (by rw [e];exact Nat.le_succ _)
  ·exact .inl e
  ·exact .inr (V1 e.symm)
 ·have hN:SGT w s.heap a es ep t:=⟨Z,ok.fits,fun U=>⟨by rw [ok.led,U];rfl,by
   by_cases h2:2<=es.size
   ·exact absurd ⟨U,h2⟩ hc
   ·omega⟩⟩
  have ac:=walk_sgt (P:=P) (w:=w) (A:=A) (es:=es) (ep:=ep) (t:=t) hh s.heap.objs.size a (uq la);refine iter_sgt hN (q _ s.drawn s.heap.objs.size [s.heap.objs.size,a] (fun i h=>i<=es.size/\SIt w h s.heap.objs.size a es.size ep t i/\SGT w h a es ep t) (YY w a es ep).toList (fun b o e=>u5 _ e) (u8 _) (fun b U=> ?_) ?_ ⟨vh _,⟨_,uc _ rfl,rfl,by rw [slot0];rfl⟩,hN.to fun _ e=>u5 _ e⟩ (walk_perm w a es ep))
  ·simp only [Uk,UD,or_false] at U;rcases U with e|e
   ·exact .inr (V1 e.symm)
   ·exact .inl e
  ·have e:wkP (YY w a es ep).toList=fun i v=>∃e,(YY w a es ep)[i]? =some e/\v=e.2:=by
    funext i v
    unfold wkP;rw [vo]
   rw [e];exact ac
theorem ext_T {R:Result->Shared->Prop}(hh:A.handled=none)(ho:s.heap.get? a=some (setO es ep t))(ok:TOk P w es t)(S:Addr)(ac:S≠a)(res:Value)(c₀:Nat)(hS:s.heap.get? S=some {cls:= .type "list",data:= .seq #[] c₀})
  (hR:∀h' tk d' U c' ord,ord.Perm es.toList->(∀b o,b≠S->s.heap.get? b=some o->h'.get? b=some o)->h'.get? S=some {cls:= .type "list",dict:=none,data:= .seq U c',slots:= #[]}->ItemsOf (wkP ord) U es.size->R (.ok (.ret res)) {s with heap:=h',toks:=tk,drawn:=d'}) (hn:es.size<=sizeLine):
  wpAny (model P w) A.in1 (Builtin.List.listExtendWith (.ref S) (.ref a) res)
   (fun fin s'=>match fin with| .done f=>R (.ok f) s'| .again c'=>c'.quiet=true/\codeAny (model P w) A c' R s') (fun e s'=>R (.error e) s') s:=by
 have lS:=uh hS;unfold Builtin.List.listExtendWith;refine wpAny_bind (wpAny_typeOf (T:="set") ⟨_,ho,rfl⟩ ?_);have h1:Builtin.List.listSameRef (.ref S) (.ref a)=false:=by simp [Builtin.List.listSameRef,ac]
 simp only [h1,show(Value.type "set"==Value.type "list")=false by decide,show(Value.type "set"==Value.type "tuple")=false by decide,Bool.or_false,ug,uU]
 refine wpAny_bind (iter_T (A:=A.in1) hh ho ok hn fun h1 d1 I fp St ord k1 hI aj W st hp=> ?_);have ad:S∉fp:=fun hm=>by
  rcases aj S hm with e|e
  ·exact ac e
  ·exact absurd lS (Nat.not_lt.mpr e)
 have ae:∀(h:Heap) (c₁ tk:Nat),St 0 h->(∀b o,b≠S->s.heap.get? b=some o->h.get? b=some o)->
   h.get? S=some {cls:= .type "list",data:= .seq #[] c₁}->codeAny (model P w) A (.builtin "list.extend.loop" ⟨[.ref S,.ref I,res],[]⟩) R {s with heap:=h,toks:=tk,drawn:=d1}:=by
  intro h c₁ tk ak hk Z;refine codeAny_extend_loopS W.toS hn S ad res es.size 0 _ #[] c₁ rfl (vh _) ak Z (ItemsOf.nil _) fun s' U c' hm al af=> ?_;rw [Moved.eq_with hm];refine hR s'.heap s'.toks d1 U c' ord hp (fun b o hb e=>hm.heap b o (fun aa=> ?_) (hk b o hb e)) al af;rcases List.mem_cons.mp aa with e'|aa
  ·exact hb e'
  ·have:=uh e;rw [List.mem_singleton.mp aa] at this;exact absurd this (Nat.not_lt.mpr hI)
 have Z:=k1 _ _ hS;have ag:∀b o,b≠S->s.heap.get? b=some o->h1.get? b=some o:=fun b o _ e=>k1 b o e;refine wpAny_bind (wpAny_holding (hint_set (s:={s with heap:=h1,drawn:=d1}) ⟨_,k1 _ _ ho,rfl⟩ ?_))
 refine wpAny_ite_split (fun _=> ?_) (fun _=>wpAny_pure ⟨vy PySem.F.plain_extend_loop _,ae _ c₀ _ st ag Z⟩);refine wpAny_bind (wpAny_rule ?_);refine wpAny_bind ?_;show wpAny _ _ (updateSeq S (·.push .none)>>=fun _=>updateSeq S (·.pop)) _ _ _;refine wpAny_bind (UR Z rfl ?_);have ah:=Heap.get?_update_self (Obj.mapSeq (·.push Value.none)) Z rfl;refine UR (hz:=by seq_fits) ah rfl ?_
 have am:=Heap.get?_update_self (Obj.mapSeq (·.pop)) ah rfl;refine wpAny_pure ⟨vy PySem.F.plain_extend_loop _,ae _ _ _ ?_ (fun b o hb e=> ?_) am⟩
 ·refine W.frame 0 _ _ st fun b hb o e=> ?_;have ai:b≠S:=fun h=>ad (h▸hb);exact(uB _ _ (Uu ai)).trans ((uB _ _ (Uu ai)).trans e)
 ·exact(uB _ _ (Uu hb)).trans ((uB _ _ (Uu hb)).trans (ag b o hb e))
theorem collect_T {R:List Value->Shared->Prop}(hh:A.handled=none)(ho:s.heap.get? a=some (setO es ep t))(ok:TOk P w es t)(hn:es.size<=sizeLine)
  (h:∀(h':Heap) (tk:Nat) (d':Drawn) (ac:Array Value) (ord:List (Int×Value)),ord.Perm es.toList->(∀b o,s.heap.get? b=some o->h'.get? b=some o)->ItemsOf (wkP ord) ac es.size->R ac.toList {s with heap:=h',toks:=tk,drawn:=d'}):
  wpAny (model P w) A (collect (.ref a)) R E s:=by
 have ad:=uh ho;unfold collect;refine wpAny_bind (wpAny_runValue (vd entry_proto_collect' ?_));rw [uN PySem.F.plain_proto_collect _];show wpAny _ A.in1 (newList []>>=fun l=>again (.builtin "list.__iadd__" ⟨[l,.ref a],[]⟩)) _ _ s;refine wpAny_bind (uW ?_);refine wpAny_pure ⟨vy PySem.F.plain_list_iadd _,vd entry_list_iadd' ?_⟩;rw [uN PySem.F.plain_list_iadd _];have ae:(s.heap.push {cls:= .type "list",data:= .seq ([]:List Value).toArray}).get? s.heap.objs.size=some {cls:= .type "list",data:= .seq #[]}:=uc _ rfl;show wpAny _ A.in1 (Builtin.List.listExtendWith (.ref s.heap.objs.size) (.ref a) (.ref s.heap.objs.size)) _ _ _;have af:=ext_T (A:=A) (s:={s with heap:=s.heap.push {cls:= .type "list",data:= .seq ([]:List Value).toArray}})
  (R:=fun(q:Result) (s':Shared)=>∃(h':Heap) (tk:Nat) (d':Drawn) (U:Array Value) (c':Nat) (ord:List (Int×Value)),q= .ok (.ret (.ref s.heap.objs.size))/\s'={s with heap:=h',toks:=tk,drawn:=d'}/\ord.Perm es.toList/\
   (∀b o,s.heap.get? b=some o->h'.get? b=some o)/\h'.get? s.heap.objs.size=some {cls:= .type "list",dict:=none,data:= .seq U c',slots:= #[]}/\ItemsOf (wkP ord) U es.size)
  hh (u5 _ ho) ok s.heap.objs.size (vR ad) (.ref s.heap.objs.size) 0 ae
  (fun h' tk d' U c' ord hp hk aa Z=>⟨h',tk,d',U,c',ord,rfl,rfl,hp,fun b o e=>hk b o (uq (uh e)) (u5 _ e),aa,Z⟩) hn
 refine vi af (fun fin s' x=> ?_) fun e s' x=> ?_
 ·cases fin with
  |done f=>
   obtain⟨h',tk,d',U,c',ord,e,rfl,hp,hk,aa,Z⟩:=x;cases e;show wpAny _ A (load s.heap.objs.size>>=_) _ _ _;refine wpAny_bind (wpAny_load aa ?_);exact wpAny_pure (h h' tk d' U ord hp hk Z)
  |again c=>exact⟨x.1,UG x.2 fun r s' y=>by
    obtain⟨h',tk,d',U,c',ord,rfl,rfl,hp,hk,aa,Z⟩:=y;show wpAny _ A (load s.heap.objs.size>>=_) _ _ _;refine wpAny_bind (wpAny_load aa ?_);exact wpAny_pure (h h' tk d' U ord hp hk Z)⟩
 ·obtain⟨h',tk,d',U,c',ord,e,_⟩:=x;cases e
end
def gT (P:Program)(w:World)(a:Addr)(ls:List Str):HO:= .ext fun h=>TxS P w h a ls
theorem gT_ok {P:Program}{w:World}{H:Hp}{h:Heap}{a:Addr}{ls:List Str}(n:TxS P w h a ls):qY P w H h a (gT P w a ls):=⟨n,let⟨_,_,_,e,_⟩:=n;⟨_,e⟩,fun _ _ n k=>n.to k⟩
section
variable {X:Cx}
theorem Inv.drw {pins:List (Addr×Obj)}{σ:St}{H:Hp}{s:Shared}(I:Inv X pins σ H s)(d:Drawn):Inv X pins σ H {s with drawn:=d}:=⟨I.ok,I.os,I.bare,I.base,I.loc,I.cell,I.free,I.freeC,I.pin,I.hok,I.len,I.tk⟩
theorem call_setT (Z:X.calm=true):Qn X (.type "set") (fun xs H Q=>∃(p:Addr) (ls:List Str),xs= [.ref p]/\SqL X.K H p (ls.map V.str)/\ls.length<=1000/\∀q,H q=none->Q (.ref q) (upd H q (gT X.prog X.w q ls))):=by
 intro pins s σ H xs us Q I r h;obtain⟨p,ls,rfl,hp,hl,q⟩:=h;obtain⟨u,rfl,ru⟩:=QX r;cases ru;obtain⟨its,U,pl,hz⟩:=I.list hp;have aa:its.length=ls.length:=by have:=U.length;simpa using this.symm
 refine ux (n:=1) I.tk (set_T (items:=its.toArray) (I.ok.hd Z) pl.isList (by simpa using Qh U) (by rw [ub];unfold scanBound;omega) fun h' tk k1 k2 k3=> ?_)
 intro htk;exact⟨.ref s.heap.objs.size,_,I.laid (t':=tk) (o:=gT X.prog X.w s.heap.objs.size ls) k1 (u8 _) (gT_ok k2) htk,rfl,q _ (I.hok.fresh (u8 _))⟩
theorem call_sortedU (hc:X.calm=true):Qn X (.builtin "sorted") (fun xs H Q=>∃(a:Addr) (ls:List Str),xs= [.ref a]/\H a=some (gT X.prog X.w a ls)/\ls.length<=1000/\∀(ms:List Str) (q:Addr),ms.Nodup->(∀x,x∈ms↔x∈ls)->sortedS ms=true->ms.length<=ls.length->H q=none->Q (.ref q) (upd H q (.lst (ms.map V.str)))):=by
 intro pins s σ H xs us Q I r h;obtain⟨a,ls,rfl,ha,hl,q⟩:=h;obtain⟨u,rfl,ru⟩:=QX r;cases ru;obtain⟨es,ep,t,ho,ok,hz,mem⟩:=(show qY X.prog X.w H s.heap a (gT X.prog X.w a ls) from I.hok a _ ha).1
 have hs:=uv;refine ux (n:=1) I.tk (sorted_by (collect_T (A:=X.A.in1) (I.ok.hd hc) ho ok (by omega) fun h' tk d' Z ord pm k U=> ?_))
 have ac:Z.toList.length=es.size:=by rw [Array.length_toList,U.1]
 have ad:ord.length=es.size:=by rw [pm.length_eq,Array.length_toList]
 have hS:StrsAre Z.toList (ord.map fun e=>strOf e.2):=by
  have hv:Vals ((ord.map fun e=>strOf e.2).map V.str) Z.toList:=by
   refine jC (by rw [u1,u1,ac,ad]) fun j x v hx hv=> ?_
   obtain⟨e,he,rfl⟩:=U.2 j v (by rw [<-vo];exact hv)
   rw [uk,uk,he] at hx;cases hx;obtain⟨z,ae,e1,_⟩:=ok.isS e (pm.mem_iff.mp (uK he));rw [e1];exact⟨ae,by dsimp only;rw [e1];rfl⟩
  exact Qh hv
 have hp:(ord.map fun e=>strOf e.2).Perm (Yv es):=pm.map _;refine⟨by omega,_,hS,fun out ms h2 e b1 b2 b3 k2 he htk=> ?_⟩
 have I1:Inv X pins σ H {s with heap:=h',toks:=tk}:=I.kept k htk
 have aa:ms.Perm (Yv es):=b2.trans hp;have af:ms.length=es.size:=by rw [aa.length_eq];simp [Yv]
 refine⟨.ref _,_,(I1.drw d').laid (t':=tk) (o:= .lst (ms.map V.str)) k2 (u8 _) ⟨?_,out,e,QB b1,he⟩ htk,rfl,q ms _ (aa.nodup_iff.mpr ok.nd) (fun x=>aa.mem_iff.trans (mem x)) b3 (by omega) (I1.hok.fresh (u8 _))⟩
 rw [u1,af];omega
def Y6 (cur:List (Key×V)):List (Key×V)->List (Key×V)
 | []=>cur
 |p::r=>Y6 (putK cur p.1 p.2) r
theorem putAll_kv:∀{ps cur:List (Key×V)}{qs c:List (Key×Value)},KV cur c->KV ps qs->KV (Y6 cur ps) (AwK.Jw c qs)
 | [],cur,[],c,h,_=>h
 |p::ps,cur,q::qs,c,h,r=>by
  cases r with
  |cons U Z=>
   unfold Y6 AwK.Jw;obtain⟨e,rv⟩:=U;rw [<-e];exact putAll_kv (h.put p.1 rv) Z
theorem putK_keys (cur:List (Key×V))(k:Key)(v:V):(k∈cur.map (·.1)->(putK cur k v).map (·.1)=cur.map (·.1))/\(k∉cur.map (·.1)->(putK cur k v).map (·.1)=cur.map (·.1)++ [k]):=by
 unfold putK;refine⟨fun h=> ?_,fun h=> ?_⟩
 ·rw [if_pos,uC]
  ·refine vF fun p _=> ?_;dsimp only [Function.comp];split<;>rfl
  ·obtain⟨p,U,e⟩:=List.mem_map.mp h;exact List.any_eq_true.mpr ⟨p,U,by simpa using e⟩
 ·rw [if_neg,ud]
  ·rfl
  ·intro q;obtain⟨p,U,e⟩:=List.any_eq_true.mp q;exact h (List.mem_map.mpr ⟨p,U,by simpa using e⟩)
def jw (cur:List Str):List Str->List Str
 | []=>cur
 |z::r=>jw (if z∈cur then cur else cur++ [z]) r
theorem Jk:∀(ps:List (Str×V)) (cur:List (Key×V)) (cs:List Str),cur.map (·.1)=cs.map Sum.inr->(Y6 cur (inrK ps)).map (·.1)=(jw cs (ps.map (·.1))).map Sum.inr
 | [],cur,cs,h=>h
 |p::r,cur,cs,h=>by
  show(Y6 (putK cur (Sum.inr p.1) p.2) (inrK r)).map (·.1)=(jw (if p.1∈cs then cs else cs++ [p.1]) (r.map (·.1))).map Sum.inr
  refine Jk r _ _ ?_;obtain⟨k1,k2⟩:=putK_keys cur (Sum.inr p.1) p.2;rw [h] at k1 k2;have hm:(Sum.inr p.1:Key)∈cs.map (Sum.inr:Str->Key)↔p.1∈cs:=by
   constructor
   ·intro Z;obtain⟨y,hy,e⟩:=List.mem_map.mp Z;cases e;exact hy
   ·exact fun Z=>List.mem_map.mpr ⟨_,Z,rfl⟩
  by_cases U:p.1∈cs
  ·rw [k1 (hm.mpr U),if_pos U]
  ·rw [k2 (fun x=>U (hm.mp x)),if_neg U,ud]
   rfl
theorem x9:∀(l cur:List Str),cur.Nodup->(jw cur l).Nodup/\(∀z,z∈jw cur l↔z∈cur∨z∈l)/\(jw cur l).length<=cur.length+l.length
 | [],cur,h=>⟨h,fun z=>by simp [jw],by simp [jw]⟩
 |x::r,cur,h=>by
  unfold jw;by_cases U:x∈cur
  ·rw [if_pos U];obtain⟨h1,h2,Z⟩:=x9 r cur h;refine⟨h1,fun z=> ?_,by rw [uz];omega⟩
   rw [h2,Uk];constructor
   ·rintro(h|h)
    ·exact .inl h
    ·exact .inr (.inr h)
   ·rintro(h|rfl|h)
    ·exact .inl h
    ·exact .inl U
    ·exact .inr h
  ·rw [if_neg U];obtain⟨h1,h2,Z⟩:=x9 r (cur++ [x]) (List.nodup_append.mpr ⟨h,by simp,fun a ha b hb e=>U (by rw [<-List.mem_singleton.mp hb,<-e];exact ha)⟩)
   refine⟨h1,fun z=> ?_,by rw [u7,vI] at Z;rw [uz];omega⟩
   rw [h2,Ud,U5,Uk,or_assoc]
theorem call_dictW (hc:X.calm=true):Qn X (.type "dict") (fun xs H Q=>∃(l:Addr) (ps:List (Str×V)),xs= [.ref l]/\PairsL H l ps/\ps.length<=1000/\∀q (kvs:List (Key×V)),kvs.map (·.1)=(jw [] (ps.map (·.1))).map Sum.inr->H q=none->Q (.ref q) (upd H q (.dK kvs))):=by
 intro pins s σ H xs us Q I r h;obtain⟨l,ps,rfl,⟨ts,e1,e2,e3⟩,hz,q⟩:=h;obtain⟨u,rfl,ru⟩:=QX r;cases ru;obtain⟨_,its,n,rv,ho⟩:=(show qY X.prog X.w H s.heap l (.lst (ts.map V.ref)) from I.hok l _ e1)
 cases jK rv;obtain⟨pv,r,hp⟩:=jJ I.hok e2 e3;have ac:pv.length=ps.length:=by
  rw [<-r.length];unfold inrK;rw [u1]
 have U:(s.heap.objs.size==sysModules)=false:=by
  rw [vV];exact vR I.big
 have hk:=Jk ps [] [] rfl;have Z:(Y6 [] (inrK ps)).length<=sizeLine:=by
  have:=congrArg List.length hk;rw [u1,u1] at this;have h3:=(x9 (ps.map (·.1)) [] List.nodup_nil).2.2;rw [u1] at h3;rw [this,uv];simp at h3;omega
 refine ux (n:=1) I.tk ?_;refine AwK.JU (knd:=qz X.prog X.w) (I.ok.hd hc) (ps:=pv) ho (by rw [ub,u1];omega) (by rw [uv];omega) (fun j v p h1 h2=>hp j v p (by simpa using h1) h2) fun h' ad aa kp=> ?_
 intro htk;exact⟨.ref s.heap.objs.size,_,I.laid kp (u8 _) (JY Z U (putAll_kv .nil r) aa),rfl,q _ _ hk I.fresh⟩
end
end L2
namespace K19
open PySem L2 PyProof.Rows
def top (i:Nat):Stmt:=PySem.Challenge.pw_askwright_k19_whole_likeness_and_differe.main.body.getD i (.Pass ⟨0,0,0,0⟩)
abbrev Jz:Stmt:=top 14
abbrev YQ:Stmt:=top 15
abbrev j9:Stmt:=top 16
abbrev jW:Stmt:=top 18
abbrev Yn:Stmt:=top 21
abbrev Qx:Stmt:=xq (top 22) 0
abbrev Qs:Stmt:=xq (top 22) 1
abbrev Qe:Stmt:=xq (top 22) 2
abbrev qW:Stmt:=xq (top 22) 3
abbrev yt:Stmt:=top 23
abbrev QK:Stmt:=top 24
abbrev YR:Stmt:=top 25
abbrev Qc:Stmt:=top 26
abbrev jd:Stmt:=top 27
abbrev Jg:Stmt:=top 29
abbrev Y8:Stmt:=top 30
abbrev yk:Stmt:=top 31
abbrev Yh:Stmt:=top 32
abbrev Y0:Stmt:=top 33
abbrev yQ:Stmt:=top 34
abbrev QL:Stmt:=top 35
abbrev yo:Stmt:=top 36
abbrev QP:Stmt:=top 37
abbrev Ym:Stmt:=top 38
abbrev yI:Stmt:=top 39
abbrev Yb:Stmt:=top 40
abbrev yx:Stmt:=top 41
abbrev Jp:Stmt:=top 42
abbrev Yr:Stmt:=top 43
abbrev s_law:Stmt:=top 44
structure Ad where
 f_is_text:Addr
 d_is_text:FuncData
 f_is_tree:Addr
 d_is_tree:FuncData
 f_is_name:Addr
 d_is_name:FuncData
 f_is_pair:Addr
 d_is_pair:FuncData
 Jj:Addr
 jL:FuncData
 ya:Addr
 y8:FuncData
 yc:Addr
 ye:FuncData
 QW:Addr
 QU:FuncData
 QY:Addr
 Q1:FuncData
 Yt:Addr
 Yw:FuncData
 YM:Addr
 YV:FuncData
 f_without:Addr
 d_without:FuncData
 y3:Addr
 y6:FuncData
 xc:Addr
 J1:FuncData
 f_law_pot:Addr
 d_law_pot:FuncData
 JS:Addr
 JX:FuncData
 YC:Addr
 YN:FuncData
 jE:Addr
 Ja:FuncData
 J5:Addr
 JL:FuncData
 yd:Addr
 yf:FuncData
 Qi:Addr
 Qk:FuncData
 Yx:Addr
 Yu:FuncData
 yD:Addr
 yE:FuncData
 Ju:Addr
 Jx:FuncData
 jp:Addr
 jt:FuncData
 JC:Addr
 JB:FuncData
 YI:Addr
 YA:FuncData
 f_law_row:Addr
 d_law_row:FuncData
 jY:Addr
 Jn:FuncData
 f_law:Addr
 d_law:FuncData
 qp:Addr
structure Tx (K:PySem.W.Frag)(mg:Str->Option Value)(a:Ad):Prop where
 g_is_text:FF K mg "is_text" Jz ["value"] a.f_is_text a.d_is_text
 g_is_tree:FF K mg "is_tree" YQ ["value"] a.f_is_tree a.d_is_tree
 g_is_name:FF K mg "is_name" j9 ["value"] a.f_is_name a.d_is_name
 g_is_pair:FF K mg "is_pair" jW ["value"] a.f_is_pair a.d_is_pair
 g_is_source:FF K mg "is_source" Yn ["value"] a.Jj a.jL
 g_Project_init:FM K a.qp "__init__" "Project.__init__" Qx ["self","sources"] a.ya a.y8
 g_Project_sources:FM K a.qp "sources" "Project.sources" Qs ["self"] a.yc a.ye
 g_Project_source_of:FM K a.qp "source_of" "Project.source_of" Qe ["self","name"] a.QW a.QU
 g_Project_looked_up:FM K a.qp "looked_up" "Project.looked_up" qW ["self","ask"] a.QY a.Q1
 g_longest_row:FF K mg "longest_row" yt ["names"] a.Yt a.Yw
 g_with_source:FF K mg "with_source" QK ["project","name","source"] a.YM a.YV
 g_without:FF K mg "without" YR ["project","name"] a.f_without a.d_without
 g_unlike_names:FF K mg "unlike_names" Qc ["project","other"] a.y3 a.y6
 g_alike_on:FF K mg "alike_on" jd ["project","other","names","asks"] a.xc a.J1
 g_law_pot:FF K mg "_law_pot" Jg ["cell","salt"] a.f_law_pot a.d_law_pot
 g_law_take:FF K mg "_law_take" Y8 ["pot","many"] a.JS a.JX
 g_law_cell_at:FF K mg "_law_cell_at" yk ["script","k"] a.YC a.YN
 g_law_signs:FF K mg "_law_signs" Yh [] a.jE a.Ja
 g_law_text:FF K mg "_law_text" Y0 ["pot"] a.J5 a.JL
 g_law_tree:FF K mg "_law_tree" yQ ["pot","deep"] a.yd a.yf
 g_law_measure:FF K mg "_law_measure" QL ["value"] a.Qi a.Qk
 g_law_is_tree:FF K mg "_law_is_tree" yo ["value"] a.Yx a.Yu
 g_law_good_tree:FF K mg "_law_good_tree" QP ["pot"] a.yD a.yE
 g_law_names:FF K mg "_law_names" Ym ["pot","many"] a.Ju a.Jx
 g_law_source:FF K mg "_law_source" yI ["pot","names"] a.jp a.jt
 g_law_pairs:FF K mg "_law_pairs" Yb ["script"] a.JC a.JB
 g_law_changed:FF K mg "_law_changed" yx ["table","script"] a.YI a.YA
 g_law_row:FF K mg "_law_row" Jp ["table","text"] a.f_law_row a.d_law_row
 g_law_alike:FF K mg "_law_alike" Yr ["one","other","names","asks"] a.jY a.Jn
 g_law:FF K mg "law" s_law ["script"] a.f_law a.d_law
 qE:Cls K a.qp
 YB:Mk K a.qp a.ya
 Yy:mg "Project"=some (.ref a.qp)
 qQ:Jf K a.qp "by_name"
 m_MOST_SIGNS:∃t,mg "MOST_SIGNS"=some (.int 300 t)
 m_MOST_PARTS:∃t,mg "MOST_PARTS"=some (.int 40 t)
 m_MOST_SIZE:∃t,mg "MOST_SIZE"=some (.int 600 t)
 m_MOST_DEPTH:∃t,mg "MOST_DEPTH"=some (.int 12 t)
 Y3:∃t,mg "MOST_NAME_SIGNS"=some (.int 24 t)
 m_LETTERS:∃t,mg "LETTERS"=some (.str "abcdefghijklmnopqrstuvwxyz" t)
 m_NAME_SIGNS:∃t,mg "NAME_SIGNS"=some (.str "abcdefghijklmnopqrstuvwxyz0123456789./" t)
 m_PERCENT:∃t,mg "PERCENT"=some (.int 37 t)
 m_MOST_NAMES:∃t,mg "MOST_NAMES"=some (.int 60 t)
 z_ord:mg "ord"=none
 QI:mg "len"=none
 q9:mg "isinstance"=none
 z_str:mg "str"=none
 Qr:mg "tuple"=none
 z_all:mg "all"=none
 z_dict:mg "dict"=none
 YT:mg "sorted"=none
 z_set:mg "set"=none
 z_abs:mg "abs"=none
 ym:mg "range"=none
 z_max:mg "max"=none
 z_sum:mg "sum"=none
 z_min:mg "min"=none
 JO:mg "list"=none
 z_bool:mg "bool"=none
theorem JQ:qA ["value","sign"] ["value"] (qi Jz):=by trivial
theorem Qf:qA ["value","size","waiting","pair","part","depth"] ["value"] (qi YQ):=by trivial
theorem sc_is_name:qA ["value"] ["value"] (qi j9):=by trivial
theorem sc_is_pair:qA ["value"] ["value"] (qi jW):=by trivial
theorem sc_is_source:qA ["value"] ["value"] (qi Yn):=by trivial
theorem Qm:qA ["self","sources","by_name","name","source"] ["self","sources"] (qi Qx):=by trivial
theorem YJ:qA ["self"] ["self"] (qi Qs):=by trivial
theorem yX:qA ["self","name"] ["self","name"] (qi Qe):=by trivial
theorem yZ:qA ["self","ask"] ["self","ask"] (qi qW):=by trivial
theorem Qy:qA ["names","row","name"] ["names"] (qi yt):=by trivial
theorem y4:qA ["project","name","source","others"] ["project","name","source"] (qi QK):=by trivial
theorem sc_without:qA ["project","name"] ["project","name"] (qi YR):=by trivial
theorem yG:qA ["project","other","names"] ["project","other"] (qi Qc):=by trivial
theorem Ys:qA ["project","other","names","asks","name","ask"] ["project","other","names","asks"] (qi jd):=by trivial
theorem sc_law_pot:qA ["cell","salt"] ["cell","salt"] (qi Jg):=by trivial
theorem jR:qA ["pot","many","digit"] ["pot","many"] (qi Y8):=by trivial
theorem JG:qA ["script","k"] ["script","k"] (qi yk):=by trivial
theorem jh:qA ["some"] [] (qi Yh):=by trivial
theorem Qt:qA ["pot","signs","text","k"] ["pot"] (qi Y0):=by trivial
theorem QR:qA ["pot","deep","kind","tree","k"] ["pot","deep"] (qi yQ):=by trivial
theorem Qu:qA ["value","signs","parts","good"] ["value"] (qi QL):=by trivial
theorem Qv:qA ["value","good","size","deep"] ["value"] (qi yo):=by trivial
theorem QG:qA ["pot","tree"] ["pot"] (qi QP):=by trivial
theorem qU:qA ["pot","many","names","k","name","j"] ["pot","many"] (qi Ym):=by trivial
theorem YL:qA ["pot","names","kind"] ["pot","names"] (qi yI):=by trivial
theorem qM:qA ["script","first","many","pot","names","pairs","k","own"] ["script"] (qi Yb):=by trivial
theorem qN:qA ["table","script","k","pot","names","name","way"] ["table","script"] (qi yx):=by trivial
theorem yN:qA ["table","text","row","name"] ["table","text"] (qi Jp):=by trivial
theorem Q3:qA ["one","other","names","asks","name","kind","text"] ["one","other","names","asks"] (qi Yr):=by trivial
theorem Ql:qA ["script","one","other","projects","every","due","made","name","cell","pot","some","names","asks","k","text","found"] ["script"] (qi s_law):=by trivial
def SGN:Str:=((("abcdefghijklmnopqrstuvwxyzABCDEFGHIJKLMNOPQRSTUVWXYZ0123456789"++" !#$&'()*+,-./:;<=>?\x40[]^_")++"`{|}~")++"\"")++"\\"
def Qa (H:Hp)(p:Addr):Prop:=∃x y:Int,H p=some (.lst [.int x,.int y])/\0<=x/\0<=y/\y<2147483648
theorem Qa.same {H H':Hp}{p:Addr}(h:Qa H p)(s:Same H H'):Qa H' p:=by
 obtain⟨x,y,e,r⟩:=h;exact⟨x,y,s _ _ e,r⟩
theorem Qa.free {H:Hp}{p l:Addr}(h:Qa H p)(n:H l=none):p≠l:=by
 obtain⟨x,y,e,r⟩:=h;exact qh e n
theorem Qa.tk {H H':Hp}{p:Addr}(h:Qa H p)(h':Qa H' p)(k:Kept p H H'):Tk H H':=by
 obtain⟨x,y,e,_⟩:=h;obtain⟨Z,y',U,_⟩:=h';exact k.tk e U
def sp_take:Sp:=fun vs H Q _=>∃(p:Addr) (many:Int),vs= [.ref p,.int many]/\Qa H p/\0<many/\many<1073741824/\∀(d:Int) (H':Hp),0<=d->d<many->Qa H' p->Kept p H H'->Q (.int d) H'
def sp_pot:Sp:=fun vs H Q _=>∃(c t:Int),vs= [.int c,.int t]/\0<=t/\t<1000/\∀(p:Addr) (H':Hp),H p=none->Same H H'->Qa H' p->Q (.ref p) H'
def sp_signs:Sp:=fun vs H Q _=>vs= []/\Q (.str SGN) H
def yY (z:Str):Bool:=z.cps.toList.all Qb
theorem okAll_app {z y:Str}(h:yY z=true)(k:yY y=true):yY (z++y)=true:=by
 unfold yY at*;show(z.cps++y.cps).toList.all Qb=true;rw [uw,vw,h,k];rfl
theorem JZ (xs:Array Nat)(Z:xs.toList.all Qb=true):∀(k:Nat) (U:Array Nat),U.toList.all Qb=true->((List.replicate k xs).foldl (·++ ·) U).toList.all Qb=true
 |0,U,h=>h
 |k+1,U,h=>by
  rw [UE,List.foldl_cons];exact JZ xs Z k _ (by rw [uw,vw,h,Z];rfl)
theorem okAll_mul {z:Str}{n:Int}(h:yY z=true):yY (Txt.mul z n)=true:=by
 unfold Txt.mul;split
 ·rfl
 ·split
  ·exact h
  ·exact JZ _ h _ _ rfl
theorem Q8 {α:Type}{xs:List α}{i:Int}{c:α}(h:atI xs i=some c):c∈xs:=by
 unfold atI at h;obtain⟨j,_,e⟩:=Option.bind_eq_some_iff.mp h;exact uK e
def sp_text:Sp:=fun vs H Q _=>∃p,vs= [.ref p]/\Qa H p/\∀(z:Str) (H':Hp),z.length<=20000->yY z=true->Qa H' p->Kept p H H'->Q (.str z) H'
theorem small {n:Nat}(h:n<=1000):n<=sizeLine:=vm (small1000 h)
theorem fits {n:Nat}(h:n<=16000000):n<=sizeLine:=by rw [uv];omega
theorem Q7 (z y:Str):(z++y:Str).length=z.length+y.length:=by
 show(z.cps++y.cps).size=z.cps.size+y.cps.size;exact Array.size_append
theorem sgn_len:SGN.length=94:=by decide+kernel
theorem sgn_all:SGN.cps.toList.all Qb=true:=by decide+kernel
section
variable {P:Program}{w:World}{K:PySem.W.Frag}{mg:Str->Option Value}{base:Heap}{a:Ad}
theorem Yf (T:Tx K mg a):FnOk P w K mg base CX0 1 a.JS a.JX ["pot","many"] sp_take:=by
 refine T.g_law_take.F.ok jR (by trivial) (fun _ _ _ _ H _ Q E hr h=> ?_)
 obtain⟨p,many,rfl,⟨x,y,U,hx,hy,ac⟩,hm,ad,k⟩:=h;refine⟨_,(@qc _ _ _ _ _ (@qO _ _ _ _ _ _ _ _ (@qo _ _ _ _ _ _ _ _ op_gt (@qL _ _ _ _ _ _ _ qH (pv 0) qg (fun _ _=>rfl)) qg (qx _)) (@qc _ _ _ _ _ (@qt _ _ (2) _ _ _ _ jR.nd rfl (Or.inl rfl) (@qB _ _ _ _ _ _ _ _ y9 (@qL _ _ _ _ _ _ _ qH (pv 0) qg (fun _ _=>rfl)) (pv 1)) (by trivial) (by trivial)) (@qc _ _ _ _ _ (@ps_asg _ _ _ _ _ _ (@qB _ _ _ _ _ _ _ _ xL (@qL _ _ _ _ _ _ _ qH (pv 0) qg (fun _ _=>rfl)) (pv 1)) (@pg_sub _ _ _ _ _ _ _ (pv 0) qg set_list (by trivial)) (by trivial) (by trivial) (by trivial)) (@qf _ _ _ (@qr _ _ _ _ (pv 2))))) qw) (@qc _ _ _ _ _ (@ps_asg _ _ _ _ _ _ (@qB _ _ _ _ _ _ _ _ y9 (@qB _ _ _ _ _ _ _ _ QV (@qB _ _ _ _ _ _ _ _ op_mul (@qL _ _ _ _ _ _ _ qH (pv 0) qg (fun _ _=>rfl)) (@qL _ _ _ _ _ _ _ qH (pv 0) qg (fun _ _=>rfl))) qg) qg) (@pg_sub _ _ _ _ _ _ _ (pv 0) qg set_list (by trivial)) (by trivial) (by trivial) (by trivial)) (@qf _ _ _ (@qr _ _ _ _ (@qB _ _ _ _ _ _ _ _ y9 (@qB _ _ _ _ _ _ _ _ xL (@qB _ _ _ _ _ _ _ _ y9 (@qB _ _ _ _ _ _ _ _ op_mul (@qL _ _ _ _ _ _ _ qH (pv 0) qg (fun _ _=>rfl)) qg) qg) qg) (pv 1)))))),?_⟩
 refine⟨_,rfl,p,_,_,_,rfl,rfl,SqL.of U,rfl,_,_,rfl,rfl,_,rfl,?_⟩;refine ite2 (fun c=> ?_) (fun c=> ?_)
 ·refine⟨_,rfl,p,_,_,_,rfl,rfl,SqL.of U,rfl,_,rfl,_,_,rfl,rfl,hm,?_⟩;refine⟨_,rfl,p,_,_,_,rfl,rfl,SqL.of U,rfl,_,rfl,_,_,rfl,rfl,⟨hm,ad⟩,_,rfl,p,_,_,_,rfl,rfl,U,rfl,?_⟩;refine⟨_,rfl,?_⟩;exact k _ _ (Ue _ (by omega)) (U6 _ hm) ⟨x/many,y,qd,Int.ediv_nonneg hx (by omega),hy,ac⟩ (Kept.upd _ _ _)
 ·have aa:CMul y y:= .inl ⟨by omega,by omega⟩
  refine⟨_,rfl,p,_,_,_,rfl,rfl,SqL.of U,rfl,_,rfl,p,_,_,_,rfl,rfl,SqL.of U,rfl,_,_,rfl,rfl,aa,_,_,rfl,rfl,_,_,rfl,rfl,(by show(0:Int)<2147483629;decide),_,rfl,p,_,_,_,rfl,rfl,U,rfl,?_⟩
  have hq:0<=(y*y+104729)%2147483629/\(y*y+104729)%2147483629<2147483629:=⟨Ue _ (by decide),U6 _ (by decide)⟩
  have Z:CMul ((y*y+104729)%2147483629) 48271:= .inr ⟨by decide,by decide⟩
  refine⟨_,rfl,p,_,_,_,rfl,rfl,SqL.of qd,rfl,_,_,rfl,rfl,Z,_,_,rfl,rfl,(by show(0:Int)<2147483647;decide),_,_,rfl,rfl,⟨by decide,by decide⟩,_,rfl,_,_,rfl,rfl,hm,?_⟩
  exact k _ _ (Ue _ (by omega)) (U6 _ hm) ⟨x,(y*y+104729)%2147483629,qd,hx,hq.1,Int.lt_trans hq.2 (by decide)⟩ (Kept.upd _ _ _)
theorem ok_pot (T:Tx K mg a):FnOk P w K mg base CX0 1 a.f_law_pot a.d_law_pot ["cell","salt"] sp_pot:=by
 refine T.g_law_pot.F.ok sc_law_pot (by trivial) (fun _ _ _ _ H _ Q E hr h=> ?_)
 obtain⟨c,t,rfl,Z,h1,k⟩:=h;refine⟨_,(@qc _ _ _ _ _ (@qO _ _ _ _ _ _ _ _ (@qo _ _ _ _ _ _ _ _ op_ge (@qk _ _ _ _ _ _ _ _ _ call_abs (by rfl) T.z_abs boot_abs (@qa _ _ _ _ _ (pv 0) qb (by trivial)) (by trivial) (by trivial) (by trivial) (by trivial)) (@qB _ _ _ _ _ _ _ _ op_pow qg qg) (qx _)) (@qf _ _ _ (@qr _ _ _ _ (@yi _ _ _ _ (@qa _ _ _ _ _ (@qk _ _ _ _ _ _ _ _ _ call_abs (by rfl) T.z_abs boot_abs (@qa _ _ _ _ _ (pv 0) qb (by trivial)) (by trivial) (by trivial) (by trivial) (by trivial)) (@qa _ _ _ _ _ (pv 1) qb (by trivial)) (by trivial))))) qw) (@qf _ _ _ (@qr _ _ _ _ (@yi _ _ _ _ (@qa _ _ _ _ _ qg (@qa _ _ _ _ _ (@qB _ _ _ _ _ _ _ _ y9 (@qB _ _ _ _ _ _ _ _ op_mul (@qB _ _ _ _ _ _ _ _ QV (@qB _ _ _ _ _ _ _ _ QV (@qB _ _ _ _ _ _ _ _ y9 (pv 0) qg) (@qB _ _ _ _ _ _ _ _ op_mul qg (pv 1))) qg) qg) qg) qb (by trivial)) (by trivial)))))),?_⟩
 refine⟨_,rfl,_,rfl,_,_,rfl,rfl,⟨by decide,by decide,by decide⟩,_,_,rfl,rfl,_,rfl,?_⟩
 refine ite2 (fun _=> ?_) (fun _=> ?_)
 ·refine⟨_,rfl,_,rfl,_,rfl,(by show 2<=sizeLine;decide),fun p U=> ?_⟩
  refine k p _ U (qe U _) ⟨_,_,qd,?_,Z,by omega⟩
  split<;>omega
 ·refine⟨_,rfl,_,_,rfl,rfl,(by show(0:Int)<2147483647;decide),_,rfl,_,_,rfl,rfl,(.inl ⟨by decide,by decide⟩),_,_,rfl,rfl,_,_,rfl,rfl,_,_,rfl,rfl,(.inr ⟨by decide,by decide⟩),_,_,rfl,rfl,(by show(0:Int)<2147483647;decide),(by show 2<=sizeLine;decide),fun p U=> ?_⟩
  refine k p _ U (qe U _) ⟨_,_,qd,by decide,Ue _ (by decide),?_⟩
  exact Int.lt_trans (U6 _ (by decide)) (by decide)
theorem ok_signs (T:Tx K mg a):FnOk P w K mg base CX0 1 a.jE a.Ja [] sp_signs:=by
 refine T.g_law_signs.F.ok jh (by trivial) (fun _ _ _ _ H _ Q E U h=> ?_)
 obtain⟨rfl,k⟩:=h;refine⟨_,(@qc _ _ _ _ _ (@qt _ _ (0) _ _ _ _ jh.nd rfl (Or.inl rfl) qG (by trivial) (by trivial)) (@qf _ _ _ (@qr _ _ _ _ (@qB _ _ _ _ _ _ _ _ qR (@qB _ _ _ _ _ _ _ _ qR (@qB _ _ _ _ _ _ _ _ qR (@qB _ _ _ _ _ _ _ _ qR (pv 0) qG) qG) qG) qG)))),?_⟩
 refine⟨_,rfl,_,_,rfl,rfl,by decide+kernel,_,_,rfl,rfl,by decide+kernel,_,_,rfl,rfl,by decide+kernel,_,_,rfl,rfl,by decide+kernel,?_⟩
 exact k
theorem ok_text (T:Tx K mg a):FnOk P w K mg base CX0 2 a.J5 a.JL ["pot"] sp_text:=by
 have Z:=Yf (P:=P) (w:=w) (base:=base) T;have Yg:=ok_signs (P:=P) (w:=w) (base:=base) T;refine T.g_law_text.F.ok Qt (by trivial) (fun _ _ _ _ H _ Q E U h=> ?_)
 obtain⟨p,rfl,P0,k⟩:=h;have hs:=sgn_len;refine⟨_,(@qc _ _ _ _ _ (@qt _ _ (1) _ _ _ _ Qt.nd rfl (Or.inl rfl) (@pe_call0 _ _ _ _ _ _ _ _ _ _ _ _ _ Yg (U.mono (by trivial)) (by rfl) T.g_law_signs.m T.g_law_signs.F.kp T.g_law_signs.b .nil qu (by trivial)) (by trivial) (by trivial)) (@qc _ _ _ _ _ (@qt _ _ (2) _ _ _ _ Qt.nd rfl (Or.inl rfl) qG (by trivial) (by trivial)) (@qc _ _ _ _ _ (@Qo _ _ _ _ _ _ _ _ uF rfl (@Qj _ _ _ _ _ _ (by rfl) T.ym (@qa _ _ _ _ _ (@qj _ _ _ _ _ _ _ _ _ _ _ _ _ _ _ _ Z (U.mono (by trivial)) (by rfl) T.g_law_take.m T.g_law_take.F.kp T.g_law_take.b .nil qu (@qa _ _ _ _ _ (pv 0) (@qa _ _ _ _ _ qg qb (by trivial)) (by trivial)) (by trivial) (by trivial) (by trivial)) qb (by trivial)) (by trivial)) (@qq _ _ (3) _ Qt.nd rfl (Or.inl rfl) (by trivial)) (@qf _ _ _ (@qt _ _ (2) _ _ _ _ Qt.nd rfl (Or.inl rfl) (@qB _ _ _ _ _ _ _ _ qR (pv 2) (@qL _ _ _ _ _ _ _ J4 (pv 1) (@qj _ _ _ _ _ _ _ _ _ _ _ _ _ _ _ _ Z (U.mono (by trivial)) (by rfl) T.g_law_take.m T.g_law_take.F.kp T.g_law_take.b .nil qu (@qa _ _ _ _ _ (pv 0) (@qa _ _ _ _ _ (@qk _ _ _ _ _ _ _ _ _ Qg (by rfl) T.QI uy (@qa _ _ _ _ _ (pv 1) qb (by trivial)) (by trivial) (by trivial) (by trivial) (by trivial)) qb (by trivial)) (by trivial)) (by trivial) (by trivial) (by trivial)) (fun _ _=>rfl))) (by trivial) (by trivial))) (by trivial)) (@qc _ _ _ _ _ (@qO _ _ _ _ _ _ _ _ (@qo _ _ _ _ _ _ _ _ yF (@qj _ _ _ _ _ _ _ _ _ _ _ _ _ _ _ _ Z (U.mono (by trivial)) (by rfl) T.g_law_take.m T.g_law_take.F.kp T.g_law_take.b .nil qu (@qa _ _ _ _ _ (pv 0) (@qa _ _ _ _ _ qg qb (by trivial)) (by trivial)) (by trivial) (by trivial) (by trivial)) qg (qx _)) (@qf _ _ _ (@qt _ _ (2) _ _ _ _ Qt.nd rfl (Or.inl rfl) (@qB _ _ _ _ _ _ _ _ qR (pv 2) (@qB _ _ _ _ _ _ _ _ op_repS qG (@qB _ _ _ _ _ _ _ _ op_sub (@qB _ _ _ _ _ _ _ _ QV qg (@qj _ _ _ _ _ _ _ _ _ _ _ _ _ _ _ _ Z (U.mono (by trivial)) (by rfl) T.g_law_take.m T.g_law_take.F.kp T.g_law_take.b .nil qu (@qa _ _ _ _ _ (pv 0) (@qa _ _ _ _ _ qg qb (by trivial)) (by trivial)) (by trivial) (by trivial) (by trivial))) (@qk _ _ _ _ _ _ _ _ _ Qg (by rfl) T.QI uy (@qa _ _ _ _ _ (pv 2) qb (by trivial)) (by trivial) (by trivial) (by trivial) (by trivial))))) (by trivial) (by trivial))) qw) (@qf _ _ _ (@qr _ _ _ _ (pv 2))))))),?_⟩
 refine⟨rfl,_,rfl,p,5,rfl,P0,by decide,by decide,fun d1 H1 a1 b1 P1 K1=>⟨d1,rfl,by omega,by omega,?_⟩⟩
 refine QT (n:=d1.toNat) (fun i σ H'=>∃(z:Str) (kv:Option V),σ= [some (.ref p),some (.str SGN),some (.str z),kv]/\z.length<=i/\yY z=true/\Qa H' p/\Kept p H H') ⟨_,none,rfl,u8 _,rfl,P1,K1⟩ ?_ ?_
 ·rintro i σ H' hi ⟨z,kv,rfl,hz,hok,P',K'⟩;refine⟨_,rfl,_,rfl,_,rfl,_,rfl,_,rfl,small (by omega),p,_,rfl,P',by omega,by omega,fun d H5 a5 b5 P5 K5=> ?_⟩
  obtain⟨c,hc⟩:=Qw (xs:=SGN.cps.toList) (i:=d) a5 (by simpa [Str.length] using b5)
  refine⟨_,_,c,rfl,rfl,small (by omega),hc,_,_,rfl,rfl,?_,?_⟩
  ·exact small (by show z.length+1<=1000;omega)
  ·exact⟨_,_,rfl,by rw [Q7];show z.length+1<=i+1;omega,okAll_app hok (by show([c].all Qb)=true;rw [vv,List.all_nil,List.all_eq_true.mp sgn_all c (Q8 hc)];rfl),P5,K'.trans K5⟩
 ·rintro σ H' ⟨z,kv,rfl,hz,hok,P',K'⟩;refine⟨_,rfl,p,24,rfl,P',by decide,by decide,fun d H5 a5 b5 P5 K5=>⟨rfl,_,rfl,?_⟩⟩
  refine ite2 (fun _=> ?_) (fun _=> ?_)
  ·refine⟨_,rfl,_,rfl,p,4,rfl,P5,by decide,by decide,fun d7 H7 a7 b7 P7 K7=> ?_⟩
   have hm:MulOk "z" (298+d7-(z.length:Int)):=mulOk_of (by omega) (by omega) (by decide)
   have hl:=mul_len (z:="z") (n:=298+d7-(z.length:Int)) (by decide) (by omega)
   refine⟨_,_,rfl,rfl,_,rfl,z,rfl,small (by omega),_,_,rfl,rfl,_,_,rfl,rfl,hm,_,_,rfl,rfl,fits (by omega),?_⟩
   refine⟨_,rfl,k _ _ ?_ (okAll_app hok (okAll_mul rfl)) P7 ((K'.trans K5).trans K7)⟩;rw [Q7];omega
  ·exact⟨_,rfl,k z _ (by omega) hok P5 (K'.trans K5)⟩
mutual
def lw:D->Bool
 | .str z=>yY z
 | .tup xs=>lwL xs
 |_=>false
def lwL:List D->Bool
 | []=>true
 |x::r=>lw x&&lwL r
end
theorem xi:∀(xs ys:List D),lwL (xs++ys)=(lwL xs&&lwL ys)
 | [],_=>by simp [lwL]
 |x::r,ys=>by simp only [vY,lwL,xi r ys,Bool.and_assoc]
theorem j0 {z:Str}(h:300<z.length):Q2 z=false:=by
 unfold Q2;rw [ua (by omega)]
 rfl
def Y5 (n:Nat):Sp:=fun vs H Q _=>∃(p:Addr) (k:Nat),vs= [.ref p,.int (k:Int)]/\k<n/\Qa H p/\∀(v:V) (d:D) (H':Hp),Is H' d v->lw d=true->dp d<=1+12*k->Qa H' p->Kept p H H'->Q v H'
def mea (d:D):D:= .tup [.bl (good d),.int (sz d:Int),.int (dp d:Int)]
def QM (n:Nat):Sp:=fun vs H Q _=>∃(v:V) (d:D),vs= [v]/\Is H d v/\dp d<n/\∀(u:V) (H':Hp),Same H H'->Is H' (mea d) u->Q u H'
def sp_lis_tree:Sp:=fun vs H Q _=>∃(v:V) (d:D),vs= [v]/\Is H d v/\dp d<=150/\∀H',Same H H'->Q (.bl (isT d)) H'
def comp0:D->D
 | .tup (x::_)=>x
 |d=>d
def comp1:D->D
 | .tup (_::x::_)=>x
 |d=>d
def comp2:D->D
 | .tup (_::_::x::_)=>x
 |d=>d
theorem sgn_ok (c:Nat):inS ⟨#[c]⟩ SGN=Qb c:=by
 rw [jZ];by_cases h:c<128
 ·have U:∀c,c<128->decide (c∈SGN.cps.toList)=Qb c:=by decide+kernel
  exact U c h
 ·have h1:Qb c=false:=by
   unfold Qb;rw [ua (p:=c<=126) (by omega),Uz]
   rfl
  have U:∀x∈SGN.cps.toList,x<128:=by decide+kernel
  rw [h1];exact ua fun m=>h (U c m)
theorem dp_row {d:D}{xs:List D}(h:d∈xs):dp d<dp (.tup xs):=by
 have:=(ji (k:=dpL xs) xs).mp (u8 _) d h;simp only [dp];omega
theorem all_map_good (xs:List D):(xs.map good).all id=goodL xs:=by
 rw [goodL_all,UI]
 rfl
theorem tree_none {f:Addr}{fd:FuncData}{l:Nat}:FnOk P w K mg base CX0 l f fd ["pot","deep"] (Y5 0):=by
 have U:∀vs H Q E,¬Y5 0 vs H Q E:=fun vs H Q E h=>by
  obtain⟨p,k,_,h1,_⟩:=h;omega
 exact⟨fun vs H Q E h=>absurd h (U vs H Q E),fun A outer s H args us vs Q E _ _ _ _ h=>absurd h (U vs H Q E)⟩
theorem ok_tree1 (T:Tx K mg a){n:Nat}(yM:FnOk P w K mg base CX0 (n+2) a.yd a.yf ["pot","deep"] (Y5 n)):FnOk P w K mg base CX0 (n+3) a.yd a.yf ["pot","deep"] (Y5 (n+1)):=by
 have qm:=Yf (P:=P) (w:=w) (base:=base) T;have U:=ok_text (P:=P) (w:=w) (base:=base) T;refine T.g_law_tree.F.ok QR (by trivial) (fun _ _ _ _ H _ Q E hr h=> ?_)
 obtain⟨p,j,rfl,hj,P0,k⟩:=h;refine⟨_,(@qc _ _ _ _ _ (@qt _ _ (2) _ _ _ _ QR.nd rfl (Or.inl rfl) (@qj _ _ _ _ _ _ _ _ _ _ _ _ _ _ _ _ qm (hr.mono (by trivial)) (by rfl) T.g_law_take.m T.g_law_take.F.kp T.g_law_take.b .nil qu (@qa _ _ _ _ _ (pv 0) (@qa _ _ _ _ _ qg qb (by trivial)) (by trivial)) (by trivial) (by trivial) (by trivial)) (by trivial) (by trivial)) (@qc _ _ _ _ _ (@qO _ _ _ _ _ _ _ _ (@xw _ _ _ _ _ _ _ (@qo _ _ _ _ _ _ _ _ yF (pv 1) qg (qx _)) (@jr _ _ _ _ (@qo _ _ _ _ _ _ _ _ op_lt (pv 2) qg (qx _)))).pt (@qf _ _ _ (@qr _ _ _ _ (@qj _ _ _ _ _ _ _ _ _ _ _ _ _ _ _ _ U (hr.mono (by trivial)) (by rfl) T.g_law_text.m T.g_law_text.F.kp T.g_law_text.b .nil qu (@qa _ _ _ _ _ (pv 0) qb (by trivial)) (by trivial) (by trivial) (by trivial)))) qw) (@qc _ _ _ _ _ (@qO _ _ _ _ _ _ _ _ (@qo _ _ _ _ _ _ _ _ yF (pv 2) qg (qx _)) (@qc _ _ _ _ _ (@qt _ _ (3) _ _ _ _ QR.nd rfl (Or.inl rfl) (@qj _ _ _ _ _ _ _ _ _ _ _ _ _ _ _ _ yM (hr.mono (by trivial)) (by rfl) T.g_law_tree.m T.g_law_tree.F.kp T.g_law_tree.b .nil qu (@qa _ _ _ _ _ (pv 0) (@qa _ _ _ _ _ (@qB _ _ _ _ _ _ _ _ op_sub (pv 1) qg) qb (by trivial)) (by trivial)) (by trivial) (by trivial) (by trivial)) (by trivial) (by trivial)) (@qc _ _ _ _ _ (@Qo _ _ _ _ _ _ _ _ uF rfl (@Qj _ _ _ _ _ _ (by rfl) T.ym (@qa _ _ _ _ _ (@qj _ _ _ _ _ _ _ _ _ _ _ _ _ _ _ _ qm (hr.mono (by trivial)) (by rfl) T.g_law_take.m T.g_law_take.F.kp T.g_law_take.b .nil qu (@qa _ _ _ _ _ (pv 0) (@qa _ _ _ _ _ qg qb (by trivial)) (by trivial)) (by trivial) (by trivial) (by trivial)) qb (by trivial)) (by trivial)) (@qq _ _ (4) _ QR.nd rfl (Or.inl rfl) (by trivial)) (@qf _ _ _ (@qt _ _ (3) _ _ _ _ QR.nd rfl (Or.inl rfl) (@qP _ _ _ _ _ (@qa _ _ _ _ _ (pv 3) qb (by trivial))) (by trivial) (by trivial))) (by trivial)) (@qf _ _ _ (@qr _ _ _ _ (pv 3))))) qw) (@qf _ _ _ (@qr _ _ _ _ (@qF _ _ _ _ _ _ _ _ _ qV (by rfl) T.Qr U1 (@qa _ _ _ _ _ (@Yp _ _ (["k","pot","deep"]) (1) ([0,1]) _ _ _ _ _ _ _ _ _ (lcsN (qi yQ) ["pot","deep","kind","tree","k"]) rfl (@Qj _ _ _ _ _ _ (by rfl) T.ym (@qa _ _ _ _ _ (@qj _ _ _ _ _ _ _ _ _ _ _ _ _ _ _ _ qm (hr.mono (by trivial)) (by rfl) T.g_law_take.m T.g_law_take.F.kp T.g_law_take.b .nil qu (@qa _ _ _ _ _ (pv 0) (@qa _ _ _ _ _ qg qb (by trivial)) (by trivial)) (by trivial) (by trivial) (by trivial)) qb (by trivial)) (by trivial)) (fun _ _ _ _ _ _=>(@qq _ _ (0) _ (show List.Nodup (["k","pot","deep"]:List Str) by decide+kernel) rfl (Or.inl rfl) (by trivial))) (fun _ _ _ _ _ _=> @QS _) (fun _ _ _ _ _ _=>(@qj _ _ _ _ _ _ _ _ _ _ _ _ _ _ _ _ yM (hr.mono (by trivial)) (by rfl) T.g_law_tree.m T.g_law_tree.F.kp T.g_law_tree.b .nil qu (@qa _ _ _ _ _ (pv 1) (@qa _ _ _ _ _ (@qB _ _ _ _ _ _ _ _ op_sub (pv 2) qg) qb (by trivial)) (by trivial)) (by trivial) (by trivial) (by trivial))) (by trivial)) qb (by trivial)) (by trivial) (by trivial) (by trivial) (by trivial))))))),?_⟩
 refine⟨_,rfl,p,7,rfl,P0,by decide,by decide,fun kind H1 a1 b1 P1 K1=> ?_⟩
 have Z:∀(hk:True),∃v,[some (V.ref p),some (V.int (j:Int)),some (V.int kind),none,none][0]? =some (some v)/\sp_text ([v]++ []) H1 Q E0:=fun _=>
  ⟨_,rfl,p,rfl,P1,fun z H2 hz hok P2 K2=>k (.str z) (.str z) H2 ⟨rfl,fits (by omega)⟩ (by simpa only [lw] using hok) (by simp only [dp];omega) P2 (K1.trans K2)⟩
 refine⟨_,rfl,rfl,_,rfl,?_⟩;refine ite2 (fun _=>iteT (Z trivial)) (fun c=> ?_);have ak:(j:Int)≠0:=fun z=>c (u9 (by rw [z]))
 obtain⟨i,rfl⟩:∃i,j=i+1:=⟨j-1,by omega⟩
 have ej:((i+1:Nat):Int)-1=(i:Int):=by omega
 refine⟨_,rfl,_,_,rfl,rfl,_,rfl,?_⟩;refine ite2 (fun _=>Z trivial) (fun _=> ?_);refine⟨_,rfl,rfl,_,rfl,?_⟩;refine ite2 (fun _=> ?_) (fun _=> ?_)
 ·
  refine⟨_,rfl,_,rfl,_,_,rfl,rfl,p,i,by rw [<-ej];rfl,by omega,P1,fun v d H2 hv aa hd P2 K2=> ?_⟩
  refine⟨_,rfl,p,13,rfl,P2,by decide,by decide,fun m H3 a3 b3 P3 K3=>⟨m,rfl,by omega,by omega,?_⟩⟩
  have ai:Is H3 d v:=hv.mono (P2.tk P3 K3);refine QT (n:=m.toNat) (fun t σ H'=>∃(u:V) (e:D) (kv:Option V),σ= [some (.ref p),some (.int ((i+1:Nat):Int)),some (.int kind),some u,kv]/\Is H' e u/\lw e=true/\dp e<=1+12*i+t/\Qa H' p/\Kept p H H') ⟨v,d,none,rfl,ai,aa,by omega,P3,(K1.trans K2).trans K3⟩ ?_ ?_
  ·rintro t σ H' ht ⟨u,e,kv,rfl,hu,ac,he,P',K'⟩;refine⟨_,rfl,(by show 1<=sizeLine;decide),fun q hq=> ?_⟩
   refine⟨_,.tup [e],_,rfl,Is.new (IsL.one hu) hq,by simp [lw,lwL,ac],?_,P'.same (qe hq _),K'.trans (qe hq _).kept⟩
   simp only [dp,dpL];omega
  ·rintro σ H' ⟨u,e,kv,rfl,hu,ac,he,P',K'⟩;exact⟨_,rfl,k u e H' hu ac (by omega) P' K'⟩
 ·
  refine⟨_,rfl,p,4,rfl,P1,by decide,by decide,fun m H2 a2 b2 P2 K2=>⟨m,rfl,by omega,by omega,fun L hL=> ?_⟩⟩
  have ag:p≠L:=P2.free hL;have PL:Qa (upd H2 L (.lst [])) p:=P2.same (qe hL _);refine⟨m.toNat,fun t σ ys H'=>(∃x,σ=x:: [some (.ref p),some (.int ((i+1:Nat):Int))])/\(∃ds:List D,IsL H' ds ys/\ds.length=t/\lwL ds=true/\dpL ds<=1+12*i)/\Qa H' p/\Kept p H2 H',fits (by omega),⟨⟨none,rfl⟩,⟨[],rfl,rfl,rfl,by simp [dpL]⟩,PL,(qe hL _).kept⟩,?_,?_⟩
  ·rintro t σ ys H' ht ⟨⟨x,rfl⟩,⟨ds,ad,hl,ae,aj⟩,P',K'⟩ af al;refine⟨ht,?_⟩;rintro x' am ⟨rfl,rfl⟩;dsimp only [QH,tYes,List.set];rw [if_pos rfl];refine⟨_,rfl,_,rfl,_,_,rfl,rfl,p,i,by rw [<-ej];rfl,by omega,P',fun v d H4 hv aa hd P4 K4=> ?_⟩
   have ah:H4 L=some (.lst ys):=K4 L _ af (Uu ag);have t4:=P'.tk P4 K4;have t5:Tk H4 (upd H4 L (.lst (ys++ [v]))):=Tk.updL ah;refine⟨ah,⟨_,rfl⟩,⟨ds++ [d],((ad.mono t4).mono t5).append (IsL.one (hv.mono t5)),by simp [hl],by rw [xi,ae];simp [lwL,aa],?_⟩,?_,?_⟩
   ·rw [JN];simp only [dpL];omega
   ·obtain⟨x1,y1,e1,r1⟩:=P4;exact⟨x1,y1,by rw [ql ag];exact e1,r1⟩
   ·intro b o e hb;rw [ql (qh e hL)];exact K4 b o (K' b o e hb) hb
  ·rintro σ ys H' ⟨_,⟨ds,ad,hl,ae,aj⟩,P',K'⟩ af;refine⟨u8 _,L,ys,rfl,.inl ⟨SqL.of af,fun t ht=> ?_⟩⟩;refine k (.ref t) (.tup ds) _ (Is.new ad ht) (by simpa only [lw] using ae) ?_ (P'.same (qe ht _)) ((K1.trans K2).trans (K'.trans (qe ht _).kept))
   simp only [dp];omega
theorem ok_tree (T:Tx K mg a):∀n:Nat,FnOk P w K mg base CX0 (n+2) a.yd a.yf ["pot","deep"] (Y5 n)
 |0=>tree_none
 |n+1=>ok_tree1 T (ok_tree T n)
theorem measure_none {f:Addr}{fd:FuncData}{l:Nat}:FnOk P w K mg base CX0 l f fd ["value"] (QM 0):=by
 have U:∀vs H Q E,¬QM 0 vs H Q E:=fun vs H Q E h=>by
  obtain⟨v,d,_,_,h1,_⟩:=h;omega
 exact⟨fun vs H Q E h=>absurd h (U vs H Q E),fun A outer s H args us vs Q E _ _ _ _ h=>absurd h (U vs H Q E)⟩
theorem ok_measure1 (T:Tx K mg a){n:Nat}(yp:FnOk P w K mg base CX0 (n+1) a.Qi a.Qk ["value"] (QM n)):FnOk P w K mg base CX0 (n+2) a.Qi a.Qk ["value"] (QM (n+1)):=by
 have Yg:=ok_signs (P:=P) (w:=w) (base:=base) T;refine T.g_law_measure.F.ok Qu (by trivial) (fun _ _ _ _ H vs Q E hr h=> ?_)
 obtain⟨v,d,rfl,hv,hd,k⟩:=h;refine⟨_,(@qc _ _ _ _ _ (@qO _ _ _ _ _ _ _ _ (@Q4 _ _ _ (@qk _ _ _ _ _ _ _ _ _ (@Qd _ _ rfl) (by rfl) T.q9 Uf (@qa _ _ _ _ _ (pv 0) (@qa _ _ _ _ _ (@Yq _ _ (.ty "str") _ _ (by rfl) T.z_str boot_str rfl (by trivial) (by trivial)) qb (by trivial)) (by trivial)) (by trivial) (by trivial) (by trivial) (by trivial)) (by trivial)) (@qc _ _ _ _ _ (@qt _ _ (1) _ _ _ _ Qu.nd rfl (Or.inr rfl) (@pe_call0 _ _ _ _ _ _ _ _ _ _ _ _ _ Yg (hr.mono (by trivial)) (by rfl) T.g_law_signs.m T.g_law_signs.F.kp T.g_law_signs.b .nil qu (by trivial)) (by trivial) (by trivial)) (@qf _ _ _ (@qr _ _ _ _ (@qP _ _ _ _ _ (@qa _ _ _ _ _ (@J9 _ _ _ _ _ _ _ (@yq _ _ _ _ _ _ _ _ op_le (@qk _ _ _ _ _ _ _ _ _ yL (by rfl) T.QI uy (@qa _ _ _ _ _ (pv 0) qb (by trivial)) (by trivial) (by trivial) (by trivial) (by trivial)) qg (qx _)) (@pe_one _ _ _ _ _ (@qk _ _ _ _ _ _ _ _ _ (@Jq _ rfl) (by rfl) T.z_all boot_all (@qa _ _ _ _ _ (@Yp _ _ (["sign","signs"]) (1) ([1]) _ _ _ _ _ _ _ _ _ (lcsN (qi QL) ["value","signs","parts","good"]) rfl (@pi_str _ _ _ _ (pv 0)) (fun _ _ _ _ _ _=>(@qq _ _ (0) _ (show List.Nodup (["sign","signs"]:List Str) by decide+kernel) rfl (Or.inl rfl) (by trivial))) (fun _ _ _ _ _ _=> @QS _) (fun _ _ _ _ _ _=>(@yq _ _ _ _ _ _ _ _ Jt (pv 0) (pv 1) (by with_unfolding_all rfl))) (by trivial)) qb (by trivial)) (by trivial) (by trivial) (by trivial) (by trivial)))) (@qa _ _ _ _ _ (@qB _ _ _ _ _ _ _ _ QV (@qk _ _ _ _ _ _ _ _ _ yL (by rfl) T.QI uy (@qa _ _ _ _ _ (pv 0) qb (by trivial)) (by trivial) (by trivial) (by trivial) (by trivial)) qg) (@qa _ _ _ _ _ qg qb (by trivial)) (by trivial)) (by trivial)))))) qw) (@qc _ _ _ _ _ (@qO _ _ _ _ _ _ _ _ (@yH _ _ _ _ (@Q4 _ _ _ (@qk _ _ _ _ _ _ _ _ _ (@Qd _ _ rfl) (by rfl) T.q9 Uf (@qa _ _ _ _ _ (pv 0) (@qa _ _ _ _ _ (@Yq _ _ (.ty "tuple") _ _ (by rfl) T.Qr U1 rfl (by trivial) (by trivial)) qb (by trivial)) (by trivial)) (by trivial) (by trivial) (by trivial) (by trivial)) (by trivial))) (@qf _ _ _ (@qr _ _ _ _ (@qP _ _ _ _ _ (@qa _ _ _ _ _ Q9 (@qa _ _ _ _ _ qg (@qa _ _ _ _ _ qg qb (by trivial)) (by trivial)) (by trivial))))) qw) (@qc _ _ _ _ _ (@xD _ _ (["part"]) (1) ([]) (2) _ _ _ _ _ _ _ _ _ _ _ _ Qu.nd rfl (Or.inl rfl) (lcs0) rfl (@Yd _ _ _ _ (pv 0)) (fun _ _ _ _ _ _=>(@qq _ _ (0) _ (show List.Nodup (["part"]:List Str) by decide+kernel) rfl (Or.inl rfl) (by trivial))) (fun _ _ _ _ _ _=> @QS _) (fun _ _ _ _ _ _=>(@qj _ _ _ _ _ _ _ _ _ _ _ _ _ _ _ _ yp (hr.mono (by trivial)) (by rfl) T.g_law_measure.m T.g_law_measure.F.kp T.g_law_measure.b .nil qu (@qa _ _ _ _ _ (pv 0) qb (by trivial)) (by trivial) (by trivial) (by trivial))) (by trivial) (by trivial) (by trivial)) (@qc _ _ _ _ _ (@qt _ _ (3) _ _ _ _ Qu.nd rfl (Or.inl rfl) (@J9 _ _ _ _ _ _ _ (@yq _ _ _ _ _ _ _ _ op_le (@qk _ _ _ _ _ _ _ _ _ yL (by rfl) T.QI uy (@qa _ _ _ _ _ (pv 0) qb (by trivial)) (by trivial) (by trivial) (by trivial) (by trivial)) qg (qx _)) (@pe_one _ _ _ _ _ (@qk _ _ _ _ _ _ _ _ _ (@Jq _ rfl) (by rfl) T.z_all boot_all (@qa _ _ _ _ _ (@Yp _ _ (["part"]) (1) ([]) _ _ _ _ _ _ _ _ _ (lcs0) rfl (@QD _ _ _ _ (pv 2)) (fun _ _ _ _ _ _=>(@qq _ _ (0) _ (show List.Nodup (["part"]:List Str) by decide+kernel) rfl (Or.inl rfl) (by trivial))) (fun _ _ _ _ _ _=> @QS _) (fun _ _ _ _ _ _=>(@qL _ _ _ _ _ _ _ (@YW _ (K) rfl) (pv 0) qg (fun _ _=>rfl))) (by trivial)) qb (by trivial)) (by trivial) (by trivial) (by trivial) (by trivial)))) (by trivial) (by trivial)) (@qf _ _ _ (@qr _ _ _ _ (@qP _ _ _ _ _ (@qa _ _ _ _ _ (pv 3) (@qa _ _ _ _ _ (@qB _ _ _ _ _ _ _ _ QV qg (@qk _ _ _ _ _ _ _ _ _ (@call_sumL _ rfl) (by rfl) T.z_sum boot_sum (@qa _ _ _ _ _ (@Yp _ _ (["part"]) (1) ([]) _ _ _ _ _ _ _ _ _ (lcs0) rfl (@QD _ _ _ _ (pv 2)) (fun _ _ _ _ _ _=>(@qq _ _ (0) _ (show List.Nodup (["part"]:List Str) by decide+kernel) rfl (Or.inl rfl) (by trivial))) (fun _ _ _ _ _ _=> @QS _) (fun _ _ _ _ _ _=>(@qL _ _ _ _ _ _ _ (@YW _ (K) rfl) (pv 0) qg (fun _ _=>rfl))) (by trivial)) qb (by trivial)) (by trivial) (by trivial) (by trivial) (by trivial))) (@qa _ _ _ _ _ (@qB _ _ _ _ _ _ _ _ QV qg (@pe_maxD _ _ _ _ _ _ _ _ rfl (by rfl) T.z_max (@Yp _ _ (["part"]) (1) ([]) _ _ _ _ _ _ _ _ _ (lcs0) rfl (@QD _ _ _ _ (pv 2)) (fun _ _ _ _ _ _=>(@qq _ _ (0) _ (show List.Nodup (["part"]:List Str) by decide+kernel) rfl (Or.inl rfl) (by trivial))) (fun _ _ _ _ _ _=> @QS _) (fun _ _ _ _ _ _=>(@qL _ _ _ _ _ _ _ (@YW _ (K) rfl) (pv 0) qg (fun _ _=>rfl))) (by trivial)) qg (by trivial))) qb (by trivial)) (by trivial)) (by trivial))))))))),?_⟩
 refine⟨_,rfl,v,"str",tyD d,isStr d,rfl,hv.ty,kit_str d,_,rfl,?_⟩;have other:isStr d=false->jU d=false->good d=false/\sz d=0/\dp d=0:=by
  intro h1 h2;cases d<;>simp_all [isStr,jU,good,sz,dp]
 have fin:∀(p:Addr) (H':Hp) (g:Bool) (m n:Int),Same H H'->H' p=none->g=good d->m=(sz d:Int)->n=(dp d:Int)->Q (.ref p) (upd H' p (.tup [.bl g,.int m,.int n])):=fun p H' g m n sm hp e1 e2 e3=>by
  subst e1 e2 e3;exact k _ _ (sm.trans (qe hp _)) (Is.new (ds:= [.bl (good d),.int (sz d:Int),.int (dp d:Int)]) ⟨_,_,rfl,rfl,_,_,rfl,rfl,_,_,rfl,rfl,rfl⟩ hp)
 cases hs:isStr d with
 |true=>
  refine iteT ?_;cases d with
  |str z=>
   obtain⟨rfl,hz⟩:=hv;refine⟨rfl,_,rfl,_,z.length,rfl,⟨hz,rfl⟩,_,_,rfl,rfl,_,rfl,?_⟩;have rest:∀(b:Bool) (H':Hp),Same H H'->b=Q2 z->∃v,[some (V.str z),some (V.str SGN),none,none][0]? =some (some v)/\∃x n,[v]= [x]/\LenV K x H' n/\∃i j,V.int (n:Int)=V.int i/\V.int 1=V.int j/\ [V.bl b,V.int (i+j),V.int 1].length<=sizeLine/\∀p,H' p=none->Q (.ref p) (upd H' p (.tup [V.bl b,V.int (i+j),V.int 1])):=fun b H' sm e=>
    ⟨_,rfl,_,z.length,rfl,⟨hz,rfl⟩,_,_,rfl,rfl,(by show 3<=sizeLine;decide),fun p hp=>fin p H' b _ _ sm hp (by rw [e];simp only [good]) (by simp only [sz];omega) (by simp only [dp];rfl)⟩
   refine ite2 (fun c=> ?_) (fun c=> ?_)
   ·have c':(z.length:Int)<=300:=ur c;refine⟨_,rfl,z,rfl,fun A0 ac=> ?_⟩;refine lc_str (tl:= [some (.str SGN)]) (fun c=> .bl (inS ⟨#[c]⟩ SGN)) hz ac (fun i c H' R hc sm r=>⟨_,rfl,_,rfl,_,_,rfl,rfl,r⟩) fun H' sm hl=> ?_;refine⟨A0,z.cps.toList.map fun c=>inS ⟨#[c]⟩ SGN,rfl,SqL.of (by rw [hl,uC];rfl),?_⟩
    refine rest _ H' sm ?_;unfold Q2;rw [u9 (by omega),UQ,UI]
    congr 1
    funext c
    exact sgn_ok c
   ·have c':¬(z.length:Int)<=300:=fun q=>c (u9 q);exact rest false H (Same.refl _) (by rw [j0 (by omega)])
  |_=>simp [isStr] at hs
 |false=>
  refine iteF ?_;refine⟨_,rfl,v,"tuple",tyD d,jU d,rfl,hv.ty,kit_tup d,_,rfl,?_⟩;cases ht:jU d with
  |false=>
   obtain⟨o1,o2,o3⟩:=other hs ht;refine iteT ⟨(by show 3<=sizeLine;decide),fun p hp=>fin p H false 0 0 (Same.refl _) hp o1.symm (by rw [o2];rfl) (by rw [o3];rfl)⟩
  |true=>
   refine iteF ?_;cases d with
   |tup xs=>
    obtain⟨a0,vs,rfl,ad,ak⟩:=hv;have lv:=ak.length;have e1:dp (.tup xs)=1+dpL xs:=by simp only [dp]
    have e2:sz (.tup xs)=1+szL xs:=by simp only [sz]
    have e3:good (.tup xs)=(decide (xs.length<=40)&&goodL xs):=by simp only [good]
    refine⟨_,rfl,a0,vs,rfl,SqT.of ad,fun ap A0 ac=> ?_⟩;have al:xs.length<=sizeLine:=by omega
    refine lc_tupS (tl:= []) mea ad ak al ac (fun d0 x0 H3 R U s3 i3 r=> ?_) fun H1 ys s1 l1 i1=> ?_
    ·refine⟨_,rfl,x0,d0,rfl,i3,?_,fun u H4 s4 h4=>r u H4 s4 h4⟩;have:=dp_row U;omega
    have aa:(xs.map mea).length<=sizeLine:=by rw [u1];exact al
    have Z:∀(f:D->D) (i:Int) (hf:∀d,atI [D.bl (good d),D.int (sz d:Int),D.int (dp d:Int)] i=some (f (mea d))) (H3:Hp) (R:VK) (d0:D) (x0:V),d0∈xs.map mea->Is H3 d0 x0->(∀y H',Same H3 H'->Is H' (f d0) y->R y H')->rIxT K x0 (.int i) H3 R:=fun f i hf H3 R d0 x0 hm hx r=>by
     obtain⟨d1,_,rfl⟩:=List.mem_map.mp hm;exact ix_is (i:=i) hx (hf d1) fun y hy=>r y H3 (Same.refl _) hy
    refine⟨_,rfl,_,vs.length,rfl,.inr ⟨vs,SqT.of (s1 _ _ ad),rfl⟩,_,_,rfl,rfl,_,rfl,?_⟩;refine ite2 (fun c=> ?_) (fun c=> ?_)
    ·have c':(vs.length:Int)<=40:=ur c;refine⟨_,rfl,A0,rfl,⟨_,SqL.of l1⟩,fun A1 am=> ?_⟩;refine Jb (tl:= []) comp0 l1 i1 aa am (fun d0 x0 H3 R U s3 i3 r=>⟨_,rfl,Z comp0 0 (fun _=>rfl) H3 R d0 x0 U i3 r⟩) fun H2 ao s2 l2 i2=> ?_;have ey:ao=(xs.map good).map V.bl:=IsL.bls (by rw [uC] at i2⊢;exact i2)
     refine⟨A1,xs.map good,rfl,SqL.of (by rw [l2,ey]),?_⟩
     have hb:(xs.map good).all id=good (.tup xs):=by rw [e3,all_map_good,u9 (by omega),UQ]
     refine⟨_,rfl,_,rfl,A0,rfl,⟨_,SqL.of (s2 _ _ l1)⟩,fun A2 ae=> ?_⟩;refine Jb (tl:= []) comp1 (s2 _ _ l1) (i1.mono s2.tk) aa ae (fun d0 x0 H3 R U s3 i3 r=>⟨_,rfl,Z comp1 1 (fun _=>rfl) H3 R d0 x0 U i3 r⟩) fun H5 af s5 l5 i5=> ?_;have ag:af=(xs.map fun d=>(sz d:Int)).map V.int:=IsL.ints (by rw [uC] at i5⊢;exact i5)
     refine⟨A2,xs.map fun d=>(sz d:Int),rfl,SqL.of (by rw [l5,ag]),_,_,rfl,rfl,?_⟩
     refine⟨_,rfl,A0,rfl,⟨_,SqL.of (s5 _ _ (s2 _ _ l1))⟩,fun A3 ah=> ?_⟩;refine Jb (tl:= []) comp2 (s5 _ _ (s2 _ _ l1)) (i1.mono (s2.trans s5).tk) aa ah (fun d0 x0 H3 R U s3 i3 r=>⟨_,rfl,Z comp2 2 (fun _=>rfl) H3 R d0 x0 U i3 r⟩) fun H6 ai s6 l6 i6=> ?_;have aj:ai=(xs.map fun d=>(dp d:Int)).map V.int:=IsL.ints (by rw [uC] at i6⊢;exact i6)
     refine⟨A3,xs.map fun d=>(dp d:Int),0,rfl,rfl,SqL.of (by rw [l6,aj]),_,_,rfl,rfl,(by show 3<=sizeLine;decide),fun p hp=> ?_⟩
     exact fin p H6 _ _ _ (s1.trans (s2.trans (s5.trans s6))) hp hb (by rw [sum_sz,e2];omega) (by rw [maxOr_dp,e1];omega)
    ·have c':¬(vs.length:Int)<=40:=fun q=>c (u9 q);have hb:false=good (.tup xs):=by rw [e3,ua (by omega),Bool.false_and]
     have s2:Same H1 H1:=Same.refl _;refine⟨_,rfl,_,rfl,A0,rfl,⟨_,SqL.of (s2 _ _ l1)⟩,fun A2 ae=> ?_⟩;refine Jb (tl:= []) comp1 (s2 _ _ l1) (i1.mono s2.tk) aa ae (fun d0 x0 H3 R U s3 i3 r=>⟨_,rfl,Z comp1 1 (fun _=>rfl) H3 R d0 x0 U i3 r⟩) fun H5 af s5 l5 i5=> ?_;have ag:af=(xs.map fun d=>(sz d:Int)).map V.int:=IsL.ints (by rw [uC] at i5⊢;exact i5)
     refine⟨A2,xs.map fun d=>(sz d:Int),rfl,SqL.of (by rw [l5,ag]),_,_,rfl,rfl,?_⟩
     refine⟨_,rfl,A0,rfl,⟨_,SqL.of (s5 _ _ (s2 _ _ l1))⟩,fun A3 ah=> ?_⟩;refine Jb (tl:= []) comp2 (s5 _ _ (s2 _ _ l1)) (i1.mono (s2.trans s5).tk) aa ah (fun d0 x0 H3 R U s3 i3 r=>⟨_,rfl,Z comp2 2 (fun _=>rfl) H3 R d0 x0 U i3 r⟩) fun H6 ai s6 l6 i6=> ?_;have aj:ai=(xs.map fun d=>(dp d:Int)).map V.int:=IsL.ints (by rw [uC] at i6⊢;exact i6)
     refine⟨A3,xs.map fun d=>(dp d:Int),0,rfl,rfl,SqL.of (by rw [l6,aj]),_,_,rfl,rfl,(by show 3<=sizeLine;decide),fun p hp=> ?_⟩
     exact fin p H6 _ _ _ (s1.trans (s2.trans (s5.trans s6))) hp hb (by rw [sum_sz,e2];omega) (by rw [maxOr_dp,e1];omega)
   |_=>simp [jU] at ht
theorem JV (T:Tx K mg a):∀n:Nat,FnOk P w K mg base CX0 (n+1) a.Qi a.Qk ["value"] (QM n)
 |0=>measure_none
 |n+1=>ok_measure1 T (JV T n)
theorem jM (T:Tx K mg a):FnOk P w K mg base CX0 153 a.Yx a.Yu ["value"] sp_lis_tree:=by
 have Z:FnOk P w K mg base CX0 152 a.Qi a.Qk ["value"] (QM 151):=JV T 151;refine T.g_law_is_tree.F.ok Qv (by trivial) (fun _ _ _ _ H _ Q E hr h=> ?_)
 obtain⟨v,d,rfl,hv,hd,k⟩:=h;refine⟨_,(@qc _ _ _ _ _ (@ps_asg _ _ _ _ _ _ (@qj _ _ _ _ _ _ _ _ _ _ _ _ _ _ _ _ Z (hr.mono (by trivial)) (by rfl) T.g_law_measure.m T.g_law_measure.F.kp T.g_law_measure.b .nil qu (@qa _ _ _ _ _ (pv 0) qb (by trivial)) (by trivial) (by trivial) (by trivial)) (@pg_tup _ _ _ _ _ _ rfl (QJ (@qq _ _ (1) _ Qv.nd rfl (Or.inl rfl) (by trivial)) (QJ (@qq _ _ (2) _ Qv.nd rfl (Or.inl rfl) (by trivial)) (QJ (@qq _ _ (3) _ Qv.nd rfl (Or.inl rfl) (by trivial)) xJ))) (by trivial) (by trivial)) (by trivial) (by trivial) (by trivial)) (@qf _ _ _ (@qr _ _ _ _ (@J9 _ _ _ _ _ _ _ (pv 1) (@J9 _ _ _ _ _ _ _ (@yq _ _ _ _ _ _ _ _ op_le (pv 2) qg (qx _)) (@pe_one _ _ _ _ _ (@yq _ _ _ _ _ _ _ _ op_le (pv 3) qg (qx _)))))))),?_⟩
 refine⟨_,rfl,v,d,rfl,hv,by omega,fun u H1 s1 hu=> ?_⟩
 obtain⟨p,us,rfl,hp,x1,r1,rfl,e1,x2,r2,rfl,e2,x3,r3,rfl,e3,e4⟩:=hu;cases(show x1=_ from e1)
 cases(show x2=_ from e2)
 cases(show x3=_ from e3)
 cases(show r3= [] from e4)
 refine⟨p,_,rfl,SqT.of hp,rfl,_,_,rfl,_,_,rfl,_,_,rfl,rfl,?_⟩;refine⟨_,rfl,_,rfl,?_⟩;have q:=k H1 s1;unfold isT at q;cases U:good d with
 |false=>
  rw [U] at q;exact iteF q
 |true=>
  rw [U] at q;refine iteT ⟨_,rfl,_,_,rfl,rfl,_,rfl,?_⟩;refine ite2 (fun c=>⟨_,rfl,_,_,rfl,rfl,?_⟩) (fun c=> ?_)
  ·have c':(sz d:Int)<=600:=ur c;have e:decide ((dp d:Int)<=12)=decide (dp d<=12):=by rw [vZ];omega
   rw [u9 (p:=sz d<=600) (by omega)] at q
   show Q (.bl (decide ((dp d:Int)<=12))) H1;rw [e];exact q
  ·have c':¬(sz d:Int)<=600:=fun z=>c (u9 z);rw [ua (p:=sz d<=600) (by omega)] at q
   exact q
theorem lwL_mem:∀{xs:List D}{x:D},lwL xs=true->x∈xs->lw x=true
 | [],_,_,h=>nomatch h
 |y::r,x,h,hx=>by
  have h':lw y=true/\lwL r=true:=by simpa [lwL] using h
  rcases List.mem_cons.mp hx with rfl|hx
  ·exact h'.1
  ·exact lwL_mem h'.2 hx
theorem YX (z:Str):z.length=z.cps.toList.length:=by show z.cps.size=_;simp
theorem isT_short {z:Str}(h:yY z=true)(U:z.length<=300):isT (.str z)=true:=by
 have Z:Q2 z=true:=by
  unfold Q2;rw [u9 U,UQ];exact h
 have e1:sz (.str z)<=600:=by simp only [sz];omega
 have e2:dp (.str z)<=12:=by simp only [dp];omega
 have e3:good (.str z)=true:=by simp only [good];exact Z
 unfold isT;rw [e3,u9 e1,u9 e2]
 rfl
theorem isT_nil:isT (.tup [])=true:=by decide+kernel
theorem isT_dp {d:D}(h:isT d=true):dp d<=12:=by
 unfold isT at h;simp only [uO,uZ] at h;exact h.2
def mz (d:D):Nat:=2*dp d+if isT d=true then 0 else 1
def sp_good:Sp:=fun vs H Q _=>∃p,vs= [.ref p]/\Qa H p/\∀(v:V) (d:D) (H':Hp),Is H' d v->lw d=true->isT d=true->Qa H' p->Kept p H H'->Q v H'
theorem ok_good (T:Tx K mg a):FnOk P w K mg base CX0 154 a.yD a.yE ["pot"] sp_good:=by
 have qm:=Yf (P:=P) (w:=w) (base:=base) T;have yM:FnOk P w K mg base CX0 6 a.yd a.yf ["pot","deep"] (Y5 4):=ok_tree T 4;have yw:=jM (P:=P) (w:=w) (base:=base) T;refine T.g_law_good_tree.F.ok QG (by trivial) (fun _ _ _ _ H vs Q E hr h=> ?_)
 obtain⟨p,rfl,P0,k⟩:=h;have hs:=uv;refine⟨_,(@qc _ _ _ _ _ (@qt _ _ (1) _ _ _ _ QG.nd rfl (Or.inl rfl) (@qj _ _ _ _ _ _ _ _ _ _ _ _ _ _ _ _ yM (hr.mono (by trivial)) (by rfl) T.g_law_tree.m T.g_law_tree.F.kp T.g_law_tree.b .nil qu (@qa _ _ _ _ _ (pv 0) (@qa _ _ _ _ _ qg qb (by trivial)) (by trivial)) (by trivial) (by trivial) (by trivial)) (by trivial) (by trivial)) (@qc _ _ _ _ _ (@ps_while _ _ _ _ _ _ uF (@yH _ _ _ _ (@Q4 _ _ _ (@qj _ _ _ _ _ _ _ _ _ _ _ _ _ _ _ _ yw (hr.mono (by trivial)) (by rfl) T.g_law_is_tree.m T.g_law_is_tree.F.kp T.g_law_is_tree.b .nil qu (@qa _ _ _ _ _ (pv 1) qb (by trivial)) (by trivial) (by trivial) (by trivial)) (by trivial))) (@qf _ _ _ (@qt _ _ (1) _ _ _ _ QG.nd rfl (Or.inl rfl) (@qL _ _ _ _ _ _ _ ix_seq (pv 1) (@qj _ _ _ _ _ _ _ _ _ _ _ _ _ _ _ _ qm (hr.mono (by trivial)) (by rfl) T.g_law_take.m T.g_law_take.F.kp T.g_law_take.b .nil qu (@qa _ _ _ _ _ (pv 0) (@qa _ _ _ _ _ (@qk _ _ _ _ _ _ _ _ _ call_lenZ (by rfl) T.QI uy (@qa _ _ _ _ _ (pv 1) qb (by trivial)) (by trivial) (by trivial) (by trivial) (by trivial)) qb (by trivial)) (by trivial)) (by trivial) (by trivial) (by trivial)) (fun _ _=>rfl)) (by trivial) (by trivial)))) (@qf _ _ _ (@qr _ _ _ _ (pv 1))))),?_⟩
 refine⟨_,rfl,p,3,rfl,by omega,P0,fun v d H1 hv U hd P1 K1=> ?_⟩
 refine⟨fun m σ H'=>∃(v:V) (d:D),σ= [some (.ref p),some v]/\Is H' d v/\lw d=true/\dp d<=37/\Qa H' p/\Kept p H H'/\m=mz d,⟨_,v,d,rfl,hv,U,by omega,P1,K1,rfl⟩,?_⟩
 rintro m σ H' ⟨v,d,rfl,hv,U,hd,P',K',rfl⟩;refine⟨_,rfl,v,d,rfl,hv,by omega,fun H2 s2=>⟨_,rfl,?_⟩⟩
 have P2:=P'.same s2;have K2:Kept p H H2:=K'.trans s2.kept;have Z:=hv.mono s2.tk;cases hT:isT d with
 |true=>exact iteF ⟨_,rfl,k v d H2 Z U hT P2 K2⟩
 |false=>
  have em:mz d=2*dp d+1:=by unfold mz;rw [hT];rfl
  refine iteT ⟨fun σ' H'=>∃(v:V) (e:D),σ'= [some (.ref p),some v]/\Is H' e v/\lw e=true/\dp e<=37/\Qa H' p/\Kept p H H'/\mz e<mz d,?_,?_⟩
  ·rintro σ' H3 ⟨v3,e,rfl,h3,l3,d3,P3,K3,lt⟩;exact⟨_,lt,v3,e,rfl,h3,l3,d3,P3,K3,rfl⟩
  ·cases d with
   |str z=>
    obtain⟨rfl,hz⟩:=id Z;have hok:yY z=true:=by simpa only [lw] using U
    have ah:300<z.length:=by
     rcases vc 300 z.length with h|h
     ·exact h
     ·rw [isT_short hok h] at hT;cases hT
    refine⟨_,rfl,_,rfl,_,rfl,.inl ⟨z,rfl,hz,p,_,rfl,P2,by omega,by omega,fun i H3 a3 b3 P3 K3=> ?_⟩⟩
    obtain⟨c,hc⟩:=Qw (xs:=z.cps.toList) (i:=i) a3 (by rw [<-YX];exact b3)
    have ac:Qb c=true:=List.all_eq_true.mp hok c (Q8 hc);have aa:yY ⟨#[c]⟩=true:=by show([c].all Qb)=true;rw [vv,List.all_nil,ac];rfl
    refine .inr (.inr ⟨z,i,c,rfl,rfl,hz,hc,⟨_,.str ⟨#[c]⟩,rfl,⟨rfl,fits (by show 1<=_;omega)⟩,by simpa only [lw] using aa,by simp only [dp];omega,P3,K2.trans K3,?_⟩⟩)
    have e1:mz (.str ⟨#[c]⟩)=2:=by
     unfold mz;rw [isT_short aa (by show 1<=300;omega)]
     simp only [dp]
     rfl
    rw [e1,em];simp only [dp];omega
   |tup xs=>
    obtain⟨a0,vs,rfl,ad,ae⟩:=id Z;have lv:=ae.length;have af:xs≠ []:=by
     rintro rfl;rw [isT_nil] at hT;cases hT
    have ai:0<xs.length:=List.length_pos_iff.mpr af;have ag:lwL xs=true:=by simpa only [lw] using U
    refine⟨_,rfl,_,rfl,_,rfl,.inr ⟨a0,vs,rfl,.inr (SqT.of ad),fun hb=>⟨p,_,rfl,P2,by omega,by omega,fun i H3 a3 b3 P3 K3=> ?_⟩⟩⟩
    obtain⟨e,he⟩:=Qw (xs:=xs) (i:=i) a3 (by omega)
    have me:e∈xs:=Q8 he;have de:=dp_row me;refine .inr (.inl (ix_is (Z.mono (P2.tk P3 K3)) he fun x hx=>⟨x,e,rfl,hx,lwL_mem ag me,by omega,P3,K2.trans K3,?_⟩))
    rw [em];unfold mz;split<;>omega
   |_=>simp [lw] at U
def isTx:D->Bool
 | .str z=>Q2 z
 |_=>false
def sp_is_text:Sp:=fun vs H Q _=>∃v d,vs= [v]/\Is H d v/\Q (.bl (isTx d)) H
def sp_is_tree:Sp:=fun vs H Q _=>∃v d,vs= [v]/\Is H d v/\∀H',Same H H'->Q (.bl (isT d)) H'
def pr (p:D×Nat):D:= .tup [p.1,.int (p.2:Int)]
theorem okText_bad {z:Str}{i c:Nat}(h:z.cps[i]? =some c)(U:Qb c=false):Q2 z=false:=by
 unfold Q2;have hm:c∈z.cps.toList:=by
  have:z.cps.toList[i]? =some c:=by simpa using h
  exact uK this
 have:z.cps.toList.all Qb=false:=by
  rw [Ut];exact⟨c,hm,by rw [U];exact uf⟩
 rw [this,Uz]
theorem ok_is_text (T:Tx K mg a):FnOk P w K mg base CX0 1 a.f_is_text a.d_is_text ["value"] sp_is_text:=by
 refine T.g_is_text.F.ok JQ (by trivial) (fun _ _ _ _ H _ Q E hr h=> ?_)
 obtain⟨v,d,rfl,hv,k⟩:=h;refine⟨_,(@qc _ _ _ _ _ (@qO _ _ _ _ _ _ _ _ (@xw _ _ _ _ _ _ _ (@yH _ _ _ _ (@Q4 _ _ _ (@qk _ _ _ _ _ _ _ _ _ (@Qd _ _ rfl) (by rfl) T.q9 Uf (@qa _ _ _ _ _ (pv 0) (@qa _ _ _ _ _ (@Yq _ _ (.ty "str") _ _ (by rfl) T.z_str boot_str rfl (by trivial) (by trivial)) qb (by trivial)) (by trivial)) (by trivial) (by trivial) (by trivial) (by trivial)) (by trivial))) (@jr _ _ _ _ (@qo _ _ _ _ _ _ _ _ op_gt (@qk _ _ _ _ _ _ _ _ _ Qg (by rfl) T.QI uy (@qa _ _ _ _ _ (pv 0) qb (by trivial)) (by trivial) (by trivial) (by trivial) (by trivial)) (@pe_gI _ _ _ _ (by rfl) T.m_MOST_SIGNS (by trivial)) (qx _)))).pt (@qf _ _ _ (@qr _ _ _ _ Q9)) qw) (@qc _ _ _ _ _ (@Qo _ _ _ _ _ _ _ _ uF rfl (@pi_str _ _ _ _ (pv 0)) (@qq _ _ (1) _ JQ.nd rfl (Or.inl rfl) (by trivial)) (@qf _ _ _ (@qO _ _ _ _ _ _ _ _ (@xw _ _ _ _ _ _ _ (@qo _ _ _ _ _ _ _ _ op_lt_str (pv 1) qG (qx _)) (@xw _ _ _ _ _ _ _ (@qo _ _ _ _ _ _ _ _ op_gt_str (pv 1) qG (qx _)) (@jr _ _ _ _ (@qo _ _ _ _ _ _ _ _ yF (@qk _ _ _ _ _ _ _ _ _ call_ord (by rfl) T.z_ord boot_ord (@qa _ _ _ _ _ (pv 1) qb (by trivial)) (by trivial) (by trivial) (by trivial) (by trivial)) (@pe_gI _ _ _ _ (by rfl) T.m_PERCENT (by trivial)) (qx _))))).pt (@qf _ _ _ (@qr _ _ _ _ Q9)) qw)) (by trivial)) (@qf _ _ _ (@qr _ _ _ _ Q9)))),?_⟩
 refine⟨_,rfl,v,"str",tyD d,isStr d,rfl,hv.ty,kit_str d,_,rfl,?_⟩;cases d with
 |str z=>
  obtain⟨rfl,hz⟩:=hv;refine iteF ?_;refine⟨_,rfl,z,rfl,hz,_,_,rfl,rfl,_,rfl,?_⟩;refine ite2 (fun c=> ?_) (fun c=> ?_)
  ·have c':(300:Int)<(z.length:Int):=ur c;have e:isTx (.str z)=false:=j0 (by omega)
   rw [e] at k;exact k
  ·have c':¬(300:Int)<(z.length:Int):=fun q=>c (u9 q);refine⟨_,rfl,z,rfl,?_⟩;refine for_str (fun i σ H'=>(∃x,σ= [some (.str z),x])/\H'=H/\(z.cps.toList.take i).all Qb=true) ⟨⟨_,rfl⟩,rfl,rfl⟩ ?_ ?_
   ·rintro i c σ H' hc ⟨⟨x,rfl⟩,rfl,U⟩;have Z:Qb c=false->Q (.bl false) H':=fun e=>by
     have e':isTx (.str z)=false:=okText_bad hc e;rw [e'] at k;exact k
    refine⟨_,rfl,_,_,rfl,rfl,_,rfl,?_⟩;rw [show decide ((⟨#[c]⟩:Str).cps.toList<(" ":Str).cps.toList)=decide (c<32) from lt_one c 32]
    refine ite2 (fun c1=> ?_) (fun c1=> ?_)
    ·refine iteT (Z ?_);have:=ur c1;unfold Qb;rw [ua (by omega)]
     rfl
    ·have ac:¬c<32:=fun q=>c1 (u9 q);refine⟨_,rfl,_,_,rfl,rfl,_,rfl,?_⟩;rw [show decide (("~":Str).cps.toList<(⟨#[c]⟩:Str).cps.toList)=decide (126<c) from one_gt c 126]
     refine ite2 (fun c2=> ?_) (fun c2=> ?_)
     ·refine iteT (Z ?_);have:=ur c2;unfold Qb;rw [ua (p:=c<=126) (by omega),Uz]
      rfl
     ·have ad:¬126<c:=fun q=>c2 (u9 q);refine⟨_,rfl,_,rfl,rfl,rfl,_,rfl,?_⟩;refine ite2 (fun c3=> ?_) (fun c3=> ?_)
      ·have aa:c=37:=by
        have:=ur c3;have:=V.int.inj this;exact Int.ofNat.inj this
       exact Z (by subst aa;rfl)
      ·have aa:c≠37:=fun q=>c3 (u9 (by rw [q];rfl))
       refine⟨⟨_,rfl⟩,rfl,?_⟩;rw [ut,show z.cps.toList[i]? =some c by simpa using hc,vw,U]
       show(true&&(Qb c&&true))=true;unfold Qb;rw [u9 (by omega),u9 (p:=c<=126) (by omega),u9 aa]
       rfl
   ·rintro σ H' ⟨⟨x,rfl⟩,rfl,U⟩;have e:isTx (.str z)=true:=by
     show Q2 z=true;unfold Q2;rw [uT (by simp)] at U
     rw [U,u9 (by omega)]
     rfl
    rw [e] at k;exact k
 |_=>exact iteT (iteT k)
theorem map_snoc {α β:Type}(f:α->β)(xs:List α)(x:α):(xs++ [x]).map f=xs.map f++ [f x]:=by simp
theorem last_at {α:Type}(us:List α)(x:α):(us++ [x])[(us++ [x]).length-1]? =some x:=by simp
theorem drop_last {α:Type}(us:List α)(x:α):(us++ [x]).dropLast=us:=by simp
def Wt (v:V)(d:D)(H:Hp)(L:Addr)(m:Nat)(σ:L2.St)(H':Hp):Prop:=
 ∃(n:Nat) (w:List (D×Nat)) (ws:List V) (x3 x4 x5:Option V),σ= [some v,some (.int n),some (.ref L),x3,x4,x5]/\Same H H'/\H' L=some (.lst ws)/\IsL H' (w.map pr) ws/\G w n=isT d/\n<=600/\w.length<=1+40*n/\m=ndL (w.map (·.1))
theorem xg (T:Tx K mg a):FnOk P w K mg base CX0 2 a.f_is_tree a.d_is_tree ["value"] sp_is_tree:=by
 have U:=ok_is_text (P:=P) (w:=w) (base:=base) T;refine T.g_is_tree.F.ok Qf (by trivial) (fun _ _ _ _ H vs Q E hr h=> ?_)
 obtain⟨v,d,rfl,hv,k⟩:=h;refine⟨_,(@qc _ _ _ _ _ (@qt _ _ (1) _ _ _ _ Qf.nd rfl (Or.inl rfl) qg (by trivial) (by trivial)) (@qc _ _ _ _ _ (@qt _ _ (2) _ _ _ _ Qf.nd rfl (Or.inl rfl) (@yi _ _ _ _ (@qa _ _ _ _ _ (@qP _ _ _ _ _ (@qa _ _ _ _ _ (pv 0) (@qa _ _ _ _ _ qg qb (by trivial)) (by trivial))) qb (by trivial))) (by trivial) (by trivial)) (@qc _ _ _ _ _ (@ps_while _ _ _ _ _ _ uF (@pt_truth _ _ _ (pv 2) (fun _=>rfl)) (@qc _ _ _ _ _ (@qt _ _ (3) _ _ _ _ Qf.nd rfl (Or.inl rfl) (@pe_bm0 _ _ _ _ _ _ _ _ _ vQ PySem.F.slot_list_pop PySem.F.type_list_pop mt_pop (pv 2) (by trivial) (by trivial)) (by trivial) (by trivial)) (@qc _ _ _ _ _ (@qt _ _ (4) _ _ _ _ Qf.nd rfl (Or.inl rfl) (@qL _ _ _ _ _ _ _ y7 (pv 3) qg (fun _ _=>rfl)) (by trivial) (by trivial)) (@qc _ _ _ _ _ (@qt _ _ (5) _ _ _ _ Qf.nd rfl (Or.inr rfl) (@qL _ _ _ _ _ _ _ y7 (pv 3) qg (fun _ _=>rfl)) (by trivial) (by trivial)) (@qc _ _ _ _ _ (@qO _ _ _ _ _ _ _ _ (@jV _ _ _ _ _ _ _ (@Q4 _ _ _ (@qk _ _ _ _ _ _ _ _ _ (@Qd _ _ rfl) (by rfl) T.q9 Uf (@qa _ _ _ _ _ (pv 4) (@qa _ _ _ _ _ (@Yq _ _ (.ty "tuple") _ _ (by rfl) T.Qr U1 rfl (by trivial) (by trivial)) qb (by trivial)) (by trivial)) (by trivial) (by trivial) (by trivial) (by trivial)) (by trivial)) (@Yl _ _ _ _ (@qo _ _ _ _ _ _ _ _ op_le (@qk _ _ _ _ _ _ _ _ _ yL (by rfl) T.QI uy (@qa _ _ _ _ _ (pv 4) qb (by trivial)) (by trivial) (by trivial) (by trivial) (by trivial)) (@pe_gI _ _ _ _ (by rfl) T.m_MOST_PARTS (by trivial)) (qx _)))).pt (@qc _ _ _ _ _ (@ps_aug _ _ (1) _ _ _ _ _ _ Qf.nd rfl (Or.inl rfl) qg ip_add (by trivial)) (@qf _ _ _ (@Jy _ _ _ _ (@pe_bm _ _ _ _ _ _ _ _ _ _ _ _ vQ PySem.F.slot_list_extend PySem.F.type_list_extend mt_extend (pv 2) (@qa _ _ _ _ _ (@Yp _ _ (["below","depth"]) (1) ([5]) _ _ _ _ _ _ _ _ _ (lcsN (qi YQ) ["value","size","waiting","pair","part","depth"]) rfl (@Yd _ _ _ _ (pv 4)) (fun _ _ _ _ _ _=>(@qq _ _ (0) _ (show List.Nodup (["below","depth"]:List Str) by decide+kernel) rfl (Or.inl rfl) (by trivial))) (fun _ _ _ _ _ _=> @QS _) (fun _ _ _ _ _ _=>(@qP _ _ _ _ _ (@qa _ _ _ _ _ (pv 0) (@qa _ _ _ _ _ (@qB _ _ _ _ _ _ _ _ QV (pv 1) qg) qb (by trivial)) (by trivial)))) (by trivial)) qb (by trivial)) (by trivial) (by trivial) (by trivial) (by trivial) (by trivial)) (by trivial)))) (@qf _ _ _ (@qO _ _ _ _ _ _ _ _ (@Q4 _ _ _ (@qj _ _ _ _ _ _ _ _ _ _ _ _ _ _ _ _ U (hr.mono (by trivial)) (by rfl) T.g_is_text.m T.g_is_text.F.kp T.g_is_text.b .nil qu (@qa _ _ _ _ _ (pv 4) qb (by trivial)) (by trivial) (by trivial) (by trivial)) (by trivial)) (@qf _ _ _ (@ps_aug _ _ (1) _ _ _ _ _ _ Qf.nd rfl (Or.inl rfl) (@qB _ _ _ _ _ _ _ _ QV qg (@qk _ _ _ _ _ _ _ _ _ yL (by rfl) T.QI uy (@qa _ _ _ _ _ (pv 4) qb (by trivial)) (by trivial) (by trivial) (by trivial) (by trivial))) ip_add (by trivial))) (@qf _ _ _ (@qr _ _ _ _ Q9))))) (@qf _ _ _ (@qO _ _ _ _ _ _ _ _ (@xw _ _ _ _ _ _ _ (@qo _ _ _ _ _ _ _ _ op_gt (pv 5) (@pe_gI _ _ _ _ (by rfl) T.m_MOST_DEPTH (by trivial)) (qx _)) (@jr _ _ _ _ (@qo _ _ _ _ _ _ _ _ op_gt (pv 1) (@pe_gI _ _ _ _ (by rfl) T.m_MOST_SIZE (by trivial)) (qx _)))).pt (@qf _ _ _ (@qr _ _ _ _ Q9)) qw))))))) (@qf _ _ _ (@qr _ _ _ _ Q9))))),?_⟩
 have no:∀{H':Hp}{w:List (D×Nat)}{n:Nat},Same H H'->G w n=isT d->G w n=false->Q (.bl false) H':=fun{H' w n} sm e1 e2=>by
  have q:=k H' sm;rw [<-e1,e2] at q;exact q
 refine⟨_,rfl,(by show 2<=sizeLine;decide),fun t1 h1=>⟨(by show 1<=sizeLine;decide),fun L hL=> ?_⟩⟩
 have s1:Same H (upd H t1 (.tup [v,.int 1])):=qe h1 _;have s2:Same H (upd (upd H t1 (.tup [v,.int 1])) L (.lst [.ref t1])):=s1.trans (qe hL _);have am:H L=none:=s1.free hL;have i1:Is (upd H t1 (.tup [v,.int 1])) (pr (d,1)) (.ref t1):=Is.new (ds:= [d,.int 1]) ⟨v,_,rfl,hv,_,_,rfl,rfl,rfl⟩ h1;refine⟨Wt v d H L,⟨_,0,[(d,1)],[.ref t1],none,none,none,rfl,s2,qd,IsL.one (i1.mono (qe hL _).tk),G_start d,by omega,by simp,rfl⟩,?_⟩
 rintro m σ H' ⟨n,w,ws,x3,x4,x5,rfl,sm,hl,hw,hG,hn,au,rfl⟩;refine⟨_,rfl,!ws.isEmpty,.inl ⟨ws,SqL.of hl,rfl⟩,?_⟩;rcases List.eq_nil_or_concat w with rfl|⟨w',⟨e,j⟩,rfl⟩
 ·cases(show ws= [] from hw)
  refine iteF ?_;have q:=k H' sm;rw [<-hG,G_nil hn] at q;exact q
 ·rw [List.concat_eq_append] at*;rw [map_snoc] at hw;obtain⟨us,x,rfl,hu,hx⟩:=hw.unsnoc;have ne:(!(us++ [x]).isEmpty)=true:=by simp
  rw [ne];refine iteT ⟨fun σ' av=>∃m',m'<ndL ((w'++ [(e,j)]).map (·.1))/\Wt v d H L m' σ' av,fun _ _ h=>h,?_⟩;have hm:ndL ((w'++ [(e,j)]).map (·.1))=ndL (w'.map (·.1))+nd e:=by
   rw [map_snoc,jb];simp [ndL]
  have ax:w'.length<=40*n:=by
   rw [u7,vI] at au;omega
  have lu:=hu.length;rw [u1] at lu;refine⟨_,rfl,.inl ⟨rfl,_,SqL.of hl⟩,L,_,x,rfl,rfl,hl,last_at us x,?_⟩;rw [drop_last];have t2:Tk H' (upd H' L (.lst us)):=Tk.updL hl;have aa:Same H (upd H' L (.lst us)):=fun b o z=>by rw [ql (qh z am)];exact sm b o z
  have ai:Is (upd H' L (.lst us)) (.tup [e,.int (j:Int)]) x:=hx.mono t2;have aj:IsL (upd H' L (.lst us)) (w'.map pr) us:=hu.mono t2;have ac:upd H' L (.lst us) L=some (.lst us):=qd;generalize upd H' L (.lst us)=H2 at t2 aa ai aj ac⊢;clear t2 hl hx hu sm;refine⟨_,rfl,ix_is (i:=0) ai rfl fun y hy=> ?_⟩;refine⟨_,rfl,ix_is (i:=1) ai rfl fun y1 aw=> ?_⟩;cases(show y1= .int (j:Int) from aw)
  have ah:∀(n':Nat) (w2:List (D×Nat)) (ae:List V) (Z:Hp),Same H Z->Z L=some (.lst ae)->IsL Z (w2.map pr) ae->(j<=12->n'<=600->G w2 n'=isT d)->(12<j∨600<n'->isT d=false)->w2.length<=1+40*n'->ndL (w2.map (·.1))<ndL ((w'++ [(e,j)]).map (·.1))->
    ∃af,[some v,some (V.int (n':Int)),some (V.ref L),some x,some y,some (V.int (j:Int))][5]? =some (some af)/\∃i ad,af=V.int i/\V.int 12=V.int ad/\∃k,V.bl (decide (ad<i))=V.bl k/\
     if k=true then if true=true then Q (.bl false) Z else∃m',m'<ndL ((w'++ [(e,j)]).map (·.1))/\Wt v d H L m' [some v,some (V.int (n':Int)),some (V.ref L),some x,some y,some (V.int (j:Int))] Z
     else∃ao,[some v,some (V.int (n':Int)),some (V.ref L),some x,some y,some (V.int (j:Int))][1]? =some (some ao)/\∃i ad,ao=V.int i/\V.int 600=V.int ad/\∃k,V.bl (decide (ad<i))=V.bl k/\
      if k=true then Q (.bl false) Z else∃m',m'<ndL ((w'++ [(e,j)]).map (·.1))/\Wt v d H L m' [some v,some (V.int (n':Int)),some (V.ref L),some x,some y,some (V.int (j:Int))] Z:=by
   intro n' w2 ae Z s3 l3 i3 g3 b3 ap m3;have aq:isT d=false->Q (.bl false) Z:=fun e=>by
    have q:=k Z s3;rw [e] at q;exact q
   refine⟨_,rfl,_,_,rfl,rfl,_,rfl,?_⟩;refine ite2 (fun c=>iteT (aq (b3 (.inl ?_)))) (fun c=>⟨_,rfl,_,_,rfl,rfl,_,rfl,?_⟩)
   ·have:=ur c;omega
   ·have c':¬(12:Int)<(j:Int):=fun q=>c (u9 q);refine ite2 (fun c2=>aq (b3 (.inr ?_))) (fun c2=> ?_)
    ·have:=ur c2;omega
    ·have ay:¬(600:Int)<(n':Int):=fun q=>c2 (u9 q);exact⟨_,m3,n',w2,ae,_,_,_,rfl,s3,l3,i3,g3 (by omega) (by omega),by omega,ap,rfl⟩
  refine⟨_,rfl,y,"tuple",tyD e,jU e,rfl,hy.ty,kit_tup e,_,rfl,?_⟩;cases e with
  |tup xs=>
   refine iteT ?_;obtain⟨a0,vs,rfl,ag,ak⟩:=hy;have lv:=ak.length;refine⟨_,rfl,_,vs.length,rfl,.inr ⟨vs,SqT.of ag,rfl⟩,_,_,rfl,rfl,_,rfl,?_⟩;refine ite2 (fun c=> ?_) (fun c=> ?_)
   ·have c':(vs.length:Int)<=40:=ur c;refine⟨_,rfl,_,_,rfl,rfl,?_⟩;refine⟨_,rfl,.inl ⟨rfl,_,SqL.of ac⟩,_,rfl,a0,vs,rfl,SqT.of ag,fun az A0 al=> ?_⟩;refine lc_tupS (tl:= [some (.int (j:Int))]) (fun d0=> .tup [d0,.int ((j+1:Nat):Int)]) ag ak (fits (by omega)) al (fun d0 x0 Z R _ s3 i3 r=> ?_) fun Z ys s3 l3 i3=> ?_
    ·refine⟨_,rfl,_,rfl,_,_,rfl,rfl,(by show 2<=sizeLine;decide),fun p hp=> ?_⟩
     exact r _ _ (qe hp _) (Is.new (ds:= [d0,.int ((j+1:Nat):Int)]) ⟨x0,_,rfl,i3,_,_,rfl,rfl,rfl⟩ hp)
    ·have ly:=i3.length;rw [u1] at ly;have eA:A0≠L:=fun z=>by rw [z,ac] at al;cases al
     refine⟨L,A0,us,ys,rfl,rfl,s3 _ _ ac,l3,fits (by omega),?_⟩
     have t4:Tk Z (upd Z L (.lst (us++ys))):=Tk.updL (s3 _ _ ac);have em:(w'++xs.map fun d0=>(d0,j+1)).map pr=w'.map pr++xs.map fun d0=> .tup [d0,.int ((j+1:Nat):Int)]:=by
      rw [ud,uC];rfl
     have ef:(w'++xs.map fun d0=>(d0,j+1)).map (·.1)=w'.map (·.1)++xs:=by
      rw [ud,uC]
      congr 1
      exact List.map_id xs
     refine ah (n+1) (w'++xs.map fun d0=>(d0,j+1)) (us++ys) _ (fun b o z=>by rw [ql (qh z am)];exact s3 b o (aa b o z)) qd (by rw [em];exact((aj.mono s3.tk).mono t4).append (i3.mono t4)) (fun h1 h2=> ?_) (fun h=> ?_) ?_ ?_
     ·rw [<-hG,G_tup (by omega) h1]
     ·rw [<-hG];rcases h with h|h
      ·exact G_deep h
      ·exact G_big1 h
     ·rw [u7,u1];omega
     ·rw [ef,hm,jb];simp only [nd];omega
   ·have c':¬(vs.length:Int)<=40:=fun q=>c (u9 q);refine⟨_,rfl,_,.tup xs,rfl,(show Is _ (.tup xs) (.ref a0) from⟨a0,vs,rfl,ag,ak⟩),_,rfl,?_⟩
    refine iteF ?_;refine no aa hG (G_bad ?_);simp only [good];rw [ua (by omega)]
    rfl
  |str z=>
   refine iteF ?_;obtain⟨rfl,hz⟩:=hy;refine⟨_,rfl,_,.str z,rfl,⟨rfl,hz⟩,_,rfl,?_⟩;cases ht:Q2 z with
   |false=>
    have e1:isTx (.str z)=false:=ht;rw [e1];refine iteF ?_;refine no aa hG (G_bad ?_);simp only [good];exact ht
   |true=>
    have e1:isTx (.str z)=true:=ht;rw [e1];refine iteT ?_;refine⟨_,rfl,_,rfl,_,z.length,rfl,⟨hz,rfl⟩,_,_,rfl,rfl,_,_,rfl,rfl,?_⟩;have en:(n:Int)+(1+(z.length:Int))=((n+(1+z.length):Nat):Int):=by omega
    show∃af,[some v,some (V.int ((n:Int)+(1+(z.length:Int)))),some (V.ref L),some x,some (V.str z),some (V.int (j:Int))][5]? =some (some af)/\_;rw [en];refine ah (n+(1+z.length)) w' us _ aa ac aj (fun h1 h2=> ?_) (fun h=> ?_) (by omega) (by rw [hm];simp only [nd];omega)
    ·rw [<-hG,G_str ht h1]
    ·rw [<-hG];rcases h with h|h
     ·exact G_deep h
     ·refine G_big ?_;simp only [sz];omega
  |_=>
   refine iteF ?_;refine⟨_,rfl,_,_,rfl,hy,_,rfl,?_⟩;exact iteF (no aa hG (G_bad rfl))
def LET:Str:="abcdefghijklmnopqrstuvwxyz"
def NSG:Str:="abcdefghijklmnopqrstuvwxyz0123456789./"
def nm (z:Str):Bool:=decide (1<=(z.length:Int))&&decide ((z.length:Int)<=24)&&inS ⟨#[z.cps.getD 0 0]⟩ LET&&(z.cps.toList.map fun c=>inS ⟨#[c]⟩ NSG).all id
def isNm:D->Bool
 | .str z=>nm z
 |_=>false
def sp_name:Sp:=fun vs H Q _=>∃v d,vs= [v]/\Is H d v/\∀H',Same H H'->Q (.bl (isNm d)) H'
theorem first_at {z:Str}(h:1<=z.length):atI z.cps.toList 0=some (z.cps.getD 0 0):=by
 have h':0<z.cps.size:=h;have q:z.cps.toList[0]? =some (z.cps.getD 0 0):=by simp [Array.getD,h']
 exact Xc q
theorem allMap (z:Str):(z.cps.toList.map fun c=>V.bl (inS ⟨#[c]⟩ NSG))=(z.cps.toList.map fun c=>inS ⟨#[c]⟩ NSG).map V.bl:=by
 rw [uC]
 rfl
theorem nm_len {z:Str}(h:¬(1<=(z.length:Int)/\(z.length:Int)<=24)):nm z=false:=by
 unfold nm;by_cases h1:1<=(z.length:Int)
 ·have h2:¬(z.length:Int)<=24:=fun q=>h ⟨h1,q⟩;rw [ua h2];simp
 ·rw [ua h1];simp
theorem nm_first {z:Str}(h:inS ⟨#[z.cps.getD 0 0]⟩ LET=false):nm z=false:=by
 unfold nm;rw [h];simp
theorem nm_rest {z:Str}(h1:1<=(z.length:Int))(h2:(z.length:Int)<=24)(h:inS ⟨#[z.cps.getD 0 0]⟩ LET=true):nm z=(z.cps.toList.map fun c=>inS ⟨#[c]⟩ NSG).all id:=by
 unfold nm;rw [h,u9 h1,u9 h2];simp
theorem ok_name (T:Tx K mg a):FnOk P w K mg base CX0 1 a.f_is_name a.d_is_name ["value"] sp_name:=by
 refine T.g_is_name.F.ok sc_is_name (by trivial) (fun _ _ _ _ H _ Q E hr h=> ?_)
 obtain⟨x,d,rfl,hv,k⟩:=h;refine⟨_,(@qc _ _ _ _ _ (@qO _ _ _ _ _ _ _ _ (@xw _ _ _ _ _ _ _ (@yH _ _ _ _ (@Q4 _ _ _ (@qk _ _ _ _ _ _ _ _ _ (@Qd _ _ rfl) (by rfl) T.q9 Uf (@qa _ _ _ _ _ (pv 0) (@qa _ _ _ _ _ (@Yq _ _ (.ty "str") _ _ (by rfl) T.z_str boot_str rfl (by trivial) (by trivial)) qb (by trivial)) (by trivial)) (by trivial) (by trivial) (by trivial) (by trivial)) (by trivial))) (@jr _ _ _ _ (@yH _ _ _ _ (@pt_chain _ _ _ _ _ _ _ _ _ _ _ _ op_le op_le qg (@qk _ _ _ _ _ _ _ _ _ Qg (by rfl) T.QI uy (@qa _ _ _ _ _ (pv 0) qb (by trivial)) (by trivial) (by trivial) (by trivial) (by trivial)) (@pe_gI _ _ _ _ (by rfl) T.Y3 (by trivial)) (by trivial))))).pt (@qf _ _ _ (@qr _ _ _ _ Q9)) qw) (@qc _ _ _ _ _ (@qO _ _ _ _ _ _ _ _ (@qo _ _ _ _ _ _ _ _ op_notIn_str (@qL _ _ _ _ _ _ _ J4 (pv 0) qg (fun _ _=>rfl)) (@pe_gS _ _ _ _ (by rfl) T.m_LETTERS (by trivial)) (by with_unfolding_all rfl)) (@qf _ _ _ (@qr _ _ _ _ Q9)) qw) (@qf _ _ _ (@qr _ _ _ _ (@qk _ _ _ _ _ _ _ _ _ (@Jq _ rfl) (by rfl) T.z_all boot_all (@qa _ _ _ _ _ (@Yp _ _ (["sign"]) (1) ([]) _ _ _ _ _ _ _ _ _ (lcs0) rfl (@pi_str _ _ _ _ (pv 0)) (fun _ _ _ _ _ _=>(@qq _ _ (0) _ (show List.Nodup (["sign"]:List Str) by decide+kernel) rfl (Or.inl rfl) (by trivial))) (fun _ _ _ _ _ _=> @QS _) (fun _ _ _ _ _ _=>(@yq _ _ _ _ _ _ _ _ Jt (pv 0) (@pe_gS _ _ _ _ (by rfl) T.m_NAME_SIGNS (by trivial)) (by with_unfolding_all rfl))) (by trivial)) qb (by trivial)) (by trivial) (by trivial) (by trivial) (by trivial)))))),?_⟩
 refine⟨_,rfl,x,"str",tyD d,isStr d,rfl,hv.ty,kit_str d,_,rfl,?_⟩;cases hd:isStr d with
 |false=>
  refine iteT (iteT ?_);have:=k H (Same.refl H);have e:isNm d=false:=by cases d<;>first|rfl|simp [isStr] at hd
  rw [e] at this;exact this
 |true=>
  obtain⟨z,rfl⟩:∃z,d= .str z:=by cases d<;>simp [isStr] at hd;exact⟨_,rfl⟩
  obtain⟨rfl,hz⟩:=hv;have k:∀H',Same H H'->Q (.bl (nm z)) H':=k;refine iteF ?_;refine⟨_,rfl,z,rfl,hz,_,_,rfl,rfl,_,rfl,?_⟩;have stop:nm z=false->Q (.bl false) H:=fun e=>by
   have:=k H (Same.refl H);rw [e] at this;exact this
  refine ite2 (fun Z=> ?_) (fun Z=> ?_)
  ·have aa:1<=(z.length:Int):=ur Z;refine⟨_,_,rfl,rfl,_,rfl,?_⟩;by_cases U:(z.length:Int)<=24
   ·rw [u9 U];refine iteF ?_;refine⟨_,rfl,_,_,_,rfl,rfl,hz,first_at (by omega),_,_,rfl,rfl,_,rfl,?_⟩
    cases e:inS ⟨#[z.cps.getD 0 0]⟩ LET with
    |false=>
     have e':(!(Builtin.Str.occurrences ("abcdefghijklmnopqrstuvwxyz":Str) ⟨#[z.cps.getD 0 0]⟩ 0 ("abcdefghijklmnopqrstuvwxyz":Str).length 1).isEmpty)=false:=e;rw [e'];refine iteT ?_;exact stop (nm_first e)
    |true=>
     have e':(!(Builtin.Str.occurrences ("abcdefghijklmnopqrstuvwxyz":Str) ⟨#[z.cps.getD 0 0]⟩ 0 ("abcdefghijklmnopqrstuvwxyz":Str).length 1).isEmpty)=true:=e;rw [e'];refine iteF ?_;refine⟨_,rfl,z,rfl,fun D hD=> ?_⟩;refine lc_str (fun c=> .bl (inS ⟨#[c]⟩ NSG)) (hz) hD (fun i c H' R hc sm r=>⟨_,rfl,_,_,rfl,rfl,r⟩) fun H' sm hl=> ?_;refine⟨D,z.cps.toList.map fun c=>inS ⟨#[c]⟩ NSG,rfl,SqL.of (by rw [hl,allMap]),?_⟩
     have:=k H' sm;rw [nm_rest aa U e] at this;exact this
   ·rw [ua U];refine iteT ?_;exact stop (nm_len fun q=>U q.2)
  ·refine⟨_,rfl,?_⟩;refine iteT ?_;exact stop (nm_len fun q=>Z (u9 q.1))
def isP:D->Bool
 | .tup xs=>decide (xs.length=2)
 |_=>false
def isSrc:D->Bool
 | .tup [k,d]=>if eqD k (.str "made")=true then isNm d else(eqD k (.str "leaf")||eqD k (.str "rule"))&&isT d
 |_=>false
def okS:D->Bool
 | .tup [k,_]=>okHd k&&decide (dp k<=60)
 |_=>true
def sp_pair:Sp:=fun vs H Q _=>∃v d,vs= [v]/\Is H d v/\Q (.bl (isP d)) H
def sp_source:Sp:=fun vs H Q _=>∃v d,vs= [v]/\Is H d v/\okS d=true/\∀H',Same H H'->Q (.bl (isSrc d)) H'
def sp_cell (K:PySem.W.Frag):Sp:=fun vs H Q _=>∃(q:Addr) (ns:List Int) (k:Int),vs= [.ref q,.int k]/\0<=k/\SqL K H q (ns.map V.int)/\∀i:Int,Q (.int i) H
theorem iteB {b:Bool}{A B:Prop}(U:b=true)(h:A):if b=true then A else B:=by rw [if_pos U];exact h
theorem iteN {b:Bool}{A B:Prop}(U:b=false)(h:B):if b=true then A else B:=by rw [if_neg (by rw [U];exact uf)];exact h
def rowD (zs:List Str):D:= .tup (zs.map D.str)
def rowG (acc:List Str):List Str->List Str
 | []=>acc
 |z::r=>if isT (rowD (acc++ [z]))=true then rowG (acc++ [z]) r else acc
def sp_longest (K:PySem.W.Frag):Sp:=fun vs H Q _=>∃(L:Addr) (zs:List Str),vs= [.ref L]/\H L=some (.lst (zs.map V.str))/\(∀z∈zs,z.length<=100)/\zs.length<=100/\∀(v:V) (H':Hp),Same H H'->Is H' (rowD (rowG [] zs)) v->Q v H'
theorem cat1 {K:PySem.W.Frag}{H:Hp}{a:Addr}{xs:List V}{x:V}{Q:VK}(ha:H a=some (.tup xs))(U:xs.length+1<=sizeLine)(k:∀p H',Same H H'->H' p=some (.tup (xs++ [x]))->Q (.ref p) H'):
  [x].length<=sizeLine/\∀q,H q=none->rCatG K (.ref a) (.ref q) (upd H q (.tup [x])) Q:=by
 refine⟨by show 1<=sizeLine;omega,fun q Z=> ?_⟩
 have s1:Same H (upd H q (.tup [x])):=qe Z _;refine⟨a,q,xs,[x],rfl,rfl,SqT.of (s1 _ _ ha),SqT.of qd,U,fun e=> ?_,(fun _ e=>by cases e),fun _ _ p hp=> ?_⟩
 ·refine k q _ s1 ?_;rw [e];exact qd
 ·exact k p _ (s1.trans (qe hp _)) qd
theorem xj {H:Hp}{zs:List Str}{p:Addr}(h:H p=some (.tup (zs.map V.str)))(hz:∀z∈zs,z.length<=100):Is H (rowD zs) (.ref p):=by
 have U:∀(zs:List Str),(∀z∈zs,z.length<=100)->IsL H (zs.map D.str) (zs.map V.str):=by
  intro zs
  induction zs with
  |nil=>exact fun _=>rfl
  |cons z r Z=>
   intro h;exact⟨_,_,rfl,⟨rfl,fits (by have:=h z (uo ..);omega)⟩,Z fun y hy=>h y (ue _ hy)⟩
 exact⟨p,_,rfl,h,U zs hz⟩
theorem ok_pair (T:Tx K mg a):FnOk P w K mg base CX0 1 a.f_is_pair a.d_is_pair ["value"] sp_pair:=by
 refine T.g_is_pair.F.ok sc_is_pair (by trivial) (fun _ _ _ _ H _ Q E hr h=> ?_)
 obtain⟨v,d,rfl,Z,k⟩:=h;refine⟨_,(@qf _ _ _ (@qr _ _ _ _ (@J9 _ _ _ _ _ _ _ (@qk _ _ _ _ _ _ _ _ _ (@Qd _ _ rfl) (by rfl) T.q9 Uf (@qa _ _ _ _ _ (pv 0) (@qa _ _ _ _ _ (@Yq _ _ (.ty "tuple") _ _ (by rfl) T.Qr U1 rfl (by trivial) (by trivial)) qb (by trivial)) (by trivial)) (by trivial) (by trivial) (by trivial) (by trivial)) (@pe_one _ _ _ _ _ (@yq _ _ _ _ _ _ _ _ yF (@qk _ _ _ _ _ _ _ _ _ call_lenZ (by rfl) T.QI uy (@qa _ _ _ _ _ (pv 0) qb (by trivial)) (by trivial) (by trivial) (by trivial) (by trivial)) qg (qx _)))))),?_⟩
 refine⟨_,rfl,v,"tuple",tyD d,jU d,rfl,Z.ty,kit_tup d,_,rfl,?_⟩;cases ht:jU d with
 |false=>
  refine iteF ?_;have e:isP d=false:=by cases d<;>first|rfl|simp [jU] at ht
  rw [e] at k;exact k
 |true=>
  obtain⟨xs,rfl⟩:∃xs,d= .tup xs:=by cases d<;>simp [jU] at ht;exact⟨_,rfl⟩
  obtain⟨p,us,rfl,hp,U⟩:=Z;have lu:=U.length;refine iteT ⟨_,rfl,.inr ⟨p,us,rfl,.inr (SqT.of hp),fun _=>⟨rfl,?_⟩⟩⟩;have e:decide (V.int (us.length:Int)=V.int 2)=isP (.tup xs):=by
   simp only [isP,vZ];constructor
   ·intro h;have:=V.int.inj h;omega
   ·intro h;rw [lu,h]
    rfl
  rw [<-e] at k;exact k
theorem ok_source (T:Tx K mg a):FnOk P w K mg base CX0 3 a.Jj a.jL ["value"] sp_source:=by
 have U:=ok_pair (P:=P) (w:=w) (base:=base) T;have jT:=ok_name (P:=P) (w:=w) (base:=base) T;have jQ:=xg (P:=P) (w:=w) (base:=base) T;refine T.g_is_source.F.ok sc_is_source (by trivial) (fun _ _ _ s H _ Q E hr h=> ?_)
 obtain⟨v,d,rfl,hv,hok,k⟩:=h;refine⟨_,(@qc _ _ _ _ _ (@qO _ _ _ _ _ _ _ _ (@yH _ _ _ _ (@Q4 _ _ _ (@qj _ _ _ _ _ _ _ _ _ _ _ _ _ _ _ _ U (hr.mono (by trivial)) (by rfl) T.g_is_pair.m T.g_is_pair.F.kp T.g_is_pair.b .nil qu (@qa _ _ _ _ _ (pv 0) qb (by trivial)) (by trivial) (by trivial) (by trivial)) (by trivial))) (@qf _ _ _ (@qr _ _ _ _ Q9)) qw) (@qc _ _ _ _ _ (@qO _ _ _ _ _ _ _ _ (@qo _ _ _ _ _ _ _ _ (@op_eqM _ hr.units) (@qL _ _ _ _ _ _ _ y7 (pv 0) qg (fun _ _=>rfl)) qG (qx _)) (@qf _ _ _ (@qr _ _ _ _ (@qj _ _ _ _ _ _ _ _ _ _ _ _ _ _ _ _ jT (hr.mono (by trivial)) (by rfl) T.g_is_name.m T.g_is_name.F.kp T.g_is_name.b .nil qu (@qa _ _ _ _ _ (@qL _ _ _ _ _ _ _ y7 (pv 0) qg (fun _ _=>rfl)) qb (by trivial)) (by trivial) (by trivial) (by trivial)))) qw) (@qf _ _ _ (@qr _ _ _ _ (@J9 _ _ _ _ _ _ _ (@yq _ _ _ _ _ _ _ _ (@op_inM _ hr.units) (@qL _ _ _ _ _ _ _ y7 (pv 0) qg (fun _ _=>rfl)) (@qP _ _ _ _ _ (@qa _ _ _ _ _ qG (@qa _ _ _ _ _ qG qb (by trivial)) (by trivial))) (by with_unfolding_all rfl)) (@pe_one _ _ _ _ _ (@qj _ _ _ _ _ _ _ _ _ _ _ _ _ _ _ _ jQ (hr.mono (by trivial)) (by rfl) T.g_is_tree.m T.g_is_tree.F.kp T.g_is_tree.b .nil qu (@qa _ _ _ _ _ (@qL _ _ _ _ _ _ _ y7 (pv 0) qg (fun _ _=>rfl)) qb (by trivial)) (by trivial) (by trivial) (by trivial)))))))),?_⟩
 refine⟨_,rfl,v,_,rfl,hv,_,rfl,?_⟩;cases hP:isP d with
 |false=>
  refine iteT ?_;have e:isSrc d=false:=by
   cases d with
   |tup xs=>
    match xs,hP with
    | [],_=>rfl
    | [_],_=>rfl
    | [_,_],h=>simp [isP] at h
    |_::_::_::_,_=>rfl
   |_=>rfl
  have:=k H (Same.refl _);rw [e] at this;exact this
 |true=>
  refine iteF ?_;obtain⟨z,e,rfl⟩:∃z e,d= .tup [z,e]:=by
   cases d with
   |tup xs=>
    match xs,hP with
    | [],h=>simp [isP] at h
    | [_],h=>simp [isP] at h
    | [x,y],_=>exact⟨x,y,rfl⟩
    |_::_::_::_,h=>simp [isP] at h
   |_=>simp [isP] at hP
  obtain⟨p,us,rfl,hp,x1,r1,rfl,h1,x2,r2,rfl,h2,h3⟩:=id hv;cases(show r2= [] from h3)
  have Z:okHd z=true/\dp z<=60:=by simpa [okS] using hok
  refine⟨_,rfl,p,_,_,_,rfl,rfl,SqT.of hp,rfl,z,"made",h1,rfl,by decide,Z.1,Z.2,_,rfl,?_⟩
  cases c:eqD z (.str "made") with
  |true=>
   refine iteT ⟨_,rfl,p,_,_,_,rfl,rfl,SqT.of hp,rfl,x2,e,rfl,h2,fun H' s'=> ?_⟩;have:=k H' s';simp only [isSrc,c,vg] at this;exact this
  |false=>
   refine iteF ⟨_,rfl,p,_,_,_,rfl,rfl,SqT.of hp,rfl,(by show 2<=sizeLine;decide),fun q hq=> ?_⟩
   have s1:Same H (upd H q (.tup [.str "leaf",.str "rule"])):=qe hq _;refine⟨z,q,["leaf","rule"],h1.mono s1.tk,rfl,.inr (SqT.of qd),by decide+kernel,Z.1,Z.2,_,rfl,?_⟩
   have e2:(["leaf","rule"]:List Str).any (fun y=>eqD z (.str y))=(eqD z (.str "leaf")||eqD z (.str "rule")):=by simp
   rw [e2];cases c2:(eqD z (.str "leaf")||eqD z (.str "rule")) with
   |true=>
    refine iteT ⟨_,rfl,p,_,_,_,rfl,rfl,SqT.of (s1 _ _ hp),rfl,x2,e,rfl,h2.mono s1.tk,fun H' s'=> ?_⟩;have:=k H' (s1.trans s');simp only [isSrc,c,c2,UQ,ug,uU] at this;exact this
   |false=>
    refine iteF ?_;have:=k _ s1;simp only [isSrc,c,c2,Bool.false_and,ug,uU] at this;exact this
theorem ok_cell (T:Tx K mg a):FnOk P w K mg base CX0 1 a.YC a.YN ["script","k"] (sp_cell K):=by
 refine T.g_law_cell_at.F.ok JG (by trivial) (fun _ _ _ _ H _ Q E hr h=> ?_)
 obtain⟨q,ns,j,rfl,h0,U,k⟩:=h;refine⟨_,(@qc _ _ _ _ _ (@qO _ _ _ _ _ _ _ _ (@qo _ _ _ _ _ _ _ _ op_lt (pv 1) (@qk _ _ _ _ _ _ _ _ _ qJ (by rfl) T.QI uy (@qa _ _ _ _ _ (pv 0) qb (by trivial)) (by trivial) (by trivial) (by trivial) (by trivial)) (qx _)) (@qf _ _ _ (@qr _ _ _ _ (@qL _ _ _ _ _ _ _ qH (pv 0) (pv 1) (fun _ _=>rfl)))) qw) (@qf _ _ _ (@qr _ _ _ _ qg))),?_⟩
 refine⟨_,rfl,_,rfl,q,_,rfl,.inl U,_,_,rfl,rfl,_,rfl,?_⟩;refine ite2 (fun c=> ?_) (fun c=> ?_)
 ·have c':j<((ns.map V.int).length:Int):=ur c;obtain⟨v,Z⟩:=Qw h0 c';obtain⟨i,_,rfl⟩:=List.mem_map.mp (Q8 Z);exact⟨_,rfl,_,rfl,q,_,_,_,rfl,rfl,U,Z,k _⟩
 ·exact k 0
theorem ok_longest (T:Tx K mg a):FnOk P w K mg base CX0 3 a.Yt a.Yw ["names"] (sp_longest K):=by
 have jQ:=xg (P:=P) (w:=w) (base:=base) T;refine T.g_longest_row.F.ok Qy (by trivial) (fun _ _ _ _ H _ Q E hr h=> ?_)
 obtain⟨L,zs,rfl,hL,hz,hn,k⟩:=h;have hs:=uv;refine⟨_,(@qc _ _ _ _ _ (@qt _ _ (1) _ _ _ _ Qy.nd rfl (Or.inl rfl) (@qP _ _ _ _ _ qb) (by trivial) (by trivial)) (@qc _ _ _ _ _ (@Qo _ _ _ _ _ _ _ _ uF rfl (@QD _ _ _ _ (pv 0)) (@qq _ _ (2) _ Qy.nd rfl (Or.inl rfl) (by trivial)) (@qc _ _ _ _ _ (@qO _ _ _ _ _ _ _ _ (@yH _ _ _ _ (@Q4 _ _ _ (@qj _ _ _ _ _ _ _ _ _ _ _ _ _ _ _ _ jQ (hr.mono (by trivial)) (by rfl) T.g_is_tree.m T.g_is_tree.F.kp T.g_is_tree.b .nil qu (@qa _ _ _ _ _ (@qB _ _ _ _ _ _ _ _ Y7 (pv 1) (@qP _ _ _ _ _ (@qa _ _ _ _ _ (pv 2) qb (by trivial)))) qb (by trivial)) (by trivial) (by trivial) (by trivial)) (by trivial))) (@qf _ _ _ ps_break) qw) (@qf _ _ _ (@qt _ _ (1) _ _ _ _ Qy.nd rfl (Or.inl rfl) (@qB _ _ _ _ _ _ _ _ Y7 (pv 1) (@qP _ _ _ _ _ (@qa _ _ _ _ _ (pv 2) qb (by trivial)))) (by trivial) (by trivial)))) (by trivial)) (@qf _ _ _ (@qr _ _ _ _ (pv 1))))),?_⟩
 refine⟨(by show 0<=sizeLine;omega),fun q hq=> ?_⟩
 have s1:Same H (upd H q (.tup [])):=qe hq _;refine⟨_,rfl,L,rfl,⟨_,SqL.of (s1 _ _ hL)⟩,yS (K:=K) (a:=L) (xs:=zs.map V.str) (fun i σ H'=>∃(U:List Str) (p:Addr) (kv:Option V),σ= [some (.ref L),some (.ref p),kv]/\H' p=some (.tup (U.map V.str))/\Same H H'/\rowG U (zs.drop i)=rowG [] zs/\U.length<=i/\∀z∈U,z∈zs)
  ⟨[],q,none,rfl,qd,s1,rfl,u8 _,fun z h=>nomatch h⟩ (fun i σ H' _ ⟨_,_,_,_,_,s2,_⟩=>SqL.of (s2 _ _ hL)) ?_ ?_⟩
 ·rintro i x σ H' hi ⟨U,p,kv,rfl,hp,s2,Z,hl,hm⟩;have aa:i<zs.length:=by
   have:=(List.getElem?_eq_some_iff.mp hi).1
   simpa using this
  obtain rfl:x=V.str zs[i]:=by
   rw [uk,u4 aa] at hi;exact(uQ hi).symm
  have ed:zs.drop i=zs[i]::zs.drop (i+1):=uD aa;rw [ed] at Z;rw [show rowG U (zs[i]::zs.drop (i+1))=if isT (rowD (U++ [zs[i]]))=true then rowG (U++ [zs[i]]) (zs.drop (i+1)) else U from rfl] at Z
  have ac:∀z∈U++ [zs[i]],z∈zs:=fun z h=>by
   rcases List.mem_append.mp h with h|h
   ·exact hm z h
   ·rw [List.mem_singleton.mp h];exact uj aa
  have hsz:(U.map V.str).length+1<=sizeLine:=by rw [u1];omega
  have em:U.map V.str++ [V.str zs[i]]=(U++ [zs[i]]).map V.str:=by simp
  refine⟨_,rfl,_,rfl,cat1 hp hsz fun p2 H3 s3 h3=>⟨_,rowD (U++ [zs[i]]),rfl,xj (by rw [h3,em]) fun z h=>hz z (ac z h),fun H4 s4=>⟨_,rfl,?_⟩⟩⟩
  cases hT:isT (rowD (U++ [zs[i]])) with
  |false=>
   rw [if_neg (by rw [hT];exact uf)] at Z
   refine iteT ⟨_,rfl,k _ H4 ((s2.trans s3).trans s4) ?_⟩;rw [<-Z];exact xj (s4 _ _ (s3 _ _ hp)) fun z h=>hz z (hm z h)
  |true=>
   rw [if_pos hT] at Z;refine iteF ⟨_,rfl,_,rfl,cat1 (s4 _ _ (s3 _ _ hp)) hsz fun p5 H5 s5 h5=> ?_⟩;exact⟨U++ [zs[i]],p5,_,rfl,by rw [h5,em],((s2.trans s3).trans s4).trans s5,Z,by rw [u7];show U.length+1<=i+1;omega,ac⟩
 ·rintro σ H' ⟨U,p,kv,rfl,hp,s2,Z,hl,hm⟩;refine⟨_,rfl,k _ H' s2 ?_⟩;rw [u1,List.drop_length] at Z;rw [<-Z];exact xj hp fun z h=>hz z (hm z h)
end
end K19
namespace K19
open PySem L2 PyProof.Rows PySem.Builtin PySem.Builtin.Str
theorem str_ext {z y:Str}(h:z.cps.toList=y.cps.toList):z=y:=by
 cases z;cases y;simp only [Str.mk.injEq] at*;exact Array.toList_inj.mp h
theorem slice_few (z:Str)(l u:Option Int):(Txt.slice z l u).length<=(strSliceIndices l u 1 z.length).length:=by
 unfold Txt.slice;split
 ·rename_i h
  rw [uO,UX,UX] at h;omega
 ·show(List.filterMap _ (strSliceIndices l u 1 z.length)).toArray.size<=_;rw [ub];exact List.length_filterMap_le _ _
theorem sTo (z:Str){m:Nat}(h:m<=z.length):(Txt.slice z none (some (m:Int))).cps.toList=z.cps.toList.take m:=by
 have e:Txt.slice z none (some (m:Int))=⟨((z.cps.toList.drop 0).take ((m:Int)-0).toNat).toArray⟩:=StrLaws.sliceText_to ⟨by omega,by rw [<-YX];omega⟩
 rw [e];simp
theorem sTo_len (z:Str)(m:Nat):(Txt.slice z none (some (m:Int))).length<=z.length:=by
 refine uG (slice_few z none (some (m:Int))) ?_;unfold strSliceIndices sliceRange;simp only [show(1:Int)>0 by decide,vg,u1,List.length_range]
 (split<;>(try split)<;>(try split)<;>(try simp only [Int.ediv_one])<;>omega)
theorem sLast (z:Str):∃m,(Txt.slice z (some (-24)) none).cps.toList=z.cps.toList.drop m/\z.length-m<=24/\(1<=z.length->m<z.length):=by
 rcases vc z.length 24 with h|h
 ·refine⟨0,?_,by omega,fun h=>h⟩
  have e:Txt.slice z (some (-24)) none=Txt.slice z (some 0) none:=by
   unfold Txt.slice;have:strSliceIndices (some (-24)) none 1 z.length=strSliceIndices (some 0) none 1 z.length:=by
    have a:max (0:Int) (min (-24+(z.length:Int)) z.length)=0:=by omega
    have b:max (0:Int) (min 0 (z.length:Int))=0:=by omega
    simp [strSliceIndices,a,b]
   rw [this]
  have U:Txt.slice z (some 0) none=⟨((z.cps.toList.drop (0:Int).toNat).take ((z.cps.toList.length:Int)-(0:Int)).toNat).toArray⟩:=StrLaws.sliceText_from ⟨by omega,by omega⟩
  rw [e,U];show((z.cps.toList.drop 0).take _).toArray.toList=_;rw [uT (by rw [ve];omega)]
 ·refine⟨z.length-24,?_,by omega,fun _=>by omega⟩
  have e:=StrLaws.sliceText_from_neg (x:=z) (i:= -24) (by omega) (by omega)
  have Z:Txt.slice z (some (-24)) none=⟨((z.cps.toList.drop (-24+(z.length:Int)).toNat).take ((z.cps.toList.length:Int)-(-24+z.length)).toNat).toArray⟩:=e;rw [Z];have e3:(-24+(z.length:Int)).toNat=z.length-24:=by omega
  rw [e3];show((z.cps.toList.drop (z.length-24)).take _).toArray.toList=_;rw [uT (by rw [ve,<-YX];omega)]
theorem starts_eq (z y:Str):Txt.startswith z y=decide (V.str (Txt.slice z none (some (y.length:Int)))=V.str y):=by
 unfold Txt.startswith;rw [StrLaws.subAt_eq,List.drop_zero];rcases vc z.length y.length with h|h
 ·rw [ua (by omega),Bool.false_and,ua]
  intro q;have:=sTo_len z y.length;rw [V.str.inj q] at this;omega
 ·rw [u9 (by omega),UQ]
  have e:=sTo z h;rw [vq,UX,uZ];constructor
  ·intro q;rw [str_ext (e.trans q)]
  ·intro q;rw [V.str.inj q] at e;exact e.symm
theorem JT (c:Nat):∀(k:Nat) (U:Array Nat),((List.replicate k #[c]).foldl (·++ ·) U).toList=U.toList++List.replicate k c
 |0,U=>by simp
 |k+1,U=>by
  rw [UE,List.foldl_cons,JT c k,UE];simp
theorem mul_one (c:Nat)(n:Int):(Txt.mul ⟨#[c]⟩ n).cps.toList=List.replicate n.toNat c:=by
 unfold Txt.mul;split
 ·rename_i h
  rw [show n.toNat=0 by omega]
  rfl
 ·split
  ·rename_i h1 h
   have h2:n=1∨(⟨#[c]⟩:Str).length=0:=by simpa using h
   have U:n=1:=h2.elim id fun z=>by cases z
   rw [U]
   rfl
  ·have:=JT c n.toNat #[]
   simpa using this
def okN (z:Str):Bool:=(z.cps.toList.map fun c=>inS ⟨#[c]⟩ NSG).all id
theorem xR {z y:Str}(h:okN z=true)(k:okN y=true):okN (z++y)=true:=by
 unfold okN at*;show((z.cps++y.cps).toList.map _).all id=true;rw [uw,ud,vw,h,k]
 rfl
theorem okN_one {c:Nat}(h:c∈NSG.cps.toList):okN ⟨#[c]⟩=true:=by
 show([c].map fun c=>inS ⟨#[c]⟩ NSG).all id=true;rw [ui,V2,jZ,u9 h]
 rfl
theorem okN_drop {z y:Str}{m:Nat}(h:okN z=true)(e:y.cps.toList=z.cps.toList.drop m):okN y=true:=by
 unfold okN at*;rw [e,UC];intro b U;obtain⟨c,Z,rfl⟩:=List.mem_map.mp U;exact List.all_eq_true.mp h _ (List.mem_map.mpr ⟨c,Ux Z,rfl⟩)
theorem okN_rep (n:Int):okN (Txt.mul "y" n)=true:=by
 have e:(("y":Str))=⟨#[121]⟩:=by decide+kernel
 unfold okN;rw [e,mul_one,UC];intro b U;obtain⟨c,Z,rfl⟩:=List.mem_map.mp U;rw [(List.mem_replicate.mp Z).2,jZ]
 decide+kernel
theorem rep_len (n:Int):(Txt.mul "y" n).length=n.toNat:=by
 have e:(("y":Str))=⟨#[121]⟩:=by decide+kernel
 rw [YX,e,mul_one,List.length_replicate]
def strI (i:Int):Str:=toString i
theorem strI_ok:∀k:Nat,k<61->okN (strI (k:Int))=true/\(strI (k:Int)).length<=2:=by decide+kernel
theorem nm_of {z:Str}(h:okN z=true)(h1:1<=z.length)(h2:z.length<=24)(U:inS ⟨#[z.cps.getD 0 0]⟩ LET=true):nm z=true:=by
 rw [nm_rest (by omega) (by omega) U]
 exact h
theorem yW {z:Str}(h:nm z=true):1<=z.length/\z.length<=24:=by
 by_cases c:1<=(z.length:Int)/\(z.length:Int)<=24
 ·omega
 ·rw [nm_len c] at h;cases h
theorem sub5 {c:Nat}(h:inS ⟨#[c]⟩ "abcyz"=true):inS ⟨#[c]⟩ LET=true:=by
 rw [jZ] at*;have m:=ur h;have U:∀c∈("abcyz":Str).cps.toList,c∈LET.cps.toList:=by decide+kernel
 exact u9 (U c m)
def Nms (zs:List Str):Prop:=(∀z∈zs,nm z=true)/\zs.Nodup
def sp_names:Sp:=fun vs H Q _=>∃(p:Addr) (n:Nat),vs= [.ref p,.int (n:Int)]/\Qa H p/\n<=60/\∀(L:Addr) (zs:List Str) (H':Hp),H L=none->H' L=some (.lst (zs.map V.str))->Nms zs->zs.length<=n->Qa H' p->Kept p H H'->Q (.ref L) H'
section
variable {P:Program}{w:World}{K:PySem.W.Frag}{mg:Str->Option Value}{base:Heap}{a:Ad}
theorem ok_names (T:Tx K mg a):FnOk P w K mg base CX0 2 a.Ju a.Jx ["pot","many"] sp_names:=by
 have qm:=Yf (P:=P) (w:=w) (base:=base) T;refine T.g_law_names.F.ok qU (by trivial) (fun _ _ _ _ H _ Q E hr h=> ?_)
 obtain⟨p,n,rfl,P0,hn,k⟩:=h;have hs:=uv;refine⟨_,(@qc _ _ _ _ _ (@qt _ _ (2) _ _ _ _ qU.nd rfl (Or.inl rfl) (@yi _ _ _ _ qb) (by trivial) (by trivial)) (@qc _ _ _ _ _ (@Qo _ _ _ _ _ _ _ _ uF rfl (@Qj _ _ _ _ _ _ (by rfl) T.ym (@qa _ _ _ _ _ (pv 1) qb (by trivial)) (by trivial)) (@qq _ _ (3) _ qU.nd rfl (Or.inl rfl) (by trivial)) (@qc _ _ _ _ _ (@qt _ _ (4) _ _ _ _ qU.nd rfl (Or.inl rfl) (@qL _ _ _ _ _ _ _ J4 qG (@qj _ _ _ _ _ _ _ _ _ _ _ _ _ _ _ _ qm (hr.mono (by trivial)) (by rfl) T.g_law_take.m T.g_law_take.F.kp T.g_law_take.b .nil qu (@qa _ _ _ _ _ (pv 0) (@qa _ _ _ _ _ qg qb (by trivial)) (by trivial)) (by trivial) (by trivial) (by trivial)) (fun _ _=>rfl)) (by trivial) (by trivial)) (@qc _ _ _ _ _ (@Qo _ _ _ _ _ _ _ _ uF rfl (@Qj _ _ _ _ _ _ (by rfl) T.ym (@qa _ _ _ _ _ (@qj _ _ _ _ _ _ _ _ _ _ _ _ _ _ _ _ qm (hr.mono (by trivial)) (by rfl) T.g_law_take.m T.g_law_take.F.kp T.g_law_take.b .nil qu (@qa _ _ _ _ _ (pv 0) (@qa _ _ _ _ _ qg qb (by trivial)) (by trivial)) (by trivial) (by trivial) (by trivial)) qb (by trivial)) (by trivial)) (@qq _ _ (5) _ qU.nd rfl (Or.inl rfl) (by trivial)) (@qf _ _ _ (@qt _ _ (4) _ _ _ _ qU.nd rfl (Or.inl rfl) (@qB _ _ _ _ _ _ _ _ qR (pv 4) (@qL _ _ _ _ _ _ _ J4 qG (@qj _ _ _ _ _ _ _ _ _ _ _ _ _ _ _ _ qm (hr.mono (by trivial)) (by rfl) T.g_law_take.m T.g_law_take.F.kp T.g_law_take.b .nil qu (@qa _ _ _ _ _ (pv 0) (@qa _ _ _ _ _ qg qb (by trivial)) (by trivial)) (by trivial) (by trivial) (by trivial)) (fun _ _=>rfl))) (by trivial) (by trivial))) (by trivial)) (@qc _ _ _ _ _ (@qO _ _ _ _ _ _ _ _ (@qo _ _ _ _ _ _ _ _ yF (@qj _ _ _ _ _ _ _ _ _ _ _ _ _ _ _ _ qm (hr.mono (by trivial)) (by rfl) T.g_law_take.m T.g_law_take.F.kp T.g_law_take.b .nil qu (@qa _ _ _ _ _ (pv 0) (@qa _ _ _ _ _ qg qb (by trivial)) (by trivial)) (by trivial) (by trivial) (by trivial)) qg (qx _)) (@qf _ _ _ (@qt _ _ (4) _ _ _ _ qU.nd rfl (Or.inl rfl) (@qB _ _ _ _ _ _ _ _ qR (pv 4) (@qB _ _ _ _ _ _ _ _ op_repS qG (@qB _ _ _ _ _ _ _ _ op_sub qg (@qk _ _ _ _ _ _ _ _ _ Qg (by rfl) T.QI uy (@qa _ _ _ _ _ (pv 4) qb (by trivial)) (by trivial) (by trivial) (by trivial) (by trivial))))) (by trivial) (by trivial))) qw) (@qc _ _ _ _ _ (@qO _ _ _ _ _ _ _ _ (@qo _ _ _ _ _ _ _ _ jN (pv 4) (pv 2) (by with_unfolding_all rfl)) (@qf _ _ _ (@qt _ _ (4) _ _ _ _ qU.nd rfl (Or.inl rfl) (@YE _ _ _ _ _ _ _ _ _ _ sl_str (@qB _ _ _ _ _ _ _ _ qR (@qB _ _ _ _ _ _ _ _ qR (pv 4) qG) (@qF _ _ _ _ _ _ _ _ _ jo (by rfl) T.z_str boot_str (@qa _ _ _ _ _ (pv 3) qb (by trivial)) (by trivial) (by trivial) (by trivial) (by trivial))) (@Jm _ _ _ (@pe_un _ _ _ _ _ _ un_neg qg)) Jl) (by trivial) (by trivial))) qw) (@qf _ _ _ (@qO _ _ _ _ _ _ _ _ (@jV _ _ _ _ _ _ _ (@qo _ _ _ _ _ _ _ _ Jt (@qL _ _ _ _ _ _ _ J4 (pv 4) qg (fun _ _=>rfl)) qG (by with_unfolding_all rfl)) (@Yl _ _ _ _ (@qo _ _ _ _ _ _ _ _ op_notIn_seq (pv 4) (pv 2) (by with_unfolding_all rfl)))).pt (@qf _ _ _ (@Jy _ _ _ _ (@pe_bm _ _ _ _ _ _ _ _ _ _ _ _ vQ UK UL YK (pv 2) (@qa _ _ _ _ _ (pv 4) qb (by trivial)) (by trivial) (by trivial) (by trivial) (by trivial) (by trivial)) (by trivial))) qw)))))) (by trivial)) (@qf _ _ _ (@qr _ _ _ _ (pv 2))))),?_⟩
 refine⟨(by show 0<=sizeLine;omega),fun L hL=> ?_⟩
 have Z:p≠L:=P0.free hL;have s1:Same H (upd H L (.lst [])):=qe hL _;refine⟨_,rfl,(n:Int),rfl,by omega,by omega,?_⟩
 refine QT (n:=(n:Int).toNat) (fun i σ H'=>∃(zs:List Str) (kv nv jv:Option V),σ= [some (.ref p),some (.int (n:Int)),some (.ref L),kv,nv,jv]/\H' L=some (.lst (zs.map V.str))/\Nms zs/\zs.length<=i/\Qa H' p/\Kept p H H') ⟨[],none,none,none,rfl,qd,⟨(fun z h=>nomatch h),List.nodup_nil⟩,u8 _,P0.same s1,s1.kept⟩ ?_ ?_
 ·rintro i σ H' hi ⟨zs,kv,nv,jv,rfl,hl,hN,hz,P',K'⟩;rw [Int.toNat_natCast] at hi;refine⟨_,rfl,p,3,rfl,P',by decide,by decide,fun d1 H1 a1 b1 P1 K1=> ?_⟩
  obtain⟨c1,ad⟩:=Qw (xs:=("abz":Str).cps.toList) (i:=d1) a1 (by show d1<3;omega)
  have m1:c1∈NSG.cps.toList:=by
   have aa:∀c∈("abz":Str).cps.toList,c∈NSG.cps.toList:=by decide+kernel
   exact aa c1 (Q8 ad)
  refine⟨_,_,c1,rfl,rfl,by decide,ad,?_⟩
  refine⟨_,rfl,p,4,rfl,P1,by decide,by decide,fun d2 H2 a2 b2 P2 K2=>⟨d2,rfl,by omega,by omega,?_⟩⟩
  refine QT (n:=d2.toNat) (fun j σ ae=>∃(z:Str) (jv:Option V),σ= [some (.ref p),some (.int (n:Int)),some (.ref L),some (.int (0+(i:Int))),some (.str z),jv]/\okN z=true/\1<=z.length/\z.length<=1+j/\Qa ae p/\Kept p H' ae) ⟨⟨#[c1]⟩,jv,rfl,okN_one m1,u8 1,u8 1,P2,K1.trans K2⟩ ?_ ?_
  ·rintro j σ H3 hj ⟨z,ai,rfl,hok,z1,z2,P3,K3⟩;refine⟨_,rfl,_,rfl,p,5,rfl,P3,by decide,by decide,fun d4 H4 a4 b4 P4 K4=> ?_⟩
   obtain⟨c4,af⟩:=Qw (xs:=("ab1./":Str).cps.toList) (i:=d4) a4 (by show d4<5;omega)
   have m4:c4∈NSG.cps.toList:=by
    have aa:∀c∈("ab1./":Str).cps.toList,c∈NSG.cps.toList:=by decide+kernel
    exact aa c4 (Q8 af)
   refine⟨_,_,c4,rfl,rfl,by decide,af,_,_,rfl,rfl,fits (by show z.length+1<=_;omega),?_⟩
   exact⟨_,_,rfl,xR hok (okN_one m4),by rw [Q7];omega,by rw [Q7];show z.length+1<=_;omega,P4,K3.trans K4⟩
  ·rintro σ H3 ⟨z,ai,rfl,hok,z1,z2,P3,K3⟩;have z4:z.length<=4:=by omega
   refine⟨_,rfl,p,12,rfl,P3,by decide,by decide,fun d5 H5 a5 b5 P5 K5=>⟨rfl,_,rfl,?_⟩⟩
   have U:H5 L=some (.lst (zs.map V.str)):=K5 _ _ (K3 _ _ hl Z.symm) Z.symm;have ac:Kept p H H5:=(K'.trans K3).trans K5;have ag:∀us:List Str,(us.map V.str).all JI=true:=fun us=>by
    rw [UI,UC];exact fun _ _=>rfl
   have hm:MulOk "y" (24-(z.length:Int)):=mulOk_of (by omega) (by omega) (by decide)
   have ap:=rep_len (24-(z.length:Int));refine ite2 (fun c=>⟨_,rfl,_,rfl,z,rfl,fits (by omega),_,_,rfl,rfl,_,_,rfl,rfl,hm,_,_,rfl,rfl,fits (by omega),?_⟩) (fun c=> ?_)
   have F1:okN (z++Txt.mul "y" (24-(z.length:Int)))=true/\1<=(z++Txt.mul "y" (24-(z.length:Int))).length/\(z++Txt.mul "y" (24-(z.length:Int))).length<=24:=⟨xR hok (okN_rep _),by rw [Q7];omega,by rw [Q7];omega⟩
   generalize (z++Txt.mul "y" (24-(z.length:Int)))=y at F1⊢;rotate_left;have F1:okN z=true/\1<=z.length/\z.length<=24:=⟨hok,z1,by omega⟩
   generalize z=y at F1⊢;rotate_left
   all_goals
    obtain⟨y0,y1,y2⟩:=F1;refine⟨_,rfl,_,rfl,L,_,rfl,.inl (SqL.of U),rfl,ag _,_,rfl,?_⟩;have aj:=strI_ok i (by omega)
    have e0:strI (0+(i:Int))=strI (i:Int):=by rw [UM]
    have ah:((y++"c")++strI (0+(i:Int)):Str).length=y.length+1+(strI (i:Int)).length:=by
     rw [Q7,Q7,e0]
     rfl
    have ak:(0+(i:Int)).natAbs.log2<1920:=by
     rw [UM,Int.natAbs_natCast];exact vL (Nat.log2_le_self i) (by omega)
    have al:(y++"c").length+(strI (0+(i:Int))).length<=sizeLine:=by
     rw [e0,Q7];show y.length+1+_<=_;omega
    have am:((y++"c")++strI (0+(i:Int)):Str).length<=sizeLine:=by
     rw [ah];exact fits (by omega)
    obtain⟨m,e1,e2,e3⟩:=sLast ((y++"c")++strI (0+(i:Int)));have h3:=e3 (by omega)
    have el:(Txt.slice ((y++"c")++strI (0+(i:Int))) (some (-24)) none).length=((y++"c")++strI (0+(i:Int)):Str).length-m:=by
     rw [YX,e1,ve,<-YX]
    have F3:okN (Txt.slice ((y++"c")++strI (0+(i:Int))) (some (-24)) none)=true/\1<=(Txt.slice ((y++"c")++strI (0+(i:Int))) (some (-24)) none).length/\(Txt.slice ((y++"c")++strI (0+(i:Int))) (some (-24)) none).length<=24:=
     ⟨okN_drop (xR (xR y0 (okN_one (by decide+kernel))) (by rw [e0];exact aj.1)) e1,by omega,by omega⟩
    refine ite2 (fun c2=>⟨_,rfl,_,_,rfl,rfl,fits (by show y.length+1<=_;omega),_,rfl,_,rfl,ak,_,_,rfl,rfl,al,_,rfl,_,rfl,_,rfl,am,?_⟩) (fun c2=> ?_)
    unfold strI at F3;generalize Txt.slice ((y++"c")++((toString (0+(i:Int)):String):Str)) (some (-24)) none=x at F3⊢;rotate_left;have F3:okN y=true/\1<=y.length/\y.length<=24:=⟨y0,y1,y2⟩;generalize y=x at F3⊢;rotate_left
    all_goals
     obtain⟨x0,x1,x2⟩:=F3;refine⟨_,rfl,_,_,_,rfl,rfl,fits (by omega),first_at x1,_,_,rfl,rfl,_,rfl,?_⟩
     refine ite2 (fun c=> ?_) (fun c=> ?_)
     ·refine⟨_,rfl,_,rfl,L,_,rfl,.inl (SqL.of U),rfl,ag _,_,rfl,?_⟩;refine ite2 (fun c2=> ?_) (fun c2=> ?_)
      ·have ao:x∉zs:=by
        have:(!inV (V.str x) (zs.map V.str))=true:=c2;rw [inV_str,vE,uE] at this;exact this
       refine⟨_,rfl,.inl ⟨rfl,_,SqL.of U⟩,_,rfl,L,_,_,rfl,rfl,U,by rw [u1];omega,?_⟩
       refine⟨zs++ [x],_,_,_,rfl,by rw [qd,ud];rfl,⟨fun z h=> ?_,?_⟩,by rw [u7];show zs.length+1<=_;omega,?_,?_⟩
       ·rcases List.mem_append.mp h with h|h
        ·exact hN.1 z h
        ·rw [List.mem_singleton.mp h];exact nm_of x0 x1 x2 (sub5 c)
       ·rw [V0];refine⟨hN.2,List.nodup_cons.mpr ⟨UD,List.nodup_nil⟩,fun u hu v hv e=> ?_⟩;rw [List.mem_singleton.mp hv] at e;rw [e] at hu;exact ao hu
       ·obtain⟨q1,q2,q3,q4⟩:=P5;exact⟨q1,q2,by rw [ql Z];exact q3,q4⟩
       ·exact fun b o e nb=>by rw [ql (qh e hL)];exact ac b o e nb
      ·exact⟨zs,_,_,_,rfl,U,hN,by omega,P5,ac⟩
     ·exact⟨zs,_,_,_,rfl,U,hN,by omega,P5,ac⟩
 ·rintro σ H' ⟨zs,kv,nv,jv,rfl,hl,hN,hz,P',K'⟩;rw [Int.toNat_natCast] at hz;exact⟨_,rfl,k L zs H' hL hl hN hz P' K'⟩
end
end K19
namespace K19
open PySem L2 PyProof.Rows
mutual
theorem lw_pu:∀{d:D},lw d=true->puD d=true
 | .str z,_=>by simp [puD]
 | .tup xs,h=>by
  have:=lwL_pu (xs:=xs) (by simpa [lw] using h)
  simpa [puD] using this
 | .non,h=>by simp [lw] at h
 | .bl _,h=>by simp [lw] at h
 | .int _,h=>by simp [lw] at h
 | .lst,h=>by simp [lw] at h
 | .dct,h=>by simp [lw] at h
theorem lwL_pu:∀{xs:List D},lwL xs=true->puL xs=true
 | [],_=>by simp [puL]
 |x::r,h=>by
  have h':lw x=true/\lwL r=true:=by simpa [lwL] using h
  simp [puL,lw_pu h'.1,lwL_pu h'.2]
end
theorem lw_tr {d:D}(h:lw d=true):trD d=true:=by
 cases d with
 |str z=>rfl
 |tup xs=>
  have:=lwL_pu (xs:=xs) (by simpa [lw] using h)
  simpa [trD] using this
 |_=>simp [lw] at h
def ja (d:D):Prop:=(∃k e,d= .tup [.str k,e])/\isSrc d=true/\lw d=true
def prD (p:Str×D):D:= .tup [.str p.1,p.2]
def PrOk (ps:List (Str×D)):Prop:=Nms (ps.map (·.1))/\∀p∈ps,ja p.2
theorem okN_all {z:Str}(h:okN z=true):yY z=true:=by
 unfold yY;rw [UC];intro c Z;have:=List.all_eq_true.mp h _ (List.mem_map.mpr ⟨c,Z,rfl⟩);rw [id,jZ] at this;have U:∀c∈NSG.cps.toList,Qb c=true:=by decide+kernel
 exact U c (ur this)
theorem nm_okN {z:Str}(h:nm z=true):okN z=true:=by
 have Z:=yW h;cases U:inS ⟨#[z.cps.getD 0 0]⟩ LET with
 |false=>rw [nm_first U] at h;cases h
 |true=>
  rw [nm_rest (by omega) (by omega) U] at h
  exact h
theorem src_made {z:Str}(h:nm z=true):ja (.tup [.str "made",.str z]):=by
 refine⟨⟨_,_,rfl⟩,?_,?_⟩
 ·show(if eqD (.str "made") (.str "made")=true then nm z else(eqD (.str "made") (.str "leaf")||eqD (.str "made") (.str "rule"))&&isT (.str z))=true
  rw [if_pos (by decide+kernel)]
  exact h
 ·have:yY "made"=true:=by decide+kernel
  simp only [lw,lwL,this,okN_all (nm_okN h)]
  rfl
theorem src_leaf {k:Str}{d:D}(U:k="leaf"∨k="rule")(h:isT d=true)(Z:lw d=true):ja (.tup [.str k,d]):=by
 refine⟨⟨_,_,rfl⟩,?_,?_⟩
 ·show(if eqD (.str k) (.str "made")=true then isNm d else(eqD (.str k) (.str "leaf")||eqD (.str k) (.str "rule"))&&isT d)=true
  have e1:eqD (.str k) (.str "made")=false:=by rcases U with rfl|rfl<;>decide+kernel
  have e2:(eqD (.str k) (.str "leaf")||eqD (.str k) (.str "rule"))=true:=by rcases U with rfl|rfl<;>decide+kernel
  rw [e1,e2,h]
  rfl
 ·have:yY k=true:=by
   rcases U with rfl|rfl<;>decide+kernel
  simp only [lw,lwL,this,Z]
  rfl
theorem src_okS {d:D}(h:ja d):okS d=true:=by
 obtain⟨⟨k,e,rfl⟩,_⟩:=h;simp [okS,okHd,trD,dp]
theorem src_dp {d:D}(h:ja d):dp d<=13:=by
 obtain⟨⟨k,e,rfl⟩,h1,h2⟩:=h;have Z:dp e<=12:=by
  have U:(if eqD (.str k) (.str "made")=true then isNm e else(eqD (.str k) (.str "leaf")||eqD (.str k) (.str "rule"))&&isT e)=true:=h1
  split at U
  ·cases e<;>simp [isNm] at U<;>simp [dp]
  ·rw [uO] at U;exact isT_dp U.2
 simp only [dp,dpL];omega
def sp_lsource:Sp:=fun vs H Q _=>∃(p L:Addr) (zs:List Str),vs= [.ref p,.ref L]/\Qa H p/\H L=some (.lst (zs.map V.str))/\p≠L/\(∀z∈zs,nm z=true)/\zs.length<=100/\
 ∀(v:V) (d:D) (H':Hp),Is H' d v->ja d->Qa H' p->Kept p H H'->Q v H'
def sp_lpairs (K:PySem.W.Frag):Sp:=fun vs H Q _=>∃(q:Addr) (ns:List Int),vs= [.ref q]/\SqL K H q (ns.map V.int)/\
 ∀(L:Addr) (ps:List (Str×D)) (us:List V) (H':Hp),H L=none->Same H H'->H' L=some (.lst us)->IsL H' (ps.map prD) us->PrOk ps->ps.length<=60->Q (.ref L) H'
theorem Y1 {H:Hp}{z:Str}(h:z.length<=16000000):Is H (.str z) (.str z):=⟨rfl,fits h⟩
theorem cut_ints (ns:List Int)(lo hi:Option Int):∃ms:List Int,cutV (ns.map V.int) lo hi=ms.map V.int/\ms.length<=ns.length:=by
 unfold cutV;rw [<-List.map_drop,<-List.map_take];refine⟨_,rfl,?_⟩;rw [uA,ve];omega
section
variable {P:Program}{w:World}{K:PySem.W.Frag}{mg:Str->Option Value}{base:Heap}{a:Ad}
theorem JR (T:Tx K mg a):FnOk P w K mg base CX0 155 a.jp a.jt ["pot","names"] sp_lsource:=by
 have qm:=Yf (P:=P) (w:=w) (base:=base) T;have JE:=ok_good (P:=P) (w:=w) (base:=base) T;refine T.g_law_source.F.ok YL (by trivial) (fun _ _ _ _ H _ Q E hr h=> ?_)
 obtain⟨p,L,zs,rfl,P0,hL,ai,hN,hn,k⟩:=h;have hs:=uv;refine⟨_,(@qc _ _ _ _ _ (@qt _ _ (2) _ _ _ _ YL.nd rfl (Or.inl rfl) (@qj _ _ _ _ _ _ _ _ _ _ _ _ _ _ _ _ qm (hr.mono (by trivial)) (by rfl) T.g_law_take.m T.g_law_take.F.kp T.g_law_take.b .nil qu (@qa _ _ _ _ _ (pv 0) (@qa _ _ _ _ _ qg qb (by trivial)) (by trivial)) (by trivial) (by trivial) (by trivial)) (by trivial) (by trivial)) (@qc _ _ _ _ _ (@qO _ _ _ _ _ _ _ _ (@qo _ _ _ _ _ _ _ _ yF (pv 2) qg (qx _)) (@qf _ _ _ (@qr _ _ _ _ (@qP _ _ _ _ _ (@qa _ _ _ _ _ qG (@qa _ _ _ _ _ (@qL _ _ _ _ _ _ _ qH (@qB _ _ _ _ _ _ _ _ op_cat (pv 1) (@yi _ _ _ _ (@qa _ _ _ _ _ qG qb (by trivial)))) (@qj _ _ _ _ _ _ _ _ _ _ _ _ _ _ _ _ qm (hr.mono (by trivial)) (by rfl) T.g_law_take.m T.g_law_take.F.kp T.g_law_take.b .nil qu (@qa _ _ _ _ _ (pv 0) (@qa _ _ _ _ _ (@qB _ _ _ _ _ _ _ _ QV (@qk _ _ _ _ _ _ _ _ _ qJ (by rfl) T.QI uy (@qa _ _ _ _ _ (pv 1) qb (by trivial)) (by trivial) (by trivial) (by trivial) (by trivial)) qg) qb (by trivial)) (by trivial)) (by trivial) (by trivial) (by trivial)) (fun _ _=>rfl)) qb (by trivial)) (by trivial))))) qw) (@qc _ _ _ _ _ (@qO _ _ _ _ _ _ _ _ (@qo _ _ _ _ _ _ _ _ yF (pv 2) qg (qx _)) (@qf _ _ _ (@qr _ _ _ _ (@qP _ _ _ _ _ (@qa _ _ _ _ _ qG (@qa _ _ _ _ _ (@qP _ _ _ _ _ (@qa _ _ _ _ _ qG (@qa _ _ _ _ _ qG qb (by trivial)) (by trivial))) qb (by trivial)) (by trivial))))) qw) (@qf _ _ _ (@qr _ _ _ _ (@qP _ _ _ _ _ (@qa _ _ _ _ _ (@qL _ _ _ _ _ _ _ qH (@yi _ _ _ _ (@qa _ _ _ _ _ qG (@qa _ _ _ _ _ qG qb (by trivial)) (by trivial))) (@qB _ _ _ _ _ _ _ _ op_sub (pv 2) qg) (fun _ _=>rfl)) (@qa _ _ _ _ _ (@qj _ _ _ _ _ _ _ _ _ _ _ _ _ _ _ _ JE (hr.mono (by trivial)) (by rfl) T.g_law_good_tree.m T.g_law_good_tree.F.kp T.g_law_good_tree.b .nil qu (@qa _ _ _ _ _ (pv 0) qb (by trivial)) (by trivial) (by trivial) (by trivial)) qb (by trivial)) (by trivial)))))))),?_⟩
 refine⟨_,rfl,p,4,rfl,P0,by decide,by decide,fun d H1 a1 b1 P1 K1=> ?_⟩
 have aa:H1 L=some (.lst (zs.map V.str)):=K1 _ _ hL ai.symm;refine⟨_,rfl,rfl,_,rfl,?_⟩;refine ite2 (fun c=> ?_) (fun c=> ?_)
 ·
  refine⟨_,rfl,(by show 1<=sizeLine;omega),fun q hq=> ?_⟩
  have s2:Same H1 (upd H1 q (.lst [.str "q"])):=qe hq _;refine⟨L,q,_,_,rfl,rfl,s2 _ _ aa,qd,by rw [u1];show zs.length+1<=_;omega,fun r ac=> ?_⟩
  have Z:=s2.trans (qe ac (.lst (zs.map V.str++ [.str "q"])));refine⟨_,rfl,_,rfl,L,_,rfl,.inl (SqL.of (Z _ _ aa)),_,_,rfl,rfl,p,_,rfl,P1.same Z,by omega,by rw [u1];omega,fun j H4 a4 b4 P4 K4=> ?_⟩
  rw [u1] at b4;have aj:r≠p:=fun e=>by
   obtain⟨x,y,e1,_⟩:=P1.same s2;rw [<-e,ac] at e1;cases e1
  have ad:=K4 _ _ (qd:(upd (upd H1 q (.lst [.str "q"])) r (.lst (zs.map V.str++ [.str "q"]))) r=_) aj;have em:zs.map V.str++ [V.str "q"]=(zs++ [("q":Str)]).map V.str:=by simp
  rw [em] at ad;obtain⟨c4,ae⟩:=Qw (xs:=(zs++ [("q":Str)]).map V.str) (i:=j) a4 (by rw [u1,u7];show j<((zs.length+1:Nat):Int);omega)
  obtain⟨z,hz,rfl⟩:=List.mem_map.mp (Q8 ae);have af:nm z=true:=by
   rcases List.mem_append.mp hz with h|h
   ·exact hN z h
   ·rw [List.mem_singleton.mp h]
    decide+kernel
  have ag:=yW af;refine⟨r,_,_,_,rfl,rfl,SqL.of ad,ae,(by show 2<=sizeLine;omega),fun t U=> ?_⟩
  exact k _ (.tup [.str "made",.str z]) _ (Is.new ⟨_,_,rfl,Y1 (by decide),_,_,rfl,Y1 (by omega),rfl⟩ U) (src_made af) (P4.same (qe U _)) (((K1.trans Z.kept).trans K4).trans (qe U _).kept)
 ·refine⟨_,rfl,rfl,_,rfl,?_⟩;refine ite2 (fun c=> ?_) (fun c2=> ?_)
  ·refine⟨(by show 2<=sizeLine;omega),fun t U=>⟨(by show 2<=sizeLine;omega),fun u hu=> ?_⟩⟩
   have s2:Same H1 (upd H1 t (.tup [.str "self a",.str "say a"])):=qe U _;have Z:=s2.trans (qe hu (.tup [.str "rule",.ref t]));refine k _ (.tup [.str "rule",.tup [.str "self a",.str "say a"]]) _ (Is.new ⟨_,_,rfl,Y1 (by decide),_,_,rfl,Is.new ⟨_,_,rfl,Y1 (by decide),_,_,rfl,Y1 (by decide),rfl⟩ U,rfl⟩ hu) (src_leaf (.inr rfl) (by decide+kernel) (by decide+kernel)) (P1.same Z) (K1.trans Z.kept)
  ·have d2:2<=d:=by
    have h0:¬d=0:=fun e=>c (u9 (by rw [e]))
    have h1:¬d=1:=fun e=>c2 (u9 (by rw [e]))
    omega
   refine⟨(by show 2<=sizeLine;omega),fun q hq=> ?_⟩
   have s2:Same H1 (upd H1 q (.lst [.str "leaf",.str "rule"])):=qe hq _;have hk:∃z:Str,atI [V.str "leaf",V.str "rule"] (d-2)=some (.str z)/\(z="leaf"∨z="rule"):=by
    have:d=2∨d=3:=by omega
    rcases this with rfl|rfl
    ·exact⟨"leaf",rfl,.inl rfl⟩
    ·exact⟨"rule",rfl,.inr rfl⟩
   obtain⟨z,hz,ah⟩:=hk;refine⟨_,rfl,_,_,rfl,rfl,q,_,_,_,rfl,rfl,SqL.of qd,hz,_,rfl,p,rfl,P1.same s2,fun v e H3 hv ak hT P3 K3=>⟨(by show 2<=sizeLine;omega),fun t U=> ?_⟩⟩
   have ag:z.length<=16000000:=by rcases ah with rfl|rfl<;>decide
   exact k _ (.tup [.str z,e]) _ (Is.new ⟨_,_,rfl,Y1 ag,_,_,rfl,hv,rfl⟩ U) (src_leaf ah hT ak) (P3.same (qe U _)) (((K1.trans s2.kept).trans K3).trans (qe U _).kept)
theorem ok_lpairs (T:Tx K mg a):FnOk P w K mg base CX0 156 a.JC a.JB ["script"] (sp_lpairs K):=by
 have yu:=ok_cell (P:=P) (w:=w) (base:=base) T;have yj:=ok_pot (P:=P) (w:=w) (base:=base) T;have U:=ok_names (P:=P) (w:=w) (base:=base) T;have yA:=JR (P:=P) (w:=w) (base:=base) T;refine T.g_law_pairs.F.ok qM (by trivial) (fun _ _ _ _ H _ Q E hr h=> ?_)
 obtain⟨q,ns,rfl,hq,k⟩:=h;have hs:=uv;refine⟨_,(@qc _ _ _ _ _ (@qt _ _ (1) _ _ _ _ qM.nd rfl (Or.inl rfl) (@qj _ _ _ _ _ _ _ _ _ _ _ _ _ _ _ _ yu (hr.mono (by trivial)) (by rfl) T.g_law_cell_at.m T.g_law_cell_at.F.kp T.g_law_cell_at.b .nil qu (@qa _ _ _ _ _ (pv 0) (@qa _ _ _ _ _ qg qb (by trivial)) (by trivial)) (by trivial) (by trivial) (by trivial)) (by trivial) (by trivial)) (@qc _ _ _ _ _ (@qt _ _ (2) _ _ _ _ qM.nd rfl (Or.inl rfl) (@qB _ _ _ _ _ _ _ _ y9 (pv 1) qg) (by trivial) (by trivial)) (@qc _ _ _ _ _ (@qO _ _ _ _ _ _ _ _ (@qo _ _ _ _ _ _ _ _ yF (@qB _ _ _ _ _ _ _ _ y9 (@qB _ _ _ _ _ _ _ _ xL (pv 1) qg) qg) qg (qx _)) (@qf _ _ _ (@qt _ _ (2) _ _ _ _ qM.nd rfl (Or.inl rfl) (@qB _ _ _ _ _ _ _ _ QV qg (@qB _ _ _ _ _ _ _ _ y9 (@qB _ _ _ _ _ _ _ _ xL (pv 1) qg) qg)) (by trivial) (by trivial))) qw) (@qc _ _ _ _ _ (@qt _ _ (3) _ _ _ _ qM.nd rfl (Or.inl rfl) (@qj _ _ _ _ _ _ _ _ _ _ _ _ _ _ _ _ yj (hr.mono (by trivial)) (by rfl) T.g_law_pot.m T.g_law_pot.F.kp T.g_law_pot.b .nil qu (@qa _ _ _ _ _ (@qB _ _ _ _ _ _ _ _ QV (@qj _ _ _ _ _ _ _ _ _ _ _ _ _ _ _ _ yu (hr.mono (by trivial)) (by rfl) T.g_law_cell_at.m T.g_law_cell_at.F.kp T.g_law_cell_at.b .nil qu (@qa _ _ _ _ _ (pv 0) (@qa _ _ _ _ _ qg qb (by trivial)) (by trivial)) (by trivial) (by trivial) (by trivial)) (@qk _ _ _ _ _ _ _ _ _ (@call_sumL _ rfl) (by rfl) T.z_sum boot_sum (@qa _ _ _ _ _ (@YE _ _ _ _ _ _ _ _ _ _ sl_list (pv 0) (@Jm _ _ _ qg) Jl) qb (by trivial)) (by trivial) (by trivial) (by trivial) (by trivial))) (@qa _ _ _ _ _ qg qb (by trivial)) (by trivial)) (by trivial) (by trivial) (by trivial)) (by trivial) (by trivial)) (@qc _ _ _ _ _ (@qt _ _ (4) _ _ _ _ qM.nd rfl (Or.inl rfl) (@qj _ _ _ _ _ _ _ _ _ _ _ _ _ _ _ _ U (hr.mono (by trivial)) (by rfl) T.g_law_names.m T.g_law_names.F.kp T.g_law_names.b .nil qu (@qa _ _ _ _ _ (pv 3) (@qa _ _ _ _ _ (pv 2) qb (by trivial)) (by trivial)) (by trivial) (by trivial) (by trivial)) (by trivial) (by trivial)) (@qc _ _ _ _ _ (@qt _ _ (5) _ _ _ _ qM.nd rfl (Or.inl rfl) (@yi _ _ _ _ qb) (by trivial) (by trivial)) (@qc _ _ _ _ _ (@Qo _ _ _ _ _ _ _ _ uF rfl (@Qj _ _ _ _ _ _ (by rfl) T.ym (@qa _ _ _ _ _ (@qk _ _ _ _ _ _ _ _ _ qJ (by rfl) T.QI uy (@qa _ _ _ _ _ (pv 4) qb (by trivial)) (by trivial) (by trivial) (by trivial) (by trivial)) qb (by trivial)) (by trivial)) (@qq _ _ (6) _ qM.nd rfl (Or.inl rfl) (by trivial)) (@qc _ _ _ _ _ (@qt _ _ (7) _ _ _ _ qM.nd rfl (Or.inl rfl) (@qj _ _ _ _ _ _ _ _ _ _ _ _ _ _ _ _ yj (hr.mono (by trivial)) (by rfl) T.g_law_pot.m T.g_law_pot.F.kp T.g_law_pot.b .nil qu (@qa _ _ _ _ _ (@qj _ _ _ _ _ _ _ _ _ _ _ _ _ _ _ _ yu (hr.mono (by trivial)) (by rfl) T.g_law_cell_at.m T.g_law_cell_at.F.kp T.g_law_cell_at.b .nil qu (@qa _ _ _ _ _ (pv 0) (@qa _ _ _ _ _ (@qB _ _ _ _ _ _ _ _ QV qg (@qB _ _ _ _ _ _ _ _ y9 (pv 6) qg)) qb (by trivial)) (by trivial)) (by trivial) (by trivial) (by trivial)) (@qa _ _ _ _ _ (@qB _ _ _ _ _ _ _ _ QV qg (pv 6)) qb (by trivial)) (by trivial)) (by trivial) (by trivial) (by trivial)) (by trivial) (by trivial)) (@qf _ _ _ (@Jy _ _ _ _ (@pe_bm _ _ _ _ _ _ _ _ _ _ _ _ vQ UK UL YK (pv 5) (@qa _ _ _ _ _ (@qP _ _ _ _ _ (@qa _ _ _ _ _ (@qL _ _ _ _ _ _ _ qH (pv 4) (pv 6) (fun _ _=>rfl)) (@qa _ _ _ _ _ (@qj _ _ _ _ _ _ _ _ _ _ _ _ _ _ _ _ yA (hr.mono (by trivial)) (by rfl) T.g_law_source.m T.g_law_source.F.kp T.g_law_source.b .nil qu (@qa _ _ _ _ _ (pv 7) (@qa _ _ _ _ _ (pv 4) qb (by trivial)) (by trivial)) (by trivial) (by trivial) (by trivial)) qb (by trivial)) (by trivial))) qb (by trivial)) (by trivial) (by trivial) (by trivial) (by trivial) (by trivial)) (by trivial)))) (by trivial)) (@qf _ _ _ (@qr _ _ _ _ (pv 5)))))))))),?_⟩
 refine⟨_,rfl,q,ns,0,rfl,by decide,hq,fun first=> ?_⟩
 refine⟨_,rfl,_,_,rfl,rfl,(by show(0:Int)<9;decide),?_⟩
 refine⟨_,rfl,_,_,rfl,rfl,⟨by decide,by decide⟩,_,_,rfl,rfl,(by show(0:Int)<8;decide),rfl,_,rfl,?_⟩
 have m1:0<=first%9/\first%9<9:=⟨Ue _ (by decide),U6 _ (by decide)⟩
 have m2:0<=first/72%41/\first/72%41<41:=⟨Ue _ (by decide),U6 _ (by decide)⟩
 refine ite2 (fun c=>⟨_,rfl,_,_,rfl,rfl,⟨by decide,by decide⟩,_,_,rfl,rfl,(by show(0:Int)<41;decide),_,_,rfl,rfl,?_⟩) (fun c=> ?_)
 obtain⟨n,hn,af⟩:∃n:Nat,20+first/72%41=(n:Int)/\n<=60:=⟨(20+first/72%41).toNat,by omega,by omega⟩
 rotate_left;obtain⟨n,hn,af⟩:∃n:Nat,first%9=(n:Int)/\n<=60:=⟨(first%9).toNat,by omega,by omega⟩
 rotate_left
 all_goals
  obtain⟨ms,em,aA⟩:=cut_ints ns (some 9) none;refine⟨_,rfl,q,ns,1,rfl,by decide,hq,fun c1=>⟨_,rfl,_,rfl,q,_,rfl,hq,fun C hC=> ?_⟩⟩
  have sC:Same H (upd H C (.lst (cutV (ns.map V.int) (some 9) none))):=qe hC _;refine⟨C,ms,rfl,SqL.of (by rw [<-em];exact qd),_,_,rfl,rfl,_,_,rfl,by omega,by omega,fun p H1 hp s1 P1=> ?_⟩
  have am:H p=none:=sC.free hp;refine⟨_,rfl,_,rfl,p,n,(by show [V.ref p,V.int _]= [V.ref p,V.int _];rw [hn]),P1,af,fun NL zs H2 ao ae hN aB P2 K2=> ?_⟩
  have s2:Same H H2:=K2.same (sC.trans s1) am;have az:H NL=none:=(sC.trans s1).free ao;refine⟨(by show 0<=sizeLine;omega),fun L hL=> ?_⟩
  have s3:Same H (upd H2 L (.lst [])):=s2.trans (qe hL _);have ap:NL≠L:=qh ae hL;have ag:H L=none:=s2.free hL;refine⟨_,rfl,NL,_,rfl,.inl (SqL.of ((qe hL _) _ _ ae)),_,rfl,by omega,by rw [u1];omega,?_⟩
  refine QT (n:=((zs.map V.str).length:Int).toNat) (fun i σ H'=>∃(ps:List (Str×D)) (us:List V) (mv kv ov:Option V),σ= [some (.ref q),some (.int first),mv,some (.ref p),some (.ref NL),some (.ref L),kv,ov]/\Same H H'/\H' NL=some (.lst (zs.map V.str))/\H' L=some (.lst us)/\L2.IsL H' (ps.map prD) us/\ps.map (·.1)=zs.take i/\∀x∈ps,ja x.2)
   ⟨[],[],_,none,none,rfl,s3,(qe hL _) _ _ ae,qd,rfl,rfl,fun x h=>nomatch h⟩ ?_ ?_
  ·rintro i σ H' hi ⟨ps,us,mv,kv,ov,rfl,sm,aa,ac,ad,Z,hok⟩;rw [Int.toNat_natCast,u1] at hi;refine⟨_,rfl,_,rfl,_,_,rfl,rfl,(by show(0:Int)<7;decide),_,_,rfl,rfl,q,ns,_,rfl,?_,sm.seq hq,fun c2=>⟨_,rfl,_,_,rfl,rfl,c2,_,rfl,by omega,by omega,fun o H4 ho s4 P4=> ?_⟩⟩
   ·have:0<=(0+(i:Int))%7:=Ue _ (by decide)
    omega
   have aq:H o=none:=sm.free ho;have ah:o≠NL:=fun e=>by rw [e,aa] at ho;cases ho
   have au:o≠L:=fun e=>by rw [e,ac] at ho;cases ho
   have ei:atI (zs.map V.str) (0+(i:Int))=some (V.str zs[i]):=by
    rw [UM];exact Xc (by rw [uk,u4 hi];rfl)
   refine⟨_,rfl,.inl ⟨rfl,_,SqL.of (s4 _ _ ac)⟩,_,rfl,_,rfl,NL,_,_,_,rfl,rfl,SqL.of (s4 _ _ aa),ei,_,rfl,_,rfl,o,NL,zs,rfl,P4,s4 _ _ aa,ah,hN.1,by omega,fun v d H5 hv ai P5 K5=>⟨(by show 2<=sizeLine;omega),fun t ht=> ?_⟩⟩
   have s5:Same H H5:=K5.same (sm.trans s4) aq;have aj:H5 L=some (.lst us):=K5 _ _ (s4 _ _ ac) au.symm;have av:H5 NL=some (.lst (zs.map V.str)):=K5 _ _ (s4 _ _ aa) ah.symm;have aw:Tk H' H5:=s4.tk.trans (P4.tk P5 K5);have ax:=ad.length;have ay:ps.length=i:=by
    have:=congrArg List.length Z;rw [u1,uA] at this;omega
   have st:=qe ht (.tup [V.str zs[i],v]);refine⟨L,us,_,rfl,rfl,st _ _ aj,by rw [ax,u1];omega,?_⟩
   have hz:=yW (hN.1 _ (uj hi));have ak:Tk (upd H5 t (.tup [V.str zs[i],v])) (upd (upd H5 t (.tup [V.str zs[i],v])) L (.lst (us++ [.ref t]))):=Tk.updL (st _ _ aj);have al:Is (upd H5 t (.tup [V.str zs[i],v])) (prD (zs[i],d)) (.ref t):=Is.new ⟨_,_,rfl,Y1 (z:=zs[i]) (by omega),_,_,rfl,hv,rfl⟩ ht
   refine⟨ps++ [(zs[i],d)],us++ [.ref t],_,_,_,rfl,?_,?_,qd,?_,?_,?_⟩
   ·intro b ob e;rw [ql (qh e ag)];exact(s5.trans st) _ _ e
   ·rw [ql ap];exact st _ _ av
   ·rw [ud];exact(((ad.mono aw).mono st.tk).mono ak).append (L2.IsL.one (al.mono ak))
   ·rw [ud,Z,ut,u4 hi]
    rfl
   ·intro x hx;rcases List.mem_append.mp hx with h|h
    ·exact hok x h
    ·rw [List.mem_singleton.mp h];exact ai
  ·rintro σ H' ⟨ps,us,mv,kv,ov,rfl,sm,aa,ac,ad,Z,hok⟩;rw [Int.toNat_natCast,u1,uP] at Z;have ay:ps.length=zs.length:=by
    have:=congrArg List.length Z
    rwa [u1] at this
   exact⟨_,rfl,k L ps us H' ag sm ac ad ⟨by rw [Z];exact hN,hok⟩ (by omega)⟩
theorem ge_trans:∀a b c:List Nat,Spec.ltCps b a=false->Spec.ltCps c b=false->Spec.ltCps c a=false
 | [],_,[],_,_=>rfl
 | [],_,_::_,_,_=>rfl
 |x::a,[],_,h,_=>by simp [Spec.ltCps] at h
 |x::a,y::b,[],_,h=>by simp [Spec.ltCps] at h
 |x::a,y::b,z::c,h1,h2=>by
  simp only [Spec.ltCps,Bool.or_eq_false_iff,Bool.and_eq_false_iff,uE,vV,ne_eq] at*;refine⟨by omega,?_⟩
  by_cases e:z=x
  ·refine .inr (ge_trans a b c ?_ ?_)
   ·rcases h1.2 with h|h
    ·omega
    ·exact h
   ·rcases h2.2 with h|h
    ·omega
    ·exact h
  ·exact .inl e
theorem ge_anti:∀a b:List Nat,Spec.ltCps a b=false->Spec.ltCps b a=false->a=b
 | [],[],_,_=>rfl
 | [],_::_,h,_=>by simp [Spec.ltCps] at h
 |_::_,[],_,h=>by simp [Spec.ltCps] at h
 |x::a,y::b,h1,h2=>by
  simp only [Spec.ltCps,Bool.or_eq_false_iff,Bool.and_eq_false_iff,uE,vV,ne_eq] at*;have e:x=y:=by omega
  subst e;rw [ge_anti a b (by rcases h1.2 with h|h;exact absurd rfl h;exact h) (by rcases h2.2 with h|h;exact absurd rfl h;exact h)]
theorem rising_pw:∀(l:List Str) (p:Str),risingS p l=true->(p::l).Pairwise (fun a b=>Spec.ltCps b.cps.toList a.cps.toList=false)
 | [],p,_=>UT ..
 |x::r,p,h=>by
  have h':(!Spec.ltCps x.cps.toList p.cps.toList&&risingS x r)=true:=h;rw [uO,vE] at h';have Z:=rising_pw r x h'.2;refine List.pairwise_cons.mpr ⟨fun b U=> ?_,Z⟩;rcases List.mem_cons.mp U with rfl|U
  ·exact h'.1
  ·exact ge_trans _ _ _ h'.1 (List.rel_of_pairwise_cons Z U)
theorem Jc {l:List Str}(h:sortedS l=true):l.Pairwise (fun a b=>Spec.ltCps b.cps.toList a.cps.toList=false):=by
 cases l with
 |nil=>exact List.Pairwise.nil
 |cons x r=>exact rising_pw r x h
theorem yT {l m:List Str}(h1:sortedS l=true)(h2:sortedS m=true)(h:l.Perm m):l=m:=
 List.Perm.eq_of_pairwise (fun a b _ _ x y=>str_ext (ge_anti _ _ y x)) (Jc h1) (Jc h2) h
def qD (ps:List (Str×D))(z:Str):D:=((ps.find? fun p=>decide (p.1=z)).map (·.2)).getD .non
def yz (vs:List (Str×V))(z:Str):V:=(valV (inrK vs) (Sum.inr z)).getD .non
theorem jG (p:Str×V)(r:List (Str×V)):inrK (p::r)=(Sum.inr p.1,p.2)::inrK r:=rfl
theorem look2 {H:Hp}{z:Str}:∀{ps:List (Str×D)}{vs:List (Str×V)},vs.map (·.1)=ps.map (·.1)->IsL H (ps.map (·.2)) (vs.map (·.2))->z∈ps.map (·.1)->valV (inrK vs) (Sum.inr z)=some (yz vs z)/\Is H (qD ps z) (yz vs z)
 | [],_,_,_,h=>nomatch h
 |p::ps,[],e,_,_=>by simp at e
 |p::ps,v::vs,e,hi,hz=>by
  simp only [ui,vz] at e;obtain⟨u,r,e2,h1,h2⟩:=hi;simp only [ui,vz] at e2;obtain⟨rfl,rfl⟩:=e2;by_cases c:p.1=z
  ·have U:v.1=z:=e.1.trans c;have Z:valV (inrK (v::vs)) (Sum.inr z)=some v.2:=by
    rw [jG];exact jB (by rw [U])
   have e4:qD (p::ps) z=p.2:=by simp [qD,uV,c]
   unfold yz;rw [Z,e4];exact⟨rfl,h1⟩
  ·have U:¬v.1=z:=fun q=>c (e.1.symm.trans q);have Z:valV (inrK (v::vs)) (Sum.inr z)=valV (inrK vs) (Sum.inr z):=by
    rw [jG];exact YH (fun q=>U (Sum.inr.inj q))
   have e4:qD (p::ps) z=qD ps z:=by simp [qD,uV,c]
   have aa:z∈ps.map (·.1):=by
    rcases List.mem_cons.mp hz with h|h
    ·exact absurd h.symm c
    ·exact h
   have ih:=look2 e.2 h2 aa;unfold yz at*;rw [Z,e4];exact ih
theorem look0 {z:Str}:∀{vs:List (Str×V)},z∉vs.map (·.1)->valV (inrK vs) (Sum.inr z)=none
 | [],_=>rfl
 |v::vs,h=>by
  rw [jG,YH (fun q=>h (by rw [<-Sum.inr.inj q];exact uo ..))]
  exact look0 fun m=>h (ue _ m)
theorem re_map:∀{ps:List (Str×D)},(ps.map (·.1)).Nodup->(ps.map (·.1)).map (fun z=>(z,qD ps z))=ps
 | [],_=>rfl
 |p::ps,h=>by
  have h':=List.nodup_cons.mp h;have U:qD (p::ps) p.1=p.2:=by simp [qD,uV]
  rw [ui,ui,U]
  congr 1
  refine Eq.trans (vF fun z hz=> ?_) (re_map h'.2);have:¬p.1=z:=fun q=>h'.1 (by show p.1∈_;rw [q];exact hz)
  simp [qD,uV,this]
def tabOf (ps:List (Str×D))(ms:List Str):List (Str×D):=ms.map fun z=>(z,qD ps z)
theorem xO (ps:List (Str×D))(ms:List Str):(tabOf ps ms).map (·.1)=ms:=by
 unfold tabOf;rw [uC];exact(vF fun _ _=>rfl).trans (List.map_id ms)
theorem tab_perm {ps:List (Str×D)}{ms:List Str}(hn:(ps.map (·.1)).Nodup)(h:ms.Perm (ps.map (·.1))):(tabOf ps ms).Perm ps:=by
 have:=h.map fun z=>(z,qD ps z);rw [re_map hn] at this;exact this
def Qp (C:Addr)(H:Hp)(x:Addr)(qs:List (Str×D)):Prop:=∃(dx d:Addr) (o:Obj) (vs:List (Str×V)),H x=some (.ins C dx [("by_name",.ref d)])/\H d=some (.frz o (.dK (inrK vs)))/\vs.map (·.1)=qs.map (·.1)/\L2.IsL H (qs.map (·.2)) (vs.map (·.2))
theorem Qp.same {C:Addr}{H H':Hp}{x:Addr}{qs:List (Str×D)}(h:Qp C H x qs)(s:Same H H'):Qp C H' x qs:=by
 obtain⟨dx,d,o,vs,h1,h2,U,h4⟩:=h;exact⟨dx,d,o,vs,s _ _ h1,s _ _ h2,U,h4.mono s.tk⟩
def yB (qs:List (Str×D)):Prop:=PrOk qs/\sortedS (qs.map (·.1))=true/\qs.length<=60
def sp_init (C:Addr):Sp:=fun vs H Q _=>∃(x dx t:Addr) (ps:List (Str×D)) (us:List V),vs= [.ref x,.ref t]/\H x=some (.ins C dx [])/\H t=some (.tup us)/\L2.IsL H (ps.map prD) us/\PrOk ps/\ps.length<=60/\
 ∀(qs:List (Str×D)) (H':Hp),(∀b o,H b=some o->b≠x->H' b=some o)->Qp C H' x qs->yB qs->qs.Perm ps->Q .non H'
theorem Nms.perm {l m:List Str}(h:Nms m)(p:l.Perm m):Nms l:=⟨fun z hz=>h.1 z (p.mem_iff.mp hz),(p.nodup_iff).mpr h.2⟩
theorem dat_of {ps:List (Str×D)}{z:Str}{d:D}(hn:(ps.map (·.1)).Nodup)(h:(z,d)∈ps):qD ps z=d:=by
 induction ps with
 |nil=>cases h
 |cons p r ih=>
  have U:=List.nodup_cons.mp hn;rcases List.mem_cons.mp h with h|h
  ·subst h;simp [qD,uV]
  ·have:¬p.1=z:=fun q=>U.1 (by show p.1∈_;rw [q];exact List.mem_map.mpr ⟨_,h,rfl⟩)
   have Z:=ih U.2 h
   simpa [qD,uV,this] using Z
theorem jH {ps:List (Str×D)}{z:Str}(hn:(ps.map (·.1)).Nodup)(h:z∈ps.map (·.1)):(z,qD ps z)∈ps:=by
 obtain⟨p,U,rfl⟩:=List.mem_map.mp h;rw [dat_of hn (show(p.1,p.2)∈ps from U)]
 exact U
theorem dat_perm {qs ps:List (Str×D)}{z:Str}(hn:(ps.map (·.1)).Nodup)(U:qs.Perm ps)(h:z∈ps.map (·.1)):qD qs z=qD ps z:=by
 have Z:(qs.map (·.1)).Nodup:=((U.map _).nodup_iff).mpr hn;exact dat_of Z (U.mem_iff.mpr (jH hn h))
theorem pairs_at {H:Hp}:∀{ps:List (Str×D)}{us:List V},L2.IsL H (ps.map prD) us->∃(ts:List Addr) (vs:List (Str×V)),us=ts.map V.ref/\ts.length=vs.length/\(∀(i:Nat) (t:Addr) (p:Str×V),ts[i]? =some t->vs[i]? =some p->H t=some (.tup [.str p.1,p.2]))/\vs.map (·.1)=ps.map (·.1)/\L2.IsL H (ps.map (·.2)) (vs.map (·.2))
 | [],us,h=>⟨[],[],h,rfl,fun i t p h=>by simp at h,rfl,rfl⟩
 |p::r,us,h=>by
  obtain⟨v,q,rfl,hv,h2⟩:=h;obtain⟨t,ws,rfl,ht,x1,r1,rfl,⟨rfl,hz⟩,x2,r2,rfl,h4,h5⟩:=hv;cases(show r2= [] from h5)
  obtain⟨ts,vs,rfl,e1,e2,e3,e4⟩:=pairs_at h2;refine⟨t::ts,(p.1,x2)::vs,rfl,by simp [e1],fun i t' p' U Z=> ?_,by simp [e3],⟨_,_,rfl,h4,e4⟩⟩
  cases i with
  |zero=>
   cases U;cases Z;exact ht
  |succ i=>exact e2 i t' p' (by simpa using U) (by simpa using Z)
theorem prD_lw {l:List (Str×D)}(hN:∀p∈l,nm p.1=true)(hS:∀p∈l,ja p.2):lw (.tup (l.map prD))=true/\dp (.tup (l.map prD))<=16:=by
 have U:∀l:List (Str×D),(∀p∈l,nm p.1=true)->(∀p∈l,ja p.2)->lwL (l.map prD)=true/\dpL (l.map prD)<=14:=by
  intro l
  induction l with
  |nil=>exact fun _ _=>⟨rfl,by simp [dpL]⟩
  |cons p r ih=>
   intro h1 h2;obtain⟨i1,i2⟩:=ih (fun q Z=>h1 q (ue _ Z)) fun q Z=>h2 q (ue _ Z);have g1:=okN_all (nm_okN (h1 p (uo ..)));have g2:=h2 p (uo ..);have g3:=src_dp g2;refine⟨?_,?_⟩
   ·rw [ui];simp only [lwL,prD,lw,g1,g2.2.2,i1]
    rfl
   ·rw [ui];simp only [dpL,prD,dp];omega
 obtain⟨h1,h2⟩:=U l hN hS;exact⟨by simpa only [lw] using h1,by simp only [dp];omega⟩
def sp_looked (C:Addr):Sp:=fun vs H Q _=>∃(x t:Addr) (kind text:Str) (qs:List (Str×D)),vs= [.ref x,.ref t]/\Qp C H x qs/\yB qs/\H t=some (.tup [.str kind,.str text])/\text.length<=1000/\
 ((kind="has"/\Q (.str (if text∈qs.map (·.1) then "yes" else "no")) H)∨
  (kind="names"/\∀(v:V) (H':Hp),Same H H'->Is H' (rowD (rowG [] ((qs.map (·.1)).filter fun z=>Txt.startswith z text))) v->Q v H'))
theorem inrK_snoc (vs:List (Str×V))(z:Str)(v:V):inrK (vs++ [(z,v)])=inrK vs++ [(Sum.inr z,v)]:=by
 unfold inrK;rw [ud]
 rfl
theorem mapG {α β:Type}(f:α->β){l:List α}{i:Nat}(h:i<l.length):(l.map f)[i]? =some (f l[i]):=by
 rw [uk,u4 h]
 rfl
theorem take1 {α:Type}{l:List α}{i:Nat}(h:i<l.length):l.take (i+1)=l.take i++ [l[i]]:=by
 rw [ut,u4 h]
 rfl
theorem ok_init (T:Tx K mg a):FnOk P w K mg base CX0 4 a.ya a.y8 ["self","sources"] (sp_init a.qp):=by
 have jT:=ok_name (P:=P) (w:=w) (base:=base) T;have Z:=ok_source (P:=P) (w:=w) (base:=base) T;refine T.g_Project_init.F.ok Qm (by trivial) (fun _ _ _ _ H vs Q E hr h=> ?_)
 obtain⟨x,dx,t,ps,us,rfl,hx,ht,ao,hok,aI,k⟩:=h;have hs:=uv;refine⟨_,(@qc _ _ _ _ _ (@qt _ _ (2) _ _ _ _ Qm.nd rfl (Or.inr rfl) pe_dnewK (by trivial) (by trivial)) (@qc _ _ _ _ _ (@Qo _ _ _ _ _ _ _ _ uF rfl (@pi_tup _ _ _ _ (pv 1)) (@pg_tup _ _ _ _ _ _ rfl (QJ (@qq _ _ (3) _ Qm.nd rfl (Or.inl rfl) (by trivial)) (QJ (@qq _ _ (4) _ Qm.nd rfl (Or.inl rfl) (by trivial)) xJ)) (by trivial) (by trivial)) (@qc _ _ _ _ _ (@qO _ _ _ _ _ _ _ _ (@yH _ _ _ _ (@Q4 _ _ _ (@qj _ _ _ _ _ _ _ _ _ _ _ _ _ _ _ _ jT (hr.mono (by trivial)) (by rfl) T.g_is_name.m T.g_is_name.F.kp T.g_is_name.b .nil qu (@qa _ _ _ _ _ (pv 3) qb (by trivial)) (by trivial) (by trivial) (by trivial)) (by trivial))) (@qf _ _ _ YS) qw) (@qc _ _ _ _ _ (@qO _ _ _ _ _ _ _ _ (@yH _ _ _ _ (@Q4 _ _ _ (@qj _ _ _ _ _ _ _ _ _ _ _ _ _ _ _ _ Z (hr.mono (by trivial)) (by rfl) T.g_is_source.m T.g_is_source.F.kp T.g_is_source.b .nil qu (@qa _ _ _ _ _ (pv 4) qb (by trivial)) (by trivial) (by trivial) (by trivial)) (by trivial))) (@qf _ _ _ YS) qw) (@qc _ _ _ _ _ (@qO _ _ _ _ _ _ _ _ (@JM _ _ _ _ _ _ (@jI _ _ _ _ _ (yy hr) (pv 3) (pv 2)) (by trivial)) (@qf _ _ _ YS) qw) (@qc _ _ _ _ _ (@qO _ _ _ _ _ _ _ _ (@qo _ _ _ _ _ _ _ _ yF (@qk _ _ _ _ _ _ _ _ _ call_lenD (by rfl) T.QI uy (@qa _ _ _ _ _ (pv 2) qb (by trivial)) (by trivial) (by trivial) (by trivial) (by trivial)) (@pe_gI _ _ _ _ (by rfl) T.m_MOST_NAMES (by trivial)) (qx _)) (@qf _ _ _ YS) qw) (@qf _ _ _ (@ps_dput _ _ _ _ _ _ _ _ _ (yy hr) (pv 2) (pv 3) (pv 4) rfl)))))) (by trivial)) (@qf _ _ _ (@ps_fld _ _ _ _ _ _ _ _ (pv 0) (@qF _ _ _ _ _ _ _ _ _ (@call_dictF _ rfl) (by rfl) T.z_dict boot_dict (@qa _ _ _ _ _ (@Yp _ _ (["name","by_name"]) (1) ([2]) _ _ _ _ _ _ _ _ _ (lcsN (qi Qx) ["self","sources","by_name","name","source"]) rfl (@QD _ _ _ _ (@qk _ _ _ _ _ _ _ _ _ (@call_sortedD _ rfl) (by rfl) T.YT boot_sorted (@qa _ _ _ _ _ (pv 2) qb (by trivial)) (by trivial) (by trivial) (by trivial) (by trivial))) (fun _ _ _ _ _ _=>(@qq _ _ (0) _ (show List.Nodup (["name","by_name"]:List Str) by decide+kernel) rfl (Or.inl rfl) (by trivial))) (fun _ _ _ _ _ _=> @QS _) (fun _ _ _ _ _ _=>(@qP _ _ _ _ _ (@qa _ _ _ _ _ (pv 0) (@qa _ _ _ _ _ (@pe_dget _ _ _ _ _ _ (yy hr) (pv 1) (pv 0) (fun _ _=>rfl)) qb (by trivial)) (by trivial)))) (by trivial)) qb (by trivial)) (by trivial) (by trivial) (by trivial) (by trivial)) rfl)))),?_⟩
 intro d hd;have s1:Same H (upd H d (.dK [])):=qe hd _;have aJ:d≠x:=fun e=>by rw [e,hx] at hd;cases hd
 have ap:=ao.length;rw [u1] at ap;refine⟨_,rfl,t,rfl,⟨_,SqT.of (s1 _ _ ht)⟩,xZ (K:=K) (a:=t) (xs:=us) (fun i σ H'=>∃(vs:List (Str×V)) (nv sv:Option V),σ= [some (.ref x),some (.ref t),some (.ref d),nv,sv]/\Same H H'/\H' d=some (.dK (inrK vs))/\vs.map (·.1)=(ps.take i).map (·.1)/\L2.IsL H' ((ps.take i).map (·.2)) (vs.map (·.2)))
  ⟨[],none,none,rfl,s1,qd,rfl,rfl⟩ (fun i σ H' _ ⟨_,_,_,_,sm,_⟩=>SqT.of (sm _ _ ht)) ?_ ?_⟩
 ·rintro i y σ H' hi ⟨vs,nv,sv,rfl,sm,ad,hk,hv⟩;have aK:i<us.length:=(List.getElem?_eq_some_iff.mp hi).1;have aa:i<ps.length:=by omega
  obtain⟨v,e1,e2⟩:=ao.get (mapG prD aa);rw [hi] at e1;cases e1;have aq:=hok.2 _ (uj aa);have ay:nm ps[i].1=true:=hok.1.1 _ (List.mem_map.mpr ⟨_,uj aa,rfl⟩);obtain⟨⟨sk,sd,aL⟩,az,aM⟩:=aq;obtain⟨p,ws,rfl,hp,w1,r1,rfl,⟨rfl,hz⟩,w2,r2,rfl,h2,h3⟩:=e2;cases(show r2= [] from h3)
  have aA:=sm _ _ hp;refine⟨p,_,rfl,SqT.of aA,rfl,_,_,rfl,_,_,rfl,rfl,?_⟩;refine⟨_,rfl,_,.str ps[i].1,rfl,⟨rfl,hz⟩,fun H3 s3=>⟨_,rfl,iteN (by simp [isNm,ay]) ?_⟩⟩
  have au:Is H3 ps[i].2 w2:=h2.mono (sm.trans s3).tk;refine⟨_,rfl,w2,ps[i].2,rfl,au,src_okS (hok.2 _ (uj aa)),fun H4 s4=>⟨_,rfl,iteN (by rw [az];rfl) ?_⟩⟩
  have ag:=s3.trans s4;have ae:=ag _ _ ad;have nk:ps[i].1∉vs.map (·.1):=by
   rw [hk];have ac:=hok.1.2;have e:ps.map (·.1)=(ps.take i).map (·.1)++ps[i].1::(ps.drop (i+1)).map (·.1):=by
    rw [<-ui (f:=fun x:Str×D=>x.1),<-uD aa,<-ud,uu]
   rw [e,V0] at ac;exact fun m=>ac.2.2 _ m _ (uo ..) rfl
  have ev:=look0 nk;have aB:vs.length=i:=by
   have:=congrArg List.length hk;rw [u1,u1,uA] at this;omega
  refine⟨_,rfl,_,rfl,d,_,rfl,DGet.k (k:=Sum.inr ps[i].1) ae,_,rfl,iteN (by rw [ev];rfl) ?_⟩
  refine⟨_,rfl,d,_,rfl,ae,rfl,_,rfl,iteN (ua fun q=> ?_) ?_⟩
  ·have:=V.int.inj q;unfold inrK at this;rw [u1] at this;omega
  ·have aC:(inrK vs).length<sizeLine:=by
    unfold inrK;rw [u1];omega
   refine⟨_,rfl,_,rfl,_,rfl,d,_,rfl,DPut.k (k:=Sum.inr ps[i].1) ae aC,?_⟩;have tk:Tk H4 (upd H4 d (.dK (putK (inrK vs) (Sum.inr ps[i].1) w2))):=Tk.updD ae;refine⟨vs++ [(ps[i].1,w2)],_,_,rfl,?_,?_,?_,?_⟩
   ·intro b o e;rw [ql (qh e hd)];exact(sm.trans ag) _ _ e
   ·rw [qd,putK_new _ ev,inrK_snoc]
   ·rw [take1 aa,ud,ud,hk]
    rfl
   ·rw [take1 aa,ud,ud];exact(((hv.mono ag.tk).mono tk)).append (L2.IsL.one ((au.mono s4.tk).mono tk))
 ·rintro σ H1 ⟨vs,nv,sv,rfl,sm,ad,hk,hv⟩;rw [ap,uP] at hk hv;have aB:vs.length=ps.length:=by
   have:=congrArg List.length hk
   rwa [u1,u1] at this
  have ah:(inrK vs).map (·.1)=(ps.map (·.1)).map Sum.inr:=by rw [jS,hk]
  refine⟨_,rfl,d,inrK vs,ps.map (·.1),rfl,ad,ah,by rw [u1];omega,fun ms q U ai hq=>⟨q,rfl,⟨_,SqL.of qd⟩,fun A0 aj=> ?_⟩⟩
  have s2:Same H1 (upd H1 q (.lst (ms.map V.str))):=qe hq _;have aN:ms.length=ps.length:=by
   have:=U.length_eq
   rwa [u1] at this
  refine lc_strs (K:=K) (tl:= [some (.ref d)]) (fun i ys H'=>∃ts:List Addr,ys=ts.map V.ref/\ts.length=i/\Same H1 H'/\H' A0=some (.lst ys)/\∀(j:Nat) (t:Addr) (z:Str),ts[j]? =some t->ms[j]? =some z->H' t=some (.tup [.str z,yz vs z])) qd (by omega) aj
   ⟨[],rfl,rfl,s2.trans (qe aj _),qd,fun j t z h=>by simp at h⟩ ?_ ?_
  ·rintro i z ys H' hz ⟨ts,rfl,af,s3,hA,ak⟩ _ _ _ R r;have aD:z∈ps.map (·.1):=U.mem_iff.mp (uK hz);have lk:=look2 hk hv aD;refine⟨_,rfl,_,rfl,_,rfl,d,yz vs z,rfl,?_,(by show 2<=sizeLine;omega),fun t2 al=> ?_⟩
   ·have:=DGet.k (k:=Sum.inr z) (s3 _ _ ad);rw [lk.1] at this;exact this
   ·have s4:=qe al (.tup [V.str z,yz vs z]);have aE:t2≠A0:=fun e=>by rw [e,hA] at al;cases al
    refine r _ _ (s4 _ _ hA) (s4 _ _ (by assumption)) ⟨ts++ [t2],by rw [ud];rfl,by rw [u7,af];rfl,?_,qd,?_⟩
    ·intro b o e;have nb:b≠A0:=qh (s2 _ _ e) aj;rw [ql nb];exact s4 _ _ (s3 _ _ e)
    ·intro j t z' h1 h2;rcases vc j i with hj|hj
     ·rw [uR (by omega)] at h1
      have:=ak j t z' h1 h2;have nb:t≠A0:=fun e=>by rw [e,hA] at this;cases this
      rw [ql nb];exact s4 _ _ this
     ·have aF:j=i:=by
       have:=(List.getElem?_eq_some_iff.mp h1).1;rw [u7] at this;have:j<ts.length+1:=this;omega
      subst aF;rw [hz] at h2;cases h2;rw [uJ (by omega),af,Nat.sub_self] at h1
      cases h1;rw [ql aE];exact qd
  ·rintro ys H2 ⟨ts,rfl,af,s3,hA,ak⟩ _;have ac:=hok.1.2;have aG:ms.Nodup:=U.nodup_iff.mpr ac;have av:(ms.map fun z=>(z,yz vs z)).map (·.1)=ms:=by
    rw [uC];exact(vF fun _ _=>rfl).trans (List.map_id ms)
   refine⟨A0,ms.map fun z=>(z,yz vs z),rfl,⟨ts,hA,by rw [u1];exact af,fun j t p h1 h2=> ?_⟩,by rw [av];exact aG,by rw [u1];omega,fun q2 o am=> ?_⟩
   ·rw [uk] at h2;cases h3:ms[j]? with
    |none=>rw [h3] at h2;cases h2
    |some z=>
     rw [h3] at h2;cases h2;exact ak j t z h1 h3
   ·have s4:=qe am (.frz o (.dK (inrK (ms.map fun z=>(z,yz vs z)))));have aw:H1 x=some (.ins a.qp dx []):=sm _ _ hx;have ax:=s4 _ _ (s3 _ _ aw);have nq:q2≠x:=fun e=>by rw [e,s3 _ _ aw] at am;cases am
    refine⟨_,rfl,x,a.qp,dx,[],rfl,ax,T.qE,T.qQ,(by show 0<1000;decide),?_⟩
    refine k (tabOf ps ms) _ ?_ ⟨dx,q2,o,ms.map fun z=>(z,yz vs z),qd,by rw [ql nq];exact qd,by rw [av,xO],?_⟩ ⟨⟨?_,?_⟩,by rw [xO];exact ai,by unfold tabOf;rw [u1];omega⟩ (tab_perm ac U)
    ·intro b ob e nb;rw [ql nb];exact s4 _ _ (s3 _ _ (sm _ _ e))
    ·have tk:Tk H1 (upd (upd H2 q2 (.frz o (.dK (inrK (ms.map fun z=>(z,yz vs z)))))) x (.ins a.qp dx (putF "by_name" (.ref q2) []))):=(s3.trans s4).tk.trans (Tk.updI ax);have aH:∀l:List Str,(∀z∈l,z∈ps.map (·.1))->L2.IsL H1 ((tabOf ps l).map (·.2)) ((l.map fun z=>(z,yz vs z)).map (·.2)):=by
      intro l
      induction l with
      |nil=>exact fun _=>rfl
      |cons z r ih=>exact fun h=>⟨_,_,rfl,(look2 hk hv (h z (uo ..))).2,ih fun y hy=>h y (ue _ hy)⟩
     exact(aH ms fun z hz=>U.mem_iff.mp hz).mono tk
    ·rw [xO];exact hok.1.perm U
    ·intro p hp;exact hok.2 p ((tab_perm ac U).mem_iff.mp hp)
theorem fld_by {v:V}:List.lookup ("by_name":Str) [(("by_name":Str),v)]=some v:=by simp [List.lookup]
theorem QN {v:V}:List.lookup ("sources":Str) [(("by_name":Str),v)]=none:=by
 have:(("sources":Str)=="by_name")=false:=by decide+kernel
 simp [List.lookup,this]
theorem QA {v:V}:List.lookup ("source_of":Str) [(("by_name":Str),v)]=none:=by
 have:(("source_of":Str)=="by_name")=false:=by decide+kernel
 simp [List.lookup,this]
def sp_sources (C:Addr):Sp:=fun vs H Q _=>∃(x:Addr) (qs:List (Str×D)),vs= [.ref x]/\Qp C H x qs/\yB qs/\∀(v:V) (H':Hp),Same H H'->Is H' (.tup (qs.map prD)) v->Q v H'
def sp_sourceof (C:Addr):Sp:=fun vs H Q _=>∃(x:Addr) (z:Str) (qs:List (Str×D)),vs= [.ref x,.str z]/\Qp C H x qs/\∀v:V,(z∈qs.map (·.1)->Is H (qD qs z) v)->(z∉qs.map (·.1)->v= .non)->Q v H
theorem prs_is {H:Hp}{qs:List (Str×D)}{vs:List (Str×V)}{ts:List Addr}(U:vs.map (·.1)=qs.map (·.1))(hi:L2.IsL H (qs.map (·.2)) (vs.map (·.2)))(Z:ts.length=vs.length)(hz:∀p∈qs,p.1.length<=100)
  (ht:∀(j:Nat) (t:Addr) (p:Str×V),ts[j]? =some t->vs[j]? =some p->H t=some (.tup [.str p.1,p.2])):L2.IsL H (qs.map prD) (ts.map V.ref):=by
 induction qs generalizing vs ts with
 |nil=>
  have:vs= []:=by simpa using U
  subst this;have:ts= []:=by simpa using Z
  subst this
  rfl
 |cons q qs ih=>
  cases vs with
  |nil=>simp at U
  |cons v vs=>
   cases ts with
   |nil=>simp at Z
   |cons t ts=>
    simp only [ui,vz] at U;obtain⟨u,r,e2,h1,h2⟩:=hi;simp only [ui,vz] at e2;obtain⟨rfl,rfl⟩:=e2;have e0:=ht 0 t v rfl rfl;have hq:=hz q (uo ..);refine⟨_,_,rfl,⟨t,_,rfl,e0,⟨_,_,rfl,⟨by rw [U.1],fits (by omega)⟩,_,_,rfl,h1,rfl⟩⟩,ih U.2 h2 (by simpa using Z) (fun p hp=>hz p (ue _ hp)) fun j t' p h3 h4=>ht (j+1) t' p (by simpa using h3) (by simpa using h4)⟩
theorem Y2 {H:Hp}{qs:List (Str×D)}{vs:List (Str×V)}(U:vs.map (·.1)=qs.map (·.1))(hi:L2.IsL H (qs.map (·.2)) (vs.map (·.2)))(z:Str):(valV (inrK vs) (Sum.inr z)).isSome=decide (z∈qs.map (·.1)):=by
 by_cases c:z∈qs.map (·.1)
 ·rw [(look2 U hi c).1,u9 c]
  rfl
 ·rw [look0 (by rw [U];exact c),ua c]
  rfl
theorem yK (T:Tx K mg a):FnOk P w K mg base CX0 1 a.yc a.ye ["self"] (sp_sources a.qp):=by
 refine T.g_Project_sources.F.ok YJ (by trivial) (fun _ _ _ _ H vs Q E hr h=> ?_)
 obtain⟨x,qs,rfl,⟨dx,d,o,vs,Z,hd,hk,hv⟩,hT,k⟩:=h;refine⟨_,(@qf _ _ _ (@qr _ _ _ _ (@Yj _ _ _ _ _ _ _ _ rfl (by rfl) T.Qr U1 (@pe_fld _ _ _ _ _ (pv 0) rfl) (by trivial) (by trivial) (by trivial) (by trivial) (by trivial) (by trivial)))),?_⟩
 refine⟨_,rfl,x,a.qp,dx,_,_,rfl,Z,T.qE,T.qQ,fld_by,d,inrK vs,rfl,.inr ⟨o,hd⟩,fun t ts H2 s2 _ ht U=> ?_⟩;refine k _ H2 s2 ⟨t,_,rfl,ht,prs_is hk (hv.mono s2.tk) ?_ (fun p hp=> ?_) fun j t' p h1 h2=> ?_⟩
 ·have:=U.1;unfold inrK at this
  rwa [u1] at this
 ·have:=yW (hT.1.1.1 p.1 (List.mem_map.mpr ⟨p,hp,rfl⟩));omega
 ·have:=U.2 j t' (Sum.inr p.1,p.2) h1 (by unfold inrK;rw [uk,h2];rfl)
  exact this
theorem Yk (T:Tx K mg a):FnOk P w K mg base CX0 1 a.QW a.QU ["self","name"] (sp_sourceof a.qp):=by
 refine T.g_Project_source_of.F.ok yX (by trivial) (fun _ _ _ _ H vs Q E Z h=> ?_)
 obtain⟨x,z,qs,rfl,⟨dx,d,o,vs,hx,hd,U,hv⟩,k⟩:=h;refine⟨_,(@qf _ _ _ (@qr _ _ _ _ (@pe_dget1 _ _ _ _ _ _ _ (yy Z) (@pe_fld _ _ _ _ _ (pv 0) rfl) (pv 1) ⟨rfl,rfl,rfl,rfl⟩))),?_⟩;refine⟨_,rfl,x,a.qp,dx,_,_,rfl,hx,T.qE,T.qQ,fld_by,d,rfl,.inl ⟨_,.inr ⟨o,hd⟩⟩,_,rfl,_,.inl ⟨_,Sum.inr z,.inr ⟨o,hd⟩,rfl,rfl⟩,?_⟩;refine k _ (fun c=> ?_) fun c=> ?_
 ·exact(look2 U hv c).2
 ·rw [look0 (by rw [U];exact c)]
  rfl
theorem ok_looked (T:Tx K mg a):FnOk P w K mg base CX0 4 a.QY a.Q1 ["self","ask"] (sp_looked a.qp):=by
 have xN:=ok_longest (P:=P) (w:=w) (base:=base) T;refine T.g_Project_looked_up.F.ok yZ (by trivial) (fun _ _ _ _ H vs Q E hr h=> ?_)
 obtain⟨x,t,kind,text,qs,rfl,⟨dx,d,o,vs,hx,hd,hk,hv⟩,Z,ht,ad,h⟩:=h;have hs:=uv;refine⟨_,(@qc _ _ _ _ _ (@qO _ _ _ _ _ _ _ _ (@qo _ _ _ _ _ _ _ _ yF (@qL _ _ _ _ _ _ _ y7 (pv 1) qg (fun _ _=>rfl)) qG (qx _)) (@qf _ _ _ (@qr _ _ _ _ (@pe_ifExp _ _ _ _ _ _ _ _ (@JM _ _ _ _ _ _ (@jI _ _ _ _ _ (yy hr) (@qL _ _ _ _ _ _ _ y7 (pv 1) qg (fun _ _=>rfl)) (@pe_fld _ _ _ _ _ (pv 0) rfl)) (by trivial)) qG qG))) qw) (@qf _ _ _ (@qr _ _ _ _ (@qj _ _ _ _ _ _ _ _ _ _ _ _ _ _ _ _ xN (hr.mono (by trivial)) (by rfl) T.g_longest_row.m T.g_longest_row.F.kp T.g_longest_row.b .nil qu (@qa _ _ _ _ _ (@Yp _ _ (["name","ask"]) (1) ([1]) _ _ _ _ _ _ _ _ _ (lcsN (qi qW) ["self","ask"]) rfl (@pi_dicF _ _ _ _ (@pe_fld _ _ _ _ _ (pv 0) rfl)) (fun _ _ _ _ _ _=>(@qq _ _ (0) _ (show List.Nodup (["name","ask"]:List Str) by decide+kernel) rfl (Or.inl rfl) (by trivial))) (fun _ _ _ _ _ _=>(@Yi _ _ _ (@Q4 _ _ _ (@pe_bmK _ (K) _ _ _ _ _ _ _ _ _ _ _ rfl PySem.F.plainAttrs_str PySem.F.slot_str_startswith PySem.F.type_str_startswith mt_starts (pv 0) (@qa _ _ _ _ _ (@qL _ _ _ _ _ _ _ (@YW _ (K) rfl) (pv 1) qg (fun _ _=>rfl)) qb (by trivial)) (by trivial) (by trivial) (by trivial) (by trivial) (by trivial)) (by trivial)))) (fun _ _ _ _ _ _=>(pv 0)) (by trivial)) qb (by trivial)) (by trivial) (by trivial) (by trivial))))),?_⟩
 refine⟨_,rfl,t,_,_,_,rfl,rfl,SqT.of ht,rfl,rfl,_,rfl,?_⟩;rcases h with⟨rfl,k⟩|⟨rfl,k⟩
 ·refine iteB (u9 rfl) ?_;refine⟨_,rfl,t,_,_,_,rfl,rfl,SqT.of ht,rfl,_,rfl,x,a.qp,dx,_,_,rfl,hx,T.qE,T.qQ,fld_by,d,_,rfl,.inl ⟨_,Sum.inr text,.inr ⟨o,hd⟩,rfl,rfl⟩,_,rfl,?_⟩;rw [Y2 hk hv];by_cases c:text∈qs.map (·.1)
  ·rw [if_pos c] at k;exact iteB (u9 c) k
  ·rw [if_neg c] at k;exact iteN (ua c) k
 ·refine iteN (by decide+kernel) ?_
  have U:(inrK vs).map (·.1)=(qs.map (·.1)).map Sum.inr:=by rw [jS,hk]
  refine⟨_,rfl,x,a.qp,dx,_,_,rfl,hx,T.qE,T.qQ,fld_by,d,o,_,rfl,hd,fun A0 aa=> ?_⟩;refine lc_dicF (tl:= [some (.ref t)]) (fun z=>Txt.startswith z text) V.str hd U (by rw [u1];have:=Z.2.2;omega) aa (fun z H1 R hz s1 r=> ?_) (fun z H1 R hz s1 r=>⟨_,rfl,r⟩) fun H1 s1 h1=> ?_
  ·exact⟨_,rfl,rfl,_,rfl,t,_,_,_,rfl,rfl,SqT.of (s1 _ _ ht),rfl,z,text,rfl,rfl,_,rfl,r⟩
  ·refine⟨A0,_,rfl,h1,fun z hz=> ?_,?_,fun v H2 s2 ac=>k v H2 (s1.trans s2) ac⟩
   ·have:=yW (Z.1.1.1 z (List.mem_filter.mp hz).1);omega
   ·have:=U2 (fun z=>Txt.startswith z text) (qs.map (·.1));rw [u1] at this;have:=Z.2.2;omega
theorem lc_tupF {K:PySem.W.Frag}{b A:Addr}{H1:Hp}{tc:TT}{te:TE}{tl:L2.St}{Q:VK}{ds:List D}{vs:List V}(p:D->Bool)(ha:H1 b=some (.tup vs))(hl:L2.IsL H1 ds vs)(hn:ds.length<=sizeLine)(hA:H1 A=none)
  (aa:∀d x H (R:Bool->Hp->Prop),d∈ds->Same H1 H->Is H d x->R (p d) H->tc (some x::tl) H R)
  (ac:∀x H (R:VK),R x H->te (some x::tl) H R)
  (hQ:∀H' ys,Same H1 H'->H' A=some (.lst ys)->L2.IsL H' (ds.filter p) ys->Q (.ref A) H'):lcGo A (Itt K b) (QH 0) tc te (none::tl) H1 Q:=by
 have ln:=hl.length;refine⟨ds.length,fun i σ ys H=>(∃w,σ=w::tl)/\L2.IsL H ((ds.take i).filter p) ys/\Same H1 H,hn,⟨⟨none,rfl⟩,rfl,qe hA _⟩,?_,?_⟩
 ·rintro i σ ys H hi ⟨⟨w,rfl⟩,U,sm⟩ Z ae;have ad:i<vs.length:=by omega
  refine⟨⟨vs,vs[i],SqT.of (sm _ _ ha),u4 ad⟩,?_⟩;rintro x H' ⟨rfl,hx⟩;have e:=hx vs (SqT.of (sm _ _ ha));obtain⟨v,e1,e2⟩:=hl.get (u4 hi);rw [e] at e1;cases e1;have et:ds.take (i+1)=ds.take i++ [ds[i]]:=by rw [ut,u4 hi];rfl
  dsimp only [QH,List.set];refine aa ds[i] x H' _ (uj hi) sm (e2.mono sm.tk) ?_;cases hp:p ds[i] with
  |true=>
   refine iteT (ac x H' _ ⟨Z,⟨_,rfl⟩,?_,fun c o e=> ?_⟩)
   ·rw [et,vA];have: [ds[i]].filter p= [ds[i]]:=by simp [hp]
    rw [this];have t:Tk H' (upd H' A (.lst (ys++ [x]))):=Tk.updL Z;exact(U.mono t).append (L2.IsL.one ((e2.mono sm.tk).mono t))
   ·rw [ql (qh e hA)];exact sm _ _ e
  |false=>
   refine iteF ⟨Z,⟨_,rfl⟩,?_,sm⟩;rw [et,vA];have: [ds[i]].filter p= []:=by simp [hp]
   rw [this,vU];exact U
 ·rintro σ ys H ⟨_,U,sm⟩ Z;rw [uP] at U;exact⟨⟨vs,SqT.of (sm _ _ ha),by omega⟩,hQ H ys sm Z U⟩
def flt (qs:List (Str×D))(z:Str):List (Str×D):=qs.filter fun p=>decide (p.1≠z)
def keyD:D->Str
 | .tup (.str z::_)=>z
 |_=>""
theorem flt_prD (qs:List (Str×D))(z:Str):(qs.map prD).filter (fun d=>decide (keyD d≠z))=(flt qs z).map prD:=by
 unfold flt;rw [List.filter_map]
 rfl
theorem flt_not (qs:List (Str×D))(z:Str):z∉(flt qs z).map (·.1):=fun h=>by
 obtain⟨p,U,rfl⟩:=List.mem_map.mp h;have:=(List.mem_filter.mp U).2;simp at this
theorem flt_ok {qs:List (Str×D)}(h:PrOk qs)(z:Str):PrOk (flt qs z):=by
 refine⟨⟨fun y Z=> ?_,?_⟩,fun p U=>h.2 p (List.mem_filter.mp U).1⟩
 ·obtain⟨p,U,rfl⟩:=List.mem_map.mp Z;exact h.1.1 _ (List.mem_map.mpr ⟨p,(List.mem_filter.mp U).1,rfl⟩)
 ·exact h.1.2.sublist (List.filter_sublist.map _)
theorem flt_len (qs:List (Str×D))(z:Str):(flt qs z).length<=qs.length:=U2 ..
theorem pair_is {H:Hp}{p:Str×D}{x:V}(h:Is H (prD p) x):∃b v,x= .ref b/\H b=some (.tup [.str p.1,v])/\Is H p.2 v:=by
 obtain⟨b,ws,rfl,U,w1,r1,rfl,⟨rfl,_⟩,Z,r2,rfl,h2,h3⟩:=h;cases(show r2= [] from h3)
 exact⟨b,Z,rfl,U,h2⟩
theorem src_non {H:Hp}{d:D}{v:V}(h:ja d)(hi:Is H d v):v≠ .non:=by
 obtain⟨⟨k,e,rfl⟩,_⟩:=h;obtain⟨b,ws,rfl,_⟩:=hi;exact fun z=>by cases z
def sp_with (C:Addr):Sp:=fun vs H Q _=>∃(x:Addr) (z:Str) (v:V) (e:D) (qs:List (Str×D)),vs= [.ref x,.str z,v]/\Qp C H x qs/\yB qs/\Is H e v/\nm z=true/\ja e/\(flt qs z).length<60/\
 ∀(y:Addr) (rs:List (Str×D)) (H':Hp),Same H H'->Qp C H' y rs->yB rs->rs.Perm (flt qs z++ [(z,e)])->Q (.ref y) H'
def sp_without (C:Addr):Sp:=fun vs H Q _=>∃(x:Addr) (z:Str) (qs:List (Str×D)),vs= [.ref x,.str z]/\Qp C H x qs/\yB qs/\z∈qs.map (·.1)/\
 ∀(y:Addr) (rs:List (Str×D)) (H':Hp),Same H H'->Qp C H' y rs->yB rs->rs.Perm (flt qs z)->Q (.ref y) H'
theorem put_pr {qs:List (Str×D)}{z:Str}{e:D}(h:PrOk qs)(hn:nm z=true)(he:ja e):PrOk (flt qs z++ [(z,e)]):=by
 have hf:=flt_ok h z;refine⟨⟨fun y U=> ?_,?_⟩,fun p Z=> ?_⟩
 ·rw [ud] at U;rcases List.mem_append.mp U with U|U
  ·exact hf.1.1 y U
  ·cases List.mem_singleton.mp U;exact hn
 ·rw [ud,V0];refine⟨hf.1.2,by simp,fun a ha b hb e=> ?_⟩
  cases List.mem_singleton.mp hb;rw [e] at ha;exact flt_not qs z ha
 ·rcases List.mem_append.mp Z with Z|Z
  ·exact hf.2 p Z
  ·cases List.mem_singleton.mp Z;exact he
theorem ok_with (T:Tx K mg a):FnOk P w K mg base CX0 6 a.YM a.YV ["project","name","source"] (sp_with a.qp):=by
 have qX:=ok_init (P:=P) (w:=w) (base:=base) T;have qy:=yK (P:=P) (w:=w) (base:=base) T;refine T.g_with_source.F.ok y4 (by trivial) (fun _ _ _ _ H _ Q E hr h=> ?_)
 obtain⟨x,z,v,e,qs,rfl,hP,hT,hv,aa,he,ag,k⟩:=h;have hz:=yW aa;have hs:=uv;have ax:=hT.2.2;obtain⟨dx,dd,o,ws,hx,ah⟩:=id hP;refine⟨_,(@qc _ _ _ _ _ (@xD _ _ (["pair","name"]) (1) ([1]) (3) _ _ _ _ _ _ _ _ _ _ _ _ y4.nd rfl (Or.inl rfl) (lcsN (qi QK) ["project","name","source","others"]) rfl (@Yd _ _ _ _ (@yO _ _ _ _ _ _ _ _ _ _ _ _ _ _ _ _ _ (pv 0) T.qE T.g_Project_sources.h qy (hr.mono (by trivial)) T.g_Project_sources.b .nil qu (by trivial))) (fun _ _ _ _ _ _=>(@qq _ _ (0) _ (show List.Nodup (["pair","name"]:List Str) by decide+kernel) rfl (Or.inl rfl) (by trivial))) (fun _ _ _ _ _ _=>(@Yi _ _ _ (@qo _ _ _ _ _ _ _ _ op_ne (@qL _ _ _ _ _ _ _ (@YW _ (K) rfl) (pv 0) qg (fun _ _=>rfl)) (pv 1) (qx _)))) (fun _ _ _ _ _ _=>(pv 0)) (by trivial) (by trivial) (by trivial)) (@qf _ _ _ (@qr _ _ _ _ (@xY _ _ _ _ _ _ _ _ _ _ _ _ _ _ _ _ _ T.YB qX (hr.mono (by trivial)) (by rfl) T.Yy T.g_Project_init.b .nil qu (@qa _ _ _ _ _ (@qB _ _ _ _ _ _ _ _ Y7 (@qF _ _ _ _ _ _ _ _ _ qV (by rfl) T.Qr U1 (@qa _ _ _ _ _ (pv 3) qb (by trivial)) (by trivial) (by trivial) (by trivial) (by trivial)) (@qP _ _ _ _ _ (@qa _ _ _ _ _ (@qP _ _ _ _ _ (@qa _ _ _ _ _ (pv 1) (@qa _ _ _ _ _ (pv 2) qb (by trivial)) (by trivial))) qb (by trivial)))) qb (by trivial)) (by trivial) (by trivial) (by trivial))))),?_⟩
 refine⟨_,rfl,x,dx,_,rfl,hx,QN,x,qs,rfl,hP,hT,fun v1 H1 s1 ai=> ?_⟩;obtain⟨b1,aj,rfl,ac,U⟩:=ai;have ak:=U.length;rw [u1] at ak;refine⟨b1,aj,rfl,SqT.of ac,fun _ A0 al=> ?_⟩;refine lc_tupF (tl:= [some (.str z)]) (fun d=>decide (keyD d≠z)) ac U (by rw [u1];omega) al (fun d x1 H2 R hd s2 i2 r=> ?_) (fun x1 H2 R r=>⟨_,rfl,r⟩) fun H2 ys s2 hA iy=> ?_
 ·obtain⟨p,hp,rfl⟩:=List.mem_map.mp hd;obtain⟨b2,w2,rfl,am,_⟩:=pair_is i2;refine⟨_,rfl,b2,_,_,_,rfl,rfl,SqT.of am,rfl,_,rfl,rfl,_,rfl,?_⟩;have:(!decide (V.str p.1=V.str z))=decide (keyD (prD p)≠z):=by
   show(!decide (V.str p.1=V.str z))=decide (p.1≠z);by_cases c:p.1=z
   ·rw [c];simp
   ·rw [ua (fun q=>c (V.str.inj q)),u9 c];rfl
  rw [this];exact r
 rw [flt_prD] at iy;have ao:=iy.length;rw [u1] at ao;have ay:=flt_len qs z;have ad:=s1.trans s2;refine⟨_,rfl,A0,ys,rfl,.inl ⟨SqL.of hA,fun t1 h1=> ?_⟩⟩;have n1:=qe h1 (.tup ys);refine⟨_,rfl,_,rfl,(by show 2<=sizeLine;omega),fun t2 h2=> ?_⟩
 have n2:=qe h2 (.tup [V.str z,v]);have i2:Is (upd (upd H2 t1 (.tup ys)) t2 (.tup [V.str z,v])) (prD (z,e)) (.ref t2):=Is.new ⟨_,_,rfl,Y1 (z:=z) (by omega),_,_,rfl,hv.mono (ad.trans n1).tk,rfl⟩ h2
 refine cat1 (K:=K) (n2 _ _ qd) (by omega) fun p3 H3 s3 ap=> ?_
 have ae:=(n1.trans n2).trans s3;have af:L2.IsL H3 ((flt qs z++ [(z,e)]).map prD) (ys++ [V.ref t2]):=by
  rw [ud];exact(iy.mono ae.tk).append (L2.IsL.one (i2.mono s3.tk))
 intro y dy ny aq az;have m2:Same H3 (upd (upd H3 dy (.own y)) y (.ins a.qp dy [])):=fun b ob e=>by
  rw [ql (qh e ny),ql (qh e aq)];exact e
 have au:=ad.trans ae;refine⟨y,dy,p3,flt qs z++ [(z,e)],_,rfl,qd,m2 _ _ ap,af.mono m2.tk,put_pr hT.1 aa he,by rw [u7];exact ag,fun rs H4 keep av aw Z=>⟨rfl,?_⟩⟩
 have s4:Same H3 H4:=fun b ob e=>keep b ob (m2 _ _ e) (qh e ny);exact k y rs H4 (au.trans s4) av aw Z
theorem ok_without (T:Tx K mg a):FnOk P w K mg base CX0 6 a.f_without a.d_without ["project","name"] (sp_without a.qp):=by
 have qX:=ok_init (P:=P) (w:=w) (base:=base) T;have qy:=yK (P:=P) (w:=w) (base:=base) T;have qC:=Yk (P:=P) (w:=w) (base:=base) T;refine T.g_without.F.ok sc_without (by trivial) (fun _ _ _ _ H _ Q E hr h=> ?_)
 obtain⟨x,z,qs,rfl,hP,hT,c,k⟩:=h;have hs:=uv;have ao:=hT.2.2;obtain⟨dx,dd,o,ws,hx,ac⟩:=id hP;refine⟨_,(@qc _ _ _ _ _ (@qO _ _ _ _ _ _ _ _ (@qo _ _ _ _ _ _ _ _ op_isN (@Yc _ _ _ _ _ _ _ _ _ _ _ _ _ _ _ _ _ _ _ _ (pv 0) T.qE T.g_Project_source_of.h qC (hr.mono (by trivial)) T.g_Project_source_of.b .nil qu (@qa _ _ _ _ _ (pv 1) qb (by trivial)) (by trivial) (by trivial) (by trivial)) pe_non (qx _)) (@qf _ _ _ YS) qw) (@qf _ _ _ (@qr _ _ _ _ (@xY _ _ _ _ _ _ _ _ _ _ _ _ _ _ _ _ _ T.YB qX (hr.mono (by trivial)) (by rfl) T.Yy T.g_Project_init.b .nil qu (@qa _ _ _ _ _ (@qF _ _ _ _ _ _ _ _ _ qV (by rfl) T.Qr U1 (@qa _ _ _ _ _ (@Yp _ _ (["pair","name"]) (1) ([1]) _ _ _ _ _ _ _ _ _ (lcsN (qi YR) ["project","name"]) rfl (@Yd _ _ _ _ (@yO _ _ _ _ _ _ _ _ _ _ _ _ _ _ _ _ _ (pv 0) T.qE T.g_Project_sources.h qy (hr.mono (by trivial)) T.g_Project_sources.b .nil qu (by trivial))) (fun _ _ _ _ _ _=>(@qq _ _ (0) _ (show List.Nodup (["pair","name"]:List Str) by decide+kernel) rfl (Or.inl rfl) (by trivial))) (fun _ _ _ _ _ _=>(@Yi _ _ _ (@qo _ _ _ _ _ _ _ _ op_ne (@qL _ _ _ _ _ _ _ (@YW _ (K) rfl) (pv 0) qg (fun _ _=>rfl)) (pv 1) (qx _)))) (fun _ _ _ _ _ _=>(pv 0)) (by trivial)) qb (by trivial)) (by trivial) (by trivial) (by trivial) (by trivial)) qb (by trivial)) (by trivial) (by trivial) (by trivial))))),?_⟩
 refine⟨_,rfl,x,dx,_,rfl,hx,QA,_,rfl,x,z,qs,rfl,hP,fun v0 g1 g2=>⟨rfl,_,rfl,?_⟩⟩
 ·have ad:v0≠ .non:=src_non (hT.1.2 _ (jH hT.1.1.2 c)) (g1 c);refine iteN (ua ad) ?_;refine⟨_,rfl,x,dx,_,rfl,hx,QN,x,qs,rfl,hP,hT,fun v1 H1 s1 ae=> ?_⟩;obtain⟨b1,af,rfl,aa,U⟩:=ae;have ag:=U.length;rw [u1] at ag;refine⟨b1,af,rfl,SqT.of aa,fun _ A0 ah=> ?_⟩;refine lc_tupF (tl:= [some (.str z)]) (fun d=>decide (keyD d≠z)) aa U (by rw [u1];omega) ah (fun d x1 H2 R hd s2 i2 r=> ?_) (fun x1 H2 R r=>⟨_,rfl,r⟩) fun H2 ys s2 hA iy=> ?_
  ·obtain⟨p,hp,rfl⟩:=List.mem_map.mp hd;obtain⟨b2,w2,rfl,ai,_⟩:=pair_is i2;refine⟨_,rfl,b2,_,_,_,rfl,rfl,SqT.of ai,rfl,_,rfl,rfl,_,rfl,?_⟩;have:(!decide (V.str p.1=V.str z))=decide (keyD (prD p)≠z):=by
    show(!decide (V.str p.1=V.str z))=decide (p.1≠z);by_cases c:p.1=z
    ·rw [c];simp
    ·rw [ua (fun q=>c (V.str.inj q)),u9 c];rfl
   rw [this];exact r
  rw [flt_prD] at iy;have ap:=flt_len qs z;have aj:=s1.trans s2;refine⟨A0,ys,rfl,.inl ⟨SqL.of hA,fun t1 h1=> ?_⟩⟩;have n1:=qe h1 (.tup ys);intro y dy ny ak aq;have m2:Same (upd H2 t1 (.tup ys)) (upd (upd (upd H2 t1 (.tup ys)) dy (.own y)) y (.ins a.qp dy [])):=fun b ob e=>by
   rw [ql (qh e ny),ql (qh e ak)];exact e
  refine⟨y,dy,t1,flt qs z,ys,rfl,qd,m2 _ _ qd,iy.mono (n1.trans m2).tk,flt_ok hT.1 z,by omega,fun rs H4 keep al am Z=>⟨rfl,?_⟩⟩
  have s4:Same H2 H4:=fun b ob e=>keep b ob ((n1.trans m2) _ _ e) (qh (n1 _ _ e) ny);exact k y rs H4 (aj.trans s4) al am Z
theorem lc_pairs {K:PySem.W.Frag}{a A:Addr}{H1:Hp}{Q:VK}{te:TE}{ps:List (Str×D)}{vs:List V}(f:Str×D->D)(ha:H1 a=some (.tup vs))(hl:L2.IsL H1 (ps.map prD) vs)(hn:ps.length<=sizeLine)(hA:H1 A=none)
  (ac:∀p v H (R:VK),p∈ps->Same H1 H->Is H p.2 v->(∀y H',Same H H'->Is H' (f p) y->R y H')->te [some (.str p.1),some v] H R)
  (hQ:∀H' ys,Same H1 H'->H' A=some (.lst ys)->L2.IsL H' (ps.map f) ys->Q (.ref A) H'):lcGo A (Itt K a) (gTup K 2 (gCons (QH 0) (gCons (QH 1) gNil))) tYes te [none,none] H1 Q:=by
 have ln:vs.length=ps.length:=by rw [hl.length,u1]
 refine⟨ps.length,fun i σ ys H=>(∃w1 w2,σ= [w1,w2])/\L2.IsL H ((ps.take i).map f) ys/\Same H1 H,hn,⟨⟨none,none,rfl⟩,rfl,qe hA _⟩,?_,?_⟩
 ·rintro i σ ys H hi ⟨⟨w1,w2,rfl⟩,hy,U⟩ Z ag;refine⟨⟨vs,vs[i]'(by omega),SqT.of (U _ _ ha),u4 _⟩,fun x H' y=> ?_⟩
  obtain⟨rfl,y⟩:=y;obtain⟨v,e1,e2⟩:=hl.get (d:=prD ps[i]) (i:=i) (by rw [uk,u4 hi];rfl)
  have e3:=y vs (SqT.of (U _ _ ha));rw [e1] at e3;cases e3;obtain⟨b0,zs,rfl,ad,qv,r1,rfl,⟨rfl,ah⟩,cv,r2,rfl,ae,af⟩:=e2.mono U.tk;cases(show r2= [] from af)
  refine⟨b0,_,rfl,SqT.of ad,rfl,_,_,rfl,_,_,rfl,rfl,?_⟩;dsimp only [tYes];rw [if_pos rfl];refine ac ps[i] cv H' _ (uj hi) U ae fun y H4 s4 i4=> ?_;have aa:=s4 _ _ Z;refine⟨aa,⟨_,_,rfl⟩,?_,fun b o e=>by rw [ql (qh e hA)];exact s4 _ _ (U b o e)⟩
  have t:Tk H4 (upd H4 A (.lst (ys++ [y]))):=Tk.updL aa;have et:(ps.take (i+1)).map f=(ps.take i).map f++ [f ps[i]]:=by rw [ut,u4 hi,ud];rfl
  rw [et];exact((hy.mono s4.tk).mono t).append (L2.IsL.one (i4.mono t))
 ·rintro σ ys H ⟨_,hy,U⟩ Z;rw [uP] at hy;exact⟨⟨vs,SqT.of (U _ _ ha),V1 ln⟩,hQ H ys U Z hy⟩
theorem IsL.strsD {H:Hp}:∀{zs:List Str}{vs:List V},IsL H (zs.map D.str) vs->vs=zs.map V.str
 | [],vs,h=>h
 |z::r,vs,h=>by
  obtain⟨v,q,rfl,⟨rfl,_⟩,h2⟩:=h;rw [IsL.strsD h2]
  rfl
mutual
theorem lw_k:∀{d:D},lw d=true->kD d=true
 | .str z,_=>by simp [kD]
 | .tup xs,h=>by
  have:=lwL_k (xs:=xs) (by simpa [lw] using h)
  simpa [kD] using this
 | .non,h=>by simp [lw] at h
 | .int _,h=>by simp [lw] at h
 | .bl _,h=>by simp [lw] at h
 | .lst,h=>by simp [lw] at h
 | .dct,h=>by simp [lw] at h
theorem lwL_k:∀{xs:List D},lwL xs=true->kL xs=true
 | [],_=>by simp [kL]
 |x::r,h=>by
  have h':lw x=true/\lwL r=true:=by simpa [lwL] using h
  simp [kL,lw_k h'.1,lwL_k h'.2]
end
theorem QF:∀{qs:List (Str×D)}{z:Str},z∉qs.map (·.1)->qD qs z= .non
 | [],z,_=>rfl
 |p::r,z,h=>by
  have h1:¬p.1=z:=fun e=>h (by rw [<-e];exact uo ..)
  have h2:=QF (qs:=r) (z:=z) fun hm=>h (ue _ hm);unfold qD at h2⊢;rw [uV,ua h1];exact h2
theorem xv {qs:List (Str×D)}(h:PrOk qs)(z:Str):kD (qD qs z)=true/\dp (qD qs z)<=13:=by
 by_cases c:z∈qs.map (·.1)
 ·have U:=h.2 _ (jH h.1.2 c);exact⟨lw_k U.2.2,src_dp U⟩
 ·rw [QF c];exact⟨rfl,by simp [dp]⟩
theorem dat_is {H:Hp}{qs:List (Str×D)}{z:Str}{v:V}(h1:z∈qs.map (·.1)->Is H (qD qs z) v)(h2:z∉qs.map (·.1)->v= .non):Is H (qD qs z) v:=by
 by_cases c:z∈qs.map (·.1)
 ·exact h1 c
 ·rw [QF c,h2 c];exact(rfl:V.non=V.non)
def un (qs rs:List (Str×D))(z:Str):Bool:= !eqN (qD qs z) (qD rs z)
theorem un_iff {qs rs:List (Str×D)}(h:PrOk qs){z:Str}:un qs rs z=false↔qD qs z=qD rs z:=by
 unfold un;rw [UU,eqN_iff (kD_n (xv h z).1)]
theorem un_ne {qs rs:List (Str×D)}(h:PrOk qs){z:Str}:un qs rs z=true↔qD qs z≠qD rs z:=by
 rw [<-Bool.not_eq_false,un_iff h]
structure UnS (qs rs:List (Str×D))(ms:List Str):Prop where
 so:sortedS ms=true
 nd:ms.Nodup
 mem:∀z,z∈ms↔(z∈qs.map (·.1)∨z∈rs.map (·.1))/\un qs rs z=true
 len:ms.length<=120
theorem UnS.one {qs rs:List (Str×D)}{ms ns:List Str}(h:UnS qs rs ms)(g:UnS qs rs ns):ms=ns:=by
 refine yT h.so g.so ((List.perm_ext_iff_of_nodup h.nd g.nd).mpr fun z=> ?_);rw [h.mem,g.mem]
theorem UnS.swap {qs rs:List (Str×D)}{ms:List Str}(U:PrOk qs)(Z:PrOk rs)(h:UnS qs rs ms):UnS rs qs ms:=by
 refine⟨h.so,h.nd,fun z=> ?_,h.len⟩;rw [h.mem,un_ne U,un_ne Z,or_comm];exact and_congr_right fun _=>⟨fun a b=>a b.symm,fun a b=>a b.symm⟩
theorem xb {ms:List Str}(p:Str->Bool)(h:sortedS ms=true):sortedS (ms.filter p)=true:=sortedS_of_pairwise _ ((Jc h).sublist UF)
theorem catG_any {K:PySem.W.Frag}{H:Hp}{a b:Addr}{xs ys:List V}{Q:VK}(ha:H a=some (.tup xs))(U:H b=some (.tup ys))(Z:xs.length+ys.length<=sizeLine)(k:∀p H',Same H H'->H' p=some (.tup (xs++ys))->Q (.ref p) H'):rCatG K (.ref a) (.ref b) H Q:=by
 refine⟨a,b,xs,ys,rfl,rfl,SqT.of ha,SqT.of U,Z,fun e=> ?_,fun _ e=> ?_,fun _ _ p hp=>k p _ (qe hp _) qd⟩
 ·exact k b H (Same.refl _) (by rw [e];exact U)
 ·exact k a H (Same.refl _) (by rw [e,vU];exact ha)
theorem lc_strF {K:PySem.W.Frag}{a A:Addr}{H1:Hp}{tc:TT}{te:TE}{tl:L2.St}{Q:VK}{ls:List Str}(p:Str->Bool)(ha:H1 a=some (.lst (ls.map V.str)))(hn:ls.length<=sizeLine)(hA:H1 A=none)
  (aa:∀z H (R:Bool->Hp->Prop),z∈ls->Same H1 H->R (p z) H->tc (some (.str z)::tl) H R)
  (ac:∀x H (R:VK),R x H->te (some x::tl) H R)
  (hQ:∀H',Same H1 H'->H' A=some (.lst ((ls.filter p).map V.str))->Q (.ref A) H'):lcGo A (Itl K a) (QH 0) tc te (none::tl) H1 Q:=by
 refine⟨ls.length,fun i σ ys H=>(∃w,σ=w::tl)/\ys=((ls.take i).filter p).map V.str/\Same H1 H,hn,⟨⟨none,rfl⟩,rfl,qe hA _⟩,?_,?_⟩
 ·rintro i σ ys H hi ⟨⟨w,rfl⟩,rfl,Z⟩ U ad;have e0:(ls.map V.str)[i]? =some (V.str ls[i]):=by rw [uk,u4 hi];rfl
  refine⟨⟨_,_,SqL.of (Z _ _ ha),e0⟩,?_⟩;rintro x H' ⟨rfl,hx⟩;have e:=hx _ (SqL.of (Z _ _ ha));rw [e0] at e;cases e;have et:ls.take (i+1)=ls.take i++ [ls[i]]:=by rw [ut,u4 hi];rfl
  dsimp only [QH,List.set];refine aa ls[i] H' _ (uj hi) Z ?_;cases hp:p ls[i] with
  |true=>
   refine iteT (ac _ H' _ ⟨U,⟨_,rfl⟩,?_,fun c o e=> ?_⟩)
   ·rw [et,vA];have: [ls[i]].filter p= [ls[i]]:=by simp [hp]
    rw [this,ud]
    rfl
   ·rw [ql (qh e hA)];exact Z _ _ e
  |false=>
   refine iteF ⟨U,⟨_,rfl⟩,?_,Z⟩;rw [et,vA];have: [ls[i]].filter p= []:=by simp [hp]
   rw [this,vU]
 ·rintro σ ys H ⟨_,rfl,Z⟩ U;rw [uP] at U;exact⟨⟨_,SqL.of (Z _ _ ha),by rw [u1];exact u8 _⟩,hQ H Z U⟩
def sp_unlike (C:Addr):Sp:=fun vs H Q _=>∃(x y:Addr) (qs rs:List (Str×D)),vs= [.ref x,.ref y]/\Qp C H x qs/\yB qs/\Qp C H y rs/\yB rs/\∀(v:V) (ms:List Str) (H':Hp),Same H H'->Is H' (.tup (ms.map D.str)) v->UnS qs rs ms->Q v H'
theorem strs_is {H:Hp}{ms:List Str}(h:∀z∈ms,z.length<=1000):L2.IsL H (ms.map D.str) (ms.map V.str):=by
 induction ms with
 |nil=>exact rfl
 |cons z r U=>exact⟨_,_,rfl,Y1 (by have:=h z uo;omega),U fun y Z=>h y (ue _ Z)⟩
theorem ok_unlike (T:Tx K mg a):FnOk P w K mg base CX0 2 a.y3 a.y6 ["project","other"] (sp_unlike a.qp):=by
 have qy:=yK (P:=P) (w:=w) (base:=base) T;have qC:=Yk (P:=P) (w:=w) (base:=base) T;refine T.g_unlike_names.F.ok yG (by trivial) (fun _ _ _ _ H _ Q E hr h=> ?_)
 obtain⟨x,y,qs,rs,rfl,hP,hT,ae,U,k⟩:=h;have hs:=uv;have aD:=hT.2.2;have aE:=U.2.2;obtain⟨dx,dd,o,ws,hx,aj⟩:=id hP;obtain⟨dy,aF,o2,aG,hy,ai⟩:=id ae;have aa:∀z∈(qs++rs).map (·.1),z.length<=100:=fun z hz=>by
  rw [ud] at hz;rcases List.mem_append.mp hz with hz|hz
  ·have:=yW (hT.1.1.1 z hz);omega
  ·have:=yW (U.1.1.1 z hz);omega
 refine⟨_,(@qc _ _ _ _ _ (@xD _ _ (["name","source"]) (2) ([]) (2) _ _ _ _ _ _ _ _ _ _ _ _ yG.nd rfl (Or.inl rfl) (lcsN (qi Qc) ["project","other","names"]) rfl (@Yd _ _ _ _ (@qB _ _ _ _ _ _ _ _ Y7 (@yO _ _ _ _ _ _ _ _ _ _ _ _ _ _ _ _ _ (pv 0) T.qE T.g_Project_sources.h qy (hr.mono (by trivial)) T.g_Project_sources.b .nil qu (by trivial)) (@yO _ _ _ _ _ _ _ _ _ _ _ _ _ _ _ _ _ (pv 1) T.qE T.g_Project_sources.h qy (hr.mono (by trivial)) T.g_Project_sources.b .nil qu (by trivial)))) (fun _ _ _ _ _ _=>(@pg_tupK _ (K) _ _ _ (2) _ rfl rfl (QJ (@qq _ _ (0) _ (show List.Nodup (["name","source"]:List Str) by decide+kernel) rfl (Or.inl rfl) (by trivial)) (QJ (@qq _ _ (1) _ (show List.Nodup (["name","source"]:List Str) by decide+kernel) rfl (Or.inl rfl) (by trivial)) xJ)) (by trivial) (by trivial))) (fun _ _ _ _ _ _=> @QS _) (fun _ _ _ _ _ _=>(pv 0)) (by trivial) (by trivial) (by trivial)) (@qf _ _ _ (@qr _ _ _ _ (@qF _ _ _ _ _ _ _ _ _ qV (by rfl) T.Qr U1 (@qa _ _ _ _ _ (@Yp _ _ (["name","project","other"]) (1) ([0,1]) _ _ _ _ _ _ _ _ _ (lcsN (qi Qc) ["project","other","names"]) rfl (@QD _ _ _ _ (@qk _ _ _ _ _ _ _ _ _ (@call_sortedU _ rfl) (by rfl) T.YT boot_sorted (@qa _ _ _ _ _ (@qF _ _ _ _ _ _ _ _ _ (@call_setT _ rfl) (by rfl) T.z_set L2.boot_set (@qa _ _ _ _ _ (pv 2) qb (by trivial)) (by trivial) (by trivial) (by trivial) (by trivial)) qb (by trivial)) (by trivial) (by trivial) (by trivial) (by trivial))) (fun _ _ _ _ _ _=>(@qq _ _ (0) _ (show List.Nodup (["name","project","other"]:List Str) by decide+kernel) rfl (Or.inl rfl) (by trivial))) (fun _ _ _ _ _ _=>(@Yi _ _ _ (@qo _ _ _ _ _ _ _ _ (@xo _ hr.units) (@Yc _ _ _ _ _ _ _ _ _ _ _ _ _ _ _ _ _ _ _ _ (pv 1) T.qE T.g_Project_source_of.h qC (hr.mono (by trivial)) T.g_Project_source_of.b .nil qu (@qa _ _ _ _ _ (pv 0) qb (by trivial)) (by trivial) (by trivial) (by trivial)) (@Yc _ _ _ _ _ _ _ _ _ _ _ _ _ _ _ _ _ _ _ _ (pv 2) T.qE T.g_Project_source_of.h qC (hr.mono (by trivial)) T.g_Project_source_of.b .nil qu (@qa _ _ _ _ _ (pv 0) qb (by trivial)) (by trivial) (by trivial) (by trivial)) (qx _)))) (fun _ _ _ _ _ _=>(pv 0)) (by trivial)) qb (by trivial)) (by trivial) (by trivial) (by trivial) (by trivial))))),?_⟩
 refine⟨_,rfl,x,dx,_,rfl,hx,QN,x,qs,rfl,hP,hT,fun v1 H1 s1 ak=> ?_⟩;refine⟨_,rfl,y,dy,_,rfl,s1 _ _ hy,QN,y,rs,rfl,ae.same s1,U,fun v2 H2 s2 al=> ?_⟩;obtain⟨b1,am,rfl,ao,ac⟩:=ak.mono s2.tk;obtain⟨b2,ap,rfl,aq,ad⟩:=al;have l1:=ac.length;have l2:=ad.length;rw [u1] at l1 l2;refine catG_any ao aq (by omega) fun p3 H3 s3 af=> ?_
 have au:L2.IsL H3 ((qs++rs).map prD) (am++ap):=by
  rw [ud];exact(ac.append ad).mono s3.tk
 have av:=(s1.trans s2).trans s3;refine⟨p3,_,rfl,SqT.of af,fun _ A0 aw=> ?_⟩;refine lc_pairs (fun p=> .str p.1) af au (by rw [u7];omega) aw (fun p v H4 R hp s4 hv r=> ?_) fun H4 ys s4 hA ax=> ?_
 ·exact⟨_,rfl,r _ H4 (Same.refl _) (Y1 (by have:=aa p.1 (List.mem_map.mpr ⟨p,hp,rfl⟩);omega))⟩
 have ey:ys=((qs++rs).map (·.1)).map V.str:=IsL.strsD (by rw [uC];exact ax)
 subst ey;have ay:=av.trans s4;have aH:((qs++rs).map (·.1)).length<=120:=by rw [u1,u7];omega
 refine⟨_,rfl,A0,(qs++rs).map (·.1),rfl,SqL.of hA,by omega,fun q1 az=>⟨q1,_,rfl,qd,by omega,fun ms q2 nd mem so len ag=> ?_⟩⟩
 generalize hG:upd H4 q1 _=H5 at ag⊢;have s5:Same H4 H5:=by rw [<-hG];exact qe az _
 have s6:=s5.trans (qe ag (.lst (ms.map V.str)));have ah:=ay.trans s6;refine⟨q2,rfl,⟨_,SqL.of qd⟩,fun B0 aA=> ?_⟩;refine lc_strF (K:=K) (tl:= [some (.ref x),some (.ref y)]) (fun z=>un qs rs z) qd (by omega) aA (fun z H7 R hz s7 r=> ?_) (fun v H7 R r=>⟨_,rfl,r⟩) fun H7 s7 hB=> ?_
 ·have Z:=ah.trans s7;refine⟨_,rfl,x,dx,_,rfl,Z _ _ hx,QA,_,rfl,x,z,qs,rfl,hP.same Z,fun w1 a1 a2=> ?_⟩;refine⟨_,rfl,y,dy,_,rfl,Z _ _ hy,QA,_,rfl,y,z,rs,rfl,ae.same Z,fun w2 b1 b2=> ?_⟩;have e1:=xv hT.1 z;refine⟨_,_,dat_is a1 a2,dat_is b1 b2,e1.1,(xv U.1 z).1,by omega,_,rfl,r⟩
 ·have aI:(ms.filter fun z=>un qs rs z).length<=ms.length:=U2 ..;have aB:∀z∈ms.filter fun z=>un qs rs z,z.length<=1000:=fun z hz=>by have:=aa z ((mem z).mp (List.mem_filter.mp hz).1);omega
  refine⟨B0,_,rfl,.inl ⟨SqL.of hB,fun D0 aC=> ?_⟩⟩;refine k _ (ms.filter fun z=>un qs rs z) _ ((ah.trans s7).trans (qe aC _)) ⟨D0,_,rfl,qd,strs_is aB⟩ ⟨xb _ so,nd.sublist UF,fun z=> ?_,by omega⟩
  rw [List.mem_filter,mem,ud,Ud]
theorem no_meth {v:V}:List.lookup ("looked_up":Str) [(("by_name":Str),v)]=none:=by
 have:(("looked_up":Str)=="by_name")=false:=by decide+kernel
 simp [List.lookup,this]
def ansK (qs:List (Str×D))(k:Str×Str):D:=if k.1="has" then .str (if k.2∈qs.map (·.1) then "yes" else "no") else rowD (rowG [] ((qs.map (·.1)).filter fun z=>Txt.startswith z k.2))
def alk (qs rs:List (Str×D))(zs:List Str)(ks:List (Str×Str)):Bool:=zs.all (fun z=> !un qs rs z)&&ks.all (fun k=>eqN (ansK qs k) (ansK rs k))
def AskL (H:Hp)(us:List V)(ks:List (Str×Str)):Prop:=us.length=ks.length/\∀(i:Nat) (u:V) (k:Str×Str),us[i]? =some u->ks[i]? =some k->∃t,u= .ref t/\H t=some (.tup [.str k.1,.str k.2])
def okK (k:Str×Str):Prop:=(k.1="has"∨k.1="names")/\k.2.length<=1000
theorem row_k (zs:List Str):kD (rowD zs)=true/\dp (rowD zs)<=3:=by
 have h1:kL (zs.map D.str)=true:=by
  induction zs with
  |nil=>rfl
  |cons z r U=>simp [kL,kD,U]
 have h2:dpL (zs.map D.str)<=2:=by
  clear h1
  induction zs with
  |nil=>simp [dpL]
  |cons z r U=>simp only [ui,dpL,dp];omega
 refine⟨by simpa [rowD,kD] using h1,?_⟩
 simp only [rowD,dp];omega
theorem ans_k (qs:List (Str×D))(k:Str×Str):kD (ansK qs k)=true/\dp (ansK qs k)<=3:=by
 unfold ansK;split
 ·exact⟨rfl,by simp [dp]⟩
 ·exact row_k _
theorem lk_any {C:Addr}{H:Hp}{x t:Addr}{qs:List (Str×D)}{k:Str×Str}{Q:VK}{E:XK}(Z:Qp C H x qs)(hT:yB qs)(ht:H t=some (.tup [.str k.1,.str k.2]))(U:okK k)(q:∀v H',Same H H'->Is H' (ansK qs k) v->Q v H'):sp_looked C [.ref x,.ref t] H Q E:=by
 obtain⟨kind,text⟩:=k;obtain⟨U,hl⟩:=U;refine⟨x,t,kind,text,qs,rfl,Z,hT,ht,hl,?_⟩;dsimp only at U q;rcases U with rfl|rfl
 ·refine .inl ⟨rfl,q _ H (Same.refl _) ?_⟩;unfold ansK;rw [if_pos rfl];refine Y1 ?_;split<;>decide
 ·refine .inr ⟨rfl,fun v H' s' hv=>q v H' s' ?_⟩;unfold ansK;rw [if_neg (show¬(("names":Str)="has") by decide+kernel)]
  exact hv
def sp_alike (C:Addr):Sp:=fun vs H Q _=>∃(x y n t:Addr) (qs rs:List (Str×D)) (zs:List Str) (us:List V) (ks:List (Str×Str)),vs= [.ref x,.ref y,.ref n,.ref t]/\Qp C H x qs/\yB qs/\Qp C H y rs/\yB rs/\H n=some (.tup (zs.map V.str))/\H t=some (.tup us)/\AskL H us ks/\(∀k∈ks,okK k)/\∀H',Same H H'->Q (.bl (alk qs rs zs ks)) H'
theorem ok_alike (T:Tx K mg a):FnOk P w K mg base CX0 5 a.xc a.J1 ["project","other","names","asks"] (sp_alike a.qp):=by
 have qC:=Yk (P:=P) (w:=w) (base:=base) T;have Q0:=ok_looked (P:=P) (w:=w) (base:=base) T;refine T.g_alike_on.F.ok Ys (by trivial) (fun _ _ _ _ H _ Q E hr h=> ?_)
 obtain⟨x,y,n,t,qs,rs,zs,us,ks,rfl,hP,hT,ac,ae,hn,ht,hA,hK,k⟩:=h;have hs:=uv;obtain⟨dx,dd,o,ws,hx,ai⟩:=id hP;obtain⟨dy,ak,o2,al,hy,ah⟩:=id ac;refine⟨_,(@qc _ _ _ _ _ (@Qo _ _ _ _ _ _ _ _ uF rfl (@pi_tup _ _ _ _ (pv 2)) (@qq _ _ (4) _ Ys.nd rfl (Or.inl rfl) (by trivial)) (@qf _ _ _ (@qO _ _ _ _ _ _ _ _ (@qo _ _ _ _ _ _ _ _ (@xo _ hr.units) (@Yc _ _ _ _ _ _ _ _ _ _ _ _ _ _ _ _ _ _ _ _ (pv 0) T.qE T.g_Project_source_of.h qC (hr.mono (by trivial)) T.g_Project_source_of.b .nil qu (@qa _ _ _ _ _ (pv 4) qb (by trivial)) (by trivial) (by trivial) (by trivial)) (@Yc _ _ _ _ _ _ _ _ _ _ _ _ _ _ _ _ _ _ _ _ (pv 1) T.qE T.g_Project_source_of.h qC (hr.mono (by trivial)) T.g_Project_source_of.b .nil qu (@qa _ _ _ _ _ (pv 4) qb (by trivial)) (by trivial) (by trivial) (by trivial)) (qx _)) (@qf _ _ _ (@qr _ _ _ _ Q9)) qw)) (by trivial)) (@qc _ _ _ _ _ (@Qo _ _ _ _ _ _ _ _ uF rfl (@pi_tup _ _ _ _ (pv 3)) (@qq _ _ (5) _ Ys.nd rfl (Or.inl rfl) (by trivial)) (@qf _ _ _ (@qO _ _ _ _ _ _ _ _ (@qo _ _ _ _ _ _ _ _ (@xo _ hr.units) (@Yc _ _ _ _ _ _ _ _ _ _ _ _ _ _ _ _ _ _ _ _ (pv 0) T.qE T.g_Project_looked_up.h Q0 (hr.mono (by trivial)) T.g_Project_looked_up.b .nil qu (@qa _ _ _ _ _ (pv 5) qb (by trivial)) (by trivial) (by trivial) (by trivial)) (@Yc _ _ _ _ _ _ _ _ _ _ _ _ _ _ _ _ _ _ _ _ (pv 1) T.qE T.g_Project_looked_up.h Q0 (hr.mono (by trivial)) T.g_Project_looked_up.b .nil qu (@qa _ _ _ _ _ (pv 5) qb (by trivial)) (by trivial) (by trivial) (by trivial)) (qx _)) (@qf _ _ _ (@qr _ _ _ _ Q9)) qw)) (by trivial)) (@qf _ _ _ (@qr _ _ _ _ Q9)))),?_⟩
 refine⟨_,rfl,n,rfl,⟨_,SqT.of hn⟩,xZ (K:=K) (a:=n) (xs:=zs.map V.str) (fun i σ H'=>∃nv av:Option V,σ= [some (.ref x),some (.ref y),some (.ref n),some (.ref t),nv,av]/\H'=H/\(zs.take i).all (fun z=> !un qs rs z)=true) ⟨none,none,rfl,rfl,rfl⟩ (fun i σ H' _ ⟨_,_,_,e,_⟩=>by rw [e];exact SqT.of hn) ?_ ?_⟩
 ·rintro i z0 σ H' hi ⟨nv,av,rfl,rfl,U⟩;rw [uk] at hi;cases hz:zs[i]? with
  |none=>rw [hz] at hi;cases hi
  |some z=>
  rw [hz] at hi;cases hi;have e1:=xv hT.1 z;refine⟨_,rfl,x,dx,_,rfl,hx,QA,_,rfl,x,z,qs,rfl,hP,fun w1 a1 a2=> ?_⟩;refine⟨_,rfl,y,dy,_,rfl,hy,QA,_,rfl,y,z,rs,rfl,ac,fun w2 b1 b2=> ?_⟩;refine⟨_,_,dat_is a1 a2,dat_is b1 b2,e1.1,(xv ae.1 z).1,by omega,_,rfl,?_⟩
  have hu:(!eqN (qD qs z) (qD rs z))=un qs rs z:=rfl;rw [hu];cases c:un qs rs z with
  |true=>
   refine iteB rfl ?_;have:alk qs rs zs ks=false:=by
    have hm:zs.all (fun z=> !un qs rs z)=false:=by
     rw [Ut];exact⟨z,uK hz,by rw [c];simp⟩
    unfold alk;rw [hm]
    rfl
   have k0:=k H' (Same.refl _);rw [this] at k0;exact k0
  |false=>
   refine iteN rfl ?_;refine⟨_,_,rfl,rfl,?_⟩;rw [ut,hz,vw,U];simp [c]
 ·rintro σ H' ⟨nv,av,rfl,rfl,U⟩;rw [u1,uP] at U;refine⟨_,rfl,t,rfl,⟨_,SqT.of ht⟩,xZ (K:=K) (a:=t) (xs:=us) (fun i σ H2=>∃av:Option V,σ= [some (.ref x),some (.ref y),some (.ref n),some (.ref t),nv,av]/\Same H' H2/\(ks.take i).all (fun k=>eqN (ansK qs k) (ansK rs k))=true) ⟨_,rfl,Same.refl _,rfl⟩ (fun i σ H2 _ ⟨_,_,s2,_⟩=>SqT.of (s2 _ _ ht)) ?_ ?_⟩
  ·rintro i u0 σ H2 hi ⟨av,rfl,s2,Z⟩;have aj:=(List.getElem?_eq_some_iff.mp hi).1;have ad:i<ks.length:=by rw [<-hA.1];exact aj
   have ek:=u4 ad;obtain⟨t0,rfl,af⟩:=hA.2 i _ _ hi ek;have hok:=hK _ (uj ad);refine⟨_,rfl,x,dx,_,rfl,s2 _ _ hx,no_meth,_,rfl,?_⟩;unfold tNil;refine lk_any (hP.same s2) hT (s2 _ _ af) hok fun w1 H3 s3 i3=> ?_;have aa:=s2.trans s3;refine⟨_,rfl,y,dy,_,rfl,aa _ _ hy,no_meth,_,rfl,?_⟩;refine lk_any (ac.same aa) ae (aa _ _ af) hok fun w2 H4 s4 i4=> ?_;have ag:=aa.trans s4;have e1:=ans_k qs ks[i];refine⟨_,_,i3.mono s4.tk,i4,e1.1,(ans_k rs ks[i]).1,by omega,_,rfl,?_⟩
   cases c:eqN (ansK qs ks[i]) (ansK rs ks[i]) with
   |false=>
    refine iteB rfl ?_;have:alk qs rs zs ks=false:=by
     have hm:ks.all (fun k=>eqN (ansK qs k) (ansK rs k))=false:=by
      rw [Ut];exact⟨ks[i],uj ad,by rw [c];simp⟩
     unfold alk;rw [hm,Uz]
    have k0:=k H4 ag;rw [this] at k0;exact k0
   |true=>
    refine iteN rfl ⟨_,rfl,ag,?_⟩;rw [ut,ek,vw,Z];simp [c]
  ·rintro σ H2 ⟨av,rfl,s2,Z⟩;rw [hA.1,uP] at Z;have:alk qs rs zs ks=true:=by unfold alk;rw [U,Z];rfl
   have k0:=k H2 s2;rw [this] at k0;exact k0
def yJ (H:Hp)(d:Addr)(ps:List (Str×D)):Prop:=∃vs:List (Str×V),H d=some (.dK (inrK vs))/\vs.map (·.1)=ps.map (·.1)/\L2.IsL H (ps.map (·.2)) (vs.map (·.2))
theorem yJ.same {H H':Hp}{d:Addr}{ps:List (Str×D)}(h:yJ H d ps)(s:Same H H'):yJ H' d ps:=by
 obtain⟨vs,h1,h2,U⟩:=h;exact⟨vs,s _ _ h1,h2,U.mono s.tk⟩
theorem keysV (vs:List (Str×V)):((inrK vs).map fun p=>kV p.1)=(vs.map (·.1)).map V.str:=by
 unfold inrK;rw [uC,uC]
 rfl
theorem PrOk.perm {l m:List (Str×D)}(h:PrOk m)(p:l.Perm m):PrOk l:=⟨h.1.perm (p.map _),fun x U=>h.2 x (p.mem_iff.mp U)⟩
def fltV (vs:List (Str×V))(z:Str):List (Str×V):=vs.filter fun p=>decide (p.1≠z)
theorem drop_inr (vs:List (Str×V))(z:Str):dropK (inrK vs) (Sum.inr z)=inrK (fltV vs z):=by
 unfold dropK inrK fltV;rw [List.filter_map];refine congrArg (List.map _) (List.filter_congr fun p _=> ?_);simp
theorem flt_tbl {H:Hp}{z:Str}:∀{ps:List (Str×D)}{vs:List (Str×V)},vs.map (·.1)=ps.map (·.1)->L2.IsL H (ps.map (·.2)) (vs.map (·.2))->(fltV vs z).map (·.1)=(flt ps z).map (·.1)/\L2.IsL H ((flt ps z).map (·.2)) ((fltV vs z).map (·.2))
 | [],[],_,_=>⟨rfl,rfl⟩
 | [],_::_,e,_=>by simp at e
 |_::_,[],e,_=>by simp at e
 |p::ps,v::vs,e,h=>by
  simp only [ui,vz] at e;obtain⟨u,r,U,h1,h2⟩:=h;simp only [ui,vz] at U;obtain⟨rfl,rfl⟩:=U;obtain⟨Z,i2⟩:=flt_tbl (z:=z) e.2 h2;unfold fltV flt at*;rw [Ul,Ul];by_cases c:p.1=z
  ·rw [if_neg (by rw [e.1];simpa using c),if_neg (by simpa using c)]
   exact⟨Z,i2⟩
  ·rw [if_pos (by rw [e.1];simpa using c),if_pos (by simpa using c)]
   exact⟨by rw [ui,ui,Z,e.1],⟨_,_,rfl,h1,i2⟩⟩
def setP {β:Type}(ps:List (Str×β))(z:Str)(e:β):List (Str×β):=ps.map fun p=>if p.1=z then(p.1,e) else p
def putP {β:Type}(ps:List (Str×β))(z:Str)(e:β):List (Str×β):=if z∈ps.map (·.1) then setP ps z e else ps++ [(z,e)]
theorem put_inr (vs:List (Str×V))(z:Str)(v:V):putK (inrK vs) (Sum.inr z) v=inrK (putP vs z v):=by
 unfold putP;by_cases c:z∈vs.map (·.1)
 ·rw [if_pos c];unfold putK;rw [if_pos]
  ·unfold inrK setP;rw [uC,uC];refine vF fun p _=> ?_;by_cases h:p.1=z
   ·simp [h]
   ·simp [h]
  ·unfold inrK;rw [List.any_map,List.any_eq_true];obtain⟨p,U,e⟩:=List.mem_map.mp c;exact⟨p,U,by simp [e]⟩
 ·rw [if_neg c,putK_new _ (look0 c)];unfold inrK;rw [ud]
  rfl
theorem set_tbl {H:Hp}{z:Str}{U:D}{u:V}(Z:Is H U u):∀{ps:List (Str×D)}{vs:List (Str×V)},vs.map (·.1)=ps.map (·.1)->L2.IsL H (ps.map (·.2)) (vs.map (·.2))->(setP vs z u).map (·.1)=(setP ps z U).map (·.1)/\L2.IsL H ((setP ps z U).map (·.2)) ((setP vs z u).map (·.2))
 | [],[],_,_=>⟨rfl,rfl⟩
 | [],_::_,e,_=>by simp at e
 |_::_,[],e,_=>by simp at e
 |p::ps,v::vs,e,h=>by
  simp only [ui,vz] at e;obtain⟨u',r,e2,h1,h2⟩:=h;simp only [ui,vz] at e2;obtain⟨rfl,rfl⟩:=e2;obtain⟨i1,i2⟩:=set_tbl (z:=z) Z e.2 h2;rw [show setP (p::ps) z U=(if p.1=z then(p.1,U) else p)::setP ps z U from rfl,show setP (v::vs) z u=(if v.1=z then(v.1,u) else v)::setP vs z u from rfl]
  by_cases c:p.1=z
  ·rw [if_pos c,if_pos (e.1.trans c)];refine⟨?_,⟨_,_,rfl,Z,i2⟩⟩;rw [ui,ui,i1];exact congrArg (·::_) e.1
  ·rw [if_neg c,if_neg (fun q=>c (e.1.symm.trans q))];refine⟨?_,⟨_,_,rfl,h1,i2⟩⟩;rw [ui,ui,i1];exact congrArg (·::_) e.1
theorem put_tbl {H:Hp}{z:Str}{e:D}{u:V}(Z:Is H e u){ps:List (Str×D)}{vs:List (Str×V)}(U:vs.map (·.1)=ps.map (·.1))(hv:L2.IsL H (ps.map (·.2)) (vs.map (·.2))):(putP vs z u).map (·.1)=(putP ps z e).map (·.1)/\L2.IsL H ((putP ps z e).map (·.2)) ((putP vs z u).map (·.2)):=by
 unfold putP;by_cases c:z∈ps.map (·.1)
 ·rw [if_pos c,if_pos (by rw [U];exact c)]
  exact set_tbl Z U hv
 ·rw [if_neg c,if_neg (by rw [U];exact c)]
  refine⟨by rw [ud,ud,U];rfl,?_⟩
  rw [ud,ud];exact hv.append (L2.IsL.one Z)
theorem yJ.up {H:Hp}{d:Addr}{ps:List (Str×D)}{vs ws:List (Str×V)}(hd:H d=some (.dK (inrK vs)))(h1:ws.map (·.1)=ps.map (·.1))(h2:L2.IsL H (ps.map (·.2)) (ws.map (·.2))):yJ (upd H d (.dK (inrK ws))) d ps:=
 ⟨ws,qd,h1,h2.mono (Tk.updD hd)⟩
theorem set_keys {β:Type}(z:Str)(e:β):∀ps:List (Str×β),(setP ps z e).map (·.1)=ps.map (·.1)
 | []=>rfl
 |p::r=>by
  rw [show setP (p::r) z e=(if p.1=z then(p.1,e) else p)::setP r z e from rfl,ui,ui,set_keys z e r]
  split<;>rfl
theorem put_ok {ps:List (Str×D)}{z:Str}{d:D}(h:PrOk ps)(hn:nm z=true)(hd:ja d):PrOk (putP ps z d)/\(putP ps z d).length<=ps.length+1:=by
 unfold putP;by_cases c:z∈ps.map (·.1)
 ·rw [if_pos c];refine⟨⟨by rw [set_keys];exact h.1,fun p U=> ?_⟩,by unfold setP;rw [u1];omega⟩
  obtain⟨p0,aa,rfl⟩:=List.mem_map.mp U;split
  ·exact hd
  ·exact h.2 p0 aa
 ·rw [if_neg c];refine⟨⟨⟨fun y Z=> ?_,?_⟩,fun p U=> ?_⟩,by rw [u7];exact u8 _⟩
  ·rw [ud] at Z;rcases List.mem_append.mp Z with Z|Z
   ·exact h.1.1 y Z
   ·cases List.mem_singleton.mp Z;exact hn
  ·rw [ud,V0];refine⟨h.1.2,by simp,fun a ha b hb e=> ?_⟩
   cases List.mem_singleton.mp hb;rw [e] at ha;exact c ha
  ·rcases List.mem_append.mp U with U|U
   ·exact h.2 p U
   ·cases List.mem_singleton.mp U;exact hd
theorem bk_ok:∀k:Nat,k<12->nm ("b"++strI (k:Int))=true:=by decide+kernel
def mor (i:Nat):List Str:= ["a","q/1","b"++strI (0+(i:Int))]
def sp_changed (K:PySem.W.Frag):Sp:=fun vs H Q _=>∃(d q:Addr) (ps:List (Str×D)) (ns:List Int),vs= [.ref d,.ref q]/\yJ H d ps/\PrOk ps/\ps.length<=60/\SqL K H q (ns.map V.int)/\∀(d2:Addr) (rs:List (Str×D)) (H':Hp),H d2=none->Same H H'->yJ H' d2 rs->PrOk rs->rs.length<=60->Q (.ref d2) H'
theorem ok_changed (T:Tx K mg a):FnOk P w K mg base CX0 156 a.YI a.YA ["table","script"] (sp_changed K):=by
 have qm:=Yf (P:=P) (w:=w) (base:=base) T;have yj:=ok_pot (P:=P) (w:=w) (base:=base) T;have yA:=JR (P:=P) (w:=w) (base:=base) T;refine T.g_law_changed.F.ok qN (by trivial) (fun _ _ _ _ H vs Q E hr h=> ?_)
 obtain⟨d,q,ps,ns,rfl,⟨vs,hd,hk,aF⟩,hok,aG,hq,k⟩:=h;have hs:=uv;refine⟨_,(@qc _ _ _ _ _ (@qt _ _ (0) _ _ _ _ qN.nd rfl (Or.inl rfl) (@qF _ _ _ _ _ _ _ _ _ (@call_dictC _ rfl) (by rfl) T.z_dict boot_dict (@qa _ _ _ _ _ (pv 0) qb (by trivial)) (by trivial) (by trivial) (by trivial) (by trivial)) (by trivial) (by trivial)) (@qc _ _ _ _ _ (@Qo _ _ _ _ _ _ _ _ uF rfl (@Qj _ _ _ _ _ _ (by rfl) T.ym (@qa _ _ _ _ _ (@qk _ _ _ _ _ _ _ _ _ (@call_min2 _ rfl) (by rfl) T.z_min boot_min (@qa _ _ _ _ _ qg (@qa _ _ _ _ _ (@qk _ _ _ _ _ _ _ _ _ qJ (by rfl) T.QI uy (@qa _ _ _ _ _ (pv 1) qb (by trivial)) (by trivial) (by trivial) (by trivial) (by trivial)) qb (by trivial)) (by trivial)) (by trivial) (by trivial) (by trivial) (by trivial)) qb (by trivial)) (by trivial)) (@qq _ _ (2) _ qN.nd rfl (Or.inl rfl) (by trivial)) (@qc _ _ _ _ _ (@qt _ _ (3) _ _ _ _ qN.nd rfl (Or.inl rfl) (@qj _ _ _ _ _ _ _ _ _ _ _ _ _ _ _ _ yj (hr.mono (by trivial)) (by rfl) T.g_law_pot.m T.g_law_pot.F.kp T.g_law_pot.b .nil qu (@qa _ _ _ _ _ (@qL _ _ _ _ _ _ _ qH (pv 1) (pv 2) (fun _ _=>rfl)) (@qa _ _ _ _ _ (@qB _ _ _ _ _ _ _ _ QV qg (pv 2)) qb (by trivial)) (by trivial)) (by trivial) (by trivial) (by trivial)) (by trivial) (by trivial)) (@qc _ _ _ _ _ (@qt _ _ (4) _ _ _ _ qN.nd rfl (Or.inl rfl) (@qB _ _ _ _ _ _ _ _ op_cat (@qk _ _ _ _ _ _ _ _ _ js (by rfl) T.YT boot_sorted (@qa _ _ _ _ _ (@qF _ _ _ _ _ _ _ _ _ (@Y9 _ rfl) (by rfl) T.JO boot_list (@qa _ _ _ _ _ (pv 0) qb (by trivial)) (by trivial) (by trivial) (by trivial) (by trivial)) qb (by trivial)) (by trivial) (by trivial) (by trivial) (by trivial)) (@yi _ _ _ _ (@qa _ _ _ _ _ qG (@qa _ _ _ _ _ qG (@qa _ _ _ _ _ (@qB _ _ _ _ _ _ _ _ qR qG (@qF _ _ _ _ _ _ _ _ _ jo (by rfl) T.z_str boot_str (@qa _ _ _ _ _ (pv 2) qb (by trivial)) (by trivial) (by trivial) (by trivial) (by trivial))) qb (by trivial)) (by trivial)) (by trivial)))) (by trivial) (by trivial)) (@qc _ _ _ _ _ (@qt _ _ (5) _ _ _ _ qN.nd rfl (Or.inl rfl) (@qL _ _ _ _ _ _ _ qH (pv 4) (@qj _ _ _ _ _ _ _ _ _ _ _ _ _ _ _ _ qm (hr.mono (by trivial)) (by rfl) T.g_law_take.m T.g_law_take.F.kp T.g_law_take.b .nil qu (@qa _ _ _ _ _ (pv 3) (@qa _ _ _ _ _ (@qk _ _ _ _ _ _ _ _ _ qJ (by rfl) T.QI uy (@qa _ _ _ _ _ (pv 4) qb (by trivial)) (by trivial) (by trivial) (by trivial) (by trivial)) qb (by trivial)) (by trivial)) (by trivial) (by trivial) (by trivial)) (fun _ _=>rfl)) (by trivial) (by trivial)) (@qc _ _ _ _ _ (@qt _ _ (6) _ _ _ _ qN.nd rfl (Or.inl rfl) (@qj _ _ _ _ _ _ _ _ _ _ _ _ _ _ _ _ qm (hr.mono (by trivial)) (by rfl) T.g_law_take.m T.g_law_take.F.kp T.g_law_take.b .nil qu (@qa _ _ _ _ _ (pv 3) (@qa _ _ _ _ _ qg qb (by trivial)) (by trivial)) (by trivial) (by trivial) (by trivial)) (by trivial) (by trivial)) (@qf _ _ _ (@qO _ _ _ _ _ _ _ _ (@jV _ _ _ _ _ _ _ (@qo _ _ _ _ _ _ _ _ yF (pv 6) qg (qx _)) (@Yl _ _ _ _ (@JM _ _ _ _ _ _ (@jI _ _ _ _ _ (yy hr) (pv 5) (pv 0)) (by trivial)))).pt (@qf _ _ _ (@Jy _ _ _ _ (@pe_dpop1 _ _ _ _ _ _ _ (pv 0) (pv 5) ⟨rfl,rfl,rfl,rfl⟩) (by trivial))) (@qf _ _ _ (@qO _ _ _ _ _ _ _ _ (@jV _ _ _ _ _ _ _ (@qo _ _ _ _ _ _ _ _ yF (pv 6) qg (qx _)) (@Yl _ _ _ _ (@qo _ _ _ _ _ _ _ _ op_lt (@qk _ _ _ _ _ _ _ _ _ call_lenD (by rfl) T.QI uy (@qa _ _ _ _ _ (pv 0) qb (by trivial)) (by trivial) (by trivial) (by trivial) (by trivial)) qg (qx _)))).pt (@qf _ _ _ (@ps_dput _ _ _ _ _ _ _ _ _ (yy hr) (pv 0) (pv 5) (@qj _ _ _ _ _ _ _ _ _ _ _ _ _ _ _ _ yA (hr.mono (by trivial)) (by rfl) T.g_law_source.m T.g_law_source.F.kp T.g_law_source.b .nil qu (@qa _ _ _ _ _ (pv 3) (@qa _ _ _ _ _ (pv 4) qb (by trivial)) (by trivial)) (by trivial) (by trivial) (by trivial)) rfl)) (@qf _ _ _ (@qO _ _ _ _ _ _ _ _ (@JM _ _ _ _ _ _ (@jI _ _ _ _ _ (yy hr) (pv 5) (pv 0)) (by trivial)) (@qf _ _ _ (@ps_dput _ _ _ _ _ _ _ _ _ (yy hr) (pv 0) (pv 5) (@qP _ _ _ _ _ (@qa _ _ _ _ _ qG (@qa _ _ _ _ _ (pv 5) qb (by trivial)) (by trivial))) rfl)) qw)))))))))) (by trivial)) (@qf _ _ _ (@qr _ _ _ _ (pv 0))))),?_⟩
 refine⟨_,rfl,d,inrK vs,rfl,hd,fun U am=> ?_⟩;have s0:=qe am (.dK (inrK vs));have t0:yJ (upd H U (.dK (inrK vs))) U ps:=⟨vs,qd,hk,aF.mono s0.tk⟩;generalize upd H U (.dK (inrK vs))=H0 at s0 t0;refine⟨_,rfl,q,_,rfl,.inl (s0.seq hq),_,_,rfl,_,rfl,by omega,by omega,?_⟩
 refine QT (lo:=0) (fun i σ H'=>∃(rs:List (Str×D)) (v1 v2 v3 v4 v5:Option V),σ= [some (.ref U),some (.ref q),v1,v2,v3,v4,v5]/\Same H H'/\yJ H' U rs/\PrOk rs/\rs.length<=60) ⟨ps,none,none,none,none,none,rfl,s0,t0,hok,aG⟩ ?_ ?_
 ·rintro i σ H' hi ⟨rs,v1,v2,v3,v4,v5,rfl,sm,⟨ws,hD,ad,ao⟩,ae,ai⟩;have al:i<12/\i<ns.length:=by
   rw [u1] at hi;split at hi<;>omega
  have ei:atI (ns.map V.int) (0+(i:Int))=some (V.int ns[i]):=by
   rw [UM];exact Xc (by rw [uk,u4 al.2];rfl)
  refine⟨_,rfl,_,rfl,q,_,_,_,rfl,rfl,sm.seq hq,ei,_,rfl,_,_,rfl,rfl,_,_,rfl,by omega,by omega,fun p H1 hp s1 P1=> ?_⟩
  have aH:=s1 _ _ hD;have aw:H p=none:=sm.free hp;have ax:U≠p:=fun e=>by rw [<-e,hD] at hp;cases hp
  have aI:ws.length=rs.length:=by
   have:=congrArg List.length ad
   rwa [u1,u1] at this
  refine⟨_,rfl,U,inrK ws,rfl,.inl aH,fun l hl=>⟨l,rs.map (·.1),rfl,SqL.of (by rw [qd,keysV,ad]),by rw [u1];omega,fun ms q1 ay aJ aK=> ?_⟩⟩
  have s2:=(qe hl (.lst ((inrK ws).map fun p=>kV p.1))).trans (qe aK (.lst (ms.map V.str)));have aL:=ay.length_eq;rw [u1] at aL;have az:=bk_ok i al.1;have aM:=yW az;have aN:(0+(i:Int)).natAbs.log2<1920:=by
   rw [UM,Int.natAbs_natCast];exact vL (Nat.log2_le_self _) (by omega)
  have aO:("b":Str).length+(strI (0+(i:Int))).length<=sizeLine:=by
   rw [Q7] at aM;rw [UM];omega
  refine⟨_,rfl,_,rfl,aN,_,_,rfl,rfl,aO,(by show 3<=sizeLine;omega),fun B hB=> ?_⟩
  have n2:=qe hB (.lst ((mor i).map V.str));refine⟨q1,B,_,_,rfl,rfl,n2 _ _ qd,qd,by rw [u1];show ms.length+3<=_;omega,fun R hR=> ?_⟩
  have e0:ms.map V.str++ [V.str "a",V.str "q/1",V.str ("b"++strI (0+(i:Int)))]=(ms++(mor i)).map V.str:=by simp [mor]
  have aa:∀z∈ms++(mor i),nm z=true:=fun z hz=>by
   rcases List.mem_append.mp hz with h|h
   ·exact ae.1.1 z (ay.mem_iff.mp h)
   ·rcases List.mem_cons.mp h with rfl|h
    ·decide+kernel
    ·rcases List.mem_cons.mp h with rfl|h
     ·decide+kernel
     ·rw [List.mem_singleton.mp h,UM];exact az
  have aP:(ms++(mor i)).length=ms.length+3:=by rw [u7];rfl
  have n3:=qe hR (.lst (ms.map V.str++ [V.str "a",V.str "q/1",V.str ("b"++strI (0+(i:Int)))]));have ap:=(s2.trans n2).trans n3;have aq:upd (upd (upd (upd H1 l (.lst ((inrK ws).map fun p=>kV p.1))) q1 (.lst (ms.map V.str))) B (.lst ((mor i).map V.str))) R (.lst (ms.map V.str++ [V.str "a",V.str "q/1",V.str ("b"++strI (0+(i:Int)))])) R=some (.lst ((ms++(mor i)).map V.str)):=by rw [qd,e0]
  have au:p≠R:=((P1.same s2).same n2).free hR;have aA:=P1.same ap;generalize aU:ms++(mor i)=zs at aq aa aP;refine⟨_,rfl,_,rfl,_,rfl,R,_,rfl,.inl (SqL.of aq),p,_,rfl,aA,by rw [u1];omega,by rw [u1];omega,fun j1 H2 a1 b1 P2 K2=> ?_⟩
  have aB:=K2 _ _ aq au.symm;obtain⟨x1,aC⟩:=Qw (xs:=zs.map V.str) (i:=j1) a1 b1;obtain⟨Z,aQ,rfl⟩:=List.mem_map.mp (Q8 aC);refine⟨R,_,_,_,rfl,rfl,SqL.of aB,aC,?_⟩;have aj:=aa Z aQ;refine⟨_,rfl,p,3,rfl,P2,by decide,by decide,fun j2 H3 a2 b2 P3 K3=> ?_⟩
  have av:Kept p H' H3:=((s1.trans ap).kept.trans K2).trans K3;have aR:Same H H3:=av.same sm aw;have ac:H3 U=some (.dK (inrK ws)):=av _ _ hD ax;have ak:Tk H' H3:=(s1.trans ap).tk.trans (aA.tk P3 (K2.trans K3));have ag:=ao.mono ak;have aS:=K3 _ _ aB au.symm;have kk:=Y2 ad ao Z;have aV:(inrK ws).length=rs.length:=by unfold inrK;rw [u1];exact aI
  have fin:∀(xs:List (Str×V)) (ah:List (Str×D)) (H5:Hp),Kept p H3 H5->H5 U=some (.dK (inrK ws))->Tk H' H5->xs.map (·.1)=ah.map (·.1)->L2.IsL H5 (ah.map (·.2)) (xs.map (·.2))->PrOk ah->ah.length<=60->
    ∃rs v1 v2 v3 v4 v5,[some (V.ref U),some (V.ref q),some (V.int (0+(i:Int))),some (V.ref p),some (V.ref R),some (V.str Z),some (V.int j2)]= [some (V.ref U),some (V.ref q),v1,v2,v3,v4,v5]/\Same H (upd H5 U (.dK (inrK xs)))/\yJ (upd H5 U (.dK (inrK xs))) U rs/\PrOk rs/\rs.length<=60:=fun xs ah H5 k5 h5 t5 e1 e2 e3 e4=>
   ⟨ah,_,_,_,_,_,rfl,fun b o e=>by rw [ql (qh e am)];exact(av.trans k5).same sm aw b o e,yJ.up h5 e1 e2,e3,e4⟩
  have aD:∃rs v1 v2 v3 v4 v5,[some (V.ref U),some (V.ref q),some (V.int (0+(i:Int))),some (V.ref p),some (V.ref R),some (V.str Z),some (V.int j2)]= [some (V.ref U),some (V.ref q),v1,v2,v3,v4,v5]/\Same H H3/\yJ H3 U rs/\PrOk rs/\rs.length<=60:=⟨rs,_,_,_,_,_,rfl,aR,⟨ws,ac,ad,ag⟩,ae,ai⟩;have af:∀D:Ends,(∀σ H',(∃rs v1 v2 v3 v4 v5,σ= [some (V.ref U),some (V.ref q),v1,v2,v3,v4,v5]/\Same H H'/\yJ H' U rs/\PrOk rs/\rs.length<=60)->D.nx σ H')->tIfS (tB (tDIn (tVar 5) (tVar 0))) (sDPut (tVar 0) (tVar 5) (tTup (tCons (tC (V.str (Str.ofString "made"))) (tCons (tVar 5) tNil)))) tNext D [some (V.ref U),some (V.ref q),some (V.int (0+(i:Int))),some (V.ref p),some (V.ref R),some (V.str Z),some (V.int j2)] H3:=by
   intro D hN;refine⟨_,rfl,_,rfl,U,_,rfl,DGet.k (k:=Sum.inr Z) ac,_,rfl,?_⟩;rw [kk];by_cases c:Z∈rs.map (·.1)
   ·refine iteB (u9 c) ?_;refine⟨_,rfl,(by show 2<=sizeLine;omega),fun t ht=> ?_⟩
    have st:=qe ht (.tup [V.str "made",V.str Z]);have it:Is (upd H3 t (.tup [V.str "made",V.str Z])) (.tup [.str "made",.str Z]) (.ref t):=Is.new ⟨_,_,rfl,Y1 (by decide),_,_,rfl,Y1 (by have:=yW aj;omega),rfl⟩ ht
    have h5:=st _ _ ac;obtain⟨j3,j4⟩:=put_tbl (z:=Z) it ad (ag.mono st.tk);obtain⟨o1,o2⟩:=put_ok ae aj (src_made aj);have o3:(putP rs Z (.tup [.str "made",.str Z])).length<=60:=by
     unfold putP;rw [if_pos c];unfold setP;rw [u1];exact ai
    refine⟨_,rfl,_,rfl,U,_,rfl,DPut.k (k:=Sum.inr Z) h5 (by omega),?_⟩
    rw [put_inr];exact hN _ _ (fin _ _ _ st.kept h5 (ak.trans st.tk) j3 j4 o1 o3)
   ·exact iteN (ua c) (hN _ _ aD)
  refine⟨_,rfl,rfl,_,rfl,?_⟩;by_cases c0:j2=0
  ·refine iteB (u9 (by rw [c0])) ?_
   refine⟨_,rfl,_,rfl,U,_,rfl,DGet.k (k:=Sum.inr Z) ac,_,rfl,?_⟩;rw [kk];by_cases c:Z∈rs.map (·.1)
   ·refine iteB (u9 c) ?_;have lk:=look2 ad ag c;obtain⟨j3,j4⟩:=flt_tbl (z:=Z) ad ag;have:=flt_len rs Z;refine⟨_,rfl,U,rfl,.inl ⟨_,.inl ac⟩,_,rfl,inrK ws,Sum.inr Z,_,ac,rfl,lk.1,?_⟩;rw [drop_inr];exact fin _ _ _ (Same.refl _).kept ac ak j3 j4 (flt_ok ae Z) (by omega)
   ·refine iteN (ua c) ?_;exact⟨_,rfl,rfl,_,rfl,iteN (ua (fun e=>by have:=V.int.inj e;omega)) (af _ fun _ _ h=>h)⟩
  ·refine iteN (ua (fun e=>c0 (V.int.inj e))) ?_;refine⟨_,rfl,rfl,_,rfl,?_⟩;by_cases c1:j2=1
   ·refine iteB (u9 (by rw [c1])) ?_
    refine⟨_,rfl,U,_,rfl,ac,_,_,rfl,rfl,_,rfl,?_⟩;by_cases c2:((inrK ws).length:Int)<59
    ·refine iteB (u9 c2) ?_;refine⟨_,rfl,_,rfl,p,R,zs,rfl,P3,aS,au,aa,by omega,fun v6 e6 H6 i6 aT P6 K6=> ?_⟩
     have h5:H6 U=some (.dK (inrK ws)):=K6 _ _ ac ax;have aE:=ak.trans (P3.tk P6 K6);obtain⟨j3,j4⟩:=put_tbl (z:=Z) i6 ad (ao.mono aE);obtain⟨o1,o2⟩:=put_ok ae aj aT;refine⟨_,rfl,_,rfl,U,_,rfl,DPut.k (k:=Sum.inr Z) h5 (by omega),?_⟩
     rw [put_inr];exact fin _ _ _ K6 h5 aE j3 j4 o1 (by omega)
    ·exact iteN (ua c2) (af _ fun _ _ h=>h)
   ·exact iteN (ua (fun e=>c1 (V.int.inj e))) (af _ fun _ _ h=>h)
 ·rintro σ H' ⟨rs,v1,v2,v3,v4,v5,rfl,sm,tb,ae,ai⟩;exact⟨_,rfl,k U rs H' am sm tb ae ai⟩
def sp_row (K:PySem.W.Frag):Sp:=fun vs H Q _=>∃(d:Addr) (ps:List (Str×D)) (text:Str),vs= [.ref d,.str text]/\yJ H d ps/\PrOk ps/\ps.length<=60/\text.length<=1000/\
 ∀(ms:List Str) (v:V) (H':Hp),ms.Perm (ps.map (·.1))->sortedS ms=true->Same H H'->Is H' (rowD (rowG [] (ms.filter fun z=>Txt.startswith z text))) v->Q v H'
def sp_lalike (K:PySem.W.Frag):Sp:=fun vs H Q _=>∃(d e n L:Addr) (ps rs qs ts:List (Str×D)) (zs:List Str) (us:List V) (ks:List (Str×Str)),vs= [.ref d,.ref e,.ref n,.ref L]/\yJ H d ps/\PrOk ps/\ps.length<=60/\yJ H e rs/\PrOk rs/\rs.length<=60/\qs.Perm ps/\sortedS (qs.map (·.1))=true/\ts.Perm rs/\sortedS (ts.map (·.1))=true/\H n=some (.tup (zs.map V.str))/\H L=some (.lst us)/\AskL H us ks/\(∀k∈ks,okK k)/\∀H',Same H H'->Q (.bl (alk qs ts zs ks)) H'
theorem xM {H:Hp}{ps qs:List (Str×D)}{vs:List (Str×V)}(hn:(ps.map (·.1)).Nodup)(U:vs.map (·.1)=ps.map (·.1))(hv:L2.IsL H (ps.map (·.2)) (vs.map (·.2)))(Z:qs.Perm ps)(z:Str):Is H (qD qs z) (yz vs z)/\(valV (inrK vs) (Sum.inr z)).getD .non=yz vs z:=by
 refine⟨?_,rfl⟩;by_cases c:z∈ps.map (·.1)
 ·rw [dat_perm hn Z c];exact(look2 U hv c).2
 ·rw [QF (fun h=>c ((Z.map _).mem_iff.mp h))];unfold yz;rw [look0 (by rw [U];exact c)]
  exact(rfl:V.non=V.non)
theorem ok_row (T:Tx K mg a):FnOk P w K mg base CX0 154 a.f_law_row a.d_law_row ["table","text"] (sp_row K):=by
 have yw:=jM (P:=P) (w:=w) (base:=base) T;refine T.g_law_row.F.ok yN (by trivial) (fun _ _ _ _ H vs Q E hr h=> ?_)
 obtain⟨L,ps,text,rfl,⟨vs,hd,hk,am⟩,hok,hn,ao,k⟩:=h;have hs:=uv;refine⟨_,(@qc _ _ _ _ _ (@qt _ _ (2) _ _ _ _ yN.nd rfl (Or.inl rfl) (@qP _ _ _ _ _ qb) (by trivial) (by trivial)) (@qc _ _ _ _ _ (@Qo _ _ _ _ _ _ _ _ uF rfl (@QD _ _ _ _ (@qk _ _ _ _ _ _ _ _ _ js (by rfl) T.YT boot_sorted (@qa _ _ _ _ _ (@qF _ _ _ _ _ _ _ _ _ (@Y9 _ rfl) (by rfl) T.JO boot_list (@qa _ _ _ _ _ (pv 0) qb (by trivial)) (by trivial) (by trivial) (by trivial) (by trivial)) qb (by trivial)) (by trivial) (by trivial) (by trivial) (by trivial))) (@qq _ _ (3) _ yN.nd rfl (Or.inl rfl) (by trivial)) (@qf _ _ _ (@qO _ _ _ _ _ _ _ _ (@jV _ _ _ _ _ _ _ (@qo _ _ _ _ _ _ _ _ yF (@YE _ _ _ _ _ _ _ _ _ _ sl_str (pv 3) Jl (@Jm _ _ _ (@qk _ _ _ _ _ _ _ _ _ Qg (by rfl) T.QI uy (@qa _ _ _ _ _ (pv 1) qb (by trivial)) (by trivial) (by trivial) (by trivial) (by trivial)))) (pv 1) (qx _)) (@Yl _ _ _ _ (@qo _ _ _ _ _ _ _ _ op_lt (@qk _ _ _ _ _ _ _ _ _ qJ (by rfl) T.QI uy (@qa _ _ _ _ _ (pv 2) qb (by trivial)) (by trivial) (by trivial) (by trivial) (by trivial)) qg (qx _)))).pt (@qc _ _ _ _ _ (@qO _ _ _ _ _ _ _ _ (@yH _ _ _ _ (@Q4 _ _ _ (@qj _ _ _ _ _ _ _ _ _ _ _ _ _ _ _ _ yw (hr.mono (by trivial)) (by rfl) T.g_law_is_tree.m T.g_law_is_tree.F.kp T.g_law_is_tree.b .nil qu (@qa _ _ _ _ _ (@qB _ _ _ _ _ _ _ _ Y7 (pv 2) (@qP _ _ _ _ _ (@qa _ _ _ _ _ (pv 3) qb (by trivial)))) qb (by trivial)) (by trivial) (by trivial) (by trivial)) (by trivial))) (@qf _ _ _ (@qr _ _ _ _ (pv 2))) qw) (@qf _ _ _ (@qt _ _ (2) _ _ _ _ yN.nd rfl (Or.inl rfl) (@qB _ _ _ _ _ _ _ _ Y7 (pv 2) (@qP _ _ _ _ _ (@qa _ _ _ _ _ (pv 3) qb (by trivial)))) (by trivial) (by trivial)))) qw)) (by trivial)) (@qf _ _ _ (@qr _ _ _ _ (pv 2))))),?_⟩
 refine⟨(by show 0<=sizeLine;omega),fun q hq=> ?_⟩
 have s1:Same H (upd H q (.tup [])):=qe hq _;refine⟨_,rfl,L,inrK vs,rfl,.inl (s1 _ _ hd),fun l hl=>⟨l,ps.map (·.1),rfl,SqL.of (by rw [qd,keysV,hk]),by rw [u1];omega,fun ms r Z aa aj=>⟨r,rfl,⟨_,SqL.of qd⟩,?_⟩⟩⟩
 have s2:=(qe hl (.lst ((inrK vs).map fun p=>kV p.1))).trans (qe aj (.lst (ms.map V.str)));have ak:=Z.length_eq;rw [u1] at ak;have af:=hok.1.perm Z;have al:∀l:List Str,dp (rowD l)<=150:=fun l=>by
  have:∀l:List Str,dpL (l.map D.str)<=1:=by
   intro l
   induction l with
   |nil=>simp [dpL]
   |cons z r ih=>simp only [ui,dpL,dp];omega
  have:=this l;unfold rowD;simp only [dp];omega
 refine yS (K:=K) (a:=r) (xs:=ms.map V.str) (fun i σ H'=>∃(U:List Str) (p:Addr) (kv:Option V),σ= [some (.ref L),some (.str text),some (.ref p),kv]/\H' p=some (.tup (U.map V.str))/\Same H H'/\H' r=some (.lst (ms.map V.str))/\rowG U ((ms.drop i).filter fun z=>Txt.startswith z text)=rowG [] (ms.filter fun z=>Txt.startswith z text)/\U.length<=i/\∀z∈U,z∈ms)
  ⟨[],q,none,rfl,s2 _ _ qd,s1.trans s2,qd,rfl,u8 _,fun z h=>nomatch h⟩ (fun i σ H' _ ⟨_,_,_,_,_,_,h,_⟩=>SqL.of h) ?_ ?_
 ·rintro i y σ H' hi ⟨U,p,kv,rfl,hp,sm,ag,hg,hl,hm⟩;have ad:i<ms.length:=by
   have:=(List.getElem?_eq_some_iff.mp hi).1
   rwa [u1] at this
  rw [mapG V.str ad] at hi;cases hi;have ap:=yW (af.1 _ (uj ad));rw [uD ad,Ul] at hg;refine⟨_,rfl,_,rfl,text,rfl,by omega,_,rfl,_,rfl,by omega,_,rfl,rfl,_,rfl,?_⟩
  have ah:∀z∈U++ [ms[i]],z∈ms:=fun z h=>by
   rcases List.mem_append.mp h with h|h
   ·exact hm z h
   ·rw [List.mem_singleton.mp h];exact uj ad
  have ac:∀z∈ms,z.length<=100:=fun z h=>by have:=yW (af.1 z h);omega
  have hsz:(U.map V.str).length+1<=sizeLine:=by rw [u1];omega
  have em:U.map V.str++ [V.str ms[i]]=(U++ [ms[i]]).map V.str:=by simp
  cases ae:Txt.startswith ms[i] text with
  |false=>
   rw [if_neg (by rw [ae];exact uf)] at hg
   refine iteN (by rw [<-starts_eq];exact ae) ?_
   exact⟨U,p,_,rfl,hp,sm,ag,hg,by omega,hm⟩
  |true=>
   rw [if_pos ae] at hg;rw [show rowG U (ms[i]::(ms.drop (i+1)).filter fun z=>Txt.startswith z text)=if isT (rowD (U++ [ms[i]]))=true then rowG (U++ [ms[i]]) ((ms.drop (i+1)).filter fun z=>Txt.startswith z text) else U from rfl] at hg
   refine iteB (by rw [<-starts_eq];exact ae) ?_
   refine⟨_,rfl,p,_,rfl,.inr (SqT.of hp),_,_,rfl,rfl,_,rfl,iteB (u9 (by rw [u1];omega)) ?_⟩
   refine⟨_,rfl,_,rfl,cat1 hp hsz fun p2 H3 s3 h3=>⟨_,rowD (U++ [ms[i]]),rfl,xj (by rw [h3,em]) fun z h=>ac z (ah z h),al _,fun H4 s4=>⟨_,rfl,?_⟩⟩⟩
   cases ai:isT (rowD (U++ [ms[i]])) with
   |false=>
    rw [if_neg (by rw [ai];exact uf)] at hg
    refine iteT ⟨_,rfl,k ms _ H4 Z aa ((sm.trans s3).trans s4) ?_⟩;rw [<-hg];exact xj (s4 _ _ (s3 _ _ hp)) fun z h=>ac z (hm z h)
   |true=>
    rw [if_pos ai] at hg;refine iteF ⟨_,rfl,_,rfl,cat1 (s4 _ _ (s3 _ _ hp)) hsz fun p5 H5 s5 h5=> ?_⟩;exact⟨U++ [ms[i]],p5,_,rfl,by rw [h5,em],((sm.trans s3).trans s4).trans s5,s5 _ _ (s4 _ _ (s3 _ _ ag)),hg,by rw [u7];show U.length+1<=i+1;omega,ah⟩
 ·rintro σ H' ⟨U,p,kv,rfl,hp,sm,ag,hg,hl,hm⟩;refine⟨_,rfl,k ms _ H' Z aa sm ?_⟩;rw [u1,List.drop_length] at hg;rw [<-hg];exact xj hp fun z h=>by have:=yW (af.1 z (hm z h));omega
theorem ok_lalike (T:Tx K mg a):FnOk P w K mg base CX0 155 a.jY a.Jn ["one","other","names","asks"] (sp_lalike K):=by
 have U:=ok_row (P:=P) (w:=w) (base:=base) T;refine T.g_law_alike.F.ok Q3 (by trivial) (fun _ _ _ _ H vs Q E hr h=> ?_)
 obtain⟨d,e,n,L,ps,rs,qs,ts,zs,us,ks,rfl,hD,ad,am,hE,ae,ao,pq,sq,pt,st,hn,hL,hA,hK,k⟩:=h;have hs:=uv;have ap:PrOk qs:=ad.perm pq;have aq:PrOk ts:=ae.perm pt;refine⟨_,(@qc _ _ _ _ _ (@Qo _ _ _ _ _ _ _ _ uF rfl (@pi_tup _ _ _ _ (pv 2)) (@qq _ _ (4) _ Q3.nd rfl (Or.inl rfl) (by trivial)) (@qf _ _ _ (@qO _ _ _ _ _ _ _ _ (@qo _ _ _ _ _ _ _ _ (@xo _ hr.units) (@jD _ _ _ _ _ _ _ _ _ (yy hr) (pv 0) (pv 4) pe_non ⟨rfl,rfl,rfl,rfl⟩) (@jD _ _ _ _ _ _ _ _ _ (yy hr) (pv 1) (pv 4) pe_non ⟨rfl,rfl,rfl,rfl⟩) (qx _)) (@qf _ _ _ (@qr _ _ _ _ Q9)) qw)) (by trivial)) (@qc _ _ _ _ _ (@Qo _ _ _ _ _ _ _ _ uF rfl (@QD _ _ _ _ (pv 3)) (@pg_tup _ _ _ _ _ _ rfl (QJ (@qq _ _ (5) _ Q3.nd rfl (Or.inl rfl) (by trivial)) (QJ (@qq _ _ (6) _ Q3.nd rfl (Or.inl rfl) (by trivial)) xJ)) (by trivial) (by trivial)) (@qc _ _ _ _ _ (@qO _ _ _ _ _ _ _ _ (@jV _ _ _ _ _ _ _ (@qo _ _ _ _ _ _ _ _ yF (pv 5) qG (qx _)) (@Yl _ _ _ _ (@qo _ _ _ _ _ _ _ _ op_ne (@pe_cmp _ _ _ _ _ _ (@jI _ _ _ _ _ (yy hr) (pv 6) (pv 0)) (by trivial)) (@pe_cmp _ _ _ _ _ _ (@jI _ _ _ _ _ (yy hr) (pv 6) (pv 1)) (by trivial)) (qx _)))).pt (@qf _ _ _ (@qr _ _ _ _ Q9)) qw) (@qf _ _ _ (@qO _ _ _ _ _ _ _ _ (@jV _ _ _ _ _ _ _ (@qo _ _ _ _ _ _ _ _ yF (pv 5) qG (qx _)) (@Yl _ _ _ _ (@qo _ _ _ _ _ _ _ _ (@xo _ hr.units) (@qj _ _ _ _ _ _ _ _ _ _ _ _ _ _ _ _ U (hr.mono (by trivial)) (by rfl) T.g_law_row.m T.g_law_row.F.kp T.g_law_row.b .nil qu (@qa _ _ _ _ _ (pv 0) (@qa _ _ _ _ _ (pv 6) qb (by trivial)) (by trivial)) (by trivial) (by trivial) (by trivial)) (@qj _ _ _ _ _ _ _ _ _ _ _ _ _ _ _ _ U (hr.mono (by trivial)) (by rfl) T.g_law_row.m T.g_law_row.F.kp T.g_law_row.b .nil qu (@qa _ _ _ _ _ (pv 1) (@qa _ _ _ _ _ (pv 6) qb (by trivial)) (by trivial)) (by trivial) (by trivial) (by trivial)) (qx _)))).pt (@qf _ _ _ (@qr _ _ _ _ Q9)) qw))) (by trivial)) (@qf _ _ _ (@qr _ _ _ _ Q9)))),?_⟩
 refine⟨_,rfl,n,rfl,⟨_,SqT.of hn⟩,xZ (K:=K) (a:=n) (xs:=zs.map V.str) (fun i σ H'=>∃nv v1 v2:Option V,σ= [some (.ref d),some (.ref e),some (.ref n),some (.ref L),nv,v1,v2]/\H'=H/\(zs.take i).all (fun z=> !un qs ts z)=true) ⟨none,none,none,rfl,rfl,rfl⟩ (fun i σ H' _ ⟨_,_,_,_,e,_⟩=>by rw [e];exact SqT.of hn) ?_ ?_⟩
 ·rintro i z0 σ H' hi ⟨nv,v1,v2,rfl,rfl,aa⟩;rw [uk] at hi;cases hz:zs[i]? with
  |none=>rw [hz] at hi;cases hi
  |some z=>
  rw [hz] at hi;cases hi;obtain⟨vs,hd,hk,hv⟩:=id hD;obtain⟨ws,he,af,ag⟩:=id hE;obtain⟨g1,_⟩:=xM ad.1.2 hk hv pq z;obtain⟨g2,_⟩:=xM ae.1.2 af ag pt z;have e1:=xv ap z;refine⟨_,rfl,d,rfl,.inl ⟨_,.inl hd⟩,_,rfl,_,DGet.k (k:=Sum.inr z) hd,?_⟩;refine⟨_,rfl,e,rfl,.inl ⟨_,.inl he⟩,_,rfl,_,DGet.k (k:=Sum.inr z) he,?_⟩;refine⟨_,_,g1,g2,e1.1,(xv aq z).1,by omega,_,rfl,?_⟩
  have hu:(!eqN (qD qs z) (qD ts z))=un qs ts z:=rfl;rw [hu];cases c:un qs ts z with
  |true=>
   refine iteB rfl ?_;have:alk qs ts zs ks=false:=by
    have hm:zs.all (fun z=> !un qs ts z)=false:=by
     rw [Ut];exact⟨z,uK hz,by rw [c];simp⟩
    unfold alk;rw [hm]
    rfl
   have k0:=k H' (Same.refl _);rw [this] at k0;exact k0
  |false=>
   refine iteN rfl ?_;refine⟨_,_,_,rfl,rfl,?_⟩;rw [ut,hz,vw,aa];simp [c]
 ·rintro σ H' ⟨nv,v1,v2,rfl,rfl,aa⟩;rw [u1,uP] at aa;refine⟨_,rfl,L,rfl,⟨_,SqL.of hL⟩,yS (K:=K) (a:=L) (xs:=us) (fun i σ H2=>∃v1 v2:Option V,σ= [some (.ref d),some (.ref e),some (.ref n),some (.ref L),nv,v1,v2]/\Same H' H2/\(ks.take i).all (fun k=>eqN (ansK qs k) (ansK ts k))=true) ⟨_,_,rfl,Same.refl _,rfl⟩ (fun i σ H2 _ ⟨_,_,_,s2,_⟩=>SqL.of (s2 _ _ hL)) ?_ ?_⟩
  ·rintro i u0 σ H2 hi ⟨v1,v2,rfl,s2,ac⟩;have au:=(List.getElem?_eq_some_iff.mp hi).1;have ah:i<ks.length:=by rw [<-hA.1];exact au
   have ek:=u4 ah;obtain⟨t0,rfl,ai⟩:=hA.2 i _ _ hi ek;have hok:=hK _ (uj ah);have good:∀H4,Same H' H4->eqN (ansK qs ks[i]) (ansK ts ks[i])=true->∃v3 v4:Option V,[some (V.ref d),some (V.ref e),some (V.ref n),some (V.ref L),nv,some (V.str ks[i].1),some (V.str ks[i].2)]= [some (.ref d),some (.ref e),some (.ref n),some (.ref L),nv,v3,v4]/\Same H' H4/\(ks.take (i+1)).all (fun k=>eqN (ansK qs k) (ansK ts k))=true:=fun H4 s4 c=>by
    refine⟨_,_,rfl,s4,?_⟩;rw [ut,ek,vw,ac];simp [c]
   have Z:∀H4,Same H' H4->eqN (ansK qs ks[i]) (ansK ts ks[i])=false->Q (.bl false) H4:=fun H4 s4 c=>by
    have:alk qs ts zs ks=false:=by
     have hm:ks.all (fun k=>eqN (ansK qs k) (ansK ts k))=false:=by
      rw [Ut];exact⟨ks[i],uj ah,by rw [c];simp⟩
     unfold alk;rw [hm,Uz]
    have k0:=k H4 s4;rw [this] at k0;exact k0
   generalize ks[i]=kk at ai hok good Z;obtain⟨kind,text⟩:=kk;obtain⟨ak,aj⟩:=hok;dsimp only at ai ak aj good Z;refine⟨t0,_,rfl,SqT.of (s2 _ _ ai),rfl,_,_,rfl,_,_,rfl,rfl,?_⟩;obtain⟨vs,hd,hk,hv⟩:=id (hD.same s2);obtain⟨ws,he,af,ag⟩:=id (hE.same s2);refine⟨_,rfl,rfl,_,rfl,?_⟩;rcases ak with rfl|rfl
   ·refine iteB (u9 rfl) ?_;refine⟨_,rfl,_,rfl,d,_,rfl,DGet.k (k:=Sum.inr text) hd,_,rfl,_,rfl,e,_,rfl,DGet.k (k:=Sum.inr text) he,rfl,_,rfl,?_⟩;rw [Y2 hk hv,Y2 af ag];have m1:text∈qs.map (·.1)↔text∈ps.map (·.1):=(pq.map _).mem_iff;have m2:text∈ts.map (·.1)↔text∈rs.map (·.1):=(pt.map _).mem_iff;have ex:∀(l:List (Str×D)),ansK l ("has",text)= .str (if text∈l.map (·.1) then "yes" else "no"):=fun l=>by unfold ansK;rw [if_pos rfl]
    rw [ex,ex] at good Z;have yn:(("yes":Str)=="no")=false:=by decide+kernel
    have ny:(("no":Str)=="yes")=false:=by decide+kernel
    by_cases c1:text∈ps.map (·.1)<;>by_cases c2:text∈rs.map (·.1)
    ·rw [if_pos (m1.mpr c1),if_pos (m2.mpr c2)] at good;rw [u9 c1,u9 c2];exact iteN (by decide) ⟨_,rfl,rfl,_,rfl,iteN (by decide+kernel) (good _ s2 (by simp [eqN]))⟩
    ·rw [if_pos (m1.mpr c1),if_neg (fun h=>c2 (m2.mp h))] at Z;rw [u9 c1,ua c2];exact iteB (by decide) (Z _ s2 yn)
    ·rw [if_neg (fun h=>c1 (m1.mp h)),if_pos (m2.mpr c2)] at Z;rw [ua c1,u9 c2];exact iteB (by decide) (Z _ s2 ny)
    ·rw [if_neg (fun h=>c1 (m1.mp h)),if_neg (fun h=>c2 (m2.mp h))] at good;rw [ua c1,ua c2];exact iteN (by decide) ⟨_,rfl,rfl,_,rfl,iteN (by decide+kernel) (good _ s2 (by simp [eqN]))⟩
   ·refine iteN (by decide+kernel) ?_
    refine⟨_,rfl,rfl,_,rfl,iteB (u9 rfl) ?_⟩;refine⟨_,rfl,_,rfl,d,ps,text,rfl,hD.same s2,ad,am,aj,fun ms v3 H3 pm so s3 i3=> ?_⟩;refine⟨_,rfl,_,rfl,e,rs,text,rfl,hE.same (s2.trans s3),ae,ao,aj,fun av v4 H4 aw ax s4 i4=> ?_⟩;have em:ms=qs.map (·.1):=yT so sq (pm.trans (pq.map _).symm);have ay:av=ts.map (·.1):=yT ax st (aw.trans (pt.map _).symm);subst em ay;have ex:∀(l:List (Str×D)),ansK l ("names",text)=rowD (rowG [] ((l.map (·.1)).filter fun z=>Txt.startswith z text)):=fun l=>by unfold ansK;rw [if_neg (show¬(("names":Str)="has") by decide+kernel)]
    have e1:=ans_k qs ("names",text);have e2:=ans_k ts ("names",text);rw [<-ex] at i3 i4;have al:=(s2.trans s3).trans s4;refine⟨_,_,i3.mono s4.tk,i4,e1.1,e2.1,by omega,_,rfl,?_⟩
    cases c:eqN (ansK qs ("names",text)) (ansK ts ("names",text)) with
    |true=>exact iteN rfl (good _ al c)
    |false=>exact iteB rfl (Z _ al c)
  ·rintro σ H2 ⟨v1,v2,rfl,s2,ac⟩;rw [hA.1,uP] at ac;have:alk qs ts zs ks=true:=by unfold alk;rw [aa,ac];rfl
   have k0:=k H2 s2;rw [this] at k0;exact k0
end
theorem yR (p:Str×D)(r:List (Str×D))(y:Str):qD (p::r) y=if p.1=y then p.2 else qD r y:=by
 unfold qD;rw [uV];by_cases c:p.1=y
 ·rw [if_pos c,u9 c]
  rfl
 ·rw [if_neg c,ua c]
theorem dat_pm {qs ps:List (Str×D)}(hn:(ps.map (·.1)).Nodup)(U:qs.Perm ps)(z:Str):qD qs z=qD ps z:=by
 by_cases c:z∈ps.map (·.1)
 ·exact dat_perm hn U c
 ·rw [QF c,QF fun h=>c ((U.map _).mem_iff.mp h)]
theorem dat_flt (z y:Str):∀qs:List (Str×D),qD (flt qs z) y=if y=z then .non else qD qs y
 | []=>by
  show D.non=_;split<;>rfl
 |p::r=>by
  have U:=dat_flt z y r;unfold flt at U⊢;rw [Ul];by_cases c:p.1=z
  ·rw [if_neg (by simpa using c),U,yR]
   by_cases e:y=z
   ·rw [if_pos e,if_pos e]
   ·rw [if_neg e,if_neg e,if_neg (fun q=>e (q.symm.trans c))]
  ·rw [if_pos (by simpa using c),yR,yR,U]
   by_cases e:p.1=y
   ·rw [if_pos e,if_pos e,if_neg (fun q=>c (e.trans q))]
   ·rw [if_neg e,if_neg e]
theorem dat_app (z y:Str)(e:D):∀l:List (Str×D),qD (l++ [(z,e)]) y=if y∈l.map (·.1) then qD l y else if y=z then e else .non
 | []=>by
  show qD [(z,e)] y=_;have U:y∉([]:List (Str×D)).map (·.1):=by simp
  rw [yR,if_neg U];dsimp only;by_cases c:z=y
  ·rw [if_pos c,if_pos c.symm]
  ·rw [if_neg c,if_neg (fun q=>c q.symm)]
   rfl
 |p::r=>by
  rw [vY,yR,yR,dat_app z y e r,ui];by_cases c:p.1=y
  ·rw [if_pos c,if_pos c,if_pos (by rw [c];exact uo)]
  ·rw [if_neg c,if_neg c];by_cases h:y∈r.map (·.1)
   ·rw [if_pos h,if_pos (ue _ h)]
   ·have h2:y∉p.1::r.map (·.1):=fun q=>by
     rcases List.mem_cons.mp q with q|q
     ·exact c q.symm
     ·exact h q
    rw [if_neg h,if_neg h2]
theorem dat_put (qs:List (Str×D))(z y:Str)(e:D):qD (flt qs z++ [(z,e)]) y=if y=z then e else qD qs y:=by
 rw [dat_app];by_cases c:y=z
 ·subst c;rw [if_neg (flt_not qs y),if_pos rfl,if_pos rfl]
 ·rw [if_neg c,if_neg c];have:=dat_flt z y qs;rw [if_neg c] at this;by_cases h:y∈(flt qs z).map (·.1)
  ·rw [if_pos h,this]
  ·rw [if_neg h,<-this,QF h]
theorem jc {qs:List (Str×D)}(h:PrOk qs)(z:Str):z∈qs.map (·.1)↔qD qs z≠ .non:=by
 constructor
 ·intro c e;obtain⟨⟨k,x,h1⟩,_⟩:=h.2 _ (jH h.1.2 c);dsimp only at h1;rw [h1] at e;cases e
 ·intro c;refine UA fun n=>c (QF n)
theorem tab_same {qs ts:List (Str×D)}(h1:yB qs)(h2:yB ts)(h:∀z,qD qs z=qD ts z):qs=ts:=by
 have e:qs.map (·.1)=ts.map (·.1):=by
  refine yT h1.2.1 h2.2.1 ((List.perm_ext_iff_of_nodup h1.1.1.2 h2.1.1.2).mpr fun z=> ?_);rw [jc h1.1,jc h2.1,h]
 rw [<-re_map h1.1.1.2,<-re_map h2.1.1.2,e];exact vF fun z _=>by rw [h]
theorem nd_sub:∀{l m:List Str},l.Nodup->(∀x∈l,x∈m)->l.length<=m.length
 | [],m,_,_=>vh _
 |x::r,m,hn,h=>by
  have U:=List.nodup_cons.mp hn;have hx:=h x uo;have ih:=nd_sub (l:=r) (m:=m.erase x) U.2 fun y hy=>by
   have Z:y≠x:=fun e=>U.1 (by rw [<-e];exact hy)
   exact(List.mem_erase_of_ne Z).mpr (h y (ue _ hy))
  rw [List.length_erase_of_mem hx] at ih;have:=List.length_pos_of_mem hx;rw [uz];omega
def Way (qs ts cur:List (Str×D))(g p:List Str):Prop:=∀z,qD cur z=if z∈g then .non else if z∈p then qD ts z else qD qs z
section
variable {qs ts cur:List (Str×D)}{du:List Str}
def gn (ts:List (Str×D))(du:List Str):List Str:=du.filter fun z=> !decide (z∈ts.map (·.1))
def pu (ts:List (Str×D))(du:List Str):List Str:=du.filter fun z=>decide (z∈ts.map (·.1))
theorem gn_mem {z:Str}:z∈gn ts du↔z∈du/\z∉ts.map (·.1):=by
 unfold gn;rw [List.mem_filter];simp
theorem pu_mem {z:Str}:z∈pu ts du↔z∈du/\z∈ts.map (·.1):=by
 unfold pu;rw [List.mem_filter];simp
theorem way_out (Z:UnS qs ts du)(hq:PrOk qs)(hc:PrOk cur){i:Nat}(hi:i<(gn ts du).length)(W:Way qs ts cur ((gn ts du).take i) []):(gn ts du)[i]∈cur.map (·.1):=by
 have hm:=gn_mem.mp (uj hi);have U:=(Z.mem _).mp hm.1;have hk:(gn ts du)[i]∈qs.map (·.1):=U.1.resolve_right hm.2;have nd:(gn ts du).Nodup:=Z.nd.sublist UF;rw [jc hc,W,if_neg,if_neg (by simp),<-jc hq]
 ·exact hk
 ·intro h;obtain⟨j,hj,e⟩:=List.mem_iff_getElem.mp h;rw [List.getElem_take] at e;rw [uA] at hj;exact absurd ((List.getElem_inj nd).mp e) (by omega)
theorem way_gone {rs:List (Str×D)}{i:Nat}(hi:i<(gn ts du).length)(U:(cur.map (·.1)).Nodup)(W:Way qs ts cur ((gn ts du).take i) [])(Z:rs.Perm (flt cur (gn ts du)[i])):Way qs ts rs ((gn ts du).take (i+1)) []:=by
 intro z;have e0:((flt cur (gn ts du)[i]).map (·.1)).Nodup:=U.sublist (List.filter_sublist.map _);rw [dat_pm e0 Z,dat_flt,W z,ut,u4 hi];by_cases c:z=(gn ts du)[i]
 ·have h2:z∈(gn ts du).take i++(some (gn ts du)[i]).toList:=by rw [c];exact uH _ (by simp)
  rw [if_pos c,if_pos h2]
 ·rw [if_neg c];have:z∈(gn ts du).take i++(some (gn ts du)[i]).toList↔z∈(gn ts du).take i:=by
   rw [Ud];exact⟨fun h=>h.elim id fun q=>absurd (by simpa using q) c,.inl⟩
  simp only [this]
theorem way_put {rs:List (Str×D)}{i:Nat}(hi:i<(pu ts du).length)(hU:UnS qs ts du)(hc:PrOk cur)(U:PrOk (flt cur (pu ts du)[i]++ [((pu ts du)[i],qD ts (pu ts du)[i])]))(W:Way qs ts cur (gn ts du) ((pu ts du).take i))(Z:rs.Perm (flt cur (pu ts du)[i]++ [((pu ts du)[i],qD ts (pu ts du)[i])])):Way qs ts rs (gn ts du) ((pu ts du).take (i+1)):=by
 intro z;have hm:=pu_mem.mp (uj hi);rw [dat_pm U.1.2 Z,dat_put,W z,ut,u4 hi];by_cases c:z=(pu ts du)[i]
 ·have h1:z∉gn ts du:=fun h=>by
   rw [c] at h;exact(gn_mem.mp h).2 hm.2
  have h2:z∈(pu ts du).take i++(some (pu ts du)[i]).toList:=by rw [c];exact uH _ (by simp)
  rw [if_pos c,if_neg h1,if_pos h2,c]
 ·rw [if_neg c];have:z∈(pu ts du).take i++(some (pu ts du)[i]).toList↔z∈(pu ts du).take i:=by
   rw [Ud];exact⟨fun h=>h.elim id fun q=>absurd (by simpa using q) c,.inl⟩
  simp only [this]
theorem way_sub (Z:UnS qs ts du)(U:PrOk qs)(ht:PrOk ts)(hc:PrOk cur){p:List Str}(hp:∀z∈p,z∈ts.map (·.1))(W:Way qs ts cur (gn ts du) p):∀z∈cur.map (·.1),z∈ts.map (·.1):=by
 intro z hz;refine UA fun n=> ?_;have h1:=(jc hc z).mp hz;rw [W z] at h1;by_cases c:z∈gn ts du
 ·rw [if_pos c] at h1;exact h1 rfl
 ·rw [if_neg c,if_neg (fun h=>n (hp z h))] at h1;have hk:=(jc U z).mpr h1;refine c (gn_mem.mpr ⟨(Z.mem z).mpr ⟨.inl hk,(un_ne U).mpr ?_⟩,n⟩);rw [QF n];exact h1
theorem way_len (hU:UnS qs ts du)(hq:PrOk qs)(Z:yB ts)(hc:PrOk cur){p:List Str}(hp:∀z∈p,z∈ts.map (·.1))(W:Way qs ts cur (gn ts du) p){z:Str}(hz:z∈ts.map (·.1)):(flt cur z).length<60:=by
 have hs:=way_sub hU hq Z.1 hc hp W;have h1:(z::(flt cur z).map (·.1)).Nodup:=List.nodup_cons.mpr ⟨flt_not cur z,(flt_ok hc z).1.2⟩;have h2:=nd_sub h1 (m:=ts.map (·.1)) fun y U=>by
  rcases List.mem_cons.mp U with rfl|U
  ·exact hz
  ·obtain⟨x,hx,rfl⟩:=List.mem_map.mp U;exact hs _ (List.mem_map.mpr ⟨x,(List.mem_filter.mp hx).1,rfl⟩)
 rw [uz,u1,u1] at h2;have:=Z.2.2;omega
theorem way_end (U:UnS qs ts du)(Z:PrOk qs)(W:Way qs ts cur (gn ts du) (pu ts du))(z:Str):qD cur z=qD ts z:=by
 rw [W z];by_cases c:z∈gn ts du
 ·rw [if_pos c,QF (gn_mem.mp c).2]
 ·rw [if_neg c];by_cases h:z∈pu ts du
  ·rw [if_pos h]
  ·rw [if_neg h];by_cases k:z∈qs.map (·.1)∨z∈ts.map (·.1)
   ·have hd:z∉du:=fun hd=>by
     by_cases t:z∈ts.map (·.1)
     ·exact h (pu_mem.mpr ⟨hd,t⟩)
     ·exact c (gn_mem.mpr ⟨hd,t⟩)
    refine(un_iff Z).mp ?_;cases hu:un qs ts z with
    |false=>rfl
    |true=>exact absurd ((U.mem z).mpr ⟨k,hu⟩) hd
   ·rw [QF (fun h=>k (.inl h)),QF (fun h=>k (.inr h))]
end
theorem row_tr (l:List Str):trD (rowD l)=true:=by
 have U:∀l:List Str,puL (l.map D.str)=true:=by
  intro l
  induction l with
  |nil=>rfl
  |cons z r Z=>simp [puL,puD,Z]
 exact U l
theorem row_dp (l:List Str):dp (rowD l)<=60:=by
 have:∀l:List Str,dpL (l.map D.str)<=1:=by
  intro l
  induction l with
  |nil=>simp [dpL]
  |cons z r U=>simp only [ui,dpL,dp];omega
 have:=this l;unfold rowD;simp only [dp];omega
theorem row_self (l:List Str):eqD (rowD l) (rowD l)=true:=(xy (trD_pu (row_tr l))).mpr rfl
theorem xF {H:Hp}{vs:List (Str×V)}{ts:List Addr}(h:YZ H (inrK vs) ts):ts.length=vs.length/\∀(j:Nat) (t:Addr) (p:Str×V),ts[j]? =some t->vs[j]? =some p->H t=some (.tup [.str p.1,p.2]):=by
 refine⟨by have:=h.1;unfold inrK at this;rwa [u1] at this,fun j t p h1 h2=> ?_⟩
 have:=h.2 j t (Sum.inr p.1,p.2) h1 (by unfold inrK;rw [uk,h2];rfl)
 exact this
theorem items_pr {H:Hp}{ps:List (Str×D)}{vs:List (Str×V)}{ts:List Addr}(h:YZ H (inrK vs) ts)(U:vs.map (·.1)=ps.map (·.1))(Z:L2.IsL H (ps.map (·.2)) (vs.map (·.2)))(ho:PrOk ps):L2.IsL H (ps.map prD) (ts.map V.ref):=by
 obtain⟨h1,h2⟩:=xF h;exact prs_is U Z h1 (fun p hp=>by have:=yW (ho.1.1 p.1 (List.mem_map.mpr ⟨p,hp,rfl⟩));omega) h2
theorem lc_tupSF {K:PySem.W.Frag}{a A:Addr}{H1:Hp}{tc:TT}{te:TE}{tl:L2.St}{Q:VK}{ls:List Str}(p:Str->Bool)(ha:H1 a=some (.tup (ls.map V.str)))(hn:ls.length<=sizeLine)(hA:H1 A=none)
  (aa:∀z H (R:Bool->Hp->Prop),z∈ls->Same H1 H->R (p z) H->tc (some (.str z)::tl) H R)
  (ac:∀x H (R:VK),R x H->te (some x::tl) H R)
  (hQ:∀H',Same H1 H'->H' A=some (.lst ((ls.filter p).map V.str))->Q (.ref A) H'):lcGo A (Itt K a) (QH 0) tc te (none::tl) H1 Q:=by
 refine⟨ls.length,fun i σ ys H=>(∃w,σ=w::tl)/\ys=((ls.take i).filter p).map V.str/\Same H1 H,hn,⟨⟨none,rfl⟩,rfl,qe hA _⟩,?_,?_⟩
 ·rintro i σ ys H hi ⟨⟨w,rfl⟩,rfl,Z⟩ U ad;have e0:(ls.map V.str)[i]? =some (V.str ls[i]):=by rw [uk,u4 hi];rfl
  refine⟨⟨_,_,SqT.of (Z _ _ ha),e0⟩,?_⟩;rintro x H' ⟨rfl,hx⟩;have e:=hx _ (SqT.of (Z _ _ ha));rw [e0] at e;cases e;have et:ls.take (i+1)=ls.take i++ [ls[i]]:=by rw [ut,u4 hi];rfl
  dsimp only [QH,List.set];refine aa ls[i] H' _ (uj hi) Z ?_;cases hp:p ls[i] with
  |true=>
   refine iteT (ac _ H' _ ⟨U,⟨_,rfl⟩,?_,fun c o e=> ?_⟩)
   ·rw [et,vA];have: [ls[i]].filter p= [ls[i]]:=by simp [hp]
    rw [this,ud]
    rfl
   ·rw [ql (qh e hA)];exact Z _ _ e
  |false=>
   refine iteF ⟨U,⟨_,rfl⟩,?_,Z⟩;rw [et,vA];have: [ls[i]].filter p= []:=by simp [hp]
   rw [this,vU]
 ·rintro σ ys H ⟨_,rfl,Z⟩ U;rw [uP] at U;exact⟨⟨_,SqT.of (Z _ _ ha),by rw [u1];exact u8 _⟩,hQ H Z U⟩
theorem Qa.updL {H:Hp}{p L:Addr}{o:HO}(h:Qa H p)(n:L≠p):Qa (upd H L o) p:=by
 obtain⟨x,y,e,r⟩:=h;exact⟨x,y,by rw [ql n.symm];exact e,r⟩
theorem AskL.mono {H H':Hp}{us:List V}{ks:List (Str×Str)}(h:AskL H us ks)(t:Tk H H'):AskL H' us ks:=⟨h.1,fun i u k a b=>by
 obtain⟨U,rfl,Z⟩:=h.2 i u k a b;exact⟨U,rfl,t.tup _ _ Z⟩⟩
theorem AskL.snoc {H:Hp}{us:List V}{ks:List (Str×Str)}{t:Addr}{k:Str×Str}(h:AskL H us ks)(U:H t=some (.tup [.str k.1,.str k.2])):AskL H (us++ [.ref t]) (ks++ [k]):=by
 refine⟨by rw [u7,u7,h.1];rfl,fun i u Z a b=> ?_⟩
 by_cases c:i<us.length
 ·rw [uR c] at a;rw [uR (by rw [<-h.1];exact c)] at b
  exact h.2 i u Z a b
 ·rw [uJ (by omega)] at a
  rw [uJ (by rw [<-h.1];omega),<-h.1] at b
  have hi:i-us.length=0:=by
   have:=(List.getElem?_eq_some_iff.mp a).1;simp at this;omega
  rw [hi] at a b;cases a;cases b;exact⟨t,rfl,U⟩
def QZ:List Str:= ["q","zz"]
def sp_law (K:PySem.W.Frag):Sp:=fun vs H Q _=>∃(a:Addr) (ns:List Int),vs= [.ref a]/\SqL K H a (ns.map V.int)/\ns.length<=63/\∀H',Q (.bl true) H'
section
variable {P:Program}{w:World}{K:PySem.W.Frag}{mg:Str->Option Value}{base:Heap}{a:Ad}
theorem ok_law (T:Tx K mg a):FnOk P w K mg base CX0 157 a.f_law a.d_law ["script"] (sp_law K):=by
 have ag:=ok_lpairs (P:=P) (w:=w) (base:=base) T;have xH:=ok_changed (P:=P) (w:=w) (base:=base) T;have qX:=ok_init (P:=P) (w:=w) (base:=base) T;have qy:=yK (P:=P) (w:=w) (base:=base) T;have yb:=ok_unlike (P:=P) (w:=w) (base:=base) T;have xf:=ok_alike (P:=P) (w:=w) (base:=base) T;have xI:=ok_with (P:=P) (w:=w) (base:=base) T;have au:=ok_without (P:=P) (w:=w) (base:=base) T;have ah:=ok_lalike (P:=P) (w:=w) (base:=base) T;have qm:=Yf (P:=P) (w:=w) (base:=base) T;have yj:=ok_pot (P:=P) (w:=w) (base:=base) T;refine T.g_law.F.ok Ql (by trivial) (fun _ _ _ s H vs Q E hr h=> ?_)
 obtain⟨q,ns,rfl,hq,eG,k⟩:=h;have hs:=uv;refine⟨_,(@qc _ _ _ _ _ (@qt _ _ (1) _ _ _ _ Ql.nd rfl (Or.inr rfl) (@qF _ _ _ _ _ _ _ _ _ (@call_dictP _ rfl) (by rfl) T.z_dict boot_dict (@qa _ _ _ _ _ (@qj _ _ _ _ _ _ _ _ _ _ _ _ _ _ _ _ ag (hr.mono (by trivial)) (by rfl) T.g_law_pairs.m T.g_law_pairs.F.kp T.g_law_pairs.b .nil qu (@qa _ _ _ _ _ (pv 0) qb (by trivial)) (by trivial) (by trivial) (by trivial)) qb (by trivial)) (by trivial) (by trivial) (by trivial) (by trivial)) (by trivial) (by trivial)) (@qc _ _ _ _ _ (@qt _ _ (2) _ _ _ _ Ql.nd rfl (Or.inr rfl) (@qj _ _ _ _ _ _ _ _ _ _ _ _ _ _ _ _ xH (hr.mono (by trivial)) (by rfl) T.g_law_changed.m T.g_law_changed.F.kp T.g_law_changed.b .nil qu (@qa _ _ _ _ _ (pv 1) (@qa _ _ _ _ _ (pv 0) qb (by trivial)) (by trivial)) (by trivial) (by trivial) (by trivial)) (by trivial) (by trivial)) (@qc _ _ _ _ _ (@qt _ _ (3) _ _ _ _ Ql.nd rfl (Or.inl rfl) (@yi _ _ _ _ (@qa _ _ _ _ _ (@xY _ _ _ _ _ _ _ _ _ _ _ _ _ _ _ _ _ T.YB qX (hr.mono (by trivial)) (by rfl) T.Yy T.g_Project_init.b .nil qu (@qa _ _ _ _ _ (@Yj _ _ _ _ _ _ _ _ rfl (by rfl) T.Qr U1 (pv 1) (by trivial) (by trivial) (by trivial) (by trivial) (by trivial) (by trivial)) qb (by trivial)) (by trivial) (by trivial) (by trivial)) (@qa _ _ _ _ _ (@xY _ _ _ _ _ _ _ _ _ _ _ _ _ _ _ _ _ T.YB qX (hr.mono (by trivial)) (by rfl) T.Yy T.g_Project_init.b .nil qu (@qa _ _ _ _ _ (@Yj _ _ _ _ _ _ _ _ rfl (by rfl) T.Qr U1 (pv 2) (by trivial) (by trivial) (by trivial) (by trivial) (by trivial) (by trivial)) qb (by trivial)) (by trivial) (by trivial) (by trivial)) qb (by trivial)) (by trivial))) (by trivial) (by trivial)) (@qc _ _ _ _ _ (@qt _ _ (4) _ _ _ _ Ql.nd rfl (Or.inl rfl) (@qk _ _ _ _ _ _ _ _ _ call_sortedN (by rfl) T.YT boot_sorted (@qa _ _ _ _ _ (@qF _ _ _ _ _ _ _ _ _ (@Y9 _ rfl) (by rfl) T.JO boot_list (@qa _ _ _ _ _ (@qF _ _ _ _ _ _ _ _ _ (@call_dictW _ rfl) (by rfl) T.z_dict boot_dict (@qa _ _ _ _ _ (@qB _ _ _ _ _ _ _ _ op_cat (@Jv _ _ _ _ _ _ _ _ rfl (by rfl) T.JO boot_list (pv 1) (by trivial) (by trivial) (by trivial) (by trivial) (by trivial) (by trivial)) (@Jv _ _ _ _ _ _ _ _ rfl (by rfl) T.JO boot_list (pv 2) (by trivial) (by trivial) (by trivial) (by trivial) (by trivial) (by trivial))) qb (by trivial)) (by trivial) (by trivial) (by trivial) (by trivial)) qb (by trivial)) (by trivial) (by trivial) (by trivial) (by trivial)) qb (by trivial)) (by trivial) (by trivial) (by trivial) (by trivial)) (by trivial) (by trivial)) (@qc _ _ _ _ _ (@qt _ _ (5) _ _ _ _ Ql.nd rfl (Or.inl rfl) (@qF _ _ _ _ _ _ _ _ _ qV (by rfl) T.Qr U1 (@qa _ _ _ _ _ (@Yp _ _ (["name","one","other"]) (1) ([1,2]) _ _ _ _ _ _ _ _ _ (lcsN (qi s_law) ["script","one","other","projects","every","due","made","name","cell","pot","some","names","asks","k","text","found"]) rfl (@QD _ _ _ _ (pv 4)) (fun _ _ _ _ _ _=>(@qq _ _ (0) _ (show List.Nodup (["name","one","other"]:List Str) by decide+kernel) rfl (Or.inl rfl) (by trivial))) (fun _ _ _ _ _ _=>(@Yi _ _ _ (@qo _ _ _ _ _ _ _ _ (@xo _ hr.units) (@jD _ _ _ _ _ _ _ _ _ (yy hr) (pv 1) (pv 0) pe_non ⟨rfl,rfl,rfl,rfl⟩) (@jD _ _ _ _ _ _ _ _ _ (yy hr) (pv 2) (pv 0) pe_non ⟨rfl,rfl,rfl,rfl⟩) (qx _)))) (fun _ _ _ _ _ _=>(pv 0)) (by trivial)) qb (by trivial)) (by trivial) (by trivial) (by trivial) (by trivial)) (by trivial) (by trivial)) (@qc _ _ _ _ _ (@qO _ _ _ _ _ _ _ _ (@xw _ _ _ _ _ _ _ (@qo _ _ _ _ _ _ _ _ (@op_neD _ hr.units) (@qj _ _ _ _ _ _ _ _ _ _ _ _ _ _ _ _ yb (hr.mono (by trivial)) (by rfl) T.g_unlike_names.m T.g_unlike_names.F.kp T.g_unlike_names.b .nil qu (@qa _ _ _ _ _ (@qL _ _ _ _ _ _ _ qH (pv 3) qg (fun _ _=>rfl)) (@qa _ _ _ _ _ (@qL _ _ _ _ _ _ _ qH (pv 3) qg (fun _ _=>rfl)) qb (by trivial)) (by trivial)) (by trivial) (by trivial) (by trivial)) (pv 5) (qx _)) (@jr _ _ _ _ (@qo _ _ _ _ _ _ _ _ (@op_neD _ hr.units) (@qj _ _ _ _ _ _ _ _ _ _ _ _ _ _ _ _ yb (hr.mono (by trivial)) (by rfl) T.g_unlike_names.m T.g_unlike_names.F.kp T.g_unlike_names.b .nil qu (@qa _ _ _ _ _ (@qL _ _ _ _ _ _ _ qH (pv 3) qg (fun _ _=>rfl)) (@qa _ _ _ _ _ (@qL _ _ _ _ _ _ _ qH (pv 3) qg (fun _ _=>rfl)) qb (by trivial)) (by trivial)) (by trivial) (by trivial) (by trivial)) (pv 5) (qx _)))).pt (@qf _ _ _ (@qr _ _ _ _ Q9)) qw) (@qc _ _ _ _ _ (@qt _ _ (6) _ _ _ _ Ql.nd rfl (Or.inl rfl) (@qL _ _ _ _ _ _ _ qH (pv 3) qg (fun _ _=>rfl)) (by trivial) (by trivial)) (@qc _ _ _ _ _ (@Qo _ _ _ _ _ _ _ _ uF rfl (@QD _ _ _ _ (@Yp _ _ (["one_name","other"]) (1) ([2]) _ _ _ _ _ _ _ _ _ (lcsN (qi s_law) ["script","one","other","projects","every","due","made","name","cell","pot","some","names","asks","k","text","found"]) rfl (@Yd _ _ _ _ (pv 5)) (fun _ _ _ _ _ _=>(@qq _ _ (0) _ (show List.Nodup (["one_name","other"]:List Str) by decide+kernel) rfl (Or.inl rfl) (by trivial))) (fun _ _ _ _ _ _=>(@Yi _ _ _ (@JM _ _ _ _ _ _ (@pc_dnotin _ _ _ _ _ (yy hr) (pv 0) (pv 1)) (by trivial)))) (fun _ _ _ _ _ _=>(pv 0)) (by trivial))) (@qq _ _ (7) _ Ql.nd rfl (Or.inl rfl) (by trivial)) (@qf _ _ _ (@qt _ _ (6) _ _ _ _ Ql.nd rfl (Or.inl rfl) (@qj _ _ _ _ _ _ _ _ _ _ _ _ _ _ _ _ au (hr.mono (by trivial)) (by rfl) T.g_without.m T.g_without.F.kp T.g_without.b .nil qu (@qa _ _ _ _ _ (pv 6) (@qa _ _ _ _ _ (pv 7) qb (by trivial)) (by trivial)) (by trivial) (by trivial) (by trivial)) (by trivial) (by trivial))) (by trivial)) (@qc _ _ _ _ _ (@Qo _ _ _ _ _ _ _ _ uF rfl (@QD _ _ _ _ (@Yp _ _ (["one_name","other"]) (1) ([2]) _ _ _ _ _ _ _ _ _ (lcsN (qi s_law) ["script","one","other","projects","every","due","made","name","cell","pot","some","names","asks","k","text","found"]) rfl (@Yd _ _ _ _ (pv 5)) (fun _ _ _ _ _ _=>(@qq _ _ (0) _ (show List.Nodup (["one_name","other"]:List Str) by decide+kernel) rfl (Or.inl rfl) (by trivial))) (fun _ _ _ _ _ _=>(@Yi _ _ _ (@JM _ _ _ _ _ _ (@jI _ _ _ _ _ (yy hr) (pv 0) (pv 1)) (by trivial)))) (fun _ _ _ _ _ _=>(pv 0)) (by trivial))) (@qq _ _ (7) _ Ql.nd rfl (Or.inl rfl) (by trivial)) (@qf _ _ _ (@qt _ _ (6) _ _ _ _ Ql.nd rfl (Or.inl rfl) (@qj _ _ _ _ _ _ _ _ _ _ _ _ _ _ _ _ xI (hr.mono (by trivial)) (by rfl) T.g_with_source.m T.g_with_source.F.kp T.g_with_source.b .nil qu (@qa _ _ _ _ _ (pv 6) (@qa _ _ _ _ _ (pv 7) (@qa _ _ _ _ _ (@pe_dget _ _ _ _ _ _ (yy hr) (pv 2) (pv 7) (fun _ _=>rfl)) qb (by trivial)) (by trivial)) (by trivial)) (by trivial) (by trivial) (by trivial)) (by trivial) (by trivial))) (by trivial)) (@qc _ _ _ _ _ (@qO _ _ _ _ _ _ _ _ (@xw _ _ _ _ _ _ _ (@qo _ _ _ _ _ _ _ _ (@op_neD _ hr.units) (@yO _ _ _ _ _ _ _ _ _ _ _ _ _ _ _ _ _ (pv 6) T.qE T.g_Project_sources.h qy (hr.mono (by trivial)) T.g_Project_sources.b .nil qu (by trivial)) (@yO _ _ _ _ _ _ _ _ _ _ _ _ _ _ _ _ _ (@qL _ _ _ _ _ _ _ qH (pv 3) qg (fun _ _=>rfl)) T.qE T.g_Project_sources.h qy (hr.mono (by trivial)) T.g_Project_sources.b .nil qu (by trivial)) (qx _)) (@jr _ _ _ _ (@qo _ _ _ _ _ _ _ _ (@op_neNil _ hr.units) (@qj _ _ _ _ _ _ _ _ _ _ _ _ _ _ _ _ yb (hr.mono (by trivial)) (by rfl) T.g_unlike_names.m T.g_unlike_names.F.kp T.g_unlike_names.b .nil qu (@qa _ _ _ _ _ (pv 6) (@qa _ _ _ _ _ (@qL _ _ _ _ _ _ _ qH (pv 3) qg (fun _ _=>rfl)) qb (by trivial)) (by trivial)) (by trivial) (by trivial) (by trivial)) (@qP _ _ _ _ _ qb) (qx _)))).pt (@qf _ _ _ (@qr _ _ _ _ Q9)) qw) (@qc _ _ _ _ _ (@Qo _ _ _ _ _ _ _ _ uF rfl (@QD _ _ _ _ (@qB _ _ _ _ _ _ _ _ op_cat (@yi _ _ _ _ (@qa _ _ _ _ _ (@qk _ _ _ _ _ _ _ _ _ qJ (by rfl) T.QI uy (@qa _ _ _ _ _ (pv 0) qb (by trivial)) (by trivial) (by trivial) (by trivial) (by trivial)) qb (by trivial))) (@qF _ _ _ _ _ _ _ _ _ call_list_of (by rfl) T.JO boot_list (@qa _ _ _ _ _ (@YE _ _ _ _ _ _ _ _ _ _ sl_list (pv 0) Jl (@Jm _ _ _ qg)) qb (by trivial)) (by trivial) (by trivial) (by trivial) (by trivial)))) (@qq _ _ (8) _ Ql.nd rfl (Or.inl rfl) (by trivial)) (@qc _ _ _ _ _ (@qt _ _ (9) _ _ _ _ Ql.nd rfl (Or.inr rfl) (@qj _ _ _ _ _ _ _ _ _ _ _ _ _ _ _ _ yj (hr.mono (by trivial)) (by rfl) T.g_law_pot.m T.g_law_pot.F.kp T.g_law_pot.b .nil qu (@qa _ _ _ _ _ (pv 8) (@qa _ _ _ _ _ qg qb (by trivial)) (by trivial)) (by trivial) (by trivial) (by trivial)) (by trivial) (by trivial)) (@qc _ _ _ _ _ (@qt _ _ (10) _ _ _ _ Ql.nd rfl (Or.inr rfl) (@qB _ _ _ _ _ _ _ _ op_cat (pv 4) (@yi _ _ _ _ (@qa _ _ _ _ _ qG (@qa _ _ _ _ _ qG qb (by trivial)) (by trivial)))) (by trivial) (by trivial)) (@qc _ _ _ _ _ (@qt _ _ (11) _ _ _ _ Ql.nd rfl (Or.inl rfl) (@qF _ _ _ _ _ _ _ _ _ qV (by rfl) T.Qr U1 (@qa _ _ _ _ _ (@Yp _ _ (["k","some","pot"]) (1) ([10,9]) _ _ _ _ _ _ _ _ _ (lcsN (qi s_law) ["script","one","other","projects","every","due","made","name","cell","pot","some","names","asks","k","text","found"]) rfl (@Qj _ _ _ _ _ _ (by rfl) T.ym (@qa _ _ _ _ _ (@qj _ _ _ _ _ _ _ _ _ _ _ _ _ _ _ _ qm (hr.mono (by trivial)) (by rfl) T.g_law_take.m T.g_law_take.F.kp T.g_law_take.b .nil qu (@qa _ _ _ _ _ (pv 9) (@qa _ _ _ _ _ qg qb (by trivial)) (by trivial)) (by trivial) (by trivial) (by trivial)) qb (by trivial)) (by trivial)) (fun _ _ _ _ _ _=>(@qq _ _ (0) _ (show List.Nodup (["k","some","pot"]:List Str) by decide+kernel) rfl (Or.inl rfl) (by trivial))) (fun _ _ _ _ _ _=> @QS _) (fun _ _ _ _ _ _=>(@qL _ _ _ _ _ _ _ (@ix_listK _ (K) rfl) (pv 1) (@qj _ _ _ _ _ _ _ _ _ _ _ _ _ _ _ _ qm (hr.mono (by trivial)) (by rfl) T.g_law_take.m T.g_law_take.F.kp T.g_law_take.b .nil qu (@qa _ _ _ _ _ (pv 2) (@qa _ _ _ _ _ (@qk _ _ _ _ _ _ _ _ _ (@xS _ (K) rfl) (by rfl) T.QI uy (@qa _ _ _ _ _ (pv 1) qb (by trivial)) (by trivial) (by trivial) (by trivial) (by trivial)) qb (by trivial)) (by trivial)) (by trivial) (by trivial) (by trivial)) (fun _ _=>rfl))) (by trivial)) qb (by trivial)) (by trivial) (by trivial) (by trivial) (by trivial)) (by trivial) (by trivial)) (@qc _ _ _ _ _ (@qt _ _ (12) _ _ _ _ Ql.nd rfl (Or.inl rfl) (@yi _ _ _ _ qb) (by trivial) (by trivial)) (@qc _ _ _ _ _ (@Qo _ _ _ _ _ _ _ _ uF rfl (@Qj _ _ _ _ _ _ (by rfl) T.ym (@qa _ _ _ _ _ (@qj _ _ _ _ _ _ _ _ _ _ _ _ _ _ _ _ qm (hr.mono (by trivial)) (by rfl) T.g_law_take.m T.g_law_take.F.kp T.g_law_take.b .nil qu (@qa _ _ _ _ _ (pv 9) (@qa _ _ _ _ _ qg qb (by trivial)) (by trivial)) (by trivial) (by trivial) (by trivial)) qb (by trivial)) (by trivial)) (@qq _ _ (13) _ Ql.nd rfl (Or.inl rfl) (by trivial)) (@qc _ _ _ _ _ (@qt _ _ (14) _ _ _ _ Ql.nd rfl (Or.inl rfl) (@qL _ _ _ _ _ _ _ qH (pv 10) (@qj _ _ _ _ _ _ _ _ _ _ _ _ _ _ _ _ qm (hr.mono (by trivial)) (by rfl) T.g_law_take.m T.g_law_take.F.kp T.g_law_take.b .nil qu (@qa _ _ _ _ _ (pv 9) (@qa _ _ _ _ _ (@qk _ _ _ _ _ _ _ _ _ qJ (by rfl) T.QI uy (@qa _ _ _ _ _ (pv 10) qb (by trivial)) (by trivial) (by trivial) (by trivial) (by trivial)) qb (by trivial)) (by trivial)) (by trivial) (by trivial) (by trivial)) (fun _ _=>rfl)) (by trivial) (by trivial)) (@qf _ _ _ (@Jy _ _ _ _ (@pe_bm _ _ _ _ _ _ _ _ _ _ _ _ vQ UK UL YK (pv 12) (@qa _ _ _ _ _ (@qL _ _ _ _ _ _ _ qH (@yi _ _ _ _ (@qa _ _ _ _ _ (@qP _ _ _ _ _ (@qa _ _ _ _ _ qG (@qa _ _ _ _ _ (pv 14) qb (by trivial)) (by trivial))) (@qa _ _ _ _ _ (@qP _ _ _ _ _ (@qa _ _ _ _ _ qG (@qa _ _ _ _ _ (@YE _ _ _ _ _ _ _ _ _ _ sl_str (pv 14) Jl (@Jm _ _ _ (@qj _ _ _ _ _ _ _ _ _ _ _ _ _ _ _ _ qm (hr.mono (by trivial)) (by rfl) T.g_law_take.m T.g_law_take.F.kp T.g_law_take.b .nil qu (@qa _ _ _ _ _ (pv 9) (@qa _ _ _ _ _ qg qb (by trivial)) (by trivial)) (by trivial) (by trivial) (by trivial)))) qb (by trivial)) (by trivial))) qb (by trivial)) (by trivial))) (@qj _ _ _ _ _ _ _ _ _ _ _ _ _ _ _ _ qm (hr.mono (by trivial)) (by rfl) T.g_law_take.m T.g_law_take.F.kp T.g_law_take.b .nil qu (@qa _ _ _ _ _ (pv 9) (@qa _ _ _ _ _ qg qb (by trivial)) (by trivial)) (by trivial) (by trivial) (by trivial)) (fun _ _=>rfl)) qb (by trivial)) (by trivial) (by trivial) (by trivial) (by trivial) (by trivial)) (by trivial)))) (by trivial)) (@qc _ _ _ _ _ (@qt _ _ (15) _ _ _ _ Ql.nd rfl (Or.inl rfl) (@qj _ _ _ _ _ _ _ _ _ _ _ _ _ _ _ _ xf (hr.mono (by trivial)) (by rfl) T.g_alike_on.m T.g_alike_on.F.kp T.g_alike_on.b .nil qu (@qa _ _ _ _ _ (@qL _ _ _ _ _ _ _ qH (pv 3) qg (fun _ _=>rfl)) (@qa _ _ _ _ _ (@qL _ _ _ _ _ _ _ qH (pv 3) qg (fun _ _=>rfl)) (@qa _ _ _ _ _ (pv 11) (@qa _ _ _ _ _ (@qF _ _ _ _ _ _ _ _ _ qV (by rfl) T.Qr U1 (@qa _ _ _ _ _ (pv 12) qb (by trivial)) (by trivial) (by trivial) (by trivial) (by trivial)) qb (by trivial)) (by trivial)) (by trivial)) (by trivial)) (by trivial) (by trivial) (by trivial)) (by trivial) (by trivial)) (@qf _ _ _ (@qO _ _ _ _ _ _ _ _ (@xw _ _ _ _ _ _ _ (@yH _ _ _ _ (@Q4 _ _ _ (@qk _ _ _ _ _ _ _ _ _ (@Qd _ _ rfl) (by rfl) T.q9 Uf (@qa _ _ _ _ _ (pv 15) (@qa _ _ _ _ _ (@Yq _ _ (.ty "bool") _ _ (by rfl) T.z_bool boot_bool rfl (by trivial) (by trivial)) qb (by trivial)) (by trivial)) (by trivial) (by trivial) (by trivial) (by trivial)) (by trivial))) (@jr _ _ _ _ (@qo _ _ _ _ _ _ _ _ op_ne (pv 15) (@qj _ _ _ _ _ _ _ _ _ _ _ _ _ _ _ _ ah (hr.mono (by trivial)) (by rfl) T.g_law_alike.m T.g_law_alike.F.kp T.g_law_alike.b .nil qu (@qa _ _ _ _ _ (pv 1) (@qa _ _ _ _ _ (pv 2) (@qa _ _ _ _ _ (pv 11) (@qa _ _ _ _ _ (pv 12) qb (by trivial)) (by trivial)) (by trivial)) (by trivial)) (by trivial) (by trivial) (by trivial)) (qx _)))).pt (@qf _ _ _ (@qr _ _ _ _ Q9)) qw)))))))) (by trivial)) (@qf _ _ _ (@qr _ _ _ _ (@yq _ _ _ _ _ _ _ _ op_isB (@qj _ _ _ _ _ _ _ _ _ _ _ _ _ _ _ _ xf (hr.mono (by trivial)) (by rfl) T.g_alike_on.m T.g_alike_on.F.kp T.g_alike_on.b .nil qu (@qa _ _ _ _ _ (@qL _ _ _ _ _ _ _ qH (pv 3) qg (fun _ _=>rfl)) (@qa _ _ _ _ _ (@qL _ _ _ _ _ _ _ qH (pv 3) qg (fun _ _=>rfl)) (@qa _ _ _ _ _ (@qP _ _ _ _ _ qb) (@qa _ _ _ _ _ (@qP _ _ _ _ _ qb) qb (by trivial)) (by trivial)) (by trivial)) (by trivial)) (by trivial) (by trivial) (by trivial)) Q9 (qx _))))))))))))))),?_⟩
 refine⟨_,rfl,q,ns,rfl,hq,fun L ps us H1 eH s1 hL dI hok bG=> ?_⟩;obtain⟨dJ,vs,cf,cg,ch,hk,hv⟩:=pairs_at dI;have eI:vs.length=ps.length:=by
  have:=congrArg List.length hk
  rwa [u1,u1] at this
 refine⟨L,vs,rfl,⟨dJ,by rw [hL,cf],cg,ch⟩,by rw [hk];exact hok.1.2,by omega,fun d hd=> ?_⟩
 have s2:=qe hd (.dK (inrK vs));have t1:yJ (upd H1 d (.dK (inrK vs))) d ps:=⟨vs,qd,hk,hv.mono s2.tk⟩;generalize upd H1 d (.dK (inrK vs))=H2 at s2 t1;have ci:=s1.trans s2;refine⟨_,rfl,_,rfl,d,q,ps,ns,rfl,t1,hok,bG,ci.seq hq,fun e rs H3 he s3 t2 aI ck=> ?_⟩;have bH:=t1.same s3;have dL:=ci.trans s3;obtain⟨dM,dN,dO,dP⟩:=id bH;refine⟨_,rfl,d,inrK dM,rfl,.inl dN,fun dQ eJ H4 s4 cm bj aJ=> ?_⟩;intro x dx nx cn dR;have m1:Same H4 (upd (upd H4 dx (.own x)) x (.ins a.qp dx [])):=fun b ob e=>by
  rw [ql (qh e nx),ql (qh e cn)];exact e
 refine⟨x,dx,dQ,ps,_,rfl,qd,m1 _ _ bj,(items_pr aJ dO (dP.mono s4.tk) hok).mono m1.tk,hok,bG,fun qs H5 keep hP hT pq=>⟨rfl,?_⟩⟩;have s5:Same H4 H5:=fun b ob e=>keep b ob (m1 _ _ e) (qh e nx);clear keep m1 nx cn dR;have cp:=t2.same (s4.trans s5);obtain⟨ws,dS,dU,dV⟩:=id cp;refine⟨_,rfl,e,inrK ws,rfl,.inl dS,fun dW eK H6 s6 cq bn aK=> ?_⟩;intro y dy ny cr dX;have m1:Same H6 (upd (upd H6 dy (.own y)) y (.ins a.qp dy [])):=fun b ob e=>by
  rw [ql (qh e ny),ql (qh e cr)];exact e
 refine⟨y,dy,dW,rs,_,rfl,qd,m1 _ _ bn,(items_pr aK dU (dV.mono s6.tk) aI).mono m1.tk,aI,ck,fun ts H7 keep cu Z pt=>⟨rfl,?_⟩⟩;have s7:Same H6 H7:=fun b ob e=>keep b ob (m1 _ _ e) (qh e ny);clear keep m1 ny cr dX;have bI:=s6.trans s7;have bJ:=(s4.trans s5).trans bI;have aB:=dL.trans bJ;refine⟨(by show 2<=sizeLine;omega),fun M hM=> ?_⟩
 have s8:=qe hM (.lst [V.ref x,V.ref y]);have bK:upd H7 M (.lst [V.ref x,V.ref y]) M=some (.lst [V.ref x,V.ref y]):=qd;generalize upd H7 M (.lst [V.ref x,V.ref y])=H8 at s8 bK;have cv:=(hP.same bI).same s8;have bo:=cu.same s8;have cw:=bJ.trans s8;have tA:=bH.same cw;have tB:=t2.same cw;have cx:=aB.trans s8;clear aB bI bJ hP cu bj bn aJ aK cm cq t1 bH t2 cp ch cg cf;obtain⟨va,hA,aL,aY⟩:=id tA;obtain⟨vb,hB,ae,ai⟩:=id tB;refine⟨_,rfl,d,inrK va,rfl,.inl hA,fun l1 i1 H9 s9 dY cy aJ=> ?_⟩;refine⟨_,rfl,e,inrK vb,rfl,.inl (s9 _ _ hB),fun l2 i2 aC al dZ cz aK=> ?_⟩;obtain⟨b1,b2⟩:=xF aJ;obtain⟨b3,b4⟩:=xF aK;have eL:va.length=ps.length:=by
  have:=congrArg List.length aL
  rwa [u1,u1] at this
 have eM:vb.length=rs.length:=by
  have:=congrArg List.length ae
  rwa [u1,u1] at this
 refine⟨l1,l2,_,_,rfl,rfl,al _ _ cy,cz,by rw [u1,u1];omega,fun l3 cA=> ?_⟩
 have n1:=qe cA (.lst (i1.map V.ref++i2.map V.ref));refine⟨l3,va++vb,rfl,⟨i1++i2,by rw [qd,ud],by rw [u7,u7];omega,fun j t p g1 g2=> ?_⟩,by rw [u7];omega,fun l4 kvs cB cC=> ?_⟩
 ·by_cases cj:j<i1.length
  ·rw [uR cj] at g1;rw [uR (by omega)] at g2
   exact n1 _ _ (al _ _ (b2 j t p g1 g2))
  ·rw [uJ (by omega)] at g1
   rw [uJ (by omega),<-b1] at g2
   exact n1 _ _ (b4 _ t p g1 g2)
 have n2:=qe cC (.dK kvs);have cD:(kvs.map fun p=>kV p.1)=(jw [] ((va++vb).map (·.1))).map V.str:=by
  have:=congrArg (List.map kV) cB;rw [uC,uC] at this;exact this
 refine⟨l4,kvs,rfl,.inl qd,fun l5 cE=>⟨l5,jw [] ((va++vb).map (·.1)),rfl,SqL.of (by rw [qd,cD]),fun em l6 aZ bL cF=> ?_⟩⟩
 have n3:=qe cE (.lst (kvs.map fun p=>kV p.1));have n4:=qe cF (.lst (em.map V.str));have ad:=((((s9.trans al).trans n1).trans n2).trans n3).trans n4;have am:upd (upd (upd (upd aC l3 (.lst (i1.map V.ref++i2.map V.ref))) l4 (.dK kvs)) l5 (.lst (kvs.map fun p=>kV p.1))) l6 (.lst (em.map V.str)) l6=some (.lst (em.map V.str)):=qd;generalize upd (upd (upd (upd aC l3 (.lst (i1.map V.ref++i2.map V.ref))) l4 (.dK kvs)) l5 (.lst (kvs.map fun p=>kV p.1))) l6 (.lst (em.map V.str))=d0 at ad am;obtain⟨o1,o2,o3⟩:=x9 ((va++vb).map (·.1)) [] List.nodup_nil;have aM:∀z,z∈em↔z∈qs.map (·.1)∨z∈ts.map (·.1):=fun z=>by
  rw [aZ.mem_iff,o2,ud,Ud,aL,ae,(pq.map _).mem_iff,(pt.map _).mem_iff];simp
 have cG:em.Nodup:=aZ.nodup_iff.mpr o1;have cH:em.length<=120:=by
  rw [aZ.length_eq];rw [u1,u7] at o3;rw [List.length_nil,Ug] at o3;omega
 clear o1 o2 o3 aZ cD cB n1 n2 n3 n4 cA cC cE cF aJ aK b1 b2 b3 b4 cy cz dY dZ s9 al;have bM:=tA.same ad;have bN:=tB.same ad;have cI:=cv.same ad;have bp:=bo.same ad;have cJ:=ad _ _ bK;have bq:=cx.trans ad;have cK:∀z∈em,z.length<=100:=fun z hz=>by
  rcases(aM z).mp hz with h|h
  ·have:=yW (hT.1.1.1 z h);omega
  ·have:=yW (Z.1.1.1 z h);omega
 clear tA tB cv bo bK cx ad hA hB aY ai;obtain⟨va,hA,aL,aY⟩:=id bM;obtain⟨vb,hB,ae,ai⟩:=id bN;refine⟨_,rfl,l6,rfl,⟨_,SqL.of am⟩,fun B0 cL=> ?_⟩;refine lc_strF (K:=K) (tl:= [some (.ref d),some (.ref e)]) (fun z=>un qs ts z) am (by omega) cL (fun z G R hz sG r=> ?_) (fun v G R r=>⟨_,rfl,r⟩) fun aa br bt=> ?_
 ·obtain⟨g1,_⟩:=xM hok.1.2 aL (aY.mono sG.tk) pq z;obtain⟨g2,_⟩:=xM aI.1.2 ae (ai.mono sG.tk) pt z;have e1:=xv hT.1 z;refine⟨_,rfl,d,rfl,.inl ⟨_,.inl (sG _ _ hA)⟩,_,rfl,_,DGet.k (k:=Sum.inr z) (sG _ _ hA),?_⟩;refine⟨_,rfl,e,rfl,.inl ⟨_,.inl (sG _ _ hB)⟩,_,rfl,_,DGet.k (k:=Sum.inr z) (sG _ _ hB),?_⟩;exact⟨_,_,g1,g2,e1.1,(xv Z.1 z).1,by omega,_,rfl,r⟩
 refine⟨B0,_,rfl,.inl ⟨SqL.of bt,fun D0 cM=> ?_⟩⟩;have n5:=br.trans (qe cM (.tup ((em.filter fun z=>un qs ts z).map V.str)));have hD:upd aa D0 (.tup ((em.filter fun z=>un qs ts z).map V.str)) D0=some (.tup ((em.filter fun z=>un qs ts z).map V.str)):=qd;generalize upd aa D0 (.tup ((em.filter fun z=>un qs ts z).map V.str))=d1 at n5 hD;have hU:UnS qs ts (em.filter fun z=>un qs ts z):=⟨xb _ bL,cG.sublist UF,fun z=>by rw [List.mem_filter,aM],uG (U2 ..) cH⟩
 generalize (em.filter fun z=>un qs ts z)=du at hU hD;have cN:∀z∈du,z.length<=1000:=fun z hz=>by have:=cK z ((aM z).mpr ((hU.mem z).mp hz).1);omega
 have bO:Is d1 (.tup (du.map D.str)) (.ref D0):=⟨D0,_,rfl,hD,strs_is cN⟩;have cO:=bM.same n5;have cP:=bN.same n5;have a7:=cI.same n5;have aA:=bp.same n5;have aD:=n5 _ _ cJ;have cQ:=n5 _ _ am;have bu:=bq.trans n5;clear bM bN cI bp cJ bq n5 am hA hB aY ai aL ae br bt cL cM;refine⟨_,rfl,M,_,_,_,rfl,rfl,SqL.of aD,rfl,_,rfl,M,_,_,_,rfl,rfl,SqL.of aD,rfl,x,y,qs,ts,rfl,a7,hT,aA,Z,fun v1 m1 eN av cR cS=> ?_⟩;have e1:m1=du:=cS.one hU;subst e1;have rt:trD (.tup (m1.map D.str))=true:=row_tr m1;have rd:dp (.tup (m1.map D.str))<=60:=row_dp m1;have rz:eqD (.tup (m1.map D.str)) (.tup (m1.map D.str))=true:=row_self m1;refine⟨_,rfl,_,_,cR,bO.mono av.tk,rt,rt,rd,_,rfl,?_⟩;rw [rz];refine iteN rfl ?_;refine⟨_,rfl,M,_,_,_,rfl,rfl,SqL.of (av _ _ aD),rfl,_,rfl,M,_,_,_,rfl,rfl,SqL.of (av _ _ aD),rfl,y,x,ts,qs,rfl,aA.same av,Z,a7.same av,hT,fun v2 m2 eO cT cU cV=> ?_⟩;have e2:m2=m1:=(cV.swap Z.1 hT.1).one hU;subst e2;have U:=av.trans cT;refine⟨_,rfl,_,_,cU,bO.mono U.tk,rt,rt,rd,_,rfl,?_⟩;rw [rz];refine iteN rfl ?_;have cW:=cO.same U;have bP:=cP.same U;have bQ:=a7.same U;have bv:=aA.same U;have bR:=U _ _ aD;have cX:=U _ _ cQ;have a8:=U _ _ hD;have bw:=bu.trans U;clear cO cP a7 aA aD cQ bu U av cT cR cU cS cV bO hD rt rd rz;obtain⟨vb,hB,ae,ai⟩:=id bP;have cY:∀z,decide (z∈rs.map (·.1))=decide (z∈ts.map (·.1)):=fun z=>by
  have:=(pt.map (·.1)).mem_iff (a:=z);by_cases c:z∈ts.map (·.1)
  ·rw [u9 c,u9 (this.mp c)]
  ·rw [ua c,ua (fun h=>c (this.mpr h))]
 refine⟨_,rfl,M,_,_,_,rfl,rfl,SqL.of bR,rfl,?_⟩;refine⟨_,rfl,D0,_,rfl,SqT.of a8,fun _ A0 aw=> ?_⟩;refine lc_tupSF (K:=K) (tl:= [some (.ref e)]) (fun z=> !decide (z∈ts.map (·.1))) a8 (by have:=hU.len;omega) aw (fun z G R hz sG r=> ?_) (fun v G R r=>⟨_,rfl,r⟩) fun cZ bS bx=> ?_
 ·refine⟨_,rfl,_,rfl,e,_,rfl,DGet.k (k:=Sum.inr z) (sG _ _ hB),_,rfl,?_⟩;rw [Y2 ae (ai.mono sG.tk),cY];exact r
 have ax:cZ A0=some (.lst ((gn ts m2).map V.str)):=bx;have eP:∀z∈m2,z.length<=1000:=cN;refine⟨A0,rfl,⟨_,SqL.of ax⟩,yS (K:=K) (a:=A0) (xs:=(gn ts m2).map V.str) (fun i σ G=>∃(m:Addr) (cur:List (Str×D)) (nv:Option V),σ= [some (.ref q),some (.ref d),some (.ref e),some (.ref M),some (.ref l6),some (.ref D0),some (.ref m),nv,none,none,none,none,none,none,none,none]/\Same cZ G/\Qp a.qp G m cur/\yB cur/\Way qs ts cur ((gn ts m2).take i) [])
  ⟨x,qs,none,rfl,Same.refl _,bQ.same bS,hT,fun z=>by simp⟩ (fun i σ G _ ⟨_,_,_,_,sG,_⟩=>SqL.of (sG _ _ ax)) ?_ ?_⟩
 ·rintro i z0 σ G hi ⟨m,cur,nv,rfl,sG,af,ac,hW⟩;have ay:i<(gn ts m2).length:=by
   have:=(List.getElem?_eq_some_iff.mp hi).1
   rwa [u1] at this
  rw [uk,u4 ay] at hi;cases hi;refine⟨_,rfl,_,rfl,m,(gn ts m2)[i],cur,rfl,af,ac,way_out hU hT.1 ac.1 ay hW,fun m' aN G' s' bT bU bV=>⟨m',aN,_,rfl,sG.trans s',bT,bU,way_gone ay ac.1.1.2 hW bV⟩⟩
 rintro σ G ⟨m,cur,nv,rfl,sG,af,ac,hW⟩;rw [u1,uP] at hW;have aO:=bS.trans sG;have bW:=aO _ _ a8;refine⟨_,rfl,D0,_,rfl,SqT.of bW,fun _ A1 c1=> ?_⟩;refine lc_tupSF (K:=K) (tl:= [some (.ref e)]) (fun z=>decide (z∈ts.map (·.1))) bW (by have:=hU.len;omega) c1 (fun z G' R hz c2 r=> ?_) (fun v G' R r=>⟨_,rfl,r⟩) fun c3 aB bz=> ?_
 ·refine⟨_,rfl,_,rfl,e,_,rfl,DGet.k (k:=Sum.inr z) (c2 _ _ (aO _ _ hB)),_,rfl,?_⟩;rw [Y2 ae (ai.mono (aO.trans c2).tk),cY];exact r
 have az:c3 A1=some (.lst ((pu ts m2).map V.str)):=bz;have aP:=aO.trans aB;have d2:∀j,∀z∈(pu ts m2).take j,z∈ts.map (·.1):=fun j z hz=>(pu_mem.mp (vP hz)).2;refine⟨A1,rfl,⟨_,SqL.of az⟩,yS (K:=K) (a:=A1) (xs:=(pu ts m2).map V.str) (fun i σ G=>∃(m:Addr) (cur:List (Str×D)) (nv:Option V),σ= [some (.ref q),some (.ref d),some (.ref e),some (.ref M),some (.ref l6),some (.ref D0),some (.ref m),nv,none,none,none,none,none,none,none,none]/\Same c3 G/\Qp a.qp G m cur/\yB cur/\Way qs ts cur (gn ts m2) ((pu ts m2).take i))
  ⟨m,cur,nv,rfl,Same.refl _,af.same aB,ac,hW⟩ (fun i σ G _ ⟨_,_,_,_,sG,_⟩=>SqL.of (sG _ _ az)) ?_ ?_⟩
 ·rintro i z0 σ G2 hi ⟨m,cur,nv,rfl,aQ,af,ac,hW⟩;have ay:i<(pu ts m2).length:=by
   have:=(List.getElem?_eq_some_iff.mp hi).1
   rwa [u1] at this
  rw [uk,u4 ay] at hi;cases hi;have a9:=(pu_mem.mp (uj ay)).2;have d3:(pu ts m2)[i]∈rs.map (·.1):=(pt.map _).mem_iff.mp a9;have lk:=look2 ae ai d3;have sB:=aP.trans aQ;have c4:qD rs (pu ts m2)[i]=qD ts (pu ts m2)[i]:=(dat_pm aI.1.2 pt _).symm;have bA:=Z.1.2 _ (jH Z.1.1.2 a9);have c5:=Z.1.1.1 _ a9;have d4:=way_len hU hT.1 Z ac.1 (d2 i) hW a9;refine⟨_,rfl,_,rfl,_,rfl,_,rfl,e,yz vb (pu ts m2)[i],rfl,.inl ⟨inrK vb,Sum.inr (pu ts m2)[i],.inl (sB _ _ hB),rfl,lk.1.symm⟩,m,(pu ts m2)[i],yz vb (pu ts m2)[i],qD ts (pu ts m2)[i],cur,rfl,af,ac,by rw [<-c4];exact lk.2.mono sB.tk,c5,bA,d4,fun m' aN G' s' bT bU bV=>⟨m',aN,_,rfl,aQ.trans s',bT,bU,way_put ay hU ac.1 (put_pr ac.1 c5 bA) hW bV⟩⟩
 rintro σ G2 ⟨m,cur,nv,rfl,aQ,af,ac,hW⟩;rw [u1,uP] at hW;have bB:cur=ts:=tab_same ac Z (way_end hU hT.1 hW);rw [bB] at af ac;have sE:=aP.trans aQ;have c8:=bQ.same sE;have ao:=bv.same sE;have ba:=sE _ _ bR;have c9:=sE _ _ cX;have da:=cW.same sE;have db:=bP.same sE;have de:=bw.trans sE;clear bQ bv bR cX cW bP bw sE aP aO sG aQ bS aB bx ax bz az aw c1 hW bB hB ae ai a8 bW;obtain⟨dm,eQ,om,eS,hm,d5⟩:=id af;obtain⟨dy,eT,oy,eU,hy,d6⟩:=id ao;obtain⟨bb,d7⟩:=prD_lw (l:=ts) (fun p hp=>Z.1.1.1 p.1 (List.mem_map.mpr ⟨p,hp,rfl⟩)) Z.1.2;refine⟨_,rfl,m,dm,_,rfl,hm,QN,m,ts,rfl,af,Z,fun w1 G3 s3 j3=> ?_⟩;refine⟨_,rfl,M,_,_,_,rfl,rfl,SqL.of (s3 _ _ ba),rfl,y,dy,_,rfl,s3 _ _ hy,QN,y,ts,rfl,ao.same s3,Z,fun w2 G4 s4 j4=> ?_⟩;refine⟨_,_,j3.mono s4.tk,j4,lw_tr bb,lw_tr bb,by omega,_,rfl,?_⟩
 rw [(xy (lw_pu bb)).mpr rfl];refine iteN rfl ?_;have aR:=s3.trans s4;refine⟨_,rfl,_,rfl,M,_,_,_,rfl,rfl,SqL.of (aR _ _ ba),rfl,m,y,ts,ts,rfl,af.same aR,Z,ao.same aR,Z,fun w3 m5 G5 s5 j5 df=> ?_⟩;have d8:m5= []:=by
  refine List.eq_nil_iff_forall_not_mem.mpr fun z hz=> ?_;have:=((df.mem z).mp hz).2;rw [(un_iff Z.1).mpr rfl] at this;cases this
 subst d8;obtain⟨b5,d9,rfl,dg,bC⟩:=j5;cases(show d9= [] from bC)
 refine⟨(by show 0<=sizeLine;omega),fun t5 dh=> ?_⟩
 have n5:=qe dh (.tup ([]:List V));refine⟨b5,t5,[],rfl,rfl,SqT.of (n5 _ _ dg),SqT.of qd,_,rfl,iteN rfl ?_⟩;have s6:=(aR.trans s5).trans n5;generalize upd G5 t5 (.tup ([]:List V))=G6 at n5 s6;have di:=c8.same s6;have bD:=ao.same s6;have dj:=s6 _ _ ba;have dk:=s6 _ _ c9;have dl:=da.same s6;have dn:=db.same s6;have bX:SqL K G6 q (ns.map V.int):=(de.trans s6).seq hq;clear c8 ao ba c9 da db de s6 n5 aR s3 s4 s5 dg bC dh hm hy d5 d6 bb d7 j3 j4 df;obtain⟨ms,ea,eV⟩:=cut_ints ns none (some 30);refine⟨_,rfl,q,_,rfl,.inl bX,(by show 1<=sizeLine;omega),fun X1 dq=> ?_⟩
 have n1:=qe dq (.lst [V.int ((ns.map V.int).length:Int)]);refine⟨_,rfl,_,rfl,q,_,rfl,n1.seq bX,fun X2 dr=> ?_⟩;rw [ea];have n2:=qe dr (.lst (ms.map V.int));refine⟨X2,ms.map V.int,rfl,.inl (SqL.of qd),fun X3 dt=> ?_⟩;have n3:=qe dt (.lst (ms.map V.int));refine⟨X1,X3,_,_,rfl,rfl,n3 _ _ (n2 _ _ qd),qd,by rw [u1,u1];show 1+ms.length<=_;omega,fun X4 dv=> ?_⟩
 have n4:=qe dv (.lst ([V.int ((ns.map V.int).length:Int)]++ms.map V.int));have ap:=((n1.trans n2).trans n3).trans n4;have eX: [V.int ((ns.map V.int).length:Int)]++ms.map V.int=([((ns.map V.int).length:Int)]++ms).map V.int:=by simp
 have hX:upd (upd (upd (upd G6 X1 (.lst [V.int ((ns.map V.int).length:Int)])) X2 (.lst (ms.map V.int))) X3 (.lst (ms.map V.int))) X4 (.lst ([V.int ((ns.map V.int).length:Int)]++ms.map V.int)) X4=some (.lst (([((ns.map V.int).length:Int)]++ms).map V.int)):=by rw [qd,eX]
 generalize upd (upd (upd (upd G6 X1 (.lst [V.int ((ns.map V.int).length:Int)])) X2 (.lst (ms.map V.int))) X3 (.lst (ms.map V.int))) X4 (.lst ([V.int ((ns.map V.int).length:Int)]++ms.map V.int))=G7 at ap hX;have dw:=di.same ap;have bE:=bD.same ap;have bc:=ap _ _ dj;have eb:=ap _ _ dk;have ec:=dl.same ap;have ed:=dn.same ap;clear di bD dj dk dl dn ap n1 n2 n3 n4 dq dr dt dv bX;generalize [((ns.map V.int).length:Int)]++ms=cs at hX;refine⟨X4,rfl,⟨_,SqL.of hX⟩,yS (K:=K) (a:=X4) (xs:=cs.map V.int) (fun i σ G=>∃(v7 v8 v9 bY bZ b7 aj ak aE:Option V),σ= [some (.ref q),some (.ref d),some (.ref e),some (.ref M),some (.ref l6),some (.ref D0),some (.ref m),v7,v8,v9,bY,bZ,b7,aj,ak,aE]/\Same G7 G) ⟨_,_,_,_,_,_,_,_,_,rfl,Same.refl _⟩ (fun i σ G _ ⟨_,_,_,_,_,_,_,_,_,_,sG⟩=>SqL.of (sG _ _ hX)) ?_ ?_⟩
 ·rintro i c0 σ G hi ⟨v7,v8,v9,bY,bZ,b7,aj,ak,aE,rfl,sG⟩;obtain⟨c,_,rfl⟩:=List.mem_map.mp (uK hi);refine⟨_,rfl,c,11,rfl,by decide,by decide,fun p H1 hp s1 P1=> ?_⟩
  have dz:=sG.trans s1;refine⟨_,rfl,(by show 2<=sizeLine;omega),fun B hB=>⟨l6,B,_,_,rfl,rfl,(qe hB _) _ _ (dz _ _ eb),qd,by rw [u1];show em.length+2<=_;omega,fun R hR=> ?_⟩⟩
  have eR:em.map V.str++ [V.str "q",V.str "zz"]=(em++QZ).map V.str:=by simp [QZ]
  have n1:=(qe hB (.lst [V.str "q",V.str "zz"])).trans (qe hR (.lst (em.map V.str++ [V.str "q",V.str "zz"])));have bd:upd (upd H1 B (.lst [V.str "q",V.str "zz"])) R (.lst (em.map V.str++ [V.str "q",V.str "zz"])) R=some (.lst ((em++QZ).map V.str)):=by rw [qd,eR]
  generalize upd (upd H1 B (.lst [V.str "q",V.str "zz"])) R (.lst (em.map V.str++ [V.str "q",V.str "zz"]))=H2 at n1 bd;have P2:=P1.same n1;have ef:=dz.trans n1;have aF:p≠R:=fun z=>by
   obtain⟨_,_,h1,_⟩:=P2;rw [z,bd] at h1;injection h1 with h1
   injection h1 with h1
   rw [ud] at h1;cases em with
   |nil=>cases h1
   |cons z0 r=>cases h1
  have zl:∀z∈em++QZ,z.length<=100:=fun z hz=>by
   rcases List.mem_append.mp hz with h|h
   ·exact cK z h
   ·rcases List.mem_cons.mp h with rfl|h
    ·decide
    ·rw [List.mem_singleton.mp h];decide
  have eg:(em++QZ).length=em.length+2:=by rw [u7];rfl
  have eh:G7 p=none:=sG.free hp;generalize em++QZ=so at bd zl eg;refine⟨_,rfl,p,4,rfl,P2,by decide,by decide,fun j1 H3 a1 b1 P3 K3=> ?_⟩
  have b8:=K3 _ _ bd aF.symm;refine⟨_,rfl,by omega,by omega,fun A0 aw=> ?_⟩
  have b9:A0≠p:=(P3.free aw).symm;have eW:R≠A0:=qh b8 aw;refine lc_range (fun i ys H'=>(∃zs:List Str,ys=zs.map V.str)/\Qa H' p/\Kept p H3 H') (by omega) ⟨⟨[],rfl⟩,P3.updL b9,fun b o h n=>by rw [ql (qh h aw)];exact h⟩ (fun i ys H' hi=> ?_) fun ys H4 hC ei=> ?_
  ·rintro⟨⟨zs,rfl⟩,P',K'⟩ aG _ R' r';have aS:=K' _ _ b8 aF.symm;refine⟨_,rfl,_,rfl,_,rfl,R,_,rfl,.inl (SqL.of aS),p,_,rfl,P',by rw [u1];omega,by rw [u1];omega,fun j2 H5 a2 b2 P5 K5=> ?_⟩
   obtain⟨x1,aT⟩:=Qw (xs:=so.map V.str) (i:=j2) a2 b2;obtain⟨z1,dA,rfl⟩:=List.mem_map.mp (Q8 aT);refine⟨R,_,_,_,rfl,rfl,SqL.of (K5 _ _ aS aF.symm),aT,r' _ _ (K5 _ _ aG b9) ⟨⟨zs++ [z1],by rw [ud];rfl⟩,P5.updL b9,fun b o h n=>by rw [ql (qh h aw)];exact K5 _ _ (K' _ _ h n) n⟩⟩
  obtain⟨⟨zs,rfl⟩,P4,K4⟩:=hC;have ej:=K3.trans K4;have ek:=K4 _ _ b8 aF.symm;refine⟨A0,_,rfl,.inl ⟨SqL.of ei,fun N hN=> ?_⟩⟩;have n5:=qe hN (.tup (zs.map V.str));have ca:upd H4 N (.tup (zs.map V.str)) N=some (.tup (zs.map V.str)):=qd;generalize upd H4 N (.tup (zs.map V.str))=H5 at n5 ca;have P5:=P4.same n5;have el:=n5 _ _ ek;have en:Kept p H2 H5:=ej.trans n5.kept;refine⟨(by show 0<=sizeLine;omega),fun Lk cb=> ?_⟩
  have n6:=qe cb (.lst ([]:List V));have dB:upd H5 Lk (.lst ([]:List V)) Lk=some (.lst ([]:List V)):=qd;generalize upd H5 Lk (.lst ([]:List V))=H6 at n6 dB;have P6:=P5.same n6;have be:Lk≠p:=(P5.free cb).symm;refine⟨_,rfl,p,4,rfl,P6,by decide,by decide,fun j3 H7 a3 b3 P7 K7=> ?_⟩
  refine⟨_,rfl,by omega,by omega,?_⟩
  refine QT (lo:=0) (fun i σ G'=>∃(us:List V) (ks:List (Str×Str)) (aj ak:Option V),σ= [some (.ref q),some (.ref d),some (.ref e),some (.ref M),some (.ref l6),some (.ref D0),some (.ref m),v7,some (.int c),some (.ref p),some (.ref R),some (.ref N),some (.ref Lk),aj,ak,aE]/\G' Lk=some (.lst us)/\AskL G' us ks/\(∀k∈ks,okK k)/\Qa G' p/\Kept p H5 G'/\us.length<=i) ⟨[],[],_,_,rfl,K7 _ _ dB be,⟨rfl,fun i u k a=>by simp at a⟩,(fun k h=>nomatch h),P7,n6.kept.trans K7,u8 _⟩ ?_ ?_
  ·rintro i σ G' hi ⟨aq,ks,aj,ak,rfl,bf,aG,bg,P',K',lu⟩;have aS:=K' _ _ el aF.symm;refine⟨_,rfl,_,rfl,_,rfl,R,_,rfl,.inl (SqL.of aS),p,_,rfl,P',by rw [u1];omega,by rw [u1];omega,fun j4 H8 a4 b4 P8 K8=> ?_⟩
   obtain⟨x1,aT⟩:=Qw (xs:=so.map V.str) (i:=j4) a4 b4;obtain⟨z1,dA,rfl⟩:=List.mem_map.mp (Q8 aT);refine⟨R,_,_,_,rfl,rfl,SqL.of (K8 _ _ aS aF.symm),aT,?_⟩;have eo:=zl z1 dA;have dC:=K8 _ _ bf be;refine⟨_,rfl,.inl ⟨rfl,_,SqL.of dC⟩,_,rfl,(by show 2<=sizeLine;omega),fun t1 eq=> ?_⟩
   have m1:=qe eq (.tup [V.str "has",V.str z1]);refine⟨_,rfl,_,rfl,p,3,rfl,P8.same m1,by decide,by decide,fun j5 H9 a5 b5 P9 K9=> ?_⟩
   refine⟨_,rfl,z1,rfl,by omega,(by show 2<=sizeLine;omega),fun t2 dD=> ?_⟩
   generalize er:Txt.slice z1 none (some j5)=z2 at dD⊢;have et:z2.length<=1000:=by
    obtain⟨eu,ev⟩:∃n:Nat,j5=(n:Int):=⟨j5.toNat,by omega⟩
    rw [<-er,ev];have:=sTo_len z1 eu;omega
   have m2:=qe dD (.tup [V.str "names",V.str z2]);refine⟨(by show 2<=sizeLine;omega),fun l9 dE=> ?_⟩
   have m3:=qe dE (.lst [V.ref t1,V.ref t2]);have ew:Kept p H8 (upd (upd H9 t2 (.tup [V.str "names",V.str z2])) l9 (.lst [V.ref t1,V.ref t2])):=(m1.kept.trans K9).trans (m2.trans m3).kept;have ey:=(P9.same m2).same m3;refine⟨_,rfl,p,2,rfl,ey,by decide,by decide,fun j6 aa a6 b6 bh bi=> ?_⟩
   have ez:l9≠p:=((P9.same m2).free dE).symm;have bF:=bi _ _ (qd:upd (upd H9 t2 (.tup [V.str "names",V.str z2])) l9 (.lst [V.ref t1,V.ref t2]) l9=_) ez;have aU:=ew.trans bi;have cc:=P8.tk bh aU;have aV:=aU _ _ dC be;have eA:Tk G' aa:=(P'.tk P8 K8).trans cc;have dF:aa t1=some (.tup [V.str "has",V.str z1]):=((P8.same m1).tk bh ((K9.trans (m2.trans m3).kept).trans bi)).tup _ _ qd;have dG:aa t2=some (.tup [V.str "names",V.str z2]):=((P9.same m2).tk bh (m3.kept.trans bi)).tup _ _ qd;have fin:∀(t:Addr) (k:Str×Str),aa t=some (.tup [.str k.1,.str k.2])->okK k->∃(us:List V) (ks:List (Str×Str)) (aj ak:Option V),[some (V.ref q),some (V.ref d),some (V.ref e),some (V.ref M),some (V.ref l6),some (V.ref D0),some (V.ref m),v7,some (V.int c),some (V.ref p),some (V.ref R),some (V.ref N),some (V.ref Lk),some (V.int (0+(i:Int))),some (V.str z1),aE]= [some (.ref q),some (.ref d),some (.ref e),some (.ref M),some (.ref l6),some (.ref D0),some (.ref m),v7,some (.int c),some (.ref p),some (.ref R),some (.ref N),some (.ref Lk),aj,ak,aE]/\upd aa Lk (.lst (aq++ [V.ref t])) Lk=some (.lst us)/\AskL (upd aa Lk (.lst (aq++ [V.ref t]))) us ks/\(∀k∈ks,okK k)/\Qa (upd aa Lk (.lst (aq++ [V.ref t]))) p/\Kept p H5 (upd aa Lk (.lst (aq++ [V.ref t])))/\us.length<=i+1:=fun t kk ht hk=>by
    have eB:Tk aa (upd aa Lk (.lst (aq++ [V.ref t]))):=Tk.updL aV;refine⟨aq++ [V.ref t],ks++ [kk],_,_,rfl,qd,((aG.mono eA).snoc ht).mono eB,fun k eC=> ?_,bh.updL be,fun b o h n=> ?_,by rw [u7];exact Nat.succ_le_succ lu⟩
    ·rcases List.mem_append.mp eC with h|h
     ·exact bg k h
     ·rw [List.mem_singleton.mp h];exact hk
    ·rw [ql (qh h cb)];exact((K'.trans K8).trans aU) b o h n
   by_cases c6:j6=0
   ·refine⟨l9,[V.ref t1,V.ref t2],j6,V.ref t1,rfl,rfl,SqL.of bF,by rw [c6];rfl,Lk,aq,_,rfl,rfl,aV,by omega,?_⟩
    exact fin t1 ("has",z1) dF ⟨.inl rfl,by show z1.length<=1000;omega⟩
   ·have c7:j6=1:=by omega
    refine⟨l9,[V.ref t1,V.ref t2],j6,V.ref t2,rfl,rfl,SqL.of bF,by rw [c7];rfl,Lk,aq,_,rfl,rfl,aV,by omega,?_⟩
    exact fin t2 ("names",z2) dG ⟨.inr rfl,et⟩
  ·rintro σ G' ⟨us,ks,aj,ak,rfl,bf,aG,bg,P',K',lu⟩;have K2:Kept p H2 G':=en.trans K';have cd:Same G7 G':=K2.same ef eh;refine⟨_,rfl,M,_,_,_,rfl,rfl,SqL.of (cd _ _ bc),rfl,_,rfl,M,_,_,_,rfl,rfl,SqL.of (cd _ _ bc),rfl,_,rfl,_,rfl,Lk,us,rfl,.inl ⟨SqL.of bf,fun N2 ce=> ?_⟩⟩;have n8:=qe ce (.tup us);have eD:N≠p:=fun z=>by
    obtain⟨_,_,h1,_⟩:=P5;rw [<-z,ca] at h1;cases h1
   have dH:=K' _ _ ca eD;have aH:=cd.trans n8;refine⟨x,y,N,N2,qs,ts,zs,us,ks,rfl,dw.same aH,hT,bE.same aH,Z,n8 _ _ dH,qd,aG.mono n8.tk,bg,fun aC al=> ?_⟩;have aW:=aH.trans al;have aX:=n8.trans al;refine⟨_,rfl,_,"bool",_,true,rfl,.bl _,Xa (by decide),_,rfl,iteF ?_⟩
   refine⟨_,rfl,_,rfl,_,rfl,_,rfl,_,rfl,d,e,N,Lk,ps,rs,qs,ts,zs,us,ks,rfl,ec.same aW,hok,bG,ed.same aW,aI,ck,pq,hT.2.1,pt,Z.2.1,aX _ _ dH,aX _ _ bf,aG.mono aX.tk,bg,fun d0 eE=>⟨rfl,_,rfl,iteNS rfl ?_⟩⟩;exact⟨_,_,_,_,_,_,_,_,_,rfl,aW.trans eE⟩
 rintro σ G ⟨v7,v8,v9,bY,bZ,b7,aj,ak,aE,rfl,sG⟩;refine⟨_,rfl,M,_,_,_,rfl,rfl,SqL.of (sG _ _ bc),rfl,_,rfl,M,_,_,_,rfl,rfl,SqL.of (sG _ _ bc),rfl,(by show 0<=sizeLine;omega),fun N1 eF=>⟨(by show 0<=sizeLine;omega),fun N2 ce=> ?_⟩⟩
 have m1:=qe eF (.tup ([]:List V));have m2:=qe ce (.tup ([]:List V));have aH:=(sG.trans m1).trans m2;refine⟨x,y,N1,N2,qs,ts,[],[],[],rfl,dw.same aH,hT,bE.same aH,Z,m2 _ _ qd,qd,⟨rfl,fun i u k a=>by simp at a⟩,(fun k h=>nomatch h),fun aC al=> ?_⟩
 show∃c,V.bl true=V.bl c/\Q (V.bl (decide (V.bl (alk qs ts [] [])=V.bl c))) aC;refine⟨true,rfl,?_⟩;rw [u9 (show V.bl (alk qs ts [] [])=V.bl true from rfl)]
 exact k aC
end
theorem tx_mk {K:PySem.W.Frag}{h:Heap}{mg:Str->Option Value}(X:K.In h)(G:h.Ns mainGlobals mg){U f1 f2 f3 f4 f5 f6 f7 f8 f9 ae af ag ah ai aj ak al am ao ap aq au av aw ax ay az aA aB aC:Addr}{t1 t2 t3 t4 t5 t6 t7 t8 t9:Tok}
  (ac:PySem.W.nsIn K mainGlobals "Project"=some (some (.ref U))) (ad:Cls K U) (aa:PySem.W.makesIn K U=true/\PySem.W.keepIn K (.ref U)=true)
  (h1:FZg K "is_text" Jz f1)
  (h2:FZg K "is_tree" YQ f2)
  (h3:FZg K "is_name" j9 f3)
  (h4:FZg K "is_pair" jW f4)
  (h5:FZg K "is_source" Yn f5)
  (h6:FZm K U "__init__" "Project.__init__" Qx f6)
  (h7:FZm K U "sources" "Project.sources" Qs f7)
  (h8:FZm K U "source_of" "Project.source_of" Qe f8)
  (h9:FZm K U "looked_up" "Project.looked_up" qW f9)
  (aD:FZg K "longest_row" yt ae)
  (aE:FZg K "with_source" QK af)
  (aF:FZg K "without" YR ag)
  (aG:FZg K "unlike_names" Qc ah)
  (aH:FZg K "alike_on" jd ai)
  (aI:FZg K "_law_pot" Jg aj)
  (aJ:FZg K "_law_take" Y8 ak)
  (aK:FZg K "_law_cell_at" yk al)
  (aL:FZg K "_law_signs" Yh am)
  (aM:FZg K "_law_text" Y0 ao)
  (aN:FZg K "_law_tree" yQ ap)
  (aO:FZg K "_law_measure" QL aq)
  (aP:FZg K "_law_is_tree" yo au)
  (aQ:FZg K "_law_good_tree" QP av)
  (aR:FZg K "_law_names" Ym aw)
  (aS:FZg K "_law_source" yI ax)
  (aT:FZg K "_law_pairs" Yb ay)
  (aU:FZg K "_law_changed" yx az)
  (aV:FZg K "_law_row" Jp aA)
  (aW:FZg K "_law_alike" Yr aB)
  (aX:FZg K "law" s_law aC)
  (Z:PySem.W.findIn K (.ref U) "by_name"=some none)
  (g1:PySem.W.nsIn K mainGlobals "MOST_SIGNS"=some (some (.int 300 t1)))
  (g2:PySem.W.nsIn K mainGlobals "MOST_PARTS"=some (some (.int 40 t2)))
  (g3:PySem.W.nsIn K mainGlobals "MOST_SIZE"=some (some (.int 600 t3)))
  (g4:PySem.W.nsIn K mainGlobals "MOST_DEPTH"=some (some (.int 12 t4)))
  (g5:PySem.W.nsIn K mainGlobals "MOST_NAME_SIGNS"=some (some (.int 24 t5)))
  (g6:PySem.W.nsIn K mainGlobals "LETTERS"=some (some (.str "abcdefghijklmnopqrstuvwxyz" t6)))
  (g7:PySem.W.nsIn K mainGlobals "NAME_SIGNS"=some (some (.str "abcdefghijklmnopqrstuvwxyz0123456789./" t7)))
  (g8:PySem.W.nsIn K mainGlobals "PERCENT"=some (some (.int 37 t8)))
  (g9:PySem.W.nsIn K mainGlobals "MOST_NAMES"=some (some (.int 60 t9)))
  (zz:∀x∈(["ord","len","isinstance","str","tuple","all","dict","sorted","set","abs","range","max","sum","min","list","bool"]:List Str),PySem.W.nsIn K mainGlobals x=some none):∃a,Tx K mg a:=by
 obtain⟨d1,F1⟩:=QC X G h1 ["value"] (by trivial)
 obtain⟨d2,F2⟩:=QC X G h2 ["value"] (by trivial)
 obtain⟨d3,F3⟩:=QC X G h3 ["value"] (by trivial)
 obtain⟨d4,F4⟩:=QC X G h4 ["value"] (by trivial)
 obtain⟨d5,F5⟩:=QC X G h5 ["value"] (by trivial)
 obtain⟨d6,F6⟩:=fm_of h6 ["self","sources"] (by trivial)
 obtain⟨d7,F7⟩:=fm_of h7 ["self"] (by trivial)
 obtain⟨d8,F8⟩:=fm_of h8 ["self","name"] (by trivial)
 obtain⟨d9,F9⟩:=fm_of h9 ["self","ask"] (by trivial)
 obtain⟨aY,aZ⟩:=QC X G aD ["names"] (by trivial)
 obtain⟨a1,a2⟩:=QC X G aE ["project","name","source"] (by trivial)
 obtain⟨a3,a4⟩:=QC X G aF ["project","name"] (by trivial)
 obtain⟨a5,a6⟩:=QC X G aG ["project","other"] (by trivial)
 obtain⟨a7,a8⟩:=QC X G aH ["project","other","names","asks"] (by trivial)
 obtain⟨a9,ba⟩:=QC X G aI ["cell","salt"] (by trivial)
 obtain⟨bb,bc⟩:=QC X G aJ ["pot","many"] (by trivial)
 obtain⟨bd,be⟩:=QC X G aK ["script","k"] (by trivial)
 obtain⟨bf,bg⟩:=QC X G aL [] (by trivial)
 obtain⟨bh,bi⟩:=QC X G aM ["pot"] (by trivial)
 obtain⟨bj,bn⟩:=QC X G aN ["pot","deep"] (by trivial)
 obtain⟨bo,bp⟩:=QC X G aO ["value"] (by trivial)
 obtain⟨bq,br⟩:=QC X G aP ["value"] (by trivial)
 obtain⟨bt,bu⟩:=QC X G aQ ["pot"] (by trivial)
 obtain⟨bv,bw⟩:=QC X G aR ["pot","many"] (by trivial)
 obtain⟨bx,bz⟩:=QC X G aS ["pot","names"] (by trivial)
 obtain⟨bA,bB⟩:=QC X G aT ["script"] (by trivial)
 obtain⟨bC,bD⟩:=QC X G aU ["table","script"] (by trivial)
 obtain⟨bE,bF⟩:=QC X G aV ["table","text"] (by trivial)
 obtain⟨bG,bH⟩:=QC X G aW ["one","other","names","asks"] (by trivial)
 obtain⟨bI,bJ⟩:=QC X G aX ["script"] (by trivial)
 have z:∀x∈(["ord","len","isinstance","str","tuple","all","dict","sorted","set","abs","range","max","sum","min","list","bool"]:List Str),mg x=none:=fun x hx=>PySem.W.mg_none_of X G (zz x hx);simp only [Uk,List.mem_nil_iff,or_false,forall_eq_or_imp,forall_eq] at z;obtain⟨z1,z2,z3,z4,z5,z6,z7,z8,z9,bK,bL,bM,bN,bO,bP,bQ⟩:=z;exact⟨⟨f1,d1,f2,d2,f3,d3,f4,d4,f5,d5,f6,d6,f7,d7,f8,d8,f9,d9,ae,aY,af,a1,ag,a3,ah,a5,ai,a7,aj,a9,ak,bb,al,bd,am,bf,ao,bh,ap,bj,aq,bo,au,bq,av,bt,aw,bv,ax,bx,ay,bA,az,bC,aA,bE,aB,bG,aC,bI,U⟩,⟨F1,F2,F3,F4,F5,F6,F7,F8,F9,aZ,a2,a4,a6,a8,ba,bc,be,bg,bi,bn,bp,br,bu,bw,bz,bB,bD,bF,bH,bJ,ad,⟨aa.1,h6.1,h6.2.1,aa.2⟩,vG X G ac,Z,⟨_,vG X G g1⟩,⟨_,vG X G g2⟩,⟨_,vG X G g3⟩,⟨_,vG X G g4⟩,⟨_,vG X G g5⟩,⟨_,vG X G g6⟩,⟨_,vG X G g7⟩,⟨_,vG X G g8⟩,⟨_,vG X G g9⟩,z1,z2,z3,z4,z5,z6,z7,z8,z9,bK,bL,bM,bN,bO,bP,bQ⟩⟩
end K19
open PySem PySem.W PyProof.Rows
set_option maxRecDepth 100000 in
set_option maxHeartbeats 0 in
theorem PySem.Challenge.cw_askwright_k19_whole_likeness_and_differe_holds : PySem.Challenge.rw_askwright_k19_whole_likeness_and_differe.Holds := by
 w_on;o_law;k_head;(case hw=>w_witness2)
 k_fill
 refine L2.walk_ofK (l:=PySem.Challenge.rw_askwright_k19_whole_likeness_and_differe) (n:=63) (k:=157) (x:="script") (CX:=L2.CX0) (sp:=K19.sp_law) rfl (by decide) rfl ⟨rfl,by decide,by decide⟩ (fun w h Y=>PySem.W.kIn_of Y) ?F ?S ?C
 case F=>
  intro w mg fa h KX G hmg
  have T:∃a,K19.Tx (L2.KOf KX) mg a:=by
   dsimp only [L2.KOf]
   refine' K19.tx_mk KX G ..
   all_goals first|exact⟨by k_is,_,_,_,_,_,_,_,_,_,by k_is,by k_is,by k_is⟩|exact⟨by k_is,by k_is,_,_,_,_,_,_,_,_,_,by k_is,by k_is,by k_is⟩|(show _=_;k_is)|exact⟨by k_is,by k_is,by k_is,by k_is⟩|exact⟨by k_is,by k_is⟩|(intro x hx;simp only [Uk,List.mem_nil_iff,or_false] at hx;rcases hx with rfl|rfl|rfl|rfl|rfl|rfl|rfl|rfl|rfl|rfl|rfl|rfl|rfl|rfl|rfl|rfl<;>k_is)|skip
  obtain⟨a,T⟩:=T
  have e0:=hmg.symm.trans T.g_law.m
  cases e0
  exact⟨_,T.g_law.law (fun _ _ _ _ _ _ _=>rfl),(by obtain⟨_,_,_,_,_,_,_,_,_,e,_⟩:=T.g_law.F.ex;rw [e];rfl),fun base kb nb=>K19.ok_law T⟩
 case S=>exact fun w H a ns hl hO hS=>⟨a,ns,rfl,hS,hl,fun _=>rfl⟩
 case C=>exact fun _ _ _ _ z=>z
