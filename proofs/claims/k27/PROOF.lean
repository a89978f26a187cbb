import PyProof.Rows.All
import Wide.All
import OpenK.AllK
import Wide.FinOn
import Lean
import PyProof.EqAt
import PyProof.EqKinds
import PyProof.TupleCall
import PySem.Str
import PyProof.ZipIter
import PyProof.Draws
import PyProof.StrLawsChain
import PyProof.StrLawsTight
import KE.KIntText
import OpenK.KTop
import PyProof.StationsW
import PyProof.ExcClass2
import PyProof.ExcBaseAll.ValueError
import PyProof.Rows.Catch
import OpenK.KOwn
import KE.KTryMore
import KE.FramesApart
import PyProof.RulesAs
import PyProof.NsDelKeeps
import PyProof.ExcArgs
import PyProof.Rows.SortStr
import KE.KDictSum
import PyProof.DictWalks
import PyProof.IsiH_list
import KE.KDictOf
import PyProof.NeKinds
import PyProof.StrCalls6
import PyProof.FString
import KE.KUnpack
import KE.KItemsList
import KE.KRevIter
import KE.IntBitsLaws
import PyProof.FString5
import PyProof.TupleKey
import Wide.Seal
import PyProof.Rows.SortShellK
import PyProof.DictRoadsH
import PyProof.Rows.SortRev
import PyProof.Rows.SetFrom
import PyProof.FactsAll.set_2
import PyProof.FactsAll.set_1
import PySem.Challenge.RW_askwright_k27_walks
namespace PySem.W.Fast
def tw15552900173834349266:=0
def tw11198124682716812299:=0
def tw11021311010489979078:=0
def tw15121770575107375666:=0
def tw17001880071388491367:=0
def tw5448063694132724244:=0
def tw12255371555696497568:=0
def tw5837460702915321666:=0
def tw4145858621026468253:=0
def tw529443520358092261:=0
def tw173896794548507683:=0
def tw8222619276476549585:=0
def tw11951313286145848779:=0
def tw6732675126484070631:=0
def tw4079531844283102757:=0
def tw12167837072721123783:=0
def tw14795449305127994954:=0
def tw16485118051726172593:=0
def tw15910534966981025707:=0
def tw3336757822550294392:=0
def tw1470606885115280803:=0
def tw7624058651716641966:=0
def tw1494827090322267525:=0
def tw10981258059330229023:=0
def tw7918701392411033655:=0
def tw15028915324207995231:=0
def tw7243660098015148433:=0
def tw12256858839699934480:=0
def tw8674379484921532849:=0
def tw10042918538303662591:=0
def tw15811265709835411437:=0
def tw8379876038482234616:=0
def tw4452023036114974583:=0
def tw8011428337171457122:=0
def tw8308973816849719259:=0
def tw6214660730538507543:=0
def tw15250350461293936020:=0
def tw1761106152754953426:=0
def tw153891071719981404:=0
def tw2681283788722473399:=0
def tw5073836761709263230:=0
def tw10437936202941734498:=0
def tw8012706316885576100:=0
def tw1120772429185075935:=0
def tw10056592479647762313:=0
def tw1610833662488241630:=0
def tw16830447895785338388:=0
def tw5818683690944422939:=0
def tw6060791144879515934:=0
def tw17024012911162722977:=0
def tw9228634054388199978:=0
def tw13451012861347469096:=0
def tw14607016698521343174:=0
def tw11137702235617861873:=0
def tw6789216419743021345:=0
def tw9203376376874826456:=0
def tw13046171959940751687:=0
def tw7078555164641343699:=0
def tw2249482534130229958:=0
def tw16830538733301624918:=0
def tw14734309192096877593:=0
def tw5685131784329389876:=0
def tw12741410754907874765:=0
def tw7839776043627392039:=0
def tw8551757458627345175:=0
def tw13128287323724886853:=0
def tw2037252369226508980:=0
def tw17413634690463596918:=0
def tw1448706745389763773:=0
def tw17954872018287834688:=0
def tw11224846043161483684:=0
def tw17345291889021558528:=0
def tw10181699111940687971:=0
def tw1755915407410729933:=0
def tw14711030140390286823:=0
def tw3251234696342963163:=0
def tw10306574648426645842:=0
def tw9599152906001548514:=0
def tw18089052994106813990:=0
def tw12840018149574160158:=0
def tw1365480368506715991:=0
def tw6912143932987603873:=0
def tw17170316168779637809:=0
def tw2423437105222016581:=0
def tw1536432910324810683:=0
def tw10677820408629030050:=0
def tw6180603391114270582:=0
def tw1900767939347412172:=0
def tw16569646439216171517:=0
def tw15714234597971365295:=0
def tw11696244235208942295:=0
def tw12402280248532809951:=0
def tw8571834653720506582:=0
def tw2527699017246649282:=0
def tw4862948438638101215:=0
def tw1898204390319493435:=0
def tw17481543670759224072:=0
def tw8583751834484054799:=0
def tw866487444932363874:=0
def tw15320665151729804519:=0
def tw550879800133490806:=0
def tw13726596939286131490:=0
def tw8019930685128966968:=0
def tw10520430659513499942:=0
def tw1051296980603797199:=0
def tw12077509883900078034:=0
def tw6552241005259128084:=0
def tw16328319159238523377:=0
def tw5064459133603056792:=0
def tw6532556716140072894:=0
def tw7312130341909730867:=0
def tw1021159607090967688:=0
def tw9368904190906188461:=0
def tw9182163285939896502:=0
def tw9021564457678142585:=0
def tw13504265064908835607:=0
def tw10686368397241013256:=0
def tw15514639775411757719:=0
def tw6079050198066402461:=0
def tw3679301289216504952:=0
def tw14413534521594321063:=0
def tw1895060914488230859:=0
end PySem.W.Fast
local macro_rules | `(tactic| trivial) => `(tactic| first | rfl | exact .inl rfl | exact .inr rfl | exact .inr (.inl rfl) | decide +kernel | (intro _; rfl) | omega | exact ⟨rfl,rfl,rfl,by decide +kernel,rfl,by decide +kernel,by decide +kernel⟩ | (intro _ _ _ _ _ _ us hl; rcases us with _|⟨_,_|⟨_,_|⟨_,_|⟨_,_|⟨_,_|⟨_,_⟩⟩⟩⟩⟩⟩ <;> first | rfl | cases hl) | (intro _ _ _ _ h; repeat' first | (obtain ⟨e,_⟩ := h; subst e; rfl) | (obtain ⟨_,h⟩ := h)))
set_option Elab.async false
set_option linter.all false
set_option maxRecDepth 100000
set_option maxHeartbeats 4000000
def u0:=@PySem.wpAny_pure
def u7:=@List.getElem?_eq_getElem
def u8:=@PySem.Heap.get?_push_of_some
def u9:=@List.mem_cons_of_mem
def ua:=@List.mem_cons_self
def ub:=@decide_eq_false
def uc:=@decide_eq_true
def ud:=@List.size_toArray
def ue:=@List.length_map
def uf:=@Bool.false_ne_true
def ug:=@PySem.Heap.get?_push_size
def uh:=@Bool.and_eq_true
def ui:=@List.mem_of_getElem?
def uj:=@PySem.Heap.lt_size
def uk:=@of_decide_eq_true
def ul:=@List.length_append
def um:=@List.getElem?_map
def uo:=@List.map_cons
def uq:=@PySem.wpAny_call_entry
def ur:=@List.mem_append_right
def ut:=@List.take_of_length_le
def uu:=@PySem.Around.in1_units
def uw:=@PySem.wpAny_callSpecial?_slot
def uy:=@List.length_cons
def uz:=@decide_eq_decide
def uA:=@Nat.ne_of_lt
def uB:=@List.map_append
def uC:=@PySem.wpAny_loadPart'
def uD:=@PySem.wpAny_newObj_type
def uE:=@List.take_add_one
def uF:=@PySem.boot_len
def uG:=@Nat.zero_le
def uH:=@PySem.F.plainAttrs_list
def uI:=@List.lookup_cons
def uJ:=@List.getElem_mem
def uK:=@PySem.wpAny_truthy_bool
def uL:=@Option.some.inj
def uM:=@Bool.false_eq_true
def uN:=@List.findIdx?_eq_some_iff_getElem
def uO:=@PySem.PassesOwn.never
def uP:=@PySem.wpAny_holding
def uQ:=@List.mem_nil_iff
def uR:=@Int.emod_lt_of_pos
def uS:=@Nat.lt_or_ge
def uT:=@PySem.wpAny_with_toks
def uU:=@List.append_nil
def uV:=@List.length_take
def uW:=@decide_eq_true_eq
def uX:=@PySem.Heap.get?_update_other
def uY:=@List.mem_cons
def uZ:=@PySem.F.slot_list_append
def v5:=@PySem.F.type_list_append
def v6:=@List.length_singleton
def v7:=@List.map_map
def v8:=@PySem.W.kia_one
def v9:=@List.drop_eq_getElem_cons
def va:=@Int.emod_nonneg
def vb:=@PyProof.Rows.boot_isinstance
def vc:=@PySem.W.mg_of
def vd:=@Array.length_toList
def ve:=@PySem.Heap.SameBut.update
def vf:=@PySem.Heap.get?_update_self
def vg:=@PySem.isSubtype_type
def vh:=@Bool.eq_iff_iff
def vi:=@PySem.sizeLine_eq
def vj:=@PySem.Obj.data_mapFields
def vk:=@of_decide_eq_false
def vm:=@PySem.wpAny_rule
def vn:=@List.take_length
def vo:=@PySem.mem_of_lookup
def vp:=@PyProof.Rows.slot_tuple_getitem
def vq:=@PyProof.Rows.boot_tuple
def vr:=@PyProof.Rows.wpS_pure
def vt:=@Nat.le_trans
def vv:=@List.cons_lt_cons_iff
def vw:=@PySem.builtinLookup_eq_fast
def vx:=@PySem.wpAny_mono
def vy:=@PySem.wpAny_field
def vz:=@PySem.wpAny_forIn_list
def vA:=@Int.eq_ofNat_of_zero_le
def vB:=@Nat.le_of_lt
def vC:=@Int.toNat_natCast
def vD:=@PyProof.Rows.callWith_type1
def vE:=@PySem.wpAny_dictEpoch
def vF:=@PySem.F.slot_tuple_iterator_next
def vG:=@Nat.lt_irrefl
def vH:=@PySem.wpAny_pyIter_tuple
def vI:=@PySem.wpAny_Call_Name_kw
def vJ:=@List.map_nil
def vK:=@List.all_cons
def vL:=@PySem.wpAny_attempt
def vM:=@List.pairwise_reverse
def vN:=@PySem.Heap.size_push
def vO:=@PySem.wpAny_setField
def vP:=@List.getElem?_zip_eq_some
def vQ:=@List.exists_mem_of_ne_nil
def vR:=@List.mem_append_left
def vS:=@PySem.wpAny_passesOwn
def vT:=@Nat.not_lt_zero
def vU:=@List.flatMap_cons
def vV:=@List.nil_prefix
def vW:=@List.append_assoc
def vX:=@PySem.codeAny_mono
def vY:=@PySem.Paired.length
def vZ:=@Ne.symm
def U0:=@if_false
def U1:=@PySem.wpAny_typeNameOfWhole_keyiter
def U2:=@PySem.wpAny_fieldsOf
def U3:=@PySem.wpAny_setField_rec
def U4:=@List.findIdx?_cons
def U5:=@Array.getElem?_toList
def U6:=@PySem.Obj.isFreed_of_fields
def U7:=@PySem.F.slot_enumerate_next
def U8:=@List.all_map
def U9:=@PySem.typeLookup_type
def Ua:=@List.getElem?_append_right
def Ub:=@List.getElem?_append_left
def Uc:=@List.take_zero
def Ud:=@or_false
def Ue:=@PySem.wpAny_askSetting
def Uf:=@List.prefix_refl
def Ug:=@List.take_prefix
def Uh:=@List.filterMap_cons
def Ui:=@List.length_reverse
def Uj:=@PySem.F.args_tuple_add_2
def Uk:=@PySem.wpAny_typeOf
def Ul:=@PySem.wpAny_typeNameOf_keyiter
def Um:=@PySem.AutoSeq1.wpAny_loadPart'
def Uo:=@PySem.SeqAt.EqAt.int_str
def Up:=@PySem.SeqAt.EqAt.str_int
def Uq:=@PySem.F.entry_tuple_add
def Ur:=@PySem.codeAny_builtin
def Us:=@List.prefix_iff_eq_take
def Ut:=@PySem.wpAny_sequenceKey
def Uu:=@PySem.wpAny_of_eq
def Uv:=@List.reverse_cons
def Uw:=@PySem.wpAny_dictEntries
def Ux:=@PySem.wpAny_pyIter_slot
def Uy:=@Bool.and_false
def Uz:=@Nat.lt_succ_self
def UA:=@List.all_eq_true
def UB:=@List.mem_reverse
def UC:=@Bool.and_true
def UD:=@Nat.add_assoc
def UE:=@Bool.not_true
def UF:=@beq_iff_eq
namespace L2
open PySem PySem.Spec PyProof.Rows
abbrev Key:=Sum Int Str
def keyIs:Key->Value->Bool
 | .inl k,v=>Value.isInt k v
 | .inr x,v=>Value.isStrOf x v
def keyH (w:World):Key->Int
 | .inl k=>hashInt k
 | .inr x=>hashStr w x
theorem qZ:∀{k:Key}{v:Value},keyIs k v=true->(∃i t,k=Sum.inl i/\v=Value.int i t)∨(∃x t,k=Sum.inr x/\v=Value.str x t)
 | .inl i,v,h=>by
  obtain⟨t,e⟩:=Value.isInt_shape (k:=i) (v:=v) h;exact .inl ⟨i,t,rfl,e⟩
 | .inr x,v,h=>by
  obtain⟨t,e⟩:=Value.isStrOf_shape (x:=x) (v:=v) h;exact .inr ⟨x,t,rfl,e⟩
theorem key_ll (a b:Int):decide ((Sum.inl a:Key)=Sum.inl b)=(a==b):=by
 by_cases e:a=b
 ·subst e;simp
 ·have h:¬(Sum.inl a:Key)=Sum.inl b:=fun q=>e (Sum.inl.inj q);rw [ub h];exact(beq_eq_false_iff_ne.mpr e).symm
theorem key_rr (a b:Str):decide ((Sum.inr a:Key)=Sum.inr b)=decide (a=b):=by
 by_cases e:a=b
 ·subst e;simp
 ·have h:¬(Sum.inr a:Key)=Sum.inr b:=fun q=>e (Sum.inr.inj q);rw [ub h,ub e]
theorem key_lr (a:Int)(b:Str):decide ((Sum.inl a:Key)=Sum.inr b)=false:=ub (fun q=>nomatch q)
theorem key_rl (a:Str)(b:Int):decide ((Sum.inr a:Key)=Sum.inl b)=false:=ub (fun q=>nomatch q)
def mixKind (prog:Program)(w:World):PySem.KeyKind prog w Key where
 is:=keyIs
 hash:=keyH w
 inj:=fun v a b ha hb=>by
  rcases qZ ha with⟨i,t,rfl,rfl⟩|⟨x,t,rfl,rfl⟩
  ·rcases qZ hb with⟨j,u,rfl,e⟩|⟨y,u,rfl,e⟩
   ·injection e with e1 _;rw [e1]
   ·exact nomatch e
  ·rcases qZ hb with⟨j,u,rfl,e⟩|⟨y,u,rfl,e⟩
   ·exact nomatch e
   ·injection e with e1 _;rw [e1]
 byValue:=fun k v h=>by
  rcases qZ h with⟨i,t,rfl,rfl⟩|⟨x,t,rfl,rfl⟩<;>rfl
 pyHash:=fun hv h=>by
  rcases qZ hv with⟨i,t,rfl,rfl⟩|⟨x,t,rfl,rfl⟩
  ·exact wpAny_pyHash_int h
  ·exact wpAny_pyHash_str h
 eqBool:=fun hu hv h=>by
  rcases qZ hu with⟨i,t,rfl,rfl⟩|⟨x,t,rfl,rfl⟩
  ·rcases qZ hv with⟨j,u,rfl,rfl⟩|⟨y,u,rfl,rfl⟩
   ·rw [key_ll] at h;exact wpAny_eqBool_int h
   ·rw [key_lr] at h;exact Uo i t y u _ _ _ _ h
  ·rcases qZ hv with⟨j,u,rfl,rfl⟩|⟨y,u,rfl,rfl⟩
   ·rw [key_rl] at h;exact Up x t j u _ _ _ _ h
   ·rw [key_rr] at h;exact wpAny_eqBool_str h
 «strs»:=fun k x t v h=>by
  rcases qZ h with⟨i,u,rfl,e⟩|⟨y,u,rfl,e⟩
  ·exact nomatch e
  ·injection e with e1 _
   subst e1
   cases v<;>rfl
inductive V where
 |non|bl (b:Bool)|int (i:Int)|str (x:Str)|byt (b:Array UInt8)|flt (b:UInt64)|ref (a:Addr)|ty (n:String)
 deriving DecidableEq
def RelV:V->Value->Prop
 | .non,u=>u=Value.none
 | .bl b,u=>u=Value.bool b
 | .int i,u=>∃t,u=Value.int i t
 | .str x,u=>∃t,u=Value.str x t
 | .byt b,u=>∃t,u=Value.bytes b t
 | .flt b,u=>∃t,u=Value.float b t
 | .ref a,u=>u=Value.ref a
 | .ty n,u=>u=Value.type n
abbrev Vals:List V->List Value->Prop:=Paired RelV
theorem Vals.length {xs:List V}{us:List Value}(r:Vals xs us):xs.length=us.length:=vY r
theorem Vals.get:∀{xs:List V}{us:List Value}{i:Nat}{x:V},Vals xs us->xs[i]? =some x->∃u,us[i]? =some u/\RelV x u
 |_,_,_,_,.nil,e=>by simp at e
 |_,_,0,_,.cons r _,e=>by simp at e;subst e;exact⟨_,rfl,r⟩
 |_,_,i+1,x,.cons _ t,e=>by
  obtain⟨u,h1,h2⟩:=Vals.get (i:=i) (x:=x) t (by simpa using e)
  exact⟨u,by simpa using h1,h2⟩
theorem Vals.set {x:V}{u:Value}(r:RelV x u):∀{xs:List V}{us:List Value} (i:Nat),Vals xs us->Vals (xs.set i x) (us.set i u)
 |_,_,_,.nil=> .nil
 |_,_,0,.cons _ t=> .cons r t
 |_,_,i+1,.cons q t=> .cons q (Vals.set r i t)
theorem Vals.append:∀{xs ys:List V}{us ws:List Value},Vals xs us->Vals ys ws->Vals (xs++ys) (us++ws)
 |_,_,_,_,.nil,s=>s
 |_,_,_,_,.cons r t,s=> .cons r (Vals.append t s)
theorem Vals.take:∀{xs:List V}{us:List Value} (n:Nat),Vals xs us->Vals (xs.take n) (us.take n)
 |_,_,0,_=> .nil
 |_,_,_+1,.nil=> .nil
 |_,_,n+1,.cons r t=> .cons r (Vals.take n t)
theorem Vals.drop:∀{xs:List V}{us:List Value} (n:Nat),Vals xs us->Vals (xs.drop n) (us.drop n)
 |_,_,0,r=>r
 |_,_,_+1,.nil=> .nil
 |_,_,n+1,.cons _ t=>Vals.drop n t
def RelO:Option V->Option Value->Prop
 |some v,some u=>RelV v u
 |none,none=>True
 |_,_=>False
def KV {κ:Type}:List (κ×V)->List (κ×Value)->Prop:=Paired fun(p:κ×V) (q:κ×Value)=>p.1=q.1/\RelV p.2 q.2
def kV:Key->V
 | .inl i=> .int i
 | .inr x=> .str x
inductive HO where
 |lst (xs:List V)
 |tup (xs:List V)
 |dK (kvs:List (Key×V))|dT (kvs:List (List Key×V))
 |set (S:Int->Bool) (n:Nat)
 |ins (C dx:Addr) (fs:List (Str×V))
 |own (x:Addr)
 |xd (fs:List (Str×V))
 |met (f x:Addr)
 |rng (lo hi:Int)
 |frz (o:Obj) (u:HO)
 |tbl (ps:Array Value)
 |ext (φ:Heap->Prop)
abbrev Hp:=Addr->Option HO
def upd (H:Hp)(a:Addr)(o:HO):Hp:=fun b=>if b=a then some o else H b
theorem qe {H:Hp}{a:Addr}{o:HO}:upd H a o a=some o:=by unfold upd;rw [if_pos rfl]
theorem qi {H:Hp}{a b:Addr}{o:HO}(h:b≠a):upd H a o b=H b:=by unfold upd;rw [if_neg h]
theorem qf {H:Hp}{a b:Addr}{o:HO}(h:H a=some o)(h':H b=none):a≠b:=by
 intro e;subst e;rw [h] at h';cases h'
section
variable (P:Program)(w:World)
def Qm (H:Hp)(h:Heap)(a:Addr):HO->Prop
 | .lst xs=>xs.length<=sizeLine/\∃(its:List Value) (n:Nat),Vals xs its/\h.get? a=some {cls:= .type "list",data:= .seq its.toArray n}
 | .tup xs=>xs.length<=sizeLine/\∃its:List Value,Vals xs its/\IsTup h a its.toArray
 | .dK kvs=>kvs.length<=sizeLine/\(a==sysModules)=false/\∃vs,KV kvs vs/\h.DictOf (mixKind P w) a vs
 | .dT kvs=>kvs.length<=sizeLine/\(a==sysModules)=false/\∃xs:List (List Key×Addr×Value),
   Paired (fun(p:List Key×V) (q:List Key×Addr×Value)=>p.1=q.1/\H q.2.1=some (.tup (p.1.map kV))/\RelV p.2 q.2.2) kvs xs/\
   ∃o es ep,h.get? a=some o/\o.ExactDict/\o.data= .dict es ep/\es.toList=xs.map (entryOfKey (tupleKind (mixKind P w)))/\(xs.map (·.1)).Nodup
 | .set S n=>h.SetOf (intKind P w) a S n
 | .ins C dx fs=>H dx=some (.own a)/\fs.length<=1000/\dx≠a/\h.get? a=some (PySem.W.instObj C dx)/\
   ∃mA,h.Ns1 dx mA/\(∀f,RelO (fs.lookup f) (mA f))/\PySem.Within mA (fs.map (·.1))
 | .own _=>∃o,h.get? a=some o
 | .xd fs=>∃mA,h.Ns1 a mA/\∀f,RelO (fs.lookup f) (mA f)
 | .rng lo hi=>∃t u v,h.get? a=some {cls:= .type "range",data:= .fields #[.int lo t,.int hi u,.int 1 v]}
 | .frz o u=>h.get? a=some o/\Qm H h a u
 | .tbl ps=>h.get? a=some {cls:= .none,data:= .fields ps}
 | .met f x=>h.get? a=some (PySem.W.methodObj (.ref f) (.ref x))
 | .ext φ=>φ h/\(∃o,h.get? a=some o)/\∀h1 h2:Heap,φ h1->(∀o,h1.get? a=some o->h2.get? a=some o)->φ h2
def HOk (H:Hp)(h:Heap):Prop:=∀a o,H a=some o->Qm P w H h a o
end
section
variable {P:Program}{w:World}{H H':Hp}{h h':Heap}{a:Addr}{o:HO}
theorem Qm.lt (x:Qm P w H h a o):a<h.objs.size:=by
 cases o with
 |lst xs=>obtain⟨_,_,_,_,e⟩:=x;exact uj e
 |tup xs=>obtain⟨_,_,_,p⟩:=x;exact p.lt
 |dK kvs=>obtain⟨_,_,_,_,o,_,_,e,_⟩:=x;exact uj e
 |dT kvs=>obtain⟨_,_,_,_,o,_,_,e,_⟩:=x;exact uj e
 |set S n=>obtain⟨o,_,_,_,e,_⟩:=x;exact uj e
 |ins C dx fs=>obtain⟨_,_,_,e,_⟩:=x;exact uj e
 |own y=>obtain⟨_,e⟩:=x;exact uj e
 |xd fs=>obtain⟨_,⟨_,_,_,e,_⟩,_⟩:=x;exact uj e
 |rng lo hi=>obtain⟨_,_,_,e⟩:=x;exact uj e
 |frz B u=>obtain⟨e,_⟩:=x;exact uj e
 |tbl ps=>exact uj (show h.get? a=some _ from x)
 |met f y=>exact uj (show h.get? a=some _ from x)
 |ext φ=>obtain⟨_,⟨_,e⟩,_⟩:=x;exact uj e
theorem Paired.mapP {α β:Type}{F G:α->β->Prop}:∀{B:List α}{I:List β},Paired F B I->(∀a b,F a b->G a b)->Paired G B I
 |_,_,.nil,_=> .nil
 |_,_,.cons r t,f=> .cons (f _ _ r) (Paired.mapP t f)
theorem Qm.stay (x:Qm P w H h a o)(k:∀b u,(b=a∨H b=some (.own a))->h.get? b=some u->h'.get? b=some u)
  (I:∀b,H b=some (.own a)->H' b=some (.own a)) (L:∀b xs,H b=some (.tup xs)->H' b=some (.tup xs)):Qm P w H' h' a o:=by
 induction o with
 |lst xs=>obtain⟨z,its,n,r,e⟩:=x;exact⟨z,its,n,r,k _ _ (.inl rfl) e⟩
 |tup xs=>obtain⟨z,its,r,B,e,c⟩:=x;exact⟨z,its,r,B,k _ _ (.inl rfl) e,c⟩
 |dK kvs=>obtain⟨z,y,vs,r,B,es,ep,e,c⟩:=x;exact⟨z,y,vs,r,B,es,ep,k _ _ (.inl rfl) e,c⟩
 |dT kvs=>
  obtain⟨z,y,xs,r,B,es,ep,e,c⟩:=x;exact⟨z,y,xs,Paired.mapP r fun p q z=>⟨z.1,L _ _ z.2.1,z.2.2⟩,B,es,ep,k _ _ (.inl rfl) e,c⟩
 |set S n=>obtain⟨B,es,ep,t,e,c⟩:=x;exact⟨B,es,ep,t,k _ _ (.inl rfl) e,c⟩
 |ins C dx fs=>
  obtain⟨d,z,ne,e,mA,⟨od,es,ep,M,c⟩,r⟩:=x;exact⟨I _ d,z,ne,k _ _ (.inl rfl) e,mA,⟨od,es,ep,k _ _ (.inr d) M,c⟩,r⟩
 |own y=>obtain⟨B,e⟩:=x;exact⟨B,k _ _ (.inl rfl) e⟩
 |xd fs=>obtain⟨mA,⟨od,es,ep,e,c⟩,r⟩:=x;exact⟨mA,⟨od,es,ep,k _ _ (.inl rfl) e,c⟩,r⟩
 |rng lo hi=>obtain⟨t,u,v,e⟩:=x;exact⟨t,u,v,k _ _ (.inl rfl) e⟩
 |frz B u O=>obtain⟨e,q⟩:=x;exact⟨k _ _ (.inl rfl) e,O q⟩
 |tbl ps=>
  have e:h.get? a=some {cls:= .none,data:= .fields ps}:=x;show h'.get? a=some {cls:= .none,data:= .fields ps};exact k a _ (.inl rfl) e
 |met f y=>
  have e:h.get? a=some (PySem.W.methodObj (.ref f) (.ref y)):=x;show h'.get? a=some (PySem.W.methodObj (.ref f) (.ref y));exact k a _ (.inl rfl) e
 |ext φ=>obtain⟨p,⟨o,e⟩,st⟩:=x;exact⟨st _ _ p fun o q=>k _ _ (.inl rfl) q,⟨o,k _ _ (.inl rfl) e⟩,st⟩
theorem HOk.lt (x:HOk P w H h)(e:H a=some o):a<h.objs.size:=(x a o e).lt
theorem HOk.fresh (x:HOk P w H h)(e:h.objs.size<=a):H a=none:=by
 cases q:H a with
 |none=>rfl
 |some u=>exact absurd (Nat.lt_of_lt_of_le (x.lt q) e) (vG _)
theorem HOk.kept (x:HOk P w H h)(k:∀b u,h.get? b=some u->h'.get? b=some u):HOk P w H h':=fun a o e=>
 (x a o e).stay (fun b u _ q=>k b u q) (fun _ q=>q) fun _ _ q=>q
theorem HOk.laid (x:HOk P w H h)(k:∀b u,h.get? b=some u->h'.get? b=some u)(I:h.objs.size<=a)(new:Qm P w (upd H a o) h' a o):HOk P w (upd H a o) h':=fun b u e=>by
 have hn:=x.fresh I;by_cases B:b=a
 ·subst B;rw [qe] at e;cases e;exact new
 ·rw [qi B] at e;exact(x b u e).stay (fun c v _ q=>k c v q) (fun c q=>by rw [qi (qf q hn)];exact q) fun c xs q=>by rw [qi (qf q hn)];exact q
end
def Rd (H:Hp)(a:Addr)(u:HO):Prop:=H a=some u∨∃o,H a=some (.frz o u)
theorem Rd.of {H:Hp}{a:Addr}{u:HO}(h:H a=some u):Rd H a u:= .inl h
theorem Rd.ok {P:Program}{w:World}{H:Hp}{h:Heap}{a:Addr}{u:HO}(r:Rd H a u)(x:HOk P w H h):Qm P w H h a u:=by
 rcases r with r|⟨o,r⟩
 ·exact x a u r
 ·obtain⟨_,q⟩:=x a _ r;exact q
def Mut:Option HO->Prop
 |some (.lst _)=>True
 |some (.dK _)=>True
 |some (.dT _)=>True
 |some (.set _ _)=>True
 |some (.ins _ _ _)=>True
 |some (.ext _)=>True
 |_=>False
section
variable {P:Program}{w:World}{H:Hp}{h h':Heap}{x e:Addr}{o':HO}
theorem HOk.write (ok:HOk P w H h)(M:Mut (H x))(Y:e=x∨H e=some (.own x))(k:∀b u,b≠e->h.get? b=some u->h'.get? b=some u)(U:∃u,h'.get? e=some u)
  (new:Qm P w (upd H x o') h' x o'):HOk P w (upd H x o') h':=fun b u q=>by
 have I:∀c y,H c=some (.own y)->c≠x:=fun c y r z=>by subst z;rw [r] at M;exact M
 have L:∀c xs,H c=some (.tup xs)->c≠x:=fun c xs r z=>by subst z;rw [r] at M;exact M
 by_cases O:b=x
 ·subst O;rw [qe] at q;cases q;exact new
 ·rw [qi O] at q;by_cases B:b=e
  ·have Z:H b=some (.own x):=by
    rcases Y with z|z
    ·exact absurd (B.trans z) O
    ·rw [B];exact z
   rw [q] at Z;cases Z;obtain⟨v,hv⟩:=U;exact⟨v,by rw [B];exact hv⟩
  ·refine(ok b u q).stay (fun c v R r=>k c v ?_ r) (fun c r=>by rw [qi (I c b r)];exact r) fun c xs r=>by rw [qi (L c xs r)];exact r
   rcases R with rfl|R
   ·exact B
   ·rintro rfl;rcases Y with z|z
    ·exact I c b R z
    ·rw [R] at z;cases z;exact O rfl
end
structure Un (fs ex:List Addr)(H H':Hp)(h h':Heap):Prop where
 keep:∀b o,h.get? b=some o->H b=none->b∉fs->b∉ex->h'.get? b=some o
 slot:∀b o,h.get? b=some o->H b=none->b∈fs->b∉ex->∃sl,h'.get? b=some {o with slots:=sl}
 free:∀b o,h.get? b=some o->H b=none->b∉ex->H' b=none
 there:∀b o,h.get? b=some o->b∉ex->∃o',h'.get? b=some o'
 tups:∀b xs,H b=some (.tup xs)->H' b=some (.tup xs)
 frzs:∀b o u,H b=some (.frz o u)->H' b=some (.frz o u)
 tbls:∀b ps,H b=some (.tbl ps)->∃more,H' b=some (.tbl (ps++more))
section
variable {fs fs' ex ex':List Addr}{H H1 H2:Hp}{h h1 h2 h':Heap}{a x e:Addr}{o:HO}
theorem Un.any (u:Un fs ex H H1 h h1){b:Addr}{B:Obj}(q:h.get? b=some B)(n:H b=none)(hx:b∉ex):∃sl,h1.get? b=some {B with slots:=sl}:=by
 by_cases I:b∈fs
 ·exact u.slot b B q n I hx
 ·exact⟨B.slots,u.keep b B q n I hx⟩
theorem Un.trans (a:Un fs ex H H1 h h1)(b:Un fs ex H1 H2 h1 h2):Un fs ex H H2 h h2 where
 keep:=fun c B q n L hx=>b.keep c B (a.keep c B q n L hx) (a.free c B q n hx) L hx
 slot:=fun c B q n L hx=>by
  obtain⟨sl,I⟩:=a.slot c B q n L hx;obtain⟨M,O⟩:=b.slot c _ I (a.free c B q n hx) L hx;exact⟨M,O⟩
 free:=fun c B q n hx=>by
  obtain⟨o',I⟩:=a.there c B q hx;exact b.free c o' I (a.free c B q n hx) hx
 there:=fun c B q hx=>by
  obtain⟨o',I⟩:=a.there c B q hx;exact b.there c o' I hx
 tups:=fun c xs q=>b.tups c xs (a.tups c xs q)
 frzs:=fun c B xs q=>b.frzs c B xs (a.frzs c B xs q)
 tbls:=fun c ps q=>by
  obtain⟨R,I⟩:=a.tbls c ps q;obtain⟨U,O⟩:=b.tbls c _ I;exact⟨R++U,by rw [O,Array.append_assoc]⟩
theorem Un.kept (k:∀b u,h.get? b=some u->h'.get? b=some u):Un fs ex H H h h':=
 ⟨fun b B q _ _ _=>k b B q,fun b B q _ _ _=>⟨B.slots,k b B q⟩,fun _ _ _ n _=>n,fun b B q _=>⟨B,k b B q⟩,fun _ _ q=>q,fun _ _ _ q=>q,fun _ ps q=>⟨#[],by rw [q];simp⟩⟩
theorem Un.refl:Un fs ex H H h h:=Un.kept fun _ _ q=>q
theorem Un.laid (k:∀b u,h.get? b=some u->h'.get? b=some u)(B:h.objs.size<=a)(hn:H a=none):Un fs ex H (upd H a o) h h' where
 keep:=fun b u q _ _ _=>k b u q
 slot:=fun b u q _ _ _=>⟨u.slots,k b u q⟩
 free:=fun b u q n _=>by rw [qi (uA (Nat.lt_of_lt_of_le (uj q) B))];exact n
 there:=fun b u q _=>⟨u,k b u q⟩
 tups:=fun b xs q=>by rw [qi (qf q hn)];exact q
 frzs:=fun b u xs q=>by rw [qi (qf q hn)];exact q
 tbls:=fun b ps q=>⟨#[],by rw [qi (qf q hn),q];simp⟩
theorem Un.write (I:Mut (H x))(O:e=x∨H e=some (.own x))(k:∀b u,b≠e->h.get? b=some u->h'.get? b=some u)(L:∃u,h'.get? e=some u):Un fs ex H (upd H x o) h h':=by
 have hx:∀b,H b=none->b≠x:=fun b n z=>by subst z;rw [n] at I;exact I
 have M:∀b,H b=none->b≠e:=fun b n z=>by
  subst z;rcases O with r|r
  ·exact hx b n r
  ·rw [n] at r;cases r
 have hm:∀b u,H b=some u->¬Mut (some u)->b≠x:=fun b u q nm z=>by subst z;rw [q] at I;exact nm I
 refine⟨fun b u q n _ _=>k b u (M b n) q,fun b u q n _ _=>⟨u.slots,k b u (M b n) q⟩,fun b u q n _=>by rw [qi (hx b n)];exact n,fun b u q _=> ?_,
  fun b xs q=>by rw [qi (hm b _ q fun z=>z)];exact q,fun b u xs q=>by rw [qi (hm b _ q fun z=>z)];exact q,fun b ps q=>⟨#[],by rw [qi (hm b _ q fun z=>z),q];simp⟩⟩
 by_cases B:b=e
 ·subst B;exact L
 ·exact⟨u,k b u B q⟩
end
def trk (h:Heap)(H:Hp):List Addr:=(List.range h.objs.size).filter fun a=>(H a).isSome
def hidT (h:Heap)(H:Hp):Heap:=PySem.W.hideAll h (trk h H)
theorem hidT_size (h:Heap)(H:Hp):(hidT h H).objs.size=h.objs.size:=PySem.W.hideAll_size _ _
theorem hidT_get {h:Heap}{H:Hp}{b:Addr}{o:Obj}(e:h.get? b=some o)(n:H b=none):(hidT h H).get? b=some o:=
 PySem.W.hideAll_get _ e fun hm=>by
  have q:(H b).isSome=true:=(List.mem_filter.mp hm).2;rw [n] at q;simp at q
theorem of_hidT {h:Heap}{H:Hp}{b:Addr}{o:Obj}(e:(hidT h H).get? b=some o):h.get? b=some o/\H b=none:=by
 have B:h.get? b=some o:=PySem.W.of_hideAll (trk h H) e;refine⟨B,?_⟩;cases q:H b with
 |none=>rfl
 |some x=>
  have hm:b∈trk h H:=List.mem_filter.mpr ⟨List.mem_range.mpr (uj B),by simp [q]⟩
  have z:(hidT h H).get? b=none:=PySem.W.hideAll_none (trk h H) hm;rw [z] at e;cases e
structure Mod (K:PySem.W.Frag)(mg:Str->Option Value)(base:Heap):Prop where
 kin:K.In base
 glob:base.Ns mainGlobals mg
 blt:∃mb,base.Ns builtinsNs mb/\∀x:Str,x≠"__name__"->mb x=bootBuiltins x
 nolimit:base.NoLimit
structure Cx where
 prog:Program
 w:World
 K:PySem.W.Frag
 mg:Str->Option Value
 base:Heap
 A:Around
 N:List Str
 s₀:Shared
 H₀:Hp
 env:Env
 outer:List Env
 stack:List Env
 ex:List Addr
 fn:Str->Bool
 calm:Bool
 pn:List (Addr×Obj)
 xe:Value->Shared->Prop
def frs (l:List Env):List Addr:=l.filterMap (·.frame)
abbrev Cx.fs (X:Cx):List Addr:=frs X.outer
def Vis (sc:Scope)(x:Str):Prop:=sc.names.lookup x=some .local∨sc.names.lookup x=some .cell∨sc.names.lookup x=some .free
def Loc (sc:Scope)(x:Str):Prop:=sc.names.lookup x=some .local∨sc.names.lookup x=some .cell
def Look (env:Env)(h:Heap)(m:Str->Option Value)(x:Str)(u:Value):Prop:=
 (env.kindOf x=some .local/\m x=some u)∨((env.kindOf x=some .cell∨env.kindOf x=some .free)/\∃c,env.cells.lookup x=some c/\h.IsCell c (some u))
structure Cx.Ok (X:Cx):Prop where
 mod:Mod X.K X.mg X.base
 kind:X.env.scope.kind= .function
 glob:X.env.globals=mainGlobals
 blt:X.env.builtins=builtinsNs
 above:X.s₀.heap.objs.size<=X.env.locals
 inj:∀x y c,X.env.cells.lookup x=some c->X.env.cells.lookup y=some c->x=y
 has:∀x,(X.env.kindOf x=some .cell∨X.env.kindOf x=some .free)->∃c,X.env.cells.lookup x=some c
 cab:∀x c,X.fn x=true->X.env.cells.lookup x=some c->X.s₀.heap.objs.size<=c
 hd:X.calm=true->X.A.handled=none
 frames:X.A.frames=some X.stack
 stk:X.stack=X.outer∨(X.stack=X.env::X.outer/\X.env.frame=some X.env.locals)
 exf:∀b∈X.ex,b≠X.env.locals/\∀x c,X.env.cells.lookup x=some c->c≠b
 bs:∀b o,X.base.get? b=some o->X.s₀.heap.get? b=some o/\X.H₀ b=none
 bsz:X.base.objs.size<=X.s₀.heap.objs.size
 noex:∀b o,X.base.get? b=some o->b∉X.ex
 exfs:∀b∈X.ex,b∉X.fs
 funs:X.s₀.heap.FunFrames X.base X.outer
 frf:∀b∈X.fs,X.H₀ b=none
structure Inv (X:Cx)(pins:List (Addr×Obj))(σ:List (Option V))(H:Hp)(s:Shared):Prop where
 ok:X.Ok
 os:s.os=X.s₀.os
 bare:AllBare s.gens
 base:Un X.fs X.ex X.H₀ H X.s₀.heap s.heap
 loc:∃m,s.heap.Ns X.env.locals m/\∀(i:Nat) (x:Str) (v:V),X.N[i]? =some x->σ[i]? =some (some v)->Vis X.env.scope x->∃u,RelV v u/\Look X.env s.heap m x u
 cell:∀x c,X.env.cells.lookup x=some c->∃v,s.heap.IsCell c v
 free:H X.env.locals=none
 freeC:∀x c,X.env.cells.lookup x=some c->H c=none
 pin:∀p∈X.pn++pins,s.heap.get? p.1=some p.2/\H p.1=none/\p.1≠X.env.locals/\p.1∉X.fs/\∀v,p.2.data≠ .cell v
 hok:HOk X.prog X.w H s.heap
 len:σ.length=X.N.length
 tk:0<s.toks
section
variable {X:Cx}{pins:List (Addr×Obj)}{σ:List (Option V)}{H H':Hp}{s:Shared}{h':Heap}
theorem Cx.Ok.nofr (ok:X.Ok){b:Addr}{o:Obj}(e:X.base.get? b=some o):b∉X.fs:=fun B=>by
 have:=(ok.funs.mem B).1;rw [e] at this;cases this
theorem Inv.bs (I:Inv X pins σ H s):∀b o,X.base.get? b=some o->s.heap.get? b=some o/\H b=none:=fun b o e=>
 ⟨I.base.keep b o (I.ok.bs b o e).1 (I.ok.bs b o e).2 (I.ok.nofr e) (I.ok.noex b o e),I.base.free b o (I.ok.bs b o e).1 (I.ok.bs b o e).2 (I.ok.noex b o e)⟩
theorem Inv.bk (I:Inv X pins σ H s):∀b o,X.base.get? b=some o->s.heap.get? b=some o:=fun b o e=>(I.bs b o e).1
theorem Inv.mod (I:Inv X pins σ H s):Mod X.K X.mg X.base:=I.ok.mod
theorem Inv.kIn (I:Inv X pins σ H s):X.K.In s.heap:=I.ok.mod.kin.keeps I.bk
theorem Inv.lt (I:Inv X pins σ H s):X.env.locals<s.heap.objs.size:=let⟨_,hn,_⟩:=I.loc;hn.lt
theorem Inv.sz (I:Inv X pins σ H s):X.s₀.heap.objs.size<=s.heap.objs.size:=vt I.ok.above (vB I.lt)
theorem Inv.nofs (I:Inv X pins σ H s){a:Addr}(h:s.heap.objs.size<=a):a∉X.fs:=fun B=>by
 obtain⟨_,o,L,_⟩:=I.ok.funs.mem B;exact absurd (Nat.lt_of_lt_of_le (uj L) (vt I.sz h)) (vG _)
theorem Inv.cne (I:Inv X pins σ H s):∀x c,X.env.cells.lookup x=some c->c≠X.env.locals:=fun x c e z=>by
 obtain⟨v,o,M,hd⟩:=I.cell x c e;obtain⟨m,⟨o',es,ep,B,L,_⟩,_⟩:=I.loc;rw [z,B] at M;cases M;rw [L] at hd;cases hd
theorem Inv.funs (I:Inv X pins σ H s):s.heap.FunFrames X.base X.outer:=by
 have all:∀(l:List Env),(∀b∈frs l,b∈X.fs)->X.s₀.heap.FunFrames X.base l->s.heap.FunFrames X.base l:=by
  intro l
  induction l with
  |nil=>intro _ _;trivial
  |cons env r U=>
   intro R Y;obtain⟨hk,⟨L,o,B,hn,Z,hd⟩,hr⟩:=Y;have M:L∈X.fs:=R L (by unfold frs;rw [Uh,B];exact ua)
   obtain⟨sl,e⟩:=I.base.slot L o Z (I.ok.frf L M) M fun z=>I.ok.exfs L z M;exact⟨hk,⟨L,_,B,hn,e,hd⟩,U (fun b O=>R b (by unfold frs;rw [Uh,B];exact u9 _ O)) hr⟩
 exact all X.outer (fun _ O=>O) I.ok.funs
theorem Inv.stack (I:Inv X pins σ H s):s.heap.FunFrames X.base X.stack:=by
 rcases I.ok.stk with e|⟨e,B⟩
 ·rw [e];exact I.funs
 ·rw [e];obtain⟨m,hn,_⟩:=I.loc;refine .cons (by rw [I.ok.kind];decide) B hn ?_ I.funs
  exact Heap.get?_none_of_le (vt I.ok.bsz I.ok.above)
theorem Inv.stkSub (I:Inv X pins σ H s):∀b∈frs X.stack,b∈X.env.locals::X.fs:=fun b B=>by
 rcases I.ok.stk with e|⟨e,L⟩
 ·rw [e] at B;exact u9 _ B
 ·rw [e] at B;unfold frs at B;rw [Uh,L] at B;exact B
theorem Inv.stkFree (I:Inv X pins σ H s):∀b∈frs X.stack,H b=none:=fun b B=>by
 rcases List.mem_cons.mp (I.stkSub b B) with e|B
 ·rw [e];exact I.free
 ·obtain⟨_,o,L,_⟩:=I.ok.funs.mem B;exact I.base.free b o L (I.ok.frf b B) fun z=>I.ok.exfs b z B
theorem Inv.step {g':Array GenState}{t':Nat}{d':Drawn}{ch:List Addr}(I:Inv X pins σ H s)
  (B:∀b∈ch,(b∈X.ex∨X.s₀.heap.objs.size<=b)/\b≠X.env.locals/\(∀x c,X.env.cells.lookup x=some c->c≠b)/\∀p∈X.pn++pins,p.1≠b)
  (keep:∀b o,b≠X.env.locals->b∉X.fs->b∉ch->s.heap.get? b=some o->H b=none->h'.get? b=some o)
  (slot:∀b o,b≠X.env.locals->b∈X.fs->b∉ch->s.heap.get? b=some o->H b=none->∃sl,h'.get? b=some {o with slots:=sl}) (free:∀b o,b∉ch->s.heap.get? b=some o->H b=none->H' b=none)
  (there:∀b o,b∉ch->s.heap.get? b=some o->∃o',h'.get? b=some o')
  (tups:∀b xs,H b=some (.tup xs)->H' b=some (.tup xs)) (frzs:∀b o u,H b=some (.frz o u)->H' b=some (.frz o u)) (tbls:∀b ps,H b=some (.tbl ps)->∃more,H' b=some (.tbl (ps++more)))
  (ns:∀m,s.heap.Ns X.env.locals m->h'.Ns X.env.locals m) (hok:HOk X.prog X.w H' h') (hg:AllBare g') (ht:0<t':=by((try dsimp only);first|assumption|exact Inv.tk (by assumption)|exact Nat.succ_pos _|exact Nat.lt_of_lt_of_le (Inv.tk (by assumption)) (by assumption)|exact Nat.add_pos_left (Inv.tk (by assumption)) _|omega)):
  Inv X pins σ H' {s with heap:=h',gens:=g',drawn:=d',toks:=t'}:=by
 have Z:∀b o,X.s₀.heap.get? b=some o->b≠X.env.locals:=fun b o e=>uA (Nat.lt_of_lt_of_le (uj e) I.ok.above);have O:∀b o,X.s₀.heap.get? b=some o->b∉X.ex->b∉ch:=fun b o e hx U=>by
  rcases(B b U).1 with z|z
  ·exact hx z
  ·exact absurd (Nat.lt_of_lt_of_le (uj e) z) (vG _)
 have L:∀x c,X.env.cells.lookup x=some c->∀v,s.heap.IsCell c v->h'.IsCell c v:=fun x c e v ⟨o,Y,hd⟩=>by
  have M:c∉ch:=fun z=>(B c z).2.2.1 x c e rfl;by_cases hc:c∈X.fs
  ·obtain⟨sl,q⟩:=slot c o (I.cne x c e) hc M Y (I.freeC x c e);exact⟨_,q,hd⟩
  ·exact⟨o,keep c o (I.cne x c e) hc M Y (I.freeC x c e),hd⟩
 refine⟨I.ok,I.os,hg,⟨fun b o e n U hx=> ?_,fun b o e n U hx=> ?_,fun b o e n hx=> ?_,fun b o e hx=> ?_,fun b xs e=>tups b xs (I.base.tups b xs e),fun b o xs e=>frzs b o xs (I.base.frzs b o xs e),fun b ps e=> ?_⟩,?_,fun x c e=> ?_,?_,fun x c e=> ?_,fun p hp=> ?_,hok,I.len,ht⟩
 ·exact keep b o (Z b o e) U (O b o e hx) (I.base.keep b o e n U hx) (I.base.free b o e n hx)
 ·obtain⟨sl,R⟩:=I.base.slot b o e n U hx;obtain⟨aa,e2⟩:=slot b _ (Z b o e) U (O b o e hx) R (I.base.free b o e n hx);exact⟨aa,e2⟩
 ·obtain⟨o',R⟩:=I.base.there b o e hx;exact free b o' (O b o e hx) R (I.base.free b o e n hx)
 ·obtain⟨o',R⟩:=I.base.there b o e hx;exact there b o' (O b o e hx) R
 ·obtain⟨m1,R⟩:=I.base.tbls b ps e;obtain⟨m2,e2⟩:=tbls b _ R;exact⟨m1++m2,by rw [e2,Array.append_assoc]⟩
 ·obtain⟨m,hn,hl⟩:=I.loc;refine⟨m,ns m hn,fun i x v R e2 e3=> ?_⟩;obtain⟨u,r,l⟩:=hl i x v R e2 e3;refine⟨u,r,?_⟩;rcases l with l|⟨k,c,e,z⟩
  ·exact .inl l
  ·exact .inr ⟨k,c,e,L x c e _ z⟩
 ·obtain⟨v,z⟩:=I.cell x c e;exact⟨v,L x c e v z⟩
 ·obtain⟨m,⟨o,_,_,Y,_⟩,_⟩:=I.loc;exact free _ o (fun z=>(B _ z).2.1 rfl) Y I.free
 ·obtain⟨v,o,Y,hd⟩:=I.cell x c e;exact free c o (fun z=>(B c z).2.2.1 x c e rfl) Y (I.freeC x c e)
 ·obtain⟨e,n,ne,nf,d⟩:=I.pin p hp;have M:p.1∉ch:=fun z=>(B p.1 z).2.2.2 p hp rfl;exact⟨keep p.1 p.2 ne nf M e n,free p.1 p.2 M e n,ne,nf,d⟩
theorem Inv.un {t':Nat}(I:Inv X pins σ H s)(u:Un X.fs [] H H' s.heap h')(hok:HOk X.prog X.w H' h')(Y:0<t':=by((try dsimp only);first|assumption|exact Inv.tk (by assumption)|exact Nat.succ_pos _|exact Nat.lt_of_lt_of_le (Inv.tk (by assumption)) (by assumption)|exact Nat.add_pos_left (Inv.tk (by assumption)) _|omega)):Inv X pins σ H' {s with heap:=h',toks:=t'}:=by
 obtain⟨m,⟨o,es,ep,R,r⟩,_⟩:=id I.loc;obtain⟨sl,U⟩:=u.any R I.free (by simp)
 exact I.step (g':=s.gens) (d':=s.drawn) (ch:= []) (fun _ z=>nomatch z) (fun b o _ L _ e n=>u.keep b o e n L (by simp)) (fun b o _ L _ e n=>u.slot b o e n L (by simp)) (fun b o _ e n=>u.free b o e n (by simp)) (fun b o _ e=>u.there b o e (by simp)) u.tups u.frzs u.tbls (fun Z hm=>by
  obtain⟨o',M,O,B,r'⟩:=hm;rw [R] at B;cases B;exact⟨_,M,O,U,r'⟩) hok I.bare
theorem Inv.call {g':Array GenState}{t':Nat}{d':Drawn}{ch:List Addr}(I:Inv X pins σ H s)(u:Un (frs X.stack) ch H H' s.heap h')(hok:HOk X.prog X.w H' h')(Z:AllBare g')
  (L:∀b∈ch,(b∈X.ex∨X.s₀.heap.objs.size<=b)/\b≠X.env.locals/\(∀x c,X.env.cells.lookup x=some c->c≠b)/\∀p∈X.pn++pins,p.1≠b) (ht:0<t':=by((try dsimp only);first|assumption|exact Inv.tk (by assumption)|exact Nat.succ_pos _|exact Nat.lt_of_lt_of_le (Inv.tk (by assumption)) (by assumption)|exact Nat.add_pos_left (Inv.tk (by assumption)) _|omega)):
  Inv X pins σ H' {s with heap:=h',gens:=g',drawn:=d',toks:=t'}:=by
 obtain⟨m,⟨o,es,ep,Y,r⟩,_⟩:=id I.loc;obtain⟨sl,O⟩:=u.any Y I.free fun z=>(L _ z).2.1 rfl;exact I.step (ch:=ch) L (fun b o O hb B e n=>u.keep b o e n (fun z=>(List.mem_cons.mp (I.stkSub b z)).elim O hb) B) (fun b o _ _ B e n=>u.any e n B) (fun b o B e n=>u.free b o e n B) (fun b o B e=>u.there b o e B) u.tups u.frzs u.tbls (fun m' hm=>by
  obtain⟨o',R,U,M,r'⟩:=hm;rw [Y] at M;cases M;exact⟨_,R,U,O,r'⟩) hok Z
theorem Inv.turned {t':Nat}{it:Addr}(I:Inv X pins σ H s)(k:∀b o,b≠it->s.heap.get? b=some o->h'.get? b=some o)(hn:H it=none)(M:it≠X.env.locals)
  (h1:it∈X.ex∨X.s₀.heap.objs.size<=it) (h2:∀x c,X.env.cells.lookup x=some c->c≠it) (O:∀p∈X.pn++pins,p.1≠it) (Y:0<t':=by((try dsimp only);first|assumption|exact Inv.tk (by assumption)|exact Nat.succ_pos _|exact Nat.lt_of_lt_of_le (Inv.tk (by assumption)) (by assumption)|exact Nat.add_pos_left (Inv.tk (by assumption)) _|omega)):Inv X pins σ H {s with heap:=h',toks:=t'}:=by
 have L:∀b u,H b=some u->b≠it:=fun b u e z=>by rw [z,hn] at e;cases e
 refine I.step (g':=s.gens) (d':=s.drawn) (ch:= [it]) (fun b R=> ?_) (fun b o _ _ B e _=>k b o (fun z=>B (by simp [z])) e) (fun b o _ _ B e _=>⟨o.slots,k b o (fun z=>B (by simp [z])) e⟩) (fun _ _ _ _ n=>n)
  (fun b o B e=>⟨o,k b o (fun z=>B (by simp [z])) e⟩) (fun _ _ e=>e) (fun _ _ _ e=>e) (fun b ps e=>⟨#[],by rw [e];simp⟩) (fun m hm=> ?_) (fun b u e=> ?_) I.bare
 ·have e:b=it:=by simpa using R
  subst e;exact⟨h1,M,h2,O⟩
 ·obtain⟨o,es,ep,U,r⟩:=hm;exact⟨o,es,ep,k _ o (vZ M) U,r⟩
 ·refine(I.hok b u e).stay (fun c v B q=>k c v ?_ q) (fun _ q=>q) fun _ _ q=>q;rcases B with z|z
  ·rw [z];exact L b u e
  ·exact L c _ z
theorem Inv.tok (I:Inv X pins σ H s)(t:Nat)(B:0<t:=by((try dsimp only);first|assumption|exact Inv.tk (by assumption)|exact Nat.succ_pos _|exact Nat.lt_of_lt_of_le (Inv.tk (by assumption)) (by assumption)|exact Nat.add_pos_left (Inv.tk (by assumption)) _|omega)):Inv X pins σ H {s with toks:=t}:=I.un (h':=s.heap) (t':=t) Un.refl I.hok
theorem Inv.kept {t':Nat}(I:Inv X pins σ H s)(k:∀b u,s.heap.get? b=some u->h'.get? b=some u)(B:0<t':=by((try dsimp only);first|assumption|exact Inv.tk (by assumption)|exact Nat.succ_pos _|exact Nat.lt_of_lt_of_le (Inv.tk (by assumption)) (by assumption)|exact Nat.add_pos_left (Inv.tk (by assumption)) _|omega)):Inv X pins σ H {s with heap:=h',toks:=t'}:=I.un (Un.kept k) (I.hok.kept k)
theorem Inv.laid {a:Addr}{o:HO}{t':Nat}(I:Inv X pins σ H s)(k:∀b u,s.heap.get? b=some u->h'.get? b=some u)(B:s.heap.objs.size<=a)(new:Qm X.prog X.w (upd H a o) h' a o)(L:0<t':=by((try dsimp only);first|assumption|exact Inv.tk (by assumption)|exact Nat.succ_pos _|exact Nat.lt_of_lt_of_le (Inv.tk (by assumption)) (by assumption)|exact Nat.add_pos_left (Inv.tk (by assumption)) _|omega)):
  Inv X pins σ (upd H a o) {s with heap:=h',toks:=t'}:=I.un (Un.laid k B (I.hok.fresh B)) (I.hok.laid k B new)
theorem Inv.write {x e:Addr}{o:HO}{t':Nat}(I:Inv X pins σ H s)(L:Mut (H x))(M:e=x∨H e=some (.own x))(k:∀b u,b≠e->s.heap.get? b=some u->h'.get? b=some u)(B:∃u,h'.get? e=some u)
  (new:Qm X.prog X.w (upd H x o) h' x o) (O:0<t':=by((try dsimp only);first|assumption|exact Inv.tk (by assumption)|exact Nat.succ_pos _|exact Nat.lt_of_lt_of_le (Inv.tk (by assumption)) (by assumption)|exact Nat.add_pos_left (Inv.tk (by assumption)) _|omega)):Inv X pins σ (upd H x o) {s with heap:=h',toks:=t'}:=I.un (Un.write L M k B) (I.hok.write L M k B new)
theorem Inv.pins_of {B:List (Addr×Obj)}(I:Inv X pins σ H s)(h:∀p∈B,s.heap.get? p.1=some p.2/\H p.1=none/\p.1≠X.env.locals/\p.1∉X.fs/\∀v,p.2.data≠ .cell v):Inv X B σ H s:=
 ⟨I.ok,I.os,I.bare,I.base,I.loc,I.cell,I.free,I.freeC,fun p L=>(List.mem_append.mp L).elim (fun z=>I.pin p (vR _ z)) (h p),I.hok,I.len,I.tk⟩
theorem nodup_ix {N:List Str}(B:N.Nodup){i j:Nat}{x:Str}(a:N[i]? =some x)(b:N[j]? =some x):i=j:=by
 obtain⟨h1,I⟩:=List.getElem?_eq_some_iff.mp a;obtain⟨h2,L⟩:=List.getElem?_eq_some_iff.mp b;exact(List.getElem_inj B).mp (I.trans L.symm)
theorem store_ok2 {M:Model}{A:Around}{E:Value->Shared->Prop}{i:Nat}{x:Str}{v:V}{u:Value}{Q:Unit->Shared->Prop}(I:Inv X pins σ H s)(hN:X.N.Nodup)(hi:X.N[i]? =some x)(hx:Loc X.env.scope x)(r:RelV v u)
  (h:∀s',Inv X pins (σ.set i (some v)) H s'->(∃a,Heap.SameBut a s.heap s'.heap/\(a=X.env.locals∨X.env.cells.lookup x=some a))->Q () s') (hf:X.fn x=true∨X.env.scope.names.lookup x=some .local:=by first|exact .inl rfl|exact .inr rfl|assumption):wpAny M A (storeName X.env x u) Q E s:=by
 obtain⟨m,hn,hl⟩:=id I.loc;have ab:(X.env.scope.kind== .class||(X.env.scope.kind== .module&&X.env.locals !=X.env.globals))=false:=by rw [I.ok.kind];rfl
 have ac:i<σ.length:=by rw [I.len];exact(List.getElem?_eq_some_iff.mp hi).1
 have cne:=I.cne;have L:∀{a:Addr}{h':Heap},(∃o,s.heap.get? a=some o/\H a=none)->Heap.SameBut a s.heap h'->HOk X.prog X.w H h':=fun{a h'} ha B b ob e=>by
  obtain⟨_,_,U⟩:=ha;refine(I.hok b ob e).stay (fun c w' R q=>(B.2 c ?_).trans q) (fun _ q=>q) fun _ _ q=>q;rintro rfl;rcases R with rfl|R
  ·rw [U] at e;cases e
  ·rw [U] at R;cases R
 rcases hx with hk|hk
 ·refine wpAny_storeName_local hk hn (fun h' ah B=> ?_) ab;obtain⟨oL,_,_,ai,_⟩:=id hn;refine h _ ⟨I.ok,I.os,I.bare,⟨fun b o e n Z hx=> ?_,fun b o e n Z hx=> ?_,I.base.free,fun b o e hx=> ?_,I.base.tups,I.base.frzs,I.base.tbls⟩,⟨_,ah,fun j y v' O Y e3=> ?_⟩,fun y c e=> ?_,I.free,I.freeC,fun p hp=> ?_,L ⟨oL,ai,I.free⟩ B,by simpa using I.len,by first|exact I.tk|exact Nat.succ_pos _⟩ ⟨_,B,.inl rfl⟩
  ·exact(B.2 b (uA (Nat.lt_of_lt_of_le (uj e) I.ok.above))).trans (I.base.keep b o e n Z hx)
  ·obtain⟨sl,O⟩:=I.base.slot b o e n Z hx;exact⟨sl,(B.2 b (uA (Nat.lt_of_lt_of_le (uj e) I.ok.above))).trans O⟩
  ·obtain⟨o',O⟩:=I.base.there b o e hx;exact⟨o',(B.2 b (uA (Nat.lt_of_lt_of_le (uj e) I.ok.above))).trans O⟩
  ·by_cases hj:j=i
   ·subst hj;rw [hi] at O;cases O;rw [List.getElem?_set_self ac] at Y;cases Y;exact⟨u,r,.inl ⟨hk,by simp⟩⟩
   ·rw [List.getElem?_set_ne (vZ hj)] at Y;obtain⟨u',r',q⟩:=hl j y v' O Y e3;refine⟨u',r',?_⟩;rcases q with⟨k,e⟩|⟨k,c,e,z⟩
    ·refine .inl ⟨k,?_⟩;have:y≠x:=fun e=>hj (nodup_ix hN O (e▸hi));simp [this,e]
    ·exact .inr ⟨k,c,e,z.sameBut B (cne y c e)⟩
  ·obtain⟨w',z⟩:=I.cell y c e;exact⟨w',z.sameBut B (cne y c e)⟩
  ·obtain⟨e,n,ne,nf,d⟩:=I.pin p hp;exact⟨(B.2 p.1 ne).trans e,n,ne,nf,d⟩
 ·have aa:X.fn x=true:=by
   rcases hf with z|z
   ·exact z
   ·rw [z] at hk;cases hk
  obtain⟨c,R⟩:=I.ok.has x (.inl hk);obtain⟨w',z⟩:=I.cell x c R;refine wpAny_storeName_cell I.ok.kind hk R z (fun h' ad B=> ?_);obtain⟨oc,ae,af⟩:=id z;refine h {s with heap:=h'} ⟨I.ok,I.os,I.bare,⟨fun b o e n Z hx=> ?_,fun b o e n Z hx=> ?_,I.base.free,fun b o e hx=> ?_,I.base.tups,I.base.frzs,I.base.tbls⟩,⟨m,hn.sameBut B (vZ (cne x c R)),fun j y v' O Y e3=> ?_⟩,fun y c' e=> ?_,I.free,I.freeC,fun p hp=> ?_,L ⟨oc,ae,I.freeC x c R⟩ B,by simpa using I.len,by first|exact I.tk|exact Nat.succ_pos _⟩ ⟨c,B,.inr R⟩
  ·exact(B.2 b (uA (Nat.lt_of_lt_of_le (uj e) (I.ok.cab x c aa R)))).trans (I.base.keep b o e n Z hx)
  ·obtain⟨sl,O⟩:=I.base.slot b o e n Z hx;exact⟨sl,(B.2 b (uA (Nat.lt_of_lt_of_le (uj e) (I.ok.cab x c aa R)))).trans O⟩
  ·obtain⟨o',O⟩:=I.base.there b o e hx;exact⟨o',(B.2 b (uA (Nat.lt_of_lt_of_le (uj e) (I.ok.cab x c aa R)))).trans O⟩
  ·by_cases hj:j=i
   ·subst hj;rw [hi] at O;cases O;rw [List.getElem?_set_self ac] at Y;cases Y;exact⟨u,r,.inr ⟨.inl hk,c,R,ad⟩⟩
   ·rw [List.getElem?_set_ne (vZ hj)] at Y;obtain⟨u',r',q⟩:=hl j y v' O Y e3;refine⟨u',r',?_⟩;rcases q with q|⟨k,c',e,z'⟩
    ·exact .inl q
    ·refine .inr ⟨k,c',e,z'.sameBut B ?_⟩;rintro rfl;exact hj (nodup_ix hN O (I.ok.inj _ _ _ e R▸hi))
  ·by_cases ag:c'=c
   ·subst ag;exact⟨_,ad⟩
   ·obtain⟨w2,z2⟩:=I.cell y c' e;exact⟨w2,z2.sameBut B ag⟩
  ·obtain⟨e,n,ne,nf,d⟩:=I.pin p hp;refine⟨(B.2 p.1 ?_).trans e,n,ne,nf,d⟩;intro q;rw [q,ae] at e;have q':oc=p.2:=uL e;exact d w' (by rw [<-q'];exact af)
theorem JI {M:Model}{A:Around}{E:Value->Shared->Prop}{i:Nat}{x:Str}{v:V}{u:Value}{Q:Unit->Shared->Prop}(I:Inv X pins σ H s)(B:X.N.Nodup)(hi:X.N[i]? =some x)(hx:Loc X.env.scope x)(r:RelV v u)
  (h:∀s',Inv X pins (σ.set i (some v)) H s'->Q () s') (L:X.fn x=true∨X.env.scope.names.lookup x=some .local:=by first|exact .inl rfl|exact .inr rfl|assumption):wpAny M A (storeName X.env x u) Q E s:=
 store_ok2 I B hi hx r (fun s' O _=>h s' O) L
theorem Inv.call' {s':Shared}{ch:List Addr}(I:Inv X pins σ H s)(L:s'.os=s.os)(u:Un (frs X.stack) ch H H' s.heap s'.heap)(hok:HOk X.prog X.w H' s'.heap)(M:AllBare s'.gens)
  (B:∀b∈ch,(b∈X.ex∨X.s₀.heap.objs.size<=b)/\b≠X.env.locals/\(∀x c,X.env.cells.lookup x=some c->c≠b)/\∀p∈X.pn++pins,p.1≠b) (O:0<s'.toks:=by((try dsimp only);first|assumption|exact Inv.tk (by assumption)|exact Nat.succ_pos _|exact Nat.lt_of_lt_of_le (Inv.tk (by assumption)) (by assumption)|exact Nat.add_pos_left (Inv.tk (by assumption)) _|omega)):Inv X pins σ H' s':=by
 obtain⟨h',g',d',t',o'⟩:=s';have e:o'=s.os:=L;subst e;exact I.call (g':=g') (t':=t') (d':=d') u hok M B
end
abbrev XK:=Value->Option Addr->Hp->Prop
abbrev St:=List (Option V)
abbrev VK:=V->Hp->Prop
abbrev TE:=St->Hp->VK->Prop
abbrev TT:=St->Hp->(Bool->Hp->Prop)->Prop
abbrev TA:=St->Hp->(List V->Hp->Prop)->Prop
structure Ends where
 nx:St->Hp->Prop
 rt:VK
 bk:St->Hp->Prop:=fun _ _=>False
 ct:St->Hp->Prop:=fun _ _=>False
abbrev TS:=Ends->St->Hp->Prop
def EP (X:Cx)(pins:List (Addr×Obj))(σ:St)(Q:VK)(u:Value)(s':Shared):Prop:=∃v H',Inv X pins σ H' s'/\RelV v u/\Q v H'
def TP (X:Cx)(pins:List (Addr×Obj))(σ:St)(Q:Bool->Hp->Prop)(b:Bool)(s':Shared):Prop:=∃H',Inv X pins σ H' s'/\Q b H'
def AP (X:Cx)(pins:List (Addr×Obj))(σ:St)(Q:List V->Hp->Prop)(us:List Value)(s':Shared):Prop:=∃vs H',Inv X pins σ H' s'/\Vals vs us/\Q vs H'
def SP (X:Cx)(pins:List (Addr×Obj))(D:Ends)(f:Flow)(s':Shared):Prop:=
 match f with
 | .next=>∃σ' H',Inv X pins σ' H' s'/\D.nx σ' H'
 | .brk=>∃σ' H',Inv X pins σ' H' s'/\D.bk σ' H'
 | .cont=>∃σ' H',Inv X pins σ' H' s'/\D.ct σ' H'
 | .ret u=>∃v σ' H',Inv X pins σ' H' s'/\RelV v u/\D.rt v H'
def PE (X:Cx)(e:Expr)(t:TE):Prop:=
 ∀(pins:List (Addr×Obj)) (s:Shared) (σ:St) (H:Hp) (Q:VK),Inv X pins σ H s->t σ H Q->wpAny (model X.prog X.w) X.A (eval e X.env) (EP X pins σ Q) X.xe s
def PT (X:Cx)(e:Expr)(t:TT):Prop:=
 ∀(pins:List (Addr×Obj)) (s:Shared) (σ:St) (H:Hp) (Q:Bool->Hp->Prop),Inv X pins σ H s->t σ H Q->wpAny (model X.prog X.w) X.A (isTrue e X.env (eval e X.env)) (TP X pins σ Q) X.xe s
def PW (X:Cx)(e:Expr)(t:TT):Prop:=
 ∀(whole:Sem Value) (pins:List (Addr×Obj)) (s:Shared) (σ:St) (H:Hp) (Q:Bool->Hp->Prop),Inv X pins σ H s->t σ H Q->wpAny (model X.prog X.w) X.A (isTrue e X.env whole) (TP X pins σ Q) X.xe s
theorem PW.pt {X:Cx}{e:Expr}{t:TT}(h:PW X e t):PT X e t:=h _
def PA (X:Cx)(es:List Expr)(t:TA):Prop:=
 ∀(pos:Pos) (pins:List (Addr×Obj)) (s:Shared) (σ:St) (H:Hp) (Q:List V->Hp->Prop),Inv X pins σ H s->t σ H Q->wpAny (model X.prog X.w) X.A (spliced (backTo pos (starEach es X.env))) (AP X pins σ Q) X.xe s
def PS (X:Cx)(st:Stmt)(t:TS):Prop:=
 ∀(pins:List (Addr×Obj)) (s:Shared) (σ:St) (H:Hp) (D:Ends),Inv X pins σ H s->t D σ H->wpAny (model X.prog X.w) X.A (exec st X.env) (SP X pins D) X.xe s
def PSs (X:Cx)(st:List Stmt)(t:TS):Prop:=
 ∀(pins:List (Addr×Obj)) (s:Shared) (σ:St) (H:Hp) (D:Ends),Inv X pins σ H s->t D σ H->wpAny (model X.prog X.w) X.A (execs st X.env) (SP X pins D) X.xe s
theorem thn {α:Type}{t:Sem α}{Q B:α->Shared->Prop}{M:Model}{A:Around}{E:Value->Shared->Prop}{s:Shared}(h:wpAny M A t Q E s)(I:∀a s,Q a s->B a s):wpAny M A t B E s:=vx h I fun _ _ x=>x
section
variable {X:Cx}
theorem bin {a b:Expr}{ta tb:TE}(ha:PE X a ta)(B:PE X b tb){pins:List (Addr×Obj)}{s:Shared}{σ:St}{H:Hp}{R:V->V->Hp->Prop}(I:Inv X pins σ H s)(h:ta σ H fun x H1=>tb σ H1 fun y H2=>R x y H2)
  {α:Type}{Q:α->Shared->Prop}{f:Value->Value->Sem α}
  (L:∀v u s2 x y H2,Inv X pins σ H2 s2->RelV x v->RelV y u->R x y H2->wpAny (model X.prog X.w) X.A (f v u) Q X.xe s2):
  wpAny (model X.prog X.w) X.A (eval a X.env) (fun v M=>wpAny (model X.prog X.w) X.A (eval b X.env) (fun u O=>wpAny (model X.prog X.w) X.A (f v u) Q X.xe O) X.xe M) X.xe s:=by
 refine thn (ha pins s σ H _ I h) fun v s1 ⟨x,H1,U,Y,q1⟩=> ?_;refine thn (B pins s1 σ H1 _ U q1) fun u s2 ⟨y,H2,Z,r2,q2⟩=> ?_;exact L v u s2 x y H2 Z Y r2 q2
def tVar (i:Nat):TE:=fun σ H Q=>∃v,σ[i]? =some (some v)/\Q v H
def tC (v:V):TE:=fun _ H Q=>Q v H
theorem pe_var {i:Nat}{x:Str}{pos:Pos}(R:X.N[i]? =some x)(U:Vis X.env.scope x)(hd:(x==("__debug__":Str))=false:=by decide)(M:(x==("__classdict__":Str))=false:=by decide):PE X (.Name x pos) (tVar i):=by
 intro pins s σ H Q I h;obtain⟨v,e,h⟩:=h;obtain⟨m,hn,Y⟩:=I.loc;obtain⟨u,r,l⟩:=Y i x v R e U;have L:EP X pins σ Q u s:=⟨v,H,I,r,h⟩;rcases l with⟨hk,hm⟩|⟨hk,c,O,B⟩
 ·exact wpAny_Name (wpAny_loadName_local I.ok.kind hk hn hm L) hd
 ·rcases hk with hk|hk
  ·exact wpAny_Name (wpAny_loadName_cell I.ok.kind hk O B L) hd
  ·exact wpAny_Name (wpAny_loadName_free I.ok.kind hk O B L M) hd
theorem qh {i j pos}:PE X (.Constant (.int i) j pos) (tC (.int i)):=fun _ _ _ H _ I h=>wpAny_Constant_int ⟨.int i,H,I.tok _,⟨_,rfl⟩,h⟩
theorem QF {b j pos}:PE X (.Constant (.bool b) j pos) (tC (.bl b)):=fun _ _ _ H _ I h=>Constant_bool ⟨.bl b,H,I,rfl,h⟩
theorem Qg {j pos}:PE X (.Constant .none j pos) (tC .non):=fun _ _ _ H _ I h=>Constant_none ⟨.non,H,I,rfl,h⟩
theorem qo {x j pos}:PE X (.Constant (.str x) j pos) (tC (.str x)):=fun _ _ _ H _ I h=>Calls.Constant_str ⟨.str x,H,I.tok _,⟨_,rfl⟩,h⟩
def Gl (X:Cx)(x:Str):Prop:=X.env.kindOf x=some .globalImplicit
theorem JE {E:Value->Shared->Prop}{pins:List (Addr×Obj)}{s:Shared}{σ:St}{H:Hp}{x:Str}{u:Value}{pos:Pos}{Q:Value->Shared->Prop}(I:Inv X pins σ H s)(B:Gl X x)(hm:X.mg x=some u)(h:Q u s)
  (hd:(x==("__debug__":Str))=false:=by decide):wpAny (model X.prog X.w) X.A (eval (.Name x pos) X.env) Q E s:=
 Calls.Name_function_global I.ok.kind B (Calls.loadGlobal_global (by rw [I.ok.glob];exact I.mod.glob.keeps I.bk) hm h) hd
theorem j5 {E:Value->Shared->Prop}{pins:List (Addr×Obj)}{s:Shared}{σ:St}{H:Hp}{x:Str}{u:Value}{pos:Pos}{Q:Value->Shared->Prop}(I:Inv X pins σ H s)(B:Gl X x)(hm:X.mg x=none)(L:bootBuiltins x=some u)(h:Q u s)
  (hn:x≠"__name__":=by decide) (hd:(x==("__debug__":Str))=false:=by decide):wpAny (model X.prog X.w) X.A (eval (.Name x pos) X.env) Q E s:=by
 obtain⟨mb,h1,h2⟩:=I.mod.blt;exact Calls.Name_function_global I.ok.kind B (Calls.loadGlobal_builtin (by rw [I.ok.glob];exact I.mod.glob.keeps I.bk) hm (by rw [I.ok.blt];exact h1.keeps I.bk) ((h2 x hn).trans L) h) hd
theorem pe_glob {x:Str}{v:V}{u:Value}{pos:Pos}(B:Gl X x)(hm:X.mg x=some u)(r:RelV v u)(hd:(x==("__debug__":Str))=false:=by decide):PE X (.Name x pos) (tC v):=
 fun _ _ _ H _ I h=>JE I B hm ⟨v,H,I,r,h⟩ hd
theorem QL {x:Str}{v:V}{u:Value}{pos:Pos}(B:Gl X x)(hm:X.mg x=none)(L:bootBuiltins x=some u)(r:RelV v u)(hn:x≠"__name__":=by decide)(hd:(x==("__debug__":Str))=false:=by decide):PE X (.Name x pos) (tC v):=
 fun _ _ _ H _ I h=>j5 I B hm L ⟨v,H,I,r,h⟩ hn hd
variable {a b:Expr}{ta tb:TE}{pos:Pos}
def PC (X:Cx)(op:CmpOp)(a b:Expr)(t:TE):Prop:=
 ∀(pins:List (Addr×Obj)) (s:Shared) (σ:St) (H:Hp) (Q:VK),Inv X pins σ H s->t σ H Q->
  wpAny (model X.prog X.w) X.A (eval a X.env) (fun v s₁=>wpAny (model X.prog X.w) X.A (eval b X.env) (fun u s₂=>wpAny (model X.prog X.w) X.A (compareOp op v u) (EP X pins σ Q) X.xe s₂) X.xe s₁) X.xe s
def tB (t:TE):TT:=fun σ H Q=>t σ H fun x H1=>∃c,x= .bl c/\Q c H1
theorem pt_cmp {op:CmpOp}{t:TE}(h:PC X op a b t)(h1:behindInMarks op b=false:=by first|exact nobehind _ (by decide) (by decide)|rfl):PT X (.Compare a [op] [b] pos) (tB t):=by
 intro pins s σ H Q I B;refine wpAny_isTrue_Compare1 (thn (h pins s σ H _ I B) fun v s1 h1=>thn h1 fun u s2 h2=>thn h2 fun c O ⟨x,H1,L,M,q1⟩=> ?_) h1;obtain⟨d,rfl,q⟩:=q1;cases M;exact uK ⟨H1,L,q⟩
theorem Qw {e:Expr}{t:TE}(h:PE X e t)(L:∀B,isTrue e X.env B=(do let v<-B;standAt e.pos;holding [v] (truthy v)):=by intro _;rfl):PT X e (tB t):=by
 intro pins s σ H Q I M;refine isTrue_plain (thn (h pins s σ H _ I M) fun v s1 ⟨x,H1,O,R,q1⟩=> ?_) (L _);obtain⟨d,rfl,q⟩:=q1;cases R;exact uK ⟨H1,O,q⟩
variable {tA tB':TT}{rest:List Expr}
def tAnd (t u:TT):TT:=fun σ H Q=>t σ H fun c H1=>if c=true then u σ H1 Q else Q false H1
def tOr (t u:TT):TT:=fun σ H Q=>t σ H fun c H1=>if c=true then Q true H1 else u σ H1 Q
def tNot (t:TT):TT:=fun σ H Q=>t σ H fun c H1=>Q (!c) H1
theorem pw_and1 (ha:PT X a tA):PW X (.BoolOp .And [a] pos) tA:=by
 intro B pins s σ H Q I h;refine isTrue_and (thn (ha pins s σ H Q I h) fun c s1 e=> ?_);cases c with
 |true=>exact isTrue_and_nil e
 |false=>exact e
theorem yN (ha:PT X a tA):PW X (.BoolOp .Or [a] pos) tA:=by
 intro B pins s σ H Q I h;refine isTrue_or (thn (ha pins s σ H Q I h) fun c s1 e=> ?_);cases c with
 |false=>exact isTrue_or_nil e
 |true=>exact e
theorem pw_and (ha:PT X a tA)(L:PW X (.BoolOp .And (b::rest) pos) tB'):PW X (.BoolOp .And (a::b::rest) pos) (tAnd tA tB'):=by
 intro M pins s σ H Q I h;refine isTrue_and (thn (ha pins s σ H _ I h) fun c s1 ⟨H1,B,q1⟩=> ?_);cases c with
 |true=>exact L M pins s1 σ H1 Q B q1
 |false=>exact⟨H1,B,q1⟩
theorem YO (ha:PT X a tA)(L:PW X (.BoolOp .Or (b::rest) pos) tB'):PW X (.BoolOp .Or (a::b::rest) pos) (tOr tA tB'):=by
 intro M pins s σ H Q I h;refine isTrue_or (thn (ha pins s σ H _ I h) fun c s1 ⟨H1,B,q1⟩=> ?_);cases c with
 |true=>exact⟨H1,B,q1⟩
 |false=>exact L M pins s1 σ H1 Q B q1
theorem Q8 (ha:PT X a tA):PT X (.UnaryOp .Not a pos) (tNot tA):=by
 intro pins s σ H Q I h;exact isTrue_not (ha pins s σ H (fun c H1=>Q (!c) H1) I h)
def tAndV (ta tb:TE):TE:=fun σ H Q=>ta σ H fun x H1=>∃c,x= .bl c/\if c=true then tb σ H1 Q else Q (.bl false) H1
def tOrV (ta tb:TE):TE:=fun σ H Q=>ta σ H fun x H1=>∃c,x= .bl c/\if c=true then Q (.bl true) H1 else tb σ H1 Q
theorem jF {op}{t:TE}(h:PE X a t):PE X (.BoolOp op [a] pos) t:=fun pins s σ H Q I B=>BoolOp_one (h pins s σ H Q I B)
theorem ju (ha:PE X a ta)(L:PE X (.BoolOp .And (b::rest) pos) tb):PE X (.BoolOp .And (a::b::rest) pos) (tAndV ta tb):=by
 intro pins s σ H Q I h;refine BoolOp_and (thn (ha pins s σ H _ I h) fun v s1 ⟨x,H1,B,M,q1⟩=> ?_);obtain⟨c,rfl,q1⟩:=q1;cases M;refine uK ?_;cases c with
 |true=>exact L pins s1 σ H1 Q B q1
 |false=>exact⟨.bl false,H1,B,rfl,q1⟩
theorem pe_or (ha:PE X a ta)(L:PE X (.BoolOp .Or (b::rest) pos) tb):PE X (.BoolOp .Or (a::b::rest) pos) (tOrV ta tb):=by
 intro pins s σ H Q I h;refine BoolOp_or (thn (ha pins s σ H _ I h) fun v s1 ⟨x,H1,B,M,q1⟩=> ?_);obtain⟨c,rfl,q1⟩:=q1;cases M;refine uK ?_;cases c with
 |false=>exact L pins s1 σ H1 Q B q1
 |true=>exact⟨.bl true,H1,B,rfl,q1⟩
def tIf (t:TT)(ta tb:TE):TE:=fun σ H Q=>t σ H fun c H1=>if c=true then ta σ H1 Q else tb σ H1 Q
theorem JK {c:Expr}(L:PT X c tA)(ha:PE X a ta)(M:PE X b tb):PE X (.IfExp c a b pos) (tIf tA ta tb):=by
 intro pins s σ H Q I h;refine wpAny_IfExp (thn (L pins s σ H _ I h) fun d s1 ⟨H1,B,q1⟩=> ?_);cases d with
 |true=>exact ha pins s1 σ H1 Q B q1
 |false=>exact M pins s1 σ H1 Q B q1
end
def SqL (K:PySem.W.Frag)(H:Hp)(a:Addr)(xs:List V):Prop:=
 Rd H a (.lst xs)∨
  ∃(o:Obj) (its:Array Value) (n:Nat),K.lookup a=some o/\o.cls= .type "list"/\o.dict=none/\o.data= .seq its n/\its.size<=sizeLine/\Vals xs its.toList
def SqT (K:PySem.W.Frag)(H:Hp)(a:Addr)(xs:List V):Prop:=
 Rd H a (.tup xs)∨
  ∃(o:Obj) (its:Array Value) (n:Nat),K.lookup a=some o/\o.cls= .type "tuple"/\o.data= .seq its n/\its.size<=sizeLine/\Vals xs its.toList
def absV:Value->Option V
 | .none=>some .non
 | .bool b=>some (.bl b)
 | .int i _=>some (.int i)
 | .str x _=>some (.str x)
 | .bytes b _=>some (.byt b)
 | .float b _=>some (.flt b)
 | .ref a=>some (.ref a)
 | .type n=>some (.ty n)
 |_=>none
theorem RelV.abs {x:V}{u:Value}(r:RelV x u):absV u=some x:=by
 cases x with
 |non=>cases r;rfl
 |bl _=>cases r;rfl
 |int _=>obtain⟨t,rfl⟩:=r;rfl
 |str _=>obtain⟨t,rfl⟩:=r;rfl
 |byt _=>obtain⟨t,rfl⟩:=r;rfl
 |flt _=>obtain⟨t,rfl⟩:=r;rfl
 |ref _=>cases r;rfl
 |ty _=>cases r;rfl
theorem RelV.inj {x y:V}{u:Value}(r:RelV x u)(q:RelV y u):x=y:=uL (r.abs.symm.trans q.abs)
theorem Vals.inj:∀{xs ys:List V}{us:List Value},Vals xs us->Vals ys us->xs=ys
 |_,_,_,.nil,.nil=>rfl
 |_,_,_,.cons r t,.cons r' t'=>by rw [r.inj r',Vals.inj t t']
section
variable {X:Cx}{pins:List (Addr×Obj)}{σ:St}{H:Hp}{s:Shared}{a:Addr}{xs ys:List V}
theorem SqL.of {K:PySem.W.Frag}(h:H a=some (.lst xs)):SqL K H a xs:= .inl (.inl h)
theorem SqT.of {K:PySem.W.Frag}(h:H a=some (.tup xs)):SqT K H a xs:= .inl (.inl h)
theorem Inv.list (I:Inv X pins σ H s)(h:SqL X.K H a xs):∃its:List Value,Vals xs its/\PlainL s.heap a its.toArray/\xs.length<=sizeLine:=by
 rcases h with h|⟨o,its,n,hk,B,hd,L,hz,r⟩
 ·obtain⟨z,its,n,r,e⟩:=h.ok I.hok;exact⟨its,r,⟨_,n,e,rfl,rfl,rfl⟩,z⟩
 ·refine⟨its.toList,r,⟨o,n,I.kIn a o hk,B,hd,by simpa using L⟩,?_⟩
  have e:=r.length;simp only [vd] at e;omega
theorem Inv.tuple (I:Inv X pins σ H s)(h:SqT X.K H a xs):∃its:List Value,Vals xs its/\IsTup s.heap a its.toArray/\xs.length<=sizeLine:=by
 rcases h with h|⟨o,its,n,hk,B,L,hz,r⟩
 ·obtain⟨z,its,r,p⟩:=h.ok I.hok;exact⟨its,r,p,z⟩
 ·refine⟨its.toList,r,⟨o,I.kIn a o hk,B,n,by simpa using L⟩,?_⟩
  have e:=r.length;simp only [vd] at e;omega
theorem Inv.list_inj (I:Inv X pins σ H s)(h:SqL X.K H a xs)(h':SqL X.K H a ys):xs=ys:=by
 obtain⟨its,r,⟨o,n,e,_,_,d⟩,_⟩:=I.list h;obtain⟨its',r',⟨o',M,B,_,_,d'⟩,_⟩:=I.list h';rw [e] at B;cases B;rw [d] at d';injection d' with L _
 have:its=its':=by simpa using congrArg Array.toList L
 subst this;exact r.inj r'
theorem Inv.tuple_inj (I:Inv X pins σ H s)(h:SqT X.K H a xs)(h':SqT X.K H a ys):xs=ys:=by
 obtain⟨its,r,⟨o,e,_,n,d⟩,_⟩:=I.tuple h;obtain⟨its',r',⟨o',B,_,M,d'⟩,_⟩:=I.tuple h';rw [e] at B;cases B;rw [d] at d';injection d' with L _
 have:its=its':=by simpa using congrArg Array.toList L
 subst this;exact r.inj r'
end
abbrev Cx.wish (X:Cx)(E:Value->Shared->Prop):Cx:={X with xe:=E}
abbrev Cx.nox (X:Cx):Cx:=X.wish fun _ _=>False
theorem Cx.Ok.wish {X:Cx}(ok:X.Ok)(E:Value->Shared->Prop):(X.wish E).Ok:=
 ⟨ok.mod,ok.kind,ok.glob,ok.blt,ok.above,ok.inj,ok.has,ok.cab,ok.hd,ok.frames,ok.stk,ok.exf,ok.bs,ok.bsz,ok.noex,ok.exfs,ok.funs,ok.frf⟩
theorem Cx.Ok.unwish {X:Cx}{E:Value->Shared->Prop}(ok:(X.wish E).Ok):X.Ok:=
 ⟨ok.mod,ok.kind,ok.glob,ok.blt,ok.above,ok.inj,ok.has,ok.cab,ok.hd,ok.frames,ok.stk,ok.exf,ok.bs,ok.bsz,ok.noex,ok.exfs,ok.funs,ok.frf⟩
section
variable {X:Cx}{pins:List (Addr×Obj)}{σ:St}{H:Hp}{s:Shared}{E:Value->Shared->Prop}
theorem Inv.wish (I:Inv X pins σ H s)(E:Value->Shared->Prop):Inv (X.wish E) pins σ H s:=⟨I.ok.wish E,I.os,I.bare,I.base,I.loc,I.cell,I.free,I.freeC,I.pin,I.hok,I.len,I.tk⟩
theorem Inv.unwish (I:Inv (X.wish E) pins σ H s):Inv X pins σ H s:=⟨I.ok.unwish,I.os,I.bare,I.base,I.loc,I.cell,I.free,I.freeC,I.pin,I.hok,I.len,I.tk⟩
theorem SP.unwish {D:Ends}{f:Flow}{s':Shared}(h:SP (X.wish E) pins D f s'):SP X pins D f s':=by
 cases f with
 |next=>obtain⟨B,H',I,q⟩:=h;exact⟨B,H',I.unwish,q⟩
 |brk=>obtain⟨B,H',I,q⟩:=h;exact⟨B,H',I.unwish,q⟩
 |cont=>obtain⟨B,H',I,q⟩:=h;exact⟨B,H',I.unwish,q⟩
 |ret u=>obtain⟨v,B,H',I,r,q⟩:=h;exact⟨v,B,H',I.unwish,r,q⟩
theorem PSs.nox {st:List Stmt}{t:TS}(h:PSs X.nox st t):PSs X st t:=fun pins s σ H D I hw=>
 vx (h pins s σ H D (I.wish _) hw) (fun _ _ q=>q.unwish) fun _ _ z=>False.elim z
end
section
variable {X:Cx}{st:Stmt}{rest:List Stmt}{t u:TS}{e:Expr}{te:TE}{pos:Pos}
def tNext:TS:=fun D σ H=>D.nx σ H
def tSeq (t u:TS):TS:=fun D σ H=>t {D with nx:=u D} σ H
theorem qs:PSs X [] tNext:=fun _ _ σ H _ I h=>wpAny_execs_nil ⟨σ,H,I,h⟩
theorem qd (h1:PS X st t)(h2:PSs X rest u):PSs X (st::rest) (tSeq t u):=by
 intro pins s σ H D I h;refine wpAny_execs_cons (thn (h1 pins s σ H {D with nx:=u D} I h) fun f s1 q=> ?_)
 cases f with
 |next=>
  obtain⟨B,H',L,q⟩:=q;exact h2 pins s1 B H' D L q
 |ret v=>exact q
 |brk=>exact q
 |cont=>exact q
theorem qg (h1:PS X st t):PSs X [st] t:=by
 intro pins s σ H D I h;refine wpAny_execs_cons (thn (h1 pins s σ H D I h) fun f s1 q=> ?_);cases f with
 |next=>exact wpAny_execs_nil q
 |ret v=>exact q
 |brk=>exact q
 |cont=>exact q
def tBreak:TS:=fun D σ H=>D.bk σ H
theorem ps_break:PS X (.Break pos) tBreak:=fun _ _ σ H _ I h=>wpAny_Break ⟨σ,H,I,h⟩
theorem Inv.quiet {pins:List (Addr×Obj)}{σ:St}{H:Hp}{s:Shared}(I:Inv X pins σ H s):interactive X.env=false:=by simp [interactive,I.ok.kind]
def tDrop (te:TE):TS:=fun D σ H=>te σ H fun _ H1=>D.nx σ H1
theorem QD (B:PE X e te)(L:swapsWith e none pos.line X.env=pure false:=by rfl):PS X (.Expr e pos) (tDrop te):=by
 intro pins s σ H D I h;exact wpAny_Expr_any (thn (B pins s σ H _ I h) fun v s1 ⟨x,H1,M,O,q1⟩=>⟨σ,H1,M,q1⟩) I.quiet L
def tRet (te:TE):TS:=fun D σ H=>te σ H D.rt
theorem qr (B:PE X e te):PS X (.Return (some e) pos) (tRet te):=by
 intro pins s σ H D I h;exact wpAny_Return_some (thn (B pins s σ H _ I h) fun v s1 ⟨x,H1,L,M,q1⟩=>⟨x,σ,H1,L,M,q1⟩)
def tRetN:TS:=fun D _ H=>D.rt .non H
theorem ps_retN:PS X (.Return none pos) tRetN:=fun _ _ σ H _ I h=>wpAny_Return_none ⟨.non,σ,H,I,rfl,h⟩
def tIfS (c:TT)(t u:TS):TS:=fun D σ H=>c σ H fun b H1=>if b=true then t D σ H1 else u D σ H1
theorem qM {c:Expr}{a b:List Stmt}{tc:TT}(L:PT X c tc)(ha:PSs X a t)(M:PSs X b u):PS X (.If c a b pos) (tIfS tc t u):=by
 intro pins s σ H D I h;refine wpAny_If (thn (L pins s σ H _ I h) fun d s1 ⟨H1,B,q1⟩=> ?_);cases d with
 |true=>exact ha pins s1 σ H1 D B q1
 |false=>exact M pins s1 σ H1 D B q1
def tNever:TS:=fun _ _ _=>False
theorem jr:PS X st tNever:=fun _ _ _ _ _ _ h=>h.elim
end
abbrev TG:=V->St->Hp->(St->Hp->Prop)->Prop
abbrev TGs:=List V->St->Hp->(St->Hp->Prop)->Prop
def PG (X:Cx)(target:Expr)(t:TG):Prop:=
 ∀(pins:List (Addr×Obj)) (s:Shared) (σ:St) (H:Hp) (v:V) (u:Value) (Q:St->Hp->Prop),Inv X pins σ H s->RelV v u->t v σ H Q->
  wpAny (model X.prog X.w) X.A (assign target X.env u) (fun _ s'=>∃σ' H',Inv X pins σ' H' s'/\Q σ' H') X.xe s
def PGs (X:Cx)(ts:List Expr)(t:TGs):Prop:=
 ∀(pins:List (Addr×Obj)) (s:Shared) (σ:St) (H:Hp) (vs:List V) (us:List Value) (Q:St->Hp->Prop),Inv X pins σ H s->Vals vs us->t vs σ H Q->
  wpAny (model X.prog X.w) X.A (assignInOrder ((assignEach ts X.env).map (·.2)) us) (fun _ s'=>∃σ' H',Inv X pins σ' H' s'/\Q σ' H') X.xe s
abbrev TSet:=V->V->V->Hp->(Hp->Prop)->Prop
def PSet (X:Cx)(t:TSet):Prop:=
 ∀(pins:List (Addr×Obj)) (s:Shared) (σ:St) (H:Hp) (o i v:V) (ov iv u:Value) (Q:Hp->Prop),Inv X pins σ H s->RelV o ov->RelV i iv->RelV v u->t o i v H Q->
  wpAny (model X.prog X.w) X.A (setItem ov iv u) (fun _ s'=>∃H',Inv X pins σ H' s'/\Q H') X.xe s
abbrev TIp:=V->V->Hp->VK->Prop
def PIp (X:Cx)(op:Operator)(t:TIp):Prop:=
 ∀(pins:List (Addr×Obj)) (s:Shared) (σ:St) (H:Hp) (x y:V) (v u:Value) (Q:VK),Inv X pins σ H s->RelV x v->RelV y u->t x y H Q->
  wpAny (model X.prog X.w) X.A (inplaceOp op v u) (EP X pins σ Q) X.xe s
section
variable {X:Cx}{pos:Pos}
def Yk (i:Nat):TG:=fun v σ H Q=>Q (σ.set i (some v)) H
theorem qF {i:Nat}{x:Str}(B:X.N.Nodup)(hi:X.N[i]? =some x)(hx:Loc X.env.scope x)(L:X.fn x=true∨X.env.scope.names.lookup x=some .local:=by first|exact .inl rfl|exact .inr rfl|assumption):PG X (.Name x pos) (Yk i):=by
 intro pins s σ H v u Q I r h;exact wpAny_assign_Name (JI I B hi hx r (fun s' M=>⟨_,H,M,h⟩) L)
def gNil:TGs:=fun vs σ H Q=>vs= []/\Q σ H
def gCons (t:TG)(u:TGs):TGs:=fun vs σ H Q=>∃v r,vs=v::r/\t v σ H fun σ' H'=>u r σ' H' Q
theorem JH:PGs X [] gNil:=by
 intro pins s σ H vs us Q I r h;obtain⟨e,h⟩:=h;subst e;cases r;exact assignInOrder_nil ⟨σ,H,I,h⟩
theorem QT {e:Expr}{es:List Expr}{t:TG}{u:TGs}(h1:PG X e t)(h2:PGs X es u)
  (B:(assignEach (e::es) X.env).map (·.2)=assign e X.env::(assignEach es X.env).map (·.2):=by rfl):PGs X (e::es) (gCons t u):=by
 intro pins s σ H vs us Q I r h;obtain⟨v,U,L,h⟩:=h;subst L;cases r with
 |cons r M=>
  rw [B];refine assignInOrder_cons (thn (h1 pins s σ H _ _ _ I r h) fun _ s1 ⟨O,H1,R,q1⟩=> ?_);exact h2 pins s1 O H1 _ _ Q R M q1
def gTup (K:PySem.W.Frag)(n:Nat)(t:TGs):TG:=fun v σ H Q=>∃a xs,v= .ref a/\SqT K H a xs/\xs.length=n/\t xs σ H Q
theorem pg_tup {es:List Expr}{k:Nat}{t:TGs}{n:Nat}(O:X.calm=true)(h:PGs X es t)
  (hn:(assignEach es X.env).length=n:=by rfl) (B:(assignEach es X.env).findIdx? (·.1)=none:=by rfl):PG X (.Tuple es k pos) (gTup X.K n t):=by
 intro pins s σ H v u Q I r L;obtain⟨a,xs,R,hq,U,L⟩:=L;subst R;cases r;obtain⟨its,M,Y,hz⟩:=I.tuple hq;refine assign_Tuple_tuple (I.ok.hd O) Y (by simp [hn,<-U,M.length]) B fun h' hx=> ?_
 have Z:Inv X pins σ H {s with heap:=h'}:=I.kept (t':=s.toks) fun b o e=>hx b o (uA (uj e)) e
 exact h pins _ σ H xs _ Q Z (by simpa using M) L
def gSub (to ti:TE)(t:TSet):TG:=fun v σ H Q=>to σ H fun o H1=>ti σ H1 fun i H2=>t o i v H2 fun H3=>Q σ H3
theorem pg_sub {o i:Expr}{to M:TE}{t:TSet}(O:PE X o to)(hi:PE X i M)(R:PSet X t)
  (ha:∀v,assign (.Subscript o i pos) X.env v=(do
   let B<-holding [v] (eval o X.env)
   let L<-holding [v,B] (eval i X.env)
   standAt pos
   holding [v,B,L] (setItem B L v)
   release [v,B,L] []):=by intro _;rfl):PG X (.Subscript o i pos) (gSub to M t):=by
 intro pins s σ H v u Q I r h;rw [ha];refine wpAny_bind (uP (thn (O pins s σ H _ I h) fun B s1 ⟨x,H1,U,Y,q1⟩=> ?_));refine wpAny_bind (uP (thn (hi pins s1 σ H1 _ U q1) fun L s2 ⟨y,H2,Z,r2,q2⟩=> ?_));refine wpAny_bind (wpAny_standAt (wpAny_bind (uP (thn (R pins s2 σ H2 x y v B L u _ Z Y r2 r q2) fun _ s3 ⟨H3,I3,q3⟩=> ?_))));exact wpAny_release ⟨σ,H3,I3,q3⟩
def tAsg (te:TE)(g:TG):TS:=fun D σ H=>te σ H fun x H1=>g x σ H1 D.nx
theorem ps_asg {tg e:Expr}{te:TE}{g:TG}(B:PE X e te)(L:PG X tg g)(M:swapsWithSole [tg] e pos.line X.env=pure false:=by rfl)(O:swappedStores [tg] e X.env=pure none:=by rfl)
  (h1:(assignEach [tg] X.env).map (·.2)= [assign tg X.env]:=by rfl):PS X (.Assign [tg] e pos) (tAsg te g):=by
 intro pins s σ H D I h;refine wpAny_Assign_stores (thn (B pins s σ H _ I h) fun v s1 ⟨x,H1,R,U,q1⟩=> ?_) M O;rw [h1];exact thn (L pins s1 σ H1 x v _ R U q1) fun _ s2 q=>q
theorem qx {i:Nat}{x:Str}{e:Expr}{te:TE}{pos':Pos}(B:X.N.Nodup)(hi:X.N[i]? =some x)(hx:Loc X.env.scope x)(L:PE X e te)(M:swapsWith e (some (.Name x pos')) pos.line X.env=pure false:=by rfl)(O:X.fn x=true∨X.env.scope.names.lookup x=some .local:=by first|exact .inl rfl|exact .inr rfl|assumption):
  PS X (.Assign [.Name x pos'] e pos) (tAsg te (Yk i)):=by
 intro pins s σ H D I h;refine wpAny_Assign_Name (thn (L pins s σ H _ I h) fun v s1 ⟨y,H1,R,U,q1⟩=> ?_) M;exact JI R B hi hx U (fun s2 Y=>⟨_,H1,Y,q1⟩) O
def tAug (i:Nat)(te:TE)(ti:TIp):TS:=fun D σ H=>∃x,σ[i]? =some (some x)/\te σ H fun y H1=>ti x y H1 fun z H2=>D.nx (σ.set i (some z)) H2
theorem ps_aug {i:Nat}{x:Str}{e:Expr}{te:TE}{op:Operator}{M:TIp}{pos':Pos}(O:X.N.Nodup)(hi:X.N[i]? =some x)(hx:Loc X.env.scope x)(R:PE X e te)(U:PIp X op M)(Y:X.fn x=true∨X.env.scope.names.lookup x=some .local:=by first|exact .inl rfl|exact .inr rfl|assumption):
  PS X (.AugAssign (.Name x pos') op e pos) (tAug i te M):=by
 intro pins s σ H D I h;obtain⟨v,Z,h⟩:=h;obtain⟨m,hn,hl⟩:=I.loc;have L:Vis X.env.scope x:=by rcases hx with k|k;exact .inl k;exact .inr (.inl k)
 obtain⟨u,r,l⟩:=hl i x v hi Z L;refine wpAny_AugAssign_Name ?_;have go:wpAny (model X.prog X.w) X.A (eval e X.env) (fun w s₂=>wpAny (model X.prog X.w) X.A (inplaceOp op u w) (fun r s₃=>wpAny (model X.prog X.w) X.A (storeName X.env x r) (fun _=>SP X pins D .next) X.xe s₃) X.xe s₂) X.xe s:=by
  refine thn (R pins s σ H _ I h) fun w s1 ⟨y,H1,I1,r1,q1⟩=> ?_;refine thn (U pins s1 σ H1 v y u w _ I1 r r1 q1) fun z s2 ⟨zv,H2,I2,r2,q2⟩=> ?_;exact JI I2 O hi hx r2 (fun s3 I3=>⟨_,H2,I3,q2⟩) Y
 rcases l with⟨hk,hm⟩|⟨hk,c,hc,B⟩
 ·exact wpAny_loadName_local I.ok.kind hk hn hm go
 ·rcases hk with hk|hk
  ·exact wpAny_loadName_cell I.ok.kind hk hc B go
  ·rcases hx with k|k
   ·have:X.env.scope.names.lookup x=some .free:=hk;rw [k] at this;cases this
   ·have:X.env.scope.names.lookup x=some .free:=hk;rw [k] at this;cases this
def ipI (f:Int->Int->Int):TIp:=fun x y H Q=>∃i j,x= .int i/\y= .int j/\Q (.int (f i j)) H
theorem ip_add:PIp X .Add (ipI fun i j=>i+j):=by
 intro pins s σ H x y v u Q I B L h;obtain⟨i,j,M,O,q⟩:=h;subst M;subst O;obtain⟨t,rfl⟩:=B;obtain⟨t',rfl⟩:=L;exact iadd_int ⟨.int _,H,I.tok _,⟨_,rfl⟩,q⟩
def tWhile (c:TT)(tb:TS):TS:=fun D σ H=>∃W:Nat->St->Hp->Prop,(∃m,W m σ H)/\∀m σ H,W m σ H->
 c σ H fun b H1=>if b=true then∃N:St->Hp->Prop,(∀σ' H',N σ' H'->∃m',m'<m/\W m' σ' H')/\tb {D with nx:=N,ct:=N,bk:=D.nx} σ H1 else D.nx σ H1
theorem ps_while {c:Expr}{B:List Stmt}{tc:TT}{tb:TS}(hp:PassesOwn (model X.prog X.w) X.A X.env X.xe)(hc:PT X c tc)(hb:PSs X B tb):PS X (.While c B [] pos) (tWhile tc tb):=by
 intro pins s σ H D I h;obtain⟨W,⟨m0,w0⟩,L⟩:=h;refine wpAny_While (codeAny_whileLoop (fun n s'=>∃σ' H',Inv X pins σ' H' s'/\W n σ' H') ?_ m0 ⟨σ,H,I,w0⟩);rintro n s1 ⟨R,H1,I1,w1⟩;refine vS hp (thn (hc pins s1 R H1 _ I1 (L n R H1 w1)) fun b s2 ⟨H2,I2,U⟩=> ?_);cases b with
 |true=>
  obtain⟨N,hN,U⟩:=U;rw [if_pos rfl];refine vS hp (thn (hb pins s2 R H2 _ I2 U) fun f s3 Y=> ?_);cases f with
  |next=>
   obtain⟨M,O,Z,n3⟩:=Y;obtain⟨m',hm,w3⟩:=hN M O n3;exact⟨m',hm,M,O,Z,w3⟩
  |cont=>
   obtain⟨M,O,Z,n3⟩:=Y;obtain⟨m',hm,w3⟩:=hN M O n3;exact⟨m',hm,M,O,Z,w3⟩
  |brk=>exact Y
  |ret v=>exact Y
 |false=>
  rw [if_neg uf];exact wpAny_execs_nil ⟨R,H2,I2,U⟩
end
structure It where
 go:Nat->Hp->Prop
 yld:Nat->Hp->V->Hp->Prop
 stop:Nat->Hp->Prop
def FpOk (X:Cx)(pins:List (Addr×Obj))(H:Hp)(b:Addr):Prop:=
 H b=none/\b≠X.env.locals/\b∉X.fs/\(b∈X.ex∨X.s₀.heap.objs.size<=b)/\(∀x c,X.env.cells.lookup x=some c->c≠b)/\∀p∈X.pn++pins,p.1≠b
theorem Inv.fpOk {X:Cx}{pins:List (Addr×Obj)}{σ:St}{H H':Hp}{s:Shared}{b:Addr}(I:Inv X pins σ H s)(B:s.heap.objs.size<=b)(hn:H' b=none):FpOk X pins H' b:=by
 refine⟨hn,Nat.ne_of_gt (Nat.lt_of_lt_of_le I.lt B),I.nofs B,.inr (vt I.sz B),fun x c e z=> ?_,fun p L z=> ?_⟩
 ·obtain⟨v,q⟩:=I.cell x c e;exact absurd (Nat.lt_of_lt_of_le q.lt (by rw [z];exact B)) (vG _)
 ·exact absurd (Nat.lt_of_lt_of_le (uj (I.pin p L).1) (by rw [z];exact B)) (vG _)
structure Turn (P:Program)(w:World)(K:PySem.W.Frag)(tg:Expr)(J:It)(fp:List Addr)(it:Addr)(tn:Nat->Heap->Prop):Prop where
 mem:it∈fp
 obj:∀i h,tn i h->∀b∈fp,∃o,h.get? b=some o/\∀v,o.data≠ .cell v
 keep:∀i h h',tn i h->(∀b∈fp,∀o,h.get? b=some o->h'.get? b=some o)->tn i h'
 item:∀(X:Cx),X.prog=P->X.w=w->X.K=K->X.calm=true->∀(i:Nat) (pins:List (Addr×Obj)) (s:Shared) (σ:St) (H:Hp) (E:Value->Shared->Prop),Inv X pins σ H s->(∀b∈fp,FpOk X pins H b)->tn i s.heap->J.go i H->
  wpAny (model P w) X.A (pyNext (.ref it)) (fun r s1=>∃u,r=some u/\
   wpAny (model P w) X.A (letOwnedTupleGo tg (.ref it) u) (fun _ s2=>∃x H',Inv X pins σ H' s2/\RelV x u/\J.yld i H x H'/\tn (i+1) s2.heap/\∀b∈fp,H' b=none) E s1) E s
 done:∀(X:Cx),X.prog=P->X.w=w->X.K=K->X.calm=true->∀(i:Nat) (pins:List (Addr×Obj)) (s:Shared) (σ:St) (H:Hp) (E:Value->Shared->Prop),Inv X pins σ H s->(∀b∈fp,FpOk X pins H b)->tn i s.heap->J.stop i H->
  wpAny (model P w) X.A (pyNext (.ref it)) (fun r s1=>r=none/\Inv X pins σ H s1) E s
 self:∀(A:Around) (i:Nat) (s:Shared) (Q:Value->Shared->Prop) (E:Value->Shared->Prop),tn i s.heap->Q (.ref it) s->wpAny (model P w) A (pyIter (.ref it)) Q E s
abbrev TI:=St->Hp->(It->Hp->Prop)->Prop
def PIE (X:Cx)(pins:List (Addr×Obj))(σ:St)(tg:Expr)(R:It->Hp->Prop)(itv:Value)(s2:Shared):Prop:=
 ∃(it:Addr) (fp:List Addr) (tn:Nat->Heap->Prop) (J:It) (H':Hp),itv= .ref it/\Inv X pins σ H' s2/\Turn X.prog X.w X.K tg J fp it tn/\tn 0 s2.heap/\(∀b∈fp,FpOk X pins H' b)/\R J H'
def PI (X:Cx)(tg iter:Expr)(wi:TI):Prop:=
 ∀(pins:List (Addr×Obj)) (s:Shared) (σ:St) (H:Hp) (R:It->Hp->Prop),Inv X pins σ H s->wi σ H R->
  wpAny (model X.prog X.w) X.A (eval iter X.env) (fun v s1=>wpAny (model X.prog X.w) X.A (pyIter v) (PIE X pins σ tg R) X.xe s1) X.xe s
theorem go_of {M:Model}{A:Around}{E:Value->Shared->Prop}{s:Shared}{tg:Expr}{it:Addr}{u:Value}{o:Obj}{n:String}{vs:Array Value}{Q:Unit->Shared->Prop}(I:s.heap.get? it=some o)(L:o.cls= .type n)(hd:o.data= .fields vs)
  (hn: ["enumerate","zip","dict_itemiterator","dict_reverseitemiterator","odict_iterator","itertools.zip_longest","itertools.pairwise"].contains n=false) (B:Q () s):wpAny M A (letOwnedTupleGo tg (.ref it) u) Q E s:=by
 unfold letOwnedTupleGo;cases tg<;>first
  |exact u0 B
  |(cases u<;>first
    |exact u0 B
    |(refine wpAny_bind (wpAny_load I ?_)
      rw [L,hd];show wpAny M A (if(["enumerate","zip","dict_itemiterator","dict_reverseitemiterator","odict_iterator","itertools.zip_longest","itertools.pairwise"].contains n&&vs[0]? ==some (rawInt _))=true then _ else _) Q E s
      rw [if_neg (by intro h;rw [hn,Bool.false_and] at h;cases h)]
      exact u0 B))
def Itl (K:PySem.W.Frag)(a:Addr):It:=
 ⟨fun i H=>∃xs x,SqL K H a xs/\xs[i]? =some x,fun i H x H'=>H'=H/\∀xs,SqL K H a xs->xs[i]? =some x,fun i H=>∃xs,SqL K H a xs/\xs.length<=i⟩
def Itt (K:PySem.W.Frag)(a:Addr):It:=
 ⟨fun i H=>∃xs x,SqT K H a xs/\xs[i]? =some x,fun i H x H'=>H'=H/\∀xs,SqT K H a xs->xs[i]? =some x,fun i H=>∃xs,SqT K H a xs/\xs.length<=i⟩
def Itr (lo:Int)(n:Nat):It:=⟨fun i _=>i<n,fun i H x H'=>H'=H/\x= .int (lo+i),fun i _=>n<=i⟩
theorem turn_list {P:Program}{w:World}{K:PySem.W.Frag}{tg:Expr}(a it:Addr):Turn P w K tg (Itl K a) [it] it (fun i h=>h.IsListIter it a i) where
 mem:=by simp
 obj:=fun i h st b B=>by
  have e:b=it:=by simpa using B
  subst e;obtain⟨o,e,c,d⟩:=st;exact⟨o,e,fun v z=>by rw [d] at z;cases z⟩
 keep:=fun i h h' st k=>st.at fun o e=>k it (by simp) o e
 item:=by
  intro X O R U hc i pins s σ H E I M st Y;subst O R U;obtain⟨xs,x,hq,hx⟩:=Y;obtain⟨its,Z,p,hz⟩:=I.list hq;obtain⟨u,hu,ru⟩:=Z.get hx;obtain⟨f0,f1,f2,f3,f4,f5⟩:=M it (by simp)
  refine wpAny_pyNext_list_item st p.isList (x:=u) (by simpa using hu) fun h' L sb=> ?_
  have I1:Inv X pins σ H {s with heap:=h'}:=I.turned (t':=s.toks) (fun b o B e=>(sb.2 b B).trans e) f0 f1 f3 f4 f5
  obtain⟨o,e,c,d⟩:=id L;exact⟨u,rfl,go_of (s:={s with heap:=h'}) e c d (by decide) ⟨x,H,I1,ru,⟨rfl,fun ys hy=>by rw [I.list_inj hy hq];exact hx⟩,L,fun b B=>(M b B).1⟩⟩
 done:=by
  intro X O R U hc i pins s σ H E I M st Y;subst O R U;obtain⟨xs,hq,hx⟩:=Y;obtain⟨its,Z,p,hz⟩:=I.list hq;obtain⟨f0,f1,f2,f3,f4,f5⟩:=M it (by simp)
  have hl:=Z.length;exact wpAny_pyNext_list_end (I.ok.hd hc) st p.isList (by simp;omega) fun h' eb=>⟨rfl,I.turned (t':=s.toks) (fun b o B e=>eb b o B e) f0 f1 f3 f4 f5⟩
 self:=fun _ _ _ _ _ st h=>wpAny_pyIter_listiter st h
theorem Jm {P:Program}{w:World}{K:PySem.W.Frag}{tg:Expr}(a it:Addr):Turn P w K tg (Itt K a) [it] it (fun i h=>h.IsTupleIter it a i) where
 mem:=by simp
 obj:=fun i h st b B=>by
  have e:b=it:=by simpa using B
  subst e;obtain⟨o,e,c,d⟩:=st;exact⟨o,e,fun v z=>by rw [d] at z;cases z⟩
 keep:=fun i h h' st k=>st.at fun o e=>k it (by simp) o e
 item:=by
  intro X O R U hc i pins s σ H E I M st Y;subst O R U;obtain⟨xs,x,hq,hx⟩:=Y;obtain⟨its,Z,p,hz⟩:=I.tuple hq;obtain⟨u,hu,ru⟩:=Z.get hx;obtain⟨f0,f1,f2,f3,f4,f5⟩:=M it (by simp)
  refine wpAny_pyNext_tuple_item st (show s.heap.IsTuple a its.toArray from p) (x:=u) (by simpa using hu) fun h' L sb=> ?_
  have I1:Inv X pins σ H {s with heap:=h'}:=I.turned (t':=s.toks) (fun b o B e=>(sb.2 b B).trans e) f0 f1 f3 f4 f5
  obtain⟨o,e,c,d⟩:=id L;exact⟨u,rfl,go_of (s:={s with heap:=h'}) e c d (by decide) ⟨x,H,I1,ru,⟨rfl,fun ys hy=>by rw [I.tuple_inj hy hq];exact hx⟩,L,fun b B=>(M b B).1⟩⟩
 done:=by
  intro X O R U hc i pins s σ H E I M st Y;subst O R U;obtain⟨xs,hq,hx⟩:=Y;obtain⟨its,Z,p,hz⟩:=I.tuple hq;obtain⟨f0,f1,f2,f3,f4,f5⟩:=M it (by simp)
  have hl:=Z.length;exact wpAny_pyNext_tuple_end (I.ok.hd hc) st (show s.heap.IsTuple a its.toArray from p) (by simp;omega) fun h' eb=>⟨rfl,I.turned (t':=s.toks) (fun b o B e=>eb b o B e) f0 f1 f3 f4 f5⟩
 self:=fun _ _ _ _ _ st h=>wpAny_pyIter_tupleiter st h
theorem turn_range {P:Program}{w:World}{K:PySem.W.Frag}{tg:Expr}(it:Addr)(lo:Int)(n:Nat):Turn P w K tg (Itr lo n) [it] it (fun i h=>IsRangeIter h it (lo+(i:Nat)*1) ((n:Int)-(i:Nat)) 1) where
 mem:=by simp
 obj:=fun i h st b B=>by
  have e:b=it:=by simpa using B
  subst e;exact⟨_,st,fun v z=>by
   have z':Data.fields _=Data.cell v:=z;cases z'⟩
 keep:=fun i h h' st k=>k it (by simp) _ st
 item:=by
  intro X O R U Y i pins s σ H E I M st Z;subst O R U;obtain⟨f0,f1,f2,f3,f4,f5⟩:=M it (by simp)
  have W:=Walks.range (prog:=X.prog) (w:=X.w) (I.ok.hd Y) it lo 1 n;refine uT (n:=1) I.tk (W.item i s _ _ Z st fun v h' tk hv L kk=> ?_);intro htk;obtain⟨t,rfl⟩:=hv;have I1:Inv X pins σ H {s with heap:=h',toks:=tk}:=I.turned (fun b o B e=>kk b o (by simpa using B) e) f0 f1 f3 f4 f5
  refine⟨_,rfl,go_of (s:={s with heap:=h',toks:=tk}) (n:="range_iterator") L rfl rfl (by decide) ⟨.int (lo+i),H,I1,⟨t,?_⟩,⟨rfl,rfl⟩,L,fun b B=>(M b B).1⟩⟩
  rw [Int.mul_one]
 done:=by
  intro X O R U Y i pins s σ H E I M st Z;subst O R U;obtain⟨f0,f1,f2,f3,f4,f5⟩:=M it (by simp)
  exact wpAny_pyNext_range_end (I.ok.hd Y) st (by have:n<=i:=Z;omega) fun h' eb=>⟨rfl,I.turned (t':=s.toks) (fun b o B e=>eb b o B e) f0 f1 f3 f4 f5⟩
 self:=fun _ _ _ _ _ st h=>wpAny_pyIter_rangeiter st h
section
variable {X:Cx}{tg:Expr}
def iList (K:PySem.W.Frag)(tl:TE):TI:=fun σ H R=>tl σ H fun x H1=>∃a,x= .ref a/\(∃xs,SqL K H1 a xs)/\R (Itl K a) H1
def iTup (K:PySem.W.Frag)(tl:TE):TI:=fun σ H R=>tl σ H fun x H1=>∃a,x= .ref a/\(∃xs,SqT K H1 a xs)/\R (Itt K a) H1
theorem Y1 {l:Expr}{tl:TE}(L:PE X l tl):PI X tg l (iList X.K tl):=by
 intro pins s σ H R I h;refine thn (L pins s σ H _ I h) fun v s1 ⟨x,H1,B,M,q1⟩=> ?_;obtain⟨a,e,⟨xs,hq⟩,q⟩:=q1;subst e;cases M;obtain⟨its,U,p,hz⟩:=B.list hq;refine wpAny_pyIter_list p.isList ?_;refine⟨s1.heap.objs.size,[s1.heap.objs.size],_,_,H1,rfl,B.kept (t':=s1.toks) fun b o e=>u8 _ e,turn_list a _,⟨_,ug _ rfl,rfl,rfl⟩,fun b O=> ?_,q⟩;have e:b=s1.heap.objs.size:=by simpa using O
 subst e;exact B.fpOk (Nat.le_refl _) (B.hok.fresh (Nat.le_refl _))
theorem pi_tup {l:Expr}{tl:TE}(L:PE X l tl):PI X tg l (iTup X.K tl):=by
 intro pins s σ H R I h;refine thn (L pins s σ H _ I h) fun v s1 ⟨x,H1,B,M,q1⟩=> ?_;obtain⟨a,e,⟨xs,hq⟩,q⟩:=q1;subst e;cases M;obtain⟨its,U,p,hz⟩:=B.tuple hq;refine vH (show s1.heap.IsTuple a its.toArray from p) ?_
 refine⟨s1.heap.objs.size,[s1.heap.objs.size],_,_,H1,rfl,B.kept (t':=s1.toks) fun b o e=>u8 _ e,Jm a _,⟨_,ug _ rfl,rfl,rfl⟩,fun b O=> ?_,q⟩;have e:b=s1.heap.objs.size:=by simpa using O
 subst e;exact B.fpOk (Nat.le_refl _) (B.hok.fresh (Nat.le_refl _))
theorem range_it {pins:List (Addr×Obj)}{σ:St}{H:Hp}{s:Shared}{R:It->Hp->Prop}{E:Value->Shared->Prop}{lo hi:Int}{t u v:Tok}{tk:Nat}(I:Inv X pins σ H s)(h1: -(2^62)<=lo)(h2:lo<2^62)(L: -(2^62)<=hi)(h4:hi<2^62)
  (q:R (Itr lo (hi-lo).toNat) H) (htk:0<tk:=by((try dsimp only);first|assumption|exact Inv.tk (by assumption)|exact Nat.succ_pos _|exact Nat.lt_of_lt_of_le (Inv.tk (by assumption)) (by assumption)|exact Nat.add_pos_left (Inv.tk (by assumption)) _|omega)):wpAny (model X.prog X.w) X.A (pyIter (.ref s.heap.objs.size)) (PIE X pins σ tg R) E {s with heap:=s.heap.push {cls:= .type "range",data:= .fields #[.int lo t,.int hi u,.int 1 v]},toks:=tk}:=by
 refine wpAny_pyIter_range (IsRange.new ..) (small_one h1 h2 L h4) ?_;have B:Inv X pins σ H {s with heap:=s.heap.push {cls:= .type "range",data:= .fields #[.int lo t,.int hi u,.int 1 v]},toks:=tk}:=I.kept fun b o e=>u8 _ e
 refine⟨(s.heap.push {cls:= .type "range",data:= .fields #[.int lo t,.int hi u,.int 1 v]}).objs.size,[(s.heap.push {cls:= .type "range",data:= .fields #[.int lo t,.int hi u,.int 1 v]}).objs.size],_,_,H,rfl,
  B.kept (t':=tk) fun b o e=>u8 _ e,turn_range _ lo (hi-lo).toNat,?_,fun b M=> ?_,q⟩
 ·have O:lo+((0:Nat):Int)*1=lo:=by simp
  have U:(((hi-lo).toNat:Nat):Int)-((0:Nat):Int)=Builtin.Range.rangeSize lo hi 1:=by rw [rangeSize_one];split<;>omega
  show IsRangeIter _ _ (lo+((0:Nat):Int)*1) ((((hi-lo).toNat:Nat):Int)-((0:Nat):Int)) 1;rw [O,U];exact ug _ rfl
 ·have e:b=(s.heap.push {cls:= .type "range",data:= .fields #[.int lo t,.int hi u,.int 1 v]}).objs.size:=by simpa using M
  subst e;exact B.fpOk (Nat.le_refl _) (B.hok.fresh (Nat.le_refl _))
def iRng1 (ta:TA):TI:=fun σ H R=>ta σ H fun vs H1=>∃j:Int,vs= [.int j]/\ -(2^62)<=j/\j<2^62/\R (Itr 0 j.toNat) H1
theorem jQ {a:Expr}{ta:TA}{p pos:Pos}(B:Gl X "range")(hm:X.mg "range"=none)(ha:PA X [a] ta)(L:starEach [a] X.env= [(false,eval a X.env)]:=by rfl):PI X tg (.Call (.Name "range" p) [a] [] pos) (iRng1 ta):=by
 intro pins s σ H R I h;refine Call_ (j5 I B hm boot_range (vD (thn (ha pos pins s σ H _ I h) fun us s1 ⟨vs,H1,M,O,q1⟩=> ?_) L rfl));obtain⟨j,e,q1,U,q⟩:=q1;subst e;cases O with
 |cons r Y=>
  cases Y;obtain⟨t,rfl⟩:=r;exact call_range_1 (range_it M (by omega) (by omega) q1 U (by simpa using q))
def tFor (wi:TI)(g:TG)(tb:TS):TS:=fun D σ H=>wi σ H fun J H1=>∃W:Nat->Nat->St->Hp->Prop,(∃m,W 0 m σ H1)/\∀i m σ H,W i m σ H->
 (J.stop i H/\D.nx σ H)∨(J.go i H/\∃N:St->Hp->Prop,(∀σ' H',N σ' H'->∃m',m'<m/\W (i+1) m' σ' H')/\∀x H',J.yld i H x H'->g x σ H' fun σ2 H2=>tb {D with nx:=N,ct:=N,bk:=D.nx} σ2 H2)
def pinsAt (fp:List Addr)(h:Heap):List (Addr×Obj):=fp.filterMap fun b=>(h.get? b).map fun o=>(b,o)
theorem yQ {fp:List Addr}{h:Heap}{b:Addr}{o:Obj}(B:b∈fp)(e:h.get? b=some o):(b,o)∈pinsAt fp h:=List.mem_filterMap.mpr ⟨b,B,by rw [e];rfl⟩
theorem of_pinsAt {fp:List Addr}{h:Heap}{p:Addr×Obj}(B:p∈pinsAt fp h):p.1∈fp/\h.get? p.1=some p.2:=by
 obtain⟨b,I,e⟩:=List.mem_filterMap.mp B;cases q:h.get? b with
 |none=>rw [q] at e;cases e
 |some o=>
  rw [q] at e;have L:(b,o)=p:=uL e;subst L;exact⟨I,q⟩
theorem Inv.pinned {pins:List (Addr×Obj)}{σ:St}{H:Hp}{s:Shared}{fp:List Addr}(I:Inv X pins σ H s)(M:∀b∈fp,FpOk X pins H b)(O:∀b∈fp,∃o,s.heap.get? b=some o/\∀v,o.data≠ .cell v):Inv X (pins++pinsAt fp s.heap) σ H s:=
 I.pins_of fun p R=>(List.mem_append.mp R).elim (fun z=>I.pin p (ur _ z)) fun z=>by
  obtain⟨B,e⟩:=of_pinsAt z;obtain⟨U,Y,Z,_⟩:=M p.1 B;obtain⟨o,L,d⟩:=O p.1 B;rw [e] at L;cases L;exact⟨e,U,Y,Z,d⟩
theorem Inv.unpinned {pins pl:List (Addr×Obj)}{σ:St}{H:Hp}{s:Shared}(I:Inv X (pins++pl) σ H s):Inv X pins σ H s:=I.pins_of fun p B=>I.pin p (ur _ (vR _ B))
theorem Q4 {B:Expr}{Z:List Stmt}{wi:TI}{g:TG}{tb:TS}{pos:Pos}(hp:PassesOwn (model X.prog X.w) X.A X.env X.xe)(hc:X.calm=true)(hi:PI X tg B wi)(hg:PG X tg g)(L:PSs X Z tb)
  (hs:∀x,foldedSetIterable B X.env x=pure x:=by intro _;rfl):PS X (.For tg B Z [] pos) (tFor wi g tb):=by
 intro pins s σ H D I h;refine wpAny_For (thn (hi pins s σ H _ I h) fun v s1 h1=>thn h1 fun ah s2 h2=> ?_) hs;obtain⟨it,fp,tn,J,H2,e,I2,T,ae,f2,W,⟨m0,w0⟩,ab⟩:=h2;subst e;have M:∀{H':Hp},(∀b∈fp,H' b=none)->∀b∈fp,FpOk X pins H' b:=fun hn b L=>⟨hn b L,(f2 b L).2⟩;refine codeAny_forLoop_any (fun n s'=>∃i σ' H',Inv X pins σ' H' s'/\tn i s'.heap/\(∀b∈fp,H' b=none)/\W i n σ' H') ?_ m0 ⟨0,σ,H2,I2,ae,fun b L=>(f2 b L).1,w0⟩;rintro n s3 ⟨i,σ3,H3,I3,ac,ad,w3⟩;rcases ab i n σ3 H3 w3 with⟨stop,qn⟩|⟨go,N,hN,step⟩
 ·refine vS hp (thn (T.done X rfl rfl rfl hc i pins s3 σ3 H3 X.xe I3 (M ad) ac stop) fun r s4 ⟨hr,I4⟩=> ?_);subst hr;exact wpAny_execs_nil ⟨σ3,H3,I4,qn⟩
 ·refine vS hp (thn (T.item X rfl rfl rfl hc i pins s3 σ3 H3 X.xe I3 (M ad) ac go) fun r s4 ⟨u,hr,h4⟩=> ?_);subst hr;refine vS hp (thn h4 fun _ s5 ⟨x,H5,I5,r5,y5,aa,af⟩=> ?_);have ag:=I5.pinned (M af) (T.obj _ _ aa);refine vS hp (thn (hg _ s5 σ3 H5 x u _ ag r5 (step x H5 y5)) fun _ s6 ⟨σ6,H6,I6,q6⟩=> ?_);refine vS hp (thn (L _ s6 σ6 H6 _ I6 q6) fun f s7 q7=> ?_);have O:∀{R:St}{U:Hp},Inv X (pins++pinsAt fp s5.heap) R U s7->N R U->∃m,m<n/\∃i σ' H',Inv X pins σ' H' s7/\tn i s7.heap/\(∀b∈fp,H' b=none)/\W i m σ' H':=fun{R U} Y n7=>by
   obtain⟨m',hm,w7⟩:=hN R U n7;refine⟨m',hm,i+1,R,U,Y.unpinned,T.keep _ _ _ aa fun b L o e=>(Y.pin (b,o) (ur _ (ur _ (yQ L e)))).1,fun b L=> ?_,w7⟩;obtain⟨o,e,d⟩:=T.obj _ _ aa b L;exact(Y.pin (b,o) (ur _ (ur _ (yQ L e)))).2.1
  cases f with
  |next=>obtain⟨R,U,Y,n7⟩:=q7;exact O Y n7
  |cont=>obtain⟨R,U,Y,n7⟩:=q7;exact O Y n7
  |brk=>obtain⟨R,U,Y,q7⟩:=q7;exact⟨R,U,Y.unpinned,q7⟩
  |ret v=>obtain⟨x7,R,U,Y,r7,q7⟩:=q7;exact⟨x7,R,U,Y.unpinned,r7,q7⟩
end
theorem yg {K:PySem.W.Frag}{a:Addr}{xs:List V}{g:TG}{tb:TS}{D:Ends}{σ:St}{H:Hp}(B:Nat->St->Hp->Prop)(R:B 0 σ H)(U:∀i σ H,i<=xs.length->B i σ H->SqL K H a xs)
  (Y:∀i x σ H,xs[i]? =some x->B i σ H->g x σ H fun L H2=>tb {D with nx:=B (i+1),ct:=B (i+1),bk:=D.nx} L H2) (hd:∀σ H,B xs.length σ H->D.nx σ H):
  ∃W:Nat->Nat->St->Hp->Prop,(∃m,W 0 m σ H)/\∀i m σ H,W i m σ H->
   ((Itl K a).stop i H/\D.nx σ H)∨((Itl K a).go i H/\∃N:St->Hp->Prop,(∀M H',N M H'->∃O,O<m/\W (i+1) O M H')/\∀x H',(Itl K a).yld i H x H'->g x σ H' fun L H2=>tb {D with nx:=N,ct:=N,bk:=D.nx} L H2):=by
 refine⟨fun i m σ H=>m=xs.length-i/\i<=xs.length/\B i σ H,⟨xs.length,by simp,uG _,R⟩,?_⟩
 rintro i m σ H ⟨rfl,hi,p⟩;have q:=U i σ H hi p;by_cases I:i<xs.length
 ·refine .inr ⟨⟨xs,xs[i],q,by simp [I]⟩,B (i+1),fun M H' Z=>⟨xs.length-(i+1),by omega,rfl,I,Z⟩,fun x H' y=> ?_⟩
  obtain⟨e,y⟩:=y;subst e;exact Y i x σ _ (y xs q) p
 ·have e:i=xs.length:=by omega
  subst e;exact .inl ⟨⟨xs,q,Nat.le_refl _⟩,hd σ H p⟩
theorem for_tup {K:PySem.W.Frag}{a:Addr}{xs:List V}{g:TG}{tb:TS}{D:Ends}{σ:St}{H:Hp}(B:Nat->St->Hp->Prop)(R:B 0 σ H)(U:∀i σ H,i<=xs.length->B i σ H->SqT K H a xs)
  (Y:∀i x σ H,xs[i]? =some x->B i σ H->g x σ H fun L H2=>tb {D with nx:=B (i+1),ct:=B (i+1),bk:=D.nx} L H2) (hd:∀σ H,B xs.length σ H->D.nx σ H):
  ∃W:Nat->Nat->St->Hp->Prop,(∃m,W 0 m σ H)/\∀i m σ H,W i m σ H->
   ((Itt K a).stop i H/\D.nx σ H)∨((Itt K a).go i H/\∃N:St->Hp->Prop,(∀M H',N M H'->∃O,O<m/\W (i+1) O M H')/\∀x H',(Itt K a).yld i H x H'->g x σ H' fun L H2=>tb {D with nx:=N,ct:=N,bk:=D.nx} L H2):=by
 refine⟨fun i m σ H=>m=xs.length-i/\i<=xs.length/\B i σ H,⟨xs.length,by simp,uG _,R⟩,?_⟩
 rintro i m σ H ⟨rfl,hi,p⟩;have q:=U i σ H hi p;by_cases I:i<xs.length
 ·refine .inr ⟨⟨xs,xs[i],q,by simp [I]⟩,B (i+1),fun M H' Z=>⟨xs.length-(i+1),by omega,rfl,I,Z⟩,fun x H' y=> ?_⟩
  obtain⟨e,y⟩:=y;subst e;exact Y i x σ _ (y xs q) p
 ·have e:i=xs.length:=by omega
  subst e;exact .inl ⟨⟨xs,q,Nat.le_refl _⟩,hd σ H p⟩
theorem for_range {lo:Int}{n:Nat}{g:TG}{tb:TS}{D:Ends}{σ:St}{H:Hp}(B:Nat->St->Hp->Prop)(R:B 0 σ H)
  (U:∀i σ H,i<n->B i σ H->g (.int (lo+i)) σ H fun L H2=>tb {D with nx:=B (i+1),ct:=B (i+1),bk:=D.nx} L H2) (hd:∀σ H,B n σ H->D.nx σ H):
  ∃W:Nat->Nat->St->Hp->Prop,(∃m,W 0 m σ H)/\∀i m σ H,W i m σ H->
   ((Itr lo n).stop i H/\D.nx σ H)∨((Itr lo n).go i H/\∃N:St->Hp->Prop,(∀M H',N M H'->∃O,O<m/\W (i+1) O M H')/\∀x H',(Itr lo n).yld i H x H'->g x σ H' fun L H2=>tb {D with nx:=N,ct:=N,bk:=D.nx} L H2):=by
 refine⟨fun i m σ H=>m=n-i/\i<=n/\B i σ H,⟨n,by simp,uG _,R⟩,?_⟩
 rintro i m σ H ⟨rfl,hi,p⟩;by_cases I:i<n
 ·refine .inr ⟨I,B (i+1),fun M H' Y=>⟨n-(i+1),by omega,rfl,I,Y⟩,fun x H' y=> ?_⟩
  obtain⟨e,y⟩:=y;subst e y;exact U i σ _ I p
 ·have e:i=n:=by omega
  subst e;exact .inl ⟨Nat.le_refl _,hd σ H p⟩
abbrev R2:=V->V->Hp->VK->Prop
def OpR (X:Cx)(f:Value->Value->Sem Value)(r:R2):Prop:=
 ∀(pins:List (Addr×Obj)) (s:Shared) (σ:St) (H:Hp) (x y:V) (v u:Value) (Q:VK),Inv X pins σ H s->RelV x v->RelV y u->r x y H Q->
  wpAny (model X.prog X.w) X.A (f v u) (EP X pins σ Q) X.xe s
def UnR (X:Cx)(f:Value->Sem Value)(r:V->Hp->VK->Prop):Prop:=
 ∀(pins:List (Addr×Obj)) (s:Shared) (σ:St) (H:Hp) (x:V) (v:Value) (Q:VK),Inv X pins σ H s->RelV x v->r x H Q->
  wpAny (model X.prog X.w) X.A (f v) (EP X pins σ Q) X.xe s
def yx (X:Cx)(f:Value)(r:List V->Hp->VK->Prop):Prop:=
 ∀(pins:List (Addr×Obj)) (s:Shared) (σ:St) (H:Hp) (xs:List V) (us:List Value) (Q:VK),Inv X pins σ H s->Vals xs us->r xs H Q->
  wpAny (model X.prog X.w) X.A (call f us) (EP X pins σ Q) X.xe s
def TruR (X:Cx)(r:V->Hp->(Bool->Hp->Prop)->Prop):Prop:=
 ∀(pins:List (Addr×Obj)) (s:Shared) (σ:St) (H:Hp) (x:V) (v:Value) (Q:Bool->Hp->Prop),Inv X pins σ H s->RelV x v->r x H Q->
  wpAny (model X.prog X.w) X.A (truthy v) (TP X pins σ Q) X.xe s
def tOp (r:R2)(ta tb:TE):TE:=fun σ H Q=>ta σ H fun x H1=>tb σ H1 fun y H2=>r x y H2 Q
def tUn (r:V->Hp->VK->Prop)(ta:TE):TE:=fun σ H Q=>ta σ H fun x H1=>r x H1 Q
def rI (C:Int->Int->Prop)(g:Int->Int->V):R2:=fun x y H Q=>∃i j,x= .int i/\y= .int j/\C i j/\Q (g i j) H
def rI0 (g:Int->Int->V):R2:=fun x y H Q=>∃i j,x= .int i/\y= .int j/\Q (g i j) H
def rU (g:Int->V):V->Hp->VK->Prop:=fun x H Q=>∃i,x= .int i/\Q (g i) H
section
variable {X:Cx}{a b c:Expr}{ta tb tc:TE}{pos:Pos}
theorem binT (ha:PE X a ta)(B:PE X b tb){pins:List (Addr×Obj)}{s:Shared}{σ:St}{H:Hp}{R:V->V->Hp->Prop}(I:Inv X pins σ H s)
  (h:ta σ H fun x H1=>tb σ H1 fun y H2=>R x y H2) {Q:Value->Shared->Prop}{f:Value->Value->Sem Value}
  (L:∀v u s2 x y H2,Inv X pins σ H2 s2->RelV x v->RelV y u->R x y H2->wpAny (model X.prog X.w) X.A (f v u) Q X.xe s2):
  wpAny (model X.prog X.w) X.A (eval a X.env) (fun v M=>wpAny (model X.prog X.w) X.A (eval b X.env) (fun u O=>wpAny (model X.prog X.w) X.A (f v u) Q X.xe O) X.xe M) X.xe s:=by
 refine thn (ha pins s σ H _ I h) fun v s1 ⟨x,H1,U,Y,q1⟩=> ?_;refine thn (B pins s1 σ H1 _ U q1) fun u s2 ⟨y,H2,Z,r2,q2⟩=> ?_;exact L v u s2 x y H2 Z Y r2 q2
theorem qY {op:Operator}{r:R2}(B:OpR X (binaryOp op) r)(ha:PE X a ta)(L:PE X b tb):PE X (.BinOp a op b pos) (tOp r ta tb):=by
 intro pins s σ H Q I h;exact wpAny_BinOp (binT ha L I h fun v u s2 x y H2 M O R q=>B pins s2 σ H2 x y v u Q M O R q)
theorem pe_un {op:UnaryOp}{r:V->Hp->VK->Prop}(B:UnR X (unaryOp op) r)(ha:PE X a ta):PE X (.UnaryOp op a pos) (tUn r ta):=by
 intro pins s σ H Q I h;exact UnaryOp_ (thn (ha pins s σ H _ I h) fun v s1 ⟨x,H1,L,M,q1⟩=>B pins s1 σ H1 x v Q L M q1)
theorem opI {f:Value->Value->Sem Value}{C:Int->Int->Prop}{g:Int->Int->Int}
  (B:∀(i j:Int) (t u:Tok) (s:Shared) (Q:Value->Shared->Prop) (E:Value->Shared->Prop),C i j->Q (.int (g i j) s.toks) {s with toks:=s.toks+1}->wpAny (model X.prog X.w) X.A (f (.int i t) (.int j u)) Q E s):
  OpR X f (rI C fun i j=> .int (g i j)):=by
 intro pins s σ H x y v u Q I L M h;obtain⟨i,j,rfl,rfl,O,q⟩:=h;obtain⟨t,rfl⟩:=L;obtain⟨t',rfl⟩:=M;exact B i j t t' s _ _ O ⟨.int (g i j),H,I.tok _,⟨_,rfl⟩,q⟩
theorem opI0 {f:Value->Value->Sem Value}{g:Int->Int->Int}
  (B:∀(i j:Int) (t u:Tok) (s:Shared) (Q:Value->Shared->Prop) (E:Value->Shared->Prop),Q (.int (g i j) s.toks) {s with toks:=s.toks+1}->wpAny (model X.prog X.w) X.A (f (.int i t) (.int j u)) Q E s):
  OpR X f (rI0 fun i j=> .int (g i j)):=by
 intro pins s σ H x y v u Q I L M h;obtain⟨i,j,rfl,rfl,q⟩:=h;obtain⟨t,rfl⟩:=L;obtain⟨t',rfl⟩:=M;exact B i j t t' s _ _ ⟨.int (g i j),H,I.tok _,⟨_,rfl⟩,q⟩
theorem opB0 {f:Value->Value->Sem Value}{g:Int->Int->Bool}
  (B:∀(i j:Int) (t u:Tok) (s:Shared) (Q:Value->Shared->Prop) (E:Value->Shared->Prop),Q (.bool (g i j)) s->wpAny (model X.prog X.w) X.A (f (.int i t) (.int j u)) Q E s):
  OpR X f (rI0 fun i j=> .bl (g i j)):=by
 intro pins s σ H x y v u Q I L M h;obtain⟨i,j,rfl,rfl,q⟩:=h;obtain⟨t,rfl⟩:=L;obtain⟨t',rfl⟩:=M;exact B i j t t' s _ _ ⟨.bl (g i j),H,I,rfl,q⟩
def CDiv (i j:Int):Prop:=0<j/\j<1073741824
def CPow (i j:Int):Prop:=0<=j/\j<=1000000/\i.natAbs<2^64
def CMul (i j:Int):Prop:=(-(2^64)<i/\i<2^64)∨(-(2^64)<j/\j<2^64)
theorem CMul.ok {i j:Int}(h:CMul i j):IntMulOk i j:=by
 rcases h with⟨h1,h2⟩|⟨h1,h2⟩
 ·exact .of_left (intBits_le_64 h1 h2)
 ·exact .of_right (intBits_le_64 h1 h2)
theorem ye:OpR X (binaryOp .Add) (rI0 fun i j=> .int (i+j)):=opI0 fun _ _ _ _ _ _ _ q=>add_int q
theorem op_sub:OpR X (binaryOp .Sub) (rI0 fun i j=> .int (i-j)):=opI0 fun _ _ _ _ _ _ _ q=>sub_int q
theorem jT:OpR X (binaryOp .Mult) (rI CMul fun i j=> .int (i*j)):=opI fun _ _ _ _ _ _ _ B q=>mul_int q B.ok
theorem op_fdiv:OpR X (binaryOp .FloorDiv) (rI CDiv fun i j=> .int (i/j)):=opI fun i j _ _ _ _ _ B q=>by
 have h1:(0:Int)<j:=B.1;have h2:j<1073741824:=B.2;exact floordiv_int (by omega) (by rw [Int.fdiv_eq_ediv_of_nonneg i (by omega)];exact q) (.inl (PyProof.noPylong_small (by omega)))
theorem yZ:OpR X (binaryOp .Mod) (rI (fun _ j=>0<j) fun i j=> .int (i%j)):=opI fun i j _ _ _ _ _ B q=>by
 have h1:(0:Int)<j:=B;exact mod_int' (by omega) (by rw [Int.fmod_eq_emod_of_nonneg i (by omega)];exact q)
theorem op_pow:OpR X (binaryOp .Pow) (rI CPow fun i j=> .int (i^j.toNat)):=opI fun _ _ _ _ _ _ _ B q=>pow_int_small B.1 B.2.1 B.2.2 q
theorem unI {f:Value->Sem Value}{g:Int->Int}
  (B:∀(i:Int) (t:Tok) (s:Shared) (Q:Value->Shared->Prop) (E:Value->Shared->Prop),Q (.int (g i) s.toks) {s with toks:=s.toks+1}->wpAny (model X.prog X.w) X.A (f (.int i t)) Q E s):
  UnR X f (rU fun i=> .int (g i)):=by
 intro pins s σ H x v Q I L h;obtain⟨i,rfl,q⟩:=h;obtain⟨t,rfl⟩:=L;exact B i t s _ _ ⟨.int (g i),H,I.tok _,⟨_,rfl⟩,q⟩
theorem un_neg:UnR X (unaryOp .USub) (rU fun i=> .int (-i)):=unI fun _ _ _ _ _ q=>neg_int q
def scal:V->V->Bool
 | .non,.non=>true| .non,.int _=>true| .int _,.non=>true| .non,.bl _=>true| .bl _,.non=>true| .non,.str _=>true| .str _,.non=>true
 | .int _,.int _=>true| .bl _,.bl _=>true| .str _,.str _=>true| .byt _,.byt _=>true
 | .int _,.str _=>true| .str _,.int _=>true| .bl _,.str _=>true| .str _,.bl _=>true
 |_,_=>false
def rEq:R2:=fun x y H Q=>scal x y=true/\Q (.bl (decide (x=y))) H
def rNe:R2:=fun x y H Q=>scal x y=true/\Q (.bl (!decide (x=y))) H
theorem dec_int {i j:Int}:decide (V.int i=V.int j)=(i==j):=by
 rw [vh];simp
theorem dec_bl {i j:Bool}:decide (V.bl i=V.bl j)=(i==j):=by
 rw [vh];simp
theorem dec_str {i j:Str}:decide (V.str i=V.str j)=(i==j):=by
 rw [vh];simp
theorem dec_byt {i j:Array UInt8}:decide (V.byt i=V.byt j)=(i.toList==j.toList):=by
 rw [vh];cases i;cases j;simp
theorem qK {pins:List (Addr×Obj)}{σ:St}{H:Hp}{s:Shared}{Q:VK}{k B:Bool}(I:Inv X pins σ H s)(q:Q (.bl k) H)(e:k=B):EP X pins σ Q (.bool B) s:=by
 subst e;exact⟨.bl k,H,I,rfl,q⟩
theorem QK:OpR X (compareOp .Eq) rEq:=by
 intro pins s σ H x y v u Q I M B h;obtain⟨L,q⟩:=h;cases x with
 |non=>
  cases M;cases y with
  |non=>cases B;exact PySem.EqNone.eq_none_none (qK I q (by simp))
  |bl j=>cases B;exact PySem.EqNone.eq_none_bool (qK I q (by simp))
  |int j=>obtain⟨t',rfl⟩:=B;exact PySem.EqNone.eq_none_int (qK I q (by simp))
  |str j=>obtain⟨t',rfl⟩:=B;exact PySem.EqNone.eq_none_str (qK I q (by simp))
  |_=>exact absurd (show false=true from L) uf
 |bl i=>
  cases M;cases y with
  |non=>cases B;exact PySem.EqNone.eq_bool_none (qK I q (by simp))
  |bl j=>cases B;exact eq_bool (qK I q dec_bl)
  |str j=>obtain⟨t',rfl⟩:=B;exact PySem.EqMixed.eq_bool_str (qK I q (by simp))
  |_=>exact absurd (show false=true from L) uf
 |int i=>
  obtain⟨t,rfl⟩:=M;cases y with
  |non=>cases B;exact PySem.EqNone.eq_int_none (qK I q (by simp))
  |int j=>obtain⟨t',rfl⟩:=B;exact eq_int (qK I q dec_int)
  |str j=>obtain⟨t',rfl⟩:=B;exact PySem.EqMixed.eq_int_str (qK I q (by simp))
  |_=>exact absurd (show false=true from L) uf
 |str i=>
  obtain⟨t,rfl⟩:=M;cases y with
  |non=>cases B;exact PySem.EqNone.eq_str_none (qK I q (by simp))
  |bl j=>cases B;exact PySem.EqMixed.eq_str_bool (qK I q (by simp))
  |int j=>obtain⟨t',rfl⟩:=B;exact PySem.EqMixed.eq_str_int (qK I q (by simp))
  |str j=>obtain⟨t',rfl⟩:=B;exact eq_str (qK I q dec_str)
  |_=>exact absurd (show false=true from L) uf
 |byt i=>
  obtain⟨t,rfl⟩:=M;cases y with
  |byt j=>obtain⟨t',rfl⟩:=B;exact PySem.W.eq_bytes (qK I q dec_byt)
  |_=>exact absurd (show false=true from L) uf
 |_=>cases y<;>exact absurd (show false=true from L) uf
theorem op_ne:OpR X (compareOp .NotEq) rNe:=by
 intro pins s σ H x y v u Q I M B h;obtain⟨L,q⟩:=h;cases x with
 |non=>
  cases M;cases y with
  |non=>cases B;exact PySem.EqNone.ne_none_none (qK I q (by simp))
  |bl j=>cases B;exact PySem.EqNone.ne_none_bool (qK I q (by simp))
  |int j=>obtain⟨t',rfl⟩:=B;exact PySem.EqNone.ne_none_int (qK I q (by simp))
  |str j=>obtain⟨t',rfl⟩:=B;exact PySem.EqNone.ne_none_str (qK I q (by simp))
  |_=>exact absurd (show false=true from L) uf
 |bl i=>
  cases M;cases y with
  |non=>cases B;exact PySem.EqNone.ne_bool_none (qK I q (by simp))
  |bl j=>cases B;exact ne_bool (qK I q (congrArg not dec_bl))
  |str j=>obtain⟨t',rfl⟩:=B;exact PySem.EqMixed.ne_bool_str (qK I q (by simp))
  |_=>exact absurd (show false=true from L) uf
 |int i=>
  obtain⟨t,rfl⟩:=M;cases y with
  |non=>cases B;exact PySem.EqNone.ne_int_none (qK I q (by simp))
  |int j=>obtain⟨t',rfl⟩:=B;exact ne_int (qK I q (congrArg not dec_int))
  |str j=>obtain⟨t',rfl⟩:=B;exact PySem.EqMixed.ne_int_str (qK I q (by simp))
  |_=>exact absurd (show false=true from L) uf
 |str i=>
  obtain⟨t,rfl⟩:=M;cases y with
  |non=>cases B;exact PySem.EqNone.ne_str_none (qK I q (by simp))
  |bl j=>cases B;exact PySem.EqMixed.ne_str_bool (qK I q (by simp))
  |int j=>obtain⟨t',rfl⟩:=B;exact PySem.EqMixed.ne_str_int (qK I q (by simp))
  |str j=>obtain⟨t',rfl⟩:=B;exact ne_str (qK I q (congrArg not dec_str))
  |_=>exact absurd (show false=true from L) uf
 |byt i=>
  obtain⟨t,rfl⟩:=M;cases y with
  |byt j=>obtain⟨t',rfl⟩:=B;exact PySem.W.ne_bytes (qK I q (congrArg not dec_byt))
  |_=>exact absurd (show false=true from L) uf
 |_=>cases y<;>exact absurd (show false=true from L) uf
theorem op_lt:OpR X (compareOp .Lt) (rI0 fun i j=> .bl (decide (i<j))):=opB0 fun _ _ _ _ _ _ _ q=>lt_int q
theorem op_le:OpR X (compareOp .LtE) (rI0 fun i j=> .bl (decide (i<=j))):=opB0 fun _ _ _ _ _ _ _ q=>le_int q
theorem op_gt:OpR X (compareOp .Gt) (rI0 fun i j=> .bl (decide (j<i))):=opB0 fun _ _ _ _ _ _ _ q=>gt_int q
theorem op_ge:OpR X (compareOp .GtE) (rI0 fun i j=> .bl (decide (j<=i))):=opB0 fun _ _ _ _ _ _ _ q=>ge_int q
theorem op_lt_str:OpR X (compareOp .Lt) (fun x y H Q=>∃i j,x= .str i/\y= .str j/\Q (.bl (decide (i.cps.toList<j.cps.toList))) H):=by
 intro pins s σ H x y v u Q I B L h;obtain⟨i,j,rfl,rfl,q⟩:=h;obtain⟨t,rfl⟩:=B;obtain⟨t',rfl⟩:=L;exact lt_str (qK I q rfl)
theorem op_in_str:OpR X (compareOp .In) (fun x y H Q=>∃i j,x= .str i/\y= .str j/\Q (.bl (!(Builtin.Str.occurrences j i 0 j.length 1).isEmpty)) H):=by
 intro pins s σ H x y v u Q I B L h;obtain⟨i,j,rfl,rfl,q⟩:=h;obtain⟨t,rfl⟩:=B;obtain⟨t',rfl⟩:=L;exact in_str (qK I q rfl)
theorem Y5:OpR X (compareOp .Is) (fun x y H Q=>y= .non/\Q (.bl (decide (x= .non))) H):=by
 intro pins s σ H x y v u Q I B L h;obtain⟨rfl,q⟩:=h;cases L;refine is_none_gen (qK I q ?_);cases x<;>first
  |(cases B;rfl)
  |(obtain⟨t,rfl⟩:=B;rfl)
theorem op_notN:OpR X (compareOp .IsNot) (fun x y H Q=>y= .non/\Q (.bl (!decide (x= .non))) H):=by
 intro pins s σ H x y v u Q I B L h;obtain⟨rfl,q⟩:=h;cases L;refine isnot_none_gen (qK I q ?_);cases x<;>first
  |(cases B;rfl)
  |(obtain⟨t,rfl⟩:=B;rfl)
theorem qw (b:Expr){op:CmpOp}(h:op≠ .In:=by decide)(h2:op≠ .NotIn:=by decide):behindInMarks op b=false:=by
 have B:(op==CmpOp.In)=false:=by cases op<;>first|rfl|exact absurd rfl h
 have I:(op==CmpOp.NotIn)=false:=by cases op<;>first|rfl|exact absurd rfl h2
 cases b<;>simp [behindInMarks,B,I]
theorem QM {op:CmpOp}{r:R2}(B:OpR X (compareOp op) r)(ha:PE X a ta)(L:PE X b tb)(hm:behindInMarks op b=false):PE X (.Compare a [op] [b] pos) (tOp r ta tb):=by
 intro pins s σ H Q I h;exact wpAny_Compare1 (binT ha L I h fun v u s2 x y H2 M O R q=>B pins s2 σ H2 x y v u Q M O R q) hm
def tTest (t:TE):TT:=fun σ H Q=>t σ H fun x H'=>∃k,x= .bl k/\Q k H'
theorem qq {op:CmpOp}{r:R2}(B:OpR X (compareOp op) r)(ha:PE X a ta)(L:PE X b tb)(hm:behindInMarks op b=false):PT X (.Compare a [op] [b] pos) (tTest (tOp r ta tb)):=by
 intro pins s σ H Q I h;refine wpAny_isTrue_Compare1 (thn (ha pins s σ H _ I h) fun v s1 ⟨x,H1,M,O,q1⟩=>thn (L pins s1 σ H1 _ M q1) fun u s2 ⟨y,H2,R,U,Y⟩=>
  thn (B pins s2 σ H2 x y v u _ R O U Y) fun c s3 ⟨z,Z,I3,r3,k,e,q3⟩=> ?_) hm
 subst e;cases r3;exact uK ⟨Z,I3,q3⟩
def tChain (r r':R2)(ta tb tc:TE):TE:=fun σ H Q=>ta σ H fun x H1=>tb σ H1 fun y H2=>r x y H2 fun z H3=>∃k,z= .bl k/\
 (if k=true then tc σ H3 fun w' H4=>r' y w' H4 Q else Q (.bl false) H3)
theorem pt_chain {op B:CmpOp}{r r':R2}(Y:OpR X (compareOp op) r)(L:OpR X (compareOp B) r')(ha:PE X a ta)(Z:PE X b tb)(hc:PE X c tc)
  (hm:lastMarks [op,B] [b,c]=false:=by with_unfolding_all rfl):PT X (.Compare a [op,B] [b,c] pos) (tTest (tChain r r' ta tb tc)):=by
 intro pins s σ H Q I h;refine isTrue_chain (thn (ha pins s σ H _ I h) fun v s1 ⟨x,H1,I1,r1,q1⟩=>test_link (thn (Z pins s1 σ H1 _ I1 q1) fun u s2 ⟨y,H2,I2,M,q2⟩=>
  thn (Y pins s2 σ H2 x y v u _ I2 r1 M q2) fun d s3 ⟨z,O,R,r3,k,e,U⟩=> ?_)) hm
 subst e;cases r3;refine uK ?_;cases k with
 |false=>
  obtain⟨k',e',q'⟩:=U;cases e';exact ite_ff ⟨O,R,q'⟩
 |true=>
  refine ite_tt (test_last (thn (hc pins s3 σ O _ R U) fun w' s4 ⟨z',H4,I4,r4,q4⟩=>thn (L pins s4 σ H4 y z' u w' _ I4 M r4 q4) fun d' s5 ⟨z2,H5,I5,r5,k2,e2,q5⟩=> ?_));subst e2;cases r5;exact uK ⟨H5,I5,q5⟩
def TruV (K:PySem.W.Frag)(x:V)(H:Hp)(k:Bool):Prop:=
 match x with
 | .non=>k=false
 | .bl b=>k=b
 | .int i=>k=(i !=0)
 | .str y=>y.length<=sizeLine/\k=((y.length:Int) !=0)
 | .byt y=>y.size<=sizeLine/\k=((y.size:Int) !=0)
 | .ref p=>(∃xs,SqL K H p xs/\k= !xs.isEmpty)∨(∃xs,SqT K H p xs/\k= !xs.isEmpty)∨∃kvs,H p=some (.dK kvs)/\k= !kvs.isEmpty
 |_=>False
theorem isEmpty_kv {κ:Type}{kvs:List (κ×V)}{vs:List (κ×Value)}(r:KV kvs vs):(!vs.isEmpty)= !kvs.isEmpty:=by
 cases r<;>rfl
theorem Jj {xs:List V}{its:List Value}(r:Vals xs its):(!its.toArray.isEmpty)= !xs.isEmpty:=by
 cases r<;>simp
theorem jh:(sizeLine:Nat)<2^63:=by rw [vi];decide
theorem tru_ok:TruR X (fun x H Q=>∃k,TruV X.K x H k/\Q k H):=by
 intro pins s σ H x v Q I M h;obtain⟨k,e,q⟩:=h;have U:=jh;have Y:sizeLine=16777216:=vi;cases x with
 |non=>
  cases M;have B:k=false:=e;subst B;exact truthy_none ⟨H,I,q⟩
 |bl b=>
  cases M;have B:k=b:=e;subst B;exact uK ⟨H,I,q⟩
 |int i=>
  obtain⟨t,rfl⟩:=M;have B:k=(i !=0):=e;subst B;exact PySem.P.truthy_int ⟨H,I,q⟩
 |str y=>
  obtain⟨t,rfl⟩:=M;obtain⟨O,B⟩:y.length<=sizeLine/\k=((y.length:Int) !=0):=e;subst B;exact PySem.P.truthy_str (by omega) ⟨H,I.tok _,q⟩
 |byt y=>
  obtain⟨t,rfl⟩:=M;obtain⟨O,B⟩:y.size<=sizeLine/\k=((y.size:Int) !=0):=e;subst B;exact PySem.W.truthy_bytes (by omega) ⟨H,I.tok _,q⟩
 |ref p=>
  cases M;have B:(∃xs,SqL X.K H p xs/\k= !xs.isEmpty)∨(∃xs,SqT X.K H p xs/\k= !xs.isEmpty)∨∃kvs,H p=some (.dK kvs)/\k= !kvs.isEmpty:=e;rcases B with⟨xs,hx,B⟩|⟨xs,hx,B⟩|⟨kvs,hx,B⟩
  ·subst B;obtain⟨its,r,pl,hz⟩:=I.list hx;have L:=r.length;exact wpAny_truthy_list pl.isList (by simp only [ud];omega) ⟨H,I.tok _,by rw [Jj r];exact q⟩
  ·subst B;obtain⟨its,r,pl,hz⟩:=I.tuple hx;have L:=r.length;exact truthy_tuple pl (by simp only [ud];omega) ⟨H,I.tok _,by rw [Jj r];exact q⟩
  ·subst B;obtain⟨hz,R,vs,r,m⟩:kvs.length<=sizeLine/\(p==sysModules)=false/\∃vs,KV kvs vs/\s.heap.DictOf (mixKind X.prog X.w) p vs:=I.hok p _ hx;have L:kvs.length=vs.length:=vY r;exact wpAny_truthy_dict R m (by omega) ⟨H,I.tok _,by rw [isEmpty_kv r];exact q⟩
 |_=>exact(show False from e).elim
theorem pt_truth (ha:PE X a ta)(L:∀B,isTrue a X.env B=(do let v<-B;standAt a.pos;holding [v] (truthy v))):
  PT X a (fun σ H Q=>ta σ H fun x H'=>∃k,TruV X.K x H' k/\Q k H'):=by
 intro pins s σ H Q I h;exact isTrue_plain (thn (ha pins s σ H _ I h) fun v s1 ⟨x,H1,M,O,q1⟩=>tru_ok pins s1 σ H1 x v Q M O q1) (L _)
theorem yn {x:V}{us:List Value}(r:Vals [x] us):∃u,us= [u]/\RelV x u:=by
 cases r with
 |cons B I=>cases I;exact⟨_,rfl,B⟩
theorem vals2 {x y:V}{us:List Value}(r:Vals [x,y] us):∃u B,us= [u,B]/\RelV x u/\RelV y B:=by
 cases r with
 |cons I L=>
  cases L with
  |cons M O=>cases O;exact⟨_,_,rfl,I,M⟩
theorem call_abs:yx X (.builtin "abs") (fun xs H Q=>∃i,xs= [.int i]/\Q (.int (if i<0 then-i else i)) H):=by
 intro pins s σ H xs us Q I r h;obtain⟨i,rfl,q⟩:=h;obtain⟨u,rfl,t,rfl⟩:=yn r;exact uT (n:=1) I.tk (call_abs_int fun u tk htk=>⟨.int (if i<0 then-i else i),H,I.tok _,⟨_,rfl⟩,q⟩)
theorem call_int1:yx X (.type "int") (fun xs H Q=>(∃i,xs= [.int i]/\Q (.int i) H)∨∃k,xs= [.bl k]/\Q (.int (if k then 1 else 0)) H):=by
 intro pins s σ H xs us Q I r h;rcases h with⟨i,rfl,q⟩|⟨k,rfl,q⟩
 ·obtain⟨u,rfl,t,rfl⟩:=yn r;exact call_int_int ⟨.int i,H,I,⟨_,rfl⟩,q⟩
 ·obtain⟨u,rfl,B⟩:=yn r;cases B;exact call_int_bool ⟨.int (if k then 1 else 0),H,I.tok _,⟨_,rfl⟩,q⟩
theorem call_ord:yx X (.builtin "ord") (fun xs H Q=>∃x,xs= [.str x]/\x.length=1/\Q (.int (x.cps.getD 0 0:Nat)) H):=by
 intro pins s σ H xs us Q I r h;obtain⟨x,rfl,hz,q⟩:=h;obtain⟨u,rfl,t,rfl⟩:=yn r;exact ord_of_one hz ⟨.int _,H,I.tok _,⟨_,rfl⟩,q⟩
def LenV (K:PySem.W.Frag)(x:V)(H:Hp)(n:Nat):Prop:=
 match x with
 | .str y=>y.length<=sizeLine/\n=y.length
 | .byt y=>y.size<=sizeLine/\n=y.size
 | .ref p=>(∃xs,SqL K H p xs/\n=xs.length)∨∃xs,SqT K H p xs/\n=xs.length
 |_=>False
theorem JY:yx X (.builtin "len") (fun xs H Q=>∃x n,xs= [x]/\LenV X.K x H n/\Q (.int n) H):=by
 intro pins s σ H xs us Q I r h;obtain⟨x,n,rfl,e,q⟩:=h;obtain⟨u,rfl,M⟩:=yn r;have R:=jh;have U:sizeLine=16777216:=vi;cases x with
 |str y=>
  obtain⟨t,rfl⟩:=M;obtain⟨O,L⟩:y.length<=sizeLine/\n=y.length:=e;subst L;exact len_str (by omega) ⟨.int _,H,I.tok _,⟨_,rfl⟩,q⟩
 |byt y=>
  obtain⟨t,rfl⟩:=M;obtain⟨O,L⟩:y.size<=sizeLine/\n=y.size:=e;subst L;exact PySem.W.len_bytes (by omega) ⟨.int _,H,I.tok _,⟨_,rfl⟩,q⟩
 |ref p=>
  cases M;have L:(∃xs,SqL X.K H p xs/\n=xs.length)∨∃xs,SqT X.K H p xs/\n=xs.length:=e;rcases L with⟨xs,hx,L⟩|⟨xs,hx,L⟩
  ·subst L;obtain⟨its,r',pl,hz⟩:=I.list hx;have B:=r'.length;exact Calls.call_len_list pl.isList (by simp only [ud];omega) ⟨.int xs.length,H,I.tok _,⟨_,by simp only [ud];rw [B]⟩,q⟩
  ·subst L;obtain⟨its,r',pl,hz⟩:=I.tuple hx;have B:=r'.length;exact len_tuple pl (by simp only [ud];omega) ⟨.int xs.length,H,I.tok _,⟨_,by simp only [ud];rw [B]⟩,q⟩
 |_=>exact(show False from e).elim
end
structure ObjM (h:Heap)(x dx C:Addr)(mA:Str->Option Value):Prop where
 obj:h.get? x=some (PySem.W.instObj C dx)
 ns:h.Ns1 dx mA
 ne:dx≠x
theorem lookIn_ns {h:Heap}{dx:Addr}{mA:Str->Option Value}(n:h.Ns1 dx mA):∃od,h.get? dx=some od/\∀name,PySem.W.lookIn name od=some (mA name):=by
 obtain⟨o,es,ep,I,hd,hk,_,hm⟩:=n;refine⟨o,I,fun name=> ?_⟩;have e:=hm name;unfold nsFind findBy at e;rw [<-Array.find?_toList] at e;unfold PySem.W.lookIn;rw [hd];dsimp only;split
 ·rename_i y q
  rw [q] at e;exact congrArg some e
 ·rename_i q
  rw [q] at e;have a:es.toList.any (·.refKey)=false:=by
   rw [List.any_eq_false];intro y L;obtain⟨z,t,B⟩:=hk y (Array.mem_toList_iff.mp L);simp [DictEntry.refKey,B]
  have M:¬es.toList.any (·.refKey)=true:=by rw [a];exact uf
  rw [if_neg M];exact congrArg some e
theorem ObjM.look {h:Heap}{x dx C:Addr}{mA:Str->Option Value}(I:ObjM h x dx C mA):∃od,PySem.W.InstAt h x (PySem.W.instObj C dx) C (some od)/\∀name,PySem.W.lookIn name od=some (mA name):=
 let⟨od,ho,hl⟩:=lookIn_ns I.ns
 ⟨od,⟨I.obj,rfl,rfl,ho⟩,hl⟩
section
variable {prog:Program}{w:World}{A:Around}{E:Value->Shared->Prop}{s:Shared}{K:PySem.W.Frag}{x dx C f:Addr}{mA:Str->Option Value}{name:Str}{v:Value}
theorem get_map {B:Bool}{Q:Value->Shared->Prop}(X:K.In s.heap)(I:ObjM s.heap x dx C mA)(M:PySem.W.plainGet K C name=true)(O:PySem.W.hasDictIn K C=true)
  (ha:PySem.W.findIn K (.ref C) name=some none) (R:mA name=some v) (L:PySem.W.handedIn v=true) (h:Q v {s with toks:=s.toks+1}):
  wpAny (model prog w) A (getAttr (.ref x) name B) Q E s:=by
 obtain⟨od,J,U⟩:=I.look;exact PySem.W.get_value X J (PySem.W.plainGet_of M).1 (PySem.W.findObj_own O ha rfl (by rw [U,R])) L h
theorem get_meth {pl:Sem Bool}{Q:Value×List Value->Shared->Prop}(X:K.In s.heap)(I:ObjM s.heap x dx C mA)(B:PySem.W.plainGet K C name=true)
  (L:PySem.W.findIn K (.ref C) name=some (some (.ref f))) (M:PySem.W.isFn K (.ref f)=true) (O:mA name=none) (h:Q (.ref f,[.ref x]) s):
  wpAny (model prog w) A (getMethod (.ref x) name pl) Q E s:=by
 obtain⟨od,J,R⟩:=I.look;exact PySem.W.method_fn X J (PySem.W.plainGet_of B).1 (PySem.W.plainGet_of B).2 L (beq_iff_eq.mp M) (by show(PySem.W.lookIn name od).map (·.isSome)=some false;rw [R,O];rfl) h
theorem set_map {ns:List Str}{Q:Unit->Shared->Prop}(X:K.In s.heap)(I:ObjM s.heap x dx C mA)
  (Y:PySem.W.findIn K (.ref C) "__setattr__"=some (some (.builtin "object.__setattr__"))) (Z:PySem.W.plainOver K C=true) (ht:PySem.W.takerIn K C name=some none) (hh:PySem.W.hasDictIn K C=true)
  (hw:PySem.Within mA ns) (hsz:ns.length<=sizeLine)
  (h:∀h',ObjM h' x dx C (fun y=>if y=name then some v else mA y)->Heap.SameBut dx s.heap h'->Q () {s with heap:=h',toks:=s.toks+2}):
  wpAny (model prog w) A (setAttr (.ref x) name v) Q E s:=by
 obtain⟨od,J,hl⟩:=I.look;refine PySem.W.set_plain X J Y (PySem.W.osa_open (s:={s with toks:=s.toks+1}) (r:=none) X J Z ht fun b=> ?_)
 obtain⟨cd,hc,M⟩:=PySem.W.any_some hh;have hx:s.heap.get? x=some ⟨.ref C,some dx,.plain,#[]⟩:=I.obj;refine wpAny_bind (u0 (wpAny_bind (wpAny_bind (wpAny_loadPart hx (wpAny_bind (PySem.W.Looks.here (s:={s with toks:=s.toks+1}) (PySem.W.looks_clsIn X hc) ?_))))))
 rw [M];refine u0 (a:=some dx) (wpAny_bind (u0 (wpAny_bind ?_)));refine wpAny_nsSet1 (s:={s with toks:=s.toks+1}) I.ns fun h' B L=> ?_
 obtain⟨oD,aa,ab,O,R,U⟩:=B.count (PySem.Within.cons name v hw);refine wpAny_bind (wpAny_lookBehind O (by rw [R];exact pastItsLine_dict (vt U (by rw [uy];omega))) ?_)
 exact u0 (h _ ⟨(L.2 _ (vZ I.ne)).trans I.obj,B,I.ne⟩ L)
theorem make_map {R:Result->Shared->Prop}{vs:List Value}{kw:List (Str×Value)}(X:K.In s.heap)(hm:PySem.W.makesIn K C=true)
  (hi:PySem.W.findIn K (.ref C) "__init__"=some (some (.ref f))) (B:PySem.W.typeIn K (.ref f)=some (.type "function"))
  (h:codeAny (model prog w) (A.under (.builtin "type.__call__" ⟨.ref C::vs,kw⟩)) (.call (.ref f) ⟨.ref (s.heap.objs.size+1)::vs,kw⟩) (PySem.W.InitBack (s.heap.objs.size+1) R)
   {s with heap:=(s.heap.push PySem.W.emptyDict).push (PySem.W.instObj C s.heap.objs.size)}):
  codeAny (model prog w) A (.call (.ref C) ⟨vs,kw⟩) R s:=by
 obtain⟨I,g,d,t,os⟩:=s;exact PySem.W.make_core (PySem.W.makes_of X hm) (PySem.W.looks_findIn X hi) (fun self=>PySem.W.bind_fn X self B) (.inl rfl) h
end
def putF (f:Str)(v:V):List (Str×V)->List (Str×V)
 | []=> [(f,v)]
 |(g,x)::r=>if g=f then(g,v)::r else(g,x)::putF f v r
theorem QN (f g:Str)(v:V):∀fs:List (Str×V),(putF f v fs).lookup g=if g=f then some v else fs.lookup g
 | []=>by
  show List.lookup g [(f,v)]=_;by_cases h:g=f
  ·have B:(g==f)=true:=beq_iff_eq.mpr h;simp only [List.lookup,B,if_pos h]
  ·have B:(g==f)=false:=beq_eq_false_iff_ne.mpr h;simp only [List.lookup,B,if_neg h]
 |(k,x)::r=>by
  have I:=QN f g v r;rw [show putF f v ((k,x)::r)=(if k=f then(k,v)::r else(k,x)::putF f v r) from rfl]
  by_cases hk:k=f
  ·rw [if_pos hk];by_cases h:g=k
   ·have B:(g==k)=true:=beq_iff_eq.mpr h;simp only [List.lookup,B,if_pos (h.trans hk)]
   ·have B:(g==k)=false:=beq_eq_false_iff_ne.mpr h;simp only [List.lookup,B,if_neg (fun e:g=f=>h (e.trans hk.symm))]
  ·rw [if_neg hk];by_cases h:g=k
   ·have B:(g==k)=true:=beq_iff_eq.mpr h;simp only [List.lookup,B,if_neg (fun e:g=f=>hk (h.symm.trans e))]
   ·have B:(g==k)=false:=beq_eq_false_iff_ne.mpr h;simp only [List.lookup,B];exact I
theorem jW (f:Str)(v:V):∀fs:List (Str×V),f∈(putF f v fs).map (·.1)/\∀g,g∈fs.map (·.1)->g∈(putF f v fs).map (·.1)
 | []=>⟨by simp [putF],fun g h=>by simp at h⟩
 |(k,x)::r=>by
  obtain⟨B,I⟩:=jW f v r;rw [show putF f v ((k,x)::r)=(if k=f then(k,v)::r else(k,x)::putF f v r) from rfl]
  by_cases hk:k=f
  ·rw [if_pos hk];subst hk;exact⟨by simp,fun g h=>by simpa using h⟩
  ·rw [if_neg hk];refine⟨?_,fun g h=> ?_⟩
   ·rw [uo];exact u9 _ B
   ·rw [uo] at h⊢;rcases List.mem_cons.mp h with e|e
    ·exact List.mem_cons.mpr (.inl e)
    ·exact u9 _ (I g e)
theorem jR (f:Str)(v:V):∀fs:List (Str×V),(putF f v fs).length<=fs.length+1
 | []=>by simp [putF]
 |(k,x)::r=>by
  have B:=jR f v r;rw [show putF f v ((k,x)::r)=(if k=f then(k,v)::r else(k,x)::putF f v r) from rfl]
  by_cases hk:k=f
  ·rw [if_pos hk,uy,uy];omega
  ·rw [if_neg hk,uy,uy];omega
theorem RelO.some_of {v:V}{o:Option Value}(r:RelO (some v) o):∃u,o=some u/\RelV v u:=by
 cases o with
 |none=>exact(show False from r).elim
 |some u=>exact⟨u,rfl,r⟩
theorem RelO.Qi {o:Option Value}(r:RelO none o):o=none:=by
 cases o with
 |none=>rfl
 |some u=>exact(show False from r).elim
theorem handed_of {v:V}{u:Value}(r:RelV v u):PySem.W.handedIn u=true:=by
 cases v with
 |non=>cases(show u=Value.none from r);rfl
 |bl b=>cases(show u=Value.bool b from r);rfl
 |int i=>obtain⟨t,e⟩:=(show∃t,u=Value.int i t from r);cases e;rfl
 |str x=>obtain⟨t,e⟩:=(show∃t,u=Value.str x t from r);cases e;rfl
 |byt b=>obtain⟨t,e⟩:=(show∃t,u=Value.bytes b t from r);cases e;rfl
 |flt b=>obtain⟨t,e⟩:=(show∃t,u=Value.float b t from r);cases e;rfl
 |ref a=>cases(show u=Value.ref a from r);rfl
 |ty n=>cases(show u=Value.type n from r);rfl
section
variable {P:Program}{w:World}{H H':Hp}{h h':Heap}{a C dx:Addr}{fs fs':List (Str×V)}
theorem JR (hok:HOk P w H h)(e:H a=some (.ins C dx fs)):∃mA,ObjM h a dx C mA/\(∀f,RelO (fs.lookup f) (mA f))/\PySem.Within mA (fs.map (·.1))/\fs.length<=1000/\H dx=some (.own a):=by
 obtain⟨d,z,ne,B,mA,n,r,q⟩:=(show Qm P w H h a (.ins C dx fs) from hok a _ e)
 exact⟨mA,⟨B,n,ne⟩,r,q,z,d⟩
end
structure Cls (K:PySem.W.Frag)(C:Addr):Prop where
 pg:PySem.W.plainGet K C Str.empty=true
 hd:PySem.W.hasDictIn K C=true
 po:PySem.W.plainOver K C=true
 sa:PySem.W.findIn K (.ref C) "__setattr__"=some (some (.builtin "object.__setattr__"))
theorem Cls.get {K:PySem.W.Frag}{C:Addr}(c:Cls K C)(f:Str):PySem.W.plainGet K C f=true:=c.pg
def yP (K:PySem.W.Frag)(C:Addr)(f:Str):Prop:=PySem.W.findIn K (.ref C) f=some none
theorem yP.taker {K:PySem.W.Frag}{C:Addr}{f:Str}(n:yP K C f):PySem.W.takerIn K C f=some none:=by
 unfold PySem.W.takerIn;rw [show PySem.W.findIn K (.ref C) f=some none from n]
 rfl
structure Meth (K:PySem.W.Frag)(C:Addr)(m:Str)(f:Addr):Prop where
 at_:PySem.W.findIn K (.ref C) m=some (some (.ref f))
 fn:PySem.W.isFn K (.ref f)=true
 kp:PySem.W.keepIn K (.ref f)=true
section
variable {X:Cx}{pins:List (Addr×Obj)}{σ:St}{H:Hp}{s:Shared}{a C dx:Addr}{fs:List (Str×V)}{f:Str}{v:V}{A:Around}{E:Value->Shared->Prop}
theorem getattr_ok {b:Bool}{Q:Value->Shared->Prop}(I:Inv X pins σ H s)(e:H a=some (.ins C dx fs))(c:Cls X.K C)(n:yP X.K C f)(l:fs.lookup f=some v)
  (h:∀u s',Inv X pins σ H s'->RelV v u->Q u s'):wpAny (model X.prog X.w) A (getAttr (.ref a) f b) Q E s:=by
 obtain⟨mA,O,r,_,_,_⟩:=JR I.hok e;obtain⟨u,hu,B⟩:=RelO.some_of (v:=v) (o:=mA f) (by rw [<-l];exact r f)
 exact get_map I.kIn O (c.get f) c.hd n hu (handed_of B) (h u _ (I.tok _) B)
theorem YZ {m:Str}{g:Addr}{pl:Sem Bool}{Q:Value×List Value->Shared->Prop}(I:Inv X pins σ H s)(e:H a=some (.ins C dx fs))(c:Cls X.K C)(k:Meth X.K C m g)(l:fs.lookup m=none)
  (h:Q (.ref g,[.ref a]) s):wpAny (model X.prog X.w) A (getMethod (.ref a) m pl) Q E s:=by
 obtain⟨mA,O,r,_,_,_⟩:=JR I.hok e;have hn:mA m=none:=RelO.Qi (by rw [<-l];exact r m)
 exact get_meth I.kIn O (c.get m) k.at_ k.fn hn h
theorem setattr_ok {y:V}{u:Value}{Q:Unit->Shared->Prop}(I:Inv X pins σ H s)(e:H a=some (.ins C dx fs))(c:Cls X.K C)(n:yP X.K C f)(hl:fs.length<1000)(R:RelV y u)
  (h:∀s',Inv X pins σ (upd H a (.ins C dx (putF f y fs))) s'->Q () s'):wpAny (model X.prog X.w) A (setAttr (.ref a) f u) Q E s:=by
 obtain⟨mA,O,r,L,_,M⟩:=JR I.hok e;have hz:(fs.map (·.1)).length<=sizeLine:=by rw [ue,vi];omega
 refine set_map I.kIn O c.sa c.po n.taker c.hd L hz fun h' B U=>h _ ?_;have hd:∃o,h'.get? dx=some o:=let⟨o,_,_,e',_⟩:=B.ns;⟨o,e'⟩;refine I.write (x:=a) (e:=dx) (by rw [e];exact True.intro) (.inr M) (fun b q Y z=>(U.2 b Y).trans z) hd ?_
 refine⟨by rw [qi O.ne];exact M,?_,O.ne,B.obj,_,B.ns,fun g=> ?_,fun g Z=> ?_⟩
 ·have:=jR f y fs;omega
 ·show RelO ((putF f y fs).lookup g) (if g=f then some u else mA g)
  rw [QN];by_cases q:g=f
  ·rw [if_pos q,if_pos q];exact R
  ·rw [if_neg q,if_neg q];exact r g
 ·by_cases q:g=f
  ·rw [q];exact(jW f y fs).1
  ·refine(jW f y fs).2 g (L g fun z=>Z ?_);show(if g=f then some u else mA g)=none
   rw [if_neg q];exact z
theorem Inv.made (I:Inv X pins σ H s):Inv X pins σ (upd (upd H s.heap.objs.size (.own (s.heap.objs.size+1))) (s.heap.objs.size+1) (.ins C s.heap.objs.size []))
  {s with heap:=(s.heap.push PySem.W.emptyDict).push (PySem.W.instObj C s.heap.objs.size)}:=by
 have B:(s.heap.push PySem.W.emptyDict).get? s.heap.objs.size=some PySem.W.emptyDict:=ug s.heap rfl;have L:((s.heap.push PySem.W.emptyDict).push (PySem.W.instObj C s.heap.objs.size)).get? (s.heap.objs.size+1)=some (PySem.W.instObj C s.heap.objs.size):=by
  have:=ug (s.heap.push PySem.W.emptyDict) (o:=PySem.W.instObj C s.heap.objs.size) rfl
  rwa [vN] at this
 have M:(s.heap.push PySem.W.emptyDict).Ns s.heap.objs.size (fun _=>none):=⟨PySem.W.emptyDict,#[],_,B,rfl,(fun e O=>absurd O (by simp)),fun _=>rfl⟩
 have R:=I.laid (a:=s.heap.objs.size) (o:= .own (s.heap.objs.size+1)) (h':=s.heap.push PySem.W.emptyDict) (t':=s.toks) (fun b u q=>u8 _ q) (Nat.le_refl _) ⟨_,B⟩;refine R.laid (a:=s.heap.objs.size+1) (o:= .ins C s.heap.objs.size []) (t':=s.toks) (fun b u q=>u8 _ q) (Nat.le_of_eq (vN _ _)) ?_;have ne:s.heap.objs.size≠s.heap.objs.size+1:=uA (Uz _);refine⟨by rw [qi ne,qe],uG _,ne,L,fun _=>none,(Heap.Ns1.of_empty M).at fun o q=>u8 _ q,fun _=>True.intro,fun y U=>absurd rfl U⟩
theorem attr_of {prog:Program}{w:World}{env:Env}{e:Expr}{f:Str}{pos:Pos}{s:Shared}{Q:Value->Shared->Prop}(B:attributeBase e f env (eval e env)=eval e env)
  (h:wpAny (model prog w) A (eval e env) (fun o I=>wpAny (model prog w) A (getAttr o f true) Q E I) E s):wpAny (model prog w) A (eval (.Attribute e f pos) env) Q E s:=
 Attribute_any_ h (by rw [arm_eval_Attribute,B])
end
def tFld (K:PySem.W.Frag)(ta:TE)(f:Str):TE:=fun σ H Q=>ta σ H fun x H1=>∃a C dx fs v,x= .ref a/\H1 a=some (.ins C dx fs)/\Cls K C/\yP K C f/\fs.lookup f=some v/\Q v H1
def sFld (K:PySem.W.Frag)(ta tv:TE)(f:Str):TS:=fun D σ H=>tv σ H fun y H1=>ta σ H1 fun x H2=>∃a C dx fs,x= .ref a/\H2 a=some (.ins C dx fs)/\Cls K C/\yP K C f/\fs.length<1000/\
 D.nx σ (upd H2 a (.ins C dx (putF f y fs)))
section
variable {X:Cx}{o e value:Expr}{f:Str}{pos pos' tpos:Pos}{ta tv:TE}
theorem Qh (B:PE X e ta)(L:attributeBase e f X.env (eval e X.env)=eval e X.env):PE X (.Attribute e f pos) (tFld X.K ta f):=by
 intro pins s σ H Q I h;refine attr_of L (thn (B pins s σ H _ I h) fun u s1 ⟨x,H1,M,O,a,C,dx,fs,v,ex,R,c,n,l,q⟩=> ?_);subst ex;obtain rfl:u=Value.ref a:=O;exact getattr_ok M R c n l fun Z s2 U Y=>⟨v,H1,U,Y,q⟩
theorem YG (ha:PE X o ta)(B:PE X value tv)(L:swapsWith value (some (.Attribute o f pos')) pos.line X.env=pure false):PS X (.Assign [.Attribute o f pos'] value pos) (sFld X.K ta tv f):=by
 intro pins s σ H D I h;refine plainObj_wpAny_Assign_Attribute (thn (B pins s σ H _ I h) fun u s1 ⟨y,H1,M,O,q⟩=>thn (ha pins s1 σ H1 _ M q) fun R s2 ⟨x,H2,U,Y,a,C,dx,fs,ex,Z,c,n,l,q2⟩=> ?_) L;subst ex;obtain rfl:R=Value.ref a:=Y;exact setattr_ok U Z c n l O fun s3 I3=>⟨σ,_,I3,q2⟩
theorem methcall_of {pl:Sem Bool}{m:Str}{apos:Pos}{args:List Expr}{pins:List (Addr×Obj)}{s:Shared}{σ:St}{H:Hp}{Q:Value->Shared->Prop}{te:TE}(L:PE X e te)(I:Inv X pins σ H s)
  (h:te σ H fun x H1=>∃a C dx fs g,x= .ref a/\H1 a=some (.ins C dx fs)/\Cls X.K C/\Meth X.K C m g/\fs.lookup m=none/\
   ∀s1,Inv X pins σ H1 s1->wpAny (model X.prog X.w) X.A (callWith pos (.ref g) [.ref a] (backTo pos (starEach args X.env)) (backToKw pos (keywordEach [] X.env))) Q X.xe s1)
  (M:eval (.Call (.Attribute e m apos) args [] pos) X.env=(do
   let ov<-eval e X.env
   standAt apos.atName
   let(f,first)<-holding [ov] (getMethod ov m pl)
   callWith pos f first (backTo pos (starEach args X.env)) (backToKw pos (keywordEach [] X.env)))):
  wpAny (model X.prog X.w) X.A (eval (.Call (.Attribute e m apos) args [] pos) X.env) Q X.xe s:=by
 refine PySem.W.methodCall_KW (pl:=pl) (thn (L pins s σ H _ I h) fun u s1 ⟨x,H1,B,O,a,C,dx,fs,g,ex,R,c,k,l,q⟩=> ?_) M;subst ex;obtain rfl:u=Value.ref a:=O;exact YZ B R c k l (q s1 B)
end
section
variable {X:Cx}{pins:List (Addr×Obj)}{σ:St}{H:Hp}{s:Shared}{A:Around}{E:Value->Shared->Prop}{Q:Value->Shared->Prop}{c:Value}{b:Bool}
inductive TyOf (K:PySem.W.Frag) (H:Hp):V->Value->Prop where
 |non:TyOf K H .non (.type "NoneType")
 |bl (x:Bool):TyOf K H (.bl x) (.type "bool")
 |int (i:Int):TyOf K H (.int i) (.type "int")
 |str (x:Str):TyOf K H (.str x) (.type "str")
 |flt (x:UInt64):TyOf K H (.flt x) (.type "float")
 |lst {a:Addr}{xs:List V} (e:H a=some (.lst xs)):TyOf K H (.ref a) (.type "list")
 |frz {a:Addr}{o:Obj}{xs:List V} (e:H a=some (.frz o (.lst xs))):TyOf K H (.ref a) (.type "list")
 |tup {a:Addr}{xs:List V} (e:H a=some (.tup xs)):TyOf K H (.ref a) (.type "tuple")
 |dK {a:Addr}{kvs:List (Key×V)} (e:H a=some (.dK kvs)):TyOf K H (.ref a) (.type "dict")
 |dT {a:Addr}{kvs:List (List Key×V)} (e:H a=some (.dT kvs)):TyOf K H (.ref a) (.type "dict")
 |ins {a C dx:Addr}{fs:List (Str×V)} (e:H a=some (.ins C dx fs)) (cl:Cls K C) (ha:PySem.W.findIn K (.ref C) "__class__"=some (some (.builtin "object.__class__")))
   (hn:PySem.W.specialIn K (.builtin "object.__class__") "__get__"=some (some (.builtin "getset_descriptor.__get__"))) (htk:PySem.W.takesIn K (.builtin "object.__class__")=some true)
   (hm:PySem.W.mroIn K C (.type "object")=some true):TyOf K H (.ref a) (.ref C)
theorem isinst_ok {x:V}{u t:Value}(I:Inv X pins σ H s)(B:RelV x u)(ty:TyOf X.K H x t)(e:PySem.W.kitOne X.K t c=some b)(h:∀tk,Q (.bool b) {s with toks:=tk}):
  wpAny (model X.prog X.w) A (call (.builtin "isinstance") [u,c]) Q E s:=by
 cases ty with
 |non=>cases(show u=Value.none from B);exact v8 PySem.W.kitx_none I.kIn True.intro e (fun z=>nomatch z) h
 |bl y=>cases(show u=Value.bool y from B);exact v8 PySem.W.kitx_bool I.kIn True.intro e (fun z=>nomatch z) h
 |int i=>obtain⟨t,q⟩:=(show∃t,u=Value.int i t from B);cases q;exact v8 PySem.W.kitx_int I.kIn True.intro e (fun z=>nomatch z) h
 |str y=>obtain⟨t,q⟩:=(show∃t,u=Value.str y t from B);cases q;exact v8 PySem.W.kitx_str I.kIn True.intro e (fun z=>nomatch z) h
 |flt y=>obtain⟨t,q⟩:=(show∃t,u=Value.float y t from B);cases q;exact v8 PySem.W.kitx_float I.kIn True.intro e (fun z=>nomatch z) h
 | @lst a xs ea=>
  cases(show u=Value.ref a from B)
  obtain⟨_,_,n,_,h1⟩:=(show Qm X.prog X.w H s.heap a (.lst xs) from I.hok a _ ea)
  exact v8 PySem.W.kitx_list I.kIn ⟨_,h1,rfl⟩ e (fun z=>nomatch z) h
 | @frz a ob xs ea=>
  cases(show u=Value.ref a from B)
  obtain⟨_,_,_,n,_,h1⟩:=(show Qm X.prog X.w H s.heap a (.frz ob (.lst xs)) from I.hok a _ ea)
  exact v8 PySem.W.kitx_list I.kIn ⟨_,h1,rfl⟩ e (fun z=>nomatch z) h
 | @tup a xs ea=>
  cases(show u=Value.ref a from B)
  obtain⟨_,_,_,p⟩:=(show Qm X.prog X.w H s.heap a (.tup xs) from I.hok a _ ea)
  obtain⟨o,h1,h2,_⟩:=p;exact v8 PySem.W.kitx_tuple I.kIn ⟨o,h1,h2⟩ e (fun z=>nomatch z) h
 | @dK a kvs ea=>
  cases(show u=Value.ref a from B)
  obtain⟨_,_,vs,_,p⟩:=(show Qm X.prog X.w H s.heap a (.dK kvs) from I.hok a _ ea)
  obtain⟨o,es,ep,h1,h2,_⟩:=p;exact v8 PySem.W.kitx_dict I.kIn ⟨o,h1,h2.1⟩ e (fun z=>nomatch z) h
 | @dT a kvs ea=>
  cases(show u=Value.ref a from B)
  obtain⟨_,_,xs,_,o,es,ep,h1,h2,_⟩:=(show Qm X.prog X.w H s.heap a (.dT kvs) from I.hok a _ ea)
  exact v8 PySem.W.kitx_dict I.kIn ⟨o,h1,h2.1⟩ e (fun z=>nomatch z) h
 | @ins a C dx fs ea cl ha hn htk hm=>
  cases(show u=Value.ref a from B)
  obtain⟨mA,O,_⟩:=JR I.hok ea;obtain⟨od,J,_⟩:=O.look;exact v8 (PySem.W.kitx_own (cl.get _) cl.hd ha hn htk hm) I.kIn J e (fun z=>nomatch z) h
end
structure Room (k:Nat)(A:Around):Prop where
 hd:A.handled=none
 dp:A.depth+3*k+5<recursionLimit
 un:A.units+16*k+200<cLine
theorem Room.mono {j k:Nat}{A:Around}(r:Room k A)(h:j<=k):Room j A:=⟨r.hd,by have:=r.dp;omega,by have:=r.un;omega⟩
theorem Room.deeper {k:Nat}{A:Around}(r:Room (k+1) A)(env:Env):Room k (A.deeper env):=
 ⟨r.hd,by have:=r.dp;show A.depth+1+3*k+5<_;omega,by have:=r.un;show A.units+3+16*k+200<_;omega⟩
theorem Room.in1 {k:Nat}{A:Around}(r:Room (k+1) A):Room k A.in1:=
 ⟨r.hd,by have:=r.dp;show A.depth+3*k+5<_;omega,by have:=r.un;show A.units+1+16*k+200<_;omega⟩
theorem make_depth {A:Around}{C:Addr}{us:List Value}{kw:List (Str×Value)}:(A.under (.builtin "type.__call__" ⟨.ref C::us,kw⟩)).depth=A.depth+1:=by
 first|rfl|simp [Around.under,Code.weight,Code.isCreation,Code.isGuard,Code.isCaller,Code.frames,Code.isFrame,guardIds]
theorem make_units {A:Around}{C:Addr}{us:List Value}{kw:List (Str×Value)}:(A.under (.builtin "type.__call__" ⟨.ref C::us,kw⟩)).units=A.units+1:=by
 first|rfl|simp [Around.under,Code.cUnits,Code.frames,Code.isFrame]
theorem Room.make {k:Nat}{A:Around}(r:Room (k+1) A)(C:Addr)(us:List Value)(kw:List (Str×Value)):Room k (A.under (.builtin "type.__call__" ⟨.ref C::us,kw⟩)):=
 ⟨r.hd,by have:=r.dp;rw [make_depth];omega,by have:=r.un;rw [make_units];omega⟩
theorem Room.depth {k:Nat}{A:Around}(r:Room k A):A.depth<recursionLimit:=by have:=r.dp;omega
theorem Room.units {k:Nat}{A:Around}(r:Room k A):A.units+64<cLine:=by have:=r.un;omega
theorem Room.units0 {k:Nat}{A:Around}(r:Room k A):A.units<cLine:=by have:=r.un;omega
def tNil:TA:=fun _ H Q=>Q [] H
def tCons (ta:TE)(tr:TA):TA:=fun σ H Q=>ta σ H fun x H1=>tr σ H1 fun xs H2=>Q (x::xs) H2
section
variable {X:Cx}{e:Expr}{es:List Expr}{te:TE}{t:TA}{pos:Pos}
theorem qc:PA X [] tNil:=fun _ _ _ _ H Q I h=>Calls.spliced_nil ⟨[],H,I,.nil,h⟩
theorem qa (ha:PE X e te)(B:PA X es t)(L:starEach (e::es) X.env=(false,eval e X.env)::starEach es X.env:=by rfl):PA X (e::es) (tCons te t):=by
 intro pos pins s σ H Q I h;rw [L];show wpAny _ _ (spliced ((false,eval e X.env)::backTo pos (starEach es X.env))) _ _ s;refine Calls.spliced_cons (thn (ha pins s σ H _ I h) fun u s1 ⟨x,H1,M,O,q1⟩=> ?_);exact thn (B pos pins s1 σ H1 _ M q1) fun us s2 ⟨xs,H2,R,U,Y⟩=>⟨x::xs,H2,R,.cons O U,Y⟩
def tTup (t:TA):TE:=fun σ H Q=>t σ H fun xs H1=>xs.length<=sizeLine/\∀p,H1 p=none->Q (.ref p) (upd H1 p (.tup xs))
def tLst (t:TA):TE:=fun σ H Q=>t σ H fun xs H1=>xs.length<=sizeLine/\∀p,H1 p=none->Q (.ref p) (upd H1 p (.lst xs))
theorem qk {x1}(h:PA X es t):PE X (.Tuple es x1 pos) (tTup t):=by
 intro pins s σ H Q I hq;refine wpAny_Tuple_spliced (thn (h pos pins s σ H _ I hq) fun us s1 ⟨xs,H1,B,r,z,q⟩=>⟨by rw [<-r.length];exact z,?_⟩)
 have L:H1 s1.heap.objs.size=none:=B.hok.fresh (Nat.le_refl _);refine⟨.ref s1.heap.objs.size,upd H1 s1.heap.objs.size (.tup xs),B.laid (t':=s1.toks) (fun b u e=>u8 _ e) (Nat.le_refl _) ?_,rfl,q _ L⟩;exact⟨z,us,r,⟨_,ug _ rfl,rfl,_,rfl⟩⟩
theorem Qb (h:PA X es t):PE X (.List es pos) (tLst t):=by
 intro pins s σ H Q I hq;refine wpAny_List_spliced (thn (h pos pins s σ H _ I hq) fun us s1 ⟨xs,H1,B,r,z,q⟩=>⟨by rw [<-r.length];exact z,?_⟩)
 have L:H1 s1.heap.objs.size=none:=B.hok.fresh (Nat.le_refl _);refine⟨.ref s1.heap.objs.size,upd H1 s1.heap.objs.size (.lst xs),B.laid (t':=s1.toks) (fun b u e=>u8 _ e) (Nat.le_refl _) ?_,rfl,q _ L⟩;exact⟨z,us,0,r,ug _ rfl⟩
end
abbrev Sp:=List V->Hp->VK->XK->Prop
abbrev CXT:=List Env->Hp->Shared->XK->Value->Shared->Prop
structure Env0 (P:Program)(w:World)(K:PySem.W.Frag)(mg:Str->Option Value)(base:Heap)(A:Around)(outer:List Env)(s:Shared)(H:Hp):Prop where
 frames:A.frames=some outer
 mod:Mod K mg base
 bs:∀b o,base.get? b=some o->s.heap.get? b=some o/\H b=none
 bsz:base.objs.size<=s.heap.objs.size
 funs:s.heap.FunFrames base outer
 frf:∀b∈frs outer,H b=none
 hok:HOk P w H s.heap
 bare:AllBare s.gens
def CE (outer:List Env)(P:Program)(w:World)(H:Hp)(s:Shared)(Q:VK)(u:Value)(s':Shared):Prop:=
 ∃v H',s'.os=s.os/\AllBare s'.gens/\0<s'.toks/\Un (frs outer) [] H H' s.heap s'.heap/\HOk P w H' s'.heap/\RelV v u/\Q v H'
def CR (CX:CXT)(outer:List Env)(P:Program)(w:World)(H:Hp)(s:Shared)(Q:VK)(E:XK)(r:Result)(s':Shared):Prop:=
 match r with
 | .ok (.ret u)=>CE outer P w H s Q u s'
 | .ok _=>False
 | .error e=>CX outer H s E e s'
structure FnOk (P:Program)(w:World)(K:PySem.W.Frag)(mg:Str->Option Value)(base:Heap)(CX:CXT)(k:Nat)(f:Addr)(fd:FuncData)(ps:List Str)(sp:Sp):Prop where
 len:∀vs H Q E,sp vs H Q E->vs.length=ps.length
 run:∀(A:Around) (outer:List Env) (s:Shared) (H:Hp) (args:Args) (us:List Value) (vs:List V) (Q:VK) (E:XK),Room k A->Env0 P w K mg base A outer s H->BindsTo s fd args (ps.zip us)->Vals vs us->sp vs H Q E->(0<s.toks∨∃x r,ps=x::r/\fd.scope.names.lookup x=some .local)->
  codeAny (model P w) A (.call (.ref f) args) (CR CX outer P w H s Q E) s
theorem Env0.make {P:Program}{w:World}{K:PySem.W.Frag}{mg:Str->Option Value}{base:Heap}{A:Around}{outer:List Env}{s:Shared}{H:Hp}(e:Env0 P w K mg base A outer s H)(C:Addr)(us:List Value)(kw:List (Str×Value)):
  Env0 P w K mg base (A.under (.builtin "type.__call__" ⟨.ref C::us,kw⟩)) outer s H:=⟨by first|exact e.frames|(simpa [Around.under,Code.envs,Code.isFrame,pushEnvs] using e.frames),e.mod,e.bs,e.bsz,e.funs,e.frf,e.hok,e.bare⟩
section
variable {X:Cx}{pins:List (Addr×Obj)}{σ:St}{H:Hp}{s s':Shared}
theorem Inv.env0 (I:Inv X pins σ H s):Env0 X.prog X.w X.K X.mg X.base X.A X.stack s H:=
 ⟨I.ok.frames,I.ok.mod,I.bs,vt I.ok.bsz I.sz,I.stack,I.stkFree,I.hok,I.bare⟩
theorem Inv.after {Q:VK}{u:Value}(I:Inv X pins σ H s)(h:CE X.stack X.prog X.w H s Q u s'):EP X pins σ Q u s':=by
 obtain⟨v,H',os,bare,htk,un,hok,r,q⟩:=h;obtain⟨L,g,d,t,B⟩:=s';obtain rfl:B=s.os:=os;exact⟨v,H',I.call (h':=L) (g':=g) (d':=d) (t':=t) (ch:= []) un hok bare (fun b z=>absurd z (by simp)),r,q⟩
end
def tCall (sp:Sp)(dvs:List V)(E:XK)(t:TA):TE:=fun σ H Q=>t σ H fun vs H1=>sp (vs++dvs) H1 Q E
def tMeth (C:Addr)(m:Str)(sp:Sp)(dvs:List V)(E:XK)(ta:TE)(t:TA):TE:=fun σ H Q=>ta σ H fun x H1=>∃a dx fs,x= .ref a/\H1 a=some (.ins C dx fs)/\fs.lookup m=none/\
 t σ H1 fun vs H2=>sp (x::(vs++dvs)) H2 Q E
def tMake (C:Addr)(sp:Sp)(dvs:List V)(E:XK)(t:TA):TE:=fun σ H Q=>t σ H fun vs H1=>∀x dx,H1 x=none->H1 dx=none->dx≠x->
 sp (.ref x::(vs++dvs)) (upd (upd H1 dx (.own x)) x (.ins C dx [])) (fun v H2=>v= .non/\Q (.ref x) H2) E
def yS (K:PySem.W.Frag)(fd:FuncData)(ps:List Str)(ds:List Value):Prop:=
 ∀(s:Shared) (us:List Value),K.In s.heap->(us++ds).length=ps.length->BindsTo s fd ⟨us,[]⟩ (ps.zip (us++ds))
theorem yS.all {K:PySem.W.Frag}{fd:FuncData}{ps:List Str}(h:∀us:List Value,us.length=ps.length->bindArgs fd ⟨us,[]⟩=pure (ps.zip us)):yS K fd ps []:=fun s us _ B=>by
 rw [uU] at B⊢;exact .of_eq (h us B)
def jo (CX:CXT)(X:Cx)(E:XK):Prop:=∀(pins:List (Addr×Obj)) (σ:St) (H:Hp) (s:Shared) (e:Value) (s':Shared),Inv X pins σ H s->CX X.stack H s E e s'->X.xe e s'
section
variable {X:Cx}{CX:CXT}{k:Nat}{f C:Addr}{fd:FuncData}{ps:List Str}{sp:Sp}{dvs:List V}{ds:List Value}{E:XK}{x m:Str}{p pos apos:Pos}{e o:Expr}{es:List Expr}{ta:TE}{t:TA}
theorem run_fn {pins:List (Addr×Obj)}{σ:St}{H:Hp}{s:Shared}{Q:VK}{us:List Value}{vs:List V}(F:FnOk X.prog X.w X.K X.mg X.base CX k f fd ps sp)(L:Room k X.A)(M:yS X.K fd ps ds)(hd:Vals dvs ds)(hx:jo CX X E)
  (I:Inv X pins σ H s) (r:Vals vs us) (h:sp (vs++dvs) H Q E):wpAny (model X.prog X.w) X.A (call (.ref f) us) (EP X pins σ Q) X.xe s:=by
 have B:Vals (vs++dvs) (us++ds):=r.append hd;have O:(us++ds).length=ps.length:=by rw [<-B.length];exact F.len _ _ _ _ h
 refine wpAny_call (vX (F.run X.A X.stack s H ⟨us,[]⟩ (us++ds) (vs++dvs) Q E L I.env0 (M s us I.kIn O) B h (.inl I.tk)) fun r s' hq=> ?_);cases r with
 |error e=>exact hx pins σ H s e s' I hq
 |ok R=>
  cases R with
  |ret u=>exact I.after hq
  |next=>exact False.elim hq
  |brk=>exact False.elim hq
  |cont=>exact False.elim hq
theorem qt (F:FnOk X.prog X.w X.K X.mg X.base CX k f fd ps sp)(O:Room k X.A)(R:Gl X x)(hm:X.mg x=some (.ref f))(hk:PySem.W.keepIn X.K (.ref f)=true)(U:yS X.K fd ps ds)(hd:Vals dvs ds)(hx:jo CX X E)
  (ha:PA X (e::es) t) (B:(x==("__debug__":Str))=false:=by decide) (Y:starEach (e::es) X.env=(false,eval e X.env)::starEach es X.env:=by rfl) (L:(backTo pos (starEach es X.env)).any (·.1)=false:=by rfl):
  PE X (.Call (.Name x p) (e::es) [] pos) (tCall sp dvs E t):=by
 intro pins s σ H Q I h;refine vI (JE I R hm ?_ B);refine PySem.W.callWith_K (h₀:=X.base) I.ok.mod.kin hk (thn (ha pos pins s σ H _ I h) fun us s1 ⟨vs,H1,M,r,q⟩=>⟨M.kIn,?_⟩) Y L;exact run_fn F O U hd hx M r q
theorem yl {pl:Sem Bool}(R:PE X o ta)(c:Cls X.K C)(hm:Meth X.K C m f)(F:FnOk X.prog X.w X.K X.mg X.base CX k f fd ps sp)(U:Room k X.A)(Y:yS X.K fd ps ds)(hd:Vals dvs ds)(hx:jo CX X E)(ha:PA X (e::es) t)
  (B:starEach (e::es) X.env=(false,eval e X.env)::starEach es X.env:=by rfl) (L:(backTo pos (starEach es X.env)).any (·.1)=false:=by rfl)
  (Z:eval (.Call (.Attribute o m apos) (e::es) [] pos) X.env=(do
   let ov<-eval o X.env
   standAt apos.atName
   let(f,first)<-holding [ov] (getMethod ov m pl)
   callWith pos f first (backTo pos (starEach (e::es) X.env)) (backToKw pos (keywordEach [] X.env))):=by rfl):
  PE X (.Call (.Attribute o m apos) (e::es) [] pos) (tMeth C m sp dvs E ta t):=by
 intro pins s σ H Q I h;refine PySem.W.methodCall_KW (pl:=pl) (thn (R pins s σ H _ I h) fun u s1 ⟨x,H1,M,rx,a,dx,fs,ex,ea,l,q⟩=> ?_) Z;subst ex;obtain rfl:u=Value.ref a:=rx;refine YZ M ea c hm l ?_;refine PySem.W.callWith_K (first:= [.ref a]) (h₀:=X.base) I.ok.mod.kin hm.kp (thn (ha pos pins s1 σ H1 _ M q) fun us s2 ⟨vs,H2,O,r,q2⟩=>⟨O.kIn,?_⟩) B L;exact run_fn (us:= .ref a::us) (vs:= .ref a::vs) F U Y hd hx O (.cons rfl r) q2
theorem pe_meth0 {pl:Sem Bool}(L:PE X o ta)(c:Cls X.K C)(hm:Meth X.K C m f)(F:FnOk X.prog X.w X.K X.mg X.base CX k f fd ps sp)(M:Room k X.A)(O:yS X.K fd ps ds)(hd:Vals dvs ds)(hx:jo CX X E)
  (R:eval (.Call (.Attribute o m apos) [] [] pos) X.env=(do
   let ov<-eval o X.env
   standAt apos.atName
   let(f,first)<-holding [ov] (getMethod ov m pl)
   callWith pos f first (backTo pos (starEach [] X.env)) (backToKw pos (keywordEach [] X.env))):=by rfl):
  PE X (.Call (.Attribute o m apos) [] [] pos) (tMeth C m sp dvs E ta tNil):=by
 intro pins s σ H Q I h;refine PySem.W.methodCall_KW (pl:=pl) (thn (L pins s σ H _ I h) fun u s1 ⟨x,H1,B,U,a,dx,fs,ex,Y,l,q⟩=> ?_) R;subst ex;obtain rfl:u=Value.ref a:=U;refine YZ B Y c hm l ?_;exact PySem.W.callWith_K0 (first:= [.ref a]) B.kIn hm.kp (run_fn (us:= [.ref a]) (vs:= [.ref a]) F M O hd hx B (.cons rfl .nil) q)
structure Mk (K:PySem.W.Frag)(C f:Addr):Prop where
 makes:PySem.W.makesIn K C=true
 init:PySem.W.findIn K (.ref C) "__init__"=some (some (.ref f))
 fn:PySem.W.isFn K (.ref f)=true
 kp:PySem.W.keepIn K (.ref C)=true
theorem run_make {pins:List (Addr×Obj)}{σ:St}{H:Hp}{s:Shared}{Q:VK}{us:List Value}{vs:List V}(M:Mk X.K C f)(F:FnOk X.prog X.w X.K X.mg X.base CX k f fd ps sp)(R:Room (k+1) X.A)(U:yS X.K fd ps ds)(hd:Vals dvs ds)
  (hx:jo CX X E) (I:Inv X pins σ H s) (r:Vals vs us)
  (h:∀x dx,H x=none->H dx=none->dx≠x->sp (.ref x::(vs++dvs)) (upd (upd H dx (.own x)) x (.ins C dx [])) (fun v H2=>v= .non/\Q (.ref x) H2) E):
  wpAny (model X.prog X.w) X.A (call (.ref C) us) (EP X pins σ Q) X.xe s:=by
 have hq:=h (s.heap.objs.size+1) s.heap.objs.size (I.hok.fresh (Nat.le_succ _)) (I.hok.fresh (Nat.le_refl _)) (uA (Uz _));have L:=Inv.made (C:=C) I;have O:Vals (V.ref (s.heap.objs.size+1)::(vs++dvs)) (Value.ref (s.heap.objs.size+1)::(us++ds)):= .cons rfl (r.append hd);have Y:(Value.ref (s.heap.objs.size+1)::us++ds).length=ps.length:=by
  have e:=O.length;rw [F.len _ _ _ _ hq] at e;exact e.symm
 refine wpAny_call (make_map (f:=f) I.kIn M.makes M.init (beq_iff_eq.mp M.fn) (vX (F.run _ X.stack _ _ ⟨Value.ref (s.heap.objs.size+1)::us,[]⟩ (Value.ref (s.heap.objs.size+1)::(us++ds)) _ _ E (R.make C us [])
  (L.env0.make C us []) (U _ (Value.ref (s.heap.objs.size+1)::us) L.kIn Y) O hq (.inl L.tk)) fun r s' B=> ?_))
 cases r with
 |error e=>exact hx pins σ _ _ e s' L B
 |ok Z=>
  cases Z with
  |ret u=>
   obtain⟨v,H',I3,rv,ev,q3⟩:=L.after B;subst ev;exact⟨rv,⟨V.ref (s.heap.objs.size+1),H',I3,rfl,q3⟩⟩
  |next=>exact False.elim B
  |brk=>exact False.elim B
  |cont=>exact False.elim B
theorem pe_make (M:Mk X.K C f)(F:FnOk X.prog X.w X.K X.mg X.base CX k f fd ps sp)(R:Room (k+1) X.A)(U:Gl X x)(hm:X.mg x=some (.ref C))(Y:yS X.K fd ps ds)(hd:Vals dvs ds)(hx:jo CX X E)
  (ha:PA X (e::es) t) (B:(x==("__debug__":Str))=false:=by decide) (Z:starEach (e::es) X.env=(false,eval e X.env)::starEach es X.env:=by rfl) (L:(backTo pos (starEach es X.env)).any (·.1)=false:=by rfl):
  PE X (.Call (.Name x p) (e::es) [] pos) (tMake C sp dvs E t):=by
 intro pins s σ H Q I h;refine vI (JE I U hm ?_ B);refine PySem.W.callWith_K (h₀:=X.base) I.ok.mod.kin M.kp (thn (ha pos pins s σ H _ I h) fun us s1 ⟨vs,H1,O,r,q⟩=>⟨O.kIn,?_⟩) Z L;exact run_make M F R Y hd hx O r q
theorem pe_make0 (M:Mk X.K C f)(F:FnOk X.prog X.w X.K X.mg X.base CX k f fd ps sp)(L:Room (k+1) X.A)(O:Gl X x)(hm:X.mg x=some (.ref C))(R:yS X.K fd ps ds)(hd:Vals dvs ds)(hx:jo CX X E)
  (B:(x==("__debug__":Str))=false:=by decide):PE X (.Call (.Name x p) [] [] pos) (tMake C sp dvs E tNil):=by
 intro pins s σ H Q I h;refine vI (JE I O hm ?_ B);exact PySem.W.callWith_K0 I.kIn M.kp (run_make (us:= []) M F L R hd hx I .nil h)
end
def PK (X:Cx)(kws:List Keyword)(t:TA):Prop:=
 ∀(pos:Pos) (pins:List (Addr×Obj)) (s:Shared) (σ:St) (H:Hp) (Q:List V->Hp->Prop),Inv X pins σ H s->t σ H Q->wpAny (model X.prog X.w) X.A (evalAll ((backToKw pos (keywordEach kws X.env)).map (·.2))) (AP X pins σ Q) X.xe s
section
variable {X:Cx}{CX:CXT}{k:Nat}{f C:Addr}{fd:FuncData}{ps ks:List Str}{sp:Sp}{E:XK}{x m:Str}{p pos apos kpos:Pos}{e o:Expr}{es:List Expr}{kws:List Keyword}{te ta:TE}{t tk:TA}{nm:Option Str}
theorem pk_nil:PK X [] tNil:=fun _ _ _ _ H Q I h=>wpAny_evalAll_nil ⟨[],H,I,.nil,h⟩
theorem pk_cons (ha:PE X e te)(B:PK X kws t):PK X (⟨nm,e,kpos⟩::kws) (tCons te t):=by
 intro pos pins s σ H Q I h;show wpAny _ _ (evalAll ((do let v<-eval e X.env;standAt pos;pure v)::(backToKw pos (keywordEach kws X.env)).map (·.2))) _ _ s
 refine wpAny_evalAll_cons (wpAny_bind (thn (ha pins s σ H _ I h) fun u s1 ⟨x,H1,L,M,q1⟩=>wpAny_bind (wpAny_standAt (u0 ?_))));exact thn (B pos pins s1 σ H1 _ L q1) fun us s2 ⟨xs,H2,O,R,U⟩=>⟨x::xs,H2,O,.cons M R,U⟩
variable {g:List Value->List Value->List Value}{gV:List V->List V->List V}
end
structure qz (N P:List Str)(sc:Scope):Prop where
 kind:sc.kind= .function
 co:sc.isCoroutine=false
 gen:sc.isGenerator=false
 nd:N.Nodup
 pre:N.take P.length=P
 par:∀x∈P,sc.names.lookup x=some .local∨sc.names.lookup x=some .cell
 nofree:∀y∈sc.names,y.2≠ .free
theorem bindL_out {kindOf:Str->Option NameKind}{x:Str}:∀{binds:List (Str×Value)}{m:Str->Option Value},(∀v,(x,v)∉binds)->bindL kindOf binds m x=m x
 | [],_,_=>rfl
 |(n,v)::r,m,h=>by
  unfold bindL;rw [bindL_out fun w B=>h w (u9 _ B)];split
  ·have:x≠n:=by rintro rfl;exact h v ua
   simp [this]
  ·rfl
theorem bindC_out {kindOf:Str->Option NameKind}{x:Str}:∀{binds:List (Str×Value)}{m:Str->Option Value},(∀v,(x,v)∉binds)->bindC kindOf binds m x=m x
 | [],_,_=>rfl
 |(n,v)::r,m,h=>by
  unfold bindC;rw [bindC_out fun w B=>h w (u9 _ B)];split
  ·rfl
  ·have:x≠n:=by rintro rfl;exact h v ua
   simp [this]
theorem bindL_get {kindOf:Str->Option NameKind}{x:Str}{v:Value}:∀{P:List Str}{vs:List Value}{i:Nat}{m:Str->Option Value},P.Nodup->P[i]? =some x->vs[i]? =some v->kindOf x=some .local->
  bindL kindOf (P.zip vs) m x=some v
 | [],_,_,_,_,h,_,_=>by simp at h
 |_::_,[],_,_,_,_,h,_=>by simp at h
 |p::P,w::vs,0,m,nd,h1,h2,hk=>by
  simp at h1 h2;subst h1;subst h2;show bindL kindOf ((p,w)::P.zip vs) m p=_;unfold bindL;rw [bindL_out fun v B=>(List.nodup_cons.mp nd).1 (List.of_mem_zip B).1,if_pos hk];simp
 |p::P,w::vs,i+1,m,nd,h1,h2,hk=>by
  show bindL kindOf ((p,w)::P.zip vs) m x=_;unfold bindL;exact bindL_get (i:=i) (List.nodup_cons.mp nd).2 (by simpa using h1) (by simpa using h2) hk
theorem bindC_get {kindOf:Str->Option NameKind}{x:Str}{v:Value}:∀{P:List Str}{vs:List Value}{i:Nat}{m:Str->Option Value},P.Nodup->P[i]? =some x->vs[i]? =some v->kindOf x≠some .local->
  bindC kindOf (P.zip vs) m x=some v
 | [],_,_,_,_,h,_,_=>by simp at h
 |_::_,[],_,_,_,_,h,_=>by simp at h
 |p::P,w::vs,0,m,nd,h1,h2,hk=>by
  simp at h1 h2;subst h1;subst h2;show bindC kindOf ((p,w)::P.zip vs) m p=_;unfold bindC;rw [bindC_out fun v B=>(List.nodup_cons.mp nd).1 (List.of_mem_zip B).1,if_neg hk];simp
 |p::P,w::vs,i+1,m,nd,h1,h2,hk=>by
  show bindC kindOf ((p,w)::P.zip vs) m x=_;unfold bindC;exact bindC_get (i:=i) (List.nodup_cons.mp nd).2 (by simpa using h1) (by simpa using h2) hk
def yR (N:List Str)(vs:List V):St:=vs.map some++List.replicate (N.length-vs.length) none
def cxOf (CX:CXT)(P:Program)(w:World)(K:PySem.W.Frag)(mg:Str->Option Value)(base:Heap)(N:List Str)(qual:Str)(scope:Scope)(f:Addr)(cd:Value)(A:Around)(outer:List Env)(s:Shared)(H:Hp)(E:XK):Cx where
 prog:=P
 w:=w
 K:=K
 mg:=mg
 base:=base
 A:=A.deeper (envOfC qual scope s.heap.objs.size f cd)
 N:=N
 s₀:=s
 H₀:=H
 env:=envOfC qual scope s.heap.objs.size f cd
 outer:=outer
 stack:=envOfC qual scope s.heap.objs.size f cd::outer
 ex:= []
 calm:=true
 fn:=fun _=>true
 pn:= []
 xe:=fun e s'=>wpAny (model P w) (A.deeper (envOfC qual scope s.heap.objs.size f cd)) (leaving (envOfC qual scope s.heap.objs.size f cd) e) (fun _ s''=>CX outer H s E e s'') (fun e' s''=>CX outer H s E e' s'') s'
theorem cell_has {sc:Scope}{n:Nat}{x:Str}(h:sc.names.lookup x=some .cell):∃c,(cellsFrom n sc.names []).lookup x=some c:=by
 have q:=PySem.W.cellsFrom_some sc.names n [] (.inl h);exact Option.isSome_iff_exists.mp q
theorem inv_start {CX:CXT}{P:Program}{w:World}{K:PySem.W.Frag}{mg:Str->Option Value}{base:Heap}{N ps:List Str}{qual:Str}{scope:Scope}{f:Addr}{R:Value}{A:Around}{outer:List Env}{s s1:Shared}{H:Hp}{E:XK}{us:List Value}{vs:List V}
  (S:qz N ps scope) (hd:A.handled=none) (B:Env0 P w K mg base A outer s H) (hl:vs.length=ps.length) (r:Vals vs us)
  (x:InCallC s s.heap.objs.size (bindL (envOfC qual scope s.heap.objs.size f R).kindOf (ps.zip us) fun _=>none) (cellsFrom (s.heap.objs.size+1) scope.names []) (bindC (envOfC qual scope s.heap.objs.size f R).kindOf (ps.zip us) fun _=>none) s1) (U:0<s1.toks):
  Inv (cxOf CX P w K mg base N qual scope f R A outer s H E) [] (yR N vs) H s1:=by
 have Y:ps.length<=N.length:=by have:=congrArg List.length S.pre;rw [uV] at this;omega
 obtain⟨h1,tk,rfl,hk⟩:=x.done;have I:∀b:Addr,b∉(cxOf CX P w K mg base N qual scope f R A outer s H E).ex:=fun b z=>absurd (show b∈([]:List Addr) from z) (by simp)
 refine⟨⟨B.mod,S.kind,rfl,rfl,Nat.le_refl _,fun y z c h1 h2=> ?_,fun y L=> ?_,fun y c _ h=> ?_,fun _=>hd,Around.frames_deeper B.frames,.inr ⟨rfl,rfl⟩,fun b z=>absurd z (I b),B.bs,B.bsz,fun b _ _=>I b,fun b z=>absurd z (I b),B.funs,B.frf⟩,
  rfl,B.bare,Un.kept hk,⟨_,x.toInCall.ns,fun i y v h1 h2 h3=> ?_⟩,fun y c h=>⟨_,x.cell y c h⟩,B.hok.fresh (Nat.le_refl _),fun y c h=> ?_,fun p M=>absurd (show p∈([]:List (Addr×Obj)) from M) (by simp),B.hok.kept hk,?_,U⟩
 ·exact name_of_addr x.apart (vo h1) (vo h2)
 ·have L:scope.names.lookup y=some .cell∨scope.names.lookup y=some .free:=L;rcases L with L|L
  ·exact cell_has L
  ·exact absurd rfl (S.nofree _ (vo L))
 ·exact vB (x.above y c (vo h))
 ·have hi:i<vs.length:=by
   unfold yR at h2;by_cases hi:i<vs.length
   ·exact hi
   ·rw [Ua (by simpa using hi)] at h2
    rw [List.getElem?_replicate] at h2;split at h2<;>cases h2
  have ha:vs[i]? =some v:=by
   unfold yR at h2;rw [Ub (by simpa using hi),um] at h2
   cases e:vs[i]? with
   |none=>rw [e] at h2;cases h2
   |some a=>rw [e] at h2;cases h2;rfl
  obtain⟨u,hu,Z⟩:=r.get ha;have M:ps[i]? =some y:=by
   rw [<-S.pre,List.getElem?_take_of_lt (by omega)];exact h1
  have O:ps.Nodup:=by rw [<-S.pre];exact S.nd.sublist (List.take_sublist _ _)
  refine⟨u,Z,?_⟩;rcases S.par y (ui M) with k|k
  ·exact .inl ⟨k,bindL_get O M hu k⟩
  ·obtain⟨c,e⟩:=cell_has (n:=s.heap.objs.size+1) k;refine .inr ⟨.inl k,c,e,?_⟩;have q:=x.cell y c e;rw [bindC_get O M hu (by show scope.names.lookup y≠_;rw [k];decide)] at q
   exact q
 ·exact B.hok.fresh (vB (x.above y c (vo h)))
 ·unfold yR;show _=N.length;rw [ul,ue,List.length_replicate];omega
theorem bindParams1 {M:Model}{A:Around}{E:Value->Shared->Prop}{s₀ s:Shared}{m L:Str->Option Value}{env:Env}(f:Str×Value->PUnit->Sem (ForInStep PUnit))(Y:∀n v u,f (n,v) u=(do storeName env n v;pure (.yield ⟨⟩)))(B:env.scope.kind= .function)
  (n:Str) (v:Value) (r:List (Str×Value)) (Q:PUnit->Shared->Prop) (x:InCallC s₀ env.locals m env.cells L s) (O:env.kindOf n=some .local)
  (R:∀x∈r,env.kindOf x.1=some .local∨(env.kindOf x.1=some .cell/\(env.cells.lookup x.1).isSome=true))
  (h:∀s',InCallC s₀ env.locals (bindL env.kindOf ((n,v)::r) m) env.cells (bindC env.kindOf ((n,v)::r) L) s'->0<s'.toks->Q ⟨⟩ s'):wpAny M A (forIn ((n,v)::r) ⟨⟩ f) Q E s:=by
 rw [List.forIn_cons,Y];refine wpAny_bind (wpAny_bind (wpAny_storeName_local O x.toInCall.ns (fun h' U I=>u0 ?_) (by rw [B];rfl)))
 have x1:InCallC s₀ env.locals (fun y=>if y=n then some v else m y) env.cells L {s with heap:=h',toks:=s.toks+1}:=by
  refine⟨⟨?_,U,fun b o e=> ?_,x.toInCall.fresh⟩,fun k c Z=> ?_,x.apart,x.above⟩
  ·obtain⟨h₁,tk,rfl⟩:=x.toInCall.same;exact⟨h',_,rfl⟩
  ·have:=x.toInCall.keep b o e;exact I.extBut b o (uA (Nat.lt_of_lt_of_le (uj e) x.toInCall.fresh)) (x.toInCall.keep b o e)
  ·exact(x.cell k c Z).sameBut I (Nat.ne_of_gt (x.above k c (mem_of_lookup Z)))
 refine uT (n:=1) (Nat.succ_le_succ (uG _)) (wpAny_bindParams f Y B r _ _ _ _ x1 R fun s' y h1=>h s' ?_ h1);unfold bindL bindC;rw [if_pos O,if_pos O];exact y
theorem newEnv_tk {M:Model}{A:Around}{E:Value->Shared->Prop}{s:Shared}{scope:Scope}{globals:Addr}{binds:List (Str×Value)}{qual:Str}{func:Option Addr}{B:Value}{builtins:Addr}{Q:Env->Shared->Prop}
  (L:scope.kind= .function)
  (O:∀x∈binds,scope.names.lookup x.1=some .local∨(scope.names.lookup x.1=some .cell/\((cellsFrom (s.heap.objs.size+1) scope.names []).lookup x.1).isSome=true))
  (htk:0<s.toks∨∃n v r,binds=(n,v)::r/\scope.names.lookup n=some .local)
  (hq:∀en,en=newEnv scope s.heap.objs.size globals (cellsFrom (s.heap.objs.size+1) scope.names []) qual func B none builtins->
   ∀s',InCallC s en.locals (bindL en.kindOf binds fun _=>none) en.cells (bindC en.kindOf binds fun _=>none) s'->0<s'.toks->Q en s'):
  wpAny M A (newFunctionEnv scope globals [] binds qual func B none builtins) Q E s:=by
 rcases htk with htk|⟨n,v,r,rfl,U⟩
 ·exact uT (n:=1) htk (wpAny_newFunctionEnv_cells L O fun env Y s' x h1=>hq env Y s' x h1)
 ·simp only [newFunctionEnv,Option.isSome_none,uM,U0];refine wpAny_bind (wpAny_alloc ?_);refine wpAny_bind (wpAny_layCells _ (fun name kind cells=>by cases R:kind==NameKind.cell<;>simp [R]) _ _ _ _ ?_)
  have I:=cellsFrom_ok scope.names (s.heap.push {cls:= .type "frame",data:= .dict #[]}) (s.heap.objs.size+1) [] ⟨fun _ _ hm=>(nomatch hm),List.Pairwise.nil⟩ (by rw [vN];exact Nat.le_refl _);rw [vN] at I;rw [show({s with heap:=s.heap.push {cls:= .type "frame",data:= .dict #[]}}:Shared).heap.objs.size=s.heap.objs.size+1 from vN ..]
  exact wpAny_bind (bindParams1 (s₀:=s) (env:=newEnv scope s.heap.objs.size globals (cellsFrom (s.heap.objs.size+1) scope.names []) qual func B none builtins)
   _ (fun _ _ _=>rfl) L n v r _
   ⟨⟨⟨_,_,by rfl⟩,(Heap.Ns.new s.heap (.type "frame")).keeps (pushCells_keeps _ _),fun b o e=>pushCells_keeps _ _ b o (u8 _ e),Nat.le_refl _⟩,
    fun m c Z=>(I.empty m c (mem_of_lookup Z)).1,I.apart,fun n c hm=>(I.empty n c hm).2⟩
   U (fun y hy=>O y (u9 _ hy)) fun s' x h1=>u0 (hq _ rfl s' x h1))
theorem fn_of {CX:CXT}{P:Program}{w:World}{K:PySem.W.Frag}{mg:Str->Option Value}{base:Heap}{k:Nat}{f:Addr}{name qual:Str}{B:Arguments}{L:List Stmt}{scope:Scope}{dV kV doc pm cdv ct oc:Value}{an od:Option Addr}
  {osl:Array (Option Value)}{N ps:List Str}{sp:Sp} (lk:K.lookup f=some ⟨oc,od,.func (PySem.W.fnOf name qual B L scope dV kV doc pm an cdv ct),osl⟩) (ab:PySem.W.codeIn K cdv qual=true) (S:qz N ps scope)
  (len:∀vs H Q E,sp vs H Q E->vs.length=ps.length)
  (M:∀(A:Around) (outer:List Env) (s:Shared) (H:Hp) (vs:List V) (Q:VK) (E:XK),Room k (A.deeper (envOfC qual scope s.heap.objs.size f cdv))->sp vs H Q E->
   ∃t,PSs (cxOf CX P w K mg base N qual scope f cdv A outer s H E) L t/\t {nx:=fun _ H'=>Q .non H',rt:=Q} (yR N vs) H):
  FnOk P w K mg base CX (k+1) f (PySem.W.fnOf name qual B L scope dV kV doc pm an cdv ct) ps sp:=by
 refine⟨len,fun A outer s H args us vs Q E hr U hb r Y htk=> ?_⟩;have hl:=len _ _ _ _ Y;have KX:K.In s.heap:=U.mod.kin.keeps fun b o e=>(U.bs b o e).1;have lim:s.heap.NoLimit:=U.mod.nolimit.keeps fun b o e=>(U.bs b o e).1;have O:∀y∈ps.zip us,scope.names.lookup y.1=some .local∨(scope.names.lookup y.1=some .cell/\((cellsFrom (s.heap.objs.size+1) scope.names []).lookup y.1).isSome=true):=fun⟨n,v⟩ hy=>by
  rcases S.par n (List.of_mem_zip hy).1 with q|q
  ·exact .inl q
  ·exact .inr ⟨q,PySem.W.cellsFrom_some _ _ _ (.inl q)⟩
 have Z:0<s.toks∨∃n v r,ps.zip us=(n,v)::r/\scope.names.lookup n=some .local:=by
  rcases htk with h|⟨y,q,e,hy⟩
  ·exact .inl h
  ·have:us.length=ps.length:=by rw [<-r.length];exact hl
   subst e
   match us,this with
   |u::us',_=>exact .inr ⟨y,u,q.zip us',rfl,hy⟩
 refine codeAny_call_function hr.depth (KX _ _ lk) rfl S.co S.gen rfl (PySem.W.codeRec_of KX ab) (hb _ _ _ _ ?_);refine newEnv_tk S.kind O Z fun env he s1 x ac=> ?_;subst he;refine⟨lim.keeps x.toInCall.keep,codeAny_func ?_⟩;obtain⟨t,ht,hq⟩:=M A outer s H vs Q E (hr.deeper _) Y;have I:Inv (cxOf CX P w K mg base N qual scope f cdv A outer s H E) [] (yR N vs) H s1:=inv_start S hr.hd U hl r x ac;refine vx (ht [] s1 (yR N vs) H _ I hq) (fun fl s' R=> ?_) fun e s' R=>R;have aa:∀{σ':St}{H':Hp}{v:V}{u:Value},Inv (cxOf CX P w K mg base N qual scope f cdv A outer s H E) [] σ' H' s'->RelV v u->Q v H'->CE outer P w H s Q u s':=
  fun{σ' H' v u} J rv q=>⟨v,H',J.os,J.bare,J.tk,J.base,J.hok,rv,q⟩
 cases fl with
 |ret u=>
  obtain⟨v,σ',H',J,rv,q⟩:=R;exact aa J rv q
 |next=>
  obtain⟨σ',H',J,q⟩:=R;exact aa (v:=V.non) (u:=Value.none) J rfl q
 |brk=>
  obtain⟨_,_,_,q⟩:=R;exact False.elim q
 |cont=>
  obtain⟨_,_,_,q⟩:=R;exact False.elim q
section
variable {X:Cx}{x:Str}{p pos:Pos}{e:Expr}{es:List Expr}{t:TA}{id T:String}{r:List V->Hp->VK->Prop}
def tCB (r:List V->Hp->VK->Prop)(t:TA):TE:=fun σ H Q=>t σ H fun vs H1=>r vs H1 Q
theorem qp (M:yx X (.builtin id) r)(O:Gl X x)(hm:X.mg x=none)(R:bootBuiltins x=some (.builtin id))(ha:PA X (e::es) t)(hn:x≠"__name__":=by decide)(B:(x==("__debug__":Str))=false:=by decide)
  (U:starEach (e::es) X.env=(false,eval e X.env)::starEach es X.env:=by rfl) (L:(backTo pos (starEach es X.env)).any (·.1)=false:=by rfl):PE X (.Call (.Name x p) (e::es) [] pos) (tCB r t):=by
 intro pins s σ H Q I h;refine vI (j5 I O hm R ?_ hn B);exact PyProof.Rows.callWith_builtin1 (thn (ha pos pins s σ H _ I h) fun us s1 ⟨vs,H1,Y,Z,q1⟩=>M pins s1 σ H1 vs us Q Y Z q1) U L
theorem qN (M:yx X (.type T) r)(O:Gl X x)(hm:X.mg x=none)(R:bootBuiltins x=some (.type T))(ha:PA X (e::es) t)(hn:x≠"__name__":=by decide)(B:(x==("__debug__":Str))=false:=by decide)
  (U:starEach (e::es) X.env=(false,eval e X.env)::starEach es X.env:=by rfl) (L:(backTo pos (starEach es X.env)).any (·.1)=false:=by rfl):PE X (.Call (.Name x p) (e::es) [] pos) (tCB r t):=by
 intro pins s σ H Q I h;refine vI (j5 I O hm R ?_ hn B);exact vD (thn (ha pos pins s σ H _ I h) fun us s1 ⟨vs,H1,Y,Z,q1⟩=>M pins s1 σ H1 vs us Q Y Z q1) U L
end
end L2
namespace HT
open PySem PyProof.Rows
section
variable {prog:Program}{w:World}{A:Around}{E:Value->Shared->Prop}{s:Shared}
theorem cat_tup {t b:Addr}{vs ws:List Value}{Q:Value->Shared->Prop}(ht:IsTup s.heap t vs.toArray)(hb:IsTup s.heap b ws.toArray)(Z:vs≠ [])
  (h1:ws= []->Q (.ref t) s) (h2:ws≠ []->Q (.ref s.heap.objs.size) {s with heap:=s.heap.push {cls:= .type "tuple",data:= .seq (vs++ws).toArray}})
  (hsz:vs.length+ws.length<=sizeLine):wpAny (model prog w) A (binaryOp .Add (.ref t) (.ref b)) Q E s:=by
 obtain⟨⟨cls,dd,data,sl⟩,R,hc,n,hd⟩:=id ht;obtain⟨⟨aa,I,Y,L⟩,B,M,n2,O⟩:=id hb;simp only at hc hd M O;subst hc hd M O;have e:vs.toArray++ws.toArray=(vs++ws).toArray:=by simp
 by_cases U:ws= []
 ·exact concat_meets ⟨_,R,rfl⟩ ⟨_,B,rfl⟩ noFill_tuple_add seq_tuple_add PySem.F.slot_tuple_add Uq (Uj _ _)
   (tuple_addW1 t b vs.toArray ws.toArray n n2 dd I sl L (by simpa using Z) (by simp [U])) ⟨R,B,h1 U⟩
 ·refine concat_meets ⟨_,R,rfl⟩ ⟨_,B,rfl⟩ noFill_tuple_add seq_tuple_add PySem.F.slot_tuple_add Uq (Uj _ _)
   (tuple_addW2 t b vs.toArray ws.toArray n n2 dd I sl L (by simpa using Z) (by simpa using U) (by rw [ud,ud];exact hsz)) ⟨R,B,?_⟩
  rw [e];exact h2 U
def sIx (n d:Nat):Option Int->Nat
 |none=>d
 |some v=>if v<0 then(v+(n:Int)).toNat else min v.toNat n
theorem sIx_none (n d:Nat):sIx n d none=d:=rfl
theorem sIx_nat (n d k:Nat):sIx n d (some (k:Int))=min k n:=by
 show(if(k:Int)<0 then((k:Int)+(n:Int)).toNat else min (k:Int).toNat n)=min k n
 rw [if_neg (by omega),vC]
theorem sIx_le (n d:Nat)(hd:d<=n)(o:Option Int):sIx n d o<=n:=by
 cases o with
 |none=>exact hd
 |some v=>
  show(if v<0 then(v+(n:Int)).toNat else min v.toNat n)<=n
  by_cases B:v<0
  ·rw [if_pos B];omega
  ·rw [if_neg B];exact Nat.min_le_right _ _
theorem clip_eq (v:Int)(n d:Nat):(if v<0 then max (v+(n:Int)) 0 else min v (n:Int))=((sIx n d (some v):Nat):Int):=by
 show(if v<0 then max (v+(n:Int)) 0 else min v (n:Int))=(((if v<0 then(v+(n:Int)).toNat else min v.toNat n):Nat):Int)
 by_cases B:v<0
 ·simp only [if_pos B];omega
 ·simp only [if_neg B];omega
theorem adjust_gen (lo hi:Option Int)(n:Nat):Builtin.Slice.sliceAdjust lo hi 1 (n:Int)=(((sIx n 0 lo:Nat):Int),((sIx n n hi:Nat):Int)):=by
 have h1:¬((1:Int)<0):=by omega
 unfold Builtin.Slice.sliceAdjust;simp only [h1,U0];refine Prod.ext ?_ ?_
 ·cases lo with
  |none=>rfl
  |some v=>exact clip_eq v n 0
 ·cases hi with
  |none=>rfl
  |some v=>exact clip_eq v n n
theorem places_gen (i j:Nat):Builtin.Slice.slicePlaces (i:Int) (j:Int) 1=j-i:=by
 unfold Builtin.Slice.slicePlaces;have h1:(1:Int)>0:=by omega
 simp only [h1,if_true,Int.ediv_one];split<;>omega
theorem Jr {v:Value}{o:Option Int}{Q:Option Int->Shared->Prop}(p:IsPart v o)(h:Q o s):wpAny (model prog w) A (Builtin.Slice.slicePartIndex v) Q E s:=by
 cases p with
 |none=>exact slicePart_none h
 |int i t=>exact slicePart_int h
theorem yu {sl:Addr}{L M:Value}{lo hi:Option Int}{n:Nat}{Q:Int×Int×Nat->Shared->Prop}(O:s.heap.IsSliceOf sl L M .none)(pl:IsPart L lo)(pu:IsPart M hi)
  (h:Q (((sIx n 0 lo:Nat):Int),1,sIx n n hi-sIx n 0 lo) s):wpAny (model prog w) A (Builtin.Slice.sliceApplied (.ref sl) (pure (n:Int))) Q E s:=by
 obtain⟨os,B,R,I⟩:=id O;unfold Builtin.Slice.sliceApplied Builtin.Slice.sliceFields;refine wpAny_bind (wpAny_bind (vy B I (x:=L) rfl (wpAny_bind (vy B I (x:=M) rfl (wpAny_bind (vy B I (x:= .none) rfl (u0 ?_)))))));refine wpAny_bind (slicePart_none ?_);show wpAny _ _ (if((1:Int)==0)=true then _ else _) _ _ s
 rw [if_neg (by decide)]
 refine wpAny_bind (Jr pl (wpAny_bind (Jr pu (wpAny_bind (u0 ?_)))));show wpAny _ _ (match Builtin.Slice.sliceAdjust lo hi 1 (n:Int) with|(lo,hi)=>pure (lo,(1:Int),Builtin.Slice.slicePlaces lo hi 1)) _ _ s
 rw [adjust_gen lo hi n];show wpAny _ _ (pure (((sIx n 0 lo:Nat):Int),(1:Int),Builtin.Slice.slicePlaces ((sIx n 0 lo:Nat):Int) ((sIx n n hi:Nat):Int) 1)) _ _ s;rw [places_gen];exact u0 h
theorem pick_gen (xs:Array Value)(i k:Nat):((List.range k).filterMap fun(m:Nat)=>xs[((i:Int)+(m:Int)*1).toNat]?).toArray=((xs.toList.drop i).take k).toArray:=by
 have e:(fun(m:Nat)=>xs[((i:Int)+(m:Int)*1).toNat]?)=fun m=>xs[i+m]? :=by
  funext m
  have:((i:Int)+(m:Int)*1).toNat=i+m:=by omega
  rw [this]
 rw [e];have:=pick_run xs i k;rw [List.filterMap_map] at this;have B:((fun x=>xs[x]?)∘fun x=>i+x)=fun m=>xs[i+m]? :=rfl;rw [B] at this;rw [this]
theorem getItem_tuple_cut {t sl:Addr}{B:Array Value}{Y Z:Value}{lo hi:Option Int}{Q:Value->Shared->Prop}(L:IsTup s.heap t B)(hs:s.heap.IsSliceOf sl Y Z .none)(pl:IsPart Y lo)(pu:IsPart Z hi)
  (hw:¬(sIx B.size 0 lo=0/\sIx B.size B.size hi=B.size))
  (h:Q (.ref s.heap.objs.size) {s with heap:=s.heap.push {cls:= .type "tuple",data:= .seq ((B.toList.drop (sIx B.size 0 lo)).take (sIx B.size B.size hi-sIx B.size 0 lo)).toArray}})
  (hsz:B.size<=sizeLine):wpAny (model prog w) A (getItem (.ref t) (.ref sl)) Q E s:=by
 have I:sizeOk (.seq ((B.toList.drop (sIx B.size 0 lo)).take (sIx B.size B.size hi-sIx B.size 0 lo)).toArray):=by
  show((B.toList.drop (sIx B.size 0 lo)).take (sIx B.size B.size hi-sIx B.size 0 lo)).toArray.size<=sizeLine;rw [ud,uV,List.length_drop,vd];omega
 have hj:sIx B.size B.size hi<=B.size:=sIx_le _ _ (Nat.le_refl _) hi;obtain⟨os,M,O,aa⟩:=id hs;have R:s.TypeIs (.ref sl) "slice":=⟨os,M,O⟩;unfold getItem
 try with_reducible refine uP ?_
 first|refine wpAny_bind (u0 ?_)|skip
 refine wpAny_bind (Ut L.typeIs (by decide) ?_)
 refine wpAny_bind (uw (name:=Str.ofString "__getitem__") L.typeIs vp
  (uq vp L.typeIs entry_tuple_getitem ?_ (args_tuple_getitem _ _)))
 show wpAny _ _ (Builtin.Tuple.tupleItemsOf (.ref t)>>=_) _ _ s;refine wpAny_bind (tupleItemsOf_ L ?_);refine wpAny_bind (Uk R ?_);rw [if_pos (by decide)]
 refine wpAny_bind (yu hs pl pu ?_);have U:¬((((sIx B.size 0 lo:Nat):Int)==0&&(1:Int)==1&&(sIx B.size B.size hi-sIx B.size 0 lo)==B.size)=true):=by
  intro q;rw [uh,uh] at q;have q1:((sIx B.size 0 lo:Nat):Int)=0:=eq_of_beq q.1.1;have q2:sIx B.size B.size hi-sIx B.size 0 lo=B.size:=eq_of_beq q.2;exact hw ⟨by omega,by omega⟩
 show wpAny _ _ (if(((sIx B.size 0 lo:Nat):Int)==0&&(1:Int)==1&&(sIx B.size B.size hi-sIx B.size 0 lo)==B.size)=true then _ else _) _ _ s
 rw [if_neg U,pick_gen]
 first
  |exact wpAny_bind (m:=Builtin.Tuple.tupleExact _) (uD (u0 ⟨_,rfl,u0 h⟩) I)
  |exact wpAny_bind (m:=Builtin.Tuple.tupleExact _) (uD (wpAny_bind (u0 (u0 ⟨_,rfl,u0 h⟩))) I)
  |exact wpAny_bind (wpAny_bind (m:=Builtin.Tuple.tupleExact _) (uD (u0 (u0 ⟨_,rfl,u0 h⟩)) I))
  |exact wpAny_bind (wpAny_bind (m:=Builtin.Tuple.tupleExact _) (uD (u0 ⟨_,rfl,u0 h⟩) I))
end
end HT
namespace L2
open PySem PySem.Spec PyProof.Rows
abbrev TO:=St->Hp->(Option Int->Hp->Prop)->Prop
def PO (X:Cx)(e:Option Expr)(t:TO):Prop:=
 ∀(pins:List (Addr×Obj)) (s:Shared) (σ:St) (H:Hp) (Q:Option Int->Hp->Prop),Inv X pins σ H s->t σ H Q->
  wpAny (model X.prog X.w) X.A (evalPart e X.env) (fun u s'=>∃o H',Inv X pins σ H' s'/\IsPart u o/\Q o H') X.xe s
def tNoPart:TO:=fun _ H Q=>Q none H
def tPart (t:TE):TO:=fun σ H Q=>t σ H fun x H1=>∃i,x= .int i/\Q (some i) H1
theorem intsAre_of {ns:List Int}:∀{us:List Value},Vals (ns.map V.int) us->IntsAre us ns:=by
 induction ns with
 |nil=>intro us r;rw [vJ] at r;cases r;exact .nil
 |cons n ns B=>
  intro us r;rw [uo] at r;cases r with
  |cons I L=>
   obtain⟨t,e⟩:=I;subst e;exact .cons n t (B L)
section
variable {X:Cx}{e:Expr}{te:TE}{lo hi:Option Expr}{tl th:TO}{pos p2:Pos}
theorem J6:PO X none tNoPart:=by
 intro pins s σ H Q I h;rw [evalPart_none];exact u0 ⟨none,H,I,.none,h⟩
theorem JU (h:PE X e te):PO X (some e) (tPart te):=by
 intro pins s σ H Q I B;rw [evalPart_some];refine thn (h pins s σ H _ I B) fun u s1 ⟨x,H1,L,M,q1⟩=> ?_;obtain⟨i,rfl,q⟩:=q1;obtain⟨t,rfl⟩:=M;exact⟨some i,H1,L,.int i t,q⟩
def SlR (X:Cx)(r:V->Option Int->Option Int->Hp->VK->Prop):Prop:=
 ∀(pins:List (Addr×Obj)) (s:Shared) (σ:St) (H:Hp) (x:V) (v vl vu:Value) (lo hi:Option Int) (sl:Addr) (Q:VK),Inv X pins σ H s->RelV x v->s.heap.IsSliceOf sl vl vu .none->IsPart vl lo->IsPart vu hi->r x lo hi H Q->
  ∃T id,typeLookup (.type T) "__getitem__"=pure (some (.builtin id))/\s.TypeIs v T/\wpAny (model X.prog X.w) X.A (getItem v (.ref sl)) (EP X pins σ Q) X.xe s
def tSl (r:V->Option Int->Option Int->Hp->VK->Prop)(te:TE)(tl th:TO):TE:=fun σ H Q=>te σ H fun x H1=>tl σ H1 fun l H2=>th σ H2 fun u H3=>r x l u H3 Q
theorem jp {r:V->Option Int->Option Int->Hp->VK->Prop}(R:SlR X r)(U:PE X e te)(Y:PO X lo tl)(hu:PO X hi th):PE X (.Subscript e (.Slice lo hi none p2) pos) (tSl r te tl th):=by
 intro pins s σ H Q I h;refine Subscript_ (thn (U pins s σ H _ I h) fun v s1 ⟨x,H1,Z,r1,q1⟩=> ?_);refine wpAny_Slice (thn (Y pins s1 σ H1 _ Z q1) fun L s2 ⟨l,H2,I2,pl,q2⟩=>thn (hu pins s2 σ H2 _ I2 q2) fun M B ⟨u,O,I3,pu,q3⟩=> ?_);rw [evalPart_none];refine u0 ?_;have I4:Inv X pins σ O {B with heap:=B.heap.push {cls:= .type "slice",data:= .fields #[L,M,.none]}}:=I3.kept (t':=B.toks) fun b ob q=>u8 _ q
 obtain⟨T,id,hT,ht,hg⟩:=R pins {B with heap:=B.heap.push {cls:= .type "slice",data:= .fields #[L,M,.none]}} σ O x v L M l u B.heap.objs.size Q I4 r1 (Heap.IsSliceOf.new ..) pl pu q3
 show wpAny (model X.prog X.w) X.A (subscriptTail e (.Slice lo hi none p2) v (.ref B.heap.objs.size)) (EP X pins σ Q) X.xe {B with heap:=B.heap.push {cls:= .type "slice",data:= .fields #[L,M,.none]}}
 exact tail_any (ops:= [.ref B.heap.objs.size,v]) ht hT hg (by with_unfolding_all rfl)
def cutV (xs:List V)(lo hi:Option Int):List V:=(xs.drop (HT.sIx xs.length 0 lo)).take (HT.sIx xs.length xs.length hi-HT.sIx xs.length 0 lo)
theorem Ja (xs:List V)(lo hi:Option Int):(cutV xs lo hi).length<=xs.length:=by
 unfold cutV;rw [uV,List.length_drop];omega
def rSlT (K:PySem.W.Frag):V->Option Int->Option Int->Hp->VK->Prop:=fun x lo hi H Q=>∃a xs,x= .ref a/\SqT K H a xs/\
 ¬(HT.sIx xs.length 0 lo=0/\HT.sIx xs.length xs.length hi=xs.length)/\∀p,H p=none->Q (.ref p) (upd H p (.tup (cutV xs lo hi)))
theorem sl_tup:SlR X (rSlT X.K):=by
 intro pins s σ H x v U Y lo hi sl Q I M O pl pu h;obtain⟨a,xs,rfl,hx,R,q⟩:=h;cases M;obtain⟨its,r,L,hz⟩:=I.tuple hx;have B:its.toArray.size=xs.length:=by rw [ud];exact r.length.symm
 refine⟨"tuple",_,PyProof.Rows.slot_tuple_getitem.lookup,L.typeIs,?_⟩;refine HT.getItem_tuple_cut L O pl pu (by rw [B];exact R) ?_ (by rw [B];exact hz)
 rw [B];refine⟨.ref s.heap.objs.size,_,I.laid (t':=s.toks) (o:= .tup (cutV xs lo hi)) (fun b Z q=>u8 _ q) (Nat.le_refl _) ?_,rfl,q _ (I.hok.fresh (Nat.le_refl _))⟩;exact⟨vt (Ja xs lo hi) hz,_,(r.drop (HT.sIx xs.length 0 lo)).take (HT.sIx xs.length xs.length hi-HT.sIx xs.length 0 lo),IsTup.new _ _⟩
def rCatT (K:PySem.W.Frag):R2:=fun x y H Q=>∃a b xs ys,x= .ref a/\y= .ref b/\SqT K H a xs/\SqT K H b ys/\xs≠ []/\xs.length+ys.length<=sizeLine/\
 (ys= []->Q (.ref a) H)/\(ys≠ []->∀p,H p=none->Q (.ref p) (upd H p (.tup (xs++ys))))
theorem Vals.nil_iff {xs:List V}{us:List Value}(r:Vals xs us):us= []↔xs= []:=by
 cases r with
 |nil=>simp
 |cons _ _=>simp
theorem op_catT:OpR X (binaryOp .Add) (rCatT X.K):=by
 intro pins s σ H x y v u Q I O R h;obtain⟨a,b,xs,ys,rfl,rfl,ha,U,hx,hz,q1,Y⟩:=h;cases O;cases R;obtain⟨its,L,Z,_⟩:=I.tuple ha;obtain⟨M,B,p2,_⟩:=I.tuple U;refine HT.cat_tup Z p2 (fun z=>hx (L.nil_iff.mp z)) (fun z=>⟨.ref a,H,I,rfl,q1 (B.nil_iff.mp z)⟩) (fun z=> ?_) (by rw [<-L.length,<-B.length];exact hz)
 refine⟨.ref s.heap.objs.size,_,I.laid (t':=s.toks) (o:= .tup (xs++ys)) (fun b ob q=>u8 _ q) (Nat.le_refl _) ?_,rfl,Y (fun w=>z (B.nil_iff.mpr w)) _ (I.hok.fresh (Nat.le_refl _))⟩;exact⟨by rw [ul];exact hz,_,L.append B,IsTup.new _ _⟩
end
def ixN (n:Nat)(i:Int):Option Nat:=if 0<=i then(if i<n then some i.toNat else none) else if-(n:Int)<=i then some (i+n).toNat else none
def atI {α:Type}(xs:List α)(i:Int):Option α:=(ixN xs.length i).bind fun j=>xs[j]?
theorem ixN_seq {n:Nat}{i:Int}{j:Nat}(h:ixN n i=some j):seqIndex? i n=some j/\j<n/\ -(n:Int)<=i/\i<n:=by
 unfold ixN at h;by_cases B:0<=i
 ·rw [if_pos B] at h;by_cases h1:i<n
  ·rw [if_pos h1] at h;have e:i.toNat=j:=uL h;exact⟨by rw [seqIndex_of B h1,e],by omega,by omega,h1⟩
  ·rw [if_neg h1] at h;cases h
 ·rw [if_neg B] at h;by_cases h1: -(n:Int)<=i
  ·rw [if_pos h1] at h;have e:(i+n).toNat=j:=uL h;exact⟨by rw [seqIndex_neg (by omega) h1,e],by omega,h1,by omega⟩
  ·rw [if_neg h1] at h;cases h
theorem Jz {α:Type}{xs:List α}{i:Int}{v:α}(h:atI xs i=some v):∃j,seqIndex? i xs.length=some j/\xs[j]? =some v/\j<xs.length/\ -(xs.length:Int)<=i/\i<xs.length:=by
 unfold atI at h;cases e:ixN xs.length i with
 |none=>rw [e] at h;cases h
 |some j=>
  rw [e] at h;obtain⟨h1,h2,B,h4⟩:=ixN_seq e;exact⟨j,h1,h,h2,B,h4⟩
theorem qm {α:Type}{xs:List α}{j:Nat}{v:α}(h:xs[j]? =some v):atI xs (j:Int)=some v:=by
 have B:j<xs.length:=(List.getElem?_eq_some_iff.mp h).1;have e:ixN xs.length (j:Int)=some j:=by
  unfold ixN;rw [if_pos (by omega),if_pos (by omega)];simp
 unfold atI;rw [e];exact h
theorem atI_last {α:Type}(xs:List α)(v:α):atI (xs++ [v]) (-1)=some v:=by
 have B:(xs++ [v]).length=xs.length+1:=by simp
 have e:ixN (xs++ [v]).length (-1)=some xs.length:=by
  unfold ixN;rw [B,if_neg (by decide),if_pos (by omega)]
  congr 1
  omega
 unfold atI;rw [e];show(xs++ [v])[xs.length]? =some v;simp
def PlainIx (b:Expr):Prop:=∀o i,subscripted b false o i=operate [o,i] (getItem o i)
def IxR (X:Cx)(r:R2):Prop:=
 ∀(value slice:Expr) (pins:List (Addr×Obj)) (s:Shared) (σ:St) (H:Hp) (x y:V) (v u:Value) (Q:VK),Inv X pins σ H s->RelV x v->RelV y u->r x y H Q->
  subscripted slice false v u=operate [v,u] (getItem v u)->wpAny (model X.prog X.w) X.A (subscriptTail value slice v u) (EP X pins σ Q) X.xe s
def MtR (X:Cx)(id:String)(r:V->List V->Hp->VK->Prop):Prop:=
 ∀(pins:List (Addr×Obj)) (s:Shared) (σ:St) (H:Hp) (x:V) (xs:List V) (v:Value) (us:List Value) (Q:VK),Inv X pins σ H s->RelV x v->Vals xs us->r x xs H Q->
  wpAny (model X.prog X.w) X.A (call (.builtin id) (v::us)) (EP X pins σ Q) X.xe s
section
variable {X:Cx}{a b:Expr}{ta tb:TE}{pos:Pos}
theorem IxR.or {r r':R2}(h:IxR X r)(h':IxR X r'):IxR X (fun x y H Q=>r x y H Q∨r' x y H Q):=by
 intro value B pins s σ H x y v u Q I L M q O;rcases q with q|q
 ·exact h value B pins s σ H x y v u Q I L M q O
 ·exact h' value B pins s σ H x y v u Q I L M q O
theorem qA {r:R2}(B:IxR X r)(ha:PE X a ta)(L:PE X b tb)(M:PlainIx b):PE X (.Subscript a b pos) (tOp r ta tb):=by
 intro pins s σ H Q I h;exact Subscript_ (binT ha L I h fun v u s2 x y H2 O R U q=>B a b pins s2 σ H2 x y v u Q O R U q (M _ _))
def rIxL (K:PySem.W.Frag):R2:=fun x y H Q=>∃p xs i v,x= .ref p/\y= .int i/\SqL K H p xs/\atI xs i=some v/\Q v H
def rIxT (K:PySem.W.Frag):R2:=fun x y H Q=>∃p xs i v,x= .ref p/\y= .int i/\SqT K H p xs/\atI xs i=some v/\Q v H
def rIxS:R2:=fun x y H Q=>∃z i c,x= .str z/\y= .int i/\z.length<=sizeLine/\atI z.cps.toList i=some c/\Q (.str ⟨#[c]⟩) H
theorem qW:IxR X (rIxL X.K):=by
 intro value L pins s σ H x y v u Q I Z ry h R;obtain⟨p,xs,i,z,rfl,rfl,hq,he,q⟩:=h;cases Z;obtain⟨t,rfl⟩:=ry;obtain⟨its,r,pl,hz⟩:=I.list hq;obtain⟨j,h1,h2,h3,h4,h5⟩:=Jz he;obtain⟨w,U,M⟩:=r.get h2;have hl:=r.length;have hn:=jh;have B:EP X pins σ Q w s:=⟨z,H,I,M,q⟩;by_cases Y:0<=i
 ·have O:i.toNat=j:=by
   rw [seqIndex_of Y h5] at h1;exact uL h1
  exact item_listR pl.isList Y (by omega) (by rw [O];simpa using U) B R
 ·have O:(i+(its.toArray.size:Int)).toNat=j:=by
   rw [seqIndex_neg (by omega) h4] at h1
   rw [ud,<-hl];exact uL h1
  exact subscriptTail_builtinR (x:=w) pl.isList.typeIs slot_list_getitem.lookup
   (wpAny_getItem_list_neg (Q:=fun r s'=>r=w/\EP X pins σ Q r s') pl.isList (by omega) (by rw [ud]<;>omega) (by omega) (by rw [O];simpa using U) ⟨rfl,B⟩) R
theorem qD:IxR X (rIxT X.K):=by
 intro value B pins s σ H x y v u Q I O R h U;obtain⟨p,xs,i,z,rfl,rfl,hq,Y,q⟩:=h;cases O;obtain⟨t,rfl⟩:=R;obtain⟨its,r,pl,hz⟩:=I.tuple hq;obtain⟨j,h1,h2,h3,h4,h5⟩:=Jz Y;obtain⟨w,Z,L⟩:=r.get h2;have hl:=r.length;have hn:=jh;have M:EP X pins σ Q w s:=⟨z,H,I,L,q⟩;exact subscriptTail_builtinR (x:=w) pl.typeIs slot_tuple_getitem.lookup
  (getItem_tuple (j:=j) (Q:=fun r s'=>r=w/\EP X pins σ Q r s') pl (by omega) (by omega) (by rw [ud,<-hl];exact h1) (by simpa using Z) ⟨rfl,M⟩) U
theorem ix_str:IxR X rIxS:=by
 intro value B pins s σ H x y v u Q I L M h O;obtain⟨z,i,c,rfl,rfl,hz,R,q⟩:=h;obtain⟨t,rfl⟩:=L;obtain⟨t',rfl⟩:=M;obtain⟨j,h1,h2,h3,h4,U⟩:=Jz R;have Y:z.cps.toList.length=z.length:=by simp [Str.length]
 rw [Y] at h1 h4 U;have hn:=jh;exact tail_any (typeIs_str s z t) slot_str_getitem.lookup (getItem_str (c:=c) (by
  have Z:decide (i< -(2^63:Int))=false:=ub (by omega)
  have e2:decide (i≥2^63)=false:=ub (by omega)
  rw [Z,e2,Bool.or_false]) (by rw [h1];simpa using h2) ⟨.str ⟨#[c]⟩,H,I.tok _,⟨_,rfl⟩,q⟩) O
def rIx (K:PySem.W.Frag):R2:=fun x y H Q=>rIxL K x y H Q∨rIxT K x y H Q∨rIxS x y H Q
theorem ix_seq:IxR X (rIx X.K):=qW.or (qD.or ix_str)
theorem mapSeq_set (its:List Value)(n j:Nat)(u:Value):Obj.mapSeq (·.setIfInBounds j u) {cls:= .type "list",data:= .seq its.toArray n}={cls:= .type "list",data:= .seq (its.set j u).toArray n}:=by
 simp [Obj.mapSeq]
theorem Inv.lst {pins:List (Addr×Obj)}{σ:St}{H:Hp}{s:Shared}{p:Addr}{xs:List V}(I:Inv X pins σ H s)(h:H p=some (.lst xs)):
  ∃(its:List Value) (n:Nat),Vals xs its/\s.heap.get? p=some {cls:= .type "list",data:= .seq its.toArray n}/\xs.length<=sizeLine:=by
 obtain⟨z,its,n,r,e⟩:=I.hok p _ h;exact⟨its,n,r,e,z⟩
theorem Inv.lstUpd {pins:List (Addr×Obj)}{σ:St}{H:Hp}{s:Shared}{p:Addr}{xs ys:List V}{its its':List Value}{n B:Nat}{f:Obj->Obj}(I:Inv X pins σ H s)(h:H p=some (.lst xs))
  (M:s.heap.get? p=some {cls:= .type "list",data:= .seq its.toArray n}) (L:f {cls:= .type "list",data:= .seq its.toArray n}={cls:= .type "list",data:= .seq its'.toArray B}) (r:Vals ys its') (hz:ys.length<=sizeLine) (t:Nat) (R:0<t:=by((try dsimp only);first|assumption|exact Inv.tk (by assumption)|exact Nat.succ_pos _|exact Nat.lt_of_lt_of_le (Inv.tk (by assumption)) (by assumption)|exact Nat.add_pos_left (Inv.tk (by assumption)) _|omega)):
  Inv X pins σ (upd H p (.lst ys)) {s with heap:=s.heap.update p f,toks:=t}:=by
 have e:(s.heap.update p f).get? p=some {cls:= .type "list",data:= .seq its'.toArray B}:=by
  rw [vf f M (by rw [L]<;>rfl),L]
 refine I.write (x:=p) (e:=p) (by rw [h];trivial) (.inl rfl) (fun b u O q=>(uX _ _ (vZ O)).trans q) ⟨_,e⟩ ?_
 exact⟨hz,its',B,r,e⟩
def rSetL:V->V->V->Hp->(Hp->Prop)->Prop:=fun o i v H Q=>∃p xs k j,o= .ref p/\i= .int k/\H p=some (.lst xs)/\ixN xs.length k=some j/\Q (upd H p (.lst (xs.set j v)))
theorem set_list:PSet X rSetL:=by
 intro pins s σ H o i v ov iv u Q I Y Z rv h;obtain⟨p,xs,k,j,rfl,rfl,M,hj,q⟩:=h;cases Y;obtain⟨t,rfl⟩:=Z;obtain⟨its,n,r,B,hz⟩:=I.lst M;obtain⟨h1,h2,O,h4⟩:=ixN_seq hj;have L:=r.length;have hn:=jh;have R:Inv X pins σ (upd H p (.lst (xs.set j v))) {s with heap:=s.heap.update p (Obj.mapSeq (·.setIfInBounds j u))}:=
  I.lstUpd M B (mapSeq_set its n j u) (r.set rv j) (by rw [List.length_set];exact hz) s.toks
 by_cases U:0<=k
 ·have hk:k.toNat=j:=by
   rw [seqIndex_of U h4] at h1;exact uL h1
  exact PySem.W.ki_setAt B U (by omega) (by rw [ud,<-L];exact h4) (by rw [hk];exact⟨_,R,q⟩)
 ·have hk:(k+(its.toArray.size:Int)).toNat=j:=by
   rw [seqIndex_neg (by omega) O] at h1
   rw [ud,<-L];exact uL h1
  exact PySem.W.ki_setBack B (by omega) (by rw [ud,<-L];exact O) (by omega) (by rw [hk];exact⟨_,R,q⟩)
theorem slice_bounds (lo hi:Option Int)(n:Nat):(sliceBounds lo hi none n).1=((HT.sIx n 0 lo:Nat):Int)/\(sliceBounds lo hi none n).2.1=((HT.sIx n n hi:Nat):Int)/\(sliceBounds lo hi none n).2.2=1:=by
 refine⟨?_,?_,rfl⟩
 ·cases lo with
  |none=>simp [sliceBounds,HT.sIx]
  |some i=>
   simp only [sliceBounds,HT.sIx,Option.getD_none,show(1:Int)>0 by decide,if_true]
   by_cases h:i<0
   ·simp only [h,if_true]<;>omega
   ·simp only [h,U0]<;>omega
 ·cases hi with
  |none=>simp [sliceBounds,HT.sIx]
  |some i=>
   simp only [sliceBounds,HT.sIx,Option.getD_none,show(1:Int)>0 by decide,if_true]
   by_cases h:i<0
   ·simp only [h,if_true]<;>omega
   ·simp only [h,U0]<;>omega
theorem xh (its:List Value)(lo hi:Option Int):slicePick its.toArray lo hi none=((its.drop (HT.sIx its.length 0 lo)).take (HT.sIx its.length its.length hi-HT.sIx its.length 0 lo)).toArray:=by
 obtain⟨h1,h2,B⟩:=slice_bounds lo hi its.toArray.size;unfold slicePick;rw [h1,h2,B];simp only [sliceRange_one,pick_run,ud]<;>rfl
def rSlL (K:PySem.W.Frag):V->Option Int->Option Int->Hp->VK->Prop:=fun x lo hi H Q=>∃a xs,x= .ref a/\SqL K H a xs/\∀p,H p=none->Q (.ref p) (upd H p (.lst (cutV xs lo hi)))
theorem sl_list:SlR X (rSlL X.K):=by
 intro pins s σ H x v R U lo hi sl Q I M O pl pu h;obtain⟨a,xs,rfl,hx,q⟩:=h;cases M;obtain⟨its,r,L,hz⟩:=I.list hx;have B:=r.length;refine⟨"list",_,slot_list_getitem.lookup,L.isList.typeIs,?_⟩;refine wpAny_getItem_list_slice L.isList O pl pu .none (by simp) ?_ (by rw [ud]<;>omega)
 rw [xh,<-B];refine⟨.ref s.heap.objs.size,_,I.laid (t':=s.toks) (o:= .lst (cutV xs lo hi)) (fun b Y q=>u8 _ q) (Nat.le_refl _) ?_,rfl,q _ (I.hok.fresh (Nat.le_refl _))⟩;exact⟨vt (Ja xs lo hi) hz,_,0,(r.drop (HT.sIx xs.length 0 lo)).take (HT.sIx xs.length xs.length hi-HT.sIx xs.length 0 lo),ug _ rfl⟩
def xb:V->Bool
 | .non=>true
 | .bl _=>true
 | .int _=>true
 | .str _=>true
 |_=>false
def eqV:V->V->Bool
 | .non,.non=>true
 | .bl a,.bl b=>a==b
 | .bl a,.int b=>(if a then 1 else 0)==b
 | .int a,.bl b=>a==(if b then 1 else 0)
 | .int a,.int b=>a==b
 | .str a,.str b=>a==b
 |_,_=>false
theorem eqAt_V {A:Around}{s:Shared}{y x:V}{u v:Value}(I:RelV y u)(B:RelV x v)(M:xb y=true)(L:xb x=true):SeqAt.EqAt A s u v (eqV y x):=by
 cases y with
 |non=>
  cases I;cases x with
  |non=>cases B;exact SeqAt.EqAt.same _
  |bl b=>cases B;exact SeqAt.EqAt.none_bool b
  |int b=>obtain⟨t,rfl⟩:=B;exact SeqAt.EqAt.none_int b t
  |str b=>obtain⟨t,rfl⟩:=B;exact SeqAt.EqAt.none_str b t
  |_=>exact absurd (show false=true from L) uf
 |bl a=>
  cases I;cases x with
  |non=>cases B;exact SeqAt.EqAt.bool_none a
  |bl b=>cases B;exact SeqAt.EqAt.bool_bool a b
  |int b=>obtain⟨t,rfl⟩:=B;exact SeqAt.EqAt.bool_int a b t
  |str b=>obtain⟨t,rfl⟩:=B;exact SeqAt.EqAt.bool_str a b t
  |_=>exact absurd (show false=true from L) uf
 |int a=>
  obtain⟨t',rfl⟩:=I;cases x with
  |non=>cases B;exact SeqAt.EqAt.int_none a t'
  |bl b=>cases B;exact SeqAt.EqAt.int_bool a t' b
  |int b=>obtain⟨t,rfl⟩:=B;exact SeqAt.EqAt.int_int a t' b t
  |str b=>obtain⟨t,rfl⟩:=B;exact Uo a t' b t
  |_=>exact absurd (show false=true from L) uf
 |str a=>
  obtain⟨t',rfl⟩:=I;cases x with
  |non=>cases B;exact SeqAt.EqAt.str_none a t'
  |bl b=>cases B;exact SeqAt.EqAt.str_bool a t' b
  |int b=>obtain⟨t,rfl⟩:=B;exact Up a t' b t
  |str b=>obtain⟨t,rfl⟩:=B;exact SeqAt.EqAt.str_str a t' b t
  |_=>exact absurd (show false=true from L) uf
 |_=>exact absurd (show false=true from M) uf
def eqU (x:V)(u:Value):Bool:=match u with
 | .none=>eqV .non x
 | .bool b=>eqV (.bl b) x
 | .int i _=>eqV (.int i) x
 | .str z _=>eqV (.str z) x
 |_=>false
theorem eqU_of {x y:V}{u:Value}(r:RelV y u)(f:xb y=true):eqU x u=eqV y x:=by
 cases y with
 |non=>cases r;rfl
 |bl b=>cases r;rfl
 |int i=>obtain⟨t,rfl⟩:=r;rfl
 |str z=>obtain⟨t,rfl⟩:=r;rfl
 |_=>exact absurd (show false=true from f) uf
theorem any_eqU {x:V}:∀{xs:List V}{us:List Value},Vals xs us->xs.all xb=true->us.any (eqU x)=xs.any fun y=>eqV y x
 |_,_,.nil,_=>rfl
 |y::xs,u::us,.cons r t,f=>by
  rw [vK,uh] at f;rw [List.any_cons,List.any_cons,eqU_of r f.1,any_eqU t f.2]
theorem JN {A:Around}{s:Shared}{x:V}{v:Value}(B:RelV x v)(I:xb x=true):∀{xs:List V}{us:List Value},Vals xs us->xs.all xb=true->∀u∈us,SeqAt.EqAt A s u v (eqU x u)
 |_,_,.nil,_=>fun u hu=>by cases hu
 |y::xs,u::us,.cons r t,f=>fun L hu=>by
  rw [vK,uh] at f;rcases List.mem_cons.mp hu with rfl|hu
  ·rw [eqU_of r f.1];exact eqAt_V r B f.1 I
  ·exact JN B I t f.2 L hu
def inV (x:V)(xs:List V):Bool:=xs.any fun y=>eqV y x
def rIn (K:PySem.W.Frag)(neg:Bool):R2:=fun x y H Q=>∃p xs,y= .ref p/\(SqL K H p xs∨SqT K H p xs)/\xb x=true/\xs.all xb=true/\Q (.bl (if neg then !inV x xs else inV x xs)) H
theorem Yx:OpR X (compareOp .In) (rIn X.K false):=by
 intro pins s σ H x y v u Q I L O h;obtain⟨p,xs,rfl,hq,M,fs,q⟩:=h;cases O;rcases hq with hq|hq
 ·obtain⟨its,r,pl,hz⟩:=I.list hq;refine SeqAt.in_listAt (eqU x) pl.isList (fun w B=>JN L M r fs w (by simpa using B)) ⟨.bl _,H,I,rfl,?_⟩
  rw [show its.toArray.any (eqU x)=its.any (eqU x) by simp,any_eqU r fs]
  exact q
 ·obtain⟨its,r,pl,hz⟩:=I.tuple hq;refine SeqAt.in_tupleAt (eqU x) pl (fun w B=>JN L M r fs w (by simpa using B)) ⟨.bl _,H,I,rfl,?_⟩
  rw [show its.toArray.any (eqU x)=its.any (eqU x) by simp,any_eqU r fs]
  exact q
theorem op_notIn_str:OpR X (compareOp .NotIn) (fun x y H Q=>∃i j,x= .str i/\y= .str j/\Q (.bl (!(!(Builtin.Str.occurrences j i 0 j.length 1).isEmpty))) H):=by
 intro pins s σ H x y v u Q I B L h;obtain⟨i,j,rfl,rfl,q⟩:=h;obtain⟨t,rfl⟩:=B;obtain⟨t',rfl⟩:=L;exact notIn_str ⟨.bl _,H,I,rfl,q⟩
theorem qB:yx X (.builtin "len") (fun xs H Q=>∃p ys,xs= [.ref p]/\(SqL X.K H p ys∨SqT X.K H p ys)/\Q (.int ys.length) H):=by
 intro pins s σ H xs us Q I r h;obtain⟨p,ys,rfl,hq,q⟩:=h;obtain⟨u,rfl,L⟩:=yn r;cases L;have hn:=jh;rcases hq with hq|hq
 ·obtain⟨its,r',pl,hz⟩:=I.list hq;have B:=r'.length;exact Calls.call_len_list pl.isList (by simp only [ud]<;>omega) ⟨.int ys.length,H,I.tok _,⟨s.toks+1,by rw [ud,B]⟩,q⟩
 ·obtain⟨its,r',pl,hz⟩:=I.tuple hq;have B:=r'.length;exact len_tuple pl (by simp only [ud]<;>omega) ⟨.int ys.length,H,I.tok _,⟨s.toks+1,by rw [ud,B]⟩,q⟩
theorem Y9:yx X (.builtin "len") (fun xs H Q=>∃z,xs= [.str z]/\z.length<=sizeLine/\Q (.int z.length) H):=by
 intro pins s σ H xs us Q I r h;obtain⟨z,rfl,hz,q⟩:=h;obtain⟨u,rfl,t,rfl⟩:=yn r;have hn:=jh;exact len_str (by omega) ⟨.int z.length,H,I.tok _,⟨_,rfl⟩,q⟩
theorem call_list_of:yx X (.type "list") (fun xs H Q=>∃p ys,xs= [.ref p]/\(SqL X.K H p ys∨SqT X.K H p ys)/\∀l,H l=none->Q (.ref l) (upd H l (.lst ys))):=by
 intro pins s σ H xs us Q I r h;obtain⟨p,ys,rfl,hq,q⟩:=h;obtain⟨u,rfl,U⟩:=yn r;cases U;have L:∀(its:List Value),Vals ys its->ys.length<=sizeLine->∀(h':Heap) (B:Nat),(∀b o',s.heap.get? b=some o'->h'.get? b=some o')->
   h'.get? s.heap.objs.size=some {cls:= .type "list",dict:=none,data:= .seq its.toArray B,slots:= #[]}->EP X pins σ Q (.ref s.heap.objs.size) {s with heap:=h'}:=fun its r' hz h' B kp e=>
  ⟨.ref s.heap.objs.size,_,I.laid (t':=s.toks) kp (Nat.le_refl _) (show Qm X.prog X.w _ h' _ (.lst ys) from⟨hz,its,B,r',e⟩),rfl,q _ (I.hok.fresh (Nat.le_refl _))⟩
 rcases hq with hq|hq
 ·obtain⟨its,r',pl,hz⟩:=I.list hq;have M:=r'.length;obtain⟨o,O,R,n,hd⟩:=pl.isList;exact call_list_seq p (.inl rfl) O R hd (fun h' B kp e=>L its r' hz h' B kp e) (by simp only [ud]<;>omega)
 ·obtain⟨its,r',pl,hz⟩:=I.tuple hq;have M:=r'.length;obtain⟨o,O,R,n,hd⟩:=pl;exact call_list_seq p (.inr rfl) O R hd (fun h' B kp e=>L its r' hz h' B kp e) (by simp only [ud]<;>omega)
theorem qH:yx X (.type "tuple") (fun xs H Q=>∃p ys,xs= [.ref p]/\((SqL X.K H p ys/\∀l,H l=none->Q (.ref l) (upd H l (.tup ys)))∨(SqT X.K H p ys/\Q (.ref p) H))):=by
 intro pins s σ H xs us Q I r h;obtain⟨p,ys,rfl,h⟩:=h;obtain⟨u,rfl,M⟩:=yn r;cases M;rcases h with⟨hq,q⟩|⟨hq,q⟩
 ·obtain⟨its,r',pl,hz⟩:=I.list hq;have B:=r'.length;refine call_tuple_list pl.isList (fun h' kp=> ?_) (by simp only [ud]<;>omega)
  have L:Inv X pins σ H {s with heap:=h'}:=I.kept (t':=s.toks) kp
  have O:Inv X pins σ (upd H h'.objs.size (.tup ys)) {s with heap:=h'.push {cls:= .type "tuple",data:= .seq its.toArray}}:=
   L.laid (t':=s.toks) (fun b o e=>u8 _ e) (Nat.le_refl _) (show Qm X.prog X.w _ _ _ (.tup ys) from⟨hz,its,r',IsTup.new _ _⟩)
  exact⟨.ref h'.objs.size,_,O,rfl,q _ (L.hok.fresh (Nat.le_refl _))⟩
 ·obtain⟨its,r',pl,hz⟩:=I.tuple hq;exact call_tuple_same pl ⟨.ref p,H,I,rfl,q⟩
def tyV (K:PySem.W.Frag)(T:String)(x:V)(H:Hp):Prop:=match x with
 | .str _=>T="str"
 | .int _=>T="int"
 | .ref p=>(T="list"/\∃xs,SqL K H p xs)∨(T="tuple"/\∃o,K.lookup p=some o/\o.cls= .type "tuple"/\o.dict=none)∨
   (T="dict"/\((∃kvs,H p=some (.dK kvs))∨∃kvs,H p=some (.dT kvs)))∨(T="set"/\∃S n,H p=some (.set S n))
 |_=>False
theorem tyV_is {pins:List (Addr×Obj)}{σ:St}{H:Hp}{s:Shared}{T:String}{x:V}{v:Value}(I:Inv X pins σ H s)(r:RelV x v)(ty:tyV X.K T x H):
  s.TypeIs v T/\∀a,v= .ref a->∃L,s.heap.get? a=some L/\L.dict=none:=by
 cases x with
 |str z=>
  obtain⟨t,rfl⟩:=r;cases(show T="str" from ty)
  exact⟨typeIs_str s z t,fun _ e=>nomatch e⟩
 |int i=>
  obtain⟨t,rfl⟩:=r;cases(show T="int" from ty)
  exact⟨typeIs_int s i t,fun _ e=>nomatch e⟩
 |ref p=>
  cases r;rcases ty with⟨rfl,xs,hq⟩|⟨rfl,o,hk,M,hd⟩|⟨rfl,hk⟩|⟨rfl,S,n,hk⟩
  ·obtain⟨its,_,pl,_⟩:=I.list hq;refine⟨pl.isList.typeIs,fun a e=> ?_⟩;cases e;obtain⟨o,n,e,c,hd,_⟩:=pl;exact⟨o,e,hd⟩
  ·refine⟨⟨o,I.kIn p o hk,M⟩,fun a e=> ?_⟩;cases e;exact⟨o,I.kIn _ o hk,hd⟩
  ·have z:∃o,s.heap.get? p=some o/\o.ExactDict:=by
    rcases hk with⟨kvs,hk⟩|⟨kvs,hk⟩
    ·obtain⟨_,_,_,_,o,_,_,e,ex,_⟩:=I.hok p _ hk;exact⟨o,e,ex⟩
    ·obtain⟨_,_,_,_,o,_,_,e,ex,_⟩:=I.hok p _ hk;exact⟨o,e,ex⟩
   obtain⟨o,e,ex⟩:=z;refine⟨⟨o,e,ex.1⟩,fun a B=> ?_⟩;cases B;exact⟨o,e,ex.2.1⟩
  ·obtain⟨o,_,_,_,e,ex,_⟩:=I.hok p _ hk;refine⟨⟨o,e,ex.1⟩,fun a B=> ?_⟩;cases B;exact⟨o,e,ex.2.1⟩
 |_=>exact False.elim ty
def tBM0 (K:PySem.W.Frag)(T:String)(r:V->List V->Hp->VK->Prop)(to:TE):TE:=fun σ H Q=>to σ H fun x H1=>tyV K T x H1/\r x [] H1 Q
def tBM (K:PySem.W.Frag)(T:String)(r:V->List V->Hp->VK->Prop)(to:TE)(t:TA):TE:=fun σ H Q=>to σ H fun x H1=>tyV K T x H1/\t σ H1 fun xs H2=>r x xs H2 Q
variable {o e:Expr}{es:List Expr}{to:TE}{t:TA}{name:Str}{apos cpos:Pos}{T id:String}{r:V->List V->Hp->VK->Prop}
theorem pe_bm0 (U:PlainAttrs T)(slot:Slot T name id)(M:typeOf (.builtin id)=pure (.type "method_descriptor"))(hm:MtR X id r)(Y:PE X o to)
  (B:attributeBase o name X.env (eval o X.env)=eval o X.env:=by rfl) (L:(apos.endLine==cpos.line)=true:=by rfl):PE X (.Call (.Attribute o name apos) [] [] cpos) (tBM0 X.K T r to):=by
 intro pins s σ H Q I h;refine wpAny_Call_method0_late B L (thn (Y pins s σ H _ I h) fun v s1 ⟨x,H1,O,R,ty,q1⟩=> ?_);obtain⟨h1,h2⟩:=tyV_is O R ty;exact⟨T,id,U,slot,M,h1,h2,Calls.callWith_builtin rfl (PySem.evalArgs_none (hm pins s1 σ H1 x [] v [] Q O R .nil q1))⟩
theorem pe_bm (pa:PlainAttrs T)(slot:Slot T name id)(R:typeOf (.builtin id)=pure (.type "method_descriptor"))(hm:MtR X id r)(ho:PE X o to)(ha:PA X (e::es) t)
  (L:attributeBase o name X.env (eval o X.env)=eval o X.env:=by rfl)
  (O:((backTo cpos (starEach (e::es) X.env)).all (fun x=> !x.1)&&(backToKw cpos (keywordEach [] X.env)).all (fun x=>x.1.isSome)
   &&decide ((e::es).length+([]:List Keyword).length+(if([]:List Keyword).isEmpty then 0 else 1)<30))=true:=by rfl)
  (M:(apos.endLine==cpos.line)=true:=by rfl) (hs:starEach (e::es) X.env=(false,eval e X.env)::starEach es X.env:=by rfl) (B:(backTo cpos (starEach es X.env)).any (·.1)=false:=by rfl):
  PE X (.Call (.Attribute o name apos) (e::es) [] cpos) (tBM X.K T r to t):=by
 intro pins s σ H Q I h;refine wpAny_Call_method_late L O M rfl (thn (ho pins s σ H _ I h) fun v s1 ⟨x,H1,U,Y,ty,q1⟩=> ?_);obtain⟨h1,h2⟩:=tyV_is U Y ty;refine⟨T,id,pa,slot,R,h1,h2,?_⟩;have Z:=ha cpos pins s1 σ H1 _ U q1;rw [hs] at Z⊢;refine Calls.callWith_builtin (by show(false||(backTo cpos (starEach es X.env)).any (·.1))=false;rw [B]<;>rfl) (Calls.evalArgs_plain ?_)
 exact thn Z fun us s2 ⟨vs,H2,I2,r2,q2⟩=>hm pins s2 σ H2 x vs v us Q I2 Y r2 q2
end
def MtM (X:Cx)(id:String)(r:V->List V->Hp->VK->Prop):Prop:=
 ∀(pins:List (Addr×Obj)) (s:Shared) (σ:St) (H:Hp) (x:V) (xs:List V) (v:Value) (us:List Value) (Q:VK),Inv X pins σ H s->RelV x v->Vals xs us->r x xs H Q->
  wpAny (model X.prog X.w) X.A (call (.builtin id) (v::us)) (EP X pins σ Q) X.xe s
theorem Vals.one:∀{x:V}{us:List Value},Vals [x] us->∃u,us= [u]/\RelV x u
 |_,_,.cons r .nil=>⟨_,rfl,r⟩
theorem Vals.zero:∀{us:List Value},Vals [] us->us= []
 |_,.nil=>rfl
theorem Vals.dropLast {xs:List V}{us:List Value}(h:Vals xs us):Vals xs.dropLast us.dropLast:=by
 induction h with
 |nil=>exact .nil
 |cons r t B=>
  cases t with
  |nil=>exact .nil
  |cons q t'=>exact .cons r B
theorem erase_last {α:Type}(l:List α):l.eraseIdx (l.length-1)=l.dropLast:=by
 induction l with
 |nil=>rfl
 |cons a r B=>
  cases r with
  |nil=>rfl
  |cons b r=>
   have e:(a::b::r).length-1=((b::r).length-1)+1:=by
    have h1:(a::b::r).length=r.length+2:=rfl;have h2:(b::r).length=r.length+1:=rfl;omega
   rw [e,List.eraseIdx_cons_succ,B]
   all_goals rfl
section
variable {X:Cx}{pins:List (Addr×Obj)}{σ:St}{H:Hp}{s:Shared}{l b:Addr}{xs ys zs:List V}
theorem Inv.lset {its its':List Value}{n:Nat}{f:Array Value->Array Value}{t':Nat}(I:Inv X pins σ H s)(B:H l=some (.lst xs))
  (e:s.heap.get? l=some {cls:= .type "list",data:= .seq its.toArray n}) (L:f its.toArray=its'.toArray) (M:Vals ys its') (hz:ys.length<=sizeLine) (R:0<t':=by((try dsimp only);first|assumption|exact Inv.tk (by assumption)|exact Nat.succ_pos _|exact Nat.lt_of_lt_of_le (Inv.tk (by assumption)) (by assumption)|exact Nat.add_pos_left (Inv.tk (by assumption)) _|omega)):
  Inv X pins σ (upd H l (.lst ys)) {s with heap:=s.heap.update l (Obj.mapSeq f),toks:=t'}:=by
 have q:=PySem.IsL.update e f;rw [L] at q;refine I.write (x:=l) (e:=l) (by rw [B];exact trivial) (.inl rfl) (fun U u O hu=>(uX s.heap (Obj.mapSeq f) (vZ O)).trans hu) ⟨_,q⟩ ?_
 exact⟨hz,its',_,M,q⟩
theorem Inv.lnew {its:List Value}{t':Nat}(I:Inv X pins σ H s)(B:Vals ys its)(hz:ys.length<=sizeLine)(L:0<t':=by((try dsimp only);first|assumption|exact Inv.tk (by assumption)|exact Nat.succ_pos _|exact Nat.lt_of_lt_of_le (Inv.tk (by assumption)) (by assumption)|exact Nat.add_pos_left (Inv.tk (by assumption)) _|omega)):
  Inv X pins σ (upd H s.heap.objs.size (.lst ys)) {s with heap:=s.heap.push {cls:= .type "list",data:= .seq its.toArray},toks:=t'}:=
 I.laid (fun _ _ q=>u8 _ q) (Nat.le_refl _) ⟨hz,its,0,B,ug _ rfl⟩
theorem Inv.fresh (I:Inv X pins σ H s):H s.heap.objs.size=none:=I.hok.fresh (Nat.le_refl _)
theorem Inv.lstM (I:Inv X pins σ H s)(B:H l=some (.lst xs)):xs.length<=sizeLine/\∃(its:List Value) (n:Nat),Vals xs its/\xs.length=its.length/\s.heap.get? l=some {cls:= .type "list",data:= .seq its.toArray n}:=by
 obtain⟨z,its,n,r,e⟩:=I.hok l _ B;exact⟨z,its,n,r,r.length,e⟩
theorem notLongL {n:Nat}(h:n<=sizeLine):Builtin.List.listTooLong n=false:=by
 unfold Builtin.List.listTooLong;exact ub (by omega)
end
section
variable {X:Cx}
def rAppend:V->List V->Hp->VK->Prop:=fun x vs H Q=>∃l xs y,x= .ref l/\vs= [y]/\H l=some (.lst xs)/\xs.length<sizeLine/\Q .non (upd H l (.lst (xs++ [y])))
theorem QB:MtM X "list.append" rAppend:=by
 intro pins s σ H x vs v us Q I L M h;obtain⟨l,xs,y,rfl,rfl,B,hz,q⟩:=h;cases L;obtain⟨u,rfl,O⟩:=M.one;obtain⟨z,its,n,r,R,e⟩:=I.lstM B;refine call_meets F.slot_list_append ⟨_,e,rfl⟩ F.entry_list_append (F.args_list_append_2 _ _) (PySem.list_append l its.toArray n u (by rw [ud];omega)) ⟨e,?_⟩
 refine⟨.non,_,I.lset (its':=its++ [u]) B e (by simp) (r.append (.cons O .nil)) ?_,rfl,q⟩
 rw [ul,v6];omega
def rExtend:V->List V->Hp->VK->Prop:=fun x vs H Q=>∃l b xs zs,x= .ref l/\vs= [.ref b]/\H l=some (.lst xs)/\H b=some (.lst zs)/\xs.length+zs.length<=sizeLine/\Q .non (upd H l (.lst (xs++zs)))
theorem mt_extend:MtM X "list.extend" rExtend:=by
 intro pins s σ H x vs v us Q I O R h;obtain⟨l,b,xs,zs,rfl,rfl,M,U,hz,q⟩:=h;cases O;obtain⟨u,rfl,Y⟩:=R.one;cases Y;obtain⟨z,its,n,r,hl,e⟩:=I.lstM M;obtain⟨z2,B,Z,r2,aa,e2⟩:=I.lstM U;have hsz:its.toArray.size+B.toArray.size<=sizeLine:=by rw [ud,ud];omega
 have L:¬(!its.toArray.isEmpty&&Builtin.List.listTooLong (its.toArray.size+B.toArray.size))=true:=by
  rw [notLongL hsz,Uy];exact uf
 refine call_meets F.slot_list_extend ⟨_,e,rfl⟩ F.entry_list_extend (F.args_list_extend_2 _ _)
  (AutoSeq1.list_extend_list_list_0 l its.toArray n b B.toArray Z L (by rw [ud];omega) (by omega)) ⟨e,e2,?_⟩
 refine⟨.non,_,I.lset (its':=its++B) M e (by simp) (r.append r2) ?_,rfl,q⟩
 rw [ul];omega
def rPop:V->List V->Hp->VK->Prop:=fun x vs H Q=>∃l xs y,x= .ref l/\vs= []/\H l=some (.lst xs)/\xs[xs.length-1]? =some y/\Q y (upd H l (.lst xs.dropLast))
theorem mt_pop:MtM X "list.pop" rPop:=by
 intro pins s σ H x vs v us Q I O R h;obtain⟨l,xs,y,rfl,rfl,M,U,q⟩:=h;cases O;have B:=R.zero;subst B;obtain⟨z,its,n,r,Y,e⟩:=I.lstM M;obtain⟨u,hu,Z⟩:=r.get U;have L:its.toArray[its.toArray.size-1]? =some u:=by
  show its.toArray[its.length-1]? =some u;rw [<-U5,<-Y];exact hu
 refine call_meets F.slot_list_pop ⟨_,e,rfl⟩ F.entry_list_pop (F.args_list_pop_1 _) (MeetsSeq.list_pop_last l its.toArray n u L (by rw [ud];omega)) ⟨e,?_⟩
 refine⟨y,_,I.lset (its':=its.dropLast) M e ?_ r.dropLast ?_,Z,q⟩
 ·show its.toArray.eraseIdxIfInBounds (its.toArray.size-1)=its.dropLast.toArray;rw [ud,List.eraseIdxIfInBounds_toArray,erase_last]
 ·rw [List.length_dropLast];omega
def rCat:R2:=fun x y H Q=>∃l b xs zs,x= .ref l/\y= .ref b/\H l=some (.lst xs)/\H b=some (.lst zs)/\xs.length+zs.length<=sizeLine/\∀p,H p=none->Q (.ref p) (upd H p (.lst (xs++zs)))
theorem op_cat:OpR X (binaryOp .Add) rCat:=by
 intro pins s σ H x y v u Q I L M h;obtain⟨l,b,xs,zs,rfl,rfl,O,R,hz,q⟩:=h;cases L;cases M;obtain⟨z,its,n,r,hl,e⟩:=I.lstM O;obtain⟨z2,B,n2,U,Y,Z⟩:=I.lstM R;refine PySem.P.add_list e Z ?_ (by rw [ud,ud];omega)
 have ea:its.toArray++B.toArray=(its++B).toArray:=by simp
 rw [ea];exact⟨.ref _,_,I.lnew (t':=s.toks) (r.append U) (by rw [ul];omega),rfl,q _ I.fresh⟩
end
section
variable {prog:Program}{w:World}{A:Around}{E:Value->Shared->Prop}{s:Shared}
set_option maxRecDepth 100000 in
end
section
variable {κ:Type}[DecidableEq κ]
theorem RelO.isSome_eq {o:Option V}{u:Option Value}(r:RelO o u):o.isSome=u.isSome:=by
 cases o with
 |none=>cases u with
  |none=>rfl
  |some _=>exact(show False from r).elim
 |some _=>cases u with
  |none=>exact(show False from r).elim
  |some _=>rfl
end
section
variable {X:Cx}{pins:List (Addr×Obj)}{σ:St}{H:Hp}{s:Shared}{a:Addr}{y v:V}{u r:Value}{o:Option V}{A:Around}{E:Value->Shared->Prop}
theorem Inv.big (I:Inv X pins σ H s):sysModules<s.heap.objs.size:=by
 have h:mainGlobals<s.heap.objs.size:=(I.mod.glob.keeps I.bk).lt;exact Nat.lt_trans (by decide) h
theorem d_write {h':Heap}{t':Nat}{B:HO}(I:Inv X pins σ H s)(L:Mut (H a))(M:Heap.SameBut a s.heap h')(O:∃q,h'.get? a=some q)(new:Qm X.prog X.w (upd H a B) h' a B)(U:0<t':=by((try dsimp only);first|assumption|exact Inv.tk (by assumption)|exact Nat.succ_pos _|exact Nat.lt_of_lt_of_le (Inv.tk (by assumption)) (by assumption)|exact Nat.add_pos_left (Inv.tk (by assumption)) _|omega)):
  Inv X pins σ (upd H a B) {s with heap:=h',toks:=t'}:=
 I.write (x:=a) (e:=a) L (.inl rfl) (fun b q R z=>(M.2 b R).trans z) O new
end
def NoSl (i:Expr):Prop:=∀ov iv,subscripted i false ov iv=operate [ov,iv] (getItem ov iv)
theorem subD_of {prog:Program}{w:World}{A:Around}{E:Value->Shared->Prop}{s:Shared}{env:Env}{value B:Expr}{pos:Pos}{T id:String}{Q:Value->Shared->Prop}
  (Y:typeLookup (.type T) "__getitem__"=pure (some (.builtin id))) (Z:NoSl B)
  (h:wpAny (model prog w) A (eval value env) (fun o O=>wpAny (model prog w) A (eval B env) (fun i L=>L.TypeIs o T/\wpAny (model prog w) A (getItem o i) Q E L) E O) E s):
  wpAny (model prog w) A (eval (.Subscript value B pos) env) Q E s:=by
 refine Subscript_ (vx h (fun o O h₁=>vx h₁ (fun i L M=> ?_) fun _ _ x=>x) fun _ _ x=>x);obtain⟨R,M⟩:=M;unfold subscriptTail;refine wpAny_bind ?_;rw [getitemInPython_of_ne R.not_modules];refine wpAny_bind (wpAny_specialOf R Y ?_);have I:wpAny (model prog w) A (subscripted B false o i) (fun r U=>wpAny (model prog w) A (letTemporaryGo value o r>>=fun _=>pure r) Q E U) E L:=by
  rw [Z o i];exact wpAny_operating (vx M (fun r U h₃=>wpAny_bind (wpAny_letTemporaryGo (u0 h₃))) fun _ _ x=>x)
 first
  |exact u0 (wpAny_bind I)
  |exact wpAny_bind (u0 (wpAny_bind I))
  |exact wpAny_bind I
structure M2 (X:Cx)(o:Expr)(m:Str)(apos:Pos)(e f:Expr)(cpos:Pos):Prop where
 base:attributeBase o m X.env (eval o X.env)=eval o X.env
 few:((backTo cpos (starEach [e,f] X.env)).all (fun x=> !x.1)&&(backToKw cpos (keywordEach [] X.env)).all (fun x=>x.1.isSome)
  &&decide (([e,f]:List Expr).length+([]:List Keyword).length+(if([]:List Keyword).isEmpty then 0 else 1)<30))=true
 line:(apos.endLine==cpos.line)=true
 trees:backTo cpos (starEach [e,f] X.env)= [(false,eval e X.env),(false,eval f X.env)]
end L2
namespace Att
open PySem PySem.W PySem.Calls PyProof.Rows
theorem jV {P:Params}{h:Heap}:∀(ns:List Int) (vs:List Value),WellAll P h vs (ns.map WData.int)->IntsAre vs ns:=by
 intro ns
 induction ns with
 |nil=>
  intro vs w;rw [vJ] at w;cases w;exact .nil
 |cons n ns B=>
  intro vs w;rw [uo] at w;cases w with
  |cons a b=>
   cases a;exact .cons _ _ (B _ b)
theorem script_of {l:OpenLaw}{n:Nat}(hn:l.most=some n){P:Params}{h:Heap}{args:List WData}{B:List Value}
  (I:l.row.toRowW.claim.pre args=true) (R:WellAll P h B args):
  ∃a vs ns,B= [Value.ref a]/\args= [WData.list (ns.map WData.int)]/\h.get? a=some {cls:= .type "list",data:= .seq vs.toArray}/\IntsAre vs ns/\ns.length<=n:=by
 have U:WShape.hasAll [] args [.list .int]=true:=(pre_splitW I).1;have Y:l.pre.holds [] {args:=args}=true:=(pre_splitW I).2;obtain⟨d,r,rfl,h1,h2⟩:=hasAllW_cons U;obtain rfl:=hasAllW_nil h2;obtain⟨xs,rfl,Z⟩:=hasW_list h1;obtain⟨ns,rfl⟩:=items_int Z;have L:ns.length<=n:=by
  unfold OpenLaw.pre at Y;have h4:(WTm.not (.lt (.lit (.int (n:Int))) (.len (.arg 0)))).holds [] {args:= [.list (ns.map .int)]}=true:=by
   have h4:=(holds_andW Y).1;rw [hn] at h4;exact h4
  have O:=condW_of h4 (w_not (w_lt w_lit (w_len_list (w_arg rfl))));rw [ue] at O;refine Nat.le_of_not_lt fun q=> ?_;have q':(n:Int)<((ns.length:Nat):Int):=by omega
  first
   |(rw [uc q'] at O;exact absurd O (by decide))
   |(simp at O;omega)
 cases R with
 |cons w1 w2=>
  cases w2;cases w1 with
  |list ho M=>exact⟨_,_,ns,rfl,rfl,ho,jV ns _ M,L⟩
theorem post_true (l:OpenLaw)(args:List WData):l.row.toRowW.claim.post args (.bool true) args=true:=
 postW_of (r:=l.row.toRowW) (X:=(true==true))
  (show WShape.has [] (.bool true) .bool=true by first|rfl|decide|simp [WShape.has,WShape.arms,WShape.armsAll])
  (show(WTm.eq .res (.lit (.bool true))).value [] {args:=args,res:=some (.bool true),after:=args}=some (.bool (true==true)) from w_eq_bool (w_res rfl) w_lit) rfl
end Att
namespace L2
open PySem PySem.Spec PyProof.Rows
theorem vals_ints:∀{vs:List Value}{ns:List Int},IntsAre vs ns->Vals (ns.map V.int) vs
 |_,_,.nil=> .nil
 |_,_,.cons n t h=> .cons ⟨t,rfl⟩ (vals_ints h)
def Only (H:Hp):Prop:=∀b,H b=none∨∃o xs,H b=some (.frz o (.lst xs))
theorem law_call {P:Program}{w:World}{K:PySem.W.Frag}{mg mb:Str->Option Value}{CX:CXT}{k:Nat}{fa a:Addr}{fd:FuncData}{x:Str}{sp:Sp}{B:Shared}{vs:List Value}{ns:List Int}
  (KX:K.In B.heap) (U:B.heap.Ns mainGlobals mg) (L:B.heap.Ns builtinsNs mb) (ad:∀x:Str,x≠"__name__"->mb x=bootBuiltins x) (Y:B.heap.NoLimit) (hg:B.gens= #[])
  (ha:B.heap.get? a=some {cls:= .type "list",data:= .seq vs.toArray}) (hi:IntsAre vs ns) (hl:ns.length<=sizeLine) (hr:Room k callerA)
  (F:∀base:Heap,K.In base->base.Ns mainGlobals mg->FnOk P w K mg base CX k fa fd [x] sp) (R:∀(s:Shared) (u:Value),BindsTo s fd ⟨[u],[]⟩ [(x,u)])
  (Z:fd.scope.names.lookup x=some .local) (ae:∀H:Hp,Only H->SqL K H a (ns.map V.int)->sp [.ref a] H (fun v _=>v= .bl true) fun _ _ _=>False)
  (af:∀H e s',CX [] H B (fun _ _ _=>False) e s'->False):
  codeAny (model P w) callerA (.call (.ref fa) ⟨[.ref a],[]⟩) (fun r s'=>r= .ok (.ret (.bool true))/\OldK B.heap s'.heap/\s'.os=B.os/\AllBare s'.gens) B:=by
 have rv:=vals_ints hi;have aa:=hi.length;have O:∀H:Hp,Only H->SqL K H a (ns.map V.int)->HOk P w H B.heap->(∀b,H b≠none->b=a)->(H a≠none->K.lookup a=none)->
   codeAny (model P w) callerA (.call (.ref fa) ⟨[.ref a],[]⟩) (fun r s'=>r= .ok (.ret (.bool true))/\OldK B.heap s'.heap/\s'.os=B.os/\AllBare s'.gens) B:=by
  intro H hO hS hok hA hK;have I:∀{b:Addr}{o:Obj},B.heap.get? b=some o->H b=none->(hidT B.heap H).get? b=some o:=fun e n=>hidT_get e n;have ag:∀{b:Addr}{o:Obj}{es:Array DictEntry}{ep:Nat},B.heap.get? b=some o->o.data= .dict es ep->H b=none:=fun{b o es ep} e d=>by
   cases q:H b with
   |none=>rfl
   |some u=>
    have e':b=a:=hA b (by rw [q];simp)
    subst e';rw [ha] at e;cases e;have d':Data.seq vs.toArray _=Data.dict es ep:=d;cases d'
  have M:∀{b:Addr}{m:Str->Option Value},B.heap.Ns b m->(hidT B.heap H).Ns b m:=fun{b m} ⟨o,es,ep,e,d,r⟩=>⟨o,es,ep,I e (ag e d),d,r⟩;have ab:K.In (hidT B.heap H):=fun b o e=>I (KX b o e) (by
   cases q:H b with
   |none=>rfl
   |some u=>
    have e':b=a:=hA b (by rw [q];simp)
    subst e';rw [hK (by rw [q];simp)] at e;cases e)
  have hM:Mod K mg (hidT B.heap H):=⟨ab,M U,⟨mb,M L,ad⟩,let⟨mc,h1,h2⟩:=Y;⟨mc,M h1,h2⟩⟩;have e0:Env0 P w K mg (hidT B.heap H) callerA [] B H:=⟨rfl,hM,fun b o e=>of_hidT e,Nat.le_of_eq (hidT_size _ _),trivial,fun b L=>absurd (show b∈([]:List Addr) from L) (by simp),hok,.of_eq hg⟩
  refine vX ((F _ ab (M U)).run callerA [] B H ⟨[.ref a],[]⟩ [.ref a] [.ref a] _ _ hr e0 (R B (.ref a)) (.cons rfl .nil) (ae H hO hS) (.inr ⟨_,_,rfl,Z⟩)) fun r s' h=> ?_;cases r with
  |error e=>exact(af H e s' h).elim
  |ok fl=>
   cases fl with
   |next=>exact False.elim h
   |brk=>exact False.elim h
   |cont=>exact False.elim h
   |ret u=>
    obtain⟨v,H',os,bare,htk,un,ac,r',q⟩:=h;have q':v= .bl true:=q;subst q';obtain rfl:u=Value.bool true:=r';refine⟨rfl,OldK.of_keep fun b o e=> ?_,os,bare⟩;cases q:H b with
    |none=>exact un.keep b o e q (by intro z;exact absurd (show b∈([]:List Addr) from z) (by simp)) (by simp)
    |some u=>
     rcases hO b with z|⟨ob,xs,z⟩
     ·rw [q] at z;cases z
     ·have z2:=un.frzs b ob _ z;obtain⟨e1,_⟩:=hok b _ z;obtain⟨e2,_⟩:=ac b _ z2;rw [e] at e1;cases e1;exact e2
 cases hk:K.lookup a with
 |some o=>
  have e:=KX a o hk;rw [ha] at e;cases e;refine O (fun _=>none) (fun _=> .inl rfl) (.inr ⟨_,vs.toArray,_,hk,rfl,rfl,rfl,by rw [ud,aa];exact hl,by simpa using rv⟩) (fun b u z=>by have z':(none:Option HO)=some u:=z;cases z') (fun b z=>absurd rfl z) fun z=>absurd rfl z
 |none=>
  refine O (fun b=>if b=a then some (.frz {cls:= .type "list",data:= .seq vs.toArray} (.lst (ns.map V.int))) else none) (fun b=> ?_) (.inl (.inr ⟨{cls:= .type "list",data:= .seq vs.toArray},if_pos rfl⟩)) (fun b u z=> ?_) (fun b z=> ?_) fun _=>hk
  ·by_cases L:b=a
   ·exact .inr ⟨_,_,if_pos L⟩
   ·exact .inl (if_neg L)
  ·by_cases L:b=a
   ·have z':=(if_pos L).symm.trans z;cases z';subst L;exact⟨ha,by rw [ue];exact hl,vs,_,rv,ha⟩
   ·have z':=(if_neg L).symm.trans z;cases z'
  ·by_cases L:b=a
   ·exact L
   ·exact absurd (if_neg L) z
abbrev KOf {K:PySem.W.Frag}{h:Heap}(_:K.In h):PySem.W.Frag:=K
def YS (s:Stmt)(j:Nat):Stmt:=match s with
 | .ClassDef _ _ _ body _ _ _ _ _ _ _=>body.getD j (.Pass ⟨0,0,0,0⟩)
 |_=> .Pass ⟨0,0,0,0⟩
def Yf (s:Stmt):Arguments:=match s with
 | .FunctionDef _ a _ _ _ _ _ _ _ _=>a
 |_=>{posonlyargs:= [],args:= [],vararg:=none,kwonlyargs:= [],kw_defaults:= [],kwarg:=none,defaults:= []}
def yI (s:Stmt):List Stmt:=match s with
 | .FunctionDef _ _ b _ _ _ _ _ _ _=>b
 |_=> []
def qj (s:Stmt):Scope:=match s with
 | .FunctionDef _ _ _ _ _ _ sc _ _ _=>sc
 |_=>{kind:= .function,names:= [],isGenerator:=false,isCoroutine:=false}
abbrev CX0:CXT:=fun _ _ _ _ _ _=>False
abbrev E0:XK:=fun _ _ _=>False
theorem qG {X:Cx}:jo CX0 X E0:=fun _ _ _ _ _ _ _ h=>h.elim
structure Fun (K:PySem.W.Frag)(x qual:Str)(st:Stmt)(f:Addr)(fd:FuncData):Prop where
 ex:∃(oc:Value) (od:Option Addr) (kV doc pm:Value) (an:Option Addr) (cdv ct:Value) (osl:Array (Option Value)),
  fd=PySem.W.fnOf x qual (Yf st) (yI st) (qj st) .none kV doc pm an cdv ct/\K.lookup f=some ⟨oc,od,.func fd,osl⟩/\PySem.W.codeIn K cdv qual=true
 kp:PySem.W.keepIn K (.ref f)=true
section
variable {P:Program}{w:World}{K:PySem.W.Frag}{mg:Str->Option Value}{base:Heap}
theorem Fun.ok {x qual:Str}{st:Stmt}{f:Addr}{fd:FuncData}{N ps:List Str}{k:Nat}{sp:Sp}(F:Fun K x qual st f fd)(S:qz N ps (qj st))(len:∀vs H Q E,sp vs H Q E->vs.length=ps.length)
  (B:∀(cdv:Value) (A:Around) (outer:List Env) (s:Shared) (H:Hp) (vs:List V) (Q:VK) (E:XK),Room k (A.deeper (envOfC qual (qj st) s.heap.objs.size f cdv))->sp vs H Q E->
   ∃t,PSs (cxOf CX0 P w K mg base N qual (qj st) f cdv A outer s H E).nox (yI st) t/\t {nx:=fun _ H'=>Q .non H',rt:=Q} (yR N vs) H):FnOk P w K mg base CX0 (k+1) f fd ps sp:=by
 obtain⟨oc,od,kV,doc,pm,an,cdv,ct,osl,rfl,lk,I⟩:=F.ex;refine fn_of lk I S len fun A outer s H vs Q E M L=> ?_;obtain⟨t,h,q⟩:=B cdv A outer s H vs Q E M L;exact⟨t,h.nox,q⟩
theorem Fun.binds {x qual:Str}{st:Stmt}{f:Addr}{fd:FuncData}{ps:List Str}(F:Fun K x qual st f fd)
  (h:∀(kV doc pm:Value) (an:Option Addr) (cdv ct:Value) (us:List Value),us.length=ps.length->bindArgs (PySem.W.fnOf x qual (Yf st) (yI st) (qj st) .none kV doc pm an cdv ct) ⟨us,[]⟩=pure (ps.zip us)):yS K fd ps []:=by
 obtain⟨oc,od,kV,doc,pm,an,cdv,ct,osl,rfl,lk,B⟩:=F.ex;exact .all (h kV doc pm an cdv ct)
theorem fun_mk {x qual:Str}{st:Stmt}{f:Addr}{oc:Value}{od an:Option Addr}{osl:Array (Option Value)}{kV doc pm cdv ct:Value}(l:K.lookup f=some ⟨oc,od,.func (PySem.W.fnOf x qual (Yf st) (yI st) (qj st) .none kV doc pm an cdv ct),osl⟩)
  (c:PySem.W.codeIn K cdv qual=true) (k:PySem.W.keepIn K (.ref f)=true):Fun K x qual st f (PySem.W.fnOf x qual (Yf st) (yI st) (qj st) .none kV doc pm an cdv ct):=⟨⟨oc,od,kV,doc,pm,an,cdv,ct,osl,rfl,l,c⟩,k⟩
end
theorem qX {n:Nat}(h:n<=1000):n<sizeLine:=Nat.lt_of_le_of_lt h (by decide)
section
variable {X:Cx}
theorem pv (i:Nat){x:Str}{pos:Pos}(I:X.N[i]? =some x:=by rfl)(L:Vis X.env.scope x:=by first|exact Or.inl rfl|exact Or.inr (Or.inl rfl)|exact Or.inr (Or.inr rfl))(hd:(x==("__debug__":Str))=false:=by decide)
  (B:(x==("__classdict__":Str))=false:=by decide):PE X (.Name x pos) (tVar i):=pe_var I L hd B
end
theorem iteF {A B:Prop}(h:B):if false=true then A else B:=by
 rw [if_neg uf];exact h
theorem iteT {A B:Prop}(h:A):if true=true then A else B:=by
 rw [if_pos rfl];exact h
theorem ite2 {c A B:Prop}[Decidable c](h1:c->A)(h2:¬c->B):if c then A else B:=by
 by_cases h:c
 ·rw [if_pos h];exact h1 h
 ·rw [if_neg h];exact h2 h
def Same (H H':Hp):Prop:=∀b o,H b=some o->H' b=some o
theorem Same.refl (H:Hp):Same H H:=fun _ _ h=>h
theorem Same.trans {H H1 H2:Hp}(a:Same H H1)(b:Same H1 H2):Same H H2:=fun c o h=>b c o (a c o h)
theorem Same.free {H H':Hp}(e:Same H H'){l:Addr}(h:H' l=Option.none):H l=Option.none:=by
 cases q:H l with
 |none=>rfl
 |some o=>
  rw [e l o q] at h;cases h
theorem Same.seq {K:PySem.W.Frag}{H H':Hp}{a:Addr}{xs:List V}(e:Same H H')(h:SqL K H a xs):SqL K H' a xs:=by
 rcases h with(h|⟨o,h⟩)|h
 ·exact .inl (.inl (e _ _ h))
 ·exact .inl (.inr ⟨o,e _ _ h⟩)
 ·exact .inr h
end L2
namespace L2
open PySem
inductive D where
 |non|bl (b:Bool)|int (i:Int)|str (z:Str)|lst|dct|tup (xs:List D)
def Yp (c:Nat):Bool:=decide (32<=c)&&decide (c<=126)&&decide (c≠37)
def yt (z:Str):Bool:=decide (z.length<=300)&&z.cps.toList.all Yp
mutual
def good:D->Bool
 | .str z=>yt z
 | .tup xs=>decide (xs.length<=40)&&goodL xs
 |_=>false
def goodL:List D->Bool
 | []=>true
 |x::r=>good x&&goodL r
end
mutual
def sz:D->Nat
 | .str z=>z.length+1
 | .tup xs=>1+szL xs
 |_=>0
def szL:List D->Nat
 | []=>0
 |x::r=>sz x+szL r
end
mutual
def dp:D->Nat
 | .str _=>1
 | .tup xs=>1+dpL xs
 |_=>0
def dpL:List D->Nat
 | []=>0
 |x::r=>max (dp x) (dpL r)
end
mutual
def nd:D->Nat
 | .tup xs=>1+ndL xs
 |_=>1
def ndL:List D->Nat
 | []=>0
 |x::r=>nd x+ndL r
end
def isT (d:D):Bool:=good d&&decide (sz d<=600)&&decide (dp d<=12)
theorem YL:∀(xs ys:List D),szL (xs++ys)=szL xs+szL ys
 | [],ys=>by simp [szL]
 |x::r,ys=>by simp only [List.cons_append,szL,YL r ys];omega
theorem YK:∀(xs ys:List D),ndL (xs++ys)=ndL xs+ndL ys
 | [],ys=>by simp [ndL]
 |x::r,ys=>by simp only [List.cons_append,ndL,YK r ys];omega
theorem yw {k:Nat}:∀(xs:List D),dpL xs<=k↔∀x∈xs,dp x<=k
 | []=>by simp [dpL]
 |x::r=>by
  have I:=yw (k:=k) r;have e:dpL (x::r)=max (dp x) (dpL r):=by simp only [dpL]
  rw [e];constructor
  ·intro h y B;rcases List.mem_cons.mp B with rfl|B
   ·omega
   ·exact I.mp (by omega) y B
  ·intro h;have h1:=h x ua;have h2:=I.mpr fun y B=>h y (u9 _ B);omega
theorem dp_pos {d:D}(h:good d=true):1<=dp d:=by
 cases d<;>simp_all [good,dp]
def wOk (w:List (D×Nat)):Bool:=w.all fun p=>good p.1&&decide (p.2+dp p.1<=13)
def wSz (w:List (D×Nat)):Nat:=szL (w.map (·.1))
def G (w:List (D×Nat))(n:Nat):Bool:=wOk w&&decide (n+wSz w<=600)
theorem G_start (d:D):G [(d,1)] 0=isT d:=by
 simp only [G,wOk,wSz,isT,vK,List.all_nil,uo,vJ,szL,UC,Nat.zero_add,Nat.add_zero];have e:decide (1+dp d<=13)=decide (dp d<=12):=by
  rw [uz];omega
 rw [e];cases good d<;>cases decide (sz d<=600)<;>cases decide (dp d<=12)<;>rfl
theorem G_nil {n:Nat}(h:n<=600):G [] n=true:=by simp [G,wOk,wSz,szL,h]
theorem G_snoc (w:List (D×Nat))(d:D)(k n:Nat):G (w++ [(d,k)]) n=(wOk w&&(good d&&decide (k+dp d<=13))&&decide (n+(wSz w+sz d)<=600)):=by
 simp only [G,wOk,wSz,List.all_append,vK,List.all_nil,UC,uB,uo,vJ,YL,szL,Nat.add_zero]
 rfl
theorem G_bad {w:List (D×Nat)}{d:D}{k n:Nat}(h:good d=false):G (w++ [(d,k)]) n=false:=by
 rw [G_snoc,h];simp
theorem G_deep {w:List (D×Nat)}{d:D}{k n:Nat}(h:12<k):G (w++ [(d,k)]) n=false:=by
 rw [G_snoc];cases B:good d with
 |false=>simp
 |true=>
  have:=dp_pos B;have e:decide (k+dp d<=13)=false:=ub (by omega)
  rw [e];simp
theorem G_big {w:List (D×Nat)}{d:D}{k n:Nat}(h:600<n+sz d):G (w++ [(d,k)]) n=false:=by
 rw [G_snoc];have e:decide (n+(wSz w+sz d)<=600)=false:=ub (by omega)
 rw [e];simp
theorem G_big1 {w:List (D×Nat)}{xs:List D}{k n:Nat}(h:600<n+1):G (w++ [(.tup xs,k)]) n=false:=G_big (by simp only [sz];omega)
theorem wOk_map (xs:List D)(k:Nat):wOk (xs.map fun x=>(x,k+1))=(goodL xs&&xs.all fun x=>decide (k+1+dp x<=13)):=by
 induction xs with
 |nil=>rfl
 |cons x r B=>
  simp only [uo,wOk,vK,goodL] at B⊢;rw [B];cases good x<;>cases decide (k+1+dp x<=13)<;>cases goodL r<;>simp
theorem wSz_map (xs:List D)(k:Nat):wSz (xs.map fun x=>(x,k+1))=szL xs:=by
 unfold wSz;rw [v7]
 congr 1
 induction xs with
 |nil=>rfl
 |cons x r B=>simp only [uo,B];rfl
theorem G_tup {w:List (D×Nat)}{xs:List D}{k n:Nat}(B:xs.length<=40)(hk:k<=12):G (w++ [(.tup xs,k)]) n=G (w++xs.map fun x=>(x,k+1)) (n+1):=by
 rw [G_snoc];unfold G;have I:wOk (w++xs.map fun x=>(x,k+1))=(wOk w&&wOk (xs.map fun x=>(x,k+1))):=by unfold wOk;rw [List.all_append]
 have L:wSz (w++xs.map fun x=>(x,k+1))=wSz w+szL xs:=by
  have:=wSz_map xs k;unfold wSz at this⊢;rw [uB,YL,this]
 have M:decide (k+dp (.tup xs)<=13)=xs.all fun x=>decide (k+1+dp x<=13):=by
  have q:=yw (k:=12-k) xs;have O:dp (.tup xs)=1+dpL xs:=by simp only [dp]
  rw [O,vh];constructor
  ·intro h;have h:=uk h;refine List.all_eq_true.mpr fun x hx=>uc ?_;have h2:=q.mp (by omega) x hx
   omega
  ·intro h;refine uc ?_;have h2:=q.mpr fun x hx=>by
    have Y:=uk (List.all_eq_true.mp h x hx);omega
   omega
 rw [I,L,M,wOk_map];have R:good (.tup xs)=goodL xs:=by simp only [good,uc B,Bool.true_and]
 have U:decide (n+(wSz w+sz (.tup xs))<=600)=decide (n+1+(wSz w+szL xs)<=600):=by
  rw [uz];simp only [sz];omega
 rw [R,U]
theorem G_str {w:List (D×Nat)}{z:Str}{k n:Nat}(B:yt z=true)(hk:k<=12):G (w++ [(.str z,k)]) n=G w (n+(1+z.length)):=by
 rw [G_snoc];unfold G;have I:good (.str z)=true:=by simp only [good,B]
 have L:decide (k+dp (.str z)<=13)=true:=uc (by simp only [dp];omega)
 have M:decide (n+(wSz w+sz (.str z))<=600)=decide (n+(1+z.length)+wSz w<=600):=by
  rw [uz];simp only [sz];omega
 rw [I,L,M];simp
end L2
namespace AwZ
open PySem PyProof.Rows
open PySem.AutoSeq1 (wpAny_loadPart')
section
variable {prog:Program}{w:World}{A:Around}{E:Value->Shared->Prop}{s:Shared}
theorem tdraw {j t:Addr}{i:Nat}{its:Array Value}{x:Value}{Q:Value->Shared->Prop}(I:s.heap.IsTupleIter j t i)(O:s.heap.IsTuple t its)(R:its[i]? =some x)
  (q:∀h2,h2.IsTupleIter j t (i+1)->Heap.SameBut j s.heap h2->Q x {s with heap:=h2}):wpAny (model prog w) A (Builtin.SmallTypes.nextOf (.ref j)) Q E s:=by
 obtain⟨u,hu,U,B⟩:=id I;obtain⟨Y,L,_,nt,M⟩:=O;unfold Builtin.SmallTypes.nextOf;refine wpAny_bind (uw (name:=Str.ofString "__next__") I.typeIs vF
  (uq vF I.typeIs F.entry_tuple_iterator_next ?_ (F.args_tuple_iterator_next_1 _)))
 show wpAny _ _ (field (.ref j) 0>>=_) _ _ s;refine wpAny_bind (vy hu B (x:= .ref t) rfl ?_);show wpAny _ _ (if(Value.ref t==Value.none)=true then _ else _) _ _ s
 rw [if_neg (show¬(Value.ref t==Value.none)=true from uf)]
 show wpAny _ _ (field (.ref j) 1>>=_) _ _ s;refine wpAny_bind (vy hu B (x:= .int i 0) rfl ?_);show wpAny _ _ (seqItems? (.ref t)>>=_) _ _ s;refine wpAny_bind (wpAny_seqItems L M ?_);simp only [vC,R];refine wpAny_bind (vO hu B (by simp) (u0 ⟨x,rfl,u0 (q _ ?_ (ve ..))⟩))
 exact⟨_,vf _ hu (U6 (vj B _)),(Obj.cls_mapFields ..).trans U,by rw [vj B];simp [rawInt]⟩
theorem tdraw_end {j t:Addr}{i:Nat}{its:Array Value}{Q:Value->Shared->Prop}(O:A.handled=none)(B:s.heap.IsTupleIter j t i)(R:s.heap.IsTuple t its)(U:its[i]? =none)
  (q:∀h2 e,Heap.ExtBut j s.heap h2->(∃u,h2.get? e=some u/\u.cls= .type "StopIteration")->E (.ref e) {s with heap:=h2}):wpAny (model prog w) A (Builtin.SmallTypes.nextOf (.ref j)) Q E s:=by
 obtain⟨u,hu,Y,I⟩:=id B;obtain⟨Z,L,_,nt,M⟩:=R;unfold Builtin.SmallTypes.nextOf;refine wpAny_bind (uw (name:=Str.ofString "__next__") B.typeIs vF
  (uq vF B.typeIs F.entry_tuple_iterator_next ?_ (F.args_tuple_iterator_next_1 _)))
 show wpAny _ _ (field (.ref j) 0>>=_) _ _ s;refine wpAny_bind (vy hu I (x:= .ref t) rfl ?_);show wpAny _ _ (if(Value.ref t==Value.none)=true then _ else _) _ _ s
 rw [if_neg (show¬(Value.ref t==Value.none)=true from uf)]
 show wpAny _ _ (field (.ref j) 1>>=_) _ _ s;refine wpAny_bind (vy hu I (x:= .int i 0) rfl ?_);show wpAny _ _ (seqItems? (.ref t)>>=_) _ _ s;refine wpAny_bind (wpAny_seqItems L M ?_);simp only [vC,U];refine wpAny_bind (vm (wpAny_bind (vO hu I (by simp) ?_)))
 show wpAny _ _ (newExc (.type "StopIteration") []>>=_) _ _ _;refine wpAny_bind ?_;simp only [newExc,newTuple];refine wpAny_bind (uD ?_ (by size_fits))
 refine wpAny_bind (m:=firstArgMember _ _) (Uu (a:=Value.none) (by first|rfl|(simp only [firstArgMember];rfl)) ?_)
 refine uD ?_ (by size_fits)
 simp only [raiseNew];refine wpAny_bind (wpAny_handled ?_)
 first|rw [show A.in1.handled=none from O]|rw [O]
 refine wpAny_bind (u0 (wpAny_throw ?_));exact q _ _ (((ve ..).extBut.push _).push _) ⟨_,ug _ rfl,rfl⟩
abbrev q1 (h:Heap)(a:Addr):Heap:=h.push {cls:= .type "tuple_iterator",data:= .fields #[.ref a,.int 0 0]}
theorem enumt {e j t:Addr}{i:Nat}{c:Int}{its:Array Value}{x B:Value}{Q:Value->Shared->Prop}(he:IsEnum s.heap e j c B)(gj:s.heap.IsTupleIter j t i)(gt:s.heap.IsTuple t its)(gx:its[i]? =some x)(U:e≠j)
  (q:∀h2,IsEnumOut h2 e j (c+1) x s.heap.objs.size->h2.IsTupleIter j t (i+1)->h2.get? s.heap.objs.size=some {cls:= .type "tuple",data:= .seq #[.int c s.toks,x]}->h2.objs.size=s.heap.objs.size+1->
   (∀b o,b≠e->b≠j->s.heap.get? b=some o->h2.get? b=some o)->Q (.ref s.heap.objs.size) {s with heap:=h2,toks:=s.toks+1}):
  wpAny (model prog w) A (Builtin.«enumerate.__next__» ⟨[.ref e],[]⟩) (fun aa t=>∃v,aa= .done (.ret v)/\Q v t) E s:=by
 obtain⟨I,g,d,tk,os⟩:=s;show wpAny _ _ (field (.ref e) 2>>=_) _ _ _;refine wpAny_bind (vy he rfl (x:= .ref j) rfl ?_);refine wpAny_bind (tdraw gj gt gx fun h1 j1 s1=> ?_)
 replace s1:Heap.SameBut j I h1:=s1
 have Y:IsEnum h1 e j c B:=(s1.2 e U).trans he;show wpAny _ _ (field (.ref e) 3>>=_) _ _ ⟨h1,g,d,tk,os⟩;refine wpAny_bind (vy Y rfl (x:=rawInt c) rfl ?_);show wpAny _ _ (field (.ref e) 4>>=_) _ _ ⟨h1,g,d,tk,os⟩;refine wpAny_bind (vy Y rfl (x:= .none) rfl ?_);show wpAny _ _ (mkInt c>>=_) _ _ ⟨h1,g,d,tk,os⟩;refine wpAny_bind (wpAny_mkInt ?_);show wpAny _ _ (setField (.ref e) 3 (rawInt (c+1))>>=_) _ _ ⟨h1,g,d,tk+1,os⟩;refine wpAny_bind (U3 Y (by simp) fun h2 Z s2=> ?_)
 replace s2:Heap.SameBut e h1 h2:=s2
 replace Z:IsEnum h2 e j (c+1) B:=Z
 show wpAny _ _ (setField (.ref e) 4 .none>>=_) _ _ ⟨h2,g,d,tk+1,os⟩;refine wpAny_bind (U3 Z (by simp) fun M e3 O=> ?_)
 replace O:Heap.SameBut e h2 M:=O
 replace e3:IsEnum M e j (c+1) B:=e3
 show wpAny _ _ (newTuple [.int c tk,x]>>=_) _ _ ⟨M,g,d,tk+1,os⟩;refine wpAny_bind (wpAny_newTuple ?_);have e4:IsEnum (M.push {cls:= .type "tuple",data:= .seq #[.int c tk,x]}) e j (c+1) B:=u8 _ e3;generalize R:M.push {cls:= .type "tuple",data:= .seq #[.int c tk,x]}=h4 at e4;have sz:M.objs.size=I.objs.size:=by rw [O.1,s2.1,s1.1]
 have el:e<I.objs.size:=uj he;have t4:h4.get? I.objs.size=some {cls:= .type "tuple",data:= .seq #[.int c tk,x]}:=by rw [<-R,<-sz];exact ug _ rfl
 have n4:h4.objs.size=I.objs.size+1:=by rw [<-R,vN,sz]
 have k4:∀b o,b≠e->b≠j->I.get? b=some o->h4.get? b=some o:=fun b o L bj y=>by
  rw [<-R];exact u8 _ (O.extBut b o L (s2.extBut b o L (s1.extBut b o bj y)))
 have j4:h4.IsTupleIter j t (i+1):=by
  obtain⟨o,y,r⟩:=j1;exact⟨o,by rw [<-R];exact u8 _ (O.extBut j o (vZ U) (s2.extBut j o (vZ U) y)),r⟩
 show wpAny _ _ (Builtin.SmallTypes.ownedTupleIsFree (.ref e)>>=_) _ _ ⟨h4,g,d,tk+1,os⟩;rw [sz];clear R e3 O Z s2 Y s1 j1 sz M h2 h1;refine wpAny_bind ?_;unfold Builtin.SmallTypes.ownedTupleIsFree;refine wpAny_bind (vy e4 rfl (x:= .none) rfl (u0 ?_));simp only [if_true];refine wpAny_bind (vm ?_);refine wpAny_bind (vy e4 rfl (x:=B) rfl ?_);refine wpAny_bind (U3 e4 (by simp) fun h5 e5 s5=> ?_)
 replace s5:Heap.SameBut e h4 h5:=s5
 replace e5:IsEnum h5 e j (c+1) x:=e5
 show wpAny _ _ (Builtin.SmallTypes.ownedTupleHandOut (.ref e) (.ref I.objs.size)>>=_) _ _ ⟨h5,g,d,tk+1,os⟩;refine wpAny_bind ?_;unfold Builtin.SmallTypes.ownedTupleHandOut;refine wpAny_bind (U3 e5 (by simp) fun h6 e6 s6=> ?_)
 replace s6:Heap.SameBut e h5 h6:=s6
 replace e6:IsEnumOut h6 e j (c+1) x I.objs.size:=e6
 refine U3 e6 (by simp) fun h7 e7 s7=> ?_
 replace s7:Heap.SameBut e h6 h7:=s7
 replace e7:IsEnumOut h7 e j (c+1) x I.objs.size:=e7
 have up:∀b o,b≠e->h4.get? b=some o->h7.get? b=some o:=fun b o L y=>s7.extBut b o L (s6.extBut b o L (s5.extBut b o L y));refine wpAny_bind (wpAny_letGo (u0 ⟨_,rfl,q h7 e7 ?_ (up _ _ (Nat.ne_of_gt el) t4) ?_ fun b o L bj y=>up b o L (k4 b o L bj y)⟩))
 ·obtain⟨o,y,r⟩:=j4;exact⟨o,up j o (vZ U) y,r⟩
 ·rw [s7.1,s6.1,s5.1,n4]
theorem enum_go {e j t:Addr}{i:Nat}{c:Int}{its:Array Value}{x B:Value}{Q:Option Value->Shared->Prop}(I:IsEnum s.heap e j c B)(L:s.heap.IsTupleIter j t i)(M:s.heap.IsTuple t its)(O:its[i]? =some x)(R:e≠j)
  (q:∀h2,IsEnumOut h2 e j (c+1) x s.heap.objs.size->h2.IsTupleIter j t (i+1)->h2.get? s.heap.objs.size=some {cls:= .type "tuple",data:= .seq #[.int c s.toks,x]}->h2.objs.size=s.heap.objs.size+1->
   (∀b o,b≠e->b≠j->s.heap.get? b=some o->h2.get? b=some o)->Q (some (.ref s.heap.objs.size)) {s with heap:=h2,toks:=s.toks+1}):wpAny (model prog w) A (pyNext (.ref e)) Q E s:=by
 have te:s.TypeIs (.ref e) "enumerate":=⟨_,I,rfl⟩;unfold pyNext;exact wpAny_bind (vL (uw (name:=Str.ofString "__next__") te U7
  (uq U7 te F.entry_enumerate_next (enumt I L M O R fun h2 U Y Z b4 b5=>u0 (q h2 U Y Z b4 b5)) (F.args_enumerate_next_1 _))))
theorem enum_stop {e j t:Addr}{i:Nat}{c:Int}{its:Array Value}{B:Value}{Q:Option Value->Shared->Prop}(L:A.handled=none)(I:IsEnum s.heap e j c B)(M:s.heap.IsTupleIter j t i)(O:s.heap.IsTuple t its)(R:its[i]? =none)
  (q:∀h2,Heap.ExtBut j s.heap h2->Q none {s with heap:=h2}):wpAny (model prog w) A (pyNext (.ref e)) Q E s:=by
 have te:s.TypeIs (.ref e) "enumerate":=⟨_,I,rfl⟩;unfold pyNext;refine wpAny_bind (vL (uw (name:=Str.ofString "__next__") te U7
  (uq U7 te F.entry_enumerate_next ?_ (F.args_enumerate_next_1 _))))
 show wpAny _ _ (field (.ref e) 2>>=_) _ _ _;refine wpAny_bind (vy I rfl (x:= .ref j) rfl ?_);refine wpAny_bind (tdraw_end L M O R fun h2 y s2 U=> ?_);obtain⟨o,g,c⟩:=U;refine wpAny_bind (wpAny_isInstance (T:="StopIteration") (b:=true) ⟨o,g,c⟩ isSubtype_stop ?_);exact u0 (q _ s2)
theorem w_tc (T:String)(args:List Value)(kw:List (Str×Value)):(Code.builtin "type.__call__" ⟨.type T::args,kw⟩).weight=0:=rfl
theorem new_kw {T I:String}{Bn:Builtin}{args:List Value}{kw:List (Str×Value)}{S:PySem.Spec}{Q:Value->Shared->Prop}(B:TypeCalled T I "object.__init__")
  (ab:(some I !=some "object.__new__")=true) (ac:checkTypeCall T ⟨args,kw⟩=pure ()) (M:checkBuiltinCall I ⟨.type T::args,kw⟩=pure ())
  (hok:∀obj,argsOk "object.__init__" ⟨obj::args,kw⟩) (en:entryFor table I=some Bn) (g:Meets (Bn ⟨.type T::args,kw⟩) S)
  (h:S A.in1 (wants (fun obj s1=>s1.TypeIs obj T/\Q obj s1) E) s):wpAny (model prog w) A (call (.type T) args kw) Q E s:=by
 obtain⟨c,tl,hm⟩:=B.mro;have O:=B.made;have aa:=B.sub;refine wpAny_call (codeAny_of_tree ?_);show wpAny _ _ (callAny (.type T) _) _ _ _;refine u0 ⟨Code.quiet_builtin _ (by decide+kernel),Ur F.entry_type_call ?_⟩
 rw [Around.under_plain (w_tc T args kw) (units_type_call_type T args kw)];have g1:=B.notType;have g2:=B.canCreate
 repeat (any_goals (first|assumption|wp_step))
 refine vX (codeAny_call_builtin B.plain en (Uu M (g prog w A.in1 _ s h))) fun r s1 U=> ?_;cases r with
 |error e=>exact U
 |ok fl=>
  cases fl with
  |ret obj=>
   obtain⟨Y,hq⟩:=U;have ad:=B.init.lookup;have ae:=B.init.bind obj
   repeat (any_goals (first|assumption|wp_step))
   have gi:Meets (Builtin.«object.__init__» ⟨obj::args,kw⟩) (fun _ R s=>s.TypeIs obj T/\R (.ok (.ret .none)) s):=by
    refine Meets.of_wp fun prog w A R s hs=> ?_;obtain⟨Y,hq⟩:=hs;cases hc:(!args.isEmpty|| !kw.isEmpty) with
    |false=>
     show wpAny _ _ (if(!args.isEmpty|| !kw.isEmpty)=true then _ else _) _ _ _
     rw [if_neg (by rw [hc];exact uf)]
     exact u0 ⟨_,rfl,hq⟩
    |true=>
     repeat (any_goals (first|assumption|wp_step))
     exact⟨_,rfl,hq⟩
   refine vX (codeAny_call_builtin B.init.plain F.entry_object_init (B.init.check _ _ _ _ _ _ _ _ Y (hok obj) (gi prog w A.in1 (wants (fun r s2=>r= .none/\Q obj s2) E) s1 ⟨Y,rfl,hq⟩))) fun r2 s2 L=> ?_;cases r2 with
   |error e=>exact L
   |ok Z=>
    cases Z with
    |ret r=>
     obtain⟨rfl,hq⟩:=L
     repeat (any_goals (first|assumption|wp_step))
    |_=>exact L.elim
  |_=>exact U.elim
end
end AwZ
namespace L2
open PySem PySem.Spec PyProof.Rows
def Its (x:Str):It:=⟨fun i _=>i<x.cps.size,fun i H v H'=>H'=H/\∃c,x.cps[i]? =some c/\v= .str ⟨#[c]⟩,fun i _=>i=x.cps.size⟩
theorem turn_str {P:Program}{w:World}{K:PySem.W.Frag}{tg:Expr}{x:Str}{t:Tok}{it:Addr}(ty:String)(B:ty="str_ascii_iterator"∨ty="str_iterator"):
  Turn P w K tg (Its x) [it] it (fun i h=>h.IsStrIter it ty x t i) where
 mem:=by simp
 obj:=fun i h st b L=>by
  have e:b=it:=by simpa using L
  subst e;obtain⟨o,e,c,d⟩:=st;exact⟨o,e,fun v z=>by rw [d] at z;cases z⟩
 keep:=fun i h h' st k=>by
  obtain⟨o,e,r⟩:=st;exact⟨o,k it (by simp) o e,r⟩
 item:=by
  intro X U Y Z M i pins s σ H E I R st hg;subst U Y Z;obtain⟨f0,f1,f2,f3,f4,f5⟩:=R it (by simp)
  have W:Walks X.prog X.w X.A it [it] [it] x.cps.size (SignAt x) (fun i h=>h.IsStrIter it ty x t i):=by
   rcases B with rfl|rfl
   ·exact Walks.strAscii (I.ok.hd M) it x t
   ·exact Walks.strWide (I.ok.hd M) it x t
  refine uT (n:=1) I.tk (W.item i s _ _ hg st fun v h' tk hv O kk=> ?_);intro htk;obtain⟨c,u,hx,rfl⟩:=hv;have I1:Inv X pins σ H {s with heap:=h',toks:=tk}:=I.turned (fun b o L e=>kk b o (by simpa using L) e) f0 f1 f3 f4 f5
  obtain⟨o,e,c',d⟩:=id O;refine⟨_,rfl,go_of (s:={s with heap:=h',toks:=tk}) e c' d (by rcases B with rfl|rfl<;>decide) ⟨.str ⟨#[c]⟩,H,I1,⟨u,rfl⟩,⟨rfl,c,hx,rfl⟩,O,fun b L=>(R b L).1⟩⟩
 done:=by
  intro X U Y Z M i pins s σ H E I R st hg;subst U Y Z;have aa:i=x.cps.size:=hg;subst aa;obtain⟨f0,f1,f2,f3,f4,f5⟩:=R it (by simp)
  have W:Walks X.prog X.w X.A it [it] [it] x.cps.size (SignAt x) (fun i h=>h.IsStrIter it ty x t i):=by
   rcases B with rfl|rfl
   ·exact Walks.strAscii (I.ok.hd M) it x t
   ·exact Walks.strWide (I.ok.hd M) it x t
  exact uT (n:=1) I.tk (W.done s _ _ st fun h' tk kk htk=>⟨rfl,I.turned (fun b o L e=>kk b o (by simpa using L) e) f0 f1 f3 f4 f5⟩)
 self:=fun _ _ _ _ _ st h=>by
  rcases B with rfl|rfl
  ·exact wpAny_pyIter_striter_ascii st h
  ·exact wpAny_pyIter_striter_wide st h
section
variable {X:Cx}{tg:Expr}
def iStr (tl:TE):TI:=fun σ H R=>tl σ H fun x H1=>∃z,x= .str z/\R (Its z) H1
theorem pi_str {l:Expr}{tl:TE}(L:PE X l tl):PI X tg l (iStr tl):=by
 intro pins s σ H R I h;refine thn (L pins s σ H _ I h) fun v s1 ⟨x,H1,B,M,q1⟩=> ?_;obtain⟨z,e,q⟩:=q1;subst e;obtain⟨t,rfl⟩:=M;have fp:∀(o:Obj),∀b∈ [s1.heap.objs.size],FpOk X pins H1 b:=fun o b O=>by
  have e:b=s1.heap.objs.size:=by simpa using O
  subst e;exact B.fpOk (Nat.le_refl _) (B.hok.fresh (Nat.le_refl _))
 cases ha:z.cps.all (·<128)
 ·refine wpAny_pyIter_wide ha ?_;exact⟨s1.heap.objs.size,[s1.heap.objs.size],_,_,H1,rfl,B.kept (t':=s1.toks) fun b o e=>u8 _ e,turn_str "str_iterator" (.inr rfl),⟨_,ug _ rfl,rfl,rfl⟩,fp default,q⟩
 ·refine wpAny_pyIter_ascii ha ?_;exact⟨s1.heap.objs.size,[s1.heap.objs.size],_,_,H1,rfl,B.kept (t':=s1.toks) fun b o e=>u8 _ e,turn_str "str_ascii_iterator" (.inl rfl),⟨_,ug _ rfl,rfl,rfl⟩,fp default,q⟩
theorem qO {K:PySem.W.Frag}(L:X.K=K):yx X (.builtin "isinstance") (fun xs H Q=>∃x T t b,xs= [x,.ty T]/\TyOf K H x t/\PySem.W.kitOne K t (.type T)=some b/\Q (.bl b) H):=by
 intro pins s σ H xs us Q I r h;obtain⟨x,T,t,b,rfl,ty,e,q⟩:=h;obtain⟨u,O,rfl,M,B⟩:=vals2 r;cases B;subst L;exact uT (n:=1) I.tk (isinst_ok I M ty e fun tk htk=>⟨.bl b,H,I.tok tk,rfl,q⟩)
theorem all_range:∀bs:List Bool,(List.range bs.length).all (fun i=>bs.getD i true)=bs.all id
 | []=>rfl
 |b::r=>by
  rw [uy,List.range_succ_eq_map,vK,U8,vK];have e:(List.range r.length).all ((fun i=>(b::r).getD i true)∘Nat.succ)=(List.range r.length).all fun i=>r.getD i true:=by
   congr 1
  rw [e,all_range r]
  rfl
theorem jD (Z:X.calm=true):yx X (.builtin "all") (fun xs H Q=>∃(p:Addr) (bs:List Bool),xs= [.ref p]/\SqL X.K H p (bs.map V.bl)/\Q (.bl (bs.all id)) H):=by
 intro pins s σ H xs us Q I r h;obtain⟨p,bs,rfl,hp,q⟩:=h;obtain⟨u,rfl,ru⟩:=yn r;cases ru;obtain⟨its,U,pl,hz⟩:=I.list hp;have O:p<s.heap.objs.size:=by obtain⟨o,n,e,_⟩:=pl;exact uj e
 refine uT (n:=1) I.tk ?_;refine call_all_walk (wpAny_pyIter_list pl.isList ?_);have up:∀b o,s.heap.get? b=some o->(s.heap.push {cls:= .type "list_iterator",data:= .fields #[.ref p,.int 0 0]}).get? b=some o:=fun b o e=>u8 _ e;have hl:its.length=bs.length:=by have:=U.length;simpa using this.symm
 refine⟨s.heap.objs.size,_,_,_,_,_,fun i=>bs.getD i true,rfl,Walks.list (show X.A.in1.handled=none from I.ok.hd Z) s.heap.objs.size p (uA O) its.toArray,⟨⟨_,ug _ rfl,rfl,rfl⟩,pl.isList.push _⟩,?_,?_⟩
 ·intro i v s' Q' E' hv hQ;have B:its[i]? =some v:=by simpa using hv
  have hi:i<its.length:=(List.getElem?_eq_some_iff.mp B).1;obtain⟨u,Y,e2⟩:=U.get (i:=i) (x:= .bl (bs[i]'(by omega))) (by simp [show i<bs.length by omega])
  rw [B] at Y;cases Y;cases e2;have:bs.getD i true=bs[i]'(by omega):=by simp [List.getD,show i<bs.length by omega]
  have L:Q' (bs.getD i true) s':=hQ;rw [this] at L;exact uK L
 ·intro h' tk kk htk;have M:(List.range its.toArray.size).all (fun i=>bs.getD i true)=bs.all id:=by
   rw [ud,hl];exact all_range bs
  rw [M];have I1:=I.kept (t':=s.toks) (h':=s.heap.push {cls:= .type "list_iterator",data:= .fields #[.ref p,.int 0 0]}) up;have R:=I.fpOk (Nat.le_refl _) (I.hok.fresh (Nat.le_refl s.heap.objs.size));obtain⟨f0,f1,f2,f3,f4,f5⟩:=R;exact⟨.bl (bs.all id),H,I1.turned (it:=s.heap.objs.size) (fun b o hb e=>kk b o (by simpa using hb) e) f0 f1 f3 f4 f5,rfl,q⟩
end
section
variable {X:Cx}
theorem op_repS:OpR X (binaryOp .Mult) (fun x y H Q=>∃z k,x= .str z/\y= .int k/\MulOk z k/\Q (.str (Txt.mul z k)) H):=by
 intro pins s σ H x y v u Q I B L h;obtain⟨z,k,rfl,rfl,hok,q⟩:=h;obtain⟨t,rfl⟩:=B;obtain⟨t',rfl⟩:=L;exact uT (n:=1) I.tk (SB.mul hok fun t' M htk=>⟨.str (Txt.mul z k),H,I.tok M,⟨t',rfl⟩,q⟩)
theorem pe_gI {x:Str}{i:Int}{pos:Pos}(B:Gl X x)(hm:∃t,X.mg x=some (.int i t))(hd:(x==("__debug__":Str))=false:=by decide):PE X (.Name x pos) (tC (.int i)):=by
 obtain⟨t,hm⟩:=hm;exact pe_glob B hm ⟨t,rfl⟩ hd
theorem pe_gS {x z:Str}{pos:Pos}(B:Gl X x)(hm:∃t,X.mg x=some (.str z t))(hd:(x==("__debug__":Str))=false:=by decide):PE X (.Name x pos) (tC (.str z)):=by
 obtain⟨t,hm⟩:=hm;exact pe_glob B hm ⟨t,rfl⟩ hd
theorem pe_gR {x:Str}{a:Addr}{pos:Pos}(B:Gl X x)(hm:X.mg x=some (.ref a))(hd:(x==("__debug__":Str))=false:=by decide):PE X (.Name x pos) (tC (.ref a)):=pe_glob B hm rfl hd
end
theorem qb {H:Hp}{p:Addr}(h:H p=none)(o:HO):Same H (upd H p o):=fun b u q=>by rw [qi (qf q h)];exact q
def Kept (p:Addr)(H H':Hp):Prop:=∀b o,H b=some o->b≠p->H' b=some o
theorem Kept.trans {p:Addr}{H H1 H2:Hp}(a:Kept p H H1)(b:Kept p H1 H2):Kept p H H2:=fun c o h n=>b c o (a c o h n) n
theorem Same.kept {p:Addr}{H H':Hp}(e:Same H H'):Kept p H H':=fun b o h _=>e b o h
theorem Kept.upd (p:Addr)(H:Hp)(o:HO):Kept p H (L2.upd H p o):=fun b u h n=>by rw [qi n];exact h
theorem Kept.same {p:Addr}{H H1 H':Hp}(k:Kept p H1 H')(s:Same H H1)(n:H p=none):Same H H':=fun b o h=>k b o (s b o h) (qf h n)
def clOf (cells:List (Str×Addr)):List (Str×NameKind)->List (Str×Addr)->List (Str×Addr)
 | [],cs=>cs
 |(n,k)::r,cs=>clOf cells r (if k== .free then(match cells.lookup n with|some a=>(n,a)::cs|none=>cs) else cs)
theorem J9 {cells:List (Str×Addr)}:∀{names:List (Str×NameKind)}{cs:List (Str×Addr)},(∀y c,cs.lookup y=some c->cells.lookup y=some c)->∀y c,(clOf cells names cs).lookup y=some c->cells.lookup y=some c
 | [],_,h=>h
 |(n,k)::r,cs,h=>by
  unfold clOf;refine J9 fun y c e=> ?_;split at e
  ·split at e
   ·rename_i a ha
    rw [uI] at e;split at e
    ·rename_i I
     have B:y=n:=beq_iff_eq.mp I;subst B;cases e;exact ha
    ·exact h y c e
   ·exact h y c e
  ·exact h y c e
theorem clOf_keep {cells:List (Str×Addr)}:∀{names:List (Str×NameKind)}{cs:List (Str×Addr)}{y:Str},(∃c,cs.lookup y=some c)->∃c,(clOf cells names cs).lookup y=some c
 | [],_,_,h=>h
 |(n,k)::r,cs,y,h=>by
  unfold clOf;refine clOf_keep ?_;split
  ·split
   ·rw [uI];split
    ·exact⟨_,rfl⟩
    ·exact h
   ·exact h
  ·exact h
theorem JQ {cells:List (Str×Addr)}:∀{names:List (Str×NameKind)}{cs:List (Str×Addr)}{y:Str},(y,NameKind.free)∈names->(∃c,cells.lookup y=some c)->∃c,(clOf cells names cs).lookup y=some c
 | [],_,_,h,_=>nomatch h
 |(n,k)::r,cs,y,h,B=>by
  unfold clOf;rcases List.mem_cons.mp h with e|h
  ·cases e;refine clOf_keep ?_;obtain⟨c,B⟩:=B;rw [if_pos (by rfl),B]
   exact⟨c,by simp [uI]⟩
  ·exact JQ h B
theorem YW {env:Env}:∀{names:List (Str×NameKind)}{cs:List (Str×Addr)},(∀y,(y,NameKind.free)∈names->∃c,env.cells.lookup y=some c)->
  (forIn names cs fun x r=>(do
   if x.2== .free then
    let a<-cellOf env x.1
    pure (ForInStep.yield ((x.1,a)::r))
   else pure (ForInStep.yield r):Sem (ForInStep (List (Str×Addr)))))=(pure (clOf env.cells names cs):Sem (List (Str×Addr)))
 | [],cs,_=>rfl
 |(n,k)::r,cs,h=>by
  rw [List.forIn_cons];have I:∀y,(y,NameKind.free)∈r->∃c,env.cells.lookup y=some c:=fun y M=>h y (u9 _ M);unfold clOf;by_cases hk:(k==NameKind.free)=true
  ·have B:k= .free:=by simpa using hk
   subst B;obtain⟨c,L⟩:=h n ua;have e:cellOf env n=pure c:=by unfold cellOf;rw [L]
   simp only [hk,if_true,e,L,pure_bind];exact YW I
  ·simp only [if_neg hk,pure_bind];exact YW I
theorem Js {scope:Scope}{env:Env}(h:∀y,(y,NameKind.free)∈scope.names->∃c,env.cells.lookup y=some c):closureFor scope env=pure (clOf env.cells scope.names []):=by
 unfold closureFor;have q:=YW (cs:= []) h;show(forIn scope.names ([]:List (Str×Addr)) (fun x r=>(do
   if x.2== .free then
    let a<-cellOf env x.1
    pure (ForInStep.yield ((x.1,a)::r))
   else pure (ForInStep.yield r):Sem (ForInStep (List (Str×Addr)))))>>=fun cs=>pure cs)=_
 rw [q,pure_bind]
theorem ji {env:Env}(L:env.scope.kind= .function):∀{names:List (Str×NameKind)}{x:Str},names.lookup x=some .free->env.kindOf x=some .cell->
  (names.map fun(n,k)=>if(k==NameKind.free&&env.scope.kind== .function&&env.kindOf n==some .cell) then(n,NameKind.cell) else(n,k)).lookup x=some .cell
 | [],_,h,_=>by simp at h
 |(n,k)::r,x,h,hc=>by
  have M:= @ji env L r x;show List.lookup x ((if(k==NameKind.free&&env.scope.kind== .function&&env.kindOf n==some .cell)=true then(n,NameKind.cell) else(n,k))::_)=_
  cases hx:x==n with
  |true=>
   simp only [uI,hx] at h;cases h;have I:x=n:=beq_iff_eq.mp hx;subst I;rw [if_pos (by rw [L,hc];rfl)]
   simp [uI]
  |false=>
   simp only [uI,hx] at h;by_cases B:(k==NameKind.free&&env.scope.kind== .function&&env.kindOf n==some .cell)=true
   ·rw [if_pos B];simp only [uI,hx];exact M h hc
   ·rw [if_neg B];simp only [uI,hx];exact M h hc
theorem jt {env:Env}:∀{names:List (Str×NameKind)}{x:Str},(∀y∈names,y.2≠ .cell)->
  ((names.map fun(n,k)=>if(k==NameKind.free&&env.scope.kind== .function&&env.kindOf n==some .cell) then(n,NameKind.cell) else(n,k)).lookup x=some .cell∨
   (names.map fun(n,k)=>if(k==NameKind.free&&env.scope.kind== .function&&env.kindOf n==some .cell) then(n,NameKind.cell) else(n,k)).lookup x=some .free)->(x,NameKind.free)∈names
 | [],_,_,h=>by simp at h
 |(n,k)::r,x,hn,h=>by
  have M:= @jt env r x (fun y O=>hn y (u9 _ O));have g:List.lookup x ((if(k==NameKind.free&&env.scope.kind== .function&&env.kindOf n==some .cell)=true then(n,NameKind.cell) else(n,k))::(r.map fun(n,k)=>if(k==NameKind.free&&env.scope.kind== .function&&env.kindOf n==some .cell) then(n,NameKind.cell) else(n,k)))=some .cell∨
   List.lookup x ((if(k==NameKind.free&&env.scope.kind== .function&&env.kindOf n==some .cell)=true then(n,NameKind.cell) else(n,k))::(r.map fun(n,k)=>if(k==NameKind.free&&env.scope.kind== .function&&env.kindOf n==some .cell) then(n,NameKind.cell) else(n,k)))=some .free:=h
  have L:k≠ .cell:=hn (n,k) ua;by_cases I:(k==NameKind.free&&env.scope.kind== .function&&env.kindOf n==some .cell)=true
  ·rw [if_pos I] at g;have hk:k= .free:=by
    rw [uh,uh] at I
    simpa using I.1.1
   subst hk;cases hx:x==n with
   |true=>
    have B:x=n:=beq_iff_eq.mp hx;subst B;exact ua
   |false=>
    simp only [uI,hx] at g;exact u9 _ (M g)
  ·rw [if_neg I] at g;cases hx:x==n with
   |true=>
    have B:x=n:=beq_iff_eq.mp hx;subst B;simp only [uI,hx] at g;rcases g with g|g
    ·exact absurd (uL g) L
    ·rw [show k=NameKind.free from uL g]
     exact ua
   |false=>
    simp only [uI,hx] at g;exact u9 _ (M g)
abbrev blk (X:Cx)(scope:Scope)(Nb:List Str)(cl:List (Str×Addr))(C:Addr)(s₀:Shared)(H₀:Hp)(fp:List Addr)(pn:List (Addr×Obj)):Cx:=
 {X with N:=Nb,s₀:=s₀,H₀:=H₀,env:=compEnvC scope cl C X.env,outer:=X.stack,ex:=fp,fn:=fun _=>false,pn:=pn,xe:=fun _ _=>False}
structure LcS (X:Cx)(scope:Scope)(Nb:List Str)(nt:Nat)(fr:List Nat):Prop where
 kind:scope.kind= .function
 cell:∀y∈scope.names,y.2≠ .cell
 names:∀y∈scope.names,y.2= .local->scope.names.lookup y.1=some .local
 free:∀y∈scope.names,y.2= .free->X.env.kindOf y.1=some .cell
 len:Nb.length=nt+fr.length
 fr:∀(k j:Nat) (x:Str),fr[k]? =some j->Nb[nt+k]? =some x->X.N[j]? =some x/\scope.names.lookup x=some .free
def sigB (nt:Nat)(fr:List Nat)(σ:St):St:=List.replicate nt none++fr.map fun j=>(σ[j]?).join
section
variable {pr:Program}{wo:World}{ar:Around}{RR:Result->Shared->Prop}{st:Shared}
abbrev nb (pr:Program)(wo:World)(ar:Around)(en:Env)(RR:Result->Shared->Prop):Value->Shared->Prop:=notedBy (model pr wo) ar en fun x t=>RR (.error x) t
abbrev tsts (en:Env)(cs:List Expr):Sem Bool:=forIn cs true fun c b=>if b=true then do let y<-isTrue c en (eval c en);pure (ForInStep.yield y) else pure (ForInStep.yield b)
theorem compLoop_by {O tg L:Expr}{cs:List Expr}{sc:Scope}{ps:Pos}{B I:Value}{en:Env}(J:Nat->Shared->Prop)
  (M:∀k t,J k t->wpAny (model pr wo) ar (pyNext B) (fun r R=>match r with
   |none=>RR (.ok .next) R
   |some v=>wpAny (model pr wo) ar (letOwnedTupleGo tg B v) (fun _ Y=>wpAny (model pr wo) ar (assign tg en v) (fun _ Z=>wpAny (model pr wo) ar (tsts en cs) (fun b U=>
     if b=true then wpAny (model pr wo) ar (eval O en) (fun x t5=>wpAny (model pr wo) ar (call (.builtin "list.append") [I,x]) (fun _ t6=>∃m,m<k/\J m t6) (nb pr wo ar en RR) t5) (nb pr wo ar en RR) U
     else∃m,m<k/\J m U) (nb pr wo ar en RR) Z) (nb pr wo ar en RR) Y) (nb pr wo ar en RR) R) (nb pr wo ar en RR) t)
  (k:Nat) (h0:J k st):codeAny (model pr wo) ar (.compLoop (.ListComp O [⟨tg,L,cs,0⟩] sc ps) 0 B I en) RR st:=by
 refine codeAny_loop rfl J (fun k t hJ=> ?_) k h0;show wpAny _ ar ((compTurn (.ListComp O [⟨tg,L,cs,0⟩] sc ps) 0 B I en).onRaise fun x=>do noteFrame x en;theTreesLotGoes x) _ _ t
 rw [compTurn_list];refine wpAny_noted (wpAny_bind (wpAny_standAt (wpAny_bind (thn (M k t hJ) fun r R q1=> ?_))));cases r with
 |none=>exact u0 q1
 |some v=>
  refine wpAny_bind (thn q1 fun _ Y q2=>wpAny_bind (thn q2 fun _ Z q3=>wpAny_bind (thn q3 fun b U q4=> ?_)));cases b with
  |false=>exact u0 ⟨rfl,q4⟩
  |true=>exact wpAny_bind (wpAny_bind (thn q4 fun x t5 q5=>wpAny_bind (thn q5 fun _ t6 q6=>u0 (u0 ⟨rfl,q6⟩))))
end
def PIfs (X:Cx)(ifs:List Expr)(t:TT):Prop:=
 ∀(pins:List (Addr×Obj)) (s:Shared) (σ:St) (H:Hp) (Q:Bool->Hp->Prop),Inv X pins σ H s->t σ H Q->wpAny (model X.prog X.w) X.A (tsts X.env ifs) (TP X pins σ Q) X.xe s
def tYes:TT:=fun _ H Q=>Q true H
theorem yj {X:Cx}:PIfs X [] tYes:=fun _ _ _ H _ I h=>wpAny_tests_nil ⟨H,I,h⟩
theorem pif_one {X:Cx}{c:Expr}{t:TT}(h:PT X c t):PIfs X [c] t:=fun pins s σ H Q I B=>wpAny_tests_one (h pins s σ H Q I B)
def lcGo (D:Addr)(J:It)(g:TG)(tc:TT)(te:TE)(σb:St)(H1:Hp)(Q:VK):Prop:=
 ∃(n:Nat) (W:Nat->St->List V->Hp->Prop),n<=sizeLine/\W 0 σb [] (upd H1 D (.lst []))/\
  (∀i σ ys H,i<n->W i σ ys H->H D=some (.lst ys)->ys.length<=i->J.go i H/\∀x H',J.yld i H x H'->g x σ H' fun σ2 H2=>tc σ2 H2 fun b H3=>
   if b=true then te σ2 H3 fun y H4=>H4 D=some (.lst ys)/\W (i+1) σ2 (ys++ [y]) (upd H4 D (.lst (ys++ [y]))) else H3 D=some (.lst ys)/\W (i+1) σ2 ys H3)/\
  ∀σ ys H,W n σ ys H->H D=some (.lst ys)->J.stop n H/\Q (.ref D) H
def tLC (nt:Nat)(fr:List Nat)(wi:TI)(g:TG)(tc:TT)(te:TE):TE:=fun σ H Q=>wi σ H fun J H1=>∀D,H1 D=none->lcGo D J g tc te (sigB nt fr σ) H1 Q
section
variable {X:Cx}{scope:Scope}{Nb:List Str}{nt:Nat}{fr:List Nat}
theorem inv_blk {pins:List (Addr×Obj)}{σ:St}{H:Hp}{s:Shared}{fp:List Addr}{C:Addr}{h4:Heap}{tk:Nat}(S:LcS X scope Nb nt fr)(I:Inv X pins σ H s)(hC:C=s.heap.objs.size)
  (ac:h4.Ns C fun _=>none) (L:∀b o,s.heap.get? b=some o->h4.get? b=some o) (hf:∀b∈fp,FpOk X pins H b) (ho:∀b∈fp,∃o,s.heap.get? b=some o) (ht:0<tk:=by((try dsimp only);first|assumption|exact Inv.tk (by assumption)|exact Nat.succ_pos _|exact Nat.lt_of_lt_of_le (Inv.tk (by assumption)) (by assumption)|exact Nat.add_pos_left (Inv.tk (by assumption)) _|omega)):
  Inv (blk X scope Nb (clOf X.env.cells scope.names []) C s H fp (X.pn++pins)) [] (sigB nt fr σ) H {s with heap:=h4,toks:=tk}:=by
 subst hC;have sub:∀y c,(clOf X.env.cells scope.names []).lookup y=some c->X.env.cells.lookup y=some c:=J9 fun y c e=>by simp at e
 have M:∀y,(y,NameKind.free)∈scope.names->X.env.kindOf y=some .cell:=fun y hy=>S.free _ hy rfl;have Z:∀b o,s.heap.get? b=some o->b≠s.heap.objs.size:=fun b o e z=>by rw [z] at e;exact absurd (uj e) (vG _)
 have B:∀b,b≠X.env.locals->b∉X.fs->b∉frs X.stack:=fun b h1 h2 z=>(List.mem_cons.mp (I.stkSub b z)).elim h1 h2;refine⟨⟨I.ok.mod,S.kind,I.ok.glob,I.ok.blt,Nat.le_refl _,fun x y c h1 h2=>I.ok.inj x y c (sub x c h1) (sub y c h2),fun x hx=> ?_,fun x c z=>(by cases z),I.ok.hd,I.ok.frames,.inl rfl,fun b U=> ?_,I.bs,vt I.ok.bsz I.sz,fun b o e U=> ?_,fun b U=> ?_,I.stack,I.stkFree⟩,
  rfl,I.bare,Un.kept L,⟨_,ac,fun i x v e1 O e3=> ?_⟩,fun x c e=> ?_,I.hok.fresh (Nat.le_refl _),fun x c e=>I.freeC x c (sub x c e),fun p hp=> ?_,I.hok.kept L,?_,ht⟩
 ·have hm:=jt (env:=X.env) S.cell hx;exact JQ hm (I.ok.has x (.inl (M x hm)))
 ·obtain⟨o,e⟩:=ho b U;exact⟨Z b o e,fun x c e'=>(hf b U).2.2.2.2.1 x c (sub x c e')⟩
 ·rcases(hf b U).2.2.2.1 with z|z
  ·exact I.ok.noex b o e z
  ·exact absurd (Nat.lt_of_lt_of_le (uj e) (vt I.ok.bsz z)) (vG _)
 ·exact B b (hf b U).2.1 (hf b U).2.2.1
 ·
  have hi:nt<=i:=by
   rcases uS i nt with z|z
   ·unfold sigB at O;rw [Ub (by simpa using z),List.getElem?_replicate] at O
    split at O<;>cases O
   ·exact z
  obtain⟨k,rfl⟩:∃k,i=nt+k:=⟨i-nt,by omega⟩
  unfold sigB at O;rw [Ua (by simp)] at O
  simp only [List.length_replicate,Nat.add_sub_cancel_left,um] at O;cases ej:fr[k]? with
  |none=>rw [ej] at O;cases O
  |some j=>
   rw [ej] at O;have R:(σ[j]?).join=some v:=uL O;have aa:σ[j]? =some (some v):=by
    cases q:σ[j]? with
    |none=>rw [q] at R;cases R
    |some z=>rw [q] at R;exact congrArg some R
   obtain⟨n1,n2⟩:=S.fr k j x ej e1;have kx:X.env.kindOf x=some .cell:=M x (vo n2);obtain⟨m,hn,hl⟩:=I.loc;obtain⟨u,r,l⟩:=hl j x v n1 aa (.inr (.inl kx));refine⟨u,r,.inr ⟨.inl (ji I.ok.kind n2 kx),?_⟩⟩;rcases l with⟨z,_⟩|⟨_,c,ec,Y⟩
   ·rw [kx] at z;cases z
   ·obtain⟨c',ab⟩:=JQ (cells:=X.env.cells) (cs:= []) (vo n2) ⟨c,ec⟩;have:=sub x c' ab;rw [ec] at this;cases this;obtain⟨o,q,d⟩:=Y;exact⟨c,ab,o,L c o q,d⟩
 ·obtain⟨v,o,q,d⟩:=I.cell x c (sub x c e);exact⟨v,o,L c o q,d⟩
 ·have ad:p∈X.pn++pins:=by simpa using hp
  obtain⟨e,n,ne,nf,d⟩:=I.pin p ad;exact⟨L _ _ e,n,Z _ _ e,B _ ne nf,d⟩
 ·show(sigB nt fr σ).length=Nb.length;unfold sigB;rw [S.len];simp
theorem lc_core {tg U ag:Expr}{ah:List Expr}{wi:TI}{g:TG}{tc:TT}{te:TE}{pos:Pos}{R:Value->Addr->Result->Shared->Prop}{pins:List (Addr×Obj)}{s:Shared}{σ:St}{H:Hp}{Q:VK}(S:LcS X scope Nb nt fr)(ai:X.calm=true)(hi:PI X tg U wi)
  (hg:∀cl C s₀ H₀ fp pn,PG (blk X scope Nb cl C s₀ H₀ fp pn) tg g) (hc:∀cl C s₀ H₀ fp pn,PIfs (blk X scope Nb cl C s₀ H₀ fp pn) ah tc) (he:∀cl C s₀ H₀ fp pn,PE (blk X scope Nb cl C s₀ H₀ fp pn) ag te)
  (I:Inv X pins σ H s) (h:tLC nt fr wi g tc te σ H Q)
  (hR:∀(D C:Addr) (H':Hp) (s1:Shared) (m:Str->Option Value),Inv X pins σ H' s1->s1.heap.Ns C m->FpOk X pins H' C->Q (.ref D) H'->R (.ref D) C (.ok .next) s1):
  wpAny (model X.prog X.w) X.A (eval U X.env) (fun x s₁=>wpAny (model X.prog X.w) X.A (pyIter x) (fun it s₂=>wpAny (model X.prog X.w) X.A (newList []) (fun ao s₃=>
   wpAny (model X.prog X.w) X.A (newFunctionEnv scope X.env.globals (clOf X.env.cells scope.names []) [] X.env.qual none .none (some X.env)) (fun ad s₄=>
    codeAny (model X.prog X.w) X.A (.compStart (.ListComp ag [⟨tg,U,ah,0⟩] scope pos) 0 it ao {ad with scope:=relabel scope X.env}) (R ao ad.locals) s₄) X.xe s₃) X.xe s₂) X.xe s₁) X.xe s:=by
 refine thn (hi pins s σ H _ I h) fun v s1 h1=>thn h1 fun aM s2 h2=> ?_;obtain⟨it,fp,tn,J,H2,e,I2,T,aj,f2,q2⟩:=h2;subst e;have ap:H2 s2.heap.objs.size=none:=I2.hok.fresh (Nat.le_refl _);obtain⟨n,W,hn,w0,step,az⟩:=q2 _ ap;generalize hD:s2.heap.objs.size=D at*;refine uD ?_;rw [hD];have I3:Inv X pins σ (upd H2 D (.lst [])) {s2 with heap:=s2.heap.push {cls:= .type "list",data:= .seq ([]:List Value).toArray}}:=by
  have:=I2.lnew (ys:= []) (its:= []) (t':=s2.toks) .nil (uG _);rw [hD] at this;exact this
 refine wpAny_newFunctionEnv S.cell (by intro y hy;simp at hy) (fun h4 aa ak=> ?_) S.kind
 dsimp only at aa ak⊢;generalize aq:s2.heap.push {cls:= .type "list",dict:=none,data:= .seq ([]:List Value).toArray}=M at aa ak I3⊢;have hC:M.objs.size=D+1:=by rw [<-aq,vN,hD]
 have ab:∀b o,M.get? b=some o->h4.get? b=some o:=fun b o e=>ak.extBut b o (uA (uj e)) (u8 _ e);have O:∀b o,s2.heap.get? b=some o->M.get? b=some o:=fun b o e=>by rw [<-aq];exact u8 _ e
 have al:∀b∈fp,∃o,s2.heap.get? b=some o:=fun b B=>let⟨o,e,_⟩:=T.obj _ _ aj b B;⟨o,e⟩;have aA:∀b∈fp,b≠D:=fun b B z=>by
  obtain⟨o,e⟩:=al b B;have q:=uj e;rw [z,hD] at q;exact vG _ q
 have f3:∀b∈fp,FpOk X pins (upd H2 D (.lst [])) b:=fun b B=>⟨by rw [qi (aA b B)];exact(f2 b B).1,(f2 b B).2⟩
 have IB:=inv_blk (C:=M.objs.size) (h4:=h4) (tk:=s2.toks+([]:List (Str×Value)).length) (fp:=fp) S I3 rfl aa ab f3 fun b B=>let⟨o,e⟩:=al b B;⟨o,O b o e⟩;generalize L:blk X scope Nb (clOf X.env.cells scope.names []) M.objs.size {s2 with heap:=M} (upd H2 D (.lst [])) fp (X.pn++pins)=Y at IB
 have gB:=hg (clOf X.env.cells scope.names []) M.objs.size {s2 with heap:=M} (upd H2 D (.lst [])) fp (X.pn++pins)
 have cB:=hc (clOf X.env.cells scope.names []) M.objs.size {s2 with heap:=M} (upd H2 D (.lst [])) fp (X.pn++pins)
 have eB:=he (clOf X.env.cells scope.names []) M.objs.size {s2 with heap:=M} (upd H2 D (.lst [])) fp (X.pn++pins)
 rw [L] at gB cB eB;have xP:Y.prog=X.prog:=by rw [<-L]
 have xW:Y.w=X.w:=by rw [<-L]
 have xK:Y.K=X.K:=by rw [<-L]
 have xA:Y.A=X.A:=by rw [<-L]
 have xC:Y.calm=true:=by rw [<-L];exact ai
 have xE:Y.env=compEnvC scope (clOf X.env.cells scope.names []) M.objs.size X.env:=by rw [<-L]
 have xX:Y.xe=fun _ _=>False:=by rw [<-L]
 have ac:∀{H':Hp},(∀b∈fp,H' b=none)->∀b∈fp,FpOk Y [] H' b:=fun hn b B=>by
  obtain⟨g1,g2,g3,g4,g5,g6⟩:=f2 b B;obtain⟨o,e⟩:=al b B;subst L;refine⟨hn b B,fun z=> ?_,fun z=>(List.mem_cons.mp (I2.stkSub b z)).elim g2 g3,.inl B,fun x c ec=>g5 x c (J9 (fun y c e=>by simp at e) x c ec),fun p hp=>g6 p (by simpa using hp)⟩
  have Z:=uj (O b o e);have z':b=M.objs.size:=z;rw [z'] at Z;exact vG _ Z
 have ae:∀s5:Shared,s5={s2 with heap:=h4,toks:=s2.toks+([]:List (Str×Value)).length}->
   codeAny (model X.prog X.w) X.A (.compLoop (.ListComp ag [⟨tg,U,ah,0⟩] scope pos) 0 (.ref it) (.ref D) (compEnvC scope (clOf X.env.cells scope.names []) M.objs.size X.env))
    (R (.ref D) M.objs.size) s5:=by
  rintro s5 rfl;refine compLoop_by (fun k s'=>∃i σ' ys H',Inv Y [] σ' H' s'/\tn i s'.heap/\(∀b∈fp,H' b=none)/\H' D=some (.lst ys)/\i<=n/\k=n-i/\ys.length<=i/\W i σ' ys H') ?_ n
   ⟨0,sigB nt fr σ,[],_,IB,T.keep _ _ _ aj fun b B o e=>ab b o (O b o e),fun b B=>(f3 b B).1,qe,uG _,rfl,Nat.le_refl _,w0⟩
  rintro k s' ⟨i,σ',ys,H',I',au,av,aw,aB,rfl,aC,w'⟩;rcases uS i n with Z|aD
  ·obtain⟨go,next⟩:=step i σ' ys H' Z w' aw aC;have ti:=T.item Y xP xW xK xC i [] s' σ' H' (fun _ _=>False) I' (ac av) au go;rw [xA] at ti;refine vx ti (fun r s1 h1=> ?_) fun _ _ z=>z.elim;obtain⟨u,rfl,h1⟩:=h1;refine vx h1 (fun _ ax aE=> ?_) fun _ _ z=>z.elim;obtain⟨x,H5,I5,r5,y5,am,aF⟩:=aE;have aG:=I5.pinned (ac aF) (T.obj _ _ am);have ga:=gB _ ax σ' H5 x u _ aG r5 (next x H5 y5);rw [xP,xW,xA,xE,xX] at ga;refine vx ga (fun _ s3 aH=> ?_) fun _ _ z=>z.elim;obtain⟨σ6,H6,I6,q6⟩:=aH;have ca:=cB _ s3 σ6 H6 _ I6 q6;rw [xP,xW,xA,xE,xX] at ca;refine vx ca (fun ok s4 aI=> ?_) fun _ _ z=>z.elim;obtain⟨H7,I7,q7⟩:=aI;have af:∀{σ8:St}{H8:Hp}{s8:Shared},Inv Y ([]++pinsAt fp ax.heap) σ8 H8 s8->Inv Y [] σ8 H8 s8/\tn (i+1) s8.heap/\∀b∈fp,H8 b=none:=fun{σ8 H8 s8} I8=>by
    refine⟨I8.unpinned,T.keep _ _ _ am fun b B o e=>(I8.pin (b,o) (ur _ (ur _ (yQ B e)))).1,fun b B=> ?_⟩;obtain⟨o,e,d⟩:=T.obj _ _ am b B;exact(I8.pin (b,o) (ur _ (ur _ (yQ B e)))).2.1
   cases ok with
   |false=>
    rw [if_neg uf] at q7⊢;obtain⟨b1,b2,b3⟩:=af I7;exact⟨n-(i+1),by omega,i+1,σ6,ys,H7,b1,b2,b3,q7.1,Z,rfl,by omega,q7.2⟩
   |true=>
    rw [if_pos rfl] at q7⊢;have ea:=eB _ s4 σ6 H7 _ I7 q7;rw [xP,xW,xA,xE,xX] at ea;refine vx ea (fun y s5 h5=> ?_) fun _ _ z=>z.elim;obtain⟨yv,H8,I8,r8,aJ,q8⟩:=h5;have ma:=QB (X:=Y) _ s5 σ6 H8 (.ref D) [yv] (.ref D) [y] (fun _ H9=>H9=upd H8 D (.lst (ys++ [yv]))) I8 rfl (.cons r8 .nil) ⟨D,ys,yv,rfl,rfl,aJ,by omega,rfl⟩
    rw [xP,xW,xA,xX] at ma;refine vx ma (fun _ s6 h6=> ?_) fun _ _ z=>z.elim;obtain⟨_,H9,I9,_,rfl⟩:=h6;obtain⟨b1,b2,b3⟩:=af I9;exact⟨n-(i+1),by omega,i+1,σ6,ys++ [yv],_,b1,b2,b3,qe,Z,rfl,by rw [ul,v6];omega,q8⟩
  ·have ay:i=n:=Nat.le_antisymm aB aD;subst ay;obtain⟨stop,hq⟩:=az σ' ys H' w' aw;have td:=T.done Y xP xW xK xC i [] s' σ' H' (fun _ _=>False) I' (ac av) au stop;rw [xA] at td;refine vx td (fun r s1 h1=> ?_) fun _ _ z=>z.elim;obtain⟨rfl,I6⟩:=h1;obtain⟨m,hm,_⟩:=id I6.loc;rw [xE] at hm;have aK:H' M.objs.size=none:=by have:=I6.free;rw [xE] at this;exact this
   have u6:Un (frs X.stack) fp (upd H2 D (.lst [])) H' M s1.heap:=by have:=I6.base;subst L;exact this
   have u2:Un (frs X.stack) fp H2 (upd H2 D (.lst [])) s2.heap M:=Un.laid (fun b o e=>O b o e) (by rw [hD];exact Nat.le_refl _) ap
   have aL:s1.os=s2.os:=by have:=I6.os;subst L;exact this
   have hok:HOk X.prog X.w H' s1.heap:=by
    have:=I6.hok;subst L;exact this
   refine hR D M.objs.size H' s1 m (I2.call' (s':=s1) (ch:=fp) aL (u2.trans u6) hok I6.bare fun b B=> ?_) hm (I2.fpOk (by omega) aK) hq
   obtain⟨g1,g2,g3,g4,g5,g6⟩:=f2 b B;exact⟨g4,g2,g5,g6⟩
 exact codeAny_compStart_list (ae _ rfl) (T.self _ 0 _ _ _ (T.keep _ _ _ aj fun b B o e=>ab b o (O b o e)) (ae _ rfl))
theorem pe_lc {tg B O:Expr}{U:List Expr}{wi:TI}{g:TG}{tc:TT}{te:TE}{pos:Pos}(S:LcS X scope Nb nt fr)(L:X.calm=true)(hi:PI X tg B wi)
  (hg:∀cl C s₀ H₀ fp pn,PG (blk X scope Nb cl C s₀ H₀ fp pn) tg g) (hc:∀cl C s₀ H₀ fp pn,PIfs (blk X scope Nb cl C s₀ H₀ fp pn) U tc) (he:∀cl C s₀ H₀ fp pn,PE (blk X scope Nb cl C s₀ H₀ fp pn) O te)
  (hs:∀x,foldedSetIterable B X.env x=pure x:=by intro _;rfl):PE X (.ListComp O [⟨tg,B,U,0⟩] scope pos) (tLC nt fr wi g tc te):=by
 intro pins s σ H Q I h;have M:closureFor scope X.env=pure (clOf X.env.cells scope.names []):=Js fun y hy=>I.ok.has y (.inl (S.free _ hy rfl));rw [eval_ListComp];refine wpAny_comprehension_free (use:=none) rfl hs M S.kind S.names ?_;refine lc_core (R:=fun Y C=>compPost (model X.prog X.w) X.A X.xe none (EP X pins σ Q) Y C) S L hi hg hc he I h fun D C H' s1 m I1 hm fc q=> ?_;obtain⟨f0,f1,f2,f3,f4,f5⟩:=fc;exact⟨m,hm,fun h' Z=>⟨.ref D,H',I1.turned (t':=s1.toks) (it:=C) (fun b o hb e=>(Z.2 b hb).trans e) f0 f1 f3 f4 f5,rfl,q⟩⟩
theorem ps_setLC {i:Nat}{y:Str}{tg B L:Expr}{M:List Expr}{wi:TI}{g:TG}{tc:TT}{te:TE}{pos O Z:Pos}(hN:X.N.Nodup)(aa:X.N[i]? =some y)(hy:Loc X.env.scope y)(S:LcS X scope Nb nt fr)(U:X.calm=true)(hi:PI X tg B wi)
  (hg:∀cl C s₀ H₀ fp pn,PG (blk X scope Nb cl C s₀ H₀ fp pn) tg g) (hc:∀cl C s₀ H₀ fp pn,PIfs (blk X scope Nb cl C s₀ H₀ fp pn) M tc) (he:∀cl C s₀ H₀ fp pn,PE (blk X scope Nb cl C s₀ H₀ fp pn) L te)
  (hs:∀x,foldedSetIterable B X.env x=pure x:=by intro _;rfl) (ab:swapsWith (.ListComp L [⟨tg,B,M,0⟩] scope pos) (some (.Name y Z)) O.line X.env=pure true:=by rfl)
  (hf:X.fn y=true∨X.env.scope.names.lookup y=some .local:=by first|exact .inl rfl|exact .inr rfl|assumption):
  PS X (.Assign [.Name y Z] (.ListComp L [⟨tg,B,M,0⟩] scope pos) O) (tAsg (tLC nt fr wi g tc te) (Yk i)):=by
 intro pins s σ H D I h;have Y:closureFor scope X.env=pure (clOf X.env.cells scope.names []):=Js fun y hy=>I.ok.has y (.inl (S.free _ hy rfl));rw [exec_Assign_Name_used _ _ _ _ ab];refine wpAny_bind (wpAny_standAt (wpAny_bind ?_));show wpAny _ X.A (do let _<-comprehension (.ListComp L [⟨tg,B,M,0⟩] scope pos) scope X.env _ (newList []) false (eval B X.env) (some (assign (.Name y Z) X.env))) _ _ s
 refine wpAny_bind (vx (wpAny_comprehension_free (use:=some (assign (.Name y Z) X.env)) (Q:=fun _ s'=>SP X pins D .next s') rfl hs Y S.kind S.names ?_) (fun _ s' hq=>u0 (u0 hq)) fun _ _ e=>e);refine lc_core (R:=fun ac C=>compPost (model X.prog X.w) X.A X.xe (some (assign (.Name y Z) X.env)) (fun _ s'=>SP X pins D .next s') ac C) S U hi hg hc he I h fun A C H' s1 m I1 hm fc q=> ?_;obtain⟨f0,f1,f2,f3,f4,f5⟩:=fc;show wpAny _ X.A (assign (.Name y Z) X.env (.ref A)) _ _ s1;refine wpAny_assign_Name (store_ok2 (v:= .ref A) I1 hN aa hy (show RelV (.ref A) (.ref A) from rfl) (fun s' I' ⟨a,sb,ha⟩=> ?_) hf)
 have ad:C≠a:=by
  rcases ha with rfl|ha
  ·exact f1
  ·exact fun z=>f4 y a ha z.symm
 refine⟨m,hm.sameBut sb ad,fun h' ae=>⟨_,H',I'.turned (t':=s'.toks) (it:=C) (fun b o hb e=>(ae.2 b hb).trans e) f0 f1 f3 f4 f5,q⟩⟩
end
theorem lcs0 {X:Cx}{sc:Scope}{x:Str}(hk:sc.kind= .function:=by rfl)(B:∀y∈sc.names,y.2≠ .cell:=by decide+kernel)(hn:∀y∈sc.names,y.2= .local->sc.names.lookup y.1=some .local:=by decide+kernel)
  (I:∀y∈sc.names,y.2≠ .free:=by decide+kernel):LcS X sc [x] 1 []:=⟨hk,B,hn,fun y L e=>absurd e (I y L),rfl,fun k j x h=>by simp at h⟩
theorem lcsN {X:Cx}{sc:Scope}{Nb:List Str}{nt:Nat}{fr:List Nat}(B:Scope)(Nf:List Str)(I:X.env.scope=B:=by rfl)(L:X.N=Nf:=by rfl)(hk:sc.kind= .function:=by rfl)(M:∀y∈sc.names,y.2≠ .cell:=by decide+kernel)
  (hn:∀y∈sc.names,y.2= .local->sc.names.lookup y.1=some .local:=by decide+kernel) (O:∀y∈sc.names,y.2= .free->B.names.lookup y.1=some .cell:=by decide+kernel) (R:Nb.length=nt+fr.length:=by rfl)
  (hz:((fr.zip (Nb.drop nt)).all fun p=>decide (Nf[p.1]? =some p.2)&&decide (sc.names.lookup p.2=some .free))=true:=by decide+kernel):LcS X sc Nb nt fr:=by
 subst I L;refine⟨hk,M,hn,O,R,fun k j x h1 h2=> ?_⟩;have hm:(fr.zip (Nb.drop nt))[k]? =some (j,x):=by
  rw [vP];exact⟨h1,by rw [List.getElem?_drop];exact h2⟩
 have q:=List.all_eq_true.mp hz _ (ui hm);rw [uh] at q;exact⟨uk q.1,uk q.2⟩
theorem lc_str {z:Str}{D:Addr}{H1:Hp}{te:TE}{tl:St}{Q:VK}(f:Nat->V)(hz:z.length<=sizeLine)(M:H1 D=none)
  (I:∀(i c:Nat) H (R:VK),z.cps[i]? =some c->Same H1 H->R (f c) H->te (some (.str ⟨#[c]⟩)::tl) H R)
  (U:∀H',Same H1 H'->H' D=some (.lst (z.cps.toList.map f))->Q (.ref D) H'):lcGo D (Its z) (Yk 0) tYes te (none::tl) H1 Q:=by
 refine⟨z.cps.size,fun i σ ys H=>(∃w,σ=w::tl)/\ys=(z.cps.toList.take i).map f/\Same H1 H,hz,⟨⟨none,rfl⟩,rfl,qb M _⟩,?_,?_⟩
 ·rintro i σ ys H hi ⟨⟨w,rfl⟩,rfl,B⟩ L Y;refine⟨hi,?_⟩;rintro x H' ⟨rfl,c,O,rfl⟩;dsimp only [Yk,tYes,List.set];rw [if_pos rfl];refine I i c H' _ O B ⟨L,⟨some (.str ⟨#[c]⟩),rfl⟩,?_,?_⟩
  ·rw [uE,show z.cps.toList[i]? =some c by simpa using O]
   simp
  ·intro b o e;rw [qi (qf e M)];exact B b o e
 ·rintro σ ys H ⟨_,rfl,B⟩ L;refine⟨rfl,U H B ?_⟩;rw [L,ut (by simp)]
mutual
def Is (H:Hp):D->V->Prop
 | .non,v=>v= .non
 | .bl b,v=>v= .bl b
 | .int i,v=>v= .int i
 | .str z,v=>v= .str z/\z.length<=sizeLine
 | .lst,v=>∃a xs,v= .ref a/\H a=some (.lst xs)
 | .dct,v=>∃a kvs,v= .ref a/\H a=some (.dK kvs)
 | .tup xs,v=>∃a vs,v= .ref a/\H a=some (.tup vs)/\IsL H xs vs
def IsL (H:Hp):List D->List V->Prop
 | [],vs=>vs= []
 |x::xs,vs=>∃v r,vs=v::r/\Is H x v/\IsL H xs r
end
structure Tk (H H':Hp):Prop where
 tup:∀b xs,H b=some (.tup xs)->H' b=some (.tup xs)
 lst:∀b xs,H b=some (.lst xs)->∃ys,H' b=some (.lst ys)
 dct:∀b xs,H b=some (.dK xs)->∃ys,H' b=some (.dK ys)
theorem Same.tk {H H':Hp}(s:Same H H'):Tk H H':=⟨fun b xs e=>s b _ e,fun b xs e=>⟨xs,s b _ e⟩,fun b xs e=>⟨xs,s b _ e⟩⟩
theorem Tk.refl (H:Hp):Tk H H:=(Same.refl H).tk
theorem Tk.trans {H H1 H2:Hp}(a:Tk H H1)(b:Tk H1 H2):Tk H H2:=⟨fun c xs e=>b.tup c xs (a.tup c xs e),fun c xs e=>let⟨ys,e1⟩:=a.lst c xs e;b.lst c ys e1,fun c xs e=>let⟨ys,e1⟩:=a.dct c xs e;b.dct c ys e1⟩
theorem Kept.tk {p:Addr}{H H':Hp}{xs ys:List V}(k:Kept p H H')(h:H p=some (.lst xs))(h':H' p=some (.lst ys)):Tk H H':=by
 refine⟨fun b zs e=>k b _ e fun z=> ?_,fun b zs e=> ?_,fun b zs e=>⟨zs,k b _ e fun z=> ?_⟩⟩
 ·rw [z,h] at e;cases e
 ·by_cases z:b=p
  ·exact⟨ys,z▸h'⟩
  ·exact⟨zs,k b _ e z⟩
 ·rw [z,h] at e;cases e
mutual
theorem Is.mono {H H':Hp}(t:Tk H H'):∀{d:D}{v:V},Is H d v->Is H' d v
 | .non,_,h=>h
 | .bl _,_,h=>h
 | .int _,_,h=>h
 | .str _,_,h=>h
 | .lst,_,h=>by
  obtain⟨a,vs,e,ha⟩:=h;obtain⟨ys,q⟩:=t.lst a vs ha;exact⟨a,ys,e,q⟩
 | .dct,_,h=>by
  obtain⟨a,vs,e,ha⟩:=h;obtain⟨ys,q⟩:=t.dct a vs ha;exact⟨a,ys,e,q⟩
 | .tup xs,_,h=>by
  obtain⟨a,vs,e,ha,B⟩:=h;exact⟨a,vs,e,t.tup a vs ha,IsL.mono t B⟩
theorem IsL.mono {H H':Hp}(t:Tk H H'):∀{ds:List D}{vs:List V},IsL H ds vs->IsL H' ds vs
 | [],_,h=>h
 |_::_,_,h=>by
  obtain⟨v,r,e,h1,h2⟩:=h;exact⟨v,r,e,Is.mono t h1,IsL.mono t h2⟩
end
theorem IsL.length {H:Hp}:∀{ds:List D}{vs:List V},IsL H ds vs->vs.length=ds.length
 | [],_,h=>by cases(show _= [] from h);rfl
 |_::_,_,h=>by
  obtain⟨v,r,rfl,_,h2⟩:=h;rw [uy,uy,IsL.length h2]
theorem IsL.get {H:Hp}:∀{ds:List D}{vs:List V}{i:Nat}{d:D},IsL H ds vs->ds[i]? =some d->∃v,vs[i]? =some v/\Is H d v
 | [],_,_,_,_,e=>by simp at e
 |x::_,_,0,d,h,e=>by
  obtain⟨v,r,rfl,h1,_⟩:=h;have:x=d:=by simpa using e
  exact⟨v,rfl,this▸h1⟩
 |_::_,_,i+1,d,h,e=>by
  obtain⟨v,r,rfl,_,h2⟩:=h;obtain⟨u,B,I⟩:=IsL.get (i:=i) (d:=d) h2 (by simpa using e)
  exact⟨u,by simpa using B,I⟩
theorem IsL.append {H:Hp}:∀{ds es:List D}{vs us:List V},IsL H ds vs->IsL H es us->IsL H (ds++es) (vs++us)
 | [],_,_,_,h,k=>by cases(show _= [] from h);exact k
 |_::_,_,_,_,h,k=>by
  obtain⟨v,r,rfl,h1,h2⟩:=h;exact⟨v,_,rfl,h1,IsL.append h2 k⟩
theorem IsL.take {H:Hp}:∀{ds:List D}{vs:List V} (n:Nat),IsL H ds vs->IsL H (ds.take n) (vs.take n)
 |_,_,0,_=>by simp [IsL]
 | [],_,n+1,h=>by cases(show _= [] from h);simp [IsL]
 |_::_,_,n+1,h=>by
  obtain⟨v,r,rfl,h1,h2⟩:=h;exact⟨v,_,rfl,h1,IsL.take n h2⟩
theorem IsL.drop {H:Hp}:∀{ds:List D}{vs:List V} (n:Nat),IsL H ds vs->IsL H (ds.drop n) (vs.drop n)
 |_,_,0,h=>h
 | [],_,n+1,h=>by cases(show _= [] from h);simp [IsL]
 |_::_,_,n+1,h=>by
  obtain⟨v,r,rfl,h1,h2⟩:=h;exact IsL.drop n h2
theorem IsL.one {H:Hp}{d:D}{v:V}(h:Is H d v):IsL H [d] [v]:=⟨v,[],rfl,h,rfl⟩
theorem Is.new {H:Hp}{ds:List D}{vs:List V}{p:Addr}(h:IsL H ds vs)(B:H p=none):Is (upd H p (.tup vs)) (.tup ds) (.ref p):=
 ⟨p,vs,rfl,qe,h.mono (qb B _).tk⟩
def tyD:D->Value
 | .non=> .type "NoneType"
 | .bl _=> .type "bool"
 | .int _=> .type "int"
 | .str _=> .type "str"
 | .lst=> .type "list"
 | .dct=> .type "dict"
 | .tup _=> .type "tuple"
theorem Is.ty {K:PySem.W.Frag}{H:Hp}{d:D}{v:V}(h:Is H d v):TyOf K H v (tyD d):=by
 cases d with
 |non=>cases(show v= .non from h);exact .non
 |bl b=>cases(show v= .bl b from h);exact .bl b
 |int i=>cases(show v= .int i from h);exact .int i
 |str z=>
  obtain⟨rfl,_⟩:=h;exact .str z
 |lst=>
  obtain⟨a,vs,rfl,ha⟩:=h;exact .lst ha
 |dct=>
  obtain⟨a,vs,rfl,ha⟩:=h;exact .dK ha
 |tup xs=>
  obtain⟨a,vs,rfl,ha,_⟩:=h;exact .tup ha
section
variable {X:Cx}
theorem op_gt_str:OpR X (compareOp .Gt) (fun x y H Q=>∃i j,x= .str i/\y= .str j/\Q (.bl (decide (j.cps.toList<i.cps.toList))) H):=by
 intro pins s σ H x y v u Q I B L h;obtain⟨i,j,rfl,rfl,q⟩:=h;obtain⟨t,rfl⟩:=B;obtain⟨t',rfl⟩:=L;exact PySem.P.gt_str (qK I q rfl)
theorem call_sumL (M:X.calm=true):yx X (.builtin "sum") (fun xs H Q=>∃(p:Addr) (ns:List Int),xs= [.ref p]/\SqL X.K H p (ns.map V.int)/\Q (.int ns.sum) H):=by
 intro pins s σ H xs us Q I r h;obtain⟨p,ns,rfl,O,q⟩:=h;obtain⟨u,rfl,R⟩:=yn r;cases R;obtain⟨its,U,pl,hz⟩:=I.list O;have hi:IntsAre its ns:=intsAre_of U;obtain⟨ys,L⟩:=hi.allInts.items;have B:s.heap.IsList p (intItems ys):=L▸pl.isList;refine uT (n:=1) I.tk (sum_intListG (I.ok.hd M) B fun h' tk t' hk=> ?_);intro htk;have Y:ns=ys.toList.map (·.1):=by
  have q1:=hi.numsOf;rw [<-nums_intItems,<-L];exact(show numsOf its.toArray.toList=ns from q1).symm
 have Z:preSum (numAt ys) ys.size=ns.sum:=by
  rw [preSum_eq,ut (by simp),Y]
 rw [Z];exact⟨.int ns.sum,H,I.kept hk,⟨t',rfl⟩,q⟩
def rCatG (K:PySem.W.Frag):R2:=fun x y H Q=>∃a b xs ys,x= .ref a/\y= .ref b/\SqT K H a xs/\SqT K H b ys/\xs.length+ys.length<=sizeLine/\
 (xs= []->Q (.ref b) H)/\(xs≠ []->ys= []->Q (.ref a) H)/\(xs≠ []->ys≠ []->∀p,H p=none->Q (.ref p) (upd H p (.tup (xs++ys))))
theorem op_catG:OpR X (binaryOp .Add) (rCatG X.K):=by
 intro pins s σ H x y v u Q I B L h;obtain⟨a,b,xs,ys,rfl,rfl,ha,M,hz,q0,q1,q2⟩:=h;by_cases hx:xs= []
 ·cases B;cases L;obtain⟨its,r1,O,_⟩:=I.tuple ha;obtain⟨R,r2,p2,_⟩:=I.tuple M;subst hx;cases r1;obtain⟨⟨c1,d1,t1,l1⟩,o1,U,n1,Y⟩:=id O;obtain⟨⟨c2,d2,t2,l2⟩,o2,Z,n2,f2⟩:=id p2;simp only at U Y Z f2;subst U Y Z f2;exact concat_meets O.typeIs p2.typeIs noFill_tuple_add seq_tuple_add PySem.F.slot_tuple_add Uq (Uj _ _) (tuple_addW0 a b _ _ n1 n2 d1 d2 l1 l2 rfl) ⟨o1,o2,⟨.ref b,H,I,rfl,q0 rfl⟩⟩
 ·exact op_catT pins s σ H (.ref a) (.ref b) v u Q I B L ⟨a,b,xs,ys,rfl,rfl,ha,M,hx,hz,q1 hx,q2 hx⟩
end
theorem catG_is {K:PySem.W.Frag}{H:Hp}{ds es:List D}{v u:V}{Q:VK}(M:Is H (.tup ds) v)(hu:Is H (.tup es) u)(hz:ds.length+es.length<=sizeLine)(q:∀w H',Same H H'->Is H' (.tup (ds++es)) w->Q w H'):rCatG K v u H Q:=by
 obtain⟨a,vs,rfl,ha,B⟩:=M;obtain⟨b,us,rfl,I,hm⟩:=hu;have O:=B.length;have R:=hm.length;refine⟨a,b,vs,us,rfl,rfl,SqT.of ha,SqT.of I,by omega,fun h=> ?_,fun _ h=> ?_,fun _ _ p L=> ?_⟩
 ·subst h;have:ds= []:=List.eq_nil_of_length_eq_zero O.symm;subst this;exact q _ H (Same.refl _) ⟨b,us,rfl,I,hm⟩
 ·subst h;have:es= []:=List.eq_nil_of_length_eq_zero R.symm;subst this;exact q _ H (Same.refl _) ⟨a,vs,rfl,ha,by rw [uU];exact B⟩
 ·exact q _ _ (qb L _) (Is.new (B.append hm) L)
theorem Tk.updL {H:Hp}{p:Addr}{xs ys:List V}(h:H p=some (.lst xs)):Tk H (upd H p (.lst ys)):=by
 refine⟨fun b zs e=> ?_,fun b zs e=> ?_,fun b zs e=>⟨zs,?_⟩⟩
 ·rw [qi (fun z=>by rw [z,h] at e;cases e)];exact e
 ·by_cases z:b=p
  ·exact⟨ys,by rw [z];exact qe⟩
  ·exact⟨zs,by rw [qi z];exact e⟩
 ·rw [qi (fun z=>by rw [z,h] at e;cases e)];exact e
theorem lc_data {J:It}{A:Addr}{H1:Hp}{te:TE}{tl:St}{Q:VK}{ds:List D}(f:D->D)(hn:ds.length<=sizeLine)(hA:H1 A=none)
  (U:∀i H,Same H1 H->i<ds.length->J.go i H) (hy:∀i H x H' d,Same H1 H->ds[i]? =some d->J.yld i H x H'->H'=H/\Is H d x) (I:∀H,Same H1 H->J.stop ds.length H)
  (Y:∀d x H (R:VK),d∈ds->Same H1 H->Is H d x->(∀y H',Same H H'->Is H' (f d) y->R y H')->te (some x::tl) H R)
  (hQ:∀H' ys,Same H1 H'->H' A=some (.lst ys)->IsL H' (ds.map f) ys->Q (.ref A) H'):lcGo A J (Yk 0) tYes te (none::tl) H1 Q:=by
 refine⟨ds.length,fun i σ ys H=>(∃w,σ=w::tl)/\IsL H ((ds.take i).map f) ys/\Same H1 H,hn,⟨⟨none,rfl⟩,rfl,qb hA _⟩,?_,?_⟩
 ·rintro i σ ys H hi ⟨⟨w,rfl⟩,M,L⟩ B aa;refine⟨U i H L hi,fun x H' y=> ?_⟩;obtain⟨rfl,hx⟩:=hy i H x H' ds[i] L (u7 hi) y;dsimp only [Yk,tYes,List.set];rw [if_pos rfl];refine Y ds[i] x H' _ (uJ hi) L hx fun y' H4 O Z=>⟨O _ _ B,⟨some x,rfl⟩,?_,fun b o e=> ?_⟩
  ·have t:Tk H4 (upd H4 A (.lst (ys++ [y']))):=Tk.updL (O _ _ B);have e:(ds.take (i+1)).map f=(ds.take i).map f++ [f ds[i]]:=by
    rw [uE,u7 hi,uB]
    rfl
   rw [e];exact((M.mono O.tk).mono t).append (IsL.one (Z.mono t))
  ·rw [qi (qf e hA)];exact O b o (L b o e)
 ·rintro σ ys H ⟨_,M,L⟩ B;refine⟨I H L,hQ H ys L B ?_⟩;rw [ut (Nat.le_refl _)] at M;exact M
theorem jU {K:PySem.W.Frag}{a A:Addr}{H1:Hp}{te:TE}{tl:St}{Q:VK}{ds:List D}{vs:List V}(f:D->D)(ha:H1 a=some (.tup vs))(L:IsL H1 ds vs)(hn:ds.length<=sizeLine)(O:H1 A=none)
  (I:∀d x H (R:VK),d∈ds->Same H1 H->Is H d x->(∀y H',Same H H'->Is H' (f d) y->R y H')->te (some x::tl) H R)
  (U:∀H' ys,Same H1 H'->H' A=some (.lst ys)->IsL H' (ds.map f) ys->Q (.ref A) H'):lcGo A (Itt K a) (Yk 0) tYes te (none::tl) H1 Q:=by
 have ln:=L.length;refine lc_data f hn O (fun i H B hi=>⟨vs,vs[i]'(by omega),SqT.of (B _ _ ha),u7 _⟩) (fun i H x H' d B hd y=> ?_) (fun H B=>⟨vs,SqT.of (B _ _ ha),by omega⟩) I U
 obtain⟨rfl,y⟩:=y;obtain⟨v,Y,Z⟩:=L.get hd;have M:=y vs (SqT.of (B _ _ ha));rw [Y] at M;cases M;exact⟨rfl,Z.mono B.tk⟩
theorem lc_lstS {K:PySem.W.Frag}{a A:Addr}{H1:Hp}{te:TE}{tl:St}{Q:VK}{ds:List D}{vs:List V}(f:D->D)(ha:H1 a=some (.lst vs))(L:IsL H1 ds vs)(hn:ds.length<=sizeLine)(O:H1 A=none)
  (I:∀d x H (R:VK),d∈ds->Same H1 H->Is H d x->(∀y H',Same H H'->Is H' (f d) y->R y H')->te (some x::tl) H R)
  (U:∀H' ys,Same H1 H'->H' A=some (.lst ys)->IsL H' (ds.map f) ys->Q (.ref A) H'):lcGo A (Itl K a) (Yk 0) tYes te (none::tl) H1 Q:=by
 have ln:=L.length;refine lc_data f hn O (fun i H B hi=>⟨vs,vs[i]'(by omega),SqL.of (B _ _ ha),u7 _⟩) (fun i H x H' d B hd y=> ?_) (fun H B=>⟨vs,SqL.of (B _ _ ha),by omega⟩) I U
 obtain⟨rfl,y⟩:=y;obtain⟨v,Y,Z⟩:=L.get hd;have M:=y vs (SqL.of (B _ _ ha));rw [Y] at M;cases M;exact⟨rfl,Z.mono B.tk⟩
theorem IsL.bls {H:Hp}:∀{bs:List Bool}{vs:List V},IsL H (bs.map D.bl) vs->vs=bs.map V.bl
 | [],_,h=>h
 |_::_,_,h=>by
  obtain⟨v,r,rfl,h1,h2⟩:=h;rw [IsL.bls h2,show v=_ from h1];rfl
theorem ix_is {K:PySem.W.Frag}{H:Hp}{ds:List D}{v:V}{i:Int}{d:D}{Q:VK}(h:Is H (.tup ds) v)(hi:atI ds i=some d)(q:∀x,Is H d x->Q x H):rIxT K v (.int i) H Q:=by
 obtain⟨a,vs,rfl,ha,B⟩:=h;obtain⟨j,h1,h2,R,h4,U⟩:=Jz hi;obtain⟨x,L,M⟩:=B.get h2;refine⟨a,vs,i,x,rfl,rfl,SqT.of ha,?_,q x M⟩;have O:=B.length;unfold atI at hi⊢;rw [O];cases e:ixN ds.length i with
 |none=>rw [e] at hi;cases hi
 |some k=>
  rw [e] at hi;obtain⟨I,_⟩:=ixN_seq e;rw [h1] at I;cases I;exact L
def inS (i j:Str):Bool:= !(Builtin.Str.occurrences j i 0 j.length 1).isEmpty
theorem mulOk_of {z:Str}{n:Int}(I:0<=n)(h1:n<=10000)(hz:z.length<=1000):MulOk z n:=by
 have L:sizeLine=16777216:=vi;refine⟨by rw [ub (by omega),ub (by omega)];rfl,fun hn _=> ?_,fun hn _=> ?_⟩
 ·have:(1000:Int)<=(2^63-1)/n:=by
   have B:(1000:Int)*n<=2^63-1:=by omega
   exact(Int.le_ediv_iff_mul_le (by omega)).mpr B
  omega
 ·unfold Builtin.Str.tooLong;refine ub ?_;have:z.length*n.toNat<=1000*10000:=Nat.mul_le_mul hz (by omega)
  omega
theorem for_str {z:Str}{g:TG}{tb:TS}{E:Ends}{σ:St}{H:Hp}(B:Nat->St->Hp->Prop)(R:B 0 σ H)
  (U:∀(i c:Nat) σ H,z.cps[i]? =some c->B i σ H->g (.str ⟨#[c]⟩) σ H fun L H2=>tb {E with nx:=B (i+1),ct:=B (i+1),bk:=E.nx} L H2) (hd:∀σ H,B z.cps.size σ H->E.nx σ H):
  ∃W:Nat->Nat->St->Hp->Prop,(∃m,W 0 m σ H)/\∀i m σ H,W i m σ H->
   ((Its z).stop i H/\E.nx σ H)∨((Its z).go i H/\∃N:St->Hp->Prop,(∀M H',N M H'->∃O,O<m/\W (i+1) O M H')/\∀x H',(Its z).yld i H x H'->g x σ H' fun L H2=>tb {E with nx:=N,ct:=N,bk:=E.nx} L H2):=by
 refine⟨fun i m σ H=>m=z.cps.size-i/\i<=z.cps.size/\B i σ H,⟨z.cps.size,by simp,uG _,R⟩,?_⟩
 rintro i m σ H ⟨rfl,hi,p⟩;by_cases I:i<z.cps.size
 ·refine .inr ⟨I,B (i+1),fun M H' Y=>⟨z.cps.size-(i+1),by omega,rfl,I,Y⟩,fun x H' y=> ?_⟩
  obtain⟨rfl,c,Z,rfl⟩:=y;exact U i c σ _ Z p
 ·have e:i=z.cps.size:=by omega
  exact .inl ⟨e,hd σ H (e▸p)⟩
theorem IsL.unsnoc {H:Hp}:∀{ds:List D}{d:D}{vs:List V},IsL H (ds++ [d]) vs->∃us x,vs=us++ [x]/\IsL H ds us/\Is H d x
 | [],d,_,h=>by
  obtain⟨v,r,rfl,h1,h2⟩:=h;cases(show r= [] from h2)
  exact⟨[],v,rfl,rfl,h1⟩
 |e::r,d,_,h=>by
  obtain⟨v,q,rfl,h1,h2⟩:=h;obtain⟨us,x,rfl,B,h4⟩:=IsL.unsnoc h2;exact⟨v::us,x,rfl,⟨v,us,rfl,h1,B⟩,h4⟩
def isStr:D->Bool
 | .str _=>true
 |_=>false
def YQ:D->Bool
 | .tup _=>true
 |_=>false
section
variable {K:PySem.W.Frag}
theorem kit_no {T U:String}{b:Bool}(h:(Value.type T==Value.type U)=false)(hm:PySem.W.kitMeta U=true)(B:(fastBuiltinMro T).map (·.contains (Value.type U))=some b):PySem.W.kitOne K (.type T) (.type U)=some b:=by
 unfold PySem.W.kitOne;rw [if_neg (by rw [h];exact uf)]
 show(if PySem.W.kitMeta U=true then PySem.W.subIn K (.type T) (.type U) else none)=some b
 rw [if_pos hm];exact B
theorem xi {T:String}(h:(Value.type T==Value.type T)=true):PySem.W.kitOne K (.type T) (.type T)=some true:=by
 unfold PySem.W.kitOne;rw [if_pos h]
theorem kit_str (d:D):PySem.W.kitOne K (tyD d) (.type "str")=some (isStr d):=by
 cases d with
 |str z=>exact xi (by decide)
 |_=>exact kit_no (b:=false) (by decide) (by decide+kernel) (by decide+kernel)
theorem YN (d:D):PySem.W.kitOne K (tyD d) (.type "tuple")=some (YQ d):=by
 cases d with
 |tup z=>exact xi (by decide)
 |_=>exact kit_no (b:=false) (by decide) (by decide+kernel) (by decide+kernel)
end
theorem lt_one (c k:Nat):decide ((⟨#[c]⟩:Str).cps.toList< [k])=decide (c<k):=by
 rw [uz];simp [vv]
theorem one_gt (c k:Nat):decide ([k]<(⟨#[c]⟩:Str).cps.toList)=decide (k<c):=by
 rw [uz];simp [vv]
theorem ix_tupK {X:Cx}{K:PySem.W.Frag}(h:X.K=K):IxR X (rIxT K):=by subst h;exact qD
theorem ix_listK {X:Cx}{K:PySem.W.Frag}(h:X.K=K):IxR X (rIxL K):=by subst h;exact qW
def iTupB (K:PySem.W.Frag)(tl:TE):TI:=fun σ H R=>tl σ H fun x H1=>∃a xs,x= .ref a/\SqT K H1 a xs/\(xs.length<=sizeLine->R (Itt K a) H1)
theorem Y0 {X:Cx}{tg l:Expr}{tl:TE}(L:PE X l tl):PI X tg l (iTupB X.K tl):=by
 intro pins s σ H R I h;refine thn (L pins s σ H _ I h) fun v s1 ⟨x,H1,B,M,q1⟩=> ?_;obtain⟨a,xs,e,hq,q⟩:=q1;subst e;cases M;obtain⟨its,U,p,hz⟩:=B.tuple hq;refine vH (show s1.heap.IsTuple a its.toArray from p) ?_
 refine⟨s1.heap.objs.size,[s1.heap.objs.size],_,_,H1,rfl,B.kept (t':=s1.toks) fun b o e=>u8 _ e,Jm a _,⟨_,ug _ rfl,rfl,rfl⟩,fun b O=> ?_,q hz⟩;have e:b=s1.heap.objs.size:=by simpa using O
 subst e;exact B.fpOk (Nat.le_refl _) (B.hok.fresh (Nat.le_refl _))
theorem call_lenB {X:Cx}:yx X (.builtin "len") (fun xs H Q=>∃p ys,xs= [.ref p]/\(SqL X.K H p ys∨SqT X.K H p ys)/\(ys.length<=sizeLine->Q (.int ys.length) H)):=by
 intro pins s σ H xs us Q I r h;obtain⟨p,ys,e,hq,q⟩:=h;have hz:ys.length<=sizeLine:=by
  rcases hq with hq|hq
  ·exact(I.list hq).choose_spec.2.2
  ·exact(I.tuple hq).choose_spec.2.2
 exact qB pins s σ H xs us Q I r ⟨p,ys,e,hq,q hz⟩
theorem cutV_drop {xs:List V}{n:Nat}(h:n<=xs.length):cutV xs (some (n:Int)) none=xs.drop n:=by
 unfold cutV;rw [HT.sIx_none,HT.sIx_nat,Nat.min_eq_left h];exact ut (by rw [List.length_drop];exact Nat.le_refl _)
theorem Inv.turnedL {X:Cx}{pins:List (Addr×Obj)}{σ:St}{H:Hp}{s:Shared}{h':Heap}{t':Nat}{fp:List Addr}(I:Inv X pins σ H s)(k:∀b o,b∉fp->s.heap.get? b=some o->h'.get? b=some o)(L:∀b∈fp,FpOk X pins H b)(U:0<t':=by((try dsimp only);first|assumption|exact Inv.tk (by assumption)|exact Nat.succ_pos _|exact Nat.lt_of_lt_of_le (Inv.tk (by assumption)) (by assumption)|exact Nat.add_pos_left (Inv.tk (by assumption)) _|omega)):Inv X pins σ H {s with heap:=h',toks:=t'}:=by
 have M:∀b u,H b=some u->b∉fp:=fun b u e z=>by
  have:=(L b z).1;rw [this] at e;cases e
 have nL:X.env.locals∉fp:=fun z=>(L _ z).2.1 rfl;refine I.step (g':=s.gens) (d':=s.drawn) (ch:=fp) (fun b O=>⟨(L b O).2.2.2.1,(L b O).2.1,(L b O).2.2.2.2.1,(L b O).2.2.2.2.2⟩) (fun b o _ _ B e _=>k b o B e) (fun b o _ _ B e _=>⟨o.slots,k b o B e⟩) (fun _ _ _ _ n=>n)
  (fun b o B e=>⟨o,k b o B e⟩) (fun _ _ e=>e) (fun _ _ _ e=>e) (fun b ps e=>⟨#[],by rw [e];simp⟩) (fun m hm=> ?_) (fun b u e=> ?_) I.bare
 ·obtain⟨o,es,ep,R,r⟩:=hm;exact⟨o,es,ep,k _ o nL R,r⟩
 ·refine(I.hok b u e).stay (fun c v B q=>k c v ?_ q) (fun _ q=>q) fun _ _ q=>q;rcases B with z|z
  ·rw [z];exact M b u e
  ·exact M c _ z
theorem Inv.handed {X:Cx}{pins:List (Addr×Obj)}{σ:St}{H:Hp}{s:Shared}{h':Heap}{t':Nat}{fp:List Addr}{ys:List V}{its:List Value}(I:Inv X pins σ H s)(M:∀b∈fp,FpOk X pins H b)(O:∀b∈fp,b<s.heap.objs.size)(R:Vals ys its)(hz:ys.length<=sizeLine)
  (hn:h'.get? s.heap.objs.size=some {cls:= .type "tuple",data:= .seq its.toArray}) (hs:h'.objs.size=s.heap.objs.size+1) (k:∀b o,b∉fp->s.heap.get? b=some o->h'.get? b=some o) (ht:0<t':=by((try dsimp only);first|assumption|exact Inv.tk (by assumption)|exact Nat.succ_pos _|exact Nat.lt_of_lt_of_le (Inv.tk (by assumption)) (by assumption)|exact Nat.add_pos_left (Inv.tk (by assumption)) _|omega)):
  Inv X pins σ (upd H s.heap.objs.size (.tup ys)) {s with heap:=h',toks:=t'}/\∀b∈fp,FpOk X pins (upd H s.heap.objs.size (.tup ys)) b:=by
 have U:Inv X pins σ (upd H s.heap.objs.size (.tup ys)) {s with heap:=s.heap.push {cls:= .type "tuple",data:= .seq its.toArray},toks:=t'}:=
  I.laid (o:= .tup ys) (fun _ _ w=>u8 _ w) (Nat.le_refl _) ⟨hz,its,R,IsTup.new _ _⟩
 have B:∀b∈fp,FpOk X pins (upd H s.heap.objs.size (.tup ys)) b:=fun b L=>by
  obtain⟨Y,Z,f2,f3,f4,f5⟩:=M b L;have:=O b L;exact⟨by rw [qi (uA this)];exact Y,Z,f2,f3,f4,f5⟩
 refine⟨U.turnedL (h':=h') (t':=t') (fun b o L e=> ?_) B,B⟩;rcases Heap.get?_push_cases (show(s.heap.push {cls:= .type "tuple",data:= .seq its.toArray}).get? b=some o from e) with⟨rfl,rfl⟩|e'
 ·exact hn
 ·exact k b o L e'
def Ite (K:PySem.W.Frag)(a:Addr)(c:Int):It:=
 ⟨fun i H=>∃xs x,SqT K H a xs/\xs[i]? =some x,fun i H v H'=>∃p x,v= .ref p/\H p=none/\H'=upd H p (.tup [.int (c+i),x])/\∀xs,SqT K H a xs->xs[i]? =some x,fun i H=>∃xs,SqT K H a xs/\xs.length=i⟩
section
variable {X:Cx}
theorem two_le {n m x:Nat}(hm:m=n+1)(h:x=m∨x=n):n<=x:=by omega
def tnE (a e j:Addr)(c:Int)(k:Nat)(h:Heap):Prop:=(∃old,IsEnum h e j (c+k) old)/\h.IsTupleIter j a k/\e≠j
theorem turn_enum {P:Program}{w:World}{K:PySem.W.Frag}{M:List Expr}{cc:Nat}{tp:Pos}(a e j:Addr)(c:Int):Turn P w K (.Tuple M cc tp) (Ite K a c) [e,j] e (tnE a e j c) where
 mem:=by simp
 obj:=fun k h st x hx=>by
  obtain⟨⟨L,h1⟩,⟨Z,e4,c4,d4⟩,D⟩:=st;simp only [uY,uQ,Ud] at hx;rcases hx with rfl|rfl
  ·exact⟨_,h1,fun v z=>by cases z⟩
  ·exact⟨Z,e4,fun v z=>by rw [d4] at z;cases z⟩
 keep:=fun k h h' st Y=>by
  obtain⟨⟨L,h1⟩,⟨Z,e4,r4⟩,D⟩:=st;exact⟨⟨L,Y e (by simp) _ h1⟩,⟨Z,Y j (by simp) _ e4,r4⟩,D⟩
 item:=by
  intro X hP hw hK B k pins s σ H E I hf st hg;subst hP hw hK;obtain⟨xs,x,ha,hx⟩:=hg;obtain⟨its,ra,pa,za⟩:=I.tuple ha;obtain⟨ux,aa,ab⟩:=ra.get hx;obtain⟨⟨L,h1⟩,h4,D⟩:=st;have l1:=uj h1;have l4:j<s.heap.objs.size:=by obtain⟨o,e,_⟩:=h4;exact uj e
  refine AwZ.enum_go h1 h4 (show s.heap.IsTuple a its.toArray from pa) (x:=ux) (by simpa using aa) D fun h' g1 g3 g5 g6 g7=> ?_
  obtain⟨I1,O⟩:=I.handed (t':=s.toks+1) (ys:= [.int (c+k),x]) (its:= [.int (c+k) s.toks,ux]) hf (fun c B=>by
   simp only [uY,uQ,Ud] at B;rcases B with rfl|rfl<;>assumption) (.cons (show RelV (V.int (c+k)) _ from⟨_,rfl⟩) (.cons ab .nil)) (by show 2<=sizeLine;decide) g5 g6 (fun c o B e=>by
    simp only [uY,uQ,Ud,not_or] at B;exact g7 c o B.1 B.2 e)
  refine⟨_,rfl,wpAny_letOwnedTupleGo_enum (s:={s with heap:=h',toks:=s.toks+1}) g1 fun R z2 s2=> ?_⟩
  have U:∀c o,c≠e->h'.get? c=some o->R.get? c=some o:=fun c o B e=>s2.extBut c o B e;refine⟨.ref s.heap.objs.size,_,I1.turnedL (fp:= [e]) (h':=R) (t':=s.toks+1) (fun c o B e=>U c o (by simpa using B) e) (fun c B=>O c (by simp at B;simp [B])),rfl,⟨_,x,rfl,I.fresh,rfl,fun zs ac=> ?_⟩,⟨⟨ux,?_⟩,?_,D⟩,fun c B=>(O c B).1⟩
  ·rw [I.tuple_inj ac ha];exact hx
  ·have e1:c+((k+1:Nat):Int)=c+(k:Int)+1:=by omega
   rw [e1];exact z2
  ·obtain⟨o,e,q⟩:=g3;exact⟨o,U _ _ (vZ D) e,q⟩
 done:=by
  intro X hP hw hK B k pins s σ H E I hf st hg;subst hP hw hK;obtain⟨xs,ha,hx⟩:=hg;obtain⟨its,ra,pa,za⟩:=I.tuple ha;have hl:=ra.length;obtain⟨⟨L,h1⟩,h4,D⟩:=st;refine AwZ.enum_stop (A:=X.A) (I.ok.hd B) h1 h4 (show s.heap.IsTuple a its.toArray from pa) (by simp;omega) fun h' Y=>⟨rfl,?_⟩
  exact I.turnedL (t':=s.toks) (fun c o B e=>by
   simp only [uY,uQ,Ud,not_or] at B;exact Y c o B.2 e) hf
 self:=fun _ _ _ _ _ st h=>by
  obtain⟨⟨L,h1⟩,_⟩:=st;exact wpAny_pyIter_enum h1 h
end
section
variable {X:Cx}{K:PySem.W.Frag}
theorem Yt (h:X.K=K):yx X (.builtin "len") (fun xs H Q=>∃p ys,xs= [.ref p]/\(SqL K H p ys∨SqT K H p ys)/\Q (.int ys.length) H):=by subst h;exact qB
theorem pg_tupK {es:List Expr}{k:Nat}{t:TGs}{n:Nat}{pos:Pos}(I:X.K=K)(L:X.calm=true)(h:PGs X es t)
  (hn:(assignEach es X.env).length=n:=by rfl) (B:(assignEach es X.env).findIdx? (·.1)=none:=by rfl):PG X (.Tuple es k pos) (gTup K n t):=by subst I;exact pg_tup L h hn B
end
theorem lc_range {lo:Int}{n:Nat}{L:Addr}{H1:Hp}{te:TE}{tl:St}{Q:VK}(C:Nat->List V->Hp->Prop)(hn:n<=sizeLine)(O:C 0 [] (upd H1 L (.lst [])))
  (U:∀i ys H,i<n->C i ys H->H L=some (.lst ys)->ys.length<=i->∀R:VK,(∀y B,B L=some (.lst ys)->C (i+1) (ys++ [y]) (upd B L (.lst (ys++ [y])))->R y B)->te (some (.int (lo+(i:Int)))::tl) H R)
  (Y:∀ys H,C n ys H->H L=some (.lst ys)->Q (.ref L) H):lcGo L (Itr lo n) (Yk 0) tYes te (none::tl) H1 Q:=by
 refine⟨n,fun i σ ys H=>(∃x,σ=x::tl)/\C i ys H,hn,⟨⟨none,rfl⟩,O⟩,?_,?_⟩
 ·rintro i σ ys H hi ⟨⟨x,rfl⟩,I⟩ M Z;refine⟨hi,?_⟩;rintro x' H' ⟨rfl,rfl⟩;dsimp only [Yk,tYes,List.set];rw [if_pos rfl];exact U i ys H' hi I M Z _ fun y B e c=>⟨e,⟨_,rfl⟩,c⟩
 ·rintro σ ys H ⟨_,I⟩ M;exact⟨Nat.le_refl _,Y ys H I M⟩
theorem inV_str (z:Str)(l:List Str):inV (.str z) (l.map V.str)=decide (z∈l):=by
 unfold inV;rw [List.any_map,vh,List.any_eq_true,uW];constructor
 ·rintro⟨x,hx,e⟩;have B:(x==z)=true:=e;rw [UF] at B;exact B▸hx
 ·intro h;exact⟨z,h,by show(z==z)=true;exact beq_self_eq_true z⟩
end L2
namespace HT
open PySem PyProof.Rows
section
variable {prog:Program}{w:World}{A:Around}{E:Value->Shared->Prop}{s:Shared}
theorem getItem_tuple_all {t sl:Addr}{B:Array Value}{U Y:Value}{lo hi:Option Int}{Q:Value->Shared->Prop}(I:IsTup s.heap t B)(Z:s.heap.IsSliceOf sl U Y .none)(pl:IsPart U lo)(pu:IsPart Y hi)
  (hw:sIx B.size 0 lo=0/\sIx B.size B.size hi=B.size) (h:Q (.ref t) s):wpAny (model prog w) A (getItem (.ref t) (.ref sl)) Q E s:=by
 obtain⟨os,M,O,aa⟩:=id Z;have R:s.TypeIs (.ref sl) "slice":=⟨os,M,O⟩;unfold getItem
 try with_reducible refine uP ?_
 first|refine wpAny_bind (u0 ?_)|skip
 refine wpAny_bind (Ut I.typeIs (by decide) ?_)
 refine wpAny_bind (uw (name:=Str.ofString "__getitem__") I.typeIs vp
  (uq vp I.typeIs entry_tuple_getitem ?_ (args_tuple_getitem _ _)))
 show wpAny _ _ (Builtin.Tuple.tupleItemsOf (.ref t)>>=_) _ _ s;refine wpAny_bind (tupleItemsOf_ I ?_);refine wpAny_bind (Uk R ?_);rw [if_pos (by decide)]
 refine wpAny_bind (yu Z pl pu ?_);have L:((((sIx B.size 0 lo:Nat):Int)==0&&(1:Int)==1&&(sIx B.size B.size hi-sIx B.size 0 lo)==B.size)=true):=by
  rw [hw.1,hw.2];simp
 show wpAny _ _ (if(((sIx B.size 0 lo:Nat):Int)==0&&(1:Int)==1&&(sIx B.size B.size hi-sIx B.size 0 lo)==B.size)=true then _ else _) _ _ s
 rw [if_pos L];unfold Builtin.Tuple.tupleIsExact;refine wpAny_bind (wpAny_bind (Uk I.typeIs (u0 ?_)));rw [if_pos (by decide)]
 exact wpAny_bind (vm (u0 ⟨_,rfl,u0 h⟩))
end
end HT
namespace L2
open PySem PySem.Spec PyProof.Rows
section
variable {X:Cx}
def rSlG (K:PySem.W.Frag):V->Option Int->Option Int->Hp->VK->Prop:=fun x lo hi H Q=>∃a xs,x= .ref a/\SqT K H a xs/\
 (HT.sIx xs.length 0 lo=0/\HT.sIx xs.length xs.length hi=xs.length->Q (.ref a) H)/\
 (¬(HT.sIx xs.length 0 lo=0/\HT.sIx xs.length xs.length hi=xs.length)->∀p,H p=none->Q (.ref p) (upd H p (.tup (cutV xs lo hi))))
theorem sl_tupG:SlR X (rSlG X.K):=by
 intro pins s σ H x v U Y lo hi sl Q I M O pl pu h;obtain⟨a,xs,rfl,hx,q1,Z⟩:=h;by_cases L:HT.sIx xs.length 0 lo=0/\HT.sIx xs.length xs.length hi=xs.length
 ·cases M;obtain⟨its,r,R,hz⟩:=I.tuple hx;have B:its.toArray.size=xs.length:=by rw [ud];exact r.length.symm
  refine⟨"tuple",_,PyProof.Rows.slot_tuple_getitem.lookup,R.typeIs,?_⟩;exact HT.getItem_tuple_all R O pl pu (by rw [B];exact L) ⟨.ref a,H,I,rfl,q1 L⟩
 ·exact sl_tup pins s σ H (.ref a) v U Y lo hi sl Q I M O pl pu ⟨a,xs,rfl,hx,L,Z L⟩
theorem vals_ext:∀{xs:List V}{us:List Value},xs.length=us.length->(∀(j:Nat) (x:V) (v:Value),xs[j]? =some x->us[j]? =some v->RelV x v)->Vals xs us
 | [],[],_,_=> .nil
 |x::xs,u::us,hl,h=> .cons (h 0 x u rfl rfl) (vals_ext (by simpa using hl) fun j y v h1 h2=>h (j+1) y v (by simpa using h1) (by simpa using h2))
 | [],_::_,hl,_=>by simp at hl
 |_::_,[],hl,_=>by simp at hl
end
end L2
namespace AwQ
open PySem PySem.SeqAt
open PySem.AutoSeq1 (wpAny_loadPart')
open PySem.MeetsSeq PySem.MeetsSeq2 PySem.MeetsSeq3
def LtAt (A:Around)(s:Shared)(a b:Value)(r:Bool):Prop:=∀(P:Program) (w:World) (E:Value->Shared->Prop) (Q:Value->Shared->Prop),Q (.bool r) s->wpAny (model P w) A (richCompare .Lt a b) Q E s
def lexG (e lt:Nat->Bool)(d:Bool):Nat->Nat->Bool
 |_,0=>d
 |i,k+1=>if e i=true then lexG e lt d (i+1) k else lt i
theorem tuple_ltG (l b:Addr)(xs ys:Array Value)(n n2:Nat)(dd aa:Option Addr)(sl ab:Array (Option Value))(e lt:Nat->Bool):
  Meets (Builtin.«tuple.__lt__» ⟨[.ref l,.ref b],[]⟩)
   (fun A R s=>s.heap.get? l=some {cls:= .type "tuple",dict:=dd,data:= .seq xs n,slots:=sl}/\s.heap.get? b=some {cls:= .type "tuple",dict:=aa,data:= .seq ys n2,slots:=ab}/\
    (∀j (h1:j<xs.size) (h2:j<ys.size),EqAt A.in1 s xs[j] ys[j] (e j))/\(∀j (h1:j<xs.size) (h2:j<ys.size),(∀i,i<j->e i=true)->e j=false->LtAt A.in1 s xs[j] ys[j] (lt j))/\
    R (.ok (.ret (.bool (lexG e lt (decide (xs.size<ys.size)) 0 (min xs.size ys.size))))) s):=
 .of_wp fun prog w A R s h=>by
  obtain⟨Z,g,d,tk,os⟩:=s;obtain⟨hl,hb,he,ht,h⟩:=h;have f2:=AutoSeq1.sub_tuple_tuple;have hZ:(xs.toList.zip ys.toList).length=min xs.size ys.size:=by simp
  wp_walk using uC hl,uC hb,vz _ (fun rest b s'=>b.1=none/\s'=⟨Z,g,d,tk,os⟩/\∃i,i<=min xs.size ys.size/\(∀k,k<i->e k=true)/\rest=(xs.toList.zip ys.toList).drop i/\
   R (.ok (.ret (.bool (lexG e lt (decide (xs.size<ys.size)) i (min xs.size ys.size-i))))) ⟨Z,g,d,tk,os⟩) _
  case turn=>
   rintro⟨y,x⟩ rest b s' ⟨M,rfl,i,_,I,hz,L⟩;have U:i<(xs.toList.zip ys.toList).length:=by
    rcases uS i (xs.toList.zip ys.toList).length with q|q
    ·exact q
    ·rw [List.drop_of_length_le q] at hz;cases hz
   have hm:i<min xs.size ys.size:=hZ▸U;have h1:i<xs.size:=by omega
   have h2:i<ys.size:=by omega
   rw [v9 U] at hz;injection hz with Y hrest
   have hy:y=xs[i]:=by have:=congrArg Prod.fst Y;simpa using this
   have hx:x=ys[i]:=by have:=congrArg Prod.snd Y;simpa using this
   subst hy hx;obtain⟨k,hk⟩:∃k,min xs.size ys.size-i=k+1:=⟨min xs.size ys.size-i-1,by omega⟩
   have ac:min xs.size ys.size-(i+1)=k:=by omega
   rw [hk] at L;refine wpAny_bind (he i h1 h2 prog w _ _ ?_);cases B:e i with
   |true=>
    have O:R (.ok (.ret (.bool (lexG e lt (decide (xs.size<ys.size)) (i+1) (min xs.size ys.size-(i+1)))))) ⟨Z,g,d,tk,os⟩:=by
     rw [ac];have:lexG e lt (decide (xs.size<ys.size)) i (k+1)=lexG e lt (decide (xs.size<ys.size)) (i+1) k:=by rw [lexG,if_pos B]
     rw [this] at L;exact L
    wp_walk
    exact⟨rfl,rfl,i+1,by omega,fun j hj=>by
     by_cases z:j=i
     ·rw [z];exact B
     ·exact I j (by omega),hrest,O⟩
   |false=>
    have O:R (.ok (.ret (.bool (lt i)))) ⟨Z,g,d,tk,os⟩:=by
     have:lexG e lt (decide (xs.size<ys.size)) i (k+1)=lt i:=by rw [lexG,if_neg (by rw [B];decide)]
     rw [this] at L;exact L
    have ad:=ht i h1 h2 I B prog w
    wp_walk using ad
    exact⟨_,rfl,by simpa using O⟩
  case fin=>
   rintro⟨b1,b2⟩ s' ⟨M,rfl,i,ae,_,hz,L⟩;simp only at M;subst M;have af:min xs.size ys.size<=i:=by
    rcases uS i (xs.toList.zip ys.toList).length with q|q
    ·rw [v9 q] at hz;cases hz
    ·exact hZ▸q
   have h0:min xs.size ys.size-i=0:=by omega
   rw [h0,lexG] at L
   wp_walk
   exact⟨_,rfl,by simpa [Builtin.Tuple.tupleCompareSizes] using L⟩
  case h=>
   exact⟨rfl,rfl,0,uG _,fun _ z=>absurd z (vT _),rfl,by simpa using h⟩
theorem LtAt.tuples {A:Around}{s:Shared}{l b:Addr}{xs ys:Array Value}{e lt:Nat->Bool}(hl:s.heap.IsTuple l xs)(hb:s.heap.IsTuple b ys)(hu:A.units<cLine)
  (he:∀j (h1:j<xs.size) (h2:j<ys.size),EqAt A.in1 s xs[j] ys[j] (e j)) (ht:∀j (h1:j<xs.size) (h2:j<ys.size),(∀i,i<j->e i=true)->e j=false->LtAt A.in1 s xs[j] ys[j] (lt j)):
  LtAt A s (.ref l) (.ref b) (lexG e lt (decide (xs.size<ys.size)) 0 (min xs.size ys.size)):=fun P w E Q h=>by
 obtain⟨⟨cls,dd,data,sl⟩,U,Y,n,hd⟩:=id hl;obtain⟨⟨Z,M,O,R⟩,B,I,n2,L⟩:=id hb;simp only at Y hd I L;subst Y hd I L;exact richCompare_meets_room (op:= .Lt) ⟨_,U,rfl⟩ ⟨_,B,rfl⟩ PySem.F.slot_tuple_lt PySem.F.entry_tuple_lt (PySem.F.args_tuple_lt_2 _ _) (tuple_ltG l b xs ys n n2 dd M sl R e lt)
  ⟨U,B,he,ht,show Value.bool _≠Value.notImplemented/\Q (.bool _) s from⟨(fun z=>nomatch z),h⟩⟩ hu
theorem LtAt.int {A:Around}{s:Shared}(a:Int)(t:Tok)(c:Int)(u:Tok):LtAt A s (.int a t) (.int c u) (decide (a<c)):=fun P w E Q h=>
 (PyProof.Rows.lt_int h:wpAny (model P w) A (compareOp .Lt (.int a t) (.int c u)) Q E s)
end AwQ
namespace L2
open PySem PySem.Spec PyProof.Rows
mutual
def puD:D->Bool
 | .str _=>true
 | .int _=>true
 | .tup xs=>puL xs
 |_=>false
def puL:List D->Bool
 | []=>true
 |x::r=>puD x&&puL r
end
mutual
def eqD:D->D->Bool
 | .str a,.str b=>a==b
 | .int a,.int b=>a==b
 | .tup xs,.tup ys=>eqL xs ys
 |_,_=>false
def eqL:List D->List D->Bool
 | [],[]=>true
 |x::r,y::q=>eqD x y&&eqL r q
 |_,_=>false
end
mutual
def ltD:D->D->Option Bool
 | .str a,.str b=>some (decide (a.cps.toList<b.cps.toList))
 | .int a,.int b=>some (decide (a<b))
 | .tup xs,.tup ys=>ltL xs ys
 |_,_=>none
def ltL:List D->List D->Option Bool
 | [],[]=>some false
 | [],_::_=>some true
 |_::_,[]=>some false
 |x::r,y::q=>if eqD x y=true then ltL r q else ltD x y
end
mutual
theorem eqD_iff:∀{d e:D},puD d=true->(eqD d e=true↔d=e)
 | .str a,e,_=>by cases e<;>simp [eqD]
 | .int a,e,_=>by cases e<;>simp [eqD]
 | .tup xs,.tup ys,h=>by
  have:=eqL_iff (xs:=xs) (ys:=ys) (by simpa [puD] using h)
  simp only [eqD,this,D.tup.injEq]
 | .tup xs,.non,_=>by simp [eqD]
 | .tup xs,.bl _,_=>by simp [eqD]
 | .tup xs,.int _,_=>by simp [eqD]
 | .tup xs,.str _,_=>by simp [eqD]
 | .tup xs,.lst,_=>by simp [eqD]
 | .tup xs,.dct,_=>by simp [eqD]
 | .non,_,h=>by simp [puD] at h
 | .bl _,_,h=>by simp [puD] at h
 | .lst,_,h=>by simp [puD] at h
 | .dct,_,h=>by simp [puD] at h
theorem eqL_iff:∀{xs ys:List D},puL xs=true->(eqL xs ys=true↔xs=ys)
 | [],[],_=>by simp [eqL]
 | [],_::_,_=>by simp [eqL]
 |_::_,[],_=>by simp [eqL]
 |x::r,y::q,h=>by
  have h':puD x=true/\puL r=true:=by simpa [puL] using h
  simp only [eqL,uh,eqD_iff h'.1,eqL_iff h'.2,List.cons.injEq]
end
mutual
theorem Is.det {H:Hp}:∀{d e:D}{v:V},puD d=true->puD e=true->Is H d v->Is H e v->d=e
 | .str a,e,v,_,he,h1,h2=>by
  obtain⟨rfl,_⟩:=(show v= .str a/\_ from h1)
  cases e with
  |str b=>obtain⟨q,_⟩:=(show V.str a=V.str b/\_ from h2);cases q;rfl
  |int b=>cases(show V.str a=V.int b from h2)
  |tup ys=>obtain⟨p,us,q,_⟩:=(show∃p us,V.str a=V.ref p/\_ from h2);cases q
  |_=>simp [puD] at he
 | .int a,e,v,_,he,h1,h2=>by
  cases(show v= .int a from h1)
  cases e with
  |str b=>obtain⟨q,_⟩:=(show V.int a=V.str b/\_ from h2);cases q
  |int b=>cases(show V.int a=V.int b from h2);rfl
  |tup ys=>obtain⟨p,us,q,_⟩:=(show∃p us,V.int a=V.ref p/\_ from h2);cases q
  |_=>simp [puD] at he
 | .tup xs,e,v,hd,he,h1,h2=>by
  obtain⟨p,vs,rfl,M,O⟩:=(show∃p vs,v=V.ref p/\H p=some (.tup vs)/\IsL H xs vs from h1)
  cases e with
  |str b=>obtain⟨q,_⟩:=(show V.ref p=V.str b/\_ from h2);cases q
  |int b=>cases(show V.ref p=V.int b from h2)
  |tup ys=>
   obtain⟨I,us,q,B,L⟩:=(show∃I us,V.ref p=V.ref I/\H I=some (.tup us)/\IsL H ys us from h2)
   cases q;rw [M] at B;cases B;rw [IsL.det (by simpa [puD] using hd) (by simpa [puD] using he) O L]
  |_=>simp [puD] at he
 | .non,_,_,hd,_,_,_=>by simp [puD] at hd
 | .bl _,_,_,hd,_,_,_=>by simp [puD] at hd
 | .lst,_,_,hd,_,_,_=>by simp [puD] at hd
 | .dct,_,_,hd,_,_,_=>by simp [puD] at hd
theorem IsL.det {H:Hp}:∀{xs ys:List D}{vs:List V},puL xs=true->puL ys=true->IsL H xs vs->IsL H ys vs->xs=ys
 | [],[],_,_,_,_,_=>rfl
 | [],_::_,_,_,_,h1,h2=>by
  cases(show _= [] from h1)
  obtain⟨v,r,q,_⟩:=(show∃v r,[]=v::r/\_ from h2)
  cases q
 |_::_,[],_,_,_,h1,h2=>by
  cases(show _= [] from h2)
  obtain⟨v,r,q,_⟩:=(show∃v r,[]=v::r/\_ from h1)
  cases q
 |x::xs,y::ys,_,hd,he,h1,h2=>by
  obtain⟨v,r,rfl,L,M⟩:=h1;obtain⟨U,r',q,O,R⟩:=h2;cases q;have B:puD x=true/\puL xs=true:=by simpa [puL] using hd
  have I:puD y=true/\puL ys=true:=by simpa [puL] using he
  rw [Is.det B.1 I.1 L O,IsL.det B.2 I.2 M R]
end
theorem eqL_all:∀(xs ys:List D),eqL xs ys=((List.range (min xs.length ys.length)).all (fun j=>eqD (xs.getD j .non) (ys.getD j .non))&&xs.length==ys.length)
 | [],[]=>by simp [eqL]
 | [],_::_=>by simp [eqL]
 |_::_,[]=>by simp [eqL]
 |x::r,y::q=>by
  have B:=eqL_all r q;rw [uy,uy,show min (r.length+1) (q.length+1)=min r.length q.length+1 by omega,List.range_succ_eq_map,vK,U8]
  have e:(List.range (min r.length q.length)).all ((fun j=>eqD ((x::r).getD j .non) ((y::q).getD j .non))∘Nat.succ)=(List.range (min r.length q.length)).all fun j=>eqD (r.getD j .non) (q.getD j .non):=by congr 1
  rw [e];have I:(r.length+1==q.length+1)=(r.length==q.length):=by rw [vh];simp
  rw [I,Bool.and_assoc,<-B]
  rfl
section
variable {X:Cx}{pins:List (Addr×Obj)}{σ:St}{H:Hp}{s:Shared}
theorem eqAt_str (I:Inv X pins σ H s){z:Str}{t:Tok}{e:D}{u:V}{b:Value}{A:Around}(L:puD e=true)(h2:Is H e u)(B:RelV u b)(hu:A.units<cLine):SeqAt.EqAt A s (.str z t) b (eqD (.str z) e):=by
 cases e with
 |str y=>
  obtain⟨rfl,_⟩:=(show u= .str y/\_ from h2)
  obtain⟨M,rfl⟩:=B;exact SeqAt.EqAt.str_str _ _ _ _
 |int y=>
  cases(show u= .int y from h2)
  obtain⟨M,rfl⟩:=B;exact Up _ _ _ _
 |tup ys=>
  obtain⟨p,us,rfl,O,R⟩:=(show∃p us,u=V.ref p/\H p=some (.tup us)/\IsL H ys us from h2)
  cases B;obtain⟨its,_,q,_⟩:=I.tuple (.inl (.of O));exact SeqAt.EqAt.str_tuple _ _ q hu
 |_=>simp [puD] at L
theorem eqAt_int (I:Inv X pins σ H s){z:Int}{t:Tok}{e:D}{u:V}{b:Value}{A:Around}(L:puD e=true)(h2:Is H e u)(B:RelV u b)(hu:A.units<cLine):SeqAt.EqAt A s (.int z t) b (eqD (.int z) e):=by
 cases e with
 |str y=>
  obtain⟨rfl,_⟩:=(show u= .str y/\_ from h2)
  obtain⟨M,rfl⟩:=B;exact Uo _ _ _ _
 |int y=>
  cases(show u= .int y from h2)
  obtain⟨M,rfl⟩:=B;exact SeqAt.EqAt.int_int _ _ _ _
 |tup ys=>
  obtain⟨p,us,rfl,O,R⟩:=(show∃p us,u=V.ref p/\H p=some (.tup us)/\IsL H ys us from h2)
  cases B;obtain⟨its,_,q,_⟩:=I.tuple (.inl (.of O));exact SeqAt.EqAt.int_tuple _ _ q hu
 |_=>simp [puD] at L
theorem QJ:∀{xs:List D}{j:Nat}{x:D},puL xs=true->xs[j]? =some x->puD x=true
 | [],_,_,_,e=>by simp at e
 |y::r,0,x,h,e=>by
  have h':puD y=true/\puL r=true:=by simpa [puL] using h
  have:y=x:=by simpa using e
  exact this▸h'.1
 |y::r,j+1,x,h,e=>by
  have h':puD y=true/\puL r=true:=by simpa [puL] using h
  exact QJ h'.2 (by simpa using e)
theorem eqAt_tup (I:Inv X pins σ H s){xs:List D}{e:D}{v u:V}{a b:Value}{A:Around}(hd:puD (.tup xs)=true)(U:puD e=true)(h1:Is H (.tup xs) v)(h2:Is H e u)(r1:RelV v a)(O:RelV u b)(hu:A.units<cLine)
  (ih:∀x∈xs,∀(e:D) (v u:V) (a b:Value),puD x=true->puD e=true->Is H x v->Is H e u->RelV v a->RelV u b->SeqAt.EqAt A.in1 s a b (eqD x e)):SeqAt.EqAt A s a b (eqD (.tup xs) e):=by
 obtain⟨p,vs,rfl,hp,hl⟩:=(show∃p vs,v=V.ref p/\H p=some (.tup vs)/\IsL H xs vs from h1)
 cases r1;obtain⟨its,rv,q,_⟩:=I.tuple (.inl (.of hp));cases e with
 |str y=>
  obtain⟨rfl,_⟩:=(show u= .str y/\_ from h2)
  obtain⟨t2,rfl⟩:=O;exact SeqAt.EqAt.tuple_str _ _ q hu
 |int y=>
  cases(show u= .int y from h2)
  obtain⟨t2,rfl⟩:=O;exact SeqAt.EqAt.tuple_int _ _ q hu
 |tup ys=>
  by_cases Y:V.ref p=u
  ·have:=Is.det (e:= .tup ys) hd U h1 (Y▸h2);subst Y;cases O;rw [<-this,(eqD_iff hd).mpr rfl];exact SeqAt.EqAt.same _
  ·obtain⟨Z,us,rfl,aa,B⟩:=(show∃Z us,u=V.ref Z/\H Z=some (.tup us)/\IsL H ys us from h2)
   cases O;obtain⟨its',L,q',_⟩:=I.tuple (.inl (.of aa));have l1:its.length=xs.length:=by rw [<-rv.length,hl.length]
   have l2:its'.length=ys.length:=by rw [<-L.length,B.length]
   have ab:puL xs=true:=by simpa [puD] using hd
   have ac:puL ys=true:=by simpa [puD] using U
   have key:=SeqAt.RcAt.tuples (e:=fun j=>eqD (xs.getD j .non) (ys.getD j .non)) q q' hu fun j a1 a2=>by
    have M:j<xs.length:=by rw [<-l1];simpa using a1
    have R:j<ys.length:=by rw [<-l2];simpa using a2
    obtain⟨v1,e1,i1⟩:=hl.get (i:=j) (d:=xs[j]) (by simp [M])
    obtain⟨v2,e2,i2⟩:=B.get (i:=j) (d:=ys[j]) (by simp [R])
    obtain⟨b1,f1,g1⟩:=rv.get e1;obtain⟨b2,f2,g2⟩:=L.get e2;have k1:its.toArray[j]=b1:=by
     have:=f1;rw [u7 (by rw [l1];exact M)] at this
     simpa using this
    have k2:its'.toArray[j]=b2:=by
     have:=f2;rw [u7 (by rw [l2];exact R)] at this
     simpa using this
    have d1:xs.getD j .non=xs[j]:=by simp [List.getD,M]
    have d2:ys.getD j .non=ys[j]:=by simp [List.getD,R]
    show SeqAt.EqAt _ s _ _ (eqD (xs.getD j .non) (ys.getD j .non));rw [k1,k2,d1,d2];exact ih _ (uJ M) _ _ _ _ _ (QJ (j:=j) ab (by simp [M])) (QJ (j:=j) ac (by simp [R])) i1 i2 g1 g2
   have e1:eqD (.tup xs) (.tup ys)=((List.range (min its.toArray.size its'.toArray.size)).all (fun j=>eqD (xs.getD j .non) (ys.getD j .non))&&its.toArray.size==its'.toArray.size):=by
    rw [ud,ud,l1,l2,<-eqL_all];simp only [eqD]
   rw [e1];exact SeqAt.EqAt.of_refs (fun z=>Y (by rw [z])) key
 |_=>simp [puD] at U
theorem eqAt_D (I:Inv X pins σ H s):∀(n:Nat) (d e:D) (v u:V) (a b:Value) (A:Around),dp d<=n->puD d=true->puD e=true->Is H d v->Is H e u->RelV v a->RelV u b->A.units+n<cLine->SeqAt.EqAt A s a b (eqD d e):=by
 intro n
 induction n with
 |zero=>
  intro d e v u a b A hn hd L h1 h2 M O hu;cases d with
  |int z=>
   cases(show v= .int z from h1)
   obtain⟨t,rfl⟩:=M;exact eqAt_int I L h2 O hu
  |str z=>simp [dp] at hn
  |tup xs=>simp [dp] at hn
  |_=>simp [puD] at hd
 |succ n R=>
  intro d e v u a b A hn hd L h1 h2 M O hu;have B:A.units<cLine:=Nat.lt_of_le_of_lt (Nat.le_add_right _ _) hu;cases d with
  |int z=>
   cases(show v= .int z from h1)
   obtain⟨t,rfl⟩:=M;exact eqAt_int I L h2 O B
  |str z=>
   obtain⟨rfl,_⟩:=(show v= .str z/\_ from h1)
   obtain⟨t,rfl⟩:=M;exact eqAt_str I L h2 O B
  |tup xs=>
   have hm:dpL xs<=n:=by
    have:dp (.tup xs)=1+dpL xs:=by simp only [dp]
    omega
   exact eqAt_tup I hd L h1 h2 M O B fun x hx e v u a b U Y Z k4 k5 k6=>R x e v u a b A.in1 ((yw xs).mp hm x hx) U Y Z k4 k5 k6 (by rw [uu];omega)
  |_=>simp [puD] at hd
theorem lexG_succ {e lt:Nat->Bool}{d:Bool}:∀(k i:Nat),AwQ.lexG e lt d (i+1) k=AwQ.lexG (fun j=>e (j+1)) (fun j=>lt (j+1)) d i k
 |0,_=>rfl
 |k+1,i=>by rw [AwQ.lexG,AwQ.lexG,lexG_succ k (i+1)]
def eAt (xs ys:List D)(j:Nat):Bool:=eqD (xs.getD j .non) (ys.getD j .non)
def lAt (xs ys:List D)(j:Nat):Bool:=(ltD (xs.getD j .non) (ys.getD j .non)).getD false
theorem J1:∀{xs ys:List D}{r:Bool},ltL xs ys=some r->AwQ.lexG (eAt xs ys) (lAt xs ys) (decide (xs.length<ys.length)) 0 (min xs.length ys.length)=r
 | [],[],r,h=>by cases h;rfl
 | [],_::_,r,h=>by cases h;simp [AwQ.lexG]
 |_::_,[],r,h=>by cases h;simp [AwQ.lexG]
 |x::xs,y::ys,r,h=>by
  rw [uy,uy,show min (xs.length+1) (ys.length+1)=min xs.length ys.length+1 by omega,AwQ.lexG]
  have I:eAt (x::xs) (y::ys) 0=eqD x y:=rfl;have L:decide (xs.length+1<ys.length+1)=decide (xs.length<ys.length):=by rw [uz];omega
  rw [I,L,lexG_succ];cases B:eqD x y with
  |true=>
   rw [if_pos rfl];have:ltL xs ys=some r:=by rw [ltL,B,if_pos rfl] at h;exact h
   exact J1 this
  |false=>
   rw [if_neg uf];have:ltD x y=some r:=by rw [ltL,B,if_neg uf] at h;exact h
   show(ltD x y).getD false=r;rw [this];rfl
theorem lt_at:∀{xs ys:List D}{r:Bool} (j:Nat),ltL xs ys=some r->j<xs.length->j<ys.length->(∀i,i<j->eAt xs ys i=true)->eAt xs ys j=false->ltD (xs.getD j .non) (ys.getD j .non)=some (lAt xs ys j)
 | [],_,_,j,_,h1,_,_,_=>by simp at h1
 |_::_,[],_,j,_,_,h2,_,_=>by simp at h2
 |x::xs,y::ys,r,0,h,_,_,_,hj=>by
  have B:eqD x y=false:=hj;have:ltD x y=some r:=by rw [ltL,B,if_neg uf] at h;exact h
  show ltD x y=some ((ltD x y).getD false);rw [this];rfl
 |x::xs,y::ys,r,j+1,h,h1,h2,hall,hj=>by
  have I:eqD x y=true:=hall 0 (Nat.succ_pos _);have:ltL xs ys=some r:=by rw [ltL,I,if_pos rfl] at h;exact h
  exact lt_at (xs:=xs) (ys:=ys) j this (by simpa using h1) (by simpa using h2) (fun i hi=>hall (i+1) (by omega)) hj
theorem ltAt_tup (I:Inv X pins σ H s){n:Nat}{xs ys:List D}{v u:V}{a b:Value}{A:Around}{r:Bool}(hn:dpL xs<=n)(hd:puD (.tup xs)=true)(he:puD (.tup ys)=true)(h1:Is H (.tup xs) v)(h2:Is H (.tup ys) u)(r1:RelV v a)(r2:RelV u b)(hu:A.units+1+n<cLine)
  (hr:ltL xs ys=some r)
  (ih:∀x∈xs,∀(e:D) (v u:V) (a b:Value) (r:Bool),puD x=true->puD e=true->Is H x v->Is H e u->RelV v a->RelV u b->ltD x e=some r->AwQ.LtAt A.in1 s a b r):AwQ.LtAt A s a b r:=by
 obtain⟨p,vs,rfl,hp,hl⟩:=(show∃p vs,v=V.ref p/\H p=some (.tup vs)/\IsL H xs vs from h1)
 obtain⟨p',us,rfl,af,Z⟩:=(show∃p' us,u=V.ref p'/\H p'=some (.tup us)/\IsL H ys us from h2)
 cases r1;cases r2;obtain⟨its,rv,q,_⟩:=I.tuple (.inl (.of hp));obtain⟨its',aa,q',_⟩:=I.tuple (.inl (.of af));have l1:its.length=xs.length:=by rw [<-rv.length,hl.length]
 have l2:its'.length=ys.length:=by rw [<-aa.length,Z.length]
 have ab:puL xs=true:=by simpa [puD] using hd
 have ac:puL ys=true:=by simpa [puD] using he
 have L:∀j (O:j<its.toArray.size) (R:j<its'.toArray.size),∃(B:j<xs.length) (M:j<ys.length) (U Y:V),Is H xs[j] U/\Is H ys[j] Y/\RelV U its.toArray[j]/\RelV Y its'.toArray[j]:=fun j O R=>by
  have B:j<xs.length:=by rw [<-l1];simpa using O
  have M:j<ys.length:=by rw [<-l2];simpa using R
  obtain⟨U,e1,i1⟩:=hl.get (i:=j) (d:=xs[j]) (by simp [B])
  obtain⟨Y,e2,i2⟩:=Z.get (i:=j) (d:=ys[j]) (by simp [M])
  obtain⟨b1,f1,g1⟩:=rv.get e1;obtain⟨b2,f2,g2⟩:=aa.get e2;have k1:its.toArray[j]=b1:=by
   have:=f1;rw [u7 (by rw [l1];exact B)] at this
   simpa using this
  have k2:its'.toArray[j]=b2:=by
   have:=f2;rw [u7 (by rw [l2];exact M)] at this
   simpa using this
  exact⟨B,M,U,Y,i1,i2,k1▸g1,k2▸g2⟩
 have key:=AwQ.LtAt.tuples (A:=A) (e:=eAt xs ys) (lt:=lAt xs ys) q q' (by omega) (fun j O R=>by
  obtain⟨B,M,U,Y,i1,i2,g1,g2⟩:=L j O R;have d1:xs.getD j .non=xs[j]:=by simp [List.getD,B]
  have d2:ys.getD j .non=ys[j]:=by simp [List.getD,M]
  unfold eAt;rw [d1,d2];exact eqAt_D I n _ _ _ _ _ _ A.in1 ((yw xs).mp hn _ (uJ B)) (QJ (j:=j) ab (by simp [B])) (QJ (j:=j) ac (by simp [M])) i1 i2 g1 g2 (by rw [uu];omega))
  (fun j O R ad hj=>by
   obtain⟨B,M,U,Y,i1,i2,g1,g2⟩:=L j O R;have d1:xs.getD j .non=xs[j]:=by simp [List.getD,B]
   have d2:ys.getD j .non=ys[j]:=by simp [List.getD,M]
   have ae:=lt_at j hr B M ad hj;rw [d1,d2] at ae;exact ih _ (uJ B) _ _ _ _ _ _ (QJ (j:=j) ab (by simp [B])) (QJ (j:=j) ac (by simp [M])) i1 i2 g1 g2 ae)
 have e1:=J1 hr;rw [ud,ud,l1,l2,e1] at key;exact key
theorem ltAt_D (I:Inv X pins σ H s):∀(n:Nat) (d e:D) (v u:V) (a b:Value) (A:Around) (r:Bool),dp d<=n->puD d=true->puD e=true->Is H d v->Is H e u->RelV v a->RelV u b->A.units+n<cLine->ltD d e=some r->AwQ.LtAt A s a b r:=by
 intro n
 induction n with
 |zero=>
  intro d e v u a b A r hn hd U h1 h2 L M hu B;cases d with
  |int z=>
   cases e with
   |int y=>
    cases(show v= .int z from h1)
    cases(show u= .int y from h2)
    obtain⟨t,rfl⟩:=L;obtain⟨O,rfl⟩:=M;cases B;exact AwQ.LtAt.int _ _ _ _
   |_=>simp [ltD] at B
  |str z=>simp [dp] at hn
  |tup xs=>simp [dp] at hn
  |_=>simp [puD] at hd
 |succ n Y=>
  intro d e v u a b A r hn hd U h1 h2 L M hu B;cases d with
  |int z=>
   cases e with
   |int y=>
    cases(show v= .int z from h1)
    cases(show u= .int y from h2)
    obtain⟨t,rfl⟩:=L;obtain⟨O,rfl⟩:=M;cases B;exact AwQ.LtAt.int _ _ _ _
   |_=>simp [ltD] at B
  |str z=>
   cases e with
   |str y=>
    obtain⟨rfl,_⟩:=(show v= .str z/\_ from h1)
    obtain⟨rfl,_⟩:=(show u= .str y/\_ from h2)
    obtain⟨t,rfl⟩:=L;obtain⟨O,rfl⟩:=M;cases B;exact fun P w E Q h=>(PyProof.Rows.lt_str h:wpAny (model P w) A (compareOp .Lt (.str z t) (.str y O)) Q E s)
   |_=>simp [ltD] at B
  |tup xs=>
   cases e with
   |tup ys=>
    have hm:dpL xs<=n:=by
     have:dp (.tup xs)=1+dpL xs:=by simp only [dp]
     omega
    have R:ltL xs ys=some r:=by rw [ltD] at B;exact B
    exact ltAt_tup I hm hd U h1 h2 L M (by omega) R fun x hx e v u a b r Z k2 k3 k4 k5 k6 k7=>Y x e v u a b A.in1 r ((yw xs).mp hm x hx) Z k2 k3 k4 k5 k6 (by rw [uu];omega) k7
   |_=>simp [ltD] at B
  |_=>simp [puD] at hd
end
section
variable {X:Cx}
def trD:D->Bool
 | .str _=>true
 | .tup xs=>puL xs
 |_=>false
end
theorem call_lenZ {X:Cx}:yx X (.builtin "len") (fun xs H Q=>(∃z:Str,xs= [.str z]/\z.length<=sizeLine/\Q (.int z.length) H)∨∃p ys,xs= [.ref p]/\(SqL X.K H p ys∨SqT X.K H p ys)/\(ys.length<=sizeLine->Q (.int ys.length) H)):=by
 intro pins s σ H xs us Q I r h;rcases h with⟨z,e,hz,q⟩|h
 ·exact JY pins s σ H xs us Q I r ⟨_,z.length,e,⟨hz,rfl⟩,q⟩
 ·exact call_lenB pins s σ H xs us Q I r h
end L2
namespace L2
open PySem PyProof.Rows
theorem Tk.updI {H:Hp}{p C dx I B:Addr}{xs ys:List (Str×V)}(h:H p=some (.ins C dx xs)):Tk H (upd H p (.ins I B ys)):=
 ⟨fun b zs e=>by rw [qi (fun z=>by rw [z,h] at e;cases e)];exact e,fun b zs e=>⟨zs,by rw [qi (fun z=>by rw [z,h] at e;cases e)];exact e⟩,fun b zs e=>⟨zs,by rw [qi (fun z=>by rw [z,h] at e;cases e)];exact e⟩⟩
def okHd:D->Bool
 | .non=>true
 |d=>trD d
section
variable {X:Cx}
def rInM (K:PySem.W.Frag):V->V->Hp->VK->Prop:=fun x y H Q=>∃(d:D) (p:Addr) (ls:List Str),Is H d x/\y= .ref p/\(SqL K H p (ls.map V.str)∨SqT K H p (ls.map V.str))/\(∀z∈ls,z.length<=1000)/\okHd d=true/\dp d<=60/\Q (.bl (ls.any fun z=>eqD d (.str z))) H
theorem flat_ss (us:List Str):(us.map V.str).all xb=true:=by
 rw [U8,UA];exact fun _ _=>rfl
theorem op_inM (hu:X.A.units+64<cLine):OpR X (compareOp .In) (rInM X.K):=by
 intro pins s σ H x y v u Q I U Y h;obtain⟨d,p,B,hd,rfl,L,Z,hk,hp,q⟩:=h;cases d with
 |non=>
  cases(show x= .non from hd)
  refine Yx pins s σ H .non _ v u Q I U Y ⟨p,_,rfl,L,rfl,flat_ss _,?_⟩;have e:inV .non (B.map V.str)=B.any fun z=>eqD .non (.str z):=by
   unfold inV;rw [List.any_map]
   rfl
  rw [if_neg uf,e];exact q
 |str a=>
  obtain⟨rfl,_⟩:=hd;refine Yx pins s σ H _ _ v u Q I U Y ⟨p,_,rfl,L,rfl,flat_ss _,?_⟩;have e:inV (.str a) (B.map V.str)=B.any fun z=>eqD (.str a) (.str z):=by
   unfold inV;rw [List.any_map];refine congrArg (fun f=>B.any f) (funext fun z=> ?_);show(z==a)=(a==z);rw [vh,UF,UF];exact eq_comm
  rw [if_neg uf,e];exact q
 |tup xs=>
  have e:(B.any fun z=>eqD (.tup xs) (.str z))=false:=by
   rw [List.any_eq_false];intro z _;simp [eqD]
  rw [e] at q;obtain⟨R,vs,rfl,ha,hl⟩:=hd;cases U;cases Y;obtain⟨aa,ab,ac,_⟩:=I.tuple (.inl (.of ha));have ad:X.A.units<cLine:=by omega
  have key:∀{its:List Value},Vals (B.map V.str) its->∀w∈its,∀A:Around,A.units+1<cLine->SeqAt.EqAt A s w (.ref R) false:=by
   intro its r w M A hA;obtain⟨j,hj⟩:=List.mem_iff_getElem?.mp M;have O:j<B.length:=by
    have:=(List.getElem?_eq_some_iff.mp hj).1;have:=r.length;rw [ue] at this;omega
   obtain⟨u',e1,e2⟩:=r.get (i:=j) (x:=V.str B[j]) (by rw [um,u7 O];rfl)
   rw [hj] at e1;cases e1;have:=eqAt_D I 1 (.str B[j]) (.tup xs) (.str B[j]) (.ref R) _ (.ref R) A (by simp [dp]) rfl (by simpa [okHd,trD,puD] using hk) ⟨rfl,by have:=Z _ (uJ O);rw [vi];omega⟩ ⟨R,vs,rfl,ha,hl⟩ e2 rfl (by omega)
   simpa [eqD] using this
  rcases L with L|L
  ·obtain⟨its,r,pl,hz⟩:=I.list L;refine SeqAt.in_listAt (fun _=>false) pl.isList (fun w M=>key r w (by simpa using M) _ ?_) ⟨.bl _,H,I,rfl,?_⟩
   ·first|omega|(rw [uu];omega)|(rw [uu,uu];omega)|(rw [uu,uu,uu];omega)
   ·rw [show its.toArray.any (fun _=>false)=false by rw [List.any_toArray];exact List.any_eq_false.mpr fun _ _=>uf]
    exact q
  ·obtain⟨its,r,pl,hz⟩:=I.tuple L;refine SeqAt.in_tupleAt (fun _=>false) pl (fun w M=>key r w (by simpa using M) _ ?_) ⟨.bl _,H,I,rfl,?_⟩
   ·first|omega|(rw [uu];omega)|(rw [uu,uu];omega)|(rw [uu,uu,uu];omega)
   ·rw [show its.toArray.any (fun _=>false)=false by rw [List.any_toArray];exact List.any_eq_false.mpr fun _ _=>uf]
    exact q
 |_=>simp [okHd,trD] at hk
end
section
variable {X:Cx}{pins:List (Addr×Obj)}{σ:St}{H:Hp}{s:Shared}
def rNeN (K:PySem.W.Frag):R2:=fun x y H Q=>∃(a b:Addr) (xs:List V),x= .ref a/\y= .ref b/\SqL K H a xs/\SqL K H b []/\Q (.bl (decide (xs≠ []))) H
theorem op_neN (hu:X.A.units<cLine):OpR X (compareOp .NotEq) (rNeN X.K):=by
 intro pins s σ H x y v u Q I L M h;obtain⟨a,b,xs,rfl,rfl,ha,O,q⟩:=h;cases L;cases M;obtain⟨its,r,p,_⟩:=I.list ha;obtain⟨B,R,p2,_⟩:=I.list O;cases R;cases r with
 |nil=>
  rw [ub (by simp)] at q
  exact(SeqAt.RcNeAt.lists (e:=fun _=>true) p.isList p2.isList rfl hu fun j h1 _=>absurd h1 (vT _)) X.prog X.w X.xe _ ⟨.bl false,H,I,rfl,q⟩
 |cons h1 h2=>
  rw [uc (by simp)] at q
  exact(SeqAt.RcNeAt.lists_lengths p.isList p2.isList (by simp) hu) X.prog X.w X.xe _ ⟨.bl true,H,I,rfl,q⟩
end
end L2
namespace L2
open PySem PySem.Spec PyProof.Rows
open Builtin.Int (intBits)
theorem j9:∀(ns:List Int) (x:Int),x∈ns->PySem.W.WData.weight (.int x)<=PySem.W.WData.weightAll (ns.map PySem.W.WData.int)
 |n::ns,x,h=>by
  rw [uo];unfold PySem.W.WData.weightAll;rcases List.mem_cons.mp h with rfl|h
  ·omega
  ·have:=j9 ns x h;omega
theorem Yd {ns:List Int}(h:PySem.W.WData.layableAll [PySem.W.WData.list (ns.map PySem.W.WData.int)]=true){x:Int}(hx:x∈ns):intBits x<=1048576:=by
 have h1:PySem.W.WData.layable (PySem.W.WData.list (ns.map PySem.W.WData.int))=true:=by
  unfold PySem.W.WData.layableAll at h
  simpa using h
 unfold PySem.W.WData.layable at h1;rw [uh] at h1;have h2:PySem.W.WData.weight (PySem.W.WData.list (ns.map PySem.W.WData.int))<=2^20:=uk h1.2;unfold PySem.W.WData.weight at h2;have B:=j9 ns x hx;unfold PySem.W.WData.weight at B;have h4:intBits x=if(x==0)=true then 0 else x.natAbs.log2+1:=by
  unfold intBits;simp
 rw [h4];omega
end L2
namespace Att
open PySem PySem.W PySem.Calls PyProof.Rows
open Builtin.Int (intBits)
open L2 (Yd)
theorem attach_callB {l:OpenLaw}{n:Nat}{q:Program}{B:List Str}{XP:(Str->Option Value)->Heap->Prop}{YP:World->Heap->Prop}{d:DefRec}
  (hn:l.most=some n) (Z:d.params.defaults= [])
  (call:∀(w:World) (s₀ I:Shared) (mg mb:Str->Option Value) (M:Addr) (o:Obj) (pm U doc:Value) (a:Addr) (vs:List Value) (ns:List Int),
   Ground q B [] XP w s₀ mg mb I.heap->YP w I.heap->
   I.heap.get? M=some o->o.data= .func (docDef d.name d.params d.body d.scope pm U doc)->I.heap.CodeRec U d.name->mg d.name=some (.ref M)->
   I.heap.get? a=some {cls:= .type "list",data:= .seq vs.toArray}->IntsAre vs ns->ns.length<=n->(∀x∈ns,intBits x<=1048576)->I.gens= #[]->
   codeAny (model l.prog w) callerA (.call (.ref M) ⟨[.ref a],[]⟩) (fun r s'=>r= .ok (.ret (.bool true))/\OldK I.heap s'.heap/\s'.os=I.os/\AllBare s'.gens) I):
  WalkO q B XP YP l.row.toRowW d [] (fun f vs=>PySem.call f vs):=by
 intro w s₀ I mg mb G Y M o pm U doc dV kV ho hd aa hD ab hg args ac as hpre hlay hrd hwl hlo;obtain rfl:dV= .none:=Dflts.none hD Z;obtain rfl:kV= .none:=Dflts.noKw hD;obtain⟨a,vs,ns,rfl,rfl,O,L,R⟩:=script_of hn hpre hwl;refine enter_call (vX (call w s₀ I mg mb M o pm U doc a vs ns G Y ho (fd_plain hd) aa ab O L R (fun x hx=>Yd hlay hx) hg) fun r s' hq=> ?_);obtain⟨rfl,h2,h3,h4⟩:=hq;exact⟨.inl ⟨.bool true,.bool true,[],rfl,fun _=>rfl,.bool true,post_true l _,fun _=>⟨List.Pairwise.nil,fun _ hm=>(nomatch hm)⟩⟩,h2,h3,h4⟩
end Att
namespace L2
open PySem PySem.Spec PyProof.Rows
open Builtin.Int (intBits)
theorem walk_ofB {l:PySem.W.OpenLaw}{n k:Nat}{q:Program}{I:List Str}{XP:(Str->Option Value)->Heap->Prop}{YP:World->Heap->Prop}{d:DefRec}{K:Params->PySem.W.Frag}{CX:CXT}{sp:PySem.W.Frag->Sp}{x:Str}
  (hn:l.most=some n) (Z:n<=sizeLine) (aa:d.params.defaults= []) (hr:Room k callerA)
  (hY:∀(w:World) (h:Heap),YP w h->(K w.params).In h)
  (F:∀(w:World) (mg:Str->Option Value) (U:Addr) (h:Heap),(K w.params).In h->h.Ns mainGlobals mg->mg d.name=some (.ref U)->
   ∃fd:FuncData,(∀(s:Shared) (u:Value),BindsTo s fd ⟨[u],[]⟩ [(x,u)])/\fd.scope.names.lookup x=some .local/\
    ∀base:Heap,(K w.params).In base->base.Ns mainGlobals mg->FnOk l.prog w (K w.params) mg base CX k U fd [x] (sp (K w.params)))
  (ab:∀(w:World) (H:Hp) (a:Addr) (ns:List Int),ns.length<=n->(∀x∈ns,intBits x<=1048576)->Only H->SqL (K w.params) H a (ns.map V.int)->sp (K w.params) [.ref a] H (fun v _=>v= .bl true) fun _ _ _=>False)
  (ac:∀(H:Hp) (s:Shared) (e:Value) (s':Shared),CX [] H s (fun _ _ _=>False) e s'->False):
  PySem.W.WalkO q I XP YP l.row.toRowW d [] (fun f vs=>PySem.call f vs):=by
 refine Att.attach_callB hn aa fun w s₀ s₁ mg mb U o pm cd doc a vs ns G Y ho hd ae ad M L B O hg=> ?_;have KX:=hY w _ Y;obtain⟨fd,hb,R,hF⟩:=F w mg U _ KX G.T.g ad;exact law_call KX G.T.g G.T.b G.T.builtins G.T.nolimit hg M L (vt B Z) hr hF hb R (fun H hO hS=>ab w H a ns B O hO hS) fun H e s'=>ac H s₁ e s'
end L2
namespace L2
open PySem PySem.Spec PyProof.Rows
mutual
def nD:D->Bool
 | .non=>true
 | .str _=>true
 | .int _=>true
 | .tup xs=>nL xs
 |_=>false
def nL:List D->Bool
 | []=>true
 |x::r=>nD x&&nL r
end
theorem nL_get:∀{xs:List D}{j:Nat}{x:D},nL xs=true->xs[j]? =some x->nD x=true
 | [],_,_,_,e=>by simp at e
 |y::r,0,x,h,e=>by
  have h':nD y=true/\nL r=true:=by simpa [nL] using h
  have:y=x:=by simpa using e
  exact this▸h'.1
 |y::r,j+1,x,h,e=>by
  have h':nD y=true/\nL r=true:=by simpa [nL] using h
  exact nL_get h'.2 (by simpa using e)
end L2
namespace AwZ
open PySem PySem.Spec PyProof.Rows
theorem tc_enum0 (a:Value):checkTypeCall "enumerate" ⟨[a],[]⟩=pure ():=by kernel_rfl
theorem nc_enum0 (a:Value):checkBuiltinCall "enumerate.__new__" ⟨[.type "enumerate",a],[]⟩=pure ():=by kernel_rfl
theorem enum0_made (l:Addr)(its:Array Value):Meets (Builtin.«enumerate.__new__» ⟨[.type "enumerate",.ref l],[]⟩) (fun _ R s=>s.heap.IsTuple l its/\
   R (.ok (.ret (.ref (q1 s.heap l).objs.size))) {s with heap:=(q1 s.heap l).push {cls:= .type "enumerate",data:= .fields #[.none,.bool false,.ref s.heap.objs.size,rawInt 0,.none,.none]}}):=
 .of_wp fun prog w A R s h=>by
  obtain⟨B,g,d,tk,os⟩:=s;obtain⟨I,h⟩:=h;have sub:=sub_enumerate;have h1:Heap.IsTuple (Shared.heap ⟨B,g,d,tk,os⟩) l its:=I
  wp_walk
  refine wpAny_stack_any fun st=>u0 ?_;split
  ·rename_i c _ _ _ _ _
   cases(c==Value.type "enumerate")
   ·wp_walk using vH h1
    exact⟨_,rfl,h⟩
   ·wp_walk using vH h1
    exact⟨_,rfl,h⟩
  ·wp_walk using vH h1
   exact⟨_,rfl,h⟩
end AwZ
namespace L2
open PySem PySem.Spec PyProof.Rows
section
variable {X:Cx}{pins:List (Addr×Obj)}{σ:St}{H:Hp}{s:Shared}
def iEn0 (K:PySem.W.Frag)(te:TE):TI:=fun σ H R=>te σ H fun x H2=>∃a xs,x= .ref a/\SqT K H2 a xs/\(xs.length<=sizeLine->R (Ite K a 0) H2)
theorem pi_enum0 {L:List Expr}{c:Nat}{Z p pos:Pos}{e:Expr}{te:TE}(hg:Gl X "enumerate")(hm:X.mg "enumerate"=none)(he:PE X e te)(Y:starEach [e] X.env= [(false,eval e X.env)]:=by rfl):
  PI X (.Tuple L c Z) (.Call (.Name "enumerate" p) [e] [] pos) (iEn0 X.K te):=by
 intro pins s σ H R I h;have ha:PA X [e] (tCons te tNil):=qa he qc Y;refine Call_ (j5 I hg hm boot_enumerate (vD (thn (ha pos pins s σ H (fun vs H2=>match vs with| [x]=>∃a xs,x= .ref a/\SqT X.K H2 a xs/\(xs.length<=sizeLine->R (Ite X.K a 0) H2)|_=>False) I h) fun us s2 ⟨vs,H2,O,U,q1⟩=> ?_) (by rw [Y];rfl) (by rfl)))
 match vs,U,q1 with
 | [x],U,q1=>
 obtain⟨a,xs,rfl,hA,q⟩:=q1;obtain⟨u,rfl,ru⟩:=yn U;cases ru;obtain⟨its,ra,pa,za⟩:=O.tuple hA;refine AwZ.new_kw (kw:= []) F.called_enumerate (by decide) (AwZ.tc_enum0 _) (AwZ.nc_enum0 _) (fun obj=>F.args_object_init_2 _ _) F.entry_enumerate_new (AwZ.enum0_made a its.toArray) ⟨show s2.heap.IsTuple a its.toArray from pa,?_⟩
 have hz:(AwZ.q1 s2.heap a).objs.size=s2.heap.objs.size+1:=vN ..;have B:IsEnum ((AwZ.q1 s2.heap a).push {cls:= .type "enumerate",data:= .fields #[.none,.bool false,.ref s2.heap.objs.size,rawInt 0,.none,.none]}) (AwZ.q1 s2.heap a).objs.size s2.heap.objs.size 0 .none:=ug _ rfl;refine⟨⟨_,B,rfl⟩,?_⟩;refine wpAny_pyIter_enum (s:={s2 with heap:=_}) B ?_
 refine⟨_,[(AwZ.q1 s2.heap a).objs.size,s2.heap.objs.size],_,_,H2,rfl,O.kept (t':=s2.toks) (fun b o e=>u8 _ (u8 _ e)),turn_enum a _ _ 0,⟨⟨.none,B⟩,⟨_,u8 _ (ug _ rfl),rfl,rfl⟩,fun e=>Nat.ne_of_gt (Uz _) (hz.symm.trans e)⟩,fun x hx=> ?_,q za⟩;have M:s2.heap.objs.size<=x:=by
  simp only [uY,uQ,Ud] at hx;exact two_le hz hx
 exact O.fpOk M (O.hok.fresh M)
mutual
def eqN:D->D->Bool
 | .non,.non=>true
 | .str a,.str b=>a==b
 | .int a,.int b=>a==b
 | .tup xs,.tup ys=>eqNL xs ys
 |_,_=>false
def eqNL:List D->List D->Bool
 | [],[]=>true
 |x::r,y::q=>eqN x y&&eqNL r q
 |_,_=>false
end
mutual
theorem Qr:∀{d e:D},nD d=true->(eqN d e=true↔d=e)
 | .non,e,_=>by cases e<;>simp [eqN]
 | .str a,e,_=>by cases e<;>simp [eqN]
 | .int a,e,_=>by cases e<;>simp [eqN]
 | .tup xs,.tup ys,h=>by
  have:=eqNL_iff (xs:=xs) (ys:=ys) (by simpa [nD] using h)
  simp only [eqN,this,D.tup.injEq]
 | .tup xs,.non,_=>by simp [eqN]
 | .tup xs,.bl _,_=>by simp [eqN]
 | .tup xs,.int _,_=>by simp [eqN]
 | .tup xs,.str _,_=>by simp [eqN]
 | .tup xs,.lst,_=>by simp [eqN]
 | .tup xs,.dct,_=>by simp [eqN]
 | .bl _,_,h=>by simp [nD] at h
 | .lst,_,h=>by simp [nD] at h
 | .dct,_,h=>by simp [nD] at h
theorem eqNL_iff:∀{xs ys:List D},nL xs=true->(eqNL xs ys=true↔xs=ys)
 | [],[],_=>by simp [eqNL]
 | [],_::_,_=>by simp [eqNL]
 |_::_,[],_=>by simp [eqNL]
 |x::r,y::q,h=>by
  have h':nD x=true/\nL r=true:=by simpa [nL] using h
  simp only [eqNL,uh,Qr h'.1,eqNL_iff h'.2,List.cons.injEq]
end
mutual
theorem Is.detN {H:Hp}:∀{d e:D}{v:V},nD d=true->nD e=true->Is H d v->Is H e v->d=e
 | .non,e,v,_,he,h1,h2=>by
  cases(show v= .non from h1)
  cases e with
  |non=>rfl
  |str b=>obtain⟨q,_⟩:=(show V.non=V.str b/\_ from h2);cases q
  |int b=>cases(show V.non=V.int b from h2)
  |tup ys=>obtain⟨p,us,q,_⟩:=(show∃p us,V.non=V.ref p/\_ from h2);cases q
  |_=>simp [nD] at he
 | .str a,e,v,_,he,h1,h2=>by
  obtain⟨rfl,_⟩:=(show v= .str a/\_ from h1)
  cases e with
  |non=>cases(show V.str a=V.non from h2)
  |str b=>obtain⟨q,_⟩:=(show V.str a=V.str b/\_ from h2);cases q;rfl
  |int b=>cases(show V.str a=V.int b from h2)
  |tup ys=>obtain⟨p,us,q,_⟩:=(show∃p us,V.str a=V.ref p/\_ from h2);cases q
  |_=>simp [nD] at he
 | .int a,e,v,_,he,h1,h2=>by
  cases(show v= .int a from h1)
  cases e with
  |non=>cases(show V.int a=V.non from h2)
  |str b=>obtain⟨q,_⟩:=(show V.int a=V.str b/\_ from h2);cases q
  |int b=>cases(show V.int a=V.int b from h2);rfl
  |tup ys=>obtain⟨p,us,q,_⟩:=(show∃p us,V.int a=V.ref p/\_ from h2);cases q
  |_=>simp [nD] at he
 | .tup xs,e,v,hd,he,h1,h2=>by
  obtain⟨p,vs,rfl,M,O⟩:=(show∃p vs,v=V.ref p/\H p=some (.tup vs)/\IsL H xs vs from h1)
  cases e with
  |non=>cases(show V.ref p=V.non from h2)
  |str b=>obtain⟨q,_⟩:=(show V.ref p=V.str b/\_ from h2);cases q
  |int b=>cases(show V.ref p=V.int b from h2)
  |tup ys=>
   obtain⟨I,us,q,B,L⟩:=(show∃I us,V.ref p=V.ref I/\H I=some (.tup us)/\IsL H ys us from h2)
   cases q;rw [M] at B;cases B;rw [IsL.detN (by simpa [nD] using hd) (by simpa [nD] using he) O L]
  |_=>simp [nD] at he
 | .bl _,_,_,hd,_,_,_=>by simp [nD] at hd
 | .lst,_,_,hd,_,_,_=>by simp [nD] at hd
 | .dct,_,_,hd,_,_,_=>by simp [nD] at hd
theorem IsL.detN {H:Hp}:∀{xs ys:List D}{vs:List V},nL xs=true->nL ys=true->IsL H xs vs->IsL H ys vs->xs=ys
 | [],[],_,_,_,_,_=>rfl
 | [],_::_,_,_,_,h1,h2=>by
  cases(show _= [] from h1)
  obtain⟨v,r,q,_⟩:=(show∃v r,[]=v::r/\_ from h2)
  cases q
 |_::_,[],_,_,_,h1,h2=>by
  cases(show _= [] from h2)
  obtain⟨v,r,q,_⟩:=(show∃v r,[]=v::r/\_ from h1)
  cases q
 |x::xs,y::ys,_,hd,he,h1,h2=>by
  obtain⟨v,r,rfl,L,M⟩:=h1;obtain⟨U,r',q,O,R⟩:=h2;cases q;have B:nD x=true/\nL xs=true:=by simpa [nL] using hd
  have I:nD y=true/\nL ys=true:=by simpa [nL] using he
  rw [Is.detN B.1 I.1 L O,IsL.detN B.2 I.2 M R]
end
theorem xl:∀(xs ys:List D),eqNL xs ys=((List.range (min xs.length ys.length)).all (fun j=>eqN (xs.getD j .non) (ys.getD j .non))&&xs.length==ys.length)
 | [],[]=>by simp [eqNL]
 | [],_::_=>by simp [eqNL]
 |_::_,[]=>by simp [eqNL]
 |x::r,y::q=>by
  have B:=xl r q;rw [uy,uy,show min (r.length+1) (q.length+1)=min r.length q.length+1 by omega,List.range_succ_eq_map,vK,U8]
  have e:(List.range (min r.length q.length)).all ((fun j=>eqN ((x::r).getD j .non) ((y::q).getD j .non))∘Nat.succ)=(List.range (min r.length q.length)).all fun j=>eqN (r.getD j .non) (q.getD j .non):=by congr 1
  rw [e];have I:(r.length+1==q.length+1)=(r.length==q.length):=by rw [vh];simp
  rw [I,Bool.and_assoc,<-B]
  rfl
theorem eqAt_nonN (I:Inv X pins σ H s){e:D}{u:V}{b:Value}{A:Around}(L:nD e=true)(h2:Is H e u)(B:RelV u b)(hu:A.units<cLine):SeqAt.EqAt A s .none b (eqN .non e):=by
 cases e with
 |non=>
  cases(show u= .non from h2)
  cases B;exact SeqAt.EqAt.same _
 |str y=>
  obtain⟨rfl,_⟩:=(show u= .str y/\_ from h2)
  obtain⟨M,rfl⟩:=B;exact SeqAt.EqAt.none_str _ _
 |int y=>
  cases(show u= .int y from h2)
  obtain⟨M,rfl⟩:=B;exact SeqAt.EqAt.none_int _ _
 |tup ys=>
  obtain⟨p,us,rfl,O,R⟩:=(show∃p us,u=V.ref p/\H p=some (.tup us)/\IsL H ys us from h2)
  cases B;obtain⟨its,_,q,_⟩:=I.tuple (.inl (.of O));exact SeqAt.EqAt.none_tuple q hu
 |_=>simp [nD] at L
theorem eqAt_strN (I:Inv X pins σ H s){z:Str}{t:Tok}{e:D}{u:V}{b:Value}{A:Around}(L:nD e=true)(h2:Is H e u)(B:RelV u b)(hu:A.units<cLine):SeqAt.EqAt A s (.str z t) b (eqN (.str z) e):=by
 cases e with
 |non=>
  cases(show u= .non from h2)
  cases B;exact SeqAt.EqAt.str_none _ _
 |str y=>
  obtain⟨rfl,_⟩:=(show u= .str y/\_ from h2)
  obtain⟨M,rfl⟩:=B;exact SeqAt.EqAt.str_str _ _ _ _
 |int y=>
  cases(show u= .int y from h2)
  obtain⟨M,rfl⟩:=B;exact Up _ _ _ _
 |tup ys=>
  obtain⟨p,us,rfl,O,R⟩:=(show∃p us,u=V.ref p/\H p=some (.tup us)/\IsL H ys us from h2)
  cases B;obtain⟨its,_,q,_⟩:=I.tuple (.inl (.of O));exact SeqAt.EqAt.str_tuple _ _ q hu
 |_=>simp [nD] at L
theorem eqAt_intN (I:Inv X pins σ H s){z:Int}{t:Tok}{e:D}{u:V}{b:Value}{A:Around}(L:nD e=true)(h2:Is H e u)(B:RelV u b)(hu:A.units<cLine):SeqAt.EqAt A s (.int z t) b (eqN (.int z) e):=by
 cases e with
 |non=>
  cases(show u= .non from h2)
  cases B;exact SeqAt.EqAt.int_none _ _
 |str y=>
  obtain⟨rfl,_⟩:=(show u= .str y/\_ from h2)
  obtain⟨M,rfl⟩:=B;exact Uo _ _ _ _
 |int y=>
  cases(show u= .int y from h2)
  obtain⟨M,rfl⟩:=B;exact SeqAt.EqAt.int_int _ _ _ _
 |tup ys=>
  obtain⟨p,us,rfl,O,R⟩:=(show∃p us,u=V.ref p/\H p=some (.tup us)/\IsL H ys us from h2)
  cases B;obtain⟨its,_,q,_⟩:=I.tuple (.inl (.of O));exact SeqAt.EqAt.int_tuple _ _ q hu
 |_=>simp [nD] at L
theorem parts_N {xs ys:List D}{vs us:List V}{its its':List Value}{A:Around}(hd:nL xs=true)(he:nL ys=true)(O:IsL H xs vs)(B:IsL H ys us)(R:Vals vs its)(I:Vals us its')
  (ih:∀x∈xs,∀(e:D) (v u:V) (a b:Value),nD x=true->nD e=true->Is H x v->Is H e u->RelV v a->RelV u b->SeqAt.EqAt A s a b (eqN x e)):
  ∀j (U:j<its.toArray.size) (Y:j<its'.toArray.size),SeqAt.EqAt A s its.toArray[j] its'.toArray[j] (eqN (xs.getD j .non) (ys.getD j .non)):=fun j U Y=>by
 have Z:its.length=xs.length:=by rw [<-R.length,O.length]
 have l2:its'.length=ys.length:=by rw [<-I.length,B.length]
 have L:j<xs.length:=by rw [<-Z];simpa using U
 have M:j<ys.length:=by rw [<-l2];simpa using Y
 obtain⟨v1,e1,i1⟩:=O.get (i:=j) (d:=xs[j]) (by simp [L])
 obtain⟨v2,e2,i2⟩:=B.get (i:=j) (d:=ys[j]) (by simp [M])
 obtain⟨b1,f1,g1⟩:=R.get e1;obtain⟨b2,f2,g2⟩:=I.get e2;have k1:its.toArray[j]=b1:=by
  have:=f1;rw [u7 (by rw [Z];exact L)] at this
  simpa using this
 have k2:its'.toArray[j]=b2:=by
  have:=f2;rw [u7 (by rw [l2];exact M)] at this
  simpa using this
 have d1:xs.getD j .non=xs[j]:=by simp [List.getD,L]
 have d2:ys.getD j .non=ys[j]:=by simp [List.getD,M]
 rw [k1,k2,d1,d2];exact ih _ (uJ L) _ _ _ _ _ (nL_get (j:=j) hd (by simp [L])) (nL_get (j:=j) he (by simp [M])) i1 i2 g1 g2
theorem eqAt_tupN (I:Inv X pins σ H s){xs:List D}{e:D}{v u:V}{a b:Value}{A:Around}(hd:nD (.tup xs)=true)(O:nD e=true)(h1:Is H (.tup xs) v)(h2:Is H e u)(r1:RelV v a)(B:RelV u b)(hu:A.units<cLine)
  (ih:∀x∈xs,∀(e:D) (v u:V) (a b:Value),nD x=true->nD e=true->Is H x v->Is H e u->RelV v a->RelV u b->SeqAt.EqAt A.in1 s a b (eqN x e)):SeqAt.EqAt A s a b (eqN (.tup xs) e):=by
 obtain⟨p,vs,rfl,hp,Z⟩:=(show∃p vs,v=V.ref p/\H p=some (.tup vs)/\IsL H xs vs from h1)
 cases r1;obtain⟨its,rv,q,_⟩:=I.tuple (.inl (.of hp));cases e with
 |non=>
  cases(show u= .non from h2)
  cases B;exact SeqAt.EqAt.tuple_none q hu
 |str y=>
  obtain⟨rfl,_⟩:=(show u= .str y/\_ from h2)
  obtain⟨t2,rfl⟩:=B;exact SeqAt.EqAt.tuple_str _ _ q hu
 |int y=>
  cases(show u= .int y from h2)
  obtain⟨t2,rfl⟩:=B;exact SeqAt.EqAt.tuple_int _ _ q hu
 |tup ys=>
  by_cases R:V.ref p=u
  ·have:=Is.detN (e:= .tup ys) hd O h1 (R▸h2);subst R;cases B;rw [<-this,(Qr hd).mpr rfl];exact SeqAt.EqAt.same _
  ·obtain⟨U,us,rfl,Y,L⟩:=(show∃U us,u=V.ref U/\H U=some (.tup us)/\IsL H ys us from h2)
   cases B;obtain⟨its',M,q',_⟩:=I.tuple (.inl (.of Y));have l1:its.length=xs.length:=by rw [<-rv.length,Z.length]
   have l2:its'.length=ys.length:=by rw [<-M.length,L.length]
   have key:=SeqAt.RcAt.tuples (e:=fun j=>eqN (xs.getD j .non) (ys.getD j .non)) q q' hu (parts_N (by simpa [nD] using hd) (by simpa [nD] using O) Z L rv M ih)
   have e1:eqN (.tup xs) (.tup ys)=((List.range (min its.toArray.size its'.toArray.size)).all (fun j=>eqN (xs.getD j .non) (ys.getD j .non))&&its.toArray.size==its'.toArray.size):=by
    rw [ud,ud,l1,l2,<-xl];simp only [eqN]
   rw [e1];exact SeqAt.EqAt.of_refs (fun z=>R (by rw [z])) key
 |_=>simp [nD] at O
theorem eqAt_N (I:Inv X pins σ H s):∀(n:Nat) (d e:D) (v u:V) (a b:Value) (A:Around),dp d<=n->nD d=true->nD e=true->Is H d v->Is H e u->RelV v a->RelV u b->A.units+n<cLine->SeqAt.EqAt A s a b (eqN d e):=by
 intro n
 induction n with
 |zero=>
  intro d e v u a b A hn hd L h1 h2 M O hu;cases d with
  |non=>
   cases(show v= .non from h1)
   cases M;exact eqAt_nonN I L h2 O hu
  |int z=>
   cases(show v= .int z from h1)
   obtain⟨t,rfl⟩:=M;exact eqAt_intN I L h2 O hu
  |str z=>simp [dp] at hn
  |tup xs=>simp [dp] at hn
  |_=>simp [nD] at hd
 |succ n R=>
  intro d e v u a b A hn hd L h1 h2 M O hu;have B:A.units<cLine:=Nat.lt_of_le_of_lt (Nat.le_add_right _ _) hu;cases d with
  |non=>
   cases(show v= .non from h1)
   cases M;exact eqAt_nonN I L h2 O B
  |int z=>
   cases(show v= .int z from h1)
   obtain⟨t,rfl⟩:=M;exact eqAt_intN I L h2 O B
  |str z=>
   obtain⟨rfl,_⟩:=(show v= .str z/\_ from h1)
   obtain⟨t,rfl⟩:=M;exact eqAt_strN I L h2 O B
  |tup xs=>
   have hm:dpL xs<=n:=by
    have:dp (.tup xs)=1+dpL xs:=by simp only [dp]
    omega
   exact eqAt_tupN I hd L h1 h2 M O B fun x hx e v u a b U Y Z k4 k5 k6=>R x e v u a b A.in1 ((yw xs).mp hm x hx) U Y Z k4 k5 k6 (by rw [uu];omega)
  |_=>simp [nD] at hd
def rCmpN (g:Bool->Bool):R2:=fun x y H Q=>∃ds es:List D,Is H (.tup ds) x/\Is H (.tup es) y/\nL ds=true/\nL es=true/\dpL ds<=60/\Q (.bl (g (eqNL ds es))) H
theorem rc_N (I:Inv X pins σ H s){ds es:List D}{x y:V}{v u:Value}(h1:Is H (.tup ds) x)(h2:Is H (.tup es) y)(hn:nL ds=true)(M:nL es=true)(hd:dpL ds<=60)(rx:RelV x v)(ry:RelV y u)(hu:X.A.units+64<cLine):
  SeqAt.RcAt X.A s v u (eqNL ds es)/\SeqAt.RcNeAt X.A s v u (!eqNL ds es):=by
 obtain⟨p,vs,rfl,hp,R⟩:=(show∃p vs,x=V.ref p/\H p=some (.tup vs)/\IsL H ds vs from h1)
 obtain⟨p',us,rfl,O,B⟩:=(show∃p vs,y=V.ref p/\H p=some (.tup vs)/\IsL H es vs from h2)
 cases rx;cases ry;obtain⟨its,U,q,_⟩:=I.tuple (.inl (.of hp));obtain⟨its',L,Y,_⟩:=I.tuple (.inl (.of O));have l1:its.length=ds.length:=by rw [<-U.length,R.length]
 have l2:its'.length=es.length:=by rw [<-L.length,B.length]
 have pe:=parts_N (A:=X.A.in1) hn M R B U L fun x hx e v u a b k1 k2 k3 k4 k5 k6=>eqAt_N I 60 x e v u a b X.A.in1 ((yw ds).mp hd x hx) k1 k2 k3 k4 k5 k6 (by rw [uu];omega)
 have Z:=SeqAt.RcAt.tuples (e:=fun j=>eqN (ds.getD j .non) (es.getD j .non)) q Y (by omega) pe
 have e2:=SeqAt.RcNeAt.tuples (e:=fun j=>eqN (ds.getD j .non) (es.getD j .non)) q Y (by omega) pe
 rw [ud,ud,l1,l2,<-xl] at Z e2;exact⟨Z,e2⟩
theorem op_eqN (hu:X.A.units+64<cLine):OpR X (compareOp .Eq) (rCmpN id):=by
 intro pins s σ H x y v u Q I L M h;obtain⟨ds,es,h1,h2,hn,B,hd,q⟩:=h;exact(rc_N I h1 h2 hn B hd L M hu).1 X.prog X.w X.xe _ ⟨.bl _,H,I,rfl,q⟩
theorem yC (hu:X.A.units+64<cLine):OpR X (compareOp .NotEq) (rCmpN not):=by
 intro pins s σ H x y v u Q I L M h;obtain⟨ds,es,h1,h2,hn,B,hd,q⟩:=h;exact(rc_N I h1 h2 hn B hd L M hu).2 X.prog X.w X.xe _ ⟨.bl _,H,I,rfl,q⟩
end
structure FF (K:PySem.W.Frag)(mg:Str->Option Value)(x:Str)(st:Stmt)(ps:List Str)(f:Addr)(fd:FuncData):Prop where
 F:Fun K x x st f fd
 b:yS K fd ps []
 m:mg x=some (.ref f)
structure FM (K:PySem.W.Frag)(C:Addr)(x q:Str)(st:Stmt)(ps:List Str)(f:Addr)(fd:FuncData):Prop where
 F:Fun K x q st f fd
 b:yS K fd ps []
 h:Meth K C x f
def FZ (K:PySem.W.Frag)(x q:Str)(st:Stmt)(f:Addr):Prop:=∃(oc kV dc pm cd ct:Value) (od an:Option Addr) (sl:Array (Option Value)),K.lookup f=some ⟨oc,od,.func (PySem.W.fnOf x q (Yf st) (yI st) (qj st) .none kV dc pm an cd ct),sl⟩/\PySem.W.codeIn K cd q=true/\PySem.W.keepIn K (.ref f)=true
def FZg (K:PySem.W.Frag)(x:Str)(st:Stmt)(f:Addr):Prop:=PySem.W.nsIn K mainGlobals x=some (some (.ref f))/\FZ K x x st f
def FZm (K:PySem.W.Frag)(C:Addr)(x q:Str)(st:Stmt)(f:Addr):Prop:=PySem.W.findIn K (.ref C) x=some (some (.ref f))/\PySem.W.isFn K (.ref f)=true/\FZ K x q st f
def BOk (x q:Str)(st:Stmt)(ps:List Str):Prop:=∀(kV doc pm:Value) (an:Option Addr) (cdv ct:Value) (us:List Value),us.length=ps.length->bindArgs (PySem.W.fnOf x q (Yf st) (yI st) (qj st) .none kV doc pm an cdv ct) ⟨us,[]⟩=pure (ps.zip us)
theorem QC {K:PySem.W.Frag}{h:Heap}{mg:Str->Option Value}(X:K.In h)(G:h.Ns mainGlobals mg){x:Str}{st:Stmt}{f:Addr}(z:FZg K x st f)(ps:List Str)(B:BOk x x st ps):∃fd,FF K mg x st ps f fd:=by
 obtain⟨a,oc,kV,I,pm,L,ct,od,an,sl,l,c,k⟩:=z;have F:=fun_mk (st:=st) l c k;exact⟨_,F,F.binds B,vc X G a⟩
theorem fm_of {K:PySem.W.Frag}{C:Addr}{x q:Str}{st:Stmt}{f:Addr}(z:FZm K C x q st f)(ps:List Str)(B:BOk x q st ps):∃fd,FM K C x q st ps f fd:=by
 obtain⟨a,i,oc,kV,I,pm,L,ct,od,an,sl,l,c,k⟩:=z;have F:=fun_mk (st:=st) l c k;exact⟨_,F,F.binds B,⟨a,i,k⟩⟩
theorem FF.law {K:PySem.W.Frag}{mg:Str->Option Value}{x:Str}{st:Stmt}{ps:List Str}{f:Addr}{fd:FuncData}(T:FF K mg x st ps f fd){y:Str}(h:∀(kV doc pm:Value) (an:Option Addr) (cdv ct u:Value),bindArgs (PySem.W.fnOf x x (Yf st) (yI st) (qj st) .none kV doc pm an cdv ct) ⟨[u],[]⟩=pure [(y,u)])(s:Shared)(u:Value):BindsTo s fd ⟨[u],[]⟩ [(y,u)]:=by
 obtain⟨oc,od,kV,doc,pm,an,cdv,ct,osl,rfl,lk,B⟩:=T.F.ex;exact .of_eq (h kV doc pm an cdv ct u)
def txt? (u:Value):Option Str:=match u with
 | .str z _=>some z
 |_=>none
def TZ (K:PySem.W.Frag)(q:Addr)(l:List Str):Prop:=∃(d:Option Addr) (i:Array Value) (n:Nat) (sl:Array (Option Value)),K.lookup q=some ⟨.type "tuple",d,.seq i n,sl⟩/\i.toList.map txt? =l.map some
theorem strs_of:∀{l:List Str}{us:List Value},us.map txt? =l.map some->Vals (l.map V.str) us
 | [],[],_=> .nil
 |z::l,u::us,h=>by
  rw [uo,uo] at h;injection h with h1 h2
  cases u with
  |str y t=>
   have:y=z:=uL h1;subst this;exact .cons ⟨t,rfl⟩ (strs_of h2)
  |_=>cases h1
 | [],_::_,h=>by simp at h
 |_::_,[],h=>by simp at h
theorem TZ.sq {K:PySem.W.Frag}{H:Hp}{q:Addr}{l:List Str}(h:TZ K q l)(hz:l.length<=100):SqT K H q (l.map V.str):=by
 obtain⟨d,its,n,sl,I,e⟩:=h;have B:its.size=l.length:=by rw [<-vd];simpa using congrArg List.length e
 exact .inr ⟨_,its,n,I,rfl,rfl,by rw [B];exact vB (qX (by omega)),strs_of e⟩
section
variable {X:Cx}
theorem vals_rev:∀{xs:List V}{us:List Value},Vals xs us->Vals xs.reverse us.reverse
 |_,_,.nil=> .nil
 |_,_,.cons h t=>by
  rw [Uv,Uv];exact(vals_rev t).append (.cons h .nil)
end
end L2
namespace L2
open PySem PyProof.Rows
mutual
def hvD (h:Heap):D->Value->Prop
 | .non,v=>v= .none
 | .str z,v=>∃t,v= .str z t
 | .tup ds,v=>∃a o items n,v= .ref a/\h.get? a=some o/\o.cls= .type "tuple"/\o.data= .seq items n/\hvL h ds items.toList
 |_,_=>False
def hvL (h:Heap):List D->List Value->Prop
 | [],vs=>vs= []
 |d::ds,vs=>∃v r,vs=v::r/\hvD h d v/\hvL h ds r
end
mutual
def hshD (w:World):D->Int
 | .non=>reduceHash 0xFCA86420
 | .str z=>hashStr w z
 | .tup ds=>reduceHash (Builtin.Tuple.tupleHashOf (hshL w ds))
 |_=>0
def hshL (w:World):List D->List Int
 | []=> []
 |d::ds=>hshD w d::hshL w ds
end
mutual
def drwD:D->Nat
 | .tup ds=>drwL ds+1
 |_=>1
def drwL:List D->Nat
 | []=>0
 |d::ds=>drwD d+drwL ds
end
theorem JM (w:World):∀xs ys:List D,hshL w (xs++ys)=hshL w xs++hshL w ys
 | [],ys=>rfl
 |x::xs,ys=>by
  show hshD w x::hshL w (xs++ys)=hshD w x::(hshL w xs++hshL w ys);rw [JM w xs ys]
theorem xj:∀xs ys:List D,drwL (xs++ys)=drwL xs+drwL ys
 | [],ys=>(Nat.zero_add _).symm
 |x::xs,ys=>by
  show drwD x+drwL (xs++ys)=drwD x+drwL xs+drwL ys;rw [xj xs ys,UD]
theorem hash_non {P:Program}{w:World}{E:Value->Shared->Prop}{A:Around}{s:Shared}{Q:Int->Shared->Prop}(h:Q (reduceHash 0xFCA86420) {s with toks:=s.toks+1}):wpAny (model P w) A (pyHash .none) Q E s:=
 PySem.W.pyHash_slot (T:="NoneType") rfl F.slot_NoneType_hash F.entry_NoneType_hash (F.args_NoneType_hash_1 _) (beq_builtin_none _) (.inl rfl) (wpAny_bind (u0 (wpAny_bind (wpAny_mkInt (u0 ⟨_,_,rfl,h⟩)))))
theorem hash_D {P:Program}{w:World}{E:Value->Shared->Prop}:∀(n:Nat) (d:D) (v:Value) (A:Around) (s:Shared) (Q:Int->Shared->Prop),dp d<=n->A.units+n<cLine->hvD s.heap d v->Q (hshD w d) {s with toks:=s.toks+drwD d}->wpAny (model P w) A (pyHash v) Q E s:=by
 intro n
 induction n with
 |zero=>
  intro d v A s Q hn hu B h;cases d with
  |non=>
   cases(show v= .none from B)
   exact hash_non h
  |str z=>simp [dp] at hn
  |tup ds=>simp [dp] at hn
  |_=>exact B.elim
 |succ n Z=>
  intro d v A s Q hn hu B h;cases d with
  |non=>
   cases(show v= .none from B)
   exact hash_non h
  |str z=>
   obtain⟨t,rfl⟩:=B;exact wpAny_pyHash_str h
  |tup ks=>
   obtain⟨a,o,R,m,rfl,Y,hc,hd,hi⟩:=B;have I:s.TypeIs (.ref a) "tuple":=⟨o,Y,hc⟩;have U:A.units<cLine:=by omega
   unfold pyHash
   first|unfold pyHashByItsType|skip
   first|refine wpAny_bind (wpAny_cRoomFor_or (.inr U) ?_)|skip
   refine wpAny_bind (wpAny_specialOf I F.slot_tuple_hash.lookup ?_);show wpAny _ _ (if(some (Value.builtin "tuple.__hash__")==some Value.none)=true then _ else _) Q E s
   rw [if_neg (by rw [beq_builtin_none];exact uf)]
   refine wpAny_bind (wpAny_specialOf I F.slot_tuple_hash.lookup ?_);show wpAny _ _ (callSpecialIfBoundUnlessNone? (.ref a) "__hash__" _>>=_) Q E s;refine wpAny_bind (wpAny_callSpecialIfBoundUnlessNone?_slot I F.slot_tuple_hash (uq F.slot_tuple_hash I F.entry_tuple_hash ?_ (F.args_tuple_hash_1 _)));show wpAny _ _ (Builtin.Tuple.tupleItemsOf (.ref a)>>=_) _ _ s;refine wpAny_bind (wpAny_tupleItemsOf Y hd ?_);refine wpAny_bind ?_;rw [<-Array.forIn_toList];refine vz _
    (fun rest (b:Array Int) s'=>∃done left,ks=done++left/\hvL s.heap left rest/\b.toList=hshL w done/\s'={s with toks:=s.toks+drwL done})
    _ ?_ ?_ _ _ ⟨[],ks,rfl,hi,rfl,rfl⟩
   ·rintro x rest b s' ⟨done,left,rfl,L,M,rfl⟩;cases left with
    |nil=>cases(show x::rest= [] from L)
    |cons k left=>
     obtain⟨v',r',e,h1,h2⟩:=L;cases e;have hk:dp k<=n:=by
      have:=(yw (k:=dpL (done++k::left)) (done++k::left)).mp (Nat.le_refl _) k (List.mem_append.mpr (.inr ua));simp only [dp] at hn;omega
     refine wpAny_bind (Z k _ _ _ _ hk ?_ h1 ?_)
     ·show A.units+1+n<cLine;omega
     ·first
       |exact u0 ⟨done++ [k],left,by simp,h2,by simp [M,JM,hshL],by simp [xj,drwL,UD]⟩
       |exact wpAny_bind (u0 (u0 ⟨done++ [k],left,by simp,h2,by simp [M,JM,hshL],by simp [xj,drwL,UD]⟩))
   ·rintro b s' ⟨done,left,rfl,L,M,rfl⟩;cases left with
    |cons k l=>
     obtain⟨_,_,e,_⟩:=L;cases e
    |nil=>
     rw [uU] at h;show wpAny _ _ (retInt (Builtin.Tuple.tupleHashOf b.toList)) _ _ _;rw [M];refine wpAny_ret_mkInt ?_;show wpAny _ _ (if(decide (-(2:Int)^63<=Builtin.Tuple.tupleHashOf (hshL w done))&&decide (Builtin.Tuple.tupleHashOf (hshL w done)<2^63))=true then _ else _) Q E _
     simp only [hshD,drwD] at h;unfold reduceHash at h;by_cases O:(decide (-(2:Int)^63<=Builtin.Tuple.tupleHashOf (hshL w done))&&decide (Builtin.Tuple.tupleHashOf (hshL w done)<2^63))=true
     ·rw [if_pos O];rw [if_pos O] at h;exact u0 (by simpa [UD] using h)
     ·rw [if_neg O];rw [if_neg O] at h;exact wpAny_bind (vm (u0 (by simpa [UD] using h)))
  |_=>exact B.elim
theorem hvL_mem {h:Heap}:∀{ds:List D}{vs:List Value},hvL h ds vs->∀v∈vs,∃d∈ds,hvD h d v
 | [],vs,x,v,hv=>by
  cases(show vs= [] from x)
  cases hv
 |d::ds,vs,x,v,hv=>by
  obtain⟨u,r,rfl,h1,h2⟩:=x;rcases List.mem_cons.mp hv with rfl|hv
  ·exact⟨d,ua,h1⟩
  ·obtain⟨e,B,I⟩:=hvL_mem h2 v hv;exact⟨e,u9 _ B,I⟩
theorem quiet_D {P:Program}{w:World}{E:Value->Shared->Prop}:∀(n:Nat) (d:D) (v:Value) (A:Around) (s:Shared) (Q:Bool->Shared->Prop),dp d<=n->hvD s.heap d v->Q true s->wpAny (model P w) A (eqIsQuiet n v) Q E s:=by
 intro n
 induction n with
 |zero=>
  intro d v A s Q hn I h;cases d with
  |non=>
   cases(show v= .none from I)
   rw [eqIsQuiet_byValue _ rfl];exact u0 h
  |str z=>simp [dp] at hn
  |tup ds=>simp [dp] at hn
  |_=>exact I.elim
 |succ n ih=>
  intro d v A s Q hn I h;cases d with
  |non=>
   cases(show v= .none from I)
   rw [eqIsQuiet_byValue _ rfl];exact u0 h
  |str z=>
   obtain⟨t,rfl⟩:=I;rw [eqIsQuiet_byValue _ rfl];exact u0 h
  |tup ks=>
   obtain⟨a,o,L,m,rfl,Y,hc,hd,hi⟩:=I;have Z:s.TypeIs (.ref a) "tuple":=⟨o,Y,hc⟩;unfold eqIsQuiet;refine wpAny_bind (wpAny_specialOf Z F.slot_tuple_eq.lookup ?_);show wpAny _ _ (isInstance (.ref a) (.type "tuple")>>=_) _ _ s;refine wpAny_bind (wpAny_isInstance Z isSubtype_tuple_tuple ?_);simp only [UE,uM,U0];refine wpAny_bind (wpAny_seqItems Y hd ?_);refine wpAny_bind ?_;show wpAny _ _ (forIn L _ _) _ _ s;rw [<-Array.forIn_toList];refine vz _ (fun rest r s'=>r.1=none/\s'=s/\∀v∈rest,∃k∈ks,hvD s.heap k v) _ ?_ ?_ _ _ ⟨rfl,rfl,hvL_mem hi⟩
   ·rintro v rest r s' ⟨M,rfl,B⟩;obtain⟨k,hk,O⟩:=B v ua;have R:dp k<=n:=by
     have:=(yw (k:=dpL ks) ks).mp (Nat.le_refl _) k hk;simp only [dp] at hn;omega
    refine wpAny_bind (ih k v _ _ _ R O ?_);simp only [UE,uM,U0];exact u0 ⟨rfl,rfl,fun u U=>B u (u9 _ U)⟩
   ·rintro⟨r1,r2⟩ s' ⟨M,rfl,_⟩;simp only at M;subst M;exact u0 h
  |_=>exact I.elim
mutual
def kD:D->Bool
 | .non=>true
 | .str _=>true
 | .tup xs=>kL xs
 |_=>false
def kL:List D->Bool
 | []=>true
 |x::r=>kD x&&kL r
end
theorem kL_mem:∀{ds:List D}{d:D},kL ds=true->d∈ds->kD d=true
 |x::xs,d,h,hm=>by
  have h':kD x=true/\kL xs=true:=by simpa [kL] using h
  rcases List.mem_cons.mp hm with rfl|hm
  ·exact h'.1
  ·exact kL_mem h'.2 hm
mutual
theorem kD_n:∀{d:D},kD d=true->nD d=true
 | .non,_=>by simp [nD]
 | .str _,_=>by simp [nD]
 | .tup xs,h=>by
  have:=kL_n (xs:=xs) (by simpa [kD] using h)
  simpa [nD] using this
 | .bl _,h=>by simp [kD] at h
 | .int _,h=>by simp [kD] at h
 | .lst,h=>by simp [kD] at h
 | .dct,h=>by simp [kD] at h
theorem kL_n:∀{xs:List D},kL xs=true->nL xs=true
 | [],_=>by simp [nL]
 |x::r,h=>by
  have h':kD x=true/\kL r=true:=by simpa [kL] using h
  simp [nL,kD_n h'.1,kL_n h'.2]
end
theorem is_hv {X:Cx}{pins:List (Addr×Obj)}{σ:St}{H:Hp}{s:Shared}(I:Inv X pins σ H s):∀(n:Nat) (d:D) (v:V) (u:Value),dp d<=n->kD d=true->Is H d v->RelV v u->hvD s.heap d u:=by
 intro n
 induction n with
 |zero=>
  intro d v u hn B h r;cases d with
  |str z=>simp [dp] at hn
  |tup ds=>simp [dp] at hn
  |non=>
   cases(show v= .non from h)
   exact r
  |_=>simp [kD] at B
 |succ n O=>
  intro d v u hn B h r;cases d with
  |str z=>
   obtain⟨rfl,_⟩:=h;obtain⟨t,rfl⟩:=r;exact⟨t,rfl⟩
  |tup ks=>
   obtain⟨p,vs,rfl,ep,R⟩:=h;cases r;obtain⟨_,its,U,o,Y,Z,m,hd⟩:=(show Qm X.prog X.w H s.heap p (.tup vs) from I.hok p _ ep)
   refine⟨p,o,its.toArray,m,rfl,Y,Z,hd,?_⟩;have all:∀(ds:List D) (ws:List V) (L:List Value),(∀x∈ds,dp x<=n/\kD x=true)->L2.IsL H ds ws->Vals ws L->hvL s.heap ds L:=by
    intro ds
    induction ds with
    |nil=>
     intro ws L _ h1 h2;cases(show ws= [] from h1)
     cases h2;exact rfl
    |cons x xs M=>
     intro ws L hx h1 h2;obtain⟨w1,r1,rfl,h3,h4⟩:=h1;cases h2 with
     |cons h5 h6=>exact⟨_,_,rfl,O x w1 _ (hx x ua).1 (hx x ua).2 h3 h5,M r1 _ (fun y hy=>hx y (u9 _ hy)) h4 h6⟩
   exact all ks vs its (fun x hx=>by
    have:=(yw (k:=dpL ks) ks).mp (Nat.le_refl _) x hx;simp only [dp] at hn;simp only [kD] at B;exact⟨by omega,kL_mem B hx⟩) R U
  |non=>
   cases(show v= .non from h)
   exact r
  |_=>simp [kD] at B
structure SB (kd:SortKind)(xs0:Array Keyed)(st:SortSt):Prop where
 pm:(arrOf st).Perm xs0
 ki:kindOf st=kd
 ok:failedOf st=none
 pe:pendingOf st= #[]
section
variable {P:Program}{w:World}{A:Around}{s:Shared}{kd:SortKind}{xs0:Array Keyed}{rk:Keyed->Nat}
theorem SB.sz {st:SortSt}(h:SB kd xs0 st):(arrOf st).size=xs0.size:=h.pm.size_eq
theorem SB.arr {st:SortSt}(h:SB kd xs0 st){ys:Array Keyed}(B:ys.Perm (arrOf st)):SB kd xs0 (setArr st ys):=⟨B.trans h.pm,h.ki,h.ok,h.pe⟩
def rkAt (rk:Keyed->Nat)(xs:Array Keyed)(i:Nat):Nat:=(xs[i]?.map rk).getD 0
def Asc (rk:Keyed->Nat)(xs:Array Keyed)(n:Nat):Prop:=∀i j,i<=j->j<n->rkAt rk xs i<=rkAt rk xs j
def Dsc (rk:Keyed->Nat)(xs:Array Keyed)(n:Nat):Prop:=∀i j,i<=j->j<n->rkAt rk xs j<=rkAt rk xs i
theorem rk_bub {xs:Array Keyed}{c d:Nat}(B:c<xs.size)(hd:d<=c)(k:Nat):rkAt rk (bubble xs c d) k=if k=c-d then rkAt rk xs c else if c-d<k/\k<=c then rkAt rk xs (k-1) else rkAt rk xs k:=by
 unfold rkAt;rw [getElem?_bubble B d hd k];split
 ·rfl
 ·split<;>rfl
theorem rk_mir {xs:Array Keyed}{i j:Nat}(B:j<=xs.size)(k:Nat):rkAt rk (mirror xs i j ((j-i)/2)) k=if i<=k/\k<j then rkAt rk xs (i+j-1-k) else rkAt rk xs k:=by
 unfold rkAt;rw [getElem?_mirror_all B k];split<;>rfl
theorem QU {xs:Array Keyed}{i j:Nat}(B:j<=xs.size)(e:∀k,i<=k->k<j->rkAt rk xs k=rkAt rk xs (j-1))(k:Nat):rkAt rk (mirror xs i j ((j-i)/2)) k=rkAt rk xs k:=by
 rw [rk_mir B];split
 ·rw [e (i+j-1-k) (by omega) (by omega),e k (by omega) (by omega)]
 ·rfl
def ByRk (P:Program)(w:World)(A:Around)(s:Shared)(kd:SortKind)(xs0:Array Keyed)(rk:Keyed->Nat):Prop:=
 ∀x∈xs0.toList,∀y∈xs0.toList,∀(E:Value->Shared->Prop) (Q:Bool->Shared->Prop),Q (decide (rk x<rk y)) s->wpAny (model P w) A (keyLt' kd x.1 y.1) Q E s
variable {E:Value->Shared->Prop}
theorem SB.at {st:SortSt}(h:SB kd xs0 st){i:Nat}(hi:i<xs0.size):∃x,x∈xs0.toList/\(arrOf st)[i]? =some x/\rkAt rk (arrOf st) i=rk x:=by
 have B:i<(arrOf st).size:=by rw [h.sz];exact hi
 have e:(arrOf st)[i]? =some (arrOf st)[i]:=getElem?_pos _ i B;refine⟨(arrOf st)[i],(Array.perm_iff_toList_perm.mp h.pm).mem_iff.mp (by simp),e,?_⟩
 unfold rkAt;rw [e]
 rfl
theorem lt_rk {st:SortSt}{i j:Nat}{Q:Option Bool->SortSt->Prop}(I:ByRk P w A s kd xs0 rk)(B:SB kd xs0 st)(hi:i<xs0.size)(L:j<xs0.size)
  (q:Q (some (decide (rkAt rk (arrOf st) i<rkAt rk (arrOf st) j))) st):wpS (model P w) A E s (ltAt' i j) Q st:=by
 obtain⟨x,M,ex,O⟩:=B.at (rk:=rk) hi;obtain⟨y,R,U,Y⟩:=B.at (rk:=rk) L;rw [O,Y] at q;rw [ltAt'_eq];refine wpS_bind (wpS_get ?_);show wpS _ _ _ _ (elem' (arrOf st) i>>=fun u=>elem' (arrOf st) j>>=fun v=>lt' u v) Q st;rw [elem'_eq,elem'_eq,ex,U];refine wpS_bind (vr (wpS_bind (vr ?_)));rw [lt'_eq];refine wpS_bind (wpS_get ?_);rw [B.ki];exact wpS_bind (wpS_lift (vL (I x M y R _ _ ⟨rfl,vr q⟩)))
theorem rk_insert {st:SortSt}{n ok:Nat}{Q:Bool->SortSt->Prop}(hc:ByRk P w A s kd xs0 rk)(hn:n<=xs0.size)(hok:ok<=n)(hB:SB kd xs0 st)(hs:Asc rk (arrOf st) ok)
  (q:∀B,SB kd xs0 B->Asc rk (arrOf B) n->Q true B):wpS (model P w) A E s (binarySort' 0 n ok) Q st:=by
 rw [binarySort'_eq];simp only [Nat.zero_add];refine wpS_bind (wpS_mono (wpS_forRange (I:=fun k c B=>c=(none,())/\SB kd xs0 B/\Asc rk (arrOf B) (min k n)) (Q:=fun c B=>c=(none,())/\SB kd xs0 B/\Asc rk (arrOf B) n) ?st ?en ?be) ?af)
 case af=>
  rintro c B ⟨rfl,O,L⟩;exact vr (q B O L)
 case be=>
  refine⟨rfl,hB,fun i j a b=> ?_⟩;rcases Nat.eq_zero_or_pos ok with z|z
  ·rw [show i=j by omega]
   exact Nat.le_refl _
  ·exact hs i j a (by omega)
 case en=>
  rintro c B ⟨b0,O,L⟩;refine⟨b0,O,?_⟩;rw [show min (max (max ok 1) n) n=n by omega] at L
  exact L
 case st=>
  rintro k c B ka kn ⟨rfl,O,L⟩;rw [show min k n=k by omega] at L
  have hk:k<xs0.size:=by omega
  refine wpS_bind (wpS_mono (wpS_forRange (I:=fun x c u=>u=B/\∃l r,c=(none,l,r)/\l<=r/\r<=k/\r-l<=k-x/\(∀i,i<l->rkAt rk (arrOf B) i<=rkAt rk (arrOf B) k)/\∀i,r<=i->i<k->rkAt rk (arrOf B) k<rkAt rk (arrOf B) i)
   (Q:=fun c u=>u=B/\∃l r,c=(none,l,r)/\l<=k/\(∀i,i<l->rkAt rk (arrOf B) i<=rkAt rk (arrOf B) k)/\∀i,l<=i->i<k->rkAt rk (arrOf B) k<rkAt rk (arrOf B) i) ?st2 ?en2 ?be2) ?af2)
  case be2=>exact⟨rfl,0,k,rfl,uG _,Nat.le_refl _,by omega,fun i z=>absurd z (vT _),fun i Y Z=>by omega⟩
  case en2=>
   rintro c u ⟨rfl,l,r,rfl,c1,c2,c3,R,U⟩;obtain rfl:l=r:=by omega
   exact⟨rfl,l,l,rfl,c2,R,U⟩
  case st2=>
   rintro x c u _ xk ⟨rfl,l,r,rfl,c1,c2,c3,R,U⟩;dsimp only;by_cases M:l≥r
   ·rw [if_pos M];obtain rfl:l=r:=by omega
    exact vr ⟨rfl,l,l,rfl,c2,R,U⟩
   ·rw [if_neg M];refine wpS_bind (lt_rk hc O hk (by omega) ?_)
    by_cases le:rkAt rk (arrOf u) k<rkAt rk (arrOf u) ((l+r)/2)
    ·rw [uc le];simp only [if_true];refine vr ⟨rfl,l,(l+r)/2,rfl,by omega,by omega,by omega,R,fun i Y Z=> ?_⟩
     exact Nat.lt_of_lt_of_le le (L _ _ Y Z)
    ·rw [ub le];simp only [uM,U0];refine vr ⟨rfl,(l+r)/2+1,r,rfl,by omega,by omega,by omega,fun i Y=> ?_,U⟩
     have:=L i ((l+r)/2) (by omega) (by omega)
     omega
  case af2=>
   rintro c u ⟨rfl,l,r,rfl,c2,R,U⟩;show wpS _ _ _ _ (moveDown' k l>>=fun _=>pure (ForInStep.yield (none,()))) _ _;rw [moveDown'_eq];refine wpS_bind (wpS_modify (vr ⟨rfl,O.arr (bubble_perm _ _ _),?_⟩));rw [show min (k+1) n=k+1 by omega]
   have ks:k<(arrOf u).size:=by rw [O.sz];exact hk
   intro i j ij jk;have e1:=rk_bub (rk:=rk) ks (show k-l<=k by omega) i
   have e2:=rk_bub (rk:=rk) ks (show k-l<=k by omega) j
   show rkAt rk (bubble (arrOf u) k (k-l)) i<=rkAt rk (bubble (arrOf u) k (k-l)) j;rw [e1,e2,show k-(k-l)=l by omega]
   have g1:∀y,y<l->rkAt rk (arrOf u) y<=rkAt rk (arrOf u) k:=R;have g2:∀y,l<=y->y<k->rkAt rk (arrOf u) k<=rkAt rk (arrOf u) y:=fun y Y Z=>vB (U y Y Z);split<;>split<;>(try split)<;>(try split)<;>first
    |exact Nat.le_refl _
    |(exfalso;omega)
    |exact g1 _ (by omega)
    |exact g2 _ (by omega) (by omega)
    |exact L _ _ (by omega) (by omega)
theorem rk_up {st:SortSt}{a m:Nat}{Q:AscSt->SortSt->Prop}(L:ByRk P w A s kd xs0 rk)(hm:m<=xs0.size)(ha:1<=a)(M:a<=m)(O:SB kd xs0 st)(R:Asc rk (arrOf st) a)
  (q:∀n,a<=n->n<=m->Asc rk (arrOf st) n->(n=m∨rkAt rk (arrOf st) n<rkAt rk (arrOf st) (n-1))->Q (none,n) st):wpS (model P w) A E s (ascLoop a m) Q st:=by
 unfold ascLoop;refine wpS_forRange (I:=fun x c u=>u=st/\c=(none,x)/\Asc rk (arrOf st) x) ?st ?en ⟨rfl,rfl,R⟩
 case en=>
  rintro c u ⟨rfl,rfl,b⟩;rw [show max a m=m by omega] at b⊢
  exact q m M (Nat.le_refl _) b (.inl rfl)
 case st=>
  rintro x c u U Z ⟨rfl,rfl,b⟩;dsimp only;refine wpS_bind (lt_rk L O (by omega) (by omega) ?_)
  by_cases B:rkAt rk (arrOf u) x<rkAt rk (arrOf u) (x-1)
  ·rw [uc B];simp only [if_true];exact vr (q x U (by omega) b (.inr B))
  ·rw [ub B];simp only [uM,U0];refine vr ⟨rfl,rfl,fun i j Y jx=> ?_⟩;rcases uS j x with z|z
   ·exact b i j Y z
   ·obtain rfl:j=x:=by omega
    rcases uS i j with y|y
    ·have:=b i (j-1) (by omega) (by omega)
     omega
    ·rw [show i=j by omega]
     exact Nat.le_refl _
theorem rk_tail {st:SortSt}{n m:Nat}{Q:Option Nat->SortSt->Prop}(O:ByRk P w A s kd xs0 rk)(hm:m<=xs0.size)(h1:1<=n)(nm:n<=m)(I:SB kd xs0 st)(R:Dsc rk (arrOf st) n)
  (q:∀k u,SB kd xs0 u->1<=k->k<=m->Asc rk (arrOf u) k->Q (some k) u):wpS (model P w) A E s (tail3 n m) Q st:=by
 unfold tail3;have hz:n<=(arrOf st).size:=by rw [I.sz];omega
 have B:SB kd xs0 (setArr st (mirror (arrOf st) 0 n ((n-0)/2))):=I.arr (mirror_perm _ _ _ _);refine wpS_bind (wpS_reverse (wpS_bind (rk_up O hm h1 nm B ?_ fun k Z U Y _=>vr (q k _ B (by omega) U Y))))
 intro i j ij jn;have L:=rk_mir (rk:=rk) (i:=0) hz i;have M:=rk_mir (rk:=rk) (i:=0) hz j;rw [if_pos (by omega)] at L M
 show rkAt rk (mirror (arrOf st) 0 n ((n-0)/2)) i<=rkAt rk (mirror (arrOf st) 0 n ((n-0)/2)) j;rw [L,M];exact R _ _ (by omega) (by omega)
theorem YH {xs:Array Keyed}{x:Nat}(h:Dsc rk xs x)(e:1<=x->rkAt rk xs x<=rkAt rk xs (x-1)):Dsc rk xs (x+1):=by
 intro i j B I;rcases uS j x with z|z
 ·exact h i j B z
 ·obtain rfl:j=x:=by omega
  rcases uS i j with y|y
  ·have:=h i (j-1) (by omega) (by omega)
   have:=e (by omega)
   omega
  ·rw [show i=j by omega]
   exact Nat.le_refl _
theorem rk_down {st:SortSt}{n m:Nat}{Q:DescSt->SortSt->Prop}(U:ByRk P w A s kd xs0 rk)(hm:m<=xs0.size)(h1:1<=n)(nm:n<=m)(Z:SB kd xs0 st)(hs:Dsc rk (arrOf st) n)
  (q:∀k e u,SB kd xs0 u->n<=k->k<=m->Dsc rk (arrOf u) k->e+1<=k->(∀i,k-(e+1)<=i->i<k->rkAt rk (arrOf u) i=rkAt rk (arrOf u) (k-1))->Q (none,k,e) u):wpS (model P w) A E s (descLoop n m) Q st:=by
 unfold descLoop;have one:∀(xs:Array Keyed) (x i:Nat),x-(0+1)<=i->i<x->rkAt rk xs i=rkAt rk xs (x-1):=fun xs x i z1 z2=>by rw [show i=x-1 by omega]
 refine wpS_forRange (I:=fun x c u=>∃e,c=(none,x,e)/\SB kd xs0 u/\Dsc rk (arrOf u) x/\e+1<=x/\∀i,x-(e+1)<=i->i<x->rkAt rk (arrOf u) i=rkAt rk (arrOf u) (x-1)) ?st ?en ⟨0,rfl,Z,hs,by omega,one _ _⟩
 case en=>
  rintro c u ⟨e,rfl,B,M,O,L⟩;rw [show max n m=m by omega] at M O L⊢
  exact q m e u B nm (Nat.le_refl _) M O L
 case st=>
  rintro x c u xa xm ⟨e,rfl,B,M,O,L⟩;dsimp only;have hz:x<=(arrOf u).size:=by rw [B.sz];omega
  refine wpS_bind (lt_rk U B (by omega) (by omega) ?_)
  by_cases R:rkAt rk (arrOf u) x<rkAt rk (arrOf u) (x-1)
  ·rw [uc R];simp only [if_true];by_cases pe:e>0
   ·rw [if_pos pe];refine wpS_bind (wpS_reverse (vr ⟨0,rfl,B.arr (mirror_perm _ _ _ _),?_,by omega,one _ _⟩))
    refine YH (fun i j ij jx=> ?_) fun _=> ?_
    ·show rkAt rk (mirror (arrOf u) _ _ _) j<=rkAt rk (mirror (arrOf u) _ _ _) i;rw [QU hz L,QU hz L];exact M i j ij jx
    ·show rkAt rk (mirror (arrOf u) _ _ _) x<=rkAt rk (mirror (arrOf u) _ _ _) (x-1);rw [QU hz L,QU hz L];exact vB R
   ·rw [if_neg pe];exact vr ⟨0,rfl,B,YH M fun _=>vB R,by omega,one _ _⟩
  ·rw [ub R];simp only [uM,U0];refine wpS_bind (lt_rk U B (by omega) (by omega) ?_)
   by_cases Y:rkAt rk (arrOf u) (x-1)<rkAt rk (arrOf u) x
   ·rw [uc Y];simp only [if_true];exact vr (q x e u B xa (by omega) M O L)
   ·rw [ub Y];simp only [uM,U0];have ex:rkAt rk (arrOf u) x=rkAt rk (arrOf u) (x-1):=by omega
    refine vr ⟨e+1,rfl,B,YH M fun _=>Nat.le_of_eq ex,by omega,fun i z1 z2=> ?_⟩
    rw [show x+1-1=x by omega]
    rcases uS i x with y|y
    ·rw [ex];exact L i (by omega) y
    ·rw [show i=x by omega]
theorem rk_fall {st:SortSt}{n m:Nat}{Q:Option Nat->SortSt->Prop}(B:ByRk P w A s kd xs0 rk)(hm:m<=xs0.size)(nm:n+1<=m)(R:SB kd xs0 st)(U:Dsc rk (arrOf st) (n+1))
  (q:∀k u,SB kd xs0 u->1<=k->k<=m->Asc rk (arrOf u) k->Q (some k) u):wpS (model P w) A E s (descPart n m) Q st:=by
 unfold descPart;refine wpS_bind (wpS_lift (vm ⟨rfl,?_⟩));refine wpS_bind (rk_down B hm (by omega) nm R U fun k e u I k1 L M b3 O=> ?_)
 dsimp only;have hz:k<=(arrOf u).size:=by rw [I.sz];omega
 by_cases pe:e>0
 ·rw [if_pos pe];refine wpS_bind (wpS_reverse (rk_tail B hm (by omega) L (I.arr (mirror_perm _ _ _ _)) (fun i j Y Z=> ?_) q))
  show rkAt rk (mirror (arrOf u) _ _ _) j<=rkAt rk (mirror (arrOf u) _ _ _) i;rw [QU hz O,QU hz O];exact M i j Y Z
 ·rw [if_neg pe];exact rk_tail B hm (by omega) L I M q
theorem rk_run {st:SortSt}{m:Nat}{Q:Option Nat->SortSt->Prop}(M:ByRk P w A s kd xs0 rk)(hm:m<=xs0.size)(h1:1<=m)(L:SB kd xs0 st)
  (q:∀k u,SB kd xs0 u->1<=k->k<=m->Asc rk (arrOf u) k->Q (some k) u):wpS (model P w) A E s (countRun' 0 m) Q st:=by
 rw [countRun0_eq];refine wpS_bind (rk_up M hm (Nat.le_refl 1) h1 L (fun i j U jk=>by rw [show i=j by omega];exact Nat.le_refl _) fun n Y Z O R=> ?_)
 dsimp only;by_cases all:n=m
 ·rw [if_pos (by simpa using all)]
  exact vr (q n st L Y Z O)
 ·rw [if_neg (by simpa using all)]
  have le:=R.resolve_left all;by_cases many:n>1
  ·rw [if_pos many];refine wpS_bind (lt_rk M L (by omega) (by omega) ?_)
   by_cases I:rkAt rk (arrOf st) 0<rkAt rk (arrOf st) (n-1)
   ·rw [uc I];simp only [if_true];exact vr (q n st L Y Z O)
   ·rw [ub I];simp only [uM,U0];have hz:n<=(arrOf st).size:=by rw [L.sz];omega
    have B:∀k,0<=k->k<n->rkAt rk (arrOf st) k=rkAt rk (arrOf st) (n-1):=fun k _ kn=>by
     have a1:=O 0 k (by omega) kn
     have a2:=O k (n-1) (by omega) (by omega)
     omega
    refine wpS_bind (wpS_reverse (rk_fall M hm (by omega) (L.arr (mirror_perm _ _ _ _)) (YH (fun i j U jn=> ?_) fun _=> ?_) q))
    ·show rkAt rk (mirror (arrOf st) _ _ _) j<=rkAt rk (mirror (arrOf st) _ _ _) i;rw [QU hz B,QU hz B,B i (by omega) (by omega),B j (by omega) jn]
     exact Nat.le_refl _
    ·show rkAt rk (mirror (arrOf st) _ _ _) n<=rkAt rk (mirror (arrOf st) _ _ _) (n-1);rw [QU hz B,QU hz B];exact vB le
  ·rw [if_neg many];obtain rfl:n=1:=by omega
   refine rk_fall M hm (by omega) L (YH (fun i j U jn=> ?_) fun _=>vB le) q
   rw [show i=j by omega]
   exact Nat.le_refl _
def SD (rk:Keyed->Nat)(xs0:Array Keyed)(st:SortSt):Prop:=(arrOf st).Perm xs0/\failedOf st=none/\(pendingOf st).size=1/\Asc rk (arrOf st) xs0.size
theorem SB.end {st:SortSt}(b:SB kd xs0 st)(h:Asc rk (arrOf st) xs0.size)(z:Nat×Nat×Nat):SD rk xs0 (setPending st ((pendingOf st).push z)):=⟨b.pm,b.ok,by show((pendingOf st).push z).size=1;rw [b.pe];rfl,h⟩
theorem rk_all {st:SortSt}{Q:Unit->SortSt->Prop}(M:ByRk P w A s kd xs0 rk)(O:SB kd xs0 st)(h2:2<=xs0.size)(Y:xs0.size<64)
  (q:∀u,(arrOf u).Perm xs0->failedOf u=none->Asc rk (arrOf u) xs0.size->Q () u):wpS (model P w) A E s sortRuns' Q st:=by
 rw [sortRuns'_eq];refine wpS_bind (wpS_get ?_);dsimp only;have Z:minRun' xs0.size xs0.size 0=xs0.size:=by
  cases e:xs0.size with
  |zero=>omega
  |succ f=>rw [minRun'_succ,if_pos (by omega)]
 simp only [O.sz,Z];refine wpS_bind (wpS_mono (wpS_forRange (I:=fun x c u=>(x=0/\c=(none,0)/\SB kd xs0 u)∨(1<=x/\c=(none,xs0.size)/\SD rk xs0 u)) (Q:=fun c u=>c=(none,xs0.size)/\SD rk xs0 u) ?st ?en (.inl ⟨rfl,rfl,O⟩)) ?af)
 case en=>
  rintro c u (⟨z,_⟩|⟨_,b⟩)
  ·omega
  ·exact b
 case st=>
  rintro x c u _ hx (⟨rfl,rfl,b⟩|⟨_,rfl,b⟩)
  ·dsimp only;rw [if_neg (by omega)]
   simp only [Nat.sub_zero,Nat.min_self,Nat.zero_add];refine wpS_bind (rk_run M (Nat.le_refl _) (by omega) b fun k v L k1 k2 R=> ?_)
   dsimp only;have B:∀v:SortSt,SB kd xs0 v->(pendingOf v).back? =none:=fun v bv=>by rw [bv.pe];rfl
   by_cases few:k<xs0.size
   ·rw [if_pos few];refine wpS_bind (wpS_lift (vm ⟨rfl,?_⟩));refine wpS_bind (rk_insert M (Nat.le_refl _) k2 L R fun v2 U b4=> ?_);simp only [UE,uM,U0];refine wpS_bind (wpS_get ?_);rw [B v2 U];exact wpS_bind (wpS_modify (vr (.inr ⟨by omega,rfl,U.end b4 _⟩)))
   ·rw [if_neg few];obtain rfl:k=xs0.size:=by omega
    refine wpS_bind (wpS_get ?_);rw [B v L];exact wpS_bind (wpS_modify (vr (.inr ⟨by omega,rfl,L.end R _⟩)))
  ·dsimp only;rw [if_pos (Nat.le_refl _)];exact vr ⟨rfl,b⟩
 case af=>
  rintro c u ⟨rfl,b⟩;dsimp only;refine wpS_bind (wpS_mono (wpS_forRange (I:=fun _ c v=>v=u/\c=(none,())) (Q:=fun c v=>v=u/\c=(none,())) ?_ (fun _ _ z=>z) ⟨rfl,rfl⟩) ?_)
  ·rintro x c v _ _ ⟨rfl,rfl⟩;refine wpS_bind (wpS_get ?_);rw [if_pos (Nat.le_of_eq b.2.2.1)];exact vr ⟨rfl,rfl⟩
  ·rintro c v ⟨rfl,rfl⟩;exact vr (q _ b.1 b.2.1 b.2.2.2)
end
def entD (w:World)(x:D×Value×Value):DictEntry:=⟨hshD w x.1,x.2.1,x.2.2⟩
def ixD (xs:List (D×Value×Value))(d:D):Option Nat:=xs.findIdx? fun x=>eqN x.1 d
theorem je {w:World}{es:Array DictEntry}{xs:List (D×Value×Value)}(B:es.toList=xs.map (entD w))(i:Nat):es[i]? =(xs[i]?).map (entD w):=by
 rw [<-U5,B,um]
theorem ixD_is {xs:List (D×Value×Value)}{d:D}(hk:∀x∈xs,kD x.1=true)(hn:(xs.map (·.1)).Nodup){i:Nat}{x:D×Value×Value}(hx:xs[i]? =some x):eqN x.1 d=decide (ixD xs d=some i):=by
 induction xs generalizing i with
 |nil=>simp at hx
 |cons y r I=>
  have L:=Qr (d:=y.1) (e:=d) (kD_n (hk y ua));rw [uo,List.nodup_cons] at hn;unfold ixD;rw [U4];cases i with
  |zero=>
   obtain rfl:y=x:=by simpa using hx
   cases e:eqN y.1 d with
   |true=>simp
   |false=>simp
  |succ i=>
   have B:r[i]? =some x:=by simpa using hx
   have hm:x.1∈r.map (·.1):=List.mem_map.mpr ⟨x,ui B,rfl⟩;cases e:eqN y.1 d with
   |true=>
    have M:y.1=d:=L.mp e;have O:eqN x.1 d=false:=by
     cases R:eqN x.1 d with
     |false=>rfl
     |true=>
      have U:=(Qr (d:=x.1) (e:=d) (kD_n (hk x (u9 _ (ui B))))).mp R;exact absurd (by rw [M,<-U];exact hm) hn.1
    rw [O];simp
   |false=>
    rw [I (fun z hz=>hk z (u9 _ hz)) hn.2 B];unfold ixD;cases Y:List.findIdx? (fun x=>eqN x.1 d) r with
    |none=>simp
    |some j=>simp
theorem ixD_at {xs:List (D×Value×Value)}{d:D}{i:Nat}(h:ixD xs d=some i):∃x,xs[i]? =some x/\eqN x.1 d=true:=by
 unfold ixD at h;rw [uN] at h;obtain⟨h1,h2,_⟩:=h;exact⟨xs[i],u7 h1,h2⟩
mutual
theorem hv_det {h:Heap}:∀{d e:D}{v:Value},hvD h d v->hvD h e v->d=e
 | .non,e,v,h1,h2=>by
  cases(show v= .none from h1)
  cases e with
  |non=>rfl
  |str z=>obtain⟨t,e⟩:=h2;cases e
  |tup ds=>obtain⟨_,_,_,_,e,_⟩:=h2;cases e
  |_=>exact h2.elim
 | .str z,e,v,h1,h2=>by
  obtain⟨t,rfl⟩:=h1;cases e with
  |non=>cases(show Value.str z t= .none from h2)
  |str z=>obtain⟨t,e⟩:=h2;cases e;rfl
  |tup ds=>obtain⟨_,_,_,_,e,_⟩:=h2;cases e
  |_=>exact h2.elim
 | .tup ds,e,v,h1,h2=>by
  obtain⟨a,o,M,n,rfl,R,Y,hd,hi⟩:=h1;cases e with
  |non=>cases(show Value.ref a= .none from h2)
  |str z=>obtain⟨t,e⟩:=h2;cases e
  |tup es=>
   obtain⟨Z,o',L,n',e,B,U,I,O⟩:=h2;cases e;rw [R] at B;cases B;rw [hd] at I;cases I;rw [hvL_det hi O]
  |_=>exact h2.elim
 | .bl _,_,_,h1,_=>h1.elim
 | .int _,_,_,h1,_=>h1.elim
 | .lst,_,_,h1,_=>h1.elim
 | .dct,_,_,h1,_=>h1.elim
theorem hvL_det {h:Heap}:∀{ds es:List D}{vs:List Value},hvL h ds vs->hvL h es vs->ds=es
 | [],es,vs,h1,h2=>by
  cases(show vs= [] from h1)
  cases es with
  |nil=>rfl
  |cons x r=>obtain⟨_,_,e,_⟩:=h2;cases e
 |d::ds,es,vs,h1,h2=>by
  obtain⟨v,r,rfl,B,h4⟩:=h1;cases es with
  |nil=>cases(show v::r= [] from h2)
  |cons x xs=>
   obtain⟨_,_,e,I,L⟩:=h2;cases e;rw [hv_det B I,hvL_det h4 L]
end
section
variable {P:Program}{w:World}{A:Around}{E:Value->Shared->Prop}{s:Shared}
theorem tell_D {d:D}{kv:Value}{st:List Value}{Q:Bool->Shared->Prop}(hk:hvD s.heap d kv/\dp d<=8)(B:∀v∈st,∃x,hvD s.heap x v/\dp x<=8)(q:Q false s):wpAny (model P w) A (tableMayTell kv st) Q E s:=by
 unfold tableMayTell;split
 ·exact u0 q
 refine wpAny_bind (quiet_D 8 d kv A s _ hk.2 hk.1 ?_);rw [if_neg (by simp)]
 refine wpAny_bind (vz _ (fun rest (r:Option Bool×Unit) u=>u=s/\r.1=none/\∀v∈rest,v∈st) _ ?_ ?_ _ _ ⟨rfl,rfl,fun v M=>M⟩)
 ·rintro v rest ⟨I,O⟩ u ⟨rfl,L,hm⟩;obtain⟨x,h1,h2⟩:=B v (hm v ua);refine wpAny_bind (quiet_D 8 x v A _ _ h2 h1 ?_);rw [if_neg (by simp)]
  exact u0 ⟨rfl,rfl,fun y R=>hm y (u9 _ R)⟩
 ·rintro⟨I,O⟩ u ⟨rfl,L,_⟩;cases(show I=none from L)
  exact u0 q
theorem Y3 {α:Type}{f g:α->Bool}:∀{l:List α},(∀x∈l,f x=g x)->l.findIdx? f=l.findIdx? g
 | [],_=>rfl
 |x::l,h=>by rw [U4,U4,h x ua,Y3 fun y B=>h y (u9 _ B)]
def metD (j:Option Nat)(done:List Nat):Option Nat:=j.filter fun i=>decide (i∈done)
theorem dfind {a:Addr}{o:Obj}{es:Array DictEntry}{ep:Nat}{xs:List (D×Value×Value)}{d:D}{kv:Value}{Q:Option Nat->Shared->Prop}(Z:s.heap.get? a=some o)(hd:o.data= .dict es ep)(O:es.toList=xs.map (entD w))
  (hx:∀x∈xs,hvD s.heap x.1 x.2.1/\dp x.1<=8/\kD x.1=true) (hk:hvD s.heap d kv/\dp d<=8/\kD d=true) (hn:(xs.map (·.1)).Nodup)
  (hq:∀x∈xs,∀(E:Value->Shared->Prop) (Q:Bool->Shared->Prop),Q (eqN x.1 d) s->wpAny (model P w) A (eqBool x.2.1 kv) Q E s) (q:Q (ixD xs d) s):wpAny (model P w) A (dictFind a kv (hshD w d)) Q E s:=by
 have hK:∀x∈xs,kD x.1=true:=fun x m=>(hx x m).2.2;have hsz:es.size=xs.length:=by rw [<-vd,O,ue]
 have R:∀i,i∈placesWithHash es.size (fun i=>es[i]?.map (·.hash)) (hshD w d)->∃x,xs[i]? =some x/\hshD w x.1=hshD w d:=fun i hi=>by
  obtain⟨h1,h2⟩:=List.mem_filter.mp hi;simp only [je O] at h2;cases e:xs[i]? with
  |none=>rw [e] at h2;simp at h2
  |some x=>
   rw [e] at h2;exact⟨x,rfl,by simpa [entD] using h2⟩
 have aa:∀j,ixD xs d=some j->j∈placesWithHash es.size (fun i=>es[i]?.map (·.hash)) (hshD w d):=fun j hj=>by
  obtain⟨x,I,e2⟩:=ixD_at hj;have e3:=(Qr (kD_n (hK x (ui I)))).mp e2;refine List.mem_filter.mpr ⟨List.mem_range.mpr ?_,?_⟩
  ·rw [hsz];exact(List.getElem?_eq_some_iff.mp I).1
  ·simp only [je O,I];simp [entD,e3]
 have ab:(placesWithHash es.size (fun i=>es[i]?.map (·.hash)) (hshD w d)).Nodup:=List.Pairwise.filter _ List.nodup_range;have L:∀v∈(placesWithHash es.size (fun i=>es[i]?.map (·.hash)) (hshD w d)).filterMap (fun i=>es[i]?.map (·.key)),∃x,hvD s.heap x v/\dp x<=8:=fun v hv=>by
  obtain⟨i,h1,h2⟩:=List.mem_filterMap.mp hv;obtain⟨x,I,_⟩:=R i h1;rw [je O,I] at h2;have:=hx x (ui I);exact⟨x.1,by simp [entD] at h2;rw [<-h2];exact this.1,this.2.1⟩
 unfold dictFind;refine uP (wpAny_bind (Uw Z hd ?_));dsimp only;generalize placesWithHash es.size (fun i=>es[i]?.map (·.hash)) (hshD w d)=pl at R aa ab L⊢;have M:wpAny (model P w) A (dictWalkPlain a kv (hshD w d) es pl) Q E s:=by
  unfold dictWalkPlain;refine wpAny_bind (vz _ (fun rest (r:Option (Option Nat)×Unit) u=>u=s/\r=(none,())/\∃done,pl=done++rest/\∀j,ixD xs d=some j->j∉done) _ ?_ ?_ _ _ ⟨rfl,rfl,[],rfl,fun _ _=>by simp⟩)
  ·rintro i rest ⟨r1,r2⟩ u ⟨rfl,hr,done,B,ac⟩;cases hr;obtain⟨x,I,e2⟩:=R i (by rw [B];simp)
   have U:=ui I;rw [je O,I];show wpAny _ _ (if((entD w x).hash==hshD w d)=true then _ else _) _ _ _
   rw [if_pos (by simp [entD,e2])]
   refine wpAny_bind (vE Z hd (wpAny_bind (hq x U _ _ (wpAny_bind (vE Z hd ?_)))));rw [if_neg (by simp),ixD_is hK hn I]
   by_cases c:ixD xs d=some i
   ·rw [uc c,if_pos rfl];exact wpAny_bind (vm (u0 (u0 (by rw [c] at q;exact q))))
   ·rw [ub c,if_neg (by simp)]
    refine wpAny_bind (vm (u0 ⟨rfl,rfl,done++ [i],by rw [B];simp,fun j hj=> ?_⟩))
    have:=ac j hj;simp only [List.mem_append,List.mem_singleton,not_or];exact⟨this,fun z=>c (by rw [<-z];exact hj)⟩
  ·rintro⟨r1,r2⟩ u ⟨rfl,hr,done,B,ac⟩;cases hr;refine u0 ?_;cases e:ixD xs d with
   |none=>rw [e] at q;exact q
   |some j=>exact absurd (by have:=aa j e;rw [B] at this;simpa using this) (ac j e)
 have ae:kv= .none∨(∃z t,kv= .str z t/\d= .str z)∨∃b,kv= .ref b:=by
  cases d with
  |non=>exact .inl hk.1
  |str z=>
   obtain⟨t,e⟩:=hk.1;exact .inr (.inl ⟨z,t,e,rfl⟩)
  |tup ds=>
   obtain⟨b,_,_,_,e,_⟩:=hk.1;exact .inr (.inr ⟨b,e⟩)
  |_=>exact hk.1.elim
 rcases ae with rfl|⟨z,t,rfl,hz⟩|⟨b,rfl⟩
 all_goals dsimp only
 case' inr.inl=>
  by_cases ca:(es.all fun e=>isExactStrKey e.key)=true
  ·rw [if_pos ca];subst hz;have hf:es.findIdx? (fun e=>e.key.isStr z)=ixD xs (.str z):=by
    rw [show es=es.toList.toArray from rfl,List.findIdx?_toArray,O,List.findIdx?_map]
    unfold ixD;refine Y3 fun x U=> ?_;have h1:isExactStrKey x.2.1=true:=by
     rw [<-Array.all_toList,O,U8,UA] at ca;exact ca x U
    have h2:=(hx x U).1;obtain⟨xd,xk,xv⟩:=x;cases xd with
    |non=>cases(show xk= .none from h2);cases h1
    |str y=>
     obtain⟨t',e⟩:=h2;cases(show xk= .str y t' from e)
     show(Value.str y t').isStr z=eqN (.str y) (.str z);simp only [eqN,Value.isStr]
    |tup ds=>
     obtain⟨b,_,_,_,e,_⟩:=h2;cases(show xk= .ref b from e)
     cases h1
    |_=>exact h2.elim
   unfold foundByValue;rw [hf];cases e:ixD xs (.str z) with
   |none=>
    rw [e] at q;exact u0 q
   |some i=>
    rw [e] at q;obtain⟨x,I,e2⟩:=ixD_at e;dsimp only;rw [je O,I];refine wpAny_bind (vE Z hd (wpAny_bind (hq x (ui I) _ _ (wpAny_bind (vE Z hd ?_)))));rw [if_neg (by simp),e2,if_pos rfl]
    exact wpAny_bind (vm (u0 q))
  rw [if_neg ca]
 case' inr.inr=>
  have ad:¬(es.any fun e=>e.key==Value.ref b&&e.hash !=hshD w d)=true:=by
   rw [<-Array.any_toList,O,List.any_map,List.any_eq_true];rintro⟨x,U,hc⟩;simp only [Function.comp,entD,uh,UF,bne_iff_ne,ne_eq] at hc;have h1:=(hx x U).1;rw [hc.1] at h1;exact hc.2 (by rw [hv_det h1 hk.1])
  rw [if_neg ad]
 all_goals
  generalize pl.filterMap (fun i=>es[i]?.map (·.key))=st at L⊢
 case' inr.inr=>rw [if_neg (show¬((Value.ref b::st).all carriedByValue)=true by simp [carriedByValue])]
 case' inr.inl=>
  by_cases c0:((Value.str z t::st).all carriedByValue)=true
  ·rw [if_pos c0];exact M
  rw [if_neg c0]
 case' inl=>
  by_cases c0:((Value.none::st).all carriedByValue)=true
  ·rw [if_pos c0];exact M
  rw [if_neg c0]
 case' inr.inr=>by_cases Y:(st== [Value.ref b])=true<;>(first|rw [if_pos Y]|rw [if_neg Y])<;>(first|refine wpAny_bind (u0 ?_)|refine wpAny_bind (tell_D ⟨hk.1,hk.2.1⟩ L ?_))
 case' inr.inl=>by_cases Y:(st== [Value.str z t])=true<;>(first|rw [if_pos Y]|rw [if_neg Y])<;>(first|refine wpAny_bind (u0 ?_)|refine wpAny_bind (tell_D ⟨hk.1,hk.2.1⟩ L ?_))
 case' inl=>by_cases Y:(st== [Value.none])=true<;>(first|rw [if_pos Y]|rw [if_neg Y])<;>(first|refine wpAny_bind (u0 ?_)|refine wpAny_bind (tell_D ⟨hk.1,hk.2.1⟩ L ?_))
 all_goals
  rw [if_neg (by simp)]
  refine wpAny_bind (vz _ (fun rest (r:Option (Option Nat)×Option Nat) u=>u=s/\∃done,pl=done++rest/\r=(none,metD (ixD xs d) done)) _ ?_ ?_ _ _ ⟨rfl,[],rfl,by unfold metD;cases ixD xs d<;>rfl⟩)
  ·rintro i rest r u ⟨rfl,done,B,rfl⟩;obtain⟨x,I,e2⟩:=R i (by rw [B];simp)
   have U:=ui I;have hi:i∉done:=fun m=>by
    rw [B,List.nodup_append] at ab;exact ab.2.2 i m i ua rfl
   rw [je O,I];show wpAny _ _ (if((entD w x).hash==hshD w _)=true then _ else _) _ _ _
   rw [if_pos (by simp [entD,e2])]
   refine wpAny_bind (vE Z hd (wpAny_bind (hq x U _ _ (wpAny_bind (vE Z hd ?_)))));rw [if_neg (by simp),ixD_is hK hn I]
   by_cases c:ixD xs d=some i
   ·rw [uc c,if_pos rfl];have e3:metD (ixD xs d) done=none:=by rw [c];simp [metD,hi]
    have e4:metD (ixD xs d) (done++ [i])=some i:=by rw [c];simp [metD]
    rw [e3,if_neg (by simp)]
    refine wpAny_bind (vm ?_);split
    ·exact u0 (u0 (by rw [c] at q;exact q))
    ·exact u0 ⟨rfl,done++ [i],by rw [B];simp,by rw [e4]⟩
   ·rw [ub c,if_neg (by simp)]
    refine wpAny_bind (vm ?_);rw [if_neg (by simp)]
    refine u0 ⟨rfl,done++ [i],by rw [B];simp,?_⟩
    have e5:metD (ixD xs d) (done++ [i])=metD (ixD xs d) done:=by
     unfold metD;cases e:ixD xs d with
     |none=>rfl
     |some j=>
      have:j≠i:=fun z=>c (by rw [e,z])
      simp [Option.filter,this]
    rw [e5]
  ·rintro r u ⟨rfl,done,B,rfl⟩;rw [uU] at B;refine u0 ?_;have e6:metD (ixD xs d) done=ixD xs d:=by
    unfold metD;cases e:ixD xs d with
    |none=>rfl
    |some j=>
     have hj:j∈done:=by rw [<-B];exact aa j e
     simp [Option.filter,hj]
   show Q (metD (ixD xs d) done) u;rw [e6];exact q
end
def Q7 (w:World)(h:Heap)(a:Addr)(xs:List (D×Value×Value)):Prop:=∃o es ep,h.get? a=some o/\o.ExactDict/\o.data= .dict es ep/\es.toList=xs.map (entD w)
theorem Q7.ty {w:World}{s:Shared}{a:Addr}{xs:List (D×Value×Value)}(h:Q7 w s.heap a xs):s.TypeIs (.ref a) "dict":=by
 obtain⟨o,es,ep,h1,h2,_⟩:=h;exact⟨o,h1,h2.1⟩
structure KeyOk (P:Program)(w:World)(A:Around)(s:Shared)(xs:List (D×Value×Value))(d:D)(kv:Value):Prop where
 hx:∀x∈xs,hvD s.heap x.1 x.2.1/\dp x.1<=8/\kD x.1=true
 hk:hvD s.heap d kv/\dp d<=8/\kD d=true
 hn:(xs.map (·.1)).Nodup
 hu:A.units+8<cLine
 hq:∀(n:Nat),∀x∈xs,∀(E:Value->Shared->Prop) (Q:Bool->Shared->Prop),Q (eqN x.1 d) {s with toks:=s.toks+n}->wpAny (model P w) A (eqBool x.2.1 kv) Q E {s with toks:=s.toks+n}
def atD (xs:List (D×Value×Value))(d:D):Option Value:=(ixD xs d).bind fun i=>xs[i]?.map (·.2.2)
def storeD (xs:List (D×Value×Value))(d:D)(kv v:Value):List (D×Value×Value):=match ixD xs d with
 |some i=>xs.modify i fun x=>(x.1,x.2.1,v)
 |none=>xs++ [(d,kv,v)]
section
variable {P:Program}{w:World}{A:Around}{E:Value->Shared->Prop}{s:Shared}{a:Addr}{xs:List (D×Value×Value)}{d:D}{kv:Value}
theorem dgetD {Q:Option Value->Shared->Prop}(hm:Q7 w s.heap a xs)(k:KeyOk P w A s xs d kv)(q:Q (atD xs d) {s with toks:=s.toks+drwD d}):wpAny (model P w) A (dictGet a kv) Q E s:=by
 obtain⟨o,es,ep,B,_,hd,I⟩:=hm;unfold dictGet;refine uP (wpAny_bind (hash_D 8 d kv A s _ k.hk.2.1 k.hu k.hk.1 (wpAny_bind (dfind (s:={s with toks:=s.toks+drwD d}) B hd I k.hx k.hk k.hn (k.hq _) ?_))))
 unfold atD at q;cases e:ixD xs d with
 |none=>
  rw [e] at q;exact u0 q
 |some i=>
  rw [e] at q;obtain⟨x,L,_⟩:=ixD_at e;refine wpAny_bind (Uw (s:={s with toks:=s.toks+drwD d}) B hd ?_)
  rw [je I,L];simp only [Option.bind_some,L] at q;exact u0 q
theorem Jn {α β:Type}(f:α->β)(g:β->β)(g':α->α)(h:∀x,g (f x)=f (g' x)):∀(l:List α) (i:Nat),(l.map f).modify i g=(l.modify i g').map f
 | [],i=>by cases i<;>rfl
 |x::l,0=>by simp [h]
 |x::l,i+1=>by simp [Jn f g g' h l i]
theorem dsetD {v:Value}{Q:Unit->Shared->Prop}(hm:Q7 w s.heap a xs)(k:KeyOk P w A s xs d kv)(hz:xs.length<=sizeLine)
  (q:∀h',Q7 w h' a (storeD xs d kv v)->Heap.SameBut a s.heap h'->Q () {s with heap:=h',toks:=s.toks+drwD d}):wpAny (model P w) A (dictSet a kv v) Q E s:=by
 obtain⟨o,es,ep,B,L,hd,I⟩:=hm;have M:es.size=xs.length:=by rw [<-vd,I,ue]
 unfold dictSet;refine uP (wpAny_bind (hash_D 8 d kv A s _ k.hk.2.1 k.hu k.hk.1 ?_));unfold dictSetHashed;refine uP (wpAny_bind (dfind (s:={s with toks:=s.toks+drwD d}) B hd I k.hx k.hk k.hn (k.hq _) ?_))
 unfold storeD at q;cases e:ixD xs d with
 |none=>
  rw [e] at q;refine wpAny_bind (vm (wpAny_updateDictKeys (hz:=by omega) (s:={s with toks:=s.toks+drwD d}) B hd (q _ ⟨_,_,_,vf _ B (Obj.isFreed_of_dict (Obj.data_mapDictKeys hd _)),L.mapDictKeys _,Obj.data_mapDictKeys hd _,?_⟩ (ve ..))))
  simp [I,entD]
 |some i=>
  rw [e] at q;refine wpAny_bind (vm (wpAny_bind (wpAny_updateDict (s:={s with toks:=s.toks+drwD d}) B hd (wpAny_point (q _ ⟨_,_,_,vf _ B (Obj.isFreed_of_dict (Obj.data_mapDict hd _)),L.mapDict _,Obj.data_mapDict hd _,?_⟩ (ve ..))))))
  rw [Array.toList_modify,I];exact Jn (entD w) _ _ (fun _=>rfl) xs i
theorem dconD {Q:Bool->Shared->Prop}(lo:(a==sysModules)=false)(hm:Q7 w s.heap a xs)(k:KeyOk P w A.in1 s xs d kv)(q:Q (atD xs d).isSome {s with toks:=s.toks+drwD d}):wpAny (model P w) A (contains (.ref a) kv) Q E s:=by
 unfold contains;refine uP (wpAny_bind (wpAny_specialOf hm.ty slot_dict_contains.lookup ?_));show wpAny _ _ (if(some (Value.builtin "dict.__contains__")==some Value.none)=true then _ else _) _ E s
 rw [if_neg (by rw [beq_builtin_none];simp)]
 refine wpAny_bind (wpAny_callSpecialUnlessNone?_slot (name:=Str.ofString "__contains__") hm.ty slot_dict_contains (uq slot_dict_contains hm.ty entry_dict_contains ?_ (args_dict_contains _ _)));show wpAny _ _ (dictGet a kv>>=_) _ _ s;refine wpAny_bind (dgetD hm k ?_);cases e:atD xs d with
 |some p=>
  rw [e] at q;show wpAny _ _ (ret (.bool true)) _ _ _;exact u0 ⟨_,rfl,uK q⟩
 |none=>
  rw [e] at q;show wpAny _ _ (Builtin.Dict.pendingKey? a kv>>=_) _ _ _;exact wpAny_bind (wpAny_pendingKey_other lo (u0 ⟨_,rfl,uK q⟩))
theorem dixD {v:Value}{Q:Value->Shared->Prop}(hm:Q7 w s.heap a xs)(k:KeyOk P w A.in1 s xs d kv)(e:atD xs d=some v)(q:Q v {s with toks:=s.toks+drwD d}):wpAny (model P w) A (getItem (.ref a) kv) Q E s:=by
 unfold getItem;refine uP (wpAny_bind (Ut hm.ty (by decide) (wpAny_bind (uw (name:=Str.ofString "__getitem__") hm.ty slot_dict_getitem (uq slot_dict_getitem hm.ty entry_dict_getitem ?_ (args_dict_getitem _ _))))))
 show wpAny _ _ (dictGet a kv>>=_) _ _ s;refine wpAny_bind (dgetD hm k ?_);rw [e];exact u0 ⟨v,rfl,u0 q⟩
theorem dputD {v:Value}{Q:Unit->Shared->Prop}(hm:Q7 w s.heap a xs)(k:KeyOk P w A.in1 s xs d kv)(hz:xs.length<=sizeLine)
  (q:∀h',Q7 w h' a (storeD xs d kv v)->Heap.SameBut a s.heap h'->Q () {s with heap:=h',toks:=s.toks+drwD d}):wpAny (model P w) A (setItem (.ref a) kv v) Q E s:=by
 unfold setItem;refine uP (wpAny_bind (Ut hm.ty (by decide) (wpAny_bind (uw (name:=Str.ofString "__setitem__") hm.ty slot_dict_setitem (uq slot_dict_setitem hm.ty entry_dict_setitem ?_ (args_dict_setitem _ _ _))))))
 show wpAny _ _ (Builtin.Dict.notOrdered "__setitem__" ⟨[.ref a,kv,v],[]⟩>>=_) _ _ s;refine wpAny_bind (wpAny_notOrdered_dict hm.ty ?_);show wpAny _ _ (dictSet a kv v>>=_) _ _ s;exact wpAny_bind (dsetD hm k hz fun h' B s'=>u0 ⟨.none,rfl,u0 (q h' B s')⟩)
theorem dgetD2 {v:Value}{Q:Value->Shared->Prop}(lo:(a==sysModules)=false)(hm:Q7 w s.heap a xs)(k:KeyOk P w A.in1 s xs d kv)(q:Q ((atD xs d).getD v) {s with toks:=s.toks+drwD d}):wpAny (model P w) A (call (.builtin "dict.get") [.ref a,kv,v]) Q E s:=by
 refine uq F.slot_dict_get hm.ty F.entry_dict_get ?_ (F.args_dict_get_3 _ _ _);show wpAny _ _ (dictGet a kv>>=_) _ _ s;refine wpAny_bind (dgetD hm k ?_);cases e:atD xs d with
 |some p=>
  rw [e] at q;exact u0 ⟨_,rfl,q⟩
 |none=>
  rw [e] at q;show wpAny _ _ (Builtin.Dict.missed a kv>>=_) _ _ _;exact wpAny_bind (wpAny_missed_other lo (u0 ⟨_,rfl,q⟩))
end
def RelE (p:D×V×V)(q:D×Value×Value):Prop:=p.1=q.1/\RelV p.2.1 q.2.1/\RelV p.2.2 q.2.2
def dExt (w:World)(a:Addr)(kvs:List (D×V×V)):HO:= .ext fun h=>kvs.length<=sizeLine/\(a==sysModules)=false/\∃xs,Paired RelE kvs xs/\Q7 w h a xs
theorem dExt_ok {P:Program}{w:World}{H:Hp}{h:Heap}{a:Addr}{kvs:List (D×V×V)}{xs:List (D×Value×Value)}(hz:kvs.length<=sizeLine)(lo:(a==sysModules)=false)(r:Paired RelE kvs xs)(e:Q7 w h a xs):Qm P w H h a (dExt w a kvs):=by
 refine⟨⟨hz,lo,xs,r,e⟩,?_,?_⟩
 ·obtain⟨o,_,_,h1,_⟩:=e;exact⟨o,h1⟩
 ·rintro h1 h2 ⟨hz,lo,xs,r,o,es,ep,B,I⟩ k;exact⟨hz,lo,xs,r,o,es,ep,k _ B,I⟩
def KOk (H:Hp)(d:D)(y:V):Prop:=Is H d y/\kD d=true/\dp d<=8
structure DAt (w:World)(H:Hp)(a:Addr)(kvs:List (D×V×V)):Prop where
 here:H a=some (dExt w a kvs)
 ks:∀p∈kvs,KOk H p.1 p.2.1
 nd:(kvs.map (·.1)).Nodup
theorem DAt.keep {w:World}{H H':Hp}{a:Addr}{kvs:List (D×V×V)}(h:DAt w H a kvs)(t:Tk H H')(e:H' a=H a):DAt w H' a kvs:=⟨e.trans h.here,fun p B=>⟨(h.ks p B).1.mono t,(h.ks p B).2⟩,h.nd⟩
theorem DAt.same {w:World}{H H':Hp}{a:Addr}{kvs:List (D×V×V)}(h:DAt w H a kvs)(s:Same H H'):DAt w H' a kvs:=h.keep s.tk ((s _ _ h.here).trans h.here.symm)
def ixV (kvs:List (D×V×V))(d:D):Option Nat:=kvs.findIdx? fun p=>eqN p.1 d
def valD (kvs:List (D×V×V))(d:D):Option V:=(ixV kvs d).bind fun i=>kvs[i]?.map (·.2.2)
def putD (kvs:List (D×V×V))(d:D)(y v:V):List (D×V×V):=match ixV kvs d with
 |some i=>kvs.modify i fun p=>(p.1,p.2.1,v)
 |none=>kvs++ [(d,y,v)]
theorem ix_rel {d:D}:∀{kvs:List (D×V×V)}{xs:List (D×Value×Value)},Paired RelE kvs xs->ixV kvs d=ixD xs d
 |_,_,.nil=>rfl
 |p::kvs,q::xs,.cons r t=>by
  have:=ix_rel (d:=d) t;unfold ixV ixD at*;rw [U4,U4,r.1,this]
theorem rel_at {α β:Type}{F:α->β->Prop}:∀{l:List α}{m:List β},Paired F l m->∀{i:Nat}{x:α},l[i]? =some x->∃y,m[i]? =some y/\F x y
 |_,_,.nil,i,x,h=>by simp at h
 |a::l,b::m,.cons r t,i,x,h=>by
  cases i with
  |zero=>
   cases(show a=x by simpa using h)
   exact⟨b,rfl,r⟩
  |succ i=>exact rel_at t (by simpa using h)
theorem rel_mod {α β:Type}{F:α->β->Prop}{f:α->α}{g:β->β}(h:∀x y,F x y->F (f x) (g y)):∀{l:List α}{m:List β},Paired F l m->∀i:Nat,Paired F (l.modify i f) (m.modify i g)
 |_,_,.nil,i=>by cases i<;>exact .nil
 |a::l,b::m,.cons r t,0=>by simp only [List.modify_zero_cons];exact .cons (h _ _ r) t
 |a::l,b::m,.cons r t,i+1=>by simp only [List.modify_succ_cons];exact .cons r (rel_mod h t i)
theorem val_rel {d:D}{kvs:List (D×V×V)}{xs:List (D×Value×Value)}(r:Paired RelE kvs xs):RelO (valD kvs d) (atD xs d):=by
 unfold valD atD;rw [ix_rel r];cases e:ixD xs d with
 |none=>exact trivial
 |some i=>
  obtain⟨q,B,_⟩:=ixD_at e;have I:=vY r;have hi:i<kvs.length:=by rw [I];exact(List.getElem?_eq_some_iff.mp B).1
  obtain⟨M,L,h⟩:=rel_at r (u7 hi);simp only [Option.bind_some,u7 hi,L,Option.map_some];exact h.2.2
theorem put_rel {d:D}{y v:V}{ky u:Value}{kvs:List (D×V×V)}{xs:List (D×Value×Value)}(r:Paired RelE kvs xs)(I:RelV y ky)(B:RelV v u):Paired RelE (putD kvs d y v) (storeD xs d ky u):=by
 unfold putD storeD;rw [ix_rel r];cases ixD xs d with
 |none=>exact Paired.snoc r ⟨rfl,I,B⟩
 |some i=>exact rel_mod (fun x y h=>⟨h.1,h.2.1,B⟩) r i
theorem mod_mem {α:Type}{f:α->α}:∀{l:List α}{i:Nat}{x:α},x∈l.modify i f->x∈l∨∃y∈l,x=f y
 | [],i,x,h=>by cases i<;>simp at h
 |a::l,0,x,h=>by
  rw [List.modify_zero_cons] at h;rcases List.mem_cons.mp h with rfl|h
  ·exact .inr ⟨a,ua,rfl⟩
  ·exact .inl (u9 _ h)
 |a::l,i+1,x,h=>by
  rw [List.modify_succ_cons] at h;rcases List.mem_cons.mp h with rfl|h
  ·exact .inl ua
  ·rcases mod_mem h with h|⟨y,B,e⟩
   ·exact .inl (u9 _ h)
   ·exact .inr ⟨y,u9 _ B,e⟩
theorem mod_keys {α β:Type}{f:α->α}{k:α->β}(h:∀x,k (f x)=k x):∀(l:List α) (i:Nat),(l.modify i f).map k=l.map k
 | [],i=>by cases i<;>rfl
 |a::l,0=>by simp [h]
 |a::l,i+1=>by simp [mod_keys h l i]
theorem put_keys (kvs:List (D×V×V))(d:D)(y v:V):(putD kvs d y v).map (·.1)=if(ixV kvs d).isSome then kvs.map (·.1) else kvs.map (·.1)++ [d]:=by
 unfold putD;cases ixV kvs d with
 |none=>simp
 |some i=>rw [if_pos (by simp)];exact mod_keys (f:=fun p:D×V×V=>(p.1,p.2.1,v)) (k:=fun p:D×V×V=>p.1) (fun _=>rfl) kvs i
theorem put_len (kvs:List (D×V×V))(d:D)(y v:V):(putD kvs d y v).length<=kvs.length+1:=by
 unfold putD;cases ixV kvs d with
 |none=>simp
 |some i=>simp
theorem ix_none {kvs:List (D×V×V)}{d:D}(hk:kD d=true)(h:ixV kvs d=none):d∉kvs.map (·.1):=fun hm=>by
 obtain⟨p,B,rfl⟩:=List.mem_map.mp hm;unfold ixV at h;rw [List.findIdx?_eq_none_iff] at h;have:=h p B;rw [(Qr (kD_n hk)).mpr rfl] at this;cases this
theorem DAt.put {w:World}{H:Hp}{a:Addr}{kvs:List (D×V×V)}{d:D}{y v:V}(h:DAt w H a kvs)(k:KOk H d y):DAt w (upd H a (dExt w a (putD kvs d y v))) a (putD kvs d y v):=by
 have L:∀b xs,H b=some (.tup xs)->b≠a:=fun b xs e z=>by rw [z,h.here] at e;cases e
 have tk:Tk H (upd H a (dExt w a (putD kvs d y v))):=⟨fun b xs e=>by rw [qi (L b xs e)];exact e,fun b xs e=>⟨xs,by rw [qi (fun z=>by rw [z,h.here] at e;cases e)];exact e⟩,fun b xs e=>⟨xs,by rw [qi (fun z=>by rw [z,h.here] at e;cases e)];exact e⟩⟩
 refine⟨qe,fun p B=> ?_,?_⟩
 ·unfold putD at B;have I:∀q∈kvs,KOk (upd H a (dExt w a (putD kvs d y v))) q.1 q.2.1:=fun q hq=>⟨(h.ks q hq).1.mono tk,(h.ks q hq).2⟩;cases e:ixV kvs d with
  |none=>
   rw [e] at B;rcases List.mem_append.mp B with B|B
   ·exact I p B
   ·cases(show p=(d,y,v) by simpa using B)
    exact⟨k.1.mono tk,k.2⟩
  |some i=>
   rw [e] at B;rcases mod_mem B with B|⟨q,hq,rfl⟩
   ·exact I p B
   ·exact I q hq
 ·rw [put_keys];cases e:ixV kvs d with
  |none=>
   rw [if_neg (by simp)]
   refine List.nodup_append.mpr ⟨h.nd,by simp,fun x hx y M z=> ?_⟩
   have:y=d:=by simpa using M
   exact ix_none k.2.1 e (by rw [<-this,<-z];exact hx)
  |some i=>rw [if_pos (by simp)];exact h.nd
section
variable {X:Cx}{pins:List (Addr×Obj)}{σ:St}{H:Hp}{s:Shared}{a:Addr}{kvs:List (D×V×V)}{d:D}{y:V}{ky:Value}{A:Around}{E:Value->Shared->Prop}
theorem Ju (I:Inv X pins σ H s)(h:DAt X.w H a kvs):kvs.length<=sizeLine/\(a==sysModules)=false/\∃xs,Paired RelE kvs xs/\Q7 X.w s.heap a xs:=(show Qm X.prog X.w H s.heap a (dExt X.w a kvs) from I.hok a _ h.here).1
theorem key_ok (I:Inv X pins σ H s)(h:DAt X.w H a kvs)(k:KOk H d y)(Y:RelV y ky){xs:List (D×Value×Value)}(r:Paired RelE kvs xs)(hu:A.units+8<cLine):KeyOk X.prog X.w A s xs d ky:=by
 have B:∀x∈xs,∃p∈kvs,RelE p x:=by
  intro x hx;have all:∀{l:List (D×V×V)}{m:List (D×Value×Value)},Paired RelE l m->∀x∈m,∃p∈l,RelE p x:=by
   intro l m q
   induction q with
   |nil=>intro x hx;exact nomatch hx
   |cons hq t U=>
    intro x hx;rcases List.mem_cons.mp hx with rfl|hx
    ·exact⟨_,ua,hq⟩
    ·obtain⟨p,O,e⟩:=U x hx;exact⟨p,u9 _ O,e⟩
  exact all r x hx
 refine⟨fun x hx=> ?_,⟨is_hv I 8 d y ky k.2.2 k.2.1 k.1 Y,k.2.2,k.2.1⟩,?_,hu,fun n x hx E Q q=> ?_⟩
 ·obtain⟨p,O,e⟩:=B x hx;obtain⟨R,L,M⟩:=h.ks p O;rw [e.1] at R L M;exact⟨is_hv I 8 x.1 p.2.1 x.2.1 M L R e.2.1,M,L⟩
 ·have e:xs.map (·.1)=kvs.map (·.1):=by
   have all:∀{l:List (D×V×V)}{m:List (D×Value×Value)},Paired RelE l m->m.map (·.1)=l.map (·.1):=by
    intro l m q
    induction q with
    |nil=>rfl
    |cons hq t U=>rw [uo,uo,U,hq.1]
   exact all r
  rw [e];exact h.nd
 ·obtain⟨p,O,e⟩:=B x hx;obtain⟨R,L,M⟩:=h.ks p O;rw [e.1] at R L M;exact eqAt_N (I.tok (s.toks+n) (Nat.add_pos_left I.tk n)) 8 x.1 d p.2.1 y x.2.1 ky A M (kD_n L) (kD_n k.2.1) R k.1 e.2.1 Y hu X.prog X.w E Q q
theorem JC (hu:A.units+64<cLine):A.in1.units+8<cLine:=by rw [uu];omega
end
def tGetD (w:World)(td ty:TE):TE:=fun σ H Q=>td σ H fun x H1=>ty σ H1 fun y H2=>∃a kvs d v,x= .ref a/\DAt w H2 a kvs/\KOk H2 d y/\valD kvs d=some v/\Q v H2
def tInD (w:World)(g:Bool->Bool)(ty td:TE):TE:=fun σ H Q=>ty σ H fun y H1=>td σ H1 fun x H2=>∃a kvs d,x= .ref a/\DAt w H2 a kvs/\KOk H2 d y/\Q (.bl (g (valD kvs d).isSome)) H2
def sPutD (w:World)(td ty tv:TE):TS:=fun D σ H=>tv σ H fun v H1=>td σ H1 fun x H2=>ty σ H2 fun y H3=>∃a kvs d,x= .ref a/\DAt w H3 a kvs/\KOk H3 d y/\kvs.length<sizeLine/\D.nx σ (upd H3 a (dExt w a (putD kvs d y v)))
def tGet2D (w:World)(td ty tx:TE):TE:=fun σ H Q=>td σ H fun x H1=>∃a kvs0,x= .ref a/\DAt w H1 a kvs0/\ty σ H1 fun y H2=>tx σ H2 fun z H3=>∃kvs d,DAt w H3 a kvs/\KOk H3 d y/\Q ((valD kvs d).getD z) H3
def tNewD (w:World):TE:=fun _ H Q=>∀p,H p=none->Q (.ref p) (upd H p (dExt w p []))
section
variable {X:Cx}{o i e f value:Expr}{pos pos' tpos apos cpos:Pos}{td ty tv tx:TE}{w:World}
theorem J7 (M:X.w=w)(hu:X.A.units+64<cLine)(O:PE X o td)(hi:PE X i ty)(R:NoSl i):PE X (.Subscript o i pos) (tGetD w td ty):=by
 subst M;intro pins s σ H Q I h;refine subD_of PySem.F.slot_dict_getitem.lookup R (thn (O pins s σ H _ I h) fun u s1 ⟨x,H1,U,Y,q1⟩=>thn (hi pins s1 σ H1 _ U q1) fun iv s2 ⟨y,H2,B,Z,a,kvs,d,v,ex,g,k,e,q2⟩=> ?_);subst ex;obtain rfl:u=Value.ref a:=Y;obtain⟨_,_,xs,r,m⟩:=Ju B g;obtain⟨w',hw,L⟩:=RelO.some_of (v:=v) (o:=atD xs d) (by rw [<-e];exact val_rel r)
 exact⟨m.ty,dixD m (key_ok B g k Z r (JC hu)) hw ⟨v,H2,B.tok _,L,q2⟩⟩
theorem d_conD {pins:List (Addr×Obj)}{σ:St}{H:Hp}{s:Shared}{a:Addr}{kvs:List (D×V×V)}{d:D}{y:V}{ky:Value}{E:Value->Shared->Prop}{Q:Bool->Shared->Prop}(hu:X.A.units+64<cLine)(I:Inv X pins σ H s)(g:DAt X.w H a kvs)(k:KOk H d y)(B:RelV y ky)(q:∀s',Inv X pins σ H s'->Q (valD kvs d).isSome s'):
  wpAny (model X.prog X.w) X.A (contains (.ref a) ky) Q E s:=by
 obtain⟨_,lo,xs,r,m⟩:=Ju I g;refine dconD lo m (key_ok I g k B r (JC hu)) ?_;rw [<-(val_rel r).isSome_eq];exact q _ (I.tok _)
theorem pc_notinD (B:X.w=w)(hu:X.A.units+64<cLine)(hi:PE X i ty)(L:PE X o td):PC X .NotIn i o (tInD w not ty td):=by
 subst B;intro pins s σ H Q I h;refine thn (hi pins s σ H _ I h) fun M s1 ⟨y,H1,O,R,q1⟩=>thn (L pins s1 σ H1 _ O q1) fun u s2 ⟨x,H2,U,Y,a,kvs,d,ex,g,k,Z⟩=> ?_;subst ex;obtain rfl:u=Value.ref a:=Y;show wpAny _ _ (contains (.ref a) M>>=fun r=>pure (Value.bool !r)) _ _ s2;exact wpAny_bind (d_conD hu U g k R fun s3 I3=>u0 ⟨.bl _,H2,I3,rfl,Z⟩)
theorem ps_putD (R:X.w=w)(hu:X.A.units+64<cLine)(U:PE X o td)(hi:PE X i ty)(Y:PE X value tv)(Z:swapsWith value (some (.Subscript o i pos')) pos.line X.env=pure false):
  PS X (.Assign [.Subscript o i pos'] value pos) (sPutD w td ty tv):=by
 subst R;intro pins s σ H D I h;refine wpAny_Assign_Subscript (thn (Y pins s σ H _ I h) fun r s1 ⟨v,H1,I1,rv,q1⟩=>thn (U pins s1 σ H1 _ I1 q1) fun u s2 ⟨x,H2,I2,rx,q2⟩=>thn (hi pins s2 σ H2 _ I2 q2) fun iv s3 ⟨y,H3,B,M,a,kvs,d,ex,g,k,hl,q3⟩=> ?_) Z;subst ex;obtain rfl:u=Value.ref a:=rx;obtain⟨hz,lo,xs,L,m⟩:=Ju B g;refine dputD m (key_ok B g k M L (JC hu)) (by rw [<-vY L];exact hz) fun h' O sm=>⟨σ,_,d_write B (by rw [g.here];exact True.intro) sm ?_ (dExt_ok ?_ lo (put_rel L M rv) O),q3⟩
 ·obtain⟨o,_,_,e,_⟩:=O;exact⟨o,e⟩
 ·have:=put_len kvs d y v;omega
theorem pe_get2D (Y:X.w=w)(hu:X.A.units+64<cLine)(Z:PE X o td)(he:PE X e ty)(hf:PE X f tx)(m:M2 X o "get" apos e f cpos):PE X (.Call (.Attribute o "get" apos) [e,f] [] cpos) (tGet2D w td ty tx):=by
 subst Y;intro pins s σ H Q I h;refine wpAny_Call_method m.base m.few m.line PySem.F.plainAttrs_dict PySem.F.slot_dict_get PySem.F.type_dict_get (thn (Z pins s σ H _ I h) fun u s1 ⟨x,H1,M,rx,a,O,ex,g0,q1⟩=> ?_);subst ex;obtain rfl:u=Value.ref a:=rx;obtain⟨_,_,xs0,r0,R⟩:=Ju M g0;refine⟨R.ty,?_,?_⟩
 ·intro b z;cases z;obtain⟨ob,_,_,h1,h2,_⟩:=R;exact⟨ob,h1,h2.2.1⟩
 rw [m.trees];refine Calls.callWith_builtin rfl (Calls.evalArgs_plain (Calls.spliced_cons (thn (he pins s1 σ H1 _ M q1) fun iv s2 ⟨y,H2,I2,ry,q2⟩=>
  Calls.spliced_cons (thn (hf pins s2 σ H2 _ I2 q2) fun fv s3 ⟨z,H3,B,rz,kvs,d,g,k,q3⟩=>Calls.spliced_nil ?_))))
 obtain⟨_,lo,xs,r,mm⟩:=Ju B g;refine dgetD2 lo mm (key_ok B g k ry r (JC hu)) ⟨_,H3,B.tok _,?_,q3⟩;have:=val_rel (d:=d) r;cases U:valD kvs d with
 |none=>
  rw [U] at this;rw [RelO.Qi this];exact rz
 |some v=>
  rw [U] at this;obtain⟨w',hw,L⟩:=RelO.some_of this;rw [hw];exact L
theorem pe_newD (B:X.w=w):PE X (.Dict [] [] pos) (tNewD w):=fun pins s σ H Q I h=>by
 subst B;refine wpAny_Dict_empty ⟨.ref s.heap.objs.size,_,I.laid (a:=s.heap.objs.size) (o:=dExt X.w s.heap.objs.size []) (t':=s.toks) (fun _ _ q=>u8 _ q) (Nat.le_refl _) ?_,rfl,h _ (I.hok.fresh (Nat.le_refl _))⟩;exact dExt_ok (uG _) (beq_eq_false_iff_ne.mpr (vZ (uA I.big))) .nil ⟨_,#[],0,ug _ rfl,⟨rfl,rfl,rfl⟩,rfl,rfl⟩
end
def kwK (f:Addr)(rev:Bool):List (Str×Value):=if rev then [(Str.ofString "key",.ref f),(Str.ofString "reverse",.bool true)] else [(Str.ofString "key",.ref f)]
theorem args_sortK (a:Value)(f:Addr)(rev:Bool):argsOk "list.sort" ⟨[a],kwK f rev⟩:=by cases rev<;>(unfold argsOk;kernel_rfl)
theorem args_sortedK (a:Value)(f:Addr)(rev:Bool):argsOk "sorted" ⟨[a],kwK f rev⟩:=by cases rev<;>(unfold argsOk;kernel_rfl)
def JT (a:Addr)(ks:Value)(items:Array Value)(before:Nat)(rev:Bool)(keys:Array Value):Sem Fin:=do
 if rev then rule "list.sort.reverse"
 let kind<-if items.size<2 then pure general' else keyKind' keys
 let((),s)<-(if items.size<2 then pure () else sortRuns').run (SortSt.mk' kind (if rev then(keys.zip items).reverse else keys.zip items) #[] 7 none)
 Builtin.List.listUpdate ks fun _=> #[]
 letGo ((arrOf s).map (·.1)).toList (failedOf s).toList
 let touched:=(<-seqEpoch a) !=before
 Builtin.List.listUpdate (.ref a) fun _=>if rev then((arrOf s).map (·.2)).reverse else(arrOf s).map (·.2)
 if let some e:=failedOf s then rule "list.sort.comparison-raised";throw e
 if touched then rule "list.sort.modified";raiseError "ValueError" "list modified during sort"
 ret .none
theorem sort_is (a f:Addr)(rev:Bool):Builtin.«list.sort» ⟨[.ref a],kwK f rev⟩=(do
  let items<-Builtin.List.listItems (.ref a)
  Builtin.List.listUpdate (.ref a) fun _=> #[]
  let before<-seqEpoch a
  let held<-newTuple items.toList
  let ks<-newList []
  holding [held,ks] do
   rule "list.sort.key"
   for x in items do
    match<-(call (.ref f) [x]).attempt with
    | .ok k=>Builtin.List.listUpdate ks (·.push k)
    | .error e=>
     rule "list.sort.key-raised"
     let made<-Builtin.List.listItems ks
     Builtin.List.listUpdate ks fun _=> #[]
     letGo made.toList.reverse [e]
     Builtin.List.listUpdate (.ref a) fun _=>items;throw e
   let keys<-Builtin.List.listItems ks
   JT a ks items before rev keys):=by
 cases rev
 ·rfl
 ·rfl
theorem perm_lift {α β:Type}{g:α->β}{l m:List β}(h:l.Perm m):∀B:List α,m=B.map g->∃zs:List α,zs.Perm B/\l=zs.map g:=by
 induction h with
 |nil=>
  intro B e;cases(show B= [] by simpa using e.symm)
  exact⟨[],.nil,rfl⟩
 |cons x h M=>
  intro B e;cases B with
  |nil=>cases e
  |cons z r=>
   rw [uo] at e;injection e with O e2
   obtain⟨zs,p,q⟩:=M r e2;exact⟨z::zs,.cons z p,by rw [uo,q,O]⟩
 |swap x y l=>
  intro B e
  match B,e with
  |a::b::r,e=>
   simp only [uo,List.cons.injEq] at e;exact⟨b::a::r,.swap a b r,by simp only [uo,e.1,e.2.1,e.2.2]⟩
 |trans h1 h2 I L=>
  intro B e;obtain⟨zs,p,q⟩:=L B e;obtain⟨ys,R,U⟩:=I zs q;exact⟨ys,R.trans p,U⟩
section
variable {P:Program}{w:World}{A:Around}{E:Value->Shared->Prop}{s:Shared}
theorem back_ok {a ks:Addr}{B I:Array Value}{rk:Keyed->Nat}{kd:SortKind}{L m:Nat}{rev:Bool}{Q:Fin->Shared->Prop}(ha:s.heap.get? a=some (seqObj "list" #[] L))(hk:s.heap.get? ks=some (seqObj "list" I m))(ne:a≠ks)(hl:I.size=B.size)(aa:B.size<64)
  (Z:2<=B.size->∀(E:Value->Shared->Prop) (Q:SortKind->Shared->Prop),Q kd s->wpAny (model P w) A (keyKind' I) Q E s) (hc:ByRk P w A s kd (I.zip B) rk)
  (q:∀(ys:Array Keyed),ys.Perm (I.zip B)->Asc rk ys B.size->Q (.done (.ret .none)) {s with heap:=(s.heap.update ks (Obj.mapSeq fun _=> #[])).update a (Obj.mapSeq fun _=>if rev then(ys.map (·.2)).reverse else ys.map (·.2))}):
  wpAny (model P w) A (JT a (.ref ks) B L rev I) Q E s:=by
 have hz:(I.zip B).size=B.size:=by simp [hl]
 have hs:=vi;have yR:(if rev=true then(I.zip B).reverse else I.zip B).Perm (I.zip B):=by
  cases rev
  ·exact Array.Perm.refl _
  ·exact Array.perm_iff_toList_perm.mpr (by rw [if_pos rfl,Array.toList_reverse];exact List.reverse_perm _)
 have U:∀st:SortSt,(arrOf st).Perm (I.zip B)->failedOf st=none->Asc rk (arrOf st) B.size->
   wpAny (model P w) A (do
    Builtin.List.listUpdate (.ref ks) fun _=> #[]
    letGo ((arrOf st).map (·.1)).toList (failedOf st).toList
    let touched:=(<-seqEpoch a) !=L
    Builtin.List.listUpdate (.ref a) fun _=>if rev then((arrOf st).map (·.2)).reverse else(arrOf st).map (·.2)
    if let some e:=failedOf st then rule "list.sort.comparison-raised";throw e
    if touched then rule "list.sort.modified";raiseError "ValueError" "list modified during sort"
    ret .none) Q E s:=by
  intro st O p2 R;refine wpAny_bind (listUpdate_at hk rfl (wpAny_bind (wpAny_letGo ?_)) (hsz:=by omega) (hsz2:=by simp))
  have Y:(s.heap.update ks (Obj.mapSeq fun _=> #[])).get? a=some (seqObj "list" #[] L):=by rw [uX _ _ (vZ ne)];exact ha
  have hsz:((arrOf st).map (·.2)).size=B.size:=by rw [Array.size_map,O.size_eq,hz]
  refine wpAny_bind (seqEpoch_at (s:={s with heap:=s.heap.update ks (Obj.mapSeq fun _=> #[])}) Y rfl (wpAny_bind (listUpdate_at (s:={s with heap:=s.heap.update ks (Obj.mapSeq fun _=> #[])}) Y rfl ?_ (hsz2:=by
   split
   ·rw [Array.size_reverse];omega
   ·omega))))
  rw [p2];simp only [bne_self_eq_false,uM,U0];exact u0 (q _ O R)
 unfold JT;have M:wpAny (model P w) A (do
   let kind<-if B.size<2 then pure general' else keyKind' I
   let((),st)<-(if B.size<2 then pure () else sortRuns').run (SortSt.mk' kind (if rev then(I.zip B).reverse else I.zip B) #[] 7 none)
   Builtin.List.listUpdate (.ref ks) fun _=> #[]
   letGo ((arrOf st).map (·.1)).toList (failedOf st).toList
   let touched:=(<-seqEpoch a) !=L
   Builtin.List.listUpdate (.ref a) fun _=>if rev then((arrOf st).map (·.2)).reverse else(arrOf st).map (·.2)
   if let some e:=failedOf st then rule "list.sort.comparison-raised";throw e
   if touched then rule "list.sort.modified";raiseError "ValueError" "list modified during sort"
   ret .none) Q E s:=by
  by_cases few:B.size<2
  ·rw [if_pos few,if_pos few];refine wpAny_bind (u0 ?_);dsimp only;rw [StateT.run_pure];refine wpAny_bind (u0 ?_);refine U (SortSt.mk' general' (if rev then(I.zip B).reverse else I.zip B) #[] 7 none) yR rfl fun i j ij jn=> ?_
   rw [show i=j by omega]
   exact Nat.le_refl _
  ·rw [if_neg few,if_neg few];refine wpAny_bind (Z (by omega) _ _ ?_)
   refine wpAny_bind (vx (rk_all (st:=SortSt.mk' kd (if rev then(I.zip B).reverse else I.zip B) #[] 7 none) (Q:=fun _ u=>(arrOf u).Perm (I.zip B)/\failedOf u=none/\Asc rk (arrOf u) B.size) hc ⟨yR,rfl,rfl,rfl⟩ (by omega) (by omega) fun u O p2 R=>⟨O,p2,by rw [hz] at R;exact R⟩) ?_ fun _ _ e=>e)
   rintro⟨⟨⟩,st⟩ u ⟨rfl,O,p2,R⟩;exact U st O p2 R
 cases rev
 ·exact M
 ·exact wpAny_bind (vm M)
end
section
variable {X:Cx}{pins:List (Addr×Obj)}{σ:St}{H:Hp}{s:Shared}{A:Around}{k:Nat}{f:Addr}{fd:FuncData}{ps:List Str}{sp:Sp}{E:Value->Shared->Prop}
theorem run_fnA {Q:VK}{us:List Value}{vs:List V}(F:FnOk X.prog X.w X.K X.mg X.base CX0 k f fd ps sp)(M:Room k A)(fr:A.frames=X.A.frames)(O:yS X.K fd ps [])(I:Inv X pins σ H s)(r:Vals vs us)(h:sp vs H Q E0):
  wpAny (model X.prog X.w) A (call (.ref f) us) (EP X pins σ Q) E s:=by
 have R:(us++ []).length=ps.length:=by rw [uU,<-r.length];exact F.len _ _ _ _ h
 have L:=O s us I.kIn R;rw [uU] at L;have B:=I.env0;refine wpAny_call (vX (F.run A X.stack s H ⟨us,[]⟩ us vs Q E0 M ⟨fr.trans B.frames,B.mod,B.bs,B.bsz,B.funs,B.frf,B.hok,B.bare⟩ L r h (.inl I.tk)) fun r s' hq=> ?_);cases r with
 |error e=>exact hq.elim
 |ok U=>
  cases U with
  |ret u=>exact I.after hq
  |next=>exact False.elim hq
  |brk=>exact False.elim hq
  |cont=>exact False.elim hq
theorem fp_more {b c:Addr}{o:Obj}(h:FpOk X pins H b)(ne:c≠b):FpOk X (pins++ [(c,o)]) H b:=⟨h.1,h.2.1,h.2.2.1,h.2.2.2.1,h.2.2.2.2.1,fun p B=>by
 rcases List.mem_append.mp B with B|B
 ·exact h.2.2.2.2.2 p (vR _ B)
 ·rcases List.mem_append.mp B with B|B
  ·exact h.2.2.2.2.2 p (ur _ B)
  ·cases(show p=(c,o) by simpa using B)
   exact ne⟩
theorem fp_at {b:Addr}{H':Hp}(h:FpOk X pins H b)(e:H' b=none):FpOk X pins H' b:=⟨e,h.2⟩
theorem pin_more {b:Addr}{o:Obj}(I:Inv X pins σ H s)(h:FpOk X pins H b)(e:s.heap.get? b=some o)(n:∀v,o.data≠ .cell v):Inv X (pins++ [(b,o)]) σ H s:=I.pins_of fun p B=>by
 rcases List.mem_append.mp B with B|B
 ·exact I.pin p (ur _ B)
 ·cases(show p=(b,o) by simpa using B)
  exact⟨e,h.1,h.2.1,h.2.2.1,n⟩
theorem pin_less {pl:List (Addr×Obj)}(I:Inv X (pins++pl) σ H s):Inv X pins σ H s:=I.pins_of fun p B=>I.pin p (ur _ (vR _ B))
theorem pin_last {b:Addr}{o:Obj}{pl:List (Addr×Obj)}(I:Inv X pl σ H s)(m:(b,o)∈pl):s.heap.get? b=some o/\H b=none:=⟨(I.pin (b,o) (ur _ m)).1,(I.pin (b,o) (ur _ m)).2.1⟩
theorem jq {b:Addr}{g:Array Value->Array Value}(I:Inv X pins σ H s)(h:FpOk X pins H b):Inv X pins σ H {s with heap:=s.heap.update b (Obj.mapSeq g)}:=
 I.turned (t':=s.toks) (fun c o B e=>(uX _ _ (vZ B)).trans e) h.1 h.2.1 h.2.2.2.1 h.2.2.2.2.1 h.2.2.2.2.2
theorem sort_ok {α:Type}{l:Addr}{rev:Bool}{xs:List (α×V)}{us:List Value}{R:Hp->α->V->Prop}{r:α->Nat}{n0:Nat}{QQ:Fin->Shared->Prop}
  (F:FnOk X.prog X.w X.K X.mg X.base CX0 k f fd ps sp) (hr:Room k A) (fr:A.frames=X.A.frames) (hb:yS X.K fd ps []) (I:Inv X pins σ H s) (hl:s.heap.get? l=some (seqObj "list" us.toArray n0)) (fl:FpOk X pins H l) (rv:Vals (xs.map (·.2)) us) (ak:xs.length<64)
  (al:∀x∈xs,∀H',Same H H'->∀Q:VK,(∀u M,Same H' M->R M x.1 u->Q u M)->sp [x.2] H' Q E0) (mono:∀H1 H2 x u,Same H1 H2->R H1 x u->R H2 x u)
  (af:∀s' H' kv L,Inv X pins σ H' s'->Same H H'->Vals kv L->Paired (fun(x:α×V) u=>R H' x.1 u) xs kv->∃kd rk,(2<=xs.length->∀(E:Value->Shared->Prop) (Q:SortKind->Shared->Prop),Q kd s'->wpAny (model X.prog X.w) A (keyKind' L.toArray) Q E s')/\
   ByRk X.prog X.w A s' kd (L.toArray.zip us.toArray) rk/\∀(i:Nat) (x:α×V) (a b:Value),xs[i]? =some x->L[i]? =some a->us[i]? =some b->rk (a,b)=r x.1)
  (q:∀s' H' (ys:List (α×V)) (out:List Value) m,Inv X pins σ H' s'->Same H H'->s'.heap.get? l=some (seqObj "list" out.toArray m)->FpOk X pins H' l->ys.Perm xs->(if rev=true then ys.Pairwise (fun x y=>r y.1<=r x.1) else ys.Pairwise (fun x y=>r x.1<=r y.1))->Vals (ys.map (·.2)) out->QQ (.done (.ret .none)) s'):
  wpAny (model X.prog X.w) A (Builtin.«list.sort» ⟨[.ref l],kwK f rev⟩) QQ E s:=by
 have hs:=vi;have lu:us.length=xs.length:=by rw [<-rv.length,ue]
 rw [sort_is];refine wpAny_bind (listItems_at hl rfl (wpAny_bind (listUpdate_at hl rfl ?_ (hsz:=by simp;omega) (hsz2:=by simp))))
 obtain⟨e1,ad⟩:∃e1,(s.heap.update l (Obj.mapSeq fun _=> #[])).get? l=some (seqObj "list" #[] e1):=⟨_,get?_update_seq hl (fun _=> #[])⟩;refine wpAny_bind (seqEpoch_at ad rfl (wpAny_bind (wpAny_newTuple (wpAny_bind (wpAny_newList (uP (wpAny_bind (vm ?_))))))));have I1:=jq (g:=fun _=> #[]) I fl;generalize ay:s.heap.update l (Obj.mapSeq fun _=> #[])=O at*;have I2:Inv X pins σ H {s with heap:=(O.push (seqObj "tuple" us.toArray 0)).push (seqObj "list" #[] 0)}:=I1.kept (t':=s.toks) fun b u e=>u8 _ (u8 _ e)
 have am:((O.push (seqObj "tuple" us.toArray 0)).push (seqObj "list" #[] 0)).get? (O.push (seqObj "tuple" us.toArray 0)).objs.size=some (seqObj "list" #[] 0):=ug _ rfl;have ao:((O.push (seqObj "tuple" us.toArray 0)).push (seqObj "list" #[] 0)).get? l=some (seqObj "list" #[] e1):=u8 _ (u8 _ ad);have U:l<O.objs.size:=uj ad;have ae:O.objs.size<=(O.push (seqObj "tuple" us.toArray 0)).objs.size:=by rw [size_push'];omega
 have Y:l≠(O.push (seqObj "tuple" us.toArray 0)).objs.size:=uA (Nat.lt_of_lt_of_le U ae);have fk:FpOk X pins H (O.push (seqObj "tuple" us.toArray 0)).objs.size:=I1.fpOk ae (I1.hok.fresh ae);show wpAny _ _ _ _ _ {s with heap:=(O.push (seqObj "tuple" us.toArray 0)).push (seqObj "list" #[] 0)}
 generalize (O.push (seqObj "tuple" us.toArray 0)).objs.size=ks at*;generalize (O.push (seqObj "tuple" us.toArray 0)).push (seqObj "list" #[] 0)=g2 at*;have hsz:us.toArray.size=xs.length:=by simp [lu]
 refine wpAny_bind ?_;rw [<-Array.forIn_toList];refine vz _ (fun rest (_:PUnit) u=>∃(i:Nat) (H':Hp) (kv:List V) (L:List Value) (m:Nat),rest=us.drop i/\i<=xs.length/\Inv X pins σ H' u/\Same H H'/\u.heap.get? l=some (seqObj "list" #[] e1)/\u.heap.get? ks=some (seqObj "list" L.toArray m)/\H' l=none/\H' ks=none/\Vals kv L/\Paired (fun(x:α×V) u=>R H' x.1 u) (xs.take i) kv) _ ?_ ?_ _ _ ?_
 ·rintro x rest b u ⟨i,H',kv,L,m,B,hi,I3,sm,o1,o2,n1,n2,rk,pk⟩;have U:i<xs.length:=by
   rcases uS i xs.length with h|h
   ·exact h
   ·rw [List.drop_eq_nil_of_le (by omega)] at B
    cases B
  have ap:us[i]? =some x:=by
   have:=congrArg (fun l=>l[0]?) B
   simpa using this.symm
  have Z:rest=us.drop (i+1):=by
   have:=congrArg List.tail B
   simpa using this
  obtain⟨y,hy⟩:∃y,xs[i]? =some y:=⟨_,u7 U⟩;have ry:RelV y.2 x:=by
   obtain⟨b,f1,g⟩:=rv.get (i:=i) (x:=y.2) (by rw [um,hy];rfl)
   rw [ap] at f1;cases f1;exact g
  have I4:=pin_more (pin_more I3 (fp_at fl n1) o1 (fun v z=>by cases z)) (fp_more (fp_at fk n2) Y) o2 (fun v z=>by cases z)
  refine wpAny_bind (vL (thn (run_fnA (vs:= [y.2]) (Q:=fun v M=>Same H' M/\R M y.1 v) F hr fr hb I4 (.cons ry .nil) (al y (ui hy) H' sm _ fun u M s1 r1=>⟨s1,r1⟩)) fun kx u2 ⟨aq,H2,I5,au,ag,rr⟩=> ?_));have q1:=pin_last I5 (b:=l) (o:=seqObj "list" #[] e1) (by simp)
  have q2:=pin_last I5 (b:=ks) (o:=seqObj "list" L.toArray m) (by simp)
  have I6:Inv X pins σ H2 u2:=pin_less (pin_less I5);have lk:L.length=i:=by
   have h1:=rk.length;have h2:=vY pk;rw [uV] at h2;omega
  refine wpAny_bind (listUpdate_at q2.1 rfl (u0 ?_) (hsz:=by simp;omega) (hsz2:=by simp;omega))
  have ah:=get?_update_seq q2.1 (fun ys=>ys.push kx);rw [show L.toArray.push kx=(L++ [kx]).toArray by simp] at ah
  refine⟨i+1,H2,kv++ [aq],L++ [kx],_,Z,U,jq I6 (fp_at fk q2.2),sm.trans ag,?_,ah,q1.2,q2.2,rk.append (.cons au .nil),?_⟩
  ·exact(uX _ _ (vZ Y)).trans q1.1
  ·have e:xs.take (i+1)=xs.take i++ [y]:=by rw [uE,hy];rfl
   rw [e];exact Paired.snoc (Paired.mapP pk fun x u h=>mono _ _ _ _ ag h) rr
 ·rintro b u ⟨i,H',kv,L,m,B,hi,I3,sm,o1,o2,n1,n2,rk,pk⟩;have av:i=xs.length:=by
   have:=congrArg List.length B;simp at this;omega
  subst av;rw [vn] at pk;have lk:L.length=xs.length:=by rw [<-rk.length];exact(vY pk).symm
  obtain⟨kd,ai,c1,c2,c3⟩:=af u H' kv L I3 sm rk pk;refine wpAny_bind (listItems_at o2 rfl (back_ok o1 o2 Y (by simp [lk,lu]) (by simp [lu,ak]) (fun h2=>c1 (by rw [hsz] at h2;exact h2)) c2 fun ys p1 p2=> ?_))
  have aw:(L.toArray.zip us.toArray).toList=(xs.zip (L.zip us)).map (·.2):=by
   rw [List.map_snd_zip (by simp [lk,lu])]
   simp
  obtain⟨zs,pz,ez⟩:=perm_lift (g:=fun z:(α×V)×Value×Value=>z.2) (Array.perm_iff_toList_perm.mp p1) _ aw;have aa:∀z∈zs,ai z.2=r z.1.1/\RelV z.1.2 z.2.2:=fun z hz=>by
   obtain⟨j,hj⟩:=List.mem_iff_getElem?.mp (pz.mem_iff.mp hz);rw [vP] at hj;obtain⟨j1,j2⟩:=hj;rw [vP] at j2;refine⟨c3 j z.1 z.2.1 z.2.2 j1 j2.1 j2.2,?_⟩;obtain⟨b,f1,g⟩:=rv.get (i:=j) (x:=z.1.2) (by rw [um,j1];rfl)
   rw [j2.2] at f1;cases f1;exact g
  have ab:(zs.map (·.1)).Perm xs:=by
   have:=pz.map (·.1)
   rwa [List.map_fst_zip (by simp [lk,lu])] at this
  have ac:Vals ((zs.map (·.1)).map (·.2)) (zs.map (·.2.2)):=by
   have all:∀l:List ((α×V)×Value×Value),(∀z∈l,RelV z.1.2 z.2.2)->Vals ((l.map (·.1)).map (·.2)) (l.map (·.2.2)):=by
    intro l
    induction l with
    |nil=>exact fun _=> .nil
    |cons z l ih=>exact fun h=> .cons (h z ua) (ih fun y hy=>h y (u9 _ hy))
   exact all zs fun z hz=>(aa z hz).2
  have aj:(zs.map (·.1)).Pairwise (fun x y=>r x.1<=r y.1):=by
   rw [List.pairwise_map,List.pairwise_iff_getElem];intro i j hi hj ax;have lz:zs.length=us.toArray.size:=by rw [pz.length_eq];simp [lk,lu]
   have at_:∀(i:Nat) (hi:i<zs.length),rkAt ai ys i=r zs[i].1.1:=fun i hi=>by
    unfold rkAt;rw [<-U5,ez,um,u7 hi];exact(aa _ (uJ hi)).1
   have:=p2 i j (vB ax) (by omega)
   rw [at_ i hi,at_ j hj] at this;exact this
  have I4:=jq (g:=fun _=>if rev then(ys.map (·.2)).reverse else ys.map (·.2)) (jq (g:=fun _=> #[]) I3 (fp_at fk n2)) (fp_at fl n1)
  obtain⟨mm,ol⟩:∃mm,((u.heap.update ks (Obj.mapSeq fun _=> #[])).update l (Obj.mapSeq fun _=>if rev then(ys.map (·.2)).reverse else ys.map (·.2))).get? l=some (seqObj "list" (if rev then(ys.map (·.2)).reverse else ys.map (·.2)) mm):=⟨_,get?_update_seq ((uX _ _ (vZ Y)).trans o1) _⟩
  have ey:(ys.map (·.2)).toList=zs.map (·.2.2):=by rw [Array.toList_map,ez,v7];rfl
  cases rev with
  |false=>
   refine q _ H' (zs.map (·.1)) (zs.map (·.2.2)) mm I4 sm ?_ (fp_at fl n1) ab (by rw [if_neg (by simp)];exact aj) ac
   rw [<-ey];exact ol
  |true=>
   refine q _ H' (zs.map (·.1)).reverse (zs.map (·.2.2)).reverse mm I4 sm ?_ (fp_at fl n1) ((List.reverse_perm _).trans ab) (by rw [if_pos rfl,vM];exact aj) ?_
   ·rw [<-ey,<-Array.toList_reverse];exact ol
   ·rw [List.map_reverse];exact vals_rev ac
 ·exact⟨0,H,[],[],0,rfl,uG _,I2,Same.refl H,ao,am,fl.1,fk.1,.nil,.nil⟩
end
def EsAt (h:Heap)(d:Addr)(es:Array DictEntry)(ep:Nat):Prop:=∃o,h.get? d=some o/\o.ExactDict/\o.data= .dict es ep
section
variable {P:Program}{w:World}{A:Around}{E:Value->Shared->Prop}{s:Shared}{it d:Addr}{es:Array DictEntry}{i ep:Nat}
theorem EsAt.to {h h':Heap}(x:EsAt h d es ep)(k:∀o,h.get? d=some o->h'.get? d=some o):EsAt h' d es ep:=let⟨o,e,r⟩:=x;⟨o,k o e,r⟩
theorem EsAt.ty (x:EsAt s.heap d es ep):s.TypeIs (.ref d) "dict":=let⟨o,e,r,_⟩:=x;⟨o,e,r.1⟩
theorem iter_es {Q:Value->Shared->Prop}(lo:(d==sysModules)=false)(hm:EsAt s.heap d es ep)
  (q:Q (.ref s.heap.objs.size) {s with heap:=s.heap.push {cls:= .type "dict_keyiterator",data:= .fields #[.ref d,.int 0 0,.int es.size 0,.int ep 0]}}):wpAny (model P w) A (pyIter (.ref d)) Q E s:=by
 have B:=hm.ty;obtain⟨o,I,L,hd⟩:=hm;refine Ux B F.slot_dict_iter (uq F.slot_dict_iter B F.entry_dict_iter ?_ (F.args_dict_iter_1 _));unfold Builtin.«dict.__iter__» Builtin.Dict.dictSlotNone;refine wpAny_bind (wpAny_bind (wpAny_notOrdered_dict B ?_));show wpAny _ _ (pure (Value.ref d)) _ _ s;refine u0 ?_;show wpAny _ _ (Builtin.Dict.showsAll d>>=_) _ _ s;unfold Builtin.Dict.showsAll;rw [if_neg (by simp [lo])]
 refine wpAny_bind (u0 (wpAny_bind (Uw I hd (wpAny_bind (vE I hd (wpAny_bind (uD (u0 ⟨_,rfl,"dict_keyiterator",_,⟨_,ug _ rfl,rfl⟩,F.slot_dict_keyiterator_next.lookup,?_⟩))))))))
 simpa [rawInt] using q
theorem next_es {Q:Option Value->Shared->Prop}(R:A.handled=none)(B:s.heap.IsKeyIter it d i es.size ep)(hm:EsAt s.heap d es ep)
  (q1:∀e h',es[i]? =some e->h'.IsKeyIter it d (i+1) es.size ep->Heap.SameBut it s.heap h'->Q (some e.key) {s with heap:=h'}) (U:es[i]? =none->∀h',Heap.ExtBut it s.heap h'->Q none {s with heap:=h'}):
  wpAny (model P w) A (pyNext (.ref it)) Q E s:=by
 obtain⟨o,O,Y,hd⟩:=id B;obtain⟨od,L,Z,M⟩:=hm;unfold pyNext;refine wpAny_bind (vL (uw (name:=Str.ofString "__next__") B.typeIs F.slot_dict_keyiterator_next (uq F.slot_dict_keyiterator_next B.typeIs F.entry_dict_keyiterator_next (wpAny_bind (u0 (wpAny_bind (wpAny_bind ?_)))) (F.args_dict_keyiterator_next_1 _))))
 first|refine wpAny_bind (U1 B.typeIs (u0 ?_))|refine wpAny_bind (Ul B.typeIs (u0 ?_))
 refine wpAny_bind (U2 O hd ?_);simp only [show Builtin.Dict_items.ownsTuple "dict_keyiterator"=false by decide,uM,U0]
 show wpAny _ _ (if(Value.ref d==Value.none)=true then _ else _) _ _ s
 rw [if_neg (show¬(Value.ref d==Value.none)=true by simp)]
 refine wpAny_bind (u0 (wpAny_bind (Uw L M ?_)));rw [if_neg (by simp)]
 refine wpAny_bind (u0 (wpAny_bind (vE L M ?_)));rw [if_neg (by simp)]
 refine u0 ?_;simp only [show¬((i:Int)<0) by omega,U0,vC]
 cases e:es[i]? with
 |some x=>
  refine wpAny_bind ?_
  first|refine wpAny_bind (U1 B.typeIs (u0 ?_))|refine wpAny_bind (Ul B.typeIs (u0 ?_))
  refine wpAny_bind (wpAny_isOneOf_keyiter B.typeIs ?_);show wpAny _ _ (setField (.ref it) 1 (rawInt ((i:Int)+1))>>=_) _ _ s;refine wpAny_bind (vO O hd (by simp) ?_)
  have I:(s.heap.update it (Obj.mapFields (·.setIfInBounds 1 (rawInt ((i:Int)+1))))).IsKeyIter it d (i+1) es.size ep:=
   ⟨_,vf _ O (U6 (vj hd _)),(Obj.cls_mapFields ..).trans Y,by rw [vj hd];simp [rawInt]⟩
  refine wpAny_bind (uP (wpAny_bind (wpAny_isOneOf_keyiter (s:={s with heap:=s.heap.update it (Obj.mapFields (·.setIfInBounds 1 (rawInt ((i:Int)+1))))}) I.typeIs ?_)))
  show wpAny _ _ (pure x.key) _ _ _;exact u0 (u0 ⟨_,rfl,u0 (q1 x _ e I (ve ..))⟩)
 |none=>
  refine wpAny_bind ?_
  first|refine wpAny_bind (U1 B.typeIs (u0 ?_))|refine wpAny_bind (Ul B.typeIs (u0 ?_))
  show wpAny _ _ (setField (.ref it) 0 .none>>=_) _ _ s;refine wpAny_bind (vO O hd (by simp) ?_)
  show wpAny _ _ (newExc (.type "StopIteration") []>>=_) _ _ _;refine wpAny_bind ?_;simp only [newExc,newTuple];refine wpAny_bind (uD ?_ (by size_fits))
  refine wpAny_bind (m:=firstArgMember _ _) (Uu (a:=Value.none) (by first|rfl|(simp only [firstArgMember];rfl)) ?_)
  refine uD ?_ (by size_fits)
  simp only [raiseNew];refine wpAny_bind (wpAny_handled ?_);rw [show A.in1.handled=none from R]
  refine wpAny_bind (u0 (wpAny_throw ?_));refine wpAny_bind (wpAny_isInstance (T:="StopIteration") (b:=true) ⟨_,ug _ rfl,rfl⟩ isSubtype_stop ?_);exact u0 (U e _ (((ve ..).extBut.push _).push _))
theorem walk_es (R:A.handled=none)(I d:Addr)(ne:d≠I)(es:Array DictEntry)(ep:Nat):
  Walks P w A I [I,d] [I] es.size (fun i v=>∃e,es[i]? =some e/\v=e.key) (fun i h=>h.IsKeyIter I d i es.size ep/\EsAt h d es ep) where
 sub:=fun b B=>by simp at B;simp [B]
 frame:=fun _ _ _ st hk=>⟨st.1.at fun o e=>hk I (by simp) o e,st.2.to fun o e=>hk d (by simp) o e⟩
 item:=fun i s Q E hi st L=>next_es R st.1 st.2 (fun e h' O M U=>L e.key h' s.toks ⟨e,O,rfl⟩ ⟨M,st.2.to fun o x=>U.extBut d o ne x⟩ fun b o B x=>U.extBut b o (fun z=>B (by simp [z])) x) fun e=>by
  rw [Array.getElem?_eq_getElem hi] at e;cases e
 done:=fun s Q E st L=>next_es R st.1 st.2 (fun e h' O _ _=>by simp at O) fun _ h' Y=>L h' s.toks fun b o B x=>Y b o (fun z=>B (by simp [z])) x
 self:=fun _ _ _ _ st L=>wpAny_pyIter_keyiter st.1 L
theorem src_es (lo:(d==sysModules)=false):PySem.W.KdlSrc P w "dict" d d es.size (fun i v=>∃e,es[i]? =some e/\v=e.key) (fun h=>EsAt h d es ep) where
 type:=fun _ hm=>hm.ty
 there:=fun _ ⟨_,e,_⟩=>⟨uj e,uj e⟩
 keep:=fun _ _ hm hk=>hm.to fun o e=>hk d (.inl rfl) o e
 notList:=by decide
 notTuple:=by decide
 hint:=fun _ _ _ _ hm hq=>PySem.W.kdl_hint_dict hm.ty hq
 iter:=fun _ _ B hm=>⟨_,_,fun _ _ hq=>iter_es lo hm hq,walk_es B _ d (uA (let⟨_,e,_⟩:=hm;uj e)) es ep,⟨⟨_,ug _ rfl,rfl,rfl⟩,hm.to fun _ e=>u8 _ e⟩⟩
end
end L2
namespace AwQ
open PySem PySem.SeqAt
open PySem.AutoSeq1 (wpAny_loadPart')
open PySem.MeetsSeq PySem.MeetsSeq2 PySem.MeetsSeq3
theorem list_ltLoop (l b:Addr)(xs ys:Array Value)(n n2:Nat)(dd M:Option Addr)(sl O:Array (Option Value))(e lt:Nat->Bool)(k:Nat):∀i:Nat,min xs.size ys.size-i=k->i<=min xs.size ys.size->
  Meets (Builtin.«list.__eq__.loop» ⟨[.ref l,.ref b,rawInt (i:Int),rawInt 0],[]⟩)
   (fun A R s=>s.heap.get? l=some {cls:= .type "list",dict:=dd,data:= .seq xs n,slots:=sl}/\s.heap.get? b=some {cls:= .type "list",dict:=M,data:= .seq ys n2,slots:=O}/\
    (∀j (h1:j<xs.size) (h2:j<ys.size),EqAt A.in1 s xs[j] ys[j] (e j))/\(∀j (h1:j<xs.size) (h2:j<ys.size),(∀i,i<j->e i=true)->e j=false->LtAt A.in1 s xs[j] ys[j] (lt j))/\(∀j,j<i->e j=true)/\
    R (.ok (.ret (.bool (lexG e lt (decide (xs.size<ys.size)) i k)))) s):=by
 induction k with
 |zero=>
  intro i hk hi prog w A R s h;obtain⟨hp,g,d,tk,os⟩:=s;obtain⟨B,I,U,Y,ha,h⟩:=h
  wp_walk using uC B,uC I
  have L:R (.ok (.ret (.bool (decide (xs.size<ys.size))))) ⟨hp,g,d,tk,os⟩:=h;rcases uS i xs.size with z|z
  ·have y:ys.size<=i:=by omega
   rw [show xs[((i:Nat):Int).toNat]? =some xs[i] by simp [z],show ys[((i:Nat):Int).toNat]? =none by simp;omega]
   wp_walk using uC B,uC I
   exact L
  ·rw [show xs[((i:Nat):Int).toNat]? =none by simp;omega]
   wp_walk using uC B,uC I
   exact L
 |succ k ih=>
  intro i hk hi prog w A R s h;obtain⟨hp,g,d,tk,os⟩:=s;obtain⟨B,I,U,Y,ha,h⟩:=h
  wp_walk using uC B,uC I
  have Z:i<xs.size:=by omega
  have z2:i<ys.size:=by omega
  have i1:xs[((i:Nat):Int).toNat]? =some xs[i]:=by simp [Z]
  have i2:ys[((i:Nat):Int).toNat]? =some ys[i]:=by simp [z2]
  rw [i1,i2];refine wpAny_bind (U i Z z2 prog w _ _ ?_);cases c:e i with
  |true=>
   have e1:lexG e lt (decide (xs.size<ys.size)) i (k+1)=lexG e lt (decide (xs.size<ys.size)) (i+1) k:=by rw [lexG,if_pos c]
   rw [e1] at h
   wp_walk
   rw [show((i:Int)+1)=((i+1:Nat):Int) by push_cast;rfl]
   exact⟨plainId_quiet plain_eq_loop _,Ur entry_eq_loop (by
    rw [Around.under_plainId plain_eq_loop _];exact ih (i+1) (by omega) (by omega) prog w A R _ ⟨B,I,U,Y,fun j hj=>by
     by_cases y:j=i
     ·rw [y];exact c
     ·exact ha j (by omega),h⟩)⟩
  |false=>
   have e1:lexG e lt (decide (xs.size<ys.size)) i (k+1)=lt i:=by rw [lexG,if_neg (by rw [c];decide)]
   rw [e1] at h;have aa:=Y i Z z2 ha c prog w
   wp_walk using uC B,uC I
   rw [i1,i2]
   wp_walk using aa
   exact h
theorem list_ltG (l b:Addr)(xs ys:Array Value)(n L:Nat)(M B:Option Addr)(sl I:Array (Option Value))(e lt:Nat->Bool):
  Meets (Builtin.«list.__lt__» ⟨[.ref l,.ref b],[]⟩)
   (fun A R s=>s.heap.get? l=some {cls:= .type "list",dict:=M,data:= .seq xs n,slots:=sl}/\s.heap.get? b=some {cls:= .type "list",dict:=B,data:= .seq ys L,slots:=I}/\
    (∀j (h1:j<xs.size) (h2:j<ys.size),EqAt A.in1 s xs[j] ys[j] (e j))/\(∀j (h1:j<xs.size) (h2:j<ys.size),(∀i,i<j->e i=true)->e j=false->LtAt A.in1 s xs[j] ys[j] (lt j))/\
    R (.ok (.ret (.bool (lexG e lt (decide (xs.size<ys.size)) 0 (min xs.size ys.size))))) s):=by
 intro prog w A R s h;obtain⟨hp,g,d,tk,os⟩:=s;obtain⟨O,U,Y,Z,h⟩:=h;have f3:=AutoSeq1.sub_list_list
 wp_walk using uC O,uC U
 exact⟨plainId_quiet plain_eq_loop _,Ur entry_eq_loop (by
  rw [Around.under_plainId plain_eq_loop _];exact list_ltLoop l b xs ys n L M B sl I e lt _ 0 rfl (uG _) prog w A R _ ⟨O,U,Y,Z,fun j hj=>absurd hj (vT _),by simpa using h⟩)⟩
end AwQ
namespace L2
open PySem PyProof.Rows
section
variable {P:Program}{w:World}{A:Around}{E:Value->Shared->Prop}{s:Shared}
theorem JJ {α β:Type}{f:α->β}{m:α->Sem β}:∀{vs:List α}{Q:List β->Shared->Prop},(∀v∈vs,∀Q:β->Shared->Prop,Q (f v) s->wpAny (model P w) A (m v) Q E s)->Q (vs.map f) s->wpAny (model P w) A (vs.mapM m) Q E s
 | [],Q,_,q=>by rw [List.mapM_nil];exact u0 q
 |v::vs,Q,h,q=>by
  rw [List.mapM_cons];exact wpAny_bind (h v ua _ (wpAny_bind (JJ (fun u hu=>h u (u9 _ hu)) (u0 q))))
theorem one_type {vs:List Value}{T:String}{Q:Option Value->Shared->Prop}(h:∀v∈vs,s.TypeIs v T)(ne:vs≠ [])(q:Q (some (.type T)) s):wpAny (model P w) A (oneTypeOnly' vs.toArray) Q E s:=by
 rw [oneTypeOnly'_eq,List.mapM_toArray];refine wpAny_bind (wpAny_bind (JJ (f:=fun _=>Value.type T) (fun v I Q q=>Uk (h v I) q) (u0 ?_)));cases vs with
 |nil=>exact absurd rfl ne
 |cons v r=>
  have L:(List.map (fun _=>Value.type T) (v::r)).toArray[0]? =some (Value.type T):=by simp
  rw [L];have B:((List.map (fun _=>Value.type T) (v::r)).toArray.all fun x=>x==Value.type T)=true:=by
   simp only [List.all_toArray,U8,UA];intro _ _;simp
  simp only [B,if_true];exact u0 q
theorem first_is:firstOfTuple'=fun v=>(do
  if(<-typeOf v) != .type "tuple" then return none
  return (<-Builtin.List.listItems v)[0]?):=rfl
theorem kind_lists {vs:List Value}{Q:SortKind->Shared->Prop}(h:∀v∈vs,s.TypeIs v "list")(ne:vs≠ [])(q:Q oneType' s):wpAny (model P w) A (keyKind' vs.toArray) Q E s:=by
 rw [keyKind'_eq,List.mapM_toArray];have B:=first_is;refine wpAny_bind (wpAny_bind (JJ (f:=fun _=>none) (fun v I Q q=> ?_) (u0 ?_)))
 ·rw [B];refine wpAny_bind (Uk (h v I) ?_);rw [if_pos (by decide)]
  exact u0 q
 ·cases vs with
  |nil=>exact absurd rfl ne
  |cons v r=>
   rw [if_neg (by simp),if_neg (by simp)]
   refine wpAny_bind (one_type h ne ?_);simp only [Option.isSome_some,if_true];exact u0 q
theorem kind_tups {vs:List Value}{Q:SortKind->Shared->Prop}(h:∀v∈vs,∃a its i t,v= .ref a/\IsTup s.heap a its/\its[0]? =some (.int i t))(ne:vs≠ [])(q:Q (tuples' true) s):wpAny (model P w) A (keyKind' vs.toArray) Q E s:=by
 rw [keyKind'_eq,List.mapM_toArray];have hf:=first_is;have hd:∃f:Value->Option Value,∀v∈vs,∃a its i t,v= .ref a/\IsTup s.heap a its/\its[0]? =some (.int i t)/\f v=some (.int i t):=by
  refine⟨fun v=>match v with
   | .ref a=>match s.heap.get? a with
    |some o=>match o.data with
     | .seq its _=>its[0]?
     |_=>none
    |none=>none
   |_=>none,fun v B=> ?_⟩
  obtain⟨a,its,i,t,rfl,R,e⟩:=h v B;obtain⟨o,U,Z,n,M⟩:=id R;exact⟨a,its,i,t,rfl,R,e,by simp only [U,M];exact e⟩
 obtain⟨f,I⟩:=hd;refine wpAny_bind (wpAny_bind (JJ (f:=f) (fun v B Q q=> ?_) (u0 ?_)))
 ·rw [hf];obtain⟨a,its,i,t,rfl,R,e,L⟩:=I v B;obtain⟨o,U,Z,n,M⟩:=id R;refine wpAny_bind (Uk (T:="tuple") ⟨o,U,Z⟩ ?_);rw [if_neg (by decide)]
  refine wpAny_bind (listItems_at U M ?_);rw [e];rw [L] at q;exact u0 q
 ·have O:((List.map f vs).toArray.all fun x=>x.isSome)=true:=by
   simp only [List.all_toArray,U8,UA];intro v B;obtain⟨a,its,i,t,rfl,_,_,L⟩:=I v B;simp only [Function.comp,L]
   rfl
  rw [if_pos O];have Y:∃us:List Value,(List.map f vs).toArray.filterMap id=us.toArray/\us≠ []/\∀u∈us,∃i t,u= .int i t:=by
   refine⟨vs.filterMap f,?_,?_,?_⟩
   ·simp
   ·cases vs with
    |nil=>exact absurd rfl ne
    |cons v r=>
     obtain⟨a,its,i,t,_,_,_,L⟩:=I v ua;rw [Uh,L];simp
   ·intro u hu;obtain⟨v,B,e⟩:=List.mem_filterMap.mp hu;obtain⟨a,its,i,t,_,_,_,L⟩:=I v B;rw [L] at e;cases e;exact⟨i,t,rfl⟩
  obtain⟨us,e1,L,e3⟩:=Y;rw [e1];refine wpAny_bind (vm (wpAny_bind (one_type (T:="int") (fun v B=> ?_) L ?_)))
  ·obtain⟨i,t,rfl⟩:=e3 v B;exact typeIs_int s i t
  ·exact u0 q
theorem one_lists {l b:Addr}{xs ys:Array Value}{e lt:Nat->Bool}{Q:Bool->Shared->Prop}(hl:s.heap.IsList l xs)(hb:s.heap.IsList b ys)(hu:A.units<cLine)
  (he:∀j (h1:j<xs.size) (h2:j<ys.size),SeqAt.EqAt A.in1 s xs[j] ys[j] (e j)) (ht:∀j (h1:j<xs.size) (h2:j<ys.size),(∀i,i<j->e i=true)->e j=false->AwQ.LtAt A.in1 s xs[j] ys[j] (lt j))
  (q:Q (AwQ.lexG e lt (decide (xs.size<ys.size)) 0 (min xs.size ys.size)) s):wpAny (model P w) A (oneLt' true (.ref l) (.ref b)) Q E s:=by
 obtain⟨⟨cls,dd,data,sl⟩,L,Y,n,hd⟩:=id hl;obtain⟨⟨Z,M,O,R⟩,U,B,n2,I⟩:=id hb;simp only at Y hd B I;subst Y hd B I;rw [oneLt'_eq];simp only [if_true];refine wpAny_bind (wpAny_cRoomFor_or (.inr hu) ?_);refine wpAny_bind (wpAny_callSpecialIfBound?_slot ⟨_,L,rfl⟩ F.slot_list_lt (call_meets F.slot_list_lt ⟨_,L,rfl⟩ F.entry_list_lt (F.args_list_lt_2 _ _) (AwQ.list_ltG l b xs ys n n2 dd M sl R e lt) ⟨L,U,he,ht,?_⟩));exact uK q
theorem keyLt_tups (b:Bool)(x y:Value):keyLt' (tuples' b) x y=(do
  let xs<-Builtin.List.listItems x;let ys<-Builtin.List.listItems y
  for ((p,q),i) in(xs.toList.zip ys.toList).zipIdx do
   if !(<-eqBool p q) then return<-oneLt' (b&&i==0) p q
  return xs.size<ys.size):=rfl
theorem key_tups {l b:Addr}{xs ys:Array Value}{e lt:Nat->Bool}{Q:Bool->Shared->Prop}(hl:IsTup s.heap l xs)(hb:IsTup s.heap b ys)
  (he:∀j (h1:j<xs.size) (h2:j<ys.size),SeqAt.EqAt A s xs[j] ys[j] (e j)) (ht:∀j (h1:j<xs.size) (h2:j<ys.size),(∀i,i<j->e i=true)->e j=false->AwQ.LtAt A s xs[j] ys[j] (lt j))
  (h0:∀(h1:0<xs.size) (h2:0<ys.size),∃i t k u,xs[0]= .int i t/\ys[0]= .int k u/\lt 0=decide (i<k))
  (q:Q (AwQ.lexG e lt (decide (xs.size<ys.size)) 0 (min xs.size ys.size)) s):wpAny (model P w) A (keyLt' (tuples' true) (.ref l) (.ref b)) Q E s:=by
 obtain⟨o,ho,hc,n,hd⟩:=id hl;obtain⟨o2,O,aa,n2,R⟩:=id hb;rw [keyLt_tups];refine wpAny_bind (listItems_at ho hd (wpAny_bind (listItems_at O R ?_)));have U:((xs.toList.zip ys.toList).zipIdx).length=min xs.size ys.size:=by simp
 refine wpAny_bind (vz _ (fun rest (r:Option Bool×Unit) u=>r.1=none/\u=s/\∃i,i<=min xs.size ys.size/\(∀k,k<i->e k=true)/\rest=((xs.toList.zip ys.toList).zipIdx).drop i/\Q (AwQ.lexG e lt (decide (xs.size<ys.size)) i (min xs.size ys.size-i)) s) _ ?_ ?_ _ _ ⟨rfl,rfl,0,uG _,fun _ z=>absurd z (vT _),rfl,by simpa using q⟩)
 ·rintro⟨⟨p,q'⟩,j⟩ rest ⟨Y,r2⟩ u ⟨Z,rfl,i,_,I,hz,B⟩;have M:i<((xs.toList.zip ys.toList).zipIdx).length:=by
   rcases uS i ((xs.toList.zip ys.toList).zipIdx).length with z|z
   ·exact z
   ·rw [List.drop_of_length_le z] at hz;cases hz
  have hm:i<min xs.size ys.size:=U▸M;have h1:i<xs.size:=by omega
  have h2:i<ys.size:=by omega
  rw [v9 M] at hz;injection hz with L hrest
  have hp:p=xs[i]:=by have:=congrArg (·.1.1) L;simpa using this
  have hq:q'=ys[i]:=by have:=congrArg (·.1.2) L;simpa using this
  have hj:j=i:=by have:=congrArg (·.2) L;simpa using this
  subst hp hq hj;obtain⟨k,hk⟩:∃k,min xs.size ys.size-j=k+1:=⟨min xs.size ys.size-j-1,by omega⟩
  rw [hk,AwQ.lexG] at B;refine wpAny_bind (he j h1 h2 P w _ _ ?_);cases c:e j with
  |true=>
   rw [c,if_pos rfl] at B;rw [if_neg (by simp)]
   refine u0 ⟨rfl,rfl,j+1,by omega,fun m ab=> ?_,hrest,by rw [show min xs.size ys.size-(j+1)=k by omega];exact B⟩
   by_cases y:m=j
   ·rw [y];exact c
   ·exact I m (by omega)
  |false=>
   rw [c,if_neg (by simp)] at B
   rw [if_pos (by simp)]
   refine wpAny_bind ?_;cases j with
   |zero=>
    obtain⟨i1,t1,k1,u1,e1,e2,e3⟩:=h0 h1 h2;rw [e1,e2];refine oneLt_int ?_;rw [e3] at B;exact u0 (u0 B)
   |succ j=>
    rw [oneLt'_eq];simp only [show(true&&(j+1==0))=false by simp,uM,U0]
    exact wpAny_bind (ht (j+1) h1 h2 I c P w _ _ (uK (u0 (u0 B))))
 ·rintro⟨Y,r2⟩ u ⟨Z,rfl,i,ac,_,hz,B⟩;cases(show Y=none from Z)
  have ad:min xs.size ys.size<=i:=by
   rcases uS i ((xs.toList.zip ys.toList).zipIdx).length with z|z
   ·rw [v9 z] at hz;cases hz
   ·exact U▸z
  rw [show min xs.size ys.size-i=0 by omega,AwQ.lexG] at B
  exact u0 B
end
def rkOf {α:Type}(lt:α->α->Bool)(l:List α)(x:α):Nat:=l.countP fun y=>lt y x
theorem countP_lt {α:Type}{p q:α->Bool}:∀{l:List α}{z:α},(∀y∈l,p y=true->q y=true)->z∈l->p z=false->q z=true->l.countP p<l.countP q
 |x::l,z,h,hz,h1,h2=>by
  have I:l.countP p<=l.countP q:=List.countP_mono_left fun y B=>h y (u9 _ B);rw [List.countP_cons,List.countP_cons];rcases List.mem_cons.mp hz with rfl|hz
  ·rw [h1,h2];simp;omega
  ·have:=countP_lt (fun y B=>h y (u9 _ B)) hz h1 h2;have hx:=h x ua;cases e:p x with
   |false=>cases q x<;>simp<;>omega
   |true=>rw [hx e];simp;omega
structure OrdOn {α:Type}(lt:α->α->Bool)(l:List α):Prop where
 irr:∀x∈l,lt x x=false
 tr:∀x∈l,∀y∈l,∀z∈l,lt x y=true->lt y z=true->lt x z=true
 ng:∀x∈l,∀y∈l,∀z∈l,lt x z=true->lt x y=true∨lt y z=true
theorem rk_dec {α:Type}{lt:α->α->Bool}{l:List α}(o:OrdOn lt l){x y:α}(hx:x∈l)(B:y∈l):decide (rkOf lt l x<rkOf lt l y)=lt x y:=by
 cases e:lt x y with
 |true=>
  refine uc (countP_lt (z:=x) (fun z hz h=>o.tr z hz x hx y B h e) hx (o.irr x hx) e)
 |false=>
  refine ub fun h=>absurd h (Nat.not_lt.mpr (List.countP_mono_left fun z hz h=> ?_));rcases o.ng z hz x hx y B h with h|h
  ·exact h
  ·rw [e] at h;cases h
theorem rk_le {α:Type}{lt:α->α->Bool}{l:List α}(o:OrdOn lt l){x y:α}(hx:x∈l)(B:y∈l)(h:rkOf lt l x<=rkOf lt l y):lt y x=false:=by
 rw [<-rk_dec o B hx];exact ub (Nat.not_lt.mpr h)
section
variable {X:Cx}{pins:List (Addr×Obj)}{σ:St}{H:Hp}{s:Shared}
theorem lex_parts (I:Inv X pins σ H s){xs ys:List D}{vs us:List V}{its its':List Value}{B:Around}{n:Nat}{r:Bool}(p1:puL xs=true/\dpL xs<=n)(p2:puL ys=true)(hl:IsL H xs vs)(aa:IsL H ys us)(rv:Vals vs its)(ab:Vals us its')(hu:B.units+n<cLine)(hr:ltL xs ys=some r):
  (∀j (h1:j<its.toArray.size) (h2:j<its'.toArray.size),SeqAt.EqAt B s its.toArray[j] its'.toArray[j] (eAt xs ys j))/\
  (∀j (h1:j<its.toArray.size) (h2:j<its'.toArray.size),(∀i,i<j->eAt xs ys i=true)->eAt xs ys j=false->AwQ.LtAt B s its.toArray[j] its'.toArray[j] (lAt xs ys j)):=by
 have l1:its.length=xs.length:=by rw [<-rv.length,hl.length]
 have l2:its'.length=ys.length:=by rw [<-ab.length,aa.length]
 have M:∀j (R:j<its.toArray.size) (U:j<its'.toArray.size),∃(L:j<xs.length) (O:j<ys.length) (Y Z:V),Is H xs[j] Y/\Is H ys[j] Z/\RelV Y its.toArray[j]/\RelV Z its'.toArray[j]:=fun j R U=>by
  have L:j<xs.length:=by rw [<-l1];simpa using R
  have O:j<ys.length:=by rw [<-l2];simpa using U
  obtain⟨Y,e1,i1⟩:=hl.get (i:=j) (d:=xs[j]) (by simp [L])
  obtain⟨Z,e2,i2⟩:=aa.get (i:=j) (d:=ys[j]) (by simp [O])
  obtain⟨b1,f1,g1⟩:=rv.get e1;obtain⟨b2,f2,g2⟩:=ab.get e2;rw [u7 (by rw [l1];exact L)] at f1
  rw [u7 (by rw [l2];exact O)] at f2
  cases f1;cases f2;exact⟨L,O,Y,Z,i1,i2,by simpa using g1,by simpa using g2⟩
 refine⟨fun j R U=> ?_,fun j R U ac hj=> ?_⟩
 ·obtain⟨L,O,Y,Z,i1,i2,g1,g2⟩:=M j R U;have d1:xs.getD j .non=xs[j]:=by simp [List.getD,L]
  have d2:ys.getD j .non=ys[j]:=by simp [List.getD,O]
  unfold eAt;rw [d1,d2];exact eqAt_D I n _ _ _ _ _ _ B ((yw xs).mp p1.2 _ (uJ L)) (QJ (j:=j) p1.1 (by simp [L])) (QJ (j:=j) p2 (by simp [O])) i1 i2 g1 g2 hu
 ·obtain⟨L,O,Y,Z,i1,i2,g1,g2⟩:=M j R U;have d1:xs.getD j .non=xs[j]:=by simp [List.getD,L]
  have d2:ys.getD j .non=ys[j]:=by simp [List.getD,O]
  have ad:=lt_at j hr L O ac hj;rw [d1,d2] at ad;exact ltAt_D I n _ _ _ _ _ _ B _ ((yw xs).mp p1.2 _ (uJ L)) (QJ (j:=j) p1.1 (by simp [L])) (QJ (j:=j) p2 (by simp [O])) i1 i2 g1 g2 hu ad
end
def yM (lst:Bool)(k:D->List D)(H:Hp)(d:D)(u:V):Prop:=if lst=true then∃l us,u= .ref l/\H l=some (.lst us)/\IsL H (k d) us else Is H (.tup (k d)) u
def ltK (k:D->List D)(x y:D):Bool:=(ltL (k x) (k y)).getD false
structure KeysOk (lst:Bool)(k:D->List D)(ds:List D):Prop where
 pu:∀x∈ds,puL (k x)=true/\dpL (k x)<=40
 hd:lst=false->∀x∈ds,∃n r,k x= .int n::r
 lt:∀x∈ds,∀y∈ds,∃b,ltL (k x) (k y)=some b
 od:OrdOn (ltK k) ds
theorem yM.same {lst:Bool}{k:D->List D}{H H':Hp}{d:D}{u:V}(s:Same H H')(h:yM lst k H d u):yM lst k H' d u:=by
 unfold yM at*;cases lst with
 |true=>
  rw [if_pos rfl] at*;obtain⟨l,us,e,h1,h2⟩:=h;exact⟨l,us,e,s _ _ h1,h2.mono s.tk⟩
 |false=>
  rw [if_neg (by simp)] at*
  exact h.mono s.tk
section
variable {X:Cx}{pins:List (Addr×Obj)}{σ:St}{H:Hp}{s:Shared}{A:Around}
theorem key_cmp {lst:Bool}{k:D->List D}{xs:List (D×V)}{us:List Value}{kv:List V}{Z:List Value}(I:Inv X pins σ H s)(hu:A.units+64<cLine)(ok:KeysOk lst k (xs.map (·.1)))(hx:∀x∈xs,KOk H x.1 x.2)(rv:Vals (xs.map (·.2)) us)(rk:Vals kv Z)(pk:Paired (fun(x:D×V) u=>yM lst k H x.1 u) xs kv):
  ∃kd rk,(2<=xs.length->∀(E:Value->Shared->Prop) (Q:SortKind->Shared->Prop),Q kd s->wpAny (model X.prog X.w) A (keyKind' Z.toArray) Q E s)/\ByRk X.prog X.w A s kd (Z.toArray.zip us.toArray) rk/\
   ∀(i:Nat) (x:D×V) (a b:Value),xs[i]? =some x->Z[i]? =some a->us[i]? =some b->rk (a,b)=rkOf (ltK k) (xs.map (·.1)) x.1:=by
 classical
 have ad:∀(i:Nat) (x:D×V) (b:Value),xs[i]? =some x->us[i]? =some b->hvD s.heap x.1 b:=fun i x b e1 e2=>by
  obtain⟨b',f1,g⟩:=rv.get (i:=i) (x:=x.2) (by rw [um,e1];rfl)
  rw [e2] at f1;cases f1;obtain⟨k1,k2,k3⟩:=hx x (ui e1);exact is_hv I 8 _ _ _ k3 k2 k1 g
 have lk:Z.length=xs.length:=by rw [<-rk.length];exact(vY pk).symm
 have lu:us.length=xs.length:=by rw [<-rv.length,ue]
 let rf:Keyed->Nat:=fun p=>if h:∃d,hvD s.heap d p.2 then rkOf (ltK k) (xs.map (·.1)) h.choose else 0
 have aa:∀(i:Nat) (x:D×V) (a b:Value),xs[i]? =some x->Z[i]? =some a->us[i]? =some b->rf (a,b)=rkOf (ltK k) (xs.map (·.1)) x.1:=fun i x a b e1 _ e3=>by
  have h:=ad i x b e1 e3;have ae:∃d,hvD s.heap d b:=⟨_,h⟩;show(if h:∃d,hvD s.heap d b then rkOf (ltK k) (xs.map (·.1)) h.choose else 0)=_
  rw [dif_pos ae,hv_det ae.choose_spec h]
 have mem:∀p∈(Z.toArray.zip us.toArray).toList,∃(i:Nat) (x:D×V) (u:V),xs[i]? =some x/\yM lst k H x.1 u/\RelV u p.1/\rf p=rkOf (ltK k) (xs.map (·.1)) x.1:=fun p hp=>by
  have af:p∈Z.zip us:=by simpa using hp
  obtain⟨i,hi⟩:=List.mem_iff_getElem?.mp af;rw [vP] at hi;have hl:i<xs.length:=by rw [<-lk];exact(List.getElem?_eq_some_iff.mp hi.1).1
  have e1:=u7 hl;obtain⟨u,e2,h2⟩:=rel_at pk e1;obtain⟨a,f1,g⟩:=rk.get e2;rw [hi.1] at f1;cases f1;exact⟨i,_,u,e1,h2,g,aa i _ p.1 p.2 e1 hi.1 hi.2⟩
 have L:∀{i:Nat}{x:D×V},xs[i]? =some x->x.1∈xs.map (·.1):=fun e=>List.mem_map.mpr ⟨_,ui e,rfl⟩;cases lst with
 |true=>
  refine⟨oneType',rf,fun h2 E Q q=>kind_lists (fun v hv=> ?_) (fun z=>by rw [z] at lk;simp at lk;omega) q,?_,aa⟩
  ·obtain⟨i,hi⟩:=List.mem_iff_getElem?.mp hv;have hl:i<us.length:=by rw [lu,<-lk];exact(List.getElem?_eq_some_iff.mp hi).1
   obtain⟨_,x,u,_,ka,ru,_⟩:=mem (v,us[i]) (by
    have:(v,us[i])∈Z.zip us:=List.mem_iff_getElem?.mpr ⟨i,List.getElem?_zip_eq_some.mpr ⟨hi,u7 hl⟩⟩
    simpa using this)
   obtain⟨l,ws,rfl,R,_⟩:=(show∃l us,u= .ref l/\H l=some (.lst us)/\IsL H (k x.1) us by simpa [yM] using ka)
   cases ru;obtain⟨its,_,pl,_⟩:=I.list (.of R);exact pl.isList.typeIs
  ·intro p hp q hq E Q h;obtain⟨i,x,u,ex,kx,rx,er⟩:=mem p hp;obtain⟨j,y,v,ey,ky,ry,es⟩:=mem q hq;rw [er,es,rk_dec ok.od (L ex) (L ey)] at h;obtain⟨l,ws,rfl,R,M⟩:=(show∃l us,u= .ref l/\H l=some (.lst us)/\IsL H (k x.1) us by simpa [yM] using kx)
   obtain⟨m,zs,rfl,ab,U⟩:=(show∃l us,v= .ref l/\H l=some (.lst us)/\IsL H (k y.1) us by simpa [yM] using ky)
   obtain⟨p1,p2⟩:=p;obtain⟨q1,q2⟩:=q;cases rx;cases ry;obtain⟨b,hb⟩:=ok.lt _ (L ex) _ (L ey);obtain⟨its,O,pl,_⟩:=I.list (.of R);obtain⟨its',Y,ac,_⟩:=I.list (.of ab);obtain⟨c1,c2⟩:=lex_parts (B:=A.in1) I (ok.pu _ (L ex)) (ok.pu _ (L ey)).1 M U O Y (by rw [uu];omega) hb
   show wpAny _ _ (keyLt' oneType' (.ref l) (.ref m)) Q E s;rw [keyLt'_oneType];refine one_lists pl.isList ac.isList (by omega) c1 c2 ?_
   rw [ud,ud,show its.length=(k x.1).length by rw [<-O.length,M.length],show its'.length=(k y.1).length by rw [<-Y.length,U.length],J1 hb]
   unfold ltK at h;rw [hb] at h;exact h
 |false=>
  refine⟨tuples' true,rf,fun h2 E Q q=>kind_tups (fun v hv=> ?_) (fun z=>by rw [z] at lk;simp at lk;omega) q,?_,aa⟩
  ·obtain⟨i,hi⟩:=List.mem_iff_getElem?.mp hv;have hl:i<us.length:=by rw [lu,<-lk];exact(List.getElem?_eq_some_iff.mp hi).1
   obtain⟨_,x,u,ex,ka,ru,_⟩:=mem (v,us[i]) (by
    have:(v,us[i])∈Z.zip us:=List.mem_iff_getElem?.mpr ⟨i,List.getElem?_zip_eq_some.mpr ⟨hi,u7 hl⟩⟩
    simpa using this)
   obtain⟨l,ws,rfl,R,M⟩:=(show∃l us,u= .ref l/\H l=some (.tup us)/\IsL H (k x.1) us by simpa [yM,Is] using ka)
   cases ru;obtain⟨n,r,e⟩:=ok.hd rfl _ (L ex);rw [e] at M;obtain⟨w1,r1,rfl,h1,_⟩:=M;cases(show w1= .int n from h1)
   obtain⟨_,its,O,pl⟩:=(show Qm X.prog X.w H s.heap l (.tup (.int n::r1)) from I.hok l _ R)
   cases O with
   |cons g1 g2=>
    obtain⟨t,rfl⟩:=g1;exact⟨l,_,n,t,rfl,pl,by simp⟩
  ·intro p hp q hq E Q h;obtain⟨i,x,u,ex,kx,rx,er⟩:=mem p hp;obtain⟨j,y,v,ey,ky,ry,es⟩:=mem q hq;rw [er,es,rk_dec ok.od (L ex) (L ey)] at h;obtain⟨l,ws,rfl,R,M⟩:=(show∃l us,u= .ref l/\H l=some (.tup us)/\IsL H (k x.1) us by simpa [yM,Is] using kx)
   obtain⟨m,zs,rfl,ab,U⟩:=(show∃l us,v= .ref l/\H l=some (.tup us)/\IsL H (k y.1) us by simpa [yM,Is] using ky)
   obtain⟨p1,p2⟩:=p;obtain⟨q1,q2⟩:=q;cases rx;cases ry;obtain⟨b,hb⟩:=ok.lt _ (L ex) _ (L ey);obtain⟨_,its,O,pl⟩:=(show Qm X.prog X.w H s.heap l (.tup ws) from I.hok l _ R)
   obtain⟨_,its',Y,ac⟩:=(show Qm X.prog X.w H s.heap m (.tup zs) from I.hok m _ ab)
   obtain⟨c1,c2⟩:=lex_parts (B:=A) I (ok.pu _ (L ex)) (ok.pu _ (L ey)).1 M U O Y (by omega) hb
   show wpAny _ _ (keyLt' (tuples' true) (.ref l) (.ref m)) Q E s;refine key_tups pl ac c1 c2 (fun h1 h2=> ?_) ?_
   ·obtain⟨n,r,e⟩:=ok.hd rfl _ (L ex);obtain⟨n',r',e'⟩:=ok.hd rfl _ (L ey);rw [e] at M;rw [e'] at U;obtain⟨w1,r1,rfl,g1,_⟩:=M;obtain⟨w2,r2,rfl,g2,_⟩:=U;cases(show w1= .int n from g1)
    cases(show w2= .int n' from g2)
    cases O with
    |cons a1 a2=>
     cases Y with
     |cons b1 b2=>
      obtain⟨t,rfl⟩:=a1;obtain⟨t',rfl⟩:=b1;refine⟨n,t,n',t',by simp,by simp,?_⟩
      rw [e,e'];simp [lAt,ltD]
   ·rw [ud,ud,show its.length=(k x.1).length by rw [<-O.length,M.length],show its'.length=(k y.1).length by rw [<-Y.length,U.length],J1 hb]
    unfold ltK at h;rw [hb] at h;exact h
end
section
variable {X:Cx}{pins:List (Addr×Obj)}{σ:St}{H:Hp}{s:Shared}
theorem Inv.adopt {l:Addr}{o:HO}(I:Inv X pins σ H s)(f:FpOk X pins H l)(R:X.s₀.heap.objs.size<=l)(ok:Qm X.prog X.w (upd H l o) s.heap l o):Inv X pins σ (upd H l o) s:=by
 have hn:=f.1;refine⟨I.ok,I.os,I.bare,⟨I.base.keep,I.base.slot,fun b B e n hx=> ?_,I.base.there,fun b xs e=> ?_,fun b B u e=> ?_,fun b ps e=> ?_⟩,I.loc,I.cell,?_,fun x c e=> ?_,fun p L=> ?_,fun b u e=> ?_,I.len,I.tk⟩
 ·rw [qi (uA (Nat.lt_of_lt_of_le (uj e) R))];exact I.base.free b B e n hx
 ·have:=I.base.tups b xs e;rw [qi (qf this hn)];exact this
 ·have:=I.base.frzs b B u e;rw [qi (qf this hn)];exact this
 ·obtain⟨m,M⟩:=I.base.tbls b ps e;exact⟨m,by rw [qi (qf M hn)];exact M⟩
 ·rw [qi (vZ f.2.1)];exact I.free
 ·rw [qi (f.2.2.2.2.1 x c e)];exact I.freeC x c e
 ·obtain⟨U,p2,Y⟩:=I.pin p L;exact⟨U,by rw [qi (f.2.2.2.2.2 p L)];exact p2,Y⟩
 ·by_cases O:b=l
  ·subst O;rw [qe] at e;cases e;exact ok
  ·rw [qi O] at e;exact(I.hok b u e).stay (fun c v _ q=>q) (fun c q=>by rw [qi (qf q hn)];exact q) fun c xs q=>by rw [qi (qf q hn)];exact q
end
def sortB (w:World)(rev:Bool)(sp:Sp)(Q:VK)(x:V)(H1:Hp):Prop:=∃(a:Addr) (kvs:List (D×V×V)) (lst:Bool) (k:D->List D),x= .ref a/\DAt w H1 a kvs/\kvs.length<64/\KeysOk lst k (kvs.map (·.1))/\
 (∀p∈kvs,∀H',Same H1 H'->∀Q':VK,(∀u H'',Same H' H''->yM lst k H'' p.1 u->Q' u H'')->sp [p.2.1] H' Q' E0)/\
 ∀(H2:Hp) (ys:List (D×V)) (q:Addr),Same H1 H2->H2 q=none->ys.Perm (kvs.map fun p=>(p.1,p.2.1))->(if rev=true then ys.Pairwise (fun x y=>ltK k x.1 y.1=false) else ys.Pairwise (fun x y=>ltK k y.1 x.1=false))->Q (.ref q) (upd H2 q (.lst (ys.map (·.2))))
def tSortD (w:World)(rev:Bool)(sp:Sp)(te:TE):TE:=fun σ H Q=>te σ H (sortB w rev sp Q)
section
variable {X:Cx}{k:Nat}{f:Addr}{fd:FuncData}{ps:List Str}{sp:Sp}
theorem sorted_ok {pins:List (Addr×Obj)}{σ:St}{H:Hp}{s:Shared}{rev lst:Bool}{Y:D->List D}{a:Addr}{kvs:List (D×V×V)}{Q:VK}(hc:X.calm=true)(F:FnOk X.prog X.w X.K X.mg X.base CX0 k f fd ps sp)(hr:Room (k+2) X.A)(hb:yS X.K fd ps [])(I:Inv X pins σ H s)(g:DAt X.w H a kvs)(af:kvs.length<64)(ok:KeysOk lst Y (kvs.map (·.1)))
  (ag:∀p∈kvs,∀H',Same H H'->∀Q':VK,(∀u Z,Same H' Z->yM lst Y Z p.1 u->Q' u Z)->sp [p.2.1] H' Q' E0)
  (q:∀(H2:Hp) (ys:List (D×V)) (q:Addr),Same H H2->H2 q=none->ys.Perm (kvs.map fun p=>(p.1,p.2.1))->(if rev=true then ys.Pairwise (fun x y=>ltK Y x.1 y.1=false) else ys.Pairwise (fun x y=>ltK Y y.1 x.1=false))->Q (.ref q) (upd H2 q (.lst (ys.map (·.2))))):
  wpAny (model X.prog X.w) X.A (call (.builtin "sorted") [.ref a] (kwK f rev)) (EP X pins σ Q) X.xe s:=by
 have hs:=vi;obtain⟨hz,lo,xs,r,m⟩:=Ju I g;obtain⟨o,es,ep,ho,ah,hd,he⟩:=m;have ab:es.size=kvs.length:=by rw [<-vd,he,ue,<-vY r]
 refine call_function_entry_kw kind_sorted plain_sorted entry_sorted (args_sortedK _ _ _) ?_;unfold Builtin.«sorted»;refine wpAny_bind (m:=checkCount "sorted" 1 1 _) (u0 ?_);refine wpAny_bind (uT (n:=1) I.tk (PySem.W.kdu_collect (A:=X.A.in1) (src_es (es:=es) (ep:=ep) lo) (I.ok.hd hc) ⟨o,ho,ah,hd⟩ (by omega) fun h' tk M ai O=> ?_))
 intro htk;have aj:M.toList.length=kvs.length:=by rw [vd,O.1,ab]
 have rv:Vals ((kvs.map fun p=>(p.1,p.2.1)).map (·.2)) M.toList:=by
  refine vals_ext (by simp [O.1,ab]) fun j x v hx hv=> ?_
  rw [v7,um] at hx;cases hj:kvs[j]? with
  |none=>rw [hj] at hx;cases hx
  |some p=>
   rw [hj] at hx;cases hx;obtain⟨e,e1,e2⟩:=O.2 j v (by rw [<-U5];exact hv)
   obtain⟨y,e3,e4⟩:=rel_at r hj;rw [je he,e3] at e1;cases e1;rw [e2];exact e4.2.1
 have I1:Inv X pins σ H {s with heap:=h',toks:=tk}:=I.kept ai htk
 have I2:Inv X pins σ H {s with heap:=h'.push (seqObj "list" M.toList.toArray 0),toks:=tk}:=I1.kept (t':=tk) (fun b u e=>u8 _ e) htk
 have hl:(h'.push (seqObj "list" M.toList.toArray 0)).get? h'.objs.size=some (seqObj "list" M.toList.toArray 0):=ug _ rfl;have fl:FpOk X pins H h'.objs.size:=I1.fpOk (Nat.le_refl _) (I1.hok.fresh (Nat.le_refl _));have ak:X.s₀.heap.objs.size<=h'.objs.size:=I1.sz;refine wpAny_bind (wpAny_newList ?_ (by rw [aj];omega))
 show wpAny _ _ _ _ _ {s with heap:=h'.push (seqObj "list" M.toList.toArray 0),toks:=tk}
 have r1:Room k X.A.in1.in1:=(hr.in1).in1;have aa:∀H',Same H H'->∀x∈kvs.map (fun p=>(p.1,p.2.1)),KOk H' x.1 x.2:=fun H' U x hx=>by
  obtain⟨p,hp,rfl⟩:=List.mem_map.mp hx;exact⟨(g.ks p hp).1.mono U.tk,(g.ks p hp).2⟩
 have mp:(kvs.map fun p=>(p.1,p.2.1)).map (·.1)=kvs.map (·.1):=by rw [v7];rfl
 have L:∀{ys:List (D×V)},ys.Perm (kvs.map fun p=>(p.1,p.2.1))->∀y∈ys,y.1∈kvs.map (·.1):=fun hp y hy=>by
  rw [<-mp];exact List.mem_map.mpr ⟨y,hp.mem_iff.mp hy,rfl⟩
 refine wpAny_bind (uP (wpAny_call_entry_kw slot_list_sort ⟨_,hl,rfl⟩ entry_list_sort (sort_ok (A:=X.A.in1.in1) (R:=yM lst Y) (r:=rkOf (ltK Y) (kvs.map (·.1))) F r1 rfl hb I2 hl fl rv (by simp [af])
  (fun x hx H' U Q' hQ=>by
   obtain⟨p,hp,rfl⟩:=List.mem_map.mp hx;exact ag p hp H' U Q' hQ) (fun _ _ _ _ U h=>h.same U)
  (fun s' H' kv ku I' U rk pk=>by
   have:=key_cmp (A:=X.A.in1.in1) (lst:=lst) (k:=Y) I' (by have:=r1.units;exact this) (by rw [mp];exact ok) (aa H' U) rv rk pk
   rw [mp] at this;exact this)
  fun s' H' ys out mm I' U al ac B ad am=>⟨_,rfl,?_⟩) (args_sortK _ _ _)))
 have ae:ys.length=kvs.length:=by rw [B.length_eq,ue]
 refine u0 ⟨_,rfl,.ref h'.objs.size,_,I'.adopt (o:= .lst (ys.map (·.2))) ac ak ⟨by rw [ue,ae];omega,out,mm,am,al⟩,rfl,q H' ys _ U ac.1 B ?_⟩
 cases rev with
 |true=>
  rw [if_pos rfl] at*;exact ad.imp_of_mem fun hx hy h=>rk_le ok.od (L B _ hy) (L B _ hx) h
 |false=>
  rw [if_neg (by simp)] at*
  exact ad.imp_of_mem fun hx hy h=>rk_le ok.od (L B _ hx) (L B _ hy) h
def kwE (rev:Bool)(fx:Str)(np kp kp2 cp:Pos)(j:Nat):List Keyword:=if rev then [⟨some "key",.Name fx np,kp⟩,⟨some "reverse",.Constant (.bool true) j cp,kp2⟩] else [⟨some "key",.Name fx np,kp⟩]
theorem xc {w:World}{rev:Bool}{L:Str}{e:Expr}{te:TE}{p Z pos kp M cp:Pos}{j:Nat}{kws:List Keyword}(ek:kws=kwE rev L Z kp M cp j)(ew:X.w=w)(hc:X.calm=true)(F:FnOk X.prog X.w X.K X.mg X.base CX0 k f fd ps sp)(hr:Room (k+2) X.A)(hb:yS X.K fd ps [])(hg:Gl X "sorted")(hm:X.mg "sorted"=none)(aa:Gl X L)(ab:X.mg L=some (.ref f))(he:PE X e te)
  (ac:(L==("__debug__":Str))=false:=by decide) (B:starEach [e] X.env= [(false,eval e X.env)]:=by rfl):PE X (.Call (.Name "sorted" p) [e] kws pos) (tSortD w rev sp te):=by
 subst ew ek;intro pins s σ H Q I h;refine vI (j5 I hg hm boot_sorted ?_);have ha:PA X [e] (tCons te tNil):=qa he qc B;have ad:backTo pos (starEach [e] X.env)=(false,eval e X.env)::backTo pos (starEach [] X.env)->True:=fun _=>trivial;have step:=ha pos pins s σ H (fun vs H1=>match vs with| [x]=>sortB X.w rev sp Q x H1|_=>False) I h
 cases rev with
 |false=>
  have hk:PK X [⟨some "key",.Name L Z,kp⟩] (tCons (tC (.ref f)) tNil):=pk_cons (pe_gR aa ab ac) pk_nil;refine callWith_kw (kws:= [⟨some "key",.Name L Z,kp⟩]) (thn step fun us s1 ⟨vs,H1,I1,O,q1⟩=> ?_)
   (by show backTo pos (starEach [e] X.env)=_;rw [B];rfl) (by show(backTo pos (starEach [e] X.env)).any (·.1)=false;rw [B];rfl)
  match vs,O,q1 with
  | [x],O,q1=>
   refine thn (hk pos pins s1 σ H1 (fun zs H2=>zs= [.ref f]/\H2=H1) I1 ⟨rfl,rfl⟩) fun ws s2 ⟨zs,H2,I2,r2,e1,e2⟩=> ?_;subst e1 e2;obtain⟨u,rfl,ru⟩:=yn O;obtain⟨u2,rfl,R⟩:=yn r2;cases R;obtain⟨a,kvs,lst,kf,rfl,g,U,ok,Y,q⟩:=q1;cases ru;exact sorted_ok (rev:=false) hc F hr hb I2 g U ok Y q
 |true=>
  have hk:PK X [⟨some "key",.Name L Z,kp⟩,⟨some "reverse",.Constant (.bool true) j cp,M⟩] (tCons (tC (.ref f)) (tCons (tC (.bl true)) tNil)):=pk_cons (pe_gR aa ab ac) (pk_cons QF pk_nil);refine callWith_kw (kws:= [⟨some "key",.Name L Z,kp⟩,⟨some "reverse",.Constant (.bool true) j cp,M⟩]) (thn step fun us s1 ⟨vs,H1,I1,O,q1⟩=> ?_)
   (by show backTo pos (starEach [e] X.env)=_;rw [B];rfl) (by show(backTo pos (starEach [e] X.env)).any (·.1)=false;rw [B];rfl)
  match vs,O,q1 with
  | [x],O,q1=>
   refine thn (hk pos pins s1 σ H1 (fun zs H2=>zs= [.ref f,.bl true]/\H2=H1) I1 ⟨rfl,rfl⟩) fun ws s2 ⟨zs,H2,I2,r2,e1,e2⟩=> ?_;subst e1 e2;obtain⟨u,rfl,ru⟩:=yn O;cases r2 with
   |cons g1 g2=>
    obtain⟨u2,rfl,R⟩:=yn g2;cases g1;cases R;obtain⟨a,kvs,lst,kf,rfl,g,U,ok,Y,q⟩:=q1;cases ru;exact sorted_ok (rev:=true) hc F hr hb I2 g U ok Y q
end
theorem sub_tf:isSubtype (.type "tuple") (.type "frozenset")=pure false:=by rw [vg];kernel_rfl
theorem sub_ts:isSubtype (.type "tuple") (.type "set")=pure false:=by rw [vg];kernel_rfl
section
variable {P:Program}{w:World}{A:Around}{E:Value->Shared->Prop}{s:Shared}
abbrev Qz (led:Bool):Obj:={cls:= .type "set",dict:=none,data:= .set #[] 0 (.fresh 0 0 led)}
theorem set_nil {t:Addr}{Q:Value->Shared->Prop}(hh:A.handled=none)(Y:s.heap.IsTuple t #[])
  (q:∀(h':Heap) (tk:Nat) (B:Bool),(∀b o,b<s.heap.objs.size->s.heap.get? b=some o->h'.get? b=some o)->h'.get? s.heap.objs.size=some (Qz B)->Q (.ref s.heap.objs.size) {s with heap:=h',toks:=tk}):wpAny (model P w) A (call (.type "set") [.ref t]) Q E s:=by
 obtain⟨c,tl,Z⟩:=F.called_set.mro;have made:=F.called_set.made;have aa:=F.called_set.sub;refine wpAny_call (codeAny_of_tree ?_);show wpAny _ _ (callAny (.type "set") _) _ _ _;refine u0 ⟨Code.quiet_builtin _ (by decide+kernel),Ur F.entry_type_call ?_⟩
 rw [Around.under_plain (weight_type_call_type "set" [.ref t] []) rfl];have h1:=F.called_set.notType;have h2:=F.called_set.canCreate;have h3:=F.typeCall_set_1 (.ref t)
 repeat (any_goals (first|assumption|wp_step))
 refine vX (code_set_new_1 (.ref t) (E:=E) (Q₁:=fun obj u=>∃B:Bool,obj= .ref s.heap.objs.size/\u={s with heap:=s.heap.push (Qz B)}) fun B=>⟨B,rfl,rfl⟩) fun r u I=> ?_
 match r,I with
 | .error e,I=>exact I
 | .ok (.ret obj),I=>
  obtain⟨B,rfl,rfl⟩:=I;have hS:(s.heap.push (Qz B)).get? s.heap.objs.size=some (Qz B):=ug _ rfl;have hT:Shared.TypeIs {s with heap:=s.heap.push (Qz B)} (.ref s.heap.objs.size) "set":=⟨_,hS,rfl⟩
  have l1:=F.called_set.init.lookup;have l2:=F.called_set.init.bind (.ref s.heap.objs.size)
  repeat (any_goals (first|assumption|wp_step))
  refine vX (codeAny_call_builtin (R:=wants (fun r u=>r= .none/\∃h' tk,u={s with heap:=h',toks:=tk}/\(∀b o,b<s.heap.objs.size->s.heap.get? b=some o->h'.get? b=some o)/\h'.get? s.heap.objs.size=some (Qz B)) E) F.called_set.init.plain F.entry_set_init (check_set_init_1 hT ?_)) fun r u I=> ?_
  ·have ab:=Y;obtain⟨⟨oc,od,ac,os⟩,M,hc,n,hd⟩:=Y;simp only at hc hd;subst hc hd;have L:(s.heap.push (Qz B)).get? t=some {cls:= .type "tuple",dict:=od,data:= .seq #[] n,slots:=os}:=u8 _ M;have a1:=sub_ts;have a2:=sub_tf;have a3:(Value.type "tuple"==Value.type "dict")=false:=by decide
   have O:(s.heap.push (Qz B)).IsTuple t #[]:=⟨_,L,rfl,n,rfl⟩;unfold Builtin.«set.__init__» noKeywords Builtin.Frozenset.updateFrom;generalize U:pyIter=PI
   wp_walk
   subst U;refine vH O ?_;refine wpAny_bind (wpAny_runValue ?_);refine Ur F.entry_set_update_loop ?_;rw [Around.under_plainId F.plain_set_update_loop _];show wpAny _ A.in1.in1.in1 (pyNext (.ref (s.heap.push (Qz B)).objs.size)>>=_) _ _ _;have ad:t<s.heap.objs.size:=uj M;refine wpAny_bind (wpAny_pyNext_tuple_end (i:=0) (by simpa using hh) ⟨_,ug _ rfl,rfl,rfl⟩ ⟨_,u8 _ L,rfl,n,rfl⟩ (by simp) fun h' eb=> ?_)
   show wpAny _ _ (ret Value.none) _ _ _;refine u0 (u0 (u0 ⟨rfl,h',s.toks,rfl,fun b o hb e=> ?_,?_⟩))
   ·exact eb b o (uA (by rw [size_push'];exact Nat.lt_succ_of_lt hb)) (u8 _ (u8 _ e))
   ·exact eb _ _ (uA (by rw [size_push'];exact Uz _)) (u8 _ hS)
  ·match r,I with
   | .error e,I=>exact I
   | .ok (.ret v),I=>
    obtain⟨rfl,h',tk,rfl,k1,k2⟩:=I
    repeat (any_goals (first|assumption|wp_step))
    exact q _ _ B k1 k2
def yF (h:Heap)(a:Addr):Prop:=∃ep t,h.get? a=some {cls:= .type "set",dict:=none,data:= .set #[] ep t}/\t.fits 0=true
theorem sub_ss:isSubtype (.type "set") (.type "set")=pure true:=by rw [vg];kernel_rfl
theorem entry_set_or:entryFor table "set.__or__"=some Builtin.«frozenset.__or__»:=entryFor_alias (id':="frozenset.__or__") (by kernel_rfl) rfl (by decide+kernel) (by kernel_rfl)
theorem Jh:entryFor table "set.__iter__"=some Builtin.«frozenset.__iter__»:=entryFor_alias (id':="frozenset.__iter__") (by kernel_rfl) rfl (by decide+kernel) (by kernel_rfl)
theorem setState_nil {a:Addr}{Q:Array (Int×Value)×Nat×SetTable->Shared->Prop}(h:yF s.heap a)(q:∀ep t,Q (#[],ep,t) s):wpAny (model P w) A (setState a) Q E s:=by
 obtain⟨ep,t,I,B⟩:=h;unfold setState;refine wpAny_bind (wpAny_load I ?_);simp only [SetTable.fits,uh,UF,uW] at B;show wpAny _ _ (if(t.place.size !=(#[]:Array (Int×Value)).size||decide (t.fill>t.mask))=true then _ else _) Q E s
 rw [if_neg (by simp [B.1];omega)]
 exact u0 (q ep t)
theorem or_nil {a b:Addr}{Q:Value->Shared->Prop}(h1:yF s.heap a)(h2:yF s.heap b)
  (q:∀U,Q (.ref s.heap.objs.size) {s with heap:=s.heap.push {cls:= .type "set",dict:=none,data:= .set #[] 0 (.fresh 0 0 U)}}):wpAny (model P w) A (call (.builtin "set.__or__") [.ref a,.ref b]) Q E s:=by
 have t1:s.TypeIs (.ref a) "set":=let⟨_,_,h,_⟩:=h1;⟨_,h,rfl⟩;have t2:s.TypeIs (.ref b) "set":=let⟨_,_,h,_⟩:=h2;⟨_,h,rfl⟩;refine uq F.slot_set_or t1 entry_set_or ?_ (F.args_set_or_2 _ _);have e1:=sub_ss;obtain⟨Y,Z,o1,f1⟩:=id h1;obtain⟨aa,ab,M,f2⟩:=id h2
 wp_walk using Um o1,Um M
 refine Ue (u0 ?_);generalize ((model P w).w.params.followText "set-order")=O;dsimp only;simp only [newObj,if_true];refine wpAny_bind (wpAny_alloc (u0 ?_));have n1:yF (s.heap.push {cls:= .type "set",dict:=none,data:= .set #[] 0 (.fresh 0 0 !O)}) a:=⟨Y,Z,u8 _ o1,f1⟩;have n2:yF (s.heap.push {cls:= .type "set",dict:=none,data:= .set #[] 0 (.fresh 0 0 !O)}) b:=⟨aa,ab,u8 _ M,f2⟩;have q':=q (!O);have la:a≠s.heap.objs.size:=uA (uj o1);have lb:b≠s.heap.objs.size:=uA (uj M);have I:∀{c:Addr}{L:Sem Unit}{R:Unit->Shared->Prop}{B:Around}{u:Shared},yF u.heap c->R () u->wpAny (model P w) B (setMerge s.heap.objs.size c L) R E u:=fun{c L R B u} nc r=>by
  unfold setMerge;split
  ·exact u0 r
  ·refine wpAny_bind (setState_nil nc fun ep t=> ?_);exact u0 r
 refine wpAny_bind (u0 (wpAny_bind (I n1 (u0 ?_))));show wpAny _ _ (if(Value.ref b !=Value.ref a)=true then _ else _) _ _ _
 split
 ·refine wpAny_bind (u0 (wpAny_bind (uP ?_)));show wpAny _ _ (Builtin.Frozenset.updateFrom _ s.heap.objs.size (Value.ref b)) _ _ {s with heap:=s.heap.push {cls:= .type "set",dict:=none,data:= .set #[] 0 (.fresh 0 0 !O)}}
  unfold Builtin.Frozenset.updateFrom Builtin.Frozenset.merge
  wp_walk using Um (u8 _ M)
  simp only [SetTable.fits,uh,UF,uW] at f2;rw [if_neg (by simp [f2.1];omega)]
  exact u0 (u0 (I n2 (u0 (u0 ⟨_,rfl,q'⟩))))
 ·exact u0 (u0 ⟨_,rfl,q'⟩)
end
theorem QR:Slot "set_iterator" "__next__" "set_iterator.__next__":= .of (owner:="set_iterator") (n:="__next__") (by rw [U9,vw];kernel_rfl) (by decide+kernel) (by decide+kernel) (by decide+kernel) (by first|exact .inl (by decide+kernel)|exact .inr (by decide+kernel)) (by rw [vg];kernel_rfl)
theorem jl:Slot "set_iterator" "__iter__" "set_iterator.__iter__":= .of (owner:="set_iterator") (n:="__iter__") (by rw [U9,vw];kernel_rfl) (by decide+kernel) (by decide+kernel) (by decide+kernel) (by first|exact .inl (by decide+kernel)|exact .inr (by decide+kernel)) (by rw [vg];kernel_rfl)
theorem Jx:entryFor table "set_iterator.__next__"=some Builtin.«set_iterator.__next__»:=entryFor_of_fast (by kernel_rfl)
theorem Jy:entryFor table "set_iterator.__iter__"=some Builtin.«dict_keyiterator.__iter__»:=entryFor_alias (id':="dict_keyiterator.__iter__") (by kernel_rfl) rfl (by decide+kernel) (by kernel_rfl)
theorem args_si_next (a:Value):argsOk "set_iterator.__next__" ⟨[a],[]⟩:=by unfold argsOk;kernel_rfl
theorem args_si_iter (a:Value):argsOk "set_iterator.__iter__" ⟨[a],[]⟩:=by unfold argsOk;kernel_rfl
theorem J4 (a:Value):argsOk "set.__iter__" ⟨[a],[]⟩:=by unfold argsOk;kernel_rfl
section
variable {P:Program}{w:World}{A:Around}{E:Value->Shared->Prop}{s:Shared}{d it:Addr}
theorem hint_set {Q:Bool->Shared->Prop}(I:s.TypeIs (.ref d) "set")(q:Q false s):wpAny (model P w) A (Builtin.List.listLengthHint (.ref d)) Q E s:=by
 unfold Builtin.List.listLengthHint;refine wpAny_bind (wpAny_specialOf I PySem.F.slot_set_len.lookup ?_);generalize B:("set.__len__":String)=L
 wp_delta
 rw [show splitId L=some ("set","__len__") from by subst B;decide+kernel]
 subst B;refine wpAny_bind (wpAny_isInstance (T:="set") (b:=true) I (by rw [vg];kernel_rfl) ?_)
 refine wpAny_ite_split (fun z=>absurd z (by decide)) fun _=> ?_
 refine wpAny_ite_split (fun _=>wpAny_bind (Uk I (u0 q))) fun z=>absurd (by decide+kernel) z
def SetIt (h:Heap)(it d:Addr)(ep:Nat):Prop:=∃o,h.get? it=some o/\o.cls= .type "set_iterator"/\o.data= .fields #[.int 0 0,.int 0 0,.ref d,.int 0 0,.int ep 0]
theorem SetIt.ty {ep:Nat}(x:SetIt s.heap it d ep):s.TypeIs (.ref it) "set_iterator":=let⟨o,h,c,_⟩:=x;⟨o,h,c⟩
theorem SetIt.to {h h':Heap}{ep:Nat}(x:SetIt h it d ep)(k:∀o,h.get? it=some o->h'.get? it=some o):SetIt h' it d ep:=let⟨o,e,r⟩:=x;⟨o,k o e,r⟩
theorem yF.ty (h:yF s.heap d):s.TypeIs (.ref d) "set":=let⟨_,_,h,_⟩:=h;⟨_,h,rfl⟩
theorem yF.to {h h':Heap}(x:yF h d)(k:∀o,h.get? d=some o->h'.get? d=some o):yF h' d:=let⟨ep,t,e,f⟩:=x;⟨ep,t,k _ e,f⟩
def yz (h:Heap)(a:Addr)(ep:Nat):Prop:=∃t,h.get? a=some {cls:= .type "set",dict:=none,data:= .set #[] ep t}/\t.fits 0=true
theorem yz.no {h:Heap}{ep:Nat}(x:yz h d ep):yF h d:=let⟨t,e⟩:=x;⟨ep,t,e⟩
theorem yz.to {h h':Heap}{ep:Nat}(x:yz h d ep)(k:∀o,h.get? d=some o->h'.get? d=some o):yz h' d ep:=let⟨t,e,f⟩:=x;⟨t,k _ e,f⟩
theorem Q5 {ep:Nat}{Q:Array (Int×Value)×Nat×SetTable->Shared->Prop}(h:yz s.heap d ep)(q:∀t,Q (#[],ep,t) s):wpAny (model P w) A (setState d) Q E s:=by
 obtain⟨t,I,B⟩:=h;unfold setState;refine wpAny_bind (wpAny_load I ?_);simp only [SetTable.fits,uh,UF,uW] at B;show wpAny _ _ (if(t.place.size !=(#[]:Array (Int×Value)).size||decide (t.fill>t.mask))=true then _ else _) Q E s
 rw [if_neg (by simp [B.1];omega)]
 exact u0 (q t)
theorem iter_nil {ep:Nat}{Q:Value->Shared->Prop}(B:yz s.heap d ep)(q:Q (.ref s.heap.objs.size) {s with heap:=s.heap.push {cls:= .type "set_iterator",data:= .fields #[.int 0 0,.int 0 0,.ref d,.int 0 0,.int ep 0]}}):wpAny (model P w) A (pyIter (.ref d)) Q E s:=by
 have I:=B.no.ty;refine Ux I F.slot_set_iter (uq F.slot_set_iter I Jh ?_ (J4 _));unfold Builtin.«frozenset.__iter__» Builtin.Frozenset.slot0 Builtin.Frozenset.sizeOf setEntries setDrawn setsByText setEpoch;show wpAny _ _ (pure d>>=_) _ _ s;refine wpAny_bind (u0 (wpAny_bind (wpAny_bind (wpAny_bind (Q5 B fun t=>u0 (u0 ?_))))));refine wpAny_bind (wpAny_bind (Q5 B fun t=>wpAny_bind (wpAny_bind (Ue (u0 (u0 ?_))))));dsimp only;split
 ·rename_i h
  have h2:(!t.plain&&decide ((#[]:Array (Int×Value)).size>1))=true:=(Bool.and_eq_true_iff.mp h).2;simp at h2
 ·refine wpAny_bind (u0 (wpAny_bind (wpAny_bind (Q5 B fun t=>u0 ?_))));unfold newFields;refine wpAny_bind (uD (u0 ⟨_,rfl,"set_iterator",_,⟨_,ug _ rfl,rfl⟩,QR.lookup,?_⟩))
  simpa [rawInt] using q
theorem setNext_nil {ep slot B:Nat}{Q:Option (Value×Nat)->Shared->Prop}(I:yz s.heap d ep)(q:Q none s):wpAny (model P w) A (setNext d slot B ep) Q E s:=by
 unfold setNext setsByText;refine wpAny_bind (Q5 I fun t=>wpAny_bind (wpAny_bind (Ue (u0 ?_))));dsimp only;split
 ·rw [if_neg (by simp)]
  refine wpAny_bind ?_;unfold setWalk setsByText;refine wpAny_bind (Q5 I fun t=>wpAny_bind (wpAny_bind (Ue (u0 ?_))))
  rename_i L
  dsimp only;rw [if_pos L];refine wpAny_bind (Ue (u0 (u0 ?_)));exact q
 ·split
  ·rename_i h
   have h2:(!t.plain&&decide ((#[]:Array (Int×Value)).size>1))=true:=h;simp at h2
  ·refine wpAny_bind (m:=if(!t.led&& !(#[]:Array (Int×Value)).isEmpty)=true then _ else _) ?_
   rw [if_neg (by simp)]
   refine u0 (u0 ?_);simp;exact q
theorem next_nil {ep:Nat}{Q:Option Value->Shared->Prop}(O:A.handled=none)(B:SetIt s.heap it d ep)(I:yz s.heap d ep)(q:∀h',Heap.ExtBut it s.heap h'->Q none {s with heap:=h'}):wpAny (model P w) A (pyNext (.ref it)) Q E s:=by
 have L:=B.ty;obtain⟨o,M,R,hd⟩:=B;unfold pyNext;refine wpAny_bind (vL (uw (name:=Str.ofString "__next__") L QR (uq QR L Jx ?_ (args_si_next _))));unfold Builtin.«set_iterator.__next__» setEntries;refine wpAny_bind (u0 ?_);refine wpAny_bind (U2 M hd ?_);refine wpAny_bind (wpAny_bind (Q5 I fun t=>u0 ?_));dsimp only;rw [if_neg (by simp)]
 refine wpAny_bind (setNext_nil (ep:=ep) I ?_);refine wpAny_bind (vO M hd (by simp) ?_)
 show wpAny _ _ (newExc (.type "StopIteration") []>>=_) _ _ _;refine wpAny_bind ?_;simp only [newExc,newTuple];refine wpAny_bind (uD ?_ (by size_fits))
 refine wpAny_bind (m:=firstArgMember _ _) (Uu (a:=Value.none) (by first|rfl|(simp only [firstArgMember];rfl)) ?_)
 refine uD ?_ (by size_fits)
 simp only [raiseNew];refine wpAny_bind (wpAny_handled ?_);rw [show A.in1.handled=none from O]
 refine wpAny_bind (u0 (wpAny_throw ?_));refine wpAny_bind (wpAny_isInstance (T:="StopIteration") (b:=true) ⟨_,ug _ rfl,rfl⟩ isSubtype_stop ?_);exact u0 (q _ (((ve ..).extBut.push _).push _))
theorem src_nil {ep:Nat}:PySem.W.KdlSrc P w "set" d d 0 (fun _ _=>False) (fun h=>yz h d ep) where
 type:=fun _ hm=>hm.no.ty
 there:=fun _ ⟨_,e,_⟩=>⟨uj e,uj e⟩
 keep:=fun _ _ hm hk=>hm.to fun o e=>hk d (.inl rfl) o e
 notList:=by decide
 notTuple:=by decide
 hint:=fun _ _ _ _ hm hq=>hint_set hm.no.ty hq
 iter:=fun A s L hm=>⟨_,fun _ h=>SetIt h s.heap.objs.size d ep/\yz h d ep,fun _ _ hq=>iter_nil hm hq,{
   sub:=fun b B=>by simp at B;simp [B]
   frame:=fun _ _ _ st hk=>⟨st.1.to fun o e=>hk _ (by simp) o e,st.2.to fun o e=>hk d (by simp) o e⟩
   item:=fun i s Q E hi _ _=>absurd hi (vT _)
   done:=fun s Q E st I=>next_nil L st.1 st.2 fun h' M=>I h' s.toks fun b o B x=>M b o (fun z=>B (by simp [z])) x
   self:=fun i s Q E st I=>by
    refine Ux st.1.ty jl (uq jl st.1.ty Jy ?_ (args_si_iter _));show wpAny _ _ (ret (.ref _)) _ _ s;exact u0 ⟨_,rfl,"set_iterator",_,st.1.ty,QR.lookup,I⟩},⟨⟨_,ug _ rfl,rfl,rfl⟩,hm.to fun _ e=>u8 _ e⟩⟩
end
def nilS (a:Addr):HO:= .ext fun h=>yF h a
theorem nilS_ok {P:Program}{w:World}{H:Hp}{h:Heap}{a:Addr}(n:yF h a):Qm P w H h a (nilS a):=⟨n,let⟨_,_,e,_⟩:=n;⟨_,e⟩,fun _ _ n k=>n.to k⟩
theorem fresh_no {h:Heap}{a:Addr}{B:Bool}(e:h.get? a=some (Qz B)):yF h a:=⟨0,_,e,rfl⟩
section
variable {X:Cx}
theorem Jb (B:X.calm=true):yx X (.type "set") (fun xs H Q=>∃t,xs= [.ref t]/\SqT X.K H t []/\∀q,H q=none->Q (.ref q) (upd H q (nilS q))):=by
 intro pins s σ H xs us Q I r h;obtain⟨t,rfl,L,q⟩:=h;obtain⟨u,rfl,M⟩:=yn r;cases M;obtain⟨its,O,R,_⟩:=I.tuple L;cases O;refine uT (n:=1) I.tk (set_nil (I.ok.hd B) R fun h' tk U k e=> ?_);intro htk;exact⟨.ref s.heap.objs.size,_,I.laid (t':=tk) (o:=nilS s.heap.objs.size) (fun b u w=>k b u (uj w) w) (Nat.le_refl _) (nilS_ok (fresh_no e)) htk,rfl,q _ (I.hok.fresh (Nat.le_refl _))⟩
theorem op_or0:OpR X (binaryOp .BitOr) (fun x y H Q=>∃a b,x= .ref a/\y= .ref b/\H a=some (nilS a)/\H b=some (nilS b)/\∀q,H q=none->Q (.ref q) (upd H q (nilS q))):=by
 intro pins s σ H x y v u Q I M O h;obtain⟨a,b,rfl,rfl,ha,R,q⟩:=h;cases M;cases O;have B:yF s.heap a:=(show Qm X.prog X.w H s.heap a (nilS a) from I.hok a _ ha).1
 have L:yF s.heap b:=(show Qm X.prog X.w H s.heap b (nilS b) from I.hok b _ R).1
 exact wpAny_binaryOp_same B.ty L.ty F.fills_set_or F.slot_set_or (or_nil B L fun U=>⟨fun z=>(nomatch z),.ref s.heap.objs.size,_,I.laid (t':=s.toks) (o:=nilS s.heap.objs.size) (fun _ _ w=>u8 _ w) (Nat.le_refl _) (nilS_ok ⟨0,_,ug _ rfl,rfl⟩),rfl,q _ (I.hok.fresh (Nat.le_refl _))⟩)
theorem jb (hc:X.calm=true):yx X (.builtin "sorted") (fun xs H Q=>∃a,xs= [.ref a]/\H a=some (nilS a)/\∀q,H q=none->Q (.ref q) (upd H q (.lst []))):=by
 intro pins s σ H xs us Q I r h;obtain⟨a,rfl,ha,q⟩:=h;obtain⟨u,rfl,ru⟩:=yn r;cases ru;obtain⟨ep,t,e,f⟩:=(show Qm X.prog X.w H s.heap a (nilS a) from I.hok a _ ha).1
 refine uT (n:=1) I.tk ?_;refine PySem.Calls.call_function_entry kind_sorted plain_sorted entry_sorted (args_sorted1 _) ?_;unfold Builtin.«sorted»;refine wpAny_bind (m:=checkCount "sorted" 1 1 _) (u0 ?_);refine wpAny_bind (PySem.W.kdu_collect (A:=X.A.in1) (src_nil (ep:=ep)) (I.ok.hd hc) ⟨t,e,f⟩ (by decide) fun h' tk R U M=> ?_)
 have ea:R= #[]:=Array.eq_empty_of_size_eq_zero M.1;subst ea;refine wpAny_bind (wpAny_newList ?_ (by simp))
 have B:(h'.push (seqObj "list" #[] 0)).get? h'.objs.size=some (seqObj "list" ([]:List Value).toArray 0):=ug _ rfl;have hs:=vi;refine wpAny_bind (uP (uq slot_list_sort ⟨_,B,rfl⟩ entry_list_sort (list_sort_treeK strKind_oneLt B (fun p hp=>by simp [pairsOf] at hp) (fun v₁ v₂ rest e=>by cases e) (by simp) fun L a1 a2=>⟨_,rfl,?_⟩) (args_list_sort _)))
 refine u0 ⟨_,rfl,?_⟩;intro htk;have Y:Inv X pins σ H {s with heap:=h',toks:=tk}:=I.kept U htk
 obtain⟨n,hn⟩:=sortedHeap_at (out:=(arrOf L).map (·.2)) B;have hz:((arrOf L).map (·.2)).toList= []:=by
  have:=a1.size_eq;simp [pairsOf] at this;simp [this]
 refine⟨.ref h'.objs.size,_,Y.laid (t':=tk) (o:= .lst []) (fun b u w=> ?_) (Nat.le_refl _) ⟨uG _,[],n,.nil,?_⟩ htk,rfl,q _ (Y.hok.fresh (Nat.le_refl _))⟩
 ·have Z:=uj w;rw [sortedHeap_old (uA Z) (by rw [size_push'];exact Nat.lt_succ_of_lt Z)]
  exact u8 _ w
 ·have O:(arrOf L).map (·.2)=([]:List Value).toArray:=by rw [<-hz]
  rw [O] at hn;rw [O];exact hn
end
end L2
namespace AwZ
open PySem PySem.Spec PyProof.Rows
theorem JD:Slot "reversed" "__init__" "object.__init__":= .of (owner:="object") (n:="__init__") (by rw [U9,vw];kernel_rfl) (by decide+kernel) (by decide+kernel) (by decide+kernel) (by first|exact .inl (by decide+kernel)|exact .inr (by decide+kernel)) (by rw [vg];kernel_rfl)
theorem Qv:Slot "reversed" "__next__" "reversed.__next__":= .of (owner:="reversed") (n:="__next__") (by rw [U9,vw];kernel_rfl) (by decide+kernel) (by decide+kernel) (by decide+kernel) (by first|exact .inl (by decide+kernel)|exact .inr (by decide+kernel)) (by rw [vg];kernel_rfl)
theorem Yl:Slot "reversed" "__iter__" "reversed.__iter__":= .of (owner:="reversed") (n:="__iter__") (by rw [U9,vw];kernel_rfl) (by decide+kernel) (by decide+kernel) (by decide+kernel) (by first|exact .inl (by decide+kernel)|exact .inr (by decide+kernel)) (by rw [vg];kernel_rfl)
theorem yX:entryFor table "reversed.__next__"=some Builtin.«reversed.__next__»:=entryFor_of_fast (by kernel_rfl)
theorem Jg:entryFor table "reversed.__iter__"=some Builtin.«dict_keyiterator.__iter__»:=entryFor_alias (id':="dict_keyiterator.__iter__") (by kernel_rfl) rfl (by decide+kernel) (by kernel_rfl)
theorem Yv (a:Value):argsOk "reversed.__next__" ⟨[a],[]⟩:=by unfold argsOk;kernel_rfl
theorem JW (a:Value):argsOk "reversed.__iter__" ⟨[a],[]⟩:=by unfold argsOk;kernel_rfl
theorem j6:TypeCalled "reversed" "reversed.__new__" "object.__init__":=⟨by decide+kernel,by decide+kernel,⟨_,_,PySem.F.mro_reversed⟩,PySem.F.made_reversed,by decide+kernel,by rw [vg];kernel_rfl,JD⟩
theorem jg:typeLookup (.type "tuple") "__reversed__"=pure none:=by rw [U9,vw];kernel_rfl
theorem yK:isSubtype (.type "tuple") (.type "dict")=pure false:=by rw [vg];kernel_rfl
end AwZ
namespace AwZ
open PySem PySem.Spec PyProof.Rows
open PySem.AutoSeq1 (wpAny_loadPart')
def revO (t:Addr)(i:Int):Obj:={cls:= .type "reversed",data:= .fields #[.ref t,rawInt i]}
theorem rev_made (t:Addr)(its:Array Value):Meets (Builtin.«reversed.__new__» ⟨[.type "reversed",.ref t],[]⟩) (fun _ R s=>IsTup s.heap t its/\(its.size:Int)<2^63/\
   R (.ok (.ret (.ref s.heap.objs.size))) {s with heap:=s.heap.push (revO t ((its.size:Int)-1)),toks:=s.toks+1+1}):=
 .of_wp fun prog w A R s h=>by
  obtain⟨I,hz,h⟩:=h;have B:s.TypeIs (.ref t) "tuple":=let⟨o,e,c,_⟩:=I;⟨o,e,c⟩;have L:=jg;have M:=yK;unfold Builtin.«reversed.__new__»;rw [PySem.newClass_reversed];refine wpAny_bind (u0 ?_);refine wpAny_bind (Uu (a:=()) (by first|rfl|kernel_rfl) (wpAny_bind (Uu (a:=()) (by first|rfl|kernel_rfl) ?_)))
  dsimp only;refine wpAny_bind (wpAny_specialOf B jg ?_);dsimp only;refine wpAny_bind ?_;show wpAny _ _ (isInstance (.ref t) (.type "dict")>>=_) _ _ _;refine wpAny_bind (wpAny_isInstance B yK ?_);rw [if_neg (by simp)]
  refine wpAny_bind (wpAny_specialOf B PySem.F.slot_tuple_getitem.lookup ?_);dsimp only;rw [if_pos (by decide)]
  refine u0 ?_;rw [if_neg (by simp)]
  refine wpAny_bind (len_tuple I hz ?_)
  wp_walk
  exact⟨_,rfl,h⟩
def IsRv (h:Heap)(it t:Addr)(i:Int):Prop:=∃o,h.get? it=some o/\o.cls= .type "reversed"/\o.data= .fields #[.ref t,rawInt i]
section
variable {P:Program}{w:World}{A:Around}{E:Value->Shared->Prop}{s:Shared}{it t:Addr}{its:Array Value}
theorem IsRv.ty {i:Int}(x:IsRv s.heap it t i):s.TypeIs (.ref it) "reversed":=let⟨o,h,c,_⟩:=x;⟨o,h,c⟩
theorem IsRv.to {h h':Heap}{i:Int}(x:IsRv h it t i)(k:∀o,h.get? it=some o->h'.get? it=some o):IsRv h' it t i:=let⟨o,e,r⟩:=x;⟨o,k o e,r⟩
theorem rev_iter {i:Int}{Q:Value->Shared->Prop}(x:IsRv s.heap it t i)(q:Q (.ref it) s):wpAny (model P w) A (pyIter (.ref it)) Q E s:=by
 refine Ux x.ty Yl (uq Yl x.ty Jg ?_ (JW _));show wpAny _ _ (ret (.ref it)) _ _ s;exact u0 ⟨_,rfl,"reversed",_,x.ty,Qv.lookup,q⟩
theorem rev_item {i:Nat}{v:Value}{Q:Option Value->Shared->Prop}(x:IsRv s.heap it t (i:Int))(L:IsTup s.heap t its)(M:its[i]? =some v)(hz:(its.size:Int)<2^63)
  (q:∀h' tk,0<tk->IsRv h' it t ((i:Int)-1)->Heap.SameBut it s.heap h'->Q (some v) {s with heap:=h',toks:=tk}):wpAny (model P w) A (pyNext (.ref it)) Q E s:=by
 have O:=x.ty;obtain⟨o,B,R,hd⟩:=x;have U:i<its.size:=by
  rcases uS i its.size with h|h
  ·exact h
  ·simp [Array.getElem?_eq_none h] at M
 unfold pyNext;refine wpAny_bind (vL (uw (name:=Str.ofString "__next__") O Qv (uq Qv O yX ?_ (Yv _))));unfold Builtin.«reversed.__next__»;refine wpAny_bind (u0 ?_);have I:s.TypeIs (.ref t) "tuple":=let⟨o,e,c,_⟩:=L;⟨o,e,c⟩;unfold field;refine wpAny_bind (wpAny_bind (U2 B hd (u0 (wpAny_bind (wpAny_bind (U2 B hd (u0 ?_)))))));show wpAny _ _ (if(i:Int)<0 then _ else _) _ _ _
 rw [if_neg (by omega)]
 refine wpAny_bind (wpAny_specialOf I PySem.F.slot_tuple_getitem.lookup ?_);rw [if_neg (by simp)]
 refine wpAny_bind (wpAny_mkInt (wpAny_bind (vL (getItem_tuple (s:={s with toks:=s.toks+1}) (j:=i) L (by omega) (by omega) (by simp [seqIndex?];omega) M ?_))))
 refine wpAny_bind (wpAny_bind (U2 (s:={s with toks:=s.toks+1}) B hd (u0 ?_)))
 refine wpAny_bind (vO (s:={s with toks:=s.toks+1}) B hd (by simp) (u0 ⟨_,rfl,u0 (q _ _ (Nat.succ_pos _) ⟨_,vf _ B (U6 (vj hd _)),(Obj.cls_mapFields ..).trans R,by rw [vj hd];simp [rawInt]⟩ (ve ..))⟩))
theorem rev_end {Q:Option Value->Shared->Prop}(M:A.handled=none)(x:IsRv s.heap it t (-1))(q:∀h',Heap.ExtBut it s.heap h'->Q none {s with heap:=h'}):wpAny (model P w) A (pyNext (.ref it)) Q E s:=by
 have L:=x.ty;obtain⟨o,B,O,hd⟩:=x;unfold pyNext;refine wpAny_bind (vL (uw (name:=Str.ofString "__next__") L Qv (uq Qv L yX ?_ (Yv _))));unfold Builtin.«reversed.__next__»;refine wpAny_bind (u0 ?_);unfold field;refine wpAny_bind (wpAny_bind (U2 B hd (u0 (wpAny_bind (wpAny_bind (U2 B hd (u0 ?_)))))));show wpAny _ _ (if(-1:Int)<0 then _ else _) _ _ _
 rw [if_pos (by decide)]
 refine wpAny_bind (vm (wpAny_bind ?_));show wpAny _ _ (setField (.ref it) 1 (rawInt (-1))>>=fun _=>setField (.ref it) 0 .none) _ _ _;refine wpAny_bind (vO B hd (by simp) ?_)
 have I:=vf (h:=s.heap) (a:=it) (f:=Obj.mapFields (·.setIfInBounds 1 (rawInt (-1)))) B (U6 (vj hd _));refine vO (s:={s with heap:=s.heap.update it (Obj.mapFields (·.setIfInBounds 1 (rawInt (-1))))}) I (vj hd _) (by simp) ?_
 refine wpAny_bind ?_;unfold Builtin.SmallTypes.stopIteration;refine wpAny_bind ?_;simp only [newExc,newTuple];refine wpAny_bind (uD ?_ (by size_fits))
 refine wpAny_bind (m:=firstArgMember _ _) (Uu (a:=Value.none) (by first|rfl|(simp only [firstArgMember];rfl)) ?_)
 refine uD ?_ (by size_fits)
 simp only [raiseNew];refine wpAny_bind (wpAny_handled ?_);rw [show A.in1.handled=none from M]
 refine wpAny_bind (u0 (wpAny_throw ?_));refine wpAny_bind (wpAny_isInstance (T:="StopIteration") (b:=true) ⟨_,ug _ rfl,rfl⟩ isSubtype_stop ?_);refine u0 (q _ fun b o nb e=> ?_);refine u8 _ (u8 _ ?_);rw [uX _ _ (vZ nb),uX _ _ (vZ nb)];exact e
end
end AwZ
namespace L2
open PySem PySem.Spec PyProof.Rows
def Irv (K:PySem.W.Frag)(a:Addr)(n:Nat):It:=
 ⟨fun i H=>i<n/\∃xs,SqT K H a xs/\xs.length=n,fun i H x H'=>H'=H/\∀xs,SqT K H a xs->xs[n-1-i]? =some x,fun i _=>i=n⟩
theorem turn_rev {P:Program}{w:World}{K:PySem.W.Frag}{tg:Expr}(a it:Addr)(n:Nat):Turn P w K tg (Irv K a n) [it] it (fun i h=>i<=n/\AwZ.IsRv h it a ((n:Int)-1-(i:Int))) where
 mem:=by simp
 obj:=fun i h st b L=>by
  have e:b=it:=by simpa using L
  subst e;obtain⟨_,o,e,c,d⟩:=st;exact⟨o,e,fun v z=>by rw [d] at z;cases z⟩
 keep:=fun i h h' st k=>⟨st.1,st.2.to fun o e=>k it (by simp) o e⟩
 item:=by
  intro X R U Y hc i pins s σ H E I O st Z;subst R U Y;obtain⟨hi,xs,hq,hx⟩:=Z;obtain⟨its,rv,p,hz⟩:=I.tuple hq;obtain⟨u,hu,ru⟩:=rv.get (i:=n-1-i) (x:=xs[n-1-i]'(by omega)) (u7 (by omega))
  obtain⟨f0,f1,f2,f3,f4,f5⟩:=O it (by simp)
  have hl:=rv.length;have hs:=vi;have e0:(n:Int)-1-(i:Int)=((n-1-i:Nat):Int):=by omega
  have B:=st.2;rw [e0] at B;refine AwZ.rev_item (i:=n-1-i) (its:=its.toArray) B p (by simpa using hu) (by simp;omega) fun h' tk htk M sb=> ?_
  have I1:Inv X pins σ H {s with heap:=h',toks:=tk}:=I.turned (t':=tk) (fun b o L e=>(sb.2 b L).trans e) f0 f1 f3 f4 f5 htk
  obtain⟨o,e,c,d⟩:=id M;refine⟨u,rfl,go_of (s:={s with heap:=h',toks:=tk}) e c d (by decide) ⟨xs[n-1-i]'(by omega),H,I1,ru,⟨rfl,fun ys hy=> ?_⟩,⟨hi,?_⟩,fun b L=>(O b L).1⟩⟩
  ·rw [I.tuple_inj hy hq];exact u7 (by omega)
  ·rw [show(n:Int)-1-((i+1:Nat):Int)=((n-1-i:Nat):Int)-1 by omega]
   exact M
 done:=by
  intro X R U Y hc i pins s σ H E I O st Z;subst R U Y;have hi:i=n:=Z;subst hi;obtain⟨f0,f1,f2,f3,f4,f5⟩:=O it (by simp)
  have B:=st.2;rw [show(i:Int)-1-(i:Int)= -1 by omega] at B
  exact AwZ.rev_end (I.ok.hd hc) B fun h' eb=>⟨rfl,I.turned (t':=s.toks) (fun b o L e=>eb b o L e) f0 f1 f3 f4 f5⟩
 self:=fun _ _ _ _ _ st h=>AwZ.rev_iter st.2 h
theorem for_rev {K:PySem.W.Frag}{a:Addr}{xs:List V}{g:TG}{tb:TS}{D:Ends}{σ:St}{H:Hp}(B:Nat->St->Hp->Prop)(O:B 0 σ H)(R:∀i σ H,i<=xs.length->B i σ H->SqT K H a xs)
  (U:∀i x σ H,i<xs.length->xs[xs.length-1-i]? =some x->B i σ H->g x σ H fun I H2=>tb {D with nx:=B (i+1),ct:=B (i+1),bk:=D.nx} I H2) (hd:∀σ H,B xs.length σ H->D.nx σ H):
  ∃W:Nat->Nat->St->Hp->Prop,(∃m,W 0 m σ H)/\∀i m σ H,W i m σ H->
   ((Irv K a xs.length).stop i H/\D.nx σ H)∨((Irv K a xs.length).go i H/\∃N:St->Hp->Prop,(∀L H',N L H'->∃M,M<m/\W (i+1) M L H')/\∀x H',(Irv K a xs.length).yld i H x H'->g x σ H' fun I H2=>tb {D with nx:=N,ct:=N,bk:=D.nx} I H2):=by
 refine⟨fun i m σ H=>m=xs.length-i/\i<=xs.length/\B i σ H,⟨xs.length,by simp,uG _,O⟩,?_⟩
 rintro i m σ H ⟨rfl,hi,p⟩;have q:=R i σ H hi p;rcases uS i xs.length with z|z
 ·refine .inr ⟨⟨z,xs,q,rfl⟩,B (i+1),fun L H' Y=>⟨xs.length-(i+1),by omega,rfl,z,Y⟩,fun x H' y=> ?_⟩
  obtain⟨e,y⟩:=y;subst e;exact U i x σ _ z (y xs q) p
 ·have e:i=xs.length:=by omega
  exact .inl ⟨e,hd σ H (e▸p)⟩
def iRev (K:PySem.W.Frag)(te:TE):TI:=fun σ H R=>te σ H fun x H2=>∃a xs,x= .ref a/\SqT K H2 a xs/\R (Irv K a xs.length) H2
section
variable {X:Cx}
theorem pi_rev {tg:Expr}{p pos:Pos}{e:Expr}{te:TE}(U:Gl X "reversed")(hm:X.mg "reversed"=none)(Y:PE X e te)(O:starEach [e] X.env= [(false,eval e X.env)]:=by rfl):
  PI X tg (.Call (.Name "reversed" p) [e] [] pos) (iRev X.K te):=by
 intro pins s σ H R I h;have ha:PA X [e] (tCons te tNil):=qa Y qc O;refine Call_ (j5 I U hm boot_reversed (vD (thn (ha pos pins s σ H (fun vs H2=>match vs with| [x]=>∃a xs,x= .ref a/\SqT X.K H2 a xs/\R (Irv X.K a xs.length) H2|_=>False) I h) fun us s2 ⟨vs,H2,L,M,q1⟩=> ?_) (by rw [O];rfl) (by rfl)))
 match vs,M,q1 with
 | [x],M,q1=>
 obtain⟨a,xs,rfl,Z,q⟩:=q1;obtain⟨u,rfl,ru⟩:=yn M;cases ru;obtain⟨its,ra,pa,za⟩:=L.tuple Z;have hl:=ra.length;have hz:=vi;refine AwZ.new_kw (kw:= []) AwZ.j6 (by decide) (F.typeCall_reversed_1 _) (F.newCall_reversed_1 _) (fun obj=>F.args_object_init_2 _ _) F.entry_reversed_new (AwZ.rev_made a its.toArray) ⟨pa,by simp;omega,?_⟩
 have B:AwZ.IsRv (s2.heap.push (AwZ.revO a ((its.toArray.size:Int)-1))) s2.heap.objs.size a ((its.toArray.size:Int)-1):=⟨_,ug _ rfl,rfl,rfl⟩;refine⟨⟨_,ug _ rfl,rfl⟩,?_⟩;refine AwZ.rev_iter (s:={s2 with heap:=_,toks:=_}) B ?_
 refine⟨_,[s2.heap.objs.size],_,_,H2,rfl,L.kept (t':=s2.toks+1+1) (fun b o e=>u8 _ e),turn_rev a _ xs.length,⟨uG _,?_⟩,fun x hx=> ?_,q⟩
 ·simpa [hl] using B
 ·have e:x=s2.heap.objs.size:=by simpa using hx
  subst e;exact L.fpOk (Nat.le_refl _) (L.hok.fresh (Nat.le_refl _))
def rEqA:R2:=fun x y H Q=>∃d e:D,Is H d x/\Is H e y/\kD d=true/\kD e=true/\dp d<=60/\Q (.bl (eqN d e)) H
theorem op_eqA (hu:X.A.units+64<cLine):OpR X (compareOp .Eq) rEqA:=by
 intro pins s σ H x y v u Q I B L h;obtain⟨d,e,h1,h2,Z,U,hd,q⟩:=h;have M:X.A.units<cLine:=by omega
 cases d with
 |non=>
  cases(show x= .non from h1)
  cases e with
  |non=>
   cases(show y= .non from h2)
   exact QK pins s σ H .non .non v u Q I B L ⟨rfl,by simpa [eqN] using q⟩
  |str z=>
   obtain⟨rfl,_⟩:=(show y= .str z/\_ from h2)
   exact QK pins s σ H .non (.str z) v u Q I B L ⟨rfl,by simpa [eqN] using q⟩
  |tup ys=>
   obtain⟨p,us,rfl,O,Y⟩:=(show∃p us,y=V.ref p/\H p=some (.tup us)/\IsL H ys us from h2)
   cases B;cases L;obtain⟨its,_,R,_⟩:=I.tuple (.inl (.of O));exact SeqAt.RcAt.none_tuple R M X.prog X.w X.xe _ ⟨.bl false,H,I,rfl,by simpa [eqN] using q⟩
  |_=>simp [kD] at U
 |str z=>
  obtain⟨rfl,_⟩:=(show x= .str z/\_ from h1)
  cases e with
  |non=>
   cases(show y= .non from h2)
   exact QK pins s σ H (.str z) .non v u Q I B L ⟨rfl,by simpa [eqN] using q⟩
  |str w=>
   obtain⟨rfl,_⟩:=(show y= .str w/\_ from h2)
   refine QK pins s σ H (.str z) (.str w) v u Q I B L ⟨rfl,?_⟩;have e1:eqN (.str z) (.str w)=decide (V.str z=V.str w):=by
    simp only [eqN];by_cases c:z=w
    ·subst c;simp
    ·simp [c]
   rw [e1] at q;exact q
  |tup ys=>
   obtain⟨p,us,rfl,O,Y⟩:=(show∃p us,y=V.ref p/\H p=some (.tup us)/\IsL H ys us from h2)
   obtain⟨t,rfl⟩:=B;cases L;obtain⟨its,_,R,_⟩:=I.tuple (.inl (.of O));exact SeqAt.RcAt.str_tuple _ _ R M X.prog X.w X.xe _ ⟨.bl false,H,I,rfl,by simpa [eqN] using q⟩
  |_=>simp [kD] at U
 |tup xs=>
  cases e with
  |non=>
   obtain⟨p,us,rfl,O,Y⟩:=(show∃p us,x=V.ref p/\H p=some (.tup us)/\IsL H xs us from h1)
   cases(show y= .non from h2)
   cases B;cases L;obtain⟨its,_,R,_⟩:=I.tuple (.inl (.of O));exact SeqAt.RcAt.tuple_none R M X.prog X.w X.xe _ ⟨.bl false,H,I,rfl,by simpa [eqN] using q⟩
  |str w=>
   obtain⟨p,us,rfl,O,Y⟩:=(show∃p us,x=V.ref p/\H p=some (.tup us)/\IsL H xs us from h1)
   obtain⟨rfl,_⟩:=(show y= .str w/\_ from h2)
   cases B;obtain⟨t,rfl⟩:=L;obtain⟨its,_,R,_⟩:=I.tuple (.inl (.of O));exact SeqAt.RcAt.tuple_str _ _ R M X.prog X.w X.xe _ ⟨.bl false,H,I,rfl,by simpa [eqN] using q⟩
  |tup ys=>
   refine op_eqN hu pins s σ H x y v u Q I B L ⟨xs,ys,h1,h2,kL_n (by simpa [kD] using Z),kL_n (by simpa [kD] using U),?_,by simpa [eqN] using q⟩
   have:dp (.tup xs)=1+dpL xs:=by simp only [dp]
   omega
  |_=>simp [kD] at U
 |_=>simp [kD] at Z
theorem JO:bootBuiltins "set"=some (.type "set"):=by decide+kernel
def rEqE (K:PySem.W.Frag):R2:=fun x y H Q=>∃(a b:Addr) (xs:List V),x= .ref a/\y= .ref b/\SqL K H a xs/\SqL K H b []/\Q (.bl (decide (xs= []))) H
theorem op_eqE (hu:X.A.units<cLine):OpR X (compareOp .Eq) (rEqE X.K):=by
 intro pins s σ H x y v u Q I O R h;obtain⟨a,b,xs,rfl,rfl,ha,U,q⟩:=h;cases O;cases R;obtain⟨its,M,pl,_⟩:=I.list ha;obtain⟨its',L,B,_⟩:=I.list U;cases L;cases xs with
 |nil=>
  cases M;exact SeqAt.RcAt.lists (e:=fun _=>true) pl.isList B.isList rfl hu (fun j h1 h2=>by simp at h1) X.prog X.w X.xe _ ⟨.bl true,H,I,rfl,by simpa using q⟩
 |cons x xs=>
  cases M with
  |cons Y Z=>exact SeqAt.RcAt.lists_lengths pl.isList B.isList (by simp) hu X.prog X.w X.xe _ ⟨.bl false,H,I,rfl,by simpa using q⟩
end
end L2
namespace K27
open PySem L2 PyProof.Rows
open Builtin.Int (intBits)
def top (i:Nat):Stmt:=PySem.Challenge.pw_askwright_k27_walks.main.body.getD i (.Pass ⟨0,0,0,0⟩)
abbrev jK:Stmt:=top 14
abbrev Yn:Stmt:=top 15
abbrev YX:Stmt:=top 16
abbrev jX:Stmt:=top 17
abbrev jZ:Stmt:=top 20
abbrev JX:Stmt:=top 21
abbrev Qx:Stmt:=top 22
abbrev Yj:Stmt:=top 23
abbrev JP:Stmt:=top 24
abbrev Qy:Stmt:=top 25
abbrev JV:Stmt:=top 26
abbrev y8:Stmt:=YS (top 29) 0
abbrev Q0:Stmt:=YS (top 30) 0
abbrev yk:Stmt:=YS (top 30) 1
abbrev ym:Stmt:=YS (top 30) 2
abbrev QV:Stmt:=YS (top 30) 3
abbrev QW:Stmt:=YS (top 30) 4
abbrev yO:Stmt:=top 31
abbrev yJ:Stmt:=top 32
abbrev Jw:Stmt:=top 33
abbrev jB:Stmt:=top 36
abbrev Y2:Stmt:=top 37
abbrev Jc:Stmt:=top 38
abbrev Yc:Stmt:=top 39
abbrev yo:Stmt:=top 40
abbrev jM:Stmt:=top 41
abbrev Yg:Stmt:=top 43
abbrev Yu:Stmt:=top 44
abbrev jN:Stmt:=top 45
abbrev QS:Stmt:=top 46
abbrev Qs:Stmt:=top 47
abbrev s_law:Stmt:=top 48
structure Ad where
 f_is_text:Addr
 d_is_text:FuncData
 f_is_tree:Addr
 d_is_tree:FuncData
 yc:Addr
 yd:FuncData
 f_is_name:Addr
 d_is_name:FuncData
 f_is_pair:Addr
 d_is_pair:FuncData
 f_is_ask:Addr
 d_is_ask:FuncData
 Q9:Addr
 ya:FuncData
 jI:Addr
 j7:FuncData
 f_is_end:Addr
 d_is_end:FuncData
 yb:Addr
 Q6:FuncData
 f_is_run:Addr
 d_is_run:FuncData
 Yi:Addr
 jP:FuncData
 Q1:Addr
 yU:FuncData
 YJ:Addr
 Yz:FuncData
 yp:Addr
 yf:FuncData
 Q3:Addr
 Q2:FuncData
 yW:Addr
 yV:FuncData
 jj:Addr
 jc:FuncData
 Y6:Addr
 jf:FuncData
 xf:Addr
 JB:FuncData
 f_law_pot:Addr
 d_law_pot:FuncData
 Jk:Addr
 Jp:FuncData
 yG:Addr
 yH:FuncData
 jS:Addr
 jA:FuncData
 YB:Addr
 YA:FuncData
 f_law_way:Addr
 d_law_way:FuncData
 jC:Addr
 jH:FuncData
 f_law_due:Addr
 d_law_due:FuncData
 f_law_put:Addr
 d_law_put:FuncData
 jm:Addr
 jd:FuncData
 YI:Addr
 YC:FuncData
 f_law:Addr
 d_law:FuncData
 qu:Addr
 ql:Addr
structure Tx (K:PySem.W.Frag)(mg:Str->Option Value)(a:Ad):Prop where
 g_is_text:FF K mg "is_text" jK ["value"] a.f_is_text a.d_is_text
 g_is_tree:FF K mg "is_tree" Yn ["value"] a.f_is_tree a.d_is_tree
 g_tree_key:FF K mg "tree_key" YX ["tree"] a.yc a.yd
 g_is_name:FF K mg "is_name" jX ["value"] a.f_is_name a.d_is_name
 g_is_pair:FF K mg "is_pair" jZ ["value"] a.f_is_pair a.d_is_pair
 g_is_ask:FF K mg "is_ask" JX ["value"] a.f_is_ask a.d_is_ask
 g_is_row_of_names:FF K mg "is_row_of_names" Qx ["tree"] a.Q9 a.ya
 g_is_answer:FF K mg "is_answer" Yj ["ask","answer"] a.jI a.j7
 g_is_end:FF K mg "is_end" JP ["value"] a.f_is_end a.d_is_end
 g_is_answered_ask:FF K mg "is_answered_ask" Qy ["value"] a.yb a.Q6
 g_is_run:FF K mg "is_run" JV ["value"] a.f_is_run a.d_is_run
 g_Node_init:FM K a.qu "__init__" "Node.__init__" y8 ["self","there"] a.Yi a.jP
 g_AskTree_init:FM K a.ql "__init__" "AskTree.__init__" Q0 ["self"] a.Q1 a.yU
 g_AskTree_put:FM K a.ql "put" "AskTree.put" yk ["self","run","givers"] a.YJ a.Yz
 g_AskTree_lay:FM K a.ql "lay" "AskTree.lay" ym ["self","run","givers"] a.yp a.yf
 g_AskTree_ways:FM K a.ql "ways" "AskTree.ways" QV ["self"] a.Q3 a.Q2
 g_AskTree_walk:FM K a.ql "walk" "AskTree.walk" QW ["self","answers"] a.yW a.yV
 g_are_givers:FF K mg "are_givers" yO ["value"] a.jj a.jc
 g_answer_key:FF K mg "answer_key" yJ ["answer"] a.Y6 a.jf
 g_branch:FF K mg "branch" Jw ["run","givers","place"] a.xf a.JB
 g_law_pot:FF K mg "_law_pot" jB ["cell","salt"] a.f_law_pot a.d_law_pot
 g_law_take:FF K mg "_law_take" Y2 ["pot","many"] a.Jk a.Jp
 g_law_key:FF K mg "_law_key" Jc ["tree"] a.yG a.yH
 g_law_there:FF K mg "_law_there" Yc ["salt","path","lacked"] a.jS a.jA
 g_law_choices:FF K mg "_law_choices" yo ["ask"] a.YB a.YA
 g_law_way:FF K mg "_law_way" jM ["salt","pot"] a.f_law_way a.d_law_way
 g_law_order:FF K mg "_law_order" Yg ["run"] a.jC a.jH
 g_law_due:FF K mg "_law_due" Yu ["kept"] a.f_law_due a.d_law_due
 g_law_put:FF K mg "_law_put" jN ["kept","run","givers"] a.f_law_put a.d_law_put
 g_law_walked:FF K mg "_law_walked" QS ["runs","answers"] a.jm a.jd
 g_law_answers:FF K mg "_law_answers" Qs ["pot","run"] a.YI a.YC
 g_law:FF K mg "law" s_law ["script"] a.f_law a.d_law
 qL:Cls K a.qu
 M_Node:Mk K a.qu a.Yi
 m_Node:mg "Node"=some (.ref a.qu)
 Qo:yP K a.qu "there"
 qy:yP K a.qu "edges"
 QH:yP K a.qu "way"
 Qe:yP K a.qu "givers"
 qJ:Cls K a.ql
 M_AskTree:Mk K a.ql a.Q1
 m_AskTree:mg "AskTree"=some (.ref a.ql)
 qE:yP K a.ql "beginning"
 m_MOST_SIGNS:∃t,mg "MOST_SIGNS"=some (.int 300 t)
 m_MOST_PARTS:∃t,mg "MOST_PARTS"=some (.int 40 t)
 m_MOST_SIZE:∃t,mg "MOST_SIZE"=some (.int 600 t)
 m_MOST_DEPTH:∃t,mg "MOST_DEPTH"=some (.int 12 t)
 YT:∃t,mg "MOST_NAME_SIGNS"=some (.int 24 t)
 m_LETTERS:∃t,mg "LETTERS"=some (.str "abcdefghijklmnopqrstuvwxyz" t)
 m_NAME_SIGNS:∃t,mg "NAME_SIGNS"=some (.str "abcdefghijklmnopqrstuvwxyz0123456789./" t)
 m_PERCENT:∃t,mg "PERCENT"=some (.int 37 t)
 m_MOST_GIVER:∃t,mg "MOST_GIVER"=some (.int 99 t)
 z_ord:mg "ord"=none
 yh:mg "len"=none
 qI:mg "isinstance"=none
 z_str:mg "str"=none
 Qj:mg "tuple"=none
 z_all:mg "all"=none
 Yq:mg "sorted"=none
 z_set:mg "set"=none
 z_enumerate:mg "enumerate"=none
 z_bool:mg "bool"=none
 z_int:mg "int"=none
 z_reversed:mg "reversed"=none
 z_range:mg "range"=none
 z_abs:mg "abs"=none
 z_list:mg "list"=none
 z_sum:mg "sum"=none
theorem Jl:qz ["value","sign"] ["value"] (qj jK):=by trivial
theorem Qp:qz ["value","size","waiting","pair","part","depth"] ["value"] (qj Yn):=by trivial
theorem sc_tree_key:qz ["tree"] ["tree"] (qj YX):=by trivial
theorem sc_is_name:qz ["value"] ["value"] (qj jX):=by trivial
theorem sc_is_pair:qz ["value"] ["value"] (qj jZ):=by trivial
theorem sc_is_ask:qz ["value"] ["value"] (qj JX):=by trivial
theorem Yw:qz ["tree"] ["tree"] (qj Qx):=by trivial
theorem sc_is_answer:qz ["ask","answer"] ["ask","answer"] (qj Yj):=by trivial
theorem sc_is_end:qz ["value"] ["value"] (qj JP):=by trivial
theorem YE:qz ["value"] ["value"] (qj Qy):=by trivial
theorem sc_is_run:qz ["value"] ["value"] (qj JV):=by trivial
theorem sc_Node_init:qz ["self","there"] ["self","there"] (qj y8):=by trivial
theorem jJ:qz ["self"] ["self"] (qj Q0):=by trivial
theorem Jd:qz ["self","run","givers"] ["self","run","givers"] (qj yk):=by trivial
theorem Ql:qz ["self","run","givers","node","place","pair"] ["self","run","givers"] (qj ym):=by trivial
theorem Qc:qz ["self","found","waiting","node","answer"] ["self"] (qj QV):=by trivial
theorem Qd:qz ["self","answers","gone","node","answer"] ["self","answers"] (qj QW):=by trivial
theorem QE:qz ["value","last","giver"] ["value"] (qj yO):=by trivial
theorem J8:qz ["answer"] ["answer"] (qj yJ):=by trivial
theorem yE:qz ["run","givers","place","node","pair","above"] ["run","givers","place"] (qj Jw):=by trivial
theorem QI:qz ["cell","salt","step","big","k"] ["cell","salt"] (qj jB):=by trivial
theorem jz:qz ["pot","many","digit"] ["pot","many"] (qj Y2):=by trivial
theorem sc_law_key:qz ["tree"] ["tree"] (qj Jc):=by trivial
theorem QA:qz ["salt","path","lacked","step","digit","long"] ["salt","path","lacked"] (qj Yc):=by trivial
theorem Je:qz ["ask"] ["ask"] (qj yo):=by trivial
theorem q9:qz ["salt","pot","path","asks","lacked","turn","ended","there","some"] ["salt","pot"] (qj jM):=by trivial
theorem QP:qz ["run","found","ask","tree"] ["run"] (qj Yg):=by trivial
theorem sc_law_due:qz ["kept"] ["kept"] (qj Yu):=by trivial
theorem sc_law_put:qz ["kept","run","givers"] ["kept","run","givers"] (qj jN):=by trivial
theorem qQ:qz ["runs","answers","asks","left","tree","ask","after"] ["runs","answers"] (qj QS):=by trivial
theorem Qk:qz ["pot","run","answers","some","way","at"] ["pot","run"] (qj Qs):=by trivial
theorem yr:qz ["script","salt","tree","kept","cell","run","runs","pot","answers","lone"] ["script"] (qj s_law):=by trivial
structure Ga where
 (faults:Addr)
def FLT:List Str:= ["told","kind","name","lack","big","silent","long"]
structure Fx (K:PySem.W.Frag)(w:World)(mg:Str->Option Value)(g:Ga)(a:Ad):Prop where
 m_FAULTS:mg "FAULTS"=some (.ref g.faults)
 faults:∀H,SqT K H g.faults (FLT.map V.str)
def PotB (m:Nat)(H:Hp)(p:Addr):Prop:=∃x:Int,H p=some (.lst [.int x])/\0<=x/\intBits x<=m
def QZ (H:Hp)(p:Addr):Prop:=∃x:Int,H p=some (.lst [.int x])/\0<=x
theorem QZ.same {H H':Hp}{p:Addr}(h:QZ H p)(s:Same H H'):QZ H' p:=by
 obtain⟨x,e,r⟩:=h;exact⟨x,s _ _ e,r⟩
theorem QZ.free {H:Hp}{p l:Addr}(h:QZ H p)(n:H l=none):p≠l:=by
 obtain⟨x,e,r⟩:=h;exact qf e n
theorem QZ.tk {H H':Hp}{p:Addr}(h:QZ H p)(h':QZ H' p)(k:Kept p H H'):Tk H H':=by
 obtain⟨x,e,_⟩:=h;obtain⟨I,B,_⟩:=h';exact k.tk e B
def MB:Nat:=1048576
def sp_take:Sp:=fun vs H Q _=>∃(p:Addr) (many:Int),vs= [.ref p,.int many]/\QZ H p/\0<many/\many<1073741824/\∀(d:Int) (H':Hp),0<=d->d<many->QZ H' p->Kept p H H'->(PotB MB H p->PotB MB H' p)->Q (.int d) H'
def sp_pot:Sp:=fun vs H Q _=>∃(c t:Int),vs= [.int c,.int t]/\0<=t/\t<1000/\∀(p:Addr) (H':Hp),H p=none->Same H H'->QZ H' p->Q (.ref p) H'
theorem Yb {n:Nat}(h:n<=1000):n<=sizeLine:=vB (qX h)
theorem fits {n:Nat}(h:n<=16000000):n<=sizeLine:=by rw [vi];omega
theorem big_bits {n:Nat}{b s:Int}(B:0<=b)(h:intBits b<=32*n)(I:0<=s)(s1:s<2147483629):intBits (b*2147483629+s)<=32*(n+1):=by
 have h1:=intBits_le_iff.mp h;refine intBits_le_iff.mpr ?_;have e:(2:Nat)^(32*(n+1))=2^(32*n)*4294967296:=by rw [Nat.mul_add,Nat.pow_add]
 rw [e];generalize 2^(32*n)=N at h1;omega
section
variable {P:Program}{w:World}{K:PySem.W.Frag}{mg:Str->Option Value}{base:Heap}{a:Ad}
theorem ok_take (T:Tx K mg a):FnOk P w K mg base CX0 1 a.Jk a.Jp ["pot","many"] sp_take:=by
 refine T.g_law_take.F.ok jz (by trivial) (fun _ _ _ _ H _ Q E R h=> ?_)
 obtain⟨p,many,rfl,⟨x,B,hx⟩,hm,I,k⟩:=h;refine⟨_,(@qd _ _ _ _ _ (@qx _ _ (2) _ _ _ _ jz.nd rfl (Or.inl rfl) (@qY _ _ _ _ _ _ _ _ yZ (@qA _ _ _ _ _ _ _ qW (pv 0) qh (fun _ _=>rfl)) (pv 1)) (by trivial) (by trivial)) (@qd _ _ _ _ _ (@ps_asg _ _ _ _ _ _ (@qY _ _ _ _ _ _ _ _ op_fdiv (@qA _ _ _ _ _ _ _ qW (pv 0) qh (fun _ _=>rfl)) (pv 1)) (@pg_sub _ _ _ _ _ _ _ (pv 0) qh set_list (by trivial)) (by trivial) (by trivial) (by trivial)) (@qg _ _ _ (@qr _ _ _ _ (pv 2))))),?_⟩
 refine⟨_,rfl,p,_,_,_,rfl,rfl,SqL.of B,rfl,_,rfl,_,_,rfl,rfl,hm,?_⟩;refine⟨_,rfl,p,_,_,_,rfl,rfl,SqL.of B,rfl,_,rfl,_,_,rfl,rfl,⟨hm,I⟩,_,rfl,p,_,_,_,rfl,rfl,B,rfl,?_⟩;refine⟨_,rfl,?_⟩;refine k _ _ (va _ (by omega)) (uR _ hm) ⟨x/many,qe,Int.ediv_nonneg hx (by omega)⟩ (Kept.upd _ _ _) fun⟨y,L,M,O⟩=>⟨x/many,qe,Int.ediv_nonneg hx (by omega),?_⟩
 have e:=L.symm.trans B;cases e;refine intBits_le_of_natAbs ?_ O;have h1:x/many<=x:=Int.ediv_le_self _ hx;have h2:0<=x/many:=Int.ediv_nonneg hx (by omega)
 omega
theorem ok_pot (T:Tx K mg a):FnOk P w K mg base CX0 1 a.f_law_pot a.d_law_pot ["cell","salt"] sp_pot:=by
 refine T.g_law_pot.F.ok QI (by trivial) (fun _ _ _ _ H _ Q E Y h=> ?_)
 obtain⟨c,t,rfl,Z,h1,k⟩:=h;refine⟨_,(@qd _ _ _ _ _ (@qM _ _ _ _ _ _ _ _ (@qq _ _ _ _ _ _ _ _ op_ge (@qp _ _ _ _ _ _ _ _ _ call_abs (by rfl) T.z_abs boot_abs (@qa _ _ _ _ _ (pv 0) qc (by trivial)) (by trivial) (by trivial) (by trivial) (by trivial)) (@qY _ _ _ _ _ _ _ _ op_pow qh qh) (qw _)) (@qg _ _ _ (@qr _ _ _ _ (@Qb _ _ _ _ (@qa _ _ _ _ _ (@qp _ _ _ _ _ _ _ _ _ call_abs (by rfl) T.z_abs boot_abs (@qa _ _ _ _ _ (pv 0) qc (by trivial)) (by trivial) (by trivial) (by trivial) (by trivial)) qc (by trivial))))) qs) (@qd _ _ _ _ _ (@qx _ _ (2) _ _ _ _ QI.nd rfl (Or.inl rfl) (@qY _ _ _ _ _ _ _ _ yZ (@qY _ _ _ _ _ _ _ _ jT (@qY _ _ _ _ _ _ _ _ ye (@qY _ _ _ _ _ _ _ _ ye (@qY _ _ _ _ _ _ _ _ yZ (pv 0) qh) (@qY _ _ _ _ _ _ _ _ jT qh (pv 1))) qh) qh) qh) (by trivial) (by trivial)) (@qd _ _ _ _ _ (@qx _ _ (3) _ _ _ _ QI.nd rfl (Or.inl rfl) qh (by trivial) (by trivial)) (@qd _ _ _ _ _ (@Q4 _ _ _ _ _ _ _ _ uO rfl (@jQ _ _ _ _ _ _ (by rfl) T.z_range (@qa _ _ _ _ _ qh qc (by trivial)) (by trivial)) (@qF _ _ (4) _ QI.nd rfl (Or.inl rfl) (by trivial)) (@qd _ _ _ _ _ (@qx _ _ (2) _ _ _ _ QI.nd rfl (Or.inl rfl) (@qY _ _ _ _ _ _ _ _ yZ (@qY _ _ _ _ _ _ _ _ ye (@qY _ _ _ _ _ _ _ _ ye (@qY _ _ _ _ _ _ _ _ jT (pv 2) (pv 2)) (@qY _ _ _ _ _ _ _ _ jT qh (pv 4))) qh) qh) (by trivial) (by trivial)) (@qg _ _ _ (@qx _ _ (3) _ _ _ _ QI.nd rfl (Or.inl rfl) (@qY _ _ _ _ _ _ _ _ ye (@qY _ _ _ _ _ _ _ _ jT (pv 3) qh) (pv 2)) (by trivial) (by trivial)))) (by trivial)) (@qg _ _ _ (@qr _ _ _ _ (@Qb _ _ _ _ (@qa _ _ _ _ _ (pv 3) qc (by trivial))))))))),?_⟩
 refine⟨_,rfl,_,rfl,_,_,rfl,rfl,⟨by decide,by decide,by decide⟩,_,_,rfl,rfl,_,rfl,?_⟩
 refine ite2 (fun _=> ?_) (fun _=> ?_)
 ·refine⟨_,rfl,_,rfl,(by show 1<=sizeLine;decide),fun p B=> ?_⟩
  refine k p _ B (qb B _) ⟨_,qe,?_⟩;split<;>omega
 ·refine⟨_,rfl,_,_,rfl,rfl,(by show(0:Int)<2147483647;decide),_,rfl,_,_,rfl,rfl,(.inl ⟨by decide,by decide⟩),_,_,rfl,rfl,_,_,rfl,rfl,_,_,rfl,rfl,(.inr ⟨by decide,by decide⟩),_,_,rfl,rfl,(by show(0:Int)<2147483647;decide),9,rfl,by decide,by decide,?_⟩
  let J1_:Nat->L2.St->Hp->Prop:=fun i σ H'=>∃(x b:Int) (kv:Option V),σ= [some (.int c),some (.int t),some (.int x),some (.int b),kv]/\0<=x/\x<2147483647/\0<=b/\intBits b<=32*i/\H'=H
  refine for_range (n:=9) J1_ ⟨_,_,none,rfl,va _ (by decide),uR _ (by decide),by decide,by decide,rfl⟩ ?_ ?_
  ·rintro i σ H' hi ⟨x,b,kv,rfl,O,R,M,I,rfl⟩;have L:CMul x x:= .inl ⟨by omega,by omega⟩
   refine⟨_,rfl,_,rfl,_,_,rfl,rfl,L,_,rfl,_,_,rfl,rfl,(.inl ⟨by decide,by decide⟩),_,_,rfl,rfl,_,_,rfl,rfl,_,_,rfl,rfl,(by show(0:Int)<2147483629;decide),_,rfl,_,_,rfl,rfl,(.inr ⟨by decide,by decide⟩),_,rfl,_,_,rfl,rfl,?_⟩
   have U:0<=(x*x+40692*(0+(i:Int))+3)%2147483629:=va _ (by decide)
   have q1:(x*x+40692*(0+(i:Int))+3)%2147483629<2147483629:=uR _ (by decide)
   exact⟨_,_,_,rfl,U,Int.lt_trans q1 (by decide),Int.add_nonneg (Int.mul_nonneg M (by decide)) U,big_bits M I U q1,rfl⟩
  ·rintro σ H' ⟨x,b,kv,rfl,O,R,M,I,rfl⟩;exact⟨_,rfl,(by show 1<=sizeLine;decide),fun p B=>k p _ B (qb B _) ⟨_,qe,M⟩⟩
end
end K27
namespace K27
open PySem L2 PyProof.Rows
theorem okText_long {z:Str}(h:300<z.length):yt z=false:=by
 unfold yt;rw [ub (by omega)]
 rfl
def isTx:D->Bool
 | .str z=>yt z
 |_=>false
def sp_is_text:Sp:=fun vs H Q _=>∃v d,vs= [v]/\Is H d v/\Q (.bl (isTx d)) H
def sp_is_tree:Sp:=fun vs H Q _=>∃v d,vs= [v]/\Is H d v/\∀H',Same H H'->Q (.bl (isT d)) H'
def pr (p:D×Nat):D:= .tup [p.1,.int (p.2:Int)]
theorem okText_bad {z:Str}{i c:Nat}(h:z.cps[i]? =some c)(B:Yp c=false):yt z=false:=by
 unfold yt;have hm:c∈z.cps.toList:=by
  have:z.cps.toList[i]? =some c:=by simpa using h
  exact ui this
 have:z.cps.toList.all Yp=false:=by
  rw [List.all_eq_false];exact⟨c,hm,by rw [B];exact uf⟩
 rw [this,Uy]
section
variable {P:Program}{w:World}{K:PySem.W.Frag}{mg:Str->Option Value}{base:Heap}{a:Ad}
theorem Jo (T:Tx K mg a):FnOk P w K mg base CX0 1 a.f_is_text a.d_is_text ["value"] sp_is_text:=by
 refine T.g_is_text.F.ok Jl (by trivial) (fun _ _ _ _ H _ Q E hr h=> ?_)
 obtain⟨v,d,rfl,U,k⟩:=h;refine⟨_,(@qd _ _ _ _ _ (@qM _ _ _ _ _ _ _ _ (@YO _ _ _ _ _ _ _ (@Q8 _ _ _ _ (@Qw _ _ _ (@qp _ _ _ _ _ _ _ _ _ (@qO _ _ rfl) (by rfl) T.qI vb (@qa _ _ _ _ _ (pv 0) (@qa _ _ _ _ _ (@QL _ _ (.ty "str") _ _ (by rfl) T.z_str boot_str rfl (by trivial) (by trivial)) qc (by trivial)) (by trivial)) (by trivial) (by trivial) (by trivial) (by trivial)) (by trivial))) (@yN _ _ _ _ (@qq _ _ _ _ _ _ _ _ op_gt (@qp _ _ _ _ _ _ _ _ _ Y9 (by rfl) T.yh uF (@qa _ _ _ _ _ (pv 0) qc (by trivial)) (by trivial) (by trivial) (by trivial) (by trivial)) (@pe_gI _ _ _ _ (by rfl) T.m_MOST_SIGNS (by trivial)) (qw _)))).pt (@qg _ _ _ (@qr _ _ _ _ QF)) qs) (@qd _ _ _ _ _ (@Q4 _ _ _ _ _ _ _ _ uO rfl (@pi_str _ _ _ _ (pv 0)) (@qF _ _ (1) _ Jl.nd rfl (Or.inl rfl) (by trivial)) (@qg _ _ _ (@qM _ _ _ _ _ _ _ _ (@YO _ _ _ _ _ _ _ (@qq _ _ _ _ _ _ _ _ op_lt_str (pv 1) qo (qw _)) (@YO _ _ _ _ _ _ _ (@qq _ _ _ _ _ _ _ _ op_gt_str (pv 1) qo (qw _)) (@yN _ _ _ _ (@qq _ _ _ _ _ _ _ _ QK (@qp _ _ _ _ _ _ _ _ _ call_ord (by rfl) T.z_ord boot_ord (@qa _ _ _ _ _ (pv 1) qc (by trivial)) (by trivial) (by trivial) (by trivial) (by trivial)) (@pe_gI _ _ _ _ (by rfl) T.m_PERCENT (by trivial)) (qw _))))).pt (@qg _ _ _ (@qr _ _ _ _ QF)) qs)) (by trivial)) (@qg _ _ _ (@qr _ _ _ _ QF)))),?_⟩
 refine⟨_,rfl,v,"str",tyD d,isStr d,rfl,U.ty,kit_str d,_,rfl,?_⟩;cases d with
 |str z=>
  obtain⟨rfl,hz⟩:=U;refine iteF ?_;refine⟨_,rfl,z,rfl,hz,_,_,rfl,rfl,_,rfl,?_⟩;refine ite2 (fun c=> ?_) (fun c=> ?_)
  ·have Z:(300:Int)<(z.length:Int):=uk c;have e:isTx (.str z)=false:=okText_long (by omega)
   rw [e] at k;exact k
  ·have Z:¬(300:Int)<(z.length:Int):=fun q=>c (uc q);refine⟨_,rfl,z,rfl,?_⟩
   let J1_:Nat->L2.St->Hp->Prop:=fun i σ H'=>(∃x,σ= [some (.str z),x])/\H'=H/\(z.cps.toList.take i).all Yp=true
   refine for_str J1_ ⟨⟨_,rfl⟩,rfl,rfl⟩ ?_ ?_
   ·rintro i c σ H' Y ⟨⟨x,rfl⟩,rfl,B⟩;have I:Yp c=false->Q (.bl false) H':=fun e=>by
     have e':isTx (.str z)=false:=okText_bad Y e;rw [e'] at k;exact k
    refine⟨_,rfl,_,_,rfl,rfl,_,rfl,?_⟩;rw [show decide ((⟨#[c]⟩:Str).cps.toList<(" ":Str).cps.toList)=decide (c<32) from lt_one c 32]
    refine ite2 (fun M=> ?_) (fun M=> ?_)
    ·refine iteT (I ?_);have:=uk M;unfold Yp;rw [ub (by omega)]
     rfl
    ·have aa:¬c<32:=fun q=>M (uc q);refine⟨_,rfl,_,_,rfl,rfl,_,rfl,?_⟩;rw [show decide (("~":Str).cps.toList<(⟨#[c]⟩:Str).cps.toList)=decide (126<c) from one_gt c 126]
     refine ite2 (fun O=> ?_) (fun O=> ?_)
     ·refine iteT (I ?_);have:=uk O;unfold Yp;rw [ub (p:=c<=126) (by omega),Uy]
      rfl
     ·have ab:¬126<c:=fun q=>O (uc q);refine⟨_,rfl,_,rfl,rfl,rfl,_,rfl,?_⟩;refine ite2 (fun R=> ?_) (fun R=> ?_)
      ·have L:c=37:=by
        have:=uk R;have:=V.int.inj this;exact Int.ofNat.inj this
       exact I (by subst L;rfl)
      ·have L:c≠37:=fun q=>R (uc (by rw [q];rfl))
       refine⟨⟨_,rfl⟩,rfl,?_⟩;rw [uE,show z.cps.toList[i]? =some c by simpa using Y,List.all_append,B]
       show(true&&(Yp c&&true))=true;unfold Yp;rw [uc (by omega),uc (p:=c<=126) (by omega),uc L]
       rfl
   ·rintro σ H' ⟨⟨x,rfl⟩,rfl,B⟩;have e:isTx (.str z)=true:=by
     show yt z=true;unfold yt;rw [ut (by simp)] at B
     rw [B,uc (by omega)]
     rfl
    rw [e] at k;exact k
 |_=>exact iteT (iteT k)
theorem map_snoc {α β:Type}(f:α->β)(xs:List α)(x:α):(xs++ [x]).map f=xs.map f++ [f x]:=by simp
theorem last_at {α:Type}(us:List α)(x:α):(us++ [x])[(us++ [x]).length-1]? =some x:=by simp
theorem jy {α:Type}(us:List α)(x:α):(us++ [x]).dropLast=us:=by simp
def Wt (v:V)(d:D)(H:Hp)(L:Addr)(m:Nat)(σ:L2.St)(H':Hp):Prop:=
 ∃(n:Nat) (w:List (D×Nat)) (ws:List V) (x3 x4 x5:Option V),σ= [some v,some (.int n),some (.ref L),x3,x4,x5]/\Same H H'/\H' L=some (.lst ws)/\IsL H' (w.map pr) ws/\G w n=isT d/\n<=600/\w.length<=1+40*n/\m=ndL (w.map (·.1))
theorem Jq (T:Tx K mg a):FnOk P w K mg base CX0 2 a.f_is_tree a.d_is_tree ["value"] sp_is_tree:=by
 have jE:=Jo (P:=P) (w:=w) (base:=base) T;refine T.g_is_tree.F.ok Qp (by trivial) (fun _ _ _ _ H vs Q E hr h=> ?_)
 obtain⟨v,d,rfl,hv,k⟩:=h;refine⟨_,(@qd _ _ _ _ _ (@qx _ _ (1) _ _ _ _ Qp.nd rfl (Or.inl rfl) qh (by trivial) (by trivial)) (@qd _ _ _ _ _ (@qx _ _ (2) _ _ _ _ Qp.nd rfl (Or.inl rfl) (@Qb _ _ _ _ (@qa _ _ _ _ _ (@qk _ _ _ _ _ (@qa _ _ _ _ _ (pv 0) (@qa _ _ _ _ _ qh qc (by trivial)) (by trivial))) qc (by trivial))) (by trivial) (by trivial)) (@qd _ _ _ _ _ (@ps_while _ _ _ _ _ _ uO (@pt_truth _ _ _ (pv 2) (fun _=>rfl)) (@qd _ _ _ _ _ (@qx _ _ (3) _ _ _ _ Qp.nd rfl (Or.inl rfl) (@pe_bm0 _ _ _ _ _ _ _ _ _ uH PySem.F.slot_list_pop PySem.F.type_list_pop mt_pop (pv 2) (by trivial) (by trivial)) (by trivial) (by trivial)) (@qd _ _ _ _ _ (@qx _ _ (4) _ _ _ _ Qp.nd rfl (Or.inl rfl) (@qA _ _ _ _ _ _ _ qD (pv 3) qh (fun _ _=>rfl)) (by trivial) (by trivial)) (@qd _ _ _ _ _ (@qx _ _ (5) _ _ _ _ Qp.nd rfl (Or.inr rfl) (@qA _ _ _ _ _ _ _ qD (pv 3) qh (fun _ _=>rfl)) (by trivial) (by trivial)) (@qd _ _ _ _ _ (@qM _ _ _ _ _ _ _ _ (@pw_and _ _ _ _ _ _ _ (@Qw _ _ _ (@qp _ _ _ _ _ _ _ _ _ (@qO _ _ rfl) (by rfl) T.qI vb (@qa _ _ _ _ _ (pv 4) (@qa _ _ _ _ _ (@QL _ _ (.ty "tuple") _ _ (by rfl) T.Qj vq rfl (by trivial) (by trivial)) qc (by trivial)) (by trivial)) (by trivial) (by trivial) (by trivial) (by trivial)) (by trivial)) (@pw_and1 _ _ _ _ (@qq _ _ _ _ _ _ _ _ op_le (@qp _ _ _ _ _ _ _ _ _ JY (by rfl) T.yh uF (@qa _ _ _ _ _ (pv 4) qc (by trivial)) (by trivial) (by trivial) (by trivial) (by trivial)) (@pe_gI _ _ _ _ (by rfl) T.m_MOST_PARTS (by trivial)) (qw _)))).pt (@qd _ _ _ _ _ (@ps_aug _ _ (1) _ _ _ _ _ _ Qp.nd rfl (Or.inl rfl) qh ip_add (by trivial)) (@qg _ _ _ (@QD _ _ _ _ (@pe_bm _ _ _ _ _ _ _ _ _ _ _ _ uH PySem.F.slot_list_extend PySem.F.type_list_extend mt_extend (pv 2) (@qa _ _ _ _ _ (@pe_lc _ _ (["below","depth"]) (1) ([5]) _ _ _ _ _ _ _ _ _ (lcsN (qj Yn) ["value","size","waiting","pair","part","depth"]) rfl (@Y0 _ _ _ _ (pv 4)) (fun _ _ _ _ _ _=>(@qF _ _ (0) _ (show List.Nodup (["below","depth"]:List Str) by decide+kernel) rfl (Or.inl rfl) (by trivial))) (fun _ _ _ _ _ _=> @yj _) (fun _ _ _ _ _ _=>(@qk _ _ _ _ _ (@qa _ _ _ _ _ (pv 0) (@qa _ _ _ _ _ (@qY _ _ _ _ _ _ _ _ ye (pv 1) qh) qc (by trivial)) (by trivial)))) (by trivial)) qc (by trivial)) (by trivial) (by trivial) (by trivial) (by trivial) (by trivial)) (by trivial)))) (@qg _ _ _ (@qM _ _ _ _ _ _ _ _ (@Qw _ _ _ (@qt _ _ _ _ _ _ _ _ _ _ _ _ _ _ _ _ jE (hr.mono (by trivial)) (by rfl) T.g_is_text.m T.g_is_text.F.kp T.g_is_text.b .nil qG (@qa _ _ _ _ _ (pv 4) qc (by trivial)) (by trivial) (by trivial) (by trivial)) (by trivial)) (@qg _ _ _ (@ps_aug _ _ (1) _ _ _ _ _ _ Qp.nd rfl (Or.inl rfl) (@qY _ _ _ _ _ _ _ _ ye qh (@qp _ _ _ _ _ _ _ _ _ JY (by rfl) T.yh uF (@qa _ _ _ _ _ (pv 4) qc (by trivial)) (by trivial) (by trivial) (by trivial) (by trivial))) ip_add (by trivial))) (@qg _ _ _ (@qr _ _ _ _ QF))))) (@qg _ _ _ (@qM _ _ _ _ _ _ _ _ (@YO _ _ _ _ _ _ _ (@qq _ _ _ _ _ _ _ _ op_gt (pv 5) (@pe_gI _ _ _ _ (by rfl) T.m_MOST_DEPTH (by trivial)) (qw _)) (@yN _ _ _ _ (@qq _ _ _ _ _ _ _ _ op_gt (pv 1) (@pe_gI _ _ _ _ (by rfl) T.m_MOST_SIZE (by trivial)) (qw _)))).pt (@qg _ _ _ (@qr _ _ _ _ QF)) qs))))))) (@qg _ _ _ (@qr _ _ _ _ QF))))),?_⟩
 have no:∀{H':Hp}{w:List (D×Nat)}{n:Nat},Same H H'->G w n=isT d->G w n=false->Q (.bl false) H':=fun{H' w n} sm e1 e2=>by
  have q:=k H' sm;rw [<-e1,e2] at q;exact q
 refine⟨_,rfl,(by show 2<=sizeLine;decide),fun t1 h1=>⟨(by show 1<=sizeLine;decide),fun L hL=> ?_⟩⟩
 have s1:Same H (upd H t1 (.tup [v,.int 1])):=qb h1 _;have s2:Same H (upd (upd H t1 (.tup [v,.int 1])) L (.lst [.ref t1])):=s1.trans (qb hL _);have ah:H L=none:=s1.free hL;have i1:Is (upd H t1 (.tup [v,.int 1])) (pr (d,1)) (.ref t1):=Is.new (ds:= [d,.int 1]) ⟨v,_,rfl,hv,_,_,rfl,rfl,rfl⟩ h1;refine⟨Wt v d H L,⟨_,0,[(d,1)],[.ref t1],none,none,none,rfl,s2,qe,IsL.one (i1.mono (qb hL _).tk),G_start d,by omega,by simp,rfl⟩,?_⟩
 rintro m σ H' ⟨n,w,ws,x3,x4,x5,rfl,sm,hl,hw,hG,hn,al,rfl⟩;refine⟨_,rfl,!ws.isEmpty,.inl ⟨ws,SqL.of hl,rfl⟩,?_⟩;rcases List.eq_nil_or_concat w with rfl|⟨w',⟨e,j⟩,rfl⟩
 ·cases(show ws= [] from hw)
  refine iteF ?_;have q:=k H' sm;rw [<-hG,G_nil hn] at q;exact q
 ·rw [List.concat_eq_append] at*;rw [map_snoc] at hw;obtain⟨us,x,rfl,hu,hx⟩:=hw.unsnoc;have ne:(!(us++ [x]).isEmpty)=true:=by simp
  rw [ne];refine iteT ⟨fun σ' am=>∃m',m'<ndL ((w'++ [(e,j)]).map (·.1))/\Wt v d H L m' σ' am,fun _ _ h=>h,?_⟩;have hm:ndL ((w'++ [(e,j)]).map (·.1))=ndL (w'.map (·.1))+nd e:=by
   rw [map_snoc,YK];simp [ndL]
  have ap:w'.length<=40*n:=by
   rw [ul,v6] at al;omega
  have lu:=hu.length;rw [ue] at lu;refine⟨_,rfl,.inl ⟨rfl,_,SqL.of hl⟩,L,_,x,rfl,rfl,hl,last_at us x,?_⟩;rw [jy];have t2:Tk H' (upd H' L (.lst us)):=Tk.updL hl;have I:Same H (upd H' L (.lst us)):=fun b o z=>by rw [qi (qf z ah)];exact sm b o z
  have ad:Is (upd H' L (.lst us)) (.tup [e,.int (j:Int)]) x:=hx.mono t2;have ae:IsL (upd H' L (.lst us)) (w'.map pr) us:=hu.mono t2;have M:upd H' L (.lst us) L=some (.lst us):=qe;generalize upd H' L (.lst us)=H2 at t2 I ad ae M⊢;clear t2 hl hx hu sm;refine⟨_,rfl,ix_is (i:=0) ad rfl fun y hy=> ?_⟩;refine⟨_,rfl,ix_is (i:=1) ad rfl fun y1 ao=> ?_⟩;cases(show y1= .int (j:Int) from ao)
  have ac:∀(O:Nat) (w2:List (D×Nat)) (Z:List V) (B:Hp),Same H B->B L=some (.lst Z)->IsL B (w2.map pr) Z->(j<=12->O<=600->G w2 O=isT d)->(12<j∨600<O->isT d=false)->w2.length<=1+40*O->ndL (w2.map (·.1))<ndL ((w'++ [(e,j)]).map (·.1))->
    ∃aa,[some v,some (V.int (O:Int)),some (V.ref L),some x,some y,some (V.int (j:Int))][5]? =some (some aa)/\∃i U,aa=V.int i/\V.int 12=V.int U/\∃k,V.bl (decide (U<i))=V.bl k/\
     if k=true then if true=true then Q (.bl false) B else∃m',m'<ndL ((w'++ [(e,j)]).map (·.1))/\Wt v d H L m' [some v,some (V.int (O:Int)),some (V.ref L),some x,some y,some (V.int (j:Int))] B
     else∃ai,[some v,some (V.int (O:Int)),some (V.ref L),some x,some y,some (V.int (j:Int))][1]? =some (some ai)/\∃i U,ai=V.int i/\V.int 600=V.int U/\∃k,V.bl (decide (U<i))=V.bl k/\
      if k=true then Q (.bl false) B else∃m',m'<ndL ((w'++ [(e,j)]).map (·.1))/\Wt v d H L m' [some v,some (V.int (O:Int)),some (V.ref L),some x,some y,some (V.int (j:Int))] B:=by
   intro O w2 Z B s3 l3 i3 g3 b3 aj m3;have ak:isT d=false->Q (.bl false) B:=fun e=>by
    have q:=k B s3;rw [e] at q;exact q
   refine⟨_,rfl,_,_,rfl,rfl,_,rfl,?_⟩;refine ite2 (fun c=>iteT (ak (b3 (.inl ?_)))) (fun c=>⟨_,rfl,_,_,rfl,rfl,_,rfl,?_⟩)
   ·have:=uk c;omega
   ·have c':¬(12:Int)<(j:Int):=fun q=>c (uc q);refine ite2 (fun c2=>ak (b3 (.inr ?_))) (fun c2=> ?_)
    ·have:=uk c2;omega
    ·have aq:¬(600:Int)<(O:Int):=fun q=>c2 (uc q);exact⟨_,m3,O,w2,Z,_,_,_,rfl,s3,l3,i3,g3 (by omega) (by omega),by omega,aj,rfl⟩
  refine⟨_,rfl,y,"tuple",tyD e,YQ e,rfl,hy.ty,YN e,_,rfl,?_⟩;cases e with
  |tup xs=>
   refine iteT ?_;obtain⟨a0,vs,rfl,ab,af⟩:=hy;have lv:=af.length;refine⟨_,rfl,_,vs.length,rfl,.inr ⟨vs,SqT.of ab,rfl⟩,_,_,rfl,rfl,_,rfl,?_⟩;refine ite2 (fun c=> ?_) (fun c=> ?_)
   ·have c':(vs.length:Int)<=40:=uk c;refine⟨_,rfl,_,_,rfl,rfl,?_⟩;refine⟨_,rfl,.inl ⟨rfl,_,SqL.of M⟩,_,rfl,a0,vs,rfl,SqT.of ab,fun au A0 ag=> ?_⟩;refine jU (tl:= [some (.int (j:Int))]) (fun Y=> .tup [Y,.int ((j+1:Nat):Int)]) ab af (fits (by omega)) ag (fun Y x0 B R _ s3 i3 r=> ?_) fun B ys s3 l3 i3=> ?_
    ·refine⟨_,rfl,_,rfl,_,_,rfl,rfl,(by show 2<=sizeLine;decide),fun p hp=> ?_⟩
     exact r _ _ (qb hp _) (Is.new (ds:= [Y,.int ((j+1:Nat):Int)]) ⟨x0,_,rfl,i3,_,_,rfl,rfl,rfl⟩ hp)
    ·have ly:=i3.length;rw [ue] at ly;have eA:A0≠L:=fun z=>by rw [z,M] at ag;cases ag
     refine⟨L,A0,us,ys,rfl,rfl,s3 _ _ M,l3,fits (by omega),?_⟩
     have t4:Tk B (upd B L (.lst (us++ys))):=Tk.updL (s3 _ _ M);have em:(w'++xs.map fun Y=>(Y,j+1)).map pr=w'.map pr++xs.map fun Y=> .tup [Y,.int ((j+1:Nat):Int)]:=by
      rw [uB,v7];rfl
     have ef:(w'++xs.map fun Y=>(Y,j+1)).map (·.1)=w'.map (·.1)++xs:=by
      rw [uB,v7]
      congr 1
      exact List.map_id xs
     refine ac (n+1) (w'++xs.map fun Y=>(Y,j+1)) (us++ys) _ (fun b o z=>by rw [qi (qf z ah)];exact s3 b o (I b o z)) qe (by rw [em];exact((ae.mono s3.tk).mono t4).append (i3.mono t4)) (fun h1 h2=> ?_) (fun h=> ?_) ?_ ?_
     ·rw [<-hG,G_tup (by omega) h1]
     ·rw [<-hG];rcases h with h|h
      ·exact G_deep h
      ·exact G_big1 h
     ·rw [ul,ue];omega
     ·rw [ef,hm,YK];simp only [nd];omega
   ·have c':¬(vs.length:Int)<=40:=fun q=>c (uc q);refine⟨_,rfl,_,.tup xs,rfl,(show Is _ (.tup xs) (.ref a0) from⟨a0,vs,rfl,ab,af⟩),_,rfl,?_⟩
    refine iteF ?_;refine no I hG (G_bad ?_);simp only [good];rw [ub (by omega)]
    rfl
  |str z=>
   refine iteF ?_;obtain⟨rfl,hz⟩:=hy;refine⟨_,rfl,_,.str z,rfl,⟨rfl,hz⟩,_,rfl,?_⟩;cases ht:yt z with
   |false=>
    have e1:isTx (.str z)=false:=ht;rw [e1];refine iteF ?_;refine no I hG (G_bad ?_);simp only [good];exact ht
   |true=>
    have e1:isTx (.str z)=true:=ht;rw [e1];refine iteT ?_;refine⟨_,rfl,_,rfl,_,z.length,rfl,⟨hz,rfl⟩,_,_,rfl,rfl,_,_,rfl,rfl,?_⟩;have en:(n:Int)+(1+(z.length:Int))=((n+(1+z.length):Nat):Int):=by omega
    show∃aa,[some v,some (V.int ((n:Int)+(1+(z.length:Int)))),some (V.ref L),some x,some (V.str z),some (V.int (j:Int))][5]? =some (some aa)/\_;rw [en];refine ac (n+(1+z.length)) w' us _ I M ae (fun h1 h2=> ?_) (fun h=> ?_) (by omega) (by rw [hm];simp only [nd];omega)
    ·rw [<-hG,G_str ht h1]
    ·rw [<-hG];rcases h with h|h
     ·exact G_deep h
     ·refine G_big ?_;simp only [sz];omega
  |_=>
   refine iteF ?_;refine⟨_,rfl,_,_,rfl,hy,_,rfl,?_⟩;exact iteF (no I hG (G_bad rfl))
def LET:Str:="abcdefghijklmnopqrstuvwxyz"
def NSG:Str:="abcdefghijklmnopqrstuvwxyz0123456789./"
def nm (z:Str):Bool:=decide (1<=(z.length:Int))&&decide ((z.length:Int)<=24)&&inS ⟨#[z.cps.getD 0 0]⟩ LET&&(z.cps.toList.map fun c=>inS ⟨#[c]⟩ NSG).all id
def isNm:D->Bool
 | .str z=>nm z
 |_=>false
def sp_name:Sp:=fun vs H Q _=>∃v d,vs= [v]/\Is H d v/\∀H',Same H H'->Q (.bl (isNm d)) H'
theorem first_at {z:Str}(h:1<=z.length):atI z.cps.toList 0=some (z.cps.getD 0 0):=by
 have h':0<z.cps.size:=h;have q:z.cps.toList[0]? =some (z.cps.getD 0 0):=by simp [Array.getD,h']
 exact qm q
theorem allMap (z:Str):(z.cps.toList.map fun c=>V.bl (inS ⟨#[c]⟩ NSG))=(z.cps.toList.map fun c=>inS ⟨#[c]⟩ NSG).map V.bl:=by
 rw [v7]
 rfl
theorem nm_len {z:Str}(h:¬(1<=(z.length:Int)/\(z.length:Int)<=24)):nm z=false:=by
 unfold nm;by_cases h1:1<=(z.length:Int)
 ·have h2:¬(z.length:Int)<=24:=fun q=>h ⟨h1,q⟩;rw [ub h2];simp
 ·rw [ub h1];simp
theorem nm_first {z:Str}(h:inS ⟨#[z.cps.getD 0 0]⟩ LET=false):nm z=false:=by
 unfold nm;rw [h];simp
theorem nm_rest {z:Str}(h1:1<=(z.length:Int))(h2:(z.length:Int)<=24)(h:inS ⟨#[z.cps.getD 0 0]⟩ LET=true):nm z=(z.cps.toList.map fun c=>inS ⟨#[c]⟩ NSG).all id:=by
 unfold nm;rw [h,uc h1,uc h2];simp
theorem ok_name (T:Tx K mg a):FnOk P w K mg base CX0 1 a.f_is_name a.d_is_name ["value"] sp_name:=by
 refine T.g_is_name.F.ok sc_is_name (by trivial) (fun _ _ _ _ H _ Q E Z h=> ?_)
 obtain⟨x,d,rfl,O,k⟩:=h;refine⟨_,(@qd _ _ _ _ _ (@qM _ _ _ _ _ _ _ _ (@YO _ _ _ _ _ _ _ (@Q8 _ _ _ _ (@Qw _ _ _ (@qp _ _ _ _ _ _ _ _ _ (@qO _ _ rfl) (by rfl) T.qI vb (@qa _ _ _ _ _ (pv 0) (@qa _ _ _ _ _ (@QL _ _ (.ty "str") _ _ (by rfl) T.z_str boot_str rfl (by trivial) (by trivial)) qc (by trivial)) (by trivial)) (by trivial) (by trivial) (by trivial) (by trivial)) (by trivial))) (@yN _ _ _ _ (@Q8 _ _ _ _ (@pt_chain _ _ _ _ _ _ _ _ _ _ _ _ op_le op_le qh (@qp _ _ _ _ _ _ _ _ _ Y9 (by rfl) T.yh uF (@qa _ _ _ _ _ (pv 0) qc (by trivial)) (by trivial) (by trivial) (by trivial) (by trivial)) (@pe_gI _ _ _ _ (by rfl) T.YT (by trivial)) (by trivial))))).pt (@qg _ _ _ (@qr _ _ _ _ QF)) qs) (@qd _ _ _ _ _ (@qM _ _ _ _ _ _ _ _ (@qq _ _ _ _ _ _ _ _ op_notIn_str (@qA _ _ _ _ _ _ _ ix_str (pv 0) qh (fun _ _=>rfl)) (@pe_gS _ _ _ _ (by rfl) T.m_LETTERS (by trivial)) (by with_unfolding_all rfl)) (@qg _ _ _ (@qr _ _ _ _ QF)) qs) (@qg _ _ _ (@qr _ _ _ _ (@qp _ _ _ _ _ _ _ _ _ (@jD _ rfl) (by rfl) T.z_all boot_all (@qa _ _ _ _ _ (@pe_lc _ _ (["sign"]) (1) ([]) _ _ _ _ _ _ _ _ _ (lcs0) rfl (@pi_str _ _ _ _ (pv 0)) (fun _ _ _ _ _ _=>(@qF _ _ (0) _ (show List.Nodup (["sign"]:List Str) by decide+kernel) rfl (Or.inl rfl) (by trivial))) (fun _ _ _ _ _ _=> @yj _) (fun _ _ _ _ _ _=>(@QM _ _ _ _ _ _ _ _ op_in_str (pv 0) (@pe_gS _ _ _ _ (by rfl) T.m_NAME_SIGNS (by trivial)) (by with_unfolding_all rfl))) (by trivial)) qc (by trivial)) (by trivial) (by trivial) (by trivial) (by trivial)))))),?_⟩
 refine⟨_,rfl,x,"str",tyD d,isStr d,rfl,O.ty,kit_str d,_,rfl,?_⟩;cases hd:isStr d with
 |false=>
  refine iteT (iteT ?_);have:=k H (Same.refl H);have e:isNm d=false:=by cases d<;>first|rfl|simp [isStr] at hd
  rw [e] at this;exact this
 |true=>
  obtain⟨z,rfl⟩:∃z,d= .str z:=by cases d<;>simp [isStr] at hd;exact⟨_,rfl⟩
  obtain⟨rfl,hz⟩:=O;have k:∀H',Same H H'->Q (.bl (nm z)) H':=k;refine iteF ?_;refine⟨_,rfl,z,rfl,hz,_,_,rfl,rfl,_,rfl,?_⟩;have stop:nm z=false->Q (.bl false) H:=fun e=>by
   have:=k H (Same.refl H);rw [e] at this;exact this
  refine ite2 (fun I=> ?_) (fun I=> ?_)
  ·have L:1<=(z.length:Int):=uk I;refine⟨_,_,rfl,rfl,_,rfl,?_⟩;by_cases B:(z.length:Int)<=24
   ·rw [uc B];refine iteF ?_;refine⟨_,rfl,_,_,_,rfl,rfl,hz,first_at (by omega),_,_,rfl,rfl,_,rfl,?_⟩
    cases e:inS ⟨#[z.cps.getD 0 0]⟩ LET with
    |false=>
     have M:(!(Builtin.Str.occurrences ("abcdefghijklmnopqrstuvwxyz":Str) ⟨#[z.cps.getD 0 0]⟩ 0 ("abcdefghijklmnopqrstuvwxyz":Str).length 1).isEmpty)=false:=e;rw [M];refine iteT ?_;exact stop (nm_first e)
    |true=>
     have M:(!(Builtin.Str.occurrences ("abcdefghijklmnopqrstuvwxyz":Str) ⟨#[z.cps.getD 0 0]⟩ 0 ("abcdefghijklmnopqrstuvwxyz":Str).length 1).isEmpty)=true:=e;rw [M];refine iteF ?_;refine⟨_,rfl,z,rfl,fun D hD=> ?_⟩;refine lc_str (fun c=> .bl (inS ⟨#[c]⟩ NSG)) (hz) hD (fun i c H' R hc U r=>⟨_,rfl,_,_,rfl,rfl,r⟩) fun H' U Y=> ?_;refine⟨D,z.cps.toList.map fun c=>inS ⟨#[c]⟩ NSG,rfl,SqL.of (by rw [Y,allMap]),?_⟩
     have:=k H' U;rw [nm_rest L B e] at this;exact this
   ·rw [ub B];refine iteT ?_;exact stop (nm_len fun q=>B q.2)
  ·refine⟨_,rfl,?_⟩;refine iteT ?_;exact stop (nm_len fun q=>I (uc q.1))
end
theorem qC {c:Bool}{A B:Prop}(h:c=false)(b:B):if c=true then A else B:=by rw [if_neg (by rw [h];exact uf)];exact b
theorem qR {c:Bool}{A B:Prop}(h:c=true)(a:A):if c=true then A else B:=by rw [if_pos h];exact a
def isNon:D->Bool
 | .non=>true
 |_=>false
theorem YV {H:Hp}{d:D}{u:V}(B:Is H d u)(I:d≠ .non):u≠ .non:=by
 rintro rfl;cases d with
 |non=>exact I rfl
 |bl b=>cases(show V.non= .bl b from B)
 |int i=>cases(show V.non= .int i from B)
 |str z=>obtain⟨h,_⟩:=B;cases h
 |lst=>obtain⟨_,_,h,_⟩:=B;cases h
 |dct=>obtain⟨_,_,h,_⟩:=B;cases h
 |tup xs=>obtain⟨_,_,h,_⟩:=B;cases h
theorem isT_dp {d:D}(h:isT d=true):dp d<=12:=by
 unfold isT at h;rw [uh] at h;exact uk h.2
mutual
theorem good_pu:∀{d:D},good d=true->puD d=true
 | .str _,_=>rfl
 | .tup xs,h=>by
  simp only [good,uh] at h;show puL xs=true;exact goodL_pu h.2
 | .non,h| .bl _,h| .int _,h| .lst,h| .dct,h=>by simp [good] at h
theorem goodL_pu:∀{xs:List D},goodL xs=true->puL xs=true
 | [],_=>rfl
 |x::r,h=>by
  simp only [goodL,uh] at h;simp only [puL,good_pu h.1,goodL_pu h.2,Bool.and_self]
end
theorem xg {d:D}(h:isT d=true):good d=true:=by
 unfold isT at h;rw [uh,uh] at h;exact h.1.1
def isRow:D->Bool
 | .tup xs=>xs.all isNm
 |_=>false
def ansB (u:Str)(a:D):Bool:=if isNon a=true then decide (u="thing") else if isT a=true then(if u="has" then(["yes","no"]:List Str).any (fun z=>eqD a (.str z)) else decide (u="thing")||isRow a) else false
def isP:D->Bool
 | .tup xs=>decide (xs.length=2)
 |_=>false
def sp_rown:Sp:=fun vs H Q _=>∃(v:V) (d:D),vs= [v]/\Is H d v/\isT d=true/\∀H',Same H H'->Q (.bl (isRow d)) H'
def sp_isans:Sp:=fun vs H Q _=>∃(v1 v2:V) (u:Str) (d a:D),vs= [v1,v2]/\Is H (.tup [.str u,d]) v1/\Is H a v2/\∀H',Same H H'->Q (.bl (ansB u a)) H'
def sp_pair:Sp:=fun vs H Q _=>∃v d,vs= [v]/\Is H d v/\Q (.bl (isP d)) H
abbrev Rn:=List (D×D)×D
def prD (p:D×D):D:= .tup [p.1,p.2]
def rnD (r:Rn):D:= .tup [.tup (r.1.map prD),r.2]
def askB (u n:Str):Bool:=if u="names" then yt n else decide (u∈(["thing","has"]:List Str))&&isNm (.str n)
def AskOk (q:D):Prop:=∃u n,q= .tup [.str u,.str n]/\askB u n=true
def PrOk (p:D×D):Prop:=∃u n,p.1= .tup [.str u,.str n]/\askB u n=true/\ansB u p.2=true
def EndOk (e:D):Prop:=(∃d,e= .tup [.str "said",d]/\isT d=true)∨∃z∈FLT,e= .tup [.str "fault",.str z]
structure RunOk (r:Rn):Prop where
 prs:∀p∈r.1,PrOk p
 en:EndOk r.2
 len:r.1.length<=50
def sp_ask:Sp:=fun vs H Q _=>∃v q,vs= [v]/\AskOk q/\Is H q v/\∀H',Same H H'->Q (.bl true) H'
def sp_end:Sp:=fun vs H Q _=>∃v e,vs= [v]/\EndOk e/\Is H e v/\∀H',Same H H'->Q (.bl true) H'
def sp_aask:Sp:=fun vs H Q _=>∃v p,vs= [v]/\PrOk p/\Is H (prD p) v/\∀H',Same H H'->Q (.bl true) H'
def sp_run:Sp:=fun vs H Q _=>∃v r,vs= [v]/\RunOk r/\Is H (rnD r) v/\∀H',Same H H'->Q (.bl true) H'
section
variable {P:Program}{w:World}{K:PySem.W.Frag}{mg:Str->Option Value}{base:Heap}{a:Ad}{g:Ga}
theorem JL (T:Tx K mg a):FnOk P w K mg base CX0 1 a.f_is_pair a.d_is_pair ["value"] sp_pair:=by
 refine T.g_is_pair.F.ok sc_is_pair (by trivial) (fun _ _ _ _ H _ Q E R h=> ?_)
 obtain⟨v,d,rfl,I,k⟩:=h;refine⟨_,(@qg _ _ _ (@qr _ _ _ _ (@ju _ _ _ _ _ _ _ (@qp _ _ _ _ _ _ _ _ _ (@qO _ _ rfl) (by rfl) T.qI vb (@qa _ _ _ _ _ (pv 0) (@qa _ _ _ _ _ (@QL _ _ (.ty "tuple") _ _ (by rfl) T.Qj vq rfl (by trivial) (by trivial)) qc (by trivial)) (by trivial)) (by trivial) (by trivial) (by trivial) (by trivial)) (@jF _ _ _ _ _ (@QM _ _ _ _ _ _ _ _ QK (@qp _ _ _ _ _ _ _ _ _ call_lenZ (by rfl) T.yh uF (@qa _ _ _ _ _ (pv 0) qc (by trivial)) (by trivial) (by trivial) (by trivial) (by trivial)) qh (qw _)))))),?_⟩
 refine⟨_,rfl,v,"tuple",tyD d,YQ d,rfl,I.ty,YN d,_,rfl,?_⟩;cases L:YQ d with
 |false=>
  refine iteF ?_;have e:isP d=false:=by cases d<;>first|rfl|simp [YQ] at L
  rw [e] at k;exact k
 |true=>
  obtain⟨xs,rfl⟩:∃xs,d= .tup xs:=by cases d<;>simp [YQ] at L;exact⟨_,rfl⟩
  obtain⟨p,us,rfl,M,B⟩:=I;have O:=B.length;refine iteT ⟨_,rfl,.inr ⟨p,us,rfl,.inr (SqT.of M),fun _=>⟨rfl,?_⟩⟩⟩;have e:decide (V.int (us.length:Int)=V.int 2)=isP (.tup xs):=by
   simp only [isP,uz];constructor
   ·intro h;have:=V.int.inj h;omega
   ·intro h;rw [O,h]
    rfl
  rw [<-e] at k;exact k
theorem ok_rown (T:Tx K mg a):FnOk P w K mg base CX0 2 a.Q9 a.ya ["tree"] sp_rown:=by
 have U:=ok_name (P:=P) (w:=w) (base:=base) T;refine T.g_is_row_of_names.F.ok Yw (by trivial) (fun _ _ _ _ H vs Q E Y h=> ?_)
 obtain⟨v,d,rfl,M,Z,k⟩:=h;refine⟨_,(@qg _ _ _ (@qr _ _ _ _ (@ju _ _ _ _ _ _ _ (@qp _ _ _ _ _ _ _ _ _ (@qO _ _ rfl) (by rfl) T.qI vb (@qa _ _ _ _ _ (pv 0) (@qa _ _ _ _ _ (@QL _ _ (.ty "tuple") _ _ (by rfl) T.Qj vq rfl (by trivial) (by trivial)) qc (by trivial)) (by trivial)) (by trivial) (by trivial) (by trivial) (by trivial)) (@jF _ _ _ _ _ (@qp _ _ _ _ _ _ _ _ _ (@jD _ rfl) (by rfl) T.z_all boot_all (@qa _ _ _ _ _ (@pe_lc _ _ (["part"]) (1) ([]) _ _ _ _ _ _ _ _ _ (lcs0) rfl (@Y0 _ _ _ _ (pv 0)) (fun _ _ _ _ _ _=>(@qF _ _ (0) _ (show List.Nodup (["part"]:List Str) by decide+kernel) rfl (Or.inl rfl) (by trivial))) (fun _ _ _ _ _ _=> @yj _) (fun _ _ _ _ _ _=>(@qt _ _ _ _ _ _ _ _ _ _ _ _ _ _ _ _ U (Y.mono (by trivial)) (by rfl) T.g_is_name.m T.g_is_name.F.kp T.g_is_name.b .nil qG (@qa _ _ _ _ _ (pv 0) qc (by trivial)) (by trivial) (by trivial) (by trivial))) (by trivial)) qc (by trivial)) (by trivial) (by trivial) (by trivial) (by trivial)))))),?_⟩
 refine⟨_,rfl,v,"tuple",tyD d,YQ d,rfl,M.ty,YN _,?_⟩;cases d with
 |tup xs=>
  refine⟨_,rfl,iteT ?_⟩;obtain⟨a0,vs,rfl,B,I⟩:=M;have hl:xs.length<=1000:=by
   have O:=xg Z;simp only [good,uh] at O;have:=uk O.1;omega
  refine⟨_,rfl,a0,vs,rfl,SqT.of B,fun aa A0 L=> ?_⟩;refine jU (tl:= []) (fun d=> .bl (isNm d)) B I (Yb hl) L (fun d0 x0 H3 R ab s3 i3 r=> ?_) fun H1 ys s1 l1 i1=> ?_
  ·exact⟨_,rfl,x0,d0,rfl,i3,fun H4 s4=>r _ H4 s4 rfl⟩
  have ey:ys=(xs.map isNm).map V.bl:=IsL.bls (by rw [v7];exact i1)
  refine⟨A0,xs.map isNm,rfl,SqL.of (by rw [l1,ey]),?_⟩
  have:(xs.map isNm).all id=isRow (.tup xs):=by rw [U8];rfl
  rw [this];exact k H1 s1
 |str z=>exact⟨_,rfl,iteF (k H (Same.refl _))⟩
 |non=>exact⟨_,rfl,iteF (k H (Same.refl _))⟩
 |int z=>exact⟨_,rfl,iteF (k H (Same.refl _))⟩
 |bl z=>exact⟨_,rfl,iteF (k H (Same.refl _))⟩
 |lst=>exact⟨_,rfl,iteF (k H (Same.refl _))⟩
 |dct=>exact⟨_,rfl,iteF (k H (Same.refl _))⟩
theorem ok_isans (T:Tx K mg a):FnOk P w K mg base CX0 3 a.jI a.j7 ["ask","answer"] sp_isans:=by
 have j8:=Jq (P:=P) (w:=w) (base:=base) T;have YY:=ok_rown (P:=P) (w:=w) (base:=base) T;refine T.g_is_answer.F.ok sc_is_answer (by trivial) (fun _ _ _ _ H _ Q E M h=> ?_)
 obtain⟨v1,L,u,d,an,rfl,O,I,k⟩:=h;refine⟨_,(@qd _ _ _ _ _ (@qM _ _ _ _ _ _ _ _ (@qq _ _ _ _ _ _ _ _ Y5 (pv 1) Qg (qw _)) (@qg _ _ _ (@qr _ _ _ _ (@QM _ _ _ _ _ _ _ _ QK (@qA _ _ _ _ _ _ _ ix_seq (pv 0) qh (fun _ _=>rfl)) qo (qw _)))) qs) (@qd _ _ _ _ _ (@qM _ _ _ _ _ _ _ _ (@Q8 _ _ _ _ (@Qw _ _ _ (@qt _ _ _ _ _ _ _ _ _ _ _ _ _ _ _ _ j8 (M.mono (by trivial)) (by rfl) T.g_is_tree.m T.g_is_tree.F.kp T.g_is_tree.b .nil qG (@qa _ _ _ _ _ (pv 1) qc (by trivial)) (by trivial) (by trivial) (by trivial)) (by trivial))) (@qg _ _ _ (@qr _ _ _ _ QF)) qs) (@qd _ _ _ _ _ (@qM _ _ _ _ _ _ _ _ (@qq _ _ _ _ _ _ _ _ QK (@qA _ _ _ _ _ _ _ ix_seq (pv 0) qh (fun _ _=>rfl)) qo (qw _)) (@qg _ _ _ (@qr _ _ _ _ (@QM _ _ _ _ _ _ _ _ (@op_inM _ M.units) (pv 1) (@qk _ _ _ _ _ (@qa _ _ _ _ _ qo (@qa _ _ _ _ _ qo qc (by trivial)) (by trivial))) (by with_unfolding_all rfl)))) qs) (@qg _ _ _ (@qr _ _ _ _ (@pe_or _ _ _ _ _ _ _ (@QM _ _ _ _ _ _ _ _ QK (@qA _ _ _ _ _ _ _ ix_seq (pv 0) qh (fun _ _=>rfl)) qo (qw _)) (@jF _ _ _ _ _ (@qt _ _ _ _ _ _ _ _ _ _ _ _ _ _ _ _ YY (M.mono (by trivial)) (by rfl) T.g_is_row_of_names.m T.g_is_row_of_names.F.kp T.g_is_row_of_names.b .nil qG (@qa _ _ _ _ _ (pv 1) qc (by trivial)) (by trivial) (by trivial) (by trivial))))))))),?_⟩
 have R:(2:Nat)<=sizeLine:=by decide
 have es:∀y:Str,decide (V.str u=V.str y)=decide (u=y):=fun y=>by
  rw [uz];exact⟨fun h=>by injection h,fun h=>by rw [h]⟩
 have U:∀{H:Hp}{Q:VK},Is H (.tup [.str u,d]) v1->Q (.str u) H->rIxT K v1 (.int 0) H Q:=fun{H Q} i q=>ix_is (i:=0) (d:= .str u) i (qm (j:=0) rfl) fun x hx=>by
  obtain⟨rfl,_⟩:=hx;exact q
 refine⟨_,rfl,rfl,_,rfl,?_⟩;unfold ansB at k;by_cases Y:an= .non
 ·subst Y;cases(show L= .non from I)
  refine qR (by decide+kernel) ?_
  refine⟨_,rfl,.inr (.inl (U O ⟨rfl,?_⟩))⟩;rw [es];exact k H (Same.refl _)
 ·have Z:L≠ .non:=YV I Y;have aa:isNon an=false:=by
   cases an with
   |non=>exact absurd rfl Y
   |_=>rfl
  rw [aa,if_neg uf] at k;refine qC (ub Z) ?_;refine⟨_,rfl,L,an,rfl,I,fun H1 s1=>⟨_,rfl,?_⟩⟩;by_cases B:isT an=true
  ·rw [if_pos B] at k;rw [B];refine iteF ?_;refine⟨_,rfl,.inr (.inl (U (O.mono s1.tk) ⟨rfl,_,rfl,?_⟩))⟩;rw [es];by_cases ch:u="has"
   ·rw [if_pos ch] at k;refine qR (uc ch) ?_;refine⟨_,rfl,R,fun t1 h1=> ?_⟩;have s2:=qb h1 (.tup [.str "yes",.str "no"]);refine⟨an,t1,["yes","no"],(I.mono s1.tk).mono s2.tk,rfl,.inr (SqT.of qe),?_,?_,?_,k _ (s1.trans s2)⟩
    ·intro z hz;simp only [uY,uQ,Ud] at hz;rcases hz with rfl|rfl<;>decide+kernel
    ·have hg:=xg B;cases an with
     |non=>rfl
     |str z=>rfl
     |tup xs=>
      show puL xs=true;simp only [good,uh] at hg;exact goodL_pu hg.2
     |_=>simp [good] at hg
    ·have:=isT_dp B;omega
   ·rw [if_neg ch] at k;refine qC (ub ch) ?_;refine⟨_,rfl,.inr (.inl (U (O.mono s1.tk) ⟨rfl,?_⟩))⟩;refine⟨_,rfl,?_⟩;rw [es];by_cases ct:u="thing"
    ·rw [uc ct] at k⊢;refine iteT ?_;exact k _ s1
    ·rw [ub ct] at k⊢;refine iteF ?_;exact⟨_,rfl,L,an,rfl,I.mono s1.tk,B,fun H2 s2=>k H2 (s1.trans s2)⟩
  ·rw [if_neg B] at k;have:isT an=false:=by
    cases h:isT an with
    |true=>exact absurd h B
    |false=>rfl
   rw [this];exact iteT (k _ s1)
theorem es (u y:Str):decide (V.str u=V.str y)=decide (u=y):=by
 rw [uz];exact⟨fun h=>by injection h,fun h=>by rw [h]⟩
theorem gi {K:PySem.W.Frag}{σ:L2.St}{H:Hp}{ds:List D}{v:V}{i:Int}{d:D}{Q:VK}(h:Is H (.tup ds) v)(hi:atI ds i=some d)(q:∀x,Is H d x->Q x H):(fun x H1=>tC (V.int i) σ H1 fun y H2=>rIxT K x y H2 Q) v H:=ix_is h hi q
theorem ok_ask (T:Tx K mg a):FnOk P w K mg base CX0 2 a.f_is_ask a.d_is_ask ["value"] sp_ask:=by
 have O:=JL (P:=P) (w:=w) (base:=base) T;have R:=ok_name (P:=P) (w:=w) (base:=base) T;have U:=Jo (P:=P) (w:=w) (base:=base) T;refine T.g_is_ask.F.ok sc_is_ask (by trivial) (fun _ _ _ s H _ Q E L h=> ?_)
 obtain⟨v,d,rfl,⟨u,n,rfl,B⟩,I,k⟩:=h;refine⟨_,(@qd _ _ _ _ _ (@qM _ _ _ _ _ _ _ _ (@Q8 _ _ _ _ (@Qw _ _ _ (@qt _ _ _ _ _ _ _ _ _ _ _ _ _ _ _ _ O (L.mono (by trivial)) (by rfl) T.g_is_pair.m T.g_is_pair.F.kp T.g_is_pair.b .nil qG (@qa _ _ _ _ _ (pv 0) qc (by trivial)) (by trivial) (by trivial) (by trivial)) (by trivial))) (@qg _ _ _ (@qr _ _ _ _ QF)) qs) (@qd _ _ _ _ _ (@qM _ _ _ _ _ _ _ _ (@qq _ _ _ _ _ _ _ _ QK (@qA _ _ _ _ _ _ _ qD (pv 0) qh (fun _ _=>rfl)) qo (qw _)) (@qg _ _ _ (@qr _ _ _ _ (@qt _ _ _ _ _ _ _ _ _ _ _ _ _ _ _ _ U (L.mono (by trivial)) (by rfl) T.g_is_text.m T.g_is_text.F.kp T.g_is_text.b .nil qG (@qa _ _ _ _ _ (@qA _ _ _ _ _ _ _ qD (pv 0) qh (fun _ _=>rfl)) qc (by trivial)) (by trivial) (by trivial) (by trivial)))) qs) (@qg _ _ _ (@qr _ _ _ _ (@ju _ _ _ _ _ _ _ (@QM _ _ _ _ _ _ _ _ Yx (@qA _ _ _ _ _ _ _ qD (pv 0) qh (fun _ _=>rfl)) (@qk _ _ _ _ _ (@qa _ _ _ _ _ qo (@qa _ _ _ _ _ qo qc (by trivial)) (by trivial))) (by with_unfolding_all rfl)) (@jF _ _ _ _ _ (@qt _ _ _ _ _ _ _ _ _ _ _ _ _ _ _ _ R (L.mono (by trivial)) (by rfl) T.g_is_name.m T.g_is_name.F.kp T.g_is_name.b .nil qG (@qa _ _ _ _ _ (@qA _ _ _ _ _ _ _ qD (pv 0) qh (fun _ _=>rfl)) qc (by trivial)) (by trivial) (by trivial) (by trivial)))))))),?_⟩
 have M:(2:Nat)<=sizeLine:=by decide
 refine⟨_,rfl,v,_,rfl,I,_,rfl,iteF ?_⟩;refine⟨_,rfl,?_⟩;refine gi (i:=0) (d:= .str u) I (qm (j:=0) rfl) fun x hx=> ?_;obtain⟨rfl,Y⟩:=hx;refine⟨rfl,_,rfl,?_⟩;rw [es];unfold askB at B;by_cases c:u="names"
 ·rw [if_pos c] at B;refine qR (uc c) ?_;refine⟨_,rfl,?_⟩;refine gi (i:=1) (d:= .str n) I (qm (j:=1) rfl) fun x hx=>⟨x,.str n,rfl,hx,?_⟩;show Q (.bl (yt n)) H;rw [B];exact k H (Same.refl _)
 ·rw [if_neg c,uh] at B;refine qC (ub c) ?_;refine⟨_,rfl,?_⟩;refine gi (i:=0) (d:= .str u) I (qm (j:=0) rfl) fun x hx=> ?_;obtain⟨rfl,_⟩:=hx;refine⟨M,fun t Z=> ?_⟩;have s1:=qb Z (.tup [.str "thing",.str "has"]);refine⟨t,_,rfl,.inr (SqT.of qe),rfl,rfl,_,rfl,?_⟩;refine qR ?_ ?_
  ·show inV (.str u) ((["thing","has"]:List Str).map V.str)=true;rw [inV_str];exact B.1
  ·refine⟨_,rfl,?_⟩;refine gi (i:=1) (d:= .str n) (I.mono s1.tk) (qm (j:=1) rfl) fun x hx=>⟨x,.str n,rfl,hx,fun H' s'=> ?_⟩;rw [B.2];exact k H' (s1.trans s')
theorem ok_end (T:Tx K mg a)(C:Fx K w mg g a):FnOk P w K mg base CX0 3 a.f_is_end a.d_is_end ["value"] sp_end:=by
 have M:=JL (P:=P) (w:=w) (base:=base) T;have O:=Jq (P:=P) (w:=w) (base:=base) T;refine T.g_is_end.F.ok sc_is_end (by trivial) (fun _ _ _ s H _ Q E L h=> ?_)
 obtain⟨v,d,rfl,R,B,k⟩:=h;refine⟨_,(@qd _ _ _ _ _ (@qM _ _ _ _ _ _ _ _ (@Q8 _ _ _ _ (@Qw _ _ _ (@qt _ _ _ _ _ _ _ _ _ _ _ _ _ _ _ _ M (L.mono (by trivial)) (by rfl) T.g_is_pair.m T.g_is_pair.F.kp T.g_is_pair.b .nil qG (@qa _ _ _ _ _ (pv 0) qc (by trivial)) (by trivial) (by trivial) (by trivial)) (by trivial))) (@qg _ _ _ (@qr _ _ _ _ QF)) qs) (@qd _ _ _ _ _ (@qM _ _ _ _ _ _ _ _ (@qq _ _ _ _ _ _ _ _ QK (@qA _ _ _ _ _ _ _ qD (pv 0) qh (fun _ _=>rfl)) qo (qw _)) (@qg _ _ _ (@qr _ _ _ _ (@qt _ _ _ _ _ _ _ _ _ _ _ _ _ _ _ _ O (L.mono (by trivial)) (by rfl) T.g_is_tree.m T.g_is_tree.F.kp T.g_is_tree.b .nil qG (@qa _ _ _ _ _ (@qA _ _ _ _ _ _ _ qD (pv 0) qh (fun _ _=>rfl)) qc (by trivial)) (by trivial) (by trivial) (by trivial)))) qs) (@qg _ _ _ (@qr _ _ _ _ (@ju _ _ _ _ _ _ _ (@QM _ _ _ _ _ _ _ _ QK (@qA _ _ _ _ _ _ _ qD (pv 0) qh (fun _ _=>rfl)) qo (qw _)) (@jF _ _ _ _ _ (@QM _ _ _ _ _ _ _ _ Yx (@qA _ _ _ _ _ _ _ qD (pv 0) qh (fun _ _=>rfl)) (@pe_gR _ _ _ _ (by rfl) C.m_FAULTS (by trivial)) (by with_unfolding_all rfl)))))))),?_⟩
 rcases R with⟨d,rfl,hd⟩|⟨z,hz,rfl⟩
 ·refine⟨_,rfl,v,_,rfl,B,_,rfl,iteF ?_⟩;refine⟨_,rfl,?_⟩;refine gi (i:=0) (d:= .str "said") B (qm (j:=0) rfl) fun x hx=> ?_;obtain⟨rfl,I⟩:=hx;refine⟨rfl,_,rfl,qR (uc rfl) ?_⟩;refine⟨_,rfl,?_⟩;refine gi (i:=1) (d:=d) B (qm (j:=1) rfl) fun x hx=>⟨x,d,rfl,hx,fun H' s'=> ?_⟩;rw [hd];exact k H' s'
 ·refine⟨_,rfl,v,_,rfl,B,_,rfl,iteF ?_⟩;refine⟨_,rfl,?_⟩;refine gi (i:=0) (d:= .str "fault") B (qm (j:=0) rfl) fun x hx=> ?_;obtain⟨rfl,I⟩:=hx;refine⟨rfl,_,rfl,qC (by rw [es];decide+kernel) ?_⟩
  refine⟨_,rfl,?_⟩;refine gi (i:=0) (d:= .str "fault") B (qm (j:=0) rfl) fun x hx=> ?_;obtain⟨rfl,I⟩:=hx;refine⟨rfl,_,rfl,qR (uc rfl) ?_⟩;refine⟨_,rfl,?_⟩;refine gi (i:=1) (d:= .str z) B (qm (j:=1) rfl) fun x hx=> ?_;obtain⟨rfl,_⟩:=hx;refine⟨_,_,rfl,.inr (C.faults H),rfl,rfl,?_⟩;rw [if_neg uf,inV_str,uc hz];exact k H (Same.refl _)
theorem ok_aask (T:Tx K mg a):FnOk P w K mg base CX0 4 a.yb a.Q6 ["value"] sp_aask:=by
 have R:=JL (P:=P) (w:=w) (base:=base) T;have I:=ok_ask (P:=P) (w:=w) (base:=base) T;have B:=ok_isans (P:=P) (w:=w) (base:=base) T;refine T.g_is_answered_ask.F.ok YE (by trivial) (fun _ _ _ _ H _ Q E M h=> ?_)
 obtain⟨v,⟨q,an⟩,rfl,⟨u,n,h1,U,O⟩,L,k⟩:=h;cases h1;refine⟨_,(@qg _ _ _ (@qr _ _ _ _ (@ju _ _ _ _ _ _ _ (@qt _ _ _ _ _ _ _ _ _ _ _ _ _ _ _ _ R (M.mono (by trivial)) (by rfl) T.g_is_pair.m T.g_is_pair.F.kp T.g_is_pair.b .nil qG (@qa _ _ _ _ _ (pv 0) qc (by trivial)) (by trivial) (by trivial) (by trivial)) (@ju _ _ _ _ _ _ _ (@qt _ _ _ _ _ _ _ _ _ _ _ _ _ _ _ _ I (M.mono (by trivial)) (by rfl) T.g_is_ask.m T.g_is_ask.F.kp T.g_is_ask.b .nil qG (@qa _ _ _ _ _ (@qA _ _ _ _ _ _ _ qD (pv 0) qh (fun _ _=>rfl)) qc (by trivial)) (by trivial) (by trivial) (by trivial)) (@jF _ _ _ _ _ (@qt _ _ _ _ _ _ _ _ _ _ _ _ _ _ _ _ B (M.mono (by trivial)) (by rfl) T.g_is_answer.m T.g_is_answer.F.kp T.g_is_answer.b .nil qG (@qa _ _ _ _ _ (@qA _ _ _ _ _ _ _ qD (pv 0) qh (fun _ _=>rfl)) (@qa _ _ _ _ _ (@qA _ _ _ _ _ _ _ qD (pv 0) qh (fun _ _=>rfl)) qc (by trivial)) (by trivial)) (by trivial) (by trivial) (by trivial))))))),?_⟩
 refine⟨_,rfl,v,_,rfl,L,_,rfl,iteT ?_⟩;refine⟨_,rfl,?_⟩;refine gi (i:=0) (d:= .tup [.str u,.str n]) L (qm (j:=0) rfl) fun x hx=>⟨x,_,rfl,⟨u,n,rfl,U⟩,hx,fun H1 s1=> ?_⟩;refine⟨_,rfl,iteT ?_⟩;refine⟨_,rfl,?_⟩;refine gi (i:=0) (d:= .tup [.str u,.str n]) (L.mono s1.tk) (qm (j:=0) rfl) fun x hx=> ?_;refine⟨_,rfl,?_⟩;refine gi (i:=1) (d:=an) (L.mono s1.tk) (qm (j:=1) rfl) fun y Y=> ?_;refine⟨x,y,u,_,an,rfl,hx,Y,fun H2 s2=> ?_⟩;simp only at O;rw [O];exact k H2 (s1.trans s2)
theorem ok_run (T:Tx K mg a)(C:Fx K w mg g a):FnOk P w K mg base CX0 5 a.f_is_run a.d_is_run ["value"] sp_run:=by
 have QO:=JL (P:=P) (w:=w) (base:=base) T;have B:=ok_end (P:=P) (w:=w) (base:=base) T C;have YU:=ok_aask (P:=P) (w:=w) (base:=base) T;refine T.g_is_run.F.ok sc_is_run (by trivial) (fun _ _ _ _ H vs Q E M h=> ?_)
 obtain⟨v,⟨ps,e⟩,rfl,O,iv,k⟩:=h;refine⟨_,(@qd _ _ _ _ _ (@qM _ _ _ _ _ _ _ _ (@YO _ _ _ _ _ _ _ (@Q8 _ _ _ _ (@Qw _ _ _ (@qt _ _ _ _ _ _ _ _ _ _ _ _ _ _ _ _ QO (M.mono (by trivial)) (by rfl) T.g_is_pair.m T.g_is_pair.F.kp T.g_is_pair.b .nil qG (@qa _ _ _ _ _ (pv 0) qc (by trivial)) (by trivial) (by trivial) (by trivial)) (by trivial))) (@yN _ _ _ _ (@Q8 _ _ _ _ (@Qw _ _ _ (@qp _ _ _ _ _ _ _ _ _ (@qO _ _ rfl) (by rfl) T.qI vb (@qa _ _ _ _ _ (@qA _ _ _ _ _ _ _ qD (pv 0) qh (fun _ _=>rfl)) (@qa _ _ _ _ _ (@QL _ _ (.ty "tuple") _ _ (by rfl) T.Qj vq rfl (by trivial) (by trivial)) qc (by trivial)) (by trivial)) (by trivial) (by trivial) (by trivial) (by trivial)) (by trivial))))).pt (@qg _ _ _ (@qr _ _ _ _ QF)) qs) (@qg _ _ _ (@qr _ _ _ _ (@ju _ _ _ _ _ _ _ (@qp _ _ _ _ _ _ _ _ _ (@jD _ rfl) (by rfl) T.z_all boot_all (@qa _ _ _ _ _ (@pe_lc _ _ (["pair"]) (1) ([]) _ _ _ _ _ _ _ _ _ (lcs0) rfl (@Y0 _ _ _ _ (@qA _ _ _ _ _ _ _ qD (pv 0) qh (fun _ _=>rfl))) (fun _ _ _ _ _ _=>(@qF _ _ (0) _ (show List.Nodup (["pair"]:List Str) by decide+kernel) rfl (Or.inl rfl) (by trivial))) (fun _ _ _ _ _ _=> @yj _) (fun _ _ _ _ _ _=>(@qt _ _ _ _ _ _ _ _ _ _ _ _ _ _ _ _ YU (M.mono (by trivial)) (by rfl) T.g_is_answered_ask.m T.g_is_answered_ask.F.kp T.g_is_answered_ask.b .nil qG (@qa _ _ _ _ _ (pv 0) qc (by trivial)) (by trivial) (by trivial) (by trivial))) (by trivial)) qc (by trivial)) (by trivial) (by trivial) (by trivial) (by trivial)) (@jF _ _ _ _ _ (@qt _ _ _ _ _ _ _ _ _ _ _ _ _ _ _ _ B (M.mono (by trivial)) (by rfl) T.g_is_end.m T.g_is_end.F.kp T.g_is_end.b .nil qG (@qa _ _ _ _ _ (@qA _ _ _ _ _ _ _ qD (pv 0) qh (fun _ _=>rfl)) qc (by trivial)) (by trivial) (by trivial) (by trivial))))))),?_⟩
 have I:Is H (.tup [.tup (ps.map prD),e]) v:=iv;refine⟨_,rfl,v,_,rfl,iv,_,rfl,iteF ?_⟩;refine⟨_,rfl,?_⟩;refine gi (i:=0) (d:= .tup (ps.map prD)) I (qm (j:=0) rfl) fun x hx=> ?_;refine⟨x,"tuple",tyD (.tup (ps.map prD)),YQ (.tup (ps.map prD)),rfl,hx.ty,YN _,_,rfl,iteF ?_⟩;refine⟨_,rfl,?_⟩;refine gi (i:=0) (d:= .tup (ps.map prD)) I (qm (j:=0) rfl) fun x hx=> ?_;obtain⟨a0,vs,rfl,L,U⟩:=hx;have hl:(ps.map prD).length<=1000:=by have:=O.len;simp only [ue] at this⊢;omega
 refine⟨a0,vs,rfl,SqT.of L,fun aa A0 Y=> ?_⟩;refine jU (tl:= []) (fun _=> .bl true) L U (Yb hl) Y (fun d0 x0 H3 R Z s3 i3 r=> ?_) fun H1 ys s1 l1 i1=> ?_
 ·obtain⟨p,hp,rfl⟩:=List.mem_map.mp Z;exact⟨_,rfl,x0,p,rfl,O.prs p hp,i3,fun H4 s4=>r _ H4 s4 rfl⟩
 have ey:ys=(ps.map fun _=>true).map V.bl:=IsL.bls (by rw [v7] at i1⊢;exact i1)
 refine⟨A0,ps.map fun _=>true,rfl,SqL.of (by rw [l1,ey]),?_⟩
 have:(ps.map fun _=>true).all id=true:=by simp
 rw [this];refine⟨_,rfl,iteT ?_⟩;refine⟨_,rfl,?_⟩;refine gi (i:=1) (d:=e) (I.mono s1.tk) (qm (j:=1) rfl) fun x hx=>⟨x,e,rfl,O.en,hx,fun H2 s2=>k H2 (s1.trans s2)⟩
mutual
def lw:D->Bool
 | .str _=>true
 | .tup xs=>lwL xs
 |_=>false
def lwL:List D->Bool
 | []=>true
 |x::r=>lw x&&lwL r
end
mutual
def keyD:D->D
 | .tup xs=> .tup [.int 2,.tup (keyL xs)]
 |d=> .tup [.int 1,d]
def keyL:List D->List D
 | []=> []
 |x::r=>keyD x::keyL r
end
theorem keyL_map:∀xs:List D,keyL xs=xs.map keyD
 | []=>rfl
 |x::r=>by simp only [keyL,uo,keyL_map r]
mutual
def lkD:D->D
 | .tup xs=> .tup [.int 1,.tup (lkL xs)]
 |d=> .tup [.int 0,d]
def lkL:List D->List D
 | []=> []
 |x::r=>lkD x::lkL r
end
theorem lkL_map:∀xs:List D,lkL xs=xs.map lkD
 | []=>rfl
 |x::r=>by simp only [lkL,uo,lkL_map r]
theorem dpL_mem:∀{xs:List D}{x:D},x∈xs->dp x<=dpL xs
 |y::r,x,h=>by
  simp only [dpL];rcases List.mem_cons.mp h with rfl|h
  ·omega
  ·have:=dpL_mem h;omega
theorem dp_row {xs:List D}{x:D}(h:x∈xs):dp x<dp (.tup xs):=by
 have:=dpL_mem h;simp only [dp];omega
theorem lwL_mem:∀{xs:List D}{x:D},lwL xs=true->x∈xs->lw x=true
 | [],_,_,h=>nomatch h
 |y::r,x,h,hx=>by
  have h':lw y=true/\lwL r=true:=by simpa [lwL] using h
  rcases List.mem_cons.mp hx with rfl|hx
  ·exact h'.1
  ·exact lwL_mem h'.2 hx
def ANS:List D:= [.non,.str "",.str "no",.str "qqqqqqqqqqqqqqqqqqqq",.str "x",.str "yes",.tup [],.tup [.str "a"],.tup [.str "a",.str "b1"],.tup [.tup [.str "x"],.str "b1"]]
def aR (d:D):Nat:=ANS.findIdx fun x=>eqN x d
def akL:D->List D
 | .tup xs=> [.int 2,.tup (keyL xs)]
 | .non=> [.int 0]
 |d=> [.int 1,d]
def loD:D->D
 | .non=> .tup [.int 0]
 |d=> .tup [.int 1,lkD d]
theorem Jv {p:D->Bool}(h:ANS.all p=true):∀x∈ANS,p x=true:=List.all_eq_true.mp h
theorem JF {p:D->D->Bool}(h:(ANS.all fun x=>ANS.all fun y=>p x y)=true):∀x∈ANS,∀y∈ANS,p x y=true:=fun x hx=>List.all_eq_true.mp (List.all_eq_true.mp h x hx)
theorem ans_lw:∀d∈ANS,d≠ .non->lw d=true/\dp d<=6/\keyD d= .tup (akL d):=by
 intro d hd hn;simp only [ANS,uY,uQ,Ud] at hd;rcases hd with rfl|rfl|rfl|rfl|rfl|rfl|rfl|rfl|rfl|rfl<;>first|exact absurd rfl hn|exact⟨by decide+kernel,by decide+kernel,by simp [keyD,akL]⟩
theorem ans_k:∀d∈ANS,(kD d&&decide (dp d<=3))=true:=Jv (by decide+kernel)
theorem ans_ak:∀d∈ANS,(puL (akL d)&&decide (dpL (akL d)<=20))=true:=Jv (by decide+kernel)
theorem ans_hd (d:D):∃n r,akL d= .int n::r:=by cases d<;>simp only [akL]<;>exact⟨_,_,rfl⟩
theorem ans_lt:∀x∈ANS,∀y∈ANS,decide (ltL (akL x) (akL y)=some (decide (aR x<aR y)))=true:=JF (by decide+kernel)
theorem ans_lo:∀x∈ANS,∀y∈ANS,((eqD (loD x) (loD y)==decide (aR x=aR y))&&(decide (aR x=aR y)||decide (ltD (loD x) (loD y)=some (decide (aR x<aR y)))))=true:=JF (by decide+kernel)
theorem ans_lp:∀d∈ANS,(puD (loD d)&&decide (dp (loD d)<=10))=true:=Jv (by decide+kernel)
theorem ans_inj1:∀x∈ANS,∀y∈ANS,(!decide (aR x=aR y)||eqN x y)=true:=JF (by decide+kernel)
theorem ans_ten:∀d∈ANS,decide (aR d<10)=true:=Jv (by decide+kernel)
theorem Yh {x y:D}(hx:x∈ANS)(B:y∈ANS)(h:aR x=aR y):x=y:=by
 have:=ans_inj1 x hx y B;rw [uc h,UE,Bool.false_or] at this;have hk:=ans_k x hx;rw [uh] at hk;exact(Qr (kD_n hk.1)).mp this
def Ji (n:Nat):Sp:=fun vs H Q _=>∃(v:V) (d:D),vs= [v]/\Is H d v/\lw d=true/\dp d<n/\∀(u:V) (H':Hp),Same H H'->Is H' (keyD d) u->Q u H'
def YR (n:Nat):Sp:=fun vs H Q _=>∃(v:V) (d:D),vs= [v]/\Is H d v/\lw d=true/\dp d<n/\∀(u:V) (H':Hp),Same H H'->Is H' (lkD d) u->Q u H'
def sp_akey:Sp:=fun vs H Q _=>∃(v:V) (d:D),vs= [v]/\d∈ANS/\Is H d v/\∀(u:V) (H':Hp),Same H H'->Is H' (.tup (akL d)) u->Q u H'
theorem key_none {f:Addr}{fd:FuncData}{l:Nat}:FnOk P w K mg base CX0 l f fd ["tree"] (Ji 0):=by
 have no:∀vs H Q E,¬Ji 0 vs H Q E:=fun vs H Q E h=>by
  obtain⟨p,k,_,_,_,h1,_⟩:=h;omega
 exact⟨fun vs H Q E h=>absurd h (no vs H Q E),fun A outer s H args us vs Q E _ _ _ _ h=>absurd h (no vs H Q E)⟩
theorem ok_key1 (T:Tx K mg a){n:Nat}(YM:FnOk P w K mg base CX0 (n+1) a.yc a.yd ["tree"] (Ji n)):FnOk P w K mg base CX0 (n+2) a.yc a.yd ["tree"] (Ji (n+1)):=by
 refine T.g_tree_key.F.ok sc_tree_key (by trivial) (fun _ _ _ _ H vs Q E hr h=> ?_)
 obtain⟨v,d,rfl,Y,B,hd,k⟩:=h;refine⟨_,(@qd _ _ _ _ _ (@qM _ _ _ _ _ _ _ _ (@Qw _ _ _ (@qp _ _ _ _ _ _ _ _ _ (@qO _ _ rfl) (by rfl) T.qI vb (@qa _ _ _ _ _ (pv 0) (@qa _ _ _ _ _ (@QL _ _ (.ty "tuple") _ _ (by rfl) T.Qj vq rfl (by trivial) (by trivial)) qc (by trivial)) (by trivial)) (by trivial) (by trivial) (by trivial) (by trivial)) (by trivial)) (@qg _ _ _ (@qr _ _ _ _ (@qk _ _ _ _ _ (@qa _ _ _ _ _ qh (@qa _ _ _ _ _ (@qN _ _ _ _ _ _ _ _ _ qH (by rfl) T.Qj vq (@qa _ _ _ _ _ (@pe_lc _ _ (["part"]) (1) ([]) _ _ _ _ _ _ _ _ _ (lcs0) rfl (@Y0 _ _ _ _ (pv 0)) (fun _ _ _ _ _ _=>(@qF _ _ (0) _ (show List.Nodup (["part"]:List Str) by decide+kernel) rfl (Or.inl rfl) (by trivial))) (fun _ _ _ _ _ _=> @yj _) (fun _ _ _ _ _ _=>(@qt _ _ _ _ _ _ _ _ _ _ _ _ _ _ _ _ YM (hr.mono (by trivial)) (by rfl) T.g_tree_key.m T.g_tree_key.F.kp T.g_tree_key.b .nil qG (@qa _ _ _ _ _ (pv 0) qc (by trivial)) (by trivial) (by trivial) (by trivial))) (by trivial)) qc (by trivial)) (by trivial) (by trivial) (by trivial) (by trivial)) qc (by trivial)) (by trivial))))) qs) (@qg _ _ _ (@qr _ _ _ _ (@qk _ _ _ _ _ (@qa _ _ _ _ _ qh (@qa _ _ _ _ _ (pv 0) qc (by trivial)) (by trivial)))))),?_⟩
 refine⟨_,rfl,v,"tuple",tyD d,YQ d,rfl,Y.ty,YN d,_,rfl,?_⟩;cases ht:YQ d with
 |true=>
  refine iteT ?_;cases d with
  |tup xs=>
   obtain⟨a0,vs,rfl,I,L⟩:=Y;have lv:=L.length;have Z:lwL xs=true:=by simpa only [lw] using B
   refine⟨_,rfl,a0,vs,rfl,SqT.of I,fun ac A0 aa=> ?_⟩;have ab:xs.length<=sizeLine:=by omega
   refine jU (tl:= []) keyD I L ab aa (fun d0 x0 H3 R M s3 i3 r=> ?_) fun H1 ys s1 l1 i1=> ?_
   ·refine⟨_,rfl,x0,d0,rfl,i3,lwL_mem Z M,?_,fun u H4 s4 h4=>r u H4 s4 h4⟩;have:=dp_row M;omega
   ·refine⟨A0,ys,rfl,.inl ⟨SqL.of l1,fun t O=>⟨(by show 2<=sizeLine;decide),fun p U=> ?_⟩⟩⟩
    have e:keyD (.tup xs)= .tup [.int 2,.tup (keyL xs)]:=by simp only [keyD]
    have i2:Is (upd H1 t (.tup ys)) (.tup (keyL xs)) (.ref t):=by rw [keyL_map];exact Is.new i1 O
    refine k (.ref p) _ ((s1.trans (qb O _)).trans (qb U _)) ?_;rw [e];exact Is.new (ds:= [.int 2,.tup (keyL xs)]) ⟨_,_,rfl,rfl,_,_,rfl,i2,rfl⟩ U
  |_=>simp [YQ] at ht
 |false=>
  refine iteF ?_;cases d with
  |str z=>
   refine⟨_,rfl,(by show 2<=sizeLine;decide),fun p U=>k _ _ (qb U _) ?_⟩
   have e:keyD (.str z)= .tup [.int 1,.str z]:=by simp only [keyD]
   rw [e];exact Is.new (ds:= [.int 1,.str z]) ⟨_,_,rfl,rfl,_,_,rfl,Y,rfl⟩ U
  |tup xs=>simp [YQ] at ht
  |_=>simp [lw] at B
theorem ok_key (T:Tx K mg a):∀n:Nat,FnOk P w K mg base CX0 (n+1) a.yc a.yd ["tree"] (Ji n)
 |0=>key_none
 |n+1=>ok_key1 T (ok_key T n)
theorem lkey_none {f:Addr}{fd:FuncData}{l:Nat}:FnOk P w K mg base CX0 l f fd ["tree"] (YR 0):=by
 have no:∀vs H Q E,¬YR 0 vs H Q E:=fun vs H Q E h=>by
  obtain⟨p,k,_,_,_,h1,_⟩:=h;omega
 exact⟨fun vs H Q E h=>absurd h (no vs H Q E),fun A outer s H args us vs Q E _ _ _ _ h=>absurd h (no vs H Q E)⟩
theorem ok_lkey1 (T:Tx K mg a){n:Nat}(jY:FnOk P w K mg base CX0 (n+1) a.yG a.yH ["tree"] (YR n)):FnOk P w K mg base CX0 (n+2) a.yG a.yH ["tree"] (YR (n+1)):=by
 refine T.g_law_key.F.ok sc_law_key (by trivial) (fun _ _ _ _ H vs Q E hr h=> ?_)
 obtain⟨v,d,rfl,Y,B,hd,k⟩:=h;refine⟨_,(@qd _ _ _ _ _ (@qM _ _ _ _ _ _ _ _ (@Qw _ _ _ (@qp _ _ _ _ _ _ _ _ _ (@qO _ _ rfl) (by rfl) T.qI vb (@qa _ _ _ _ _ (pv 0) (@qa _ _ _ _ _ (@QL _ _ (.ty "str") _ _ (by rfl) T.z_str boot_str rfl (by trivial) (by trivial)) qc (by trivial)) (by trivial)) (by trivial) (by trivial) (by trivial) (by trivial)) (by trivial)) (@qg _ _ _ (@qr _ _ _ _ (@qk _ _ _ _ _ (@qa _ _ _ _ _ qh (@qa _ _ _ _ _ (pv 0) qc (by trivial)) (by trivial))))) qs) (@qg _ _ _ (@qr _ _ _ _ (@qk _ _ _ _ _ (@qa _ _ _ _ _ qh (@qa _ _ _ _ _ (@qN _ _ _ _ _ _ _ _ _ qH (by rfl) T.Qj vq (@qa _ _ _ _ _ (@pe_lc _ _ (["part"]) (1) ([]) _ _ _ _ _ _ _ _ _ (lcs0) rfl (@Y0 _ _ _ _ (pv 0)) (fun _ _ _ _ _ _=>(@qF _ _ (0) _ (show List.Nodup (["part"]:List Str) by decide+kernel) rfl (Or.inl rfl) (by trivial))) (fun _ _ _ _ _ _=> @yj _) (fun _ _ _ _ _ _=>(@qt _ _ _ _ _ _ _ _ _ _ _ _ _ _ _ _ jY (hr.mono (by trivial)) (by rfl) T.g_law_key.m T.g_law_key.F.kp T.g_law_key.b .nil qG (@qa _ _ _ _ _ (pv 0) qc (by trivial)) (by trivial) (by trivial) (by trivial))) (by trivial)) qc (by trivial)) (by trivial) (by trivial) (by trivial) (by trivial)) qc (by trivial)) (by trivial)))))),?_⟩
 refine⟨_,rfl,v,"str",tyD d,isStr d,rfl,Y.ty,kit_str d,_,rfl,?_⟩;cases d with
 |tup xs=>
  refine iteF ?_;obtain⟨a0,vs,rfl,I,L⟩:=Y;have lv:=L.length;have Z:lwL xs=true:=by simpa only [lw] using B
  refine⟨_,rfl,a0,vs,rfl,SqT.of I,fun ac A0 aa=> ?_⟩;have ab:xs.length<=sizeLine:=by omega
  refine jU (tl:= []) lkD I L ab aa (fun d0 x0 H3 R M s3 i3 r=> ?_) fun H1 ys s1 l1 i1=> ?_
  ·refine⟨_,rfl,x0,d0,rfl,i3,lwL_mem Z M,?_,fun u H4 s4 h4=>r u H4 s4 h4⟩;have:=dp_row M;omega
  ·refine⟨A0,ys,rfl,.inl ⟨SqL.of l1,fun t O=>⟨(by show 2<=sizeLine;decide),fun p U=> ?_⟩⟩⟩
   have e:lkD (.tup xs)= .tup [.int 1,.tup (lkL xs)]:=by simp only [lkD]
   have i2:Is (upd H1 t (.tup ys)) (.tup (lkL xs)) (.ref t):=by rw [lkL_map];exact Is.new i1 O
   refine k (.ref p) _ ((s1.trans (qb O _)).trans (qb U _)) ?_;rw [e];exact Is.new (ds:= [.int 1,.tup (lkL xs)]) ⟨_,_,rfl,rfl,_,_,rfl,i2,rfl⟩ U
 |str z=>
  refine iteT ?_;refine⟨_,rfl,(by show 2<=sizeLine;decide),fun p U=>k _ _ (qb U _) ?_⟩
  have e:lkD (.str z)= .tup [.int 0,.str z]:=by simp only [lkD]
  rw [e];exact Is.new (ds:= [.int 0,.str z]) ⟨_,_,rfl,rfl,_,_,rfl,Y,rfl⟩ U
 |_=>simp [lw] at B
theorem ok_lkey (T:Tx K mg a):∀n:Nat,FnOk P w K mg base CX0 (n+1) a.yG a.yH ["tree"] (YR n)
 |0=>lkey_none
 |n+1=>ok_lkey1 T (ok_lkey T n)
theorem ok_akey (T:Tx K mg a):FnOk P w K mg base CX0 9 a.Y6 a.jf ["answer"] sp_akey:=by
 have M:FnOk P w K mg base CX0 8 a.yc a.yd ["tree"] (Ji 7):=ok_key T 7;refine T.g_answer_key.F.ok J8 (by trivial) (fun _ _ _ s H _ Q E O h=> ?_)
 obtain⟨v,d,rfl,hm,B,k⟩:=h;refine⟨_,(@qg _ _ _ (@qr _ _ _ _ (@JK _ _ _ _ _ _ _ _ (@qq _ _ _ _ _ _ _ _ Y5 (pv 0) Qg (qw _)) (@qk _ _ _ _ _ (@qa _ _ _ _ _ qh qc (by trivial))) (@qt _ _ _ _ _ _ _ _ _ _ _ _ _ _ _ _ M (O.mono (by trivial)) (by rfl) T.g_tree_key.m T.g_tree_key.F.kp T.g_tree_key.b .nil qG (@qa _ _ _ _ _ (pv 0) qc (by trivial)) (by trivial) (by trivial) (by trivial))))),?_⟩
 refine⟨_,rfl,rfl,_,rfl,?_⟩;by_cases I:d= .non
 ·subst I;cases(show v= .non from B)
  refine qR (by decide+kernel) ?_
  exact⟨(by show 1<=sizeLine;decide),fun p L=>k _ _ (qb L _) (Is.new (ds:= [.int 0]) ⟨_,_,rfl,rfl,rfl⟩ L)⟩
 ·refine qC (ub (YV B I)) ?_;obtain⟨R,Z,U⟩:=ans_lw d hm I;refine⟨_,rfl,v,d,rfl,B,R,by omega,fun u H' s' Y=>k u H' s' ?_⟩
  rw [<-U];exact Y
end
def ans (r:Rn):List D:=r.1.map (·.2)
def thr (r:Rn)(i:Nat):D:=match r.1[i]? with
 |some p=> .tup [.str "asks",p.1]
 |none=>r.2
def Yo:D->Bool
 | .tup (.str z::_)=>decide (z="asks")
 |_=>false
def askOf:D->D
 | .tup [_,q]=>q
 |d=>d
def Fit (r r':Rn):Prop:=∀p,p<+:ans r->p<+:ans r'->thr r p.length=thr r' p.length
def Fits (rs:List Rn):Prop:=∀r∈rs,∀r'∈rs,Fit r r'
structure RunA (r:Rn):Prop where
 ok:RunOk r
 an:∀c∈ans r,c∈ANS
theorem qP (r:Rn):(ans r).length=r.1.length:=by simp [ans]
theorem end_no {e:D}(h:EndOk e):Yo e=false:=by
 rcases h with⟨d,rfl,_⟩|⟨z,_,rfl⟩<;>rfl
theorem Ya {r:Rn}{i:Nat}(h:r.1.length<=i):thr r i=r.2:=by unfold thr;rw [List.getElem?_eq_none h]
theorem yD {r:Rn}{i:Nat}{p:D×D}(h:r.1[i]? =some p):thr r i= .tup [.str "asks",p.1]:=by unfold thr;rw [h]
theorem qV {r:Rn}{i:Nat}(B:RunOk r):Yo (thr r i)=decide (i<r.1.length):=by
 by_cases c:i<r.1.length
 ·rw [yD (u7 c),uc c];rfl
 ·rw [Ya (by omega),ub c];exact end_no B.en
theorem QG {p l:List D}{c:D}:p++ [c]<+:l↔p<+:l/\l[p.length]? =some c:=by
 constructor
 ·rintro⟨t,rfl⟩;exact⟨⟨c::t,by simp⟩,by simp⟩
 ·rintro⟨⟨t,rfl⟩,h⟩;rw [Ua (Nat.le_refl _),Nat.sub_self] at h;cases t with
  |nil=>simp at h
  |cons x t=>
   simp at h;subst h;exact⟨t,by simp⟩
theorem Ys {r:Rn}{i:Nat}:(ans r)[i]? =r.1[i]?.map (·.2):=by unfold ans;rw [um]
theorem fit_one {r r':Rn}(h:RunOk r)(h':RunOk r')(f:Fit r r')(p:ans r<+:ans r'):r=r':=by
 have e:=f _ (Uf _) p;have L:r'.1.length<=r.1.length:=by
  rcases uS r.1.length r'.1.length with c|c
  ·have:=congrArg Yo e;rw [qP,qV h,qV h',uc c,ub (by omega)] at this
   cases this
  ·exact c
 have pl:=p.length_le;rw [qP,qP] at pl;have B:ans r=ans r':=p.eq_of_length (by rw [qP,qP];omega)
 rw [qP,Ya (Nat.le_refl _),Ya L] at e;refine Prod.ext (List.ext_getElem (by omega) fun i h1 h2=> ?_) e
 have t:=f ((ans r).take i) (Ug _ _) (by rw [B];exact Ug _ _)
 rw [uV,qP,Nat.min_eq_left (by omega),yD (u7 h1),yD (u7 h2)] at t
 have I:(ans r)[i]? =(ans r')[i]? :=by rw [B]
 rw [Ys,Ys,u7 h1,u7 h2] at I;refine Prod.ext ?_ (by simpa using I)
 simpa using t
section
open Classical
noncomputable def th (rs:List Rn) (p:List D):D:=if h:∃r∈rs,p<+:ans r then thr (choose h) p.length else .non
theorem th_eq {rs:List Rn}(F:Fits rs){r:Rn}{p:List D}(B:r∈rs)(I:p<+:ans r):th rs p=thr r p.length:=by
 unfold th;have h:∃r∈rs,p<+:ans r:=⟨r,B,I⟩;rw [dif_pos h];obtain⟨h1,h2⟩:=choose_spec h;exact F _ h1 _ B p h2 I
noncomputable def wk (rs:List Rn):List D->List (D×D)->List D->List (D×D)×D
 |p,g,[]=>(g,th rs p)
 |p,g,c::cs=>if(∃r∈rs,p++ [c]<+:ans r) then wk rs (p++ [c]) (g++ [(askOf (th rs p),c)]) cs else if Yo (th rs p)=true then(g,.non) else(g,th rs p)
end
def rk (r:Rn):List Nat:=(ans r).map aR
def Srt (rs:List Rn):Prop:=rs.Pairwise fun r r'=>rk r<rk r'
theorem uniq {α:Type}{R:α->α->Prop}(B:∀x y,R x y->R y x->False):∀{l I:List α},l.Pairwise R->I.Pairwise R->(∀x,x∈l↔x∈I)->l=I
 | [],[],_,_,_=>rfl
 | [],y::_,_,_,h=>absurd ((h y).mpr ua) (by simp)
 |x::_,[],_,_,h=>absurd ((h x).mp ua) (by simp)
 |x::l,y::I,h1,h2,h=>by
  rw [List.pairwise_cons] at h1 h2;have e:x=y:=Classical.byContradiction fun n=>by
   have L:=(h x).mp ua;have M:=(h y).mpr ua;rcases List.mem_cons.mp L with c|c
   ·exact n c
   rcases List.mem_cons.mp M with d|d
   ·exact n d.symm
   exact B _ _ (h1.1 y d) (h2.1 x c)
  subst e;rw [uniq B h1.2 h2.2 fun z=> ?_];constructor
  ·intro hz;rcases List.mem_cons.mp ((h z).mp (u9 _ hz)) with c|c
   ·subst c;exact(B _ _ (h1.1 z hz) (h1.1 z hz)).elim
   ·exact c
  ·intro hz;rcases List.mem_cons.mp ((h z).mpr (u9 _ hz)) with c|c
   ·subst c;exact(B _ _ (h2.1 z hz) (h2.1 z hz)).elim
   ·exact c
theorem srt_uniq {l B:List Rn}(h1:Srt l)(h2:Srt B)(h:∀x,x∈l↔x∈B):l=B:=uniq (fun x y a b=>List.lt_asymm a b) h1 h2 h
theorem cut_min {α:Type}{f:α->Nat}{m:Nat}:∀{L:List α},L.Pairwise (fun x y=>f x<=f y)->(∀x∈L,m<=f x)->L=L.filter (fun x=>decide (f x=m))++L.filter (fun x=> !decide (f x=m))
 | [],_,_=>rfl
 |x::L,h,hm=>by
  rw [List.pairwise_cons] at h;by_cases c:f x=m
  ·rw [List.filter_cons_of_pos (by simpa using c),List.filter_cons_of_neg (by simpa using c),List.cons_append,<-cut_min h.2 fun y B=>hm y (u9 _ B)]
  ·have O:m<f x:=Nat.lt_of_le_of_ne (hm x ua) (vZ c);have I:(x::L).filter (fun x=>decide (f x=m))= []:=by
    rw [List.filter_eq_nil_iff];intro y B;rcases List.mem_cons.mp B with rfl|B
    ·simpa using c
    ·have:=h.1 y B;simp only [uW];omega
   have M:(x::L).filter (fun x=> !decide (f x=m))=x::L:=by
    rw [List.filter_eq_self];intro y B;rcases List.mem_cons.mp B with rfl|B
    ·simpa using c
    ·have:=h.1 y B;simp only [Bool.not_eq_true',decide_eq_false_iff_not];omega
   rw [I,M,List.nil_append]
theorem cut_all {α:Type}{f:α->Nat}:∀{ks:List D}{L:List α},L.Pairwise (fun x y=>f x<=f y)->ks.Pairwise (fun c d=>aR c<aR d)->(∀x∈L,∃c∈ks,f x=aR c)->L=ks.flatMap fun c=>L.filter fun x=>decide (f x=aR c)
 | [],[],_,_,_=>rfl
 | [],x::L,_,_,h=>by obtain⟨c,B,_⟩:=h x ua;cases B
 |c::ks,L,h,hk,B=>by
  rw [List.pairwise_cons] at hk;rw [vU];have e:=cut_min (m:=aR c) h fun x hx=>by
   obtain⟨d,hd,e⟩:=B x hx;rcases List.mem_cons.mp hd with rfl|hd
   ·omega
   ·have:=hk.1 d hd;omega
  have I:=cut_all (ks:=ks) (L:=L.filter fun x=> !decide (f x=aR c)) (h.filter _) hk.2 fun x hx=>by
   rw [List.mem_filter] at hx;obtain⟨d,hd,M⟩:=B x hx.1;rcases List.mem_cons.mp hd with rfl|hd
   ·have:=hx.2;rw [uc M] at this;cases this
   ·exact⟨d,hd,M⟩
  have O:(ks.flatMap fun d=>(L.filter fun x=> !decide (f x=aR c)).filter fun x=>decide (f x=aR d))=ks.flatMap fun d=>L.filter fun x=>decide (f x=aR d):=by
   rw [List.flatMap,List.flatMap]
   congr 1
   refine List.map_congr_left fun d hd=> ?_;rw [List.filter_filter];refine List.filter_congr fun x _=> ?_;have:=hk.1 d hd;by_cases q:f x=aR d
   ·rw [uc q,ub (by omega)];rfl
   ·rw [ub q];rfl
  rw [O] at I;rw [<-I];exact e
theorem lt_pre:∀{l:List Nat}{a b:Nat}{s t:List Nat},l++a::s<l++b::t->a<=b
 | [],a,b,s,t,h=>by
  rcases List.cons_lt_cons_iff.mp h with h|⟨h,_⟩<;>omega
 |x::l,a,b,s,t,h=>by
  rcases List.cons_lt_cons_iff.mp h with h|⟨_,h⟩
  ·omega
  ·exact lt_pre h
theorem putF_le (f:Str)(v:V):∀fs:List (Str×V),(putF f v fs).length<=fs.length+1
 | []=>Nat.le_refl _
 |(g,x)::r=>by
  unfold putF;by_cases c:g=f
  ·rw [if_pos c];simp
  ·rw [if_neg c];have:=putF_le f v r;simp only [uy];omega
theorem JS {f:Str}{v:V}:∀{fs:List (Str×V)}{u:V},fs.lookup f=some u->(putF f v fs).length=fs.length
 |(g,x)::r,u,h=>by
  unfold putF;by_cases c:g=f
  ·rw [if_pos c];rfl
  ·rw [if_neg c,uy,uy];have e:(f==g)=false:=by simp;exact fun z=>c z.symm
   rw [uI,e] at h;rw [JS (u:=u) h]
 | [],u,h=>by simp at h
structure Ini (n:Nat)(H:Hp)(C x dx:Addr)(fs:List (Str×V))(H':Hp):Prop where
 len:fs.length<=n
 at':H' x=some (.ins C dx fs)
 kept:∀b o,H b=some o->b≠x->H' b=some o
theorem Ini.put {n:Nat}{H H':Hp}{C x dx:Addr}{fs:List (Str×V)}(I:Ini n H C x dx fs H')(f:Str)(v:V):Ini (n+1) H C x dx (putF f v fs) (upd H' x (.ins C dx (putF f v fs)))/\Tk H' (upd H' x (.ins C dx (putF f v fs))):=
 ⟨⟨vt (putF_le f v fs) (Nat.succ_le_succ I.len),qe,fun b o h n=>by rw [qi n];exact I.kept b o h n⟩,Tk.updI I.at'⟩
theorem Ini.same {n:Nat}{H H' H2:Hp}{C x dx:Addr}{fs:List (Str×V)}(I:Ini n H C x dx fs H')(s:Same H' H2):Ini n H C x dx fs H2:=⟨I.len,s _ _ I.at',fun b o h n=>s _ _ (I.kept b o h n)⟩
theorem slG_back {K:PySem.W.Frag}{H:Hp}{ds:List D}{v:V}{n:Nat}{Q:VK}(I:Is H (.tup ds) v)(hn:n<=ds.length)(q:∀t H',Same H H'->Is H' (.tup (ds.drop n)) t->Q t H'):rSlG K v (some (n:Int)) none H Q:=by
 obtain⟨a,vs,rfl,ha,B⟩:=id I;have R:=B.length;refine⟨a,_,rfl,SqT.of ha,fun e=> ?_,fun _ p L=> ?_⟩
 ·have M:=e.1;rw [HT.sIx_nat] at M;have O:n=0:=by omega
  refine q _ _ (Same.refl _) ?_;rw [O,List.drop_zero];exact I
 ·rw [cutV_drop (by omega)]
  exact q _ _ (qb L _) (Is.new (B.drop n) L)
theorem gsl {K:PySem.W.Frag}{σ:L2.St}{H:Hp}{ds:List D}{v:V}{n:Nat}{Q:VK}(B:Is H (.tup ds) v)(hn:n<=ds.length)(q:∀t H',Same H H'->Is H' (.tup (ds.drop n)) t->Q t H'):(fun l H2=>tNoPart σ H2 fun u I=>rSlG K v l u I Q) (some (n:Int)) H:=slG_back B hn q
structure Nf (fs:List (Str×V))(tv:V)(ed:Addr)(wv gv:V):Prop where
 there:fs.lookup ("there":Str)=some tv
 edges:fs.lookup ("edges":Str)=some (.ref ed)
 way:fs.lookup ("way":Str)=some wv
 givers:fs.lookup ("givers":Str)=some gv
 len:fs.length<=10
theorem nf_new {v gv wv:V}{ed:Addr}{fs:List (Str×V)}(e:fs=putF "givers" gv (putF "way" wv (putF "edges" (.ref ed) (putF "there" v []))))(B:fs.length<=10):Nf fs v ed wv gv:=by
 subst e;refine⟨?_,?_,?_,?_,B⟩
 all_goals simp only [QN]
 all_goals repeat first|rw [if_pos trivial]|rw [if_pos rfl]|rw [if_neg (by decide+kernel)]
theorem Nf.set_way {fs:List (Str×V)}{tv wv gv u:V}{ed:Addr}(h:Nf fs tv ed wv gv):Nf (putF "way" u fs) tv ed u gv:=by
 refine⟨?_,?_,?_,?_,by rw [JS h.way];exact h.len⟩
 all_goals rw [QN]
 all_goals first|rw [if_pos rfl]|(rw [if_neg (by decide+kernel)];first|exact h.there|exact h.edges|exact h.givers)
theorem Nf.set_givers {fs:List (Str×V)}{tv wv gv u:V}{ed:Addr}(h:Nf fs tv ed wv gv):Nf (putF "givers" u fs) tv ed wv u:=by
 refine⟨?_,?_,?_,?_,by rw [JS h.givers];exact h.len⟩
 all_goals rw [QN]
 all_goals first|rw [if_pos rfl]|(rw [if_neg (by decide+kernel)];first|exact h.there|exact h.edges|exact h.way)
def NdAt (C:Addr)(gd:D)(H:Hp)(x:Addr)(t:D)(ed:Addr)(wy:Option D):Prop:=∃(dx:Addr) (fs:List (Str×V)) (tv wv gv:V),H x=some (.ins C dx fs)/\Nf fs tv ed wv gv/\Is H t tv/\(wy=none->wv= .non)/\∀d,wy=some d->Is H d wv/\Is H gd gv
theorem NdAt.move {C:Addr}{gd:D}{H H':Hp}{x:Addr}{t:D}{ed:Addr}{B:Option D}(h:NdAt C gd H x t ed B)(tk:Tk H H')(e:∀o,H x=some o->H' x=some o):NdAt C gd H' x t ed B:=
 let⟨dx,fs,tv,wv,gv,h1,h2,h3,h4,h5⟩:=h;⟨dx,fs,tv,wv,gv,e _ h1,h2,h3.mono tk,h4,fun d hd=>⟨(h5 d hd).1.mono tk,(h5 d hd).2.mono tk⟩⟩
theorem NdAt.same {C:Addr}{gd:D}{H H':Hp}{x:Addr}{t:D}{ed:Addr}{B:Option D}(h:NdAt C gd H x t ed B)(s:Same H H'):NdAt C gd H' x t ed B:=h.move s.tk fun o e=>s _ _ e
theorem NdAt.some {C:Addr}{gd:D}{H:Hp}{x:Addr}{t:D}{ed:Addr}{B:Option D}(h:NdAt C gd H x t ed B):∃o,H x=some o:=let⟨_,_,_,_,_,h1,_⟩:=h;⟨_,h1⟩
def wyr (r:Rn)(i:Nat):Option D:=if r.1.length<=i then some (rnD r) else none
structure jG (w:World)(C:Addr)(gd:D)(H0 H:Hp)(r:Rn)(k:Nat)(nn ee:Nat->Addr):Prop where
 nd:∀j,k<=j->j<=r.1.length->NdAt C gd H (nn j) (thr r j) (ee j) (wyr r j)
 kd:∀j,k<=j->j<=r.1.length->∃kvs,DAt w H (ee j) kvs/\kvs.map (·.1)=((ans r)[j]?).toList/\∀x∈kvs,x.2.2= .ref (nn (j+1))
 fr:∀j,k<=j->j<=r.1.length->H0 (nn j)=none/\H0 (ee j)=none
 ni:∀i j,k<=i->i<=r.1.length->k<=j->j<=r.1.length->nn i=nn j->i=j
 ei:∀i j,k<=i->i<=r.1.length->k<=j->j<=r.1.length->ee i=ee j->i=j
theorem Qi {H0 H:Hp}(s:Same H0 H){x:Addr}(h:H x=none):H0 x=none:=by
 cases e:H0 x with
 |none=>rfl
 |some o=>rw [s _ _ e] at h;cases h
theorem jG.cons {w:World}{C:Addr}{gd:D}{H0 H H':Hp}{r:Rn}{k:Nat}{nn ee:Nat->Addr}(c:jG w C gd H0 H r (k+1) nn ee)(L:Same H0 H)(s:Same H H')(hk:k<r.1.length){x ed:Addr}(hx:H x=none)(M:H ed=none)
  (n:NdAt C gd H' x (thr r k) ed none) {kvs:List (D×V×V)} (g:DAt w H' ed kvs) (R:kvs.map (·.1)=((ans r)[k]?).toList) (U:∀x∈kvs,x.2.2= .ref (nn (k+1))):
  jG w C gd H0 H' r k (fun j=>if j=k then x else nn j) (fun j=>if j=k then ed else ee j):=by
 have nx:∀j,k+1<=j->j<=r.1.length->nn j≠x:=fun j h1 h2 e=>by
  obtain⟨o,O⟩:=(c.nd j h1 h2).some;rw [e,hx] at O;cases O
 have I:∀j,k+1<=j->j<=r.1.length->ee j≠ed:=fun j h1 h2 e=>by
  obtain⟨_,g,_⟩:=c.kd j h1 h2;have:=g.here;rw [e,M] at this;cases this
 refine⟨fun j h1 h2=> ?_,fun j h1 h2=> ?_,fun j h1 h2=> ?_,fun i j h1 h2 Y h4 e=> ?_,fun i j h1 h2 Y h4 e=> ?_⟩
 ·by_cases q:j=k
  ·subst q;simp only [if_true];unfold wyr;rw [if_neg (by omega)]
   exact n
  ·simp only [if_neg q];exact(c.nd j (by omega) h2).same s
 ·simp only [if_neg (show j+1≠k by omega)]
  by_cases q:j=k
  ·subst q;simp only [if_true];exact⟨kvs,g,R,U⟩
  ·simp only [if_neg q];obtain⟨kvs,g,Z,e2⟩:=c.kd j (by omega) h2
   exact⟨kvs,g.same s,Z,e2⟩
 ·by_cases q:j=k
  ·subst q;simp only [if_true];exact⟨Qi L hx,Qi L M⟩
  ·simp only [if_neg q];exact c.fr j (by omega) h2
 ·by_cases q:i=k
  ·by_cases B:j=k
   ·omega
   ·simp only [if_pos q,if_neg B] at e;exact absurd e.symm (nx j (by omega) h4)
  ·by_cases B:j=k
   ·simp only [if_neg q,if_pos B] at e;exact absurd e (nx i (by omega) h2)
   ·simp only [if_neg q,if_neg B] at e;exact c.ni i j (by omega) h2 (by omega) h4 e
 ·by_cases q:i=k
  ·by_cases B:j=k
   ·omega
   ·simp only [if_pos q,if_neg B] at e;exact absurd e.symm (I j (by omega) h4)
  ·by_cases B:j=k
   ·simp only [if_neg q,if_pos B] at e;exact absurd e (I i (by omega) h2)
   ·simp only [if_neg q,if_neg B] at e;exact c.ei i j (by omega) h2 (by omega) h4 e
def sp_ninit (w:World)(C:Addr):Sp:=fun vs H Q _=>∃(x dx:Addr) (v:V),vs= [.ref x,v]/\H x=some (.ins C dx [])/\∀(ed:Addr) (gv:V) (fs:List (Str×V)) (H':Hp),(∀b o,H b=some o->b≠x->H' b=some o)->H' x=some (.ins C dx fs)->Nf fs v ed .non gv->H ed=none->DAt w H' ed []->Q .non H'
def sp_tinit (C:Addr):Sp:=fun vs H Q _=>∃(x dx:Addr),vs= [.ref x]/\H x=some (.ins C dx [])/\∀(fs:List (Str×V)),fs= [(("beginning":Str),V.non)]->Q .non (upd H x (.ins C dx fs))
def sp_branch (w:World)(C:Addr)(gd:D):Sp:=fun vs H Q _=>∃(v gv:V) (r:Rn) (k:Nat),vs= [v,gv,.int (k:Int)]/\Is H (rnD r) v/\Is H gd gv/\RunA r/\k<=r.1.length/\∀(nn ee:Nat->Addr) (H':Hp),Same H H'->jG w C gd H H' r k nn ee->Q (.ref (nn k)) H'
theorem new_same {H H2:Hp}{x dx:Addr}{I L:HO}(hx:H x=none)(B:H dx=none)(kept:∀b o,(upd (upd H dx I) x L) b=some o->b≠x->H2 b=some o):Same H H2:=
 fun b o e=>kept b o (by rw [qi (qf e hx),qi (qf e B)];exact e) (qf e hx)
theorem tk_ext {w:World}{H:Hp}{a:Addr}{kvs B:List (D×V×V)}(h:DAt w H a kvs):Tk H (upd H a (dExt w a B)):=
 ⟨fun b xs e=>by rw [qi (fun z=>by rw [z,h.here] at e;cases e)];exact e,fun b xs e=>⟨xs,by rw [qi (fun z=>by rw [z,h.here] at e;cases e)];exact e⟩,fun b xs e=>⟨xs,by rw [qi (fun z=>by rw [z,h.here] at e;cases e)];exact e⟩⟩
section
variable {P:Program}{w:World}{K:PySem.W.Frag}{mg:Str->Option Value}{base:Heap}{a:Ad}{g:Ga}
theorem ok_ninit (T:Tx K mg a):FnOk P w K mg base CX0 1 a.Yi a.jP ["self","there"] (sp_ninit w a.qu):=by
 refine T.g_Node_init.F.ok sc_Node_init (by trivial) (fun _ _ _ _ H _ Q E hr h=> ?_)
 obtain⟨x,dx,v,rfl,hx,k⟩:=h;refine⟨_,(@qd _ _ _ _ _ (@YG _ _ _ _ _ _ _ _ (pv 0) (pv 1) rfl) (@qd _ _ _ _ _ (@YG _ _ _ _ _ _ _ _ (pv 0) (@pe_newD _ _ (w) rfl) rfl) (@qd _ _ _ _ _ (@YG _ _ _ _ _ _ _ _ (pv 0) Qg rfl) (@qg _ _ _ (@YG _ _ _ _ _ _ _ _ (pv 0) (@qk _ _ _ _ _ qc) rfl))))),?_⟩;have I0:Ini 0 H a.qu x dx [] H:=⟨Nat.le_refl _,hx,fun b o h _=>h⟩;refine⟨_,rfl,_,rfl,x,_,dx,[],rfl,hx,T.qL,T.Qo,by decide,?_⟩
 obtain⟨Z,t1⟩:=I0.put "there" v;intro ed B;have M:=Z.same (qb B (dExt w ed []));have d2:DAt w (upd (upd H x (.ins a.qu dx (putF "there" v []))) ed (dExt w ed [])) ed []:=⟨qe,fun p hp=>absurd hp (by simp),List.nodup_nil⟩
 have I:ed≠x:=(qf Z.at' B).symm;have L:H ed=none:=by rw [qi I] at B;exact B
 refine⟨_,rfl,x,_,dx,_,rfl,M.at',T.qL,T.qy,by have:=M.len;omega,?_⟩
 obtain⟨O,t3⟩:=M.put "edges" (.ref ed);have d3:=d2.keep t3 (qi I);refine⟨_,rfl,x,_,dx,_,rfl,O.at',T.qL,T.QH,by have:=O.len;omega,?_⟩
 obtain⟨I4,t4⟩:=O.put "way" .non;have d4:=d3.keep t4 (qi I);refine⟨(by show 0<=sizeLine;decide),fun gp R=> ?_⟩
 have s5:=qb R (.tup []);have U:=I4.same s5;have d5:=d4.same s5;refine⟨_,rfl,x,_,dx,_,rfl,U.at',T.qL,T.Qe,by have:=U.len;omega,?_⟩
 obtain⟨Y,t6⟩:=U.put "givers" (.ref gp);have d6:=d5.keep t6 (qi I);exact k ed (.ref gp) _ _ Y.kept Y.at' (nf_new rfl (by have:=Y.len;omega)) L d6
theorem ok_tinit (T:Tx K mg a):FnOk P w K mg base CX0 1 a.Q1 a.yU ["self"] (sp_tinit a.ql):=by
 refine T.g_AskTree_init.F.ok jJ (by trivial) (fun _ _ _ _ H _ Q E B h=> ?_)
 obtain⟨x,dx,rfl,hx,k⟩:=h;refine⟨_,(@qg _ _ _ (@YG _ _ _ _ _ _ _ _ (pv 0) Qg rfl)),?_⟩;refine⟨_,rfl,x,_,dx,[],rfl,hx,T.qJ,T.qE,by decide,?_⟩
 exact k _ rfl
theorem ok_branch (T:Tx K mg a)(gd:D):FnOk P w K mg base CX0 3 a.xf a.JB ["run","givers","place"] (sp_branch w a.qu gd):=by
 have jv:=ok_ninit (P:=P) (w:=w) (base:=base) T;refine T.g_branch.F.ok yE (by trivial) (fun _ _ _ _ H _ Q E hr h=> ?_)
 obtain⟨v,gv,r,k,rfl,iv,ig,hR,hk,kQ⟩:=h;refine⟨_,(@qd _ _ _ _ _ (@qx _ _ (3) _ _ _ _ yE.nd rfl (Or.inl rfl) (@pe_make _ _ _ _ _ _ _ _ _ _ _ _ _ _ _ _ _ T.M_Node jv (hr.mono (by trivial)) (by rfl) T.m_Node T.g_Node_init.b .nil qG (@qa _ _ _ _ _ (@qA _ _ _ _ _ _ _ qD (pv 0) qh (fun _ _=>rfl)) qc (by trivial)) (by trivial) (by trivial) (by trivial)) (by trivial) (by trivial)) (@qd _ _ _ _ _ (@YG _ _ _ _ _ _ _ _ (pv 3) (pv 0) rfl) (@qd _ _ _ _ _ (@YG _ _ _ _ _ _ _ _ (pv 3) (pv 1) rfl) (@qd _ _ _ _ _ (@Q4 _ _ _ _ _ _ _ _ uO rfl (@pi_rev _ _ _ _ _ _ (by rfl) T.z_reversed (@jp _ _ _ _ _ _ _ _ _ _ sl_tupG (@qA _ _ _ _ _ _ _ qD (pv 0) qh (fun _ _=>rfl)) (@JU _ _ _ (pv 2)) J6) (by trivial)) (@qF _ _ (4) _ yE.nd rfl (Or.inl rfl) (by trivial)) (@qd _ _ _ _ _ (@qx _ _ (5) _ _ _ _ yE.nd rfl (Or.inl rfl) (@pe_make _ _ _ _ _ _ _ _ _ _ _ _ _ _ _ _ _ T.M_Node jv (hr.mono (by trivial)) (by rfl) T.m_Node T.g_Node_init.b .nil qG (@qa _ _ _ _ _ (@qk _ _ _ _ _ (@qa _ _ _ _ _ qo (@qa _ _ _ _ _ (@qA _ _ _ _ _ _ _ qD (pv 4) qh (fun _ _=>rfl)) qc (by trivial)) (by trivial))) qc (by trivial)) (by trivial) (by trivial) (by trivial)) (by trivial) (by trivial)) (@qd _ _ _ _ _ (@ps_putD _ _ _ _ _ _ _ _ _ (w) rfl hr.units (@Qh _ _ _ _ _ (pv 5) rfl) (@qA _ _ _ _ _ _ _ qD (pv 4) qh (fun _ _=>rfl)) (pv 3) rfl) (@qg _ _ _ (@qx _ _ (3) _ _ _ _ yE.nd rfl (Or.inl rfl) (pv 5) (by trivial) (by trivial))))) (by trivial)) (@qg _ _ _ (@qr _ _ _ _ (pv 3))))))),?_⟩
 have ae:Is H (.tup [.tup (r.1.map prD),r.2]) v:=iv;refine⟨_,rfl,?_⟩;refine gi (i:=1) (d:=r.2) ae (qm (j:=1) rfl) fun ev aA=> ?_;intro x dx hx af nx;refine⟨x,dx,ev,rfl,qe,fun ed aK fs H2 kept ag nf O aB=>⟨rfl,?_⟩⟩;have s2:Same H H2:=new_same hx af kept;have ah:H ed=none:=by
  cases e:H ed with
  |none=>rfl
  |some o=>rw [qi (qf e hx),qi (qf e af),e] at O;cases O
 have ai:ed≠x:=fun z=>by rw [z,qe] at O;cases O
 refine⟨_,rfl,_,rfl,x,_,dx,fs,rfl,ag,T.qL,T.QH,by have:=nf.len;omega,?_⟩
 have aj:=nf.set_way (u:=v);have t3:Tk H2 (upd H2 x (.ins a.qu dx (putF "way" v fs))):=Tk.updI ag;have Z:(upd H2 x (.ins a.qu dx (putF "way" v fs))) x=some (.ins a.qu dx (putF "way" v fs)):=qe;have d3:=aB.keep t3 (qi ai);have s3:Same H (upd H2 x (.ins a.qu dx (putF "way" v fs))):=fun b o e=>by rw [qi (qf e hx)];exact s2 b o e
 generalize upd H2 x (.ins a.qu dx (putF "way" v fs))=H3 at t3 Z d3 s3⊢;refine⟨_,rfl,_,rfl,x,_,dx,_,rfl,Z,T.qL,T.Qe,by have:=aj.len;omega,?_⟩
 have ak:=aj.set_givers (u:=gv);generalize aL:putF "givers" gv (putF "way" v fs)=L at ak⊢;have t4:Tk H3 (upd H3 x (.ins a.qu dx L)):=Tk.updI Z;have al:(upd H3 x (.ins a.qu dx L)) x=some (.ins a.qu dx L):=qe;have d4:=d3.keep t4 (qi ai);have s4:Same H (upd H3 x (.ins a.qu dx L)):=fun b o e=>by rw [qi (qf e hx)];exact s3 b o e
 generalize upd H3 x (.ins a.qu dx L)=H4 at t4 al d4 s4⊢;have c0:jG w a.qu gd H H4 r r.1.length (fun _=>x) (fun _=>ed):=by
  refine⟨fun j h1 h2=> ?_,fun j h1 h2=>⟨[],d4,?_,fun x hx=>absurd hx (by simp)⟩,fun j h1 h2=>⟨hx,ah⟩,fun i j h1 h2 h3 h4 e=>by omega,fun i j h1 h2 h3 h4 e=>by omega⟩
  ·refine⟨dx,L,ev,v,gv,al,ak,?_,fun e=> ?_,fun d e=> ?_⟩
   ·rw [Ya h1];exact aA.mono s4.tk
   ·unfold wyr at e;rw [if_pos h1] at e;cases e
   ·unfold wyr at e;rw [if_pos h1] at e;cases e;exact⟨iv.mono s4.tk,ig.mono s4.tk⟩
  ·rw [List.getElem?_eq_none (by rw [qP];omega)];rfl
 refine⟨_,rfl,?_⟩;refine gi (i:=0) (d:= .tup (r.1.map prD)) (ae.mono s4.tk) (qm (j:=0) rfl) fun pv aC=> ?_;refine⟨_,rfl,_,rfl,?_⟩;refine gsl (n:=k) aC (by simpa using hk) fun sv H5 s5 aD=> ?_
 obtain⟨a5,xs,rfl,am,ao⟩:=aD;have lx:xs.length=r.1.length-k:=by rw [ao.length];simp
 refine⟨a5,xs,rfl,SqT.of am,?_⟩
 let J1_:Nat->L2.St->Hp->Prop:=fun i σ H'=>∃(nn ee:Nat->Addr) (o1 o2:Option V),σ= [some v,some gv,some (.int (k:Int)),some (.ref (nn (r.1.length-i))),o1,o2]/\Same H5 H'/\i<=r.1.length-k/\jG w a.qu gd H H' r (r.1.length-i) nn ee
 have c5:jG w a.qu gd H H5 r (r.1.length-0) (fun _=>x) (fun _=>ed):=⟨fun j h1 h2=>(c0.nd j h1 h2).same s5,fun j h1 h2=>let⟨kvs,g,e1,e2⟩:=c0.kd j h1 h2;⟨kvs,g.same s5,e1,e2⟩,c0.fr,c0.ni,c0.ei⟩;refine for_rev (xs:=xs) (a:=a5) (K:=K) J1_ ⟨_,_,none,none,rfl,Same.refl _,uG _,c5⟩ (fun i σ H' _ j=> ?_) (fun i y σ H' hi hy j=> ?_) (fun σ H' j=> ?_)
 ·obtain⟨nn,ee,o1,o2,rfl,s6,_⟩:=j;exact SqT.of (s6 _ _ am)
 ·obtain⟨nn,ee,o1,o2,rfl,s6,aM,ch⟩:=j;have ap:r.1.length-i-1<r.1.length:=by omega
  obtain⟨p,hp⟩:∃p,r.1[r.1.length-i-1]? =some p:=⟨_,u7 ap⟩;have hd:((r.1.map prD).drop k)[xs.length-1-i]? =some (prD p):=by
   rw [List.getElem?_drop,um,show k+(xs.length-1-i)=r.1.length-i-1 by omega,hp]
   rfl
  obtain⟨y',ey,iy⟩:=ao.get hd;rw [hy] at ey;cases ey;have aq:Is H' (.tup [p.1,p.2]) y:=iy.mono s6.tk;have S6:Same H H':=(s4.trans s5).trans s6;refine⟨_,rfl,?_⟩;refine gi (i:=0) (d:=p.1) aq (qm (j:=0) rfl) fun qv aE=> ?_;refine⟨(by show 2<=sizeLine;decide),fun l hl=> ?_⟩
  have s7:=qb hl (.tup [.str "asks",qv]);have i7:Is (upd H' l (.tup [.str "asks",qv])) (.tup [.str "asks",p.1]) (.ref l):=Is.new (ds:= [.str "asks",p.1]) ⟨_,_,rfl,⟨rfl,Yb (by decide)⟩,_,_,rfl,aE,rfl⟩ hl
  have aN:=ch;have au:=aq.mono s7.tk;generalize upd H' l (.tup [.str "asks",qv])=H7 at s7 i7 au⊢;intro x2 R aa U aO;refine⟨x2,R,.ref l,rfl,qe,fun B aF ab H8 ac av aw I M=>⟨rfl,?_⟩⟩;have s8:Same H7 H8:=new_same aa U ac;have Y:H7 B=none:=by
   cases e:H7 B with
   |none=>rfl
   |some o=>rw [qi (qf e aa),qi (qf e U),e] at I;cases I
  have ax:B≠x2:=fun z=>by rw [z,qe] at I;cases I
  have aG:p∈r.1:=ui hp;have aH:p.2∈ANS:=hR.an _ (List.mem_map.mpr ⟨p,aG,rfl⟩);have ad:=ans_k _ aH;rw [uh] at ad;have aP:=uk ad.2;refine⟨_,rfl,_,rfl,x2,_,R,ab,_,rfl,av,T.qL,T.qy,aw.edges,?_⟩;refine⟨_,rfl,?_⟩;refine gi (i:=1) (d:=p.2) (au.mono s8.tk) (qm (j:=1) rfl) fun cv aI=> ?_;have ay:KOk H8 p.2 cv:=⟨aI,ad.1,by omega⟩
  refine⟨B,[],p.2,rfl,M,ay,by show 0<sizeLine;decide,?_⟩
  have d9:=M.put (v:= .ref (nn (r.1.length-i))) ay;have t9:Tk H8 (upd H8 B (dExt w B (putD [] p.2 cv (.ref (nn (r.1.length-i)))))):=tk_ext M;have az:(upd H8 B (dExt w B (putD [] p.2 cv (.ref (nn (r.1.length-i)))))) x2=some (.ins a.qu R ab):=by rw [qi ax.symm];exact av
  have s9:Same H7 (upd H8 B (dExt w B (putD [] p.2 cv (.ref (nn (r.1.length-i)))))):=fun b o e=>by rw [qi (qf e Y)];exact s8 b o e
  generalize upd H8 B (dExt w B (putD [] p.2 cv (.ref (nn (r.1.length-i)))))=H9 at d9 t9 az s9⊢;have S9:=s7.trans s9;have ej:r.1.length-i-1+1=r.1.length-i:=by omega
  have aJ:jG w a.qu gd H H' r (r.1.length-i-1+1) nn ee:=by rw [ej];exact ch
  have c9:=aJ.cons S6 S9 ap (Qi s7 aa) (Qi s7 Y) (x:=x2) (ed:=B) (kvs:=putD [] p.2 cv (.ref (nn (r.1.length-i)))) ⟨R,ab,_,_,aF,az,aw,by rw [yD hp];exact i7.mono s9.tk,fun _=>rfl,fun d e=>by cases e⟩ d9 (by rw [Ys,hp];rfl) (by intro z hz;rw [ej];cases(List.mem_singleton.mp (show z∈ [(p.2,cv,V.ref (nn (r.1.length-i)))] from hz));rfl)
  refine⟨_,rfl,_,_,some y,some (.ref x2),?_,s6.trans S9,by omega,c9⟩
  rw [show r.1.length-(i+1)=r.1.length-i-1 by omega]
  simp only [if_true]
  rfl
 ·obtain⟨nn,ee,o1,o2,rfl,s6,_,ch⟩:=j;rw [lx] at ch;have ek:r.1.length-(r.1.length-k)=k:=by omega
  refine⟨_,rfl,?_⟩;rw [lx,ek];rw [ek] at ch;exact kQ nn ee H' ((s4.trans s5).trans s6) ch
end
structure Ye (w:World)(C:Addr)(gd:D)(H:Hp)(rs:List Rn)(S:Addr->Prop)(n e:List D->Addr):Prop where
 nd:∀r∈rs,∀p,p<+:ans r->NdAt C gd H (n p) (thr r p.length) (e p) (wyr r p.length)
 kd:∀r∈rs,∀p,p<+:ans r->∃kvs,DAt w H (e p) kvs/\(∀c,c∈kvs.map (·.1)↔∃r'∈rs,p++ [c]<+:ans r')/\∀x∈kvs,x.2.2= .ref (n (p++ [x.1]))
 sn:∀r∈rs,∀p,p<+:ans r->S (n p)/\S (e p)
 ni:∀r∈rs,∀r'∈rs,∀p q,p<+:ans r->q<+:ans r'->n p=n q->p=q
 ei:∀r∈rs,∀r'∈rs,∀p q,p<+:ans r->q<+:ans r'->e p=e q->p=q
def Qt (w:World)(CA CN:Addr)(gd:D)(H:Hp)(t:Addr)(rs:List Rn)(S:Addr->Prop):Prop:=∃(dt:Addr) (bv:V),H t=some (.ins CA dt [("beginning",bv)])/\S t/\((rs= []/\bv= .non)∨(rs≠ []/\∃n e:List D->Addr,bv= .ref (n [])/\Ye w CN gd H rs S n e))
theorem Ye.move {w:World}{C:Addr}{gd:D}{H H':Hp}{rs:List Rn}{S:Addr->Prop}{n e:List D->Addr}(N:Ye w C gd H rs S n e)(tk:Tk H H')(k:∀b o,S b->H b=some o->H' b=some o):Ye w C gd H' rs S n e:=
 ⟨fun r B p I=>(N.nd r B p I).move tk fun o h=>k _ _ (N.sn r B p I).1 h,fun r B p I=>let⟨kvs,g,h1,h2⟩:=N.kd r B p I;⟨kvs,g.keep tk ((k _ _ (N.sn r B p I).2 g.here).trans g.here.symm),h1,h2⟩,N.sn,N.ni,N.ei⟩
theorem Qt.move {w:World}{B I:Addr}{gd:D}{H H':Hp}{t:Addr}{rs:List Rn}{S:Addr->Prop}(T:Qt w B I gd H t rs S)(tk:Tk H H')(k:∀b o,S b->H b=some o->H' b=some o):Qt w B I gd H' t rs S:=by
 obtain⟨L,M,h1,h2,O⟩:=T;refine⟨L,M,k _ _ h2 h1,h2,?_⟩;rcases O with h|⟨h,n,e,h4,R⟩
 ·exact .inl h
 ·exact .inr ⟨h,n,e,h4,R.move tk k⟩
theorem Qt.same {w:World}{B I:Addr}{gd:D}{H H':Hp}{t:Addr}{rs:List Rn}{S:Addr->Prop}(T:Qt w B I gd H t rs S)(s:Same H H'):Qt w B I gd H' t rs S:=T.move s.tk fun b o _ h=>s b o h
theorem Ye.mem {w:World}{C:Addr}{gd:D}{H:Hp}{rs rs':List Rn}{S:Addr->Prop}{n e:List D->Addr}(N:Ye w C gd H rs S n e)(h:∀r,r∈rs'↔r∈rs):Ye w C gd H rs' S n e:=
 ⟨fun r B=>N.nd r ((h r).mp B),fun r B p L=>let⟨kvs,g,h1,h2⟩:=N.kd r ((h r).mp B) p L;⟨kvs,g,fun c=>(h1 c).trans ⟨fun⟨r',a,b⟩=>⟨r',(h r').mpr a,b⟩,fun⟨r',a,b⟩=>⟨r',(h r').mp a,b⟩⟩,h2⟩,fun r B=>N.sn r ((h r).mp B),fun r B r' I=>N.ni r ((h r).mp B) r' ((h r').mp I),fun r B r' I=>N.ei r ((h r).mp B) r' ((h r').mp I)⟩
theorem Qt.mem {w:World}{I L:Addr}{gd:D}{H:Hp}{t:Addr}{rs rs':List Rn}{S:Addr->Prop}(T:Qt w I L gd H t rs S)(h:∀r,r∈rs'↔r∈rs):Qt w I L gd H t rs' S:=by
 obtain⟨M,O,h1,h2,B⟩:=T;refine⟨M,O,h1,h2,?_⟩;rcases B with⟨rfl,B⟩|⟨B,n,e,h4,R⟩
 ·refine .inl ⟨?_,B⟩;cases rs' with
  |nil=>rfl
  |cons r _=>exact absurd ((h r).mp ua) (by simp)
 ·refine .inr ⟨?_,n,e,h4,R.mem h⟩;rintro rfl;obtain⟨r,U⟩:=vQ _ B;exact absurd ((h r).mpr U) (by simp)
structure Mv (S:Addr->Prop)(H H':Hp):Prop where
 kept:∀b o,H b=some o->¬S b->H' b=some o
 tk:Tk H H'
section
open Classical
noncomputable def newA (r:Rn) (k:Nat) (nn:Nat->Addr) (n:List D->Addr):List D->Addr:=fun p=>if p<+:ans r/\k<=p.length then nn p.length else n p
theorem qS {r:Rn}{k:Nat}{nn:Nat->Addr}{n:List D->Addr}{p:List D}(h:p<+:ans r/\k<=p.length):newA r k nn n p=nn p.length:=if_pos h
theorem qT {r:Rn}{k:Nat}{nn:Nat->Addr}{n:List D->Addr}{p:List D}(h:¬(p<+:ans r/\k<=p.length)):newA r k nn n p=n p:=if_neg h
end
theorem qU {r:Rn}{p:List D}(h:p<+:ans r):p.length<=r.1.length:=by
 have:=h.length_le;rw [qP] at this;exact this
theorem pre_eq {l p q:List D}(h1:p<+:l)(h2:q<+:l)(e:p.length=q.length):p=q:=by
 rw [Us] at h1 h2;rw [h1,h2,e]
theorem Qn {l p:List D}{c:D}(h:p++ [c]<+:l):p<+:l:=(List.prefix_append p [c]).trans h
theorem Ye.grow {w:World}{C:Addr}{gd:D}{H H2:Hp}{rs:List Rn}{S S':Addr->Prop}{n e:List D->Addr}{r:Rn}{k:Nat}{nn ee:Nat->Addr}(N:Ye w C gd H rs S n e)(ch:jG w C gd H H2 r k nn ee)(tk:Tk H H2)
  (hR:RunOk r) (ae:∀r'∈rs,RunOk r') (hF:∀r'∈rs,Fit r r') (aj:k<=r.1.length)
  (aa:∀p,p<+:ans r->p.length<k->∃r'∈rs,p<+:ans r') (new:∀p,p<+:ans r->k<=p.length->∀r'∈rs,¬p<+:ans r')
  (keep:∀b o,S b->H b=some o->(∀p,p<+:ans r->p.length+1=k->b≠e p)->H2 b=some o)
  (ac:∀p,p<+:ans r->p.length+1=k->∃kvs,DAt w H2 (e p) kvs/\(∀c,c∈kvs.map (·.1)↔(∃r'∈rs,p++ [c]<+:ans r')∨p++ [c]<+:ans r)/\∀x∈kvs,(p++ [x.1]<+:ans r/\x.2.2= .ref (nn k))∨(¬p++ [x.1]<+:ans r/\x.2.2= .ref (n (p++ [x.1]))))
  (hS:∀b,S b->S' b) (af:∀j,k<=j->j<=r.1.length->S' (nn j)/\S' (ee j)):Ye w C gd H2 (r::rs) S' (newA r k nn n) (newA r k ee e):=by
 have Z:∀r'∈r::rs,∀p,p<+:ans r'->(p<+:ans r/\k<=p.length)->r'=r:=fun r' L p O hq=>by
  rcases List.mem_cons.mp L with h|h
  ·exact h
  ·exact absurd O (new p hq.1 hq.2 r' h)
 have B:∀r'∈r::rs,∀p,p<+:ans r'->¬(p<+:ans r/\k<=p.length)->∃M∈rs,p<+:ans M/\thr r' p.length=thr M p.length/\wyr r' p.length=wyr M p.length:=fun r' L p O hq=>by
  rcases List.mem_cons.mp L with h|h
  ·subst h;have ag:p.length<k:=Nat.lt_of_not_le fun z=>hq ⟨O,z⟩;obtain⟨M,h1,h2⟩:=aa p O ag;have et:=hF M h1 p O h2;refine⟨M,h1,h2,et,?_⟩;have hi:=congrArg Yo et;rw [qV hR,qV (ae M h1),uc (by omega)] at hi
   have:=uk hi.symm;unfold wyr;rw [if_neg (by omega),if_neg (by omega)]
  ·exact⟨r',h,O,rfl,rfl⟩
 have ab:∀r'∈rs,∀p,p<+:ans r'->∀o,H (n p)=some o->H2 (n p)=some o:=fun r' L p O o Y=>by
  refine keep _ _ (N.sn r' L p O).1 Y fun q hq hl z=> ?_;obtain⟨M,h1,h2⟩:=aa q hq (by omega)
  obtain⟨kvs,g,_⟩:=N.kd M h1 q h2;obtain⟨dx,fs,tv,wv,gv,e1,_⟩:=N.nd r' L p O;rw [z,g.here] at e1;cases e1
 refine⟨fun r' L p O=> ?_,fun r' L p O=> ?_,fun r' L p O=> ?_,fun M h1 R h2 p q O hq I=> ?_,fun M h1 R h2 p q O hq I=> ?_⟩
 ·by_cases c:p<+:ans r/\k<=p.length
  ·cases Z r' L p O c;rw [qS c,qS c];exact ch.nd _ c.2 (qU c.1)
  ·obtain⟨M,h1,h2,e1,e2⟩:=B r' L p O c;rw [qT c,qT c,e1,e2];exact(N.nd M h1 p h2).move tk (ab M h1 p h2)
 ·by_cases c:p<+:ans r/\k<=p.length
  ·cases Z r' L p O c;rw [qS c];obtain⟨kvs,g,e1,e2⟩:=ch.kd _ c.2 (qU c.1);have mm:∀d,d∈kvs.map (·.1)↔p++ [d]<+:ans r:=fun d=>by
    rw [e1,Option.mem_toList,QG];exact⟨fun h=>⟨c.1,h⟩,fun h=>h.2⟩
   refine⟨kvs,g,fun d=>(mm d).trans ⟨fun h=>⟨r,ua,h⟩,fun⟨R,h2,U⟩=> ?_⟩,fun x hx=> ?_⟩
   ·rcases List.mem_cons.mp h2 with h|h
    ·rw [<-h];exact U
    ·exact absurd (Qn U) (new p c.1 c.2 R h)
   ·have ah:p++ [x.1]<+:ans r:=(mm x.1).mp (List.mem_map.mpr ⟨x,hx,rfl⟩);rw [e2 x hx,qS ⟨ah,by simp;omega⟩]
    simp
  ·obtain⟨M,h1,h2,e1,e2⟩:=B r' L p O c;rw [qT c];by_cases l:p<+:ans r/\p.length+1=k
   ·obtain⟨kvs,g,m,v⟩:=ac p l.1 l.2;refine⟨kvs,g,fun d=>(m d).trans ⟨?_,?_⟩,fun x hx=> ?_⟩
    ·rintro(⟨R,a,b⟩|b)
     ·exact⟨R,u9 _ a,b⟩
     ·exact⟨r,ua,b⟩
    ·rintro⟨R,a,b⟩;rcases List.mem_cons.mp a with rfl|a
     ·exact .inr b
     ·exact .inl ⟨R,a,b⟩
    ·rcases v x hx with⟨a,b⟩|⟨a,b⟩
     ·rw [b,qS ⟨a,by simp;omega⟩]
      simp [l.2]
     ·rw [b,qT fun z=>a z.1]
   ·obtain⟨kvs,g,m,v⟩:=N.kd M h1 p h2;have ai:H2 (e p)=some (dExt w (e p) kvs):=keep _ _ (N.sn M h1 p h2).2 g.here fun q hq hl z=>by
     obtain⟨r3,U,h4⟩:=aa q hq (by omega)
     have:=N.ei M h1 r3 U p q h2 h4 z;subst this;exact l ⟨hq,hl⟩
    refine⟨kvs,g.keep tk (ai.trans g.here.symm),fun d=>(m d).trans ⟨fun⟨R,a,b⟩=>⟨R,u9 _ a,b⟩,?_⟩,fun x hx=> ?_⟩
    ·rintro⟨R,a,b⟩;rcases List.mem_cons.mp a with rfl|a
     ·have ad:=Qn b;refine aa _ b ?_;have q1:¬k<=p.length:=fun z=>c ⟨ad,z⟩;have q2:p.length+1≠k:=fun z=>l ⟨ad,z⟩;simp;omega
     ·exact⟨R,a,b⟩
    ·obtain⟨R,a,b⟩:=(m x.1).mp (List.mem_map.mpr ⟨x,hx,rfl⟩);rw [v x hx,qT fun z=>new _ z.1 z.2 R a b]
 ·by_cases c:p<+:ans r/\k<=p.length
  ·rw [qS c,qS c];exact af _ c.2 (qU c.1)
  ·obtain⟨M,h1,h2,_⟩:=B r' L p O c;rw [qT c,qT c];exact⟨hS _ (N.sn M h1 p h2).1,hS _ (N.sn M h1 p h2).2⟩
 ·by_cases c:p<+:ans r/\k<=p.length
  ·by_cases d:q<+:ans r/\k<=q.length
   ·rw [qS c,qS d] at I;exact pre_eq c.1 d.1 (ch.ni _ _ c.2 (qU c.1) d.2 (qU d.1) I)
   ·obtain⟨r3,U,h4,_⟩:=B R h2 q hq d;rw [qS c,qT d] at I;obtain⟨o,Y⟩:=(N.nd r3 U q h4).some;rw [<-I,(ch.fr _ c.2 (qU c.1)).1] at Y;cases Y
  ·obtain⟨r3,U,h4,_⟩:=B M h1 p O c;by_cases d:q<+:ans r/\k<=q.length
   ·rw [qT c,qS d] at I;obtain⟨o,Y⟩:=(N.nd r3 U p h4).some;rw [I,(ch.fr _ d.2 (qU d.1)).1] at Y;cases Y
   ·obtain⟨r5,h5,h6,_⟩:=B R h2 q hq d;rw [qT c,qT d] at I;exact N.ni r3 U r5 h5 p q h4 h6 I
 ·by_cases c:p<+:ans r/\k<=p.length
  ·by_cases d:q<+:ans r/\k<=q.length
   ·rw [qS c,qS d] at I;exact pre_eq c.1 d.1 (ch.ei _ _ c.2 (qU c.1) d.2 (qU d.1) I)
   ·obtain⟨r3,U,h4,_⟩:=B R h2 q hq d;rw [qS c,qT d] at I;obtain⟨kvs,g,_⟩:=N.kd r3 U q h4;have Y:=g.here;rw [<-I,(ch.fr _ c.2 (qU c.1)).2] at Y;cases Y
  ·obtain⟨r3,U,h4,_⟩:=B M h1 p O c;by_cases d:q<+:ans r/\k<=q.length
   ·rw [qT c,qS d] at I;obtain⟨kvs,g,_⟩:=N.kd r3 U p h4;have Y:=g.here;rw [I,(ch.fr _ d.2 (qU d.1)).2] at Y;cases Y
   ·obtain⟨r5,h5,h6,_⟩:=B R h2 q hq d;rw [qT c,qT d] at I;exact N.ei r3 U r5 h5 p q h4 h6 I
theorem nodes_nil (w:World)(C:Addr)(gd:D)(H:Hp)(S:Addr->Prop)(n e:List D->Addr):Ye w C gd H [] S n e:=
 ⟨fun r B=>absurd B (by simp),fun r B=>absurd B (by simp),fun r B=>absurd B (by simp),fun r B=>absurd B (by simp),fun r B=>absurd B (by simp)⟩
theorem for_en {K:PySem.W.Frag}{a:Addr}{c:Int}{xs:List V}{g:TG}{tb:TS}{D:Ends}{σ:L2.St}{H:Hp}(B:Nat->L2.St->Hp->Prop)(R:B 0 σ H)(U:∀i σ H,i<=xs.length->B i σ H->SqT K H a xs)
  (Y:∀i x σ H p,xs[i]? =some x->B i σ H->H p=none->g (.ref p) σ (upd H p (.tup [.int (c+i),x])) fun L H2=>tb {D with nx:=B (i+1),ct:=B (i+1),bk:=D.nx} L H2) (hd:∀σ H,B xs.length σ H->D.nx σ H):
  ∃W:Nat->Nat->L2.St->Hp->Prop,(∃m,W 0 m σ H)/\∀i m σ H,W i m σ H->
   ((Ite K a c).stop i H/\D.nx σ H)∨((Ite K a c).go i H/\∃N:L2.St->Hp->Prop,(∀M H',N M H'->∃O,O<m/\W (i+1) O M H')/\∀x H',(Ite K a c).yld i H x H'->g x σ H' fun L H2=>tb {D with nx:=N,ct:=N,bk:=D.nx} L H2):=by
 refine⟨fun i m σ H=>m=xs.length-i/\i<=xs.length/\B i σ H,⟨xs.length,by simp,uG _,R⟩,?_⟩
 rintro i m σ H ⟨rfl,hi,p⟩;have q:=U i σ H hi p;by_cases I:i<xs.length
 ·refine .inr ⟨⟨xs,xs[i],q,by simp [I]⟩,B (i+1),fun M H' Z=>⟨xs.length-(i+1),by omega,rfl,I,Z⟩,fun x H' y=> ?_⟩
  obtain⟨p2,y2,rfl,hp,rfl,y⟩:=y;exact Y i y2 σ _ p2 (y xs q) p hp
 ·have e:i=xs.length:=by omega
  subst e;exact .inl ⟨⟨xs,q,rfl⟩,hd σ H p⟩
def sp_giv:Sp:=fun vs H Q _=>∃(v:V) (d:D),vs= [v]/\(d= .tup []∨d= .tup [.int 4])/\Is H d v/\Q (.bl true) H
def sp_lay (w:World)(CA CN:Addr)(gd:D):Sp:=fun vs H Q _=>∃(t:Addr) (v gv:V) (rs:List Rn) (r:Rn) (S:Addr->Prop),vs= [.ref t,v,gv]/\Qt w CA CN gd H t rs S/\Is H (rnD r) v/\Is H gd gv/\RunA r/\(∀r'∈rs,RunA r')/\(∀r'∈rs,Fit r r')/\(gd= .tup []∨rs= [])/\
 ∀(H':Hp) (S':Addr->Prop),Qt w CA CN gd H' t (r::rs) S'->Mv S H H'->(∀b,S' b->S b∨H b=none)->Q .non H'
theorem Qq {w:World}{H:Hp}{a:Addr}{kvs:List (D×V×V)}{d:D}(g:DAt w H a kvs)(hk:kD d=true):(valD kvs d).isSome=true↔d∈kvs.map (·.1):=by
 constructor
 ·intro h;unfold valD at h;cases e:ixV kvs d with
  |none=>rw [e] at h;cases h
  |some i=>
   unfold ixV at e;rw [uN] at e;obtain⟨h1,h2,_⟩:=e;have hm:kvs[i]∈kvs:=uJ h1;have:=(Qr (kD_n (g.ks _ hm).2.1)).mp h2;rw [<-this];exact List.mem_map.mpr ⟨_,hm,rfl⟩
 ·intro h;cases e:ixV kvs d with
  |none=>exact absurd h (ix_none hk e)
  |some i=>
   unfold valD;rw [e];unfold ixV at e;rw [uN] at e;obtain⟨h1,_⟩:=e;simp [h1]
theorem yA {w:World}{H:Hp}{a:Addr}{kvs:List (D×V×V)}{d:D}(g:DAt w H a kvs)(hk:kD d=true)(h:d∈kvs.map (·.1)):∃x∈kvs,x.1=d/\valD kvs d=some x.2.2:=by
 cases e:ixV kvs d with
 |none=>exact absurd h (ix_none hk e)
 |some i=>
  unfold valD;rw [e];unfold ixV at e;rw [uN] at e;obtain⟨h1,h2,_⟩:=e;have hm:kvs[i]∈kvs:=uJ h1;exact⟨kvs[i],hm,(Qr (kD_n (g.ks _ hm).2.1)).mp h2,by simp [h1]⟩
theorem putD_new {kvs:List (D×V×V)}{d:D}{y v:V}(h:(valD kvs d).isSome=false)(hk:∀x∈kvs,True):putD kvs d y v=kvs++ [(d,y,v)]:=by
 unfold putD;cases e:ixV kvs d with
 |none=>rfl
 |some i=>
  unfold valD at h;rw [e] at h;unfold ixV at e;rw [uN] at e;obtain⟨h1,_⟩:=e;simp [h1] at h
theorem len_le:∀(n:Nat) (l:List Nat),l.Nodup->(∀x∈l,x<n)->l.length<=n
 |0,[],_,_=>Nat.le_refl _
 |0,x::_,_,h=>absurd (h x ua) (vT _)
 |n+1,l,nd,h=>by
  have B:=len_le n (l.erase n) (nd.erase n) fun x hx=>by
   rw [nd.mem_erase_iff] at hx;have:=h x hx.2;have:=hx.1;omega
  have:=List.length_erase (a:=n) (l:=l);rw [this] at B;split at B<;>omega
theorem nd_map {α:Type}{f:D->Nat}:∀{l:List D},l.Nodup->(∀x∈l,∀y∈l,f x=f y->x=y)->(l.map f).Nodup
 | [],_,_=>List.nodup_nil
 |x::l,h,hi=>by
  rw [List.nodup_cons] at h;rw [uo,List.nodup_cons];refine⟨fun hm=> ?_,nd_map (α:=α) h.2 fun y B z hz=>hi y (u9 _ B) z (u9 _ hz)⟩;obtain⟨y,B,e⟩:=List.mem_map.mp hm;have:=hi y (u9 _ B) x ua e;subst this;exact h.1 B
theorem ks_len {ks:List D}(nd:ks.Nodup)(h:∀c∈ks,c∈ANS):ks.length<=10:=by
 have:=len_le 10 (ks.map aR) (nd_map (α:=D) nd fun x hx y B e=>Yh (h x hx) (h y B) e) fun x hx=>by
  obtain⟨c,I,rfl⟩:=List.mem_map.mp hx;exact uk (ans_ten c (h c I))
 rw [ue] at this;exact this
theorem YD {kvs:List (D×V×V)}(nd:(kvs.map (·.1)).Nodup)(h:∀c∈kvs.map (·.1),c∈ANS):kvs.length<=10:=by
 have:=ks_len nd h;rw [ue] at this;exact this
theorem RunA.kid {r:Rn}{p:List D}{c:D}(h:RunA r)(B:p++ [c]<+:ans r):c∈ANS:=h.an c (B.subset (by simp))
theorem jO {c:D}(h:c∈ANS):kD c=true/\dp c<=3:=by
 have:=ans_k c h;rw [uh] at this;exact⟨this.1,uk this.2⟩
theorem ask_n {q:D}(h:AskOk q):nD q=true/\dp q<=3:=by
 obtain⟨u,n,rfl,_⟩:=h;exact⟨by simp [nD,nL],by simp [dp,dpL]⟩
theorem PrOk.ask {p:D×D}(h:PrOk p):AskOk p.1:=let⟨u,n,e,b,_⟩:=h;⟨u,n,e,b⟩
mutual
theorem good_n:∀{d:D},good d=true->nD d=true
 | .str _,_=>rfl
 | .tup xs,h=>by
  simp only [good,uh] at h;show nL xs=true;exact goodL_n h.2
 | .non,h| .bl _,h| .int _,h| .lst,h| .dct,h=>by simp [good] at h
theorem goodL_n:∀{xs:List D},goodL xs=true->nL xs=true
 | [],_=>rfl
 |x::r,h=>by
  simp only [goodL,uh] at h;simp only [nL,good_n h.1,goodL_n h.2,Bool.and_self]
end
theorem end_n {e:D}(h:EndOk e):∃ds,e= .tup ds/\nL ds=true/\dpL ds<=13:=by
 rcases h with⟨d,rfl,hd⟩|⟨z,_,rfl⟩
 ·exact⟨_,rfl,by simp [nL,nD,good_n (xg hd)],by have:=isT_dp hd;simp only [dpL,dp];omega⟩
 ·exact⟨_,rfl,by simp [nL,nD],by simp [dpL,dp]⟩
theorem Qu {ds:List D}(h:nL ds=true):eqNL ds ds=true:=by
 have:=(Qr (d:= .tup ds) (e:= .tup ds) (by simpa [nD] using h)).mpr rfl
 simpa [eqN] using this
section
variable {P:Program}{w:World}{K:PySem.W.Frag}{mg:Str->Option Value}{base:Heap}{a:Ad}{g:Ga}
theorem ok_giv (T:Tx K mg a):FnOk P w K mg base CX0 1 a.jj a.jc ["value"] sp_giv:=by
 refine T.g_are_givers.F.ok QE (by trivial) (fun _ _ _ _ H vs Q E hr h=> ?_)
 obtain⟨v,d,rfl,hd,U,k⟩:=h;refine⟨_,(@qd _ _ _ _ _ (@qM _ _ _ _ _ _ _ _ (@Q8 _ _ _ _ (@Qw _ _ _ (@qp _ _ _ _ _ _ _ _ _ (@qO _ _ rfl) (by rfl) T.qI vb (@qa _ _ _ _ _ (pv 0) (@qa _ _ _ _ _ (@QL _ _ (.ty "tuple") _ _ (by rfl) T.Qj vq rfl (by trivial) (by trivial)) qc (by trivial)) (by trivial)) (by trivial) (by trivial) (by trivial) (by trivial)) (by trivial))) (@qg _ _ _ (@qr _ _ _ _ QF)) qs) (@qd _ _ _ _ _ (@qx _ _ (1) _ _ _ _ QE.nd rfl (Or.inl rfl) (@pe_un _ _ _ _ _ _ un_neg qh) (by trivial) (by trivial)) (@qd _ _ _ _ _ (@Q4 _ _ _ _ _ _ _ _ uO rfl (@pi_tup _ _ _ _ (pv 0)) (@qF _ _ (2) _ QE.nd rfl (Or.inl rfl) (by trivial)) (@qd _ _ _ _ _ (@qM _ _ _ _ _ _ _ _ (@YO _ _ _ _ _ _ _ (@Q8 _ _ _ _ (@Qw _ _ _ (@qp _ _ _ _ _ _ _ _ _ (@qO _ _ rfl) (by rfl) T.qI vb (@qa _ _ _ _ _ (pv 2) (@qa _ _ _ _ _ (@QL _ _ (.ty "int") _ _ (by rfl) T.z_int boot_int rfl (by trivial) (by trivial)) qc (by trivial)) (by trivial)) (by trivial) (by trivial) (by trivial) (by trivial)) (by trivial))) (@YO _ _ _ _ _ _ _ (@Qw _ _ _ (@qp _ _ _ _ _ _ _ _ _ (@qO _ _ rfl) (by rfl) T.qI vb (@qa _ _ _ _ _ (pv 2) (@qa _ _ _ _ _ (@QL _ _ (.ty "bool") _ _ (by rfl) T.z_bool boot_bool rfl (by trivial) (by trivial)) qc (by trivial)) (by trivial)) (by trivial) (by trivial) (by trivial) (by trivial)) (by trivial)) (@yN _ _ _ _ (@Q8 _ _ _ _ (@pt_chain _ _ _ _ _ _ _ _ _ _ _ _ op_lt op_le (pv 1) (pv 2) (@pe_gI _ _ _ _ (by rfl) T.m_MOST_GIVER (by trivial)) (by trivial)))))).pt (@qg _ _ _ (@qr _ _ _ _ QF)) qs) (@qg _ _ _ (@qx _ _ (1) _ _ _ _ QE.nd rfl (Or.inl rfl) (pv 2) (by trivial) (by trivial)))) (by trivial)) (@qg _ _ _ (@qr _ _ _ _ QF))))),?_⟩
 have L:∃is:List Int,d= .tup (is.map D.int)/\(is= []∨is= [4]):=by
  rcases hd with rfl|rfl
  ·exact⟨[],rfl,.inl rfl⟩
  ·exact⟨[4],rfl,.inr rfl⟩
 obtain⟨is,rfl,M⟩:=L;refine⟨_,rfl,v,"tuple",tyD (.tup (is.map D.int)),YQ (.tup (is.map D.int)),rfl,U.ty,YN _,_,rfl,iteF ?_⟩;refine⟨_,rfl,?_⟩;obtain⟨O,vs,rfl,B,I⟩:=U;refine⟨_,rfl,O,rfl,⟨vs,SqT.of B⟩,?_⟩;refine for_tup (K:=K) (a:=O) (xs:=vs) (fun i σ H'=>H'=H/\∃R,σ= [some (.ref O),some (.int (-1+5*(i:Int))),R]) ⟨rfl,none,rfl⟩ (fun i σ H' _ h=>by rw [h.1];exact SqT.of B) (fun i x σ H' hx h=> ?_) (fun σ H' h=> ?_)
 ·obtain⟨rfl,R,rfl⟩:=h;rcases M with rfl|rfl
  ·cases(show vs= [] from I);simp at hx
  ·obtain⟨y,Y,rfl,Z,h3⟩:=I;cases(show Y= [] from h3)
   cases(show y= .int 4 from Z)
   have hi:i=0:=by
    have:=(List.getElem?_eq_some_iff.mp hx).1;simp at this;exact this
   subst hi;cases(show V.int 4=x by simpa using hx)
   refine⟨_,rfl,.int 4,"int",tyD (.int 4),true,rfl,Is.ty (d:= .int 4) rfl,xi (by decide+kernel),_,rfl,iteF ?_⟩
   refine⟨_,rfl,.int 4,"bool",tyD (.int 4),false,rfl,Is.ty (d:= .int 4) rfl,kit_no (by decide+kernel) (by decide+kernel) (by decide+kernel),_,rfl,iteF ?_⟩
   refine⟨_,rfl,_,rfl,_,_,rfl,rfl,_,rfl,?_⟩;refine iteT ⟨_,_,rfl,rfl,_,rfl,?_⟩;refine iteF ⟨_,rfl,rfl,some (.int 4),rfl⟩
 ·obtain⟨rfl,R,rfl⟩:=h;exact k
theorem ok_lay (T:Tx K mg a)(gd:D):FnOk P w K mg base CX0 4 a.yp a.yf ["self","run","givers"] (sp_lay w a.ql a.qu gd):=by
 have I:FnOk P w K mg base CX0 3 a.xf a.JB ["run","givers","place"] (sp_branch w a.qu gd):=ok_branch T gd;refine T.g_AskTree_lay.F.ok Ql (by trivial) (fun _ _ _ _ H vs Q E hr h=> ?_)
 obtain⟨t,v,gv,rs,r,S,rfl,⟨dt,bv,ht,ac,hT⟩,iv,ig,hR,al,hF,aS,k⟩:=h;refine⟨_,(@qd _ _ _ _ _ (@qM _ _ _ _ _ _ _ _ (@qq _ _ _ _ _ _ _ _ Y5 (@Qh _ _ _ _ _ (pv 0) rfl) Qg (qw _)) (@qd _ _ _ _ _ (@YG _ _ _ _ _ _ _ _ (pv 0) (@qt _ _ _ _ _ _ _ _ _ _ _ _ _ _ _ _ I (hr.mono (by trivial)) (by rfl) T.g_branch.m T.g_branch.F.kp T.g_branch.b .nil qG (@qa _ _ _ _ _ (pv 1) (@qa _ _ _ _ _ (pv 2) (@qa _ _ _ _ _ qh qc (by trivial)) (by trivial)) (by trivial)) (by trivial) (by trivial) (by trivial)) rfl) (@qg _ _ _ ps_retN)) qs) (@qd _ _ _ _ _ (@qx _ _ (3) _ _ _ _ Ql.nd rfl (Or.inl rfl) (@Qh _ _ _ _ _ (pv 0) rfl) (by trivial) (by trivial)) (@qd _ _ _ _ _ (@Q4 _ _ _ _ _ _ _ _ uO rfl (@pi_enum0 _ _ _ _ _ _ _ _ (by rfl) T.z_enumerate (@qA _ _ _ _ _ _ _ qD (pv 1) qh (fun _ _=>rfl)) (by trivial)) (@pg_tup _ _ _ _ _ _ rfl (QT (@qF _ _ (4) _ Ql.nd rfl (Or.inl rfl) (by trivial)) (QT (@qF _ _ (5) _ Ql.nd rfl (Or.inl rfl) (by trivial)) JH)) (by trivial) (by trivial)) (@qd _ _ _ _ _ (@qM _ _ _ _ _ _ _ _ (@qq _ _ _ _ _ _ _ _ (@yC _ hr.units) (@Qh _ _ _ _ _ (pv 3) rfl) (@qk _ _ _ _ _ (@qa _ _ _ _ _ qo (@qa _ _ _ _ _ (@qA _ _ _ _ _ _ _ qD (pv 5) qh (fun _ _=>rfl)) qc (by trivial)) (by trivial))) (qw _)) (@qg _ _ _ jr) qs) (@qd _ _ _ _ _ (@qM _ _ _ _ _ _ _ _ (@pt_cmp _ _ _ _ _ _ (@pc_notinD _ _ _ _ _ (w) rfl hr.units (@qA _ _ _ _ _ _ _ qD (pv 5) qh (fun _ _=>rfl)) (@Qh _ _ _ _ _ (pv 3) rfl)) (by trivial)) (@qd _ _ _ _ _ (@ps_putD _ _ _ _ _ _ _ _ _ (w) rfl hr.units (@Qh _ _ _ _ _ (pv 3) rfl) (@qA _ _ _ _ _ _ _ qD (pv 5) qh (fun _ _=>rfl)) (@qt _ _ _ _ _ _ _ _ _ _ _ _ _ _ _ _ I (hr.mono (by trivial)) (by rfl) T.g_branch.m T.g_branch.F.kp T.g_branch.b .nil qG (@qa _ _ _ _ _ (pv 1) (@qa _ _ _ _ _ (pv 2) (@qa _ _ _ _ _ (@qY _ _ _ _ _ _ _ _ ye (pv 4) qh) qc (by trivial)) (by trivial)) (by trivial)) (by trivial) (by trivial) (by trivial)) rfl) (@qg _ _ _ ps_retN)) qs) (@qg _ _ _ (@qx _ _ (3) _ _ _ _ Ql.nd rfl (Or.inl rfl) (@J7 _ _ _ _ _ _ (w) rfl hr.units (@Qh _ _ _ _ _ (pv 3) rfl) (@qA _ _ _ _ _ _ _ qD (pv 5) qh (fun _ _=>rfl)) (fun _ _=>rfl)) (by trivial) (by trivial))))) (by trivial)) (@qd _ _ _ _ _ (@qM _ _ _ _ _ _ _ _ (@qq _ _ _ _ _ _ _ _ (@yC _ hr.units) (@Qh _ _ _ _ _ (pv 3) rfl) (@qA _ _ _ _ _ _ _ qD (pv 1) qh (fun _ _=>rfl)) (qw _)) (@qg _ _ _ jr) qs) (@qg _ _ _ (@YG _ _ _ _ _ _ _ _ (pv 3) (@qN _ _ _ _ _ _ _ _ _ qH (by rfl) T.Qj vq (@qa _ _ _ _ _ (@qp _ _ _ _ _ _ _ _ _ (@jb _ rfl) (by rfl) T.Yq boot_sorted (@qa _ _ _ _ _ (@qY _ _ _ _ _ _ _ _ op_or0 (@qN _ _ _ _ _ _ _ _ _ (@Jb _ rfl) (by rfl) T.z_set L2.JO (@qa _ _ _ _ _ (@Qh _ _ _ _ _ (pv 3) rfl) qc (by trivial)) (by trivial) (by trivial) (by trivial) (by trivial)) (@qN _ _ _ _ _ _ _ _ _ (@Jb _ rfl) (by rfl) T.z_set L2.JO (@qa _ _ _ _ _ (pv 2) qc (by trivial)) (by trivial) (by trivial) (by trivial) (by trivial))) qc (by trivial)) (by trivial) (by trivial) (by trivial) (by trivial)) qc (by trivial)) (by trivial) (by trivial) (by trivial) (by trivial)) rfl)))))),?_⟩
 have ay:Is H (.tup [.tup (r.1.map prD),r.2]) v:=iv;have az:∀u:V,([(("beginning":Str),u)]:List (Str×V)).lookup ("beginning":Str)=some u:=fun u=>by simp [List.lookup]
 have aT:∀u u':V,putF "beginning" u' [(("beginning":Str),u)]= [(("beginning":Str),u')]:=fun u u'=>by simp [putF]
 refine⟨_,rfl,t,_,dt,_,bv,rfl,ht,T.qJ,T.qE,az bv,rfl,_,rfl,?_⟩;rcases hT with⟨rfl,rfl⟩|⟨am,n,e,rfl,N⟩
 ·refine qR (by decide+kernel) ?_
  refine⟨_,rfl,_,rfl,v,gv,r,0,rfl,iv,ig,hR,uG _,fun nn ee H1 s1 ch=> ?_⟩;refine⟨_,rfl,t,_,dt,_,rfl,s1 _ _ ht,T.qJ,T.qE,by decide,?_⟩
  rw [aT];have ad:Tk H1 (upd H1 t (.ins a.ql dt [("beginning",.ref (nn 0))])):=Tk.updI (s1 _ _ ht);have aA:∀j,0<=j->j<=r.1.length->nn j≠t/\ee j≠t:=fun j h1 h2=>⟨(qf ht (ch.fr j h1 h2).1).symm,(qf ht (ch.fr j h1 h2).2).symm⟩;have aU:jG w a.qu gd H (upd H1 t (.ins a.ql dt [("beginning",.ref (nn 0))])) r 0 nn ee:=⟨fun j h1 h2=>(ch.nd j h1 h2).move ad fun o h=>by rw [qi (aA j h1 h2).1];exact h,fun j h1 h2=>let⟨kvs,g,x1,x2⟩:=ch.kd j h1 h2;⟨kvs,g.keep ad (qi (aA j h1 h2).2),x1,x2⟩,ch.fr,ch.ni,ch.ei⟩
  have N2:=(nodes_nil w a.qu gd H (fun _=>False) (fun _=>0) (fun _=>0)).grow (S':=fun b=>S b∨∃j,j<=r.1.length/\(b=nn j∨b=ee j)) aU (s1.tk.trans ad) hR.ok (fun _ h=>absurd h (by simp)) (fun _ h=>absurd h (by simp)) (uG _) (fun p _ h=>by omega) (fun p _ _ r' h=>absurd h (by simp)) (fun b o hb ho _=>hb.elim) (fun p _ h=>by omega) (fun b h=>h.elim) (fun j _ h=>⟨.inr ⟨j,h,.inl rfl⟩,.inr ⟨j,h,.inr rfl⟩⟩)
  refine k _ _ ⟨dt,_,qe,.inl ac,.inr ⟨by simp,_,_,?_,N2⟩⟩ ⟨fun b o h1 h2=> ?_,s1.tk.trans ad⟩ fun b hb=> ?_
  ·rw [qS ⟨vV,uG _⟩];rfl
  ·rw [qi (fun z=>h2 (by rw [z];exact ac))];exact s1 _ _ h1
  ·rcases hb with h|⟨j,hj,rfl|rfl⟩
   ·exact .inl h
   ·exact .inr (ch.fr j (uG _) hj).1
   ·exact .inr (ch.fr j (uG _) hj).2
 ·refine qC (ub (by simp)) ?_
  refine⟨_,rfl,t,_,dt,_,_,rfl,ht,T.qJ,T.qE,az _,?_⟩;refine⟨_,rfl,?_⟩;refine gi (i:=0) (d:= .tup (r.1.map prD)) ay (qm (j:=0) rfl) fun pv aV=> ?_;obtain⟨a0,vs,rfl,aB,aC⟩:=aV;have lv:vs.length=r.1.length:=by rw [aC.length];simp
  obtain⟨r0,aW⟩:=vQ _ am;refine⟨a0,vs,rfl,SqT.of aB,fun bx=> ?_⟩
  let J1_:Nat->L2.St->Hp->Prop:=fun i σ H'=>∃(o1 o2:Option V),σ= [some (.ref t),some v,some gv,some (.ref (n ((ans r).take i))),o1,o2]/\i<=r.1.length/\Same H H'/\∃r'∈rs,(ans r).take i<+:ans r'
  refine for_en (K:=K) (a:=a0) (c:=0) (xs:=vs) J1_ ⟨none,none,rfl,uG _,Same.refl _,r0,aW,by rw [Uc];exact vV⟩ (fun i σ H' _ ⟨_,_,_,_,s1,_⟩=>SqT.of (s1 _ _ aB)) ?_ ?_
  ·rintro i y σ H' pp hy ⟨o1,o2,rfl,hi,s1,r1,B,L⟩ aX;have ae:i<r.1.length:=by rw [<-lv];exact(List.getElem?_eq_some_iff.mp hy).1
   obtain⟨p,R⟩:∃p,r.1[i]? =some p:=⟨_,u7 ae⟩;have aD:p∈r.1:=ui R;have aY:p.2∈ANS:=hR.an _ (List.mem_map.mpr ⟨p,aD,rfl⟩);obtain⟨M,bz⟩:=jO aY;obtain⟨aZ,bA⟩:=ask_n (hR.ok.prs p aD).ask;obtain⟨y',ey,iy⟩:=aC.get (d:=prD p) (i:=i) (by rw [um,R];rfl)
   rw [hy] at ey;cases ey;have s2:=qb aX (.tup [.int (0+(i:Int)),y]);have S2:=s1.trans s2;refine⟨pp,_,rfl,SqT.of qe,rfl,_,_,rfl,_,_,rfl,rfl,?_⟩;have ao:Is (upd H' pp (.tup [.int (0+(i:Int)),y])) (.tup [p.1,p.2]) y:=iy.mono S2.tk;generalize upd H' pp (.tup [.int (0+(i:Int)),y])=H2 at s2 S2 ao⊢;have O:((ans r).take i).length=i:=by rw [uV,qP];omega
   have ap:(ans r).take i<+:ans r:=Ug _ _;have N2:=N.move S2.tk fun b o _ h=>S2 b o h;have a6:thr r1 i= .tup [.str "asks",p.1]:=by
    have:=hF r1 B _ ap L;rw [O,yD R] at this;exact this.symm
   obtain⟨dx,fs,tv,wv,a7,aE,nf,it,_,_⟩:=N2.nd r1 B _ L;rw [O,a6] at it;have U:(ans r).take i++ [p.2]=(ans r).take (i+1):=by rw [uE,Ys,R];rfl
   refine⟨_,rfl,_,_,dx,fs,tv,rfl,aE,T.qL,T.Qo,nf.there,?_⟩;refine⟨_,rfl,?_⟩;refine gi (i:=0) (d:=p.1) ao (qm (j:=0) rfl) fun qv a8=> ?_;refine⟨(by show 2<=sizeLine;decide),fun l hl=> ?_⟩
   have s3:=qb hl (.tup [.str "asks",qv]);have i3:Is (upd H2 l (.tup [.str "asks",qv])) (.tup [.str "asks",p.1]) (.ref l):=Is.new (ds:= [.str "asks",p.1]) ⟨_,_,rfl,⟨rfl,Yb (by decide)⟩,_,_,rfl,a8,rfl⟩ hl
   have af:=ao.mono s3.tk;have S3:=S2.trans s3;have N3:=N2.move s3.tk fun b o _ h=>s3 b o h;have ag:=s3 _ _ aE;have aF:=it.mono s3.tk;generalize upd H2 l (.tup [.str "asks",qv])=H3 at s3 i3 af S3 N3 ag aF⊢;have aq:nL [.str "asks",p.1]=true:=by simp [nL,nD,aZ]
   refine⟨_,_,aF,i3,aq,aq,by simp only [dpL,dp];omega,_,rfl,?_⟩
   refine qC (by rw [Qu aq];rfl) ?_
   refine⟨_,rfl,?_⟩;refine gi (i:=1) (d:=p.2) af (qm (j:=1) rfl) fun cv a9=> ?_;refine⟨_,rfl,_,_,dx,fs,_,rfl,ag,T.qL,T.qy,nf.edges,?_⟩;obtain⟨kvs,Y,mem,aG⟩:=N3.kd r1 B _ L;have ba:KOk H3 p.2 cv:=⟨a9,M,by omega⟩
   refine⟨_,kvs,p.2,rfl,Y,ba,_,rfl,?_⟩;cases Z:(valD kvs p.2).isSome with
   |false=>
    refine iteT ?_;have au:∀r'∈rs,¬(ans r).take (i+1)<+:ans r':=fun r' h1 h2=>by
     have:=(Qq Y M).mpr ((mem p.2).mpr ⟨r',h1,by rw [U];exact h2⟩)
     rw [Z] at this;cases this
    refine⟨_,rfl,_,rfl,_,rfl,_,_,rfl,rfl,v,gv,r,i+1,by simp,iv.mono S3.tk,ig.mono S3.tk,hR,ae,fun nn ee H4 s4 ch=> ?_⟩
    have S4:=S3.trans s4;refine⟨_,rfl,_,_,dx,fs,_,rfl,s4 _ _ ag,T.qL,T.qy,nf.edges,?_⟩;refine⟨_,rfl,?_⟩;refine gi (i:=1) (d:=p.2) (af.mono s4.tk) (qm (j:=1) rfl) fun aa ab=> ?_;have ak:KOk H4 p.2 aa:=⟨ab,M,by omega⟩
    have g4:=Y.same s4;refine⟨_,kvs,p.2,rfl,g4,ak,(by have:=YD g4.nd (fun c hc=>(let⟨r2,h1,h2⟩:=(mem c).mp hc;(al r2 h1).kid h2));rw [vi];omega),?_⟩
    have g5:=g4.put (v:= .ref (nn (i+1))) ak;have t5:Tk H4 (upd H4 (e ((ans r).take i)) (dExt w (e ((ans r).take i)) (putD kvs p.2 aa (.ref (nn (i+1)))))):=tk_ext g4;have o5:∀b,b≠e ((ans r).take i)->(upd H4 (e ((ans r).take i)) (dExt w (e ((ans r).take i)) (putD kvs p.2 aa (.ref (nn (i+1)))))) b=H4 b:=fun b h=>qi h;have bb:=(N.sn r1 B _ L).2;generalize upd H4 (e ((ans r).take i)) (dExt w (e ((ans r).take i)) (putD kvs p.2 aa (.ref (nn (i+1)))))=H5 at g5 t5 o5⊢;rw [putD_new Z (fun _ _=>trivial)] at g5;have aH:∀j,i+1<=j->j<=r.1.length->nn j≠e ((ans r).take i)/\ee j≠e ((ans r).take i):=fun j h1 h2=>⟨fun z=>(by have:=(ch.fr j h1 h2).1;rw [z,Y.here] at this;cases this),fun z=>(by have:=(ch.fr j h1 h2).2;rw [z,Y.here] at this;cases this)⟩
    have av:jG w a.qu gd H H5 r (i+1) nn ee:=⟨fun j h1 h2=>(ch.nd j h1 h2).move t5 fun o h=>by rw [o5 _ (aH j h1 h2).1];exact h,fun j h1 h2=>let⟨kvs,g,x1,x2⟩:=ch.kd j h1 h2;⟨kvs,g.keep t5 (o5 _ (aH j h1 h2).2),x1,x2⟩,fun j h1 h2=>⟨Qi S3 (ch.fr j h1 h2).1,Qi S3 (ch.fr j h1 h2).2⟩,ch.ni,ch.ei⟩
    have bc:∀q,q<+:ans r->q.length+1=i+1->q=(ans r).take i:=fun q h1 h2=>pre_eq h1 ap (by rw [O];omega)
    have N5:=N.grow (H2:=H5) (S':=fun b=>S b∨∃j,i+1<=j/\j<=r.1.length/\(b=nn j∨b=ee j)) av (S4.tk.trans t5) hR.ok (fun r' h=>(al r' h).ok) hF ae
     (fun q h1 h2=>⟨r1,B,(by
      rw [Us] at h1;rw [h1];exact(List.take_prefix_take_left (by omega)).trans L)⟩)
     (fun q h1 h2 r' h3 h4=>au r' h3 (by
      rw [Us] at h1;rw [h1] at h4;exact(List.take_prefix_take_left h2).trans h4))
     (fun b o hb ho hq=>by
      rw [o5 _ (hq _ ap (by rw [O]))]
      exact S4 _ _ ho)
     (fun q h1 h2=>by
      rw [bc q h1 h2];refine⟨_,g5,fun c=> ?_,fun x hx=> ?_⟩
      ·rw [uB,List.mem_append,mem c];refine or_congr Iff.rfl ⟨fun h=> ?_,fun h=> ?_⟩
       ·cases(List.mem_singleton.mp (show c∈ [p.2] from h))
        rw [U];exact Ug _ _
       ·have:=(QG.mp h).2;rw [O,Ys,R] at this;cases this;exact List.mem_singleton.mpr rfl
      ·rcases List.mem_append.mp hx with h|h
       ·refine .inr ⟨fun z=> ?_,aG x h⟩;have:=(QG.mp z).2;rw [O,Ys,R] at this;have:=uL this;have hm:=(Qq Y M).mpr (List.mem_map.mpr ⟨x,h,this.symm⟩);rw [Z] at hm;cases hm
       ·cases(List.mem_singleton.mp h);refine .inl ⟨?_,rfl⟩;show(ans r).take i++ [p.2]<+:ans r;rw [U];exact Ug _ _)
     (fun b h=> .inl h) (fun j h1 h2=>⟨.inr ⟨j,h1,h2,.inl rfl⟩,.inr ⟨j,h1,h2,.inr rfl⟩⟩)
    have bd:t≠e ((ans r).take i):=fun z=>by
     have:=Y.here;rw [<-z,S3 _ _ ht] at this;cases this
    refine k _ _ ⟨dt,_,by rw [o5 _ bd];exact S4 _ _ ht,.inl ac,.inr ⟨by simp,_,_,?_,N5⟩⟩ ⟨fun b o h1 h2=> ?_,S4.tk.trans t5⟩ fun b hb=> ?_
    ·rw [qT (fun z=>by have:=z.2;simp at this)]
    ·rw [o5 _ (fun z=>h2 (by rw [z];exact bb))];exact S4 _ _ h1
    ·rcases hb with h|⟨j,aI,aJ,rfl|rfl⟩
     ·exact .inl h
     ·exact .inr (av.fr j aI aJ).1
     ·exact .inr (av.fr j aI aJ).2
   |true=>
    refine iteF ?_;obtain⟨x,hx,ex,ev⟩:=yA Y M ((Qq Y M).mp Z);refine⟨_,rfl,_,_,dx,fs,_,rfl,ag,T.qL,T.qy,nf.edges,?_⟩;refine⟨_,rfl,?_⟩;refine gi (i:=1) (d:=p.2) af (qm (j:=1) rfl) fun aa ab=> ?_;refine⟨_,kvs,p.2,_,rfl,Y,⟨ab,M,by omega⟩,ev,?_⟩
    obtain⟨r2,be,bf⟩:=(mem p.2).mp ((Qq Y M).mp Z);rw [aG x hx,ex,U];exact⟨_,_,rfl,ae,S3,r2,be,by rw [<-U];exact bf⟩
  ·rintro σ H' ⟨o1,o2,rfl,hi,s1,r1,B,L⟩;have bg:(ans r).take vs.length=ans r:=ut (by rw [qP];omega)
   rw [bg] at L⊢;have er:r=r1:=fit_one hR.ok (al r1 B).ok (hF r1 B) L;subst er;have N1:=N.move s1.tk fun b o _ h=>s1 b o h;obtain⟨dx,fs,tv,wv,a7,aw,nf,it,_,bh⟩:=N1.nd r B _ (Uf _);rw [qP,Ya (Nat.le_refl _)] at it;have aK:=(bh (rnD r) (by unfold wyr;rw [qP,if_pos (Nat.le_refl _)])).2
   obtain⟨ds,aL,ax,bB⟩:=end_n hR.ok.en;refine⟨_,rfl,_,_,dx,fs,tv,rfl,aw,T.qL,T.Qo,nf.there,?_⟩;refine⟨_,rfl,?_⟩;refine gi (i:=1) (d:=r.2) (ay.mono s1.tk) (qm (j:=1) rfl) fun ev bi=> ?_;refine⟨ds,ds,by rw [<-aL];exact it,by rw [<-aL];exact bi,ax,ax,by omega,_,rfl,?_⟩
   refine qC (by rw [Qu ax];rfl) ?_
   have aM:gd= .tup []:=aS.resolve_right am;rw [aM] at aK ig;obtain⟨t0,v0,rfl,bj,bm⟩:=aK;cases(show v0= [] from bm)
   obtain⟨t1,v1,rfl,bn,bo⟩:=ig;cases(show v1= [] from bo)
   refine⟨_,rfl,_,_,dx,fs,_,rfl,aw,T.qL,T.Qe,nf.givers,t0,rfl,SqT.of bj,fun q1 bp=> ?_⟩;have s2:=qb bp (nilS q1);refine⟨_,rfl,t1,rfl,SqT.of (s2 _ _ (s1 _ _ bn)),fun q2 bq=> ?_⟩;have s3:=qb bq (nilS q2);refine⟨q1,q2,rfl,rfl,s3 _ _ qe,qe,fun q3 br=> ?_⟩;have s4:=qb br (nilS q3);refine⟨q3,rfl,qe,fun q4 bt=> ?_⟩;have s5:=qb bt (.lst []);refine⟨q4,[],rfl,.inl ⟨SqL.of qe,fun l hl=> ?_⟩⟩;have s6:=qb hl (.tup []);have S6:=s2.trans (s3.trans (s4.trans (s5.trans s6)));have i6:Is (upd (upd (upd (upd (upd H' q1 (nilS q1)) q2 (nilS q2)) q3 (nilS q3)) q4 (.lst [])) l (.tup [])) (.tup []) (.ref l):=Is.new (ds:= []) rfl hl;generalize upd (upd (upd (upd (upd H' q1 (nilS q1)) q2 (nilS q2)) q3 (nilS q3)) q4 (.lst [])) l (.tup [])=H6 at s6 S6 i6⊢;have ah:=s1.trans S6;have ai:=S6 _ _ aw;have N6:=N1.move S6.tk fun b o _ h=>S6 b o h;refine⟨_,rfl,_,_,dx,fs,rfl,ai,T.qL,T.Qe,by have:=nf.len;omega,?_⟩
   have t7:Tk H6 (upd H6 (n (ans r)) (.ins a.qu dx (putF "givers" (.ref l) fs))):=Tk.updI ai;have aN:(upd H6 (n (ans r)) (.ins a.qu dx (putF "givers" (.ref l) fs))) (n (ans r))=some (.ins a.qu dx (putF "givers" (.ref l) fs)):=qe;have o7:∀b,b≠n (ans r)->(upd H6 (n (ans r)) (.ins a.qu dx (putF "givers" (.ref l) fs))) b=H6 b:=fun b h=>qi h;generalize upd H6 (n (ans r)) (.ins a.qu dx (putF "givers" (.ref l) fs))=H7 at t7 aN o7⊢;have N7:Ye w a.qu gd H7 rs S n e:=by
    refine⟨fun r' aj p R=> ?_,fun r' aj p R=> ?_,N.sn,N.ni,N.ei⟩
    ·by_cases c:n p=n (ans r)
     ·obtain⟨bu,fs',aO,aP,bw,a1,a2,a3,a4,a5⟩:=N6.nd r' aj p R;rw [c,ai] at a1;cases a1;rw [c];refine⟨dx,_,aO,aP,_,aN,a2.set_givers,a3.mono t7,a4,fun d hd=>⟨(a5 d hd).1.mono t7,?_⟩⟩;rw [aM];exact i6.mono t7
     ·exact(N6.nd r' aj p R).move t7 fun o h=>by rw [o7 _ c];exact h
    ·obtain⟨kvs,g,h1,h2⟩:=N6.kd r' aj p R;refine⟨kvs,g.keep t7 (o7 _ fun z=> ?_),h1,h2⟩;have:=g.here;rw [z,ai] at this;cases this
   have aQ:n (ans r)≠t:=fun z=>by
    obtain⟨bu,fs',aO,aP,bw,a1,a2,_⟩:=N6.nd r B _ (Uf _);rw [z,ah _ _ ht] at a1;injection a1 with a1
    injection a1 with _ _ a1
    subst a1;have:=a2.there;rw [uI] at this;rw [show(("there":Str)==("beginning":Str))=false by decide+kernel] at this
    cases this
   refine k H7 S ?_ ⟨fun b o h1 h2=> ?_,ah.tk.trans t7⟩ fun b h=> .inl h
   ·refine Qt.mem ⟨dt,_,by rw [o7 _ aQ.symm];exact ah _ _ ht,ac,.inr ⟨am,n,e,rfl,N7⟩⟩ fun r'=> ?_
    rw [uY];exact⟨fun h=>h.elim (fun h=>by rw [h];exact B) id,.inr⟩
   ·rw [o7 _ (fun z=>h2 (by rw [z];exact(N.sn r B _ (Uf _)).1))]
    exact ah _ _ h1
theorem ok_put (T:Tx K mg a)(C:Fx K w mg g a)(gd:D)(hg:gd= .tup []∨gd= .tup [.int 4]):FnOk P w K mg base CX0 6 a.YJ a.Yz ["self","run","givers"] (sp_lay w a.ql a.qu gd):=by
 have I:=ok_run (P:=P) (w:=w) (base:=base) T C;have B:=ok_giv (P:=P) (w:=w) (base:=base) T;have J5:FnOk P w K mg base CX0 4 a.yp a.yf ["self","run","givers"] (sp_lay w a.ql a.qu gd):=ok_lay T gd;refine T.g_AskTree_put.F.ok Jd (by trivial) (fun _ _ _ _ H _ Q E L h=> ?_)
 obtain⟨t,v,gv,rs,r,S,rfl,R,U,Y,Z,M,hF,O,k⟩:=h;refine⟨_,(@qd _ _ _ _ _ (@qM _ _ _ _ _ _ _ _ (@Q8 _ _ _ _ (@Qw _ _ _ (@qt _ _ _ _ _ _ _ _ _ _ _ _ _ _ _ _ I (L.mono (by trivial)) (by rfl) T.g_is_run.m T.g_is_run.F.kp T.g_is_run.b .nil qG (@qa _ _ _ _ _ (pv 1) qc (by trivial)) (by trivial) (by trivial) (by trivial)) (by trivial))) (@qg _ _ _ jr) qs) (@qd _ _ _ _ _ (@qM _ _ _ _ _ _ _ _ (@Q8 _ _ _ _ (@Qw _ _ _ (@qt _ _ _ _ _ _ _ _ _ _ _ _ _ _ _ _ B (L.mono (by trivial)) (by rfl) T.g_are_givers.m T.g_are_givers.F.kp T.g_are_givers.b .nil qG (@qa _ _ _ _ _ (pv 2) qc (by trivial)) (by trivial) (by trivial) (by trivial)) (by trivial))) (@qg _ _ _ jr) qs) (@qg _ _ _ (@QD _ _ _ _ (@yl _ _ _ _ _ _ _ _ _ _ _ _ _ _ _ _ _ _ _ _ (pv 0) T.qJ T.g_AskTree_lay.h J5 (L.mono (by trivial)) T.g_AskTree_lay.b .nil qG (@qa _ _ _ _ _ (pv 1) (@qa _ _ _ _ _ (pv 2) qc (by trivial)) (by trivial)) (by trivial) (by trivial) (by trivial)) (by trivial))))),?_⟩
 refine⟨_,rfl,v,r,rfl,Z.ok,U,fun H1 s1=>⟨_,rfl,iteF ?_⟩⟩;refine⟨_,rfl,gv,gd,rfl,hg,Y.mono s1.tk,_,rfl,iteF ?_⟩;obtain⟨dt,bv,ht,L⟩:=R.same s1;refine⟨_,rfl,t,dt,_,rfl,ht,by rw [uI,show(("lay":Str)==("beginning":Str))=false by decide+kernel];rfl,_,rfl,_,rfl,?_⟩
 refine⟨t,v,gv,rs,r,S,rfl,R.same s1,U.mono s1.tk,Y.mono s1.tk,Z,M,hF,O,fun H' S' t' m' f'=>k H' S' t' ⟨fun b o h1 h2=>m'.kept b o (s1 _ _ h1) h2,s1.tk.trans m'.tk⟩ fun b hb=>(f' b hb).imp id (Qi s1)⟩
theorem for_tupR {K:PySem.W.Frag}{a:Addr}{xs:List V}{g:TG}{tb:TS}{D:Ends}{σ:L2.St}{H:Hp}(B:Nat->L2.St->Hp->Prop)(R:L2.St->Hp->Prop)(I:∀σ H,R σ H->D.nx σ H)(U:B 0 σ H)(Y:∀i σ H,i<=xs.length->B i σ H->SqT K H a xs)
  (Z:(∀σ H,R σ H->D.nx σ H)->∀i x σ H,xs[i]? =some x->B i σ H->g x σ H fun L H2=>tb {D with nx:=B (i+1),ct:=B (i+1),bk:=D.nx} L H2) (hd:∀σ H,B xs.length σ H->R σ H):
  ∃W:Nat->Nat->L2.St->Hp->Prop,(∃m,W 0 m σ H)/\∀i m σ H,W i m σ H->
   ((Itt K a).stop i H/\D.nx σ H)∨((Itt K a).go i H/\∃N:L2.St->Hp->Prop,(∀M H',N M H'->∃O,O<m/\W (i+1) O M H')/\∀x H',(Itt K a).yld i H x H'->g x σ H' fun L H2=>tb {D with nx:=N,ct:=N,bk:=D.nx} L H2):=
 for_tup B U Y (Z I) fun σ H h=>I σ H (hd σ H h)
noncomputable def wkD (rs:List Rn) (as:List D):D:= .tup [.tup ((wk rs [] [] as).1.map prD),(wk rs [] [] as).2]
def sp_walk (w:World)(CA CN:Addr)(gd:D):Sp:=fun vs H Q _=>∃(t:Addr) (av:V) (rs:List Rn) (as:List D) (S:Addr->Prop),vs= [.ref t,av]/\Qt w CA CN gd H t rs S/\Is H (.tup as) av/\(∀c∈as,c∈ANS)/\(∀r∈rs,RunA r)/\Fits rs/\as.length<=200/\
 ∀(u:V) (H':Hp),Same H H'->Is H' (wkD rs as) u->Q u H'
theorem wk_nil {rs:List Rn}{p:List D}{g:List (D×D)}:wk rs p g []=(g,th rs p):=by rw [wk]
theorem wk_in {rs:List Rn}{p:List D}{g:List (D×D)}{c:D}{cs:List D}(h:∃r∈rs,p++ [c]<+:ans r):wk rs p g (c::cs)=wk rs (p++ [c]) (g++ [(askOf (th rs p),c)]) cs:=by rw [wk,if_pos h]
theorem wk_out {rs:List Rn}{p:List D}{g:List (D×D)}{c:D}{cs:List D}(h:¬∃r∈rs,p++ [c]<+:ans r)(ha:Yo (th rs p)=true):wk rs p g (c::cs)=(g,.non):=by rw [wk,if_neg h,if_pos ha]
theorem jw {rs:List Rn}{p:List D}{g:List (D×D)}{c:D}{cs:List D}(h:¬∃r∈rs,p++ [c]<+:ans r)(ha:Yo (th rs p)=false):wk rs p g (c::cs)=(g,th rs p):=by rw [wk,if_neg h,if_neg (by rw [ha];exact uf)]
theorem QY {p:List D}:th [] p= .non:=by unfold th;rw [dif_neg (by simp)]
theorem thr_head {r:Rn}{i:Nat}(h:RunOk r):∃z q,thr r i= .tup [.str z,q]/\decide (z="asks")=Yo (thr r i):=by
 unfold thr;cases e:r.1[i]? with
 |some p=>exact⟨_,_,rfl,rfl⟩
 |none=>
  rcases h.en with⟨d,e,_⟩|⟨z,_,e⟩
  ·simp only [e];exact⟨_,_,rfl,rfl⟩
  ·simp only [e];exact⟨_,_,rfl,rfl⟩
theorem ok_walk (T:Tx K mg a)(gd:D):FnOk P w K mg base CX0 1 a.yW a.yV ["self","answers"] (sp_walk w a.ql a.qu gd):=by
 refine T.g_AskTree_walk.F.ok Qd (by trivial) (fun _ _ _ _ H vs Q E hr h=> ?_)
 obtain⟨t,av,rs,as,S,rfl,⟨dt,bv,ht,aS,hT⟩,aG,aH,al,hF,aT,k⟩:=h;refine⟨_,(@qd _ _ _ _ _ (@qx _ _ (2) _ _ _ _ Qd.nd rfl (Or.inl rfl) (@Qb _ _ _ _ qc) (by trivial) (by trivial)) (@qd _ _ _ _ _ (@qx _ _ (3) _ _ _ _ Qd.nd rfl (Or.inl rfl) (@Qh _ _ _ _ _ (pv 0) rfl) (by trivial) (by trivial)) (@qd _ _ _ _ _ (@Q4 _ _ _ _ _ _ _ _ uO rfl (@pi_tup _ _ _ _ (pv 1)) (@qF _ _ (4) _ Qd.nd rfl (Or.inl rfl) (by trivial)) (@qd _ _ _ _ _ (@qM _ _ _ _ _ _ _ _ (@YO _ _ _ _ _ _ _ (@qq _ _ _ _ _ _ _ _ Y5 (pv 3) Qg (qw _)) (@yN _ _ _ _ (@qq _ _ _ _ _ _ _ _ op_ne (@qA _ _ _ _ _ _ _ qD (@Qh _ _ _ _ _ (pv 3) rfl) qh (fun _ _=>rfl)) qo (qw _)))).pt (@qg _ _ _ ps_break) qs) (@qd _ _ _ _ _ (@qM _ _ _ _ _ _ _ _ (@pt_cmp _ _ _ _ _ _ (@pc_notinD _ _ _ _ _ (w) rfl hr.units (pv 4) (@Qh _ _ _ _ _ (pv 3) rfl)) (by trivial)) (@qg _ _ _ (@qr _ _ _ _ (@qk _ _ _ _ _ (@qa _ _ _ _ _ (@qN _ _ _ _ _ _ _ _ _ qH (by rfl) T.Qj vq (@qa _ _ _ _ _ (pv 2) qc (by trivial)) (by trivial) (by trivial) (by trivial) (by trivial)) (@qa _ _ _ _ _ Qg qc (by trivial)) (by trivial))))) qs) (@qd _ _ _ _ _ (@QD _ _ _ _ (@pe_bm _ _ _ _ _ _ _ _ _ _ _ _ uH uZ v5 QB (pv 2) (@qa _ _ _ _ _ (@qk _ _ _ _ _ (@qa _ _ _ _ _ (@qA _ _ _ _ _ _ _ qD (@Qh _ _ _ _ _ (pv 3) rfl) qh (fun _ _=>rfl)) (@qa _ _ _ _ _ (pv 4) qc (by trivial)) (by trivial))) qc (by trivial)) (by trivial) (by trivial) (by trivial) (by trivial) (by trivial)) (by trivial)) (@qg _ _ _ (@qx _ _ (3) _ _ _ _ Qd.nd rfl (Or.inl rfl) (@J7 _ _ _ _ _ _ (w) rfl hr.units (@Qh _ _ _ _ _ (pv 3) rfl) (pv 4) (fun _ _=>rfl)) (by trivial) (by trivial)))))) (by trivial)) (@qg _ _ _ (@qr _ _ _ _ (@qk _ _ _ _ _ (@qa _ _ _ _ _ (@qN _ _ _ _ _ _ _ _ _ qH (by rfl) T.Qj vq (@qa _ _ _ _ _ (pv 2) qc (by trivial)) (by trivial) (by trivial) (by trivial) (by trivial)) (@qa _ _ _ _ _ (@JK _ _ _ _ _ _ _ _ (@qq _ _ _ _ _ _ _ _ Y5 (pv 3) Qg (qw _)) Qg (@Qh _ _ _ _ _ (pv 3) rfl)) qc (by trivial)) (by trivial)))))))),?_⟩
 have aI:∀u:V,([(("beginning":Str),u)]:List (Str×V)).lookup ("beginning":Str)=some u:=fun u=>by simp [List.lookup]
 refine⟨(by show 0<=sizeLine;decide),fun L am=> ?_⟩
 have s1:=qb am (.lst []);have e1:(upd H L (.lst [])) L=some (.lst []):=qe;generalize upd H L (.lst [])=H1 at s1 e1⊢;refine⟨_,rfl,t,_,dt,_,bv,rfl,s1 _ _ ht,T.qJ,T.qE,aI bv,?_⟩;obtain⟨a0,vs,rfl,ao,ap⟩:=aG;have lv:=ap.length;refine⟨_,rfl,a0,rfl,⟨vs,SqT.of (s1 _ _ ao)⟩,?_⟩;have ac:(2:Nat)<=sizeLine:=by decide
 have aa:∀(H2:Hp) (I:List (D×D)) (B:List V) (tv:V) (td:D) (l:Addr),Same H H2->H2 L=some (.lst B)->IsL H2 (I.map prD) B->Is H2 td tv->H2 l=none->(I,td)=wk rs [] [] as->∀p,(upd H2 l (.tup B)) p=none->Q (.ref p) (upd (upd H2 l (.tup B)) p (.tup [.ref l,tv])):=fun H2 I B tv td l S2 U ig it hl Y p O=>by
  have s3:=qb hl (.tup B);have i3:Is (upd H2 l (.tup B)) (.tup (I.map prD)) (.ref l):=Is.new ig hl;have s4:=qb O (.tup [.ref l,tv]);refine k _ _ (S2.trans (s3.trans s4)) ?_;unfold wkD;rw [<-Y];exact Is.new (ds:= [.tup (I.map prD),td]) ⟨_,_,rfl,i3,_,_,rfl,it.mono s3.tk,rfl⟩ O
 obtain⟨n,e,hT⟩:∃n e:List D->Addr,(rs= []/\bv= .non)∨(rs≠ []/\bv= .ref (n [])/\Ye w a.qu gd H rs S n e):=by
  rcases hT with⟨h1,h2⟩|⟨h1,n,e,h2,h3⟩
  ·exact⟨fun _=>0,fun _=>0,.inl ⟨h1,h2⟩⟩
  ·exact⟨n,e,.inr ⟨h1,h2,h3⟩⟩
 let J1_:Nat->L2.St->Hp->Prop:=fun i σ H'=>∃(I:List (D×D)) (B:List V) (nv:V) (o:Option V),σ= [some (.ref t),some (.ref a0),some (.ref L),some nv,o]/\Same H H'/\H' L=some (.lst B)/\IsL H' (I.map prD) B/\I.length=i/\wk rs (as.take i) I (as.drop i)=wk rs [] [] as/\((rs= []/\nv= .non/\i=0)∨(rs≠ []/\nv= .ref (n (as.take i))/\∃r∈rs,as.take i<+:ans r))
 let R1_:L2.St->Hp->Prop:=fun σ H'=>∃(I:List (D×D)) (B:List V) (nv:V) (o:Option V) (td:D),σ= [some (.ref t),some (.ref a0),some (.ref L),some nv,o]/\Same H H'/\H' L=some (.lst B)/\IsL H' (I.map prD) B/\(I,td)=wk rs [] [] as/\((nv= .non/\td= .non)∨∃(x dx ed:Addr) (fs:List (Str×V)) (tv wv gv:V),nv= .ref x/\H' x=some (.ins a.qu dx fs)/\Nf fs tv ed wv gv/\Is H' td tv)
 refine for_tupR (K:=K) (a:=a0) (xs:=vs) J1_ R1_ ?_ ?_ (fun i σ H' _ ⟨_,_,_,_,_,M,_⟩=>SqT.of (M _ _ ao)) (fun aq i x σ H' hx h=> ?_) (fun σ H' h=> ?_)
 ·rintro σ H' ⟨I,B,nv,o,td,rfl,M,U,ig,Y,hc⟩;refine⟨_,rfl,L,B,rfl,.inl ⟨SqL.of U,fun l hl=> ?_⟩⟩;have s2:=qb hl (.tup B);refine⟨_,rfl,rfl,_,rfl,?_⟩;rcases hc with⟨rfl,rfl⟩|⟨x,dx,ed,fs,tv,wv,gv,rfl,hx,nf,it⟩
  ·refine qR (by decide+kernel) ?_
   exact⟨ac,fun p O=>aa H' I B .non .non l M U ig rfl hl Y p O⟩
  ·refine qC (ub (by simp)) ?_
   refine⟨_,rfl,x,_,dx,fs,tv,rfl,s2 _ _ hx,T.qL,T.Qo,nf.there,?_⟩;exact⟨ac,fun p O=>aa H' I B tv td l M U ig it hl Y p O⟩
 ·refine⟨[],[],bv,none,rfl,s1,e1,rfl,rfl,rfl,?_⟩;rcases hT with⟨h1,h2⟩|⟨h1,h2,h3⟩
  ·exact .inl ⟨h1,h2,rfl⟩
  ·obtain⟨r0,aJ⟩:=vQ _ h1;exact .inr ⟨h1,h2,r0,aJ,vV⟩
 ·obtain⟨I,B,nv,o,rfl,M,U,ig,ai,Y,hc⟩:=h;have au:i<as.length:=by rw [<-lv];exact(List.getElem?_eq_some_iff.mp hx).1
  obtain⟨c,ad⟩:∃c,as[i]? =some c:=⟨_,u7 au⟩;have aK:=aH c (ui ad);obtain⟨Z,aU⟩:=jO aK;obtain⟨x',ex,ix⟩:=ap.get ad;rw [hx] at ex;cases ex;have aL:as.drop i=c::as.drop (i+1):=by
   rw [v9 au];have:=(List.getElem?_eq_some_iff.mp ad).2;rw [this]
  have htk:as.take i++ [c]=as.take (i+1):=by rw [uE,ad];rfl
  have aV:(as.take i).length=i:=by rw [uV];omega
  rw [aL] at Y;refine⟨_,rfl,rfl,_,rfl,?_⟩;rcases hc with⟨rfl,rfl,rfl⟩|⟨ae,rfl,r,hr,O⟩
  ·refine qR (by decide+kernel) ?_
   refine iteT ?_;refine aq _ _ ⟨I,B,.non,some x,.non,rfl,M,U,ig,?_,.inl ⟨rfl,rfl⟩⟩;rw [<-Y,jw (by simp) (by rw [QY];rfl),QY]
  ·refine qC (ub (by simp)) ?_
   have N:=(hT.resolve_left fun z=>ae z.1).2.2;have N1:=N.move M.tk fun b o _ h=>M b o h;obtain⟨dx,fs,tv,wv,aj,R,nf,it,_,_⟩:=N1.nd r hr _ O;have af:=th_eq hF hr O;obtain⟨z,q,ez,hz⟩:=thr_head (r:=r) (i:=(as.take i).length) (al r hr).ok;have aw:Is H' (.tup [.str z,q]) tv:=by rw [<-ez];exact it
   refine⟨_,rfl,_,_,dx,fs,tv,rfl,R,T.qL,T.Qo,nf.there,?_⟩;refine gi (i:=0) (d:= .str z) aw (qm (j:=0) rfl) fun zv aM=> ?_;obtain⟨rfl,_⟩:=aM;refine⟨rfl,_,rfl,?_⟩;rw [es,hz];cases ha:Yo (thr r (as.take i).length) with
   |false=>
    refine iteT ?_;refine aq _ _ ⟨I,B,_,some x,thr r (as.take i).length,rfl,M,U,ig,?_,.inr ⟨_,dx,_,fs,tv,wv,aj,rfl,R,nf,it⟩⟩;rw [<-Y,jw ?_ (by rw [af];exact ha),af]
    rintro⟨r',ax,ay⟩;have e1:=hF r hr r' ax _ O (Qn ay);rw [e1,qV (al r' ax).ok] at ha;have:=qU ay;rw [ul] at this;have:=vk ha;simp at*;omega
   |true=>
    refine iteF ?_;refine⟨_,rfl,?_⟩;refine⟨_,rfl,_,_,dx,fs,_,rfl,R,T.qL,T.qy,nf.edges,?_⟩;obtain⟨kvs,g1,mem,aN⟩:=N1.kd r hr _ O;refine⟨_,kvs,c,rfl,g1,⟨ix.mono M.tk,Z,by omega⟩,_,rfl,?_⟩
    cases ak:(valD kvs c).isSome with
    |false=>
     refine iteT ?_;have aO:¬∃r'∈rs,as.take i++ [c]<+:ans r':=fun h=>by
      have:=(Qq g1 Z).mpr ((mem c).mpr h);rw [ak] at this;cases this
     refine⟨_,rfl,L,B,rfl,.inl ⟨SqL.of U,fun l hl=> ?_⟩⟩;exact⟨ac,fun p O=>aa H' I B .non .non l M U ig rfl hl (by rw [<-Y,wk_out aO (by rw [af];exact ha)]) p O⟩
    |true=>
     refine iteF ?_;have ah:=(mem c).mp ((Qq g1 Z).mp ak);obtain⟨y,hy,ey,ev⟩:=yA g1 Z ((Qq g1 Z).mp ak);refine⟨_,rfl,.inl ⟨rfl,_,SqL.of U⟩,_,rfl,_,_,dx,fs,tv,rfl,R,T.qL,T.Qo,nf.there,?_⟩;refine gi (i:=1) (d:=q) aw (qm (j:=1) rfl) fun qv aP=> ?_;refine⟨_,rfl,ac,fun l hl=> ?_⟩;have s2:=qb hl (.tup [qv,x]);have i2:Is (upd H' l (.tup [qv,x])) (prD (q,c)) (.ref l):=Is.new (ds:= [q,c]) ⟨_,_,rfl,aP,_,_,rfl,ix.mono M.tk,rfl⟩ hl;have ab:=s2 _ _ U;have S2:=M.trans s2;have az:=ig.mono s2.tk;have ag:=s2 _ _ R;have g2:=g1.same s2;generalize upd H' l (.tup [qv,x])=H2 at s2 i2 ab S2 az ag g2⊢;have lg:B.length=i:=by rw [ig.length,ue,ai]
     refine⟨L,B,_,rfl,rfl,ab,qX (by omega),?_⟩
     have t3:Tk H2 (upd H2 L (.lst (B++ [.ref l]))):=Tk.updL ab;have aA:H L=none:=am;have S3:Same H (upd H2 L (.lst (B++ [.ref l]))):=fun b o h=>by rw [qi (qf h aA)];exact S2 b o h
     have aB:(upd H2 L (.lst (B++ [.ref l]))) L=some (.lst (B++ [.ref l])):=qe;have aQ:n (as.take i)≠L:=fun z=>by rw [z,ab] at ag;cases ag
     have aC:e (as.take i)≠L:=fun z=>by have:=g2.here;rw [z,ab] at this;cases this
     have aD:(upd H2 L (.lst (B++ [.ref l]))) (n (as.take i))=some (.ins a.qu dx fs):=by rw [qi aQ];exact ag
     have g3:=g2.keep t3 (qi aC);have aE:IsL (upd H2 L (.lst (B++ [.ref l]))) ((I++ [(q,c)]).map prD) (B++ [.ref l]):=by
      rw [uB];exact(az.mono t3).append (IsL.one (i2.mono t3))
     have aF:=ix.mono S3.tk;generalize upd H2 L (.lst (B++ [.ref l]))=H3 at t3 S3 aB aD g3 aE aF⊢;refine⟨_,rfl,_,_,dx,fs,_,rfl,aD,T.qL,T.qy,nf.edges,?_⟩;refine⟨_,rfl,?_⟩;refine⟨_,kvs,c,_,rfl,g3,⟨aF,Z,by omega⟩,ev,?_⟩
     rw [aN y hy,ey,htk];refine⟨I++ [(q,c)],_,_,_,rfl,S3,aB,aE,by rw [ul,ai];rfl,?_,.inr ⟨ae,rfl,?_⟩⟩
     ·rw [<-Y,wk_in ah,af,ez,htk]
      rfl
     ·rw [<-htk];exact ah
 ·obtain⟨I,B,nv,o,rfl,M,U,ig,ai,Y,hc⟩:=h;rw [lv,vn] at hc;rw [lv,vn,List.drop_length,wk_nil] at Y;refine⟨I,B,nv,o,th rs as,rfl,M,U,ig,Y,?_⟩;rcases hc with⟨rfl,rfl,h0⟩|⟨ae,rfl,r,hr,O⟩
  ·exact .inl ⟨rfl,QY⟩
  ·have N:=(hT.resolve_left fun z=>ae z.1).2.2;obtain⟨dx,fs,tv,wv,aj,R,nf,it,_,_⟩:=(N.move M.tk fun b o _ h=>M b o h).nd r hr _ O;rw [th_eq hF hr O];exact .inr ⟨_,dx,_,fs,tv,wv,aj,rfl,R,nf,it⟩
end
def wayD (gd:D)(r:Rn):D:= .tup [rnD r,gd]
section
open Classical
noncomputable def lf (ws:List Rn) (p:List D):List Rn:=ws.filter fun r=>decide (p<+:ans r)
theorem yq {ws:List Rn}{p:List D}{r:Rn}:r∈lf ws p↔r∈ws/\p<+:ans r:=by
 unfold lf;rw [List.mem_filter,uW]
theorem lf_nil (ws:List Rn):lf ws []=ws:=by
 unfold lf;rw [List.filter_eq_self];intro r _;exact uc vV
theorem srt_nodup {ws:List Rn}(h:Srt ws):ws.Nodup:=List.Pairwise.imp (fun h e=>by rw [e] at h;exact List.lt_irrefl _ h) h
theorem lone1 {l:List Rn}{r:Rn}(nd:l.Nodup)(h:∀x∈l,x=r)(B:r∈l):l= [r]:=by
 cases l with
 |nil=>cases B
 |cons x l=>
  have:=h x ua;subst this;cases l with
  |nil=>rfl
  |cons y l=>
   have:=h y (u9 _ ua);subst this;rw [List.nodup_cons] at nd;exact absurd ua nd.1
theorem lf_one {ws:List Rn}{p:List D}{r:Rn}(M:Srt ws)(L:∀r∈ws,RunA r)(F:Fits ws)(B:r∈ws)(I:p<+:ans r)(O:r.1.length<=p.length):lf ws p= [r]:=by
 have ep:p=ans r:=I.eq_of_length (by have:=qU I;rw [qP];omega)
 refine lone1 (List.Pairwise.filter _ (srt_nodup M)) (fun x hx=> ?_) (yq.mpr ⟨B,I⟩);obtain⟨h1,h2⟩:=yq.mp hx;exact(fit_one (L r B).ok (L x h1).ok (F r B x h1) (by rw [<-ep];exact h2)).symm
theorem lf_cut {ws:List Rn}{p:List D}{ks:List D}(hs:Srt ws)(hR:∀r∈ws,RunA r)(hk:ks.Pairwise fun c d=>aR c<aR d)(hA:∀c∈ks,c∈ANS)(hc:∀r∈ws,p<+:ans r->∃c∈ks,p++ [c]<+:ans r):lf ws p=ks.flatMap fun c=>lf ws (p++ [c]):=by
 have nx:∀r∈ws,p<+:ans r->∃c∈ks,(ans r)[p.length]? =some c:=fun r I B=>let⟨c,h1,h2⟩:=hc r I B;⟨c,h1,(QG.mp h2).2⟩;have e:=cut_all (f:=fun r:Rn=>aR ((ans r)[p.length]?.getD .non)) (ks:=ks) (L:=lf ws p) ?_ hk ?_
 ·refine e.trans ?_;rw [List.flatMap,List.flatMap]
  congr 1
  refine List.map_congr_left fun c U=> ?_;unfold lf;rw [List.filter_filter];refine List.filter_congr fun r I=> ?_;by_cases B:p<+:ans r
  ·obtain⟨c',h1,h2⟩:=nx r I B;rw [uc B,UC,h2,uz,Option.getD_some,QG,h2];constructor
   ·intro h;exact⟨B,by rw [Yh (hA c' h1) (hA c U) h]⟩
   ·intro h;rw [uL h.2]
  ·rw [ub B,Uy];exact(ub fun z=>B (Qn z)).symm
 ·have Y:(lf ws p).Pairwise fun r r'=>rk r<rk r':=List.Pairwise.filter _ hs;refine Y.imp_of_mem fun{r r'} h1 h2 h=> ?_;obtain⟨Z,O⟩:=yq.mp h1;obtain⟨a2,b2⟩:=yq.mp h2;obtain⟨c,M,R⟩:=nx r Z O;obtain⟨d,ab,e2⟩:=nx r' a2 b2;rw [R,e2];obtain⟨t,ht⟩:=QG.mpr ⟨O,R⟩;obtain⟨t',aa⟩:=QG.mpr ⟨b2,e2⟩;unfold rk at h;rw [<-ht,<-aa] at h;simp only [uB,uo,vJ,vW,List.singleton_append] at h;exact lt_pre h
 ·intro r I;obtain⟨Z,O⟩:=yq.mp I;obtain⟨c,M,R⟩:=nx r Z O;exact⟨c,M,by simp only [R,Option.getD_some]⟩
noncomputable def mu (ws:List Rn) (rp:List (List D)):Nat:=(rp.flatMap fun p=>(lf ws p).map fun r=>r.1.length+1-p.length).sum
end
theorem sum_lt {α:Type}{f g:α->Nat}:∀{L:List α},L≠ []->(∀x∈L,f x<g x)->(L.map f).sum<(L.map g).sum
 | [],h,_=>absurd rfl h
 | [x],_,h=>by simpa using h x ua
 |x::y::L,_,h=>by
  have:=sum_lt (f:=f) (g:=g) (L:=y::L) (by simp) fun z hz=>h z (u9 _ hz)
  have:=h x ua;simp only [uo,List.sum_cons] at*;omega
theorem Yr {α β:Type}{F:α->List β}:∀{l:List α},(∀p∈l,F p≠ [])->l.length<=(l.flatMap F).length
 | [],_=>Nat.le_refl _
 |x::l,h=>by
  have:=Yr (F:=F) (l:=l) fun p B=>h p (u9 _ B);have:=List.length_pos_iff.mpr (h x ua);rw [vU,ul,uy];omega
theorem mu_dec {ws:List Rn}{p:List D}{ks:List D}{I:List (List D)}(h:lf ws p=ks.flatMap fun c=>lf ws (p++ [c]))(B:lf ws p≠ [])(L:∀r∈ws,p<+:ans r->p.length<r.1.length):mu ws (ks.map (fun c=>p++ [c])++I)<mu ws (p::I):=by
 unfold mu;rw [List.flatMap_append,vU,List.sum_append_nat,List.sum_append_nat,List.flatMap_map];have e:(ks.flatMap fun c=>(lf ws (p++ [c])).map fun r=>r.1.length+1-(p++ [c]).length)=(lf ws p).map fun r=>r.1.length+1-(p.length+1):=by
  rw [h,List.map_flatMap];simp only [ul,v6]
 rw [e];have:=sum_lt (f:=fun r:Rn=>r.1.length+1-(p.length+1)) (g:=fun r:Rn=>r.1.length+1-p.length) B fun r M=>by
  obtain⟨a,b⟩:=yq.mp M;have:=L r a b;omega
 omega
theorem yB {x y:D}(hx:x∈ANS)(B:y∈ANS):ltK akL x y=decide (aR x<aR y):=by
 unfold ltK;rw [uk (ans_lt x hx y B)]
 rfl
theorem J3 {ks:List D}(h:∀c∈ks,c∈ANS):KeysOk false akL ks:=by
 refine⟨fun x hx=> ?_,fun _ x _=>ans_hd x,fun x hx y B=>⟨_,uk (ans_lt x (h x hx) y (h y B))⟩,⟨fun x hx=> ?_,fun x hx y B z hz=> ?_,fun x hx y B z hz=> ?_⟩⟩
 ·have:=ans_ak x (h x hx);rw [uh] at this;have h2:=uk this.2;exact⟨this.1,by omega⟩
 ·rw [yB (h x hx) (h x hx)];exact ub (by omega)
 ·rw [yB (h x hx) (h y B),yB (h y B) (h z hz),yB (h x hx) (h z hz)];simp only [uW];omega
 ·rw [yB (h x hx) (h y B),yB (h y B) (h z hz),yB (h x hx) (h z hz)];simp only [uW];omega
def sp_ways (w:World)(CA CN:Addr)(gd:D):Sp:=fun vs H Q _=>∃(t:Addr) (ws:List Rn) (S:Addr->Prop),vs= [.ref t]/\Qt w CA CN gd H t ws S/\(∀r∈ws,RunA r)/\Fits ws/\Srt ws/\ws.length<=100/\
 ∀(u:V) (H':Hp),Same H H'->Is H' (.tup (ws.map (wayD gd))) u->Q u H'
def WyS (H:Hp)(ws:List Rn)(gd:D)(n:List D->Addr)(t fl wl:Addr)(m:Nat)(σ:L2.St)(H':Hp):Prop:=
 ∃(rp:List (List D)) (dn:List Rn) (fvs:List V) (o1 o2:Option V),σ= [some (.ref t),some (.ref fl),some (.ref wl),o1,o2]/\Same H H'/\H' fl=some (.lst fvs)/\IsL H' (dn.map (wayD gd)) fvs/\H' wl=some (.lst ((rp.map fun p=>V.ref (n p)).reverse))/\(∀p∈rp,∃r∈ws,p<+:ans r)/\dn++rp.flatMap (lf ws)=ws/\m=mu ws rp/\fl≠wl
theorem split_mid {ws:List Rn}{p:List D}{ks:List D}{L:List (List D)}{R:List Rn}{r:Rn}(Z:Srt ws)(M:∀r∈ws,RunA r)(F:Fits ws)(O:r∈ws)(U:p<+:ans r)(hl:p.length<r.1.length)(B:R++(p::L).flatMap (lf ws)=ws)(hk:ks.Pairwise fun c d=>aR c<aR d)(hm:∀c,c∈ks↔∃r'∈ws,p++ [c]<+:ans r'):
  R++((ks.map fun c=>p++ [c])++L).flatMap (lf ws)=ws/\mu ws ((ks.map fun c=>p++ [c])++L)<mu ws (p::L):=by
 have I:∀r'∈ws,p<+:ans r'->p.length<r'.1.length:=fun r' h1 h2=>by
  have:=congrArg Yo (F r O r' h1 p U h2);rw [qV (M r O).ok,qV (M r' h1).ok,uc hl] at this;exact uk this.symm
 have e:=lf_cut (p:=p) Z M hk (fun c hc=>let⟨r',h1,h2⟩:=(hm c).mp hc;(M r' h1).kid h2) fun r' h1 h2=>by
  have h3:=I r' h1 h2;have h4:(ans r')[p.length]? =some (r'.1[p.length]).2:=by rw [Ys,u7 h3];rfl
  have Y:=QG.mpr ⟨h2,h4⟩;exact⟨_,(hm _).mpr ⟨r',h1,Y⟩,Y⟩
 refine⟨?_,mu_dec e (List.ne_nil_of_mem (yq.mpr ⟨O,U⟩)) I⟩;rw [List.flatMap_append,List.flatMap_map,<-e];rw [vU] at B;exact B
theorem split_end {ws:List Rn}{p:List D}{ks:List D}{L:List (List D)}{O:List Rn}{r:Rn}(Y:Srt ws)(Z:∀r∈ws,RunA r)(F:Fits ws)(hr:r∈ws)(R:p<+:ans r)(hl:r.1.length<=p.length)(I:O++(p::L).flatMap (lf ws)=ws)(hm:∀c∈ks,∃r'∈ws,p++ [c]<+:ans r'):
  ∀B:List D,B.Pairwise (fun c d=>aR c<aR d)->(∀c,c∈B↔c∈ks)->(O++ [r])++((B.map fun c=>p++ [c])++L).flatMap (lf ws)=ws/\mu ws ((B.map fun c=>p++ [c])++L)<mu ws (p::L):=fun B _ h2=>by
 have M:=lf_one Y Z F hr R hl;have e0:B= []:=by
  cases B with
  |nil=>rfl
  |cons c _=>
   obtain⟨r',h3,h4⟩:=hm c ((h2 c).mp ua);have U:r'∈lf ws p:=yq.mpr ⟨h3,Qn h4⟩;rw [M] at U;cases List.mem_singleton.mp U;have:=qU h4;rw [ul,v6] at this;omega
 subst e0;have aa:=qU R;refine⟨?_,?_⟩
 ·rw [vU,M,<-vW] at I;exact I
 ·unfold mu;rw [vJ,List.nil_append,vU,M,List.sum_append_nat];simp;omega
theorem lf_ne {ws:List Rn}{p:List D}(h:∃r∈ws,p<+:ans r):lf ws p≠ []:=by
 obtain⟨r,B,I⟩:=h;exact List.ne_nil_of_mem (yq.mpr ⟨B,I⟩)
section
variable {P:Program}{w:World}{K:PySem.W.Frag}{mg:Str->Option Value}{base:Heap}{a:Ad}{g:Ga}
theorem ok_ways (T:Tx K mg a)(gd:D):FnOk P w K mg base CX0 12 a.Q3 a.Q2 ["self"] (sp_ways w a.ql a.qu gd):=by
 have aA:=ok_akey (P:=P) (w:=w) (base:=base) T;refine T.g_AskTree_ways.F.ok Qc (by trivial) (fun _ _ _ _ H vs Q E hr h=> ?_)
 obtain⟨t,ws,S,rfl,⟨dt,bv,ht,bf,hT⟩,aG,hF,hS,aP,k⟩:=h;refine⟨_,(@qd _ _ _ _ _ (@qx _ _ (1) _ _ _ _ Qc.nd rfl (Or.inl rfl) (@Qb _ _ _ _ qc) (by trivial) (by trivial)) (@qd _ _ _ _ _ (@qx _ _ (2) _ _ _ _ Qc.nd rfl (Or.inl rfl) (@JK _ _ _ _ _ _ _ _ (@qq _ _ _ _ _ _ _ _ Y5 (@Qh _ _ _ _ _ (pv 0) rfl) Qg (qw _)) (@Qb _ _ _ _ qc) (@Qb _ _ _ _ (@qa _ _ _ _ _ (@Qh _ _ _ _ _ (pv 0) rfl) qc (by trivial)))) (by trivial) (by trivial)) (@qd _ _ _ _ _ (@ps_while _ _ _ _ _ _ uO (@pt_truth _ _ _ (pv 2) (fun _=>rfl)) (@qd _ _ _ _ _ (@qx _ _ (3) _ _ _ _ Qc.nd rfl (Or.inl rfl) (@pe_bm0 _ _ _ _ _ _ _ _ _ uH PySem.F.slot_list_pop PySem.F.type_list_pop mt_pop (pv 2) (by trivial) (by trivial)) (by trivial) (by trivial)) (@qd _ _ _ _ _ (@qM _ _ _ _ _ _ _ _ (@qq _ _ _ _ _ _ _ _ op_notN (@Qh _ _ _ _ _ (pv 3) rfl) Qg (qw _)) (@qg _ _ _ (@QD _ _ _ _ (@pe_bm _ _ _ _ _ _ _ _ _ _ _ _ uH uZ v5 QB (pv 1) (@qa _ _ _ _ _ (@qk _ _ _ _ _ (@qa _ _ _ _ _ (@Qh _ _ _ _ _ (pv 3) rfl) (@qa _ _ _ _ _ (@Qh _ _ _ _ _ (pv 3) rfl) qc (by trivial)) (by trivial))) qc (by trivial)) (by trivial) (by trivial) (by trivial) (by trivial) (by trivial)) (by trivial))) qs) (@qg _ _ _ (@Q4 _ _ _ _ _ _ _ _ uO rfl (@Y1 _ _ _ _ (@xc _ _ _ _ _ _ _ (true) _ _ _ _ _ _ _ _ _ _ _ rfl rfl rfl aA (hr.mono (by trivial)) T.g_answer_key.b (by rfl) T.Yq (by rfl) T.g_answer_key.m (@Qh _ _ _ _ _ (pv 3) rfl) (by trivial) (by trivial))) (@qF _ _ (4) _ Qc.nd rfl (Or.inl rfl) (by trivial)) (@qg _ _ _ (@QD _ _ _ _ (@pe_bm _ _ _ _ _ _ _ _ _ _ _ _ uH uZ v5 QB (pv 2) (@qa _ _ _ _ _ (@J7 _ _ _ _ _ _ (w) rfl hr.units (@Qh _ _ _ _ _ (pv 3) rfl) (pv 4) (fun _ _=>rfl)) qc (by trivial)) (by trivial) (by trivial) (by trivial) (by trivial) (by trivial)) (by trivial))) (by trivial)))))) (@qg _ _ _ (@qr _ _ _ _ (@qN _ _ _ _ _ _ _ _ _ qH (by rfl) T.Qj vq (@qa _ _ _ _ _ (pv 1) qc (by trivial)) (by trivial) (by trivial) (by trivial) (by trivial))))))),?_⟩
 have a5:∀u:V,([(("beginning":Str),u)]:List (Str×V)).lookup ("beginning":Str)=some u:=fun u=>by simp [List.lookup]
 have a6:(2:Nat)<=sizeLine:=by decide
 refine⟨(by show 0<=sizeLine;decide),fun R aY=> ?_⟩
 have s1:=qb aY (.lst []);have e1:(upd H R (.lst [])) R=some (.lst []):=qe;generalize upd H R (.lst [])=H1 at s1 e1⊢;obtain⟨n,e,hT⟩:∃n e:List D->Addr,(ws= []/\bv= .non)∨(ws≠ []/\bv= .ref (n [])/\Ye w a.qu gd H ws S n e):=by
  rcases hT with⟨h1,h2⟩|⟨h1,n,e,h2,h3⟩
  ·exact⟨fun _=>0,fun _=>0,.inl ⟨h1,h2⟩⟩
  ·exact⟨n,e,.inr ⟨h1,h2,h3⟩⟩
 have N:Ye w a.qu gd H ws S n e:=by
  rcases hT with⟨h1,h2⟩|⟨h1,h2,h3⟩
  ·rw [h1];exact nodes_nil _ _ _ _ _ _ _
  ·exact h3
 refine⟨_,rfl,t,_,dt,_,bv,rfl,s1 _ _ ht,T.qJ,T.qE,a5 bv,rfl,_,rfl,?_⟩;have mk:∃rp:List (List D),(∀p∈rp,∃r∈ws,p<+:ans r)/\rp.flatMap (lf ws)=ws/\((bv= .non/\rp= [])∨(bv= .ref (n [])/\rp= [[]])):=by
  rcases hT with⟨h1,h2⟩|⟨h1,h2,h3⟩
  ·exact⟨[],by simp,by rw [h1];rfl,.inl ⟨h2,rfl⟩⟩
  ·obtain⟨r0,a7⟩:=vQ _ h1;refine⟨[[]],fun p hp=> ?_,by simp [lf_nil],.inr ⟨h2,rfl⟩⟩
   cases List.mem_singleton.mp hp;exact⟨r0,a7,vV⟩
 obtain⟨aQ,a8,a9,ba⟩:=mk;have yR:∀(Z:Addr->Hp->Prop),(∀(I:Addr) (H2:Hp),Same H H2->H2 R=some (.lst [])->H2 I=some (.lst ((aQ.map fun p=>V.ref (n p)).reverse))->R≠I->H I=none->Z I H2)->∀(vs:List V),vs=(aQ.map fun p=>V.ref (n p)).reverse->∀I,H1 I=none->Z I (upd H1 I (.lst vs)):=fun Z z vs ev I aP=>by
  subst ev;refine z I _ (s1.trans (qb aP _)) ((qb aP _) _ _ e1) qe (qf e1 aP) (Qi s1 aP)
 have aB:∀(I:Addr) (H2:Hp),Same H H2->H2 R=some (.lst [])->H2 I=some (.lst ((aQ.map fun p=>V.ref (n p)).reverse))->R≠I->H I=none->WyS H ws gd n t R I (mu ws aQ) [some (.ref t),some (.ref R),some (.ref I),none,none] H2:=fun I H2 h1 h2 h3 h6 _=>⟨aQ,[],[],none,none,rfl,h1,h2,rfl,h3,a8,a9,rfl,h6⟩;rcases ba with⟨hb,rfl⟩|⟨hb,rfl⟩
 ·rw [hb];refine qR (by decide+kernel) ?_
  refine⟨(by show 0<=sizeLine;decide),yR _ (fun I H2 g1 g2 g3 g4 g5=> ?_) _ rfl⟩
  have W0:=aB I H2 g1 g2 g3 g4 g5;clear yR aB g1 g2 g3 g4;refine⟨WyS H ws gd n t R I,⟨_,W0⟩,?_⟩;rintro m σ H' ⟨rp,dn,B,o1,o2,rfl,S1,ef,aS,ew,aj,Y,rfl,ai⟩;refine⟨_,rfl,_,.inl ⟨_,SqL.of ew,rfl⟩,?_⟩;cases rp with
  |nil=>
   refine iteF ?_;refine⟨_,rfl,R,B,rfl,.inl ⟨SqL.of ef,fun l hl=>k _ _ (S1.trans (qb hl _)) ?_⟩⟩;rw [List.flatMap_nil,uU] at Y;rw [<-Y];exact Is.new aS hl
  |cons p rp=>
   refine qR (by simp) ⟨fun σ' aZ=>∃m',m'<mu ws (p::rp)/\WyS H ws gd n t R I m' σ' aZ,fun _ _ h=>h,?_⟩
   rw [uo,Uv] at ew;generalize aC:(rp.map fun p=>V.ref (n p)).reverse=us at ew;refine⟨_,rfl,.inl ⟨rfl,_,SqL.of ew⟩,I,_,.ref (n p),rfl,rfl,ew,last_at _ _,?_⟩;rw [jy];obtain⟨r,hr,hp⟩:=aj p ua;obtain⟨dx,fs,tv,wv,aD,ab,nf,bb,a0,a1⟩:=N.nd r hr p hp;obtain⟨kvs,g0,mem,aT⟩:=N.kd r hr p hp;have t2:Tk H' (upd H' I (.lst us)):=Tk.updL ew;have S2:Same H (upd H' I (.lst us)):=fun b o h=>by rw [qi (qf h g5)];exact S1 b o h
   have aH:(upd H' I (.lst us)) I=some (.lst us):=qe;have aE:(upd H' I (.lst us)) R=some (.lst B):=by rw [qi ai];exact ef
   have aF:=aS.mono t2;generalize upd H' I (.lst us)=aI at t2 S2 aH aE aF⊢;have bc:dn.length<=100:=by
    have:=congrArg List.length Y;rw [ul] at this;omega
   have bd:B.length=dn.length:=by rw [aF.length,ue]
   refine⟨_,rfl,_,_,dx,fs,wv,rfl,S2 _ _ ab,T.qL,T.QH,nf.way,rfl,_,rfl,?_⟩;by_cases ak:r.1.length<=p.length
   ·obtain⟨aU,a2⟩:=a1 (rnD r) (by unfold wyr;rw [if_pos ak])
    refine qR (by rw [ub (YV aU (by simp [rnD]))];rfl) ?_
    refine⟨_,rfl,.inl ⟨rfl,_,SqL.of aE⟩,_,rfl,_,_,dx,fs,wv,rfl,S2 _ _ ab,T.qL,T.QH,nf.way,_,rfl,_,_,dx,fs,aD,rfl,S2 _ _ ab,T.qL,T.Qe,nf.givers,a6,fun l hl=> ?_⟩;have s3:=qb hl (.tup [wv,aD]);have i3:Is (upd aI l (.tup [wv,aD])) (wayD gd r) (.ref l):=Is.new (ds:= [rnD r,gd]) ⟨_,_,rfl,aU.mono S2.tk,_,_,rfl,a2.mono S2.tk,rfl⟩ hl;have aJ:=s3 _ _ aE;have aV:=s3 _ _ aH;have S3:=S2.trans s3;have aW:=aF.mono s3.tk;generalize upd aI l (.tup [wv,aD])=H3 at s3 i3 aJ aV S3 aW⊢;refine⟨R,B,_,rfl,rfl,aJ,qX (by omega),?_⟩
    have t4:Tk H3 (upd H3 R (.lst (B++ [.ref l]))):=Tk.updL aJ;have aX:H R=none:=aY;have S4:Same H (upd H3 R (.lst (B++ [.ref l]))):=fun b o h=>by rw [qi (qf h aX)];exact S3 b o h
    have ac:(upd H3 R (.lst (B++ [.ref l]))) R=some (.lst (B++ [.ref l])):=qe;have ad:(upd H3 R (.lst (B++ [.ref l]))) I=some (.lst us):=by rw [qi ai.symm];exact aV
    have U:IsL (upd H3 R (.lst (B++ [.ref l]))) ((dn++ [r]).map (wayD gd)) (B++ [.ref l]):=by
     rw [uB];exact(aW.mono t4).append (IsL.one (i3.mono t4))
    generalize upd H3 R (.lst (B++ [.ref l]))=H4 at t4 S4 ac ad U⊢;have al:=split_end (ks:=kvs.map (·.1)) hS aG hF hr hp ak Y (fun c hc=>(mem c).mp hc);generalize dn++ [r]=am at U al;generalize B++ [V.ref l]=L at ac U;have M:∀c∈kvs.map (·.1),c∈ANS:=fun c hc=>let⟨r2,h1,h2⟩:=(mem c).mp hc;(aG r2 h1).kid h2;have a3:=YD g0.nd M;refine⟨_,rfl,_,_,dx,fs,_,rfl,S4 _ _ ab,T.qL,T.qy,nf.edges,?_⟩;refine⟨e p,kvs,false,akL,rfl,g0.same S4,by omega,J3 M,fun x hx H5 s5 Q' q'=> ?_,fun H5 ys q s5 hq aa ao=> ?_⟩
    ·exact⟨x.2.1,x.1,rfl,M _ (List.mem_map.mpr ⟨x,hx,rfl⟩),((g0.same S4).ks x hx).1.mono s5.tk,fun u H6 s6 i6=>q' u H6 s6 i6⟩
    rw [if_pos rfl] at ao;have pm:(ys.map (·.1)).Perm (kvs.map (·.1)):=by
     have:=aa.map (·.1);rw [v7] at this;exact this
    have aK:(ys.map (·.1)).Nodup:=pm.nodup_iff.mpr g0.nd;have pw:(ys.map (·.1)).reverse.Pairwise fun c d=>aR c<aR d:=by
     rw [vM];have h1:(ys.map (·.1)).Pairwise fun a b=>ltK akL a b=false:=List.pairwise_map.mpr ao;refine(h1.and aK).imp_of_mem fun{x y} hx hy h=> ?_;have ax:=M x (pm.mem_iff.mp hx);have ay:=M y (pm.mem_iff.mp hy);have h2:=h.1;rw [yB ax ay] at h2;have h3:=vk h2;have h4:aR x≠aR y:=fun z=>h.2 (Yh ax ay z);omega
    obtain⟨ap,aL⟩:=al (ys.map (·.1)).reverse pw fun c=>by rw [UB];exact pm.mem_iff
    have aq:∀p'∈((ys.map (·.1)).reverse.map fun c=>p++ [c])++rp,∃r∈ws,p'<+:ans r:=fun p' ae=>by
     rcases List.mem_append.mp ae with h|h
     ·obtain⟨c,h1,rfl⟩:=List.mem_map.mp h;exact(mem c).mp (pm.mem_iff.mp (List.mem_reverse.mp h1))
     ·exact aj p' (u9 _ h)
    have a4:us.length+ys.length<=100:=by
     have h1:=Yr (F:=lf ws) fun p' ae=>lf_ne (aq p' ae);have h2:=congrArg List.length ap;rw [<-aC];simp only [ul,ue,Ui] at h1 h2⊢;omega
    have s6:=qb hq (.lst (ys.map (·.2)));have af:(upd H5 q (.lst (ys.map (·.2)))) q=some (.lst (ys.map (·.2))):=qe;have S6:=S4.trans (s5.trans s6);have au:=s6 _ _ (s5 _ _ ac);have av:=s6 _ _ (s5 _ _ ad);have aw:=(U.mono s5.tk).mono s6.tk;have aM:q≠I:=(qf (s5 _ _ ad) hq).symm;generalize upd H5 q (.lst (ys.map (·.2)))=H6 at s6 af S6 au av aw⊢;refine⟨q,rfl,⟨_,SqL.of af⟩,?_⟩
    let J2_:Nat->L2.St->Hp->Prop:=fun j σ H'=>∃o2:Option V,σ= [some (.ref t),some (.ref R),some (.ref I),some (.ref (n p)),o2]/\Same H H'/\H' q=some (.lst (ys.map (·.2)))/\H' R=some (.lst L)/\IsL H' (am.map (wayD gd)) L/\H' I=some (.lst (us++(ys.take j).map fun y=>V.ref (n (p++ [y.1]))))
    refine yg (K:=K) (a:=q) (xs:=ys.map (·.2)) J2_ ⟨_,rfl,S6,af,au,aw,by rw [Uc,vJ,uU];exact av⟩ (fun j σ H' _ ⟨_,_,_,h,_⟩=>SqL.of h) ?_ ?_
    ·rintro j x σ H7 hx ⟨o2,rfl,S7,az,ag,ah,O⟩;have aN:j<ys.length:=by have:=(List.getElem?_eq_some_iff.mp hx).1;rw [ue] at this;exact this
     obtain⟨y,hy⟩:∃y,ys[j]? =some y:=⟨_,u7 aN⟩;rw [um,hy] at hx;cases hx;obtain⟨z,hz,ez⟩:=List.mem_map.mp (aa.mem_iff.mp (ui hy));have ky:KOk H7 y.1 y.2:=by rw [<-ez];exact(g0.same S7).ks z hz
     have aO:y.1∈kvs.map (·.1):=by rw [<-ez];exact List.mem_map.mpr ⟨z,hz,rfl⟩
     obtain⟨x,hx,ex,ev⟩:=yA g0 ky.2.1 aO;refine⟨_,rfl,.inl ⟨rfl,_,SqL.of O⟩,_,rfl,_,_,dx,fs,_,rfl,S7 _ _ ab,T.qL,T.qy,nf.edges,_,rfl,e p,kvs,y.1,_,rfl,g0.same S7,ky,ev,?_⟩;refine⟨I,_,_,rfl,rfl,O,qX (by simp;omega),?_⟩
     refine⟨some y.2,rfl,fun b o h=> ?_,?_,?_,ah.mono (Tk.updL O),?_⟩
     ·rw [qi (qf h g5)];exact S7 b o h
     ·rw [qi aM];exact az
     ·rw [qi ai];exact ag
     ·rw [qe,aT x hx,ex,uE,hy,vW];simp
    ·rintro σ H7 ⟨o2,rfl,S7,az,ag,ah,O⟩;refine⟨_,aL,_,am,L,_,_,rfl,S7,ag,ah,?_,aq,ap,rfl,ai⟩;rw [O,ue,ut (Nat.le_refl _),<-aC];simp
   ·refine qC ?_ ?_
    ·rw [a0 (by unfold wyr;rw [if_neg ak])]
     decide+kernel
    have al:∀ks:List D,ks.Pairwise (fun c d=>aR c<aR d)->(∀c,c∈ks↔c∈kvs.map (·.1))->dn++((ks.map fun c=>p++ [c])++rp).flatMap (lf ws)=ws/\mu ws ((ks.map fun c=>p++ [c])++rp)<mu ws (p::rp):=fun ks h1 h2=>split_mid hS aG hF hr hp (by omega) Y h1 (fun c=>(h2 c).trans (mem c))
    have S4:=S2;have ac:=aE;have ad:=aH;have U:=aF;generalize be:aI=H4 at S4 ac ad U⊢;generalize dn=am at U al;generalize B=L at ac U;have M:∀c∈kvs.map (·.1),c∈ANS:=fun c hc=>let⟨r2,h1,h2⟩:=(mem c).mp hc;(aG r2 h1).kid h2;have a3:=YD g0.nd M;refine⟨_,rfl,_,_,dx,fs,_,rfl,S4 _ _ ab,T.qL,T.qy,nf.edges,?_⟩;refine⟨e p,kvs,false,akL,rfl,g0.same S4,by omega,J3 M,fun x hx H5 s5 Q' q'=> ?_,fun H5 ys q s5 hq aa ao=> ?_⟩
    ·exact⟨x.2.1,x.1,rfl,M _ (List.mem_map.mpr ⟨x,hx,rfl⟩),((g0.same S4).ks x hx).1.mono s5.tk,fun u H6 s6 i6=>q' u H6 s6 i6⟩
    rw [if_pos rfl] at ao;have pm:(ys.map (·.1)).Perm (kvs.map (·.1)):=by
     have:=aa.map (·.1);rw [v7] at this;exact this
    have aK:(ys.map (·.1)).Nodup:=pm.nodup_iff.mpr g0.nd;have pw:(ys.map (·.1)).reverse.Pairwise fun c d=>aR c<aR d:=by
     rw [vM];have h1:(ys.map (·.1)).Pairwise fun a b=>ltK akL a b=false:=List.pairwise_map.mpr ao;refine(h1.and aK).imp_of_mem fun{x y} hx hy h=> ?_;have ax:=M x (pm.mem_iff.mp hx);have ay:=M y (pm.mem_iff.mp hy);have h2:=h.1;rw [yB ax ay] at h2;have h3:=vk h2;have h4:aR x≠aR y:=fun z=>h.2 (Yh ax ay z);omega
    obtain⟨ap,aL⟩:=al (ys.map (·.1)).reverse pw fun c=>by rw [UB];exact pm.mem_iff
    have aq:∀p'∈((ys.map (·.1)).reverse.map fun c=>p++ [c])++rp,∃r∈ws,p'<+:ans r:=fun p' ae=>by
     rcases List.mem_append.mp ae with h|h
     ·obtain⟨c,h1,rfl⟩:=List.mem_map.mp h;exact(mem c).mp (pm.mem_iff.mp (List.mem_reverse.mp h1))
     ·exact aj p' (u9 _ h)
    have a4:us.length+ys.length<=100:=by
     have h1:=Yr (F:=lf ws) fun p' ae=>lf_ne (aq p' ae);have h2:=congrArg List.length ap;rw [<-aC];simp only [ul,ue,Ui] at h1 h2⊢;omega
    have s6:=qb hq (.lst (ys.map (·.2)));have af:(upd H5 q (.lst (ys.map (·.2)))) q=some (.lst (ys.map (·.2))):=qe;have S6:=S4.trans (s5.trans s6);have au:=s6 _ _ (s5 _ _ ac);have av:=s6 _ _ (s5 _ _ ad);have aw:=(U.mono s5.tk).mono s6.tk;have aM:q≠I:=(qf (s5 _ _ ad) hq).symm;generalize upd H5 q (.lst (ys.map (·.2)))=H6 at s6 af S6 au av aw⊢;refine⟨q,rfl,⟨_,SqL.of af⟩,?_⟩
    let J2_:Nat->L2.St->Hp->Prop:=fun j σ H'=>∃o2:Option V,σ= [some (.ref t),some (.ref R),some (.ref I),some (.ref (n p)),o2]/\Same H H'/\H' q=some (.lst (ys.map (·.2)))/\H' R=some (.lst L)/\IsL H' (am.map (wayD gd)) L/\H' I=some (.lst (us++(ys.take j).map fun y=>V.ref (n (p++ [y.1]))))
    refine yg (K:=K) (a:=q) (xs:=ys.map (·.2)) J2_ ⟨_,rfl,S6,af,au,aw,by rw [Uc,vJ,uU];exact av⟩ (fun j σ H' _ ⟨_,_,_,h,_⟩=>SqL.of h) ?_ ?_
    ·rintro j x σ H7 hx ⟨o2,rfl,S7,az,ag,ah,O⟩;have aN:j<ys.length:=by have:=(List.getElem?_eq_some_iff.mp hx).1;rw [ue] at this;exact this
     obtain⟨y,hy⟩:∃y,ys[j]? =some y:=⟨_,u7 aN⟩;rw [um,hy] at hx;cases hx;obtain⟨z,hz,ez⟩:=List.mem_map.mp (aa.mem_iff.mp (ui hy));have ky:KOk H7 y.1 y.2:=by rw [<-ez];exact(g0.same S7).ks z hz
     have aO:y.1∈kvs.map (·.1):=by rw [<-ez];exact List.mem_map.mpr ⟨z,hz,rfl⟩
     obtain⟨x,hx,ex,ev⟩:=yA g0 ky.2.1 aO;refine⟨_,rfl,.inl ⟨rfl,_,SqL.of O⟩,_,rfl,_,_,dx,fs,_,rfl,S7 _ _ ab,T.qL,T.qy,nf.edges,_,rfl,e p,kvs,y.1,_,rfl,g0.same S7,ky,ev,?_⟩;refine⟨I,_,_,rfl,rfl,O,qX (by simp;omega),?_⟩
     refine⟨some y.2,rfl,fun b o h=> ?_,?_,?_,ah.mono (Tk.updL O),?_⟩
     ·rw [qi (qf h g5)];exact S7 b o h
     ·rw [qi aM];exact az
     ·rw [qi ai];exact ag
     ·rw [qe,aT x hx,ex,uE,hy,vW];simp
    ·rintro σ H7 ⟨o2,rfl,S7,az,ag,ah,O⟩;refine⟨_,aL,_,am,L,_,_,rfl,S7,ag,ah,?_,aq,ap,rfl,ai⟩;rw [O,ue,ut (Nat.le_refl _),<-aC];simp
 ·rw [hb];refine qC (ub (by simp)) ?_
  refine⟨_,rfl,t,_,dt,_,_,rfl,s1 _ _ ht,T.qJ,T.qE,by rw [hb];exact a5 _,(by show 1<=sizeLine;decide),yR _ (fun I H2 g1 g2 g3 g4 g5=> ?_) _ rfl⟩
  have W0:=aB I H2 g1 g2 g3 g4 g5;clear yR aB g1 g2 g3 g4;refine⟨WyS H ws gd n t R I,⟨_,W0⟩,?_⟩;rintro m σ H' ⟨rp,dn,B,o1,o2,rfl,S1,ef,aS,ew,aj,Y,rfl,ai⟩;refine⟨_,rfl,_,.inl ⟨_,SqL.of ew,rfl⟩,?_⟩;cases rp with
  |nil=>
   refine iteF ?_;refine⟨_,rfl,R,B,rfl,.inl ⟨SqL.of ef,fun l hl=>k _ _ (S1.trans (qb hl _)) ?_⟩⟩;rw [List.flatMap_nil,uU] at Y;rw [<-Y];exact Is.new aS hl
  |cons p rp=>
   refine qR (by simp) ⟨fun σ' aZ=>∃m',m'<mu ws (p::rp)/\WyS H ws gd n t R I m' σ' aZ,fun _ _ h=>h,?_⟩
   rw [uo,Uv] at ew;generalize aC:(rp.map fun p=>V.ref (n p)).reverse=us at ew;refine⟨_,rfl,.inl ⟨rfl,_,SqL.of ew⟩,I,_,.ref (n p),rfl,rfl,ew,last_at _ _,?_⟩;rw [jy];obtain⟨r,hr,hp⟩:=aj p ua;obtain⟨dx,fs,tv,wv,aD,ab,nf,bb,a0,a1⟩:=N.nd r hr p hp;obtain⟨kvs,g0,mem,aT⟩:=N.kd r hr p hp;have t2:Tk H' (upd H' I (.lst us)):=Tk.updL ew;have S2:Same H (upd H' I (.lst us)):=fun b o h=>by rw [qi (qf h g5)];exact S1 b o h
   have aH:(upd H' I (.lst us)) I=some (.lst us):=qe;have aE:(upd H' I (.lst us)) R=some (.lst B):=by rw [qi ai];exact ef
   have aF:=aS.mono t2;generalize upd H' I (.lst us)=aI at t2 S2 aH aE aF⊢;have bc:dn.length<=100:=by
    have:=congrArg List.length Y;rw [ul] at this;omega
   have bd:B.length=dn.length:=by rw [aF.length,ue]
   refine⟨_,rfl,_,_,dx,fs,wv,rfl,S2 _ _ ab,T.qL,T.QH,nf.way,rfl,_,rfl,?_⟩;by_cases ak:r.1.length<=p.length
   ·obtain⟨aU,a2⟩:=a1 (rnD r) (by unfold wyr;rw [if_pos ak])
    refine qR (by rw [ub (YV aU (by simp [rnD]))];rfl) ?_
    refine⟨_,rfl,.inl ⟨rfl,_,SqL.of aE⟩,_,rfl,_,_,dx,fs,wv,rfl,S2 _ _ ab,T.qL,T.QH,nf.way,_,rfl,_,_,dx,fs,aD,rfl,S2 _ _ ab,T.qL,T.Qe,nf.givers,a6,fun l hl=> ?_⟩;have s3:=qb hl (.tup [wv,aD]);have i3:Is (upd aI l (.tup [wv,aD])) (wayD gd r) (.ref l):=Is.new (ds:= [rnD r,gd]) ⟨_,_,rfl,aU.mono S2.tk,_,_,rfl,a2.mono S2.tk,rfl⟩ hl;have aJ:=s3 _ _ aE;have aV:=s3 _ _ aH;have S3:=S2.trans s3;have aW:=aF.mono s3.tk;generalize upd aI l (.tup [wv,aD])=H3 at s3 i3 aJ aV S3 aW⊢;refine⟨R,B,_,rfl,rfl,aJ,qX (by omega),?_⟩
    have t4:Tk H3 (upd H3 R (.lst (B++ [.ref l]))):=Tk.updL aJ;have aX:H R=none:=aY;have S4:Same H (upd H3 R (.lst (B++ [.ref l]))):=fun b o h=>by rw [qi (qf h aX)];exact S3 b o h
    have ac:(upd H3 R (.lst (B++ [.ref l]))) R=some (.lst (B++ [.ref l])):=qe;have ad:(upd H3 R (.lst (B++ [.ref l]))) I=some (.lst us):=by rw [qi ai.symm];exact aV
    have U:IsL (upd H3 R (.lst (B++ [.ref l]))) ((dn++ [r]).map (wayD gd)) (B++ [.ref l]):=by
     rw [uB];exact(aW.mono t4).append (IsL.one (i3.mono t4))
    generalize upd H3 R (.lst (B++ [.ref l]))=H4 at t4 S4 ac ad U⊢;have al:=split_end (ks:=kvs.map (·.1)) hS aG hF hr hp ak Y (fun c hc=>(mem c).mp hc);generalize dn++ [r]=am at U al;generalize B++ [V.ref l]=L at ac U;have M:∀c∈kvs.map (·.1),c∈ANS:=fun c hc=>let⟨r2,h1,h2⟩:=(mem c).mp hc;(aG r2 h1).kid h2;have a3:=YD g0.nd M;refine⟨_,rfl,_,_,dx,fs,_,rfl,S4 _ _ ab,T.qL,T.qy,nf.edges,?_⟩;refine⟨e p,kvs,false,akL,rfl,g0.same S4,by omega,J3 M,fun x hx H5 s5 Q' q'=> ?_,fun H5 ys q s5 hq aa ao=> ?_⟩
    ·exact⟨x.2.1,x.1,rfl,M _ (List.mem_map.mpr ⟨x,hx,rfl⟩),((g0.same S4).ks x hx).1.mono s5.tk,fun u H6 s6 i6=>q' u H6 s6 i6⟩
    rw [if_pos rfl] at ao;have pm:(ys.map (·.1)).Perm (kvs.map (·.1)):=by
     have:=aa.map (·.1);rw [v7] at this;exact this
    have aK:(ys.map (·.1)).Nodup:=pm.nodup_iff.mpr g0.nd;have pw:(ys.map (·.1)).reverse.Pairwise fun c d=>aR c<aR d:=by
     rw [vM];have h1:(ys.map (·.1)).Pairwise fun a b=>ltK akL a b=false:=List.pairwise_map.mpr ao;refine(h1.and aK).imp_of_mem fun{x y} hx hy h=> ?_;have ax:=M x (pm.mem_iff.mp hx);have ay:=M y (pm.mem_iff.mp hy);have h2:=h.1;rw [yB ax ay] at h2;have h3:=vk h2;have h4:aR x≠aR y:=fun z=>h.2 (Yh ax ay z);omega
    obtain⟨ap,aL⟩:=al (ys.map (·.1)).reverse pw fun c=>by rw [UB];exact pm.mem_iff
    have aq:∀p'∈((ys.map (·.1)).reverse.map fun c=>p++ [c])++rp,∃r∈ws,p'<+:ans r:=fun p' ae=>by
     rcases List.mem_append.mp ae with h|h
     ·obtain⟨c,h1,rfl⟩:=List.mem_map.mp h;exact(mem c).mp (pm.mem_iff.mp (List.mem_reverse.mp h1))
     ·exact aj p' (u9 _ h)
    have a4:us.length+ys.length<=100:=by
     have h1:=Yr (F:=lf ws) fun p' ae=>lf_ne (aq p' ae);have h2:=congrArg List.length ap;rw [<-aC];simp only [ul,ue,Ui] at h1 h2⊢;omega
    have s6:=qb hq (.lst (ys.map (·.2)));have af:(upd H5 q (.lst (ys.map (·.2)))) q=some (.lst (ys.map (·.2))):=qe;have S6:=S4.trans (s5.trans s6);have au:=s6 _ _ (s5 _ _ ac);have av:=s6 _ _ (s5 _ _ ad);have aw:=(U.mono s5.tk).mono s6.tk;have aM:q≠I:=(qf (s5 _ _ ad) hq).symm;generalize upd H5 q (.lst (ys.map (·.2)))=H6 at s6 af S6 au av aw⊢;refine⟨q,rfl,⟨_,SqL.of af⟩,?_⟩
    let J2_:Nat->L2.St->Hp->Prop:=fun j σ H'=>∃o2:Option V,σ= [some (.ref t),some (.ref R),some (.ref I),some (.ref (n p)),o2]/\Same H H'/\H' q=some (.lst (ys.map (·.2)))/\H' R=some (.lst L)/\IsL H' (am.map (wayD gd)) L/\H' I=some (.lst (us++(ys.take j).map fun y=>V.ref (n (p++ [y.1]))))
    refine yg (K:=K) (a:=q) (xs:=ys.map (·.2)) J2_ ⟨_,rfl,S6,af,au,aw,by rw [Uc,vJ,uU];exact av⟩ (fun j σ H' _ ⟨_,_,_,h,_⟩=>SqL.of h) ?_ ?_
    ·rintro j x σ H7 hx ⟨o2,rfl,S7,az,ag,ah,O⟩;have aN:j<ys.length:=by have:=(List.getElem?_eq_some_iff.mp hx).1;rw [ue] at this;exact this
     obtain⟨y,hy⟩:∃y,ys[j]? =some y:=⟨_,u7 aN⟩;rw [um,hy] at hx;cases hx;obtain⟨z,hz,ez⟩:=List.mem_map.mp (aa.mem_iff.mp (ui hy));have ky:KOk H7 y.1 y.2:=by rw [<-ez];exact(g0.same S7).ks z hz
     have aO:y.1∈kvs.map (·.1):=by rw [<-ez];exact List.mem_map.mpr ⟨z,hz,rfl⟩
     obtain⟨x,hx,ex,ev⟩:=yA g0 ky.2.1 aO;refine⟨_,rfl,.inl ⟨rfl,_,SqL.of O⟩,_,rfl,_,_,dx,fs,_,rfl,S7 _ _ ab,T.qL,T.qy,nf.edges,_,rfl,e p,kvs,y.1,_,rfl,g0.same S7,ky,ev,?_⟩;refine⟨I,_,_,rfl,rfl,O,qX (by simp;omega),?_⟩
     refine⟨some y.2,rfl,fun b o h=> ?_,?_,?_,ah.mono (Tk.updL O),?_⟩
     ·rw [qi (qf h g5)];exact S7 b o h
     ·rw [qi aM];exact az
     ·rw [qi ai];exact ag
     ·rw [qe,aT x hx,ex,uE,hy,vW];simp
    ·rintro σ H7 ⟨o2,rfl,S7,az,ag,ah,O⟩;refine⟨_,aL,_,am,L,_,_,rfl,S7,ag,ah,?_,aq,ap,rfl,ai⟩;rw [O,ue,ut (Nat.le_refl _),<-aC];simp
   ·refine qC ?_ ?_
    ·rw [a0 (by unfold wyr;rw [if_neg ak])]
     decide+kernel
    have al:∀ks:List D,ks.Pairwise (fun c d=>aR c<aR d)->(∀c,c∈ks↔c∈kvs.map (·.1))->dn++((ks.map fun c=>p++ [c])++rp).flatMap (lf ws)=ws/\mu ws ((ks.map fun c=>p++ [c])++rp)<mu ws (p::rp):=fun ks h1 h2=>split_mid hS aG hF hr hp (by omega) Y h1 (fun c=>(h2 c).trans (mem c))
    have S4:=S2;have ac:=aE;have ad:=aH;have U:=aF;generalize be:aI=H4 at S4 ac ad U⊢;generalize dn=am at U al;generalize B=L at ac U;have M:∀c∈kvs.map (·.1),c∈ANS:=fun c hc=>let⟨r2,h1,h2⟩:=(mem c).mp hc;(aG r2 h1).kid h2;have a3:=YD g0.nd M;refine⟨_,rfl,_,_,dx,fs,_,rfl,S4 _ _ ab,T.qL,T.qy,nf.edges,?_⟩;refine⟨e p,kvs,false,akL,rfl,g0.same S4,by omega,J3 M,fun x hx H5 s5 Q' q'=> ?_,fun H5 ys q s5 hq aa ao=> ?_⟩
    ·exact⟨x.2.1,x.1,rfl,M _ (List.mem_map.mpr ⟨x,hx,rfl⟩),((g0.same S4).ks x hx).1.mono s5.tk,fun u H6 s6 i6=>q' u H6 s6 i6⟩
    rw [if_pos rfl] at ao;have pm:(ys.map (·.1)).Perm (kvs.map (·.1)):=by
     have:=aa.map (·.1);rw [v7] at this;exact this
    have aK:(ys.map (·.1)).Nodup:=pm.nodup_iff.mpr g0.nd;have pw:(ys.map (·.1)).reverse.Pairwise fun c d=>aR c<aR d:=by
     rw [vM];have h1:(ys.map (·.1)).Pairwise fun a b=>ltK akL a b=false:=List.pairwise_map.mpr ao;refine(h1.and aK).imp_of_mem fun{x y} hx hy h=> ?_;have ax:=M x (pm.mem_iff.mp hx);have ay:=M y (pm.mem_iff.mp hy);have h2:=h.1;rw [yB ax ay] at h2;have h3:=vk h2;have h4:aR x≠aR y:=fun z=>h.2 (Yh ax ay z);omega
    obtain⟨ap,aL⟩:=al (ys.map (·.1)).reverse pw fun c=>by rw [UB];exact pm.mem_iff
    have aq:∀p'∈((ys.map (·.1)).reverse.map fun c=>p++ [c])++rp,∃r∈ws,p'<+:ans r:=fun p' ae=>by
     rcases List.mem_append.mp ae with h|h
     ·obtain⟨c,h1,rfl⟩:=List.mem_map.mp h;exact(mem c).mp (pm.mem_iff.mp (List.mem_reverse.mp h1))
     ·exact aj p' (u9 _ h)
    have a4:us.length+ys.length<=100:=by
     have h1:=Yr (F:=lf ws) fun p' ae=>lf_ne (aq p' ae);have h2:=congrArg List.length ap;rw [<-aC];simp only [ul,ue,Ui] at h1 h2⊢;omega
    have s6:=qb hq (.lst (ys.map (·.2)));have af:(upd H5 q (.lst (ys.map (·.2)))) q=some (.lst (ys.map (·.2))):=qe;have S6:=S4.trans (s5.trans s6);have au:=s6 _ _ (s5 _ _ ac);have av:=s6 _ _ (s5 _ _ ad);have aw:=(U.mono s5.tk).mono s6.tk;have aM:q≠I:=(qf (s5 _ _ ad) hq).symm;generalize upd H5 q (.lst (ys.map (·.2)))=H6 at s6 af S6 au av aw⊢;refine⟨q,rfl,⟨_,SqL.of af⟩,?_⟩
    let J2_:Nat->L2.St->Hp->Prop:=fun j σ H'=>∃o2:Option V,σ= [some (.ref t),some (.ref R),some (.ref I),some (.ref (n p)),o2]/\Same H H'/\H' q=some (.lst (ys.map (·.2)))/\H' R=some (.lst L)/\IsL H' (am.map (wayD gd)) L/\H' I=some (.lst (us++(ys.take j).map fun y=>V.ref (n (p++ [y.1]))))
    refine yg (K:=K) (a:=q) (xs:=ys.map (·.2)) J2_ ⟨_,rfl,S6,af,au,aw,by rw [Uc,vJ,uU];exact av⟩ (fun j σ H' _ ⟨_,_,_,h,_⟩=>SqL.of h) ?_ ?_
    ·rintro j x σ H7 hx ⟨o2,rfl,S7,az,ag,ah,O⟩;have aN:j<ys.length:=by have:=(List.getElem?_eq_some_iff.mp hx).1;rw [ue] at this;exact this
     obtain⟨y,hy⟩:∃y,ys[j]? =some y:=⟨_,u7 aN⟩;rw [um,hy] at hx;cases hx;obtain⟨z,hz,ez⟩:=List.mem_map.mp (aa.mem_iff.mp (ui hy));have ky:KOk H7 y.1 y.2:=by rw [<-ez];exact(g0.same S7).ks z hz
     have aO:y.1∈kvs.map (·.1):=by rw [<-ez];exact List.mem_map.mpr ⟨z,hz,rfl⟩
     obtain⟨x,hx,ex,ev⟩:=yA g0 ky.2.1 aO;refine⟨_,rfl,.inl ⟨rfl,_,SqL.of O⟩,_,rfl,_,_,dx,fs,_,rfl,S7 _ _ ab,T.qL,T.qy,nf.edges,_,rfl,e p,kvs,y.1,_,rfl,g0.same S7,ky,ev,?_⟩;refine⟨I,_,_,rfl,rfl,O,qX (by simp;omega),?_⟩
     refine⟨some y.2,rfl,fun b o h=> ?_,?_,?_,ah.mono (Tk.updL O),?_⟩
     ·rw [qi (qf h g5)];exact S7 b o h
     ·rw [qi aM];exact az
     ·rw [qi ai];exact ag
     ·rw [qe,aT x hx,ex,uE,hy,vW];simp
    ·rintro σ H7 ⟨o2,rfl,S7,az,ag,ah,O⟩;refine⟨_,aL,_,am,L,_,_,rfl,S7,ag,ah,?_,aq,ap,rfl,ai⟩;rw [O,ue,ut (Nat.le_refl _),<-aC];simp
end
end K27
namespace K27
open PySem L2 PyProof.Rows
open Builtin.Int (intBits)
def nxt (s d:Int):Int:=(s*s+31*d+17)%10007
def QX (salt:Int)(path:List Int):Int:=path.foldl nxt (salt%10007)
def s2 (x y:Str):D:= .tup [.str x,.str y]
def ENDS:List D:= [s2 "said" "x",.tup [.str "said",s2 "a" "b1"],s2 "fault" "told",s2 "fault" "kind"]
def ASKS:List D:= [s2 "thing" "a",s2 "thing" "b1",s2 "has" "a",s2 "names" "",s2 "names" "b"]
def lim (salt:Int):Nat:=if salt%8=3 then 40 else 5
def stp (salt:Int):Int:=if salt%8=3 then 24 else 4
def endB (salt:Int)(path:List Int):Bool:=decide (path.length=lim salt)||(decide (path≠ [])&&decide (QX salt path%stp salt=3))
def pick (l:List D)(i:Int):D:=l.getD i.toNat .non
def thF (salt:Int)(path:List Int)(lk:Bool):Bool×D:=if lk=true then(true,s2 "fault" "lack") else if endB salt path=true then(true,pick ENDS (QX salt path/4%4)) else(false,pick ASKS (QX salt path/4%5))
theorem nxt_ok (s d:Int):0<=nxt s d/\nxt s d<10007:=⟨va _ (by decide),uR _ (by decide)⟩
theorem foldl_ok:∀(path:List Int) (s:Int),0<=s->s<10007->0<=path.foldl nxt s/\path.foldl nxt s<10007
 | [],s,h1,h2=>⟨h1,h2⟩
 |d::r,s,_,_=>foldl_ok r (nxt s d) (nxt_ok s d).1 (nxt_ok s d).2
theorem stepF_ok (salt:Int)(path:List Int):0<=QX salt path/\QX salt path<10007:=foldl_ok path _ (va _ (by decide)) (uR _ (by decide))
theorem stepF_snoc (salt:Int)(path:List Int)(d:Int):QX salt (path++ [d])=nxt (QX salt path) d:=by unfold QX;rw [List.foldl_append];rfl
def sp_there:Sp:=fun vs H Q _=>∃(salt:Int) (pl:Addr) (path:List Int) (lk:Bool),vs= [.int salt,.ref pl,.bl lk]/\H pl=some (.lst (path.map V.int))/\∀(u:V) (H':Hp),Same H H'->Is H' (.tup [.bl (thF salt path lk).1,(thF salt path lk).2]) u->Q u H'
theorem is2 {H:Hp}{l:Addr}{x y:Str}(hx:x.length<=1000)(B:y.length<=1000)(I:H l=none):Is (upd H l (.tup [.str x,.str y])) (s2 x y) (.ref l):=Is.new (ds:= [.str x,.str y]) ⟨_,_,rfl,⟨rfl,Yb hx⟩,_,_,rfl,⟨rfl,Yb B⟩,rfl⟩ I
theorem Y4 {H:Hp}{ds:List D}{vs:List V}{i:Int}(h:IsL H ds vs)(B:0<=i)(h1:i<ds.length):∃v,atI vs i=some v/\Is H (pick ds i) v:=by
 obtain⟨n,rfl⟩:=vA B;have h2:n<ds.length:=by omega
 obtain⟨v,I,L⟩:=h.get (u7 h2);refine⟨v,qm I,?_⟩;unfold pick;simp [List.getD,h2];exact L
section
variable {P:Program}{w:World}{K:PySem.W.Frag}{mg:Str->Option Value}{base:Heap}{a:Ad}{g:Ga}
theorem ok_there (T:Tx K mg a):FnOk P w K mg base CX0 1 a.jS a.jA ["salt","path","lacked"] sp_there:=by
 refine T.g_law_there.F.ok QA (by trivial) (fun _ _ _ _ H _ Q E hr h=> ?_)
 obtain⟨salt,pl,path,lk,rfl,hp,k⟩:=h;refine⟨_,(@qd _ _ _ _ _ (@qx _ _ (3) _ _ _ _ QA.nd rfl (Or.inl rfl) (@qY _ _ _ _ _ _ _ _ yZ (pv 0) qh) (by trivial) (by trivial)) (@qd _ _ _ _ _ (@Q4 _ _ _ _ _ _ _ _ uO rfl (@Y1 _ _ _ _ (pv 1)) (@qF _ _ (4) _ QA.nd rfl (Or.inl rfl) (by trivial)) (@qg _ _ _ (@qx _ _ (3) _ _ _ _ QA.nd rfl (Or.inl rfl) (@qY _ _ _ _ _ _ _ _ yZ (@qY _ _ _ _ _ _ _ _ ye (@qY _ _ _ _ _ _ _ _ ye (@qY _ _ _ _ _ _ _ _ jT (pv 3) (pv 3)) (@qY _ _ _ _ _ _ _ _ jT qh (pv 4))) qh) qh) (by trivial) (by trivial))) (by trivial)) (@qd _ _ _ _ _ (@qM _ _ _ _ _ _ _ _ (@Qw _ _ _ (pv 2) (by trivial)) (@qg _ _ _ (@qr _ _ _ _ (@qk _ _ _ _ _ (@qa _ _ _ _ _ QF (@qa _ _ _ _ _ (@qk _ _ _ _ _ (@qa _ _ _ _ _ qo (@qa _ _ _ _ _ qo qc (by trivial)) (by trivial))) qc (by trivial)) (by trivial))))) qs) (@qd _ _ _ _ _ (@qx _ _ (5) _ _ _ _ QA.nd rfl (Or.inl rfl) (@qN _ _ _ _ _ _ _ _ _ call_int1 (by rfl) T.z_int boot_int (@qa _ _ _ _ _ (@QM _ _ _ _ _ _ _ _ QK (@qY _ _ _ _ _ _ _ _ yZ (pv 0) qh) qh (qw _)) qc (by trivial)) (by trivial) (by trivial) (by trivial) (by trivial)) (by trivial) (by trivial)) (@qd _ _ _ _ _ (@qM _ _ _ _ _ _ _ _ (@YO _ _ _ _ _ _ _ (@qq _ _ _ _ _ _ _ _ QK (@qp _ _ _ _ _ _ _ _ _ qB (by rfl) T.yh uF (@qa _ _ _ _ _ (pv 1) qc (by trivial)) (by trivial) (by trivial) (by trivial) (by trivial)) (@qA _ _ _ _ _ _ _ qW (@Qb _ _ _ _ (@qa _ _ _ _ _ qh (@qa _ _ _ _ _ qh qc (by trivial)) (by trivial))) (pv 5) (fun _ _=>rfl)) (qw _)) (@yN _ _ _ _ (@pw_and _ _ _ _ _ _ _ (@qq _ _ _ _ _ _ _ _ (@op_neN _ hr.units0) (pv 1) (@Qb _ _ _ _ qc) (qw _)) (@pw_and1 _ _ _ _ (@qq _ _ _ _ _ _ _ _ QK (@qY _ _ _ _ _ _ _ _ yZ (pv 3) (@qA _ _ _ _ _ _ _ qW (@Qb _ _ _ _ (@qa _ _ _ _ _ qh (@qa _ _ _ _ _ qh qc (by trivial)) (by trivial))) (pv 5) (fun _ _=>rfl))) qh (qw _)))).pt)).pt (@qg _ _ _ (@qr _ _ _ _ (@qk _ _ _ _ _ (@qa _ _ _ _ _ QF (@qa _ _ _ _ _ (@qA _ _ _ _ _ _ _ qW (@Qb _ _ _ _ (@qa _ _ _ _ _ (@qk _ _ _ _ _ (@qa _ _ _ _ _ qo (@qa _ _ _ _ _ qo qc (by trivial)) (by trivial))) (@qa _ _ _ _ _ (@qk _ _ _ _ _ (@qa _ _ _ _ _ qo (@qa _ _ _ _ _ (@qk _ _ _ _ _ (@qa _ _ _ _ _ qo (@qa _ _ _ _ _ qo qc (by trivial)) (by trivial))) qc (by trivial)) (by trivial))) (@qa _ _ _ _ _ (@qk _ _ _ _ _ (@qa _ _ _ _ _ qo (@qa _ _ _ _ _ qo qc (by trivial)) (by trivial))) (@qa _ _ _ _ _ (@qk _ _ _ _ _ (@qa _ _ _ _ _ qo (@qa _ _ _ _ _ qo qc (by trivial)) (by trivial))) qc (by trivial)) (by trivial)) (by trivial)) (by trivial))) (@qY _ _ _ _ _ _ _ _ yZ (@qY _ _ _ _ _ _ _ _ op_fdiv (pv 3) qh) qh) (fun _ _=>rfl)) qc (by trivial)) (by trivial))))) qs) (@qg _ _ _ (@qr _ _ _ _ (@qk _ _ _ _ _ (@qa _ _ _ _ _ QF (@qa _ _ _ _ _ (@qA _ _ _ _ _ _ _ qW (@Qb _ _ _ _ (@qa _ _ _ _ _ (@qk _ _ _ _ _ (@qa _ _ _ _ _ qo (@qa _ _ _ _ _ qo qc (by trivial)) (by trivial))) (@qa _ _ _ _ _ (@qk _ _ _ _ _ (@qa _ _ _ _ _ qo (@qa _ _ _ _ _ qo qc (by trivial)) (by trivial))) (@qa _ _ _ _ _ (@qk _ _ _ _ _ (@qa _ _ _ _ _ qo (@qa _ _ _ _ _ qo qc (by trivial)) (by trivial))) (@qa _ _ _ _ _ (@qk _ _ _ _ _ (@qa _ _ _ _ _ qo (@qa _ _ _ _ _ qo qc (by trivial)) (by trivial))) (@qa _ _ _ _ _ (@qk _ _ _ _ _ (@qa _ _ _ _ _ qo (@qa _ _ _ _ _ qo qc (by trivial)) (by trivial))) qc (by trivial)) (by trivial)) (by trivial)) (by trivial)) (by trivial))) (@qY _ _ _ _ _ _ _ _ yZ (@qY _ _ _ _ _ _ _ _ op_fdiv (pv 3) qh) qh) (fun _ _=>rfl)) qc (by trivial)) (by trivial)))))))))),?_⟩
 have I:(2:Nat)<=sizeLine:=by decide
 refine⟨_,rfl,_,_,rfl,rfl,(by show(0:Int)<10007;decide),_,rfl,pl,rfl,⟨_,SqL.of hp⟩,?_⟩
 refine yg (K:=K) (a:=pl) (xs:=path.map V.int) (fun i σ H'=>∃o:Option V,σ= [some (.int salt),some (.ref pl),some (.bl lk),some (.int (QX salt (path.take i))),o,none]/\H'=H) ⟨none,rfl,rfl⟩ (fun i σ H' _ ⟨_,_,h⟩=>by rw [h];exact SqL.of hp) ?_ ?_
 ·rintro i x σ H' hx ⟨o,rfl,rfl⟩;rw [um] at hx;obtain⟨d,hd,rfl⟩:=Option.map_eq_some_iff.mp hx;have b:=stepF_ok salt (path.take i);refine⟨_,rfl,_,rfl,_,_,rfl,rfl,(.inl ⟨by omega,by omega⟩),_,rfl,_,_,rfl,rfl,(.inl ⟨by decide,by decide⟩),_,_,rfl,rfl,_,_,rfl,rfl,_,_,rfl,rfl,(by show(0:Int)<10007;decide),some (.int d),?_,rfl⟩
  rw [uE,hd];show _= [some (V.int salt),some (.ref pl),some (.bl lk),some (.int (QX salt (path.take i++ [d]))),_,none];rw [stepF_snoc]
  rfl
 rintro σ H' ⟨o,rfl,rfl⟩;rw [ue,vn];obtain⟨b0,b1⟩:=stepF_ok salt path;refine⟨_,rfl,_,rfl,?_⟩;unfold thF at k;cases lk with
 |true=>
  refine iteT ?_;rw [if_pos rfl] at k;refine⟨I,fun l hl=>⟨I,fun l2 aj=>k _ _ ((qb hl _).trans (qb aj _)) ?_⟩⟩;exact Is.new (ds:= [.bl true,s2 "fault" "lack"]) ⟨_,_,rfl,rfl,_,_,rfl,is2 (by decide) (by decide) hl,rfl⟩ aj
 |false=>
 refine iteF ?_;rw [if_neg (by decide)] at k
 refine⟨_,rfl,_,_,rfl,rfl,(by show(0:Int)<8;decide),rfl,.inr ⟨_,rfl,?_⟩⟩
 have ak:decide (V.int (salt%8)=V.int 3)=decide (salt%8=3):=by
  rw [uz];exact⟨fun h=>V.int.inj h,fun h=>by rw [h]⟩
 rw [ak];have eL:atI [V.int 5,V.int 40] (if decide (salt%8=3)=true then 1 else 0)=some (.int (lim salt)):=by
  unfold lim;by_cases c:salt%8=3
  ·rw [if_pos c,if_pos (uc c)];rfl
  ·rw [if_neg c,if_neg (by simpa using c)];rfl
 have eS:atI [V.int 4,V.int 24] (if decide (salt%8=3)=true then 1 else 0)=some (.int (stp salt)):=by
  unfold stp;by_cases c:salt%8=3
  ·rw [if_pos c,if_pos (uc c)];rfl
  ·rw [if_neg c,if_neg (by simpa using c)];rfl
 have sp:0<stp salt:=by unfold stp;split<;>decide
 generalize (if decide (salt%8=3)=true then(1:Int) else 0)=lg at eL eS
 refine⟨_,rfl,pl,_,rfl,.inl (SqL.of hp),I,fun l1 h1=> ?_⟩;have z1:=qb h1 (.lst [.int 5,.int 40]);have i1:(upd H' l1 (.lst [.int 5,.int 40])) l1=some (.lst [.int 5,.int 40]):=qe;generalize upd H' l1 (.lst [.int 5,.int 40])=H1 at z1 i1⊢;refine⟨_,rfl,l1,_,_,_,rfl,rfl,SqL.of i1,eL,rfl,_,rfl,?_⟩;have c1:decide (V.int ((path.map V.int).length:Int)=V.int (lim salt:Int))=decide (path.length=lim salt):=by
  rw [uz,ue];exact⟨fun h=>by have:=V.int.inj h;omega,fun h=>by rw [h]⟩
 rw [c1];by_cases c:path.length=lim salt
 ·rw [uc c];refine iteT (iteT ?_);have he:endB salt path=true:=by unfold endB;rw [uc c];rfl
  refine⟨I,fun U aa=> ?_⟩;have y0:=qb aa (.tup [.str "said",.str "x"]);have B:=is2 (x:="said") (y:="x") (by decide) (by decide) aa
  have Z0:=z1.trans y0;generalize upd H1 U (.tup [.str "said",.str "x"])=G0 at y0 B Z0⊢;refine⟨I,fun q1 ab=> ?_⟩;have y1:=qb ab (.tup [.str "a",.str "b1"]);have M:=is2 (x:="a") (y:="b1") (by decide) (by decide) ab
  replace B:=B.mono y1.tk
  have Z1:=Z0.trans y1;generalize upd G0 q1 (.tup [.str "a",.str "b1"])=G1 at y1 M Z1 B⊢;refine⟨I,fun Y ac=> ?_⟩;have y2:=qb ac (.tup [.str "said",.ref q1]);have O:=Is.new (ds:= [.str "said",s2 "a" "b1"]) ⟨_,_,rfl,⟨rfl,Yb (by decide)⟩,_,_,rfl,M,rfl⟩ ac
  replace B:=B.mono y2.tk
  replace M:=M.mono y2.tk
  have Z2:=Z1.trans y2;generalize upd G1 Y (.tup [.str "said",.ref q1])=G2 at y2 O Z2 B M⊢;refine⟨I,fun Z ad=> ?_⟩;have y3:=qb ad (.tup [.str "fault",.str "told"]);have j3:=is2 (x:="fault") (y:="told") (by decide) (by decide) ad
  replace B:=B.mono y3.tk
  replace M:=M.mono y3.tk
  replace O:=O.mono y3.tk
  have Z3:=Z2.trans y3;generalize upd G2 Z (.tup [.str "fault",.str "told"])=G3 at y3 j3 Z3 B M O⊢;refine⟨I,fun q4 ae=> ?_⟩;have y4:=qb ae (.tup [.str "fault",.str "kind"]);have j4:=is2 (x:="fault") (y:="kind") (by decide) (by decide) ae
  replace B:=B.mono y4.tk
  replace M:=M.mono y4.tk
  replace O:=O.mono y4.tk
  replace j3:=j3.mono y4.tk
  have Z4:=Z3.trans y4;generalize upd G3 q4 (.tup [.str "fault",.str "kind"])=G4 at y4 j4 Z4 B M O j3⊢;refine⟨(by show 4<=sizeLine;decide),fun L hL=> ?_⟩
  have yL:=qb hL (.lst [.ref U,.ref Y,.ref Z,.ref q4]);have iL:IsL G4 ENDS [.ref U,.ref Y,.ref Z,.ref q4]:=⟨_,_,rfl,B,⟨_,_,rfl,O,⟨_,_,rfl,j3,⟨_,_,rfl,j4,rfl⟩⟩⟩⟩;have af:=iL.mono yL.tk;have ag:(upd G4 L (.lst [.ref U,.ref Y,.ref Z,.ref q4])) L=some (.lst [.ref U,.ref Y,.ref Z,.ref q4]):=qe;have ZL:=Z4.trans yL;generalize upd G4 L (.lst [.ref U,.ref Y,.ref Z,.ref q4])=GL at yL af ag ZL⊢;obtain⟨dv,ah,ai⟩:=Y4 (i:=QX salt path/4%4) af (va _ (by decide)) (by show QX salt path/4%4<4;exact uR _ (by decide))
  refine⟨_,rfl,_,_,rfl,rfl,⟨by decide,by decide⟩,_,_,rfl,rfl,(by show(0:Int)<4;decide),L,_,_,_,rfl,rfl,SqL.of ag,ah,I,fun R hR=> ?_⟩
  refine k _ _ (ZL.trans (qb hR _)) ?_;rw [if_pos he];exact Is.new (ds:= [.bl true,pick ENDS _]) ⟨_,_,rfl,rfl,_,_,rfl,ai,rfl⟩ hR
 ·rw [ub c];refine iteF ?_;refine⟨_,rfl,(by show 0<=sizeLine;decide),fun l2 h2=> ?_⟩
  have z2:=z1.trans (qb h2 (.lst []));have e2:(upd H1 l2 (.lst [])) l2=some (.lst []):=qe;generalize upd H1 l2 (.lst [])=H2 at z2 e2⊢;refine⟨pl,l2,_,rfl,rfl,SqL.of (z2 _ _ hp),SqL.of e2,_,rfl,?_⟩;have c2:decide (path.map V.int≠ [])=decide (path≠ []):=by
   rw [uz];simp
  rw [c2];by_cases d:path= []
  ·rw [ub (by simpa using d)]
   refine iteF ?_;refine iteF ?_;have he:¬endB salt path=true:=by unfold endB;rw [ub c,ub (by simpa using d)];simp
   refine⟨I,fun U aa=> ?_⟩;have y0:=qb aa (.tup [.str "thing",.str "a"]);have B:=is2 (x:="thing") (y:="a") (by decide) (by decide) aa
   have Z0:=z2.trans y0;generalize upd H2 U (.tup [.str "thing",.str "a"])=G0 at y0 B Z0⊢;refine⟨I,fun q1 ab=> ?_⟩;have y1:=qb ab (.tup [.str "thing",.str "b1"]);have M:=is2 (x:="thing") (y:="b1") (by decide) (by decide) ab
   replace B:=B.mono y1.tk
   have Z1:=Z0.trans y1;generalize upd G0 q1 (.tup [.str "thing",.str "b1"])=G1 at y1 M Z1 B⊢;refine⟨I,fun Y ac=> ?_⟩;have y2:=qb ac (.tup [.str "has",.str "a"]);have O:=is2 (x:="has") (y:="a") (by decide) (by decide) ac
   replace B:=B.mono y2.tk
   replace M:=M.mono y2.tk
   have Z2:=Z1.trans y2;generalize upd G1 Y (.tup [.str "has",.str "a"])=G2 at y2 O Z2 B M⊢;refine⟨I,fun Z ad=> ?_⟩;have y3:=qb ad (.tup [.str "names",.str ""]);have j3:=is2 (x:="names") (y:="") (by decide) (by decide) ad
   replace B:=B.mono y3.tk
   replace M:=M.mono y3.tk
   replace O:=O.mono y3.tk
   have Z3:=Z2.trans y3;generalize upd G2 Z (.tup [.str "names",.str ""])=G3 at y3 j3 Z3 B M O⊢;refine⟨I,fun q4 ae=> ?_⟩;have y4:=qb ae (.tup [.str "names",.str "b"]);have j4:=is2 (x:="names") (y:="b") (by decide) (by decide) ae
   replace B:=B.mono y4.tk
   replace M:=M.mono y4.tk
   replace O:=O.mono y4.tk
   replace j3:=j3.mono y4.tk
   have Z4:=Z3.trans y4;generalize upd G3 q4 (.tup [.str "names",.str "b"])=G4 at y4 j4 Z4 B M O j3⊢;refine⟨(by show 5<=sizeLine;decide),fun L hL=> ?_⟩
   have yL:=qb hL (.lst [.ref U,.ref q1,.ref Y,.ref Z,.ref q4]);have iL:IsL G4 ASKS [.ref U,.ref q1,.ref Y,.ref Z,.ref q4]:=⟨_,_,rfl,B,⟨_,_,rfl,M,⟨_,_,rfl,O,⟨_,_,rfl,j3,⟨_,_,rfl,j4,rfl⟩⟩⟩⟩⟩;have af:=iL.mono yL.tk;have ag:(upd G4 L (.lst [.ref U,.ref q1,.ref Y,.ref Z,.ref q4])) L=some (.lst [.ref U,.ref q1,.ref Y,.ref Z,.ref q4]):=qe;have ZL:=Z4.trans yL;generalize upd G4 L (.lst [.ref U,.ref q1,.ref Y,.ref Z,.ref q4])=GL at yL af ag ZL⊢;obtain⟨dv,ah,ai⟩:=Y4 (i:=QX salt path/4%5) af (va _ (by decide)) (by show QX salt path/4%5<5;exact uR _ (by decide))
   refine⟨_,rfl,_,_,rfl,rfl,⟨by decide,by decide⟩,_,_,rfl,rfl,(by show(0:Int)<5;decide),L,_,_,_,rfl,rfl,SqL.of ag,ah,I,fun R hR=> ?_⟩
   refine k _ _ (ZL.trans (qb hR _)) ?_;rw [if_neg he];exact Is.new (ds:= [.bl false,pick ASKS _]) ⟨_,_,rfl,rfl,_,_,rfl,ai,rfl⟩ hR
  ·rw [uc (by simpa using d)]
   refine iteT ?_;refine⟨_,rfl,I,fun l3 h3=> ?_⟩;have z3:=z2.trans (qb h3 (.lst [.int 4,.int 24]));have e3:(upd H2 l3 (.lst [.int 4,.int 24])) l3=some (.lst [.int 4,.int 24]):=qe;generalize upd H2 l3 (.lst [.int 4,.int 24])=H3 at z3 e3⊢;refine⟨_,rfl,l3,_,_,_,rfl,rfl,SqL.of e3,eS,_,_,rfl,rfl,sp,rfl,_,rfl,?_⟩;have c3:decide (V.int (QX salt path%stp salt)=V.int 3)=decide (QX salt path%stp salt=3):=by
    rw [uz];exact⟨fun h=>V.int.inj h,fun h=>by rw [h]⟩
   rw [c3];by_cases f:QX salt path%stp salt=3
   ·rw [uc f];refine iteT ?_;have he:endB salt path=true:=by unfold endB;rw [uc f,uc (p:=path≠ []) d];simp
    refine⟨I,fun U aa=> ?_⟩;have y0:=qb aa (.tup [.str "said",.str "x"]);have B:=is2 (x:="said") (y:="x") (by decide) (by decide) aa
    have Z0:=z3.trans y0;generalize upd H3 U (.tup [.str "said",.str "x"])=G0 at y0 B Z0⊢;refine⟨I,fun q1 ab=> ?_⟩;have y1:=qb ab (.tup [.str "a",.str "b1"]);have M:=is2 (x:="a") (y:="b1") (by decide) (by decide) ab
    replace B:=B.mono y1.tk
    have Z1:=Z0.trans y1;generalize upd G0 q1 (.tup [.str "a",.str "b1"])=G1 at y1 M Z1 B⊢;refine⟨I,fun Y ac=> ?_⟩;have y2:=qb ac (.tup [.str "said",.ref q1]);have O:=Is.new (ds:= [.str "said",s2 "a" "b1"]) ⟨_,_,rfl,⟨rfl,Yb (by decide)⟩,_,_,rfl,M,rfl⟩ ac
    replace B:=B.mono y2.tk
    replace M:=M.mono y2.tk
    have Z2:=Z1.trans y2;generalize upd G1 Y (.tup [.str "said",.ref q1])=G2 at y2 O Z2 B M⊢;refine⟨I,fun Z ad=> ?_⟩;have y3:=qb ad (.tup [.str "fault",.str "told"]);have j3:=is2 (x:="fault") (y:="told") (by decide) (by decide) ad
    replace B:=B.mono y3.tk
    replace M:=M.mono y3.tk
    replace O:=O.mono y3.tk
    have Z3:=Z2.trans y3;generalize upd G2 Z (.tup [.str "fault",.str "told"])=G3 at y3 j3 Z3 B M O⊢;refine⟨I,fun q4 ae=> ?_⟩;have y4:=qb ae (.tup [.str "fault",.str "kind"]);have j4:=is2 (x:="fault") (y:="kind") (by decide) (by decide) ae
    replace B:=B.mono y4.tk
    replace M:=M.mono y4.tk
    replace O:=O.mono y4.tk
    replace j3:=j3.mono y4.tk
    have Z4:=Z3.trans y4;generalize upd G3 q4 (.tup [.str "fault",.str "kind"])=G4 at y4 j4 Z4 B M O j3⊢;refine⟨(by show 4<=sizeLine;decide),fun L hL=> ?_⟩
    have yL:=qb hL (.lst [.ref U,.ref Y,.ref Z,.ref q4]);have iL:IsL G4 ENDS [.ref U,.ref Y,.ref Z,.ref q4]:=⟨_,_,rfl,B,⟨_,_,rfl,O,⟨_,_,rfl,j3,⟨_,_,rfl,j4,rfl⟩⟩⟩⟩;have af:=iL.mono yL.tk;have ag:(upd G4 L (.lst [.ref U,.ref Y,.ref Z,.ref q4])) L=some (.lst [.ref U,.ref Y,.ref Z,.ref q4]):=qe;have ZL:=Z4.trans yL;generalize upd G4 L (.lst [.ref U,.ref Y,.ref Z,.ref q4])=GL at yL af ag ZL⊢;obtain⟨dv,ah,ai⟩:=Y4 (i:=QX salt path/4%4) af (va _ (by decide)) (by show QX salt path/4%4<4;exact uR _ (by decide))
    refine⟨_,rfl,_,_,rfl,rfl,⟨by decide,by decide⟩,_,_,rfl,rfl,(by show(0:Int)<4;decide),L,_,_,_,rfl,rfl,SqL.of ag,ah,I,fun R hR=> ?_⟩
    refine k _ _ (ZL.trans (qb hR _)) ?_;rw [if_pos he];exact Is.new (ds:= [.bl true,pick ENDS _]) ⟨_,_,rfl,rfl,_,_,rfl,ai,rfl⟩ hR
   ·rw [ub f];refine iteF ?_;have he:¬endB salt path=true:=by unfold endB;rw [ub c,ub f];simp
    refine⟨I,fun U aa=> ?_⟩;have y0:=qb aa (.tup [.str "thing",.str "a"]);have B:=is2 (x:="thing") (y:="a") (by decide) (by decide) aa
    have Z0:=z3.trans y0;generalize upd H3 U (.tup [.str "thing",.str "a"])=G0 at y0 B Z0⊢;refine⟨I,fun q1 ab=> ?_⟩;have y1:=qb ab (.tup [.str "thing",.str "b1"]);have M:=is2 (x:="thing") (y:="b1") (by decide) (by decide) ab
    replace B:=B.mono y1.tk
    have Z1:=Z0.trans y1;generalize upd G0 q1 (.tup [.str "thing",.str "b1"])=G1 at y1 M Z1 B⊢;refine⟨I,fun Y ac=> ?_⟩;have y2:=qb ac (.tup [.str "has",.str "a"]);have O:=is2 (x:="has") (y:="a") (by decide) (by decide) ac
    replace B:=B.mono y2.tk
    replace M:=M.mono y2.tk
    have Z2:=Z1.trans y2;generalize upd G1 Y (.tup [.str "has",.str "a"])=G2 at y2 O Z2 B M⊢;refine⟨I,fun Z ad=> ?_⟩;have y3:=qb ad (.tup [.str "names",.str ""]);have j3:=is2 (x:="names") (y:="") (by decide) (by decide) ad
    replace B:=B.mono y3.tk
    replace M:=M.mono y3.tk
    replace O:=O.mono y3.tk
    have Z3:=Z2.trans y3;generalize upd G2 Z (.tup [.str "names",.str ""])=G3 at y3 j3 Z3 B M O⊢;refine⟨I,fun q4 ae=> ?_⟩;have y4:=qb ae (.tup [.str "names",.str "b"]);have j4:=is2 (x:="names") (y:="b") (by decide) (by decide) ae
    replace B:=B.mono y4.tk
    replace M:=M.mono y4.tk
    replace O:=O.mono y4.tk
    replace j3:=j3.mono y4.tk
    have Z4:=Z3.trans y4;generalize upd G3 q4 (.tup [.str "names",.str "b"])=G4 at y4 j4 Z4 B M O j3⊢;refine⟨(by show 5<=sizeLine;decide),fun L hL=> ?_⟩
    have yL:=qb hL (.lst [.ref U,.ref q1,.ref Y,.ref Z,.ref q4]);have iL:IsL G4 ASKS [.ref U,.ref q1,.ref Y,.ref Z,.ref q4]:=⟨_,_,rfl,B,⟨_,_,rfl,M,⟨_,_,rfl,O,⟨_,_,rfl,j3,⟨_,_,rfl,j4,rfl⟩⟩⟩⟩⟩;have af:=iL.mono yL.tk;have ag:(upd G4 L (.lst [.ref U,.ref q1,.ref Y,.ref Z,.ref q4])) L=some (.lst [.ref U,.ref q1,.ref Y,.ref Z,.ref q4]):=qe;have ZL:=Z4.trans yL;generalize upd G4 L (.lst [.ref U,.ref q1,.ref Y,.ref Z,.ref q4])=GL at yL af ag ZL⊢;obtain⟨dv,ah,ai⟩:=Y4 (i:=QX salt path/4%5) af (va _ (by decide)) (by show QX salt path/4%5<5;exact uR _ (by decide))
    refine⟨_,rfl,_,_,rfl,rfl,⟨by decide,by decide⟩,_,_,rfl,rfl,(by show(0:Int)<5;decide),L,_,_,_,rfl,rfl,SqL.of ag,ah,I,fun R hR=> ?_⟩
    refine k _ _ (ZL.trans (qb hR _)) ?_;rw [if_neg he];exact Is.new (ds:= [.bl false,pick ASKS _]) ⟨_,_,rfl,rfl,_,_,rfl,ai,rfl⟩ hR
def CH1:List D:= [.str "yes",.str "no"]
def CH2:List D:= [.tup [],.tup [.str "a"],s2 "a" "b1"]
def CH3:List D:= [.str "x",.str "",.non,.tup [.str "a"],.tup [.tup [.str "x"],.str "b1"],.str "qqqqqqqqqqqqqqqqqqqq"]
def chS (u:Str):List D:=if u="has" then CH1 else if u="names" then CH2 else CH3
def chF:D->List D
 | .tup (.str u::_)=>chS u
 |_=> []
def sp_choices:Sp:=fun vs H Q _=>∃(v:V) (u n:Str),vs= [v]/\Is H (s2 u n) v/\∀(L:Addr) (vs:List V) (H':Hp),Same H H'->H L=none->H' L=some (.lst vs)->IsL H' (chS u) vs->Q (.ref L) H'
theorem isS {H:Hp}{z:Str}(h:z.length<=1000):Is H (.str z) (.str z):=⟨rfl,Yb h⟩
theorem ok_choices (T:Tx K mg a):FnOk P w K mg base CX0 1 a.YB a.YA ["ask"] sp_choices:=by
 refine T.g_law_choices.F.ok Je (by trivial) (fun _ _ _ _ H _ Q E hr h=> ?_)
 obtain⟨v,u,n,rfl,iv,k⟩:=h;refine⟨_,(@qd _ _ _ _ _ (@qM _ _ _ _ _ _ _ _ (@qq _ _ _ _ _ _ _ _ QK (@qA _ _ _ _ _ _ _ qD (pv 0) qh (fun _ _=>rfl)) qo (qw _)) (@qg _ _ _ (@qr _ _ _ _ (@Qb _ _ _ _ (@qa _ _ _ _ _ qo (@qa _ _ _ _ _ qo qc (by trivial)) (by trivial))))) qs) (@qd _ _ _ _ _ (@qM _ _ _ _ _ _ _ _ (@qq _ _ _ _ _ _ _ _ QK (@qA _ _ _ _ _ _ _ qD (pv 0) qh (fun _ _=>rfl)) qo (qw _)) (@qg _ _ _ (@qr _ _ _ _ (@Qb _ _ _ _ (@qa _ _ _ _ _ (@qk _ _ _ _ _ qc) (@qa _ _ _ _ _ (@qk _ _ _ _ _ (@qa _ _ _ _ _ qo qc (by trivial))) (@qa _ _ _ _ _ (@qk _ _ _ _ _ (@qa _ _ _ _ _ qo (@qa _ _ _ _ _ qo qc (by trivial)) (by trivial))) qc (by trivial)) (by trivial)) (by trivial))))) qs) (@qg _ _ _ (@qr _ _ _ _ (@Qb _ _ _ _ (@qa _ _ _ _ _ qo (@qa _ _ _ _ _ qo (@qa _ _ _ _ _ Qg (@qa _ _ _ _ _ (@qk _ _ _ _ _ (@qa _ _ _ _ _ qo qc (by trivial))) (@qa _ _ _ _ _ (@qk _ _ _ _ _ (@qa _ _ _ _ _ (@qk _ _ _ _ _ (@qa _ _ _ _ _ qo qc (by trivial))) (@qa _ _ _ _ _ qo qc (by trivial)) (by trivial))) (@qa _ _ _ _ _ (@qY _ _ _ _ _ _ _ _ op_repS qo qh) qc (by trivial)) (by trivial)) (by trivial)) (by trivial)) (by trivial)) (by trivial))))))),?_⟩
 have O:(2:Nat)<=sizeLine:=by decide
 have one:(1:Nat)<=sizeLine:=by decide
 refine⟨_,rfl,?_⟩;refine gi (i:=0) (d:= .str u) iv (qm (j:=0) rfl) fun x hx=> ?_;obtain⟨rfl,_⟩:=hx;refine⟨rfl,_,rfl,?_⟩;rw [es];unfold chS at k;by_cases Z:u="has"
 ·rw [if_pos Z] at k;refine qR (uc Z) ?_;exact⟨O,fun L B=>k L _ _ (qb B _) B qe ⟨_,_,rfl,isS (by decide),_,_,rfl,isS (by decide),rfl⟩⟩
 ·rw [if_neg Z] at k;refine qC (ub Z) ?_;refine⟨_,rfl,?_⟩;refine gi (i:=0) (d:= .str u) iv (qm (j:=0) rfl) fun x hx=> ?_;obtain⟨rfl,_⟩:=hx;refine⟨rfl,_,rfl,?_⟩;rw [es];by_cases c2:u="names"
  ·rw [if_pos c2] at k;refine qR (uc c2) ?_;refine⟨(by show 0<=sizeLine;decide),fun q0 U=>⟨one,fun q1 h1=>⟨O,fun q2 h2=>⟨(by show 3<=sizeLine;decide),fun L B=> ?_⟩⟩⟩⟩
   have Y:=qb U (.tup []);have R:=qb h1 (.tup [.str "a"]);have I:=qb h2 (.tup [.str "a",.str "b1"]);have M:=qb B (.lst [.ref q0,.ref q1,.ref q2]);refine k L _ _ (Y.trans (R.trans (I.trans M))) (Qi (Y.trans (R.trans I)) B) qe ⟨_,_,rfl,(((Is.new (ds:= []) rfl U).mono R.tk).mono I.tk).mono M.tk,_,_,rfl,((Is.new (ds:= [.str "a"]) ⟨_,_,rfl,isS (by decide),rfl⟩ h1).mono I.tk).mono M.tk,_,_,rfl,(is2 (by decide) (by decide) h2).mono M.tk,rfl⟩
  ·rw [if_neg c2] at k;refine qC (ub c2) ?_;refine⟨one,fun q0 U=>⟨one,fun q1 h1=>⟨O,fun q2 h2=> ?_⟩⟩⟩;refine⟨_,_,rfl,rfl,mulOk_of (by decide) (by decide) (by decide),(by show 6<=sizeLine;decide),fun L B=> ?_⟩
   have eq:Txt.mul "q" 20=("qqqqqqqqqqqqqqqqqqqq":Str):=by decide+kernel
   rw [eq] at*;have Y:=qb U (.tup [.str "a"]);have R:=qb h1 (.tup [.str "x"]);have I:=qb h2 (.tup [.ref q1,.str "b1"]);have M:=qb B (.lst [.str "x",.str "",.non,.ref q0,.ref q2,.str "qqqqqqqqqqqqqqqqqqqq"]);have j0:=((Is.new (ds:= [.str "a"]) ⟨_,_,rfl,isS (by decide),rfl⟩ U).mono R.tk).mono I.tk
   have j1:Is _ (.tup [.str "x"]) (.ref q1):=Is.new (ds:= [.str "x"]) ⟨_,_,rfl,isS (by decide),rfl⟩ h1
   have j2:Is _ (.tup [.tup [.str "x"],.str "b1"]) (.ref q2):=Is.new (ds:= [.tup [.str "x"],.str "b1"]) ⟨_,_,rfl,j1,_,_,rfl,isS (by decide),rfl⟩ h2
   refine k L _ _ (Y.trans (R.trans (I.trans M))) (Qi (Y.trans (R.trans I)) B) qe ⟨_,_,rfl,isS (by decide),_,_,rfl,isS (by decide),_,_,rfl,rfl,_,_,rfl,j0.mono M.tk,_,_,rfl,j2.mono M.tk,_,_,rfl,isS (by decide),rfl⟩
inductive Pfx (salt:Int):List (D×D)->List Int->Bool->Prop
 |nil:Pfx salt [] [] false
 |snoc {as:List (D×D)}{path:List Int}{lk:Bool}{q c:D}{d:Nat}:Pfx salt as path lk->thF salt path lk=(false,q)->(chF q)[d]? =some c->Pfx salt (as++ [(q,c)]) (path++ [(d:Int)]) (isNon c)
def WayR (salt:Int)(r:Rn):Prop:=∃path lk,Pfx salt r.1 path lk/\thF salt path lk=(true,r.2)
def outF (x:Bool×D):D:=if x.1=true then x.2 else .tup [.str "asks",x.2]
theorem JA {l:List D}{i:Int}{n:Nat}(B:0<=i)(h1:i<n)(I:l.length=n):pick l i∈l:=by
 obtain⟨m,rfl⟩:=vA B;have:m<l.length:=by omega
 unfold pick;simp [List.getD,this]
theorem J0 {salt:Int}{path:List Int}{lk:Bool}{q:D}(h:thF salt path lk=(false,q)):q∈ASKS/\endB salt path=false:=by
 unfold thF at h;cases lk with
 |true=>rw [if_pos rfl] at h;cases h
 |false=>
  rw [if_neg (by decide)] at h
  cases B:endB salt path with
  |true=>rw [B,if_pos rfl] at h;cases h
  |false=>
   rw [B,if_neg (by decide)] at h
   cases h;exact⟨JA (n:=5) (va _ (by decide)) (uR _ (by decide)) rfl,rfl⟩
theorem thF_end {salt:Int}{path:List Int}{lk:Bool}{e:D}(h:thF salt path lk=(true,e)):e=s2 "fault" "lack"∨e∈ENDS:=by
 unfold thF at h;cases lk with
 |true=>rw [if_pos rfl] at h;cases h;exact .inl rfl
 |false=>
  rw [if_neg (by decide)] at h
  cases B:endB salt path with
  |true=>
   rw [B,if_pos rfl] at h;cases h;exact .inr (JA (n:=4) (va _ (by decide)) (uR _ (by decide)) rfl)
  |false=>rw [B,if_neg (by decide)] at h;cases h
theorem Pfx.len {salt:Int}{as:List (D×D)}{path:List Int}{lk:Bool}(h:Pfx salt as path lk):as.length=path.length/\path.length<=lim salt:=by
 induction h with
 |nil=>exact⟨rfl,uG _⟩
 |snoc h1 h2 I L=>
  have B:=(J0 h2).2;unfold endB at B;rw [Bool.or_eq_false_iff] at B;have:=vk B.1;simp only [ul,v6];omega
theorem lim_le (salt:Int):lim salt<=40:=by unfold lim;split<;>decide
def prB (q c:D):Bool:=match q with
 | .tup [.str u,.str n]=>askB u n&&ansB u c
 |_=>false
theorem prB_ok {q c:D}(h:prB q c=true):PrOk (q,c):=by
 unfold prB at h;split at h
 ·rename_i u n
  rw [uh] at h;exact⟨u,n,rfl,h.1,h.2⟩
 ·cases h
theorem ch_all:(ASKS.all fun q=>(chF q).all fun c=>prB q c&&ANS.any fun x=>eqN x c)=true:=by decide+kernel
theorem ch_ok {q c:D}(hq:q∈ASKS)(B:c∈chF q):PrOk (q,c)/\c∈ANS:=by
 have h:=List.all_eq_true.mp (List.all_eq_true.mp ch_all q hq) c B;rw [uh] at h;refine⟨prB_ok h.1,?_⟩;obtain⟨x,hx,e⟩:=List.any_eq_true.mp h.2;have:=(Qr (kD_n (jO hx).1)).mp e;rw [<-this];exact hx
theorem ch_inj:(ASKS.all fun q=>(List.range (chF q).length).all fun i=>(List.range (chF q).length).all fun j=>decide (i=j)|| !eqN (pick (chF q) i) (pick (chF q) j))=true:=by decide+kernel
theorem ch_one {q c:D}{i j:Nat}(hq:q∈ASKS)(h1:(chF q)[i]? =some c)(h2:(chF q)[j]? =some c):i=j:=by
 have B:=(List.getElem?_eq_some_iff.mp h1).1;have I:=(List.getElem?_eq_some_iff.mp h2).1;have h:=List.all_eq_true.mp (List.all_eq_true.mp (List.all_eq_true.mp ch_inj q hq) i (List.mem_range.mpr B)) j (List.mem_range.mpr I);have L:pick (chF q) i=c:=by unfold pick;rw [vC,List.getD,h1];rfl
 have M:pick (chF q) j=c:=by unfold pick;rw [vC,List.getD,h2];rfl
 rw [L,M] at h;have hk:=(jO (ch_ok hq (ui h1)).2).1;rw [(Qr (kD_n hk)).mpr rfl,UE,Bool.or_false] at h;exact uk h
theorem end_ok {e:D}(h:e=s2 "fault" "lack"∨e∈ENDS):EndOk e:=by
 simp only [ENDS,uY,uQ,Ud] at h;rcases h with rfl|rfl|rfl|rfl|rfl
 ·exact .inr ⟨"lack",by decide+kernel,rfl⟩
 ·exact .inl ⟨_,rfl,by decide+kernel⟩
 ·exact .inl ⟨_,rfl,by decide+kernel⟩
 ·exact .inr ⟨"told",by decide+kernel,rfl⟩
 ·exact .inr ⟨"kind",by decide+kernel,rfl⟩
theorem Pfx.prs {salt:Int}{as:List (D×D)}{path:List Int}{lk:Bool}(h:Pfx salt as path lk):∀p∈as,PrOk p/\p.2∈ANS:=by
 induction h with
 |nil=>simp
 |snoc h1 h2 I L=>
  intro p B;rcases List.mem_append.mp B with B|B
  ·exact L p B
  ·cases List.mem_singleton.mp B;exact ch_ok (J0 h2).1 (ui I)
theorem WayR.run {salt:Int}{r:Rn}(h:WayR salt r):RunA r:=by
 obtain⟨path,lk,h1,h2⟩:=h;have:=h1.len;have:=lim_le salt;refine⟨⟨fun p B=>(h1.prs p B).1,end_ok (thF_end h2),by omega⟩,fun c I=> ?_⟩
 obtain⟨p,B,rfl⟩:=List.mem_map.mp I;exact(h1.prs p B).2
theorem Pfx.at {salt:Int}{as:List (D×D)}{path:List Int}{lk:Bool}(h:Pfx salt as path lk):∀i p,as[i]? =some p->∃B I,Pfx salt (as.take i) B I/\thF salt B I=(false,p.1):=by
 induction h with
 |nil=>intro i p e;simp at e
 | @snoc as path lk q c d h1 h2 h3 ih=>
  intro i p e;rcases uS i as.length with L|L
  ·rw [Ub L] at e;rw [List.take_append_of_le_length (by omega)]
   exact ih i p e
  ·have hi:i=as.length:=by
    have:=(List.getElem?_eq_some_iff.mp e).1;simp at this;omega
   subst hi;simp at e;subst e;refine⟨path,lk,?_,h2⟩;simp;exact h1
theorem Pfx.det {salt:Int}{as:List (D×D)}{path:List Int}{lk:Bool}(h:Pfx salt as path lk):∀{I:List (D×D)}{B:List Int}{L:Bool},Pfx salt I B L->as.map (·.2)=I.map (·.2)->path=B/\lk=L:=by
 induction h with
 |nil=>
  intro I B L h' e;cases h' with
  |nil=>exact⟨rfl,rfl⟩
  |snoc=>simp at e
 | @snoc as path lk q c d h1 h2 h3 ih=>
  intro I B L h' e;cases h' with
  |nil=>simp at e
  | @snoc as2 path2 lk2 q2 c2 d2 k1 k2 k3=>
   rw [uB,uB] at e;obtain⟨M,O⟩:=List.append_inj' e rfl;obtain⟨rfl,rfl⟩:=ih k1 M;rw [h2] at k2;cases k2;have R:c=c2:=by simpa using O
   subst R;rw [ch_one (J0 h2).1 h3 k3];exact⟨rfl,rfl⟩
theorem WayR.at {salt:Int}{r:Rn}(h:WayR salt r){i:Nat}(hi:i<=r.1.length):∃path lk,Pfx salt (r.1.take i) path lk/\thr r i=outF (thF salt path lk):=by
 obtain⟨path,lk,h1,h2⟩:=h;rcases uS i r.1.length with c|c
 ·obtain⟨B,I,L,M⟩:=h1.at i _ (u7 c);exact⟨B,I,L,by rw [yD (u7 c),M];rfl⟩
 ·refine⟨path,lk,by rw [ut c];exact h1,by rw [Ya c,h2];rfl⟩
theorem WayR.fit {salt:Int}{r r':Rn}(h:WayR salt r)(h':WayR salt r'):Fit r r':=fun p I B=>by
 obtain⟨x,Z,L,M⟩:=h.at (qU I);obtain⟨y,ly,O,R⟩:=h'.at (qU B);have U:(r.1.take p.length).map (·.2)=p:=by
  rw [List.map_take];exact(List.prefix_iff_eq_take.mp I).symm
 have Y:(r'.1.take p.length).map (·.2)=p:=by
  rw [List.map_take];exact(List.prefix_iff_eq_take.mp B).symm
 obtain⟨rfl,rfl⟩:=L.det O (U.trans Y.symm);rw [M,R]
def sp_way:Sp:=fun vs H Q _=>∃(salt:Int) (p:Addr),vs= [.int salt,.ref p]/\QZ H p/\∀(r:Rn) (v:V) (H':Hp),WayR salt r->Is H' (rnD r) v->QZ H' p->Kept p H H'->Q v H'
theorem asks_s2:∀q∈ASKS,∃u n,q=s2 u n:=by
 intro q hq;simp only [ASKS,uY,uQ,Ud] at hq;rcases hq with rfl|rfl|rfl|rfl|rfl<;>exact⟨_,_,rfl⟩
theorem chS_len (u:Str):0<(chS u).length/\(chS u).length<=6:=by
 unfold chS;split
 ·decide
 ·split<;>decide
theorem non_is {H:Hp}{d:D}{v:V}(h:Is H d v):decide (v= .non)=isNon d:=by
 by_cases c:d= .non
 ·subst c;cases(show v= .non from h)
  decide+kernel
 ·rw [ub (YV h c)];cases d with
  |non=>exact absurd rfl c
  |_=>rfl
theorem ok_way (T:Tx K mg a):FnOk P w K mg base CX0 2 a.f_law_way a.d_law_way ["salt","pot"] sp_way:=by
 have B:=ok_there (P:=P) (w:=w) (base:=base) T;have J2:=ok_choices (P:=P) (w:=w) (base:=base) T;have Qf:=ok_take (P:=P) (w:=w) (base:=base) T;refine T.g_law_way.F.ok q9 (by trivial) (fun _ _ _ _ H vs Q E hr h=> ?_)
 obtain⟨salt,p,rfl,ac,k⟩:=h;refine⟨_,(@qd _ _ _ _ _ (@qx _ _ (2) _ _ _ _ q9.nd rfl (Or.inl rfl) (@Qb _ _ _ _ qc) (by trivial) (by trivial)) (@qd _ _ _ _ _ (@qx _ _ (3) _ _ _ _ q9.nd rfl (Or.inl rfl) (@qk _ _ _ _ _ qc) (by trivial) (by trivial)) (@qd _ _ _ _ _ (@qx _ _ (4) _ _ _ _ q9.nd rfl (Or.inl rfl) QF (by trivial) (by trivial)) (@qd _ _ _ _ _ (@Q4 _ _ _ _ _ _ _ _ uO rfl (@jQ _ _ _ _ _ _ (by rfl) T.z_range (@qa _ _ _ _ _ qh qc (by trivial)) (by trivial)) (@qF _ _ (5) _ q9.nd rfl (Or.inl rfl) (by trivial)) (@qd _ _ _ _ _ (@ps_asg _ _ _ _ _ _ (@qt _ _ _ _ _ _ _ _ _ _ _ _ _ _ _ _ B (hr.mono (by trivial)) (by rfl) T.g_law_there.m T.g_law_there.F.kp T.g_law_there.b .nil qG (@qa _ _ _ _ _ (pv 0) (@qa _ _ _ _ _ (pv 2) (@qa _ _ _ _ _ (pv 4) qc (by trivial)) (by trivial)) (by trivial)) (by trivial) (by trivial) (by trivial)) (@pg_tup _ _ _ _ _ _ rfl (QT (@qF _ _ (6) _ q9.nd rfl (Or.inl rfl) (by trivial)) (QT (@qF _ _ (7) _ q9.nd rfl (Or.inl rfl) (by trivial)) JH)) (by trivial) (by trivial)) (by trivial) (by trivial) (by trivial)) (@qd _ _ _ _ _ (@qM _ _ _ _ _ _ _ _ (@Qw _ _ _ (pv 6) (by trivial)) (@qg _ _ _ (@qr _ _ _ _ (@qk _ _ _ _ _ (@qa _ _ _ _ _ (pv 3) (@qa _ _ _ _ _ (pv 7) qc (by trivial)) (by trivial))))) qs) (@qd _ _ _ _ _ (@qx _ _ (8) _ _ _ _ q9.nd rfl (Or.inl rfl) (@qt _ _ _ _ _ _ _ _ _ _ _ _ _ _ _ _ J2 (hr.mono (by trivial)) (by rfl) T.g_law_choices.m T.g_law_choices.F.kp T.g_law_choices.b .nil qG (@qa _ _ _ _ _ (pv 7) qc (by trivial)) (by trivial) (by trivial) (by trivial)) (by trivial) (by trivial)) (@qd _ _ _ _ _ (@QD _ _ _ _ (@pe_bm _ _ _ _ _ _ _ _ _ _ _ _ uH uZ v5 QB (pv 2) (@qa _ _ _ _ _ (@qt _ _ _ _ _ _ _ _ _ _ _ _ _ _ _ _ Qf (hr.mono (by trivial)) (by rfl) T.g_law_take.m T.g_law_take.F.kp T.g_law_take.b .nil qG (@qa _ _ _ _ _ (pv 1) (@qa _ _ _ _ _ (@qp _ _ _ _ _ _ _ _ _ qB (by rfl) T.yh uF (@qa _ _ _ _ _ (pv 8) qc (by trivial)) (by trivial) (by trivial) (by trivial) (by trivial)) qc (by trivial)) (by trivial)) (by trivial) (by trivial) (by trivial)) qc (by trivial)) (by trivial) (by trivial) (by trivial) (by trivial) (by trivial)) (by trivial)) (@qd _ _ _ _ _ (@qx _ _ (3) _ _ _ _ q9.nd rfl (Or.inl rfl) (@qY _ _ _ _ _ _ _ _ op_catG (pv 3) (@qk _ _ _ _ _ (@qa _ _ _ _ _ (@qk _ _ _ _ _ (@qa _ _ _ _ _ (pv 7) (@qa _ _ _ _ _ (@qA _ _ _ _ _ _ _ qW (pv 8) (@qA _ _ _ _ _ _ _ qW (pv 2) (@pe_un _ _ _ _ _ _ un_neg qh) (fun _ _=>rfl)) (fun _ _=>rfl)) qc (by trivial)) (by trivial))) qc (by trivial)))) (by trivial) (by trivial)) (@qg _ _ _ (@qx _ _ (4) _ _ _ _ q9.nd rfl (Or.inl rfl) (@QM _ _ _ _ _ _ _ _ Y5 (@qA _ _ _ _ _ _ _ qW (pv 8) (@qA _ _ _ _ _ _ _ qW (pv 2) (@pe_un _ _ _ _ _ _ un_neg qh) (fun _ _=>rfl)) (fun _ _=>rfl)) Qg (qw _)) (by trivial) (by trivial)))))))) (by trivial)) (@qg _ _ _ (@qr _ _ _ _ Qg)))))),?_⟩
 have af:(2:Nat)<=sizeLine:=by decide
 have zero:(0:Nat)<=sizeLine:=by decide
 refine⟨zero,fun pl ad=> ?_⟩;have z1:=qb ad (.lst []);have e1:(upd H pl (.lst [])) pl=some (.lst []):=qe;have ag:p≠pl:=ac.free ad;generalize upd H pl (.lst [])=H1 at z1 e1⊢;refine⟨zero,fun q0 h0=> ?_⟩;have z2:=z1.trans (qb h0 (.tup []));have e2:=(qb h0 (.tup [])) _ _ e1;have i2:Is (upd H1 q0 (.tup [])) (.tup []) (.ref q0):=Is.new (ds:= []) rfl h0;generalize upd H1 q0 (.tup [])=H2 at z2 e2 i2⊢;refine⟨50,rfl,by decide,by decide,?_⟩
 let J1_:Nat->L2.St->Hp->Prop:=fun i σ H'=>∃(as:List (D×D)) (path:List Int) (lk:Bool) (av:V) (o5 o6 o7 o8:Option V),σ= [some (.int salt),some (.ref p),some (.ref pl),some av,some (.bl lk),o5,o6,o7,o8]/\Pfx salt as path lk/\path.length=i/\H' pl=some (.lst (path.map V.int))/\Is H' (.tup (as.map prD)) av/\QZ H' p/\Kept p H H'
 refine for_range (n:=50) J1_ ⟨[],[],false,_,none,none,none,none,rfl,.nil,rfl,e2,i2,ac.same z2,z2.kept⟩ ?_ ?_
 ·rintro i σ H3 hi ⟨as,path,lk,av,o5,o6,o7,o8,rfl,hP,ah,e3,i3,I,ai⟩;refine⟨_,rfl,_,rfl,_,rfl,salt,pl,path,lk,rfl,e3,fun u H4 z4 i4=> ?_⟩;obtain⟨a4,aH,rfl,au,bv,r4,rfl,aw,tv,r5,rfl,M,ax⟩:=i4;cases(show r5= [] from ax)
  cases(show bv= .bl _ from aw)
  refine⟨a4,_,rfl,SqT.of au,rfl,_,_,rfl,_,_,rfl,rfl,?_⟩;refine⟨_,rfl,_,rfl,?_⟩;have i4:=i3.mono z4.tk;have aI:=hP.len;have aJ:=lim_le salt;cases Z:thF salt path lk with
  |mk b q=>
  rw [Z] at M;simp only at M⊢;cases b with
  |true=>
   refine iteT ?_;refine⟨_,rfl,_,rfl,af,fun l hl=> ?_⟩;have z5:=qb hl (.tup [av,tv]);refine k (as,q) _ _ ⟨path,lk,hP,Z⟩ (Is.new (ds:= [.tup (as.map prD),q]) ⟨_,_,rfl,i4,_,_,rfl,M,rfl⟩ hl) ((I.same z4).same z5) (ai.trans (z4.kept.trans z5.kept))
  |false=>
   refine iteF ?_;obtain⟨ay,_⟩:=J0 Z;obtain⟨u,n,rfl⟩:=asks_s2 q ay;refine⟨_,rfl,tv,u,n,rfl,M,fun L vs H5 z5 hL eL iL=> ?_⟩;have aa:=z4.trans z5;have aK:=iL.length;have aL:=chS_len u;have e5:=aa _ _ e3;have O:=I.same aa;refine⟨_,rfl,.inl ⟨rfl,_,SqL.of e5⟩,_,rfl,_,rfl,L,vs,rfl,.inl (SqL.of eL),p,_,rfl,O,by omega,by omega,fun d H6 d0 d1 R ab _=> ?_⟩
   have az:L≠p:=fun z=>by
    obtain⟨x,ex,_⟩:=I.same z4;rw [z,ex] at hL;cases hL
   have aj:L≠pl:=fun z=>by
    have:=z4 _ _ e3;rw [<-z,hL] at this;cases this
   have e6:=ab _ _ e5 ag.symm;have aA:=ab _ _ eL az;have t6:Tk H5 H6:=O.tk R ab;have aB:=iL.mono t6;refine⟨pl,_,_,rfl,rfl,e6,qX (by rw [ue];omega),?_⟩
   have t7:Tk H6 (upd H6 pl (.lst (path.map V.int++ [.int d]))):=Tk.updL e6;have e7:(upd H6 pl (.lst (path.map V.int++ [.int d]))) pl=some (.lst (path.map V.int++ [.int d])):=qe;have ae:(upd H6 pl (.lst (path.map V.int++ [.int d]))) L=some (.lst vs):=by rw [qi aj];exact aA
   have U:QZ (upd H6 pl (.lst (path.map V.int++ [.int d]))) p:=by
    obtain⟨x,ex,hx⟩:=R;exact⟨x,by rw [qi ag];exact ex,hx⟩
   have ak:Kept p H (upd H6 pl (.lst (path.map V.int++ [.int d]))):=fun b o h nb=>by
    rw [qi (qf h ad)];exact ab b o (aa b o (ai b o h nb)) nb
   have T7:=(aa.tk.trans t6).trans t7;have i7:=i3.mono T7;have al:=aB.mono t7;have am:=((M.mono z5.tk).mono t6).mono t7;generalize upd H6 pl (.lst (path.map V.int++ [.int d]))=H7 at t7 e7 ae U ak T7 i7 al am⊢;obtain⟨cv,ao,ap⟩:=Y4 al d0 (by omega)
   refine⟨_,rfl,_,rfl,_,rfl,_,rfl,_,rfl,pl,_,_,_,rfl,rfl,SqL.of e7,atI_last _ _,L,_,_,_,rfl,rfl,SqL.of ae,ao,af,fun l hl=> ?_⟩;have z8:=qb hl (.tup [tv,cv]);have i8:Is (upd H7 l (.tup [tv,cv])) (prD (s2 u n,pick (chS u) d)) (.ref l):=Is.new (ds:= [s2 u n,pick (chS u) d]) ⟨_,_,rfl,am,_,_,rfl,ap,rfl⟩ hl;generalize upd H7 l (.tup [tv,cv])=H8 at z8 i8⊢;refine⟨(by show 1<=sizeLine;decide),fun l2 aq=> ?_⟩
   have z9:=z8.trans (qb aq (.tup [.ref l]));have i9:Is (upd H8 l2 (.tup [.ref l])) (.tup [prD (s2 u n,pick (chS u) d)]) (.ref l2):=Is.new (ds:= [prD (s2 u n,pick (chS u) d)]) ⟨_,_,rfl,i8,rfl⟩ aq;generalize upd H8 l2 (.tup [.ref l])=H9 at z9 i9⊢;refine catG_is (i7.mono z9.tk) i9 (by rw [ue];refine Yb ?_;show _+1<=1000;omega) fun aC aM aD aE=> ?_
   have Y:=z9.trans aD;refine⟨_,rfl,_,rfl,_,rfl,pl,_,_,_,rfl,rfl,SqL.of (Y _ _ e7),atI_last _ _,L,_,_,_,rfl,rfl,SqL.of (Y _ _ ae),ao,rfl,?_⟩;obtain⟨dn,rfl⟩:=vA d0;have aF:dn<(chS u).length:=by omega
   have aG:(chS u)[dn]? =some (pick (chS u) dn):=by
    unfold pick;rw [vC,List.getD,u7 aF]
    rfl
   refine⟨as++ [(s2 u n,pick (chS u) dn)],path++ [(dn:Int)],isNon (pick (chS u) dn),aC,some (.int (0+(i:Int))),some (.bl false),some tv,some (.ref L),?_,.snoc hP Z aG,by rw [ul,ah];rfl,?_,?_,U.same Y,ak.trans Y.kept⟩
   ·rw [non_is ap]
    rfl
   ·rw [uB];exact Y _ _ e7
   ·rw [uB];exact aE
 ·rintro σ H3 ⟨as,path,lk,av,o5,o6,o7,o8,rfl,hP,ah,_⟩;have:=hP.len;have:=lim_le salt;omega
end
end K27
namespace K27
open PySem L2 PyProof.Rows
def okP:D->D
 | .tup [_,c]=>loD c
 |d=>d
def okL:D->List D
 | .tup [.tup ps,_]=>ps.map okP
 |_=> []
theorem Jt (r:Rn):okL (rnD r)=(ans r).map loD:=by
 unfold rnD;simp only [okL,v7,ans]
 rfl
theorem prD_inj {p q:D×D}(h:prD p=prD q):p=q:=by
 unfold prD at h;injection h with h
 injection h with h1 h
 injection h with h2 h
 exact Prod.ext h1 h2
theorem map_inj {α β:Type}{f:α->β}(B:∀x y,f x=f y->x=y):∀{l m:List α},l.map f=m.map f->l=m
 | [],[],_=>rfl
 | [],_::_,h=>by simp at h
 |_::_,[],h=>by simp at h
 |x::l,y::m,h=>by
  rw [uo,uo] at h;injection h with h1 h2
  rw [B x y h1,map_inj B h2]
theorem rnD_inj {r r':Rn}(h:rnD r=rnD r'):r=r':=by
 unfold rnD at h;injection h with h
 injection h with h1 h
 injection h with h2 h
 injection h1 with h1
 exact Prod.ext (map_inj (fun _ _=>prD_inj) h1) h2
theorem tri:∀a b:List Nat,a<b∨a=b∨b<a
 | [],[]=> .inr (.inl rfl)
 | [],y::b=> .inl (by simp)
 |x::a,[]=> .inr (.inr (by simp))
 |x::a,y::b=>by
  rw [vv,vv];rcases Nat.lt_trichotomy x y with h|h|h
  ·exact .inl (.inl h)
  ·subst h;rcases tri a b with h|h|h
   ·exact .inl (.inr ⟨rfl,h⟩)
   ·exact .inr (.inl (by rw [h]))
   ·exact .inr (.inr (.inr ⟨rfl,h⟩))
  ·exact .inr (.inr (.inl h))
theorem ltL_lo:∀{xs ys:List D},(∀c∈xs,c∈ANS)->(∀c∈ys,c∈ANS)->ltL (xs.map loD) (ys.map loD)=some (decide (xs.map aR<ys.map aR))
 | [],[],_,_=>by simp [ltL]
 | [],y::q,_,_=>by simp [ltL]
 |x::r,[],_,_=>by simp [ltL]
 |x::r,y::q,h1,h2=>by
  have I:=ltL_lo (xs:=r) (ys:=q) (fun c B=>h1 c (u9 _ B)) (fun c B=>h2 c (u9 _ B));have:=ans_lo x (h1 x ua) y (h2 y ua);rw [uh,Bool.or_eq_true] at this;have L:=beq_iff_eq.mp this.1;simp only [uo,ltL];rw [L];by_cases c:aR x=aR y
  ·rw [if_pos (uc c),I]
   congr 1
   rw [uz,vv];constructor
   ·intro h;exact .inr ⟨c,h⟩
   ·rintro(h|h)
    ·omega
    ·exact h.2
  ·rw [if_neg (by simpa using c)]
   rcases this.2 with h|h
   ·exact absurd (uk h) c
   ·rw [uk h]
    congr 1
    rw [uz,vv];constructor
    ·exact .inl
    ·rintro(h|h)
     ·exact h
     ·exact absurd h.1 c
theorem Ym {r r':Rn}(h:RunA r)(h':RunA r'):ltL (okL (rnD r)) (okL (rnD r'))=some (decide (rk r<rk r'))/\ltK okL (rnD r) (rnD r')=decide (rk r<rk r'):=by
 have e:=ltL_lo h.an h'.an;refine⟨by rw [Jt,Jt];exact e,?_⟩
 unfold ltK;rw [Jt,Jt,e]
 rfl
theorem lo_pu:∀{xs:List D},(∀c∈xs,c∈ANS)->puL (xs.map loD)=true/\dpL (xs.map loD)<=10
 | [],_=>⟨rfl,by simp [dpL]⟩
 |x::r,h=>by
  have B:=lo_pu (xs:=r) fun c I=>h c (u9 _ I);have:=ans_lp x (h x ua);rw [uh] at this;have h2:=uk this.2;simp only [uo,puL,dpL];exact⟨by rw [this.1,B.1];rfl,by omega⟩
theorem keys_ok {rs:List Rn}(h:∀r∈rs,RunA r):KeysOk true okL (rs.map rnD):=by
 have g:∀x∈rs.map rnD,∃r,RunA r/\x=rnD r:=fun x hx=>let⟨r,B,e⟩:=List.mem_map.mp hx;⟨r,h r B,e.symm⟩;refine⟨fun x hx=> ?_,fun z=>(by cases z),fun x hx y M=> ?_,⟨fun x hx=> ?_,fun x hx y M z hz=> ?_,fun x hx y M z hz=> ?_⟩⟩
 ·obtain⟨r,B,rfl⟩:=g x hx;rw [Jt];have:=lo_pu B.an;exact⟨this.1,by omega⟩
 ·obtain⟨r,B,rfl⟩:=g x hx;obtain⟨r',O,rfl⟩:=g y M;exact⟨_,(Ym B O).1⟩
 ·obtain⟨r,B,rfl⟩:=g x hx;rw [(Ym B B).2];exact ub (List.lt_irrefl _)
 ·obtain⟨r,B,rfl⟩:=g x hx;obtain⟨U,I,rfl⟩:=g y M;obtain⟨Y,L,rfl⟩:=g z hz;rw [(Ym B I).2,(Ym I L).2,(Ym B L).2];simp only [uW];exact List.lt_trans
 ·obtain⟨r,B,rfl⟩:=g x hx;obtain⟨U,I,rfl⟩:=g y M;obtain⟨Y,L,rfl⟩:=g z hz;rw [(Ym B I).2,(Ym I L).2,(Ym B L).2];simp only [uW];intro R;rcases tri (rk r) (rk U) with c|c|c
  ·exact .inl c
  ·rw [c] at R;exact .inr R
  ·exact .inr (List.lt_trans c R)
theorem ofs:∀{l:List D},(∀x∈l,∃r,x=rnD r)->∃ws:List Rn,l=ws.map rnD
 | [],_=>⟨[],rfl⟩
 |x::l,h=>by
  obtain⟨r,rfl⟩:=h x ua;obtain⟨ws,rfl⟩:=ofs fun y B=>h y (u9 _ B);exact⟨r::ws,rfl⟩
theorem mem_rn {ws:List Rn}{r:Rn}:rnD r∈ws.map rnD↔r∈ws:=⟨fun h=>let⟨r',h1,h2⟩:=List.mem_map.mp h;rnD_inj h2▸h1,fun h=>List.mem_map.mpr ⟨r,h,rfl⟩⟩
theorem rk_ne {r r':Rn}(h:RunA r)(h':RunA r')(f:Fit r r')(n:r≠r'):rk r≠rk r':=fun e=>n (by
 have I:ans r=ans r':=by
  unfold rk at e;have key:∀{xs ys:List D},(∀c∈xs,c∈ANS)->(∀c∈ys,c∈ANS)->xs.map aR=ys.map aR->xs=ys:=by
   intro xs
   induction xs with
   |nil=>intro ys _ _ h;cases ys with
    |nil=>rfl
    |cons=>simp at h
   |cons x xs L=>
    intro ys h1 h2 h;cases ys with
    |nil=>simp at h
    |cons y ys=>
     rw [uo,uo] at h;injection h with M a2
     rw [Yh (h1 x ua) (h2 y ua) M,L (fun c B=>h1 c (u9 _ B)) (fun c B=>h2 c (u9 _ B)) a2]
  exact key h.an h'.an e
 exact fit_one h.ok h'.ok f (by rw [I];exact Uf _))
theorem srt_of {rs:List Rn}{ys:List (D×V)}{kvs:List (D×V×V)}(hk:kvs.map (·.1)=rs.map rnD)(M:∀r∈rs,RunA r)(F:Fits rs)(nd:(kvs.map (·.1)).Nodup)(B:ys.Perm (kvs.map fun p=>(p.1,p.2.1)))(L:ys.Pairwise fun x y=>ltK okL y.1 x.1=false):
  ∃ws:List Rn,ys.map (·.1)=ws.map rnD/\Srt ws/\(∀x,x∈ws↔x∈rs)/\ws.length=rs.length:=by
 have pm:(ys.map (·.1)).Perm (rs.map rnD):=by
  have:=B.map (·.1);rw [v7] at this;rw [<-hk];exact this
 obtain⟨ws,I⟩:=ofs (l:=ys.map (·.1)) fun x hx=>let⟨r,_,e⟩:=List.mem_map.mp (pm.mem_iff.mp hx);⟨r,e.symm⟩;have hm:∀x,x∈ws↔x∈rs:=fun x=>by rw [<-mem_rn,<-I,pm.mem_iff,mem_rn]
 refine⟨ws,I,?_,hm,?_⟩
 ·have h1:(ws.map rnD).Pairwise fun x y=>ltK okL y x=false:=by rw [<-I];exact List.pairwise_map.mpr L
  have h2:(ws.map rnD).Nodup:=by rw [<-I];exact pm.nodup_iff.mpr (by rw [<-hk];exact nd)
  have Y:=List.pairwise_map.mp (h1.and h2);refine Y.imp_of_mem fun{x y} hx O h=> ?_;have R:=M x ((hm x).mp hx);have U:=M y ((hm y).mp O);have h4:=h.1;rw [(Ym U R).2] at h4;have Z:=vk h4;have h6:=rk_ne R U (F x ((hm x).mp hx) y ((hm y).mp O)) fun z=>h.2 (by rw [z])
  rcases tri (rk x) (rk y) with c|c|c
  ·exact c
  ·exact absurd c h6
  ·exact absurd c Z
 ·have:=pm.length_eq;rw [I,ue,ue] at this;exact this
def yT (w:World)(H:Hp)(kd:Addr)(rs:List Rn):Prop:=∃kvs,DAt w H kd kvs/\kvs.map (·.1)=rs.map rnD/\∀p∈kvs,Is H (.tup []) p.2.2
theorem yT.keep {w:World}{H H':Hp}{kd:Addr}{rs:List Rn}(h:yT w H kd rs)(t:Tk H H')(e:∀o,H kd=some o->H' kd=some o):yT w H' kd rs:=let⟨kvs,g,h1,h2⟩:=h;⟨kvs,g.keep t ((e _ g.here).trans g.here.symm),h1,fun p B=>(h2 p B).mono t⟩
def KeyR (r:Rn):Prop:=kD (rnD r)=true/\dp (rnD r)<=8
theorem kL_all:∀{xs:List D},(∀x∈xs,kD x=true)->kL xs=true
 | [],_=>rfl
 |x::r,h=>by simp only [kL,h x ua,kL_all fun y B=>h y (u9 _ B),Bool.and_self]
theorem JZ {n:Nat}:∀{xs:List D},(∀x∈xs,dp x<=n)->dpL xs<=n
 | [],_=>by simp [dpL]
 |x::r,h=>by
  have:=JZ fun y B=>h y (u9 _ B);have:=h x ua;simp only [dpL];omega
theorem ends_k:(ENDS++ [s2 "fault" "lack"]).all (fun e=>kD e&&decide (dp e<=5))=true:=by decide+kernel
theorem WayR.key {salt:Int}{r:Rn}(h:WayR salt r):KeyR r:=by
 have L:=h.run;obtain⟨path,lk,h1,h2⟩:=h;have I:(kD r.2&&decide (dp r.2<=5))=true:=by
  refine List.all_eq_true.mp ends_k r.2 ?_;rcases thF_end h2 with h|h
  ·rw [h];simp
  ·exact vR _ h
 rw [uh] at I;have M:=uk I.2;have B:∀x∈r.1.map prD,kD x=true/\dp x<=4:=fun x hx=>by
  obtain⟨p,B,rfl⟩:=List.mem_map.mp hx;obtain⟨u,n,e,_⟩:=(L.ok.prs p B).ask;obtain⟨O,U⟩:=jO (L.an p.2 (List.mem_map.mpr ⟨p,B,rfl⟩));unfold prD;rw [e];exact⟨by simp [kD,kL,O],by simp only [dp,dpL];omega⟩
 have R:=kL_all fun x hx=>(B x hx).1;have Y:=JZ (n:=4) fun x hx=>(B x hx).2;unfold KeyR rnD;exact⟨by simp [kD,kL,R,I.1],by simp only [dp,dpL];omega⟩
def sp_order:Sp:=fun vs H Q _=>∃(v:V) (r:Rn),vs= [v]/\RunA r/\Is H (rnD r) v/\∀(u:V) (H':Hp),Same H H'->yM true okL H' (rnD r) u->Q u H'
def sp_lput (w:World):Sp:=fun vs H Q _=>∃(kd:Addr) (v gv:V) (rs:List Rn) (r:Rn),vs= [.ref kd,v,gv]/\yT w H kd rs/\Is H (rnD r) v/\Is H (.tup []) gv/\KeyR r/\rs.length<100/\∀(H':Hp) (rs':List Rn),yT w H' kd rs'->(∀x,x∈rs'↔x=r∨x∈rs)->rs'.length<=rs.length+1->Kept kd H H'->Tk H H'->Q .non H'
def sp_due (w:World):Sp:=fun vs H Q _=>∃(kd:Addr) (rs:List Rn),vs= [.ref kd]/\yT w H kd rs/\(∀r∈rs,RunA r)/\Fits rs/\rs.length<64/\∀(u:V) (H':Hp) (ws:List Rn),Same H H'->Srt ws->(∀x,x∈ws↔x∈rs)->Is H' (.tup (ws.map (wayD (.tup [])))) u->Q u H'
section
variable {P:Program}{w:World}{K:PySem.W.Frag}{mg:Str->Option Value}{base:Heap}{a:Ad}{g:Ga}
theorem ok_order (T:Tx K mg a):FnOk P w K mg base CX0 9 a.jC a.jH ["run"] sp_order:=by
 have jY:FnOk P w K mg base CX0 8 a.yG a.yH ["tree"] (YR 7):=ok_lkey T 7;refine T.g_law_order.F.ok QP (by trivial) (fun _ _ _ _ H vs Q E hr h=> ?_)
 obtain⟨v,r,rfl,hR,iv,k⟩:=h;refine⟨_,(@qd _ _ _ _ _ (@qx _ _ (1) _ _ _ _ QP.nd rfl (Or.inl rfl) (@Qb _ _ _ _ qc) (by trivial) (by trivial)) (@qd _ _ _ _ _ (@Q4 _ _ _ _ _ _ _ _ uO rfl (@pi_tup _ _ _ _ (@qA _ _ _ _ _ _ _ qD (pv 0) qh (fun _ _=>rfl))) (@pg_tup _ _ _ _ _ _ rfl (QT (@qF _ _ (2) _ QP.nd rfl (Or.inl rfl) (by trivial)) (QT (@qF _ _ (3) _ QP.nd rfl (Or.inl rfl) (by trivial)) JH)) (by trivial) (by trivial)) (@qg _ _ _ (@qM _ _ _ _ _ _ _ _ (@qq _ _ _ _ _ _ _ _ Y5 (pv 3) Qg (qw _)) (@qg _ _ _ (@QD _ _ _ _ (@pe_bm _ _ _ _ _ _ _ _ _ _ _ _ uH uZ v5 QB (pv 1) (@qa _ _ _ _ _ (@qk _ _ _ _ _ (@qa _ _ _ _ _ qh qc (by trivial))) qc (by trivial)) (by trivial) (by trivial) (by trivial) (by trivial) (by trivial)) (by trivial))) (@qg _ _ _ (@QD _ _ _ _ (@pe_bm _ _ _ _ _ _ _ _ _ _ _ _ uH uZ v5 QB (pv 1) (@qa _ _ _ _ _ (@qk _ _ _ _ _ (@qa _ _ _ _ _ qh (@qa _ _ _ _ _ (@qt _ _ _ _ _ _ _ _ _ _ _ _ _ _ _ _ jY (hr.mono (by trivial)) (by rfl) T.g_law_key.m T.g_law_key.F.kp T.g_law_key.b .nil qG (@qa _ _ _ _ _ (pv 3) qc (by trivial)) (by trivial) (by trivial) (by trivial)) qc (by trivial)) (by trivial))) qc (by trivial)) (by trivial) (by trivial) (by trivial) (by trivial) (by trivial)) (by trivial))))) (by trivial)) (@qg _ _ _ (@qr _ _ _ _ (pv 1))))),?_⟩
 have aa:Is H (.tup [.tup (r.1.map prD),r.2]) v:=iv;refine⟨(by show 0<=sizeLine;decide),fun B R=> ?_⟩
 have z1:=qb R (.lst []);have e1:(upd H B (.lst [])) B=some (.lst []):=qe;generalize upd H B (.lst [])=H1 at z1 e1⊢;refine⟨_,rfl,?_⟩;refine gi (i:=0) (d:= .tup (r.1.map prD)) (aa.mono z1.tk) (qm (j:=0) rfl) fun pv ab=> ?_;obtain⟨a0,vs,rfl,U,Y⟩:=ab;have lv:vs.length=r.1.length:=by rw [Y.length];simp
 refine⟨a0,rfl,⟨vs,SqT.of U⟩,?_⟩
 let J1_:Nat->L2.St->Hp->Prop:=fun i σ H'=>∃(us:List V) (o2 o3:Option V),σ= [some v,some (.ref B),o2,o3]/\Same H H'/\Tk H1 H'/\H' a0=some (.tup vs)/\H' B=some (.lst us)/\IsL H' (((ans r).take i).map loD) us
 refine for_tup (K:=K) (a:=a0) (xs:=vs) J1_ ⟨[],none,none,rfl,z1,Tk.refl _,U,e1,rfl⟩ (fun i σ H' _ ⟨_,_,_,_,_,_,h,_⟩=>SqT.of h) ?_ ?_
 ·rintro i x σ H2 hx ⟨us,o2,o3,rfl,z2,t2,Z,M,i2⟩;have ac:i<r.1.length:=by rw [<-lv];exact(List.getElem?_eq_some_iff.mp hx).1
  obtain⟨p,hp⟩:∃p,r.1[i]? =some p:=⟨_,u7 ac⟩;obtain⟨x',ex,ix⟩:=Y.get (d:=prD p) (i:=i) (by rw [um,hp];rfl)
  rw [hx] at ex;cases ex;obtain⟨b0,ws,rfl,ad,qv,r1,rfl,ah,cv,r2,rfl,L,ae⟩:=ix.mono t2;cases(show r2= [] from ae)
  refine⟨b0,_,rfl,SqT.of ad,rfl,_,_,rfl,_,_,rfl,rfl,?_⟩;have af:p.2∈ANS:=hR.an _ (List.mem_map.mpr ⟨p,ui hp,rfl⟩);have ag:(ans r).take (i+1)=(ans r).take i++ [p.2]:=by rw [uE,Ys,hp];rfl
  have ai:us.length<=50:=by
   rw [i2.length,ue,uV,qP];have:=hR.ok.len;omega
  have done:∀(O:Hp) (l:Addr),Same H2 O->Is O (loD p.2) (.ref l)->J1_ (i+1) [some v,some (.ref B),some qv,some cv] (upd O B (.lst (us++ [.ref l]))):=fun O l I i3=>by
   have e3:=I _ _ M;have t4:Tk O (upd O B (.lst (us++ [.ref l]))):=Tk.updL e3;refine⟨us++ [.ref l],_,_,rfl,fun b o h=>by rw [qi (qf h R)];exact I _ _ (z2 b o h),(t2.trans I.tk).trans t4,t4.tup _ _ (I _ _ Z),qe,?_⟩
   rw [ag,uB];exact((i2.mono I.tk).mono t4).append (IsL.one (i3.mono t4))
  refine⟨_,rfl,rfl,_,rfl,?_⟩;by_cases cn:p.2= .non
  ·rw [cn] at L;cases(show cv= .non from L)
   refine qR (by decide+kernel) ?_
   refine⟨_,rfl,.inl ⟨rfl,_,SqL.of M⟩,(by show 1<=sizeLine;decide),fun l hl=> ?_⟩
   have I:=qb hl (.tup [.int 0]);refine⟨B,us,_,rfl,rfl,I _ _ M,qX (by omega),?_⟩
   refine done _ l I ?_;rw [cn];exact Is.new (ds:= [.int 0]) ⟨_,_,rfl,rfl,rfl⟩ hl
  ·refine qC (ub (YV L cn)) ?_;obtain⟨l1,l2,_⟩:=ans_lw p.2 af cn;refine⟨_,rfl,.inl ⟨rfl,_,SqL.of M⟩,_,rfl,cv,p.2,rfl,L,l1,by omega,fun u O I i3=> ?_⟩
   refine⟨(by show 2<=sizeLine;decide),fun l hl=> ?_⟩
   have z4:=I.trans (qb hl (.tup [.int 1,u]));refine⟨B,us,_,rfl,rfl,z4 _ _ M,qX (by omega),?_⟩
   refine done _ l z4 ?_;have e:loD p.2= .tup [.int 1,lkD p.2]:=by
    cases h:p.2 with
    |non=>exact absurd h cn
    |_=>rfl
   rw [e];exact Is.new (ds:= [.int 1,lkD p.2]) ⟨_,_,rfl,rfl,_,_,rfl,i3,rfl⟩ hl
 ·rintro σ H2 ⟨us,o2,o3,rfl,z2,t2,Z,M,i2⟩;refine⟨_,rfl,k _ _ z2 ?_⟩;unfold yM;rw [if_pos rfl,Jt];rw [lv,<-qP,vn] at i2;exact⟨B,us,rfl,M,i2⟩
theorem ok_due (T:Tx K mg a):FnOk P w K mg base CX0 12 a.f_law_due a.d_law_due ["kept"] (sp_due w):=by
 have y9:=ok_order (P:=P) (w:=w) (base:=base) T;refine T.g_law_due.F.ok sc_law_due (by trivial) (fun _ _ _ _ H _ Q E hr h=> ?_)
 obtain⟨kd,rs,rfl,⟨kvs,I,hk,hv⟩,hR,hF,M,k⟩:=h;refine⟨_,(@qg _ _ _ (@qr _ _ _ _ (@qN _ _ _ _ _ _ _ _ _ qH (by rfl) T.Qj vq (@qa _ _ _ _ _ (@pe_lc _ _ (["run","kept"]) (1) ([0]) _ _ _ _ _ _ _ _ _ (lcsN (qj Yu) ["kept"]) rfl (@Y1 _ _ _ _ (@xc _ _ _ _ _ _ _ (false) _ _ _ _ _ _ _ (⟨0,0,0,0⟩) (⟨0,0,0,0⟩) (0) _ rfl rfl rfl y9 (hr.mono (by trivial)) T.g_law_order.b (by rfl) T.Yq (by rfl) T.g_law_order.m (pv 0) (by trivial) (by trivial))) (fun _ _ _ _ _ _=>(@qF _ _ (0) _ (show List.Nodup (["run","kept"]:List Str) by decide+kernel) rfl (Or.inl rfl) (by trivial))) (fun _ _ _ _ _ _=> @yj _) (fun _ _ _ _ _ _=>(@qk _ _ _ _ _ (@qa _ _ _ _ _ (pv 0) (@qa _ _ _ _ _ (@J7 _ _ _ _ _ _ (w) rfl hr.units (pv 1) (pv 0) (fun _ _=>rfl)) qc (by trivial)) (by trivial)))) (by trivial)) qc (by trivial)) (by trivial) (by trivial) (by trivial) (by trivial)))),?_⟩
 have lk:kvs.length=rs.length:=by have:=congrArg List.length hk;simpa using this
 refine⟨_,rfl,kd,kvs,true,okL,rfl,I,by omega,by rw [hk];exact keys_ok hR,fun x hx H1 z1 Q' q'=> ?_,fun H1 ys q z1 hq B U=> ?_⟩
 ·obtain⟨r,hr,e⟩:=List.mem_map.mp (show x.1∈rs.map rnD by rw [<-hk];exact List.mem_map.mpr ⟨x,hx,rfl⟩)
  refine⟨x.2.1,r,rfl,hR r hr,?_,fun u H2 L i2=>q' u H2 L (by rw [<-e];exact i2)⟩
  rw [e];exact(I.ks x hx).1.mono z1.tk
 rw [if_neg (by decide)] at U
 obtain⟨ws,ew,hs,hm,ae⟩:=srt_of hk hR hF I.nd B U;have L:=z1.trans (qb hq (.lst (ys.map (·.2))));have e2:(upd H1 q (.lst (ys.map (·.2)))) q=some (.lst (ys.map (·.2))):=qe;generalize upd H1 q (.lst (ys.map (·.2)))=H2 at L e2⊢;have af:ys.length=ws.length:=by have:=congrArg List.length ew;simpa using this
 have iL:IsL H2 (ws.map rnD) (ys.map (·.2)):=by
  rw [<-ew];have key:∀(zs:List (D×V)),(∀z∈zs,Is H2 z.1 z.2)->IsL H2 (zs.map (·.1)) (zs.map (·.2)):=by
   intro zs
   induction zs with
   |nil=>intro _;rfl
   |cons z zs ih=>intro h;exact⟨_,_,rfl,h z ua,ih fun y hy=>h y (u9 _ hy)⟩
  refine key ys fun z hz=> ?_;obtain⟨x,hx,e⟩:=List.mem_map.mp (B.mem_iff.mp hz);rw [<-e];exact(I.ks x hx).1.mono L.tk
 refine⟨q,rfl,⟨_,SqL.of e2⟩,fun A0 aa=> ?_⟩;refine lc_lstS (K:=K) (tl:= [some (.ref kd)]) (fun d=> .tup [d,.tup []]) e2 iL (by rw [ue];exact Yb (by omega)) aa (fun d0 x0 H3 R ab z3 i3 r=> ?_) fun H3 us z3 l3 i3=> ?_
 ·obtain⟨O,ac,rfl⟩:=List.mem_map.mp ab;have g3:=(I.same L).same z3;have Y:rnD O∈kvs.map (·.1):=by rw [hk];exact mem_rn.mpr ((hm O).mp ac)
  obtain⟨y,hy,ey⟩:=List.mem_map.mp Y;have Z:kD (rnD O)=true:=by rw [<-ey];exact(I.ks y hy).2.1
  have ad:dp (rnD O)<=8:=by rw [<-ey];exact(I.ks y hy).2.2
  obtain⟨x,hx,ex,ev⟩:=yA g3 Z Y;refine⟨_,rfl,_,rfl,_,rfl,kd,kvs,rnD O,_,rfl,g3,⟨i3,Z,ad⟩,ev,(by show 2<=sizeLine;decide),fun l M=>r _ _ (qb M _) ?_⟩
  exact Is.new (ds:= [rnD O,.tup []]) ⟨_,_,rfl,i3,_,_,rfl,((hv x hx).mono L.tk).mono z3.tk,rfl⟩ M
 ·refine⟨A0,us,rfl,.inl ⟨SqL.of l3,fun l M=>k _ _ ws (L.trans (z3.trans (qb M _))) hs hm ?_⟩⟩;have:=Is.new i3 M;rw [v7] at this;exact this
theorem ok_lput (T:Tx K mg a):FnOk P w K mg base CX0 1 a.f_law_put a.d_law_put ["kept","run","givers"] (sp_lput w):=by
 refine T.g_law_put.F.ok sc_law_put (by trivial) (fun _ _ _ _ H _ Q E hr h=> ?_)
 obtain⟨kd,v,gv,rs,r,rfl,⟨kvs,O,hk,hv⟩,iv,ig,I,hl,k⟩:=h;refine⟨_,(@qg _ _ _ (@ps_putD _ _ _ _ _ _ _ _ _ (w) rfl hr.units (pv 0) (pv 1) (@qN _ _ _ _ _ _ _ _ _ qH (by rfl) T.Qj vq (@qa _ _ _ _ _ (@qp _ _ _ _ _ _ _ _ _ (@jb _ rfl) (by rfl) T.Yq boot_sorted (@qa _ _ _ _ _ (@qN _ _ _ _ _ _ _ _ _ (@Jb _ rfl) (by rfl) T.z_set L2.JO (@qa _ _ _ _ _ (@qY _ _ _ _ _ _ _ _ op_catG (@pe_get2D _ _ _ _ _ _ _ _ _ (w) rfl hr.units (pv 0) (pv 1) (@qk _ _ _ _ _ qc) ⟨rfl,rfl,rfl,rfl⟩) (pv 2)) qc (by trivial)) (by trivial) (by trivial) (by trivial) (by trivial)) qc (by trivial)) (by trivial) (by trivial) (by trivial) (by trivial)) qc (by trivial)) (by trivial) (by trivial) (by trivial) (by trivial)) rfl)),?_⟩
 have lk:kvs.length=rs.length:=by have:=congrArg List.length hk;simpa using this
 refine⟨_,rfl,kd,kvs,rfl,O,_,rfl,(by show 0<=sizeLine;decide),fun q0 h0=> ?_⟩
 have R:=qb h0 (.tup []);have i1:Is (upd H q0 (.tup [])) (.tup []) (.ref q0):=Is.new (ds:= []) rfl h0;generalize upd H q0 (.tup [])=H1 at R i1⊢;refine⟨kvs,rnD r,O.same R,⟨iv.mono R.tk,I.1,I.2⟩,?_⟩;have iO:Is H1 (.tup []) ((valD kvs (rnD r)).getD (.ref q0)):=by
  cases e:valD kvs (rnD r) with
  |none=>exact i1
  |some y=>
   have L:(valD kvs (rnD r)).isSome=true:=by rw [e];rfl
   obtain⟨x,hx,ex,ev⟩:=yA O I.1 ((Qq O I.1).mp L);rw [e] at ev;cases ev;exact(hv x hx).mono R.tk
 refine⟨_,rfl,?_⟩;refine catG_is iO (ig.mono R.tk) (by show 0<=sizeLine;decide) fun cv H2 z2 i2=> ?_
 obtain⟨t0,v0,rfl,ab,ac⟩:=i2;cases(show v0= [] from ac)
 refine⟨t0,rfl,SqT.of ab,fun q1 h1=>⟨q1,rfl,qe,fun q2 h2=>⟨q2,[],rfl,.inl ⟨SqL.of qe,fun l hl=> ?_⟩⟩⟩⟩;have z3:=(qb h1 (nilS q1)).trans ((qb h2 (.lst [])).trans (qb hl (.tup [])));have i3:Is (upd (upd (upd H2 q1 (nilS q1)) q2 (.lst [])) l (.tup [])) (.tup []) (.ref l):=Is.new (ds:= []) rfl hl;generalize upd (upd (upd H2 q1 (nilS q1)) q2 (.lst [])) l (.tup [])=U at z3 i3⊢;have Y:=R.trans (z2.trans z3);have g3:=O.same Y;have aa:KOk U (rnD r) v:=⟨iv.mono Y.tk,I.1,I.2⟩;refine⟨_,rfl,_,rfl,kd,kvs,rnD r,rfl,g3,aa,by rw [vi];omega,?_⟩
 have g4:=g3.put (v:= .ref l) aa;have Z:Tk U (upd U kd (dExt w kd (putD kvs (rnD r) v (.ref l)))):=tk_ext g3;have kp:Kept kd H (upd U kd (dExt w kd (putD kvs (rnD r) v (.ref l)))):=fun b o h n=>by rw [qi n];exact Y b o h
 have M:∀p∈putD kvs (rnD r) v (.ref l),Is (upd U kd (dExt w kd (putD kvs (rnD r) v (.ref l)))) (.tup []) p.2.2:=fun p hp=>by
  unfold putD at hp;split at hp
  ·rcases mod_mem hp with h|⟨y,_,rfl⟩
   ·exact((hv p h).mono Y.tk).mono Z
   ·exact i3.mono Z
  ·rcases List.mem_append.mp hp with h|h
   ·exact((hv p h).mono Y.tk).mono Z
   ·cases List.mem_singleton.mp h;exact i3.mono Z
 have B:=put_keys kvs (rnD r) v (.ref l);have Zt:=Y.tk.trans Z;generalize upd U kd (dExt w kd (putD kvs (rnD r) v (.ref l)))=H4 at g4 Z kp M Zt⊢;cases e:ixV kvs (rnD r) with
 |none=>
  rw [e] at B;refine k H4 (rs++ [r]) ⟨_,g4,by rw [B,if_neg (by simp),hk,uB];rfl,M⟩ (fun x=> ?_) (by simp) kp Zt
  rw [List.mem_append,List.mem_singleton];exact or_comm
 |some i=>
  rw [e] at B;have L:r∈rs:=by
   rw [<-mem_rn,<-hk];by_cases c:rnD r∈kvs.map (·.1)
   ·exact c
   ·have:(valD kvs (rnD r)).isSome=true:=by
     unfold valD;rw [e];unfold ixV at e;rw [uN] at e;obtain⟨h1,_⟩:=e;simp [h1]
    exact(Qq O I.1).mp this
  refine k H4 rs ⟨_,g4,by rw [B,if_pos (show(some i).isSome=true from rfl),hk],M⟩ (fun x=> ?_) (by omega) kp Zt
  exact⟨.inr,fun h=>h.elim (fun h=>by rw [h];exact L) id⟩
end
theorem lc_lstF {K:PySem.W.Frag}{a A:Addr}{H1:Hp}{tc:TT}{te:TE}{tl:L2.St}{Q:VK}{ds:List D}{vs:List V}(f:D->Bool)(ha:H1 a=some (.lst vs))(U:IsL H1 ds vs)(hn:ds.length<=sizeLine)(Y:H1 A=none)
  (M:∀d x H (R:Bool->Hp->Prop),d∈ds->Same H1 H->Is H d x->R (f d) H->tc (some x::tl) H R)
  (O:∀x H (R:VK),R x H->te (some x::tl) H R)
  (hQ:∀H' ys,Same H1 H'->H' A=some (.lst ys)->IsL H' (ds.filter f) ys->Q (.ref A) H'):lcGo A (Itl K a) (Yk 0) tc te (none::tl) H1 Q:=by
 have ln:=U.length;refine⟨ds.length,fun i σ ys H=>(∃w,σ=w::tl)/\IsL H ((ds.take i).filter f) ys/\Same H1 H,hn,⟨⟨none,rfl⟩,rfl,qb Y _⟩,?_,?_⟩
 ·rintro i σ ys H hi ⟨⟨w,rfl⟩,L,I⟩ B aa;refine⟨⟨vs,vs[i]'(by omega),SqL.of (I _ _ ha),u7 _⟩,fun x H' y=> ?_⟩
  obtain⟨rfl,y⟩:=y;obtain⟨v,e1,e2⟩:=U.get (u7 hi);have Z:=y vs (SqL.of (I _ _ ha));rw [e1] at Z;cases Z;have et:ds.take (i+1)=ds.take i++ [ds[i]]:=by rw [uE,u7 hi];rfl
  have i2:=e2.mono I.tk;dsimp only [Yk,List.set];refine M ds[i] x H' _ (uJ hi) I i2 ?_;cases hp:f ds[i] with
  |true=>
   refine iteT (O x H' _ ⟨B,⟨_,rfl⟩,?_,fun b o e=>by rw [qi (qf e Y)];exact I b o e⟩)
   have t:Tk H' (upd H' A (.lst (ys++ [x]))):=Tk.updL B;rw [et,List.filter_append];have: [ds[i]].filter f= [ds[i]]:=by simp [hp]
   rw [this];exact(L.mono t).append (IsL.one (i2.mono t))
  |false=>
   refine iteF ⟨B,⟨_,rfl⟩,?_,I⟩;rw [et,List.filter_append];have: [ds[i]].filter f= []:=by simp [hp]
   rw [this,uU];exact L
 ·rintro σ ys H ⟨_,L,I⟩ B;rw [vn] at L;exact⟨⟨vs,SqL.of (I _ _ ha),by omega⟩,hQ H ys I B L⟩
theorem eI (i j:Int):decide (V.int i=V.int j)=decide (i=j):=by
 rw [uz];exact⟨fun h=>V.int.inj h,fun h=>by rw [h]⟩
def ansAt (i:Nat)(d:D):D:=match d with
 | .tup [.tup ps,_]=>match ps[i]? with
  |some (.tup [_,c])=>c
  |_=> .non
 |_=> .non
theorem ansAt_rn {r:Rn}{i:Nat}{p:D×D}(h:r.1[i]? =some p):ansAt i (rnD r)=p.2:=by
 unfold rnD ansAt;simp only [um,h]
 rfl
def sp_walked:Sp:=fun vs H Q _=>∃(L:Addr) (uv:List V) (av:V) (ws:List Rn) (as:List D),vs= [.ref L,av]/\H L=some (.lst uv)/\IsL H (ws.map rnD) uv/\Is H (.tup as) av/\(∀c∈as,c∈ANS)/\(∀r∈ws,RunA r)/\Fits ws/\as.length<=200/\ws.length<=100/\
 ∀(u:V) (H':Hp),Same H H'->Is H' (wkD ws as) u->Q u H'
theorem lf_len (ws:List Rn)(p:List D):(lf ws p).length<=ws.length:=List.length_filter_le _ _
section
open Classical
theorem lf_step {ws:List Rn}{p:List D}{c:D}(L:∀r∈ws,RunA r)(M:∀r∈ws,p<+:ans r->p.length<r.1.length):((lf ws p).map rnD).filter (fun d=>eqN (ansAt p.length d) c)=(lf ws (p++ [c])).map rnD:=by
 rw [List.filter_map]
 congr 1
 unfold lf;rw [List.filter_filter];refine List.filter_congr fun r I=> ?_;by_cases B:p<+:ans r
 ·have h2:=M r I B;have O:=ansAt_rn (u7 h2);have hm:(r.1[p.length]).2∈ANS:=(L r I).an _ (List.mem_map.mpr ⟨_,uJ h2,rfl⟩);simp only [Function.comp];rw [O,uc B,UC,vh,uW,Qr (kD_n (jO hm).1),QG,Ys,u7 h2];constructor
  ·intro h;exact⟨B,by simp [h]⟩
  ·intro h;simpa using h.2
 ·rw [ub B,Uy];exact(ub fun z=>B (Qn z)).symm
end
section
variable {P:Program}{w:World}{K:PySem.W.Frag}{mg:Str->Option Value}{base:Heap}{a:Ad}{g:Ga}
theorem ok_walked (T:Tx K mg a):FnOk P w K mg base CX0 1 a.jm a.jd ["runs","answers"] sp_walked:=by
 refine T.g_law_walked.F.ok qQ (by trivial) (fun _ _ _ _ H vs Q E hr h=> ?_)
 obtain⟨L,uv,av,ws,as,rfl,hL,aI,aJ,aK,aa,hF,a5,a6,k⟩:=h;refine⟨_,(@qd _ _ _ _ _ (@qx _ _ (2) _ _ _ _ qQ.nd rfl (Or.inr rfl) (@qk _ _ _ _ _ qc) (by trivial) (by trivial)) (@qd _ _ _ _ _ (@qx _ _ (3) _ _ _ _ qQ.nd rfl (Or.inl rfl) (@qN _ _ _ _ _ _ _ _ _ call_list_of (by rfl) T.z_list boot_list (@qa _ _ _ _ _ (pv 0) qc (by trivial)) (by trivial) (by trivial) (by trivial) (by trivial)) (by trivial) (by trivial)) (@qd _ _ _ _ _ (@Q4 _ _ _ _ _ _ _ _ uO rfl (@pi_tup _ _ _ _ (pv 1)) (@qF _ _ (4) _ qQ.nd rfl (Or.inr rfl) (by trivial)) (@qd _ _ _ _ _ (@qM _ _ _ _ _ _ _ _ (@YO _ _ _ _ _ _ _ (@qq _ _ _ _ _ _ _ _ (@op_eqE _ hr.units0) (pv 3) (@Qb _ _ _ _ qc) (qw _)) (@yN _ _ _ _ (@qq _ _ _ _ _ _ _ _ QK (@qp _ _ _ _ _ _ _ _ _ qB (by rfl) T.yh uF (@qa _ _ _ _ _ (@qA _ _ _ _ _ _ _ qD (@qA _ _ _ _ _ _ _ qW (pv 3) qh (fun _ _=>rfl)) qh (fun _ _=>rfl)) qc (by trivial)) (by trivial) (by trivial) (by trivial) (by trivial)) (@qp _ _ _ _ _ _ _ _ _ qB (by rfl) T.yh uF (@qa _ _ _ _ _ (pv 2) qc (by trivial)) (by trivial) (by trivial) (by trivial) (by trivial)) (qw _)))).pt (@qg _ _ _ ps_break) qs) (@qd _ _ _ _ _ (@qx _ _ (5) _ _ _ _ qQ.nd rfl (Or.inl rfl) (@qA _ _ _ _ _ _ _ qD (@qA _ _ _ _ _ _ _ qD (@qA _ _ _ _ _ _ _ qD (@qA _ _ _ _ _ _ _ qW (pv 3) qh (fun _ _=>rfl)) qh (fun _ _=>rfl)) (@qp _ _ _ _ _ _ _ _ _ qB (by rfl) T.yh uF (@qa _ _ _ _ _ (pv 2) qc (by trivial)) (by trivial) (by trivial) (by trivial) (by trivial)) (fun _ _=>rfl)) qh (fun _ _=>rfl)) (by trivial) (by trivial)) (@qd _ _ _ _ _ (@ps_setLC _ _ (["run","tree","asks"]) (1) ([4,2]) (6) _ _ _ _ _ _ _ _ _ _ _ _ qQ.nd rfl (Or.inl rfl) (lcsN (qj QS) ["runs","answers","asks","left","tree","ask","after"]) rfl (@Y1 _ _ _ _ (pv 3)) (fun _ _ _ _ _ _=>(@qF _ _ (0) _ (show List.Nodup (["run","tree","asks"]:List Str) by decide+kernel) rfl (Or.inl rfl) (by trivial))) (fun _ _ _ _ _ _=>(@pif_one _ _ _ (@qq _ _ _ _ _ _ _ _ (@op_eqA _ hr.units) (@qA _ _ _ _ _ _ _ (@ix_tupK _ (K) rfl) (@qA _ _ _ _ _ _ _ (@ix_tupK _ (K) rfl) (@qA _ _ _ _ _ _ _ (@ix_tupK _ (K) rfl) (pv 0) qh (fun _ _=>rfl)) (@qp _ _ _ _ _ _ _ _ _ (@Yt _ (K) rfl) (by rfl) T.yh uF (@qa _ _ _ _ _ (pv 2) qc (by trivial)) (by trivial) (by trivial) (by trivial) (by trivial)) (fun _ _=>rfl)) qh (fun _ _=>rfl)) (pv 1) (qw _)))) (fun _ _ _ _ _ _=>(pv 0)) (by trivial) (by trivial) (by trivial)) (@qd _ _ _ _ _ (@qM _ _ _ _ _ _ _ _ (@qq _ _ _ _ _ _ _ _ (@op_eqE _ hr.units0) (pv 6) (@Qb _ _ _ _ qc) (qw _)) (@qg _ _ _ (@qr _ _ _ _ (@qk _ _ _ _ _ (@qa _ _ _ _ _ (pv 2) (@qa _ _ _ _ _ Qg qc (by trivial)) (by trivial))))) qs) (@qd _ _ _ _ _ (@qx _ _ (2) _ _ _ _ qQ.nd rfl (Or.inr rfl) (@qY _ _ _ _ _ _ _ _ op_catG (pv 2) (@qk _ _ _ _ _ (@qa _ _ _ _ _ (@qk _ _ _ _ _ (@qa _ _ _ _ _ (pv 5) (@qa _ _ _ _ _ (pv 4) qc (by trivial)) (by trivial))) qc (by trivial)))) (by trivial) (by trivial)) (@qg _ _ _ (@qx _ _ (3) _ _ _ _ qQ.nd rfl (Or.inl rfl) (pv 6) (by trivial) (by trivial)))))))) (by trivial)) (@qd _ _ _ _ _ (@qM _ _ _ _ _ _ _ _ (@qq _ _ _ _ _ _ _ _ (@op_eqE _ hr.units0) (pv 3) (@Qb _ _ _ _ qc) (qw _)) (@qg _ _ _ (@qr _ _ _ _ (@qk _ _ _ _ _ (@qa _ _ _ _ _ (@qk _ _ _ _ _ qc) (@qa _ _ _ _ _ Qg qc (by trivial)) (by trivial))))) qs) (@qd _ _ _ _ _ (@qM _ _ _ _ _ _ _ _ (@qq _ _ _ _ _ _ _ _ QK (@qp _ _ _ _ _ _ _ _ _ qB (by rfl) T.yh uF (@qa _ _ _ _ _ (@qA _ _ _ _ _ _ _ qD (@qA _ _ _ _ _ _ _ qW (pv 3) qh (fun _ _=>rfl)) qh (fun _ _=>rfl)) qc (by trivial)) (by trivial) (by trivial) (by trivial) (by trivial)) (@qp _ _ _ _ _ _ _ _ _ qB (by rfl) T.yh uF (@qa _ _ _ _ _ (pv 2) qc (by trivial)) (by trivial) (by trivial) (by trivial) (by trivial)) (qw _)) (@qg _ _ _ (@qr _ _ _ _ (@qk _ _ _ _ _ (@qa _ _ _ _ _ (pv 2) (@qa _ _ _ _ _ (@qA _ _ _ _ _ _ _ qD (@qA _ _ _ _ _ _ _ qW (pv 3) qh (fun _ _=>rfl)) qh (fun _ _=>rfl)) qc (by trivial)) (by trivial))))) qs) (@qg _ _ _ (@qr _ _ _ _ (@qk _ _ _ _ _ (@qa _ _ _ _ _ (pv 2) (@qa _ _ _ _ _ (@qk _ _ _ _ _ (@qa _ _ _ _ _ qo (@qa _ _ _ _ _ (@qA _ _ _ _ _ _ _ qD (@qA _ _ _ _ _ _ _ qD (@qA _ _ _ _ _ _ _ qD (@qA _ _ _ _ _ _ _ qW (pv 3) qh (fun _ _=>rfl)) qh (fun _ _=>rfl)) (@qp _ _ _ _ _ _ _ _ _ qB (by rfl) T.yh uF (@qa _ _ _ _ _ (pv 2) qc (by trivial)) (by trivial) (by trivial) (by trivial) (by trivial)) (fun _ _=>rfl)) qh (fun _ _=>rfl)) qc (by trivial)) (by trivial))) qc (by trivial)) (by trivial)))))))))),?_⟩
 have ad:(2:Nat)<=sizeLine:=by decide
 refine⟨(by show 0<=sizeLine;decide),fun q0 h0=> ?_⟩
 have z1:=qb h0 (.tup []);have e1:(upd H q0 (.tup [])) q0=some (.tup []):=qe;generalize upd H q0 (.tup [])=H1 at z1 e1⊢;refine⟨_,rfl,L,uv,rfl,.inl (SqL.of (z1 _ _ hL)),fun M ae=> ?_⟩;have z2:=z1.trans (qb ae (.lst uv));have e2:=(qb ae (.lst uv)) _ _ e1;have ax:(upd H1 M (.lst uv)) M=some (.lst uv):=qe;generalize upd H1 M (.lst uv)=H2 at z2 e2 ax⊢;obtain⟨a0,vs,rfl,ay,az⟩:=aJ;have lv:=az.length;refine⟨_,rfl,a0,rfl,⟨vs,SqT.of (z2 _ _ ay)⟩,?_⟩
 let J1_:Nat->L2.St->Hp->Prop:=fun i σ H'=>∃(U:List (D×D)) (Y:Addr) (B:List V) (M:Addr) (I:List V) (o4 o5 o6:Option V),σ= [some (.ref L),some (.ref a0),some (.ref Y),some (.ref M),o4,o5,o6]/\Same H H'/\H' Y=some (.tup B)/\IsL H' (U.map prD) B/\U.length=i/\H' M=some (.lst I)/\IsL H' ((lf ws (as.take i)).map rnD) I/\wk ws (as.take i) U (as.drop i)=wk ws [] [] as/\((ws= []/\i=0)∨∃r∈ws,as.take i<+:ans r)
 let R1_:L2.St->Hp->Prop:=fun σ H'=>∃(p:List D) (U:List (D×D)) (Y:Addr) (B:List V) (M:Addr) (I:List V) (o4 o5 o6:Option V),σ= [some (.ref L),some (.ref a0),some (.ref Y),some (.ref M),o4,o5,o6]/\Same H H'/\H' Y=some (.tup B)/\IsL H' (U.map prD) B/\U.length=p.length/\H' M=some (.lst I)/\IsL H' ((lf ws p).map rnD) I/\(U,th ws p)=wk ws [] [] as/\((ws= []/\U= [])∨∃r∈ws,p<+:ans r)
 have aA:∀{p:List D}{I:List V}{H':Hp},IsL H' ((lf ws p).map rnD) I->(∃r∈ws,p<+:ans r)->∃r v0 rest,r∈ws/\p<+:ans r/\I=v0::rest/\Is H' (.tup [.tup (r.1.map prD),r.2]) v0:=fun{p I H'} hi hd=>by
  cases e:lf ws p with
  |nil=>exact absurd e (lf_ne hd)
  |cons r rest=>
   rw [e] at hi;obtain⟨v0,r0,rfl,h1,_⟩:=hi;obtain⟨h2,h3⟩:=yq.mp (show r∈lf ws p by rw [e];exact ua)
   exact⟨r,v0,r0,h2,h3,rfl,h1⟩
 refine for_tupR (K:=K) (a:=a0) (xs:=vs) J1_ R1_ ?_ ?_ (fun i σ H' _ ⟨_,_,_,_,_,_,_,_,_,S1,_⟩=>SqT.of (S1 _ _ ay)) (fun aB i x σ H' hx h=> ?_) (fun σ H' h=> ?_)
 ·rintro σ H' ⟨p,U,Y,B,M,I,o4,o5,o6,rfl,S1,eg,ig,lg,el,il,ew,hc⟩;have ak:B.length=U.length:=by rw [ig.length,ue]
  refine⟨_,rfl,(by show 0<=sizeLine;decide),fun q1 h1=> ?_⟩
  have O:=qb h1 (.lst []);have af:(upd H' q1 (.lst [])) q1=some (.lst []):=qe;generalize upd H' q1 (.lst [])=G1 at O af⊢;refine⟨M,q1,I,rfl,rfl,SqL.of (O _ _ el),SqL.of af,_,rfl,?_⟩;rcases hc with⟨rfl,rfl⟩|hd
  ·have:I= []:=by
    have:=il.length
    simpa [lf] using this
   subst this;refine qR (by decide+kernel) ?_
   refine⟨(by show 0<=sizeLine;decide),fun q2 h2=>⟨ad,fun q3 h3=>k _ _ (S1.trans (O.trans ((qb h2 _).trans (qb h3 _)))) ?_⟩⟩
   unfold wkD;rw [<-ew,QY];exact Is.new (ds:= [.tup [],.non]) ⟨_,_,rfl,Is.new (ds:= []) rfl h2,_,_,rfl,rfl,rfl⟩ h3
  ·obtain⟨r,v0,rest,hr,hp,rfl,i0⟩:=aA il hd;refine qC (by simp) ?_
   have ab:=th_eq hF hr hp;have j0:=i0.mono O.tk;refine⟨_,rfl,M,_,_,v0,rfl,rfl,SqL.of (O _ _ el),qm (j:=0) rfl,?_⟩;refine gi (i:=0) (d:= .tup (r.1.map prD)) j0 (qm (j:=0) rfl) fun pv Z=> ?_;obtain⟨pa,ag,rfl,au,ah⟩:=Z;have lp:ag.length=r.1.length:=by rw [ah.length,ue]
   refine⟨pa,ag,rfl,.inr (SqT.of au),_,rfl,Y,B,rfl,.inr (SqT.of (O _ _ eg)),rfl,_,rfl,?_⟩;rw [eI];by_cases c:r.1.length=p.length
   ·refine qR (uc (by omega)) ?_
    refine⟨_,rfl,_,rfl,M,_,_,v0,rfl,rfl,SqL.of (O _ _ el),qm (j:=0) rfl,?_⟩;refine gi (i:=1) (d:=r.2) j0 (qm (j:=1) rfl) fun ev aL=> ?_;refine⟨ad,fun q3 h3=>k _ _ (S1.trans (O.trans (qb h3 _))) ?_⟩;unfold wkD;rw [<-ew,ab,Ya (by omega)]
    exact Is.new (ds:= [.tup (U.map prD),r.2]) ⟨_,_,rfl,⟨Y,B,rfl,O _ _ eg,ig.mono O.tk⟩,_,_,rfl,aL,rfl⟩ h3
   ·refine qC (ub (by omega)) ?_
    have ai:p.length<r.1.length:=by have:=qU hp;omega
    refine⟨_,rfl,_,rfl,M,_,_,v0,rfl,rfl,SqL.of (O _ _ el),qm (j:=0) rfl,?_⟩;refine gi (i:=0) (d:= .tup (r.1.map prD)) j0 (qm (j:=0) rfl) fun pv Z=> ?_;refine⟨_,rfl,Y,B,rfl,.inr (SqT.of (O _ _ eg)),?_⟩;refine ix_is (i:=(B.length:Int)) (d:=prD r.1[p.length]) Z (qm (by rw [ak,lg,um,u7 ai];rfl)) fun pp aj=> ?_
    refine gi (i:=0) (d:=(r.1[p.length]).1) aj (qm (j:=0) rfl) fun qv aw=> ?_;refine⟨ad,fun q2 h2=>⟨ad,fun q3 h3=>k _ _ (S1.trans (O.trans ((qb h2 _).trans (qb h3 _)))) ?_⟩⟩;unfold wkD;rw [<-ew,ab,yD (u7 ai)];have y2:=qb h2 (.tup [.str "asks",qv]);exact Is.new (ds:= [.tup (U.map prD),.tup [.str "asks",(r.1[p.length]).1]]) ⟨_,_,rfl,⟨Y,B,rfl,y2 _ _ (O _ _ eg),(ig.mono O.tk).mono y2.tk⟩,_,_,rfl,Is.new (ds:= [.str "asks",(r.1[p.length]).1]) ⟨_,_,rfl,isS (by decide),_,_,rfl,aw,rfl⟩ h2,rfl⟩ h3
 ·refine⟨[],q0,[],M,uv,none,none,none,rfl,z2,e2,rfl,rfl,ax,by rw [Uc,lf_nil];exact aI.mono z2.tk,rfl,?_⟩
  cases ws with
  |nil=>exact .inl ⟨rfl,rfl⟩
  |cons r _=>exact .inr ⟨r,ua,vV⟩
 ·obtain⟨U,Y,B,M,I,o4,o5,o6,rfl,S1,eg,ig,lg,el,il,ew,hc⟩:=h;have ak:B.length=U.length:=by rw [ig.length,ue]
  have ai:i<as.length:=by rw [<-lv];exact(List.getElem?_eq_some_iff.mp hx).1
  obtain⟨c,al⟩:∃c,as[i]? =some c:=⟨_,u7 ai⟩;have aM:=aK c (ui al);obtain⟨aN,a7⟩:=jO aM;obtain⟨x',ex,ix⟩:=az.get al;rw [hx] at ex;cases ex;have aO:as.drop i=c::as.drop (i+1):=by
   rw [v9 ai];have:=(List.getElem?_eq_some_iff.mp al).2;rw [this]
  have htk:as.take i++ [c]=as.take (i+1):=by rw [uE,al];rfl
  have ac:(as.take i).length=i:=by rw [uV];omega
  rw [aO] at ew;refine⟨_,rfl,(by show 0<=sizeLine;decide),fun q1 h1=> ?_⟩
  have O:=qb h1 (.lst []);have af:(upd H' q1 (.lst [])) q1=some (.lst []):=qe;generalize upd H' q1 (.lst [])=G1 at O af⊢;refine⟨M,q1,I,rfl,rfl,SqL.of (O _ _ el),SqL.of af,_,rfl,?_⟩;have SG:=S1.trans O;have eg:=O _ _ eg;have ig:=ig.mono O.tk;have el:=O _ _ el;have il:=il.mono O.tk;rcases hc with⟨rfl,rfl⟩|hd
  ·have:I= []:=by
    have:=il.length
    simpa [lf] using this
   subst this;refine qR (by decide+kernel) ?_
   refine iteT ?_;cases U with
   |cons=>simp at lg
   |nil=>
   refine aB _ _ ⟨[],[],Y,B,M,[],some x,o5,o6,rfl,SG,eg,ig,rfl,el,by simpa [lf] using il,?_,.inl ⟨rfl,rfl⟩⟩
   rw [<-ew,jw (by simp) (by rw [QY];rfl),QY,QY]
  ·obtain⟨r,v0,rest,hr,hp,rfl,i0⟩:=aA il hd;refine qC (by simp) ?_
   have ab:=th_eq hF hr hp;refine⟨_,rfl,M,_,_,v0,rfl,rfl,SqL.of el,qm (j:=0) rfl,?_⟩;refine gi (i:=0) (d:= .tup (r.1.map prD)) i0 (qm (j:=0) rfl) fun pv Z=> ?_;obtain⟨pa,ag,rfl,au,ah⟩:=Z;have lp:ag.length=r.1.length:=by rw [ah.length,ue]
   refine⟨pa,ag,rfl,.inr (SqT.of au),_,rfl,Y,B,rfl,.inr (SqT.of eg),rfl,_,rfl,?_⟩;rw [eI];have aP:=qU hp;rw [ac] at aP ab;by_cases cl:r.1.length=i
   ·refine qR (uc (by omega)) ?_
    refine aB _ _ ⟨as.take i,U,Y,B,M,_,some x,o5,o6,rfl,SG,eg,ig,by omega,el,il,?_,.inr hd⟩
    rw [<-ew,jw ?_ (by rw [ab,qV (aa r hr).ok];exact ub (by omega))]
    rintro⟨r',aC,aD⟩;have e3:=hF r hr r' aC _ hp (Qn aD);have e4:=congrArg Yo e3;rw [qV (aa r hr).ok,qV (aa r' aC).ok,ac,ub (by omega)] at e4
    have e5:=vk e4.symm;have e6:=qU aD;rw [ul,ac,v6] at e6;omega
   ·refine qC (ub (by omega)) ?_
    have am:i<r.1.length:=by omega
    have ae:∀r'∈ws,as.take i<+:ans r'->(as.take i).length<r'.1.length:=fun r' h1 h2=>by
     have e4:=congrArg Yo (hF r hr r' h1 _ hp h2);rw [qV (aa r hr).ok,qV (aa r' h1).ok,ac,uc am] at e4;rw [ac];exact uk e4.symm
    refine⟨_,rfl,M,_,_,v0,rfl,rfl,SqL.of el,qm (j:=0) rfl,?_⟩;refine gi (i:=0) (d:= .tup (r.1.map prD)) i0 (qm (j:=0) rfl) fun pv Z=> ?_;refine⟨_,rfl,Y,B,rfl,.inr (SqT.of eg),?_⟩;refine ix_is (i:=(B.length:Int)) (d:=prD r.1[i]) Z (qm (by rw [ak,lg,um,u7 am];rfl)) fun pp aj=> ?_
    refine gi (i:=0) (d:=(r.1[i]).1) aj (qm (j:=0) rfl) fun qv aw=> ?_;refine⟨_,rfl,M,rfl,⟨_,SqL.of el⟩,fun A0 aQ=> ?_⟩;refine lc_lstF (K:=K) (tl:= [some x,some (.ref Y)]) (fun d=>eqN (ansAt (as.take i).length d) c) el il (by rw [ue];have:=lf_len ws (as.take i);exact Yb (by omega)) aQ (fun d y H3 R aS z3 i3 q3=> ?_) (fun y H3 R q3=>⟨_,rfl,q3⟩) fun H3 ys z3 e3 i3=> ?_
    ·obtain⟨r3,aT,rfl⟩:=List.mem_map.mp aS;obtain⟨aq,aU⟩:=yq.mp aT;have ao:=ae r3 aq aU;rw [ac] at ao;have aV:Is H3 (.tup [.tup (r3.1.map prD),r3.2]) y:=i3;have aW:(r3.1[i]).2∈ANS:=(aa r3 aq).an _ (List.mem_map.mpr ⟨_,uJ ao,rfl⟩);obtain⟨k3,d3⟩:=jO aW;rw [ac,ansAt_rn (u7 ao)] at q3;refine⟨_,rfl,?_⟩;refine gi (i:=0) (d:= .tup (r3.1.map prD)) aV (qm (j:=0) rfl) fun pv Z=> ?_;refine⟨_,rfl,Y,B,rfl,.inr (SqT.of (z3 _ _ eg)),?_⟩;refine ix_is (i:=(B.length:Int)) (d:=prD r3.1[i]) Z (qm (by rw [ak,lg,um,u7 ao];rfl)) fun pp aj=> ?_
     refine gi (i:=1) (d:=(r3.1[i]).2) aj (qm (j:=1) rfl) fun cv aX=> ?_;exact⟨_,rfl,_,c,aX,(ix.mono SG.tk).mono z3.tk,k3,aN,by omega,_,rfl,q3⟩
    ·rw [lf_step aa ae,htk] at i3;have S3:=SG.trans z3;have aE:=z3 _ _ eg;have aF:=ig.mono z3.tk;have aY:=aw.mono z3.tk;refine⟨_,rfl,(by show 0<=sizeLine;decide),fun q5 h5=> ?_⟩
     have y5:=qb h5 (.lst []);have aG:(upd H3 q5 (.lst [])) q5=some (.lst []):=qe;generalize upd H3 q5 (.lst [])=G5 at y5 aG⊢;refine⟨A0,q5,ys,rfl,rfl,SqL.of (y5 _ _ e3),SqL.of aG,_,rfl,?_⟩;have aH:Yo (thr r i)=true:=by rw [qV (aa r hr).ok];exact uc am
     by_cases cy:ys= []
     ·refine qR (uc cy) ?_;refine⟨_,rfl,ad,fun q6 h6=>k _ _ (S3.trans (y5.trans (qb h6 _))) ?_⟩;have aZ:¬∃r'∈ws,as.take i++ [c]<+:ans r':=by
       rw [htk];intro ap;have:=i3.length;rw [cy,ue] at this;exact lf_ne ap (List.length_eq_zero_iff.mp this.symm)
      unfold wkD;rw [<-ew,wk_out aZ (by rw [ab];exact aH)]
      exact Is.new (ds:= [.tup (U.map prD),.non]) ⟨_,_,rfl,⟨Y,B,rfl,y5 _ _ aE,aF.mono y5.tk⟩,_,_,rfl,rfl,rfl⟩ h6
     ·refine qC (ub cy) ?_;have ap:∃r'∈ws,as.take i++ [c]<+:ans r':=by
       rw [htk];cases e:lf ws (as.take (i+1)) with
       |nil=>
        rw [e] at i3;exact absurd (show ys= [] from i3) cy
       |cons r' _=>exact⟨r',yq.mp (show r'∈lf ws (as.take (i+1)) by rw [e];exact ua)⟩
      refine⟨_,rfl,_,rfl,_,rfl,ad,fun q6 h6=> ?_⟩;have y6:=qb h6 (.tup [qv,x]);have i6:Is (upd G5 q6 (.tup [qv,x])) (prD ((r.1[i]).1,c)) (.ref q6):=Is.new (ds:= [(r.1[i]).1,c]) ⟨_,_,rfl,aY.mono y5.tk,_,_,rfl,ix.mono (S3.trans y5).tk,rfl⟩ h6;generalize upd G5 q6 (.tup [qv,x])=G6 at y6 i6⊢;refine⟨(by show 1<=sizeLine;decide),fun q7 h7=> ?_⟩
      have y7:=qb h7 (.tup [.ref q6]);have i7:Is (upd G6 q7 (.tup [.ref q6])) (.tup [prD ((r.1[i]).1,c)]) (.ref q7):=Is.new (ds:= [prD ((r.1[i]).1,c)]) ⟨_,_,rfl,i6,rfl⟩ h7;generalize upd G6 q7 (.tup [.ref q6])=G7 at y7 i7⊢;have Y7:=y5.trans (y6.trans y7);refine catG_is (ds:=U.map prD) ⟨Y,B,rfl,Y7 _ _ aE,aF.mono Y7.tk⟩ i7 (by rw [ue];refine Yb ?_;show _+1<=1000;omega) fun a8 H8 z8 i8=> ?_
      obtain⟨a1,a2,rfl,a3,a4⟩:=i8;have Y8:=Y7.trans z8;refine⟨_,rfl,?_⟩;refine⟨U++ [((r.1[i]).1,c)],a1,a2,A0,ys,some x,some qv,some (.ref A0),rfl,S3.trans Y8,a3,by rw [uB];exact a4,by rw [ul,lg];rfl,Y8 _ _ e3,i3.mono Y8.tk,?_,.inr (by rw [<-htk];exact ap)⟩
      rw [<-ew,wk_in ap,ab,yD (u7 am),htk]
      rfl
 ·obtain⟨U,Y,B,M,I,o4,o5,o6,rfl,S1,eg,ig,lg,el,il,ew,hc⟩:=h;rw [lv,vn] at hc il;rw [lv,vn,List.drop_length,wk_nil] at ew;refine⟨as,U,Y,B,M,I,o4,o5,o6,rfl,S1,eg,ig,by omega,el,il,ew,?_⟩
  rcases hc with⟨h1,h2⟩|h
  ·exact .inl ⟨h1,List.length_eq_zero_iff.mp (by omega)⟩
  ·exact .inr h
end
end K27
namespace K27
open PySem L2 PyProof.Rows
open Builtin.Int (intBits)
def SOM:List D:= [.str "x",.str "",.non,.tup [.str "a"],.tup [.tup [.str "x"],.str "b1"],.str "yes",.str "no",.tup [],s2 "a" "b1"]
theorem som_all:SOM.all (fun c=>ANS.any fun x=>eqN x c)=true:=by decide+kernel
theorem som_ans {d:Int}(B:0<=d)(h1:d<9):pick SOM d∈ANS:=by
 have hm:=JA (l:=SOM) (n:=9) B h1 rfl;obtain⟨x,hx,e⟩:=List.any_eq_true.mp (List.all_eq_true.mp som_all _ hm);have:=(Qr (kD_n (jO hx).1)).mp e;rw [<-this];exact hx
theorem JG {vs:List V}{n:Nat}:cutV vs none (some (n:Int))=vs.take n:=by
 unfold cutV;rw [HT.sIx_none,HT.sIx_nat,List.drop_zero,Nat.sub_zero];rcases Nat.le_total n vs.length with h|h
 ·rw [Nat.min_eq_left h]
 ·rw [Nat.min_eq_right h,ut (Nat.le_refl _),ut h]
theorem isl_set {H:Hp}{d:D}{v:V}(hd:Is H d v):∀{ds:List D}{vs:List V} (j:Nat),IsL H ds vs->IsL H (ds.set j d) (vs.set j v)
 | [],_,j,h=>by cases(show _= [] from h);exact h
 |x::ds,_,0,h=>by
  obtain⟨y,r,rfl,h1,h2⟩:=h;exact⟨_,_,rfl,hd,h2⟩
 |x::ds,_,j+1,h=>by
  obtain⟨y,r,rfl,h1,h2⟩:=h;exact⟨_,_,rfl,h1,isl_set hd j h2⟩
theorem lc_second {K:PySem.W.Frag}{a A:Addr}{H1:Hp}{Q:VK}{ps:List (D×D)}{vs:List V}(ha:H1 a=some (.tup vs))(U:IsL H1 (ps.map prD) vs)(hn:ps.length<=sizeLine)(Y:H1 A=none)
  (hQ:∀H' ys,Same H1 H'->H' A=some (.lst ys)->IsL H' (ps.map (·.2)) ys->Q (.ref A) H'):lcGo A (Itt K a) (gTup K 2 (gCons (Yk 0) (gCons (Yk 1) gNil))) tYes (tVar 1) [none,none] H1 Q:=by
 have ln:vs.length=ps.length:=by rw [U.length,ue]
 refine⟨ps.length,fun i σ ys H=>(∃Z w2,σ= [Z,w2])/\IsL H ((ps.take i).map (·.2)) ys/\Same H1 H,hn,⟨⟨none,none,rfl⟩,rfl,qb Y _⟩,?_,?_⟩
 ·rintro i σ ys H hi ⟨⟨Z,w2,rfl⟩,L,I⟩ B aa;refine⟨⟨vs,vs[i]'(by omega),SqT.of (I _ _ ha),u7 _⟩,fun x H' y=> ?_⟩
  obtain⟨rfl,y⟩:=y;obtain⟨v,e1,e2⟩:=U.get (d:=prD ps[i]) (i:=i) (by rw [um,u7 hi];rfl)
  have e3:=y vs (SqT.of (I _ _ ha));rw [e1] at e3;cases e3;obtain⟨b0,zs,rfl,M,qv,r1,rfl,ab,cv,r2,rfl,O,R⟩:=e2.mono I.tk;cases(show r2= [] from R)
  refine⟨b0,_,rfl,SqT.of M,rfl,_,_,rfl,_,_,rfl,rfl,?_⟩;dsimp only [tYes];rw [if_pos rfl];refine⟨_,rfl,B,⟨_,_,rfl⟩,?_,fun b o e=>by rw [qi (qf e Y)];exact I b o e⟩
  have t:Tk H' (upd H' A (.lst (ys++ [cv]))):=Tk.updL B;have et:(ps.take (i+1)).map (·.2)=(ps.take i).map (·.2)++ [(ps[i]).2]:=by rw [uE,u7 hi,uB];rfl
  rw [et];exact(L.mono t).append (IsL.one (O.mono t))
 ·rintro σ ys H ⟨_,L,I⟩ B;rw [vn] at L;exact⟨⟨vs,SqT.of (I _ _ ha),Nat.le_of_eq ln⟩,hQ H ys I B L⟩
theorem none_of' {H H':Hp}{p b:Addr}(h:QZ H' p)(k:Kept p H H')(B:H' b=none):H b=none:=by
 cases e:H b with
 |none=>rfl
 |some o=>
  by_cases c:b=p
  ·subst c;obtain⟨x,ex,_⟩:=h;rw [ex] at B;cases B
  ·rw [k b o e c] at B;cases B
def sp_answers:Sp:=fun vs H Q _=>∃(p:Addr) (v:V) (r:Rn),vs= [.ref p,v]/\QZ H p/\Is H (rnD r) v/\RunA r/\∀(L:Addr) (uv:List V) (as:List D) (H':Hp),H L=none->H' L=some (.lst uv)->IsL H' as uv->(∀c∈as,c∈ANS)->as.length<=200->QZ H' p->Kept p H H'->Q (.ref L) H'
section
variable {P:Program}{w:World}{K:PySem.W.Frag}{mg:Str->Option Value}{base:Heap}{a:Ad}{g:Ga}
theorem ok_answers (T:Tx K mg a):FnOk P w K mg base CX0 2 a.YI a.YC ["pot","run"] sp_answers:=by
 have Qf:=ok_take (P:=P) (w:=w) (base:=base) T;refine T.g_law_answers.F.ok Qk (by trivial) (fun _ _ _ _ H _ Q E hr h=> ?_)
 obtain⟨p,v,r,rfl,ai,iv,hR,k⟩:=h;refine⟨_,(@qd _ _ _ _ _ (@ps_setLC _ _ (["ask","tree"]) (2) ([]) (2) _ _ _ _ _ _ _ _ _ _ _ _ Qk.nd rfl (Or.inl rfl) (lcsN (qj Qs) ["pot","run","answers","some","way","at"]) rfl (@Y0 _ _ _ _ (@qA _ _ _ _ _ _ _ qD (pv 1) qh (fun _ _=>rfl))) (fun _ _ _ _ _ _=>(@pg_tupK _ (K) _ _ _ (2) _ rfl rfl (QT (@qF _ _ (0) _ (show List.Nodup (["ask","tree"]:List Str) by decide+kernel) rfl (Or.inl rfl) (by trivial)) (QT (@qF _ _ (1) _ (show List.Nodup (["ask","tree"]:List Str) by decide+kernel) rfl (Or.inl rfl) (by trivial)) JH)) (by trivial) (by trivial))) (fun _ _ _ _ _ _=> @yj _) (fun _ _ _ _ _ _=>(pv 1)) (by trivial) (by trivial) (by trivial)) (@qd _ _ _ _ _ (@qx _ _ (3) _ _ _ _ Qk.nd rfl (Or.inr rfl) (@Qb _ _ _ _ (@qa _ _ _ _ _ qo (@qa _ _ _ _ _ qo (@qa _ _ _ _ _ Qg (@qa _ _ _ _ _ (@qk _ _ _ _ _ (@qa _ _ _ _ _ qo qc (by trivial))) (@qa _ _ _ _ _ (@qk _ _ _ _ _ (@qa _ _ _ _ _ (@qk _ _ _ _ _ (@qa _ _ _ _ _ qo qc (by trivial))) (@qa _ _ _ _ _ qo qc (by trivial)) (by trivial))) (@qa _ _ _ _ _ qo (@qa _ _ _ _ _ qo (@qa _ _ _ _ _ (@qk _ _ _ _ _ qc) (@qa _ _ _ _ _ (@qk _ _ _ _ _ (@qa _ _ _ _ _ qo (@qa _ _ _ _ _ qo qc (by trivial)) (by trivial))) qc (by trivial)) (by trivial)) (by trivial)) (by trivial)) (by trivial)) (by trivial)) (by trivial)) (by trivial)) (by trivial))) (by trivial) (by trivial)) (@qd _ _ _ _ _ (@qx _ _ (4) _ _ _ _ Qk.nd rfl (Or.inl rfl) (@qt _ _ _ _ _ _ _ _ _ _ _ _ _ _ _ _ Qf (hr.mono (by trivial)) (by rfl) T.g_law_take.m T.g_law_take.F.kp T.g_law_take.b .nil qG (@qa _ _ _ _ _ (pv 0) (@qa _ _ _ _ _ qh qc (by trivial)) (by trivial)) (by trivial) (by trivial) (by trivial)) (by trivial) (by trivial)) (@qd _ _ _ _ _ (@qx _ _ (5) _ _ _ _ Qk.nd rfl (Or.inl rfl) (@qt _ _ _ _ _ _ _ _ _ _ _ _ _ _ _ _ Qf (hr.mono (by trivial)) (by rfl) T.g_law_take.m T.g_law_take.F.kp T.g_law_take.b .nil qG (@qa _ _ _ _ _ (pv 0) (@qa _ _ _ _ _ (@qY _ _ _ _ _ _ _ _ ye (@qp _ _ _ _ _ _ _ _ _ qB (by rfl) T.yh uF (@qa _ _ _ _ _ (pv 2) qc (by trivial)) (by trivial) (by trivial) (by trivial) (by trivial)) qh) qc (by trivial)) (by trivial)) (by trivial) (by trivial) (by trivial)) (by trivial) (by trivial)) (@qd _ _ _ _ _ (@qM _ _ _ _ _ _ _ _ (@qq _ _ _ _ _ _ _ _ QK (pv 4) qh (qw _)) (@qg _ _ _ (@qr _ _ _ _ (@jp _ _ _ _ _ _ _ _ _ _ sl_list (pv 2) J6 (@JU _ _ _ (pv 5))))) qs) (@qd _ _ _ _ _ (@qM _ _ _ _ _ _ _ _ (@pw_and _ _ _ _ _ _ _ (@qq _ _ _ _ _ _ _ _ QK (pv 4) qh (qw _)) (@pw_and1 _ _ _ _ (@qq _ _ _ _ _ _ _ _ (@op_neN _ hr.units0) (pv 2) (@Qb _ _ _ _ qc) (qw _)))).pt (@qg _ _ _ (@ps_asg _ _ _ _ _ _ (@qA _ _ _ _ _ _ _ qW (pv 3) (@qt _ _ _ _ _ _ _ _ _ _ _ _ _ _ _ _ Qf (hr.mono (by trivial)) (by rfl) T.g_law_take.m T.g_law_take.F.kp T.g_law_take.b .nil qG (@qa _ _ _ _ _ (pv 0) (@qa _ _ _ _ _ (@qp _ _ _ _ _ _ _ _ _ qB (by rfl) T.yh uF (@qa _ _ _ _ _ (pv 3) qc (by trivial)) (by trivial) (by trivial) (by trivial) (by trivial)) qc (by trivial)) (by trivial)) (by trivial) (by trivial) (by trivial)) (fun _ _=>rfl)) (@pg_sub _ _ _ _ _ _ _ (pv 2) (@qY _ _ _ _ _ _ _ _ op_sub (pv 5) qh) set_list (by trivial)) (by trivial) (by trivial) (by trivial))) qs) (@qd _ _ _ _ _ (@qM _ _ _ _ _ _ _ _ (@qq _ _ _ _ _ _ _ _ QK (pv 4) qh (qw _)) (@qg _ _ _ (@QD _ _ _ _ (@pe_bm _ _ _ _ _ _ _ _ _ _ _ _ uH uZ v5 QB (pv 2) (@qa _ _ _ _ _ (@qA _ _ _ _ _ _ _ qW (pv 3) (@qt _ _ _ _ _ _ _ _ _ _ _ _ _ _ _ _ Qf (hr.mono (by trivial)) (by rfl) T.g_law_take.m T.g_law_take.F.kp T.g_law_take.b .nil qG (@qa _ _ _ _ _ (pv 0) (@qa _ _ _ _ _ (@qp _ _ _ _ _ _ _ _ _ qB (by rfl) T.yh uF (@qa _ _ _ _ _ (pv 3) qc (by trivial)) (by trivial) (by trivial) (by trivial) (by trivial)) qc (by trivial)) (by trivial)) (by trivial) (by trivial) (by trivial)) (fun _ _=>rfl)) qc (by trivial)) (by trivial) (by trivial) (by trivial) (by trivial) (by trivial)) (by trivial))) qs) (@qd _ _ _ _ _ (@qM _ _ _ _ _ _ _ _ (@qq _ _ _ _ _ _ _ _ QK (pv 4) qh (qw _)) (@qg _ _ _ (@qr _ _ _ _ (@pe_lc _ _ (["k","some","pot"]) (1) ([3,0]) _ _ _ _ _ _ _ _ _ (lcsN (qj Qs) ["pot","run","answers","some","way","at"]) rfl (@jQ _ _ _ _ _ _ (by rfl) T.z_range (@qa _ _ _ _ _ (@qY _ _ _ _ _ _ _ _ ye (pv 5) qh) qc (by trivial)) (by trivial)) (fun _ _ _ _ _ _=>(@qF _ _ (0) _ (show List.Nodup (["k","some","pot"]:List Str) by decide+kernel) rfl (Or.inl rfl) (by trivial))) (fun _ _ _ _ _ _=> @yj _) (fun _ _ _ _ _ _=>(@qA _ _ _ _ _ _ _ (@ix_listK _ (K) rfl) (pv 1) (@qt _ _ _ _ _ _ _ _ _ _ _ _ _ _ _ _ Qf (hr.mono (by trivial)) (by rfl) T.g_law_take.m T.g_law_take.F.kp T.g_law_take.b .nil qG (@qa _ _ _ _ _ (pv 2) (@qa _ _ _ _ _ (@qp _ _ _ _ _ _ _ _ _ (@Yt _ (K) rfl) (by rfl) T.yh uF (@qa _ _ _ _ _ (pv 1) qc (by trivial)) (by trivial) (by trivial) (by trivial) (by trivial)) qc (by trivial)) (by trivial)) (by trivial) (by trivial) (by trivial)) (fun _ _=>rfl))) (by trivial)))) qs) (@qg _ _ _ (@qr _ _ _ _ (pv 2))))))))))),?_⟩
 have aI:(2:Nat)<=sizeLine:=by decide
 have one:(1:Nat)<=sizeLine:=by decide
 have aU:Is H (.tup [.tup (r.1.map prD),r.2]) v:=iv;have a2:=hR.ok.len;refine⟨_,rfl,?_⟩;refine gi (i:=0) (d:= .tup (r.1.map prD)) aU (qm (j:=0) rfl) fun pv aV=> ?_;obtain⟨pa,aW,rfl,aJ,aK⟩:=aV;refine⟨pa,aW,rfl,SqT.of aJ,fun _ O aa=> ?_⟩;refine lc_second (K:=K) aJ aK (Yb (by omega)) aa fun H1 ys z1 eA iA=> ?_
 have iA:IsL H1 (ans r) ys:=iA;have a3:ys.length=r.1.length:=by rw [iA.length,qP]
 refine⟨one,fun q0 h0=>⟨one,fun q1 h1=>⟨aI,fun q2 h2=>⟨(by show 0<=sizeLine;decide),fun q3 h3=>⟨aI,fun q4 h4=>⟨(by show 9<=sizeLine;decide),fun SL az=> ?_⟩⟩⟩⟩⟩⟩
 have y0:=qb h0 (.tup [.str "a"]);have y1:=qb h1 (.tup [.str "x"]);have y2:=qb h2 (.tup [.ref q1,.str "b1"]);have y3:=qb h3 (.tup []);have y4:=qb h4 (.tup [.str "a",.str "b1"]);have yL:=qb az (.lst [.str "x",.str "",.non,.ref q0,.ref q2,.str "yes",.str "no",.ref q3,.ref q4]);have j0:=(((((Is.new (ds:= [.str "a"]) ⟨_,_,rfl,isS (by decide),rfl⟩ h0).mono y1.tk).mono y2.tk).mono y3.tk).mono y4.tk).mono yL.tk
 have j1:Is _ (.tup [.str "x"]) (.ref q1):=Is.new (ds:= [.str "x"]) ⟨_,_,rfl,isS (by decide),rfl⟩ h1
 have j2:=(((Is.new (ds:= [.tup [.str "x"],.str "b1"]) ⟨_,_,rfl,j1,_,_,rfl,isS (by decide),rfl⟩ h2).mono y3.tk).mono y4.tk).mono yL.tk
 have j3:=((Is.new (ds:= []) rfl h3).mono y4.tk).mono yL.tk;have j4:=(is2 (x:="a") (y:="b1") (by decide) (by decide) h4).mono yL.tk
 have iS:IsL _ SOM [.str "x",.str "",.non,.ref q0,.ref q2,.str "yes",.str "no",.ref q3,.ref q4]:=⟨_,_,rfl,isS (by decide),_,_,rfl,isS (by decide),_,_,rfl,rfl,_,_,rfl,j0,_,_,rfl,j2,_,_,rfl,isS (by decide),_,_,rfl,isS (by decide),_,_,rfl,j3,_,_,rfl,j4,rfl⟩
 have eS:(upd (upd (upd (upd (upd (upd H1 q0 (.tup [.str "a"])) q1 (.tup [.str "x"])) q2 (.tup [.ref q1,.str "b1"])) q3 (.tup [])) q4 (.tup [.str "a",.str "b1"])) SL (.lst [.str "x",.str "",.non,.ref q0,.ref q2,.str "yes",.str "no",.ref q3,.ref q4])) SL=some (.lst [.str "x",.str "",.non,.ref q0,.ref q2,.str "yes",.str "no",.ref q3,.ref q4]):=qe;have ay:=y0.trans (y1.trans (y2.trans (y3.trans y4)));have yy:=ay.trans yL;have a4:SL≠O:=fun z=>by
  have:=ay _ _ eA;rw [<-z,az] at this;cases this
 have aX:H SL=none:=Qi (z1.trans ay) az;generalize (upd (upd (upd (upd (upd (upd H1 q0 (.tup [.str "a"])) q1 (.tup [.str "x"])) q2 (.tup [.ref q1,.str "b1"])) q3 (.tup [])) q4 (.tup [.str "a",.str "b1"])) SL (.lst [.str "x",.str "",.non,.ref q0,.ref q2,.str "yes",.str "no",.ref q3,.ref q4]))=H2 at yL iS eS yy⊢;clear j0 j1 j2 j3 j4 ay yL y0 y1 y2 y3 y4;generalize ([.str "x",.str "",.non,.ref q0,.ref q2,.str "yes",.str "no",.ref q3,.ref q4]:List V)=Y at iS eS;have a5:Y.length=9:=iS.length;have z2:=z1.trans yy;have aL:=yy _ _ eA;have aM:=iA.mono yy.tk;have aj:=ai.same z2;have ag:p≠O:=ai.free aa;have ak:p≠SL:=ai.free aX;refine⟨_,rfl,p,5,rfl,aj,by decide,by decide,fun d H3 d0 d1 ae al _=> ?_⟩
 have aA:=al _ _ aL ag.symm;refine⟨_,rfl,_,rfl,O,ys,rfl,.inl (SqL.of aA),_,_,rfl,rfl,p,_,rfl,ae,by omega,by omega,fun at_ H4 a0 a1 B am _=> ?_⟩
 have aN:Tk H2 H4:=(aj.tk ae al).trans (ae.tk B am);have Z:=am _ _ aA ag.symm;have ab:=am _ _ (al _ _ eS ak.symm) ak.symm;have ad:=aM.mono aN;have ao:=iS.mono aN;have kp:Kept p H H4:=z2.kept.trans (al.trans am);clear al am aA aL aM iS eS ae aj;obtain⟨an,rfl⟩:=vA a0;have dd:d=0∨d=1∨d=2∨d=3∨d=4:=by omega
 rcases dd with rfl|rfl|rfl|rfl|rfl
 ·refine⟨_,rfl,rfl,_,rfl,qC (by decide+kernel) ?_⟩
  refine⟨_,rfl,rfl,_,rfl,qC (by decide+kernel) ?_⟩
  refine iteF ?_;refine⟨_,rfl,rfl,_,rfl,qC (by decide+kernel) ?_⟩
  refine⟨_,rfl,rfl,_,rfl,qC (by decide+kernel) ?_⟩
  exact⟨_,rfl,k O _ (ans r) _ aa Z ad hR.an (by rw [qP];omega) B kp⟩
 ·refine⟨_,rfl,rfl,_,rfl,qR (by decide+kernel) ?_⟩
  refine⟨_,rfl,?_⟩;show∃x,_/\_;refine⟨_,rfl,_,rfl,O,ys,rfl,SqL.of Z,fun q hq=> ?_⟩;rw [JG];have z5:=qb hq (.lst (ys.take an));exact k q _ ((ans r).take an) _ (none_of' B kp hq) qe ((ad.take an).mono z5.tk) (fun c hc=>hR.an c (List.mem_of_mem_take hc)) (by rw [uV,qP];omega) (B.same z5) (kp.trans z5.kept)
 ·refine⟨_,rfl,rfl,_,rfl,qC (by decide+kernel) ?_⟩
  refine⟨_,rfl,rfl,_,rfl,qR (by decide+kernel) ?_⟩
  refine⟨_,rfl,(by show 0<=sizeLine;decide),fun q hq=> ?_⟩
  have z5:=qb hq (.lst []);have e5:(upd H4 q (.lst [])) q=some (.lst []):=qe;generalize upd H4 q (.lst [])=H5 at z5 e5⊢;refine⟨O,q,ys,rfl,rfl,SqL.of (z5 _ _ Z),SqL.of e5,_,rfl,?_⟩;have Z:=z5 _ _ Z;have ab:=z5 _ _ ab;have ad:=ad.mono z5.tk;have ao:=ao.mono z5.tk;have B:=B.same z5;have kp:=kp.trans (z5.kept (p:=p));by_cases c:ys= []
  ·rw [ub (by simpa using c)]
   refine iteF ?_;refine⟨_,rfl,rfl,_,rfl,qC (by decide+kernel) ?_⟩
   refine⟨_,rfl,rfl,_,rfl,qC (by decide+kernel) ?_⟩
   exact⟨_,rfl,k O _ (ans r) _ aa Z ad hR.an (by rw [qP];omega) B kp⟩
  ·rw [uc (by simpa using c)]
   refine iteT ?_;refine⟨_,rfl,_,rfl,_,rfl,SL,Y,rfl,.inl (SqL.of ab),p,_,rfl,B,by omega,by omega,fun e6 U ap aY M I _=> ?_⟩
   have t6:Tk H5 U:=B.tk M I;obtain⟨dv,aq,au⟩:=Y4 (ao.mono t6) ap (by show e6<9;omega)
   have av:=som_ans ap (by omega)
   have ah:=I _ _ ab ak.symm;refine⟨SL,Y,_,_,rfl,rfl,SqL.of ah,aq,?_⟩;have aw:=I _ _ Z ag.symm;have aB:=ad.mono t6;have a6:0<ys.length:=List.length_pos_iff.mpr c;obtain⟨j,hj⟩:∃j,ixN ys.length ((an:Int)-1)=some j:=by
    unfold ixN;by_cases h:0<=(an:Int)-1
    ·exact⟨_,by rw [if_pos h,if_pos (by omega)]⟩
    ·exact⟨_,by rw [if_neg h,if_pos (by omega)]⟩
   refine⟨_,rfl,_,rfl,_,_,rfl,rfl,O,ys,_,j,rfl,rfl,aw,hj,?_⟩;have t7:Tk U (upd U O (.lst (ys.set j dv))):=Tk.updL aw;have e7:(upd U O (.lst (ys.set j dv))) O=some (.lst (ys.set j dv)):=qe;have ac:QZ (upd U O (.lst (ys.set j dv))) p:=by
    obtain⟨x,ex,hx⟩:=M;exact⟨x,by rw [qi ag];exact ex,hx⟩
   have ax:Kept p H (upd U O (.lst (ys.set j dv))):=fun b o h n=>by
    rw [qi (qf h aa)];exact I b o (kp b o h n) n
   have i7:=(isl_set au j aB).mono t7;generalize upd U O (.lst (ys.set j dv))=H7 at t7 e7 ac ax i7⊢;refine⟨_,rfl,rfl,_,rfl,qC (by decide+kernel) ?_⟩
   refine⟨_,rfl,rfl,_,rfl,qC (by decide+kernel) ?_⟩
   refine⟨_,rfl,k O _ _ _ aa e7 i7 (fun c hc=> ?_) (by rw [List.length_set,qP];omega) ac ax⟩
   rcases List.mem_or_eq_of_mem_set hc with h|h
   ·exact hR.an c h
   ·rw [h];exact av
 ·refine⟨_,rfl,rfl,_,rfl,qC (by decide+kernel) ?_⟩
  refine⟨_,rfl,rfl,_,rfl,qC (by decide+kernel) ?_⟩
  refine iteF ?_;refine⟨_,rfl,rfl,_,rfl,qR (by decide+kernel) ?_⟩
  refine⟨_,rfl,.inl ⟨rfl,_,SqL.of Z⟩,?_⟩;refine⟨_,rfl,_,rfl,_,rfl,SL,Y,rfl,.inl (SqL.of ab),p,_,rfl,B,by omega,by omega,fun e6 U ap aY M I _=> ?_⟩
  have t6:Tk H4 U:=B.tk M I;obtain⟨dv,aq,au⟩:=Y4 (ao.mono t6) ap (by show e6<9;omega)
  have av:=som_ans ap (by omega)
  have ah:=I _ _ ab ak.symm;refine⟨SL,Y,_,_,rfl,rfl,SqL.of ah,aq,?_⟩;have aw:=I _ _ Z ag.symm;have aB:=ad.mono t6;refine⟨O,ys,_,rfl,rfl,aw,qX (by omega),?_⟩
  have t7:Tk U (upd U O (.lst (ys++ [dv]))):=Tk.updL aw;have e7:(upd U O (.lst (ys++ [dv]))) O=some (.lst (ys++ [dv])):=qe;have ac:QZ (upd U O (.lst (ys++ [dv]))) p:=by
   obtain⟨x,ex,hx⟩:=M;exact⟨x,by rw [qi ag];exact ex,hx⟩
  have ax:Kept p H (upd U O (.lst (ys++ [dv]))):=fun b o h n=>by
   rw [qi (qf h aa)];exact I b o (kp b o h n) n
  have i7:=(aB.mono t7).append (IsL.one (au.mono t7));generalize upd U O (.lst (ys++ [dv]))=H7 at t7 e7 ac ax i7⊢;refine⟨_,rfl,rfl,_,rfl,qC (by decide+kernel) ?_⟩
  refine⟨_,rfl,k O _ _ _ aa e7 i7 (fun c hc=> ?_) (by rw [ul,qP,v6];omega) ac ax⟩
  rcases List.mem_append.mp hc with h|h
  ·exact hR.an c h
  ·rw [List.mem_singleton.mp h];exact av
 ·refine⟨_,rfl,rfl,_,rfl,qC (by decide+kernel) ?_⟩
  refine⟨_,rfl,rfl,_,rfl,qC (by decide+kernel) ?_⟩
  refine iteF ?_;refine⟨_,rfl,rfl,_,rfl,qC (by decide+kernel) ?_⟩
  refine⟨_,rfl,rfl,_,rfl,qR (by decide+kernel) ?_⟩
  refine⟨_,rfl,_,_,rfl,rfl,an+1,by simp,by omega,by omega,fun L hL=> ?_⟩
  have aO:p≠L:=B.free hL;have aZ:SL≠L:=qf ab hL;have aP:H L=none:=none_of' B kp hL;refine lc_range (tl:= [some (.ref SL),some (.ref p)]) (fun i zs H'=>∃ds:List D,ds.length=i/\IsL H' ds zs/\(∀c∈ds,c∈ANS)/\H' SL=some (.lst Y)/\IsL H' SOM Y/\QZ H' p/\Kept p H H') (fits (by omega)) ?_ ?_ ?_
  ·have z5:=qb hL (.lst []);exact⟨[],rfl,rfl,by simp,z5 _ _ ab,ao.mono z5.tk,B.same z5,kp.trans z5.kept⟩
  ·rintro i zs H5 hi ⟨ds,aQ,aC,aD,aE,aF,af,aG⟩ aH a7 R q;refine⟨_,rfl,_,rfl,_,rfl,SL,Y,rfl,.inl (SqL.of aE),p,_,rfl,af,by omega,by omega,fun e6 U aS a8 M I _=> ?_⟩
   have t6:Tk H5 U:=af.tk M I;obtain⟨dv,aq,au⟩:=Y4 (aF.mono t6) aS (by show e6<9;omega)
   have av:=som_ans aS (by omega)
   have ah:=I _ _ aE ak.symm;refine⟨SL,Y,_,_,rfl,rfl,SqL.of ah,aq,?_⟩;have aT:=I _ _ aH aO.symm;have t7:Tk U (upd U L (.lst (zs++ [dv]))):=Tk.updL aT;refine q dv U aT ⟨ds++ [pick SOM e6],by rw [ul,aQ];rfl,((aC.mono t6).mono t7).append (IsL.one (au.mono t7)),fun c hc=> ?_,by rw [qi aZ];exact ah,(aF.mono t6).mono t7,?_,fun b o h n=> ?_⟩
   ·rcases List.mem_append.mp hc with h|h
    ·exact aD c h
    ·rw [List.mem_singleton.mp h];exact av
   ·obtain⟨x,ex,hx⟩:=M;exact⟨x,by rw [qi aO];exact ex,hx⟩
   ·rw [qi (qf h aP)];exact I b o (aG b o h n) n
  ·rintro zs H5 ⟨ds,aQ,aC,aD,aE,aF,af,aG⟩ aH;exact k L _ ds _ aP aH aC aD (by omega) af aG
def sp_law (K:PySem.W.Frag):Sp:=fun vs H Q _=>∃(q:Addr) (ns:List Int),vs= [.ref q]/\SqL K H q (ns.map V.int)/\ns.length<=63/\∀H',Q (.bl true) H'
theorem fn_or {P:Program}{w:World}{K:PySem.W.Frag}{mg:Str->Option Value}{base:Heap}{l:Nat}{f:Addr}{fd:FuncData}{ps:List Str}{s1 s2:Sp}(h1:FnOk P w K mg base CX0 l f fd ps s1)(h2:FnOk P w K mg base CX0 l f fd ps s2):FnOk P w K mg base CX0 l f fd ps (fun vs H Q E=>s1 vs H Q E∨s2 vs H Q E):=
 ⟨fun vs H Q E h=>h.elim (h1.1 vs H Q E) (h2.1 vs H Q E),fun A outer s H args us vs Q E a b c d h=>h.elim (h1.2 A outer s H args us vs Q E a b c d) (h2.2 A outer s H args us vs Q E a b c d)⟩
def GD (d:D):Prop:=nD d=true/\dp d<=20
theorem thr_gd {r:Rn}{i:Nat}(h:RunA r):GD (thr r i):=by
 unfold thr;cases e:r.1[i]? with
 |some p=>
  obtain⟨h1,h2⟩:=ask_n (h.ok.prs p (ui e)).ask;exact⟨by simp [nD,nL,h1],by simp only [dp,dpL];omega⟩
 |none=>
  obtain⟨ds,B,I,L⟩:=end_n h.ok.en;simp only [B];exact⟨by simpa [nD] using I,by simp only [dp];omega⟩
theorem th_gd {ws:List Rn}(h:∀r∈ws,RunA r)(p:List D):GD (th ws p):=by
 unfold th;split
 ·rename_i hx
  exact thr_gd (h _ (Classical.choose_spec hx).1)
 ·exact⟨rfl,by simp [dp]⟩
theorem ask_gd {d:D}(h:GD d):GD (askOf d):=by
 unfold askOf;split
 ·rename_i x q
  obtain⟨h1,h2⟩:=h;simp only [nD,nL,UC,uh] at h1;simp only [dp,dpL] at h2;exact⟨h1.2,by omega⟩
 ·exact h
def PG (x:D×D):Prop:=GD x.1/\x.2∈ANS
theorem wk_good {ws:List Rn}(h:∀r∈ws,RunA r):∀(cs:List D) (p:List D) (g:List (D×D)),(∀c∈cs,c∈ANS)->(∀x∈g,PG x)->(∀x∈(wk ws p g cs).1,PG x)/\GD (wk ws p g cs).2
 | [],p,g,_,hg=>by rw [wk_nil];exact⟨hg,th_gd h p⟩
 |c::cs,p,g,hc,hg=>by
  by_cases B:∃r∈ws,p++ [c]<+:ans r
  ·rw [wk_in B];refine wk_good h cs _ _ (fun x hx=>hc x (u9 _ hx)) fun x hx=> ?_;rcases List.mem_append.mp hx with hx|hx
   ·exact hg x hx
   ·cases List.mem_singleton.mp hx;exact⟨ask_gd (th_gd h p),hc c ua⟩
  ·cases I:Yo (th ws p) with
   |true=>rw [wk_out B I];exact⟨hg,rfl,by simp [dp]⟩
   |false=>rw [jw B I];exact⟨hg,th_gd h p⟩
theorem nL_all:∀{xs:List D},(∀x∈xs,nD x=true)->nL xs=true
 | [],_=>rfl
 |x::r,h=>by simp only [nL,h x ua,nL_all fun y B=>h y (u9 _ B),Bool.and_self]
theorem wkD_n {ws:List Rn}(h:∀r∈ws,RunA r){as:List D}(ha:∀c∈as,c∈ANS):∃ds,wkD ws as= .tup ds/\nL ds=true/\dpL ds<=60:=by
 obtain⟨h1,h2⟩:=wk_good h as [] [] ha (by simp)
 refine⟨_,rfl,?_,?_⟩
 ·have:nL ((wk ws [] [] as).1.map prD)=true:=nL_all fun x hx=>by
   obtain⟨p,B,rfl⟩:=List.mem_map.mp hx;have I:=kD_n (jO (h1 p B).2).1;simp [prD,nD,nL,(h1 p B).1.1,I]
  simp [nL,nD,this,h2.1]
 ·have:dpL ((wk ws [] [] as).1.map prD)<=22:=JZ fun x hx=>by
   obtain⟨p,B,rfl⟩:=List.mem_map.mp hx;have I:=(jO (h1 p B).2).2;have h4:=(h1 p B).1.2;simp only [prD,dp,dpL];omega
  have:=h2.2;simp only [dpL,dp];omega
theorem wk_none {as:List D}:wk [] [] [] as=([],.non):=by
 cases as with
 |nil=>rw [wk_nil,QY]
 |cons c cs=>rw [jw (by simp) (by rw [QY];rfl),QY]
theorem wkD_none {as:List D}:wkD [] as= .tup [.tup [],.non]:=by unfold wkD;rw [wk_none];rfl
def R0:Rn:=([],s2 "said" "x")
theorem R0_ok:RunA R0:=⟨⟨by simp [R0],.inl ⟨.str "x",rfl,by decide+kernel⟩,by simp [R0]⟩,by simp [R0,ans]⟩
theorem R0_fit:Fits [R0]:=fun r I r' B p _ _=>by rw [List.mem_singleton.mp I,List.mem_singleton.mp B]
theorem wkD_R0 {as:List D}:wkD [R0] as= .tup [.tup [],s2 "said" "x"]:=by
 have e:th [R0] []=s2 "said" "x":=by
  rw [th_eq R0_fit ua (vV)]
  rfl
 have:wk [R0] [] [] as=([],s2 "said" "x"):=by
  cases as with
  |nil=>rw [wk_nil,e]
  |cons c cs=>
   rw [jw ?_ (by rw [e];decide+kernel),e]
   rintro⟨r,I,B⟩;rw [List.mem_singleton.mp I] at B;have:=B.length_le;simp [R0,ans] at this
 unfold wkD;rw [this]
 rfl
theorem SqL.keepK {K:PySem.W.Frag}{H H':Hp}{a:Addr}{xs:List V}(e:∀o,H a=some o->H' a=some o)(h:SqL K H a xs):SqL K H' a xs:=by
 rcases h with(h|⟨o,h⟩)|h
 ·exact .inl (.inl (e _ h))
 ·exact .inl (.inr ⟨o,e _ h⟩)
 ·exact .inr h
theorem yi {m:Str}{B:V}(h:(m==("beginning":Str))=false):([(("beginning":Str),B)]:List (Str×V)).lookup m=none:=by rw [uI,h];rfl
theorem ways_n {ws:List Rn}(h:∀r∈ws,KeyR r):nL (ws.map (wayD (.tup [])))=true/\dpL (ws.map (wayD (.tup [])))<=60:=by
 refine⟨nL_all fun x hx=> ?_,JZ fun x hx=> ?_⟩
 ·obtain⟨r,B,rfl⟩:=List.mem_map.mp hx;have:=kD_n (h r B).1;simp [wayD,nD,nL,this]
 ·obtain⟨r,B,rfl⟩:=List.mem_map.mp hx;have:=(h r B).2;simp only [wayD,dp,dpL];omega
theorem ok_law (T:Tx K mg a)(C:Fx K w mg g a):FnOk P w K mg base CX0 14 a.f_law a.d_law ["script"] (sp_law K):=by
 have U:=ok_pot (P:=P) (w:=w) (base:=base) T;have Qf:=ok_take (P:=P) (w:=w) (base:=base) T;have Y:=ok_way (P:=P) (w:=w) (base:=base) T;have YF:=ok_answers (P:=P) (w:=w) (base:=base) T;have ja:=ok_walked (P:=P) (w:=w) (base:=base) T;have ai:=ok_due (P:=P) (w:=w) (base:=base) T;have aj:=ok_lput (P:=P) (w:=w) (base:=base) T;have y9:=ok_order (P:=P) (w:=w) (base:=base) T;have yY:=ok_tinit (P:=P) (w:=w) (base:=base) T;have Yy:=fn_or (ok_put (P:=P) (base:=base) T C (.tup []) (.inl rfl)) (ok_put (P:=P) (base:=base) T C (.tup [.int 4]) (.inr rfl));have Qa:=fn_or (ok_walk (P:=P) (w:=w) (base:=base) T (.tup [])) (ok_walk (P:=P) (w:=w) (base:=base) T (.tup [.int 4]));have Jf:FnOk P w K mg base CX0 12 a.Q3 a.Q2 ["self"] (sp_ways w a.ql a.qu (.tup [])):=ok_ways T (.tup []);refine T.g_law.F.ok yr (by trivial) (fun _ _ _ _ H _ Q E B h=> ?_)
 obtain⟨q,ns,rfl,hS,dr,k⟩:=h;refine⟨_,(@qd _ _ _ _ _ (@qx _ _ (1) _ _ _ _ yr.nd rfl (Or.inl rfl) (@qp _ _ _ _ _ _ _ _ _ (@call_sumL _ rfl) (by rfl) T.z_sum boot_sum (@qa _ _ _ _ _ (pv 0) qc (by trivial)) (by trivial) (by trivial) (by trivial) (by trivial)) (by trivial) (by trivial)) (@qd _ _ _ _ _ (@qx _ _ (2) _ _ _ _ yr.nd rfl (Or.inl rfl) (@pe_make0 _ _ _ _ _ _ _ _ _ _ _ _ _ _ T.M_AskTree yY (B.mono (by trivial)) (by rfl) T.m_AskTree T.g_AskTree_init.b .nil qG (by trivial)) (by trivial) (by trivial)) (@qd _ _ _ _ _ (@qx _ _ (3) _ _ _ _ yr.nd rfl (Or.inl rfl) (@pe_newD _ _ (w) rfl) (by trivial) (by trivial)) (@qd _ _ _ _ _ (@qM _ _ _ _ _ _ _ _ (@YO _ _ _ _ _ _ _ (@qq _ _ _ _ _ _ _ _ (@yC _ B.units) (@yl _ _ _ _ _ _ _ _ _ _ _ _ _ _ _ _ _ _ _ _ (pv 2) T.qJ T.g_AskTree_walk.h Qa (B.mono (by trivial)) T.g_AskTree_walk.b .nil qG (@qa _ _ _ _ _ (@qk _ _ _ _ _ qc) qc (by trivial)) (by trivial) (by trivial) (by trivial)) (@qk _ _ _ _ _ (@qa _ _ _ _ _ (@qk _ _ _ _ _ qc) (@qa _ _ _ _ _ Qg qc (by trivial)) (by trivial))) (qw _)) (@yN _ _ _ _ (@qq _ _ _ _ _ _ _ _ (@yC _ B.units) (@yl _ _ _ _ _ _ _ _ _ _ _ _ _ _ _ _ _ _ _ _ (pv 2) T.qJ T.g_AskTree_walk.h Qa (B.mono (by trivial)) T.g_AskTree_walk.b .nil qG (@qa _ _ _ _ _ (@qk _ _ _ _ _ (@qa _ _ _ _ _ qo (@qa _ _ _ _ _ Qg qc (by trivial)) (by trivial))) qc (by trivial)) (by trivial) (by trivial) (by trivial)) (@qk _ _ _ _ _ (@qa _ _ _ _ _ (@qk _ _ _ _ _ qc) (@qa _ _ _ _ _ Qg qc (by trivial)) (by trivial))) (qw _)))).pt (@qg _ _ _ (@qr _ _ _ _ QF)) qs) (@qd _ _ _ _ _ (@Q4 _ _ _ _ _ _ _ _ uO rfl (@Y1 _ _ _ _ (@jp _ _ _ _ _ _ _ _ _ _ sl_list (pv 0) J6 (@JU _ _ _ qh))) (@qF _ _ (4) _ yr.nd rfl (Or.inl rfl) (by trivial)) (@qd _ _ _ _ _ (@qx _ _ (5) _ _ _ _ yr.nd rfl (Or.inl rfl) (@qt _ _ _ _ _ _ _ _ _ _ _ _ _ _ _ _ Y (B.mono (by trivial)) (by rfl) T.g_law_way.m T.g_law_way.F.kp T.g_law_way.b .nil qG (@qa _ _ _ _ _ (pv 1) (@qa _ _ _ _ _ (@qt _ _ _ _ _ _ _ _ _ _ _ _ _ _ _ _ U (B.mono (by trivial)) (by rfl) T.g_law_pot.m T.g_law_pot.F.kp T.g_law_pot.b .nil qG (@qa _ _ _ _ _ (pv 4) (@qa _ _ _ _ _ qh qc (by trivial)) (by trivial)) (by trivial) (by trivial) (by trivial)) qc (by trivial)) (by trivial)) (by trivial) (by trivial) (by trivial)) (by trivial) (by trivial)) (@qd _ _ _ _ _ (@QD _ _ _ _ (@yl _ _ _ _ _ _ _ _ _ _ _ _ _ _ _ _ _ _ _ _ (pv 2) T.qJ T.g_AskTree_put.h Yy (B.mono (by trivial)) T.g_AskTree_put.b .nil qG (@qa _ _ _ _ _ (pv 5) (@qa _ _ _ _ _ (@qk _ _ _ _ _ qc) qc (by trivial)) (by trivial)) (by trivial) (by trivial) (by trivial)) (by trivial)) (@qg _ _ _ (@QD _ _ _ _ (@qt _ _ _ _ _ _ _ _ _ _ _ _ _ _ _ _ aj (B.mono (by trivial)) (by rfl) T.g_law_put.m T.g_law_put.F.kp T.g_law_put.b .nil qG (@qa _ _ _ _ _ (pv 3) (@qa _ _ _ _ _ (pv 5) (@qa _ _ _ _ _ (@qk _ _ _ _ _ qc) qc (by trivial)) (by trivial)) (by trivial)) (by trivial) (by trivial) (by trivial)) (by trivial))))) (by trivial)) (@qd _ _ _ _ _ (@qx _ _ (6) _ _ _ _ yr.nd rfl (Or.inl rfl) (@xc _ _ _ _ _ _ _ (false) _ _ _ _ _ _ _ (⟨0,0,0,0⟩) (⟨0,0,0,0⟩) (0) _ rfl rfl rfl y9 (B.mono (by trivial)) T.g_law_order.b (by rfl) T.Yq (by rfl) T.g_law_order.m (pv 3) (by trivial) (by trivial)) (by trivial) (by trivial)) (@qd _ _ _ _ _ (@Q4 _ _ _ _ _ _ _ _ uO rfl (@Y1 _ _ _ _ (@qY _ _ _ _ _ _ _ _ op_cat (@Qb _ _ _ _ (@qa _ _ _ _ _ (@qY _ _ _ _ _ _ _ _ ye (pv 1) qh) qc (by trivial))) (@jp _ _ _ _ _ _ _ _ _ _ sl_list (pv 0) J6 (@JU _ _ _ qh)))) (@qF _ _ (4) _ yr.nd rfl (Or.inl rfl) (by trivial)) (@qd _ _ _ _ _ (@qx _ _ (7) _ _ _ _ yr.nd rfl (Or.inl rfl) (@qt _ _ _ _ _ _ _ _ _ _ _ _ _ _ _ _ U (B.mono (by trivial)) (by rfl) T.g_law_pot.m T.g_law_pot.F.kp T.g_law_pot.b .nil qG (@qa _ _ _ _ _ (pv 4) (@qa _ _ _ _ _ qh qc (by trivial)) (by trivial)) (by trivial) (by trivial) (by trivial)) (by trivial) (by trivial)) (@qd _ _ _ _ _ (@qx _ _ (8) _ _ _ _ yr.nd rfl (Or.inl rfl) (@qN _ _ _ _ _ _ _ _ _ qH (by rfl) T.Qj vq (@qa _ _ _ _ _ (@qt _ _ _ _ _ _ _ _ _ _ _ _ _ _ _ _ YF (B.mono (by trivial)) (by rfl) T.g_law_answers.m T.g_law_answers.F.kp T.g_law_answers.b .nil qG (@qa _ _ _ _ _ (pv 7) (@qa _ _ _ _ _ (@qt _ _ _ _ _ _ _ _ _ _ _ _ _ _ _ _ Y (B.mono (by trivial)) (by rfl) T.g_law_way.m T.g_law_way.F.kp T.g_law_way.b .nil qG (@qa _ _ _ _ _ (pv 1) (@qa _ _ _ _ _ (pv 7) qc (by trivial)) (by trivial)) (by trivial) (by trivial) (by trivial)) qc (by trivial)) (by trivial)) (by trivial) (by trivial) (by trivial)) qc (by trivial)) (by trivial) (by trivial) (by trivial) (by trivial)) (by trivial) (by trivial)) (@qd _ _ _ _ _ (@qM _ _ _ _ _ _ _ _ (@qq _ _ _ _ _ _ _ _ (@yC _ B.units) (@yl _ _ _ _ _ _ _ _ _ _ _ _ _ _ _ _ _ _ _ _ (pv 2) T.qJ T.g_AskTree_walk.h Qa (B.mono (by trivial)) T.g_AskTree_walk.b .nil qG (@qa _ _ _ _ _ (pv 8) qc (by trivial)) (by trivial) (by trivial) (by trivial)) (@qt _ _ _ _ _ _ _ _ _ _ _ _ _ _ _ _ ja (B.mono (by trivial)) (by rfl) T.g_law_walked.m T.g_law_walked.F.kp T.g_law_walked.b .nil qG (@qa _ _ _ _ _ (pv 6) (@qa _ _ _ _ _ (pv 8) qc (by trivial)) (by trivial)) (by trivial) (by trivial) (by trivial)) (qw _)) (@qg _ _ _ (@qr _ _ _ _ QF)) qs) (@qg _ _ _ (@qM _ _ _ _ _ _ _ _ (@qq _ _ _ _ _ _ _ _ (@op_neN _ B.units0) (pv 6) (@Qb _ _ _ _ qc) (qw _)) (@qd _ _ _ _ _ (@qx _ _ (8) _ _ _ _ yr.nd rfl (Or.inl rfl) (@qN _ _ _ _ _ _ _ _ _ qH (by rfl) T.Qj vq (@qa _ _ _ _ _ (@qt _ _ _ _ _ _ _ _ _ _ _ _ _ _ _ _ YF (B.mono (by trivial)) (by rfl) T.g_law_answers.m T.g_law_answers.F.kp T.g_law_answers.b .nil qG (@qa _ _ _ _ _ (pv 7) (@qa _ _ _ _ _ (@qA _ _ _ _ _ _ _ qW (pv 6) (@qt _ _ _ _ _ _ _ _ _ _ _ _ _ _ _ _ Qf (B.mono (by trivial)) (by rfl) T.g_law_take.m T.g_law_take.F.kp T.g_law_take.b .nil qG (@qa _ _ _ _ _ (pv 7) (@qa _ _ _ _ _ (@qp _ _ _ _ _ _ _ _ _ qB (by rfl) T.yh uF (@qa _ _ _ _ _ (pv 6) qc (by trivial)) (by trivial) (by trivial) (by trivial) (by trivial)) qc (by trivial)) (by trivial)) (by trivial) (by trivial) (by trivial)) (fun _ _=>rfl)) qc (by trivial)) (by trivial)) (by trivial) (by trivial) (by trivial)) qc (by trivial)) (by trivial) (by trivial) (by trivial) (by trivial)) (by trivial) (by trivial)) (@qg _ _ _ (@qM _ _ _ _ _ _ _ _ (@qq _ _ _ _ _ _ _ _ (@yC _ B.units) (@yl _ _ _ _ _ _ _ _ _ _ _ _ _ _ _ _ _ _ _ _ (pv 2) T.qJ T.g_AskTree_walk.h Qa (B.mono (by trivial)) T.g_AskTree_walk.b .nil qG (@qa _ _ _ _ _ (pv 8) qc (by trivial)) (by trivial) (by trivial) (by trivial)) (@qt _ _ _ _ _ _ _ _ _ _ _ _ _ _ _ _ ja (B.mono (by trivial)) (by rfl) T.g_law_walked.m T.g_law_walked.F.kp T.g_law_walked.b .nil qG (@qa _ _ _ _ _ (pv 6) (@qa _ _ _ _ _ (pv 8) qc (by trivial)) (by trivial)) (by trivial) (by trivial) (by trivial)) (qw _)) (@qg _ _ _ (@qr _ _ _ _ QF)) qs))) qs))))) (by trivial)) (@qd _ _ _ _ _ (@qx _ _ (9) _ _ _ _ yr.nd rfl (Or.inl rfl) (@pe_make0 _ _ _ _ _ _ _ _ _ _ _ _ _ _ T.M_AskTree yY (B.mono (by trivial)) (by rfl) T.m_AskTree T.g_AskTree_init.b .nil qG (by trivial)) (by trivial) (by trivial)) (@qd _ _ _ _ _ (@QD _ _ _ _ (@yl _ _ _ _ _ _ _ _ _ _ _ _ _ _ _ _ _ _ _ _ (pv 9) T.qJ T.g_AskTree_put.h Yy (B.mono (by trivial)) T.g_AskTree_put.b .nil qG (@qa _ _ _ _ _ (@qk _ _ _ _ _ (@qa _ _ _ _ _ (@qk _ _ _ _ _ qc) (@qa _ _ _ _ _ (@qk _ _ _ _ _ (@qa _ _ _ _ _ qo (@qa _ _ _ _ _ qo qc (by trivial)) (by trivial))) qc (by trivial)) (by trivial))) (@qa _ _ _ _ _ (@qk _ _ _ _ _ (@qa _ _ _ _ _ qh qc (by trivial))) qc (by trivial)) (by trivial)) (by trivial) (by trivial) (by trivial)) (by trivial)) (@qd _ _ _ _ _ (@qM _ _ _ _ _ _ _ _ (@YO _ _ _ _ _ _ _ (@qq _ _ _ _ _ _ _ _ (@yC _ B.units) (@yl _ _ _ _ _ _ _ _ _ _ _ _ _ _ _ _ _ _ _ _ (pv 9) T.qJ T.g_AskTree_walk.h Qa (B.mono (by trivial)) T.g_AskTree_walk.b .nil qG (@qa _ _ _ _ _ (@qk _ _ _ _ _ qc) qc (by trivial)) (by trivial) (by trivial) (by trivial)) (@qk _ _ _ _ _ (@qa _ _ _ _ _ (@qk _ _ _ _ _ qc) (@qa _ _ _ _ _ (@qk _ _ _ _ _ (@qa _ _ _ _ _ qo (@qa _ _ _ _ _ qo qc (by trivial)) (by trivial))) qc (by trivial)) (by trivial))) (qw _)) (@yN _ _ _ _ (@qq _ _ _ _ _ _ _ _ (@yC _ B.units) (@yl _ _ _ _ _ _ _ _ _ _ _ _ _ _ _ _ _ _ _ _ (pv 9) T.qJ T.g_AskTree_walk.h Qa (B.mono (by trivial)) T.g_AskTree_walk.b .nil qG (@qa _ _ _ _ _ (@qk _ _ _ _ _ (@qa _ _ _ _ _ qo (@qa _ _ _ _ _ Qg qc (by trivial)) (by trivial))) qc (by trivial)) (by trivial) (by trivial) (by trivial)) (@qk _ _ _ _ _ (@qa _ _ _ _ _ (@qk _ _ _ _ _ qc) (@qa _ _ _ _ _ (@qk _ _ _ _ _ (@qa _ _ _ _ _ qo (@qa _ _ _ _ _ qo qc (by trivial)) (by trivial))) qc (by trivial)) (by trivial))) (qw _)))).pt (@qg _ _ _ (@qr _ _ _ _ QF)) qs) (@qg _ _ _ (@qr _ _ _ _ (@QM _ _ _ _ _ _ _ _ (@op_eqN _ B.units) (@pe_meth0 _ _ _ _ _ _ _ _ _ _ _ _ _ _ _ _ _ (pv 2) T.qJ T.g_AskTree_ways.h Jf (B.mono (by trivial)) T.g_AskTree_ways.b .nil qG (by trivial)) (@qt _ _ _ _ _ _ _ _ _ _ _ _ _ _ _ _ ai (B.mono (by trivial)) (by rfl) T.g_law_due.m T.g_law_due.F.kp T.g_law_due.b .nil qG (@qa _ _ _ _ _ (pv 3) qc (by trivial)) (by trivial) (by trivial) (by trivial)) (qw _)))))))))))))),?_⟩
 have zero:(0:Nat)<=sizeLine:=by decide
 have one:(1:Nat)<=sizeLine:=by decide
 have aa:(2:Nat)<=sizeLine:=by decide
 refine⟨_,rfl,q,ns,rfl,hS,?_⟩;generalize ns.sum=salt;intro t dt ht cK dA;refine⟨t,dt,rfl,qe,fun fs a8=>⟨rfl,?_⟩⟩;subst a8;have z1:Same H (upd (upd (upd H dt (.own t)) t (.ins a.ql dt [])) t (.ins a.ql dt [("beginning",.non)])):=fun b o h=>by rw [qi (qf h ht),qi (qf h ht),qi (qf h cK)];exact h
 have e1:(upd (upd (upd H dt (.own t)) t (.ins a.ql dt [])) t (.ins a.ql dt [("beginning",.non)])) t=some (.ins a.ql dt [("beginning",.non)]):=qe;generalize upd (upd (upd H dt (.own t)) t (.ins a.ql dt [])) t (.ins a.ql dt [("beginning",.non)])=H1 at z1 e1⊢;intro kd a9;have y2:=qb a9 (dExt w kd []);have K2:yT w (upd H1 kd (dExt w kd [])) kd []:=⟨[],⟨qe,fun p hp=>absurd hp (by simp),List.nodup_nil⟩,rfl,by simp⟩
 have cL:kd≠t:=(qf e1 a9).symm;have bI:=Qi z1 a9;have e2:=y2 _ _ e1;have z2:=z1.trans y2;generalize upd H1 kd (dExt w kd [])=H2 at y2 K2 e2 z2⊢;have T2:Qt w a.ql a.qu (.tup []) H2 t [] (fun b=>b=t):=⟨dt,.non,e2,rfl,.inl ⟨rfl,rfl⟩⟩;have ao:nL [.tup [],.non]=true:=rfl;refine⟨_,rfl,t,dt,_,rfl,e2,yi (by decide+kernel),zero,fun q0 h0=> ?_⟩
 have y3:=qb h0 (.tup []);refine .inl ⟨t,.ref q0,[],[],_,rfl,T2.same y3,Is.new (ds:= []) rfl h0,by simp,by simp,fun _ h=>absurd h (by simp),by simp,fun u H3 z3 i3=> ?_⟩
 rw [wkD_none] at i3;refine⟨zero,fun q1 h1=>⟨aa,fun q2 h2=> ?_⟩⟩;have y4:=(qb h1 (.tup [])).trans (qb h2 (.tup [.ref q1,.non]));have i4:Is _ (.tup [.tup [],.non]) (.ref q2):=Is.new (ds:= [.tup [],.non]) ⟨_,_,rfl,Is.new (ds:= []) rfl h1,_,_,rfl,rfl,rfl⟩ h2;refine⟨_,_,i3.mono y4.tk,i4,ao,ao,by decide,_,rfl,?_⟩
 refine qC (by rw [Qu ao];rfl) ?_
 have z4:=y3.trans (z3.trans y4);generalize upd (upd H3 q1 (.tup [])) q2 (.tup [.ref q1,.non])=H4 at y4 i4 z4⊢;refine⟨_,rfl,t,dt,_,rfl,z4 _ _ e2,yi (by decide+kernel),aa,fun q3 h3=> ?_⟩
 have y5:=qb h3 (.tup [.str "x",.non]);refine .inl ⟨t,.ref q3,[],[.str "x",.non],_,rfl,(T2.same z4).same y5,Is.new (ds:= [.str "x",.non]) ⟨_,_,rfl,isS (by decide),_,_,rfl,rfl,rfl⟩ h3,(by intro c hc;simp only [uY,uQ,Ud] at hc;rcases hc with rfl|rfl<;>simp [ANS]),by simp,fun _ h=>absurd h (by simp),by simp,fun u5 H5 z5 i5=> ?_⟩
 rw [wkD_none] at i5;refine⟨zero,fun q4 h4=>⟨aa,fun q5 h5=> ?_⟩⟩;have y6:=(qb h4 (.tup [])).trans (qb h5 (.tup [.ref q4,.non]));have i6:Is _ (.tup [.tup [],.non]) (.ref q5):=Is.new (ds:= [.tup [],.non]) ⟨_,_,rfl,Is.new (ds:= []) rfl h4,_,_,rfl,rfl,rfl⟩ h5;refine⟨_,_,i5.mono y6.tk,i6,ao,ao,by decide,_,rfl,?_⟩
 refine qC (by rw [Qu ao];rfl) ?_
 have z6:=z4.trans (y5.trans (z5.trans y6));generalize upd (upd H5 q4 (.tup [])) q5 (.tup [.ref q4,.non])=H6 at y6 i6 z6⊢;have T6:=T2.same z6;have K6:=K2.keep z6.tk fun o h=>z6 _ _ h;have Z6:=z2.trans z6;clear i3 i4 i5 i6 y3 y4 y5 y6 z3 z4 z5;refine⟨_,rfl,_,rfl,q,_,rfl,Z6.seq hS,fun sl aQ=> ?_⟩;obtain⟨ms,cM,du⟩:∃ms:List Int,cutV (ns.map V.int) none (some 12)=ms.map V.int/\ms.length<=12:=⟨ns.take 12,by rw [show(12:Int)=((12:Nat):Int) from rfl,JG,List.map_take],by rw [uV];omega⟩
 rw [cM];have y7:=qb aQ (.lst (ms.map V.int));have aS:(upd H6 sl (.lst (ms.map V.int))) sl=some (.lst (ms.map V.int)):=qe;have T7:=T6.same y7;have K7:=K6.keep y7.tk fun o h=>y7 _ _ h;have Z7:=Z6.trans y7;have e7:=y7 _ _ (z6 _ _ e2);have cN:sl≠t:=(qf (z6 _ _ e2) aQ).symm;have cO:sl≠kd:=fun z=>by
  obtain⟨kvs,g6,_⟩:=K6;rw [z,g6.here] at aQ;cases aQ
 generalize upd H6 sl (.lst (ms.map V.int))=H7 at y7 aS T7 K7 Z7 e7⊢;have cP:∃o,H7 kd=some o:=let⟨_,g7,_⟩:=K7;⟨_,g7.here⟩;refine⟨sl,rfl,⟨_,SqL.of aS⟩,?_⟩
 let J1_:Nat->L2.St->Hp->Prop:=fun i σ H'=>∃(rs:List Rn) (S:Addr->Prop) (o4 o5:Option V),σ= [some (.ref q),some (.int salt),some (.ref t),some (.ref kd),o4,o5,none,none,none,none]/\Qt w a.ql a.qu (.tup []) H' t rs S/\yT w H' kd rs/\(∀r∈rs,WayR salt r)/\rs.length<=i/\(∀b o,H7 b=some o->b≠t->b≠kd->H' b=some o)/\(∀b,S b->b=t∨H7 b=none)/\Tk H7 H'
 refine yg (K:=K) (a:=sl) (xs:=ms.map V.int) J1_ ⟨[],_,none,none,rfl,T7,K7,by simp,Nat.le_refl _,fun b o h _ _=>h,fun b h=> .inl h,Tk.refl _⟩ (fun i σ H' _ ⟨_,_,_,_,_,_,_,_,_,h,_⟩=>SqL.of (h _ _ aS cN cO)) ?_ ?_
 ·rintro i x σ H8 hx ⟨rs,S,o4,o5,rfl,T8,K8,hW,hl,aA,aB,ba⟩;rw [um] at hx;obtain⟨c,hc,rfl⟩:=Option.map_eq_some_iff.mp hx;have dv:i<12:=by have:=(List.getElem?_eq_some_iff.mp hc).1;omega
  refine⟨_,rfl,_,rfl,c,6,rfl,by decide,by decide,fun p H9 hp z9 bJ=> ?_⟩
  refine⟨salt,p,rfl,bJ,fun r v I hw iv cQ bK=> ?_⟩;have M:Same H8 I:=Kept.same bK z9 hp;have aC:=T8.same M;have aT:=K8.keep M.tk fun o h=>M _ _ h;obtain⟨bb,bv,bL,dw⟩:=id aC;refine⟨_,rfl,t,bb,_,rfl,bL,yi (by decide+kernel),_,rfl,zero,fun g0 bM=> ?_⟩
  have Z:=qb bM (.tup []);refine .inl ⟨t,v,.ref g0,rs,r,S,rfl,aC.same Z,iv.mono Z.tk,Is.new (ds:= []) rfl bM,hw.run,fun r' h=>(hW r' h).run,fun r' h=>hw.fit (hW r' h),.inl rfl,fun aU bc cR ad aD=> ?_⟩;have ap:=M.trans Z;generalize upd I g0 (.tup [])=bd at Z ad aD ap;refine⟨_,rfl,_,rfl,zero,fun g1 bN=> ?_⟩;have O:=qb bN (.tup []);have bO:¬S kd:=fun h=>by
   rcases aB kd h with h|h
   ·exact cL h
   ·obtain⟨o,ho⟩:=cP;rw [ho] at h;cases h
  have cS:yT w aU kd rs:=(aT.keep Z.tk fun o h=>Z _ _ h).keep ad.tk fun o h=>ad.kept _ _ h bO;have bP:¬bc kd:=fun h=>by
   rcases aD kd h with h|h
   ·exact bO h
   ·obtain⟨kvs,g8,_⟩:=K8;rw [ap _ _ g8.here] at h;cases h
  refine⟨kd,v,.ref g1,rs,r,rfl,cS.keep O.tk fun o h=>O _ _ h,((iv.mono Z.tk).mono ad.tk).mono O.tk,Is.new (ds:= []) rfl bN,hw.key,by omega,fun af rs' be bQ dB a5 a6=> ?_⟩
  have bf:Qt w a.ql a.qu (.tup []) af t (r::rs) bc:=(cR.same O).move a6 fun b o hb ho=>a5 b o ho fun z=>bP (by rw [<-z];exact hb)
  have bR:=bf.mem (rs':=rs') fun x=>by rw [bQ x,uY]
  refine⟨rs',bc,_,_,rfl,bR,be,fun r' h=> ?_,by omega,fun b o h1 h2 h3=> ?_,fun b h=> ?_,((ba.trans ap.tk).trans ad.tk).trans (O.tk.trans a6)⟩
  ·rcases(bQ r').mp h with rfl|h
   ·exact hw
   ·exact hW r' h
  ·refine a5 b o (O _ _ (ad.kept b o (ap _ _ (aA b o h1 h2 h3)) fun z=> ?_)) h3;rcases aB b z with z|z
   ·exact h2 z
   ·rw [h1] at z;cases z
  ·rcases aD b h with h|h
   ·exact aB b h
   ·by_cases c1:b=t
    ·exact .inl c1
    ·refine .inr ?_;cases e:H7 b with
     |none=>rfl
     |some o=>
      by_cases c2:b=kd
      ·subst c2;exact absurd h (by
        obtain⟨kvs,g8,_⟩:=K8;rw [ap _ _ g8.here];simp)
      ·rw [ap _ _ (aA b o e c1 c2)] at h;cases h
 rintro σ H8 ⟨rs,S,o4,o5,rfl,T8,K8,hW,hl,aA,aB,ba⟩;have aV:∀r∈rs,RunA r:=fun r h=>(hW r h).run;have bS:Fits rs:=fun r h r' h'=>(hW r h).fit (hW r' h');rw [ue] at hl;have lr:rs.length<=12:=by omega
 obtain⟨kvs,g8,aE,cT⟩:=id K8;have dC:kvs.length=rs.length:=by have:=congrArg List.length aE;simpa using this
 refine⟨_,rfl,kd,kvs,true,okL,rfl,g8,by omega,by rw [aE];exact keys_ok aV,fun x hx H9 z9 Q' q'=> ?_,fun H9 ys RL z9 cU aF bg=> ?_⟩
 ·obtain⟨r,cV,e⟩:=List.mem_map.mp (show x.1∈rs.map rnD by rw [<-aE];exact List.mem_map.mpr ⟨x,hx,rfl⟩)
  refine⟨x.2.1,r,rfl,aV r cV,?_,fun u I M cW=>q' u I M (by rw [<-e];exact cW)⟩
  rw [e];exact(g8.ks x hx).1.mono z9.tk
 rw [if_neg (by decide)] at bg
 obtain⟨ws,ew,hs,hm,dD⟩:=srt_of aE aV bS g8.nd aF bg;have M:=z9.trans (qb cU (.lst (ys.map (·.2))));have eR:(upd H9 RL (.lst (ys.map (·.2)))) RL=some (.lst (ys.map (·.2))):=qe;generalize upd H9 RL (.lst (ys.map (·.2)))=I at M eR⊢;have iR:IsL I (ws.map rnD) (ys.map (·.2)):=by
  rw [<-ew];have key:∀(zs:List (D×V)),(∀z∈zs,Is I z.1 z.2)->IsL I (zs.map (·.1)) (zs.map (·.2)):=by
   intro zs
   induction zs with
   |nil=>intro _;rfl
   |cons z zs ih=>intro h;exact⟨_,_,rfl,h z ua,ih fun y hy=>h y (u9 _ hy)⟩
  refine key ys fun z hz=> ?_;obtain⟨x,hx,e⟩:=List.mem_map.mp (aF.mem_iff.mp hz);rw [<-e];exact(g8.ks x hx).1.mono M.tk
 generalize ys.map (·.2)=rv at eR iR;have dE:rv.length=ws.length:=by rw [iR.length,ue]
 have aC:Qt w a.ql a.qu (.tup []) I t ws S:=(T8.same M).mem hm;have aT:yT w I kd rs:=K8.keep M.tk fun o h=>M _ _ h;have aW:∀r∈ws,WayR salt r:=fun r h=>hW r ((hm r).mp h);have ag:∀r∈ws,RunA r:=fun r h=>(aW r h).run;have aG:Fits ws:=fun r h r' h'=>(aW r h).fit (aW r' h');have dF:ws.length<=12:=by omega
 have bT:SqL K I q (ns.map V.int):=by
  refine SqL.keepK (fun o h=> ?_) hS;have h7:=Z7 _ _ h;refine M _ _ (aA q o h7 (fun z=> ?_) (fun z=> ?_))
  ·rw [z,ht] at h;cases h
  ·rw [z,bI] at h;cases h
 clear aF bg g8 aE cT T8 K8 aV bS aA aB ba T7 K7 aS;refine⟨_,rfl,_,_,rfl,rfl,one,fun l1 h1=> ?_⟩;have Z:=qb h1 (.lst [.int (salt+2)]);have bh:(upd I l1 (.lst [.int (salt+2)])) l1=some (.lst [.int (salt+2)]):=qe;generalize upd I l1 (.lst [.int (salt+2)])=bd at Z bh⊢;refine⟨_,rfl,_,rfl,q,_,rfl,Z.seq bT,fun l2 h2=> ?_⟩;obtain⟨ak,bU,dG⟩:∃ms:List Int,cutV (ns.map V.int) none (some 9)=ms.map V.int/\ms.length<=9:=⟨ns.take 9,by rw [show(9:Int)=((9:Nat):Int) from rfl,JG,List.map_take],by rw [uV];omega⟩
 rw [bU];have bi:=qb h2 (.lst (ak.map V.int));have bj:(upd bd l2 (.lst (ak.map V.int))) l2=some (.lst (ak.map V.int)):=qe;have aH:=bi _ _ bh;generalize upd bd l2 (.lst (ak.map V.int))=aU at bi bj aH⊢;refine⟨l1,l2,_,_,rfl,rfl,aH,bj,Yb (by rw [ue];show 1+_<=1000;omega),fun lc cX=> ?_⟩
 have cY: [V.int (salt+2)]++ak.map V.int=((salt+2)::ak).map V.int:=rfl;rw [cY];generalize (salt+2)::ak=cs;have O:=Z.trans (bi.trans (qb cX (.lst (cs.map V.int))));have ec:(upd aU lc (.lst (cs.map V.int))) lc=some (.lst (cs.map V.int)):=qe;generalize upd aU lc (.lst (cs.map V.int))=aq at O ec⊢;have au:=aC.same O;have bV:=aT.keep O.tk fun o h=>O _ _ h;have ae:=O _ _ eR;have al:=iR.mono O.tk;refine⟨lc,rfl,⟨_,SqL.of ec⟩,?_⟩
 let J2_:Nat->L2.St->Hp->Prop:=fun i σ H'=>∃(o4 o5 o7 o8:Option V),σ= [some (.ref q),some (.int salt),some (.ref t),some (.ref kd),o4,o5,some (.ref RL),o7,o8,none]/\Same aq H'
 refine yg (K:=K) (a:=lc) (xs:=cs.map V.int) J2_ ⟨_,_,_,_,rfl,Same.refl _⟩ (fun i σ H' _ ⟨_,_,_,_,_,h⟩=>SqL.of (h _ _ ec)) ?_ ?_
 ·rintro i x σ af hx ⟨o4,o5,o7,o8,rfl,av⟩;rw [um] at hx;obtain⟨c,hc,rfl⟩:=Option.map_eq_some_iff.mp hx;refine⟨_,rfl,c,7,rfl,by decide,by decide,fun p bW hp aX bm=> ?_⟩
  have am:aq p=none:=Qi av hp;have bX:=av.trans aX;refine⟨_,rfl,_,rfl,_,rfl,salt,p,rfl,bm,fun r v bn hw iv bo bY=> ?_⟩;have cZ:Same aq bn:=Kept.same bY bX am;refine⟨p,v,r,rfl,bo,iv,hw.run,fun L uv as aI hL eL iL hAs hal pot17 kp17=> ?_⟩;have bp:Same aq aI:=Kept.same kp17 cZ am;refine⟨L,uv,rfl,.inl ⟨SqL.of eL,fun l hl=> ?_⟩⟩;have bq:=qb hl (.tup uv);have aw:Is (upd aI l (.tup uv)) (.tup as) (.ref l):=Is.new iL hl;have ah:=bp.trans bq;have aJ:=pot17.same bq;generalize upd aI l (.tup uv)=bZ at bq aw ah aJ⊢;obtain⟨bb,bv,b0,_⟩:=id (au.same ah);refine⟨_,rfl,t,bb,_,rfl,b0,yi (by decide+kernel),_,rfl,?_⟩
  refine .inl ⟨t,.ref l,ws,as,S,rfl,au.same ah,aw,hAs,ag,aG,hal,fun u c0 ab b5=> ?_⟩;refine⟨_,rfl,_,rfl,RL,rv,.ref l,ws,as,rfl,ab _ _ (ah _ _ ae),(al.mono ah.tk).mono ab.tk,aw.mono ab.tk,hAs,ag,aG,hal,by omega,fun u2 aY aK aL=> ?_⟩
  obtain⟨ds,c5,br,c6⟩:=wkD_n ag hAs;rw [c5] at b5 aL;refine⟨ds,ds,b5.mono aK.tk,aL,br,br,c6,_,rfl,?_⟩;refine qC (by rw [Qu br];rfl) ?_
  have b6:=ah.trans (ab.trans aK);have bt:=(aJ.same ab).same aK;refine⟨_,rfl,zero,fun q1 c7=> ?_⟩;have bu:=qb c7 (.lst []);have b7:(upd aY q1 (.lst [])) q1=some (.lst []):=qe;have ac:=b6.trans bu;have aM:=bt.same bu;generalize upd aY q1 (.lst [])=c8 at bu b7 ac aM⊢;refine⟨RL,q1,rv,rfl,rfl,SqL.of (ac _ _ ae),SqL.of b7,_,rfl,?_⟩;by_cases cr:rv= []
  ·refine qC (ub (by simpa using cr)) ?_
   exact⟨_,_,_,_,rfl,ac⟩
  ·refine qR (uc (by simpa using cr)) ?_
   have dH:0<rv.length:=List.length_pos_iff.mpr cr;refine⟨_,rfl,_,rfl,_,rfl,_,rfl,RL,rv,rfl,.inl (SqL.of (ac _ _ ae)),p,_,rfl,aM,by omega,by omega,fun d b8 d0 d1 bw b9 _=> ?_⟩
   have ax:Same aq b8:=Kept.same b9 ac am;obtain⟨dn,rfl⟩:=vA d0;have ca:dn<ws.length:=by omega
   obtain⟨v2,c9,da⟩:=(al.mono ax.tk).get (i:=dn) (d:=rnD ws[dn]) (by rw [um,u7 ca];rfl)
   refine⟨RL,rv,_,v2,rfl,rfl,SqL.of (ax _ _ ae),qm c9,?_⟩;refine⟨p,v2,ws[dn],rfl,bw,da,ag _ (uJ ca),fun L2 aZ bx aN dI db dc aO a7 dd cb=> ?_⟩;have bz:Same aq aN:=Kept.same cb ax am;refine⟨L2,aZ,rfl,.inl ⟨SqL.of db,fun l2 cc=> ?_⟩⟩;have cd:=qb cc (.tup aZ);have bA:Is (upd aN l2 (.tup aZ)) (.tup bx) (.ref l2):=Is.new dc cc;have ay:=bz.trans cd;generalize upd aN l2 (.tup aZ)=dJ at cd bA ay⊢;obtain⟨de,dL,ce,_⟩:=id (au.same ay);refine⟨_,rfl,t,de,_,rfl,ce,yi (by decide+kernel),_,rfl,?_⟩
   refine .inl ⟨t,.ref l2,ws,bx,S,rfl,au.same ay,bA,aO,ag,aG,a7,fun u3 dM a0 cf=> ?_⟩;refine⟨_,rfl,_,rfl,RL,rv,.ref l2,ws,bx,rfl,a0 _ _ (ay _ _ ae),(al.mono ay.tk).mono a0.tk,bA.mono a0.tk,aO,ag,aG,a7,by omega,fun u4 dN cg ch=> ?_⟩
   obtain⟨ci,cj,aP,ck⟩:=wkD_n ag aO;rw [cj] at cf ch;refine⟨ci,ci,cf.mono cg.tk,ch,aP,aP,ck,_,rfl,?_⟩;refine qC (by rw [Qu aP];rfl) ?_
   exact⟨_,_,_,_,rfl,ay.trans (a0.trans cg)⟩
 rintro σ af ⟨dO,dP,o7,o8,rfl,av⟩;have bf:=au.same av;have be:=bV.keep av.tk fun o h=>av _ _ h;clear au bV aC aT ae al eR iR ec bj aH bh;intro t2 R bB cm dy;refine⟨t2,R,rfl,qe,fun fs a8=>⟨rfl,?_⟩⟩;subst a8;have aX:Same af (upd (upd (upd af R (.own t2)) t2 (.ins a.ql R [])) t2 (.ins a.ql R [("beginning",.non)])):=fun b o h=>by rw [qi (qf h bB),qi (qf h bB),qi (qf h cm)];exact h
 have bC:(upd (upd (upd af R (.own t2)) t2 (.ins a.ql R [])) t2 (.ins a.ql R [("beginning",.non)])) t2=some (.ins a.ql R [("beginning",.non)]):=qe;generalize upd (upd (upd af R (.own t2)) t2 (.ins a.ql R [])) t2 (.ins a.ql R [("beginning",.non)])=bW at aX bC⊢;refine⟨_,rfl,t2,R,_,rfl,bC,yi (by decide+kernel),zero,fun a1 cn=>⟨aa,fun a2 cp=>⟨aa,fun a3 cq=>⟨one,fun a4 cu=> ?_⟩⟩⟩⟩
 have w1:=qb cn (.tup []);have w2:=qb cp (.tup [.str "said",.str "x"]);have w3:=qb cq (.tup [.ref a1,.ref a2]);have w4:=qb cu (.tup [.int 4]);have j1:Is _ (.tup []) (.ref a1):=(Is.new (ds:= []) rfl cn).mono w2.tk;have j2:=is2 (x:="said") (y:="x") (by decide) (by decide) cp
 have j3:Is _ (rnD R0) (.ref a3):=(Is.new (ds:= [.tup [],s2 "said" "x"]) ⟨_,_,rfl,j1,_,_,rfl,j2,rfl⟩ cq).mono w4.tk;have j4:Is _ (.tup [.int 4]) (.ref a4):=Is.new (ds:= [.int 4]) ⟨_,_,rfl,rfl,rfl⟩ cu;have bD:=w1.trans (w2.trans (w3.trans w4));generalize upd (upd (upd (upd bW a1 (.tup [])) a2 (.tup [.str "said",.str "x"])) a3 (.tup [.ref a1,.ref a2])) a4 (.tup [.int 4])=bn at w4 j3 j4 bD⊢;have df:Qt w a.ql a.qu (.tup [.int 4]) bn t2 [] (fun b=>b=t2):=⟨R,.non,bD _ _ bC,rfl,.inl ⟨rfl,rfl⟩⟩;refine .inr ⟨t2,.ref a3,.ref a4,[],R0,_,rfl,df,j3,j4,R0_ok,by simp,by simp,.inr rfl,fun aI cv bE cw dz=> ?_⟩
 have bp:Same af aI:=fun b o h=>cw.kept b o (bD _ _ (aX b o h)) fun z=>by rw [z,bB] at h;cases h
 have az:nL [.tup [],s2 "said" "x"]=true:=by decide+kernel
 have cx:dpL [.tup [],s2 "said" "x"]<=60:=by decide+kernel
 obtain⟨cy,dQ,cz,dR⟩:=id bE;refine⟨_,rfl,t2,cy,_,rfl,cz,yi (by decide+kernel),zero,fun b1 cA=> ?_⟩
 have v1:=qb cA (.tup []);refine .inr ⟨t2,.ref b1,[R0],[],cv,rfl,bE.same v1,Is.new (ds:= []) rfl cA,by simp,fun r h=>by rw [List.mem_singleton.mp h];exact R0_ok,R0_fit,by simp,fun u bZ ah aw=> ?_⟩
 rw [wkD_R0] at aw;refine⟨zero,fun b2 cB=>⟨aa,fun b3 cC=>⟨aa,fun b4 cD=> ?_⟩⟩⟩;have v2:=qb cB (.tup []);have v3:=qb cC (.tup [.str "said",.str "x"]);have v4:=qb cD (.tup [.ref b2,.ref b3]);have k2:Is _ (.tup []) (.ref b2):=(Is.new (ds:= []) rfl cB).mono v3.tk;have k3:=is2 (x:="said") (y:="x") (by decide) (by decide) cC
 have k4:Is _ (.tup [.tup [],s2 "said" "x"]) (.ref b4):=Is.new (ds:= [.tup [],s2 "said" "x"]) ⟨_,_,rfl,k2,_,_,rfl,k3,rfl⟩ cD;have bF:=v2.trans (v3.trans v4);refine⟨_,_,aw.mono bF.tk,k4,az,az,cx,_,rfl,?_⟩;refine qC (by rw [Qu az];rfl) ?_
 have ab:=v1.trans (ah.trans bF);generalize upd (upd (upd bZ b2 (.tup [])) b3 (.tup [.str "said",.str "x"])) b4 (.tup [.ref b2,.ref b3])=c0 at v4 k4 bF ab⊢;refine⟨_,rfl,t2,cy,_,rfl,ab _ _ cz,yi (by decide+kernel),aa,fun c1 cE=> ?_⟩
 have x1:=qb cE (.tup [.str "x",.non]);refine .inr ⟨t2,.ref c1,[R0],[.str "x",.non],cv,rfl,(bE.same ab).same x1,Is.new (ds:= [.str "x",.non]) ⟨_,_,rfl,isS (by decide),_,_,rfl,rfl,rfl⟩ cE,(by intro c hc;simp only [uY,uQ,Ud] at hc;rcases hc with rfl|rfl<;>simp [ANS]),fun r h=>by rw [List.mem_singleton.mp h];exact R0_ok,R0_fit,by simp,fun u2 aY aK aL=> ?_⟩
 rw [wkD_R0] at aL;refine⟨zero,fun c2 cF=>⟨aa,fun c3 cG=>⟨aa,fun c4 cH=> ?_⟩⟩⟩;have x2:=qb cF (.tup []);have x3:=qb cG (.tup [.str "said",.str "x"]);have x4:=qb cH (.tup [.ref c2,.ref c3]);have l2:Is _ (.tup []) (.ref c2):=(Is.new (ds:= []) rfl cF).mono x3.tk;have l3:=is2 (x:="said") (y:="x") (by decide) (by decide) cG
 have l4:Is _ (.tup [.tup [],s2 "said" "x"]) (.ref c4):=Is.new (ds:= [.tup [],s2 "said" "x"]) ⟨_,_,rfl,l2,_,_,rfl,l3,rfl⟩ cH;have bG:=x2.trans (x3.trans x4);refine⟨_,_,aL.mono bG.tk,l4,az,az,cx,_,rfl,?_⟩;refine qC (by rw [Qu az];rfl) ?_
 have ac:=bp.trans (ab.trans (x1.trans (aK.trans bG)));generalize upd (upd (upd aY c2 (.tup [])) c3 (.tup [.str "said",.str "x"])) c4 (.tup [.ref c2,.ref c3])=c8 at x4 l4 bG ac⊢;have cI:=bf.same ac;have dg:=be.keep ac.tk fun o h=>ac _ _ h;obtain⟨dh,dS,di,dU⟩:=id cI;refine⟨_,rfl,t,dh,_,rfl,di,yi (by decide+kernel),?_⟩
 refine⟨t,ws,S,rfl,cI,ag,aG,hs,by omega,fun u3 b8 ax dj=> ?_⟩
 refine⟨_,rfl,kd,rs,rfl,dg.keep ax.tk fun o h=>ax _ _ h,fun r h=>(hW r h).run,fun r h r' h'=>(hW r h).fit (hW r' h'),by omega,fun u4 aN cJ bz dk dl dm=> ?_⟩
 have e4:cJ=ws:=srt_uniq dk hs fun x=>(dl x).trans (hm x).symm;subst e4;obtain⟨bH,dq⟩:=ways_n (ws:=cJ) fun r h=>(aW r h).key;refine⟨_,_,dj.mono bz.tk,dm,bH,bH,dq,?_⟩;rw [Qu bH];exact k aN
end
end K27
namespace K27
open PySem L2 PyProof.Rows
theorem tx_mk {K:PySem.W.Frag}{h:Heap}{mg:Str->Option Value}(X:K.In h)(G:h.Ns mainGlobals mg){I B f1 f2 f3 f4 f5 f6 f7 f8 f9 ag ah ai aj ak al am ao ap aq au av aw ax ay az aA aB aC aD aE aF aG:Addr}{t1 t2 t3 t4 t5 t6 t7 t8 t9:Tok}
  (ac:PySem.W.nsIn K mainGlobals "Node"=some (some (.ref I))) (ad:Cls K I) (ab:PySem.W.makesIn K I=true/\PySem.W.keepIn K (.ref I)=true)
  (Y:PySem.W.nsIn K mainGlobals "AskTree"=some (some (.ref B))) (Z:Cls K B) (M:PySem.W.makesIn K B=true/\PySem.W.keepIn K (.ref B)=true)
  (h1:FZg K "is_text" jK f1)
  (h2:FZg K "is_tree" Yn f2)
  (h3:FZg K "tree_key" YX f3)
  (h4:FZg K "is_name" jX f4)
  (h5:FZg K "is_pair" jZ f5)
  (h6:FZg K "is_ask" JX f6)
  (h7:FZg K "is_row_of_names" Qx f7)
  (h8:FZg K "is_answer" Yj f8)
  (h9:FZg K "is_end" JP f9)
  (aH:FZg K "is_answered_ask" Qy ag)
  (aI:FZg K "is_run" JV ah)
  (ae:FZm K I "__init__" "Node.__init__" y8 ai)
  (af:FZm K B "__init__" "AskTree.__init__" Q0 aj)
  (aJ:FZm K B "put" "AskTree.put" yk ak)
  (aK:FZm K B "lay" "AskTree.lay" ym al)
  (aL:FZm K B "ways" "AskTree.ways" QV am)
  (aM:FZm K B "walk" "AskTree.walk" QW ao)
  (aN:FZg K "are_givers" yO ap)
  (aO:FZg K "answer_key" yJ aq)
  (aP:FZg K "branch" Jw au)
  (aQ:FZg K "_law_pot" jB av)
  (aS:FZg K "_law_take" Y2 aw)
  (aT:FZg K "_law_key" Jc ax)
  (aU:FZg K "_law_there" Yc ay)
  (aV:FZg K "_law_choices" yo az)
  (aW:FZg K "_law_way" jM aA)
  (aX:FZg K "_law_order" Yg aB)
  (aY:FZg K "_law_due" Yu aC)
  (aZ:FZg K "_law_put" jN aD)
  (a0:FZg K "_law_walked" QS aE)
  (a1:FZg K "_law_answers" Qs aF)
  (a2:FZg K "law" s_law aG)
  (R:PySem.W.findIn K (.ref I) "there"=some none)
  (U:PySem.W.findIn K (.ref I) "edges"=some none)
  (aa:PySem.W.findIn K (.ref I) "way"=some none)
  (O:PySem.W.findIn K (.ref I) "givers"=some none)
  (L:PySem.W.findIn K (.ref B) "beginning"=some none)
  (g1:PySem.W.nsIn K mainGlobals "MOST_SIGNS"=some (some (.int 300 t1)))
  (g2:PySem.W.nsIn K mainGlobals "MOST_PARTS"=some (some (.int 40 t2)))
  (g3:PySem.W.nsIn K mainGlobals "MOST_SIZE"=some (some (.int 600 t3)))
  (g4:PySem.W.nsIn K mainGlobals "MOST_DEPTH"=some (some (.int 12 t4)))
  (g5:PySem.W.nsIn K mainGlobals "MOST_NAME_SIGNS"=some (some (.int 24 t5)))
  (g6:PySem.W.nsIn K mainGlobals "LETTERS"=some (some (.str "abcdefghijklmnopqrstuvwxyz" t6)))
  (g7:PySem.W.nsIn K mainGlobals "NAME_SIGNS"=some (some (.str "abcdefghijklmnopqrstuvwxyz0123456789./" t7)))
  (g8:PySem.W.nsIn K mainGlobals "PERCENT"=some (some (.int 37 t8)))
  (g9:PySem.W.nsIn K mainGlobals "MOST_GIVER"=some (some (.int 99 t9)))
  (zz:∀x∈(["ord","len","isinstance","str","tuple","all","sorted","set","enumerate","bool","int","reversed","range","abs","list","sum"]:List Str),PySem.W.nsIn K mainGlobals x=some none):∃a,Tx K mg a:=by
 obtain⟨d1,F1⟩:=QC X G h1 ["value"] (by trivial)
 obtain⟨d2,F2⟩:=QC X G h2 ["value"] (by trivial)
 obtain⟨d3,F3⟩:=QC X G h3 ["tree"] (by trivial)
 obtain⟨d4,F4⟩:=QC X G h4 ["value"] (by trivial)
 obtain⟨d5,F5⟩:=QC X G h5 ["value"] (by trivial)
 obtain⟨d6,F6⟩:=QC X G h6 ["value"] (by trivial)
 obtain⟨d7,F7⟩:=QC X G h7 ["tree"] (by trivial)
 obtain⟨d8,F8⟩:=QC X G h8 ["ask","answer"] (by trivial)
 obtain⟨d9,F9⟩:=QC X G h9 ["value"] (by trivial)
 obtain⟨a3,a4⟩:=QC X G aH ["value"] (by trivial)
 obtain⟨a5,a6⟩:=QC X G aI ["value"] (by trivial)
 obtain⟨a7,a8⟩:=fm_of ae ["self","there"] (by trivial)
 obtain⟨a9,ba⟩:=fm_of af ["self"] (by trivial)
 obtain⟨bb,bc⟩:=fm_of aJ ["self","run","givers"] (by trivial)
 obtain⟨bd,be⟩:=fm_of aK ["self","run","givers"] (by trivial)
 obtain⟨bf,bg⟩:=fm_of aL ["self"] (by trivial)
 obtain⟨bh,bi⟩:=fm_of aM ["self","answers"] (by trivial)
 obtain⟨bj,bm⟩:=QC X G aN ["value"] (by trivial)
 obtain⟨bn,bo⟩:=QC X G aO ["answer"] (by trivial)
 obtain⟨bp,bq⟩:=QC X G aP ["run","givers","place"] (by trivial)
 obtain⟨br,bt⟩:=QC X G aQ ["cell","salt"] (by trivial)
 obtain⟨bu,bv⟩:=QC X G aS ["pot","many"] (by trivial)
 obtain⟨bw,bx⟩:=QC X G aT ["tree"] (by trivial)
 obtain⟨bz,bA⟩:=QC X G aU ["salt","path","lacked"] (by trivial)
 obtain⟨bB,bC⟩:=QC X G aV ["ask"] (by trivial)
 obtain⟨bD,bE⟩:=QC X G aW ["salt","pot"] (by trivial)
 obtain⟨bF,bG⟩:=QC X G aX ["run"] (by trivial)
 obtain⟨bH,bI⟩:=QC X G aY ["kept"] (by trivial)
 obtain⟨bJ,bK⟩:=QC X G aZ ["kept","run","givers"] (by trivial)
 obtain⟨bL,bM⟩:=QC X G a0 ["runs","answers"] (by trivial)
 obtain⟨bN,bO⟩:=QC X G a1 ["pot","run"] (by trivial)
 obtain⟨bP,bQ⟩:=QC X G a2 ["script"] (by trivial)
 have z:∀x∈(["ord","len","isinstance","str","tuple","all","sorted","set","enumerate","bool","int","reversed","range","abs","list","sum"]:List Str),mg x=none:=fun x hx=>PySem.W.mg_none_of X G (zz x hx);simp only [uY,uQ,Ud,forall_eq_or_imp,forall_eq] at z;obtain⟨z1,z2,z3,z4,z5,z6,z7,z8,z9,bR,bS,bT,bU,bV,bW,bX⟩:=z;exact⟨⟨f1,d1,f2,d2,f3,d3,f4,d4,f5,d5,f6,d6,f7,d7,f8,d8,f9,d9,ag,a3,ah,a5,ai,a7,aj,a9,ak,bb,al,bd,am,bf,ao,bh,ap,bj,aq,bn,au,bp,av,br,aw,bu,ax,bw,ay,bz,az,bB,aA,bD,aB,bF,aC,bH,aD,bJ,aE,bL,aF,bN,aG,bP,I,B⟩,⟨F1,F2,F3,F4,F5,F6,F7,F8,F9,a4,a6,a8,ba,bc,be,bg,bi,bm,bo,bq,bt,bv,bx,bA,bC,bE,bG,bI,bK,bM,bO,bQ,ad,⟨ab.1,ae.1,ae.2.1,ab.2⟩,vc X G ac,R,U,aa,O,Z,⟨M.1,af.1,af.2.1,M.2⟩,vc X G Y,L,⟨_,vc X G g1⟩,⟨_,vc X G g2⟩,⟨_,vc X G g3⟩,⟨_,vc X G g4⟩,⟨_,vc X G g5⟩,⟨_,vc X G g6⟩,⟨_,vc X G g7⟩,⟨_,vc X G g8⟩,⟨_,vc X G g9⟩,z1,z2,z3,z4,z5,z6,z7,z8,z9,bR,bS,bT,bU,bV,bW,bX⟩⟩
theorem fx_mk {w:World}{K:PySem.W.Frag}{h:Heap}{mg:Str->Option Value}{a:Ad}(T:Tx K mg a)(X:K.In h)(G:h.Ns mainGlobals mg){B:Addr}
  (I:PySem.W.nsIn K mainGlobals "FAULTS"=some (some (.ref B))) (L:TZ K B FLT):∃g,Fx K w mg g a:=⟨⟨B⟩,⟨vc X G I,fun H=>L.sq (by decide)⟩⟩
end K27
open PySem PySem.W PyProof.Rows L2
set_option maxRecDepth 100000 in
set_option maxHeartbeats 0 in
theorem PySem.Challenge.cw_askwright_k27_walks_holds : PySem.Challenge.rw_askwright_k27_walks.Holds := by
 w_on;o_law;k_head;(case hw=>w_witness2)
 k_fill
 refine L2.walk_ofB (l:=PySem.Challenge.rw_askwright_k27_walks) (n:=63) (k:=14) (x:="script") (CX:=L2.CX0) (sp:=K27.sp_law) rfl (by decide) rfl ⟨rfl,by decide,by decide⟩ (fun w h Y=>PySem.W.kIn_of Y) ?F ?S ?C
 case F=>
  intro w mg fa h KX G hmg
  have T:∃a,K27.Tx (L2.KOf KX) mg a:=by
   dsimp only [L2.KOf]
   refine' K27.tx_mk KX G ..
   all_goals first|exact⟨by k_is,_,_,_,_,_,_,_,_,_,by k_is,by k_is,by k_is⟩|exact⟨by k_is,by k_is,_,_,_,_,_,_,_,_,_,by k_is,by k_is,by k_is⟩|(show _=_;k_is)|exact⟨by k_is,by k_is,by k_is,by k_is⟩|exact⟨by k_is,by k_is⟩|(intro x hx;simp only [uY,uQ,Ud] at hx;rcases hx with rfl|rfl|rfl|rfl|rfl|rfl|rfl|rfl|rfl|rfl|rfl|rfl|rfl|rfl|rfl|rfl<;>k_is)|skip
  obtain⟨a,T⟩:=T
  have C:∃g,K27.Fx (L2.KOf KX) w mg g a:=by
   dsimp only [L2.KOf] at T⊢
   refine' K27.fx_mk T KX G ..
   all_goals try (first|(show _=some (some _);k_is)|(show _=some (Obj.mk _ _ _ _);k_is)|exact⟨_,_,_,_,by k_is,rfl⟩)
  obtain⟨g,C⟩:=C
  have e0:=hmg.symm.trans T.g_law.m
  cases e0
  exact⟨_,T.g_law.law (fun _ _ _ _ _ _ _=>rfl),(by obtain⟨_,_,_,_,_,_,_,_,_,e,_⟩:=T.g_law.F.ex;rw [e];rfl),fun base kb nb=>K27.ok_law T C⟩
 case S=>exact fun w H a ns hl hb hO hS=>⟨a,ns,rfl,hS,hl,fun _=>rfl⟩
 case C=>exact fun _ _ _ _ z=>z
