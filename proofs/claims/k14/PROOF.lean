import PyProof.Rows.All
import Wide.All
import OpenK.AllK
import Wide.FinOn
import Lean
import PyProof.EqAt
import PyProof.EqKinds
import PyProof.TupleCall
import PySem.Str
import PyProof.ZipIter
import PyProof.Draws
import PyProof.StrLawsChain
import PyProof.StrLawsTight
import KE.KIntText
import OpenK.KTop
import PyProof.StationsW
import PyProof.ExcClass2
import PyProof.ExcBaseAll.ValueError
import PyProof.Rows.Catch
import OpenK.KOwn
import KE.KTryMore
import KE.FramesApart
import PyProof.RulesAs
import PyProof.NsDelKeeps
import PyProof.ExcArgs
import PyProof.Rows.SortStr
import KE.KDictSum
import PyProof.DictWalks
import PyProof.IsiH_list
import KE.KDictOf
import PyProof.NeKinds
import PyProof.StrCalls6
import PyProof.FString
import KE.KUnpack
import KE.KItemsList
import KE.KRevIter
import KE.IntBitsLaws
import PyProof.FString5
import PySem.Challenge.RW_askwright_k14_whole_asked_by_answers_alo
def PySem.W.Fast.tw16322796205111588650 : Nat := 0
def PySem.W.Fast.tw8671490462058016152 : Nat := 0
def PySem.W.Fast.tw14904918725845583493 : Nat := 0
def PySem.W.Fast.tw17181385354050343997 : Nat := 0
def PySem.W.Fast.tw6250736088517181797 : Nat := 0
def PySem.W.Fast.tw14570781912756531271 : Nat := 0
def PySem.W.Fast.tw2388068051526806477 : Nat := 0
def PySem.W.Fast.tw11403846565658815613 : Nat := 0
def PySem.W.Fast.tw9666457919230804322 : Nat := 0
def PySem.W.Fast.tw17749811871958015931 : Nat := 0
def PySem.W.Fast.tw8164056277728082770 : Nat := 0
def PySem.W.Fast.tw9509380342247752438 : Nat := 0
def PySem.W.Fast.tw6400670657018801236 : Nat := 0
def PySem.W.Fast.tw13563562773527911707 : Nat := 0
def PySem.W.Fast.tw17866227608257695717 : Nat := 0
def PySem.W.Fast.tw8141419766002343058 : Nat := 0
def PySem.W.Fast.tw1108978879743055658 : Nat := 0
def PySem.W.Fast.tw15737779145761805301 : Nat := 0
def PySem.W.Fast.tw10191115533672054829 : Nat := 0
def PySem.W.Fast.tw7673061061340834482 : Nat := 0
def PySem.W.Fast.tw17320957613716078197 : Nat := 0
def PySem.W.Fast.tw9566887414845152629 : Nat := 0
def PySem.W.Fast.tw14308381358931631553 : Nat := 0
def PySem.W.Fast.tw15637143677357546539 : Nat := 0
def PySem.W.Fast.tw3530018070731006290 : Nat := 0
def PySem.W.Fast.tw636903296571280164 : Nat := 0
def PySem.W.Fast.tw9954852611379428874 : Nat := 0
def PySem.W.Fast.tw2380862658825700870 : Nat := 0
def PySem.W.Fast.tw9415353102833398028 : Nat := 0
def PySem.W.Fast.tw17241908744251429849 : Nat := 0
def PySem.W.Fast.tw7278220659289786887 : Nat := 0
def PySem.W.Fast.tw5015128022027966649 : Nat := 0
def PySem.W.Fast.tw11140860893200684957 : Nat := 0
def PySem.W.Fast.tw11530817050716657318 : Nat := 0
def PySem.W.Fast.tw8651209932877299869 : Nat := 0
def PySem.W.Fast.tw15535762864855022760 : Nat := 0
def PySem.W.Fast.tw1751701860020574290 : Nat := 0
def PySem.W.Fast.tw9706728528916020641 : Nat := 0
def PySem.W.Fast.tw7797453986794287332 : Nat := 0
def PySem.W.Fast.tw5016849544153074720 : Nat := 0
def PySem.W.Fast.tw6029456663839095662 : Nat := 0
def PySem.W.Fast.tw2342512278078499809 : Nat := 0
def PySem.W.Fast.tw14686368163949237939 : Nat := 0
def PySem.W.Fast.tw11862643226272111823 : Nat := 0
def PySem.W.Fast.tw16038412020850068831 : Nat := 0
def PySem.W.Fast.tw2536519207356358299 : Nat := 0
def PySem.W.Fast.tw12046192433001036566 : Nat := 0
def PySem.W.Fast.tw8927252356083958375 : Nat := 0
def PySem.W.Fast.tw1637550043279406284 : Nat := 0
def PySem.W.Fast.tw10977330229318271912 : Nat := 0
def PySem.W.Fast.tw7577952628108988463 : Nat := 0
def PySem.W.Fast.tw17687380534477485795 : Nat := 0
def PySem.W.Fast.tw16332531314729835444 : Nat := 0
def PySem.W.Fast.tw12991760411294133065 : Nat := 0
def PySem.W.Fast.tw10149474214427863542 : Nat := 0
def PySem.W.Fast.tw3921847735146801979 : Nat := 0
def PySem.W.Fast.tw4812868032172323088 : Nat := 0
def PySem.W.Fast.tw3871707670202595000 : Nat := 0
def PySem.W.Fast.tw15589311028089998819 : Nat := 0
def PySem.W.Fast.tw11733748937682262692 : Nat := 0
def PySem.W.Fast.tw15670873834007687862 : Nat := 0
def PySem.W.Fast.tw10189088137468838432 : Nat := 0
def PySem.W.Fast.tw2325832208130713587 : Nat := 0
def PySem.W.Fast.tw3029249064751201154 : Nat := 0
def PySem.W.Fast.tw15791349855895049610 : Nat := 0
def PySem.W.Fast.tw17203278728649117262 : Nat := 0
def PySem.W.Fast.tw1978859184793839051 : Nat := 0
def PySem.W.Fast.tw10689775935461480869 : Nat := 0
def PySem.W.Fast.tw4360234041852396420 : Nat := 0
def PySem.W.Fast.tw17698939359656430012 : Nat := 0
def PySem.W.Fast.tw5457457142427268271 : Nat := 0
def PySem.W.Fast.tw11927643421474331772 : Nat := 0
def PySem.W.Fast.tw15234203416252100685 : Nat := 0
def PySem.W.Fast.tw4987274602876628294 : Nat := 0
def PySem.W.Fast.tw6464552991969091901 : Nat := 0
def PySem.W.Fast.tw14518052822656070895 : Nat := 0
def PySem.W.Fast.tw11491064322642812842 : Nat := 0
def PySem.W.Fast.tw17298334409754302581 : Nat := 0
def PySem.W.Fast.tw12778105517541162373 : Nat := 0
def PySem.W.Fast.tw12345913617712600796 : Nat := 0
def PySem.W.Fast.tw3464766039018935123 : Nat := 0
def PySem.W.Fast.tw13541703030583790058 : Nat := 0
def PySem.W.Fast.tw3705087323085214846 : Nat := 0
def PySem.W.Fast.tw643607512492361146 : Nat := 0
def PySem.W.Fast.tw12535957877204578224 : Nat := 0
def PySem.W.Fast.tw9294183229152130081 : Nat := 0
def PySem.W.Fast.tw17198788169728520794 : Nat := 0
local macro_rules | `(tactic| trivial) => `(tactic| first | rfl | exact .inl rfl | exact .inr rfl | exact .inr (.inl rfl) | decide +kernel | (intro _; rfl))
set_option Elab.async false
set_option linter.all false
set_option maxRecDepth 100000
set_option maxHeartbeats 4000000
namespace L2
open PySem PySem.Spec PyProof.Rows
abbrev Key:=Sum Int Str
def keyIs:Key→Value→Bool
 | .inl k,v=>Value.isInt k v
 | .inr x,v=>Value.isStrOf x v
def keyH (w:World):Key→Int
 | .inl k=>hashInt k
 | .inr x=>hashStr w x
theorem Q5:∀{k:Key}{v:Value},keyIs k v=true→(∃i t,k=Sum.inl i∧v=Value.int i t)∨(∃x t,k=Sum.inr x∧v=Value.str x t)
 | .inl i,v,h=>by
  obtain⟨t,e⟩:=Value.isInt_shape (k:=i) (v:=v) h
  exact .inl ⟨i,t,rfl,e⟩
 | .inr x,v,h=>by
  obtain⟨t,e⟩:=Value.isStrOf_shape (x:=x) (v:=v) h
  exact .inr ⟨x,t,rfl,e⟩
theorem keyIs_int (i:Int)(t:Tok):keyIs (.inl i) (.int i t)=true:=by simp [keyIs,Value.isInt]
theorem keyIs_str (x:Str)(t:Tok):keyIs (.inr x) (.str x t)=true:=by simp [keyIs,Value.isStrOf]
theorem key_ll (a b:Int):decide ((Sum.inl a:Key)=Sum.inl b)=(a==b):=by
 by_cases e:a=b
 ·subst e;simp
 ·have h:¬(Sum.inl a:Key)=Sum.inl b:=fun q=>e (Sum.inl.inj q)
  rw [decide_eq_false h]
  exact(beq_eq_false_iff_ne.mpr e).symm
theorem key_rr (a b:Str):decide ((Sum.inr a:Key)=Sum.inr b)=decide (a=b):=by
 by_cases e:a=b
 ·subst e;simp
 ·have h:¬(Sum.inr a:Key)=Sum.inr b:=fun q=>e (Sum.inr.inj q)
  rw [decide_eq_false h,decide_eq_false e]
theorem key_lr (a:Int)(b:Str):decide ((Sum.inl a:Key)=Sum.inr b)=false:=decide_eq_false (fun q=>nomatch q)
theorem key_rl (a:Str)(b:Int):decide ((Sum.inr a:Key)=Sum.inl b)=false:=decide_eq_false (fun q=>nomatch q)
def yl (prog:Program)(w:World):PySem.KeyKind prog w Key where
 is:=keyIs
 hash:=keyH w
 inj:=fun v a b ha hb=>by
  rcases Q5 ha with⟨i,t,rfl,rfl⟩|⟨x,t,rfl,rfl⟩
  ·rcases Q5 hb with⟨j,u,rfl,e⟩|⟨y,u,rfl,e⟩
   ·injection e with e1 _;rw [e1]
   ·exact nomatch e
  ·rcases Q5 hb with⟨j,u,rfl,e⟩|⟨y,u,rfl,e⟩
   ·exact nomatch e
   ·injection e with e1 _;rw [e1]
 byValue:=fun k v h=>by
  rcases Q5 h with⟨i,t,rfl,rfl⟩|⟨x,t,rfl,rfl⟩<;>rfl
 pyHash:=fun hv h=>by
  rcases Q5 hv with⟨i,t,rfl,rfl⟩|⟨x,t,rfl,rfl⟩
  ·exact wpAny_pyHash_int h
  ·exact wpAny_pyHash_str h
 eqBool:=fun hu hv h=>by
  rcases Q5 hu with⟨i,t,rfl,rfl⟩|⟨x,t,rfl,rfl⟩
  ·rcases Q5 hv with⟨j,u,rfl,rfl⟩|⟨y,u,rfl,rfl⟩
   ·rw [key_ll] at h;exact wpAny_eqBool_int h
   ·rw [key_lr] at h;exact SeqAt.EqAt.int_str i t y u _ _ _ _ h
  ·rcases Q5 hv with⟨j,u,rfl,rfl⟩|⟨y,u,rfl,rfl⟩
   ·rw [key_rl] at h;exact SeqAt.EqAt.str_int x t j u _ _ _ _ h
   ·rw [key_rr] at h;exact wpAny_eqBool_str h
 «strs»:=fun k x t v h=>by
  rcases Q5 h with⟨i,u,rfl,e⟩|⟨y,u,rfl,e⟩
  ·exact nomatch e
  ·injection e with e1 _
   subst e1
   cases v<;>rfl
theorem mixKind_int (prog:Program)(w:World)(i:Int)(t:Tok):(yl prog w).is (.inl i) (.int i t)=true:=keyIs_int i t
theorem zk (prog:Program)(w:World)(x:Str)(t:Tok):(yl prog w).is (.inr x) (.str x t)=true:=keyIs_str x t
end L2
namespace L2
open PySem PySem.Spec PyProof.Rows
inductive V where
 |non|bl (b:Bool)|int (i:Int)|str (x:Str)|byt (b:Array UInt8)|flt (b:UInt64)|ref (a:Addr)|ty (n:String)
 deriving DecidableEq
def RelV:V→Value→Prop
 | .non,u=>u=Value.none
 | .bl b,u=>u=Value.bool b
 | .int i,u=>∃t,u=Value.int i t
 | .str x,u=>∃t,u=Value.str x t
 | .byt b,u=>∃t,u=Value.bytes b t
 | .flt b,u=>∃t,u=Value.float b t
 | .ref a,u=>u=Value.ref a
 | .ty n,u=>u=Value.type n
abbrev Vals:List V→List Value→Prop:=Paired RelV
theorem Vals.length {xs:List V}{us:List Value}(r:Vals xs us):xs.length=us.length:=Paired.length r
theorem Vals.get:∀{xs:List V}{us:List Value}{i:Nat}{x:V},Vals xs us→xs[i]? =some x→∃u,us[i]? =some u∧RelV x u
 |_,_,_,_,.nil,e=>by simp at e
 |_,_,0,_,.cons r _,e=>by simp at e;subst e;exact⟨_,rfl,r⟩
 |_,_,i+1,x,.cons _ t,e=>by
  obtain⟨u,h1,h2⟩:=Vals.get (i:=i) (x:=x) t (by simpa using e)
  exact⟨u,by simpa using h1,h2⟩
theorem Vals.set {x:V}{u:Value}(r:RelV x u):∀{xs:List V}{us:List Value} (i:Nat),Vals xs us→Vals (xs.set i x) (us.set i u)
 |_,_,_,.nil=> .nil
 |_,_,0,.cons _ t=> .cons r t
 |_,_,i+1,.cons q t=> .cons q (Vals.set r i t)
theorem Vals.append:∀{xs ys:List V}{us ws:List Value},Vals xs us→Vals ys ws→Vals (xs++ys) (us++ws)
 |_,_,_,_,.nil,s=>s
 |_,_,_,_,.cons r t,s=> .cons r (Vals.append t s)
theorem Vals.take:∀{xs:List V}{us:List Value} (n:Nat),Vals xs us→Vals (xs.take n) (us.take n)
 |_,_,0,_=> .nil
 |_,_,_+1,.nil=> .nil
 |_,_,n+1,.cons r t=> .cons r (Vals.take n t)
theorem Vals.drop:∀{xs:List V}{us:List Value} (n:Nat),Vals xs us→Vals (xs.drop n) (us.drop n)
 |_,_,0,r=>r
 |_,_,_+1,.nil=> .nil
 |_,_,n+1,.cons _ t=>Vals.drop n t
def RelO:Option V→Option Value→Prop
 |some v,some u=>RelV v u
 |none,none=>True
 |_,_=>False
def KV {κ:Type}:List (κ×V)→List (κ×Value)→Prop:=Paired fun(p:κ×V) (q:κ×Value)=>p.1=q.1∧RelV p.2 q.2
def kV:Key→V
 | .inl i=> .int i
 | .inr x=> .str x
inductive HO where
 |lst (xs:List V)
 |tup (xs:List V)
 |dK (kvs:List (Key×V))|dT (kvs:List (List Key×V))
 |set (S:Int→Bool) (n:Nat)
 |ins (C dx:Addr) (fs:List (Str×V))
 |own (x:Addr)
 |xd (fs:List (Str×V))
 |met (f x:Addr)
 |rng (lo hi:Int)
 |frz (o:Obj) (u:HO)
 |tbl (ps:Array Value)
 |ext (φ:Heap→Prop)
abbrev Hp:=Addr→Option HO
def upd (H:Hp)(a:Addr)(o:HO):Hp:=fun b=>if b=a then some o else H b
theorem qj {H:Hp}{a:Addr}{o:HO}:upd H a o a=some o:=by unfold upd;rw [if_pos rfl]
theorem qD {H:Hp}{a b:Addr}{o:HO}(h:b≠a):upd H a o b=H b:=by unfold upd;rw [if_neg h]
theorem ne_of {H:Hp}{a b:Addr}{o u:HO}(h:H a=some o)(h':H b=some u)(d:o≠u):a≠b:=by
 intro e;subst e;rw [h] at h';exact d (Option.some.inj h')
theorem ql {H:Hp}{a b:Addr}{o:HO}(h:H a=some o)(h':H b=none):a≠b:=by
 intro e;subst e;rw [h] at h';cases h'
section
variable (P:Program)(w:World)
def y3 (H:Hp)(h:Heap)(a:Addr):HO→Prop
 | .lst xs=>xs.length≤sizeLine∧∃(its:List Value) (n:Nat),Vals xs its∧h.get? a=some {cls:= .type "list",data:= .seq its.toArray n}
 | .tup xs=>xs.length≤sizeLine∧∃its:List Value,Vals xs its∧IsTup h a its.toArray
 | .dK kvs=>kvs.length≤sizeLine∧(a==sysModules)=false∧∃vs,KV kvs vs∧h.DictOf (yl P w) a vs
 | .dT kvs=>kvs.length≤sizeLine∧(a==sysModules)=false∧∃xs:List (List Key×Addr×Value),
   Paired (fun(p:List Key×V) (q:List Key×Addr×Value)=>p.1=q.1∧H q.2.1=some (.tup (p.1.map kV))∧RelV p.2 q.2.2) kvs xs∧
   ∃o es ep,h.get? a=some o∧o.ExactDict∧o.data= .dict es ep∧es.toList=xs.map (entryOfKey (tupleKind (yl P w)))∧(xs.map (·.1)).Nodup
 | .set S n=>h.SetOf (intKind P w) a S n
 | .ins C dx fs=>H dx=some (.own a)∧fs.length≤1000∧dx≠a∧h.get? a=some (PySem.W.instObj C dx)∧
   ∃mA,h.Ns1 dx mA∧(∀f,RelO (fs.lookup f) (mA f))∧PySem.Within mA (fs.map (·.1))
 | .own _=>∃o,h.get? a=some o
 | .xd fs=>∃mA,h.Ns1 a mA∧∀f,RelO (fs.lookup f) (mA f)
 | .rng lo hi=>∃t u v,h.get? a=some {cls:= .type "range",data:= .fields #[.int lo t,.int hi u,.int 1 v]}
 | .frz o u=>h.get? a=some o∧y3 H h a u
 | .tbl ps=>h.get? a=some {cls:= .none,data:= .fields ps}
 | .met f x=>h.get? a=some (PySem.W.methodObj (.ref f) (.ref x))
 | .ext φ=>φ h∧(∃o,h.get? a=some o)∧∀h1 h2:Heap,φ h1→(∀o,h1.get? a=some o→h2.get? a=some o)→φ h2
def HOk (H:Hp)(h:Heap):Prop:=∀a o,H a=some o→y3 P w H h a o
end
section
variable {P:Program}{w:World}{H H':Hp}{h h':Heap}{a:Addr}{o:HO}
theorem y3.lt (x:y3 P w H h a o):a<h.objs.size:=by
 cases o with
 |lst xs=>obtain⟨_,_,_,_,e⟩:=x;exact Heap.lt_size e
 |tup xs=>obtain⟨_,_,_,p⟩:=x;exact p.lt
 |dK kvs=>obtain⟨_,_,_,_,o,_,_,e,_⟩:=x;exact Heap.lt_size e
 |dT kvs=>obtain⟨_,_,_,_,o,_,_,e,_⟩:=x;exact Heap.lt_size e
 |set S n=>obtain⟨o,_,_,_,e,_⟩:=x;exact Heap.lt_size e
 |ins C dx fs=>obtain⟨_,_,_,e,_⟩:=x;exact Heap.lt_size e
 |own y=>obtain⟨_,e⟩:=x;exact Heap.lt_size e
 |xd fs=>obtain⟨_,⟨_,_,_,e,_⟩,_⟩:=x;exact Heap.lt_size e
 |rng lo hi=>obtain⟨_,_,_,e⟩:=x;exact Heap.lt_size e
 |frz ob u=>obtain⟨e,_⟩:=x;exact Heap.lt_size e
 |tbl ps=>exact Heap.lt_size (show h.get? a=some _ from x)
 |met f y=>exact Heap.lt_size (show h.get? a=some _ from x)
 |ext φ=>obtain⟨_,⟨_,e⟩,_⟩:=x;exact Heap.lt_size e
theorem Paired.mapP {α β:Type}{F G:α→β→Prop}:∀{l₁:List α}{l₂:List β},Paired F l₁ l₂→(∀a b,F a b→G a b)→Paired G l₁ l₂
 |_,_,.nil,_=> .nil
 |_,_,.cons r t,f=> .cons (f _ _ r) (Paired.mapP t f)
theorem y3.stay (x:y3 P w H h a o)(k:∀b u,(b=a∨H b=some (.own a))→h.get? b=some u→h'.get? b=some u)
  (ho:∀b,H b=some (.own a)→H' b=some (.own a)) (ht:∀b xs,H b=some (.tup xs)→H' b=some (.tup xs)):y3 P w H' h' a o:=by
 induction o with
 |lst xs=>obtain⟨z,its,n,r,e⟩:=x;exact⟨z,its,n,r,k _ _ (.inl rfl) e⟩
 |tup xs=>obtain⟨z,its,r,ob,e,c⟩:=x;exact⟨z,its,r,ob,k _ _ (.inl rfl) e,c⟩
 |dK kvs=>obtain⟨z,y,vs,r,ob,es,ep,e,c⟩:=x;exact⟨z,y,vs,r,ob,es,ep,k _ _ (.inl rfl) e,c⟩
 |dT kvs=>
  obtain⟨z,y,xs,r,ob,es,ep,e,c⟩:=x
  exact⟨z,y,xs,Paired.mapP r fun p q z=>⟨z.1,ht _ _ z.2.1,z.2.2⟩,ob,es,ep,k _ _ (.inl rfl) e,c⟩
 |set S n=>obtain⟨ob,es,ep,t,e,c⟩:=x;exact⟨ob,es,ep,t,k _ _ (.inl rfl) e,c⟩
 |ins C dx fs=>
  obtain⟨d,z,ne,e,mA,⟨od,es,ep,e2,c⟩,r⟩:=x
  exact⟨ho _ d,z,ne,k _ _ (.inl rfl) e,mA,⟨od,es,ep,k _ _ (.inr d) e2,c⟩,r⟩
 |own y=>obtain⟨ob,e⟩:=x;exact⟨ob,k _ _ (.inl rfl) e⟩
 |xd fs=>obtain⟨mA,⟨od,es,ep,e,c⟩,r⟩:=x;exact⟨mA,⟨od,es,ep,k _ _ (.inl rfl) e,c⟩,r⟩
 |rng lo hi=>obtain⟨t,u,v,e⟩:=x;exact⟨t,u,v,k _ _ (.inl rfl) e⟩
 |frz ob u ih=>obtain⟨e,q⟩:=x;exact⟨k _ _ (.inl rfl) e,ih q⟩
 |tbl ps=>
  have e:h.get? a=some {cls:= .none,data:= .fields ps}:=x
  show h'.get? a=some {cls:= .none,data:= .fields ps}
  exact k a _ (.inl rfl) e
 |met f y=>
  have e:h.get? a=some (PySem.W.methodObj (.ref f) (.ref y)):=x
  show h'.get? a=some (PySem.W.methodObj (.ref f) (.ref y))
  exact k a _ (.inl rfl) e
 |ext φ=>obtain⟨p,⟨o,e⟩,st⟩:=x;exact⟨st _ _ p fun o q=>k _ _ (.inl rfl) q,⟨o,k _ _ (.inl rfl) e⟩,st⟩
theorem HOk.lt (x:HOk P w H h)(e:H a=some o):a<h.objs.size:=(x a o e).lt
theorem HOk.fresh (x:HOk P w H h)(e:h.objs.size≤a):H a=none:=by
 cases q:H a with
 |none=>rfl
 |some u=>exact absurd (Nat.lt_of_lt_of_le (x.lt q) e) (Nat.lt_irrefl _)
theorem HOk.kept (x:HOk P w H h)(k:∀b u,h.get? b=some u→h'.get? b=some u):HOk P w H h':=fun a o e=>
 (x a o e).stay (fun b u _ q=>k b u q) (fun _ q=>q) fun _ _ q=>q
theorem HOk.laid (x:HOk P w H h)(k:∀b u,h.get? b=some u→h'.get? b=some u)(hp:h.objs.size≤a)(new:y3 P w (upd H a o) h' a o):HOk P w (upd H a o) h':=fun b u e=>by
 have hn:=x.fresh hp
 by_cases hb:b=a
 ·subst hb;rw [qj] at e;cases e;exact new
 ·rw [qD hb] at e
  exact(x b u e).stay (fun c v _ q=>k c v q) (fun c q=>by rw [qD (ql q hn)];exact q) fun c xs q=>by rw [qD (ql q hn)];exact q
end
def Rd (H:Hp)(a:Addr)(u:HO):Prop:=H a=some u∨∃o,H a=some (.frz o u)
theorem Rd.of {H:Hp}{a:Addr}{u:HO}(h:H a=some u):Rd H a u:= .inl h
theorem Rd.ok {P:Program}{w:World}{H:Hp}{h:Heap}{a:Addr}{u:HO}(r:Rd H a u)(x:HOk P w H h):y3 P w H h a u:=by
 rcases r with r|⟨o,r⟩
 ·exact x a u r
 ·obtain⟨_,q⟩:=x a _ r
  exact q
def Mut:Option HO→Prop
 |some (.lst _)=>True
 |some (.dK _)=>True
 |some (.dT _)=>True
 |some (.set _ _)=>True
 |some (.ins _ _ _)=>True
 |some (.ext _)=>True
 |_=>False
section
variable {P:Program}{w:World}{H:Hp}{h h':Heap}{x e:Addr}{o':HO}
theorem HOk.write (ok:HOk P w H h)(mu:Mut (H x))(he:e=x∨H e=some (.own x))(k:∀b u,b≠e→h.get? b=some u→h'.get? b=some u)(heo:∃u,h'.get? e=some u)
  (new:y3 P w (upd H x o') h' x o'):HOk P w (upd H x o') h':=fun b u q=>by
 have nown:∀c y,H c=some (.own y)→c≠x:=fun c y r z=>by subst z;rw [r] at mu;exact mu
 have ntup:∀c xs,H c=some (.tup xs)→c≠x:=fun c xs r z=>by subst z;rw [r] at mu;exact mu
 by_cases hb:b=x
 ·subst hb;rw [qj] at q;cases q;exact new
 ·rw [qD hb] at q
  by_cases hbe:b=e
  ·have q':H b=some (.own x):=by
    rcases he with z|z
    ·exact absurd (hbe.trans z) hb
    ·rw [hbe];exact z
   rw [q] at q';cases q'
   obtain⟨v,hv⟩:=heo
   exact⟨v,by rw [hbe];exact hv⟩
  ·refine(ok b u q).stay (fun c v hc r=>k c v ?_ r) (fun c r=>by rw [qD (nown c b r)];exact r) fun c xs r=>by rw [qD (ntup c xs r)];exact r
   rcases hc with rfl|hc
   ·exact hbe
   ·rintro rfl
    rcases he with z|z
    ·exact nown c b hc z
    ·rw [hc] at z;cases z;exact hb rfl
end
structure Un (fs ex:List Addr)(H H':Hp)(h h':Heap):Prop where
 keep:∀b o,h.get? b=some o→H b=none→b∉fs→b∉ex→h'.get? b=some o
 slot:∀b o,h.get? b=some o→H b=none→b∈fs→b∉ex→∃sl,h'.get? b=some {o with slots:=sl}
 free:∀b o,h.get? b=some o→H b=none→b∉ex→H' b=none
 there:∀b o,h.get? b=some o→b∉ex→∃o',h'.get? b=some o'
 tups:∀b xs,H b=some (.tup xs)→H' b=some (.tup xs)
 frzs:∀b o u,H b=some (.frz o u)→H' b=some (.frz o u)
 tbls:∀b ps,H b=some (.tbl ps)→∃more,H' b=some (.tbl (ps++more))
section
variable {fs fs' ex ex':List Addr}{H H1 H2:Hp}{h h1 h2 h':Heap}{a x e:Addr}{o:HO}
theorem Un.any (u:Un fs ex H H1 h h1){b:Addr}{ob:Obj}(q:h.get? b=some ob)(n:H b=none)(hx:b∉ex):∃sl,h1.get? b=some {ob with slots:=sl}:=by
 by_cases hb:b∈fs
 ·exact u.slot b ob q n hb hx
 ·exact⟨ob.slots,u.keep b ob q n hb hx⟩
theorem Un.trans (a:Un fs ex H H1 h h1)(b:Un fs ex H1 H2 h1 h2):Un fs ex H H2 h h2 where
 keep:=fun c ob q n hc hx=>b.keep c ob (a.keep c ob q n hc hx) (a.free c ob q n hx) hc hx
 slot:=fun c ob q n hc hx=>by
  obtain⟨sl,e1⟩:=a.slot c ob q n hc hx
  obtain⟨sl',e2⟩:=b.slot c _ e1 (a.free c ob q n hx) hc hx
  exact⟨sl',e2⟩
 free:=fun c ob q n hx=>by
  obtain⟨o',e1⟩:=a.there c ob q hx
  exact b.free c o' e1 (a.free c ob q n hx) hx
 there:=fun c ob q hx=>by
  obtain⟨o',e1⟩:=a.there c ob q hx
  exact b.there c o' e1 hx
 tups:=fun c xs q=>b.tups c xs (a.tups c xs q)
 frzs:=fun c ob xs q=>b.frzs c ob xs (a.frzs c ob xs q)
 tbls:=fun c ps q=>by
  obtain⟨m1,e1⟩:=a.tbls c ps q
  obtain⟨m2,e2⟩:=b.tbls c _ e1
  exact⟨m1++m2,by rw [e2,Array.append_assoc]⟩
theorem Un.kept (k:∀b u,h.get? b=some u→h'.get? b=some u):Un fs ex H H h h':=
 ⟨fun b ob q _ _ _=>k b ob q,fun b ob q _ _ _=>⟨ob.slots,k b ob q⟩,fun _ _ _ n _=>n,fun b ob q _=>⟨ob,k b ob q⟩,fun _ _ q=>q,fun _ _ _ q=>q,fun _ ps q=>⟨#[],by rw [q];simp⟩⟩
theorem Un.refl:Un fs ex H H h h:=Un.kept fun _ _ q=>q
theorem Un.laid (k:∀b u,h.get? b=some u→h'.get? b=some u)(hp:h.objs.size≤a)(hn:H a=none):Un fs ex H (upd H a o) h h' where
 keep:=fun b u q _ _ _=>k b u q
 slot:=fun b u q _ _ _=>⟨u.slots,k b u q⟩
 free:=fun b u q n _=>by rw [qD (Nat.ne_of_lt (Nat.lt_of_lt_of_le (Heap.lt_size q) hp))];exact n
 there:=fun b u q _=>⟨u,k b u q⟩
 tups:=fun b xs q=>by rw [qD (ql q hn)];exact q
 frzs:=fun b u xs q=>by rw [qD (ql q hn)];exact q
 tbls:=fun b ps q=>⟨#[],by rw [qD (ql q hn),q];simp⟩
theorem Un.write (mu:Mut (H x))(he:e=x∨H e=some (.own x))(k:∀b u,b≠e→h.get? b=some u→h'.get? b=some u)(heo:∃u,h'.get? e=some u):Un fs ex H (upd H x o) h h':=by
 have hx:∀b,H b=none→b≠x:=fun b n z=>by subst z;rw [n] at mu;exact mu
 have hb:∀b,H b=none→b≠e:=fun b n z=>by
  subst z
  rcases he with r|r
  ·exact hx b n r
  ·rw [n] at r;cases r
 have hm:∀b u,H b=some u→¬Mut (some u)→b≠x:=fun b u q nm z=>by subst z;rw [q] at mu;exact nm mu
 refine⟨fun b u q n _ _=>k b u (hb b n) q,fun b u q n _ _=>⟨u.slots,k b u (hb b n) q⟩,fun b u q n _=>by rw [qD (hx b n)];exact n,fun b u q _=> ?_,
  fun b xs q=>by rw [qD (hm b _ q fun z=>z)];exact q,fun b u xs q=>by rw [qD (hm b _ q fun z=>z)];exact q,fun b ps q=>⟨#[],by rw [qD (hm b _ q fun z=>z),q];simp⟩⟩
 by_cases hbe:b=e
 ·subst hbe;exact heo
 ·exact⟨u,k b u hbe q⟩
end
def trk (h:Heap)(H:Hp):List Addr:=(List.range h.objs.size).filter fun a=>(H a).isSome
def hidT (h:Heap)(H:Hp):Heap:=PySem.W.hideAll h (trk h H)
theorem hidT_size (h:Heap)(H:Hp):(hidT h H).objs.size=h.objs.size:=PySem.W.hideAll_size _ _
theorem hidT_get {h:Heap}{H:Hp}{b:Addr}{o:Obj}(e:h.get? b=some o)(n:H b=none):(hidT h H).get? b=some o:=
 PySem.W.hideAll_get _ e fun hm=>by
  have q:(H b).isSome=true:=(List.mem_filter.mp hm).2
  rw [n] at q;simp at q
theorem of_hidT {h:Heap}{H:Hp}{b:Addr}{o:Obj}(e:(hidT h H).get? b=some o):h.get? b=some o∧H b=none:=by
 have e':h.get? b=some o:=PySem.W.of_hideAll (trk h H) e
 refine⟨e',?_⟩
 cases q:H b with
 |none=>rfl
 |some x=>
  have hm:b∈trk h H:=List.mem_filter.mpr ⟨List.mem_range.mpr (Heap.lt_size e'),by simp [q]⟩
  have z:(hidT h H).get? b=none:=PySem.W.hideAll_none (trk h H) hm
  rw [z] at e;cases e
end L2
namespace L2
open PySem PySem.Spec PyProof.Rows
structure Mod (K:PySem.W.Frag)(mg:Str→Option Value)(base:Heap):Prop where
 kin:K.In base
 glob:base.Ns mainGlobals mg
 blt:∃mb,base.Ns builtinsNs mb∧∀x:Str,x≠"__name__"→mb x=bootBuiltins x
 nolimit:base.NoLimit
structure Cx where
 prog:Program
 w:World
 K:PySem.W.Frag
 mg:Str→Option Value
 base:Heap
 A:Around
 N:List Str
 s₀:Shared
 H₀:Hp
 env:Env
 outer:List Env
 stack:List Env
 ex:List Addr
 fn:Str→Bool
 calm:Bool
 pn:List (Addr×Obj)
 xe:Value→Shared→Prop
def frs (l:List Env):List Addr:=l.filterMap (·.frame)
abbrev Cx.fs (X:Cx):List Addr:=frs X.outer
def Vis (sc:Scope)(x:Str):Prop:=sc.names.lookup x=some .local∨sc.names.lookup x=some .cell∨sc.names.lookup x=some .free
def Loc (sc:Scope)(x:Str):Prop:=sc.names.lookup x=some .local∨sc.names.lookup x=some .cell
def Look (env:Env)(h:Heap)(m:Str→Option Value)(x:Str)(u:Value):Prop:=
 (env.kindOf x=some .local∧m x=some u)∨((env.kindOf x=some .cell∨env.kindOf x=some .free)∧∃c,env.cells.lookup x=some c∧h.IsCell c (some u))
structure Cx.Ok (X:Cx):Prop where
 mod:Mod X.K X.mg X.base
 kind:X.env.scope.kind= .function
 glob:X.env.globals=mainGlobals
 blt:X.env.builtins=builtinsNs
 above:X.s₀.heap.objs.size≤X.env.locals
 inj:∀x y c,X.env.cells.lookup x=some c→X.env.cells.lookup y=some c→x=y
 has:∀x,(X.env.kindOf x=some .cell∨X.env.kindOf x=some .free)→∃c,X.env.cells.lookup x=some c
 cab:∀x c,X.fn x=true→X.env.cells.lookup x=some c→X.s₀.heap.objs.size≤c
 hd:X.calm=true→X.A.handled=none
 frames:X.A.frames=some X.stack
 stk:X.stack=X.outer∨(X.stack=X.env::X.outer∧X.env.frame=some X.env.locals)
 exf:∀b∈X.ex,b≠X.env.locals∧∀x c,X.env.cells.lookup x=some c→c≠b
 bs:∀b o,X.base.get? b=some o→X.s₀.heap.get? b=some o∧X.H₀ b=none
 bsz:X.base.objs.size≤X.s₀.heap.objs.size
 noex:∀b o,X.base.get? b=some o→b∉X.ex
 exfs:∀b∈X.ex,b∉X.fs
 funs:X.s₀.heap.FunFrames X.base X.outer
 frf:∀b∈X.fs,X.H₀ b=none
structure Inv (X:Cx)(pins:List (Addr×Obj))(σ:List (Option V))(H:Hp)(s:Shared):Prop where
 ok:X.Ok
 os:s.os=X.s₀.os
 bare:AllBare s.gens
 base:Un X.fs X.ex X.H₀ H X.s₀.heap s.heap
 loc:∃m,s.heap.Ns X.env.locals m∧∀(i:Nat) (x:Str) (v:V),X.N[i]? =some x→σ[i]? =some (some v)→Vis X.env.scope x→∃u,RelV v u∧Look X.env s.heap m x u
 cell:∀x c,X.env.cells.lookup x=some c→∃v,s.heap.IsCell c v
 free:H X.env.locals=none
 freeC:∀x c,X.env.cells.lookup x=some c→H c=none
 pin:∀p∈X.pn++pins,s.heap.get? p.1=some p.2∧H p.1=none∧p.1≠X.env.locals∧p.1∉X.fs∧∀v,p.2.data≠ .cell v
 hok:HOk X.prog X.w H s.heap
 len:σ.length=X.N.length
 tk:0<s.toks
section
variable {X:Cx}{pins:List (Addr×Obj)}{σ:List (Option V)}{H H':Hp}{s:Shared}{h':Heap}
theorem Cx.Ok.nofr (ok:X.Ok){b:Addr}{o:Obj}(e:X.base.get? b=some o):b∉X.fs:=fun hb=>by
 have:=(ok.funs.mem hb).1
 rw [e] at this;cases this
theorem Inv.bs (I:Inv X pins σ H s):∀b o,X.base.get? b=some o→s.heap.get? b=some o∧H b=none:=fun b o e=>
 ⟨I.base.keep b o (I.ok.bs b o e).1 (I.ok.bs b o e).2 (I.ok.nofr e) (I.ok.noex b o e),I.base.free b o (I.ok.bs b o e).1 (I.ok.bs b o e).2 (I.ok.noex b o e)⟩
theorem Inv.bk (I:Inv X pins σ H s):∀b o,X.base.get? b=some o→s.heap.get? b=some o:=fun b o e=>(I.bs b o e).1
theorem Inv.mod (I:Inv X pins σ H s):Mod X.K X.mg X.base:=I.ok.mod
theorem Inv.kIn (I:Inv X pins σ H s):X.K.In s.heap:=I.ok.mod.kin.keeps I.bk
theorem Inv.lt (I:Inv X pins σ H s):X.env.locals<s.heap.objs.size:=let⟨_,hn,_⟩:=I.loc;hn.lt
theorem Inv.sz (I:Inv X pins σ H s):X.s₀.heap.objs.size≤s.heap.objs.size:=Nat.le_trans I.ok.above (Nat.le_of_lt I.lt)
theorem Inv.nofs (I:Inv X pins σ H s){a:Addr}(h:s.heap.objs.size≤a):a∉X.fs:=fun hb=>by
 obtain⟨_,o,ho,_⟩:=I.ok.funs.mem hb
 exact absurd (Nat.lt_of_lt_of_le (Heap.lt_size ho) (Nat.le_trans I.sz h)) (Nat.lt_irrefl _)
theorem Inv.cne (I:Inv X pins σ H s):∀x c,X.env.cells.lookup x=some c→c≠X.env.locals:=fun x c e z=>by
 obtain⟨v,o,ho,hd⟩:=I.cell x c e
 obtain⟨m,⟨o',es,ep,ho',hd',_⟩,_⟩:=I.loc
 rw [z,ho'] at ho;cases ho;rw [hd'] at hd;cases hd
theorem Inv.funs (I:Inv X pins σ H s):s.heap.FunFrames X.base X.outer:=by
 have all:∀(l:List Env),(∀b∈frs l,b∈X.fs)→X.s₀.heap.FunFrames X.base l→s.heap.FunFrames X.base l:=by
  intro l
  induction l with
  |nil=>intro _ _;trivial
  |cons env r ih=>
   intro hs hl
   obtain⟨hk,⟨L,o,hf,hn,ho,hd⟩,hr⟩:=hl
   have hL:L∈X.fs:=hs L (by unfold frs;rw [List.filterMap_cons,hf];exact List.mem_cons_self)
   obtain⟨sl,e⟩:=I.base.slot L o ho (I.ok.frf L hL) hL fun z=>I.ok.exfs L z hL
   exact⟨hk,⟨L,_,hf,hn,e,hd⟩,ih (fun b hb=>hs b (by unfold frs;rw [List.filterMap_cons,hf];exact List.mem_cons_of_mem _ hb)) hr⟩
 exact all X.outer (fun _ hb=>hb) I.ok.funs
theorem Inv.stack (I:Inv X pins σ H s):s.heap.FunFrames X.base X.stack:=by
 rcases I.ok.stk with e|⟨e,hf⟩
 ·rw [e];exact I.funs
 ·rw [e]
  obtain⟨m,hn,_⟩:=I.loc
  refine .cons (by rw [I.ok.kind];decide) hf hn ?_ I.funs
  exact Heap.get?_none_of_le (Nat.le_trans I.ok.bsz I.ok.above)
theorem Inv.stkSub (I:Inv X pins σ H s):∀b∈frs X.stack,b∈X.env.locals::X.fs:=fun b hb=>by
 rcases I.ok.stk with e|⟨e,hf⟩
 ·rw [e] at hb;exact List.mem_cons_of_mem _ hb
 ·rw [e] at hb
  unfold frs at hb
  rw [List.filterMap_cons,hf] at hb
  exact hb
theorem Inv.stkFree (I:Inv X pins σ H s):∀b∈frs X.stack,H b=none:=fun b hb=>by
 rcases List.mem_cons.mp (I.stkSub b hb) with e|hb
 ·rw [e];exact I.free
 ·obtain⟨_,o,ho,_⟩:=I.ok.funs.mem hb
  exact I.base.free b o ho (I.ok.frf b hb) fun z=>I.ok.exfs b z hb
theorem Inv.step {g':Array GenState}{t':Nat}{d':Drawn}{ch:List Addr}(I:Inv X pins σ H s)
  (hch:∀b∈ch,(b∈X.ex∨X.s₀.heap.objs.size≤b)∧b≠X.env.locals∧(∀x c,X.env.cells.lookup x=some c→c≠b)∧∀p∈X.pn++pins,p.1≠b)
  (keep:∀b o,b≠X.env.locals→b∉X.fs→b∉ch→s.heap.get? b=some o→H b=none→h'.get? b=some o)
  (slot:∀b o,b≠X.env.locals→b∈X.fs→b∉ch→s.heap.get? b=some o→H b=none→∃sl,h'.get? b=some {o with slots:=sl}) (free:∀b o,b∉ch→s.heap.get? b=some o→H b=none→H' b=none)
  (there:∀b o,b∉ch→s.heap.get? b=some o→∃o',h'.get? b=some o')
  (tups:∀b xs,H b=some (.tup xs)→H' b=some (.tup xs)) (frzs:∀b o u,H b=some (.frz o u)→H' b=some (.frz o u)) (tbls:∀b ps,H b=some (.tbl ps)→∃more,H' b=some (.tbl (ps++more)))
  (ns:∀m,s.heap.Ns X.env.locals m→h'.Ns X.env.locals m) (hok:HOk X.prog X.w H' h') (hg:AllBare g') (ht:0<t':=by((try dsimp only);first|assumption|exact Inv.tk (by assumption)|exact Nat.succ_pos _|exact Nat.lt_of_lt_of_le (Inv.tk (by assumption)) (by assumption)|exact Nat.add_pos_left (Inv.tk (by assumption)) _|omega)):
  Inv X pins σ H' {s with heap:=h',gens:=g',drawn:=d',toks:=t'}:=by
 have neL:∀b o,X.s₀.heap.get? b=some o→b≠X.env.locals:=fun b o e=>Nat.ne_of_lt (Nat.lt_of_lt_of_le (Heap.lt_size e) I.ok.above)
 have neC:∀b o,X.s₀.heap.get? b=some o→b∉X.ex→b∉ch:=fun b o e hx hb=>by
  rcases(hch b hb).1 with z|z
  ·exact hx z
  ·exact absurd (Nat.lt_of_lt_of_le (Heap.lt_size e) z) (Nat.lt_irrefl _)
 have cellK:∀x c,X.env.cells.lookup x=some c→∀v,s.heap.IsCell c v→h'.IsCell c v:=fun x c e v ⟨o,ho,hd⟩=>by
  have nch:c∉ch:=fun z=>(hch c z).2.2.1 x c e rfl
  by_cases hc:c∈X.fs
  ·obtain⟨sl,q⟩:=slot c o (I.cne x c e) hc nch ho (I.freeC x c e)
   exact⟨_,q,hd⟩
  ·exact⟨o,keep c o (I.cne x c e) hc nch ho (I.freeC x c e),hd⟩
 refine⟨I.ok,I.os,hg,⟨fun b o e n hb hx=> ?_,fun b o e n hb hx=> ?_,fun b o e n hx=> ?_,fun b o e hx=> ?_,fun b xs e=>tups b xs (I.base.tups b xs e),fun b o xs e=>frzs b o xs (I.base.frzs b o xs e),fun b ps e=> ?_⟩,?_,fun x c e=> ?_,?_,fun x c e=> ?_,fun p hp=> ?_,hok,I.len,ht⟩
 ·exact keep b o (neL b o e) hb (neC b o e hx) (I.base.keep b o e n hb hx) (I.base.free b o e n hx)
 ·obtain⟨sl,e1⟩:=I.base.slot b o e n hb hx
  obtain⟨sl',e2⟩:=slot b _ (neL b o e) hb (neC b o e hx) e1 (I.base.free b o e n hx)
  exact⟨sl',e2⟩
 ·obtain⟨o',e1⟩:=I.base.there b o e hx
  exact free b o' (neC b o e hx) e1 (I.base.free b o e n hx)
 ·obtain⟨o',e1⟩:=I.base.there b o e hx
  exact there b o' (neC b o e hx) e1
 ·obtain⟨m1,e1⟩:=I.base.tbls b ps e
  obtain⟨m2,e2⟩:=tbls b _ e1
  exact⟨m1++m2,by rw [e2,Array.append_assoc]⟩
 ·obtain⟨m,hn,hl⟩:=I.loc
  refine⟨m,ns m hn,fun i x v e1 e2 e3=> ?_⟩
  obtain⟨u,r,l⟩:=hl i x v e1 e2 e3
  refine⟨u,r,?_⟩
  rcases l with l|⟨k,c,e,z⟩
  ·exact .inl l
  ·exact .inr ⟨k,c,e,cellK x c e _ z⟩
 ·obtain⟨v,z⟩:=I.cell x c e
  exact⟨v,cellK x c e v z⟩
 ·obtain⟨m,⟨o,_,_,ho,_⟩,_⟩:=I.loc
  exact free _ o (fun z=>(hch _ z).2.1 rfl) ho I.free
 ·obtain⟨v,o,ho,hd⟩:=I.cell x c e
  exact free c o (fun z=>(hch c z).2.2.1 x c e rfl) ho (I.freeC x c e)
 ·obtain⟨e,n,ne,nf,d⟩:=I.pin p hp
  have nch:p.1∉ch:=fun z=>(hch p.1 z).2.2.2 p hp rfl
  exact⟨keep p.1 p.2 ne nf nch e n,free p.1 p.2 nch e n,ne,nf,d⟩
theorem Inv.un {t':Nat}(I:Inv X pins σ H s)(u:Un X.fs [] H H' s.heap h')(hok:HOk X.prog X.w H' h')(ht:0<t':=by((try dsimp only);first|assumption|exact Inv.tk (by assumption)|exact Nat.succ_pos _|exact Nat.lt_of_lt_of_le (Inv.tk (by assumption)) (by assumption)|exact Nat.add_pos_left (Inv.tk (by assumption)) _|omega)):Inv X pins σ H' {s with heap:=h',toks:=t'}:=by
 obtain⟨m,⟨o,es,ep,ho,r⟩,_⟩:=id I.loc
 obtain⟨sl,hL⟩:=u.any ho I.free (by simp)
 exact I.step (g':=s.gens) (d':=s.drawn) (ch:= []) (fun _ z=>nomatch z) (fun b o _ hb _ e n=>u.keep b o e n hb (by simp)) (fun b o _ hb _ e n=>u.slot b o e n hb (by simp)) (fun b o _ e n=>u.free b o e n (by simp)) (fun b o _ e=>u.there b o e (by simp)) u.tups u.frzs u.tbls (fun m' hm=>by
  obtain⟨o',es',ep',ho',r'⟩:=hm
  rw [ho] at ho';cases ho'
  exact⟨_,es',ep',hL,r'⟩) hok I.bare
theorem Inv.call {g':Array GenState}{t':Nat}{d':Drawn}{ch:List Addr}(I:Inv X pins σ H s)(u:Un (frs X.stack) ch H H' s.heap h')(hok:HOk X.prog X.w H' h')(hg:AllBare g')
  (hch:∀b∈ch,(b∈X.ex∨X.s₀.heap.objs.size≤b)∧b≠X.env.locals∧(∀x c,X.env.cells.lookup x=some c→c≠b)∧∀p∈X.pn++pins,p.1≠b) (ht:0<t':=by((try dsimp only);first|assumption|exact Inv.tk (by assumption)|exact Nat.succ_pos _|exact Nat.lt_of_lt_of_le (Inv.tk (by assumption)) (by assumption)|exact Nat.add_pos_left (Inv.tk (by assumption)) _|omega)):
  Inv X pins σ H' {s with heap:=h',gens:=g',drawn:=d',toks:=t'}:=by
 obtain⟨m,⟨o,es,ep,ho,r⟩,_⟩:=id I.loc
 obtain⟨sl,hL⟩:=u.any ho I.free fun z=>(hch _ z).2.1 rfl
 exact I.step (ch:=ch) hch (fun b o hL hb hc e n=>u.keep b o e n (fun z=>(List.mem_cons.mp (I.stkSub b z)).elim hL hb) hc) (fun b o _ _ hc e n=>u.any e n hc) (fun b o hc e n=>u.free b o e n hc) (fun b o hc e=>u.there b o e hc) u.tups u.frzs u.tbls (fun m' hm=>by
  obtain⟨o',es',ep',ho',r'⟩:=hm
  rw [ho] at ho';cases ho'
  exact⟨_,es',ep',hL,r'⟩) hok hg
theorem Inv.turned {t':Nat}{it:Addr}(I:Inv X pins σ H s)(k:∀b o,b≠it→s.heap.get? b=some o→h'.get? b=some o)(hn:H it=none)(hL:it≠X.env.locals)
  (h1:it∈X.ex∨X.s₀.heap.objs.size≤it) (h2:∀x c,X.env.cells.lookup x=some c→c≠it) (h3:∀p∈X.pn++pins,p.1≠it) (ht:0<t':=by((try dsimp only);first|assumption|exact Inv.tk (by assumption)|exact Nat.succ_pos _|exact Nat.lt_of_lt_of_le (Inv.tk (by assumption)) (by assumption)|exact Nat.add_pos_left (Inv.tk (by assumption)) _|omega)):Inv X pins σ H {s with heap:=h',toks:=t'}:=by
 have nit:∀b u,H b=some u→b≠it:=fun b u e z=>by rw [z,hn] at e;cases e
 refine I.step (g':=s.gens) (d':=s.drawn) (ch:= [it]) (fun b hb=> ?_) (fun b o _ _ hc e _=>k b o (fun z=>hc (by simp [z])) e) (fun b o _ _ hc e _=>⟨o.slots,k b o (fun z=>hc (by simp [z])) e⟩) (fun _ _ _ _ n=>n)
  (fun b o hc e=>⟨o,k b o (fun z=>hc (by simp [z])) e⟩) (fun _ _ e=>e) (fun _ _ _ e=>e) (fun b ps e=>⟨#[],by rw [e];simp⟩) (fun m hm=> ?_) (fun b u e=> ?_) I.bare
 ·have e:b=it:=by simpa using hb
  subst e
  exact⟨h1,hL,h2,h3⟩
 ·obtain⟨o,es,ep,ho,r⟩:=hm
  exact⟨o,es,ep,k _ o (Ne.symm hL) ho,r⟩
 ·refine(I.hok b u e).stay (fun c v hc q=>k c v ?_ q) (fun _ q=>q) fun _ _ q=>q
  rcases hc with z|z
  ·rw [z];exact nit b u e
  ·exact nit c _ z
theorem Inv.tok (I:Inv X pins σ H s)(t:Nat)(ht:0<t:=by((try dsimp only);first|assumption|exact Inv.tk (by assumption)|exact Nat.succ_pos _|exact Nat.lt_of_lt_of_le (Inv.tk (by assumption)) (by assumption)|exact Nat.add_pos_left (Inv.tk (by assumption)) _|omega)):Inv X pins σ H {s with toks:=t}:=I.un (h':=s.heap) (t':=t) Un.refl I.hok
theorem Inv.kept {t':Nat}(I:Inv X pins σ H s)(k:∀b u,s.heap.get? b=some u→h'.get? b=some u)(ht:0<t':=by((try dsimp only);first|assumption|exact Inv.tk (by assumption)|exact Nat.succ_pos _|exact Nat.lt_of_lt_of_le (Inv.tk (by assumption)) (by assumption)|exact Nat.add_pos_left (Inv.tk (by assumption)) _|omega)):Inv X pins σ H {s with heap:=h',toks:=t'}:=I.un (Un.kept k) (I.hok.kept k)
theorem Inv.laid {a:Addr}{o:HO}{t':Nat}(I:Inv X pins σ H s)(k:∀b u,s.heap.get? b=some u→h'.get? b=some u)(hp:s.heap.objs.size≤a)(new:y3 X.prog X.w (upd H a o) h' a o)(ht:0<t':=by((try dsimp only);first|assumption|exact Inv.tk (by assumption)|exact Nat.succ_pos _|exact Nat.lt_of_lt_of_le (Inv.tk (by assumption)) (by assumption)|exact Nat.add_pos_left (Inv.tk (by assumption)) _|omega)):
  Inv X pins σ (upd H a o) {s with heap:=h',toks:=t'}:=I.un (Un.laid k hp (I.hok.fresh hp)) (I.hok.laid k hp new)
theorem Inv.write {x e:Addr}{o:HO}{t':Nat}(I:Inv X pins σ H s)(mu:Mut (H x))(he:e=x∨H e=some (.own x))(k:∀b u,b≠e→s.heap.get? b=some u→h'.get? b=some u)(heo:∃u,h'.get? e=some u)
  (new:y3 X.prog X.w (upd H x o) h' x o) (ht:0<t':=by((try dsimp only);first|assumption|exact Inv.tk (by assumption)|exact Nat.succ_pos _|exact Nat.lt_of_lt_of_le (Inv.tk (by assumption)) (by assumption)|exact Nat.add_pos_left (Inv.tk (by assumption)) _|omega)):Inv X pins σ (upd H x o) {s with heap:=h',toks:=t'}:=I.un (Un.write mu he k heo) (I.hok.write mu he k heo new)
theorem Inv.pins_of {pins':List (Addr×Obj)}(I:Inv X pins σ H s)(h:∀p∈pins',s.heap.get? p.1=some p.2∧H p.1=none∧p.1≠X.env.locals∧p.1∉X.fs∧∀v,p.2.data≠ .cell v):Inv X pins' σ H s:=
 ⟨I.ok,I.os,I.bare,I.base,I.loc,I.cell,I.free,I.freeC,fun p hp=>(List.mem_append.mp hp).elim (fun z=>I.pin p (List.mem_append_left _ z)) (h p),I.hok,I.len,I.tk⟩
theorem nodup_ix {N:List Str}(hN:N.Nodup){i j:Nat}{x:Str}(a:N[i]? =some x)(b:N[j]? =some x):i=j:=by
 obtain⟨h1,e1⟩:=List.getElem?_eq_some_iff.mp a
 obtain⟨h2,e2⟩:=List.getElem?_eq_some_iff.mp b
 exact(List.getElem_inj hN).mp (e1.trans e2.symm)
theorem store_ok2 {M:Model}{A:Around}{E:Value→Shared→Prop}{i:Nat}{x:Str}{v:V}{u:Value}{Q:Unit→Shared→Prop}(I:Inv X pins σ H s)(hN:X.N.Nodup)(hi:X.N[i]? =some x)(hx:Loc X.env.scope x)(r:RelV v u)
  (h:∀s',Inv X pins (σ.set i (some v)) H s'→(∃a,Heap.SameBut a s.heap s'.heap∧(a=X.env.locals∨X.env.cells.lookup x=some a))→Q () s') (hf:X.fn x=true∨X.env.scope.names.lookup x=some .local:=by first|exact .inl rfl|exact .inr rfl|assumption):wpAny M A (storeName X.env x u) Q E s:=by
 obtain⟨m,hn,hl⟩:=id I.loc
 have hcls:(X.env.scope.kind== .class||(X.env.scope.kind== .module&&X.env.locals !=X.env.globals))=false:=by rw [I.ok.kind];rfl
 have hiσ:i<σ.length:=by rw [I.len];exact(List.getElem?_eq_some_iff.mp hi).1
 have cne:=I.cne
 have tracked:∀{a:Addr}{h':Heap},(∃o,s.heap.get? a=some o∧H a=none)→Heap.SameBut a s.heap h'→HOk X.prog X.w H h':=fun{a h'} ha hs b ob e=>by
  obtain⟨_,_,hfree⟩:=ha
  refine(I.hok b ob e).stay (fun c w' hc q=>(hs.2 c ?_).trans q) (fun _ q=>q) fun _ _ q=>q
  rintro rfl
  rcases hc with rfl|hc
  ·rw [hfree] at e;cases e
  ·rw [hfree] at hc;cases hc
 rcases hx with hk|hk
 ·refine wpAny_storeName_local hk hn (fun h' hn' hs=> ?_) hcls
  obtain⟨oL,_,_,hoL,_⟩:=id hn
  refine h _ ⟨I.ok,I.os,I.bare,⟨fun b o e n hb hx=> ?_,fun b o e n hb hx=> ?_,I.base.free,fun b o e hx=> ?_,I.base.tups,I.base.frzs,I.base.tbls⟩,⟨_,hn',fun j y v' e1 e2 e3=> ?_⟩,fun y c e=> ?_,I.free,I.freeC,fun p hp=> ?_,tracked ⟨oL,hoL,I.free⟩ hs,by simpa using I.len,by first|exact I.tk|exact Nat.succ_pos _⟩ ⟨_,hs,.inl rfl⟩
  ·exact(hs.2 b (Nat.ne_of_lt (Nat.lt_of_lt_of_le (Heap.lt_size e) I.ok.above))).trans (I.base.keep b o e n hb hx)
  ·obtain⟨sl,e1⟩:=I.base.slot b o e n hb hx
   exact⟨sl,(hs.2 b (Nat.ne_of_lt (Nat.lt_of_lt_of_le (Heap.lt_size e) I.ok.above))).trans e1⟩
  ·obtain⟨o',e1⟩:=I.base.there b o e hx
   exact⟨o',(hs.2 b (Nat.ne_of_lt (Nat.lt_of_lt_of_le (Heap.lt_size e) I.ok.above))).trans e1⟩
  ·by_cases hj:j=i
   ·subst hj
    rw [hi] at e1;cases e1
    rw [List.getElem?_set_self hiσ] at e2
    cases e2
    exact⟨u,r,.inl ⟨hk,by simp⟩⟩
   ·rw [List.getElem?_set_ne (Ne.symm hj)] at e2
    obtain⟨u',r',q⟩:=hl j y v' e1 e2 e3
    refine⟨u',r',?_⟩
    rcases q with⟨k,e⟩|⟨k,c,e,z⟩
    ·refine .inl ⟨k,?_⟩
     have:y≠x:=fun e=>hj (nodup_ix hN e1 (e▸hi))
     simp [this,e]
    ·exact .inr ⟨k,c,e,z.sameBut hs (cne y c e)⟩
  ·obtain⟨w',z⟩:=I.cell y c e
   exact⟨w',z.sameBut hs (cne y c e)⟩
  ·obtain⟨e,n,ne,nf,d⟩:=I.pin p hp
   exact⟨(hs.2 p.1 ne).trans e,n,ne,nf,d⟩
 ·have hfn:X.fn x=true:=by
   rcases hf with z|z
   ·exact z
   ·rw [z] at hk;cases hk
  obtain⟨c,hc⟩:=I.ok.has x (.inl hk)
  obtain⟨w',z⟩:=I.cell x c hc
  refine wpAny_storeName_cell I.ok.kind hk hc z (fun h' hc' hs=> ?_)
  obtain⟨oc,hoc,hocd⟩:=id z
  refine h {s with heap:=h'} ⟨I.ok,I.os,I.bare,⟨fun b o e n hb hx=> ?_,fun b o e n hb hx=> ?_,I.base.free,fun b o e hx=> ?_,I.base.tups,I.base.frzs,I.base.tbls⟩,⟨m,hn.sameBut hs (Ne.symm (cne x c hc)),fun j y v' e1 e2 e3=> ?_⟩,fun y c' e=> ?_,I.free,I.freeC,fun p hp=> ?_,tracked ⟨oc,hoc,I.freeC x c hc⟩ hs,by simpa using I.len,by first|exact I.tk|exact Nat.succ_pos _⟩ ⟨c,hs,.inr hc⟩
  ·exact(hs.2 b (Nat.ne_of_lt (Nat.lt_of_lt_of_le (Heap.lt_size e) (I.ok.cab x c hfn hc)))).trans (I.base.keep b o e n hb hx)
  ·obtain⟨sl,e1⟩:=I.base.slot b o e n hb hx
   exact⟨sl,(hs.2 b (Nat.ne_of_lt (Nat.lt_of_lt_of_le (Heap.lt_size e) (I.ok.cab x c hfn hc)))).trans e1⟩
  ·obtain⟨o',e1⟩:=I.base.there b o e hx
   exact⟨o',(hs.2 b (Nat.ne_of_lt (Nat.lt_of_lt_of_le (Heap.lt_size e) (I.ok.cab x c hfn hc)))).trans e1⟩
  ·by_cases hj:j=i
   ·subst hj
    rw [hi] at e1;cases e1
    rw [List.getElem?_set_self hiσ] at e2
    cases e2
    exact⟨u,r,.inr ⟨.inl hk,c,hc,hc'⟩⟩
   ·rw [List.getElem?_set_ne (Ne.symm hj)] at e2
    obtain⟨u',r',q⟩:=hl j y v' e1 e2 e3
    refine⟨u',r',?_⟩
    rcases q with q|⟨k,c',e,z'⟩
    ·exact .inl q
    ·refine .inr ⟨k,c',e,z'.sameBut hs ?_⟩
     rintro rfl
     exact hj (nodup_ix hN e1 (I.ok.inj _ _ _ e hc▸hi))
  ·by_cases hcc:c'=c
   ·subst hcc;exact⟨_,hc'⟩
   ·obtain⟨w2,z2⟩:=I.cell y c' e
    exact⟨w2,z2.sameBut hs hcc⟩
  ·obtain⟨e,n,ne,nf,d⟩:=I.pin p hp
   refine⟨(hs.2 p.1 ?_).trans e,n,ne,nf,d⟩
   intro q
   rw [q,hoc] at e
   have q':oc=p.2:=Option.some.inj e
   exact d w' (by rw [←q'];exact hocd)
theorem ZW {M:Model}{A:Around}{E:Value→Shared→Prop}{i:Nat}{x:Str}{v:V}{u:Value}{Q:Unit→Shared→Prop}(I:Inv X pins σ H s)(hN:X.N.Nodup)(hi:X.N[i]? =some x)(hx:Loc X.env.scope x)(r:RelV v u)
  (h:∀s',Inv X pins (σ.set i (some v)) H s'→Q () s') (hf:X.fn x=true∨X.env.scope.names.lookup x=some .local:=by first|exact .inl rfl|exact .inr rfl|assumption):wpAny M A (storeName X.env x u) Q E s:=
 store_ok2 I hN hi hx r (fun s' I' _=>h s' I') hf
theorem Inv.call' {s':Shared}{ch:List Addr}(I:Inv X pins σ H s)(ho:s'.os=s.os)(u:Un (frs X.stack) ch H H' s.heap s'.heap)(hok:HOk X.prog X.w H' s'.heap)(hg:AllBare s'.gens)
  (hch:∀b∈ch,(b∈X.ex∨X.s₀.heap.objs.size≤b)∧b≠X.env.locals∧(∀x c,X.env.cells.lookup x=some c→c≠b)∧∀p∈X.pn++pins,p.1≠b) (ht:0<s'.toks:=by((try dsimp only);first|assumption|exact Inv.tk (by assumption)|exact Nat.succ_pos _|exact Nat.lt_of_lt_of_le (Inv.tk (by assumption)) (by assumption)|exact Nat.add_pos_left (Inv.tk (by assumption)) _|omega)):Inv X pins σ H' s':=by
 obtain⟨h',g',d',t',o'⟩:=s'
 have e:o'=s.os:=ho
 subst e
 exact I.call (g':=g') (t':=t') (d':=d') u hok hg hch
end
abbrev XK:=Value→Option Addr→Hp→Prop
abbrev St:=List (Option V)
abbrev VK:=V→Hp→Prop
abbrev TE:=St→Hp→VK→Prop
abbrev TT:=St→Hp→(Bool→Hp→Prop)→Prop
abbrev TA:=St→Hp→(List V→Hp→Prop)→Prop
structure Ends where
 nx:St→Hp→Prop
 rt:VK
 bk:St→Hp→Prop:=fun _ _=>False
 ct:St→Hp→Prop:=fun _ _=>False
abbrev TS:=Ends→St→Hp→Prop
def EP (X:Cx)(pins:List (Addr×Obj))(σ:St)(Q:VK)(u:Value)(s':Shared):Prop:=∃v H',Inv X pins σ H' s'∧RelV v u∧Q v H'
def TP (X:Cx)(pins:List (Addr×Obj))(σ:St)(Q:Bool→Hp→Prop)(b:Bool)(s':Shared):Prop:=∃H',Inv X pins σ H' s'∧Q b H'
def AP (X:Cx)(pins:List (Addr×Obj))(σ:St)(Q:List V→Hp→Prop)(us:List Value)(s':Shared):Prop:=∃vs H',Inv X pins σ H' s'∧Vals vs us∧Q vs H'
def SP (X:Cx)(pins:List (Addr×Obj))(D:Ends)(f:Flow)(s':Shared):Prop:=
 match f with
 | .next=>∃σ' H',Inv X pins σ' H' s'∧D.nx σ' H'
 | .brk=>∃σ' H',Inv X pins σ' H' s'∧D.bk σ' H'
 | .cont=>∃σ' H',Inv X pins σ' H' s'∧D.ct σ' H'
 | .ret u=>∃v σ' H',Inv X pins σ' H' s'∧RelV v u∧D.rt v H'
def PE (X:Cx)(e:Expr)(t:TE):Prop:=
 ∀(pins:List (Addr×Obj)) (s:Shared) (σ:St) (H:Hp) (Q:VK),Inv X pins σ H s→t σ H Q→wpAny (model X.prog X.w) X.A (eval e X.env) (EP X pins σ Q) X.xe s
def PT (X:Cx)(e:Expr)(t:TT):Prop:=
 ∀(pins:List (Addr×Obj)) (s:Shared) (σ:St) (H:Hp) (Q:Bool→Hp→Prop),Inv X pins σ H s→t σ H Q→wpAny (model X.prog X.w) X.A (isTrue e X.env (eval e X.env)) (TP X pins σ Q) X.xe s
def PW (X:Cx)(e:Expr)(t:TT):Prop:=
 ∀(whole:Sem Value) (pins:List (Addr×Obj)) (s:Shared) (σ:St) (H:Hp) (Q:Bool→Hp→Prop),Inv X pins σ H s→t σ H Q→wpAny (model X.prog X.w) X.A (isTrue e X.env whole) (TP X pins σ Q) X.xe s
theorem PW.pt {X:Cx}{e:Expr}{t:TT}(h:PW X e t):PT X e t:=h _
def PA (X:Cx)(es:List Expr)(t:TA):Prop:=
 ∀(pos:Pos) (pins:List (Addr×Obj)) (s:Shared) (σ:St) (H:Hp) (Q:List V→Hp→Prop),Inv X pins σ H s→t σ H Q→wpAny (model X.prog X.w) X.A (spliced (backTo pos (starEach es X.env))) (AP X pins σ Q) X.xe s
def PS (X:Cx)(st:Stmt)(t:TS):Prop:=
 ∀(pins:List (Addr×Obj)) (s:Shared) (σ:St) (H:Hp) (D:Ends),Inv X pins σ H s→t D σ H→wpAny (model X.prog X.w) X.A (exec st X.env) (SP X pins D) X.xe s
def PSs (X:Cx)(st:List Stmt)(t:TS):Prop:=
 ∀(pins:List (Addr×Obj)) (s:Shared) (σ:St) (H:Hp) (D:Ends),Inv X pins σ H s→t D σ H→wpAny (model X.prog X.w) X.A (execs st X.env) (SP X pins D) X.xe s
theorem thn {α:Type}{t:Sem α}{Q Q':α→Shared→Prop}{M:Model}{A:Around}{E:Value→Shared→Prop}{s:Shared}(h:wpAny M A t Q E s)(hQ:∀a s,Q a s→Q' a s):wpAny M A t Q' E s:=wpAny_mono h hQ fun _ _ x=>x
end L2
namespace L2
open PySem PySem.Spec PyProof.Rows
section
variable {X:Cx}
theorem bin {a b:Expr}{ta tb:TE}(ha:PE X a ta)(hb:PE X b tb){pins:List (Addr×Obj)}{s:Shared}{σ:St}{H:Hp}{R:V→V→Hp→Prop}(I:Inv X pins σ H s)(h:ta σ H fun x H1=>tb σ H1 fun y H2=>R x y H2)
  {α:Type}{Q:α→Shared→Prop}{f:Value→Value→Sem α}
  (hf:∀v u s2 x y H2,Inv X pins σ H2 s2→RelV x v→RelV y u→R x y H2→wpAny (model X.prog X.w) X.A (f v u) Q X.xe s2):
  wpAny (model X.prog X.w) X.A (eval a X.env) (fun v s₁=>wpAny (model X.prog X.w) X.A (eval b X.env) (fun u s₂=>wpAny (model X.prog X.w) X.A (f v u) Q X.xe s₂) X.xe s₁) X.xe s:=by
 refine thn (ha pins s σ H _ I h) fun v s1 ⟨x,H1,I1,r1,q1⟩=> ?_
 refine thn (hb pins s1 σ H1 _ I1 q1) fun u s2 ⟨y,H2,I2,r2,q2⟩=> ?_
 exact hf v u s2 x y H2 I2 r1 r2 q2
def tVar (i:Nat):TE:=fun σ H Q=>∃v,σ[i]? =some (some v)∧Q v H
def tC (v:V):TE:=fun _ H Q=>Q v H
theorem pe_var {i:Nat}{x:Str}{pos:Pos}(hN:X.N[i]? =some x)(hv:Vis X.env.scope x)(hd:(x==("__debug__":Str))=false:=by decide)(hcd:(x==("__classdict__":Str))=false:=by decide):PE X (.Name x pos) (tVar i):=by
 intro pins s σ H Q I h
 obtain⟨v,e,h⟩:=h
 obtain⟨m,hn,hl⟩:=I.loc
 obtain⟨u,r,l⟩:=hl i x v hN e hv
 have fin:EP X pins σ Q u s:=⟨v,H,I,r,h⟩
 rcases l with⟨hk,hm⟩|⟨hk,c,hc,hcell⟩
 ·exact wpAny_Name (wpAny_loadName_local I.ok.kind hk hn hm fin) hd
 ·rcases hk with hk|hk
  ·exact wpAny_Name (wpAny_loadName_cell I.ok.kind hk hc hcell fin) hd
  ·exact wpAny_Name (wpAny_loadName_free I.ok.kind hk hc hcell fin hcd) hd
theorem qi {i j pos}:PE X (.Constant (.int i) j pos) (tC (.int i)):=fun _ _ _ H _ I h=>wpAny_Constant_int ⟨.int i,H,I.tok _,⟨_,rfl⟩,h⟩
theorem Y8 {b j pos}:PE X (.Constant (.bool b) j pos) (tC (.bl b)):=fun _ _ _ H _ I h=>Constant_bool ⟨.bl b,H,I,rfl,h⟩
theorem Q7 {j pos}:PE X (.Constant .none j pos) (tC .non):=fun _ _ _ H _ I h=>Constant_none ⟨.non,H,I,rfl,h⟩
theorem qk {x j pos}:PE X (.Constant (.str x) j pos) (tC (.str x)):=fun _ _ _ H _ I h=>Calls.Constant_str ⟨.str x,H,I.tok _,⟨_,rfl⟩,h⟩
def Gl (X:Cx)(x:Str):Prop:=X.env.kindOf x=some .globalImplicit
theorem ZU {E:Value→Shared→Prop}{pins:List (Addr×Obj)}{s:Shared}{σ:St}{H:Hp}{x:Str}{u:Value}{pos:Pos}{Q:Value→Shared→Prop}(I:Inv X pins σ H s)(hg:Gl X x)(hm:X.mg x=some u)(h:Q u s)
  (hd:(x==("__debug__":Str))=false:=by decide):wpAny (model X.prog X.w) X.A (eval (.Name x pos) X.env) Q E s:=
 Calls.Name_function_global I.ok.kind hg (Calls.loadGlobal_global (by rw [I.ok.glob];exact I.mod.glob.keeps I.bk) hm h) hd
theorem zG {E:Value→Shared→Prop}{pins:List (Addr×Obj)}{s:Shared}{σ:St}{H:Hp}{x:Str}{u:Value}{pos:Pos}{Q:Value→Shared→Prop}(I:Inv X pins σ H s)(hg:Gl X x)(hm:X.mg x=none)(hv:bootBuiltins x=some u)(h:Q u s)
  (hn:x≠"__name__":=by decide) (hd:(x==("__debug__":Str))=false:=by decide):wpAny (model X.prog X.w) X.A (eval (.Name x pos) X.env) Q E s:=by
 obtain⟨mb,h1,h2⟩:=I.mod.blt
 exact Calls.Name_function_global I.ok.kind hg (Calls.loadGlobal_builtin (by rw [I.ok.glob];exact I.mod.glob.keeps I.bk) hm (by rw [I.ok.blt];exact h1.keeps I.bk) ((h2 x hn).trans hv) h) hd
theorem pe_glob {x:Str}{v:V}{u:Value}{pos:Pos}(hg:Gl X x)(hm:X.mg x=some u)(r:RelV v u)(hd:(x==("__debug__":Str))=false:=by decide):PE X (.Name x pos) (tC v):=
 fun _ _ _ H _ I h=>ZU I hg hm ⟨v,H,I,r,h⟩ hd
theorem yG {x:Str}{v:V}{u:Value}{pos:Pos}(hg:Gl X x)(hm:X.mg x=none)(hv:bootBuiltins x=some u)(r:RelV v u)(hn:x≠"__name__":=by decide)(hd:(x==("__debug__":Str))=false:=by decide):PE X (.Name x pos) (tC v):=
 fun _ _ _ H _ I h=>zG I hg hm hv ⟨v,H,I,r,h⟩ hn hd
variable {a b:Expr}{ta tb:TE}{pos:Pos}
def PC (X:Cx)(op:CmpOp)(a b:Expr)(t:TE):Prop:=
 ∀(pins:List (Addr×Obj)) (s:Shared) (σ:St) (H:Hp) (Q:VK),Inv X pins σ H s→t σ H Q→
  wpAny (model X.prog X.w) X.A (eval a X.env) (fun v s₁=>wpAny (model X.prog X.w) X.A (eval b X.env) (fun u s₂=>wpAny (model X.prog X.w) X.A (compareOp op v u) (EP X pins σ Q) X.xe s₂) X.xe s₁) X.xe s
def tB (t:TE):TT:=fun σ H Q=>t σ H fun x H1=>∃c,x= .bl c∧Q c H1
theorem pt_cmp {op:CmpOp}{t:TE}(h:PC X op a b t)(h1:behindInMarks op b=false:=by first|exact nobehind _ (by decide) (by decide)|rfl):PT X (.Compare a [op] [b] pos) (tB t):=by
 intro pins s σ H Q I hw
 refine wpAny_isTrue_Compare1 (thn (h pins s σ H _ I hw) fun v s1 h1=>thn h1 fun u s2 h2=>thn h2 fun c s3 ⟨x,H1,I1,r1,q1⟩=> ?_) h1
 obtain⟨d,rfl,q⟩:=q1
 cases r1
 exact wpAny_truthy_bool ⟨H1,I1,q⟩
theorem QY {e:Expr}{t:TE}(h:PE X e t)(he:∀whole,isTrue e X.env whole=(do let v←whole;standAt e.pos;holding [v] (truthy v)):=by intro _;rfl):PT X e (tB t):=by
 intro pins s σ H Q I hw
 refine isTrue_plain (thn (h pins s σ H _ I hw) fun v s1 ⟨x,H1,I1,r1,q1⟩=> ?_) (he _)
 obtain⟨d,rfl,q⟩:=q1
 cases r1
 exact wpAny_truthy_bool ⟨H1,I1,q⟩
variable {tA tB':TT}{rest:List Expr}
def tAnd (t u:TT):TT:=fun σ H Q=>t σ H fun c H1=>if c=true then u σ H1 Q else Q false H1
def tOr (t u:TT):TT:=fun σ H Q=>t σ H fun c H1=>if c=true then Q true H1 else u σ H1 Q
def tNot (t:TT):TT:=fun σ H Q=>t σ H fun c H1=>Q (!c) H1
theorem Z9 (ha:PT X a tA):PW X (.BoolOp .And [a] pos) tA:=by
 intro wh pins s σ H Q I h
 refine isTrue_and (thn (ha pins s σ H Q I h) fun c s1 e=> ?_)
 cases c with
 |true=>exact isTrue_and_nil e
 |false=>exact e
theorem Ja (ha:PT X a tA):PW X (.BoolOp .Or [a] pos) tA:=by
 intro wh pins s σ H Q I h
 refine isTrue_or (thn (ha pins s σ H Q I h) fun c s1 e=> ?_)
 cases c with
 |false=>exact isTrue_or_nil e
 |true=>exact e
theorem pw_and (ha:PT X a tA)(hb:PW X (.BoolOp .And (b::rest) pos) tB'):PW X (.BoolOp .And (a::b::rest) pos) (tAnd tA tB'):=by
 intro wh pins s σ H Q I h
 refine isTrue_and (thn (ha pins s σ H _ I h) fun c s1 ⟨H1,I1,q1⟩=> ?_)
 cases c with
 |true=>exact hb wh pins s1 σ H1 Q I1 q1
 |false=>exact⟨H1,I1,q1⟩
theorem xl (ha:PT X a tA)(hb:PW X (.BoolOp .Or (b::rest) pos) tB'):PW X (.BoolOp .Or (a::b::rest) pos) (tOr tA tB'):=by
 intro wh pins s σ H Q I h
 refine isTrue_or (thn (ha pins s σ H _ I h) fun c s1 ⟨H1,I1,q1⟩=> ?_)
 cases c with
 |true=>exact⟨H1,I1,q1⟩
 |false=>exact hb wh pins s1 σ H1 Q I1 q1
theorem yi (ha:PT X a tA):PT X (.UnaryOp .Not a pos) (tNot tA):=by
 intro pins s σ H Q I h
 exact isTrue_not (ha pins s σ H (fun c H1=>Q (!c) H1) I h)
def tAndV (ta tb:TE):TE:=fun σ H Q=>ta σ H fun x H1=>∃c,x= .bl c∧if c=true then tb σ H1 Q else Q (.bl false) H1
def tOrV (ta tb:TE):TE:=fun σ H Q=>ta σ H fun x H1=>∃c,x= .bl c∧if c=true then Q (.bl true) H1 else tb σ H1 Q
def tNotV (ta:TE):TE:=fun σ H Q=>ta σ H fun x H1=>∃c,x= .bl c∧Q (.bl (!c)) H1
theorem pe_one {op}{t:TE}(h:PE X a t):PE X (.BoolOp op [a] pos) t:=fun pins s σ H Q I hw=>BoolOp_one (h pins s σ H Q I hw)
theorem pe_and (ha:PE X a ta)(hb:PE X (.BoolOp .And (b::rest) pos) tb):PE X (.BoolOp .And (a::b::rest) pos) (tAndV ta tb):=by
 intro pins s σ H Q I h
 refine BoolOp_and (thn (ha pins s σ H _ I h) fun v s1 ⟨x,H1,I1,r1,q1⟩=> ?_)
 obtain⟨c,rfl,q1⟩:=q1
 cases r1
 refine wpAny_truthy_bool ?_
 cases c with
 |true=>exact hb pins s1 σ H1 Q I1 q1
 |false=>exact⟨.bl false,H1,I1,rfl,q1⟩
theorem pe_or (ha:PE X a ta)(hb:PE X (.BoolOp .Or (b::rest) pos) tb):PE X (.BoolOp .Or (a::b::rest) pos) (tOrV ta tb):=by
 intro pins s σ H Q I h
 refine BoolOp_or (thn (ha pins s σ H _ I h) fun v s1 ⟨x,H1,I1,r1,q1⟩=> ?_)
 obtain⟨c,rfl,q1⟩:=q1
 cases r1
 refine wpAny_truthy_bool ?_
 cases c with
 |false=>exact hb pins s1 σ H1 Q I1 q1
 |true=>exact⟨.bl true,H1,I1,rfl,q1⟩
theorem pe_not (ha:PE X a ta):PE X (.UnaryOp .Not a pos) (tNotV ta):=by
 intro pins s σ H Q I h
 refine UnaryOp_ (thn (ha pins s σ H _ I h) fun v s1 ⟨x,H1,I1,r1,q1⟩=> ?_)
 obtain⟨c,rfl,q1⟩:=q1
 cases r1
 exact not_of (wpAny_truthy_bool ⟨.bl (!c),H1,I1,rfl,q1⟩)
def tIf (t:TT)(ta tb:TE):TE:=fun σ H Q=>t σ H fun c H1=>if c=true then ta σ H1 Q else tb σ H1 Q
theorem jd {c:Expr}(hc:PT X c tA)(ha:PE X a ta)(hb:PE X b tb):PE X (.IfExp c a b pos) (tIf tA ta tb):=by
 intro pins s σ H Q I h
 refine wpAny_IfExp (thn (hc pins s σ H _ I h) fun d s1 ⟨H1,I1,q1⟩=> ?_)
 cases d with
 |true=>exact ha pins s1 σ H1 Q I1 q1
 |false=>exact hb pins s1 σ H1 Q I1 q1
end
end L2
namespace L2
open PySem PySem.Spec PyProof.Rows
def SqL (K:PySem.W.Frag)(H:Hp)(a:Addr)(xs:List V):Prop:=
 Rd H a (.lst xs)∨
  ∃(o:Obj) (its:Array Value) (n:Nat),K.lookup a=some o∧o.cls= .type "list"∧o.dict=none∧o.data= .seq its n∧its.size≤sizeLine∧Vals xs its.toList
def SqT (K:PySem.W.Frag)(H:Hp)(a:Addr)(xs:List V):Prop:=
 Rd H a (.tup xs)∨
  ∃(o:Obj) (its:Array Value) (n:Nat),K.lookup a=some o∧o.cls= .type "tuple"∧o.data= .seq its n∧its.size≤sizeLine∧Vals xs its.toList
def absV:Value→Option V
 | .none=>some .non
 | .bool b=>some (.bl b)
 | .int i _=>some (.int i)
 | .str x _=>some (.str x)
 | .bytes b _=>some (.byt b)
 | .float b _=>some (.flt b)
 | .ref a=>some (.ref a)
 | .type n=>some (.ty n)
 |_=>none
theorem RelV.abs {x:V}{u:Value}(r:RelV x u):absV u=some x:=by
 cases x with
 |non=>cases r;rfl
 |bl _=>cases r;rfl
 |int _=>obtain⟨t,rfl⟩:=r;rfl
 |str _=>obtain⟨t,rfl⟩:=r;rfl
 |byt _=>obtain⟨t,rfl⟩:=r;rfl
 |flt _=>obtain⟨t,rfl⟩:=r;rfl
 |ref _=>cases r;rfl
 |ty _=>cases r;rfl
theorem RelV.inj {x y:V}{u:Value}(r:RelV x u)(q:RelV y u):x=y:=Option.some.inj (r.abs.symm.trans q.abs)
theorem Vals.inj:∀{xs ys:List V}{us:List Value},Vals xs us→Vals ys us→xs=ys
 |_,_,_,.nil,.nil=>rfl
 |_,_,_,.cons r t,.cons r' t'=>by rw [r.inj r',Vals.inj t t']
section
variable {X:Cx}{pins:List (Addr×Obj)}{σ:St}{H:Hp}{s:Shared}{a:Addr}{xs ys:List V}
theorem SqL.of {K:PySem.W.Frag}(h:H a=some (.lst xs)):SqL K H a xs:= .inl (.inl h)
theorem SqT.of {K:PySem.W.Frag}(h:H a=some (.tup xs)):SqT K H a xs:= .inl (.inl h)
theorem Inv.list (I:Inv X pins σ H s)(h:SqL X.K H a xs):∃its:List Value,Vals xs its∧PlainL s.heap a its.toArray∧xs.length≤sizeLine:=by
 rcases h with h|⟨o,its,n,hk,hc,hd,hs,hz,r⟩
 ·obtain⟨z,its,n,r,e⟩:=h.ok I.hok
  exact⟨its,r,⟨_,n,e,rfl,rfl,rfl⟩,z⟩
 ·refine⟨its.toList,r,⟨o,n,I.kIn a o hk,hc,hd,by simpa using hs⟩,?_⟩
  have e:=r.length
  simp only [Array.length_toList] at e
  omega
theorem Inv.tuple (I:Inv X pins σ H s)(h:SqT X.K H a xs):∃its:List Value,Vals xs its∧IsTup s.heap a its.toArray∧xs.length≤sizeLine:=by
 rcases h with h|⟨o,its,n,hk,hc,hs,hz,r⟩
 ·obtain⟨z,its,r,p⟩:=h.ok I.hok
  exact⟨its,r,p,z⟩
 ·refine⟨its.toList,r,⟨o,I.kIn a o hk,hc,n,by simpa using hs⟩,?_⟩
  have e:=r.length
  simp only [Array.length_toList] at e
  omega
theorem Inv.list_inj (I:Inv X pins σ H s)(h:SqL X.K H a xs)(h':SqL X.K H a ys):xs=ys:=by
 obtain⟨its,r,⟨o,n,e,_,_,d⟩,_⟩:=I.list h
 obtain⟨its',r',⟨o',n',e',_,_,d'⟩,_⟩:=I.list h'
 rw [e] at e';cases e'
 rw [d] at d'
 injection d' with d1 _
 have:its=its':=by simpa using congrArg Array.toList d1
 subst this
 exact r.inj r'
theorem Inv.tuple_inj (I:Inv X pins σ H s)(h:SqT X.K H a xs)(h':SqT X.K H a ys):xs=ys:=by
 obtain⟨its,r,⟨o,e,_,n,d⟩,_⟩:=I.tuple h
 obtain⟨its',r',⟨o',e',_,n',d'⟩,_⟩:=I.tuple h'
 rw [e] at e';cases e'
 rw [d] at d'
 injection d' with d1 _
 have:its=its':=by simpa using congrArg Array.toList d1
 subst this
 exact r.inj r'
end
abbrev Cx.wish (X:Cx)(E:Value→Shared→Prop):Cx:={X with xe:=E}
abbrev Cx.nox (X:Cx):Cx:=X.wish fun _ _=>False
theorem Cx.Ok.wish {X:Cx}(ok:X.Ok)(E:Value→Shared→Prop):(X.wish E).Ok:=
 ⟨ok.mod,ok.kind,ok.glob,ok.blt,ok.above,ok.inj,ok.has,ok.cab,ok.hd,ok.frames,ok.stk,ok.exf,ok.bs,ok.bsz,ok.noex,ok.exfs,ok.funs,ok.frf⟩
theorem Cx.Ok.unwish {X:Cx}{E:Value→Shared→Prop}(ok:(X.wish E).Ok):X.Ok:=
 ⟨ok.mod,ok.kind,ok.glob,ok.blt,ok.above,ok.inj,ok.has,ok.cab,ok.hd,ok.frames,ok.stk,ok.exf,ok.bs,ok.bsz,ok.noex,ok.exfs,ok.funs,ok.frf⟩
section
variable {X:Cx}{pins:List (Addr×Obj)}{σ:St}{H:Hp}{s:Shared}{E:Value→Shared→Prop}
theorem Inv.wish (I:Inv X pins σ H s)(E:Value→Shared→Prop):Inv (X.wish E) pins σ H s:=⟨I.ok.wish E,I.os,I.bare,I.base,I.loc,I.cell,I.free,I.freeC,I.pin,I.hok,I.len,I.tk⟩
theorem Inv.unwish (I:Inv (X.wish E) pins σ H s):Inv X pins σ H s:=⟨I.ok.unwish,I.os,I.bare,I.base,I.loc,I.cell,I.free,I.freeC,I.pin,I.hok,I.len,I.tk⟩
theorem SP.unwish {D:Ends}{f:Flow}{s':Shared}(h:SP (X.wish E) pins D f s'):SP X pins D f s':=by
 cases f with
 |next=>obtain⟨σ',H',I,q⟩:=h;exact⟨σ',H',I.unwish,q⟩
 |brk=>obtain⟨σ',H',I,q⟩:=h;exact⟨σ',H',I.unwish,q⟩
 |cont=>obtain⟨σ',H',I,q⟩:=h;exact⟨σ',H',I.unwish,q⟩
 |ret u=>obtain⟨v,σ',H',I,r,q⟩:=h;exact⟨v,σ',H',I.unwish,r,q⟩
theorem PSs.nox {st:List Stmt}{t:TS}(h:PSs X.nox st t):PSs X st t:=fun pins s σ H D I hw=>
 wpAny_mono (h pins s σ H D (I.wish _) hw) (fun _ _ q=>q.unwish) fun _ _ z=>False.elim z
end
section
variable {X:Cx}{st:Stmt}{rest:List Stmt}{t u:TS}{e:Expr}{te:TE}{pos:Pos}
def tNext:TS:=fun D σ H=>D.nx σ H
def tSeq (t u:TS):TS:=fun D σ H=>t {D with nx:=u D} σ H
theorem qt:PSs X [] tNext:=fun _ _ σ H _ I h=>wpAny_execs_nil ⟨σ,H,I,h⟩
theorem qb (h1:PS X st t)(h2:PSs X rest u):PSs X (st::rest) (tSeq t u):=by
 intro pins s σ H D I h
 refine wpAny_execs_cons (thn (h1 pins s σ H {D with nx:=u D} I h) fun f s1 q=> ?_)
 cases f with
 |next=>
  obtain⟨σ',H',I',q⟩:=q
  exact h2 pins s1 σ' H' D I' q
 |ret v=>exact q
 |brk=>exact q
 |cont=>exact q
theorem qg (h1:PS X st t):PSs X [st] t:=by
 intro pins s σ H D I h
 refine wpAny_execs_cons (thn (h1 pins s σ H D I h) fun f s1 q=> ?_)
 cases f with
 |next=>exact wpAny_execs_nil q
 |ret v=>exact q
 |brk=>exact q
 |cont=>exact q
theorem Inv.quiet {pins:List (Addr×Obj)}{σ:St}{H:Hp}{s:Shared}(I:Inv X pins σ H s):interactive X.env=false:=by simp [interactive,I.ok.kind]
def tDrop (te:TE):TS:=fun D σ H=>te σ H fun _ H1=>D.nx σ H1
theorem QP (he:PE X e te)(hs:swapsWith e none pos.line X.env=pure false:=by rfl):PS X (.Expr e pos) (tDrop te):=by
 intro pins s σ H D I h
 exact wpAny_Expr_any (thn (he pins s σ H _ I h) fun v s1 ⟨x,H1,I1,r1,q1⟩=>⟨σ,H1,I1,q1⟩) I.quiet hs
def tRet (te:TE):TS:=fun D σ H=>te σ H D.rt
theorem qm (he:PE X e te):PS X (.Return (some e) pos) (tRet te):=by
 intro pins s σ H D I h
 exact wpAny_Return_some (thn (he pins s σ H _ I h) fun v s1 ⟨x,H1,I1,r1,q1⟩=>⟨x,σ,H1,I1,r1,q1⟩)
def tRetN:TS:=fun D _ H=>D.rt .non H
theorem ps_retN:PS X (.Return none pos) tRetN:=fun _ _ σ H _ I h=>wpAny_Return_none ⟨.non,σ,H,I,rfl,h⟩
def tIfS (c:TT)(t u:TS):TS:=fun D σ H=>c σ H fun b H1=>if b=true then t D σ H1 else u D σ H1
theorem qY {c:Expr}{a b:List Stmt}{tc:TT}(hc:PT X c tc)(ha:PSs X a t)(hb:PSs X b u):PS X (.If c a b pos) (tIfS tc t u):=by
 intro pins s σ H D I h
 refine wpAny_If (thn (hc pins s σ H _ I h) fun d s1 ⟨H1,I1,q1⟩=> ?_)
 cases d with
 |true=>exact ha pins s1 σ H1 D I1 q1
 |false=>exact hb pins s1 σ H1 D I1 q1
def tNever:TS:=fun _ _ _=>False
theorem XQ:PS X st tNever:=fun _ _ _ _ _ _ h=>h.elim
end
abbrev TG:=V→St→Hp→(St→Hp→Prop)→Prop
abbrev TGs:=List V→St→Hp→(St→Hp→Prop)→Prop
def PG (X:Cx)(target:Expr)(t:TG):Prop:=
 ∀(pins:List (Addr×Obj)) (s:Shared) (σ:St) (H:Hp) (v:V) (u:Value) (Q:St→Hp→Prop),Inv X pins σ H s→RelV v u→t v σ H Q→
  wpAny (model X.prog X.w) X.A (assign target X.env u) (fun _ s'=>∃σ' H',Inv X pins σ' H' s'∧Q σ' H') X.xe s
def PGs (X:Cx)(ts:List Expr)(t:TGs):Prop:=
 ∀(pins:List (Addr×Obj)) (s:Shared) (σ:St) (H:Hp) (vs:List V) (us:List Value) (Q:St→Hp→Prop),Inv X pins σ H s→Vals vs us→t vs σ H Q→
  wpAny (model X.prog X.w) X.A (assignInOrder ((assignEach ts X.env).map (·.2)) us) (fun _ s'=>∃σ' H',Inv X pins σ' H' s'∧Q σ' H') X.xe s
abbrev TSet:=V→V→V→Hp→(Hp→Prop)→Prop
def PSet (X:Cx)(t:TSet):Prop:=
 ∀(pins:List (Addr×Obj)) (s:Shared) (σ:St) (H:Hp) (o i v:V) (ov iv u:Value) (Q:Hp→Prop),Inv X pins σ H s→RelV o ov→RelV i iv→RelV v u→t o i v H Q→
  wpAny (model X.prog X.w) X.A (setItem ov iv u) (fun _ s'=>∃H',Inv X pins σ H' s'∧Q H') X.xe s
abbrev TIp:=V→V→Hp→VK→Prop
def PIp (X:Cx)(op:Operator)(t:TIp):Prop:=
 ∀(pins:List (Addr×Obj)) (s:Shared) (σ:St) (H:Hp) (x y:V) (v u:Value) (Q:VK),Inv X pins σ H s→RelV x v→RelV y u→t x y H Q→
  wpAny (model X.prog X.w) X.A (inplaceOp op v u) (EP X pins σ Q) X.xe s
section
variable {X:Cx}{pos:Pos}
def xw (i:Nat):TG:=fun v σ H Q=>Q (σ.set i (some v)) H
theorem Qm {i:Nat}{x:Str}(hN:X.N.Nodup)(hi:X.N[i]? =some x)(hx:Loc X.env.scope x)(hf:X.fn x=true∨X.env.scope.names.lookup x=some .local:=by first|exact .inl rfl|exact .inr rfl|assumption):PG X (.Name x pos) (xw i):=by
 intro pins s σ H v u Q I r h
 exact wpAny_assign_Name (ZW I hN hi hx r (fun s' I'=>⟨_,H,I',h⟩) hf)
def gNil:TGs:=fun vs σ H Q=>vs= []∧Q σ H
def gCons (t:TG)(u:TGs):TGs:=fun vs σ H Q=>∃v r,vs=v::r∧t v σ H fun σ' H'=>u r σ' H' Q
theorem zD:PGs X [] gNil:=by
 intro pins s σ H vs us Q I r h
 obtain⟨e,h⟩:=h
 subst e
 cases r
 exact assignInOrder_nil ⟨σ,H,I,h⟩
theorem yQ {e:Expr}{es:List Expr}{t:TG}{u:TGs}(h1:PG X e t)(h2:PGs X es u)
  (hs:(assignEach (e::es) X.env).map (·.2)=assign e X.env::(assignEach es X.env).map (·.2):=by rfl):PGs X (e::es) (gCons t u):=by
 intro pins s σ H vs us Q I r h
 obtain⟨v,vr,e1,h⟩:=h
 subst e1
 cases r with
 |cons r rr=>
  rw [hs]
  refine assignInOrder_cons (thn (h1 pins s σ H _ _ _ I r h) fun _ s1 ⟨σ1,H1,I1,q1⟩=> ?_)
  exact h2 pins s1 σ1 H1 _ _ Q I1 rr q1
def gTup (K:PySem.W.Frag)(n:Nat)(t:TGs):TG:=fun v σ H Q=>∃a xs,v= .ref a∧SqT K H a xs∧xs.length=n∧t xs σ H Q
theorem pg_tup {es:List Expr}{k:Nat}{t:TGs}{n:Nat}(hc:X.calm=true)(h:PGs X es t)
  (hn:(assignEach es X.env).length=n:=by rfl) (hst:(assignEach es X.env).findIdx? (·.1)=none:=by rfl):PG X (.Tuple es k pos) (gTup X.K n t):=by
 intro pins s σ H v u Q I r hw
 obtain⟨a,xs,e1,hq,hl,hw⟩:=hw
 subst e1
 cases r
 obtain⟨its,rv,ht,hz⟩:=I.tuple hq
 refine assign_Tuple_tuple (I.ok.hd hc) ht (by simp [hn,←hl,rv.length]) hst fun h' hx=> ?_
 have I1:Inv X pins σ H {s with heap:=h'}:=I.kept (t':=s.toks) fun b o e=>hx b o (Nat.ne_of_lt (Heap.lt_size e)) e
 exact h pins _ σ H xs _ Q I1 (by simpa using rv) hw
def gSub (to ti:TE)(t:TSet):TG:=fun v σ H Q=>to σ H fun o H1=>ti σ H1 fun i H2=>t o i v H2 fun H3=>Q σ H3
theorem pg_sub {o i:Expr}{to ti:TE}{t:TSet}(ho:PE X o to)(hi:PE X i ti)(hs:PSet X t)
  (ha:∀v,assign (.Subscript o i pos) X.env v=(do
   let ov←holding [v] (eval o X.env)
   let iv←holding [v,ov] (eval i X.env)
   standAt pos
   holding [v,ov,iv] (setItem ov iv v)
   release [v,ov,iv] []):=by intro _;rfl):PG X (.Subscript o i pos) (gSub to ti t):=by
 intro pins s σ H v u Q I r h
 rw [ha]
 refine wpAny_bind (wpAny_holding (thn (ho pins s σ H _ I h) fun ov s1 ⟨x,H1,I1,r1,q1⟩=> ?_))
 refine wpAny_bind (wpAny_holding (thn (hi pins s1 σ H1 _ I1 q1) fun iv s2 ⟨y,H2,I2,r2,q2⟩=> ?_))
 refine wpAny_bind (wpAny_standAt (wpAny_bind (wpAny_holding (thn (hs pins s2 σ H2 x y v ov iv u _ I2 r1 r2 r q2) fun _ s3 ⟨H3,I3,q3⟩=> ?_))))
 exact wpAny_release ⟨σ,H3,I3,q3⟩
def tAsg (te:TE)(g:TG):TS:=fun D σ H=>te σ H fun x H1=>g x σ H1 D.nx
theorem ps_asg {tg e:Expr}{te:TE}{g:TG}(he:PE X e te)(hg:PG X tg g)(hs:swapsWithSole [tg] e pos.line X.env=pure false:=by rfl)(hw:swappedStores [tg] e X.env=pure none:=by rfl)
  (h1:(assignEach [tg] X.env).map (·.2)= [assign tg X.env]:=by rfl):PS X (.Assign [tg] e pos) (tAsg te g):=by
 intro pins s σ H D I h
 refine wpAny_Assign_stores (thn (he pins s σ H _ I h) fun v s1 ⟨x,H1,I1,r1,q1⟩=> ?_) hs hw
 rw [h1]
 exact thn (hg pins s1 σ H1 x v _ I1 r1 q1) fun _ s2 q=>q
theorem qx {i:Nat}{x:Str}{e:Expr}{te:TE}{pos':Pos}(hN:X.N.Nodup)(hi:X.N[i]? =some x)(hx:Loc X.env.scope x)(he:PE X e te)(hs:swapsWith e (some (.Name x pos')) pos.line X.env=pure false:=by rfl)(hf:X.fn x=true∨X.env.scope.names.lookup x=some .local:=by first|exact .inl rfl|exact .inr rfl|assumption):
  PS X (.Assign [.Name x pos'] e pos) (tAsg te (xw i)):=by
 intro pins s σ H D I h
 refine wpAny_Assign_Name (thn (he pins s σ H _ I h) fun v s1 ⟨y,H1,I1,r1,q1⟩=> ?_) hs
 exact ZW I1 hN hi hx r1 (fun s2 I2=>⟨_,H1,I2,q1⟩) hf
def tAug (i:Nat)(te:TE)(ti:TIp):TS:=fun D σ H=>∃x,σ[i]? =some (some x)∧te σ H fun y H1=>ti x y H1 fun z H2=>D.nx (σ.set i (some z)) H2
theorem ps_aug {i:Nat}{x:Str}{e:Expr}{te:TE}{op:Operator}{ti:TIp}{pos':Pos}(hN:X.N.Nodup)(hi:X.N[i]? =some x)(hx:Loc X.env.scope x)(he:PE X e te)(ho:PIp X op ti)(hf:X.fn x=true∨X.env.scope.names.lookup x=some .local:=by first|exact .inl rfl|exact .inr rfl|assumption):
  PS X (.AugAssign (.Name x pos') op e pos) (tAug i te ti):=by
 intro pins s σ H D I h
 obtain⟨v,e1,h⟩:=h
 obtain⟨m,hn,hl⟩:=I.loc
 have vis:Vis X.env.scope x:=by rcases hx with k|k;exact .inl k;exact .inr (.inl k)
 obtain⟨u,r,l⟩:=hl i x v hi e1 vis
 refine wpAny_AugAssign_Name ?_
 have go:wpAny (model X.prog X.w) X.A (eval e X.env) (fun w s₂=>wpAny (model X.prog X.w) X.A (inplaceOp op u w) (fun r s₃=>wpAny (model X.prog X.w) X.A (storeName X.env x r) (fun _=>SP X pins D .next) X.xe s₃) X.xe s₂) X.xe s:=by
  refine thn (he pins s σ H _ I h) fun w s1 ⟨y,H1,I1,r1,q1⟩=> ?_
  refine thn (ho pins s1 σ H1 v y u w _ I1 r r1 q1) fun z s2 ⟨zv,H2,I2,r2,q2⟩=> ?_
  exact ZW I2 hN hi hx r2 (fun s3 I3=>⟨_,H2,I3,q2⟩) hf
 rcases l with⟨hk,hm⟩|⟨hk,c,hc,hcell⟩
 ·exact wpAny_loadName_local I.ok.kind hk hn hm go
 ·rcases hk with hk|hk
  ·exact wpAny_loadName_cell I.ok.kind hk hc hcell go
  ·rcases hx with k|k
   ·have:X.env.scope.names.lookup x=some .free:=hk
    rw [k] at this;cases this
   ·have:X.env.scope.names.lookup x=some .free:=hk
    rw [k] at this;cases this
def ipI (f:Int→Int→Int):TIp:=fun x y H Q=>∃i j,x= .int i∧y= .int j∧Q (.int (f i j)) H
theorem ip_add:PIp X .Add (ipI fun i j=>i+j):=by
 intro pins s σ H x y v u Q I r1 r2 h
 obtain⟨i,j,e1,e2,q⟩:=h
 subst e1;subst e2
 obtain⟨t,rfl⟩:=r1
 obtain⟨t',rfl⟩:=r2
 exact iadd_int ⟨.int _,H,I.tok _,⟨_,rfl⟩,q⟩
end
section
variable {X:Cx}{pos:Pos}
def tWhile (c:TT)(tb:TS):TS:=fun D σ H=>∃W:Nat→St→Hp→Prop,(∃m,W m σ H)∧∀m σ H,W m σ H→
 c σ H fun b H1=>if b=true then∃N:St→Hp→Prop,(∀σ' H',N σ' H'→∃m',m'<m∧W m' σ' H')∧tb {D with nx:=N,ct:=N,bk:=D.nx} σ H1 else D.nx σ H1
theorem XO {c:Expr}{body:List Stmt}{tc:TT}{tb:TS}(hp:PassesOwn (model X.prog X.w) X.A X.env X.xe)(hc:PT X c tc)(hb:PSs X body tb):PS X (.While c body [] pos) (tWhile tc tb):=by
 intro pins s σ H D I h
 obtain⟨W,⟨m0,w0⟩,turn⟩:=h
 refine wpAny_While (codeAny_whileLoop (fun n s'=>∃σ' H',Inv X pins σ' H' s'∧W n σ' H') ?_ m0 ⟨σ,H,I,w0⟩)
 rintro n s1 ⟨σ1,H1,I1,w1⟩
 refine wpAny_passesOwn hp (thn (hc pins s1 σ1 H1 _ I1 (turn n σ1 H1 w1)) fun b s2 ⟨H2,I2,q2⟩=> ?_)
 cases b with
 |true=>
  obtain⟨N,hN,q2⟩:=q2
  rw [if_pos rfl]
  refine wpAny_passesOwn hp (thn (hb pins s2 σ1 H2 _ I2 q2) fun f s3 q3=> ?_)
  cases f with
  |next=>
   obtain⟨σ3,H3,I3,n3⟩:=q3
   obtain⟨m',hm,w3⟩:=hN σ3 H3 n3
   exact⟨m',hm,σ3,H3,I3,w3⟩
  |cont=>
   obtain⟨σ3,H3,I3,n3⟩:=q3
   obtain⟨m',hm,w3⟩:=hN σ3 H3 n3
   exact⟨m',hm,σ3,H3,I3,w3⟩
  |brk=>exact q3
  |ret v=>exact q3
 |false=>
  rw [if_neg Bool.false_ne_true]
  exact wpAny_execs_nil ⟨σ1,H2,I2,q2⟩
end
structure It where
 go:Nat→Hp→Prop
 yld:Nat→Hp→V→Hp→Prop
 stop:Nat→Hp→Prop
def FpOk (X:Cx)(pins:List (Addr×Obj))(H:Hp)(b:Addr):Prop:=
 H b=none∧b≠X.env.locals∧b∉X.fs∧(b∈X.ex∨X.s₀.heap.objs.size≤b)∧(∀x c,X.env.cells.lookup x=some c→c≠b)∧∀p∈X.pn++pins,p.1≠b
theorem Inv.fpOk {X:Cx}{pins:List (Addr×Obj)}{σ:St}{H H':Hp}{s:Shared}{b:Addr}(I:Inv X pins σ H s)(hb:s.heap.objs.size≤b)(hn:H' b=none):FpOk X pins H' b:=by
 refine⟨hn,Nat.ne_of_gt (Nat.lt_of_lt_of_le I.lt hb),I.nofs hb,.inr (Nat.le_trans I.sz hb),fun x c e z=> ?_,fun p hp z=> ?_⟩
 ·obtain⟨v,q⟩:=I.cell x c e
  exact absurd (Nat.lt_of_lt_of_le q.lt (by rw [z];exact hb)) (Nat.lt_irrefl _)
 ·exact absurd (Nat.lt_of_lt_of_le (Heap.lt_size (I.pin p hp).1) (by rw [z];exact hb)) (Nat.lt_irrefl _)
structure Turn (P:Program)(w:World)(K:PySem.W.Frag)(tg:Expr)(J:It)(fp:List Addr)(it:Addr)(tn:Nat→Heap→Prop):Prop where
 mem:it∈fp
 obj:∀i h,tn i h→∀b∈fp,∃o,h.get? b=some o∧∀v,o.data≠ .cell v
 keep:∀i h h',tn i h→(∀b∈fp,∀o,h.get? b=some o→h'.get? b=some o)→tn i h'
 item:∀(X:Cx),X.prog=P→X.w=w→X.K=K→X.calm=true→∀(i:Nat) (pins:List (Addr×Obj)) (s:Shared) (σ:St) (H:Hp) (E:Value→Shared→Prop),Inv X pins σ H s→(∀b∈fp,FpOk X pins H b)→tn i s.heap→J.go i H→
  wpAny (model P w) X.A (pyNext (.ref it)) (fun r s1=>∃u,r=some u∧
   wpAny (model P w) X.A (letOwnedTupleGo tg (.ref it) u) (fun _ s2=>∃x H',Inv X pins σ H' s2∧RelV x u∧J.yld i H x H'∧tn (i+1) s2.heap∧∀b∈fp,H' b=none) E s1) E s
 done:∀(X:Cx),X.prog=P→X.w=w→X.K=K→X.calm=true→∀(i:Nat) (pins:List (Addr×Obj)) (s:Shared) (σ:St) (H:Hp) (E:Value→Shared→Prop),Inv X pins σ H s→(∀b∈fp,FpOk X pins H b)→tn i s.heap→J.stop i H→
  wpAny (model P w) X.A (pyNext (.ref it)) (fun r s1=>r=none∧Inv X pins σ H s1) E s
 self:∀(A:Around) (i:Nat) (s:Shared) (Q:Value→Shared→Prop) (E:Value→Shared→Prop),tn i s.heap→Q (.ref it) s→wpAny (model P w) A (pyIter (.ref it)) Q E s
abbrev TI:=St→Hp→(It→Hp→Prop)→Prop
def PIE (X:Cx)(pins:List (Addr×Obj))(σ:St)(tg:Expr)(R:It→Hp→Prop)(itv:Value)(s2:Shared):Prop:=
 ∃(it:Addr) (fp:List Addr) (tn:Nat→Heap→Prop) (J:It) (H':Hp),itv= .ref it∧Inv X pins σ H' s2∧Turn X.prog X.w X.K tg J fp it tn∧tn 0 s2.heap∧(∀b∈fp,FpOk X pins H' b)∧R J H'
def PI (X:Cx)(tg iter:Expr)(wi:TI):Prop:=
 ∀(pins:List (Addr×Obj)) (s:Shared) (σ:St) (H:Hp) (R:It→Hp→Prop),Inv X pins σ H s→wi σ H R→
  wpAny (model X.prog X.w) X.A (eval iter X.env) (fun v s1=>wpAny (model X.prog X.w) X.A (pyIter v) (PIE X pins σ tg R) X.xe s1) X.xe s
theorem go_of {M:Model}{A:Around}{E:Value→Shared→Prop}{s:Shared}{tg:Expr}{it:Addr}{u:Value}{o:Obj}{n:String}{vs:Array Value}{Q:Unit→Shared→Prop}(ho:s.heap.get? it=some o)(hc:o.cls= .type n)(hd:o.data= .fields vs)
  (hn: ["enumerate","zip","dict_itemiterator","dict_reverseitemiterator","odict_iterator","itertools.zip_longest","itertools.pairwise"].contains n=false) (hQ:Q () s):wpAny M A (letOwnedTupleGo tg (.ref it) u) Q E s:=by
 unfold letOwnedTupleGo
 cases tg<;>first
  |exact wpAny_pure hQ
  |(cases u<;>first
    |exact wpAny_pure hQ
    |(refine wpAny_bind (wpAny_load ho ?_)
      rw [hc,hd]
      show wpAny M A (if(["enumerate","zip","dict_itemiterator","dict_reverseitemiterator","odict_iterator","itertools.zip_longest","itertools.pairwise"].contains n&&vs[0]? ==some (rawInt _))=true then _ else _) Q E s
      rw [if_neg (by intro h;rw [hn,Bool.false_and] at h;cases h)]
      exact wpAny_pure hQ))
def Itt (K:PySem.W.Frag)(a:Addr):It:=
 ⟨fun i H=>∃xs x,SqT K H a xs∧xs[i]? =some x,fun i H x H'=>H'=H∧∀xs,SqT K H a xs→xs[i]? =some x,fun i H=>∃xs,SqT K H a xs∧xs.length≤i⟩
def Itr (lo:Int)(n:Nat):It:=⟨fun i _=>i<n,fun i H x H'=>H'=H∧x= .int (lo+i),fun i _=>n≤i⟩
theorem ZT {P:Program}{w:World}{K:PySem.W.Frag}{tg:Expr}(a it:Addr):Turn P w K tg (Itt K a) [it] it (fun i h=>h.IsTupleIter it a i) where
 mem:=by simp
 obj:=fun i h st b hb=>by
  have e:b=it:=by simpa using hb
  subst e
  obtain⟨o,e,c,d⟩:=st
  exact⟨o,e,fun v z=>by rw [d] at z;cases z⟩
 keep:=fun i h h' st k=>st.at fun o e=>k it (by simp) o e
 item:=by
  intro X hP hw hK hc i pins s σ H E I hf st hg
  subst hP hw hK
  obtain⟨xs,x,hq,hx⟩:=hg
  obtain⟨its,rv,p,hz⟩:=I.tuple hq
  obtain⟨u,hu,ru⟩:=rv.get hx
  obtain⟨f0,f1,f2,f3,f4,f5⟩:=hf it (by simp)
  refine wpAny_pyNext_tuple_item st (show s.heap.IsTuple a its.toArray from p) (x:=u) (by simpa using hu) fun h' st' sb=> ?_
  have I1:Inv X pins σ H {s with heap:=h'}:=I.turned (t':=s.toks) (fun b o hb e=>(sb.2 b hb).trans e) f0 f1 f3 f4 f5
  obtain⟨o,e,c,d⟩:=id st'
  exact⟨u,rfl,go_of (s:={s with heap:=h'}) e c d (by decide) ⟨x,H,I1,ru,⟨rfl,fun ys hy=>by rw [I.tuple_inj hy hq];exact hx⟩,st',fun b hb=>(hf b hb).1⟩⟩
 done:=by
  intro X hP hw hK hc i pins s σ H E I hf st hg
  subst hP hw hK
  obtain⟨xs,hq,hx⟩:=hg
  obtain⟨its,rv,p,hz⟩:=I.tuple hq
  obtain⟨f0,f1,f2,f3,f4,f5⟩:=hf it (by simp)
  have hl:=rv.length
  exact wpAny_pyNext_tuple_end (I.ok.hd hc) st (show s.heap.IsTuple a its.toArray from p) (by simp;omega) fun h' eb=>⟨rfl,I.turned (t':=s.toks) (fun b o hb e=>eb b o hb e) f0 f1 f3 f4 f5⟩
 self:=fun _ _ _ _ _ st h=>wpAny_pyIter_tupleiter st h
theorem turn_range {P:Program}{w:World}{K:PySem.W.Frag}{tg:Expr}(it:Addr)(lo:Int)(n:Nat):Turn P w K tg (Itr lo n) [it] it (fun i h=>IsRangeIter h it (lo+(i:Nat)*1) ((n:Int)-(i:Nat)) 1) where
 mem:=by simp
 obj:=fun i h st b hb=>by
  have e:b=it:=by simpa using hb
  subst e
  exact⟨_,st,fun v z=>by
   have z':Data.fields _=Data.cell v:=z
   cases z'⟩
 keep:=fun i h h' st k=>k it (by simp) _ st
 item:=by
  intro X hP hw hK hc i pins s σ H E I hf st hg
  subst hP hw hK
  obtain⟨f0,f1,f2,f3,f4,f5⟩:=hf it (by simp)
  have W:=Walks.range (prog:=X.prog) (w:=X.w) (I.ok.hd hc) it lo 1 n
  refine wpAny_with_toks (n:=1) I.tk (W.item i s _ _ hg st fun v h' tk hv st' kk=> ?_)
  intro htk
  obtain⟨t,rfl⟩:=hv
  have I1:Inv X pins σ H {s with heap:=h',toks:=tk}:=I.turned (fun b o hb e=>kk b o (by simpa using hb) e) f0 f1 f3 f4 f5
  refine⟨_,rfl,go_of (s:={s with heap:=h',toks:=tk}) (n:="range_iterator") st' rfl rfl (by decide) ⟨.int (lo+i),H,I1,⟨t,?_⟩,⟨rfl,rfl⟩,st',fun b hb=>(hf b hb).1⟩⟩
  rw [Int.mul_one]
 done:=by
  intro X hP hw hK hc i pins s σ H E I hf st hg
  subst hP hw hK
  obtain⟨f0,f1,f2,f3,f4,f5⟩:=hf it (by simp)
  exact wpAny_pyNext_range_end (I.ok.hd hc) st (by have:n≤i:=hg;omega) fun h' eb=>⟨rfl,I.turned (t':=s.toks) (fun b o hb e=>eb b o hb e) f0 f1 f3 f4 f5⟩
 self:=fun _ _ _ _ _ st h=>wpAny_pyIter_rangeiter st h
end L2
namespace L2
open PySem PySem.Spec PyProof.Rows
section
variable {X:Cx}{tg:Expr}
def iTup (K:PySem.W.Frag)(tl:TE):TI:=fun σ H R=>tl σ H fun x H1=>∃a,x= .ref a∧(∃xs,SqT K H1 a xs)∧R (Itt K a) H1
theorem ZS {l:Expr}{tl:TE}(hl:PE X l tl):PI X tg l (iTup X.K tl):=by
 intro pins s σ H R I h
 refine thn (hl pins s σ H _ I h) fun v s1 ⟨x,H1,I1,r1,q1⟩=> ?_
 obtain⟨a,e,⟨xs,hq⟩,q⟩:=q1
 subst e
 cases r1
 obtain⟨its,rv,p,hz⟩:=I1.tuple hq
 refine wpAny_pyIter_tuple (show s1.heap.IsTuple a its.toArray from p) ?_
 refine⟨s1.heap.objs.size,[s1.heap.objs.size],_,_,H1,rfl,I1.kept (t':=s1.toks) fun b o e=>Heap.get?_push_of_some _ e,ZT a _,⟨_,Heap.get?_push_size _ rfl,rfl,rfl⟩,fun b hb=> ?_,q⟩
 have e:b=s1.heap.objs.size:=by simpa using hb
 subst e
 exact I1.fpOk (Nat.le_refl _) (I1.hok.fresh (Nat.le_refl _))
theorem range_it {pins:List (Addr×Obj)}{σ:St}{H:Hp}{s:Shared}{R:It→Hp→Prop}{E:Value→Shared→Prop}{lo hi:Int}{t u v:Tok}{tk:Nat}(I:Inv X pins σ H s)(h1: -(2^62)≤lo)(h2:lo<2^62)(h3: -(2^62)≤hi)(h4:hi<2^62)
  (q:R (Itr lo (hi-lo).toNat) H) (htk:0<tk:=by((try dsimp only);first|assumption|exact Inv.tk (by assumption)|exact Nat.succ_pos _|exact Nat.lt_of_lt_of_le (Inv.tk (by assumption)) (by assumption)|exact Nat.add_pos_left (Inv.tk (by assumption)) _|omega)):wpAny (model X.prog X.w) X.A (pyIter (.ref s.heap.objs.size)) (PIE X pins σ tg R) E {s with heap:=s.heap.push {cls:= .type "range",data:= .fields #[.int lo t,.int hi u,.int 1 v]},toks:=tk}:=by
 refine wpAny_pyIter_range (IsRange.new ..) (small_one h1 h2 h3 h4) ?_
 have I1:Inv X pins σ H {s with heap:=s.heap.push {cls:= .type "range",data:= .fields #[.int lo t,.int hi u,.int 1 v]},toks:=tk}:=I.kept fun b o e=>Heap.get?_push_of_some _ e
 refine⟨(s.heap.push {cls:= .type "range",data:= .fields #[.int lo t,.int hi u,.int 1 v]}).objs.size,[(s.heap.push {cls:= .type "range",data:= .fields #[.int lo t,.int hi u,.int 1 v]}).objs.size],_,_,H,rfl,
  I1.kept (t':=tk) fun b o e=>Heap.get?_push_of_some _ e,turn_range _ lo (hi-lo).toNat,?_,fun b hb=> ?_,q⟩
 ·have e1:lo+((0:Nat):Int)*1=lo:=by simp
  have e2:(((hi-lo).toNat:Nat):Int)-((0:Nat):Int)=Builtin.Range.rangeSize lo hi 1:=by rw [rangeSize_one];split<;>omega
  show IsRangeIter _ _ (lo+((0:Nat):Int)*1) ((((hi-lo).toNat:Nat):Int)-((0:Nat):Int)) 1
  rw [e1,e2]
  exact Heap.get?_push_size _ rfl
 ·have e:b=(s.heap.push {cls:= .type "range",data:= .fields #[.int lo t,.int hi u,.int 1 v]}).objs.size:=by simpa using hb
  subst e
  exact I1.fpOk (Nat.le_refl _) (I1.hok.fresh (Nat.le_refl _))
def iRng1 (ta:TA):TI:=fun σ H R=>ta σ H fun vs H1=>∃j:Int,vs= [.int j]∧-(2^62)≤j∧j<2^62∧R (Itr 0 j.toNat) H1
def iRng2 (ta:TA):TI:=fun σ H R=>ta σ H fun vs H1=>∃i j:Int,vs= [.int i,.int j]∧(-(2^62)≤i∧i<2^62∧-(2^62)≤j∧j<2^62)∧R (Itr i (j-i).toNat) H1
theorem YE {a:Expr}{ta:TA}{p pos:Pos}(hg:Gl X "range")(hm:X.mg "range"=none)(ha:PA X [a] ta)(hs:starEach [a] X.env= [(false,eval a X.env)]:=by rfl):PI X tg (.Call (.Name "range" p) [a] [] pos) (iRng1 ta):=by
 intro pins s σ H R I h
 refine Call_ (zG I hg hm boot_range (PyProof.Rows.callWith_type1 (thn (ha pos pins s σ H _ I h) fun us s1 ⟨vs,H1,I1,r1,q1⟩=> ?_) hs rfl))
 obtain⟨j,e,q1,q2,q⟩:=q1
 subst e
 cases r1 with
 |cons r rr=>
  cases rr
  obtain⟨t,rfl⟩:=r
  exact call_range_1 (range_it I1 (by omega) (by omega) q1 q2 (by simpa using q))
theorem pi_range2 {a b:Expr}{ta:TA}{p pos:Pos}(hg:Gl X "range")(hm:X.mg "range"=none)(ha:PA X [a,b] ta)(hs:starEach [a,b] X.env= [(false,eval a X.env),(false,eval b X.env)]:=by rfl)(hs2:starEach [b] X.env= [(false,eval b X.env)]:=by rfl):
  PI X tg (.Call (.Name "range" p) [a,b] [] pos) (iRng2 ta):=by
 intro pins s σ H R I h
 refine Call_ (zG I hg hm boot_range (PyProof.Rows.callWith_type1 (thn (ha pos pins s σ H _ I h) fun us s1 ⟨vs,H1,I1,r1,q1⟩=> ?_) (by rw [hs,hs2]) (by rw [hs2];rfl)))
 obtain⟨i,j,e,⟨q1,q2,q3,q4⟩,q⟩:=q1
 subst e
 cases r1 with
 |cons r rr=>
  cases rr with
  |cons r' rr=>
   cases rr
   obtain⟨t,rfl⟩:=r
   obtain⟨t',rfl⟩:=r'
   exact call_range_2 (range_it I1 q1 q2 q3 q4 q)
def tFor (wi:TI)(g:TG)(tb:TS):TS:=fun D σ H=>wi σ H fun J H1=>∃W:Nat→Nat→St→Hp→Prop,(∃m,W 0 m σ H1)∧∀i m σ H,W i m σ H→
 (J.stop i H∧D.nx σ H)∨(J.go i H∧∃N:St→Hp→Prop,(∀σ' H',N σ' H'→∃m',m'<m∧W (i+1) m' σ' H')∧∀x H',J.yld i H x H'→g x σ H' fun σ2 H2=>tb {D with nx:=N,ct:=N,bk:=D.nx} σ2 H2)
def pinsAt (fp:List Addr)(h:Heap):List (Addr×Obj):=fp.filterMap fun b=>(h.get? b).map fun o=>(b,o)
theorem Jz {fp:List Addr}{h:Heap}{b:Addr}{o:Obj}(hb:b∈fp)(e:h.get? b=some o):(b,o)∈pinsAt fp h:=List.mem_filterMap.mpr ⟨b,hb,by rw [e];rfl⟩
theorem of_pinsAt {fp:List Addr}{h:Heap}{p:Addr×Obj}(hp:p∈pinsAt fp h):p.1∈fp∧h.get? p.1=some p.2:=by
 obtain⟨b,hb,e⟩:=List.mem_filterMap.mp hp
 cases q:h.get? b with
 |none=>rw [q] at e;cases e
 |some o=>
  rw [q] at e
  have e':(b,o)=p:=Option.some.inj e
  subst e'
  exact⟨hb,q⟩
theorem Inv.pinned {pins:List (Addr×Obj)}{σ:St}{H:Hp}{s:Shared}{fp:List Addr}(I:Inv X pins σ H s)(hf:∀b∈fp,FpOk X pins H b)(ho:∀b∈fp,∃o,s.heap.get? b=some o∧∀v,o.data≠ .cell v):Inv X (pins++pinsAt fp s.heap) σ H s:=
 I.pins_of fun p hp=>(List.mem_append.mp hp).elim (fun z=>I.pin p (List.mem_append_right _ z)) fun z=>by
  obtain⟨hb,e⟩:=of_pinsAt z
  obtain⟨f0,f1,f2,_⟩:=hf p.1 hb
  obtain⟨o,e',d⟩:=ho p.1 hb
  rw [e] at e';cases e'
  exact⟨e,f0,f1,f2,d⟩
theorem Inv.unpinned {pins pl:List (Addr×Obj)}{σ:St}{H:Hp}{s:Shared}(I:Inv X (pins++pl) σ H s):Inv X pins σ H s:=I.pins_of fun p hp=>I.pin p (List.mem_append_right _ (List.mem_append_left _ hp))
theorem jf {iter:Expr}{body:List Stmt}{wi:TI}{g:TG}{tb:TS}{pos:Pos}(hp:PassesOwn (model X.prog X.w) X.A X.env X.xe)(hc:X.calm=true)(hi:PI X tg iter wi)(hg:PG X tg g)(hb:PSs X body tb)
  (hs:∀x,foldedSetIterable iter X.env x=pure x:=by intro _;rfl):PS X (.For tg iter body [] pos) (tFor wi g tb):=by
 intro pins s σ H D I h
 refine wpAny_For (thn (hi pins s σ H _ I h) fun v s1 h1=>thn h1 fun itv s2 h2=> ?_) hs
 obtain⟨it,fp,tn,J,H2,e,I2,T,st2,f2,W,⟨m0,w0⟩,turn⟩:=h2
 subst e
 have stat:∀{H':Hp},(∀b∈fp,H' b=none)→∀b∈fp,FpOk X pins H' b:=fun hn b hb=>⟨hn b hb,(f2 b hb).2⟩
 refine codeAny_forLoop_any (fun n s'=>∃i σ' H',Inv X pins σ' H' s'∧tn i s'.heap∧(∀b∈fp,H' b=none)∧W i n σ' H') ?_ m0 ⟨0,σ,H2,I2,st2,fun b hb=>(f2 b hb).1,w0⟩
 rintro n s3 ⟨i,σ3,H3,I3,st3,fr3,w3⟩
 rcases turn i n σ3 H3 w3 with⟨stop,qn⟩|⟨go,N,hN,step⟩
 ·refine wpAny_passesOwn hp (thn (T.done X rfl rfl rfl hc i pins s3 σ3 H3 X.xe I3 (stat fr3) st3 stop) fun r s4 ⟨hr,I4⟩=> ?_)
  subst hr
  exact wpAny_execs_nil ⟨σ3,H3,I4,qn⟩
 ·refine wpAny_passesOwn hp (thn (T.item X rfl rfl rfl hc i pins s3 σ3 H3 X.xe I3 (stat fr3) st3 go) fun r s4 ⟨u,hr,h4⟩=> ?_)
  subst hr
  refine wpAny_passesOwn hp (thn h4 fun _ s5 ⟨x,H5,I5,r5,y5,st5,fr5⟩=> ?_)
  have I5':=I5.pinned (stat fr5) (T.obj _ _ st5)
  refine wpAny_passesOwn hp (thn (hg _ s5 σ3 H5 x u _ I5' r5 (step x H5 y5)) fun _ s6 ⟨σ6,H6,I6,q6⟩=> ?_)
  refine wpAny_passesOwn hp (thn (hb _ s6 σ6 H6 _ I6 q6) fun f s7 q7=> ?_)
  have again:∀{σ7:St}{H7:Hp},Inv X (pins++pinsAt fp s5.heap) σ7 H7 s7→N σ7 H7→∃m,m<n∧∃i σ' H',Inv X pins σ' H' s7∧tn i s7.heap∧(∀b∈fp,H' b=none)∧W i m σ' H':=fun{σ7 H7} I7 n7=>by
   obtain⟨m',hm,w7⟩:=hN σ7 H7 n7
   refine⟨m',hm,i+1,σ7,H7,I7.unpinned,T.keep _ _ _ st5 fun b hb o e=>(I7.pin (b,o) (List.mem_append_right _ (List.mem_append_right _ (Jz hb e)))).1,fun b hb=> ?_,w7⟩
   obtain⟨o,e,d⟩:=T.obj _ _ st5 b hb
   exact(I7.pin (b,o) (List.mem_append_right _ (List.mem_append_right _ (Jz hb e)))).2.1
  cases f with
  |next=>obtain⟨σ7,H7,I7,n7⟩:=q7;exact again I7 n7
  |cont=>obtain⟨σ7,H7,I7,n7⟩:=q7;exact again I7 n7
  |brk=>obtain⟨σ7,H7,I7,q7⟩:=q7;exact⟨σ7,H7,I7.unpinned,q7⟩
  |ret v=>obtain⟨x7,σ7,H7,I7,r7,q7⟩:=q7;exact⟨x7,σ7,H7,I7.unpinned,r7,q7⟩
end
theorem xy {K:PySem.W.Frag}{a:Addr}{xs:List V}{g:TG}{tb:TS}{D:Ends}{σ:St}{H:Hp}(Pv:Nat→St→Hp→Prop)(h0:Pv 0 σ H)(hl:∀i σ H,i≤xs.length→Pv i σ H→SqT K H a xs)
  (hs:∀i x σ H,xs[i]? =some x→Pv i σ H→g x σ H fun σ2 H2=>tb {D with nx:=Pv (i+1),ct:=Pv (i+1),bk:=D.nx} σ2 H2) (hd:∀σ H,Pv xs.length σ H→D.nx σ H):
  ∃W:Nat→Nat→St→Hp→Prop,(∃m,W 0 m σ H)∧∀i m σ H,W i m σ H→
   ((Itt K a).stop i H∧D.nx σ H)∨((Itt K a).go i H∧∃N:St→Hp→Prop,(∀σ' H',N σ' H'→∃m',m'<m∧W (i+1) m' σ' H')∧∀x H',(Itt K a).yld i H x H'→g x σ H' fun σ2 H2=>tb {D with nx:=N,ct:=N,bk:=D.nx} σ2 H2):=by
 refine⟨fun i m σ H=>m=xs.length-i∧i≤xs.length∧Pv i σ H,⟨xs.length,by simp,Nat.zero_le _,h0⟩,?_⟩
 rintro i m σ H ⟨rfl,hi,p⟩
 have q:=hl i σ H hi p
 by_cases hlt:i<xs.length
 ·refine .inr ⟨⟨xs,xs[i],q,by simp [hlt]⟩,Pv (i+1),fun σ' H' p'=>⟨xs.length-(i+1),by omega,rfl,hlt,p'⟩,fun x H' y=> ?_⟩
  obtain⟨e,y⟩:=y
  subst e
  exact hs i x σ _ (y xs q) p
 ·have e:i=xs.length:=by omega
  subst e
  exact .inl ⟨⟨xs,q,Nat.le_refl _⟩,hd σ H p⟩
theorem jv {lo:Int}{n:Nat}{g:TG}{tb:TS}{D:Ends}{σ:St}{H:Hp}(Pv:Nat→St→Hp→Prop)(h0:Pv 0 σ H)
  (hs:∀i σ H,i<n→Pv i σ H→g (.int (lo+i)) σ H fun σ2 H2=>tb {D with nx:=Pv (i+1),ct:=Pv (i+1),bk:=D.nx} σ2 H2) (hd:∀σ H,Pv n σ H→D.nx σ H):
  ∃W:Nat→Nat→St→Hp→Prop,(∃m,W 0 m σ H)∧∀i m σ H,W i m σ H→
   ((Itr lo n).stop i H∧D.nx σ H)∨((Itr lo n).go i H∧∃N:St→Hp→Prop,(∀σ' H',N σ' H'→∃m',m'<m∧W (i+1) m' σ' H')∧∀x H',(Itr lo n).yld i H x H'→g x σ H' fun σ2 H2=>tb {D with nx:=N,ct:=N,bk:=D.nx} σ2 H2):=by
 refine⟨fun i m σ H=>m=n-i∧i≤n∧Pv i σ H,⟨n,by simp,Nat.zero_le _,h0⟩,?_⟩
 rintro i m σ H ⟨rfl,hi,p⟩
 by_cases hlt:i<n
 ·refine .inr ⟨hlt,Pv (i+1),fun σ' H' p'=>⟨n-(i+1),by omega,rfl,hlt,p'⟩,fun x H' y=> ?_⟩
  obtain⟨e,y⟩:=y
  subst e y
  exact hs i σ _ hlt p
 ·have e:i=n:=by omega
  subst e
  exact .inl ⟨Nat.le_refl _,hd σ H p⟩
end L2
namespace L2
open PySem PySem.Spec PyProof.Rows
abbrev R2:=V→V→Hp→VK→Prop
def OpR (X:Cx)(f:Value→Value→Sem Value)(r:R2):Prop:=
 ∀(pins:List (Addr×Obj)) (s:Shared) (σ:St) (H:Hp) (x y:V) (v u:Value) (Q:VK),Inv X pins σ H s→RelV x v→RelV y u→r x y H Q→
  wpAny (model X.prog X.w) X.A (f v u) (EP X pins σ Q) X.xe s
def UnR (X:Cx)(f:Value→Sem Value)(r:V→Hp→VK→Prop):Prop:=
 ∀(pins:List (Addr×Obj)) (s:Shared) (σ:St) (H:Hp) (x:V) (v:Value) (Q:VK),Inv X pins σ H s→RelV x v→r x H Q→
  wpAny (model X.prog X.w) X.A (f v) (EP X pins σ Q) X.xe s
def jR (X:Cx)(f:Value)(r:List V→Hp→VK→Prop):Prop:=
 ∀(pins:List (Addr×Obj)) (s:Shared) (σ:St) (H:Hp) (xs:List V) (us:List Value) (Q:VK),Inv X pins σ H s→Vals xs us→r xs H Q→
  wpAny (model X.prog X.w) X.A (call f us) (EP X pins σ Q) X.xe s
def TruR (X:Cx)(r:V→Hp→(Bool→Hp→Prop)→Prop):Prop:=
 ∀(pins:List (Addr×Obj)) (s:Shared) (σ:St) (H:Hp) (x:V) (v:Value) (Q:Bool→Hp→Prop),Inv X pins σ H s→RelV x v→r x H Q→
  wpAny (model X.prog X.w) X.A (truthy v) (TP X pins σ Q) X.xe s
def tOp (r:R2)(ta tb:TE):TE:=fun σ H Q=>ta σ H fun x H1=>tb σ H1 fun y H2=>r x y H2 Q
def tUn (r:V→Hp→VK→Prop)(ta:TE):TE:=fun σ H Q=>ta σ H fun x H1=>r x H1 Q
def rI (C:Int→Int→Prop)(g:Int→Int→V):R2:=fun x y H Q=>∃i j,x= .int i∧y= .int j∧C i j∧Q (g i j) H
def rI0 (g:Int→Int→V):R2:=fun x y H Q=>∃i j,x= .int i∧y= .int j∧Q (g i j) H
def rU (g:Int→V):V→Hp→VK→Prop:=fun x H Q=>∃i,x= .int i∧Q (g i) H
section
variable {X:Cx}{a b c:Expr}{ta tb tc:TE}{pos:Pos}
theorem binT (ha:PE X a ta)(hb:PE X b tb){pins:List (Addr×Obj)}{s:Shared}{σ:St}{H:Hp}{R:V→V→Hp→Prop}(I:Inv X pins σ H s)
  (h:ta σ H fun x H1=>tb σ H1 fun y H2=>R x y H2) {Q:Value→Shared→Prop}{f:Value→Value→Sem Value}
  (hf:∀v u s2 x y H2,Inv X pins σ H2 s2→RelV x v→RelV y u→R x y H2→wpAny (model X.prog X.w) X.A (f v u) Q X.xe s2):
  wpAny (model X.prog X.w) X.A (eval a X.env) (fun v s₁=>wpAny (model X.prog X.w) X.A (eval b X.env) (fun u s₂=>wpAny (model X.prog X.w) X.A (f v u) Q X.xe s₂) X.xe s₁) X.xe s:=by
 refine thn (ha pins s σ H _ I h) fun v s1 ⟨x,H1,I1,r1,q1⟩=> ?_
 refine thn (hb pins s1 σ H1 _ I1 q1) fun u s2 ⟨y,H2,I2,r2,q2⟩=> ?_
 exact hf v u s2 x y H2 I2 r1 r2 q2
theorem Qa {op:Operator}{r:R2}(ho:OpR X (binaryOp op) r)(ha:PE X a ta)(hb:PE X b tb):PE X (.BinOp a op b pos) (tOp r ta tb):=by
 intro pins s σ H Q I h
 exact wpAny_BinOp (binT ha hb I h fun v u s2 x y H2 I2 rx ry q=>ho pins s2 σ H2 x y v u Q I2 rx ry q)
theorem pe_un {op:UnaryOp}{r:V→Hp→VK→Prop}(ho:UnR X (unaryOp op) r)(ha:PE X a ta):PE X (.UnaryOp op a pos) (tUn r ta):=by
 intro pins s σ H Q I h
 exact UnaryOp_ (thn (ha pins s σ H _ I h) fun v s1 ⟨x,H1,I1,r1,q1⟩=>ho pins s1 σ H1 x v Q I1 r1 q1)
theorem opI {f:Value→Value→Sem Value}{C:Int→Int→Prop}{g:Int→Int→Int}
  (rule:∀(i j:Int) (t u:Tok) (s:Shared) (Q:Value→Shared→Prop) (E:Value→Shared→Prop),C i j→Q (.int (g i j) s.toks) {s with toks:=s.toks+1}→wpAny (model X.prog X.w) X.A (f (.int i t) (.int j u)) Q E s):
  OpR X f (rI C fun i j=> .int (g i j)):=by
 intro pins s σ H x y v u Q I rx ry h
 obtain⟨i,j,rfl,rfl,hc,q⟩:=h
 obtain⟨t,rfl⟩:=rx
 obtain⟨t',rfl⟩:=ry
 exact rule i j t t' s _ _ hc ⟨.int (g i j),H,I.tok _,⟨_,rfl⟩,q⟩
theorem opI0 {f:Value→Value→Sem Value}{g:Int→Int→Int}
  (rule:∀(i j:Int) (t u:Tok) (s:Shared) (Q:Value→Shared→Prop) (E:Value→Shared→Prop),Q (.int (g i j) s.toks) {s with toks:=s.toks+1}→wpAny (model X.prog X.w) X.A (f (.int i t) (.int j u)) Q E s):
  OpR X f (rI0 fun i j=> .int (g i j)):=by
 intro pins s σ H x y v u Q I rx ry h
 obtain⟨i,j,rfl,rfl,q⟩:=h
 obtain⟨t,rfl⟩:=rx
 obtain⟨t',rfl⟩:=ry
 exact rule i j t t' s _ _ ⟨.int (g i j),H,I.tok _,⟨_,rfl⟩,q⟩
theorem opB0 {f:Value→Value→Sem Value}{g:Int→Int→Bool}
  (rule:∀(i j:Int) (t u:Tok) (s:Shared) (Q:Value→Shared→Prop) (E:Value→Shared→Prop),Q (.bool (g i j)) s→wpAny (model X.prog X.w) X.A (f (.int i t) (.int j u)) Q E s):
  OpR X f (rI0 fun i j=> .bl (g i j)):=by
 intro pins s σ H x y v u Q I rx ry h
 obtain⟨i,j,rfl,rfl,q⟩:=h
 obtain⟨t,rfl⟩:=rx
 obtain⟨t',rfl⟩:=ry
 exact rule i j t t' s _ _ ⟨.bl (g i j),H,I,rfl,q⟩
def CDiv (i j:Int):Prop:=0<j∧j<1073741824
def CPow (i j:Int):Prop:=0≤j∧j≤1000000∧i.natAbs<2^64
def CMul (i j:Int):Prop:=(-(2^64)<i∧i<2^64)∨(-(2^64)<j∧j<2^64)
theorem CMul.ok {i j:Int}(h:CMul i j):IntMulOk i j:=by
 rcases h with⟨h1,h2⟩|⟨h1,h2⟩
 ·exact .of_left (intBits_le_64 h1 h2)
 ·exact .of_right (intBits_le_64 h1 h2)
theorem Q8:OpR X (binaryOp .Add) (rI0 fun i j=> .int (i+j)):=opI0 fun _ _ _ _ _ _ _ q=>add_int q
theorem op_sub:OpR X (binaryOp .Sub) (rI0 fun i j=> .int (i-j)):=opI0 fun _ _ _ _ _ _ _ q=>sub_int q
theorem op_mul:OpR X (binaryOp .Mult) (rI CMul fun i j=> .int (i*j)):=opI fun _ _ _ _ _ _ _ hc q=>mul_int q hc.ok
theorem op_fdiv:OpR X (binaryOp .FloorDiv) (rI CDiv fun i j=> .int (i/j)):=opI fun i j _ _ _ _ _ hc q=>by
 have h1:(0:Int)<j:=hc.1
 have h2:j<1073741824:=hc.2
 exact floordiv_int (by omega) (by rw [Int.fdiv_eq_ediv_of_nonneg i (by omega)];exact q) (.inl (PyProof.noPylong_small (by omega)))
theorem Zt:OpR X (binaryOp .Mod) (rI (fun _ j=>0<j) fun i j=> .int (i%j)):=opI fun i j _ _ _ _ _ hc q=>by
 have h1:(0:Int)<j:=hc
 exact mod_int' (by omega) (by rw [Int.fmod_eq_emod_of_nonneg i (by omega)];exact q)
theorem op_pow:OpR X (binaryOp .Pow) (rI CPow fun i j=> .int (i^j.toNat)):=opI fun _ _ _ _ _ _ _ hc q=>pow_int_small hc.1 hc.2.1 hc.2.2 q
theorem unI {f:Value→Sem Value}{g:Int→Int}
  (rule:∀(i:Int) (t:Tok) (s:Shared) (Q:Value→Shared→Prop) (E:Value→Shared→Prop),Q (.int (g i) s.toks) {s with toks:=s.toks+1}→wpAny (model X.prog X.w) X.A (f (.int i t)) Q E s):
  UnR X f (rU fun i=> .int (g i)):=by
 intro pins s σ H x v Q I rx h
 obtain⟨i,rfl,q⟩:=h
 obtain⟨t,rfl⟩:=rx
 exact rule i t s _ _ ⟨.int (g i),H,I.tok _,⟨_,rfl⟩,q⟩
theorem un_neg:UnR X (unaryOp .USub) (rU fun i=> .int (-i)):=unI fun _ _ _ _ _ q=>neg_int q
end
def scal:V→V→Bool
 | .non,.non=>true| .non,.int _=>true| .int _,.non=>true| .non,.bl _=>true| .bl _,.non=>true| .non,.str _=>true| .str _,.non=>true
 | .int _,.int _=>true| .bl _,.bl _=>true| .str _,.str _=>true| .byt _,.byt _=>true
 | .int _,.str _=>true| .str _,.int _=>true| .bl _,.str _=>true| .str _,.bl _=>true
 |_,_=>false
def rEq:R2:=fun x y H Q=>scal x y=true∧Q (.bl (decide (x=y))) H
def rNe:R2:=fun x y H Q=>scal x y=true∧Q (.bl (!decide (x=y))) H
theorem dec_int {i j:Int}:decide (V.int i=V.int j)=(i==j):=by
 rw [Bool.eq_iff_iff]
 simp
theorem dec_bl {i j:Bool}:decide (V.bl i=V.bl j)=(i==j):=by
 rw [Bool.eq_iff_iff]
 simp
theorem dec_str {i j:Str}:decide (V.str i=V.str j)=(i==j):=by
 rw [Bool.eq_iff_iff]
 simp
theorem dec_byt {i j:Array UInt8}:decide (V.byt i=V.byt j)=(i.toList==j.toList):=by
 rw [Bool.eq_iff_iff]
 cases i
 cases j
 simp
section
variable {X:Cx}{a b c:Expr}{ta tb tc:TE}{pos:Pos}
theorem Qs {pins:List (Addr×Obj)}{σ:St}{H:Hp}{s:Shared}{Q:VK}{k k':Bool}(I:Inv X pins σ H s)(q:Q (.bl k) H)(e:k=k'):EP X pins σ Q (.bool k') s:=by
 subst e
 exact⟨.bl k,H,I,rfl,q⟩
theorem y0:OpR X (compareOp .Eq) rEq:=by
 intro pins s σ H x y v u Q I rx ry h
 obtain⟨hs,q⟩:=h
 cases x with
 |non=>
  cases rx
  cases y with
  |non=>cases ry;exact PySem.EqNone.eq_none_none (Qs I q (by simp))
  |bl j=>cases ry;exact PySem.EqNone.eq_none_bool (Qs I q (by simp))
  |int j=>obtain⟨t',rfl⟩:=ry;exact PySem.EqNone.eq_none_int (Qs I q (by simp))
  |str j=>obtain⟨t',rfl⟩:=ry;exact PySem.EqNone.eq_none_str (Qs I q (by simp))
  |_=>exact absurd (show false=true from hs) Bool.false_ne_true
 |bl i=>
  cases rx
  cases y with
  |non=>cases ry;exact PySem.EqNone.eq_bool_none (Qs I q (by simp))
  |bl j=>cases ry;exact eq_bool (Qs I q dec_bl)
  |str j=>obtain⟨t',rfl⟩:=ry;exact PySem.EqMixed.eq_bool_str (Qs I q (by simp))
  |_=>exact absurd (show false=true from hs) Bool.false_ne_true
 |int i=>
  obtain⟨t,rfl⟩:=rx
  cases y with
  |non=>cases ry;exact PySem.EqNone.eq_int_none (Qs I q (by simp))
  |int j=>obtain⟨t',rfl⟩:=ry;exact eq_int (Qs I q dec_int)
  |str j=>obtain⟨t',rfl⟩:=ry;exact PySem.EqMixed.eq_int_str (Qs I q (by simp))
  |_=>exact absurd (show false=true from hs) Bool.false_ne_true
 |str i=>
  obtain⟨t,rfl⟩:=rx
  cases y with
  |non=>cases ry;exact PySem.EqNone.eq_str_none (Qs I q (by simp))
  |bl j=>cases ry;exact PySem.EqMixed.eq_str_bool (Qs I q (by simp))
  |int j=>obtain⟨t',rfl⟩:=ry;exact PySem.EqMixed.eq_str_int (Qs I q (by simp))
  |str j=>obtain⟨t',rfl⟩:=ry;exact eq_str (Qs I q dec_str)
  |_=>exact absurd (show false=true from hs) Bool.false_ne_true
 |byt i=>
  obtain⟨t,rfl⟩:=rx
  cases y with
  |byt j=>obtain⟨t',rfl⟩:=ry;exact PySem.W.eq_bytes (Qs I q dec_byt)
  |_=>exact absurd (show false=true from hs) Bool.false_ne_true
 |_=>cases y<;>exact absurd (show false=true from hs) Bool.false_ne_true
theorem op_ne:OpR X (compareOp .NotEq) rNe:=by
 intro pins s σ H x y v u Q I rx ry h
 obtain⟨hs,q⟩:=h
 cases x with
 |non=>
  cases rx
  cases y with
  |non=>cases ry;exact PySem.EqNone.ne_none_none (Qs I q (by simp))
  |bl j=>cases ry;exact PySem.EqNone.ne_none_bool (Qs I q (by simp))
  |int j=>obtain⟨t',rfl⟩:=ry;exact PySem.EqNone.ne_none_int (Qs I q (by simp))
  |str j=>obtain⟨t',rfl⟩:=ry;exact PySem.EqNone.ne_none_str (Qs I q (by simp))
  |_=>exact absurd (show false=true from hs) Bool.false_ne_true
 |bl i=>
  cases rx
  cases y with
  |non=>cases ry;exact PySem.EqNone.ne_bool_none (Qs I q (by simp))
  |bl j=>cases ry;exact ne_bool (Qs I q (congrArg not dec_bl))
  |str j=>obtain⟨t',rfl⟩:=ry;exact PySem.EqMixed.ne_bool_str (Qs I q (by simp))
  |_=>exact absurd (show false=true from hs) Bool.false_ne_true
 |int i=>
  obtain⟨t,rfl⟩:=rx
  cases y with
  |non=>cases ry;exact PySem.EqNone.ne_int_none (Qs I q (by simp))
  |int j=>obtain⟨t',rfl⟩:=ry;exact ne_int (Qs I q (congrArg not dec_int))
  |str j=>obtain⟨t',rfl⟩:=ry;exact PySem.EqMixed.ne_int_str (Qs I q (by simp))
  |_=>exact absurd (show false=true from hs) Bool.false_ne_true
 |str i=>
  obtain⟨t,rfl⟩:=rx
  cases y with
  |non=>cases ry;exact PySem.EqNone.ne_str_none (Qs I q (by simp))
  |bl j=>cases ry;exact PySem.EqMixed.ne_str_bool (Qs I q (by simp))
  |int j=>obtain⟨t',rfl⟩:=ry;exact PySem.EqMixed.ne_str_int (Qs I q (by simp))
  |str j=>obtain⟨t',rfl⟩:=ry;exact ne_str (Qs I q (congrArg not dec_str))
  |_=>exact absurd (show false=true from hs) Bool.false_ne_true
 |byt i=>
  obtain⟨t,rfl⟩:=rx
  cases y with
  |byt j=>obtain⟨t',rfl⟩:=ry;exact PySem.W.ne_bytes (Qs I q (congrArg not dec_byt))
  |_=>exact absurd (show false=true from hs) Bool.false_ne_true
 |_=>cases y<;>exact absurd (show false=true from hs) Bool.false_ne_true
theorem op_lt:OpR X (compareOp .Lt) (rI0 fun i j=> .bl (decide (i<j))):=opB0 fun _ _ _ _ _ _ _ q=>lt_int q
theorem op_le:OpR X (compareOp .LtE) (rI0 fun i j=> .bl (decide (i≤j))):=opB0 fun _ _ _ _ _ _ _ q=>le_int q
theorem op_gt:OpR X (compareOp .Gt) (rI0 fun i j=> .bl (decide (j<i))):=opB0 fun _ _ _ _ _ _ _ q=>gt_int q
theorem op_ge:OpR X (compareOp .GtE) (rI0 fun i j=> .bl (decide (j≤i))):=opB0 fun _ _ _ _ _ _ _ q=>ge_int q
theorem op_lt_str:OpR X (compareOp .Lt) (fun x y H Q=>∃i j,x= .str i∧y= .str j∧Q (.bl (decide (i.cps.toList<j.cps.toList))) H):=by
 intro pins s σ H x y v u Q I rx ry h
 obtain⟨i,j,rfl,rfl,q⟩:=h
 obtain⟨t,rfl⟩:=rx
 obtain⟨t',rfl⟩:=ry
 exact lt_str (Qs I q rfl)
theorem op_in_str:OpR X (compareOp .In) (fun x y H Q=>∃i j,x= .str i∧y= .str j∧Q (.bl (!(Builtin.Str.occurrences j i 0 j.length 1).isEmpty)) H):=by
 intro pins s σ H x y v u Q I rx ry h
 obtain⟨i,j,rfl,rfl,q⟩:=h
 obtain⟨t,rfl⟩:=rx
 obtain⟨t',rfl⟩:=ry
 exact in_str (Qs I q rfl)
theorem op_isN:OpR X (compareOp .Is) (fun x y H Q=>y= .non∧Q (.bl (decide (x= .non))) H):=by
 intro pins s σ H x y v u Q I rx ry h
 obtain⟨rfl,q⟩:=h
 cases ry
 refine is_none_gen (Qs I q ?_)
 cases x<;>first
  |(cases rx;rfl)
  |(obtain⟨t,rfl⟩:=rx;rfl)
theorem op_notN:OpR X (compareOp .IsNot) (fun x y H Q=>y= .non∧Q (.bl (!decide (x= .non))) H):=by
 intro pins s σ H x y v u Q I rx ry h
 obtain⟨rfl,q⟩:=h
 cases ry
 refine isnot_none_gen (Qs I q ?_)
 cases x<;>first
  |(cases rx;rfl)
  |(obtain⟨t,rfl⟩:=rx;rfl)
theorem qF (b:Expr){op:CmpOp}(h:op≠ .In:=by decide)(h2:op≠ .NotIn:=by decide):behindInMarks op b=false:=by
 have e1:(op==CmpOp.In)=false:=by cases op<;>first|rfl|exact absurd rfl h
 have e2:(op==CmpOp.NotIn)=false:=by cases op<;>first|rfl|exact absurd rfl h2
 cases b<;>simp [behindInMarks,e1,e2]
theorem Y0 {op:CmpOp}{r:R2}(ho:OpR X (compareOp op) r)(ha:PE X a ta)(hb:PE X b tb)(hm:behindInMarks op b=false):PE X (.Compare a [op] [b] pos) (tOp r ta tb):=by
 intro pins s σ H Q I h
 exact wpAny_Compare1 (binT ha hb I h fun v u s2 x y H2 I2 rx ry q=>ho pins s2 σ H2 x y v u Q I2 rx ry q) hm
def tTest (t:TE):TT:=fun σ H Q=>t σ H fun x H'=>∃k,x= .bl k∧Q k H'
theorem qo {op:CmpOp}{r:R2}(ho:OpR X (compareOp op) r)(ha:PE X a ta)(hb:PE X b tb)(hm:behindInMarks op b=false):PT X (.Compare a [op] [b] pos) (tTest (tOp r ta tb)):=by
 intro pins s σ H Q I h
 refine wpAny_isTrue_Compare1 (thn (ha pins s σ H _ I h) fun v s1 ⟨x,H1,I1,r1,q1⟩=>thn (hb pins s1 σ H1 _ I1 q1) fun u s2 ⟨y,H2,I2,r2,q2⟩=>
  thn (ho pins s2 σ H2 x y v u _ I2 r1 r2 q2) fun c s3 ⟨z,H3,I3,r3,k,e,q3⟩=> ?_) hm
 subst e
 cases r3
 exact wpAny_truthy_bool ⟨H3,I3,q3⟩
def tChain (r r':R2)(ta tb tc:TE):TE:=fun σ H Q=>ta σ H fun x H1=>tb σ H1 fun y H2=>r x y H2 fun z H3=>∃k,z= .bl k∧
 (if k=true then tc σ H3 fun w' H4=>r' y w' H4 Q else Q (.bl false) H3)
theorem pt_chain {op op':CmpOp}{r r':R2}(ho:OpR X (compareOp op) r)(ho':OpR X (compareOp op') r')(ha:PE X a ta)(hb:PE X b tb)(hc:PE X c tc)
  (hm:lastMarks [op,op'] [b,c]=false:=by with_unfolding_all rfl):PT X (.Compare a [op,op'] [b,c] pos) (tTest (tChain r r' ta tb tc)):=by
 intro pins s σ H Q I h
 refine isTrue_chain (thn (ha pins s σ H _ I h) fun v s1 ⟨x,H1,I1,r1,q1⟩=>test_link (thn (hb pins s1 σ H1 _ I1 q1) fun u s2 ⟨y,H2,I2,r2,q2⟩=>
  thn (ho pins s2 σ H2 x y v u _ I2 r1 r2 q2) fun d s3 ⟨z,H3,I3,r3,k,e,q3⟩=> ?_)) hm
 subst e
 cases r3
 refine wpAny_truthy_bool ?_
 cases k with
 |false=>
  obtain⟨k',e',q'⟩:=q3
  cases e'
  exact ite_ff ⟨H3,I3,q'⟩
 |true=>
  refine ite_tt (test_last (thn (hc pins s3 σ H3 _ I3 q3) fun w' s4 ⟨z',H4,I4,r4,q4⟩=>thn (ho' pins s4 σ H4 y z' u w' _ I4 r2 r4 q4) fun d' s5 ⟨z2,H5,I5,r5,k2,e2,q5⟩=> ?_))
  subst e2
  cases r5
  exact wpAny_truthy_bool ⟨H5,I5,q5⟩
def TruV (K:PySem.W.Frag)(x:V)(H:Hp)(k:Bool):Prop:=
 match x with
 | .non=>k=false
 | .bl b=>k=b
 | .int i=>k=(i !=0)
 | .str y=>y.length≤sizeLine∧k=((y.length:Int) !=0)
 | .byt y=>y.size≤sizeLine∧k=((y.size:Int) !=0)
 | .ref p=>(∃xs,SqL K H p xs∧k= !xs.isEmpty)∨(∃xs,SqT K H p xs∧k= !xs.isEmpty)∨∃kvs,H p=some (.dK kvs)∧k= !kvs.isEmpty
 |_=>False
theorem isEmpty_kv {κ:Type}{kvs:List (κ×V)}{vs:List (κ×Value)}(r:KV kvs vs):(!vs.isEmpty)= !kvs.isEmpty:=by
 cases r<;>rfl
theorem Zx {xs:List V}{its:List Value}(r:Vals xs its):(!its.toArray.isEmpty)= !xs.isEmpty:=by
 cases r<;>simp
theorem Xn:(sizeLine:Nat)<2^63:=by rw [sizeLine_eq];decide
theorem tru_ok:TruR X (fun x H Q=>∃k,TruV X.K x H k∧Q k H):=by
 intro pins s σ H x v Q I rx h
 obtain⟨k,e,q⟩:=h
 have hl:=Xn
 have hs:sizeLine=16777216:=sizeLine_eq
 cases x with
 |non=>
  cases rx
  have e':k=false:=e
  subst e'
  exact truthy_none ⟨H,I,q⟩
 |bl b=>
  cases rx
  have e':k=b:=e
  subst e'
  exact wpAny_truthy_bool ⟨H,I,q⟩
 |int i=>
  obtain⟨t,rfl⟩:=rx
  have e':k=(i !=0):=e
  subst e'
  exact PySem.P.truthy_int ⟨H,I,q⟩
 |str y=>
  obtain⟨t,rfl⟩:=rx
  obtain⟨hy,e'⟩:y.length≤sizeLine∧k=((y.length:Int) !=0):=e
  subst e'
  exact PySem.P.truthy_str (by omega) ⟨H,I.tok _,q⟩
 |byt y=>
  obtain⟨t,rfl⟩:=rx
  obtain⟨hy,e'⟩:y.size≤sizeLine∧k=((y.size:Int) !=0):=e
  subst e'
  exact PySem.W.truthy_bytes (by omega) ⟨H,I.tok _,q⟩
 |ref p=>
  cases rx
  have e':(∃xs,SqL X.K H p xs∧k= !xs.isEmpty)∨(∃xs,SqT X.K H p xs∧k= !xs.isEmpty)∨∃kvs,H p=some (.dK kvs)∧k= !kvs.isEmpty:=e
  rcases e' with⟨xs,hx,e'⟩|⟨xs,hx,e'⟩|⟨kvs,hx,e'⟩
  ·subst e'
   obtain⟨its,r,pl,hz⟩:=I.list hx
   have hlen:=r.length
   exact wpAny_truthy_list pl.isList (by simp only [List.size_toArray];omega) ⟨H,I.tok _,by rw [Zx r];exact q⟩
  ·subst e'
   obtain⟨its,r,pl,hz⟩:=I.tuple hx
   have hlen:=r.length
   exact truthy_tuple pl (by simp only [List.size_toArray];omega) ⟨H,I.tok _,by rw [Zx r];exact q⟩
  ·subst e'
   obtain⟨hz,hS,vs,r,m⟩:kvs.length≤sizeLine∧(p==sysModules)=false∧∃vs,KV kvs vs∧s.heap.DictOf (yl X.prog X.w) p vs:=I.hok p _ hx
   have hlen:kvs.length=vs.length:=Paired.length r
   exact wpAny_truthy_dict hS m (by omega) ⟨H,I.tok _,by rw [isEmpty_kv r];exact q⟩
 |_=>exact(show False from e).elim
theorem pt_truth (ha:PE X a ta)(he:∀whole,isTrue a X.env whole=(do let v←whole;standAt a.pos;holding [v] (truthy v))):
  PT X a (fun σ H Q=>ta σ H fun x H'=>∃k,TruV X.K x H' k∧Q k H'):=by
 intro pins s σ H Q I h
 exact isTrue_plain (thn (ha pins s σ H _ I h) fun v s1 ⟨x,H1,I1,r1,q1⟩=>tru_ok pins s1 σ H1 x v Q I1 r1 q1) (he _)
theorem QH:OpR X (binaryOp .Add) (fun x y H Q=>∃i j,x= .str i∧y= .str j∧i.length+j.length≤sizeLine∧Q (.str (i++j)) H):=by
 intro pins s σ H x y v u Q I rx ry h
 obtain⟨i,j,rfl,rfl,hz,q⟩:=h
 obtain⟨t,rfl⟩:=rx
 obtain⟨t',rfl⟩:=ry
 exact wpAny_with_toks (n:=1) I.tk (add_str (fun t' tk htk=>⟨.str (i++j),H,I.tok _,⟨_,rfl⟩,q⟩) hz)
theorem xj {x:V}{us:List Value}(r:Vals [x] us):∃u,us= [u]∧RelV x u:=by
 cases r with
 |cons r1 r2=>cases r2;exact⟨_,rfl,r1⟩
theorem vals2 {x y:V}{us:List Value}(r:Vals [x,y] us):∃u w',us= [u,w']∧RelV x u∧RelV y w':=by
 cases r with
 |cons r1 r2=>
  cases r2 with
  |cons r3 r4=>cases r4;exact⟨_,_,rfl,r1,r3⟩
theorem call_abs:jR X (.builtin "abs") (fun xs H Q=>∃i,xs= [.int i]∧Q (.int (if i<0 then-i else i)) H):=by
 intro pins s σ H xs us Q I r h
 obtain⟨i,rfl,q⟩:=h
 obtain⟨u,rfl,t,rfl⟩:=xj r
 exact wpAny_with_toks (n:=1) I.tk (call_abs_int fun u tk htk=>⟨.int (if i<0 then-i else i),H,I.tok _,⟨_,rfl⟩,q⟩)
theorem call_min2 (hc:X.calm=true):jR X (.builtin "min") (fun xs H Q=>∃i j,xs= [.int i,.int j]∧Q (.int (if j<i then j else i)) H):=by
 intro pins s σ H xs us Q I r h
 obtain⟨i,j,rfl,q⟩:=h
 obtain⟨u,w',rfl,⟨t,rfl⟩,⟨t',rfl⟩⟩:=vals2 r
 refine wpAny_with_toks (n:=1) I.tk (min_two_ints (I.ok.hd hc) fun h' tk k htk=>⟨_,H,I.kept k,?_,q⟩)
 by_cases hj:j<i
 ·rw [if_pos hj,if_pos hj];exact⟨_,rfl⟩
 ·rw [if_neg hj,if_neg hj];exact⟨_,rfl⟩
theorem jh:jR X (.type "str") (fun xs H Q=>∃i,xs= [.int i]∧i.natAbs.log2<1920∧Q (.str (toString i)) H):=by
 intro pins s σ H xs us Q I r h
 obtain⟨i,rfl,hz,q⟩:=h
 obtain⟨u,rfl,t,rfl⟩:=xj r
 exact PySem.P.str_of_int hz ⟨.str _,H,I.tok _,⟨_,rfl⟩,q⟩
theorem call_ord:jR X (.builtin "ord") (fun xs H Q=>∃x,xs= [.str x]∧x.length=1∧Q (.int (x.cps.getD 0 0:Nat)) H):=by
 intro pins s σ H xs us Q I r h
 obtain⟨x,rfl,hz,q⟩:=h
 obtain⟨u,rfl,t,rfl⟩:=xj r
 exact ord_of_one hz ⟨.int _,H,I.tok _,⟨_,rfl⟩,q⟩
def LenV (K:PySem.W.Frag)(x:V)(H:Hp)(n:Nat):Prop:=
 match x with
 | .str y=>y.length≤sizeLine∧n=y.length
 | .byt y=>y.size≤sizeLine∧n=y.size
 | .ref p=>(∃xs,SqL K H p xs∧n=xs.length)∨∃xs,SqT K H p xs∧n=xs.length
 |_=>False
theorem wl:jR X (.builtin "len") (fun xs H Q=>∃x n,xs= [x]∧LenV X.K x H n∧Q (.int n) H):=by
 intro pins s σ H xs us Q I r h
 obtain⟨x,n,rfl,e,q⟩:=h
 obtain⟨u,rfl,rx⟩:=xj r
 have hl:=Xn
 have hs:sizeLine=16777216:=sizeLine_eq
 cases x with
 |str y=>
  obtain⟨t,rfl⟩:=rx
  obtain⟨hy,e'⟩:y.length≤sizeLine∧n=y.length:=e
  subst e'
  exact len_str (by omega) ⟨.int _,H,I.tok _,⟨_,rfl⟩,q⟩
 |byt y=>
  obtain⟨t,rfl⟩:=rx
  obtain⟨hy,e'⟩:y.size≤sizeLine∧n=y.size:=e
  subst e'
  exact PySem.W.len_bytes (by omega) ⟨.int _,H,I.tok _,⟨_,rfl⟩,q⟩
 |ref p=>
  cases rx
  have e':(∃xs,SqL X.K H p xs∧n=xs.length)∨∃xs,SqT X.K H p xs∧n=xs.length:=e
  rcases e' with⟨xs,hx,e'⟩|⟨xs,hx,e'⟩
  ·subst e'
   obtain⟨its,r',pl,hz⟩:=I.list hx
   have hlen:=r'.length
   exact Calls.call_len_list pl.isList (by simp only [List.size_toArray];omega) ⟨.int xs.length,H,I.tok _,⟨_,by simp only [List.size_toArray];rw [hlen]⟩,q⟩
  ·subst e'
   obtain⟨its,r',pl,hz⟩:=I.tuple hx
   have hlen:=r'.length
   exact len_tuple pl (by simp only [List.size_toArray];omega) ⟨.int xs.length,H,I.tok _,⟨_,by simp only [List.size_toArray];rw [hlen]⟩,q⟩
 |_=>exact(show False from e).elim
end
end L2
namespace L2
open PySem PySem.Spec PyProof.Rows
structure ObjM (h:Heap)(x dx C:Addr)(mA:Str→Option Value):Prop where
 obj:h.get? x=some (PySem.W.instObj C dx)
 ns:h.Ns1 dx mA
 ne:dx≠x
theorem lookIn_ns {h:Heap}{dx:Addr}{mA:Str→Option Value}(n:h.Ns1 dx mA):∃od,h.get? dx=some od∧∀name,PySem.W.lookIn name od=some (mA name):=by
 obtain⟨o,es,ep,ho,hd,hk,_,hm⟩:=n
 refine⟨o,ho,fun name=> ?_⟩
 have e:=hm name
 unfold nsFind findBy at e
 rw [←Array.find?_toList] at e
 unfold PySem.W.lookIn
 rw [hd]
 dsimp only
 split
 ·rename_i y q
  rw [q] at e
  exact congrArg some e
 ·rename_i q
  rw [q] at e
  have a:es.toList.any (·.refKey)=false:=by
   rw [List.any_eq_false]
   intro y hy
   obtain⟨z,t,hkey⟩:=hk y (Array.mem_toList_iff.mp hy)
   simp [DictEntry.refKey,hkey]
  have a':¬es.toList.any (·.refKey)=true:=by rw [a];exact Bool.false_ne_true
  rw [if_neg a']
  exact congrArg some e
theorem ObjM.look {h:Heap}{x dx C:Addr}{mA:Str→Option Value}(I:ObjM h x dx C mA):∃od,PySem.W.InstAt h x (PySem.W.instObj C dx) C (some od)∧∀name,PySem.W.lookIn name od=some (mA name):=
 let⟨od,ho,hl⟩:=lookIn_ns I.ns
 ⟨od,⟨I.obj,rfl,rfl,ho⟩,hl⟩
section
variable {prog:Program}{w:World}{A:Around}{E:Value→Shared→Prop}{s:Shared}{K:PySem.W.Frag}{x dx C f:Addr}{mA:Str→Option Value}{name:Str}{v:Value}
theorem get_map {expr:Bool}{Q:Value→Shared→Prop}(X:K.In s.heap)(I:ObjM s.heap x dx C mA)(hg:PySem.W.plainGet K C name=true)(hh:PySem.W.hasDictIn K C=true)
  (ha:PySem.W.findIn K (.ref C) name=some none) (hv:mA name=some v) (hv':PySem.W.handedIn v=true) (h:Q v {s with toks:=s.toks+1}):
  wpAny (model prog w) A (getAttr (.ref x) name expr) Q E s:=by
 obtain⟨od,J,hl⟩:=I.look
 exact PySem.W.get_value X J (PySem.W.plainGet_of hg).1 (PySem.W.findObj_own hh ha rfl (by rw [hl,hv])) hv' h
theorem get_meth {pl:Sem Bool}{Q:Value×List Value→Shared→Prop}(X:K.In s.heap)(I:ObjM s.heap x dx C mA)(hg:PySem.W.plainGet K C name=true)
  (hf:PySem.W.findIn K (.ref C) name=some (some (.ref f))) (ht:PySem.W.isFn K (.ref f)=true) (hv:mA name=none) (h:Q (.ref f,[.ref x]) s):
  wpAny (model prog w) A (getMethod (.ref x) name pl) Q E s:=by
 obtain⟨od,J,hl⟩:=I.look
 exact PySem.W.method_fn X J (PySem.W.plainGet_of hg).1 (PySem.W.plainGet_of hg).2 hf (beq_iff_eq.mp ht) (by show(PySem.W.lookIn name od).map (·.isSome)=some false;rw [hl,hv];rfl) h
theorem set_map {ns:List Str}{Q:Unit→Shared→Prop}(X:K.In s.heap)(I:ObjM s.heap x dx C mA)
  (hs:PySem.W.findIn K (.ref C) "__setattr__"=some (some (.builtin "object.__setattr__"))) (hp:PySem.W.plainOver K C=true) (ht:PySem.W.takerIn K C name=some none) (hh:PySem.W.hasDictIn K C=true)
  (hw:PySem.Within mA ns) (hsz:ns.length≤sizeLine)
  (h:∀h',ObjM h' x dx C (fun y=>if y=name then some v else mA y)→Heap.SameBut dx s.heap h'→Q () {s with heap:=h',toks:=s.toks+2}):
  wpAny (model prog w) A (setAttr (.ref x) name v) Q E s:=by
 obtain⟨od,J,hl⟩:=I.look
 refine PySem.W.set_plain X J hs (PySem.W.osa_open (s:={s with toks:=s.toks+1}) (r:=none) X J hp ht fun b=> ?_)
 obtain⟨cd,hc,hd'⟩:=PySem.W.any_some hh
 have hx:s.heap.get? x=some ⟨.ref C,some dx,.plain,#[]⟩:=I.obj
 refine wpAny_bind (wpAny_pure (wpAny_bind (wpAny_bind (wpAny_loadPart hx (wpAny_bind (PySem.W.Looks.here (s:={s with toks:=s.toks+1}) (PySem.W.looks_clsIn X hc) ?_))))))
 rw [hd']
 refine wpAny_pure (a:=some dx) (wpAny_bind (wpAny_pure (wpAny_bind ?_)))
 refine wpAny_nsSet1 (s:={s with toks:=s.toks+1}) I.ns fun h' hn2 hs2=> ?_
 obtain⟨oD,esD,epD,hoD,hdD,hcD⟩:=hn2.count (PySem.Within.cons name v hw)
 refine wpAny_bind (wpAny_lookBehind hoD (by rw [hdD];exact pastItsLine_dict (Nat.le_trans hcD (by rw [List.length_cons];omega))) ?_)
 exact wpAny_pure (h _ ⟨(hs2.2 _ (Ne.symm I.ne)).trans I.obj,hn2,I.ne⟩ hs2)
theorem make_map {R:Result→Shared→Prop}{vs:List Value}{kw:List (Str×Value)}(X:K.In s.heap)(hm:PySem.W.makesIn K C=true)
  (hi:PySem.W.findIn K (.ref C) "__init__"=some (some (.ref f))) (hf:PySem.W.typeIn K (.ref f)=some (.type "function"))
  (h:codeAny (model prog w) (A.under (.builtin "type.__call__" ⟨.ref C::vs,kw⟩)) (.call (.ref f) ⟨.ref (s.heap.objs.size+1)::vs,kw⟩) (PySem.W.InitBack (s.heap.objs.size+1) R)
   {s with heap:=(s.heap.push PySem.W.emptyDict).push (PySem.W.instObj C s.heap.objs.size)}):
  codeAny (model prog w) A (.call (.ref C) ⟨vs,kw⟩) R s:=by
 obtain⟨hh,g,d,t,os⟩:=s
 exact PySem.W.make_core (PySem.W.makes_of X hm) (PySem.W.looks_findIn X hi) (fun self=>PySem.W.bind_fn X self hf) (.inl rfl) h
end
def putF (f:Str)(v:V):List (Str×V)→List (Str×V)
 | []=> [(f,v)]
 |(g,x)::r=>if g=f then(g,v)::r else(g,x)::putF f v r
theorem qH (f g:Str)(v:V):∀fs:List (Str×V),(putF f v fs).lookup g=if g=f then some v else fs.lookup g
 | []=>by
  show List.lookup g [(f,v)]=_
  by_cases h:g=f
  ·have hb:(g==f)=true:=beq_iff_eq.mpr h
   simp only [List.lookup,hb,if_pos h]
  ·have hb:(g==f)=false:=beq_eq_false_iff_ne.mpr h
   simp only [List.lookup,hb,if_neg h]
 |(k,x)::r=>by
  have ih:=qH f g v r
  rw [show putF f v ((k,x)::r)=(if k=f then(k,v)::r else(k,x)::putF f v r) from rfl]
  by_cases hk:k=f
  ·rw [if_pos hk]
   by_cases h:g=k
   ·have hb:(g==k)=true:=beq_iff_eq.mpr h
    simp only [List.lookup,hb,if_pos (h.trans hk)]
   ·have hb:(g==k)=false:=beq_eq_false_iff_ne.mpr h
    simp only [List.lookup,hb,if_neg (fun e:g=f=>h (e.trans hk.symm))]
  ·rw [if_neg hk]
   by_cases h:g=k
   ·have hb:(g==k)=true:=beq_iff_eq.mpr h
    simp only [List.lookup,hb,if_neg (fun e:g=f=>hk (h.symm.trans e))]
   ·have hb:(g==k)=false:=beq_eq_false_iff_ne.mpr h
    simp only [List.lookup,hb]
    exact ih
theorem X9 (f:Str)(v:V):∀fs:List (Str×V),f∈(putF f v fs).map (·.1)∧∀g,g∈fs.map (·.1)→g∈(putF f v fs).map (·.1)
 | []=>⟨by simp [putF],fun g h=>by simp at h⟩
 |(k,x)::r=>by
  obtain⟨i1,i2⟩:=X9 f v r
  rw [show putF f v ((k,x)::r)=(if k=f then(k,v)::r else(k,x)::putF f v r) from rfl]
  by_cases hk:k=f
  ·rw [if_pos hk]
   subst hk
   exact⟨by simp,fun g h=>by simpa using h⟩
  ·rw [if_neg hk]
   refine⟨?_,fun g h=> ?_⟩
   ·rw [List.map_cons]
    exact List.mem_cons_of_mem _ i1
   ·rw [List.map_cons] at h⊢
    rcases List.mem_cons.mp h with e|e
    ·exact List.mem_cons.mpr (.inl e)
    ·exact List.mem_cons_of_mem _ (i2 g e)
theorem zf (f:Str)(v:V):∀fs:List (Str×V),(putF f v fs).length≤fs.length+1
 | []=>by simp [putF]
 |(k,x)::r=>by
  have ih:=zf f v r
  rw [show putF f v ((k,x)::r)=(if k=f then(k,v)::r else(k,x)::putF f v r) from rfl]
  by_cases hk:k=f
  ·rw [if_pos hk,List.length_cons,List.length_cons];omega
  ·rw [if_neg hk,List.length_cons,List.length_cons];omega
theorem RelO.some_of {v:V}{o:Option Value}(r:RelO (some v) o):∃u,o=some u∧RelV v u:=by
 cases o with
 |none=>exact(show False from r).elim
 |some u=>exact⟨u,rfl,r⟩
theorem RelO.none_of {o:Option Value}(r:RelO none o):o=none:=by
 cases o with
 |none=>rfl
 |some u=>exact(show False from r).elim
theorem handed_of {v:V}{u:Value}(r:RelV v u):PySem.W.handedIn u=true:=by
 cases v with
 |non=>cases(show u=Value.none from r);rfl
 |bl b=>cases(show u=Value.bool b from r);rfl
 |int i=>obtain⟨t,e⟩:=(show∃t,u=Value.int i t from r);cases e;rfl
 |str x=>obtain⟨t,e⟩:=(show∃t,u=Value.str x t from r);cases e;rfl
 |byt b=>obtain⟨t,e⟩:=(show∃t,u=Value.bytes b t from r);cases e;rfl
 |flt b=>obtain⟨t,e⟩:=(show∃t,u=Value.float b t from r);cases e;rfl
 |ref a=>cases(show u=Value.ref a from r);rfl
 |ty n=>cases(show u=Value.type n from r);rfl
section
variable {P:Program}{w:World}{H H':Hp}{h h':Heap}{a C dx:Addr}{fs fs':List (Str×V)}
theorem Z8 (hok:HOk P w H h)(e:H a=some (.ins C dx fs)):∃mA,ObjM h a dx C mA∧(∀f,RelO (fs.lookup f) (mA f))∧PySem.Within mA (fs.map (·.1))∧fs.length≤1000∧H dx=some (.own a):=by
 obtain⟨d,z,ne,ob,mA,n,r,q⟩:=(show y3 P w H h a (.ins C dx fs) from hok a _ e)
 exact⟨mA,⟨ob,n,ne⟩,r,q,z,d⟩
end
structure Cls (K:PySem.W.Frag)(C:Addr):Prop where
 pg:PySem.W.plainGet K C Str.empty=true
 hd:PySem.W.hasDictIn K C=true
 po:PySem.W.plainOver K C=true
 sa:PySem.W.findIn K (.ref C) "__setattr__"=some (some (.builtin "object.__setattr__"))
theorem Cls.get {K:PySem.W.Frag}{C:Addr}(c:Cls K C)(f:Str):PySem.W.plainGet K C f=true:=c.pg
def YS (K:PySem.W.Frag)(C:Addr)(f:Str):Prop:=PySem.W.findIn K (.ref C) f=some none
theorem YS.taker {K:PySem.W.Frag}{C:Addr}{f:Str}(n:YS K C f):PySem.W.takerIn K C f=some none:=by
 unfold PySem.W.takerIn
 rw [show PySem.W.findIn K (.ref C) f=some none from n]
 rfl
structure Meth (K:PySem.W.Frag)(C:Addr)(m:Str)(f:Addr):Prop where
 at_:PySem.W.findIn K (.ref C) m=some (some (.ref f))
 fn:PySem.W.isFn K (.ref f)=true
 kp:PySem.W.keepIn K (.ref f)=true
section
variable {X:Cx}{pins:List (Addr×Obj)}{σ:St}{H:Hp}{s:Shared}{a C dx:Addr}{fs:List (Str×V)}{f:Str}{v:V}{A:Around}{E:Value→Shared→Prop}
theorem Zy {b:Bool}{Q:Value→Shared→Prop}(I:Inv X pins σ H s)(e:H a=some (.ins C dx fs))(c:Cls X.K C)(n:YS X.K C f)(l:fs.lookup f=some v)
  (h:∀u s',Inv X pins σ H s'→RelV v u→Q u s'):wpAny (model X.prog X.w) A (getAttr (.ref a) f b) Q E s:=by
 obtain⟨mA,O,r,_,_,_⟩:=Z8 I.hok e
 obtain⟨u,hu,ru⟩:=RelO.some_of (v:=v) (o:=mA f) (by rw [←l];exact r f)
 exact get_map I.kIn O (c.get f) c.hd n hu (handed_of ru) (h u _ (I.tok _) ru)
theorem Xh {m:Str}{g:Addr}{pl:Sem Bool}{Q:Value×List Value→Shared→Prop}(I:Inv X pins σ H s)(e:H a=some (.ins C dx fs))(c:Cls X.K C)(k:Meth X.K C m g)(l:fs.lookup m=none)
  (h:Q (.ref g,[.ref a]) s):wpAny (model X.prog X.w) A (getMethod (.ref a) m pl) Q E s:=by
 obtain⟨mA,O,r,_,_,_⟩:=Z8 I.hok e
 have hn:mA m=none:=RelO.none_of (by rw [←l];exact r m)
 exact get_meth I.kIn O (c.get m) k.at_ k.fn hn h
theorem Zz {y:V}{u:Value}{Q:Unit→Shared→Prop}(I:Inv X pins σ H s)(e:H a=some (.ins C dx fs))(c:Cls X.K C)(n:YS X.K C f)(hl:fs.length<1000)(ry:RelV y u)
  (h:∀s',Inv X pins σ (upd H a (.ins C dx (putF f y fs))) s'→Q () s'):wpAny (model X.prog X.w) A (setAttr (.ref a) f u) Q E s:=by
 obtain⟨mA,O,r,wi,_,ho⟩:=Z8 I.hok e
 have hz:(fs.map (·.1)).length≤sizeLine:=by rw [List.length_map,sizeLine_eq];omega
 refine set_map I.kIn O c.sa c.po n.taker c.hd wi hz fun h' O' sb=>h _ ?_
 have hd:∃o,h'.get? dx=some o:=let⟨o,_,_,e',_⟩:=O'.ns;⟨o,e'⟩
 refine I.write (x:=a) (e:=dx) (by rw [e];exact True.intro) (.inr ho) (fun b q hb z=>(sb.2 b hb).trans z) hd ?_
 refine⟨by rw [qD O.ne];exact ho,?_,O.ne,O'.obj,_,O'.ns,fun g=> ?_,fun g hg=> ?_⟩
 ·have:=zf f y fs;omega
 ·show RelO ((putF f y fs).lookup g) (if g=f then some u else mA g)
  rw [qH]
  by_cases q:g=f
  ·rw [if_pos q,if_pos q];exact ry
  ·rw [if_neg q,if_neg q];exact r g
 ·by_cases q:g=f
  ·rw [q];exact(X9 f y fs).1
  ·refine(X9 f y fs).2 g (wi g fun z=>hg ?_)
   show(if g=f then some u else mA g)=none
   rw [if_neg q];exact z
theorem Inv.made (I:Inv X pins σ H s):Inv X pins σ (upd (upd H s.heap.objs.size (.own (s.heap.objs.size+1))) (s.heap.objs.size+1) (.ins C s.heap.objs.size []))
  {s with heap:=(s.heap.push PySem.W.emptyDict).push (PySem.W.instObj C s.heap.objs.size)}:=by
 have e1:(s.heap.push PySem.W.emptyDict).get? s.heap.objs.size=some PySem.W.emptyDict:=Heap.get?_push_size s.heap rfl
 have e2:((s.heap.push PySem.W.emptyDict).push (PySem.W.instObj C s.heap.objs.size)).get? (s.heap.objs.size+1)=some (PySem.W.instObj C s.heap.objs.size):=by
  have:=Heap.get?_push_size (s.heap.push PySem.W.emptyDict) (o:=PySem.W.instObj C s.heap.objs.size) rfl
  rwa [Heap.size_push] at this
 have e3:(s.heap.push PySem.W.emptyDict).Ns s.heap.objs.size (fun _=>none):=⟨PySem.W.emptyDict,#[],_,e1,rfl,(fun e he=>absurd he (by simp)),fun _=>rfl⟩
 have I1:=I.laid (a:=s.heap.objs.size) (o:= .own (s.heap.objs.size+1)) (h':=s.heap.push PySem.W.emptyDict) (t':=s.toks) (fun b u q=>Heap.get?_push_of_some _ q) (Nat.le_refl _) ⟨_,e1⟩
 refine I1.laid (a:=s.heap.objs.size+1) (o:= .ins C s.heap.objs.size []) (t':=s.toks) (fun b u q=>Heap.get?_push_of_some _ q) (Nat.le_of_eq (Heap.size_push _ _)) ?_
 have ne:s.heap.objs.size≠s.heap.objs.size+1:=Nat.ne_of_lt (Nat.lt_succ_self _)
 refine⟨by rw [qD ne,qj],Nat.zero_le _,ne,e2,fun _=>none,(Heap.Ns1.of_empty e3).at fun o q=>Heap.get?_push_of_some _ q,fun _=>True.intro,fun y hy=>absurd rfl hy⟩
theorem attr_of {prog:Program}{w:World}{env:Env}{e:Expr}{f:Str}{pos:Pos}{s:Shared}{Q:Value→Shared→Prop}(hb:attributeBase e f env (eval e env)=eval e env)
  (h:wpAny (model prog w) A (eval e env) (fun o s₁=>wpAny (model prog w) A (getAttr o f true) Q E s₁) E s):wpAny (model prog w) A (eval (.Attribute e f pos) env) Q E s:=
 Attribute_any_ h (by rw [arm_eval_Attribute,hb])
end
def tFld (K:PySem.W.Frag)(ta:TE)(f:Str):TE:=fun σ H Q=>ta σ H fun x H1=>∃a C dx fs v,x= .ref a∧H1 a=some (.ins C dx fs)∧Cls K C∧YS K C f∧fs.lookup f=some v∧Q v H1
def sFld (K:PySem.W.Frag)(ta tv:TE)(f:Str):TS:=fun D σ H=>tv σ H fun y H1=>ta σ H1 fun x H2=>∃a C dx fs,x= .ref a∧H2 a=some (.ins C dx fs)∧Cls K C∧YS K C f∧fs.length<1000∧
 D.nx σ (upd H2 a (.ins C dx (putF f y fs)))
def InOp (X:Cx)(op:Operator)(rd:V→V→Hp→VK→Prop):Prop:=
 ∀(pins:List (Addr×Obj)) (s:Shared) (σ:St) (H:Hp) (x y:V) (u v:Value) (Q:VK),Inv X pins σ H s→RelV x u→RelV y v→rd x y H Q→wpAny (model X.prog X.w) X.A (inplaceOp op u v) (EP X pins σ Q) X.xe s
def sFldAug (K:PySem.W.Frag)(ta tv:TE)(rd:V→V→Hp→VK→Prop)(f:Str):TS:=fun D σ H=>ta σ H fun x H1=>∃a C dx fs v,x= .ref a∧H1 a=some (.ins C dx fs)∧Cls K C∧YS K C f∧fs.lookup f=some v∧
 tv σ H1 fun y H2=>rd v y H2 fun z H3=>∃dx' fs',H3 a=some (.ins C dx' fs')∧fs'.length<1000∧D.nx σ (upd H3 a (.ins C dx' (putF f z fs')))
section
variable {X:Cx}{o e value:Expr}{f:Str}{pos pos' tpos:Pos}{ta tv:TE}
theorem QM (he:PE X e ta)(hb:attributeBase e f X.env (eval e X.env)=eval e X.env):PE X (.Attribute e f pos) (tFld X.K ta f):=by
 intro pins s σ H Q I h
 refine attr_of hb (thn (he pins s σ H _ I h) fun u s1 ⟨x,H1,I1,rx,a,C,dx,fs,v,ex,ea,c,n,l,q⟩=> ?_)
 subst ex
 obtain rfl:u=Value.ref a:=rx
 exact Zy I1 ea c n l fun u' s2 I2 ru=>⟨v,H1,I2,ru,q⟩
theorem yk (ha:PE X o ta)(hv:PE X value tv)(hs:swapsWith value (some (.Attribute o f pos')) pos.line X.env=pure false):PS X (.Assign [.Attribute o f pos'] value pos) (sFld X.K ta tv f):=by
 intro pins s σ H D I h
 refine plainObj_wpAny_Assign_Attribute (thn (hv pins s σ H _ I h) fun u s1 ⟨y,H1,I1,ry,q⟩=>thn (ha pins s1 σ H1 _ I1 q) fun ov s2 ⟨x,H2,I2,rx,a,C,dx,fs,ex,ea,c,n,l,q2⟩=> ?_) hs
 subst ex
 obtain rfl:ov=Value.ref a:=rx
 exact Zz I2 ea c n l ry fun s3 I3=>⟨σ,_,I3,q2⟩
theorem Jo {op:Operator}{rd:V→V→Hp→VK→Prop}(ha:PE X o ta)(hv:PE X value tv)(hop:InOp X op rd):PS X (.AugAssign (.Attribute o f tpos) op value pos) (sFldAug X.K ta tv rd f):=by
 intro pins s σ H D I h
 refine wpAny_AugAssign_AttributeAny (thn (ha pins s σ H _ I h) fun ov s1 ⟨x,H1,I1,rx,a,C,dx,fs,v,ex,ea,c,n,l,q⟩=> ?_)
 subst ex
 obtain rfl:ov=Value.ref a:=rx
 refine Zy I1 ea c n l fun u s2 I2 ru=>thn (hv pins s2 σ H1 _ I2 q) fun w3 s3 ⟨y,H2,I3,ry,q3⟩=>thn (hop pins s3 σ H2 v y u w3 _ I3 ru ry q3) fun w4 s4 ⟨z,H3,I4,rz,dx',fs',ea',l',q4⟩=> ?_
 exact Zz I4 ea' c n l' rz fun s5 I5=>⟨σ,_,I5,q4⟩
def rAdd:V→V→Hp→VK→Prop:=fun x y H Q=>∃i j,x= .int i∧y= .int j∧Q (.int (i+j)) H
theorem in_add:InOp X .Add rAdd:=by
 rintro pins s σ H x y u v Q I rx ry ⟨i,j,rfl,rfl,q⟩
 obtain⟨t,rfl⟩:=(show∃t,u=Value.int i t from rx)
 obtain⟨t',rfl⟩:=(show∃t',v=Value.int j t' from ry)
 exact PyProof.Rows.iadd_int ⟨.int (i+j),H,I.tok _,⟨_,rfl⟩,q⟩
theorem methcall_of {pl:Sem Bool}{m:Str}{apos:Pos}{args:List Expr}{pins:List (Addr×Obj)}{s:Shared}{σ:St}{H:Hp}{Q:Value→Shared→Prop}{te:TE}(he:PE X e te)(I:Inv X pins σ H s)
  (h:te σ H fun x H1=>∃a C dx fs g,x= .ref a∧H1 a=some (.ins C dx fs)∧Cls X.K C∧Meth X.K C m g∧fs.lookup m=none∧
   ∀s1,Inv X pins σ H1 s1→wpAny (model X.prog X.w) X.A (callWith pos (.ref g) [.ref a] (backTo pos (starEach args X.env)) (backToKw pos (keywordEach [] X.env))) Q X.xe s1)
  (ht:eval (.Call (.Attribute e m apos) args [] pos) X.env=(do
   let ov←eval e X.env
   standAt apos.atName
   let(f,first)←holding [ov] (getMethod ov m pl)
   callWith pos f first (backTo pos (starEach args X.env)) (backToKw pos (keywordEach [] X.env)))):
  wpAny (model X.prog X.w) X.A (eval (.Call (.Attribute e m apos) args [] pos) X.env) Q X.xe s:=by
 refine PySem.W.methodCall_KW (pl:=pl) (thn (he pins s σ H _ I h) fun u s1 ⟨x,H1,I1,rx,a,C,dx,fs,g,ex,ea,c,k,l,q⟩=> ?_) ht
 subst ex
 obtain rfl:u=Value.ref a:=rx
 exact Xh I1 ea c k l (q s1 I1)
end
section
variable {X:Cx}{pins:List (Addr×Obj)}{σ:St}{H:Hp}{s:Shared}{A:Around}{E:Value→Shared→Prop}{Q:Value→Shared→Prop}{c:Value}{b:Bool}
inductive TyOf (K:PySem.W.Frag) (H:Hp):V→Value→Prop where
 |non:TyOf K H .non (.type "NoneType")
 |bl (x:Bool):TyOf K H (.bl x) (.type "bool")
 |int (i:Int):TyOf K H (.int i) (.type "int")
 |str (x:Str):TyOf K H (.str x) (.type "str")
 |flt (x:UInt64):TyOf K H (.flt x) (.type "float")
 |lst {a:Addr}{xs:List V} (e:H a=some (.lst xs)):TyOf K H (.ref a) (.type "list")
 |frz {a:Addr}{o:Obj}{xs:List V} (e:H a=some (.frz o (.lst xs))):TyOf K H (.ref a) (.type "list")
 |tup {a:Addr}{xs:List V} (e:H a=some (.tup xs)):TyOf K H (.ref a) (.type "tuple")
 |dK {a:Addr}{kvs:List (Key×V)} (e:H a=some (.dK kvs)):TyOf K H (.ref a) (.type "dict")
 |dT {a:Addr}{kvs:List (List Key×V)} (e:H a=some (.dT kvs)):TyOf K H (.ref a) (.type "dict")
 |ins {a C dx:Addr}{fs:List (Str×V)} (e:H a=some (.ins C dx fs)) (cl:Cls K C) (ha:PySem.W.findIn K (.ref C) "__class__"=some (some (.builtin "object.__class__")))
   (hn:PySem.W.specialIn K (.builtin "object.__class__") "__get__"=some (some (.builtin "getset_descriptor.__get__"))) (htk:PySem.W.takesIn K (.builtin "object.__class__")=some true)
   (hm:PySem.W.mroIn K C (.type "object")=some true):TyOf K H (.ref a) (.ref C)
theorem isinst_ok {x:V}{u t:Value}(I:Inv X pins σ H s)(rx:RelV x u)(ty:TyOf X.K H x t)(e:PySem.W.kitOne X.K t c=some b)(h:∀tk,Q (.bool b) {s with toks:=tk}):
  wpAny (model X.prog X.w) A (call (.builtin "isinstance") [u,c]) Q E s:=by
 cases ty with
 |non=>cases(show u=Value.none from rx);exact PySem.W.kia_one PySem.W.kitx_none I.kIn True.intro e (fun z=>nomatch z) h
 |bl y=>cases(show u=Value.bool y from rx);exact PySem.W.kia_one PySem.W.kitx_bool I.kIn True.intro e (fun z=>nomatch z) h
 |int i=>obtain⟨t,q⟩:=(show∃t,u=Value.int i t from rx);cases q;exact PySem.W.kia_one PySem.W.kitx_int I.kIn True.intro e (fun z=>nomatch z) h
 |str y=>obtain⟨t,q⟩:=(show∃t,u=Value.str y t from rx);cases q;exact PySem.W.kia_one PySem.W.kitx_str I.kIn True.intro e (fun z=>nomatch z) h
 |flt y=>obtain⟨t,q⟩:=(show∃t,u=Value.float y t from rx);cases q;exact PySem.W.kia_one PySem.W.kitx_float I.kIn True.intro e (fun z=>nomatch z) h
 | @lst a xs ea=>
  cases(show u=Value.ref a from rx)
  obtain⟨_,_,n,_,h1⟩:=(show y3 X.prog X.w H s.heap a (.lst xs) from I.hok a _ ea)
  exact PySem.W.kia_one PySem.W.kitx_list I.kIn ⟨_,h1,rfl⟩ e (fun z=>nomatch z) h
 | @frz a ob xs ea=>
  cases(show u=Value.ref a from rx)
  obtain⟨_,_,_,n,_,h1⟩:=(show y3 X.prog X.w H s.heap a (.frz ob (.lst xs)) from I.hok a _ ea)
  exact PySem.W.kia_one PySem.W.kitx_list I.kIn ⟨_,h1,rfl⟩ e (fun z=>nomatch z) h
 | @tup a xs ea=>
  cases(show u=Value.ref a from rx)
  obtain⟨_,_,_,p⟩:=(show y3 X.prog X.w H s.heap a (.tup xs) from I.hok a _ ea)
  obtain⟨o,h1,h2,_⟩:=p
  exact PySem.W.kia_one PySem.W.kitx_tuple I.kIn ⟨o,h1,h2⟩ e (fun z=>nomatch z) h
 | @dK a kvs ea=>
  cases(show u=Value.ref a from rx)
  obtain⟨_,_,vs,_,p⟩:=(show y3 X.prog X.w H s.heap a (.dK kvs) from I.hok a _ ea)
  obtain⟨o,es,ep,h1,h2,_⟩:=p
  exact PySem.W.kia_one PySem.W.kitx_dict I.kIn ⟨o,h1,h2.1⟩ e (fun z=>nomatch z) h
 | @dT a kvs ea=>
  cases(show u=Value.ref a from rx)
  obtain⟨_,_,xs,_,o,es,ep,h1,h2,_⟩:=(show y3 X.prog X.w H s.heap a (.dT kvs) from I.hok a _ ea)
  exact PySem.W.kia_one PySem.W.kitx_dict I.kIn ⟨o,h1,h2.1⟩ e (fun z=>nomatch z) h
 | @ins a C dx fs ea cl ha hn htk hm=>
  cases(show u=Value.ref a from rx)
  obtain⟨mA,O,_⟩:=Z8 I.hok ea
  obtain⟨od,J,_⟩:=O.look
  exact PySem.W.kia_one (PySem.W.kitx_own (cl.get _) cl.hd ha hn htk hm) I.kIn J e (fun z=>nomatch z) h
end
end L2
namespace L2
open PySem PySem.Spec PyProof.Rows
structure Room (k:Nat)(A:Around):Prop where
 hd:A.handled=none
 dp:A.depth+3*k+5<recursionLimit
 un:A.units+16*k+200<cLine
theorem Room.mono {j k:Nat}{A:Around}(r:Room k A)(h:j≤k):Room j A:=⟨r.hd,by have:=r.dp;omega,by have:=r.un;omega⟩
theorem Room.deeper {k:Nat}{A:Around}(r:Room (k+1) A)(env:Env):Room k (A.deeper env):=
 ⟨r.hd,by have:=r.dp;show A.depth+1+3*k+5<_;omega,by have:=r.un;show A.units+3+16*k+200<_;omega⟩
theorem make_depth {A:Around}{C:Addr}{us:List Value}{kw:List (Str×Value)}:(A.under (.builtin "type.__call__" ⟨.ref C::us,kw⟩)).depth=A.depth+1:=by
 first|rfl|simp [Around.under,Code.weight,Code.isCreation,Code.isGuard,Code.isCaller,Code.frames,Code.isFrame,guardIds]
theorem make_units {A:Around}{C:Addr}{us:List Value}{kw:List (Str×Value)}:(A.under (.builtin "type.__call__" ⟨.ref C::us,kw⟩)).units=A.units+1:=by
 first|rfl|simp [Around.under,Code.cUnits,Code.frames,Code.isFrame]
theorem Room.make {k:Nat}{A:Around}(r:Room (k+1) A)(C:Addr)(us:List Value)(kw:List (Str×Value)):Room k (A.under (.builtin "type.__call__" ⟨.ref C::us,kw⟩)):=
 ⟨r.hd,by have:=r.dp;rw [make_depth];omega,by have:=r.un;rw [make_units];omega⟩
theorem Room.depth {k:Nat}{A:Around}(r:Room k A):A.depth<recursionLimit:=by have:=r.dp;omega
theorem Room.units {k:Nat}{A:Around}(r:Room k A):A.units+64<cLine:=by have:=r.un;omega
def tNil:TA:=fun _ H Q=>Q [] H
def xT (ta:TE)(tr:TA):TA:=fun σ H Q=>ta σ H fun x H1=>tr σ H1 fun xs H2=>Q (x::xs) H2
section
variable {X:Cx}{e:Expr}{es:List Expr}{te:TE}{t:TA}{pos:Pos}
theorem qc:PA X [] tNil:=fun _ _ _ _ H Q I h=>Calls.spliced_nil ⟨[],H,I,.nil,h⟩
theorem qa (ha:PE X e te)(hr:PA X es t)(hs:starEach (e::es) X.env=(false,eval e X.env)::starEach es X.env:=by rfl):PA X (e::es) (xT te t):=by
 intro pos pins s σ H Q I h
 rw [hs]
 show wpAny _ _ (spliced ((false,eval e X.env)::backTo pos (starEach es X.env))) _ _ s
 refine Calls.spliced_cons (thn (ha pins s σ H _ I h) fun u s1 ⟨x,H1,I1,r1,q1⟩=> ?_)
 exact thn (hr pos pins s1 σ H1 _ I1 q1) fun us s2 ⟨xs,H2,I2,r2,q2⟩=>⟨x::xs,H2,I2,.cons r1 r2,q2⟩
def tTup (t:TA):TE:=fun σ H Q=>t σ H fun xs H1=>xs.length≤sizeLine∧∀p,H1 p=none→Q (.ref p) (upd H1 p (.tup xs))
def tLst (t:TA):TE:=fun σ H Q=>t σ H fun xs H1=>xs.length≤sizeLine∧∀p,H1 p=none→Q (.ref p) (upd H1 p (.lst xs))
theorem Qf {x1}(h:PA X es t):PE X (.Tuple es x1 pos) (tTup t):=by
 intro pins s σ H Q I hq
 refine wpAny_Tuple_spliced (thn (h pos pins s σ H _ I hq) fun us s1 ⟨xs,H1,I1,r,z,q⟩=>⟨by rw [←r.length];exact z,?_⟩)
 have hf:H1 s1.heap.objs.size=none:=I1.hok.fresh (Nat.le_refl _)
 refine⟨.ref s1.heap.objs.size,upd H1 s1.heap.objs.size (.tup xs),I1.laid (t':=s1.toks) (fun b u e=>Heap.get?_push_of_some _ e) (Nat.le_refl _) ?_,rfl,q _ hf⟩
 exact⟨z,us,r,⟨_,Heap.get?_push_size _ rfl,rfl,_,rfl⟩⟩
theorem yH (h:PA X es t):PE X (.List es pos) (tLst t):=by
 intro pins s σ H Q I hq
 refine wpAny_List_spliced (thn (h pos pins s σ H _ I hq) fun us s1 ⟨xs,H1,I1,r,z,q⟩=>⟨by rw [←r.length];exact z,?_⟩)
 have hf:H1 s1.heap.objs.size=none:=I1.hok.fresh (Nat.le_refl _)
 refine⟨.ref s1.heap.objs.size,upd H1 s1.heap.objs.size (.lst xs),I1.laid (t':=s1.toks) (fun b u e=>Heap.get?_push_of_some _ e) (Nat.le_refl _) ?_,rfl,q _ hf⟩
 exact⟨z,us,0,r,Heap.get?_push_size _ rfl⟩
end
abbrev Sp:=List V→Hp→VK→XK→Prop
abbrev CXT:=List Env→Hp→Shared→XK→Value→Shared→Prop
structure Env0 (P:Program)(w:World)(K:PySem.W.Frag)(mg:Str→Option Value)(base:Heap)(A:Around)(outer:List Env)(s:Shared)(H:Hp):Prop where
 frames:A.frames=some outer
 mod:Mod K mg base
 bs:∀b o,base.get? b=some o→s.heap.get? b=some o∧H b=none
 bsz:base.objs.size≤s.heap.objs.size
 funs:s.heap.FunFrames base outer
 frf:∀b∈frs outer,H b=none
 hok:HOk P w H s.heap
 bare:AllBare s.gens
def CE (outer:List Env)(P:Program)(w:World)(H:Hp)(s:Shared)(Q:VK)(u:Value)(s':Shared):Prop:=
 ∃v H',s'.os=s.os∧AllBare s'.gens∧0<s'.toks∧Un (frs outer) [] H H' s.heap s'.heap∧HOk P w H' s'.heap∧RelV v u∧Q v H'
def CR (CX:CXT)(outer:List Env)(P:Program)(w:World)(H:Hp)(s:Shared)(Q:VK)(E:XK)(r:Result)(s':Shared):Prop:=
 match r with
 | .ok (.ret u)=>CE outer P w H s Q u s'
 | .ok _=>False
 | .error e=>CX outer H s E e s'
structure FnOk (P:Program)(w:World)(K:PySem.W.Frag)(mg:Str→Option Value)(base:Heap)(CX:CXT)(k:Nat)(f:Addr)(fd:FuncData)(ps:List Str)(sp:Sp):Prop where
 len:∀vs H Q E,sp vs H Q E→vs.length=ps.length
 run:∀(A:Around) (outer:List Env) (s:Shared) (H:Hp) (args:Args) (us:List Value) (vs:List V) (Q:VK) (E:XK),Room k A→Env0 P w K mg base A outer s H→BindsTo s fd args (ps.zip us)→Vals vs us→sp vs H Q E→(0<s.toks∨∃x r,ps=x::r∧fd.scope.names.lookup x=some .local)→
  codeAny (model P w) A (.call (.ref f) args) (CR CX outer P w H s Q E) s
theorem Env0.make {P:Program}{w:World}{K:PySem.W.Frag}{mg:Str→Option Value}{base:Heap}{A:Around}{outer:List Env}{s:Shared}{H:Hp}(e:Env0 P w K mg base A outer s H)(C:Addr)(us:List Value)(kw:List (Str×Value)):
  Env0 P w K mg base (A.under (.builtin "type.__call__" ⟨.ref C::us,kw⟩)) outer s H:=⟨by first|exact e.frames|(simpa [Around.under,Code.envs,Code.isFrame,pushEnvs] using e.frames),e.mod,e.bs,e.bsz,e.funs,e.frf,e.hok,e.bare⟩
section
variable {X:Cx}{pins:List (Addr×Obj)}{σ:St}{H:Hp}{s s':Shared}
theorem Inv.env0 (I:Inv X pins σ H s):Env0 X.prog X.w X.K X.mg X.base X.A X.stack s H:=
 ⟨I.ok.frames,I.ok.mod,I.bs,Nat.le_trans I.ok.bsz I.sz,I.stack,I.stkFree,I.hok,I.bare⟩
theorem Inv.after {Q:VK}{u:Value}(I:Inv X pins σ H s)(h:CE X.stack X.prog X.w H s Q u s'):EP X pins σ Q u s':=by
 obtain⟨v,H',os,bare,htk,un,hok,r,q⟩:=h
 obtain⟨hh,g,d,t,os'⟩:=s'
 obtain rfl:os'=s.os:=os
 exact⟨v,H',I.call (h':=hh) (g':=g) (d':=d) (t':=t) (ch:= []) un hok bare (fun b z=>absurd z (by simp)),r,q⟩
end
def tCall (sp:Sp)(dvs:List V)(E:XK)(t:TA):TE:=fun σ H Q=>t σ H fun vs H1=>sp (vs++dvs) H1 Q E
def tMeth (C:Addr)(m:Str)(sp:Sp)(dvs:List V)(E:XK)(ta:TE)(t:TA):TE:=fun σ H Q=>ta σ H fun x H1=>∃a dx fs,x= .ref a∧H1 a=some (.ins C dx fs)∧fs.lookup m=none∧
 t σ H1 fun vs H2=>sp (x::(vs++dvs)) H2 Q E
def tMake (C:Addr)(sp:Sp)(dvs:List V)(E:XK)(t:TA):TE:=fun σ H Q=>t σ H fun vs H1=>∀x dx,H1 x=none→H1 dx=none→dx≠x→
 sp (.ref x::(vs++dvs)) (upd (upd H1 dx (.own x)) x (.ins C dx [])) (fun v H2=>v= .non∧Q (.ref x) H2) E
def Qj (K:PySem.W.Frag)(fd:FuncData)(ps:List Str)(ds:List Value):Prop:=
 ∀(s:Shared) (us:List Value),K.In s.heap→(us++ds).length=ps.length→BindsTo s fd ⟨us,[]⟩ (ps.zip (us++ds))
theorem Qj.all {K:PySem.W.Frag}{fd:FuncData}{ps:List Str}(h:∀us:List Value,us.length=ps.length→bindArgs fd ⟨us,[]⟩=pure (ps.zip us)):Qj K fd ps []:=fun s us _ hl=>by
 rw [List.append_nil] at hl⊢
 exact .of_eq (h us hl)
def Xu (CX:CXT)(X:Cx)(E:XK):Prop:=∀(pins:List (Addr×Obj)) (σ:St) (H:Hp) (s:Shared) (e:Value) (s':Shared),Inv X pins σ H s→CX X.stack H s E e s'→X.xe e s'
section
variable {X:Cx}{CX:CXT}{k:Nat}{f C:Addr}{fd:FuncData}{ps:List Str}{sp:Sp}{dvs:List V}{ds:List Value}{E:XK}{x m:Str}{p pos apos:Pos}{e o:Expr}{es:List Expr}{ta:TE}{t:TA}
theorem run_fn {pins:List (Addr×Obj)}{σ:St}{H:Hp}{s:Shared}{Q:VK}{us:List Value}{vs:List V}(F:FnOk X.prog X.w X.K X.mg X.base CX k f fd ps sp)(hr:Room k X.A)(hb:Qj X.K fd ps ds)(hd:Vals dvs ds)(hx:Xu CX X E)
  (I:Inv X pins σ H s) (r:Vals vs us) (h:sp (vs++dvs) H Q E):wpAny (model X.prog X.w) X.A (call (.ref f) us) (EP X pins σ Q) X.xe s:=by
 have r2:Vals (vs++dvs) (us++ds):=r.append hd
 have hl:(us++ds).length=ps.length:=by rw [←r2.length];exact F.len _ _ _ _ h
 refine wpAny_call (codeAny_mono (F.run X.A X.stack s H ⟨us,[]⟩ (us++ds) (vs++dvs) Q E hr I.env0 (hb s us I.kIn hl) r2 h (.inl I.tk)) fun r s' hq=> ?_)
 cases r with
 |error e=>exact hx pins σ H s e s' I hq
 |ok fl=>
  cases fl with
  |ret u=>exact I.after hq
  |next=>exact False.elim hq
  |brk=>exact False.elim hq
  |cont=>exact False.elim hq
theorem qq (F:FnOk X.prog X.w X.K X.mg X.base CX k f fd ps sp)(hr:Room k X.A)(hg:Gl X x)(hm:X.mg x=some (.ref f))(hk:PySem.W.keepIn X.K (.ref f)=true)(hb:Qj X.K fd ps ds)(hd:Vals dvs ds)(hx:Xu CX X E)
  (ha:PA X (e::es) t) (hdb:(x==("__debug__":Str))=false:=by decide) (he:starEach (e::es) X.env=(false,eval e X.env)::starEach es X.env:=by rfl) (hpl:(backTo pos (starEach es X.env)).any (·.1)=false:=by rfl):
  PE X (.Call (.Name x p) (e::es) [] pos) (tCall sp dvs E t):=by
 intro pins s σ H Q I h
 refine wpAny_Call_Name_kw (ZU I hg hm ?_ hdb)
 refine PySem.W.callWith_K (h₀:=X.base) I.ok.mod.kin hk (thn (ha pos pins s σ H _ I h) fun us s1 ⟨vs,H1,I1,r,q⟩=>⟨I1.kIn,?_⟩) he hpl
 exact run_fn F hr hb hd hx I1 r q
theorem pe_call0 (F:FnOk X.prog X.w X.K X.mg X.base CX k f fd ps sp)(hr:Room k X.A)(hg:Gl X x)(hm:X.mg x=some (.ref f))(hk:PySem.W.keepIn X.K (.ref f)=true)(hb:Qj X.K fd ps ds)(hd:Vals dvs ds)(hx:Xu CX X E)
  (hdb:(x==("__debug__":Str))=false:=by decide):PE X (.Call (.Name x p) [] [] pos) (tCall sp dvs E tNil):=by
 intro pins s σ H Q I h
 refine wpAny_Call_Name_kw (ZU I hg hm ?_ hdb)
 exact PySem.W.callWith_K0 I.kIn hk (run_fn (us:= []) F hr hb hd hx I .nil h)
theorem yV {pl:Sem Bool}(he:PE X o ta)(c:Cls X.K C)(hm:Meth X.K C m f)(F:FnOk X.prog X.w X.K X.mg X.base CX k f fd ps sp)(hr:Room k X.A)(hb:Qj X.K fd ps ds)(hd:Vals dvs ds)(hx:Xu CX X E)(ha:PA X (e::es) t)
  (hst:starEach (e::es) X.env=(false,eval e X.env)::starEach es X.env:=by rfl) (hpl:(backTo pos (starEach es X.env)).any (·.1)=false:=by rfl)
  (ht:eval (.Call (.Attribute o m apos) (e::es) [] pos) X.env=(do
   let ov←eval o X.env
   standAt apos.atName
   let(f,first)←holding [ov] (getMethod ov m pl)
   callWith pos f first (backTo pos (starEach (e::es) X.env)) (backToKw pos (keywordEach [] X.env))):=by rfl):
  PE X (.Call (.Attribute o m apos) (e::es) [] pos) (tMeth C m sp dvs E ta t):=by
 intro pins s σ H Q I h
 refine PySem.W.methodCall_KW (pl:=pl) (thn (he pins s σ H _ I h) fun u s1 ⟨x,H1,I1,rx,a,dx,fs,ex,ea,l,q⟩=> ?_) ht
 subst ex
 obtain rfl:u=Value.ref a:=rx
 refine Xh I1 ea c hm l ?_
 refine PySem.W.callWith_K (first:= [.ref a]) (h₀:=X.base) I.ok.mod.kin hm.kp (thn (ha pos pins s1 σ H1 _ I1 q) fun us s2 ⟨vs,H2,I2,r,q2⟩=>⟨I2.kIn,?_⟩) hst hpl
 exact run_fn (us:= .ref a::us) (vs:= .ref a::vs) F hr hb hd hx I2 (.cons rfl r) q2
theorem qJ {pl:Sem Bool}(he:PE X o ta)(c:Cls X.K C)(hm:Meth X.K C m f)(F:FnOk X.prog X.w X.K X.mg X.base CX k f fd ps sp)(hr:Room k X.A)(hb:Qj X.K fd ps ds)(hd:Vals dvs ds)(hx:Xu CX X E)
  (ht:eval (.Call (.Attribute o m apos) [] [] pos) X.env=(do
   let ov←eval o X.env
   standAt apos.atName
   let(f,first)←holding [ov] (getMethod ov m pl)
   callWith pos f first (backTo pos (starEach [] X.env)) (backToKw pos (keywordEach [] X.env))):=by rfl):
  PE X (.Call (.Attribute o m apos) [] [] pos) (tMeth C m sp dvs E ta tNil):=by
 intro pins s σ H Q I h
 refine PySem.W.methodCall_KW (pl:=pl) (thn (he pins s σ H _ I h) fun u s1 ⟨x,H1,I1,rx,a,dx,fs,ex,ea,l,q⟩=> ?_) ht
 subst ex
 obtain rfl:u=Value.ref a:=rx
 refine Xh I1 ea c hm l ?_
 exact PySem.W.callWith_K0 (first:= [.ref a]) I1.kIn hm.kp (run_fn (us:= [.ref a]) (vs:= [.ref a]) F hr hb hd hx I1 (.cons rfl .nil) q)
structure Mk (K:PySem.W.Frag)(C f:Addr):Prop where
 makes:PySem.W.makesIn K C=true
 init:PySem.W.findIn K (.ref C) "__init__"=some (some (.ref f))
 fn:PySem.W.isFn K (.ref f)=true
 kp:PySem.W.keepIn K (.ref C)=true
theorem run_make {pins:List (Addr×Obj)}{σ:St}{H:Hp}{s:Shared}{Q:VK}{us:List Value}{vs:List V}(M:Mk X.K C f)(F:FnOk X.prog X.w X.K X.mg X.base CX k f fd ps sp)(hr:Room (k+1) X.A)(hb:Qj X.K fd ps ds)(hd:Vals dvs ds)
  (hx:Xu CX X E) (I:Inv X pins σ H s) (r:Vals vs us)
  (h:∀x dx,H x=none→H dx=none→dx≠x→sp (.ref x::(vs++dvs)) (upd (upd H dx (.own x)) x (.ins C dx [])) (fun v H2=>v= .non∧Q (.ref x) H2) E):
  wpAny (model X.prog X.w) X.A (call (.ref C) us) (EP X pins σ Q) X.xe s:=by
 have hq:=h (s.heap.objs.size+1) s.heap.objs.size (I.hok.fresh (Nat.le_succ _)) (I.hok.fresh (Nat.le_refl _)) (Nat.ne_of_lt (Nat.lt_succ_self _))
 have I2:=Inv.made (C:=C) I
 have r2:Vals (V.ref (s.heap.objs.size+1)::(vs++dvs)) (Value.ref (s.heap.objs.size+1)::(us++ds)):= .cons rfl (r.append hd)
 have hl:(Value.ref (s.heap.objs.size+1)::us++ds).length=ps.length:=by
  have e:=r2.length
  rw [F.len _ _ _ _ hq] at e
  exact e.symm
 refine wpAny_call (make_map (f:=f) I.kIn M.makes M.init (beq_iff_eq.mp M.fn) (codeAny_mono (F.run _ X.stack _ _ ⟨Value.ref (s.heap.objs.size+1)::us,[]⟩ (Value.ref (s.heap.objs.size+1)::(us++ds)) _ _ E (hr.make C us [])
  (I2.env0.make C us []) (hb _ (Value.ref (s.heap.objs.size+1)::us) I2.kIn hl) r2 hq (.inl I2.tk)) fun r s' hq'=> ?_))
 cases r with
 |error e=>exact hx pins σ _ _ e s' I2 hq'
 |ok fl=>
  cases fl with
  |ret u=>
   obtain⟨v,H',I3,rv,ev,q3⟩:=I2.after hq'
   subst ev
   exact⟨rv,⟨V.ref (s.heap.objs.size+1),H',I3,rfl,q3⟩⟩
  |next=>exact False.elim hq'
  |brk=>exact False.elim hq'
  |cont=>exact False.elim hq'
theorem jm (M:Mk X.K C f)(F:FnOk X.prog X.w X.K X.mg X.base CX k f fd ps sp)(hr:Room (k+1) X.A)(hg:Gl X x)(hm:X.mg x=some (.ref C))(hb:Qj X.K fd ps ds)(hd:Vals dvs ds)(hx:Xu CX X E)
  (ha:PA X (e::es) t) (hdb:(x==("__debug__":Str))=false:=by decide) (he:starEach (e::es) X.env=(false,eval e X.env)::starEach es X.env:=by rfl) (hpl:(backTo pos (starEach es X.env)).any (·.1)=false:=by rfl):
  PE X (.Call (.Name x p) (e::es) [] pos) (tMake C sp dvs E t):=by
 intro pins s σ H Q I h
 refine wpAny_Call_Name_kw (ZU I hg hm ?_ hdb)
 refine PySem.W.callWith_K (h₀:=X.base) I.ok.mod.kin M.kp (thn (ha pos pins s σ H _ I h) fun us s1 ⟨vs,H1,I1,r,q⟩=>⟨I1.kIn,?_⟩) he hpl
 exact run_make M F hr hb hd hx I1 r q
end
section
variable {X:Cx}{CX:CXT}{k:Nat}{f C:Addr}{fd:FuncData}{ps ks:List Str}{sp:Sp}{E:XK}{x m:Str}{p pos apos kpos:Pos}{e o:Expr}{es:List Expr}{kws:List Keyword}{te ta:TE}{t tk:TA}{nm:Option Str}
variable {g:List Value→List Value→List Value}{gV:List V→List V→List V}
end
structure qz (N P:List Str)(sc:Scope):Prop where
 kind:sc.kind= .function
 co:sc.isCoroutine=false
 gen:sc.isGenerator=false
 nd:N.Nodup
 pre:N.take P.length=P
 par:∀x∈P,sc.names.lookup x=some .local∨sc.names.lookup x=some .cell
 nofree:∀y∈sc.names,y.2≠ .free
theorem bindL_out {kindOf:Str→Option NameKind}{x:Str}:∀{binds:List (Str×Value)}{m:Str→Option Value},(∀v,(x,v)∉binds)→bindL kindOf binds m x=m x
 | [],_,_=>rfl
 |(n,v)::r,m,h=>by
  unfold bindL
  rw [bindL_out fun w hw=>h w (List.mem_cons_of_mem _ hw)]
  split
  ·have:x≠n:=by rintro rfl;exact h v List.mem_cons_self
   simp [this]
  ·rfl
theorem bindC_out {kindOf:Str→Option NameKind}{x:Str}:∀{binds:List (Str×Value)}{m:Str→Option Value},(∀v,(x,v)∉binds)→bindC kindOf binds m x=m x
 | [],_,_=>rfl
 |(n,v)::r,m,h=>by
  unfold bindC
  rw [bindC_out fun w hw=>h w (List.mem_cons_of_mem _ hw)]
  split
  ·rfl
  ·have:x≠n:=by rintro rfl;exact h v List.mem_cons_self
   simp [this]
theorem bindL_get {kindOf:Str→Option NameKind}{x:Str}{v:Value}:∀{P:List Str}{vs:List Value}{i:Nat}{m:Str→Option Value},P.Nodup→P[i]? =some x→vs[i]? =some v→kindOf x=some .local→
  bindL kindOf (P.zip vs) m x=some v
 | [],_,_,_,_,h,_,_=>by simp at h
 |_::_,[],_,_,_,_,h,_=>by simp at h
 |p::P,w::vs,0,m,nd,h1,h2,hk=>by
  simp at h1 h2;subst h1;subst h2
  show bindL kindOf ((p,w)::P.zip vs) m p=_
  unfold bindL
  rw [bindL_out fun v hv=>(List.nodup_cons.mp nd).1 (List.of_mem_zip hv).1,if_pos hk]
  simp
 |p::P,w::vs,i+1,m,nd,h1,h2,hk=>by
  show bindL kindOf ((p,w)::P.zip vs) m x=_
  unfold bindL
  exact bindL_get (i:=i) (List.nodup_cons.mp nd).2 (by simpa using h1) (by simpa using h2) hk
theorem bindC_get {kindOf:Str→Option NameKind}{x:Str}{v:Value}:∀{P:List Str}{vs:List Value}{i:Nat}{m:Str→Option Value},P.Nodup→P[i]? =some x→vs[i]? =some v→kindOf x≠some .local→
  bindC kindOf (P.zip vs) m x=some v
 | [],_,_,_,_,h,_,_=>by simp at h
 |_::_,[],_,_,_,_,h,_=>by simp at h
 |p::P,w::vs,0,m,nd,h1,h2,hk=>by
  simp at h1 h2;subst h1;subst h2
  show bindC kindOf ((p,w)::P.zip vs) m p=_
  unfold bindC
  rw [bindC_out fun v hv=>(List.nodup_cons.mp nd).1 (List.of_mem_zip hv).1,if_neg hk]
  simp
 |p::P,w::vs,i+1,m,nd,h1,h2,hk=>by
  show bindC kindOf ((p,w)::P.zip vs) m x=_
  unfold bindC
  exact bindC_get (i:=i) (List.nodup_cons.mp nd).2 (by simpa using h1) (by simpa using h2) hk
def start (N:List Str)(vs:List V):St:=vs.map some++List.replicate (N.length-vs.length) none
def cxOf (CX:CXT)(P:Program)(w:World)(K:PySem.W.Frag)(mg:Str→Option Value)(base:Heap)(N:List Str)(qual:Str)(scope:Scope)(f:Addr)(cd:Value)(A:Around)(outer:List Env)(s:Shared)(H:Hp)(E:XK):Cx where
 prog:=P
 w:=w
 K:=K
 mg:=mg
 base:=base
 A:=A.deeper (envOfC qual scope s.heap.objs.size f cd)
 N:=N
 s₀:=s
 H₀:=H
 env:=envOfC qual scope s.heap.objs.size f cd
 outer:=outer
 stack:=envOfC qual scope s.heap.objs.size f cd::outer
 ex:= []
 calm:=true
 fn:=fun _=>true
 pn:= []
 xe:=fun e s'=>wpAny (model P w) (A.deeper (envOfC qual scope s.heap.objs.size f cd)) (leaving (envOfC qual scope s.heap.objs.size f cd) e) (fun _ s''=>CX outer H s E e s'') (fun e' s''=>CX outer H s E e' s'') s'
theorem cell_has {sc:Scope}{n:Nat}{x:Str}(h:sc.names.lookup x=some .cell):∃c,(cellsFrom n sc.names []).lookup x=some c:=by
 have q:=PySem.W.cellsFrom_some sc.names n [] (.inl h)
 exact Option.isSome_iff_exists.mp q
theorem inv_start {CX:CXT}{P:Program}{w:World}{K:PySem.W.Frag}{mg:Str→Option Value}{base:Heap}{N ps:List Str}{qual:Str}{scope:Scope}{f:Addr}{cd:Value}{A:Around}{outer:List Env}{s s1:Shared}{H:Hp}{E:XK}{us:List Value}{vs:List V}
  (S:qz N ps scope) (hd:A.handled=none) (e0:Env0 P w K mg base A outer s H) (hl:vs.length=ps.length) (r:Vals vs us)
  (x:InCallC s s.heap.objs.size (bindL (envOfC qual scope s.heap.objs.size f cd).kindOf (ps.zip us) fun _=>none) (cellsFrom (s.heap.objs.size+1) scope.names []) (bindC (envOfC qual scope s.heap.objs.size f cd).kindOf (ps.zip us) fun _=>none) s1) (ht1:0<s1.toks):
  Inv (cxOf CX P w K mg base N qual scope f cd A outer s H E) [] (start N vs) H s1:=by
 have hpl:ps.length≤N.length:=by have:=congrArg List.length S.pre;rw [List.length_take] at this;omega
 obtain⟨h1,tk,rfl,hk⟩:=x.done
 have noA:∀b:Addr,b∉(cxOf CX P w K mg base N qual scope f cd A outer s H E).ex:=fun b z=>absurd (show b∈([]:List Addr) from z) (by simp)
 refine⟨⟨e0.mod,S.kind,rfl,rfl,Nat.le_refl _,fun y z c h1 h2=> ?_,fun y hy=> ?_,fun y c _ h=> ?_,fun _=>hd,Around.frames_deeper e0.frames,.inr ⟨rfl,rfl⟩,fun b z=>absurd z (noA b),e0.bs,e0.bsz,fun b _ _=>noA b,fun b z=>absurd z (noA b),e0.funs,e0.frf⟩,
  rfl,e0.bare,Un.kept hk,⟨_,x.toInCall.ns,fun i y v h1 h2 h3=> ?_⟩,fun y c h=>⟨_,x.cell y c h⟩,e0.hok.fresh (Nat.le_refl _),fun y c h=> ?_,fun p hp=>absurd (show p∈([]:List (Addr×Obj)) from hp) (by simp),e0.hok.kept hk,?_,ht1⟩
 ·exact name_of_addr x.apart (PySem.mem_of_lookup h1) (PySem.mem_of_lookup h2)
 ·have hy:scope.names.lookup y=some .cell∨scope.names.lookup y=some .free:=hy
  rcases hy with hy|hy
  ·exact cell_has hy
  ·exact absurd rfl (S.nofree _ (PySem.mem_of_lookup hy))
 ·exact Nat.le_of_lt (x.above y c (PySem.mem_of_lookup h))
 ·have hi:i<vs.length:=by
   unfold start at h2
   by_cases hi:i<vs.length
   ·exact hi
   ·rw [List.getElem?_append_right (by simpa using hi)] at h2
    rw [List.getElem?_replicate] at h2
    split at h2<;>cases h2
  have ha:vs[i]? =some v:=by
   unfold start at h2
   rw [List.getElem?_append_left (by simpa using hi),List.getElem?_map] at h2
   cases e:vs[i]? with
   |none=>rw [e] at h2;cases h2
   |some a=>rw [e] at h2;cases h2;rfl
  obtain⟨u,hu,rv⟩:=r.get ha
  have hp:ps[i]? =some y:=by
   rw [←S.pre,List.getElem?_take_of_lt (by omega)];exact h1
  have ndP:ps.Nodup:=by rw [←S.pre];exact S.nd.sublist (List.take_sublist _ _)
  refine⟨u,rv,?_⟩
  rcases S.par y (List.mem_of_getElem? hp) with k|k
  ·exact .inl ⟨k,bindL_get ndP hp hu k⟩
  ·obtain⟨c,e⟩:=cell_has (n:=s.heap.objs.size+1) k
   refine .inr ⟨.inl k,c,e,?_⟩
   have q:=x.cell y c e
   rw [bindC_get ndP hp hu (by show scope.names.lookup y≠_;rw [k];decide)] at q
   exact q
 ·exact e0.hok.fresh (Nat.le_of_lt (x.above y c (PySem.mem_of_lookup h)))
 ·unfold start
  show _=N.length
  rw [List.length_append,List.length_map,List.length_replicate]
  omega
theorem bindParams1 {M:Model}{A:Around}{E:Value→Shared→Prop}{s₀ s:Shared}{m cm:Str→Option Value}{env:Env}(f:Str×Value→PUnit→Sem (ForInStep PUnit))(hf:∀n v u,f (n,v) u=(do storeName env n v;pure (.yield ⟨⟩)))(hfn:env.scope.kind= .function)
  (n:Str) (v:Value) (r:List (Str×Value)) (Q:PUnit→Shared→Prop) (x:InCallC s₀ env.locals m env.cells cm s) (hl:env.kindOf n=some .local)
  (hrs:∀x∈r,env.kindOf x.1=some .local∨(env.kindOf x.1=some .cell∧(env.cells.lookup x.1).isSome=true))
  (h:∀s',InCallC s₀ env.locals (bindL env.kindOf ((n,v)::r) m) env.cells (bindC env.kindOf ((n,v)::r) cm) s'→0<s'.toks→Q ⟨⟩ s'):wpAny M A (forIn ((n,v)::r) ⟨⟩ f) Q E s:=by
 rw [List.forIn_cons,hf]
 refine wpAny_bind (wpAny_bind (wpAny_storeName_local hl x.toInCall.ns (fun h' hn' hs'=>wpAny_pure ?_) (by rw [hfn];rfl)))
 have x1:InCallC s₀ env.locals (fun y=>if y=n then some v else m y) env.cells cm {s with heap:=h',toks:=s.toks+1}:=by
  refine⟨⟨?_,hn',fun b o e=> ?_,x.toInCall.fresh⟩,fun k c hc=> ?_,x.apart,x.above⟩
  ·obtain⟨h₁,tk,rfl⟩:=x.toInCall.same
   exact⟨h',_,rfl⟩
  ·have:=x.toInCall.keep b o e;exact hs'.extBut b o (Nat.ne_of_lt (Nat.lt_of_lt_of_le (Heap.lt_size e) x.toInCall.fresh)) (x.toInCall.keep b o e)
  ·exact(x.cell k c hc).sameBut hs' (Nat.ne_of_gt (x.above k c (mem_of_lookup hc)))
 refine wpAny_with_toks (n:=1) (Nat.succ_le_succ (Nat.zero_le _)) (wpAny_bindParams f hf hfn r _ _ _ _ x1 hrs fun s' y h1=>h s' ?_ h1)
 unfold bindL bindC
 rw [if_pos hl,if_pos hl]
 exact y
theorem newEnv_tk {M:Model}{A:Around}{E:Value→Shared→Prop}{s:Shared}{scope:Scope}{globals:Addr}{binds:List (Str×Value)}{qual:Str}{func:Option Addr}{code:Value}{builtins:Addr}{Q:Env→Shared→Prop}
  (hfn:scope.kind= .function)
  (hks:∀x∈binds,scope.names.lookup x.1=some .local∨(scope.names.lookup x.1=some .cell∧((cellsFrom (s.heap.objs.size+1) scope.names []).lookup x.1).isSome=true))
  (htk:0<s.toks∨∃n v r,binds=(n,v)::r∧scope.names.lookup n=some .local)
  (hq:∀en,en=newEnv scope s.heap.objs.size globals (cellsFrom (s.heap.objs.size+1) scope.names []) qual func code none builtins→
   ∀s',InCallC s en.locals (bindL en.kindOf binds fun _=>none) en.cells (bindC en.kindOf binds fun _=>none) s'→0<s'.toks→Q en s'):
  wpAny M A (newFunctionEnv scope globals [] binds qual func code none builtins) Q E s:=by
 rcases htk with htk|⟨n,v,r,rfl,hl⟩
 ·exact wpAny_with_toks (n:=1) htk (wpAny_newFunctionEnv_cells hfn hks fun env he s' x h1=>hq env he s' x h1)
 ·simp only [newFunctionEnv,Option.isSome_none,Bool.false_eq_true,if_false];refine wpAny_bind (wpAny_alloc ?_);refine wpAny_bind (wpAny_layCells _ (fun name kind cells=>by cases hkc:kind==NameKind.cell<;>simp [hkc]) _ _ _ _ ?_)
  have okc:=cellsFrom_ok scope.names (s.heap.push {cls:= .type "frame",data:= .dict #[]}) (s.heap.objs.size+1) [] ⟨fun _ _ hm=>(nomatch hm),List.Pairwise.nil⟩ (by rw [Heap.size_push];exact Nat.le_refl _);rw [Heap.size_push] at okc;rw [show({s with heap:=s.heap.push {cls:= .type "frame",data:= .dict #[]}}:Shared).heap.objs.size=s.heap.objs.size+1 from Heap.size_push ..]
  exact wpAny_bind (bindParams1 (s₀:=s) (env:=newEnv scope s.heap.objs.size globals (cellsFrom (s.heap.objs.size+1) scope.names []) qual func code none builtins)
   _ (fun _ _ _=>rfl) hfn n v r _
   ⟨⟨⟨_,_,by rfl⟩,(Heap.Ns.new s.heap (.type "frame")).keeps (pushCells_keeps _ _),fun b o e=>pushCells_keeps _ _ b o (Heap.get?_push_of_some _ e),Nat.le_refl _⟩,
    fun m c hc=>(okc.empty m c (mem_of_lookup hc)).1,okc.apart,fun n c hm=>(okc.empty n c hm).2⟩
   hl (fun y hy=>hks y (List.mem_cons_of_mem _ hy)) fun s' x h1=>wpAny_pure (hq _ rfl s' x h1))
theorem fn_of {CX:CXT}{P:Program}{w:World}{K:PySem.W.Frag}{mg:Str→Option Value}{base:Heap}{k:Nat}{f:Addr}{name qual:Str}{params:Arguments}{body:List Stmt}{scope:Scope}{dV kV doc pm cdv ct oc:Value}{an od:Option Addr}
  {osl:Array (Option Value)}{N ps:List Str}{sp:Sp} (lk:K.lookup f=some ⟨oc,od,.func (PySem.W.fnOf name qual params body scope dV kV doc pm an cdv ct),osl⟩) (hcd:PySem.W.codeIn K cdv qual=true) (S:qz N ps scope)
  (len:∀vs H Q E,sp vs H Q E→vs.length=ps.length)
  (hbody:∀(A:Around) (outer:List Env) (s:Shared) (H:Hp) (vs:List V) (Q:VK) (E:XK),Room k (A.deeper (envOfC qual scope s.heap.objs.size f cdv))→sp vs H Q E→
   ∃t,PSs (cxOf CX P w K mg base N qual scope f cdv A outer s H E) body t∧t {nx:=fun _ H'=>Q .non H',rt:=Q} (start N vs) H):
  FnOk P w K mg base CX (k+1) f (PySem.W.fnOf name qual params body scope dV kV doc pm an cdv ct) ps sp:=by
 refine⟨len,fun A outer s H args us vs Q E hr e0 hb r hsp htk=> ?_⟩
 have hl:=len _ _ _ _ hsp
 have KX:K.In s.heap:=e0.mod.kin.keeps fun b o e=>(e0.bs b o e).1
 have lim:s.heap.NoLimit:=e0.mod.nolimit.keeps fun b o e=>(e0.bs b o e).1
 have hkind:∀y∈ps.zip us,scope.names.lookup y.1=some .local∨(scope.names.lookup y.1=some .cell∧((cellsFrom (s.heap.objs.size+1) scope.names []).lookup y.1).isSome=true):=fun⟨n,v⟩ hy=>by
  rcases S.par n (List.of_mem_zip hy).1 with q|q
  ·exact .inl q
  ·exact .inr ⟨q,PySem.W.cellsFrom_some _ _ _ (.inl q)⟩
 have htk':0<s.toks∨∃n v r,ps.zip us=(n,v)::r∧scope.names.lookup n=some .local:=by
  rcases htk with h|⟨y,q,e,hy⟩
  ·exact .inl h
  ·have:us.length=ps.length:=by rw [←r.length];exact hl
   subst e
   match us,this with
   |u::us',_=>exact .inr ⟨y,u,q.zip us',rfl,hy⟩
 refine codeAny_call_function hr.depth (KX _ _ lk) rfl S.co S.gen rfl (PySem.W.codeRec_of KX hcd) (hb _ _ _ _ ?_)
 refine newEnv_tk S.kind hkind htk' fun env he s1 x ht1=> ?_
 subst he
 refine⟨lim.keeps x.toInCall.keep,codeAny_func ?_⟩
 obtain⟨t,ht,hq⟩:=hbody A outer s H vs Q E (hr.deeper _) hsp
 have I:Inv (cxOf CX P w K mg base N qual scope f cdv A outer s H E) [] (start N vs) H s1:=inv_start S hr.hd e0 hl r x ht1
 refine wpAny_mono (ht [] s1 (start N vs) H _ I hq) (fun fl s' hs=> ?_) fun e s' hs=>hs
 have fin:∀{σ':St}{H':Hp}{v:V}{u:Value},Inv (cxOf CX P w K mg base N qual scope f cdv A outer s H E) [] σ' H' s'→RelV v u→Q v H'→CE outer P w H s Q u s':=
  fun{σ' H' v u} J rv q=>⟨v,H',J.os,J.bare,J.tk,J.base,J.hok,rv,q⟩
 cases fl with
 |ret u=>
  obtain⟨v,σ',H',J,rv,q⟩:=hs
  exact fin J rv q
 |next=>
  obtain⟨σ',H',J,q⟩:=hs
  exact fin (v:=V.non) (u:=Value.none) J rfl q
 |brk=>
  obtain⟨_,_,_,q⟩:=hs
  exact False.elim q
 |cont=>
  obtain⟨_,_,_,q⟩:=hs
  exact False.elim q
end L2
namespace L2
open PySem PySem.Spec PyProof.Rows
section
variable {X:Cx}{x:Str}{p pos:Pos}{e:Expr}{es:List Expr}{t:TA}{id T:String}{r:List V→Hp→VK→Prop}
def tCB (r:List V→Hp→VK→Prop)(t:TA):TE:=fun σ H Q=>t σ H fun vs H1=>r vs H1 Q
theorem qp (hc:jR X (.builtin id) r)(hg:Gl X x)(hm:X.mg x=none)(hv:bootBuiltins x=some (.builtin id))(ha:PA X (e::es) t)(hn:x≠"__name__":=by decide)(hdb:(x==("__debug__":Str))=false:=by decide)
  (he:starEach (e::es) X.env=(false,eval e X.env)::starEach es X.env:=by rfl) (hpl:(backTo pos (starEach es X.env)).any (·.1)=false:=by rfl):PE X (.Call (.Name x p) (e::es) [] pos) (tCB r t):=by
 intro pins s σ H Q I h
 refine wpAny_Call_Name_kw (zG I hg hm hv ?_ hn hdb)
 exact PyProof.Rows.callWith_builtin1 (thn (ha pos pins s σ H _ I h) fun us s1 ⟨vs,H1,I1,r1,q1⟩=>hc pins s1 σ H1 vs us Q I1 r1 q1) he hpl
theorem QE (hc:jR X (.type T) r)(hg:Gl X x)(hm:X.mg x=none)(hv:bootBuiltins x=some (.type T))(ha:PA X (e::es) t)(hn:x≠"__name__":=by decide)(hdb:(x==("__debug__":Str))=false:=by decide)
  (he:starEach (e::es) X.env=(false,eval e X.env)::starEach es X.env:=by rfl) (hpl:(backTo pos (starEach es X.env)).any (·.1)=false:=by rfl):PE X (.Call (.Name x p) (e::es) [] pos) (tCB r t):=by
 intro pins s σ H Q I h
 refine wpAny_Call_Name_kw (zG I hg hm hv ?_ hn hdb)
 exact PyProof.Rows.callWith_type1 (thn (ha pos pins s σ H _ I h) fun us s1 ⟨vs,H1,I1,r1,q1⟩=>hc pins s1 σ H1 vs us Q I1 r1 q1) he hpl
end
end L2
namespace HT
open PySem PyProof.Rows
section
open PySem.SeqAt
open PySem.AutoSeq1 (wpAny_loadPart')
open PySem.MeetsSeq PySem.MeetsSeq2 PySem.MeetsSeq3
end
section
variable {prog:Program}{w:World}{A:Around}{E:Value→Shared→Prop}{s:Shared}
theorem cat_tup {t b:Addr}{vs ws:List Value}{Q:Value→Shared→Prop}(ht:IsTup s.heap t vs.toArray)(hb:IsTup s.heap b ws.toArray)(hv:vs≠ [])
  (h1:ws= []→Q (.ref t) s) (h2:ws≠ []→Q (.ref s.heap.objs.size) {s with heap:=s.heap.push {cls:= .type "tuple",data:= .seq (vs++ws).toArray}})
  (hsz:vs.length+ws.length≤sizeLine):wpAny (model prog w) A (binaryOp .Add (.ref t) (.ref b)) Q E s:=by
 obtain⟨⟨cls,dd,data,sl⟩,ho,hc,n,hd⟩:=id ht
 obtain⟨⟨cls2,dd2,data2,sl2⟩,ho2,hc2,n2,hd2⟩:=id hb
 simp only at hc hd hc2 hd2
 subst hc hd hc2 hd2
 have e:vs.toArray++ws.toArray=(vs++ws).toArray:=by simp
 by_cases hw:ws= []
 ·exact concat_meets ⟨_,ho,rfl⟩ ⟨_,ho2,rfl⟩ noFill_tuple_add seq_tuple_add PySem.F.slot_tuple_add PySem.F.entry_tuple_add (PySem.F.args_tuple_add_2 _ _)
   (tuple_addW1 t b vs.toArray ws.toArray n n2 dd dd2 sl sl2 (by simpa using hv) (by simp [hw])) ⟨ho,ho2,h1 hw⟩
 ·refine concat_meets ⟨_,ho,rfl⟩ ⟨_,ho2,rfl⟩ noFill_tuple_add seq_tuple_add PySem.F.slot_tuple_add PySem.F.entry_tuple_add (PySem.F.args_tuple_add_2 _ _)
   (tuple_addW2 t b vs.toArray ws.toArray n n2 dd dd2 sl sl2 (by simpa using hv) (by simpa using hw) (by rw [List.size_toArray,List.size_toArray];exact hsz)) ⟨ho,ho2,?_⟩
  rw [e]
  exact h2 hw
def sIx (n d:Nat):Option Int→Nat
 |none=>d
 |some v=>if v<0 then(v+(n:Int)).toNat else min v.toNat n
theorem sIx_none (n d:Nat):sIx n d none=d:=rfl
theorem sIx_nat (n d k:Nat):sIx n d (some (k:Int))=min k n:=by
 show(if(k:Int)<0 then((k:Int)+(n:Int)).toNat else min (k:Int).toNat n)=min k n
 rw [if_neg (by omega),Int.toNat_natCast]
theorem sIx_le (n d:Nat)(hd:d≤n)(o:Option Int):sIx n d o≤n:=by
 cases o with
 |none=>exact hd
 |some v=>
  show(if v<0 then(v+(n:Int)).toNat else min v.toNat n)≤n
  by_cases hv:v<0
  ·rw [if_pos hv];omega
  ·rw [if_neg hv];exact Nat.min_le_right _ _
theorem clip_eq (v:Int)(n d:Nat):(if v<0 then max (v+(n:Int)) 0 else min v (n:Int))=((sIx n d (some v):Nat):Int):=by
 show(if v<0 then max (v+(n:Int)) 0 else min v (n:Int))=(((if v<0 then(v+(n:Int)).toNat else min v.toNat n):Nat):Int)
 by_cases hv:v<0
 ·simp only [if_pos hv];omega
 ·simp only [if_neg hv];omega
theorem adjust_gen (lo hi:Option Int)(n:Nat):Builtin.Slice.sliceAdjust lo hi 1 (n:Int)=(((sIx n 0 lo:Nat):Int),((sIx n n hi:Nat):Int)):=by
 have h1:¬((1:Int)<0):=by omega
 unfold Builtin.Slice.sliceAdjust
 simp only [h1,if_false]
 refine Prod.ext ?_ ?_
 ·cases lo with
  |none=>rfl
  |some v=>exact clip_eq v n 0
 ·cases hi with
  |none=>rfl
  |some v=>exact clip_eq v n n
theorem places_gen (i j:Nat):Builtin.Slice.slicePlaces (i:Int) (j:Int) 1=j-i:=by
 unfold Builtin.Slice.slicePlaces
 have h1:(1:Int)>0:=by omega
 simp only [h1,if_true,Int.ediv_one]
 split<;>omega
theorem ZQ {v:Value}{o:Option Int}{Q:Option Int→Shared→Prop}(p:IsPart v o)(h:Q o s):wpAny (model prog w) A (Builtin.Slice.slicePartIndex v) Q E s:=by
 cases p with
 |none=>exact slicePart_none h
 |int i t=>exact slicePart_int h
theorem Jc {sl:Addr}{vl vu:Value}{lo hi:Option Int}{n:Nat}{Q:Int×Int×Nat→Shared→Prop}(hs:s.heap.IsSliceOf sl vl vu .none)(pl:IsPart vl lo)(pu:IsPart vu hi)
  (h:Q (((sIx n 0 lo:Nat):Int),1,sIx n n hi-sIx n 0 lo) s):wpAny (model prog w) A (Builtin.Slice.sliceApplied (.ref sl) (pure (n:Int))) Q E s:=by
 obtain⟨os,hos,hcs,hds⟩:=id hs
 unfold Builtin.Slice.sliceApplied Builtin.Slice.sliceFields
 refine wpAny_bind (wpAny_bind (wpAny_field hos hds (x:=vl) rfl (wpAny_bind (wpAny_field hos hds (x:=vu) rfl (wpAny_bind (wpAny_field hos hds (x:= .none) rfl (wpAny_pure ?_)))))))
 refine wpAny_bind (slicePart_none ?_)
 show wpAny _ _ (if((1:Int)==0)=true then _ else _) _ _ s
 rw [if_neg (by decide)]
 refine wpAny_bind (ZQ pl (wpAny_bind (ZQ pu (wpAny_bind (wpAny_pure ?_)))))
 show wpAny _ _ (match Builtin.Slice.sliceAdjust lo hi 1 (n:Int) with|(lo,hi)=>pure (lo,(1:Int),Builtin.Slice.slicePlaces lo hi 1)) _ _ s
 rw [adjust_gen lo hi n]
 show wpAny _ _ (pure (((sIx n 0 lo:Nat):Int),(1:Int),Builtin.Slice.slicePlaces ((sIx n 0 lo:Nat):Int) ((sIx n n hi:Nat):Int) 1)) _ _ s
 rw [places_gen]
 exact wpAny_pure h
theorem pick_gen (xs:Array Value)(i k:Nat):((List.range k).filterMap fun(m:Nat)=>xs[((i:Int)+(m:Int)*1).toNat]?).toArray=((xs.toList.drop i).take k).toArray:=by
 have e:(fun(m:Nat)=>xs[((i:Int)+(m:Int)*1).toNat]?)=fun m=>xs[i+m]? :=by
  funext m
  have:((i:Int)+(m:Int)*1).toNat=i+m:=by omega
  rw [this]
 rw [e]
 have:=pick_run xs i k
 rw [List.filterMap_map] at this
 have e2:((fun x=>xs[x]?)∘fun x=>i+x)=fun m=>xs[i+m]? :=rfl
 rw [e2] at this
 rw [this]
theorem getItem_tuple_cut {t sl:Addr}{items:Array Value}{vl vu:Value}{lo hi:Option Int}{Q:Value→Shared→Prop}(ht:IsTup s.heap t items)(hs:s.heap.IsSliceOf sl vl vu .none)(pl:IsPart vl lo)(pu:IsPart vu hi)
  (hw:¬(sIx items.size 0 lo=0∧sIx items.size items.size hi=items.size))
  (h:Q (.ref s.heap.objs.size) {s with heap:=s.heap.push {cls:= .type "tuple",data:= .seq ((items.toList.drop (sIx items.size 0 lo)).take (sIx items.size items.size hi-sIx items.size 0 lo)).toArray}})
  (hsz:items.size≤sizeLine):wpAny (model prog w) A (getItem (.ref t) (.ref sl)) Q E s:=by
 have htake:sizeOk (.seq ((items.toList.drop (sIx items.size 0 lo)).take (sIx items.size items.size hi-sIx items.size 0 lo)).toArray):=by
  show((items.toList.drop (sIx items.size 0 lo)).take (sIx items.size items.size hi-sIx items.size 0 lo)).toArray.size≤sizeLine
  rw [List.size_toArray,List.length_take,List.length_drop,Array.length_toList]
  omega
 have hj:sIx items.size items.size hi≤items.size:=sIx_le _ _ (Nat.le_refl _) hi
 obtain⟨os,hos,hcs,hds⟩:=id hs
 have hTs:s.TypeIs (.ref sl) "slice":=⟨os,hos,hcs⟩
 unfold getItem
 try with_reducible refine wpAny_holding ?_
 first|refine wpAny_bind (wpAny_pure ?_)|skip
 refine wpAny_bind (wpAny_sequenceKey ht.typeIs (by decide) ?_)
 refine wpAny_bind (wpAny_callSpecial?_slot (name:=Str.ofString "__getitem__") ht.typeIs PyProof.Rows.slot_tuple_getitem
  (wpAny_call_entry PyProof.Rows.slot_tuple_getitem ht.typeIs entry_tuple_getitem ?_ (args_tuple_getitem _ _)))
 show wpAny _ _ (Builtin.Tuple.tupleItemsOf (.ref t)>>=_) _ _ s
 refine wpAny_bind (tupleItemsOf_ ht ?_)
 refine wpAny_bind (wpAny_typeOf hTs ?_)
 rw [if_pos (by decide)]
 refine wpAny_bind (Jc hs pl pu ?_)
 have hno:¬((((sIx items.size 0 lo:Nat):Int)==0&&(1:Int)==1&&(sIx items.size items.size hi-sIx items.size 0 lo)==items.size)=true):=by
  intro q
  rw [Bool.and_eq_true,Bool.and_eq_true] at q
  have q1:((sIx items.size 0 lo:Nat):Int)=0:=eq_of_beq q.1.1
  have q2:sIx items.size items.size hi-sIx items.size 0 lo=items.size:=eq_of_beq q.2
  exact hw ⟨by omega,by omega⟩
 show wpAny _ _ (if(((sIx items.size 0 lo:Nat):Int)==0&&(1:Int)==1&&(sIx items.size items.size hi-sIx items.size 0 lo)==items.size)=true then _ else _) _ _ s
 rw [if_neg hno,pick_gen]
 first
  |exact wpAny_bind (m:=Builtin.Tuple.tupleExact _) (wpAny_newObj_type (wpAny_pure ⟨_,rfl,wpAny_pure h⟩) htake)
  |exact wpAny_bind (m:=Builtin.Tuple.tupleExact _) (wpAny_newObj_type (wpAny_bind (wpAny_pure (wpAny_pure ⟨_,rfl,wpAny_pure h⟩))) htake)
  |exact wpAny_bind (wpAny_bind (m:=Builtin.Tuple.tupleExact _) (wpAny_newObj_type (wpAny_pure (wpAny_pure ⟨_,rfl,wpAny_pure h⟩)) htake))
  |exact wpAny_bind (wpAny_bind (m:=Builtin.Tuple.tupleExact _) (wpAny_newObj_type (wpAny_pure ⟨_,rfl,wpAny_pure h⟩) htake))
end
end HT
namespace L2
open PySem PySem.Spec PyProof.Rows
abbrev TO:=St→Hp→(Option Int→Hp→Prop)→Prop
def PO (X:Cx)(e:Option Expr)(t:TO):Prop:=
 ∀(pins:List (Addr×Obj)) (s:Shared) (σ:St) (H:Hp) (Q:Option Int→Hp→Prop),Inv X pins σ H s→t σ H Q→
  wpAny (model X.prog X.w) X.A (evalPart e X.env) (fun u s'=>∃o H',Inv X pins σ H' s'∧IsPart u o∧Q o H') X.xe s
def tNoPart:TO:=fun _ H Q=>Q none H
def tPart (t:TE):TO:=fun σ H Q=>t σ H fun x H1=>∃i,x= .int i∧Q (some i) H1
theorem intsAre_of {ns:List Int}:∀{us:List Value},Vals (ns.map V.int) us→IntsAre us ns:=by
 induction ns with
 |nil=>intro us r;rw [List.map_nil] at r;cases r;exact .nil
 |cons n ns ih=>
  intro us r
  rw [List.map_cons] at r
  cases r with
  |cons r1 r2=>
   obtain⟨t,e⟩:=r1
   subst e
   exact .cons n t (ih r2)
section
variable {X:Cx}{e:Expr}{te:TE}{lo hi:Option Expr}{tl th:TO}{pos p2:Pos}
theorem Y7:PO X none tNoPart:=by
 intro pins s σ H Q I h
 rw [evalPart_none]
 exact wpAny_pure ⟨none,H,I,.none,h⟩
theorem Y4 (h:PE X e te):PO X (some e) (tPart te):=by
 intro pins s σ H Q I hw
 rw [evalPart_some]
 refine thn (h pins s σ H _ I hw) fun u s1 ⟨x,H1,I1,r1,q1⟩=> ?_
 obtain⟨i,rfl,q⟩:=q1
 obtain⟨t,rfl⟩:=r1
 exact⟨some i,H1,I1,.int i t,q⟩
def SlR (X:Cx)(r:V→Option Int→Option Int→Hp→VK→Prop):Prop:=
 ∀(pins:List (Addr×Obj)) (s:Shared) (σ:St) (H:Hp) (x:V) (v vl vu:Value) (lo hi:Option Int) (sl:Addr) (Q:VK),Inv X pins σ H s→RelV x v→s.heap.IsSliceOf sl vl vu .none→IsPart vl lo→IsPart vu hi→r x lo hi H Q→
  ∃T id,typeLookup (.type T) "__getitem__"=pure (some (.builtin id))∧s.TypeIs v T∧wpAny (model X.prog X.w) X.A (getItem v (.ref sl)) (EP X pins σ Q) X.xe s
theorem SlR.or {r r':V→Option Int→Option Int→Hp→VK→Prop}(h:SlR X r)(h':SlR X r'):SlR X (fun x lo hi H Q=>r x lo hi H Q∨r' x lo hi H Q):=by
 intro pins s σ H x v vl vu lo hi sl Q I rx hs pl pu q
 rcases q with q|q
 ·exact h pins s σ H x v vl vu lo hi sl Q I rx hs pl pu q
 ·exact h' pins s σ H x v vl vu lo hi sl Q I rx hs pl pu q
def tSl (r:V→Option Int→Option Int→Hp→VK→Prop)(te:TE)(tl th:TO):TE:=fun σ H Q=>te σ H fun x H1=>tl σ H1 fun l H2=>th σ H2 fun u H3=>r x l u H3 Q
theorem yY {r:V→Option Int→Option Int→Hp→VK→Prop}(hr:SlR X r)(he:PE X e te)(hl:PO X lo tl)(hu:PO X hi th):PE X (.Subscript e (.Slice lo hi none p2) pos) (tSl r te tl th):=by
 intro pins s σ H Q I h
 refine Subscript_ (thn (he pins s σ H _ I h) fun v s1 ⟨x,H1,I1,r1,q1⟩=> ?_)
 refine wpAny_Slice (thn (hl pins s1 σ H1 _ I1 q1) fun vl s2 ⟨l,H2,I2,pl,q2⟩=>thn (hu pins s2 σ H2 _ I2 q2) fun vu s3 ⟨u,H3,I3,pu,q3⟩=> ?_)
 rw [evalPart_none]
 refine wpAny_pure ?_
 have I4:Inv X pins σ H3 {s3 with heap:=s3.heap.push {cls:= .type "slice",data:= .fields #[vl,vu,.none]}}:=I3.kept (t':=s3.toks) fun b ob q=>Heap.get?_push_of_some _ q
 obtain⟨T,id,hT,ht,hg⟩:=hr pins {s3 with heap:=s3.heap.push {cls:= .type "slice",data:= .fields #[vl,vu,.none]}} σ H3 x v vl vu l u s3.heap.objs.size Q I4 r1 (Heap.IsSliceOf.new ..) pl pu q3
 show wpAny (model X.prog X.w) X.A (subscriptTail e (.Slice lo hi none p2) v (.ref s3.heap.objs.size)) (EP X pins σ Q) X.xe {s3 with heap:=s3.heap.push {cls:= .type "slice",data:= .fields #[vl,vu,.none]}}
 exact tail_any (ops:= [.ref s3.heap.objs.size,v]) ht hT hg (by with_unfolding_all rfl)
def cutV (xs:List V)(lo hi:Option Int):List V:=(xs.drop (HT.sIx xs.length 0 lo)).take (HT.sIx xs.length xs.length hi-HT.sIx xs.length 0 lo)
theorem XY (xs:List V)(lo hi:Option Int):(cutV xs lo hi).length≤xs.length:=by
 unfold cutV
 rw [List.length_take,List.length_drop]
 omega
def rSlT (K:PySem.W.Frag):V→Option Int→Option Int→Hp→VK→Prop:=fun x lo hi H Q=>∃a xs,x= .ref a∧SqT K H a xs∧
 ¬(HT.sIx xs.length 0 lo=0∧HT.sIx xs.length xs.length hi=xs.length)∧∀p,H p=none→Q (.ref p) (upd H p (.tup (cutV xs lo hi)))
theorem sl_tup:SlR X (rSlT X.K):=by
 intro pins s σ H x v vl vu lo hi sl Q I rx hs pl pu h
 obtain⟨a,xs,rfl,hx,hw,q⟩:=h
 cases rx
 obtain⟨its,r,ht,hz⟩:=I.tuple hx
 have hlen:its.toArray.size=xs.length:=by rw [List.size_toArray];exact r.length.symm
 refine⟨"tuple",_,PyProof.Rows.slot_tuple_getitem.lookup,ht.typeIs,?_⟩
 refine HT.getItem_tuple_cut ht hs pl pu (by rw [hlen];exact hw) ?_ (by rw [hlen];exact hz)
 rw [hlen]
 refine⟨.ref s.heap.objs.size,_,I.laid (t':=s.toks) (o:= .tup (cutV xs lo hi)) (fun b ob q=>Heap.get?_push_of_some _ q) (Nat.le_refl _) ?_,rfl,q _ (I.hok.fresh (Nat.le_refl _))⟩
 exact⟨Nat.le_trans (XY xs lo hi) hz,_,(r.drop (HT.sIx xs.length 0 lo)).take (HT.sIx xs.length xs.length hi-HT.sIx xs.length 0 lo),IsTup.new _ _⟩
def rCatT (K:PySem.W.Frag):R2:=fun x y H Q=>∃a b xs ys,x= .ref a∧y= .ref b∧SqT K H a xs∧SqT K H b ys∧xs≠ []∧xs.length+ys.length≤sizeLine∧
 (ys= []→Q (.ref a) H)∧(ys≠ []→∀p,H p=none→Q (.ref p) (upd H p (.tup (xs++ys))))
theorem Vals.nil_iff {xs:List V}{us:List Value}(r:Vals xs us):us= []↔xs= []:=by
 cases r with
 |nil=>simp
 |cons _ _=>simp
theorem op_catT:OpR X (binaryOp .Add) (rCatT X.K):=by
 intro pins s σ H x y v u Q I rx ry h
 obtain⟨a,b,xs,ys,rfl,rfl,ha,hb,hx,hz,q1,q2⟩:=h
 cases rx
 cases ry
 obtain⟨its,r1,p1,_⟩:=I.tuple ha
 obtain⟨its2,r2,p2,_⟩:=I.tuple hb
 refine HT.cat_tup p1 p2 (fun z=>hx (r1.nil_iff.mp z)) (fun z=>⟨.ref a,H,I,rfl,q1 (r2.nil_iff.mp z)⟩) (fun z=> ?_) (by rw [←r1.length,←r2.length];exact hz)
 refine⟨.ref s.heap.objs.size,_,I.laid (t':=s.toks) (o:= .tup (xs++ys)) (fun b ob q=>Heap.get?_push_of_some _ q) (Nat.le_refl _) ?_,rfl,q2 (fun w=>z (r2.nil_iff.mpr w)) _ (I.hok.fresh (Nat.le_refl _))⟩
 exact⟨by rw [List.length_append];exact hz,_,r1.append r2,IsTup.new _ _⟩
end
end L2
namespace L2
open PySem PySem.Spec PyProof.Rows
def ixN (n:Nat)(i:Int):Option Nat:=if 0≤i then(if i<n then some i.toNat else none) else if-(n:Int)≤i then some (i+n).toNat else none
def atI {α:Type}(xs:List α)(i:Int):Option α:=(ixN xs.length i).bind fun j=>xs[j]?
theorem ixN_seq {n:Nat}{i:Int}{j:Nat}(h:ixN n i=some j):seqIndex? i n=some j∧j<n∧-(n:Int)≤i∧i<n:=by
 unfold ixN at h
 by_cases h0:0≤i
 ·rw [if_pos h0] at h
  by_cases h1:i<n
  ·rw [if_pos h1] at h
   have e:i.toNat=j:=Option.some.inj h
   exact⟨by rw [seqIndex_of h0 h1,e],by omega,by omega,h1⟩
  ·rw [if_neg h1] at h;cases h
 ·rw [if_neg h0] at h
  by_cases h1: -(n:Int)≤i
  ·rw [if_pos h1] at h
   have e:(i+n).toNat=j:=Option.some.inj h
   exact⟨by rw [seqIndex_neg (by omega) h1,e],by omega,h1,by omega⟩
  ·rw [if_neg h1] at h;cases h
theorem Z6 {α:Type}{xs:List α}{i:Int}{v:α}(h:atI xs i=some v):∃j,seqIndex? i xs.length=some j∧xs[j]? =some v∧j<xs.length∧-(xs.length:Int)≤i∧i<xs.length:=by
 unfold atI at h
 cases e:ixN xs.length i with
 |none=>rw [e] at h;cases h
 |some j=>
  rw [e] at h
  obtain⟨h1,h2,h3,h4⟩:=ixN_seq e
  exact⟨j,h1,h,h2,h3,h4⟩
theorem Qe {α:Type}{xs:List α}{j:Nat}{v:α}(h:xs[j]? =some v):atI xs (j:Int)=some v:=by
 have hj:j<xs.length:=(List.getElem?_eq_some_iff.mp h).1
 have e:ixN xs.length (j:Int)=some j:=by
  unfold ixN
  rw [if_pos (by omega),if_pos (by omega)];simp
 unfold atI;rw [e];exact h
theorem atI_last {α:Type}(xs:List α)(v:α):atI (xs++ [v]) (-1)=some v:=by
 have hl:(xs++ [v]).length=xs.length+1:=by simp
 have e:ixN (xs++ [v]).length (-1)=some xs.length:=by
  unfold ixN
  rw [hl,if_neg (by decide),if_pos (by omega)]
  congr 1
  omega
 unfold atI
 rw [e]
 show(xs++ [v])[xs.length]? =some v
 simp
def PlainIx (b:Expr):Prop:=∀o i,subscripted b false o i=operate [o,i] (getItem o i)
def IxR (X:Cx)(r:R2):Prop:=
 ∀(value slice:Expr) (pins:List (Addr×Obj)) (s:Shared) (σ:St) (H:Hp) (x y:V) (v u:Value) (Q:VK),Inv X pins σ H s→RelV x v→RelV y u→r x y H Q→
  subscripted slice false v u=operate [v,u] (getItem v u)→wpAny (model X.prog X.w) X.A (subscriptTail value slice v u) (EP X pins σ Q) X.xe s
def MtR (X:Cx)(id:String)(r:V→List V→Hp→VK→Prop):Prop:=
 ∀(pins:List (Addr×Obj)) (s:Shared) (σ:St) (H:Hp) (x:V) (xs:List V) (v:Value) (us:List Value) (Q:VK),Inv X pins σ H s→RelV x v→Vals xs us→r x xs H Q→
  wpAny (model X.prog X.w) X.A (call (.builtin id) (v::us)) (EP X pins σ Q) X.xe s
section
variable {X:Cx}{a b:Expr}{ta tb:TE}{pos:Pos}
theorem IxR.or {r r':R2}(h:IxR X r)(h':IxR X r'):IxR X (fun x y H Q=>r x y H Q∨r' x y H Q):=by
 intro value slice pins s σ H x y v u Q I rx ry q hs
 rcases q with q|q
 ·exact h value slice pins s σ H x y v u Q I rx ry q hs
 ·exact h' value slice pins s σ H x y v u Q I rx ry q hs
theorem qQ {r:R2}(hr:IxR X r)(ha:PE X a ta)(hb:PE X b tb)(hs:PlainIx b):PE X (.Subscript a b pos) (tOp r ta tb):=by
 intro pins s σ H Q I h
 exact Subscript_ (binT ha hb I h fun v u s2 x y H2 I2 rx ry q=>hr a b pins s2 σ H2 x y v u Q I2 rx ry q (hs _ _))
def rIxL (K:PySem.W.Frag):R2:=fun x y H Q=>∃p xs i v,x= .ref p∧y= .int i∧SqL K H p xs∧atI xs i=some v∧Q v H
def rIxT (K:PySem.W.Frag):R2:=fun x y H Q=>∃p xs i v,x= .ref p∧y= .int i∧SqT K H p xs∧atI xs i=some v∧Q v H
def rIxS:R2:=fun x y H Q=>∃z i c,x= .str z∧y= .int i∧z.length≤sizeLine∧atI z.cps.toList i=some c∧Q (.str ⟨#[c]⟩) H
theorem Yq:IxR X (rIxL X.K):=by
 intro value slice pins s σ H x y v u Q I rx ry h hs
 obtain⟨p,xs,i,z,rfl,rfl,hq,he,q⟩:=h
 cases rx
 obtain⟨t,rfl⟩:=ry
 obtain⟨its,r,pl,hz⟩:=I.list hq
 obtain⟨j,h1,h2,h3,h4,h5⟩:=Z6 he
 obtain⟨w,ew,rw'⟩:=r.get h2
 have hl:=r.length
 have hn:=Xn
 have fin:EP X pins σ Q w s:=⟨z,H,I,rw',q⟩
 by_cases h0:0≤i
 ·have hj:i.toNat=j:=by
   rw [seqIndex_of h0 h5] at h1
   exact Option.some.inj h1
  exact item_listR pl.isList h0 (by omega) (by rw [hj];simpa using ew) fin hs
 ·have hj:(i+(its.toArray.size:Int)).toNat=j:=by
   rw [seqIndex_neg (by omega) h4] at h1
   rw [List.size_toArray,←hl]
   exact Option.some.inj h1
  exact subscriptTail_builtinR (x:=w) pl.isList.typeIs slot_list_getitem.lookup
   (wpAny_getItem_list_neg (Q:=fun r s'=>r=w∧EP X pins σ Q r s') pl.isList (by omega) (by rw [List.size_toArray]<;>omega) (by omega) (by rw [hj];simpa using ew) ⟨rfl,fin⟩) hs
theorem qX:IxR X (rIxT X.K):=by
 intro value slice pins s σ H x y v u Q I rx ry h hs
 obtain⟨p,xs,i,z,rfl,rfl,hq,he,q⟩:=h
 cases rx
 obtain⟨t,rfl⟩:=ry
 obtain⟨its,r,pl,hz⟩:=I.tuple hq
 obtain⟨j,h1,h2,h3,h4,h5⟩:=Z6 he
 obtain⟨w,ew,rw'⟩:=r.get h2
 have hl:=r.length
 have hn:=Xn
 have fin:EP X pins σ Q w s:=⟨z,H,I,rw',q⟩
 exact subscriptTail_builtinR (x:=w) pl.typeIs slot_tuple_getitem.lookup
  (getItem_tuple (j:=j) (Q:=fun r s'=>r=w∧EP X pins σ Q r s') pl (by omega) (by omega) (by rw [List.size_toArray,←hl];exact h1) (by simpa using ew) ⟨rfl,fin⟩) hs
theorem ix_str:IxR X rIxS:=by
 intro value slice pins s σ H x y v u Q I rx ry h hs
 obtain⟨z,i,c,rfl,rfl,hz,he,q⟩:=h
 obtain⟨t,rfl⟩:=rx
 obtain⟨t',rfl⟩:=ry
 obtain⟨j,h1,h2,h3,h4,h5⟩:=Z6 he
 have hl:z.cps.toList.length=z.length:=by simp [Str.length]
 rw [hl] at h1 h4 h5
 have hn:=Xn
 exact tail_any (typeIs_str s z t) slot_str_getitem.lookup (getItem_str (c:=c) (by
  have e1:decide (i< -(2^63:Int))=false:=decide_eq_false (by omega)
  have e2:decide (i≥2^63)=false:=decide_eq_false (by omega)
  rw [e1,e2,Bool.or_false]) (by rw [h1];simpa using h2) ⟨.str ⟨#[c]⟩,H,I.tok _,⟨_,rfl⟩,q⟩) hs
def rIx (K:PySem.W.Frag):R2:=fun x y H Q=>rIxL K x y H Q∨rIxT K x y H Q∨rIxS x y H Q
theorem YD:IxR X (rIx X.K):=Yq.or (qX.or ix_str)
theorem mapSeq_set (its:List Value)(n j:Nat)(u:Value):Obj.mapSeq (·.setIfInBounds j u) {cls:= .type "list",data:= .seq its.toArray n}={cls:= .type "list",data:= .seq (its.set j u).toArray n}:=by
 simp [Obj.mapSeq]
theorem Inv.lst {pins:List (Addr×Obj)}{σ:St}{H:Hp}{s:Shared}{p:Addr}{xs:List V}(I:Inv X pins σ H s)(h:H p=some (.lst xs)):
  ∃(its:List Value) (n:Nat),Vals xs its∧s.heap.get? p=some {cls:= .type "list",data:= .seq its.toArray n}∧xs.length≤sizeLine:=by
 obtain⟨z,its,n,r,e⟩:=I.hok p _ h
 exact⟨its,n,r,e,z⟩
theorem Inv.lstUpd {pins:List (Addr×Obj)}{σ:St}{H:Hp}{s:Shared}{p:Addr}{xs ys:List V}{its its':List Value}{n n':Nat}{f:Obj→Obj}(I:Inv X pins σ H s)(h:H p=some (.lst xs))
  (ho:s.heap.get? p=some {cls:= .type "list",data:= .seq its.toArray n}) (hf:f {cls:= .type "list",data:= .seq its.toArray n}={cls:= .type "list",data:= .seq its'.toArray n'}) (r:Vals ys its') (hz:ys.length≤sizeLine) (t:Nat) (ht:0<t:=by((try dsimp only);first|assumption|exact Inv.tk (by assumption)|exact Nat.succ_pos _|exact Nat.lt_of_lt_of_le (Inv.tk (by assumption)) (by assumption)|exact Nat.add_pos_left (Inv.tk (by assumption)) _|omega)):
  Inv X pins σ (upd H p (.lst ys)) {s with heap:=s.heap.update p f,toks:=t}:=by
 have e:(s.heap.update p f).get? p=some {cls:= .type "list",data:= .seq its'.toArray n'}:=by
  rw [Heap.get?_update_self f ho (by rw [hf]<;>rfl),hf]
 refine I.write (x:=p) (e:=p) (by rw [h];trivial) (.inl rfl) (fun b u hb q=>(Heap.get?_update_other _ _ (Ne.symm hb)).trans q) ⟨_,e⟩ ?_
 exact⟨hz,its',n',r,e⟩
def rSetL:V→V→V→Hp→(Hp→Prop)→Prop:=fun o i v H Q=>∃p xs k j,o= .ref p∧i= .int k∧H p=some (.lst xs)∧ixN xs.length k=some j∧Q (upd H p (.lst (xs.set j v)))
theorem set_list:PSet X rSetL:=by
 intro pins s σ H o i v ov iv u Q I ro ri rv h
 obtain⟨p,xs,k,j,rfl,rfl,hp,hj,q⟩:=h
 cases ro
 obtain⟨t,rfl⟩:=ri
 obtain⟨its,n,r,ho,hz⟩:=I.lst hp
 obtain⟨h1,h2,h3,h4⟩:=ixN_seq hj
 have hl:=r.length
 have hn:=Xn
 have I':Inv X pins σ (upd H p (.lst (xs.set j v))) {s with heap:=s.heap.update p (Obj.mapSeq (·.setIfInBounds j u))}:=
  I.lstUpd hp ho (mapSeq_set its n j u) (r.set rv j) (by rw [List.length_set];exact hz) s.toks
 by_cases h0:0≤k
 ·have hk:k.toNat=j:=by
   rw [seqIndex_of h0 h4] at h1
   exact Option.some.inj h1
  exact PySem.W.ki_setAt ho h0 (by omega) (by rw [List.size_toArray,←hl];exact h4) (by rw [hk];exact⟨_,I',q⟩)
 ·have hk:(k+(its.toArray.size:Int)).toNat=j:=by
   rw [seqIndex_neg (by omega) h3] at h1
   rw [List.size_toArray,←hl]
   exact Option.some.inj h1
  exact PySem.W.ki_setBack ho (by omega) (by rw [List.size_toArray,←hl];exact h3) (by omega) (by rw [hk];exact⟨_,I',q⟩)
theorem slice_bounds (lo hi:Option Int)(n:Nat):(sliceBounds lo hi none n).1=((HT.sIx n 0 lo:Nat):Int)∧(sliceBounds lo hi none n).2.1=((HT.sIx n n hi:Nat):Int)∧(sliceBounds lo hi none n).2.2=1:=by
 refine⟨?_,?_,rfl⟩
 ·cases lo with
  |none=>simp [sliceBounds,HT.sIx]
  |some i=>
   simp only [sliceBounds,HT.sIx,Option.getD_none,show(1:Int)>0 by decide,if_true]
   by_cases h:i<0
   ·simp only [h,if_true]<;>omega
   ·simp only [h,if_false]<;>omega
 ·cases hi with
  |none=>simp [sliceBounds,HT.sIx]
  |some i=>
   simp only [sliceBounds,HT.sIx,Option.getD_none,show(1:Int)>0 by decide,if_true]
   by_cases h:i<0
   ·simp only [h,if_true]<;>omega
   ·simp only [h,if_false]<;>omega
theorem ZY (its:List Value)(lo hi:Option Int):slicePick its.toArray lo hi none=((its.drop (HT.sIx its.length 0 lo)).take (HT.sIx its.length its.length hi-HT.sIx its.length 0 lo)).toArray:=by
 obtain⟨h1,h2,h3⟩:=slice_bounds lo hi its.toArray.size
 unfold slicePick
 rw [h1,h2,h3]
 simp only [sliceRange_one,pick_run,List.size_toArray]<;>rfl
def rSlL (K:PySem.W.Frag):V→Option Int→Option Int→Hp→VK→Prop:=fun x lo hi H Q=>∃a xs,x= .ref a∧SqL K H a xs∧∀p,H p=none→Q (.ref p) (upd H p (.lst (cutV xs lo hi)))
theorem sl_list:SlR X (rSlL X.K):=by
 intro pins s σ H x v vl vu lo hi sl Q I rx hs pl pu h
 obtain⟨a,xs,rfl,hx,q⟩:=h
 cases rx
 obtain⟨its,r,ht,hz⟩:=I.list hx
 have hlen:=r.length
 refine⟨"list",_,slot_list_getitem.lookup,ht.isList.typeIs,?_⟩
 refine wpAny_getItem_list_slice ht.isList hs pl pu .none (by simp) ?_ (by rw [List.size_toArray]<;>omega)
 rw [ZY,←hlen]
 refine⟨.ref s.heap.objs.size,_,I.laid (t':=s.toks) (o:= .lst (cutV xs lo hi)) (fun b ob q=>Heap.get?_push_of_some _ q) (Nat.le_refl _) ?_,rfl,q _ (I.hok.fresh (Nat.le_refl _))⟩
 exact⟨Nat.le_trans (XY xs lo hi) hz,_,0,(r.drop (HT.sIx xs.length 0 lo)).take (HT.sIx xs.length xs.length hi-HT.sIx xs.length 0 lo),Heap.get?_push_size _ rfl⟩
def zA:V→Bool
 | .non=>true
 | .bl _=>true
 | .int _=>true
 | .str _=>true
 |_=>false
def eqV:V→V→Bool
 | .non,.non=>true
 | .bl a,.bl b=>a==b
 | .bl a,.int b=>(if a then 1 else 0)==b
 | .int a,.bl b=>a==(if b then 1 else 0)
 | .int a,.int b=>a==b
 | .str a,.str b=>a==b
 |_,_=>false
theorem eqAt_V {A:Around}{s:Shared}{y x:V}{u v:Value}(ry:RelV y u)(rx:RelV x v)(fy:zA y=true)(fx:zA x=true):SeqAt.EqAt A s u v (eqV y x):=by
 cases y with
 |non=>
  cases ry
  cases x with
  |non=>cases rx;exact SeqAt.EqAt.same _
  |bl b=>cases rx;exact SeqAt.EqAt.none_bool b
  |int b=>obtain⟨t,rfl⟩:=rx;exact SeqAt.EqAt.none_int b t
  |str b=>obtain⟨t,rfl⟩:=rx;exact SeqAt.EqAt.none_str b t
  |_=>exact absurd (show false=true from fx) Bool.false_ne_true
 |bl a=>
  cases ry
  cases x with
  |non=>cases rx;exact SeqAt.EqAt.bool_none a
  |bl b=>cases rx;exact SeqAt.EqAt.bool_bool a b
  |int b=>obtain⟨t,rfl⟩:=rx;exact SeqAt.EqAt.bool_int a b t
  |str b=>obtain⟨t,rfl⟩:=rx;exact SeqAt.EqAt.bool_str a b t
  |_=>exact absurd (show false=true from fx) Bool.false_ne_true
 |int a=>
  obtain⟨t',rfl⟩:=ry
  cases x with
  |non=>cases rx;exact SeqAt.EqAt.int_none a t'
  |bl b=>cases rx;exact SeqAt.EqAt.int_bool a t' b
  |int b=>obtain⟨t,rfl⟩:=rx;exact SeqAt.EqAt.int_int a t' b t
  |str b=>obtain⟨t,rfl⟩:=rx;exact SeqAt.EqAt.int_str a t' b t
  |_=>exact absurd (show false=true from fx) Bool.false_ne_true
 |str a=>
  obtain⟨t',rfl⟩:=ry
  cases x with
  |non=>cases rx;exact SeqAt.EqAt.str_none a t'
  |bl b=>cases rx;exact SeqAt.EqAt.str_bool a t' b
  |int b=>obtain⟨t,rfl⟩:=rx;exact SeqAt.EqAt.str_int a t' b t
  |str b=>obtain⟨t,rfl⟩:=rx;exact SeqAt.EqAt.str_str a t' b t
  |_=>exact absurd (show false=true from fx) Bool.false_ne_true
 |_=>exact absurd (show false=true from fy) Bool.false_ne_true
def eqU (x:V)(u:Value):Bool:=match u with
 | .none=>eqV .non x
 | .bool b=>eqV (.bl b) x
 | .int i _=>eqV (.int i) x
 | .str z _=>eqV (.str z) x
 |_=>false
theorem eqU_of {x y:V}{u:Value}(r:RelV y u)(f:zA y=true):eqU x u=eqV y x:=by
 cases y with
 |non=>cases r;rfl
 |bl b=>cases r;rfl
 |int i=>obtain⟨t,rfl⟩:=r;rfl
 |str z=>obtain⟨t,rfl⟩:=r;rfl
 |_=>exact absurd (show false=true from f) Bool.false_ne_true
theorem any_eqU {x:V}:∀{xs:List V}{us:List Value},Vals xs us→xs.all zA=true→us.any (eqU x)=xs.any fun y=>eqV y x
 |_,_,.nil,_=>rfl
 |y::xs,u::us,.cons r t,f=>by
  rw [List.all_cons,Bool.and_eq_true] at f
  rw [List.any_cons,List.any_cons,eqU_of r f.1,any_eqU t f.2]
theorem ZX {A:Around}{s:Shared}{x:V}{v:Value}(rx:RelV x v)(fx:zA x=true):∀{xs:List V}{us:List Value},Vals xs us→xs.all zA=true→∀u∈us,SeqAt.EqAt A s u v (eqU x u)
 |_,_,.nil,_=>fun u hu=>by cases hu
 |y::xs,u::us,.cons r t,f=>fun u' hu=>by
  rw [List.all_cons,Bool.and_eq_true] at f
  rcases List.mem_cons.mp hu with rfl|hu
  ·rw [eqU_of r f.1];exact eqAt_V r rx f.1 fx
  ·exact ZX rx fx t f.2 u' hu
def inV (x:V)(xs:List V):Bool:=xs.any fun y=>eqV y x
def rIn (K:PySem.W.Frag)(neg:Bool):R2:=fun x y H Q=>∃p xs,y= .ref p∧(SqL K H p xs∨SqT K H p xs)∧zA x=true∧xs.all zA=true∧Q (.bl (if neg then !inV x xs else inV x xs)) H
theorem yU:OpR X (compareOp .In) (rIn X.K false):=by
 intro pins s σ H x y v u Q I rx ry h
 obtain⟨p,xs,rfl,hq,fx,fs,q⟩:=h
 cases ry
 rcases hq with hq|hq
 ·obtain⟨its,r,pl,hz⟩:=I.list hq
  refine SeqAt.in_listAt (eqU x) pl.isList (fun w hw=>ZX rx fx r fs w (by simpa using hw)) ⟨.bl _,H,I,rfl,?_⟩
  rw [show its.toArray.any (eqU x)=its.any (eqU x) by simp,any_eqU r fs]
  exact q
 ·obtain⟨its,r,pl,hz⟩:=I.tuple hq
  refine SeqAt.in_tupleAt (eqU x) pl (fun w hw=>ZX rx fx r fs w (by simpa using hw)) ⟨.bl _,H,I,rfl,?_⟩
  rw [show its.toArray.any (eqU x)=its.any (eqU x) by simp,any_eqU r fs]
  exact q
theorem op_notIn_str:OpR X (compareOp .NotIn) (fun x y H Q=>∃i j,x= .str i∧y= .str j∧Q (.bl (!(!(Builtin.Str.occurrences j i 0 j.length 1).isEmpty))) H):=by
 intro pins s σ H x y v u Q I rx ry h
 obtain⟨i,j,rfl,rfl,q⟩:=h
 obtain⟨t,rfl⟩:=rx
 obtain⟨t',rfl⟩:=ry
 exact notIn_str ⟨.bl _,H,I,rfl,q⟩
theorem qE:jR X (.builtin "len") (fun xs H Q=>∃p ys,xs= [.ref p]∧(SqL X.K H p ys∨SqT X.K H p ys)∧Q (.int ys.length) H):=by
 intro pins s σ H xs us Q I r h
 obtain⟨p,ys,rfl,hq,q⟩:=h
 obtain⟨u,rfl,rx⟩:=xj r
 cases rx
 have hn:=Xn
 rcases hq with hq|hq
 ·obtain⟨its,r',pl,hz⟩:=I.list hq
  have hlen:=r'.length
  exact Calls.call_len_list pl.isList (by simp only [List.size_toArray]<;>omega) ⟨.int ys.length,H,I.tok _,⟨s.toks+1,by rw [List.size_toArray,hlen]⟩,q⟩
 ·obtain⟨its,r',pl,hz⟩:=I.tuple hq
  have hlen:=r'.length
  exact len_tuple pl (by simp only [List.size_toArray]<;>omega) ⟨.int ys.length,H,I.tok _,⟨s.toks+1,by rw [List.size_toArray,hlen]⟩,q⟩
theorem Xr:jR X (.builtin "len") (fun xs H Q=>∃z,xs= [.str z]∧z.length≤sizeLine∧Q (.int z.length) H):=by
 intro pins s σ H xs us Q I r h
 obtain⟨z,rfl,hz,q⟩:=h
 obtain⟨u,rfl,t,rfl⟩:=xj r
 have hn:=Xn
 exact len_str (by omega) ⟨.int z.length,H,I.tok _,⟨_,rfl⟩,q⟩
theorem call_list_of:jR X (.type "list") (fun xs H Q=>∃p ys,xs= [.ref p]∧(SqL X.K H p ys∨SqT X.K H p ys)∧∀l,H l=none→Q (.ref l) (upd H l (.lst ys))):=by
 intro pins s σ H xs us Q I r h
 obtain⟨p,ys,rfl,hq,q⟩:=h
 obtain⟨u,rfl,rx⟩:=xj r
 cases rx
 have fin:∀(its:List Value),Vals ys its→ys.length≤sizeLine→∀(h':Heap) (c':Nat),(∀b o',s.heap.get? b=some o'→h'.get? b=some o')→
   h'.get? s.heap.objs.size=some {cls:= .type "list",dict:=none,data:= .seq its.toArray c',slots:= #[]}→EP X pins σ Q (.ref s.heap.objs.size) {s with heap:=h'}:=fun its r' hz h' c' kp e=>
  ⟨.ref s.heap.objs.size,_,I.laid (t':=s.toks) kp (Nat.le_refl _) (show y3 X.prog X.w _ h' _ (.lst ys) from⟨hz,its,c',r',e⟩),rfl,q _ (I.hok.fresh (Nat.le_refl _))⟩
 rcases hq with hq|hq
 ·obtain⟨its,r',pl,hz⟩:=I.list hq
  have hlen:=r'.length
  obtain⟨o,ho,hc,n,hd⟩:=pl.isList
  exact call_list_seq p (.inl rfl) ho hc hd (fun h' c' kp e=>fin its r' hz h' c' kp e) (by simp only [List.size_toArray]<;>omega)
 ·obtain⟨its,r',pl,hz⟩:=I.tuple hq
  have hlen:=r'.length
  obtain⟨o,ho,hc,n,hd⟩:=pl
  exact call_list_seq p (.inr rfl) ho hc hd (fun h' c' kp e=>fin its r' hz h' c' kp e) (by simp only [List.size_toArray]<;>omega)
theorem Q6:jR X (.type "tuple") (fun xs H Q=>∃p ys,xs= [.ref p]∧((SqL X.K H p ys∧∀l,H l=none→Q (.ref l) (upd H l (.tup ys)))∨(SqT X.K H p ys∧Q (.ref p) H))):=by
 intro pins s σ H xs us Q I r h
 obtain⟨p,ys,rfl,h⟩:=h
 obtain⟨u,rfl,rx⟩:=xj r
 cases rx
 rcases h with⟨hq,q⟩|⟨hq,q⟩
 ·obtain⟨its,r',pl,hz⟩:=I.list hq
  have hlen:=r'.length
  refine call_tuple_list pl.isList (fun h' kp=> ?_) (by simp only [List.size_toArray]<;>omega)
  have I1:Inv X pins σ H {s with heap:=h'}:=I.kept (t':=s.toks) kp
  have I2:Inv X pins σ (upd H h'.objs.size (.tup ys)) {s with heap:=h'.push {cls:= .type "tuple",data:= .seq its.toArray}}:=
   I1.laid (t':=s.toks) (fun b o e=>Heap.get?_push_of_some _ e) (Nat.le_refl _) (show y3 X.prog X.w _ _ _ (.tup ys) from⟨hz,its,r',IsTup.new _ _⟩)
  exact⟨.ref h'.objs.size,_,I2,rfl,q _ (I1.hok.fresh (Nat.le_refl _))⟩
 ·obtain⟨its,r',pl,hz⟩:=I.tuple hq
  exact call_tuple_same pl ⟨.ref p,H,I,rfl,q⟩
def tyV (K:PySem.W.Frag)(T:String)(x:V)(H:Hp):Prop:=match x with
 | .str _=>T="str"
 | .int _=>T="int"
 | .ref p=>(T="list"∧∃xs,SqL K H p xs)∨(T="tuple"∧∃o,K.lookup p=some o∧o.cls= .type "tuple"∧o.dict=none)∨
   (T="dict"∧((∃kvs,H p=some (.dK kvs))∨∃kvs,H p=some (.dT kvs)))∨(T="set"∧∃S n,H p=some (.set S n))
 |_=>False
theorem tyV_is {pins:List (Addr×Obj)}{σ:St}{H:Hp}{s:Shared}{T:String}{x:V}{v:Value}(I:Inv X pins σ H s)(r:RelV x v)(ty:tyV X.K T x H):
  s.TypeIs v T∧∀a,v= .ref a→∃ob,s.heap.get? a=some ob∧ob.dict=none:=by
 cases x with
 |str z=>
  obtain⟨t,rfl⟩:=r
  cases(show T="str" from ty)
  exact⟨typeIs_str s z t,fun _ e=>nomatch e⟩
 |int i=>
  obtain⟨t,rfl⟩:=r
  cases(show T="int" from ty)
  exact⟨typeIs_int s i t,fun _ e=>nomatch e⟩
 |ref p=>
  cases r
  rcases ty with⟨rfl,xs,hq⟩|⟨rfl,o,hk,hc,hd⟩|⟨rfl,hk⟩|⟨rfl,S,n,hk⟩
  ·obtain⟨its,_,pl,_⟩:=I.list hq
   refine⟨pl.isList.typeIs,fun a e=> ?_⟩
   cases e
   obtain⟨o,n,e,c,hd,_⟩:=pl
   exact⟨o,e,hd⟩
  ·refine⟨⟨o,I.kIn p o hk,hc⟩,fun a e=> ?_⟩
   cases e
   exact⟨o,I.kIn _ o hk,hd⟩
  ·have z:∃o,s.heap.get? p=some o∧o.ExactDict:=by
    rcases hk with⟨kvs,hk⟩|⟨kvs,hk⟩
    ·obtain⟨_,_,_,_,o,_,_,e,ex,_⟩:=I.hok p _ hk
     exact⟨o,e,ex⟩
    ·obtain⟨_,_,_,_,o,_,_,e,ex,_⟩:=I.hok p _ hk
     exact⟨o,e,ex⟩
   obtain⟨o,e,ex⟩:=z
   refine⟨⟨o,e,ex.1⟩,fun a e2=> ?_⟩
   cases e2
   exact⟨o,e,ex.2.1⟩
  ·obtain⟨o,_,_,_,e,ex,_⟩:=I.hok p _ hk
   refine⟨⟨o,e,ex.1⟩,fun a e2=> ?_⟩
   cases e2
   exact⟨o,e,ex.2.1⟩
 |_=>exact False.elim ty
def tBM0 (K:PySem.W.Frag)(T:String)(r:V→List V→Hp→VK→Prop)(to:TE):TE:=fun σ H Q=>to σ H fun x H1=>tyV K T x H1∧r x [] H1 Q
def tBM (K:PySem.W.Frag)(T:String)(r:V→List V→Hp→VK→Prop)(to:TE)(t:TA):TE:=fun σ H Q=>to σ H fun x H1=>tyV K T x H1∧t σ H1 fun xs H2=>r x xs H2 Q
variable {o e:Expr}{es:List Expr}{to:TE}{t:TA}{name:Str}{apos cpos:Pos}{T id:String}{r:V→List V→Hp→VK→Prop}
theorem pe_bm0 (pa:PlainAttrs T)(slot:Slot T name id)(hty:typeOf (.builtin id)=pure (.type "method_descriptor"))(hm:MtR X id r)(ho:PE X o to)
  (hbase:attributeBase o name X.env (eval o X.env)=eval o X.env:=by rfl) (hline:(apos.endLine==cpos.line)=true:=by rfl):PE X (.Call (.Attribute o name apos) [] [] cpos) (tBM0 X.K T r to):=by
 intro pins s σ H Q I h
 refine wpAny_Call_method0_late hbase hline (thn (ho pins s σ H _ I h) fun v s1 ⟨x,H1,I1,r1,ty,q1⟩=> ?_)
 obtain⟨h1,h2⟩:=tyV_is I1 r1 ty
 exact⟨T,id,pa,slot,hty,h1,h2,Calls.callWith_builtin rfl (PySem.evalArgs_none (hm pins s1 σ H1 x [] v [] Q I1 r1 .nil q1))⟩
theorem xc (pa:PlainAttrs T)(slot:Slot T name id)(hty:typeOf (.builtin id)=pure (.type "method_descriptor"))(hm:MtR X id r)(ho:PE X o to)(ha:PA X (e::es) t)
  (hbase:attributeBase o name X.env (eval o X.env)=eval o X.env:=by rfl)
  (hfew:((backTo cpos (starEach (e::es) X.env)).all (fun x=> !x.1)&&(backToKw cpos (keywordEach [] X.env)).all (fun x=>x.1.isSome)
   &&decide ((e::es).length+([]:List Keyword).length+(if([]:List Keyword).isEmpty then 0 else 1)<30))=true:=by rfl)
  (hline:(apos.endLine==cpos.line)=true:=by rfl) (hs:starEach (e::es) X.env=(false,eval e X.env)::starEach es X.env:=by rfl) (hplain:(backTo cpos (starEach es X.env)).any (·.1)=false:=by rfl):
  PE X (.Call (.Attribute o name apos) (e::es) [] cpos) (tBM X.K T r to t):=by
 intro pins s σ H Q I h
 refine wpAny_Call_method_late hbase hfew hline rfl (thn (ho pins s σ H _ I h) fun v s1 ⟨x,H1,I1,r1,ty,q1⟩=> ?_)
 obtain⟨h1,h2⟩:=tyV_is I1 r1 ty
 refine⟨T,id,pa,slot,hty,h1,h2,?_⟩
 have hA:=ha cpos pins s1 σ H1 _ I1 q1
 rw [hs] at hA⊢
 refine Calls.callWith_builtin (by show(false||(backTo cpos (starEach es X.env)).any (·.1))=false;rw [hplain]<;>rfl) (Calls.evalArgs_plain ?_)
 exact thn hA fun us s2 ⟨vs,H2,I2,r2,q2⟩=>hm pins s2 σ H2 x vs v us Q I2 r1 r2 q2
end
end L2
namespace L2
open PySem PySem.Spec PyProof.Rows
def MtM (X:Cx)(id:String)(r:V→List V→Hp→VK→Prop):Prop:=
 ∀(pins:List (Addr×Obj)) (s:Shared) (σ:St) (H:Hp) (x:V) (xs:List V) (v:Value) (us:List Value) (Q:VK),Inv X pins σ H s→RelV x v→Vals xs us→r x xs H Q→
  wpAny (model X.prog X.w) X.A (call (.builtin id) (v::us)) (EP X pins σ Q) X.xe s
theorem Vals.one:∀{x:V}{us:List Value},Vals [x] us→∃u,us= [u]∧RelV x u
 |_,_,.cons r .nil=>⟨_,rfl,r⟩
theorem Vals.zero:∀{us:List Value},Vals [] us→us= []
 |_,.nil=>rfl
theorem Vals.dropLast {xs:List V}{us:List Value}(h:Vals xs us):Vals xs.dropLast us.dropLast:=by
 induction h with
 |nil=>exact .nil
 |cons r t ih=>
  cases t with
  |nil=>exact .nil
  |cons q t'=>exact .cons r ih
theorem erase_last {α:Type}(l:List α):l.eraseIdx (l.length-1)=l.dropLast:=by
 induction l with
 |nil=>rfl
 |cons a r ih=>
  cases r with
  |nil=>rfl
  |cons b r=>
   have e:(a::b::r).length-1=((b::r).length-1)+1:=by
    have h1:(a::b::r).length=r.length+2:=rfl
    have h2:(b::r).length=r.length+1:=rfl
    omega
   rw [e,List.eraseIdx_cons_succ,ih]
   all_goals rfl
section
variable {X:Cx}{pins:List (Addr×Obj)}{σ:St}{H:Hp}{s:Shared}{l b:Addr}{xs ys zs:List V}
theorem Inv.lset {its its':List Value}{n:Nat}{f:Array Value→Array Value}{t':Nat}(I:Inv X pins σ H s)(hH:H l=some (.lst xs))
  (e:s.heap.get? l=some {cls:= .type "list",data:= .seq its.toArray n}) (hf:f its.toArray=its'.toArray) (hv:Vals ys its') (hz:ys.length≤sizeLine) (ht:0<t':=by((try dsimp only);first|assumption|exact Inv.tk (by assumption)|exact Nat.succ_pos _|exact Nat.lt_of_lt_of_le (Inv.tk (by assumption)) (by assumption)|exact Nat.add_pos_left (Inv.tk (by assumption)) _|omega)):
  Inv X pins σ (upd H l (.lst ys)) {s with heap:=s.heap.update l (Obj.mapSeq f),toks:=t'}:=by
 have q:=PySem.IsL.update e f
 rw [hf] at q
 refine I.write (x:=l) (e:=l) (by rw [hH];exact trivial) (.inl rfl) (fun b' u hb hu=>(Heap.get?_update_other s.heap (Obj.mapSeq f) (Ne.symm hb)).trans hu) ⟨_,q⟩ ?_
 exact⟨hz,its',_,hv,q⟩
theorem Inv.lnew {its:List Value}{t':Nat}(I:Inv X pins σ H s)(hv:Vals ys its)(hz:ys.length≤sizeLine)(ht:0<t':=by((try dsimp only);first|assumption|exact Inv.tk (by assumption)|exact Nat.succ_pos _|exact Nat.lt_of_lt_of_le (Inv.tk (by assumption)) (by assumption)|exact Nat.add_pos_left (Inv.tk (by assumption)) _|omega)):
  Inv X pins σ (upd H s.heap.objs.size (.lst ys)) {s with heap:=s.heap.push {cls:= .type "list",data:= .seq its.toArray},toks:=t'}:=
 I.laid (fun _ _ q=>Heap.get?_push_of_some _ q) (Nat.le_refl _) ⟨hz,its,0,hv,Heap.get?_push_size _ rfl⟩
theorem Inv.fresh (I:Inv X pins σ H s):H s.heap.objs.size=none:=I.hok.fresh (Nat.le_refl _)
theorem Inv.lstM (I:Inv X pins σ H s)(hH:H l=some (.lst xs)):xs.length≤sizeLine∧∃(its:List Value) (n:Nat),Vals xs its∧xs.length=its.length∧s.heap.get? l=some {cls:= .type "list",data:= .seq its.toArray n}:=by
 obtain⟨z,its,n,r,e⟩:=I.hok l _ hH
 exact⟨z,its,n,r,r.length,e⟩
theorem notLongL {n:Nat}(h:n≤sizeLine):Builtin.List.listTooLong n=false:=by
 unfold Builtin.List.listTooLong
 exact decide_eq_false (by omega)
end
section
variable {X:Cx}
def rAppend:V→List V→Hp→VK→Prop:=fun x vs H Q=>∃l xs y,x= .ref l∧vs= [y]∧H l=some (.lst xs)∧xs.length<sizeLine∧Q .non (upd H l (.lst (xs++ [y])))
theorem zt:MtM X "list.append" rAppend:=by
 intro pins s σ H x vs v us Q I rx rv h
 obtain⟨l,xs,y,rfl,rfl,hH,hz,q⟩:=h
 cases rx
 obtain⟨u,rfl,ru⟩:=rv.one
 obtain⟨z,its,n,r,hl,e⟩:=I.lstM hH
 refine call_meets F.slot_list_append ⟨_,e,rfl⟩ F.entry_list_append (F.args_list_append_2 _ _) (PySem.list_append l its.toArray n u (by rw [List.size_toArray];omega)) ⟨e,?_⟩
 refine⟨.non,_,I.lset (its':=its++ [u]) hH e (by simp) (r.append (.cons ru .nil)) ?_,rfl,q⟩
 rw [List.length_append,List.length_singleton]
 omega
def rExtend:V→List V→Hp→VK→Prop:=fun x vs H Q=>∃l b xs zs,x= .ref l∧vs= [.ref b]∧H l=some (.lst xs)∧H b=some (.lst zs)∧xs.length+zs.length≤sizeLine∧Q .non (upd H l (.lst (xs++zs)))
theorem mt_extend:MtM X "list.extend" rExtend:=by
 intro pins s σ H x vs v us Q I rx rv h
 obtain⟨l,b,xs,zs,rfl,rfl,hH,hB,hz,q⟩:=h
 cases rx
 obtain⟨u,rfl,ru⟩:=rv.one
 cases ru
 obtain⟨z,its,n,r,hl,e⟩:=I.lstM hH
 obtain⟨z2,its2,n2,r2,hl2,e2⟩:=I.lstM hB
 have hsz:its.toArray.size+its2.toArray.size≤sizeLine:=by rw [List.size_toArray,List.size_toArray];omega
 have hlong:¬(!its.toArray.isEmpty&&Builtin.List.listTooLong (its.toArray.size+its2.toArray.size))=true:=by
  rw [notLongL hsz,Bool.and_false]
  exact Bool.false_ne_true
 refine call_meets F.slot_list_extend ⟨_,e,rfl⟩ F.entry_list_extend (F.args_list_extend_2 _ _)
  (AutoSeq1.list_extend_list_list_0 l its.toArray n b its2.toArray n2 hlong (by rw [List.size_toArray];omega) (by omega)) ⟨e,e2,?_⟩
 refine⟨.non,_,I.lset (its':=its++its2) hH e (by simp) (r.append r2) ?_,rfl,q⟩
 rw [List.length_append]
 omega
def rPop:V→List V→Hp→VK→Prop:=fun x vs H Q=>∃l xs y,x= .ref l∧vs= []∧H l=some (.lst xs)∧xs[xs.length-1]? =some y∧Q y (upd H l (.lst xs.dropLast))
theorem mt_pop:MtM X "list.pop" rPop:=by
 intro pins s σ H x vs v us Q I rx rv h
 obtain⟨l,xs,y,rfl,rfl,hH,hy,q⟩:=h
 cases rx
 have hus:=rv.zero
 subst hus
 obtain⟨z,its,n,r,hl,e⟩:=I.lstM hH
 obtain⟨u,hu,ru⟩:=r.get hy
 have hy':its.toArray[its.toArray.size-1]? =some u:=by
  show its.toArray[its.length-1]? =some u
  rw [←Array.getElem?_toList,←hl]
  exact hu
 refine call_meets F.slot_list_pop ⟨_,e,rfl⟩ F.entry_list_pop (F.args_list_pop_1 _) (MeetsSeq.list_pop_last l its.toArray n u hy' (by rw [List.size_toArray];omega)) ⟨e,?_⟩
 refine⟨y,_,I.lset (its':=its.dropLast) hH e ?_ r.dropLast ?_,ru,q⟩
 ·show its.toArray.eraseIdxIfInBounds (its.toArray.size-1)=its.dropLast.toArray
  rw [List.size_toArray,List.eraseIdxIfInBounds_toArray,erase_last]
 ·rw [List.length_dropLast]
  omega
def rCat:R2:=fun x y H Q=>∃l b xs zs,x= .ref l∧y= .ref b∧H l=some (.lst xs)∧H b=some (.lst zs)∧xs.length+zs.length≤sizeLine∧∀p,H p=none→Q (.ref p) (upd H p (.lst (xs++zs)))
theorem op_cat:OpR X (binaryOp .Add) rCat:=by
 intro pins s σ H x y v u Q I rx ry h
 obtain⟨l,b,xs,zs,rfl,rfl,hH,hB,hz,q⟩:=h
 cases rx
 cases ry
 obtain⟨z,its,n,r,hl,e⟩:=I.lstM hH
 obtain⟨z2,its2,n2,r2,hl2,e2⟩:=I.lstM hB
 refine PySem.P.add_list e e2 ?_ (by rw [List.size_toArray,List.size_toArray];omega)
 have ea:its.toArray++its2.toArray=(its++its2).toArray:=by simp
 rw [ea]
 exact⟨.ref _,_,I.lnew (t':=s.toks) (r.append r2) (by rw [List.length_append];omega),rfl,q _ I.fresh⟩
end
section
variable {prog:Program}{w:World}{A:Around}{E:Value→Shared→Prop}{s:Shared}
set_option maxRecDepth 100000 in
end
section
variable {X:Cx}
end
end L2
namespace L2
open PySem PySem.Spec PyProof.Rows
section
variable {κ:Type}[DecidableEq κ]
def valV (kvs:List (κ×V))(k:κ):Option V:=(kvs.find? fun kv=>decide (kv.1=k)).map (·.2)
def putK (kvs:List (κ×V))(k:κ)(v:V):List (κ×V):=
 if(kvs.any fun kv=>decide (kv.1=k))=true then kvs.map (fun kv=>if kv.1=k then(kv.1,v) else kv) else kvs++ [(k,v)]
theorem XT {p:κ×V}{r:List (κ×V)}{k:κ}(e:p.1=k):valV (p::r) k=some p.2:=by simp [valV,List.find?_cons,e]
theorem we {p:κ×V}{r:List (κ×V)}{k:κ}(e:¬p.1=k):valV (p::r) k=valV r k:=by simp [valV,List.find?_cons,e]
theorem valV_any (k:κ):∀kvs:List (κ×V),(kvs.any fun kv=>decide (kv.1=k))=(valV kvs k).isSome
 | []=>rfl
 |p::r=>by
  rw [List.any_cons]
  by_cases e:p.1=k
  ·simp only [XT e,decide_eq_true e,Bool.true_or,Option.isSome_some]
  ·rw [we e,decide_eq_false e,Bool.false_or];exact valV_any k r
theorem X6 (kvs:List (κ×V))(k:κ)(v:V):(putK kvs k v).length≤kvs.length+1:=by
 unfold putK
 split
 ·rw [List.length_map];omega
 ·rw [List.length_append,List.length_cons,List.length_nil];omega
theorem RelO.isSome_eq {o:Option V}{u:Option Value}(r:RelO o u):o.isSome=u.isSome:=by
 cases o with
 |none=>cases u with
  |none=>rfl
  |some _=>exact(show False from r).elim
 |some _=>cases u with
  |none=>exact(show False from r).elim
  |some _=>rfl
theorem KV.val {kvs:List (κ×V)}{vs:List (κ×Value)}(r:KV kvs vs)(k:κ):RelO (valV kvs k) (valueAt vs k):=by
 unfold KV at r
 induction r with
 |nil=>exact True.intro
 | @cons p q ps qs h t ih=>
  obtain⟨h1,h2⟩:=h
  by_cases e:p.1=k
  ·have e':q.1=k:=h1.symm.trans e
   have b:valueAt (q::qs) k=some q.2:=by simp [valueAt,List.find?_cons,e']
   rw [XT e,b];exact h2
  ·have e':¬q.1=k:=fun z=>e (h1.trans z)
   have b:valueAt (q::qs) k=valueAt qs k:=by simp [valueAt,List.find?_cons,e']
   rw [we e,b];exact ih
theorem KV.any {kvs:List (κ×V)}{vs:List (κ×Value)}(r:KV kvs vs)(k:κ):(kvs.any fun kv=>decide (kv.1=k))=vs.any fun kv=>decide (kv.1=k):=by
 unfold KV at r
 induction r with
 |nil=>rfl
 |cons h t ih=>rw [List.any_cons,List.any_cons,ih,h.1]
theorem KV.repl {kvs:List (κ×V)}{vs:List (κ×Value)}(r:KV kvs vs)(k:κ){y:V}{u:Value}(ry:RelV y u):
  KV (kvs.map fun kv=>if kv.1=k then(kv.1,y) else kv) (vs.map fun kv=>if kv.1=k then(kv.1,u) else kv):=by
 unfold KV at r⊢
 induction r with
 |nil=>exact .nil
 | @cons p q ps qs h t ih=>
  rw [List.map_cons,List.map_cons]
  refine .cons ?_ ih
  obtain⟨h1,h2⟩:=h
  by_cases e:p.1=k
  ·rw [if_pos e,if_pos (h1.symm.trans e)];exact⟨h1,ry⟩
  ·rw [if_neg e,if_neg (fun z=>e (h1.trans z))];exact⟨h1,h2⟩
theorem KV.put {kvs:List (κ×V)}{vs:List (κ×Value)}(r:KV kvs vs)(k:κ){y:V}{u:Value}(ry:RelV y u):KV (putK kvs k y) (stored vs k u):=by
 unfold putK stored
 rw [r.any k]
 by_cases e:(vs.any fun kv=>decide (kv.1=k))=true
 ·rw [if_pos e,if_pos e];exact r.repl k ry
 ·rw [if_neg e,if_neg e];exact Paired.snoc r ⟨rfl,ry⟩
theorem KV.keys {kvs:List (κ×V)}{vs:List (κ×Value)}(r:KV kvs vs):kvs.map (·.1)=vs.map (·.1):=by
 unfold KV at r
 induction r with
 |nil=>rfl
 |cons h t ih=>rw [List.map_cons,List.map_cons,ih,h.1]
theorem KV.length {kvs:List (κ×V)}{vs:List (κ×Value)}(r:KV kvs vs):kvs.length=vs.length:=Paired.length r
end
theorem kV_is {P:Program}{w:World}{k:Key}{u:Value}(r:RelV (kV k) u):(yl P w).is k u=true:=by
 cases k with
 |inl i=>obtain⟨t,e⟩:=(show∃t,u=Value.int i t from r);subst e;exact mixKind_int P w i t
 |inr x=>obtain⟨t,e⟩:=(show∃t,u=Value.str x t from r);subst e;exact zk P w x t
theorem items_are {P:Program}{w:World}:∀{ks:List Key}{us:List Value},Vals (ks.map kV) us→ItemsAre (yl P w) ks us
 | [],_,r=>by rw [List.map_nil] at r;cases r;exact .nil
 |k::ks,_,r=>by
  rw [List.map_cons] at r
  cases r with
  |cons h t=>exact .cons (kV_is h) (items_are t)
abbrev KT (H:Hp):List (List Key×V)→List (List Key×Addr×Value)→Prop:=Paired fun p q=>p.1=q.1∧H q.2.1=some (.tup (p.1.map kV))∧RelV p.2 q.2.2
theorem KT.val {H:Hp}{kvs:List (List Key×V)}{xs:List (List Key×Addr×Value)}(r:KT H kvs xs)(k:List Key):RelO (valV kvs k) ((atKey xs k).map (·.2)):=by
 induction r with
 |nil=>exact True.intro
 | @cons p q ps qs h t ih=>
  obtain⟨h1,_,h2⟩:=h
  by_cases e:p.1=k
  ·have e':q.1=k:=h1.symm.trans e
   have b:atKey (q::qs) k=some q.2:=by simp [atKey,List.find?_cons,e']
   rw [XT e,b];exact h2
  ·have e':¬q.1=k:=fun z=>e (h1.trans z)
   have b:atKey (q::qs) k=atKey qs k:=by simp [atKey,List.find?_cons,e']
   rw [we e,b];exact ih
theorem KT.repl {H:Hp}{kvs:List (List Key×V)}{xs:List (List Key×Addr×Value)}(r:KT H kvs xs)(k:List Key){y:V}{u:Value}(ry:RelV y u):
  KT H (kvs.map fun kv=>if kv.1=k then(kv.1,y) else kv) (xs.map (putAt k u)):=by
 induction r with
 |nil=>exact .nil
 | @cons p q ps qs h t ih=>
  rw [List.map_cons,List.map_cons]
  refine .cons ?_ ih
  obtain⟨h1,h2,h3⟩:=h
  unfold putAt
  by_cases e:p.1=k
  ·rw [if_pos e,if_pos (h1.symm.trans e)];exact⟨h1,h2,ry⟩
  ·rw [if_neg e,if_neg (fun z=>e (h1.trans z))];exact⟨h1,h2,h3⟩
theorem KT.put {H:Hp}{kvs:List (List Key×V)}{xs:List (List Key×Addr×Value)}(r:KT H kvs xs)(k:List Key){b:Addr}{y:V}{u:Value}(hb:H b=some (.tup (k.map kV)))(ry:RelV y u):
  KT H (putK kvs k y) (storedH xs k b u):=by
 have e:(kvs.any fun kv=>decide (kv.1=k))=(atKey xs k).isSome:=by
  rw [valV_any,(r.val k).isSome_eq,Option.isSome_map]
 unfold putK storedH
 rw [e]
 by_cases q:(atKey xs k).isSome=true
 ·rw [if_pos q,if_pos q];exact r.repl k ry
 ·rw [if_neg q,if_neg q];exact Paired.snoc r ⟨rfl,hb,ry⟩
theorem KT.keeps {H H':Hp}{kvs:List (List Key×V)}{xs:List (List Key×Addr×Value)}(r:KT H kvs xs)(ht:∀b ys,H b=some (.tup ys)→H' b=some (.tup ys)):KT H' kvs xs:=
 Paired.mapP r fun _ _ z=>⟨z.1,ht _ _ z.2.1,z.2.2⟩
section
variable {P:Program}{w:World}{H:Hp}{h:Heap}{a:Addr}
theorem rd_of {u:HO}(ok:HOk P w H h)(e:Rd H a u):y3 P w H h a u:=e.ok ok
theorem dk_rd {kvs:List (Key×V)}(ok:HOk P w H h)(e:Rd H a (.dK kvs)):kvs.length≤sizeLine∧(a==sysModules)=false∧∃vs,KV kvs vs∧h.DictOf (yl P w) a vs:=
 show y3 P w H h a (.dK kvs) from rd_of ok e
theorem dk_of {kvs:List (Key×V)}(ok:HOk P w H h)(e:H a=some (.dK kvs)):kvs.length≤sizeLine∧(a==sysModules)=false∧∃vs,KV kvs vs∧h.DictOf (yl P w) a vs:=dk_rd ok (.inl e)
theorem key_of {ks:List Key}(ok:HOk P w H h)(e:H a=some (.tup (ks.map kV))):(tupleKind (yl P w)).is h ks a:=by
 obtain⟨_,its,r,o,h1,h2,n,h3⟩:=(show y3 P w H h a (.tup (ks.map kV)) from ok a _ e)
 exact⟨o,its.toArray,n,h1,h2,h3,by simpa using items_are r⟩
theorem dt_rd {kvs:List (List Key×V)}(ok:HOk P w H h)(e:Rd H a (.dT kvs)):kvs.length≤sizeLine∧(a==sysModules)=false∧
  ∃xs,KT H kvs xs∧h.DictOfH (tupleKind (yl P w)) a xs:=by
 obtain⟨z,y,xs,r,o,es,ep,h1,h2,h3,h4,h5⟩:=(show y3 P w H h a (.dT kvs) from rd_of ok e)
 refine⟨z,y,xs,r,o,es,ep,h1,h2,h3,h4,fun x hx=> ?_,h5⟩
 have all:∀{l:List (List Key×V)}{m:List (List Key×Addr×Value)},KT H l m→∀x∈m,(tupleKind (yl P w)).is h x.1 x.2.1:=by
  intro l m q
  induction q with
  |nil=>intro x hx;exact nomatch hx
  | @cons p q ps qs hq t ih=>
   intro x hx
   rcases List.mem_cons.mp hx with e|hx
   ·subst e
    exact key_of ok (by rw [←hq.1];exact hq.2.1)
   ·exact ih x hx
 exact all r x hx
theorem dt_of {kvs:List (List Key×V)}(ok:HOk P w H h)(e:H a=some (.dT kvs)):kvs.length≤sizeLine∧(a==sysModules)=false∧
  ∃xs,KT H kvs xs∧h.DictOfH (tupleKind (yl P w)) a xs:=dt_rd ok (.inl e)
end
def DGet (H:Hp)(a:Addr)(y:V)(r:Option V):Prop:=
 (∃kvs k,Rd H a (.dK kvs)∧y=kV k∧r=valV kvs k)∨∃kvs k b,Rd H a (.dT kvs)∧y= .ref b∧H b=some (.tup (k.map kV))∧r=valV kvs k
def DPut (H:Hp)(a:Addr)(y v:V)(H':Hp):Prop:=
 (∃kvs k,H a=some (.dK kvs)∧y=kV k∧kvs.length<sizeLine∧H'=upd H a (.dK (putK kvs k v)))∨
 ∃kvs k b,H a=some (.dT kvs)∧y= .ref b∧H b=some (.tup (k.map kV))∧kvs.length<sizeLine∧H'=upd H a (.dT (putK kvs k v))
theorem DGet.k {H:Hp}{a:Addr}{kvs:List (Key×V)}{k:Key}(e:H a=some (.dK kvs)):DGet H a (kV k) (valV kvs k):= .inl ⟨kvs,k,.inl e,rfl,rfl⟩
section
variable {X:Cx}{pins:List (Addr×Obj)}{σ:St}{H:Hp}{s:Shared}{a:Addr}{y v:V}{u r:Value}{o:Option V}{A:Around}{E:Value→Shared→Prop}
theorem Inv.big (I:Inv X pins σ H s):sysModules<s.heap.objs.size:=by
 have h:mainGlobals<s.heap.objs.size:=(I.mod.glob.keeps I.bk).lt
 exact Nat.lt_trans (by decide) h
theorem d_getItem {Q:Value→Shared→Prop}(hu:A.units+1<cLine)(I:Inv X pins σ H s)(g:DGet H a y (some v))(ry:RelV y u)(h:∀w' s',Inv X pins σ H s'→RelV v w'→Q w' s'):
  wpAny (model X.prog X.w) A (getItem (.ref a) u) Q E s:=by
 rcases g with⟨kvs,k,e,ey,l⟩|⟨kvs,k,b,e,ey,eb,l⟩
 ·subst ey
  obtain⟨z,hd,vs,rel,dd⟩:=dk_rd I.hok e
  obtain⟨w',hw,rw'⟩:=RelO.some_of (v:=v) (o:=valueAt vs k) (by rw [l];exact rel.val k)
  exact wpAny_getItem_of (kV_is ry) dd.mapOf hw (h w' _ (I.tok _) rw')
 ·subst ey
  cases(show u=Value.ref b from ry)
  obtain⟨z,hd,xs,rel,dd⟩:=dt_rd I.hok e
  obtain⟨w',hw,rw'⟩:=RelO.some_of (v:=v) (o:=(atKey xs k).map (·.2)) (by rw [l];exact rel.val k)
  obtain⟨p,hp,hp2⟩:=Option.map_eq_some_iff.mp hw
  refine wpAny_getItem_heap (tupleKind_room_in1 hu) (key_of I.hok eb) dd hp ?_
  rw [hp2]
  exact h w' _ (I.tok _) rw'
theorem d_write {h':Heap}{t':Nat}{ob:HO}(I:Inv X pins σ H s)(mu:Mut (H a))(hs:Heap.SameBut a s.heap h')(he:∃q,h'.get? a=some q)(new:y3 X.prog X.w (upd H a ob) h' a ob)(ht:0<t':=by((try dsimp only);first|assumption|exact Inv.tk (by assumption)|exact Nat.succ_pos _|exact Nat.lt_of_lt_of_le (Inv.tk (by assumption)) (by assumption)|exact Nat.add_pos_left (Inv.tk (by assumption)) _|omega)):
  Inv X pins σ (upd H a ob) {s with heap:=h',toks:=t'}:=
 I.write (x:=a) (e:=a) mu (.inl rfl) (fun b q hb z=>(hs.2 b hb).trans z) he new
theorem dk_new {P:Program}{w:World}{H':Hp}{h':Heap}{kvs:List (Key×V)}{vs:List (Key×Value)}(z:kvs.length≤sizeLine)(hd:(a==sysModules)=false)(rel:KV kvs vs)(dd:h'.DictOf (yl P w) a vs):
  y3 P w H' h' a (.dK kvs):=⟨z,hd,vs,rel,dd⟩
theorem d_setItem {H':Hp}{Q:Unit→Shared→Prop}(hu:A.units+1<cLine)(I:Inv X pins σ H s)(g:DPut H a y v H')(ry:RelV y u)(rv:RelV v r)(h:∀s',Inv X pins σ H' s'→Q () s'):
  wpAny (model X.prog X.w) A (setItem (.ref a) u r) Q E s:=by
 rcases g with⟨kvs,k,e,ey,l,eH⟩|⟨kvs,k,b,e,ey,eb,l,eH⟩
 ·subst ey eH
  obtain⟨z,hd,vs,rel,dd⟩:=dk_of I.hok e
  have hz:vs.length≤sizeLine:=by rw [←rel.length];exact z
  have hl:(putK kvs k v).length≤sizeLine:=by have:=X6 kvs k v;omega
  refine wpAny_setItem_pairs (hsz:=hz) (kV_is ry) dd fun h' dd' hs=>h _ ?_
  have he:∃q,h'.get? a=some q:=let⟨q,_,_,hq,_⟩:=dd';⟨q,hq⟩
  exact d_write I (by rw [e];exact True.intro) hs he (dk_new hl hd (rel.put k rv) dd')
 ·subst ey eH
  cases(show u=Value.ref b from ry)
  obtain⟨z,hd,xs,rel,dd⟩:=dt_of I.hok e
  have hz:xs.length≤sizeLine:=by rw [←Paired.length rel];exact z
  have hl:(putK kvs k v).length≤sizeLine:=by have:=X6 kvs k v;omega
  refine wpAny_setItem_heap (hsz:=hz) (tupleKind_room_in1 hu) (key_of I.hok eb) dd fun h' dd' hs=>h _ ?_
  obtain⟨q,es,ep,hq,h2,h3,h4,_,h5⟩:=dd'
  refine d_write I (by rw [e];exact True.intro) hs ⟨q,hq⟩ ⟨hl,hd,_,(rel.put k eb rv).keeps fun c ys ec=> ?_,q,es,ep,hq,h2,h3,h4,h5⟩
  rw [qD (ne_of ec e (fun z=>nomatch z))]
  exact ec
end
section
variable {X:Cx}{pins:List (Addr×Obj)}{σ:St}{H:Hp}{s:Shared}{a:Addr}{kvs:List (Key×V)}{k:Key}{u:Value}{A:Around}{E:Value→Shared→Prop}
end
def NoSl (i:Expr):Prop:=∀ov iv,subscripted i false ov iv=operate [ov,iv] (getItem ov iv)
theorem subD_of {prog:Program}{w:World}{A:Around}{E:Value→Shared→Prop}{s:Shared}{env:Env}{value slice:Expr}{pos:Pos}{T id:String}{Q:Value→Shared→Prop}
  (hl:typeLookup (.type T) "__getitem__"=pure (some (.builtin id))) (hs:NoSl slice)
  (h:wpAny (model prog w) A (eval value env) (fun o s₁=>wpAny (model prog w) A (eval slice env) (fun i s₂=>s₂.TypeIs o T∧wpAny (model prog w) A (getItem o i) Q E s₂) E s₁) E s):
  wpAny (model prog w) A (eval (.Subscript value slice pos) env) Q E s:=by
 refine Subscript_ (wpAny_mono h (fun o s₁ h₁=>wpAny_mono h₁ (fun i s₂ h₂=> ?_) fun _ _ x=>x) fun _ _ x=>x)
 obtain⟨hT,h₂⟩:=h₂
 unfold subscriptTail
 refine wpAny_bind ?_
 rw [getitemInPython_of_ne hT.not_modules]
 refine wpAny_bind (wpAny_specialOf hT hl ?_)
 have fin:wpAny (model prog w) A (subscripted slice false o i) (fun r s₃=>wpAny (model prog w) A (letTemporaryGo value o r>>=fun _=>pure r) Q E s₃) E s₂:=by
  rw [hs o i]
  exact wpAny_operating (wpAny_mono h₂ (fun r s₃ h₃=>wpAny_bind (wpAny_letTemporaryGo (wpAny_pure h₃))) fun _ _ x=>x)
 first
  |exact wpAny_pure (wpAny_bind fin)
  |exact wpAny_bind (wpAny_pure (wpAny_bind fin))
  |exact wpAny_bind fin
theorem dict_typeIs {X:Cx}{pins:List (Addr×Obj)}{σ:St}{H:Hp}{s:Shared}{a:Addr}{y:V}{o:Option V}(I:Inv X pins σ H s)(g:DGet H a y o):s.TypeIs (.ref a) "dict":=by
 rcases g with⟨kvs,k,e,_,_⟩|⟨kvs,k,b,e,_,_,_⟩
 ·obtain⟨_,_,vs,_,dd⟩:=dk_rd I.hok e
  exact dd.typeIs
 ·obtain⟨_,_,xs,_,dd⟩:=dt_rd I.hok e
  exact dd.typeIs
def tDGet (td ty:TE):TE:=fun σ H Q=>td σ H fun x H1=>ty σ H1 fun y H2=>∃a v,x= .ref a∧DGet H2 a y (some v)∧Q v H2
def sDPut (td ty tv:TE):TS:=fun D σ H=>tv σ H fun v H1=>td σ H1 fun x H2=>ty σ H2 fun y H3=>∃a H4,x= .ref a∧DPut H3 a y v H4∧D.nx σ H4
section
variable {X:Cx}{o i e value:Expr}{pos pos' tpos:Pos}{td ty tv:TE}
theorem yf (hu:X.A.units+1<cLine)(ho:PE X o td)(hi:PE X i ty)(hs:NoSl i):PE X (.Subscript o i pos) (tDGet td ty):=by
 intro pins s σ H Q I h
 refine subD_of PySem.F.slot_dict_getitem.lookup hs (thn (ho pins s σ H _ I h) fun u s1 ⟨x,H1,I1,rx,q1⟩=>thn (hi pins s1 σ H1 _ I1 q1) fun iv s2 ⟨y,H2,I2,ry,a,v,ex,g,q2⟩=> ?_)
 subst ex
 obtain rfl:u=Value.ref a:=rx
 exact⟨dict_typeIs I2 g,d_getItem hu I2 g ry fun w' s3 I3 rw'=>⟨v,H2,I3,rw',q2⟩⟩
theorem ps_dput (hu:X.A.units+1<cLine)(ho:PE X o td)(hi:PE X i ty)(hv:PE X value tv)(hs:swapsWith value (some (.Subscript o i pos')) pos.line X.env=pure false):
  PS X (.Assign [.Subscript o i pos'] value pos) (sDPut td ty tv):=by
 intro pins s σ H D I h
 refine wpAny_Assign_Subscript (thn (hv pins s σ H _ I h) fun r s1 ⟨v,H1,I1,rv,q1⟩=>thn (ho pins s1 σ H1 _ I1 q1) fun u s2 ⟨x,H2,I2,rx,q2⟩=>thn (hi pins s2 σ H2 _ I2 q2) fun iv s3 ⟨y,H3,I3,ry,a,H4,ex,g,q3⟩=> ?_) hs
 subst ex
 obtain rfl:u=Value.ref a:=rx
 exact d_setItem hu I3 g ry rv fun s4 I4=>⟨σ,H4,I4,q3⟩
end
section
variable {X:Cx}{pos:Pos}
end
section
variable {X:Cx}{pins:List (Addr×Obj)}{σ:St}{H:Hp}{s:Shared}{a:Addr}{y d:V}{u r:Value}{o:Option V}{A:Around}{E:Value→Shared→Prop}
end
section
variable {X:Cx}{o e f:Expr}{apos cpos:Pos}{td ty tx:TE}
end
section
variable {X:Cx}{pins:List (Addr×Obj)}{σ:St}{H:Hp}{s:Shared}{a:Addr}{kvs:List (Key×V)}{A:Around}{E:Value→Shared→Prop}
end
section
variable {X:Cx}{pins:List (Addr×Obj)}{σ:St}{H:Hp}{s:Shared}{a:Addr}{y:V}{u:Value}{A:Around}{E:Value→Shared→Prop}
end
end L2
namespace Att
open PySem PySem.W PySem.Calls PyProof.Rows
theorem zq {P:Params}{h:Heap}:∀(ns:List Int) (vs:List Value),WellAll P h vs (ns.map WData.int)→IntsAre vs ns:=by
 intro ns
 induction ns with
 |nil=>
  intro vs w
  rw [List.map_nil] at w
  cases w
  exact .nil
 |cons n ns ih=>
  intro vs w
  rw [List.map_cons] at w
  cases w with
  |cons a b=>
   cases a
   exact .cons _ _ (ih _ b)
theorem script_of {l:OpenLaw}{n:Nat}(hn:l.most=some n){P:Params}{h:Heap}{args:List WData}{vals:List Value}
  (hpre:l.row.toRowW.claim.pre args=true) (hwl:WellAll P h vals args):
  ∃a vs ns,vals= [Value.ref a]∧args= [WData.list (ns.map WData.int)]∧h.get? a=some {cls:= .type "list",data:= .seq vs.toArray}∧IntsAre vs ns∧ns.length≤n:=by
 have hsh:WShape.hasAll [] args [.list .int]=true:=(pre_splitW hpre).1
 have hc:l.pre.holds [] {args:=args}=true:=(pre_splitW hpre).2
 obtain⟨d,r,rfl,h1,h2⟩:=hasAllW_cons hsh
 obtain rfl:=hasAllW_nil h2
 obtain⟨xs,rfl,h3⟩:=hasW_list h1
 obtain⟨ns,rfl⟩:=items_int h3
 have hlen:ns.length≤n:=by
  unfold OpenLaw.pre at hc
  have h4:(WTm.not (.lt (.lit (.int (n:Int))) (.len (.arg 0)))).holds [] {args:= [.list (ns.map .int)]}=true:=by
   have h4:=(holds_andW hc).1
   rw [hn] at h4
   exact h4
  have h5:=condW_of h4 (w_not (w_lt w_lit (w_len_list (w_arg rfl))))
  rw [List.length_map] at h5
  refine Nat.le_of_not_lt fun q=> ?_
  have q':(n:Int)<((ns.length:Nat):Int):=by omega
  first
   |(rw [decide_eq_true q'] at h5;exact absurd h5 (by decide))
   |(simp at h5;omega)
 cases hwl with
 |cons w1 w2=>
  cases w2
  cases w1 with
  |list ho hall=>exact⟨_,_,ns,rfl,rfl,ho,zq ns _ hall,hlen⟩
theorem post_true (l:OpenLaw)(args:List WData):l.row.toRowW.claim.post args (.bool true) args=true:=
 postW_of (r:=l.row.toRowW) (X:=(true==true))
  (show WShape.has [] (.bool true) .bool=true by first|rfl|decide|simp [WShape.has,WShape.arms,WShape.armsAll])
  (show(WTm.eq .res (.lit (.bool true))).value [] {args:=args,res:=some (.bool true),after:=args}=some (.bool (true==true)) from w_eq_bool (w_res rfl) w_lit) rfl
section
variable {prog:Program}{w:World}{A:Around}{E:Value→Shared→Prop}{s:Shared}{K:Frag}
end
end Att
namespace L2
open PySem PySem.Spec PyProof.Rows
theorem vals_ints:∀{vs:List Value}{ns:List Int},IntsAre vs ns→Vals (ns.map V.int) vs
 |_,_,.nil=> .nil
 |_,_,.cons n t h=> .cons ⟨t,rfl⟩ (vals_ints h)
def Only (H:Hp):Prop:=∀b,H b=none∨∃o xs,H b=some (.frz o (.lst xs))
theorem law_call {P:Program}{w:World}{K:PySem.W.Frag}{mg mb:Str→Option Value}{CX:CXT}{k:Nat}{fa a:Addr}{fd:FuncData}{x:Str}{sp:Sp}{s₁:Shared}{vs:List Value}{ns:List Int}
  (KX:K.In s₁.heap) (hns:s₁.heap.Ns mainGlobals mg) (hb:s₁.heap.Ns builtinsNs mb) (hbb:∀x:Str,x≠"__name__"→mb x=bootBuiltins x) (hlim:s₁.heap.NoLimit) (hg:s₁.gens= #[])
  (ha:s₁.heap.get? a=some {cls:= .type "list",data:= .seq vs.toArray}) (hi:IntsAre vs ns) (hl:ns.length≤sizeLine) (hr:Room k callerA)
  (F:∀base:Heap,K.In base→base.Ns mainGlobals mg→FnOk P w K mg base CX k fa fd [x] sp) (hbind:∀(s:Shared) (u:Value),BindsTo s fd ⟨[u],[]⟩ [(x,u)])
  (hloc:fd.scope.names.lookup x=some .local) (hsp:∀H:Hp,Only H→SqL K H a (ns.map V.int)→sp [.ref a] H (fun v _=>v= .bl true) fun _ _ _=>False)
  (hCX:∀H e s',CX [] H s₁ (fun _ _ _=>False) e s'→False):
  codeAny (model P w) callerA (.call (.ref fa) ⟨[.ref a],[]⟩) (fun r s'=>r= .ok (.ret (.bool true))∧OldK s₁.heap s'.heap∧s'.os=s₁.os∧AllBare s'.gens) s₁:=by
 have rv:=vals_ints hi
 have lenV:=hi.length
 have core:∀H:Hp,Only H→SqL K H a (ns.map V.int)→HOk P w H s₁.heap→(∀b,H b≠none→b=a)→(H a≠none→K.lookup a=none)→
   codeAny (model P w) callerA (.call (.ref fa) ⟨[.ref a],[]⟩) (fun r s'=>r= .ok (.ret (.bool true))∧OldK s₁.heap s'.heap∧s'.os=s₁.os∧AllBare s'.gens) s₁:=by
  intro H hO hS hok hA hK
  have base_of:∀{b:Addr}{o:Obj},s₁.heap.get? b=some o→H b=none→(hidT s₁.heap H).get? b=some o:=fun e n=>hidT_get e n
  have noA:∀{b:Addr}{o:Obj}{es:Array DictEntry}{ep:Nat},s₁.heap.get? b=some o→o.data= .dict es ep→H b=none:=fun{b o es ep} e d=>by
   cases q:H b with
   |none=>rfl
   |some u=>
    have e':b=a:=hA b (by rw [q];simp)
    subst e'
    rw [ha] at e;cases e
    have d':Data.seq vs.toArray _=Data.dict es ep:=d
    cases d'
  have nsK:∀{b:Addr}{m:Str→Option Value},s₁.heap.Ns b m→(hidT s₁.heap H).Ns b m:=fun{b m} ⟨o,es,ep,e,d,r⟩=>⟨o,es,ep,base_of e (noA e d),d,r⟩
  have hKb:K.In (hidT s₁.heap H):=fun b o e=>base_of (KX b o e) (by
   cases q:H b with
   |none=>rfl
   |some u=>
    have e':b=a:=hA b (by rw [q];simp)
    subst e'
    rw [hK (by rw [q];simp)] at e;cases e)
  have hM:Mod K mg (hidT s₁.heap H):=⟨hKb,nsK hns,⟨mb,nsK hb,hbb⟩,let⟨mc,h1,h2⟩:=hlim;⟨mc,nsK h1,h2⟩⟩
  have e0:Env0 P w K mg (hidT s₁.heap H) callerA [] s₁ H:=⟨rfl,hM,fun b o e=>of_hidT e,Nat.le_of_eq (hidT_size _ _),trivial,fun b hb=>absurd (show b∈([]:List Addr) from hb) (by simp),hok,.of_eq hg⟩
  refine codeAny_mono ((F _ hKb (nsK hns)).run callerA [] s₁ H ⟨[.ref a],[]⟩ [.ref a] [.ref a] _ _ hr e0 (hbind s₁ (.ref a)) (.cons rfl .nil) (hsp H hO hS) (.inr ⟨_,_,rfl,hloc⟩)) fun r s' h=> ?_
  cases r with
  |error e=>exact(hCX H e s' h).elim
  |ok fl=>
   cases fl with
   |next=>exact False.elim h
   |brk=>exact False.elim h
   |cont=>exact False.elim h
   |ret u=>
    obtain⟨v,H',os,bare,htk,un,hok',r',q⟩:=h
    have q':v= .bl true:=q
    subst q'
    obtain rfl:u=Value.bool true:=r'
    refine⟨rfl,OldK.of_keep fun b o e=> ?_,os,bare⟩
    cases q:H b with
    |none=>exact un.keep b o e q (by intro z;exact absurd (show b∈([]:List Addr) from z) (by simp)) (by simp)
    |some u=>
     rcases hO b with z|⟨ob,xs,z⟩
     ·rw [q] at z;cases z
     ·have z2:=un.frzs b ob _ z
      obtain⟨e1,_⟩:=hok b _ z
      obtain⟨e2,_⟩:=hok' b _ z2
      rw [e] at e1;cases e1
      exact e2
 cases hk:K.lookup a with
 |some o=>
  have e:=KX a o hk
  rw [ha] at e
  cases e
  refine core (fun _=>none) (fun _=> .inl rfl) (.inr ⟨_,vs.toArray,_,hk,rfl,rfl,rfl,by rw [List.size_toArray,lenV];exact hl,by simpa using rv⟩) (fun b u z=>by have z':(none:Option HO)=some u:=z;cases z') (fun b z=>absurd rfl z) fun z=>absurd rfl z
 |none=>
  refine core (fun b=>if b=a then some (.frz {cls:= .type "list",data:= .seq vs.toArray} (.lst (ns.map V.int))) else none) (fun b=> ?_) (.inl (.inr ⟨{cls:= .type "list",data:= .seq vs.toArray},if_pos rfl⟩)) (fun b u z=> ?_) (fun b z=> ?_) fun _=>hk
  ·by_cases hb:b=a
   ·exact .inr ⟨_,_,if_pos hb⟩
   ·exact .inl (if_neg hb)
  ·by_cases hb:b=a
   ·have z':=(if_pos hb).symm.trans z
    cases z'
    subst hb
    exact⟨ha,by rw [List.length_map];exact hl,vs,_,rv,ha⟩
   ·have z':=(if_neg hb).symm.trans z
    cases z'
  ·by_cases hb:b=a
   ·exact hb
   ·exact absurd (if_neg hb) z
end L2
namespace L2
open PySem PySem.Spec PyProof.Rows
abbrev KOf {K:PySem.W.Frag}{h:Heap}(_:K.In h):PySem.W.Frag:=K
end L2
namespace L2
open PySem PySem.Spec PyProof.Rows
def jl (s:Stmt)(j:Nat):Stmt:=match s with
 | .ClassDef _ _ _ body _ _ _ _ _ _ _=>body.getD j (.Pass ⟨0,0,0,0⟩)
 |_=> .Pass ⟨0,0,0,0⟩
def qv (s:Stmt):Arguments:=match s with
 | .FunctionDef _ a _ _ _ _ _ _ _ _=>a
 |_=>{posonlyargs:= [],args:= [],vararg:=none,kwonlyargs:= [],kw_defaults:= [],kwarg:=none,defaults:= []}
def qu (s:Stmt):List Stmt:=match s with
 | .FunctionDef _ _ b _ _ _ _ _ _ _=>b
 |_=> []
def qh (s:Stmt):Scope:=match s with
 | .FunctionDef _ _ _ _ _ _ sc _ _ _=>sc
 |_=>{kind:= .function,names:= [],isGenerator:=false,isCoroutine:=false}
abbrev CX0:CXT:=fun _ _ _ _ _ _=>False
abbrev E0:XK:=fun _ _ _=>False
theorem qr {X:Cx}:Xu CX0 X E0:=fun _ _ _ _ _ _ _ h=>h.elim
structure Fun (K:PySem.W.Frag)(x qual:Str)(st:Stmt)(f:Addr)(fd:FuncData):Prop where
 ex:∃(oc:Value) (od:Option Addr) (kV doc pm:Value) (an:Option Addr) (cdv ct:Value) (osl:Array (Option Value)),
  fd=PySem.W.fnOf x qual (qv st) (qu st) (qh st) .none kV doc pm an cdv ct∧K.lookup f=some ⟨oc,od,.func fd,osl⟩∧PySem.W.codeIn K cdv qual=true
 kp:PySem.W.keepIn K (.ref f)=true
section
variable {P:Program}{w:World}{K:PySem.W.Frag}{mg:Str→Option Value}{base:Heap}
theorem Fun.ok {x qual:Str}{st:Stmt}{f:Addr}{fd:FuncData}{N ps:List Str}{k:Nat}{sp:Sp}(F:Fun K x qual st f fd)(S:qz N ps (qh st))(len:∀vs H Q E,sp vs H Q E→vs.length=ps.length)
  (hbody:∀(cdv:Value) (A:Around) (outer:List Env) (s:Shared) (H:Hp) (vs:List V) (Q:VK) (E:XK),Room k (A.deeper (envOfC qual (qh st) s.heap.objs.size f cdv))→sp vs H Q E→
   ∃t,PSs (cxOf CX0 P w K mg base N qual (qh st) f cdv A outer s H E).nox (qu st) t∧t {nx:=fun _ H'=>Q .non H',rt:=Q} (start N vs) H):FnOk P w K mg base CX0 (k+1) f fd ps sp:=by
 obtain⟨oc,od,kV,doc,pm,an,cdv,ct,osl,rfl,lk,hcd⟩:=F.ex
 refine fn_of lk hcd S len fun A outer s H vs Q E hr hsp=> ?_
 obtain⟨t,h,q⟩:=hbody cdv A outer s H vs Q E hr hsp
 exact⟨t,h.nox,q⟩
theorem Fun.binds {x qual:Str}{st:Stmt}{f:Addr}{fd:FuncData}{ps:List Str}(F:Fun K x qual st f fd)
  (h:∀(kV doc pm:Value) (an:Option Addr) (cdv ct:Value) (us:List Value),us.length=ps.length→bindArgs (PySem.W.fnOf x qual (qv st) (qu st) (qh st) .none kV doc pm an cdv ct) ⟨us,[]⟩=pure (ps.zip us)):Qj K fd ps []:=by
 obtain⟨oc,od,kV,doc,pm,an,cdv,ct,osl,rfl,lk,hcd⟩:=F.ex
 exact .all (h kV doc pm an cdv ct)
theorem qR {x qual:Str}{st:Stmt}{f:Addr}{oc:Value}{od an:Option Addr}{osl:Array (Option Value)}{kV doc pm cdv ct:Value}(l:K.lookup f=some ⟨oc,od,.func (PySem.W.fnOf x qual (qv st) (qu st) (qh st) .none kV doc pm an cdv ct),osl⟩)
  (c:PySem.W.codeIn K cdv qual=true) (k:PySem.W.keepIn K (.ref f)=true):Fun K x qual st f (PySem.W.fnOf x qual (qv st) (qu st) (qh st) .none kV doc pm an cdv ct):=⟨⟨oc,od,kV,doc,pm,an,cdv,ct,osl,rfl,l,c⟩,k⟩
end
theorem jF {A:Around}{k:Nat}(hr:Room k A):A.units+1<cLine:=Nat.lt_of_le_of_lt (Nat.add_le_add_left (by decide:1≤64) _) hr.units
theorem zR {n:Nat}(h:n≤1000):n<sizeLine:=Nat.lt_of_le_of_lt h (by decide)
section
variable {X:Cx}
theorem pv (i:Nat){x:Str}{pos:Pos}(hN:X.N[i]? =some x:=by rfl)(hv:Vis X.env.scope x:=by first|exact Or.inl rfl|exact Or.inr (Or.inl rfl)|exact Or.inr (Or.inr rfl))(hd:(x==("__debug__":Str))=false:=by decide)
  (hcd:(x==("__classdict__":Str))=false:=by decide):PE X (.Name x pos) (tVar i):=pe_var hN hv hd hcd
end
theorem iteF {A B:Prop}(h:B):if false=true then A else B:=by
 rw [if_neg Bool.false_ne_true]
 exact h
theorem iteT {A B:Prop}(h:A):if true=true then A else B:=by
 rw [if_pos rfl]
 exact h
theorem ite2 {c A B:Prop}[Decidable c](h1:c→A)(h2:¬c→B):if c then A else B:=by
 by_cases h:c
 ·rw [if_pos h]
  exact h1 h
 ·rw [if_neg h]
  exact h2 h
def Same (H H':Hp):Prop:=∀b o,H b=some o→H' b=some o
theorem Same.refl (H:Hp):Same H H:=fun _ _ h=>h
theorem Same.trans {H H1 H2:Hp}(a:Same H H1)(b:Same H1 H2):Same H H2:=fun c o h=>b c o (a c o h)
theorem Same.free {H H':Hp}(e:Same H H'){l:Addr}(h:H' l=Option.none):H l=Option.none:=by
 cases q:H l with
 |none=>rfl
 |some o=>
  rw [e l o q] at h
  cases h
theorem Same.seq {K:PySem.W.Frag}{H H':Hp}{a:Addr}{xs:List V}(e:Same H H')(h:SqL K H a xs):SqL K H' a xs:=by
 rcases h with(h|⟨o,h⟩)|h
 ·exact .inl (.inl (e _ _ h))
 ·exact .inl (.inr ⟨o,e _ _ h⟩)
 ·exact .inr h
section
variable {κ:Type}[DecidableEq κ]
end
end L2
namespace L2
open PySem
inductive D where
 |non|bl (b:Bool)|int (i:Int)|str (z:Str)|lst|dct|tup (xs:List D)
def yu (c:Nat):Bool:=decide (32≤c)&&decide (c≤126)&&decide (c≠37)
def Ya (z:Str):Bool:=decide (z.length≤300)&&z.cps.toList.all yu
mutual
def good:D→Bool
 | .str z=>Ya z
 | .tup xs=>decide (xs.length≤40)&&goodL xs
 |_=>false
def goodL:List D→Bool
 | []=>true
 |x::r=>good x&&goodL r
end
mutual
def sz:D→Nat
 | .str z=>z.length+1
 | .tup xs=>1+szL xs
 |_=>0
def szL:List D→Nat
 | []=>0
 |x::r=>sz x+szL r
end
mutual
def dp:D→Nat
 | .str _=>1
 | .tup xs=>1+dpL xs
 |_=>0
def dpL:List D→Nat
 | []=>0
 |x::r=>max (dp x) (dpL r)
end
mutual
def nd:D→Nat
 | .tup xs=>1+ndL xs
 |_=>1
def ndL:List D→Nat
 | []=>0
 |x::r=>nd x+ndL r
end
def isT (d:D):Bool:=good d&&decide (sz d≤600)&&decide (dp d≤12)
theorem xI:∀(xs ys:List D),szL (xs++ys)=szL xs+szL ys
 | [],ys=>by simp [szL]
 |x::r,ys=>by simp only [List.cons_append,szL,xI r ys];omega
theorem xV:∀(xs ys:List D),ndL (xs++ys)=ndL xs+ndL ys
 | [],ys=>by simp [ndL]
 |x::r,ys=>by simp only [List.cons_append,ndL,xV r ys];omega
theorem Xq {k:Nat}:∀(xs:List D),dpL xs≤k↔∀x∈xs,dp x≤k
 | []=>by simp [dpL]
 |x::r=>by
  have ih:=Xq (k:=k) r
  have e:dpL (x::r)=max (dp x) (dpL r):=by simp only [dpL]
  rw [e]
  constructor
  ·intro h y hy
   rcases List.mem_cons.mp hy with rfl|hy
   ·omega
   ·exact ih.mp (by omega) y hy
  ·intro h
   have h1:=h x List.mem_cons_self
   have h2:=ih.mpr fun y hy=>h y (List.mem_cons_of_mem _ hy)
   omega
theorem dp_pos {d:D}(h:good d=true):1≤dp d:=by
 cases d<;>simp_all [good,dp]
def wOk (w:List (D×Nat)):Bool:=w.all fun p=>good p.1&&decide (p.2+dp p.1≤13)
def wSz (w:List (D×Nat)):Nat:=szL (w.map (·.1))
def G (w:List (D×Nat))(n:Nat):Bool:=wOk w&&decide (n+wSz w≤600)
theorem G_start (d:D):G [(d,1)] 0=isT d:=by
 simp only [G,wOk,wSz,isT,List.all_cons,List.all_nil,List.map_cons,List.map_nil,szL,Bool.and_true,Nat.zero_add,Nat.add_zero]
 have e:decide (1+dp d≤13)=decide (dp d≤12):=by
  rw [decide_eq_decide];omega
 rw [e]
 cases good d<;>cases decide (sz d≤600)<;>cases decide (dp d≤12)<;>rfl
theorem G_nil {n:Nat}(h:n≤600):G [] n=true:=by simp [G,wOk,wSz,szL,h]
theorem G_snoc (w:List (D×Nat))(d:D)(k n:Nat):G (w++ [(d,k)]) n=(wOk w&&(good d&&decide (k+dp d≤13))&&decide (n+(wSz w+sz d)≤600)):=by
 simp only [G,wOk,wSz,List.all_append,List.all_cons,List.all_nil,Bool.and_true,List.map_append,List.map_cons,List.map_nil,xI,szL,Nat.add_zero]
 rfl
theorem G_bad {w:List (D×Nat)}{d:D}{k n:Nat}(h:good d=false):G (w++ [(d,k)]) n=false:=by
 rw [G_snoc,h];simp
theorem G_deep {w:List (D×Nat)}{d:D}{k n:Nat}(h:12<k):G (w++ [(d,k)]) n=false:=by
 rw [G_snoc]
 cases hg:good d with
 |false=>simp
 |true=>
  have:=dp_pos hg
  have e:decide (k+dp d≤13)=false:=decide_eq_false (by omega)
  rw [e];simp
theorem G_big {w:List (D×Nat)}{d:D}{k n:Nat}(h:600<n+sz d):G (w++ [(d,k)]) n=false:=by
 rw [G_snoc]
 have e:decide (n+(wSz w+sz d)≤600)=false:=decide_eq_false (by omega)
 rw [e];simp
theorem G_big1 {w:List (D×Nat)}{xs:List D}{k n:Nat}(h:600<n+1):G (w++ [(.tup xs,k)]) n=false:=G_big (by simp only [sz];omega)
theorem wOk_map (xs:List D)(k:Nat):wOk (xs.map fun x=>(x,k+1))=(goodL xs&&xs.all fun x=>decide (k+1+dp x≤13)):=by
 induction xs with
 |nil=>rfl
 |cons x r ih=>
  simp only [List.map_cons,wOk,List.all_cons,goodL] at ih⊢
  rw [ih]
  cases good x<;>cases decide (k+1+dp x≤13)<;>cases goodL r<;>simp
theorem wSz_map (xs:List D)(k:Nat):wSz (xs.map fun x=>(x,k+1))=szL xs:=by
 unfold wSz
 rw [List.map_map]
 congr 1
 induction xs with
 |nil=>rfl
 |cons x r ih=>simp only [List.map_cons,ih];rfl
theorem G_tup {w:List (D×Nat)}{xs:List D}{k n:Nat}(hl:xs.length≤40)(hk:k≤12):G (w++ [(.tup xs,k)]) n=G (w++xs.map fun x=>(x,k+1)) (n+1):=by
 rw [G_snoc]
 unfold G
 have e1:wOk (w++xs.map fun x=>(x,k+1))=(wOk w&&wOk (xs.map fun x=>(x,k+1))):=by unfold wOk;rw [List.all_append]
 have e2:wSz (w++xs.map fun x=>(x,k+1))=wSz w+szL xs:=by
  have:=wSz_map xs k
  unfold wSz at this⊢
  rw [List.map_append,xI,this]
 have e3:decide (k+dp (.tup xs)≤13)=xs.all fun x=>decide (k+1+dp x≤13):=by
  have q:=Xq (k:=12-k) xs
  have e0:dp (.tup xs)=1+dpL xs:=by simp only [dp]
  rw [e0,Bool.eq_iff_iff]
  constructor
  ·intro h
   have h:=of_decide_eq_true h
   refine List.all_eq_true.mpr fun x hx=>decide_eq_true ?_
   have h2:=q.mp (by omega) x hx
   omega
  ·intro h
   refine decide_eq_true ?_
   have h2:=q.mpr fun x hx=>by
    have h3:=of_decide_eq_true (List.all_eq_true.mp h x hx)
    omega
   omega
 rw [e1,e2,e3,wOk_map]
 have e4:good (.tup xs)=goodL xs:=by simp only [good,decide_eq_true hl,Bool.true_and]
 have e5:decide (n+(wSz w+sz (.tup xs))≤600)=decide (n+1+(wSz w+szL xs)≤600):=by
  rw [decide_eq_decide];simp only [sz];omega
 rw [e4,e5]
theorem G_str {w:List (D×Nat)}{z:Str}{k n:Nat}(ht:Ya z=true)(hk:k≤12):G (w++ [(.str z,k)]) n=G w (n+(1+z.length)):=by
 rw [G_snoc]
 unfold G
 have e4:good (.str z)=true:=by simp only [good,ht]
 have e3:decide (k+dp (.str z)≤13)=true:=decide_eq_true (by simp only [dp];omega)
 have e5:decide (n+(wSz w+sz (.str z))≤600)=decide (n+(1+z.length)+wSz w≤600):=by
  rw [decide_eq_decide];simp only [sz];omega
 rw [e4,e3,e5];simp
end L2
namespace AwZ
open PySem PyProof.Rows
open PySem.AutoSeq1 (wpAny_loadPart')
section
variable {prog:Program}{w:World}{A:Around}{E:Value→Shared→Prop}{s:Shared}
theorem tdraw {j t:Addr}{i:Nat}{its:Array Value}{x:Value}{Q:Value→Shared→Prop}(gj:s.heap.IsTupleIter j t i)(gt:s.heap.IsTuple t its)(gx:its[i]? =some x)
  (q:∀h2,h2.IsTupleIter j t (i+1)→Heap.SameBut j s.heap h2→Q x {s with heap:=h2}):wpAny (model prog w) A (Builtin.SmallTypes.nextOf (.ref j)) Q E s:=by
 obtain⟨u,hu,cu,du⟩:=id gj
 obtain⟨ut,hut,_,nt,dut⟩:=gt
 unfold Builtin.SmallTypes.nextOf
 refine wpAny_bind (wpAny_callSpecial?_slot (name:=Str.ofString "__next__") gj.typeIs F.slot_tuple_iterator_next
  (wpAny_call_entry F.slot_tuple_iterator_next gj.typeIs F.entry_tuple_iterator_next ?_ (F.args_tuple_iterator_next_1 _)))
 show wpAny _ _ (field (.ref j) 0>>=_) _ _ s
 refine wpAny_bind (wpAny_field hu du (x:= .ref t) rfl ?_)
 show wpAny _ _ (if(Value.ref t==Value.none)=true then _ else _) _ _ s
 rw [if_neg (show¬(Value.ref t==Value.none)=true from Bool.false_ne_true)]
 show wpAny _ _ (field (.ref j) 1>>=_) _ _ s
 refine wpAny_bind (wpAny_field hu du (x:= .int i 0) rfl ?_)
 show wpAny _ _ (seqItems? (.ref t)>>=_) _ _ s
 refine wpAny_bind (wpAny_seqItems hut dut ?_)
 simp only [Int.toNat_natCast,gx]
 refine wpAny_bind (wpAny_setField hu du (by simp) (wpAny_pure ⟨x,rfl,wpAny_pure (q _ ?_ (Heap.SameBut.update ..))⟩))
 exact⟨_,Heap.get?_update_self _ hu (Obj.isFreed_of_fields (Obj.data_mapFields du _)),(Obj.cls_mapFields ..).trans cu,by rw [Obj.data_mapFields du];simp [rawInt]⟩
theorem tdraw_end {j t:Addr}{i:Nat}{its:Array Value}{Q:Value→Shared→Prop}(hh:A.handled=none)(gj:s.heap.IsTupleIter j t i)(gt:s.heap.IsTuple t its)(gx:its[i]? =none)
  (q:∀h2 e,Heap.ExtBut j s.heap h2→(∃u,h2.get? e=some u∧u.cls= .type "StopIteration")→E (.ref e) {s with heap:=h2}):wpAny (model prog w) A (Builtin.SmallTypes.nextOf (.ref j)) Q E s:=by
 obtain⟨u,hu,cu,du⟩:=id gj
 obtain⟨ut,hut,_,nt,dut⟩:=gt
 unfold Builtin.SmallTypes.nextOf
 refine wpAny_bind (wpAny_callSpecial?_slot (name:=Str.ofString "__next__") gj.typeIs F.slot_tuple_iterator_next
  (wpAny_call_entry F.slot_tuple_iterator_next gj.typeIs F.entry_tuple_iterator_next ?_ (F.args_tuple_iterator_next_1 _)))
 show wpAny _ _ (field (.ref j) 0>>=_) _ _ s
 refine wpAny_bind (wpAny_field hu du (x:= .ref t) rfl ?_)
 show wpAny _ _ (if(Value.ref t==Value.none)=true then _ else _) _ _ s
 rw [if_neg (show¬(Value.ref t==Value.none)=true from Bool.false_ne_true)]
 show wpAny _ _ (field (.ref j) 1>>=_) _ _ s
 refine wpAny_bind (wpAny_field hu du (x:= .int i 0) rfl ?_)
 show wpAny _ _ (seqItems? (.ref t)>>=_) _ _ s
 refine wpAny_bind (wpAny_seqItems hut dut ?_)
 simp only [Int.toNat_natCast,gx]
 refine wpAny_bind (wpAny_rule (wpAny_bind (wpAny_setField hu du (by simp) ?_)))
 show wpAny _ _ (newExc (.type "StopIteration") []>>=_) _ _ _
 refine wpAny_bind ?_
 simp only [newExc,newTuple]
 refine wpAny_bind (wpAny_newObj_type ?_ (by size_fits))
 refine wpAny_bind (m:=firstArgMember _ _) (wpAny_of_eq (a:=Value.none) (by first|rfl|(simp only [firstArgMember];rfl)) ?_)
 refine wpAny_newObj_type ?_ (by size_fits)
 simp only [raiseNew]
 refine wpAny_bind (wpAny_handled ?_)
 first|rw [show A.in1.handled=none from hh]|rw [hh]
 refine wpAny_bind (wpAny_pure (wpAny_throw ?_))
 exact q _ _ (((Heap.SameBut.update ..).extBut.push _).push _) ⟨_,Heap.get?_push_size _ rfl,rfl⟩
structure Apt (z p r i j a b:Addr):Prop where
 pz:p≠z
 rz:r≠z
 iz:i≠z
 jz:j≠z
 pr:p≠r
 pi:p≠i
 pj:p≠j
 ri:r≠i
 rj:r≠j
 ij:i≠j
 az:a≠z
 ar:a≠r
 ai:a≠i
 aj:a≠j
 bz:b≠z
 br:b≠r
 bi:b≠i
 bj:b≠j
theorem ziptl {z p r i j a b:Addr}{k:Nat}{xs ys:Array Value}{x y u v:Value}{Q:Value→Shared→Prop}(D:Apt z p r i j a b)
  (hz:IsZip s.heap z p r .none) (hp:IsPair s.heap p (.ref i) (.ref j)) (hr:IsPair s.heap r u v)
  (hi:s.heap.IsTupleIter i a k) (hj:s.heap.IsListIter j b k) (ha:s.heap.IsTuple a xs) (hb:s.heap.IsList b ys) (hx:xs[k]? =some x) (hy:ys[k]? =some y)
  (q:∀h2,IsZip h2 z p r (rawInt s.heap.objs.size)→IsPair h2 r x y→h2.IsTupleIter i a (k+1)→h2.IsListIter j b (k+1)→IsPair h2 s.heap.objs.size x y→h2.objs.size=s.heap.objs.size+1→
   (∀c o,c≠z→c≠r→c≠i→c≠j→s.heap.get? c=some o→h2.get? c=some o)→Q (.ref s.heap.objs.size) {s with heap:=h2}):
  wpAny (model prog w) A (Builtin.«zip.__next__» ⟨[.ref z],[]⟩) (fun fin t=>∃v,fin= .done (.ret v)∧Q v t) E s:=by
 show wpAny _ _ (field (.ref z) 2>>=_) _ _ _
 refine wpAny_bind (wpAny_field hz rfl (x:= .bool false) rfl ?_)
 show wpAny _ _ (field (.ref z) 3>>=_) _ _ _
 refine wpAny_bind (wpAny_field hz rfl (x:= .ref p) rfl ?_)
 refine wpAny_bind (wpAny_seqItems hp rfl ?_)
 show wpAny _ _ (Builtin.SmallTypes.ownedTupleIsFree (.ref z)>>=_) _ _ s
 refine wpAny_bind ?_
 unfold Builtin.SmallTypes.ownedTupleIsFree
 refine wpAny_bind (wpAny_field hz rfl (x:= .none) rfl (wpAny_pure ?_))
 simp only [if_true]
 refine wpAny_bind (wpAny_rule ?_)
 refine wpAny_bind (wpAny_field hz rfl (x:= .ref r) rfl ?_)
 refine wpAny_bind (wpAny_setField_rec hz (by simp) fun h1 z1 s1=> ?_)
 replace z1:IsZip h1 z p r .ellipsis:=z1
 refine wpAny_bind ?_
 simp only [List.zipIdx_cons,List.zipIdx_nil,List.forIn_cons,List.forIn_nil]
 refine wpAny_bind (wpAny_bind (wpAny_onRaise ?_))
 show wpAny _ _ (Builtin.SmallTypes.nextOf (.ref i)>>=_) _ _ _
 refine wpAny_bind (tdraw (hi.extBut s1.extBut D.iz) (ha.extBut s1.extBut D.az) hx fun h2 i2 s2=>wpAny_pure ?_)
 have r2:IsPair h2 r u v:=s2.extBut _ _ D.ri (s1.extBut _ _ D.rz hr)
 refine wpAny_bind (wpAny_seqItems r2 rfl ?_)
 refine wpAny_bind (wpAny_updateSeq_pair r2 fun h3 r3 s3=> ?_)
 replace r3:IsPair h3 r x v:=r3
 refine wpAny_bind (wpAny_letGo (wpAny_pure ?_))
 refine wpAny_bind (wpAny_bind (wpAny_onRaise ?_))
 show wpAny _ _ (Builtin.SmallTypes.nextOf (.ref j)>>=_) _ _ _
 refine wpAny_bind (wpAny_nextOf_list_item (((hj.extBut s1.extBut D.jz).extBut s2.extBut D.ij.symm).extBut s3.extBut D.rj.symm)
  (((hb.extBut s1.extBut D.bz).extBut s2.extBut D.bi).extBut s3.extBut D.br) hy fun h4 j4 s4=>wpAny_pure ?_)
 have r4:IsPair h4 r x v:=s4.extBut _ _ D.rj r3
 refine wpAny_bind (wpAny_seqItems r4 rfl ?_)
 refine wpAny_bind (wpAny_updateSeq_pair r4 fun h5 r5 s5=> ?_)
 replace r5:IsPair h5 r x y:=r5
 refine wpAny_bind (wpAny_letGo (wpAny_pure (wpAny_pure ?_)))
 refine wpAny_bind (wpAny_seqItems r5 rfl ?_)
 refine wpAny_bind (wpAny_newTuple ?_)
 have sz:h5.objs.size=s.heap.objs.size:=by rw [s5.1,s4.1,s3.1,s2.1,s1.1]
 have z5:IsZip h5 z p r .ellipsis:=s5.extBut _ _ D.rz.symm (s4.extBut _ _ D.jz.symm (s3.extBut _ _ D.rz.symm (s2.extBut _ _ D.iz.symm z1)))
 have k5:∀c o,c≠z→c≠r→c≠i→c≠j→s.heap.get? c=some o→h5.get? c=some o:=fun c o c1 c2 c3 c4 e=>
  s5.extBut _ _ c2 (s4.extBut _ _ c4 (s3.extBut _ _ c2 (s2.extBut _ _ c3 (s1.extBut _ _ c1 e))))
 have i5:h5.IsTupleIter i a (k+1):=((i2.extBut s3.extBut D.ri.symm).extBut s4.extBut D.ij).extBut s5.extBut D.ri.symm
 have j5:h5.IsListIter j b (k+1):=j4.extBut s5.extBut D.rj.symm
 have zlt:z<h5.objs.size:=Heap.lt_size z5
 show wpAny _ _ (Builtin.SmallTypes.ownedTupleHandOut (.ref z) (.ref h5.objs.size)>>=_) _ _ _
 refine wpAny_bind ?_
 unfold Builtin.SmallTypes.ownedTupleHandOut
 have z6:IsZip (h5.push {cls:= .type "tuple",data:= .seq #[x,y]}) z p r .ellipsis:=Heap.get?_push_of_some _ z5
 refine wpAny_bind (wpAny_setField_rec z6 (by simp) fun h7 z7 s7=> ?_)
 replace z7:IsZip h7 z p r (rawInt h5.objs.size):=z7
 refine wpAny_setField_rec z7 (by simp) fun h8 z8 s8=> ?_
 replace z8:IsZip h8 z p r (rawInt h5.objs.size):=z8
 have up:∀c o,c≠z→h5.get? c=some o→h8.get? c=some o:=fun c o c1 e=>s8.extBut _ _ c1 (s7.extBut _ _ c1 (Heap.get?_push_of_some _ e))
 have t8:IsPair h8 h5.objs.size x y:=s8.extBut _ _ (Nat.ne_of_gt zlt) (s7.extBut _ _ (Nat.ne_of_gt zlt) (Heap.get?_push_size _ rfl))
 have n8:h8.objs.size=h5.objs.size+1:=by rw [s8.1,s7.1,Heap.size_push]
 rw [sz] at z8 t8 n8
 refine wpAny_pure ⟨_,rfl,?_⟩
 show Q (.ref h5.objs.size) _
 rw [sz]
 exact q h8 z8 (up _ _ D.rz r5) (by obtain⟨o,e,g⟩:=i5;exact⟨o,up _ o D.iz e,g⟩) (j5.at fun o e=>up _ o D.jz e) t8 n8 fun c o c1 c2 c3 c4 e=>up c o c1 (k5 c o c1 c2 c3 c4 e)
theorem zip_go {z p r i j a b:Addr}{k:Nat}{xs ys:Array Value}{x y u v:Value}{Q:Option Value→Shared→Prop}(D:Apt z p r i j a b)
  (hz:IsZip s.heap z p r .none) (hp:IsPair s.heap p (.ref i) (.ref j)) (hr:IsPair s.heap r u v)
  (hi:s.heap.IsTupleIter i a k) (hj:s.heap.IsListIter j b k) (ha:s.heap.IsTuple a xs) (hb:s.heap.IsList b ys) (hx:xs[k]? =some x) (hy:ys[k]? =some y)
  (q:∀h2,IsZip h2 z p r (rawInt s.heap.objs.size)→IsPair h2 r x y→h2.IsTupleIter i a (k+1)→h2.IsListIter j b (k+1)→IsPair h2 s.heap.objs.size x y→h2.objs.size=s.heap.objs.size+1→
   (∀c o,c≠z→c≠r→c≠i→c≠j→s.heap.get? c=some o→h2.get? c=some o)→Q (some (.ref s.heap.objs.size)) {s with heap:=h2}):
  wpAny (model prog w) A (pyNext (.ref z)) Q E s:=by
 have tz:s.TypeIs (.ref z) "zip":=⟨_,hz,rfl⟩
 unfold pyNext
 exact wpAny_bind (wpAny_attempt (wpAny_callSpecial?_slot (name:=Str.ofString "__next__") tz F.slot_zip_next
  (wpAny_call_entry F.slot_zip_next tz F.entry_zip_next (ziptl D hz hp hr hi hj ha hb hx hy fun h2 b1 b2 b3 b4 b5 b6 b7=>wpAny_pure (q h2 b1 b2 b3 b4 b5 b6 b7)) (F.args_zip_next_1 _))))
theorem zip_stop {z p r i j a b:Addr}{k:Nat}{xs:Array Value}{Q:Option Value→Shared→Prop}(hh:A.handled=none)(D:Apt z p r i j a b)
  (hz:IsZip s.heap z p r .none) (hp:IsPair s.heap p (.ref i) (.ref j)) (hi:s.heap.IsTupleIter i a k) (ha:s.heap.IsTuple a xs) (hx:xs[k]? =none)
  (q:∀h2,(∀c o,c≠z→c≠r→c≠i→c≠j→s.heap.get? c=some o→h2.get? c=some o)→Q none {s with heap:=h2}):wpAny (model prog w) A (pyNext (.ref z)) Q E s:=by
 have tz:s.TypeIs (.ref z) "zip":=⟨_,hz,rfl⟩
 unfold pyNext
 refine wpAny_bind (wpAny_attempt (wpAny_callSpecial?_slot (name:=Str.ofString "__next__") tz F.slot_zip_next
  (wpAny_call_entry F.slot_zip_next tz F.entry_zip_next ?_ (F.args_zip_next_1 _))))
 show wpAny _ _ (field (.ref z) 2>>=_) _ _ _
 refine wpAny_bind (wpAny_field hz rfl (x:= .bool false) rfl ?_)
 show wpAny _ _ (field (.ref z) 3>>=_) _ _ _
 refine wpAny_bind (wpAny_field hz rfl (x:= .ref p) rfl ?_)
 refine wpAny_bind (wpAny_seqItems hp rfl ?_)
 show wpAny _ _ (Builtin.SmallTypes.ownedTupleIsFree (.ref z)>>=_) _ _ s
 refine wpAny_bind ?_
 unfold Builtin.SmallTypes.ownedTupleIsFree
 refine wpAny_bind (wpAny_field hz rfl (x:= .none) rfl (wpAny_pure ?_))
 simp only [if_true]
 refine wpAny_bind (wpAny_rule ?_)
 refine wpAny_bind (wpAny_field hz rfl (x:= .ref r) rfl ?_)
 refine wpAny_bind (wpAny_setField_rec hz (by simp) fun h1 z1 s1=> ?_)
 replace z1:IsZip h1 z p r .ellipsis:=z1
 refine wpAny_bind ?_
 simp only [List.zipIdx_cons,List.zipIdx_nil,List.forIn_cons,List.forIn_nil]
 refine wpAny_bind (wpAny_bind (wpAny_onRaise ?_))
 show wpAny _ _ (Builtin.SmallTypes.nextOf (.ref i)>>=_) _ _ _
 refine wpAny_bind (tdraw_end hh (hi.extBut s1.extBut D.iz) (ha.extBut s1.extBut D.az) hx fun h2 e s2 he=> ?_)
 obtain⟨oe,ge,ce⟩:=he
 have z2:IsZip h2 z p r .ellipsis:=s2 _ _ D.iz.symm z1
 have ez:e≠z:=fun x=>by subst x;rw [z2] at ge;cases ge;simp at ce
 refine wpAny_setField_rec z2 (by simp) fun h3 _ s3=> ?_
 refine wpAny_bind (wpAny_isInstance (T:="StopIteration") (b:=true) ⟨oe,s3.extBut _ _ ez ge,ce⟩ isSubtype_stop ?_)
 exact wpAny_pure (q _ fun c o c1 _ c3 _ x=>s3.extBut _ _ c1 (s2 _ _ c3 (s1.extBut _ _ c1 x)))
end
abbrev q1 (h:Heap)(a:Addr):Heap:=h.push {cls:= .type "tuple_iterator",data:= .fields #[.ref a,.int 0 0]}
abbrev q2 (h:Heap)(a b:Addr):Heap:=(q1 h a).push {cls:= .type "list_iterator",data:= .fields #[.ref b,.int 0 0]}
abbrev q3 (h:Heap)(a b:Addr):Heap:=(q2 h a b).push {cls:= .type "tuple",data:= .seq #[.ref h.objs.size,.ref (q1 h a).objs.size]}
abbrev q4 (h:Heap)(a b:Addr):Heap:=(q3 h a b).push {cls:= .type "tuple",data:= .seq #[.none,.none]}
abbrev q5 (h:Heap)(a b:Addr):Heap:=(q4 h a b).push {cls:= .type "zip",data:= .fields #[.none,.bool false,.bool false,.ref (q2 h a b).objs.size,.ref (q3 h a b).objs.size]}
theorem zip_made (a b:Addr)(xs ys:Array Value):Meets (Builtin.«zip.__new__» ⟨[.type "zip",.ref a,.ref b],[]⟩) (fun _ R s=>s.heap.IsTuple a xs∧s.heap.IsList b ys∧R (.ok (.ret (.ref (q4 s.heap a b).objs.size))) {s with heap:=q5 s.heap a b}):=
 .of_wp fun prog w A R s h=>by
  obtain⟨hp,g,d,tk,os⟩:=s
  obtain⟨ha,hb,h⟩:=h
  have sub:=sub_zip
  have h1:Heap.IsTuple (Shared.heap ⟨hp,g,d,tk,os⟩) a xs:=ha
  have h2:Heap.IsList (Shared.heap ⟨hp.push {cls:= .type "tuple_iterator",data:= .fields #[.ref a,.int 0 0]},g,d,tk,os⟩) b ys:=Heap.IsList.push hb _
  wp_walk using wpAny_pyIter_tuple h1,wpAny_pyIter_list h2
  exact⟨_,rfl,h⟩
section
variable {prog:Program}{w:World}{A:Around}{E:Value→Shared→Prop}{s:Shared}
theorem zip_call {a b:Addr}{xs ys:Array Value}{Q:Value→Shared→Prop}(ha:s.heap.IsTuple a xs)(hb:s.heap.IsList b ys)
  (h:∀h2,IsZip h2 (s.heap.objs.size+4) (s.heap.objs.size+2) (s.heap.objs.size+3) .none→IsPair h2 (s.heap.objs.size+2) (.ref s.heap.objs.size) (.ref (s.heap.objs.size+1))→
   IsPair h2 (s.heap.objs.size+3) .none .none→h2.IsTupleIter s.heap.objs.size a 0→h2.IsListIter (s.heap.objs.size+1) b 0→h2.objs.size=s.heap.objs.size+5→
   (∀c o,s.heap.get? c=some o→h2.get? c=some o)→Q (.ref (s.heap.objs.size+4)) {s with heap:=h2}):wpAny (model prog w) A (call (.type "zip") [.ref a,.ref b]) Q E s:=by
 refine callType_new F.called_zip (by decide) (F.typeCall_zip_2 _ _) (F.newCall_zip_2 _ _) (fun obj=>F.args_object_init_3 obj _ _) F.entry_zip_new (zip_made a b xs ys) ⟨ha,hb,?_⟩
 have z1:(q1 s.heap a).objs.size=s.heap.objs.size+1:=Heap.size_push ..
 have z2:(q2 s.heap a b).objs.size=s.heap.objs.size+2:=by rw [Heap.size_push,z1]
 have z3:(q3 s.heap a b).objs.size=s.heap.objs.size+3:=by rw [Heap.size_push,z2]
 have z4:(q4 s.heap a b).objs.size=s.heap.objs.size+4:=by rw [Heap.size_push,z3]
 have z5:(q5 s.heap a b).objs.size=s.heap.objs.size+5:=by rw [Heap.size_push,z4]
 have g5:(q5 s.heap a b).get? (q4 s.heap a b).objs.size=some _:=Heap.get?_push_size _ rfl
 have g4:(q5 s.heap a b).get? (q3 s.heap a b).objs.size=some _:=Heap.get?_push_of_some _ (Heap.get?_push_size _ rfl)
 have g3:(q5 s.heap a b).get? (q2 s.heap a b).objs.size=some _:=Heap.get?_push_of_some _ (Heap.get?_push_of_some _ (Heap.get?_push_size _ rfl))
 have g2:(q5 s.heap a b).get? (q1 s.heap a).objs.size=some _:=Heap.get?_push_of_some _ (Heap.get?_push_of_some _ (Heap.get?_push_of_some _ (Heap.get?_push_size _ rfl)))
 have g1:(q5 s.heap a b).get? s.heap.objs.size=some _:=Heap.get?_push_of_some _ (Heap.get?_push_of_some _ (Heap.get?_push_of_some _ (Heap.get?_push_of_some _ (Heap.get?_push_size _ rfl))))
 show _∧_
 rw [z2,z3,z4] at g5
 rw [z1,z2] at g3
 rw [z3] at g4
 rw [z1] at g2
 rw [z4]
 exact⟨⟨_,g5,rfl⟩,h _ g5 g3 g4 ⟨_,g1,rfl,rfl⟩ ⟨_,g2,rfl,rfl⟩ z5 fun c o x=>Heap.get?_push_of_some _ (Heap.get?_push_of_some _ (Heap.get?_push_of_some _ (Heap.get?_push_of_some _ (Heap.get?_push_of_some _ x))))⟩
end
end AwZ
namespace AwZ
open PySem PyProof.Rows
open PySem.AutoSeq1 (wpAny_loadPart')
section
variable {prog:Program}{w:World}{A:Around}{E:Value→Shared→Prop}{s:Shared}
theorem enumt {e j t:Addr}{i:Nat}{c:Int}{its:Array Value}{x old:Value}{Q:Value→Shared→Prop}(he:IsEnum s.heap e j c old)(gj:s.heap.IsTupleIter j t i)(gt:s.heap.IsTuple t its)(gx:its[i]? =some x)(ej:e≠j)
  (q:∀h2,IsEnumOut h2 e j (c+1) x s.heap.objs.size→h2.IsTupleIter j t (i+1)→h2.get? s.heap.objs.size=some {cls:= .type "tuple",data:= .seq #[.int c s.toks,x]}→h2.objs.size=s.heap.objs.size+1→
   (∀b o,b≠e→b≠j→s.heap.get? b=some o→h2.get? b=some o)→Q (.ref s.heap.objs.size) {s with heap:=h2,toks:=s.toks+1}):
  wpAny (model prog w) A (Builtin.«enumerate.__next__» ⟨[.ref e],[]⟩) (fun fin t=>∃v,fin= .done (.ret v)∧Q v t) E s:=by
 obtain⟨hp,g,d,tk,os⟩:=s
 show wpAny _ _ (field (.ref e) 2>>=_) _ _ _
 refine wpAny_bind (wpAny_field he rfl (x:= .ref j) rfl ?_)
 refine wpAny_bind (tdraw gj gt gx fun h1 j1 s1=> ?_)
 replace s1:Heap.SameBut j hp h1:=s1
 have e1:IsEnum h1 e j c old:=(s1.2 e ej).trans he
 show wpAny _ _ (field (.ref e) 3>>=_) _ _ ⟨h1,g,d,tk,os⟩
 refine wpAny_bind (wpAny_field e1 rfl (x:=rawInt c) rfl ?_)
 show wpAny _ _ (field (.ref e) 4>>=_) _ _ ⟨h1,g,d,tk,os⟩
 refine wpAny_bind (wpAny_field e1 rfl (x:= .none) rfl ?_)
 show wpAny _ _ (mkInt c>>=_) _ _ ⟨h1,g,d,tk,os⟩
 refine wpAny_bind (wpAny_mkInt ?_)
 show wpAny _ _ (setField (.ref e) 3 (rawInt (c+1))>>=_) _ _ ⟨h1,g,d,tk+1,os⟩
 refine wpAny_bind (wpAny_setField_rec e1 (by simp) fun h2 e2 s2=> ?_)
 replace s2:Heap.SameBut e h1 h2:=s2
 replace e2:IsEnum h2 e j (c+1) old:=e2
 show wpAny _ _ (setField (.ref e) 4 .none>>=_) _ _ ⟨h2,g,d,tk+1,os⟩
 refine wpAny_bind (wpAny_setField_rec e2 (by simp) fun h3 e3 s3=> ?_)
 replace s3:Heap.SameBut e h2 h3:=s3
 replace e3:IsEnum h3 e j (c+1) old:=e3
 show wpAny _ _ (newTuple [.int c tk,x]>>=_) _ _ ⟨h3,g,d,tk+1,os⟩
 refine wpAny_bind (wpAny_newTuple ?_)
 have e4:IsEnum (h3.push {cls:= .type "tuple",data:= .seq #[.int c tk,x]}) e j (c+1) old:=Heap.get?_push_of_some _ e3
 generalize hg:h3.push {cls:= .type "tuple",data:= .seq #[.int c tk,x]}=h4 at e4
 have sz:h3.objs.size=hp.objs.size:=by rw [s3.1,s2.1,s1.1]
 have el:e<hp.objs.size:=Heap.lt_size he
 have t4:h4.get? hp.objs.size=some {cls:= .type "tuple",data:= .seq #[.int c tk,x]}:=by rw [←hg,←sz];exact Heap.get?_push_size _ rfl
 have n4:h4.objs.size=hp.objs.size+1:=by rw [←hg,Heap.size_push,sz]
 have k4:∀b o,b≠e→b≠j→hp.get? b=some o→h4.get? b=some o:=fun b o be bj y=>by
  rw [←hg];exact Heap.get?_push_of_some _ (s3.extBut b o be (s2.extBut b o be (s1.extBut b o bj y)))
 have j4:h4.IsTupleIter j t (i+1):=by
  obtain⟨o,y,r⟩:=j1
  exact⟨o,by rw [←hg];exact Heap.get?_push_of_some _ (s3.extBut j o (Ne.symm ej) (s2.extBut j o (Ne.symm ej) y)),r⟩
 show wpAny _ _ (Builtin.SmallTypes.ownedTupleIsFree (.ref e)>>=_) _ _ ⟨h4,g,d,tk+1,os⟩
 rw [sz]
 clear hg e3 s3 e2 s2 e1 s1 j1 sz h3 h2 h1
 refine wpAny_bind ?_
 unfold Builtin.SmallTypes.ownedTupleIsFree
 refine wpAny_bind (wpAny_field e4 rfl (x:= .none) rfl (wpAny_pure ?_))
 simp only [if_true]
 refine wpAny_bind (wpAny_rule ?_)
 refine wpAny_bind (wpAny_field e4 rfl (x:=old) rfl ?_)
 refine wpAny_bind (wpAny_setField_rec e4 (by simp) fun h5 e5 s5=> ?_)
 replace s5:Heap.SameBut e h4 h5:=s5
 replace e5:IsEnum h5 e j (c+1) x:=e5
 show wpAny _ _ (Builtin.SmallTypes.ownedTupleHandOut (.ref e) (.ref hp.objs.size)>>=_) _ _ ⟨h5,g,d,tk+1,os⟩
 refine wpAny_bind ?_
 unfold Builtin.SmallTypes.ownedTupleHandOut
 refine wpAny_bind (wpAny_setField_rec e5 (by simp) fun h6 e6 s6=> ?_)
 replace s6:Heap.SameBut e h5 h6:=s6
 replace e6:IsEnumOut h6 e j (c+1) x hp.objs.size:=e6
 refine wpAny_setField_rec e6 (by simp) fun h7 e7 s7=> ?_
 replace s7:Heap.SameBut e h6 h7:=s7
 replace e7:IsEnumOut h7 e j (c+1) x hp.objs.size:=e7
 have up:∀b o,b≠e→h4.get? b=some o→h7.get? b=some o:=fun b o be y=>s7.extBut b o be (s6.extBut b o be (s5.extBut b o be y))
 refine wpAny_bind (wpAny_letGo (wpAny_pure ⟨_,rfl,q h7 e7 ?_ (up _ _ (Nat.ne_of_gt el) t4) ?_ fun b o be bj y=>up b o be (k4 b o be bj y)⟩))
 ·obtain⟨o,y,r⟩:=j4
  exact⟨o,up j o (Ne.symm ej) y,r⟩
 ·rw [s7.1,s6.1,s5.1,n4]
theorem enum_go {e j t:Addr}{i:Nat}{c:Int}{its:Array Value}{x old:Value}{Q:Option Value→Shared→Prop}(he:IsEnum s.heap e j c old)(gj:s.heap.IsTupleIter j t i)(gt:s.heap.IsTuple t its)(gx:its[i]? =some x)(ej:e≠j)
  (q:∀h2,IsEnumOut h2 e j (c+1) x s.heap.objs.size→h2.IsTupleIter j t (i+1)→h2.get? s.heap.objs.size=some {cls:= .type "tuple",data:= .seq #[.int c s.toks,x]}→h2.objs.size=s.heap.objs.size+1→
   (∀b o,b≠e→b≠j→s.heap.get? b=some o→h2.get? b=some o)→Q (some (.ref s.heap.objs.size)) {s with heap:=h2,toks:=s.toks+1}):wpAny (model prog w) A (pyNext (.ref e)) Q E s:=by
 have te:s.TypeIs (.ref e) "enumerate":=⟨_,he,rfl⟩
 unfold pyNext
 exact wpAny_bind (wpAny_attempt (wpAny_callSpecial?_slot (name:=Str.ofString "__next__") te F.slot_enumerate_next
  (wpAny_call_entry F.slot_enumerate_next te F.entry_enumerate_next (enumt he gj gt gx ej fun h2 b1 b2 b3 b4 b5=>wpAny_pure (q h2 b1 b2 b3 b4 b5)) (F.args_enumerate_next_1 _))))
theorem enum_stop {e j t:Addr}{i:Nat}{c:Int}{its:Array Value}{old:Value}{Q:Option Value→Shared→Prop}(hh:A.handled=none)(he:IsEnum s.heap e j c old)(gj:s.heap.IsTupleIter j t i)(gt:s.heap.IsTuple t its)(gx:its[i]? =none)
  (q:∀h2,Heap.ExtBut j s.heap h2→Q none {s with heap:=h2}):wpAny (model prog w) A (pyNext (.ref e)) Q E s:=by
 have te:s.TypeIs (.ref e) "enumerate":=⟨_,he,rfl⟩
 unfold pyNext
 refine wpAny_bind (wpAny_attempt (wpAny_callSpecial?_slot (name:=Str.ofString "__next__") te F.slot_enumerate_next
  (wpAny_call_entry F.slot_enumerate_next te F.entry_enumerate_next ?_ (F.args_enumerate_next_1 _))))
 show wpAny _ _ (field (.ref e) 2>>=_) _ _ _
 refine wpAny_bind (wpAny_field he rfl (x:= .ref j) rfl ?_)
 refine wpAny_bind (tdraw_end hh gj gt gx fun h2 y s2 hy=> ?_)
 obtain⟨o,g,c⟩:=hy
 refine wpAny_bind (wpAny_isInstance (T:="StopIteration") (b:=true) ⟨o,g,c⟩ isSubtype_stop ?_)
 exact wpAny_pure (q _ s2)
theorem w_tc (T:String)(args:List Value)(kw:List (Str×Value)):(Code.builtin "type.__call__" ⟨.type T::args,kw⟩).weight=0:=rfl
theorem new_kw {T nid:String}{Bn:Builtin}{args:List Value}{kw:List (Str×Value)}{S:PySem.Spec}{Q:Value→Shared→Prop}(ft:TypeCalled T nid "object.__init__")
  (hne:(some nid !=some "object.__new__")=true) (hct:checkTypeCall T ⟨args,kw⟩=pure ()) (hcn:checkBuiltinCall nid ⟨.type T::args,kw⟩=pure ())
  (hok:∀obj,argsOk "object.__init__" ⟨obj::args,kw⟩) (en:entryFor table nid=some Bn) (g:Meets (Bn ⟨.type T::args,kw⟩) S)
  (h:S A.in1 (wants (fun obj s1=>s1.TypeIs obj T∧Q obj s1) E) s):wpAny (model prog w) A (call (.type T) args kw) Q E s:=by
 obtain⟨c,tl,hm⟩:=ft.mro
 have hmade:=ft.made
 have hsub:=ft.sub
 refine wpAny_call (codeAny_of_tree ?_)
 show wpAny _ _ (callAny (.type T) _) _ _ _
 refine wpAny_pure ⟨Code.quiet_builtin _ (by decide+kernel),codeAny_builtin F.entry_type_call ?_⟩
 rw [Around.under_plain (w_tc T args kw) (units_type_call_type T args kw)]
 have g1:=ft.notType
 have g2:=ft.canCreate
 repeat (any_goals (first|assumption|wp_step))
 refine codeAny_mono (codeAny_call_builtin ft.plain en (wpAny_of_eq hcn (g prog w A.in1 _ s h))) fun r s1 hr=> ?_
 cases r with
 |error e=>exact hr
 |ok fl=>
  cases fl with
  |ret obj=>
   obtain⟨hT,hq⟩:=hr
   have hli:=ft.init.lookup
   have hbi:=ft.init.bind obj
   repeat (any_goals (first|assumption|wp_step))
   have gi:Meets (Builtin.«object.__init__» ⟨obj::args,kw⟩) (fun _ R s=>s.TypeIs obj T∧R (.ok (.ret .none)) s):=by
    refine Meets.of_wp fun prog w A R s hs=> ?_
    obtain⟨hT,hq⟩:=hs
    cases hc:(!args.isEmpty|| !kw.isEmpty) with
    |false=>
     show wpAny _ _ (if(!args.isEmpty|| !kw.isEmpty)=true then _ else _) _ _ _
     rw [if_neg (by rw [hc];exact Bool.false_ne_true)]
     exact wpAny_pure ⟨_,rfl,hq⟩
    |true=>
     repeat (any_goals (first|assumption|wp_step))
     exact⟨_,rfl,hq⟩
   refine codeAny_mono (codeAny_call_builtin ft.init.plain F.entry_object_init (ft.init.check _ _ _ _ _ _ _ _ hT (hok obj) (gi prog w A.in1 (wants (fun r s2=>r= .none∧Q obj s2) E) s1 ⟨hT,rfl,hq⟩))) fun r2 s2 hr2=> ?_
   cases r2 with
   |error e=>exact hr2
   |ok fl2=>
    cases fl2 with
    |ret r=>
     obtain⟨rfl,hq⟩:=hr2
     repeat (any_goals (first|assumption|wp_step))
    |_=>exact hr2.elim
  |_=>exact hr.elim
end
end AwZ
namespace L2
open PySem PySem.Spec PyProof.Rows
def Its (x:Str):It:=⟨fun i _=>i<x.cps.size,fun i H v H'=>H'=H∧∃c,x.cps[i]? =some c∧v= .str ⟨#[c]⟩,fun i _=>i=x.cps.size⟩
theorem turn_str {P:Program}{w:World}{K:PySem.W.Frag}{tg:Expr}{x:Str}{t:Tok}{it:Addr}(ty:String)(hty:ty="str_ascii_iterator"∨ty="str_iterator"):
  Turn P w K tg (Its x) [it] it (fun i h=>h.IsStrIter it ty x t i) where
 mem:=by simp
 obj:=fun i h st b hb=>by
  have e:b=it:=by simpa using hb
  subst e
  obtain⟨o,e,c,d⟩:=st
  exact⟨o,e,fun v z=>by rw [d] at z;cases z⟩
 keep:=fun i h h' st k=>by
  obtain⟨o,e,r⟩:=st
  exact⟨o,k it (by simp) o e,r⟩
 item:=by
  intro X hP hw hK hc i pins s σ H E I hf st hg
  subst hP hw hK
  obtain⟨f0,f1,f2,f3,f4,f5⟩:=hf it (by simp)
  have W:Walks X.prog X.w X.A it [it] [it] x.cps.size (SignAt x) (fun i h=>h.IsStrIter it ty x t i):=by
   rcases hty with rfl|rfl
   ·exact Walks.strAscii (I.ok.hd hc) it x t
   ·exact Walks.strWide (I.ok.hd hc) it x t
  refine wpAny_with_toks (n:=1) I.tk (W.item i s _ _ hg st fun v h' tk hv st' kk=> ?_)
  intro htk
  obtain⟨c,u,hx,rfl⟩:=hv
  have I1:Inv X pins σ H {s with heap:=h',toks:=tk}:=I.turned (fun b o hb e=>kk b o (by simpa using hb) e) f0 f1 f3 f4 f5
  obtain⟨o,e,c',d⟩:=id st'
  refine⟨_,rfl,go_of (s:={s with heap:=h',toks:=tk}) e c' d (by rcases hty with rfl|rfl<;>decide) ⟨.str ⟨#[c]⟩,H,I1,⟨u,rfl⟩,⟨rfl,c,hx,rfl⟩,st',fun b hb=>(hf b hb).1⟩⟩
 done:=by
  intro X hP hw hK hc i pins s σ H E I hf st hg
  subst hP hw hK
  have hg':i=x.cps.size:=hg
  subst hg'
  obtain⟨f0,f1,f2,f3,f4,f5⟩:=hf it (by simp)
  have W:Walks X.prog X.w X.A it [it] [it] x.cps.size (SignAt x) (fun i h=>h.IsStrIter it ty x t i):=by
   rcases hty with rfl|rfl
   ·exact Walks.strAscii (I.ok.hd hc) it x t
   ·exact Walks.strWide (I.ok.hd hc) it x t
  exact wpAny_with_toks (n:=1) I.tk (W.done s _ _ st fun h' tk kk htk=>⟨rfl,I.turned (fun b o hb e=>kk b o (by simpa using hb) e) f0 f1 f3 f4 f5⟩)
 self:=fun _ _ _ _ _ st h=>by
  rcases hty with rfl|rfl
  ·exact wpAny_pyIter_striter_ascii st h
  ·exact wpAny_pyIter_striter_wide st h
section
variable {X:Cx}{tg:Expr}
def iStr (tl:TE):TI:=fun σ H R=>tl σ H fun x H1=>∃z,x= .str z∧R (Its z) H1
theorem pi_str {l:Expr}{tl:TE}(hl:PE X l tl):PI X tg l (iStr tl):=by
 intro pins s σ H R I h
 refine thn (hl pins s σ H _ I h) fun v s1 ⟨x,H1,I1,r1,q1⟩=> ?_
 obtain⟨z,e,q⟩:=q1
 subst e
 obtain⟨t,rfl⟩:=r1
 have fp:∀(o:Obj),∀b∈ [s1.heap.objs.size],FpOk X pins H1 b:=fun o b hb=>by
  have e:b=s1.heap.objs.size:=by simpa using hb
  subst e
  exact I1.fpOk (Nat.le_refl _) (I1.hok.fresh (Nat.le_refl _))
 cases ha:z.cps.all (·<128)
 ·refine wpAny_pyIter_wide ha ?_
  exact⟨s1.heap.objs.size,[s1.heap.objs.size],_,_,H1,rfl,I1.kept (t':=s1.toks) fun b o e=>Heap.get?_push_of_some _ e,turn_str "str_iterator" (.inr rfl),⟨_,Heap.get?_push_size _ rfl,rfl,rfl⟩,fp default,q⟩
 ·refine wpAny_pyIter_ascii ha ?_
  exact⟨s1.heap.objs.size,[s1.heap.objs.size],_,_,H1,rfl,I1.kept (t':=s1.toks) fun b o e=>Heap.get?_push_of_some _ e,turn_str "str_ascii_iterator" (.inl rfl),⟨_,Heap.get?_push_size _ rfl,rfl,rfl⟩,fp default,q⟩
def rSlS:V→Option Int→Option Int→Hp→VK→Prop:=fun x lo hi H Q=>∃z,x= .str z∧z.length≤sizeLine∧Q (.str (Txt.slice z lo hi)) H
def tokOf:Value→Option (Int×Tok)
 | .int i t=>some (i,t)
 |_=>none
theorem sl_str:SlR X rSlS:=by
 intro pins s σ H x v vl vu lo hi sl Q I rx hs pl pu h
 obtain⟨z,rfl,hz,q⟩:=h
 obtain⟨t,rfl⟩:=rx
 refine⟨"str",_,F.slot_str_getitem.lookup,typeIs_str _ _ _,?_⟩
 have hl:vl=partValue (tokOf vl)∧lo=(tokOf vl).map (·.1):=by cases pl<;>exact⟨rfl,rfl⟩
 have hu:vu=partValue (tokOf vu)∧hi=(tokOf vu).map (·.1):=by cases pu<;>exact⟨rfl,rfl⟩
 obtain⟨o,e1,e2,e3⟩:=hs
 refine wpAny_with_toks (n:=1) I.tk ?_
 refine wpAny_getItem_str_slice (l:=tokOf vl) (u:=tokOf vu) (st:=none) ⟨o,e1,e2,by rw [e3,←hl.1,←hu.1];rfl⟩ rfl ?_
 refine post_val_or_str ⟨?_,fun t' k=> ?_⟩
 ·exact Nat.le_trans (Txt.slice_le z _ _) hz
 ·intro htk
  exact⟨.str (Txt.slice z lo hi),H,I.tok k,⟨t',by rw [hl.2,hu.2];rfl⟩,q⟩
theorem op_isnotB:OpR X (compareOp .IsNot) (fun x y H Q=>∃c,y= .bl c∧Q (.bl (!decide (x= .bl c))) H):=by
 intro pins s σ H x y v u Q I rx ry h
 obtain⟨c,rfl,q⟩:=h
 cases ry
 have hp:plainIs v (.bool c)=true:=by
  cases x<;>first
   |(cases rx;rfl)
   |(obtain⟨t,rfl⟩:=rx;rfl)
 refine wpAny_isNot_plain hp (Qs I q ?_)
 cases x with
 |bl b=>cases rx;cases b<;>cases c<;>rfl
 |non=>cases rx;rfl
 |ref a=>cases rx;rfl
 |ty n=>cases rx;rfl
 |int i=>obtain⟨t,rfl⟩:=rx;rfl
 |str i=>obtain⟨t,rfl⟩:=rx;rfl
 |byt i=>obtain⟨t,rfl⟩:=rx;rfl
 |flt i=>obtain⟨t,rfl⟩:=rx;rfl
theorem Qi {K:PySem.W.Frag}(hK:X.K=K):jR X (.builtin "isinstance") (fun xs H Q=>∃x T t b,xs= [x,.ty T]∧TyOf K H x t∧PySem.W.kitOne K t (.type T)=some b∧Q (.bl b) H):=by
 intro pins s σ H xs us Q I r h
 obtain⟨x,T,t,b,rfl,ty,e,q⟩:=h
 obtain⟨u,u',rfl,ru,ru'⟩:=vals2 r
 cases ru'
 subst hK
 exact wpAny_with_toks (n:=1) I.tk (isinst_ok I ru ty e fun tk htk=>⟨.bl b,H,I.tok tk,rfl,q⟩)
theorem all_range:∀bs:List Bool,(List.range bs.length).all (fun i=>bs.getD i true)=bs.all id
 | []=>rfl
 |b::r=>by
  rw [List.length_cons,List.range_succ_eq_map,List.all_cons,List.all_map,List.all_cons]
  have e:(List.range r.length).all ((fun i=>(b::r).getD i true)∘Nat.succ)=(List.range r.length).all fun i=>r.getD i true:=by
   congr 1
  rw [e,all_range r]
  rfl
theorem zy (hc:X.calm=true):jR X (.builtin "all") (fun xs H Q=>∃(p:Addr) (bs:List Bool),xs= [.ref p]∧SqL X.K H p (bs.map V.bl)∧Q (.bl (bs.all id)) H):=by
 intro pins s σ H xs us Q I r h
 obtain⟨p,bs,rfl,hp,q⟩:=h
 obtain⟨u,rfl,ru⟩:=xj r
 cases ru
 obtain⟨its,rv,pl,hz⟩:=I.list hp
 have hlt:p<s.heap.objs.size:=by obtain⟨o,n,e,_⟩:=pl;exact Heap.lt_size e
 refine wpAny_with_toks (n:=1) I.tk ?_
 refine call_all_walk (wpAny_pyIter_list pl.isList ?_)
 have up:∀b o,s.heap.get? b=some o→(s.heap.push {cls:= .type "list_iterator",data:= .fields #[.ref p,.int 0 0]}).get? b=some o:=fun b o e=>Heap.get?_push_of_some _ e
 have hl:its.length=bs.length:=by have:=rv.length;simpa using this.symm
 refine⟨s.heap.objs.size,_,_,_,_,_,fun i=>bs.getD i true,rfl,Walks.list (show X.A.in1.handled=none from I.ok.hd hc) s.heap.objs.size p (Nat.ne_of_lt hlt) its.toArray,⟨⟨_,Heap.get?_push_size _ rfl,rfl,rfl⟩,pl.isList.push _⟩,?_,?_⟩
 ·intro i v s' Q' E' hv hQ
  have hv':its[i]? =some v:=by simpa using hv
  have hi:i<its.length:=(List.getElem?_eq_some_iff.mp hv').1
  obtain⟨u,e1,e2⟩:=rv.get (i:=i) (x:= .bl (bs[i]'(by omega))) (by simp [show i<bs.length by omega])
  rw [hv'] at e1
  cases e1
  cases e2
  have:bs.getD i true=bs[i]'(by omega):=by simp [List.getD,show i<bs.length by omega]
  have hQ2:Q' (bs.getD i true) s':=hQ
  rw [this] at hQ2
  exact wpAny_truthy_bool hQ2
 ·intro h' tk kk htk
  have hall:(List.range its.toArray.size).all (fun i=>bs.getD i true)=bs.all id:=by
   rw [List.size_toArray,hl]
   exact all_range bs
  rw [hall]
  have I1:=I.kept (t':=s.toks) (h':=s.heap.push {cls:= .type "list_iterator",data:= .fields #[.ref p,.int 0 0]}) up
  have fpo:=I.fpOk (Nat.le_refl _) (I.hok.fresh (Nat.le_refl s.heap.objs.size))
  obtain⟨f0,f1,f2,f3,f4,f5⟩:=fpo
  exact⟨.bl (bs.all id),H,I1.turned (it:=s.heap.objs.size) (fun b o hb e=>kk b o (by simpa using hb) e) f0 f1 f3 f4 f5,rfl,q⟩
end
end L2
namespace L2
open PySem PySem.Spec PyProof.Rows
section
variable {X:Cx}
theorem pe_gI {x:Str}{i:Int}{pos:Pos}(hg:Gl X x)(hm:∃t,X.mg x=some (.int i t))(hd:(x==("__debug__":Str))=false:=by decide):PE X (.Name x pos) (tC (.int i)):=by
 obtain⟨t,hm⟩:=hm
 exact pe_glob hg hm ⟨t,rfl⟩ hd
theorem pe_gS {x z:Str}{pos:Pos}(hg:Gl X x)(hm:∃t,X.mg x=some (.str z t))(hd:(x==("__debug__":Str))=false:=by decide):PE X (.Name x pos) (tC (.str z)):=by
 obtain⟨t,hm⟩:=hm
 exact pe_glob hg hm ⟨t,rfl⟩ hd
theorem pe_gR {x:Str}{a:Addr}{pos:Pos}(hg:Gl X x)(hm:X.mg x=some (.ref a))(hd:(x==("__debug__":Str))=false:=by decide):PE X (.Name x pos) (tC (.ref a)):=pe_glob hg hm rfl hd
end
theorem qe {H:Hp}{p:Addr}(h:H p=none)(o:HO):Same H (upd H p o):=fun b u q=>by rw [qD (ql q h)];exact q
def Kept (p:Addr)(H H':Hp):Prop:=∀b o,H b=some o→b≠p→H' b=some o
theorem Kept.trans {p:Addr}{H H1 H2:Hp}(a:Kept p H H1)(b:Kept p H1 H2):Kept p H H2:=fun c o h n=>b c o (a c o h n) n
theorem Kept.upd (p:Addr)(H:Hp)(o:HO):Kept p H (L2.upd H p o):=fun b u h n=>by rw [qD n];exact h
theorem Kept.same {p:Addr}{H H1 H':Hp}(k:Kept p H1 H')(s:Same H H1)(n:H p=none):Same H H':=fun b o h=>k b o (s b o h) (ql h n)
theorem xr {α:Type}{xs:List α}{i:Int}(h0:0≤i)(h1:i<xs.length):∃c,atI xs i=some c:=by
 obtain⟨n,rfl⟩:∃n:Nat,i=(n:Int):=⟨i.toNat,by omega⟩
 have hn:n<xs.length:=by omega
 exact⟨xs[n],Qe (List.getElem?_eq_getElem hn)⟩
end L2
namespace L2
open PySem PySem.Spec PyProof.Rows
def clOf (cells:List (Str×Addr)):List (Str×NameKind)→List (Str×Addr)→List (Str×Addr)
 | [],cs=>cs
 |(n,k)::r,cs=>clOf cells r (if k== .free then(match cells.lookup n with|some a=>(n,a)::cs|none=>cs) else cs)
theorem wc {cells:List (Str×Addr)}:∀{names:List (Str×NameKind)}{cs:List (Str×Addr)},(∀y c,cs.lookup y=some c→cells.lookup y=some c)→∀y c,(clOf cells names cs).lookup y=some c→cells.lookup y=some c
 | [],_,h=>h
 |(n,k)::r,cs,h=>by
  unfold clOf
  refine wc fun y c e=> ?_
  split at e
  ·split at e
   ·rename_i a ha
    rw [List.lookup_cons] at e
    split at e
    ·rename_i hy
     have hy':y=n:=beq_iff_eq.mp hy
     subst hy'
     cases e
     exact ha
    ·exact h y c e
   ·exact h y c e
  ·exact h y c e
theorem clOf_keep {cells:List (Str×Addr)}:∀{names:List (Str×NameKind)}{cs:List (Str×Addr)}{y:Str},(∃c,cs.lookup y=some c)→∃c,(clOf cells names cs).lookup y=some c
 | [],_,_,h=>h
 |(n,k)::r,cs,y,h=>by
  unfold clOf
  refine clOf_keep ?_
  split
  ·split
   ·rw [List.lookup_cons]
    split
    ·exact⟨_,rfl⟩
    ·exact h
   ·exact h
  ·exact h
theorem Z0 {cells:List (Str×Addr)}:∀{names:List (Str×NameKind)}{cs:List (Str×Addr)}{y:Str},(y,NameKind.free)∈names→(∃c,cells.lookup y=some c)→∃c,(clOf cells names cs).lookup y=some c
 | [],_,_,h,_=>nomatch h
 |(n,k)::r,cs,y,h,hc=>by
  unfold clOf
  rcases List.mem_cons.mp h with e|h
  ·cases e
   refine clOf_keep ?_
   obtain⟨c,hc⟩:=hc
   rw [if_pos (by rfl),hc]
   exact⟨c,by simp [List.lookup_cons]⟩
  ·exact Z0 h hc
theorem xF {env:Env}:∀{names:List (Str×NameKind)}{cs:List (Str×Addr)},(∀y,(y,NameKind.free)∈names→∃c,env.cells.lookup y=some c)→
  (forIn names cs fun x r=>(do
   if x.2== .free then
    let a←cellOf env x.1
    pure (ForInStep.yield ((x.1,a)::r))
   else pure (ForInStep.yield r):Sem (ForInStep (List (Str×Addr)))))=(pure (clOf env.cells names cs):Sem (List (Str×Addr)))
 | [],cs,_=>rfl
 |(n,k)::r,cs,h=>by
  rw [List.forIn_cons]
  have hr:∀y,(y,NameKind.free)∈r→∃c,env.cells.lookup y=some c:=fun y hy=>h y (List.mem_cons_of_mem _ hy)
  unfold clOf
  by_cases hk:(k==NameKind.free)=true
  ·have hk':k= .free:=by simpa using hk
   subst hk'
   obtain⟨c,hc⟩:=h n List.mem_cons_self
   have e:cellOf env n=pure c:=by unfold cellOf;rw [hc]
   simp only [hk,if_true,e,hc,pure_bind]
   exact xF hr
  ·simp only [if_neg hk,pure_bind]
   exact xF hr
theorem ZJ {scope:Scope}{env:Env}(h:∀y,(y,NameKind.free)∈scope.names→∃c,env.cells.lookup y=some c):closureFor scope env=pure (clOf env.cells scope.names []):=by
 unfold closureFor
 have q:=xF (cs:= []) h
 show(forIn scope.names ([]:List (Str×Addr)) (fun x r=>(do
   if x.2== .free then
    let a←cellOf env x.1
    pure (ForInStep.yield ((x.1,a)::r))
   else pure (ForInStep.yield r):Sem (ForInStep (List (Str×Addr)))))>>=fun cs=>pure cs)=_
 rw [q,pure_bind]
theorem Xk {env:Env}(hf:env.scope.kind= .function):∀{names:List (Str×NameKind)}{x:Str},names.lookup x=some .free→env.kindOf x=some .cell→
  (names.map fun(n,k)=>if(k==NameKind.free&&env.scope.kind== .function&&env.kindOf n==some .cell) then(n,NameKind.cell) else(n,k)).lookup x=some .cell
 | [],_,h,_=>by simp at h
 |(n,k)::r,x,h,hc=>by
  have ih:= @Xk env hf r x
  show List.lookup x ((if(k==NameKind.free&&env.scope.kind== .function&&env.kindOf n==some .cell)=true then(n,NameKind.cell) else(n,k))::_)=_
  cases hx:x==n with
  |true=>
   simp only [List.lookup_cons,hx] at h
   cases h
   have hx':x=n:=beq_iff_eq.mp hx
   subst hx'
   rw [if_pos (by rw [hf,hc];rfl)]
   simp [List.lookup_cons]
  |false=>
   simp only [List.lookup_cons,hx] at h
   by_cases hc':(k==NameKind.free&&env.scope.kind== .function&&env.kindOf n==some .cell)=true
   ·rw [if_pos hc'];simp only [List.lookup_cons,hx];exact ih h hc
   ·rw [if_neg hc'];simp only [List.lookup_cons,hx];exact ih h hc
theorem zW {env:Env}:∀{names:List (Str×NameKind)}{x:Str},(∀y∈names,y.2≠ .cell)→
  ((names.map fun(n,k)=>if(k==NameKind.free&&env.scope.kind== .function&&env.kindOf n==some .cell) then(n,NameKind.cell) else(n,k)).lookup x=some .cell∨
   (names.map fun(n,k)=>if(k==NameKind.free&&env.scope.kind== .function&&env.kindOf n==some .cell) then(n,NameKind.cell) else(n,k)).lookup x=some .free)→(x,NameKind.free)∈names
 | [],_,_,h=>by simp at h
 |(n,k)::r,x,hn,h=>by
  have ih:= @zW env r x (fun y hy=>hn y (List.mem_cons_of_mem _ hy))
  have g:List.lookup x ((if(k==NameKind.free&&env.scope.kind== .function&&env.kindOf n==some .cell)=true then(n,NameKind.cell) else(n,k))::(r.map fun(n,k)=>if(k==NameKind.free&&env.scope.kind== .function&&env.kindOf n==some .cell) then(n,NameKind.cell) else(n,k)))=some .cell∨
   List.lookup x ((if(k==NameKind.free&&env.scope.kind== .function&&env.kindOf n==some .cell)=true then(n,NameKind.cell) else(n,k))::(r.map fun(n,k)=>if(k==NameKind.free&&env.scope.kind== .function&&env.kindOf n==some .cell) then(n,NameKind.cell) else(n,k)))=some .free:=h
  have hnk:k≠ .cell:=hn (n,k) List.mem_cons_self
  by_cases hc:(k==NameKind.free&&env.scope.kind== .function&&env.kindOf n==some .cell)=true
  ·rw [if_pos hc] at g
   have hk:k= .free:=by
    rw [Bool.and_eq_true,Bool.and_eq_true] at hc
    simpa using hc.1.1
   subst hk
   cases hx:x==n with
   |true=>
    have hx':x=n:=beq_iff_eq.mp hx
    subst hx'
    exact List.mem_cons_self
   |false=>
    simp only [List.lookup_cons,hx] at g
    exact List.mem_cons_of_mem _ (ih g)
  ·rw [if_neg hc] at g
   cases hx:x==n with
   |true=>
    have hx':x=n:=beq_iff_eq.mp hx
    subst hx'
    simp only [List.lookup_cons,hx] at g
    rcases g with g|g
    ·exact absurd (Option.some.inj g) hnk
    ·rw [show k=NameKind.free from Option.some.inj g]
     exact List.mem_cons_self
   |false=>
    simp only [List.lookup_cons,hx] at g
    exact List.mem_cons_of_mem _ (ih g)
abbrev blk (X:Cx)(scope:Scope)(Nb:List Str)(cl:List (Str×Addr))(C:Addr)(s₀:Shared)(H₀:Hp)(fp:List Addr)(pn:List (Addr×Obj)):Cx:=
 {X with N:=Nb,s₀:=s₀,H₀:=H₀,env:=compEnvC scope cl C X.env,outer:=X.stack,ex:=fp,fn:=fun _=>false,pn:=pn,xe:=fun _ _=>False}
structure LcS (X:Cx)(scope:Scope)(Nb:List Str)(nt:Nat)(fr:List Nat):Prop where
 kind:scope.kind= .function
 cell:∀y∈scope.names,y.2≠ .cell
 names:∀y∈scope.names,y.2= .local→scope.names.lookup y.1=some .local
 free:∀y∈scope.names,y.2= .free→X.env.kindOf y.1=some .cell
 len:Nb.length=nt+fr.length
 fr:∀(k j:Nat) (x:Str),fr[k]? =some j→Nb[nt+k]? =some x→X.N[j]? =some x∧scope.names.lookup x=some .free
def sigB (nt:Nat)(fr:List Nat)(σ:St):St:=List.replicate nt none++fr.map fun j=>(σ[j]?).join
section
variable {pr:Program}{wo:World}{ar:Around}{RR:Result→Shared→Prop}{st:Shared}
abbrev nb (pr:Program)(wo:World)(ar:Around)(en:Env)(RR:Result→Shared→Prop):Value→Shared→Prop:=notedBy (model pr wo) ar en fun x t=>RR (.error x) t
abbrev tsts (en:Env)(cs:List Expr):Sem Bool:=forIn cs true fun c b=>if b=true then do let y←isTrue c en (eval c en);pure (ForInStep.yield y) else pure (ForInStep.yield b)
theorem compLoop_by {el tg itx:Expr}{cs:List Expr}{sc:Scope}{ps:Pos}{itv acc:Value}{en:Env}(J:Nat→Shared→Prop)
  (turn:∀k t,J k t→wpAny (model pr wo) ar (pyNext itv) (fun r t1=>match r with
   |none=>RR (.ok .next) t1
   |some v=>wpAny (model pr wo) ar (letOwnedTupleGo tg itv v) (fun _ t2=>wpAny (model pr wo) ar (assign tg en v) (fun _ t3=>wpAny (model pr wo) ar (tsts en cs) (fun b t4=>
     if b=true then wpAny (model pr wo) ar (eval el en) (fun x t5=>wpAny (model pr wo) ar (call (.builtin "list.append") [acc,x]) (fun _ t6=>∃m,m<k∧J m t6) (nb pr wo ar en RR) t5) (nb pr wo ar en RR) t4
     else∃m,m<k∧J m t4) (nb pr wo ar en RR) t3) (nb pr wo ar en RR) t2) (nb pr wo ar en RR) t1) (nb pr wo ar en RR) t)
  (k:Nat) (h0:J k st):codeAny (model pr wo) ar (.compLoop (.ListComp el [⟨tg,itx,cs,0⟩] sc ps) 0 itv acc en) RR st:=by
 refine codeAny_loop rfl J (fun k t hJ=> ?_) k h0
 show wpAny _ ar ((compTurn (.ListComp el [⟨tg,itx,cs,0⟩] sc ps) 0 itv acc en).onRaise fun x=>do noteFrame x en;theTreesLotGoes x) _ _ t
 rw [compTurn_list]
 refine wpAny_noted (wpAny_bind (wpAny_standAt (wpAny_bind (thn (turn k t hJ) fun r t1 q1=> ?_))))
 cases r with
 |none=>exact wpAny_pure q1
 |some v=>
  refine wpAny_bind (thn q1 fun _ t2 q2=>wpAny_bind (thn q2 fun _ t3 q3=>wpAny_bind (thn q3 fun b t4 q4=> ?_)))
  cases b with
  |false=>exact wpAny_pure ⟨rfl,q4⟩
  |true=>exact wpAny_bind (wpAny_bind (thn q4 fun x t5 q5=>wpAny_bind (thn q5 fun _ t6 q6=>wpAny_pure (wpAny_pure ⟨rfl,q6⟩))))
end
def PIfs (X:Cx)(ifs:List Expr)(t:TT):Prop:=
 ∀(pins:List (Addr×Obj)) (s:Shared) (σ:St) (H:Hp) (Q:Bool→Hp→Prop),Inv X pins σ H s→t σ H Q→wpAny (model X.prog X.w) X.A (tsts X.env ifs) (TP X pins σ Q) X.xe s
def tYes:TT:=fun _ H Q=>Q true H
theorem jK {X:Cx}:PIfs X [] tYes:=fun _ _ _ H _ I h=>wpAny_tests_nil ⟨H,I,h⟩
def lcGo (D:Addr)(J:It)(g:TG)(tc:TT)(te:TE)(σb:St)(H1:Hp)(Q:VK):Prop:=
 ∃(n:Nat) (W:Nat→St→List V→Hp→Prop),n≤sizeLine∧W 0 σb [] (upd H1 D (.lst []))∧
  (∀i σ ys H,i<n→W i σ ys H→H D=some (.lst ys)→ys.length≤i→J.go i H∧∀x H',J.yld i H x H'→g x σ H' fun σ2 H2=>tc σ2 H2 fun b H3=>
   if b=true then te σ2 H3 fun y H4=>H4 D=some (.lst ys)∧W (i+1) σ2 (ys++ [y]) (upd H4 D (.lst (ys++ [y]))) else H3 D=some (.lst ys)∧W (i+1) σ2 ys H3)∧
  ∀σ ys H,W n σ ys H→H D=some (.lst ys)→J.stop n H∧Q (.ref D) H
def tLC (nt:Nat)(fr:List Nat)(wi:TI)(g:TG)(tc:TT)(te:TE):TE:=fun σ H Q=>wi σ H fun J H1=>∀D,H1 D=none→lcGo D J g tc te (sigB nt fr σ) H1 Q
section
variable {X:Cx}{scope:Scope}{Nb:List Str}{nt:Nat}{fr:List Nat}
theorem inv_blk {pins:List (Addr×Obj)}{σ:St}{H:Hp}{s:Shared}{fp:List Addr}{C:Addr}{h4:Heap}{tk:Nat}(S:LcS X scope Nb nt fr)(I:Inv X pins σ H s)(hC:C=s.heap.objs.size)
  (hns:h4.Ns C fun _=>none) (old:∀b o,s.heap.get? b=some o→h4.get? b=some o) (hf:∀b∈fp,FpOk X pins H b) (ho:∀b∈fp,∃o,s.heap.get? b=some o) (ht:0<tk:=by((try dsimp only);first|assumption|exact Inv.tk (by assumption)|exact Nat.succ_pos _|exact Nat.lt_of_lt_of_le (Inv.tk (by assumption)) (by assumption)|exact Nat.add_pos_left (Inv.tk (by assumption)) _|omega)):
  Inv (blk X scope Nb (clOf X.env.cells scope.names []) C s H fp (X.pn++pins)) [] (sigB nt fr σ) H {s with heap:=h4,toks:=tk}:=by
 subst hC
 have sub:∀y c,(clOf X.env.cells scope.names []).lookup y=some c→X.env.cells.lookup y=some c:=wc fun y c e=>by simp at e
 have frees:∀y,(y,NameKind.free)∈scope.names→X.env.kindOf y=some .cell:=fun y hy=>S.free _ hy rfl
 have neC:∀b o,s.heap.get? b=some o→b≠s.heap.objs.size:=fun b o e z=>by rw [z] at e;exact absurd (Heap.lt_size e) (Nat.lt_irrefl _)
 have notStk:∀b,b≠X.env.locals→b∉X.fs→b∉frs X.stack:=fun b h1 h2 z=>(List.mem_cons.mp (I.stkSub b z)).elim h1 h2
 refine⟨⟨I.ok.mod,S.kind,I.ok.glob,I.ok.blt,Nat.le_refl _,fun x y c h1 h2=>I.ok.inj x y c (sub x c h1) (sub y c h2),fun x hx=> ?_,fun x c z=>(by cases z),I.ok.hd,I.ok.frames,.inl rfl,fun b hb=> ?_,I.bs,Nat.le_trans I.ok.bsz I.sz,fun b o e hb=> ?_,fun b hb=> ?_,I.stack,I.stkFree⟩,
  rfl,I.bare,Un.kept old,⟨_,hns,fun i x v e1 e2 e3=> ?_⟩,fun x c e=> ?_,I.hok.fresh (Nat.le_refl _),fun x c e=>I.freeC x c (sub x c e),fun p hp=> ?_,I.hok.kept old,?_,ht⟩
 ·have hm:=zW (env:=X.env) S.cell hx
  exact Z0 hm (I.ok.has x (.inl (frees x hm)))
 ·obtain⟨o,e⟩:=ho b hb
  exact⟨neC b o e,fun x c e'=>(hf b hb).2.2.2.2.1 x c (sub x c e')⟩
 ·rcases(hf b hb).2.2.2.1 with z|z
  ·exact I.ok.noex b o e z
  ·exact absurd (Nat.lt_of_lt_of_le (Heap.lt_size e) (Nat.le_trans I.ok.bsz z)) (Nat.lt_irrefl _)
 ·exact notStk b (hf b hb).2.1 (hf b hb).2.2.1
 ·
  have hi:nt≤i:=by
   rcases Nat.lt_or_ge i nt with z|z
   ·unfold sigB at e2
    rw [List.getElem?_append_left (by simpa using z),List.getElem?_replicate] at e2
    split at e2<;>cases e2
   ·exact z
  obtain⟨k,rfl⟩:∃k,i=nt+k:=⟨i-nt,by omega⟩
  unfold sigB at e2
  rw [List.getElem?_append_right (by simp)] at e2
  simp only [List.length_replicate,Nat.add_sub_cancel_left,List.getElem?_map] at e2
  cases ej:fr[k]? with
  |none=>rw [ej] at e2;cases e2
  |some j=>
   rw [ej] at e2
   have e2':(σ[j]?).join=some v:=Option.some.inj e2
   have e2'':σ[j]? =some (some v):=by
    cases q:σ[j]? with
    |none=>rw [q] at e2';cases e2'
    |some z=>rw [q] at e2';exact congrArg some e2'
   obtain⟨n1,n2⟩:=S.fr k j x ej e1
   have kx:X.env.kindOf x=some .cell:=frees x (PySem.mem_of_lookup n2)
   obtain⟨m,hn,hl⟩:=I.loc
   obtain⟨u,r,l⟩:=hl j x v n1 e2'' (.inr (.inl kx))
   refine⟨u,r,.inr ⟨.inl (Xk I.ok.kind n2 kx),?_⟩⟩
   rcases l with⟨z,_⟩|⟨_,c,ec,hcell⟩
   ·rw [kx] at z;cases z
   ·obtain⟨c',ec'⟩:=Z0 (cells:=X.env.cells) (cs:= []) (PySem.mem_of_lookup n2) ⟨c,ec⟩
    have:=sub x c' ec'
    rw [ec] at this
    cases this
    obtain⟨o,q,d⟩:=hcell
    exact⟨c,ec',o,old c o q,d⟩
 ·obtain⟨v,o,q,d⟩:=I.cell x c (sub x c e)
  exact⟨v,o,old c o q,d⟩
 ·have hp':p∈X.pn++pins:=by simpa using hp
  obtain⟨e,n,ne,nf,d⟩:=I.pin p hp'
  exact⟨old _ _ e,n,neC _ _ e,notStk _ ne nf,d⟩
 ·show(sigB nt fr σ).length=Nb.length
  unfold sigB
  rw [S.len]
  simp
theorem lc_core {tg iter elt:Expr}{ifs:List Expr}{wi:TI}{g:TG}{tc:TT}{te:TE}{pos:Pos}{R:Value→Addr→Result→Shared→Prop}{pins:List (Addr×Obj)}{s:Shared}{σ:St}{H:Hp}{Q:VK}(S:LcS X scope Nb nt fr)(hcalm:X.calm=true)(hi:PI X tg iter wi)
  (hg:∀cl C s₀ H₀ fp pn,PG (blk X scope Nb cl C s₀ H₀ fp pn) tg g) (hc:∀cl C s₀ H₀ fp pn,PIfs (blk X scope Nb cl C s₀ H₀ fp pn) ifs tc) (he:∀cl C s₀ H₀ fp pn,PE (blk X scope Nb cl C s₀ H₀ fp pn) elt te)
  (I:Inv X pins σ H s) (h:tLC nt fr wi g tc te σ H Q)
  (hR:∀(D C:Addr) (H':Hp) (s1:Shared) (m:Str→Option Value),Inv X pins σ H' s1→s1.heap.Ns C m→FpOk X pins H' C→Q (.ref D) H'→R (.ref D) C (.ok .next) s1):
  wpAny (model X.prog X.w) X.A (eval iter X.env) (fun x s₁=>wpAny (model X.prog X.w) X.A (pyIter x) (fun it s₂=>wpAny (model X.prog X.w) X.A (newList []) (fun acc s₃=>
   wpAny (model X.prog X.w) X.A (newFunctionEnv scope X.env.globals (clOf X.env.cells scope.names []) [] X.env.qual none .none (some X.env)) (fun cenv s₄=>
    codeAny (model X.prog X.w) X.A (.compStart (.ListComp elt [⟨tg,iter,ifs,0⟩] scope pos) 0 it acc {cenv with scope:=relabel scope X.env}) (R acc cenv.locals) s₄) X.xe s₃) X.xe s₂) X.xe s₁) X.xe s:=by
 refine thn (hi pins s σ H _ I h) fun v s1 h1=>thn h1 fun itv s2 h2=> ?_
 obtain⟨it,fp,tn,J,H2,e,I2,T,st2,f2,q2⟩:=h2
 subst e
 have hDn:H2 s2.heap.objs.size=none:=I2.hok.fresh (Nat.le_refl _)
 obtain⟨n,W,hn,w0,step,fin⟩:=q2 _ hDn
 generalize hD:s2.heap.objs.size=D at*
 refine wpAny_newObj_type ?_
 rw [hD]
 have I3:Inv X pins σ (upd H2 D (.lst [])) {s2 with heap:=s2.heap.push {cls:= .type "list",data:= .seq ([]:List Value).toArray}}:=by
  have:=I2.lnew (ys:= []) (its:= []) (t':=s2.toks) .nil (Nat.zero_le _)
  rw [hD] at this
  exact this
 refine wpAny_newFunctionEnv S.cell (by intro y hy;simp at hy) (fun h4 hns4 sb4=> ?_) S.kind
 dsimp only at hns4 sb4⊢
 generalize hH3:s2.heap.push {cls:= .type "list",dict:=none,data:= .seq ([]:List Value).toArray}=h3 at hns4 sb4 I3⊢
 have hC:h3.objs.size=D+1:=by rw [←hH3,Heap.size_push,hD]
 have old4:∀b o,h3.get? b=some o→h4.get? b=some o:=fun b o e=>sb4.extBut b o (Nat.ne_of_lt (Heap.lt_size e)) (Heap.get?_push_of_some _ e)
 have old3:∀b o,s2.heap.get? b=some o→h3.get? b=some o:=fun b o e=>by rw [←hH3];exact Heap.get?_push_of_some _ e
 have fpo:∀b∈fp,∃o,s2.heap.get? b=some o:=fun b hb=>let⟨o,e,_⟩:=T.obj _ _ st2 b hb;⟨o,e⟩
 have fpD:∀b∈fp,b≠D:=fun b hb z=>by
  obtain⟨o,e⟩:=fpo b hb
  have q:=Heap.lt_size e
  rw [z,hD] at q
  exact Nat.lt_irrefl _ q
 have f3:∀b∈fp,FpOk X pins (upd H2 D (.lst [])) b:=fun b hb=>⟨by rw [qD (fpD b hb)];exact(f2 b hb).1,(f2 b hb).2⟩
 have IB:=inv_blk (C:=h3.objs.size) (h4:=h4) (tk:=s2.toks+([]:List (Str×Value)).length) (fp:=fp) S I3 rfl hns4 old4 f3 fun b hb=>let⟨o,e⟩:=fpo b hb;⟨o,old3 b o e⟩
 generalize hXb:blk X scope Nb (clOf X.env.cells scope.names []) h3.objs.size {s2 with heap:=h3} (upd H2 D (.lst [])) fp (X.pn++pins)=Xb at IB
 have gB:=hg (clOf X.env.cells scope.names []) h3.objs.size {s2 with heap:=h3} (upd H2 D (.lst [])) fp (X.pn++pins)
 have cB:=hc (clOf X.env.cells scope.names []) h3.objs.size {s2 with heap:=h3} (upd H2 D (.lst [])) fp (X.pn++pins)
 have eB:=he (clOf X.env.cells scope.names []) h3.objs.size {s2 with heap:=h3} (upd H2 D (.lst [])) fp (X.pn++pins)
 rw [hXb] at gB cB eB
 have xP:Xb.prog=X.prog:=by rw [←hXb]
 have xW:Xb.w=X.w:=by rw [←hXb]
 have xK:Xb.K=X.K:=by rw [←hXb]
 have xA:Xb.A=X.A:=by rw [←hXb]
 have xC:Xb.calm=true:=by rw [←hXb];exact hcalm
 have xE:Xb.env=compEnvC scope (clOf X.env.cells scope.names []) h3.objs.size X.env:=by rw [←hXb]
 have xX:Xb.xe=fun _ _=>False:=by rw [←hXb]
 have stat:∀{H':Hp},(∀b∈fp,H' b=none)→∀b∈fp,FpOk Xb [] H' b:=fun hn b hb=>by
  obtain⟨g1,g2,g3,g4,g5,g6⟩:=f2 b hb
  obtain⟨o,e⟩:=fpo b hb
  subst hXb
  refine⟨hn b hb,fun z=> ?_,fun z=>(List.mem_cons.mp (I2.stkSub b z)).elim g2 g3,.inl hb,fun x c ec=>g5 x c (wc (fun y c e=>by simp at e) x c ec),fun p hp=>g6 p (by simpa using hp)⟩
  have hlt:=Heap.lt_size (old3 b o e)
  have z':b=h3.objs.size:=z
  rw [z'] at hlt
  exact Nat.lt_irrefl _ hlt
 have loop:∀s5:Shared,s5={s2 with heap:=h4,toks:=s2.toks+([]:List (Str×Value)).length}→
   codeAny (model X.prog X.w) X.A (.compLoop (.ListComp elt [⟨tg,iter,ifs,0⟩] scope pos) 0 (.ref it) (.ref D) (compEnvC scope (clOf X.env.cells scope.names []) h3.objs.size X.env))
    (R (.ref D) h3.objs.size) s5:=by
  rintro s5 rfl
  refine compLoop_by (fun k s'=>∃i σ' ys H',Inv Xb [] σ' H' s'∧tn i s'.heap∧(∀b∈fp,H' b=none)∧H' D=some (.lst ys)∧i≤n∧k=n-i∧ys.length≤i∧W i σ' ys H') ?_ n
   ⟨0,sigB nt fr σ,[],_,IB,T.keep _ _ _ st2 fun b hb o e=>old4 b o (old3 b o e),fun b hb=>(f3 b hb).1,qj,Nat.zero_le _,rfl,Nat.le_refl _,w0⟩
  rintro k s' ⟨i,σ',ys,H',I',st',fr',hD',hin,rfl,hyl,w'⟩
  rcases Nat.lt_or_ge i n with hlt|hge
  ·obtain⟨go,next⟩:=step i σ' ys H' hlt w' hD' hyl
   have ti:=T.item Xb xP xW xK xC i [] s' σ' H' (fun _ _=>False) I' (stat fr') st' go
   rw [xA] at ti
   refine wpAny_mono ti (fun r s1 h1=> ?_) fun _ _ z=>z.elim
   obtain⟨u,rfl,h1⟩:=h1
   refine wpAny_mono h1 (fun _ s2' h2'=> ?_) fun _ _ z=>z.elim
   obtain⟨x,H5,I5,r5,y5,st5,fr5⟩:=h2'
   have I5':=I5.pinned (stat fr5) (T.obj _ _ st5)
   have ga:=gB _ s2' σ' H5 x u _ I5' r5 (next x H5 y5)
   rw [xP,xW,xA,xE,xX] at ga
   refine wpAny_mono ga (fun _ s3 h3'=> ?_) fun _ _ z=>z.elim
   obtain⟨σ6,H6,I6,q6⟩:=h3'
   have ca:=cB _ s3 σ6 H6 _ I6 q6
   rw [xP,xW,xA,xE,xX] at ca
   refine wpAny_mono ca (fun ok s4 h4'=> ?_) fun _ _ z=>z.elim
   obtain⟨H7,I7,q7⟩:=h4'
   have back:∀{σ8:St}{H8:Hp}{s8:Shared},Inv Xb ([]++pinsAt fp s2'.heap) σ8 H8 s8→Inv Xb [] σ8 H8 s8∧tn (i+1) s8.heap∧∀b∈fp,H8 b=none:=fun{σ8 H8 s8} I8=>by
    refine⟨I8.unpinned,T.keep _ _ _ st5 fun b hb o e=>(I8.pin (b,o) (List.mem_append_right _ (List.mem_append_right _ (Jz hb e)))).1,fun b hb=> ?_⟩
    obtain⟨o,e,d⟩:=T.obj _ _ st5 b hb
    exact(I8.pin (b,o) (List.mem_append_right _ (List.mem_append_right _ (Jz hb e)))).2.1
   cases ok with
   |false=>
    rw [if_neg Bool.false_ne_true] at q7⊢
    obtain⟨b1,b2,b3⟩:=back I7
    exact⟨n-(i+1),by omega,i+1,σ6,ys,H7,b1,b2,b3,q7.1,hlt,rfl,by omega,q7.2⟩
   |true=>
    rw [if_pos rfl] at q7⊢
    have ea:=eB _ s4 σ6 H7 _ I7 q7
    rw [xP,xW,xA,xE,xX] at ea
    refine wpAny_mono ea (fun y s5 h5=> ?_) fun _ _ z=>z.elim
    obtain⟨yv,H8,I8,r8,hD8,q8⟩:=h5
    have ma:=zt (X:=Xb) _ s5 σ6 H8 (.ref D) [yv] (.ref D) [y] (fun _ H9=>H9=upd H8 D (.lst (ys++ [yv]))) I8 rfl (.cons r8 .nil) ⟨D,ys,yv,rfl,rfl,hD8,by omega,rfl⟩
    rw [xP,xW,xA,xX] at ma
    refine wpAny_mono ma (fun _ s6 h6=> ?_) fun _ _ z=>z.elim
    obtain⟨_,H9,I9,_,rfl⟩:=h6
    obtain⟨b1,b2,b3⟩:=back I9
    exact⟨n-(i+1),by omega,i+1,σ6,ys++ [yv],_,b1,b2,b3,qj,hlt,rfl,by rw [List.length_append,List.length_singleton];omega,q8⟩
  ·have hin':i=n:=Nat.le_antisymm hin hge
   subst hin'
   obtain⟨stop,hq⟩:=fin σ' ys H' w' hD'
   have td:=T.done Xb xP xW xK xC i [] s' σ' H' (fun _ _=>False) I' (stat fr') st' stop
   rw [xA] at td
   refine wpAny_mono td (fun r s1 h1=> ?_) fun _ _ z=>z.elim
   obtain⟨rfl,I6⟩:=h1
   obtain⟨m,hm,_⟩:=id I6.loc
   rw [xE] at hm
   have frC:H' h3.objs.size=none:=by have:=I6.free;rw [xE] at this;exact this
   have u6:Un (frs X.stack) fp (upd H2 D (.lst [])) H' h3 s1.heap:=by have:=I6.base;subst hXb;exact this
   have u2:Un (frs X.stack) fp H2 (upd H2 D (.lst [])) s2.heap h3:=Un.laid (fun b o e=>old3 b o e) (by rw [hD];exact Nat.le_refl _) hDn
   have hos:s1.os=s2.os:=by have:=I6.os;subst hXb;exact this
   have hok:HOk X.prog X.w H' s1.heap:=by
    have:=I6.hok
    subst hXb;exact this
   refine hR D h3.objs.size H' s1 m (I2.call' (s':=s1) (ch:=fp) hos (u2.trans u6) hok I6.bare fun b hb=> ?_) hm (I2.fpOk (by omega) frC) hq
   obtain⟨g1,g2,g3,g4,g5,g6⟩:=f2 b hb
   exact⟨g4,g2,g5,g6⟩
 exact codeAny_compStart_list (loop _ rfl) (T.self _ 0 _ _ _ (T.keep _ _ _ st2 fun b hb o e=>old4 b o (old3 b o e)) (loop _ rfl))
theorem pe_lc {tg iter elt:Expr}{ifs:List Expr}{wi:TI}{g:TG}{tc:TT}{te:TE}{pos:Pos}(S:LcS X scope Nb nt fr)(hcalm:X.calm=true)(hi:PI X tg iter wi)
  (hg:∀cl C s₀ H₀ fp pn,PG (blk X scope Nb cl C s₀ H₀ fp pn) tg g) (hc:∀cl C s₀ H₀ fp pn,PIfs (blk X scope Nb cl C s₀ H₀ fp pn) ifs tc) (he:∀cl C s₀ H₀ fp pn,PE (blk X scope Nb cl C s₀ H₀ fp pn) elt te)
  (hs:∀x,foldedSetIterable iter X.env x=pure x:=by intro _;rfl):PE X (.ListComp elt [⟨tg,iter,ifs,0⟩] scope pos) (tLC nt fr wi g tc te):=by
 intro pins s σ H Q I h
 have hclos:closureFor scope X.env=pure (clOf X.env.cells scope.names []):=ZJ fun y hy=>I.ok.has y (.inl (S.free _ hy rfl))
 rw [eval_ListComp]
 refine wpAny_comprehension_free (use:=none) rfl hs hclos S.kind S.names ?_
 refine lc_core (R:=fun acc C=>compPost (model X.prog X.w) X.A X.xe none (EP X pins σ Q) acc C) S hcalm hi hg hc he I h fun D C H' s1 m I1 hm fc q=> ?_
 obtain⟨f0,f1,f2,f3,f4,f5⟩:=fc
 exact⟨m,hm,fun h' hs'=>⟨.ref D,H',I1.turned (t':=s1.toks) (it:=C) (fun b o hb e=>(hs'.2 b hb).trans e) f0 f1 f3 f4 f5,rfl,q⟩⟩
theorem ps_setLC {i:Nat}{y:Str}{tg iter elt:Expr}{ifs:List Expr}{wi:TI}{g:TG}{tc:TT}{te:TE}{pos spos py:Pos}(hN:X.N.Nodup)(hi':X.N[i]? =some y)(hy:Loc X.env.scope y)(S:LcS X scope Nb nt fr)(hcalm:X.calm=true)(hi:PI X tg iter wi)
  (hg:∀cl C s₀ H₀ fp pn,PG (blk X scope Nb cl C s₀ H₀ fp pn) tg g) (hc:∀cl C s₀ H₀ fp pn,PIfs (blk X scope Nb cl C s₀ H₀ fp pn) ifs tc) (he:∀cl C s₀ H₀ fp pn,PE (blk X scope Nb cl C s₀ H₀ fp pn) elt te)
  (hs:∀x,foldedSetIterable iter X.env x=pure x:=by intro _;rfl) (hsw:swapsWith (.ListComp elt [⟨tg,iter,ifs,0⟩] scope pos) (some (.Name y py)) spos.line X.env=pure true:=by rfl)
  (hf:X.fn y=true∨X.env.scope.names.lookup y=some .local:=by first|exact .inl rfl|exact .inr rfl|assumption):
  PS X (.Assign [.Name y py] (.ListComp elt [⟨tg,iter,ifs,0⟩] scope pos) spos) (tAsg (tLC nt fr wi g tc te) (xw i)):=by
 intro pins s σ H D I h
 have hclos:closureFor scope X.env=pure (clOf X.env.cells scope.names []):=ZJ fun y hy=>I.ok.has y (.inl (S.free _ hy rfl))
 rw [exec_Assign_Name_used _ _ _ _ hsw]
 refine wpAny_bind (wpAny_standAt (wpAny_bind ?_))
 show wpAny _ X.A (do let _←comprehension (.ListComp elt [⟨tg,iter,ifs,0⟩] scope pos) scope X.env _ (newList []) false (eval iter X.env) (some (assign (.Name y py) X.env))) _ _ s
 refine wpAny_bind (wpAny_mono (wpAny_comprehension_free (use:=some (assign (.Name y py) X.env)) (Q:=fun _ s'=>SP X pins D .next s') rfl hs hclos S.kind S.names ?_) (fun _ s' hq=>wpAny_pure (wpAny_pure hq)) fun _ _ e=>e)
 refine lc_core (R:=fun acc C=>compPost (model X.prog X.w) X.A X.xe (some (assign (.Name y py) X.env)) (fun _ s'=>SP X pins D .next s') acc C) S hcalm hi hg hc he I h fun A C H' s1 m I1 hm fc q=> ?_
 obtain⟨f0,f1,f2,f3,f4,f5⟩:=fc
 show wpAny _ X.A (assign (.Name y py) X.env (.ref A)) _ _ s1
 refine wpAny_assign_Name (store_ok2 (v:= .ref A) I1 hN hi' hy (show RelV (.ref A) (.ref A) from rfl) (fun s' I' ⟨a,sb,ha⟩=> ?_) hf)
 have hCa:C≠a:=by
  rcases ha with rfl|ha
  ·exact f1
  ·exact fun z=>f4 y a ha z.symm
 refine⟨m,hm.sameBut sb hCa,fun h' hs'=>⟨_,H',I'.turned (t':=s'.toks) (it:=C) (fun b o hb e=>(hs'.2 b hb).trans e) f0 f1 f3 f4 f5,q⟩⟩
end
end L2
namespace L2
open PySem PySem.Spec PyProof.Rows
theorem lcs0 {X:Cx}{sc:Scope}{x:Str}(hk:sc.kind= .function:=by rfl)(hc:∀y∈sc.names,y.2≠ .cell:=by decide+kernel)(hn:∀y∈sc.names,y.2= .local→sc.names.lookup y.1=some .local:=by decide+kernel)
  (hf:∀y∈sc.names,y.2≠ .free:=by decide+kernel):LcS X sc [x] 1 []:=⟨hk,hc,hn,fun y hy e=>absurd e (hf y hy),rfl,fun k j x h=>by simp at h⟩
theorem lcsN {X:Cx}{sc:Scope}{Nb:List Str}{nt:Nat}{fr:List Nat}(fsc:Scope)(Nf:List Str)(hX:X.env.scope=fsc:=by rfl)(hN:X.N=Nf:=by rfl)(hk:sc.kind= .function:=by rfl)(hc:∀y∈sc.names,y.2≠ .cell:=by decide+kernel)
  (hn:∀y∈sc.names,y.2= .local→sc.names.lookup y.1=some .local:=by decide+kernel) (hf:∀y∈sc.names,y.2= .free→fsc.names.lookup y.1=some .cell:=by decide+kernel) (hl:Nb.length=nt+fr.length:=by rfl)
  (hz:((fr.zip (Nb.drop nt)).all fun p=>decide (Nf[p.1]? =some p.2)&&decide (sc.names.lookup p.2=some .free))=true:=by decide+kernel):LcS X sc Nb nt fr:=by
 subst hX hN
 refine⟨hk,hc,hn,hf,hl,fun k j x h1 h2=> ?_⟩
 have hm:(fr.zip (Nb.drop nt))[k]? =some (j,x):=by
  rw [List.getElem?_zip_eq_some]
  exact⟨h1,by rw [List.getElem?_drop];exact h2⟩
 have q:=List.all_eq_true.mp hz _ (List.mem_of_getElem? hm)
 rw [Bool.and_eq_true] at q
 exact⟨of_decide_eq_true q.1,of_decide_eq_true q.2⟩
theorem lc_str {z:Str}{D:Addr}{H1:Hp}{te:TE}{tl:St}{Q:VK}(f:Nat→V)(hz:z.length≤sizeLine)(hD:H1 D=none)
  (hte:∀(i c:Nat) H (R:VK),z.cps[i]? =some c→Same H1 H→R (f c) H→te (some (.str ⟨#[c]⟩)::tl) H R)
  (hQ:∀H',Same H1 H'→H' D=some (.lst (z.cps.toList.map f))→Q (.ref D) H'):lcGo D (Its z) (xw 0) tYes te (none::tl) H1 Q:=by
 refine⟨z.cps.size,fun i σ ys H=>(∃w,σ=w::tl)∧ys=(z.cps.toList.take i).map f∧Same H1 H,hz,⟨⟨none,rfl⟩,rfl,qe hD _⟩,?_,?_⟩
 ·rintro i σ ys H hi ⟨⟨w,rfl⟩,rfl,sm⟩ hl hy
  refine⟨hi,?_⟩
  rintro x H' ⟨rfl,c,hc,rfl⟩
  dsimp only [xw,tYes,List.set]
  rw [if_pos rfl]
  refine hte i c H' _ hc sm ⟨hl,⟨some (.str ⟨#[c]⟩),rfl⟩,?_,?_⟩
  ·rw [List.take_add_one,show z.cps.toList[i]? =some c by simpa using hc]
   simp
  ·intro b o e
   rw [qD (ql e hD)]
   exact sm b o e
 ·rintro σ ys H ⟨_,rfl,sm⟩ hl
  refine⟨rfl,hQ H sm ?_⟩
  rw [hl,List.take_of_length_le (by simp)]
end L2
namespace L2
open PySem PySem.Spec PyProof.Rows
mutual
def Is (H:Hp):D→V→Prop
 | .non,v=>v= .non
 | .bl b,v=>v= .bl b
 | .int i,v=>v= .int i
 | .str z,v=>v= .str z∧z.length≤sizeLine
 | .lst,v=>∃a xs,v= .ref a∧H a=some (.lst xs)
 | .dct,v=>∃a kvs,v= .ref a∧H a=some (.dK kvs)
 | .tup xs,v=>∃a vs,v= .ref a∧H a=some (.tup vs)∧IsL H xs vs
def IsL (H:Hp):List D→List V→Prop
 | [],vs=>vs= []
 |x::xs,vs=>∃v r,vs=v::r∧Is H x v∧IsL H xs r
end
structure Tk (H H':Hp):Prop where
 tup:∀b xs,H b=some (.tup xs)→H' b=some (.tup xs)
 lst:∀b xs,H b=some (.lst xs)→∃ys,H' b=some (.lst ys)
 dct:∀b xs,H b=some (.dK xs)→∃ys,H' b=some (.dK ys)
theorem Same.tk {H H':Hp}(s:Same H H'):Tk H H':=⟨fun b xs e=>s b _ e,fun b xs e=>⟨xs,s b _ e⟩,fun b xs e=>⟨xs,s b _ e⟩⟩
theorem Tk.refl (H:Hp):Tk H H:=(Same.refl H).tk
theorem Tk.trans {H H1 H2:Hp}(a:Tk H H1)(b:Tk H1 H2):Tk H H2:=⟨fun c xs e=>b.tup c xs (a.tup c xs e),fun c xs e=>let⟨ys,e1⟩:=a.lst c xs e;b.lst c ys e1,fun c xs e=>let⟨ys,e1⟩:=a.dct c xs e;b.dct c ys e1⟩
theorem Kept.tk {p:Addr}{H H':Hp}{xs ys:List V}(k:Kept p H H')(h:H p=some (.lst xs))(h':H' p=some (.lst ys)):Tk H H':=by
 refine⟨fun b zs e=>k b _ e fun z=> ?_,fun b zs e=> ?_,fun b zs e=>⟨zs,k b _ e fun z=> ?_⟩⟩
 ·rw [z,h] at e;cases e
 ·by_cases z:b=p
  ·exact⟨ys,z▸h'⟩
  ·exact⟨zs,k b _ e z⟩
 ·rw [z,h] at e;cases e
mutual
theorem Is.mono {H H':Hp}(t:Tk H H'):∀{d:D}{v:V},Is H d v→Is H' d v
 | .non,_,h=>h
 | .bl _,_,h=>h
 | .int _,_,h=>h
 | .str _,_,h=>h
 | .lst,_,h=>by
  obtain⟨a,vs,e,ha⟩:=h
  obtain⟨ys,q⟩:=t.lst a vs ha
  exact⟨a,ys,e,q⟩
 | .dct,_,h=>by
  obtain⟨a,vs,e,ha⟩:=h
  obtain⟨ys,q⟩:=t.dct a vs ha
  exact⟨a,ys,e,q⟩
 | .tup xs,_,h=>by
  obtain⟨a,vs,e,ha,hl⟩:=h
  exact⟨a,vs,e,t.tup a vs ha,IsL.mono t hl⟩
theorem IsL.mono {H H':Hp}(t:Tk H H'):∀{ds:List D}{vs:List V},IsL H ds vs→IsL H' ds vs
 | [],_,h=>h
 |_::_,_,h=>by
  obtain⟨v,r,e,h1,h2⟩:=h
  exact⟨v,r,e,Is.mono t h1,IsL.mono t h2⟩
end
theorem IsL.length {H:Hp}:∀{ds:List D}{vs:List V},IsL H ds vs→vs.length=ds.length
 | [],_,h=>by cases(show _= [] from h);rfl
 |_::_,_,h=>by
  obtain⟨v,r,rfl,_,h2⟩:=h
  rw [List.length_cons,List.length_cons,IsL.length h2]
theorem IsL.get {H:Hp}:∀{ds:List D}{vs:List V}{i:Nat}{d:D},IsL H ds vs→ds[i]? =some d→∃v,vs[i]? =some v∧Is H d v
 | [],_,_,_,_,e=>by simp at e
 |x::_,_,0,d,h,e=>by
  obtain⟨v,r,rfl,h1,_⟩:=h
  have:x=d:=by simpa using e
  exact⟨v,rfl,this▸h1⟩
 |_::_,_,i+1,d,h,e=>by
  obtain⟨v,r,rfl,_,h2⟩:=h
  obtain⟨u,e1,e2⟩:=IsL.get (i:=i) (d:=d) h2 (by simpa using e)
  exact⟨u,by simpa using e1,e2⟩
theorem IsL.append {H:Hp}:∀{ds es:List D}{vs us:List V},IsL H ds vs→IsL H es us→IsL H (ds++es) (vs++us)
 | [],_,_,_,h,k=>by cases(show _= [] from h);exact k
 |_::_,_,_,_,h,k=>by
  obtain⟨v,r,rfl,h1,h2⟩:=h
  exact⟨v,_,rfl,h1,IsL.append h2 k⟩
theorem IsL.take {H:Hp}:∀{ds:List D}{vs:List V} (n:Nat),IsL H ds vs→IsL H (ds.take n) (vs.take n)
 |_,_,0,_=>by simp [IsL]
 | [],_,n+1,h=>by cases(show _= [] from h);simp [IsL]
 |_::_,_,n+1,h=>by
  obtain⟨v,r,rfl,h1,h2⟩:=h
  exact⟨v,_,rfl,h1,IsL.take n h2⟩
theorem IsL.drop {H:Hp}:∀{ds:List D}{vs:List V} (n:Nat),IsL H ds vs→IsL H (ds.drop n) (vs.drop n)
 |_,_,0,h=>h
 | [],_,n+1,h=>by cases(show _= [] from h);simp [IsL]
 |_::_,_,n+1,h=>by
  obtain⟨v,r,rfl,h1,h2⟩:=h
  exact IsL.drop n h2
theorem IsL.one {H:Hp}{d:D}{v:V}(h:Is H d v):IsL H [d] [v]:=⟨v,[],rfl,h,rfl⟩
theorem Is.new {H:Hp}{ds:List D}{vs:List V}{p:Addr}(h:IsL H ds vs)(hp:H p=none):Is (upd H p (.tup vs)) (.tup ds) (.ref p):=
 ⟨p,vs,rfl,qj,h.mono (qe hp _).tk⟩
def tyD:D→Value
 | .non=> .type "NoneType"
 | .bl _=> .type "bool"
 | .int _=> .type "int"
 | .str _=> .type "str"
 | .lst=> .type "list"
 | .dct=> .type "dict"
 | .tup _=> .type "tuple"
theorem Is.ty {K:PySem.W.Frag}{H:Hp}{d:D}{v:V}(h:Is H d v):TyOf K H v (tyD d):=by
 cases d with
 |non=>cases(show v= .non from h);exact .non
 |bl b=>cases(show v= .bl b from h);exact .bl b
 |int i=>cases(show v= .int i from h);exact .int i
 |str z=>
  obtain⟨rfl,_⟩:=h
  exact .str z
 |lst=>
  obtain⟨a,vs,rfl,ha⟩:=h
  exact .lst ha
 |dct=>
  obtain⟨a,vs,rfl,ha⟩:=h
  exact .dK ha
 |tup xs=>
  obtain⟨a,vs,rfl,ha,_⟩:=h
  exact .tup ha
end L2
namespace PySem.AwM
open PySem.AutoSeq1 PySem.MeetsSeq PySem.MeetsSeq3
end PySem.AwM
namespace PySem.AwM
open PySem
section
variable {pg:Program}{wd:World}{ar:Around}{RR:Result→Shared→Prop}{it:Addr}{fs ws:List Addr}{n:Nat}{PP:Nat→Value→Prop}{SS:Nat→Heap→Prop}
end
end PySem.AwM
namespace PySem.AwM
open PyProof.Rows
end PySem.AwM
namespace L2
open PySem PySem.Spec PyProof.Rows
section
variable {X:Cx}
theorem op_gt_str:OpR X (compareOp .Gt) (fun x y H Q=>∃i j,x= .str i∧y= .str j∧Q (.bl (decide (j.cps.toList<i.cps.toList))) H):=by
 intro pins s σ H x y v u Q I rx ry h
 obtain⟨i,j,rfl,rfl,q⟩:=h
 obtain⟨t,rfl⟩:=rx
 obtain⟨t',rfl⟩:=ry
 exact PySem.P.gt_str (Qs I q rfl)
theorem call_sumL (hc:X.calm=true):jR X (.builtin "sum") (fun xs H Q=>∃(p:Addr) (ns:List Int),xs= [.ref p]∧SqL X.K H p (ns.map V.int)∧Q (.int ns.sum) H):=by
 intro pins s σ H xs us Q I r h
 obtain⟨p,ns,rfl,hp,q⟩:=h
 obtain⟨u,rfl,ru⟩:=xj r
 cases ru
 obtain⟨its,rv,pl,hz⟩:=I.list hp
 have hi:IntsAre its ns:=intsAre_of rv
 obtain⟨ys,hy⟩:=hi.allInts.items
 have hl':s.heap.IsList p (intItems ys):=hy▸pl.isList
 refine wpAny_with_toks (n:=1) I.tk (sum_intListG (I.ok.hd hc) hl' fun h' tk t' hk=> ?_)
 intro htk
 have e1:ns=ys.toList.map (·.1):=by
  have q1:=hi.numsOf
  rw [←nums_intItems,←hy]
  exact(show numsOf its.toArray.toList=ns from q1).symm
 have e2:preSum (numAt ys) ys.size=ns.sum:=by
  rw [preSum_eq,List.take_of_length_le (by simp),e1]
 rw [e2]
 exact⟨.int ns.sum,H,I.kept hk,⟨t',rfl⟩,q⟩
end
end L2
namespace L2
open PySem PySem.Spec PyProof.Rows
section
variable {X:Cx}
def rCatG (K:PySem.W.Frag):R2:=fun x y H Q=>∃a b xs ys,x= .ref a∧y= .ref b∧SqT K H a xs∧SqT K H b ys∧xs.length+ys.length≤sizeLine∧
 (xs= []→Q (.ref b) H)∧(xs≠ []→ys= []→Q (.ref a) H)∧(xs≠ []→ys≠ []→∀p,H p=none→Q (.ref p) (upd H p (.tup (xs++ys))))
theorem Xi:OpR X (binaryOp .Add) (rCatG X.K):=by
 intro pins s σ H x y v u Q I rx ry h
 obtain⟨a,b,xs,ys,rfl,rfl,ha,hb,hz,q0,q1,q2⟩:=h
 by_cases hx:xs= []
 ·cases rx
  cases ry
  obtain⟨its,r1,p1,_⟩:=I.tuple ha
  obtain⟨its2,r2,p2,_⟩:=I.tuple hb
  subst hx
  cases r1
  obtain⟨⟨c1,d1,t1,l1⟩,o1,e1,n1,f1⟩:=id p1
  obtain⟨⟨c2,d2,t2,l2⟩,o2,e2,n2,f2⟩:=id p2
  simp only at e1 f1 e2 f2
  subst e1 f1 e2 f2
  exact concat_meets p1.typeIs p2.typeIs noFill_tuple_add seq_tuple_add PySem.F.slot_tuple_add PySem.F.entry_tuple_add (PySem.F.args_tuple_add_2 _ _) (tuple_addW0 a b _ _ n1 n2 d1 d2 l1 l2 rfl) ⟨o1,o2,⟨.ref b,H,I,rfl,q0 rfl⟩⟩
 ·exact op_catT pins s σ H (.ref a) (.ref b) v u Q I rx ry ⟨a,b,xs,ys,rfl,rfl,ha,hb,hx,hz,q1 hx,q2 hx⟩
end
end L2
namespace L2
open PySem PySem.Spec PyProof.Rows
theorem Tk.updL {H:Hp}{p:Addr}{xs ys:List V}(h:H p=some (.lst xs)):Tk H (upd H p (.lst ys)):=by
 refine⟨fun b zs e=> ?_,fun b zs e=> ?_,fun b zs e=>⟨zs,?_⟩⟩
 ·rw [qD (fun z=>by rw [z,h] at e;cases e)];exact e
 ·by_cases z:b=p
  ·exact⟨ys,by rw [z];exact qj⟩
  ·exact⟨zs,by rw [qD z];exact e⟩
 ·rw [qD (fun z=>by rw [z,h] at e;cases e)];exact e
theorem lc_data {J:It}{A:Addr}{H1:Hp}{te:TE}{tl:St}{Q:VK}{ds:List D}(f:D→D)(hn:ds.length≤sizeLine)(hA:H1 A=none)
  (hgo:∀i H,Same H1 H→i<ds.length→J.go i H) (hy:∀i H x H' d,Same H1 H→ds[i]? =some d→J.yld i H x H'→H'=H∧Is H d x) (hstop:∀H,Same H1 H→J.stop ds.length H)
  (hte:∀d x H (R:VK),d∈ds→Same H1 H→Is H d x→(∀y H',Same H H'→Is H' (f d) y→R y H')→te (some x::tl) H R)
  (hQ:∀H' ys,Same H1 H'→H' A=some (.lst ys)→IsL H' (ds.map f) ys→Q (.ref A) H'):lcGo A J (xw 0) tYes te (none::tl) H1 Q:=by
 refine⟨ds.length,fun i σ ys H=>(∃w,σ=w::tl)∧IsL H ((ds.take i).map f) ys∧Same H1 H,hn,⟨⟨none,rfl⟩,rfl,qe hA _⟩,?_,?_⟩
 ·rintro i σ ys H hi ⟨⟨w,rfl⟩,hl,sm⟩ hA' hyl
  refine⟨hgo i H sm hi,fun x H' y=> ?_⟩
  obtain⟨rfl,hx⟩:=hy i H x H' ds[i] sm (List.getElem?_eq_getElem hi) y
  dsimp only [xw,tYes,List.set]
  rw [if_pos rfl]
  refine hte ds[i] x H' _ (List.getElem_mem hi) sm hx fun y' H4 s4 hy'=>⟨s4 _ _ hA',⟨some x,rfl⟩,?_,fun b o e=> ?_⟩
  ·have t:Tk H4 (upd H4 A (.lst (ys++ [y']))):=Tk.updL (s4 _ _ hA')
   have e:(ds.take (i+1)).map f=(ds.take i).map f++ [f ds[i]]:=by
    rw [List.take_add_one,List.getElem?_eq_getElem hi,List.map_append]
    rfl
   rw [e]
   exact((hl.mono s4.tk).mono t).append (IsL.one (hy'.mono t))
  ·rw [qD (ql e hA)]
   exact s4 b o (sm b o e)
 ·rintro σ ys H ⟨_,hl,sm⟩ hA'
  refine⟨hstop H sm,hQ H ys sm hA' ?_⟩
  rw [List.take_of_length_le (Nat.le_refl _)] at hl
  exact hl
theorem lc_tupS {K:PySem.W.Frag}{a A:Addr}{H1:Hp}{te:TE}{tl:St}{Q:VK}{ds:List D}{vs:List V}(f:D→D)(ha:H1 a=some (.tup vs))(hl:IsL H1 ds vs)(hn:ds.length≤sizeLine)(hA:H1 A=none)
  (hte:∀d x H (R:VK),d∈ds→Same H1 H→Is H d x→(∀y H',Same H H'→Is H' (f d) y→R y H')→te (some x::tl) H R)
  (hQ:∀H' ys,Same H1 H'→H' A=some (.lst ys)→IsL H' (ds.map f) ys→Q (.ref A) H'):lcGo A (Itt K a) (xw 0) tYes te (none::tl) H1 Q:=by
 have ln:=hl.length
 refine lc_data f hn hA (fun i H sm hi=>⟨vs,vs[i]'(by omega),SqT.of (sm _ _ ha),List.getElem?_eq_getElem _⟩) (fun i H x H' d sm hd y=> ?_) (fun H sm=>⟨vs,SqT.of (sm _ _ ha),by omega⟩) hte hQ
 obtain⟨rfl,y⟩:=y
 obtain⟨v,e1,e2⟩:=hl.get hd
 have e3:=y vs (SqT.of (sm _ _ ha))
 rw [e1] at e3
 cases e3
 exact⟨rfl,e2.mono sm.tk⟩
theorem IsL.bls {H:Hp}:∀{bs:List Bool}{vs:List V},IsL H (bs.map D.bl) vs→vs=bs.map V.bl
 | [],_,h=>h
 |_::_,_,h=>by
  obtain⟨v,r,rfl,h1,h2⟩:=h
  rw [IsL.bls h2,show v=_ from h1];rfl
theorem yw {K:PySem.W.Frag}{H:Hp}{ds:List D}{v:V}{i:Int}{d:D}{Q:VK}(h:Is H (.tup ds) v)(hi:atI ds i=some d)(q:∀x,Is H d x→Q x H):rIxT K v (.int i) H Q:=by
 obtain⟨a,vs,rfl,ha,hl⟩:=h
 obtain⟨j,h1,h2,h3,h4,h5⟩:=Z6 hi
 obtain⟨x,e1,e2⟩:=hl.get h2
 refine⟨a,vs,i,x,rfl,rfl,SqT.of ha,?_,q x e2⟩
 have ln:=hl.length
 unfold atI at hi⊢
 rw [ln]
 cases e:ixN ds.length i with
 |none=>rw [e] at hi;cases hi
 |some k=>
  rw [e] at hi
  obtain⟨g1,_⟩:=ixN_seq e
  rw [h1] at g1
  cases g1
  exact e1
def inS (i j:Str):Bool:= !(Builtin.Str.occurrences j i 0 j.length 1).isEmpty
end L2
namespace L2
open PySem PySem.Spec PyProof.Rows
theorem for_str {z:Str}{g:TG}{tb:TS}{E:Ends}{σ:St}{H:Hp}(Pv:Nat→St→Hp→Prop)(h0:Pv 0 σ H)
  (hs:∀(i c:Nat) σ H,z.cps[i]? =some c→Pv i σ H→g (.str ⟨#[c]⟩) σ H fun σ2 H2=>tb {E with nx:=Pv (i+1),ct:=Pv (i+1),bk:=E.nx} σ2 H2) (hd:∀σ H,Pv z.cps.size σ H→E.nx σ H):
  ∃W:Nat→Nat→St→Hp→Prop,(∃m,W 0 m σ H)∧∀i m σ H,W i m σ H→
   ((Its z).stop i H∧E.nx σ H)∨((Its z).go i H∧∃N:St→Hp→Prop,(∀σ' H',N σ' H'→∃m',m'<m∧W (i+1) m' σ' H')∧∀x H',(Its z).yld i H x H'→g x σ H' fun σ2 H2=>tb {E with nx:=N,ct:=N,bk:=E.nx} σ2 H2):=by
 refine⟨fun i m σ H=>m=z.cps.size-i∧i≤z.cps.size∧Pv i σ H,⟨z.cps.size,by simp,Nat.zero_le _,h0⟩,?_⟩
 rintro i m σ H ⟨rfl,hi,p⟩
 by_cases hlt:i<z.cps.size
 ·refine .inr ⟨hlt,Pv (i+1),fun σ' H' p'=>⟨z.cps.size-(i+1),by omega,rfl,hlt,p'⟩,fun x H' y=> ?_⟩
  obtain⟨rfl,c,hc,rfl⟩:=y
  exact hs i c σ _ hc p
 ·have e:i=z.cps.size:=by omega
  exact .inl ⟨e,hd σ H (e▸p)⟩
theorem IsL.unsnoc {H:Hp}:∀{ds:List D}{d:D}{vs:List V},IsL H (ds++ [d]) vs→∃us x,vs=us++ [x]∧IsL H ds us∧Is H d x
 | [],d,_,h=>by
  obtain⟨v,r,rfl,h1,h2⟩:=h
  cases(show r= [] from h2)
  exact⟨[],v,rfl,rfl,h1⟩
 |e::r,d,_,h=>by
  obtain⟨v,q,rfl,h1,h2⟩:=h
  obtain⟨us,x,rfl,h3,h4⟩:=IsL.unsnoc h2
  exact⟨v::us,x,rfl,⟨v,us,rfl,h1,h3⟩,h4⟩
def Y3:D→Bool
 | .str _=>true
 |_=>false
def isTup:D→Bool
 | .tup _=>true
 |_=>false
section
variable {K:PySem.W.Frag}
theorem kit_no {T U:String}{b:Bool}(h:(Value.type T==Value.type U)=false)(hm:PySem.W.kitMeta U=true)(hs:(fastBuiltinMro T).map (·.contains (Value.type U))=some b):PySem.W.kitOne K (.type T) (.type U)=some b:=by
 unfold PySem.W.kitOne
 rw [if_neg (by rw [h];exact Bool.false_ne_true)]
 show(if PySem.W.kitMeta U=true then PySem.W.subIn K (.type T) (.type U) else none)=some b
 rw [if_pos hm]
 exact hs
theorem kit_self {T:String}(h:(Value.type T==Value.type T)=true):PySem.W.kitOne K (.type T) (.type T)=some true:=by
 unfold PySem.W.kitOne
 rw [if_pos h]
theorem jS (d:D):PySem.W.kitOne K (tyD d) (.type "str")=some (Y3 d):=by
 cases d with
 |str z=>exact kit_self (by decide)
 |_=>exact kit_no (b:=false) (by decide) (by decide+kernel) (by decide+kernel)
theorem xU (d:D):PySem.W.kitOne K (tyD d) (.type "tuple")=some (isTup d):=by
 cases d with
 |tup z=>exact kit_self (by decide)
 |_=>exact kit_no (b:=false) (by decide) (by decide+kernel) (by decide+kernel)
end
theorem lt_one (c k:Nat):decide ((⟨#[c]⟩:Str).cps.toList< [k])=decide (c<k):=by
 rw [decide_eq_decide]
 simp [List.cons_lt_cons_iff]
theorem one_gt (c k:Nat):decide ([k]<(⟨#[c]⟩:Str).cps.toList)=decide (k<c):=by
 rw [decide_eq_decide]
 simp [List.cons_lt_cons_iff]
end L2
namespace L2
open PySem PySem.Spec PyProof.Rows
end L2
namespace L2
open PySem PySem.Spec PyProof.Rows
def iTupB (K:PySem.W.Frag)(tl:TE):TI:=fun σ H R=>tl σ H fun x H1=>∃a xs,x= .ref a∧SqT K H1 a xs∧(xs.length≤sizeLine→R (Itt K a) H1)
theorem wg {X:Cx}{tg l:Expr}{tl:TE}(hl:PE X l tl):PI X tg l (iTupB X.K tl):=by
 intro pins s σ H R I h
 refine thn (hl pins s σ H _ I h) fun v s1 ⟨x,H1,I1,r1,q1⟩=> ?_
 obtain⟨a,xs,e,hq,q⟩:=q1
 subst e
 cases r1
 obtain⟨its,rv,p,hz⟩:=I1.tuple hq
 refine wpAny_pyIter_tuple (show s1.heap.IsTuple a its.toArray from p) ?_
 refine⟨s1.heap.objs.size,[s1.heap.objs.size],_,_,H1,rfl,I1.kept (t':=s1.toks) fun b o e=>Heap.get?_push_of_some _ e,ZT a _,⟨_,Heap.get?_push_size _ rfl,rfl,rfl⟩,fun b hb=> ?_,q hz⟩
 have e:b=s1.heap.objs.size:=by simpa using hb
 subst e
 exact I1.fpOk (Nat.le_refl _) (I1.hok.fresh (Nat.le_refl _))
end L2
namespace L2
open PySem PySem.Spec PyProof.Rows
theorem call_lenB {X:Cx}:jR X (.builtin "len") (fun xs H Q=>∃p ys,xs= [.ref p]∧(SqL X.K H p ys∨SqT X.K H p ys)∧(ys.length≤sizeLine→Q (.int ys.length) H)):=by
 intro pins s σ H xs us Q I r h
 obtain⟨p,ys,e,hq,q⟩:=h
 have hz:ys.length≤sizeLine:=by
  rcases hq with hq|hq
  ·exact(I.list hq).choose_spec.2.2
  ·exact(I.tuple hq).choose_spec.2.2
 exact qE pins s σ H xs us Q I r ⟨p,ys,e,hq,q hz⟩
theorem zi {xs:List V}{n:Nat}(h:n≤xs.length):cutV xs none (some (n:Int))=xs.take n:=by
 unfold cutV
 rw [HT.sIx_none,HT.sIx_nat,Nat.min_eq_left h,List.drop_zero,Nat.sub_zero]
theorem J5 {xs:List V}{n:Nat}(h:n≤xs.length):cutV xs (some (n:Int)) none=xs.drop n:=by
 unfold cutV
 rw [HT.sIx_none,HT.sIx_nat,Nat.min_eq_left h]
 exact List.take_of_length_le (by rw [List.length_drop];exact Nat.le_refl _)
end L2
namespace L2
open PySem PySem.Spec PyProof.Rows Builtin Builtin.Str
def posL (c:Nat):List Nat→Nat→List Nat
 | [],_=> []
 |a::r,i=>if a=c then i::posL c r (i+1) else posL c r (i+1)
def cutL (c:Nat):Nat→List Nat→List (List Nat)
 |0,L=> [L]
 |_+1,[]=> [[]]
 |n+1,a::r=>if a=c then []::cutL c n r else match cutL c (n+1) r with
  |p::q=>(a::p)::q
  | []=> [[a]]
def ofL (l:List Nat):Str:=⟨l.toArray⟩
theorem yZ (z:Str):ofL z.cps.toList=z:=by
 unfold ofL
 simp
theorem XX (c:Nat):∀(n:Nat) (L:List Nat),∃p q,cutL c n L=p::q
 |0,L=>⟨L,[],by simp [cutL]⟩
 |n+1,[]=>⟨[],[],by simp [cutL]⟩
 |n+1,a::r=>by
  by_cases h:a=c
  ·exact⟨[],cutL c n r,by simp [cutL,h]⟩
  ·obtain⟨p,q,e⟩:=XX c (n+1) r
   exact⟨a::p,q,by simp [cutL,h,e]⟩
theorem cutL_app {c:Nat}{n:Nat}{r:List Nat}:∀{p:List Nat},c∉p→cutL c (n+1) (p++c::r)=p::cutL c n r
 | [],_=>by simp [cutL]
 |a::p,h=>by
  have h1:a≠c:=fun e=>h (by simp [e])
  have ih:=cutL_app (n:=n) (r:=r) (p:=p) (fun z=>h (List.mem_cons_of_mem _ z))
  show cutL c (n+1) (a::(p++c::r))=_
  rw [cutL,if_neg h1,ih]
theorem zp {c:Nat}{n:Nat}:∀{p:List Nat},c∉p→cutL c n p= [p]
 | [],_=>by cases n<;>simp [cutL]
 |a::p,h=>by
  have h1:a≠c:=fun e=>h (by simp [e])
  cases n with
  |zero=>simp [cutL]
  |succ n=>
   have ih:=zp (n:=n+1) (p:=p) (fun z=>h (List.mem_cons_of_mem _ z))
   rw [cutL,if_neg h1,ih]
theorem subAt_sign (x:Str)(c i:Nat)(h:i<x.length):subAt x ⟨#[c]⟩ i=decide (x.cps.toList[i]? =some c):=by
 rw [StrLaws.subAt_eq]
 have hl:i<x.cps.toList.length:=by simpa [Str.length] using h
 have e1:(x.cps.toList.drop i).take 1= [x.cps.toList[i]]:=by
  rw [List.drop_eq_getElem_cons hl]
  rfl
 show((x.cps.toList.drop i).take 1== [c])=_
 rw [e1,List.getElem?_eq_getElem hl]
 generalize x.cps.toList[i]=k
 by_cases e:k=c
 ·simp [e]
 ·simp [e]
theorem occ_go (x:Str)(c n:Nat):∀(m k:Nat) (found:Array Nat) (free:Nat),k+m=x.length+1→free≤k→
  (forIn (List.range' k m) (found,free) (StrLaws.occBody x ⟨#[c]⟩ x.length n)).run.fst.toList=found.toList++(posL c (x.cps.toList.drop k) k).take (n-found.size)
 |0,k,found,free,hk,_=>by
  have hl:x.cps.toList.length≤k:=by simp [Str.length] at hk⊢;omega
  rw [List.drop_of_length_le hl]
  simp [posL]
 |m+1,k,found,free,hk,hf=>by
  rw [List.range'_succ,List.forIn_cons]
  unfold StrLaws.occBody
  have hlen:x.cps.toList.length=x.length:=by simp [Str.length]
  by_cases hlt:k<x.length
  ·have hkl:k<x.cps.toList.length:=by omega
   rw [List.drop_eq_getElem_cons hkl]
   have hs:=subAt_sign x c k hlt
   rw [List.getElem?_eq_getElem hkl] at hs
   by_cases e:x.cps.toList[k]=c
   ·have hs':subAt x ⟨#[c]⟩ k=true:=by rw [hs,e];simp
    by_cases hn:found.size<n
    ·rw [if_pos ⟨⟨⟨hn,hf⟩,by show k+1≤x.length;omega⟩,hs'⟩]
     have ih:=occ_go x c n m (k+1) (found.push k) (k+1) (by omega) (Nat.le_refl _)
     show(forIn (List.range' (k+1) m) (found.push k,k+1) (StrLaws.occBody x ⟨#[c]⟩ x.length n)).run.fst.toList=_
     rw [ih]
     rw [posL,if_pos e,Array.toList_push,Array.size_push]
     obtain⟨j,hj⟩:∃j,n-found.size=j+1:=⟨n-found.size-1,by omega⟩
     rw [hj,List.take_succ_cons,show n-(found.size+1)=j by omega]
     simp
    ·rw [if_neg (fun z=>hn z.1.1.1)]
     have ih:=occ_go x c n m (k+1) found free (by omega) (by omega)
     show(forIn (List.range' (k+1) m) (found,free) (StrLaws.occBody x ⟨#[c]⟩ x.length n)).run.fst.toList=_
     rw [ih,show n-found.size=0 by omega]
     simp
   ·have hs':¬subAt x ⟨#[c]⟩ k=true:=by rw [hs];intro z;exact e (Option.some.inj (of_decide_eq_true z))
    rw [if_neg (fun z=>hs' z.2)]
    have ih:=occ_go x c n m (k+1) found free (by omega) (by omega)
    show(forIn (List.range' (k+1) m) (found,free) (StrLaws.occBody x ⟨#[c]⟩ x.length n)).run.fst.toList=_
    rw [ih,posL,if_neg e]
  ·rw [if_neg (fun z=>hlt (by have:=z.1.2;show k<x.length;have h1:k+1≤x.length:=this;omega))]
   have ih:=occ_go x c n m (k+1) found free (by omega) (by omega)
   show(forIn (List.range' (k+1) m) (found,free) (StrLaws.occBody x ⟨#[c]⟩ x.length n)).run.fst.toList=_
   rw [ih]
   have h1:x.cps.toList.length≤k:=by omega
   rw [List.drop_of_length_le h1,List.drop_of_length_le (by omega)]
   simp [posL]
theorem Z3 (x:Str)(c n:Nat):occurrences x ⟨#[c]⟩ 0 x.length n=(posL c x.cps.toList 0).take n:=by
 rw [StrLaws.occ_eq]
 have:=occ_go x c n (x.length+1) 0 #[] 0 (by omega) (Nat.le_refl _)
 simpa using this
def att (p:List Nat):List (List Nat)→List (List Nat)
 |q::r=>(p++q)::r
 | []=> [p]
theorem parts_go (x:Str)(c:Nat):∀(m n a b:Nat),a≤b→b+m=x.length→
  StrLaws.partsFrom x 1 a ((posL c (x.cps.toList.drop b) b).take n)=(att ((x.cps.toList.drop a).take (b-a)) (cutL c n (x.cps.toList.drop b))).map ofL:=by
 have hlen:x.cps.toList.length=x.length:=by simp [Str.length]
 have hsub:∀i j,strSub x i j=ofL ((x.cps.toList.drop i).take (j-i)):=fun i j=>by
  rw [←yZ (strSub x i j),StrLaws.strSub_toList]
 intro m
 induction m with
 |zero=>
  intro n a b hab hb
  have h1:x.cps.toList.drop b= []:=List.drop_of_length_le (by omega)
  rw [h1]
  have e1:cutL c n []= [[]]:=by cases n<;>simp [cutL]
  rw [e1]
  simp only [posL,List.take_nil,StrLaws.partsFrom,att,List.append_nil,List.map_cons,List.map_nil]
  rw [hsub,show x.length-a=b-a by omega]
 |succ m ih=>
  intro n a b hab hb
  have hbl:b<x.cps.toList.length:=by omega
  rw [List.drop_eq_getElem_cons hbl]
  cases n with
  |zero=>
   simp only [List.take_zero,StrLaws.partsFrom,cutL,att,List.map_cons,List.map_nil]
   rw [hsub,←List.drop_eq_getElem_cons hbl]
   have e2:(x.cps.toList.drop a).take (x.length-a)=x.cps.toList.drop a:=List.take_of_length_le (by rw [List.length_drop];omega)
   have e3:x.cps.toList.drop b=(x.cps.toList.drop a).drop (b-a):=by rw [List.drop_drop];congr 1;omega
   rw [e2,e3,List.take_append_drop]
  |succ n=>
   by_cases e:x.cps.toList[b]=c
   ·rw [posL,if_pos e,List.take_succ_cons,StrLaws.partsFrom,cutL,if_pos e]
    rw [ih n (b+1) (b+1) (Nat.le_refl _) (by omega)]
    obtain⟨p,q,e2⟩:=XX c n (x.cps.toList.drop (b+1))
    rw [e2,hsub]
    simp [att]
   ·rw [posL,if_neg e,ih (n+1) a (b+1) (by omega) (by omega),cutL,if_neg e]
    obtain⟨p,q,e2⟩:=XX c (n+1) (x.cps.toList.drop (b+1))
    rw [e2]
    simp only [att,List.map_cons]
    congr 2
    have e3:b+1-a=(b-a)+1:=by omega
    have hx:b-a<(x.cps.toList.drop a).length:=by rw [List.length_drop];omega
    rw [e3,List.take_succ_eq_append_getElem hx]
    simp [show a+(b-a)=b by omega]
theorem parts_cut (x:Str)(c n:Nat):partsBetween x (occurrences x ⟨#[c]⟩ 0 x.length n) 1=(cutL c n x.cps.toList).map ofL:=by
 rw [StrLaws.partsBetween_eq,Z3]
 have:=parts_go x c x.length n 0 0 (Nat.le_refl _) (by omega)
 rw [List.drop_zero] at this
 rw [this]
 obtain⟨p,q,e⟩:=XX c n x.cps.toList
 rw [e]
 simp [att]
theorem zx {c:Nat}:∀{L:List Nat}{i:Nat},posL c L i= []→c∉L
 | [],_,_=>by simp
 |a::r,i,h=>by
  by_cases e:a=c
  ·simp [posL,e] at h
  ·rw [posL,if_neg e] at h
   have:=zx h
   simp [Ne.symm e,this]
end L2
namespace L2
open PySem PySem.Spec PyProof.Rows Builtin Builtin.Str
theorem xq:∀(l:List Str) (k:Nat),Vals (l.map V.str) (strsFrom k l)
 | [],_=> .nil
 |x::r,k=> .cons ⟨k,rfl⟩ (xq r (k+1))
theorem zY:∀{l:List Str}{us:List Value},Vals (l.map V.str) us→∃ps:List (Str×Tok),us=strValues ps∧ps.map (·.1)=l
 | [],_,.nil=>⟨[],rfl,rfl⟩
 |x::r,_,.cons ⟨t,e⟩ h=>by
  obtain⟨ps,e1,e2⟩:=zY h
  subst e
  exact⟨(x,t)::ps,by rw [e1];rfl,by rw [List.map_cons,e2]⟩
theorem ZO (z:Str):¬Builtin.Str.strKind z<Builtin.Str.strKind " ":=by
 have h1:Builtin.Str.strKind " "=1:=by decide+kernel
 rw [h1]
 unfold Builtin.Str.strKind
 split
 ·omega
 ·split<;>omega
theorem Z2 (c:Nat):∀(n:Nat) (L:List Nat),(cutL c n L).length≤L.length+1
 |0,L=>by simp [cutL]
 |n+1,[]=>by simp [cutL]
 |n+1,a::r=>by
  by_cases h:a=c
  ·have:=Z2 c n r
   simp [cutL,h];omega
  ·have:=Z2 c (n+1) r
   obtain⟨p,q,e⟩:=XX c (n+1) r
   rw [e] at this
   simp only [cutL,if_neg h,e]
   simp at this⊢
   omega
def spl (n:Nat)(z:Str):List Str:=(cutL 32 n z.cps.toList).map ofL
theorem spl_len (n:Nat)(z:Str):(spl n z).length≤z.length+1:=by
 unfold spl
 rw [List.length_map]
 have:=Z2 32 n z.cps.toList
 simpa [Str.length] using this
theorem JF:(" ":Str)=⟨#[32]⟩:=by decide+kernel
theorem spl_one {z:Str}{n:Nat}(hn:z.length≤n∨z.length<1∨True)(h:(occurrences z " " 0 z.length n).isEmpty=true)(h0:n≠0):spl n z= [z]:=by
 rw [JF,Z3,List.isEmpty_iff] at h
 have h1:posL 32 z.cps.toList 0= []:=by
  cases e:posL 32 z.cps.toList 0 with
  |nil=>rfl
  |cons a r=>
   rw [e] at h
   obtain⟨k,rfl⟩:∃k,n=k+1:=⟨n-1,by omega⟩
   simp at h
 unfold spl
 rw [zp (zx h1)]
 simp [yZ]
section
variable {X:Cx}
def rSplit:V→List V→Hp→VK→Prop:=fun x vs H Q=>∃z,x= .str z∧vs= [.str " "]∧z.length≤1000∧∀p,H p=none→Q (.ref p) (upd H p (.lst ((spl (z.length+1) z).map V.str)))
theorem JI {pins:List (Addr×Obj)}{σ:St}{H:Hp}{s:Shared}{Q:VK}{ys:List V}{its:List Value}{t':Nat}(I:Inv X pins σ H s)(hv:Vals ys its)(hz:ys.length≤sizeLine)(q:∀p,H p=none→Q (.ref p) (upd H p (.lst ys)))(ht:0<t':=by((try dsimp only);first|assumption|exact Inv.tk (by assumption)|exact Nat.succ_pos _|exact Nat.lt_of_lt_of_le (Inv.tk (by assumption)) (by assumption)|exact Nat.add_pos_left (Inv.tk (by assumption)) _|omega)):
  EP X pins σ Q (.ref s.heap.objs.size) {s with heap:=s.heap.push {cls:= .type "list",data:= .seq its.toArray},toks:=t'}:=
 ⟨.ref s.heap.objs.size,_,I.lnew hv hz,rfl,q _ I.fresh⟩
theorem mt_split:MtM X "str.split" rSplit:=by
 intro pins s σ H x vs v us Q I rx rv h
 obtain⟨z,rfl,rfl,hz,q⟩:=h
 obtain⟨t,rfl⟩:=rx
 obtain⟨u,rfl,t',rfl⟩:=rv.one
 have hz':z.length≤sizeLine:=by rw [sizeLine_eq];omega
 have one:spl (z.length+1) z= [z]→∀(T:Nat),0<T→EP X pins σ Q (.ref s.heap.objs.size) {s with heap:=s.heap.push {cls:= .type "list",data:= .seq [Value.str z t].toArray},toks:=T}:=fun e T hT=>by
  rw [e] at q
  exact JI (ys:= [V.str z]) I (.cons (show RelV (V.str z) _ from⟨t,rfl⟩) .nil) (by show 1≤sizeLine;decide) q
 cases h1:(decide (z.length<(" ":Str).length)||decide (Builtin.Str.strKind z<Builtin.Str.strKind " ")) with
 |true=>
  refine call_meets F.slot_str_split (typeIs_str _ _ _) F.entry_str_split (F.args_str_split_2 _ _) (meets_str_split_cannot_occur z " " t t' h1) ?_
  have h2:z.length<1:=by
   rw [Bool.or_eq_true] at h1
   rcases h1 with h1|h1
   ·exact of_decide_eq_true h1
   ·exact absurd (of_decide_eq_true h1) (ZO z)
  refine one ?_ s.toks I.tk
  have e:z.cps.toList= []:=List.eq_nil_of_length_eq_zero (by simpa [Str.length] using h2)
  unfold spl
  rw [e,cutL]
  rw [←yZ z,e]
  rfl
 |false=>
  cases hf:(occurrences z " " 0 z.length (z.length+1)).isEmpty with
  |true=>
   refine call_meets F.slot_str_split (typeIs_str _ _ _) F.entry_str_split (F.args_str_split_2 _ _) (meets_str_split_not_found z " " t t' h1 (by decide) hf) ?_
   exact one (spl_one (.inr (.inr trivial)) hf (by omega)) s.toks I.tk
  |false=>
   have hl:=spl_len (z.length+1) z
   have e:partsBetween z (occurrences z " " 0 z.length (z.length+1)) (" ":Str).length=spl (z.length+1) z:=by
    rw [JF]
    exact parts_cut z 32 (z.length+1)
   refine call_meets F.slot_str_split (typeIs_str _ _ _) F.entry_str_split (F.args_str_split_2 _ _) (meets_str_split_sep z " " t t' h1 (by decide) hf hz' (by rw [e,sizeLine_eq];omega)) ?_
   rw [e]
   exact JI I (xq _ _) (by rw [List.length_map,sizeLine_eq];omega) q
theorem JT (x y:Str)(k:Int)(t u v:Tok)(hk:(decide (k< -(2^63:Int))||decide (k≥2^63))=false)(h1:(decide (x.length<y.length)||decide (Builtin.Str.strKind x<Builtin.Str.strKind y))=false)(hy:(y.length==0)=false)
  (hf:(occurrences x y 0 x.length (limitOf x k)).isEmpty=true):Meets («str.split» ⟨[.str x t,.str y u,.int k v],[]⟩) (listOfItself x t):=by
 obtain⟨raising,htree⟩:=split_sep_max_tree x y k t u v hk
 refine .of_wp fun prog w A R s h=> ?_
 rw [htree,h1,hy,hf]
 show wpAny _ _ (do rule "str.split.same-object";ret (←newList [.str x t])) _ _ s
 exact wpAny_bind (wpAny_rule (wpAny_bind (wpAny_newList (wpAny_pure ⟨_,rfl,h⟩) (by show 1≤sizeLine;decide))))
theorem Jd (x y:Str)(k:Int)(t u v:Tok)(hk:(decide (k< -(2^63:Int))||decide (k≥2^63))=false)(h1:(decide (x.length<y.length)||decide (Builtin.Str.strKind x<Builtin.Str.strKind y))=true):
  Meets («str.split» ⟨[.str x t,.str y u,.int k v],[]⟩) (listOfItself x t):=by
 obtain⟨raising,htree⟩:=split_sep_max_tree x y k t u v hk
 refine .of_wp fun prog w A R s h=> ?_
 rw [htree,h1]
 show wpAny _ _ (do rule "str.split.sep-cannot-occur";ret (←newList [.str x t])) _ _ s
 exact wpAny_bind (wpAny_rule (wpAny_bind (wpAny_newList (wpAny_pure ⟨_,rfl,h⟩) (by show 1≤sizeLine;decide))))
def rSplitN:V→List V→Hp→VK→Prop:=fun x vs H Q=>∃(z:Str) (n:Nat),x= .str z∧vs= [.str " ",.int (n:Int)]∧z.length≤1000∧0<n∧n≤1000∧∀p,H p=none→Q (.ref p) (upd H p (.lst ((spl n z).map V.str)))
theorem mt_splitN:MtM X "str.split" rSplitN:=by
 intro pins s σ H x vs v us Q I rx rv h
 obtain⟨z,n,rfl,rfl,hz,hn0,hn,q⟩:=h
 obtain⟨t,rfl⟩:=rx
 obtain⟨u,u',rfl,⟨t',rfl⟩,⟨t'',rfl⟩⟩:=vals2 rv
 have hz':z.length≤sizeLine:=by rw [sizeLine_eq];omega
 have hk:(decide ((n:Int)< -(2^63:Int))||decide ((n:Int)≥2^63))=false:=by
  rw [decide_eq_false (by omega),decide_eq_false (by omega)];rfl
 have hlim:limitOf z (n:Int)=n:=by
  unfold limitOf
  rw [if_neg (by omega)]
  omega
 have one:spl n z= [z]→∀(T:Nat),0<T→EP X pins σ Q (.ref s.heap.objs.size) {s with heap:=s.heap.push {cls:= .type "list",data:= .seq [Value.str z t].toArray},toks:=T}:=fun e T hT=>by
  rw [e] at q
  exact JI (ys:= [V.str z]) I (.cons (show RelV (V.str z) _ from⟨t,rfl⟩) .nil) (by show 1≤sizeLine;decide) q
 cases h1:(decide (z.length<(" ":Str).length)||decide (Builtin.Str.strKind z<Builtin.Str.strKind " ")) with
 |true=>
  refine call_meets F.slot_str_split (typeIs_str _ _ _) F.entry_str_split (F.args_str_split_3 _ _ _) (Jd z " " n t t' t'' hk h1) ?_
  have h2:z.length<1:=by
   rw [Bool.or_eq_true] at h1
   rcases h1 with h1|h1
   ·exact of_decide_eq_true h1
   ·exact absurd (of_decide_eq_true h1) (ZO z)
  refine one ?_ s.toks I.tk
  have e:z.cps.toList= []:=List.eq_nil_of_length_eq_zero (by simpa [Str.length] using h2)
  obtain⟨j,rfl⟩:∃j,n=j+1:=⟨n-1,by omega⟩
  unfold spl
  rw [e,cutL]
  rw [←yZ z,e]
  rfl
 |false=>
  cases hf:(occurrences z " " 0 z.length (limitOf z (n:Int))).isEmpty with
  |true=>
   refine call_meets F.slot_str_split (typeIs_str _ _ _) F.entry_str_split (F.args_str_split_3 _ _ _) (JT z " " n t t' t'' hk h1 (by decide) hf) ?_
   rw [hlim] at hf
   exact one (spl_one (.inr (.inr trivial)) hf (by omega)) s.toks I.tk
  |false=>
   have hl:=spl_len n z
   have e:partsBetween z (occurrences z " " 0 z.length (limitOf z (n:Int))) (" ":Str).length=spl n z:=by
    rw [JF,hlim]
    exact parts_cut z 32 n
   refine call_meets F.slot_str_split (typeIs_str _ _ _) F.entry_str_split (F.args_str_split_3 _ _ _) (meets_str_split_sep_max z " " n t t' t'' hk h1 (by decide) hf hz' (by rw [e,sizeLine_eq];omega)) ?_
   rw [e]
   exact JI I (xq _ _) (by rw [List.length_map,sizeLine_eq];omega) q
def XN (c:Nat):List Nat→List Nat
 | []=> []
 |a::r=>if a=c then [] else a::XN c r
end
end L2
namespace L2
open PySem PySem.Spec PyProof.Rows Builtin Builtin.Str
theorem headL_pos {c:Nat}:∀{L:List Nat}{i j:Nat}{r:List Nat},posL c L i=j::r→i≤j∧XN c L=L.take (j-i)
 | [],_,_,_,h=>by simp [posL] at h
 |a::q,i,j,r,h=>by
  by_cases e:a=c
  ·rw [posL,if_pos e] at h
   cases h
   exact⟨Nat.le_refl _,by simp [XN,e]⟩
  ·rw [posL,if_neg e] at h
   obtain⟨h1,h2⟩:=headL_pos h
   refine⟨by omega,?_⟩
   rw [XN,if_neg e,h2,show j-i=(j-(i+1))+1 by omega,List.take_succ_cons]
theorem Xg {c:Nat}:∀{L:List Nat},c∉L→XN c L=L
 | [],_=>rfl
 |a::r,h=>by
  have h1:a≠c:=fun e=>h (by simp [e])
  rw [XN,if_neg h1,Xg fun z=>h (List.mem_cons_of_mem _ z)]
def hd (z:Str):Str:=ofL (XN 32 z.cps.toList)
section
variable {X:Cx}
theorem fin_tup {pins:List (Addr×Obj)}{σ:St}{H:Hp}{s:Shared}{Q:VK}{ys:List V}{its:List Value}{t':Nat}(I:Inv X pins σ H s)(hv:Vals ys its)(hz:ys.length≤sizeLine)(q:∀p,H p=none→Q (.ref p) (upd H p (.tup ys)))(ht:0<t':=by((try dsimp only);first|assumption|exact Inv.tk (by assumption)|exact Nat.succ_pos _|exact Nat.lt_of_lt_of_le (Inv.tk (by assumption)) (by assumption)|exact Nat.add_pos_left (Inv.tk (by assumption)) _|omega)):
  EP X pins σ Q (.ref s.heap.objs.size) {s with heap:=s.heap.push {cls:= .type "tuple",data:= .seq its.toArray},toks:=t'}:=
 ⟨.ref s.heap.objs.size,_,I.laid (o:= .tup ys) (fun _ _ w=>Heap.get?_push_of_some _ w) (Nat.le_refl _) ⟨hz,its,hv,IsTup.new _ _⟩,rfl,q _ I.fresh⟩
def rPart:V→List V→Hp→VK→Prop:=fun x vs H Q=>∃z,x= .str z∧vs= [.str " "]∧z.length≤1000∧∀p a b,H p=none→Q (.ref p) (upd H p (.tup [.str (hd z),.str a,.str b]))
theorem mt_part:MtM X "str.partition" rPart:=by
 intro pins s σ H x vs v us Q I rx rv h
 obtain⟨z,rfl,rfl,hz,q⟩:=h
 obtain⟨t,rfl⟩:=rx
 obtain⟨u,rfl,t',rfl⟩:=rv.one
 have hz':z.length≤sizeLine:=by rw [sizeLine_eq];omega
 refine call_meets F.slot_str_partition (typeIs_str _ _ _) F.entry_str_partition (F.args_str_partition_2 _ _) (meets_str_partition z " " t t' (by decide) hz') ?_
 cases ho:occurrences z " " 0 z.length 1 with
 |nil=>
  have h0:hd z=z:=by
   rw [JF,Z3] at ho
   have h1:posL 32 z.cps.toList 0= []:=by
    cases e:posL 32 z.cps.toList 0 with
    |nil=>rfl
    |cons a r=>rw [e] at ho;simp at ho
   unfold hd
   rw [Xg (zx h1),yZ]
  refine fin_tup (ys:= [.str (hd z),.str Str.empty,.str Str.empty]) (t':=s.toks+1) I (.cons (show RelV (V.str (hd z)) _ from⟨t,by rw [h0]⟩) (.cons (show RelV (V.str _) _ from⟨_,rfl⟩) (.cons (show RelV (V.str _) _ from⟨_,rfl⟩) .nil))) (by show 3≤sizeLine;decide) fun p hp=>q p _ _ hp
 |cons i r=>
  have h0:hd z=strSub z 0 i:=by
   rw [JF,Z3] at ho
   cases e:posL 32 z.cps.toList 0 with
   |nil=>rw [e] at ho;simp at ho
   |cons a r'=>
    rw [e] at ho
    have:a=i:=by simp at ho;exact ho.1
    subst this
    obtain⟨_,h2⟩:=headL_pos e
    unfold hd
    rw [h2,←yZ (strSub z 0 a),StrLaws.strSub_toList,List.drop_zero]
  refine fin_tup (ys:= [.str (hd z),.str " ",.str _]) (t':=s.toks+1+1) I (.cons (show RelV (V.str (hd z)) _ from⟨s.toks,by rw [h0]⟩) (.cons (show RelV (V.str _) _ from⟨t',rfl⟩) (.cons (show RelV (V.str _) _ from⟨s.toks+1,rfl⟩) .nil))) (by show 3≤sizeLine;decide) fun p hp=>q p _ _ hp
def rJoin (K:PySem.W.Frag):V→List V→Hp→VK→Prop:=fun x vs H Q=>∃(sep:Str) (p:Addr) (l:List Str),x= .str sep∧vs= [.ref p]∧SqL K H p (l.map V.str)∧(l.map (·.length)).sum+l.length*sep.length≤1000000∧Q (.str (Str.join sep l)) H
theorem ZV:MtM X "str.join" (rJoin X.K):=by
 intro pins s σ H x vs v us Q I rx rv h
 obtain⟨sep,p,l,rfl,rfl,hp,hz,q⟩:=h
 obtain⟨t,rfl⟩:=rx
 obtain⟨u,rfl,ru⟩:=rv.one
 cases ru
 obtain⟨its,r,pl,hl⟩:=I.list hp
 obtain⟨ps,rfl,e2⟩:=zY r
 have hlong:tooLong ((ps.map (·.1)).toArray.foldl (·+ ·.length+sep.length) 0)=false:=by
  rw [e2]
  have:=StrLaws.joinTotal sep l
  rw [this]
  unfold tooLong
  refine decide_eq_false ?_
  rw [sizeLine_eq]
  omega
 refine call_meets F.slot_str_join (typeIs_str _ _ _) F.entry_str_join (F.args_str_join_2 _ _) (meets_str_join_list sep t p ps hlong) ⟨pl.isList,?_⟩
 have hfit:(glued sep (ps.map (·.1))).length≤sizeLine:=joinFit_length hlong
 match ps,e2,hfit with
 | [],e2,hfit=>
  subst e2
  exact⟨hfit,.str _,H,I.tok _,⟨_,rfl⟩,q⟩
 | [a],e2,_=>
  subst e2
  exact⟨.str _,H,I,⟨a.2,rfl⟩,q⟩
 |a::b::r,e2,hfit=>
  subst e2
  refine⟨hfit,.str _,H,I.tok _,⟨_,rfl⟩,?_⟩
  rw [StrLaws.glued_eq_join]
  exact q
theorem call_intS:jR X (.type "int") (fun xs H Q=>∃z n,xs= [.str z]∧PySem.intText? z=some n∧z.length≤640∧Q (.int n) H):=by
 intro pins s σ H xs us Q I r h
 obtain⟨z,n,rfl,hn,hl,q⟩:=h
 obtain⟨u,rfl,t,rfl⟩:=xj r
 exact PySem.W.KIN.call_text hn hl ⟨.int n,H,I.tok _,⟨_,rfl⟩,q⟩
end
end L2
namespace L2
open PySem PySem.Spec PyProof.Rows
theorem Inv.turnedL {X:Cx}{pins:List (Addr×Obj)}{σ:St}{H:Hp}{s:Shared}{h':Heap}{t':Nat}{fp:List Addr}(I:Inv X pins σ H s)(k:∀b o,b∉fp→s.heap.get? b=some o→h'.get? b=some o)(hf:∀b∈fp,FpOk X pins H b)(ht:0<t':=by((try dsimp only);first|assumption|exact Inv.tk (by assumption)|exact Nat.succ_pos _|exact Nat.lt_of_lt_of_le (Inv.tk (by assumption)) (by assumption)|exact Nat.add_pos_left (Inv.tk (by assumption)) _|omega)):Inv X pins σ H {s with heap:=h',toks:=t'}:=by
 have nit:∀b u,H b=some u→b∉fp:=fun b u e z=>by
  have:=(hf b z).1
  rw [this] at e;cases e
 have nL:X.env.locals∉fp:=fun z=>(hf _ z).2.1 rfl
 refine I.step (g':=s.gens) (d':=s.drawn) (ch:=fp) (fun b hb=>⟨(hf b hb).2.2.2.1,(hf b hb).2.1,(hf b hb).2.2.2.2.1,(hf b hb).2.2.2.2.2⟩) (fun b o _ _ hc e _=>k b o hc e) (fun b o _ _ hc e _=>⟨o.slots,k b o hc e⟩) (fun _ _ _ _ n=>n)
  (fun b o hc e=>⟨o,k b o hc e⟩) (fun _ _ e=>e) (fun _ _ _ e=>e) (fun b ps e=>⟨#[],by rw [e];simp⟩) (fun m hm=> ?_) (fun b u e=> ?_) I.bare
 ·obtain⟨o,es,ep,ho,r⟩:=hm
  exact⟨o,es,ep,k _ o nL ho,r⟩
 ·refine(I.hok b u e).stay (fun c v hc q=>k c v ?_ q) (fun _ q=>q) fun _ _ q=>q
  rcases hc with z|z
  ·rw [z];exact nit b u e
  ·exact nit c _ z
theorem Inv.handed {X:Cx}{pins:List (Addr×Obj)}{σ:St}{H:Hp}{s:Shared}{h':Heap}{t':Nat}{fp:List Addr}{ys:List V}{its:List Value}(I:Inv X pins σ H s)(hf:∀b∈fp,FpOk X pins H b)(hl:∀b∈fp,b<s.heap.objs.size)(hv:Vals ys its)(hz:ys.length≤sizeLine)
  (hn:h'.get? s.heap.objs.size=some {cls:= .type "tuple",data:= .seq its.toArray}) (hs:h'.objs.size=s.heap.objs.size+1) (k:∀b o,b∉fp→s.heap.get? b=some o→h'.get? b=some o) (ht:0<t':=by((try dsimp only);first|assumption|exact Inv.tk (by assumption)|exact Nat.succ_pos _|exact Nat.lt_of_lt_of_le (Inv.tk (by assumption)) (by assumption)|exact Nat.add_pos_left (Inv.tk (by assumption)) _|omega)):
  Inv X pins σ (upd H s.heap.objs.size (.tup ys)) {s with heap:=h',toks:=t'}∧∀b∈fp,FpOk X pins (upd H s.heap.objs.size (.tup ys)) b:=by
 have I1:Inv X pins σ (upd H s.heap.objs.size (.tup ys)) {s with heap:=s.heap.push {cls:= .type "tuple",data:= .seq its.toArray},toks:=t'}:=
  I.laid (o:= .tup ys) (fun _ _ w=>Heap.get?_push_of_some _ w) (Nat.le_refl _) ⟨hz,its,hv,IsTup.new _ _⟩
 have hf1:∀b∈fp,FpOk X pins (upd H s.heap.objs.size (.tup ys)) b:=fun b hb=>by
  obtain⟨f0,f1,f2,f3,f4,f5⟩:=hf b hb
  have:=hl b hb
  exact⟨by rw [qD (Nat.ne_of_lt this)];exact f0,f1,f2,f3,f4,f5⟩
 refine⟨I1.turnedL (h':=h') (t':=t') (fun b o hb e=> ?_) hf1,hf1⟩
 rcases Heap.get?_push_cases (show(s.heap.push {cls:= .type "tuple",data:= .seq its.toArray}).get? b=some o from e) with⟨rfl,rfl⟩|e'
 ·exact hn
 ·exact k b o hb e'
end L2
namespace L2
open PySem PySem.Spec PyProof.Rows
def Itz (K:PySem.W.Frag)(a b:Addr):It:=
 ⟨fun i H=>∃xs ys x y,SqT K H a xs∧SqL K H b ys∧xs[i]? =some x∧ys[i]? =some y,
  fun i H v H'=>∃p x y,v= .ref p∧H p=none∧H'=upd H p (.tup [x,y])∧(∀xs,SqT K H a xs→xs[i]? =some x)∧∀ys,SqL K H b ys→ys[i]? =some y,
  fun i H=>∃xs,SqT K H a xs∧xs.length=i⟩
def Ite (K:PySem.W.Frag)(a:Addr)(c:Int):It:=
 ⟨fun i H=>∃xs x,SqT K H a xs∧xs[i]? =some x,fun i H v H'=>∃p x,v= .ref p∧H p=none∧H'=upd H p (.tup [.int (c+i),x])∧∀xs,SqT K H a xs→xs[i]? =some x,fun i H=>∃xs,SqT K H a xs∧xs.length=i⟩
def tnZ (a b z p r i j:Addr)(k:Nat)(h:Heap):Prop:=
 IsZip h z p r .none∧IsPair h p (.ref i) (.ref j)∧(∃u v,IsPair h r u v)∧h.IsTupleIter i a k∧h.IsListIter j b k∧AwZ.Apt z p r i j a b
theorem turn_zip {P:Program}{w:World}{K:PySem.W.Frag}{elts:List Expr}{c:Nat}{tp:Pos}(a b z p r i j:Addr):Turn P w K (.Tuple elts c tp) (Itz K a b) [z,p,r,i,j] z (tnZ a b z p r i j) where
 mem:=by simp
 obj:=fun k h st x hx=>by
  obtain⟨h1,h2,⟨u,v,h3⟩,⟨o4,e4,c4,d4⟩,⟨o5,e5,c5,d5⟩,D⟩:=st
  simp only [List.mem_cons,List.mem_nil_iff,or_false] at hx
  rcases hx with rfl|rfl|rfl|rfl|rfl
  ·exact⟨_,h1,fun v z=>by cases z⟩
  ·exact⟨_,h2,fun v z=>by cases z⟩
  ·exact⟨_,h3,fun v z=>by cases z⟩
  ·exact⟨o4,e4,fun v z=>by rw [d4] at z;cases z⟩
  ·exact⟨o5,e5,fun v z=>by rw [d5] at z;cases z⟩
 keep:=fun k h h' st kk=>by
  obtain⟨h1,h2,⟨u,v,h3⟩,⟨o4,e4,r4⟩,⟨o5,e5,r5⟩,D⟩:=st
  exact⟨kk z (by simp) _ h1,kk p (by simp) _ h2,⟨u,v,kk r (by simp) _ h3⟩,⟨o4,kk i (by simp) _ e4,r4⟩,⟨o5,kk j (by simp) _ e5,r5⟩,D⟩
 item:=by
  intro X hP hw hK hc k pins s σ H E I hf st hg
  subst hP hw hK
  obtain⟨xs,ys,x,y,ha,hb,hx,hy⟩:=hg
  obtain⟨its,ra,pa,za⟩:=I.tuple ha
  obtain⟨jts,rb,pb,zb⟩:=I.list hb
  obtain⟨ux,eux,rux⟩:=ra.get hx
  obtain⟨uy,euy,ruy⟩:=rb.get hy
  obtain⟨h1,h2,⟨u,v,h3⟩,h4,h5,D⟩:=st
  have l1:=Heap.lt_size h1
  have l2:=Heap.lt_size h2
  have l3:=Heap.lt_size h3
  have l4:i<s.heap.objs.size:=by obtain⟨o,e,_⟩:=h4;exact Heap.lt_size e
  have l5:j<s.heap.objs.size:=by obtain⟨o,e,_⟩:=h5;exact Heap.lt_size e
  refine AwZ.zip_go D h1 h2 h3 h4 h5 (show s.heap.IsTuple a its.toArray from pa) pb.isList (x:=ux) (y:=uy) (by simpa using eux) (by simpa using euy) fun h' g1 g2 g3 g4 g5 g6 g7=> ?_
  have g8:IsPair h' p (.ref i) (.ref j):=g7 _ _ D.pz D.pr D.pi D.pj h2
  obtain⟨I1,hf1⟩:=I.handed (t':=s.toks) (ys:= [x,y]) (its:= [ux,uy]) hf (fun c hc=>by
   simp only [List.mem_cons,List.mem_nil_iff,or_false] at hc
   rcases hc with rfl|rfl|rfl|rfl|rfl<;>assumption) (.cons rux (.cons ruy .nil)) (by show 2≤sizeLine;decide) g5 g6 (fun c o hc e=>by
    simp only [List.mem_cons,List.mem_nil_iff,or_false,not_or] at hc
    exact g7 c o hc.1 hc.2.2.1 hc.2.2.2.1 hc.2.2.2.2 e)
  refine⟨_,rfl,wpAny_letOwnedTupleGo_zip (s:={s with heap:=h'}) g1 fun h2' z2 s2=> ?_⟩
  have s2':∀c o,c≠z→h'.get? c=some o→h2'.get? c=some o:=fun c o hc e=>s2.extBut c o hc e
  refine⟨.ref s.heap.objs.size,_,I1.turnedL (fp:= [z]) (h':=h2') (t':=s.toks) (fun c o hc e=>s2' c o (by simpa using hc) e) (fun c hc=>hf1 c (by simp at hc;simp [hc])),rfl,⟨_,x,y,rfl,I.fresh,rfl,fun zs hzs=> ?_,fun zs hzs=> ?_⟩,⟨z2,s2' _ _ D.pz g8,⟨_,_,s2' _ _ D.rz g2⟩,?_,?_,D⟩,fun c hc=>(hf1 c hc).1⟩
  ·rw [I.tuple_inj hzs ha];exact hx
  ·rw [I.list_inj hzs hb];exact hy
  ·obtain⟨o,e,q⟩:=g3
   exact⟨o,s2' _ _ D.iz e,q⟩
  ·obtain⟨o,e,q⟩:=g4
   exact⟨o,s2' _ _ D.jz e,q⟩
 done:=by
  intro X hP hw hK hc k pins s σ H E I hf st hg
  subst hP hw hK
  obtain⟨xs,ha,hx⟩:=hg
  obtain⟨its,ra,pa,za⟩:=I.tuple ha
  have hl:=ra.length
  obtain⟨h1,h2,⟨u,v,h3⟩,h4,h5,D⟩:=st
  refine AwZ.zip_stop (A:=X.A) (I.ok.hd hc) D h1 h2 h4 (show s.heap.IsTuple a its.toArray from pa) (by simp;omega) fun h' kk=>⟨rfl,?_⟩
  exact I.turnedL (t':=s.toks) (fun c o hc e=>by
   simp only [List.mem_cons,List.mem_nil_iff,or_false,not_or] at hc
   exact kk c o hc.1 hc.2.2.1 hc.2.2.2.1 hc.2.2.2.2 e) hf
 self:=fun _ _ _ _ _ st h=>wpAny_pyIter_zip st.1 h
end L2
namespace L2
open PySem PySem.Spec PyProof.Rows
section
variable {X:Cx}
theorem apt_mk {n a b:Nat}(ha:a<n)(hb:b<n):AwZ.Apt (n+4) (n+2) (n+3) n (n+1) a b:=by
 constructor<;>exact(show _≠((_:Nat)) by omega)
theorem five_le {n x:Nat}(h:x=n+4∨x=n+2∨x=n+3∨x=n∨x=n+1):n≤x:=by omega
theorem two_le {n m x:Nat}(hm:m=n+1)(h:x=m∨x=n):n≤x:=by omega
def iZip (K:PySem.W.Frag)(ta:TA):TI:=fun σ H R=>ta σ H fun vs H1=>∃a b xs ys,vs= [.ref a,.ref b]∧SqT K H1 a xs∧SqL K H1 b ys∧R (Itz K a b) H1
theorem pi_zip {elts:List Expr}{c:Nat}{tp p pos:Pos}{e1 e2:Expr}{ta:TA}(hg:Gl X "zip")(hm:X.mg "zip"=none)(ha:PA X [e1,e2] ta)(hs:starEach [e1,e2] X.env= [(false,eval e1 X.env),(false,eval e2 X.env)]:=by rfl)(hs2:starEach [e2] X.env= [(false,eval e2 X.env)]:=by rfl):
  PI X (.Tuple elts c tp) (.Call (.Name "zip" p) [e1,e2] [] pos) (iZip X.K ta):=by
 intro pins s σ H R I h
 refine Call_ (zG I hg hm boot_zip (PyProof.Rows.callWith_type1 (thn (ha pos pins s σ H _ I h) fun us s1 ⟨vs,H1,I1,r1,q1⟩=> ?_) (by rw [hs,hs2]) (by rw [hs2];rfl)))
 obtain⟨a,b,xs,ys,e,hA,hB,q⟩:=q1
 subst e
 obtain⟨u,u',rfl,ru,ru'⟩:=vals2 r1
 cases ru
 cases ru'
 obtain⟨its,ra,pa,za⟩:=I1.tuple hA
 obtain⟨jts,rb,pb,zb⟩:=I1.list hB
 have la:a<s1.heap.objs.size:=by obtain⟨o,e,_⟩:=id pa;exact Heap.lt_size e
 have lb:b<s1.heap.objs.size:=by obtain⟨o,n,e,_⟩:=id pb;exact Heap.lt_size e
 refine AwZ.zip_call (show s1.heap.IsTuple a its.toArray from pa) pb.isList fun h2 g1 g2 g3 g4 g5 g6 g7=> ?_
 refine wpAny_pyIter_zip (s:={s1 with heap:=h2}) g1 ?_
 refine⟨_,[s1.heap.objs.size+4,s1.heap.objs.size+2,s1.heap.objs.size+3,s1.heap.objs.size,s1.heap.objs.size+1],_,_,H1,rfl,I1.kept (t':=s1.toks) g7,turn_zip a b _ _ _ _ _,⟨g1,g2,⟨_,_,g3⟩,g4,g5,?_⟩,fun x hx=> ?_,q⟩
 ·exact apt_mk la lb
 ·have hx':s1.heap.objs.size≤x:=by
   simp only [List.mem_cons,List.mem_nil_iff,or_false] at hx
   exact five_le hx
  exact I1.fpOk hx' (I1.hok.fresh hx')
def tnE (a e j:Addr)(c:Int)(k:Nat)(h:Heap):Prop:=(∃old,IsEnum h e j (c+k) old)∧h.IsTupleIter j a k∧e≠j
theorem turn_enum {P:Program}{w:World}{K:PySem.W.Frag}{elts:List Expr}{cc:Nat}{tp:Pos}(a e j:Addr)(c:Int):Turn P w K (.Tuple elts cc tp) (Ite K a c) [e,j] e (tnE a e j c) where
 mem:=by simp
 obj:=fun k h st x hx=>by
  obtain⟨⟨old,h1⟩,⟨o4,e4,c4,d4⟩,D⟩:=st
  simp only [List.mem_cons,List.mem_nil_iff,or_false] at hx
  rcases hx with rfl|rfl
  ·exact⟨_,h1,fun v z=>by cases z⟩
  ·exact⟨o4,e4,fun v z=>by rw [d4] at z;cases z⟩
 keep:=fun k h h' st kk=>by
  obtain⟨⟨old,h1⟩,⟨o4,e4,r4⟩,D⟩:=st
  exact⟨⟨old,kk e (by simp) _ h1⟩,⟨o4,kk j (by simp) _ e4,r4⟩,D⟩
 item:=by
  intro X hP hw hK hc k pins s σ H E I hf st hg
  subst hP hw hK
  obtain⟨xs,x,ha,hx⟩:=hg
  obtain⟨its,ra,pa,za⟩:=I.tuple ha
  obtain⟨ux,eux,rux⟩:=ra.get hx
  obtain⟨⟨old,h1⟩,h4,D⟩:=st
  have l1:=Heap.lt_size h1
  have l4:j<s.heap.objs.size:=by obtain⟨o,e,_⟩:=h4;exact Heap.lt_size e
  refine AwZ.enum_go h1 h4 (show s.heap.IsTuple a its.toArray from pa) (x:=ux) (by simpa using eux) D fun h' g1 g3 g5 g6 g7=> ?_
  obtain⟨I1,hf1⟩:=I.handed (t':=s.toks+1) (ys:= [.int (c+k),x]) (its:= [.int (c+k) s.toks,ux]) hf (fun c hc=>by
   simp only [List.mem_cons,List.mem_nil_iff,or_false] at hc
   rcases hc with rfl|rfl<;>assumption) (.cons (show RelV (V.int (c+k)) _ from⟨_,rfl⟩) (.cons rux .nil)) (by show 2≤sizeLine;decide) g5 g6 (fun c o hc e=>by
    simp only [List.mem_cons,List.mem_nil_iff,or_false,not_or] at hc
    exact g7 c o hc.1 hc.2 e)
  refine⟨_,rfl,wpAny_letOwnedTupleGo_enum (s:={s with heap:=h',toks:=s.toks+1}) g1 fun h2' z2 s2=> ?_⟩
  have s2':∀c o,c≠e→h'.get? c=some o→h2'.get? c=some o:=fun c o hc e=>s2.extBut c o hc e
  refine⟨.ref s.heap.objs.size,_,I1.turnedL (fp:= [e]) (h':=h2') (t':=s.toks+1) (fun c o hc e=>s2' c o (by simpa using hc) e) (fun c hc=>hf1 c (by simp at hc;simp [hc])),rfl,⟨_,x,rfl,I.fresh,rfl,fun zs hzs=> ?_⟩,⟨⟨ux,?_⟩,?_,D⟩,fun c hc=>(hf1 c hc).1⟩
  ·rw [I.tuple_inj hzs ha];exact hx
  ·have e1:c+((k+1:Nat):Int)=c+(k:Int)+1:=by omega
   rw [e1]
   exact z2
  ·obtain⟨o,e,q⟩:=g3
   exact⟨o,s2' _ _ (Ne.symm D) e,q⟩
 done:=by
  intro X hP hw hK hc k pins s σ H E I hf st hg
  subst hP hw hK
  obtain⟨xs,ha,hx⟩:=hg
  obtain⟨its,ra,pa,za⟩:=I.tuple ha
  have hl:=ra.length
  obtain⟨⟨old,h1⟩,h4,D⟩:=st
  refine AwZ.enum_stop (A:=X.A) (I.ok.hd hc) h1 h4 (show s.heap.IsTuple a its.toArray from pa) (by simp;omega) fun h' kk=>⟨rfl,?_⟩
  exact I.turnedL (t':=s.toks) (fun c o hc e=>by
   simp only [List.mem_cons,List.mem_nil_iff,or_false,not_or] at hc
   exact kk c o hc.2 e) hf
 self:=fun _ _ _ _ _ st h=>by
  obtain⟨⟨old,h1⟩,_⟩:=st
  exact wpAny_pyIter_enum h1 h
def KDict (K:PySem.W.Frag)(w:World)(a:Addr):Prop:=(a==sysModules)=false∧∃es n,K.lookup a=some ⟨.type "dict",none,.dict es n,#[]⟩∧PySem.W.KeysLit w.params es.toList
def rNotK (K:PySem.W.Frag)(w:World):R2:=fun x y H Q=>∃z a r,x= .str z∧y= .ref a∧KDict K w a∧PySem.W.nsIn K a z=some r∧Q (.bl (!r.isSome)) H
theorem op_notK:OpR X (compareOp .NotIn) (rNotK X.K X.w):=by
 intro pins s σ H x y v u Q I rx ry h
 obtain⟨z,a,r,rfl,rfl,⟨hs,es,n,hl,hk⟩,hn,q⟩:=h
 obtain⟨t,rfl⟩:=rx
 cases ry
 have hm:=PySem.W.mapOf_K (prog:=X.prog) (w:=X.w) I.kIn hl hk
 refine wpAny_notIn_of (strKind_is X.prog X.w z t) hs hm ⟨.bl (!r.isSome),H,I.tok _,?_,q⟩
 rw [PySem.W.find_K hl hn]
 rfl
def rIxK (K:PySem.W.Frag)(w:World):R2:=fun x y H Q=>∃z a u v,x= .ref a∧y= .str z∧KDict K w a∧PySem.W.nsIn K a z=some (some u)∧RelV v u∧Q v H
theorem ix_K:IxR X (rIxK X.K X.w):=by
 intro value slice pins s σ H x y v u Q I rx ry h hs
 obtain⟨z,a,u',v',rfl,rfl,⟨_,es,n,hl,hk⟩,hn,hr,q⟩:=h
 obtain⟨t,rfl⟩:=ry
 cases rx
 have hm:=PySem.W.mapOf_K (prog:=X.prog) (w:=X.w) I.kIn hl hk
 exact tail_any hm.typeIs slot_dict_getitem.lookup (wpAny_getItem_of (strKind_is X.prog X.w z t) hm (PySem.W.find_K hl hn) ⟨v',H,I.tok _,hr,q⟩) hs
end
end L2
namespace L2
open PySem PySem.Spec PyProof.Rows
section
variable {X:Cx}{K:PySem.W.Frag}
theorem pg_tupK {es:List Expr}{k:Nat}{t:TGs}{n:Nat}{pos:Pos}(hK:X.K=K)(hc:X.calm=true)(h:PGs X es t)
  (hn:(assignEach es X.env).length=n:=by rfl) (hst:(assignEach es X.env).findIdx? (·.1)=none:=by rfl):PG X (.Tuple es k pos) (gTup K n t):=by subst hK;exact pg_tup hc h hn hst
end
end L2
namespace L2
open PySem PySem.Spec PyProof.Rows
theorem Z1 {lo:Int}{n:Nat}{L:Addr}{H1:Hp}{te:TE}{tl:St}{Q:VK}(C:Nat→List V→Hp→Prop)(hn:n≤sizeLine)(h0:C 0 [] (upd H1 L (.lst [])))
  (hs:∀i ys H,i<n→C i ys H→H L=some (.lst ys)→ys.length≤i→∀R:VK,(∀y H4,H4 L=some (.lst ys)→C (i+1) (ys++ [y]) (upd H4 L (.lst (ys++ [y])))→R y H4)→te (some (.int (lo+(i:Int)))::tl) H R)
  (hQ:∀ys H,C n ys H→H L=some (.lst ys)→Q (.ref L) H):lcGo L (Itr lo n) (xw 0) tYes te (none::tl) H1 Q:=by
 refine⟨n,fun i σ ys H=>(∃x,σ=x::tl)∧C i ys H,hn,⟨⟨none,rfl⟩,h0⟩,?_,?_⟩
 ·rintro i σ ys H hi ⟨⟨x,rfl⟩,hc⟩ hL hy
  refine⟨hi,?_⟩
  rintro x' H' ⟨rfl,rfl⟩
  dsimp only [xw,tYes,List.set]
  rw [if_pos rfl]
  exact hs i ys H' hi hc hL hy _ fun y H4 e c=>⟨e,⟨_,rfl⟩,c⟩
 ·rintro σ ys H ⟨_,hc⟩ hL
  exact⟨Nat.le_refl _,hQ ys H hc hL⟩
theorem lc_zip {K:PySem.W.Frag}{a b A:Addr}{H1:Hp}{te:TE}{tl:St}{Q:VK}{xs ys:List V}(f:Nat→D)(ha:∀H,Same H1 H→SqT K H a xs)(hb:∀H,Same H1 H→SqL K H b ys)(hxy:xs.length=ys.length)(hn:xs.length≤sizeLine)(hA:H1 A=none)
  (hte:∀i x y H (R:VK),xs[i]? =some x→ys[i]? =some y→Same H1 H→(∀v H',Same H H'→Is H' (f i) v→R v H')→te (some x::some y::tl) H R)
  (hQ:∀H' vs,Same H1 H'→H' A=some (.lst vs)→L2.IsL H' ((List.range xs.length).map f) vs→Q (.ref A) H'):lcGo A (Itz K a b) (gTup K 2 (gCons (xw 0) (gCons (xw 1) gNil))) tYes te (none::none::tl) H1 Q:=by
 refine⟨xs.length,fun i σ us H=>(∃u v,σ=u::v::tl)∧L2.IsL H ((List.range i).map f) us∧Same H1 H,hn,⟨⟨none,none,rfl⟩,rfl,qe hA _⟩,?_,?_⟩
 ·rintro i σ us H hi ⟨⟨u,v,rfl⟩,hl,sm⟩ hA' hyl
  have hx:xs[i]? =some xs[i]:=List.getElem?_eq_getElem hi
  have hy:ys[i]? =some (ys[i]'(by omega)):=List.getElem?_eq_getElem _
  refine⟨⟨xs,ys,_,_,ha H sm,hb H sm,hx,hy⟩,fun x H' y=> ?_⟩
  obtain⟨p,x',y',rfl,hp,rfl,e1,e2⟩:=y
  have e1:=e1 xs (ha H sm)
  have e2:=e2 ys (hb H sm)
  have s2:Same H (upd H p (.tup [x',y'])):=qe hp _
  refine⟨p,_,rfl,SqT.of qj,rfl,x',_,rfl,y',_,rfl,rfl,?_⟩
  dsimp only [tYes]
  rw [if_pos rfl]
  refine hte i x' y' _ _ e1 e2 (sm.trans s2) fun y4 H4 s4 hy'=>⟨s4 _ _ (s2 _ _ hA'),⟨_,_,rfl⟩,?_,fun b o e=> ?_⟩
  ·have t:Tk H4 (upd H4 A (.lst (us++ [y4]))):=Tk.updL (s4 _ _ (s2 _ _ hA'))
   rw [List.range_succ,List.map_append]
   exact((hl.mono (s2.trans s4).tk).mono t).append (IsL.one (hy'.mono t))
  ·rw [qD (ql e hA)]
   exact s4 b o (s2 b o (sm b o e))
 ·rintro σ us H ⟨_,hl,sm⟩ hA'
  exact⟨⟨xs,ha H sm,rfl⟩,hQ H us sm hA' hl⟩
theorem X2 (z:Str)(l:List Str):inV (.str z) (l.map V.str)=decide (z∈l):=by
 unfold inV
 rw [List.any_map,Bool.eq_iff_iff,List.any_eq_true,decide_eq_true_eq]
 constructor
 ·rintro⟨x,hx,e⟩
  have e':(x==z)=true:=e
  rw [beq_iff_eq] at e'
  exact e'▸hx
 ·intro h
  exact⟨z,h,by show(z==z)=true;exact beq_self_eq_true z⟩
theorem zQ (l:List Str):(l.map V.str).all zA=true:=by
 rw [List.all_map,List.all_eq_true]
 intro x _
 rfl
end L2
namespace L2
open PySem PySem.Spec PyProof.Rows
inductive Pt where
 |s (z:Str)|n (i:Int)
def Pt.d:Pt→D
 | .s z=> .str z
 | .n i=> .int i
def Pt.t:Pt→Str
 | .s z=>z
 | .n i=>toString i
inductive Kd where
 |box|line|words
 deriving DecidableEq
def Kd.t:Kd→Str
 | .box=>"box"
 | .line=>"line"
 | .words=>"words"
def BX:List Str:= ["a","b","c","d","e","f","g","h"]
def FRM:List (Str×List Kd):= [("text",[.box,.words]),("self",[.box]),("copy",[.box,.box]),("row",[.box]),("put",[.box,.box]),("join",[.box,.box]),("first",[.box,.box]),("rest",[.box,.box]),
 ("size",[.box,.box]),("cut",[.box,.box,.box]),("glue",[.box,.box,.box]),("ask",[.box,.box]),("has",[.box,.box]),("names",[.box,.box]),("go",[.line]),("like",[.box,.box,.line]),
 ("rowed",[.box,.line]),("none",[.box,.line]),("say",[.box]),("fault",[])]
def ptOk (n m:Nat):Kd→Pt→Prop
 | .box,.s z=>z∈BX
 | .line,.n i=>1≤i∧i≤n
 | .words,.s z=>z.length≤m∧z.cps.toList.all yu=true
 |_,_=>False
def jY (n m:Nat):List Kd→List Pt→Prop
 | [],[]=>True
 |k::ks,p::ps=>ptOk n m k p∧jY n m ks ps
 |_,_=>False
abbrev Rw:=Str×List Pt
def Yi (n m:Nat)(r:Rw):Prop:=∃ks,(r.1,ks)∈FRM∧jY n m ks r.2
def txs (r:Rw):List Str:=r.1::r.2.map Pt.t
def qG (r:Rw):Str:=Str.join " " (txs r)
def rowD (r:Rw):D:= .tup [.str r.1,.tup (r.2.map Pt.d)]
theorem xb:∀(x y:Str) (r:List Str),(Str.join " " (x::y::r)).cps.toList=x.cps.toList++32::(Str.join " " (y::r)).cps.toList:=by
 intro x y r
 show((x.cps++(" ":Str).cps)++(Str.join " " (y::r)).cps).toList=_
 rw [Array.toList_append,Array.toList_append,JF]
 simp
abbrev Free (z:Str):Prop:=32∉z.cps.toList
theorem Z5:∀(l:List Str) (z:Str) (n:Nat),(∀p∈l,Free p)→(n=0∨Free z)→spl (l.length+n) (Str.join " " (l++ [z]))=l++ [z]
 | [],z,n,_,hz=>by
  show spl (0+n) z= [z]
  rw [Nat.zero_add]
  unfold spl
  rcases hz with rfl|hz
  ·rw [cutL]
   show [ofL z.cps.toList]= [z]
   rw [yZ]
  ·rw [zp hz]
   show [ofL z.cps.toList]= [z]
   rw [yZ]
 |p::l,z,n,hl,hz=>by
  have ih:=Z5 l z n (fun q hq=>hl q (List.mem_cons_of_mem _ hq)) hz
  have hp:Free p:=hl p List.mem_cons_self
  obtain⟨y,r,e⟩:∃y r,l++ [z]=y::r:=by cases l<;>exact⟨_,_,rfl⟩
  show spl ((l.length+1)+n) (Str.join " " (p::(l++ [z])))=p::(l++ [z])
  rw [e] at ih⊢
  unfold spl at ih⊢
  rw [xb,show l.length+1+n=(l.length+n)+1 by omega,cutL_app hp,List.map_cons,ih,yZ]
theorem hd_join (w:Str)(r:List Str)(h:Free w):hd (Str.join " " (w::r))=w:=by
 have key:∀(p q:List Nat),32∉p→XN 32 (p++32::q)=p:=by
  intro p
  induction p with
  |nil=>intro q _;simp [XN]
  |cons a p ih=>
   intro q h
   have h1:a≠32:=fun e=>h (by simp [e])
   show XN 32 (a::(p++32::q))=a::p
   rw [XN,if_neg h1,ih q fun z=>h (List.mem_cons_of_mem _ z)]
 cases r with
 |nil=>
  show ofL (XN 32 w.cps.toList)=w
  rw [Xg h,yZ]
 |cons y r=>
  unfold hd
  rw [xb,key _ _ h,yZ]
theorem Z7:∀(l:List Str),l≠ []→(Str.join " " l).length+1=(l.map (·.length)).sum+l.length
 | [],h=>absurd rfl h
 | [x],_=>by simp [Str.join]
 |x::y::r,_=>by
  have ih:=Z7 (y::r) (by simp)
  have e:(Str.join " " (x::y::r)).length=x.length+(1+(Str.join " " (y::r)).length):=by
   have:=congrArg List.length (xb x y r)
   rw [List.length_append,List.length_cons] at this
   simp only [Array.length_toList] at this
   show(Str.join " " (x::y::r)).cps.size=_
   rw [this]
   show x.cps.size+((Str.join " " (y::r)).cps.size+1)=x.cps.size+(1+(Str.join " " (y::r)).cps.size)
   omega
  rw [e,List.map_cons,List.sum_cons,List.length_cons]
  omega
theorem join_all:∀(l:List Str),(∀p∈l,p.cps.toList.all yu=true)→(Str.join " " l).cps.toList.all yu=true
 | [],_=>by decide
 | [x],h=>h x (by simp)
 |x::y::r,h=>by
  have ih:=join_all (y::r) fun p hp=>h p (List.mem_cons_of_mem _ hp)
  rw [xb,List.all_append,List.all_cons,h x List.mem_cons_self,ih]
  rfl
theorem js {i:Int}(h1:1≤i)(h2:i≤40):(toString i:Str).length≤2∧Free (toString i:Str)∧(toString i:Str).cps.toList.all yu=true:=by
 obtain⟨k,rfl⟩:∃k:Fin 41,i=((k.val:Nat):Int):=⟨⟨i.toNat,by omega⟩,by simp;omega⟩
 have key:∀k:Fin 41,(toString ((k.val:Nat):Int):Str).length≤2∧decide (Free (toString ((k.val:Nat):Int):Str))=true∧(toString ((k.val:Nat):Int):Str).cps.toList.all yu=true:=by decide+kernel
 obtain⟨a,b,c⟩:=key k
 exact⟨a,of_decide_eq_true b,c⟩
theorem num_back {i:Int}(h1:1≤i)(h2:i≤40):PySem.intText? (toString i:Str)=some i:=PySem.W.KIN.num_reads (by omega) (by omega)
theorem QQ {z:Str}(h:z∈BX):z.length=1∧Free z∧z.cps.toList.all yu=true:=by
 have key:∀z∈BX,z.length=1∧decide (Free z)=true∧z.cps.toList.all yu=true:=by decide+kernel
 obtain⟨a,b,c⟩:=key z h
 exact⟨a,of_decide_eq_true b,c⟩
theorem word_ok:∀x∈FRM,decide (Free x.1)=true∧x.1.cps.toList.all yu=true:=by decide+kernel
theorem form_ok:∀x∈FRM,(decide (Kd.words∈x.2)=false)∨x=(("text":Str),[Kd.box,Kd.words]):=by decide+kernel
theorem form_nd:∀x∈FRM,∀y∈FRM,x.1=y.1→x=y:=by decide+kernel
def Kd.most (m:Nat):Kd→Nat
 | .box=>1
 | .line=>2
 | .words=>m
theorem ptOk_len {n m:Nat}(hn:n≤40){k:Kd}{p:Pt}(h:ptOk n m k p):p.t.length≤k.most m:=by
 cases k<;>cases p<;>simp only [ptOk] at h
 ·exact Nat.le_of_eq (QQ h).1
 ·exact(js h.1 (by omega)).1
 ·exact h.1
theorem ptOk_all {n m:Nat}(hn:n≤40){k:Kd}{p:Pt}(h:ptOk n m k p):p.t.cps.toList.all yu=true:=by
 cases k<;>cases p<;>simp only [ptOk] at h
 ·exact(QQ h).2.2
 ·exact(js h.1 (by omega)).2.2
 ·exact h.2
theorem ptOk_free {n m:Nat}(hn:n≤40){k:Kd}{p:Pt}(h:ptOk n m k p)(hk:k≠ .words):Free p.t:=by
 cases k<;>cases p<;>simp only [ptOk] at h
 ·exact(QQ h).2.1
 ·exact(js h.1 (by omega)).2.1
 ·exact absurd rfl hk
theorem Jw {n m:Nat}:∀{ks:List Kd}{ps:List Pt},jY n m ks ps→ps.length=ks.length
 | [],[],_=>rfl
 |_::_,_::_,h=>by rw [List.length_cons,List.length_cons,Jw h.2]
 | [],_::_,h=>h.elim
 |_::_,[],h=>h.elim
theorem ptsOk_get {n m:Nat}:∀{ks:List Kd}{ps:List Pt}{i:Nat}{k:Kd}{p:Pt},jY n m ks ps→ks[i]? =some k→ps[i]? =some p→ptOk n m k p
 |_::_,_::_,0,k,p,h,e1,e2=>by
  cases e1;cases e2;exact h.1
 |_::_,_::_,i+1,k,p,h,e1,e2=>ptsOk_get (i:=i) h.2 (by simpa using e1) (by simpa using e2)
 | [],[],_,_,_,_,e1,_=>by simp at e1
 | [],_::_,_,_,_,h,_,_=>h.elim
 |_::_,[],_,_,_,h,_,_=>h.elim
theorem ptsOk_sum {n m:Nat}(hn:n≤40):∀{ks:List Kd}{ps:List Pt},jY n m ks ps→((ps.map Pt.t).map (·.length)).sum≤(ks.map (Kd.most m)).sum
 | [],[],_=>Nat.le_refl _
 |_::_,_::_,h=>by
  have h1:=ptOk_len hn h.1
  have h2:=ptsOk_sum hn h.2
  simp only [List.map_cons,List.sum_cons]
  omega
 | [],_::_,h=>h.elim
 |_::_,[],h=>h.elim
theorem ptsOk_all {n m:Nat}(hn:n≤40):∀{ks:List Kd}{ps:List Pt},jY n m ks ps→∀p∈ps.map Pt.t,p.cps.toList.all yu=true
 | [],[],_=>fun p hp=>by simp at hp
 |_::_,_::_,h=>fun p hp=>by
  rw [List.map_cons] at hp
  rcases List.mem_cons.mp hp with rfl|hp
  ·exact ptOk_all hn h.1
  ·exact ptsOk_all hn h.2 p hp
 | [],_::_,h=>h.elim
 |_::_,[],h=>h.elim
theorem Zv {n m:Nat}(hn:n≤40):∀{ks:List Kd}{ps:List Pt},jY n m ks ps→Kd.words∉ks→∀p∈ps.map Pt.t,Free p
 | [],[],_,_=>fun p hp=>by simp at hp
 |_::_,_::_,h,hk=>fun p hp=>by
  rw [List.map_cons] at hp
  rcases List.mem_cons.mp hp with rfl|hp
  ·exact ptOk_free hn h.1 fun e=>hk (by simp [e])
  ·exact Zv hn h.2 (fun z=>hk (List.mem_cons_of_mem _ z)) p hp
 | [],_::_,h,_=>h.elim
 |_::_,[],h,_=>h.elim
theorem form_len:∀x∈FRM,∀m:Fin 41,3<m.val→x.1.length+(x.2.map (Kd.most m.val)).sum+x.2.length≤7+m.val:=by decide+kernel
theorem line_len {n m:Nat}{r:Rw}(hn:n≤40)(hm:4≤m)(hm2:m≤40)(h:Yi n m r):(qG r).length≤7+m:=by
 obtain⟨ks,hk,hp⟩:=h
 have h1:=Z7 (txs r) (by simp [txs])
 have h2:=ptsOk_sum hn hp
 have h3:=form_len _ hk ⟨m,by omega⟩ hm
 have h4:=Jw hp
 simp only [txs,List.map_cons,List.sum_cons,List.length_cons,List.length_map] at h1
 show(Str.join " " (txs r)).length≤7+m
 simp only at h3
 unfold txs
 omega
theorem line_all {n m:Nat}{r:Rw}(hn:n≤40)(h:Yi n m r):(qG r).cps.toList.all yu=true:=by
 obtain⟨ks,hk,hp⟩:=h
 refine join_all _ fun p hp'=> ?_
 rcases List.mem_cons.mp hp' with rfl|hp'
 ·exact(word_ok _ hk).2
 ·exact ptsOk_all hn hp p hp'
theorem line_hd {n m:Nat}{r:Rw}(h:Yi n m r):hd (qG r)=r.1:=by
 obtain⟨ks,hk,hp⟩:=h
 exact hd_join _ _ (of_decide_eq_true (word_ok _ hk).1)
theorem line_spl {n m:Nat}{r:Rw}{ks:List Kd}(hn:n≤40)(hk:(r.1,ks)∈FRM)(hp:jY n m ks r.2):spl (if Kd.words∈ks then ks.length else(qG r).length+1) (qG r)=txs r:=by
 have hw:Free r.1:=of_decide_eq_true (word_ok _ hk).1
 by_cases h:Kd.words∈ks
 ·rw [if_pos h]
  rcases form_ok _ hk with e|e
  ·simp at e;exact absurd h e
  ·have e1:ks= [.box,.words]:=congrArg Prod.snd e
   subst e1
   obtain⟨w,ps⟩:=r
   match ps,hp with
   | [p,q],hp=>
    have:=Z5 [w,p.t] q.t 0 (fun z hz=>by
     simp only [List.mem_cons,List.mem_nil_iff,or_false] at hz
     rcases hz with rfl|rfl
     ·exact hw
     ·exact ptOk_free hn hp.1 (by decide)) (.inl rfl)
    exact this
 ·rw [if_neg h]
  have hf:∀p∈txs r,Free p:=fun p hp'=>by
   rcases List.mem_cons.mp hp' with rfl|hp'
   ·exact hw
   ·exact Zv hn hp h p hp'
  rcases List.eq_nil_or_concat (txs r) with e|⟨l,z,e⟩
  ·simp [txs] at e
  ·rw [List.concat_eq_append] at e
   have hlen:=Z7 (txs r) (by simp [txs])
   unfold qG
   rw [e] at hf hlen⊢
   have hl:l.length≤(Str.join " " (l++ [z])).length:=by
    rw [List.length_append] at hlen
    simp only [List.length_cons,List.length_nil] at hlen
    omega
   have:=Z5 l z ((Str.join " " (l++ [z])).length+1-l.length) (fun q hq=>hf q (List.mem_append_left _ hq)) (.inr (hf z (by simp)))
   rw [show l.length+((Str.join " " (l++ [z])).length+1-l.length)=(Str.join " " (l++ [z])).length+1 by omega] at this
   exact this
end L2
namespace L2
open PySem PySem.Spec PyProof.Rows
end L2
namespace L2
open PySem PySem.Spec PyProof.Rows
section
variable {X:Cx}{pins:List (Addr×Obj)}{σ:St}{H:Hp}{s:Shared}{ee:Addr}{xe:Value→Shared→Prop}
end
end L2
namespace PySem.AwM
open PySem.AutoSeq1 PySem.MeetsSeq PySem.MeetsSeq3
end PySem.AwM
namespace L2
open PySem PySem.Spec PyProof.Rows
section
variable {X:Cx}
end
end L2
namespace HT
open PySem PyProof.Rows
section
variable {prog:Program}{w:World}{A:Around}{E:Value→Shared→Prop}{s:Shared}
theorem getItem_tuple_all {t sl:Addr}{items:Array Value}{vl vu:Value}{lo hi:Option Int}{Q:Value→Shared→Prop}(ht:IsTup s.heap t items)(hs:s.heap.IsSliceOf sl vl vu .none)(pl:IsPart vl lo)(pu:IsPart vu hi)
  (hw:sIx items.size 0 lo=0∧sIx items.size items.size hi=items.size) (h:Q (.ref t) s):wpAny (model prog w) A (getItem (.ref t) (.ref sl)) Q E s:=by
 obtain⟨os,hos,hcs,hds⟩:=id hs
 have hTs:s.TypeIs (.ref sl) "slice":=⟨os,hos,hcs⟩
 unfold getItem
 try with_reducible refine wpAny_holding ?_
 first|refine wpAny_bind (wpAny_pure ?_)|skip
 refine wpAny_bind (wpAny_sequenceKey ht.typeIs (by decide) ?_)
 refine wpAny_bind (wpAny_callSpecial?_slot (name:=Str.ofString "__getitem__") ht.typeIs PyProof.Rows.slot_tuple_getitem
  (wpAny_call_entry PyProof.Rows.slot_tuple_getitem ht.typeIs entry_tuple_getitem ?_ (args_tuple_getitem _ _)))
 show wpAny _ _ (Builtin.Tuple.tupleItemsOf (.ref t)>>=_) _ _ s
 refine wpAny_bind (tupleItemsOf_ ht ?_)
 refine wpAny_bind (wpAny_typeOf hTs ?_)
 rw [if_pos (by decide)]
 refine wpAny_bind (Jc hs pl pu ?_)
 have hyes:((((sIx items.size 0 lo:Nat):Int)==0&&(1:Int)==1&&(sIx items.size items.size hi-sIx items.size 0 lo)==items.size)=true):=by
  rw [hw.1,hw.2]
  simp
 show wpAny _ _ (if(((sIx items.size 0 lo:Nat):Int)==0&&(1:Int)==1&&(sIx items.size items.size hi-sIx items.size 0 lo)==items.size)=true then _ else _) _ _ s
 rw [if_pos hyes]
 unfold Builtin.Tuple.tupleIsExact
 refine wpAny_bind (wpAny_bind (wpAny_typeOf ht.typeIs (wpAny_pure ?_)))
 rw [if_pos (by decide)]
 exact wpAny_bind (wpAny_rule (wpAny_pure ⟨_,rfl,wpAny_pure h⟩))
end
end HT
namespace L2
open PySem PySem.Spec PyProof.Rows
section
variable {X:Cx}
def rSlG (K:PySem.W.Frag):V→Option Int→Option Int→Hp→VK→Prop:=fun x lo hi H Q=>∃a xs,x= .ref a∧SqT K H a xs∧
 (HT.sIx xs.length 0 lo=0∧HT.sIx xs.length xs.length hi=xs.length→Q (.ref a) H)∧
 (¬(HT.sIx xs.length 0 lo=0∧HT.sIx xs.length xs.length hi=xs.length)→∀p,H p=none→Q (.ref p) (upd H p (.tup (cutV xs lo hi))))
theorem j0:SlR X (rSlG X.K):=by
 intro pins s σ H x v vl vu lo hi sl Q I rx hs pl pu h
 obtain⟨a,xs,rfl,hx,q1,q2⟩:=h
 by_cases hw:HT.sIx xs.length 0 lo=0∧HT.sIx xs.length xs.length hi=xs.length
 ·cases rx
  obtain⟨its,r,ht,hz⟩:=I.tuple hx
  have hlen:its.toArray.size=xs.length:=by rw [List.size_toArray];exact r.length.symm
  refine⟨"tuple",_,PyProof.Rows.slot_tuple_getitem.lookup,ht.typeIs,?_⟩
  exact HT.getItem_tuple_all ht hs pl pu (by rw [hlen];exact hw) ⟨.ref a,H,I,rfl,q1 hw⟩
 ·exact sl_tup pins s σ H (.ref a) v vl vu lo hi sl Q I rx hs pl pu ⟨a,xs,rfl,hx,hw,q2 hw⟩
end
end L2
namespace L2
open PySem PySem.Spec PyProof.Rows
end L2
namespace L2
open PySem PySem.Spec PyProof.Rows
section
variable {X:Cx}{pins:List (Addr×Obj)}{σ:St}{H:Hp}{s:Shared}
end
end L2
namespace PySem.AwV
open PySem PySem.Calls PyProof.Rows Builtin Builtin.ObjectAttr Builtin.Getset_descriptor PySem.W
section
variable {prog:Program}{w:World}{A:Around}{E:Value→Shared→Prop}{s:Shared}{K:Frag}{x C:Addr}
end
end PySem.AwV
namespace L2
open PySem PySem.Spec PyProof.Rows
section
variable {X:Cx}{pins:List (Addr×Obj)}{σ:St}{H:Hp}{s:Shared}
theorem vals_refs:∀{cs:List Addr}{its:List Value},Vals (cs.map V.ref) its→its=cs.map Value.ref
 | [],_,h=>by cases h;rfl
 |c::cs,_,h=>by
  cases h with
  |cons r1 r2=>
   rw [vals_refs r2,show _=Value.ref c from r1]
   rfl
end
end L2
namespace L2
open PySem PySem.Spec PyProof.Rows
section
variable {X:Cx}
end
end L2
namespace PySem.AwK
open PySem Builtin Builtin.ObjectAttr
theorem lk_keys:typeLookup (.type "list") "keys"=pure none:=by rw [typeLookup_type,builtinLookup_eq_fast];kernel_rfl
section
variable {prog:Program}{w:World}{A:Around}{E:Value→Shared→Prop}{s:Shared}
theorem wf:isSubtype (.type "AttributeError") (.type "AttributeError")=pure true:=by rw [isSubtype_type];kernel_rfl
theorem raise_attr {α:Type}{o:Value}{name msg:Str}{Q:α→Shared→Prop}(hh:A.handled=none)(hm:msg.length≤sizeLine)
  (hq:∀h' tk' e,(∀b ob,s.heap.get? b=some ob→h'.get? b=some ob)→(∃oe,h'.get? e=some oe∧oe.cls= .type "AttributeError")→E (.ref e) {s with heap:=h',toks:=tk'}):
  wpAny (model prog w) A (raiseAttrError o name msg:Sem α) Q E s:=by
 unfold raiseAttrError
 refine wpAny_bind (wpAny_mkStr (wpAny_bind ?_) hm)
 unfold newExc newTuple
 refine wpAny_bind (wpAny_newObj_type ?_ (by show(1:Nat)≤sizeLine;rw [sizeLine_eq];decide))
 refine wpAny_bind (m:=firstArgMember _ _) (wpAny_of_eq (a:=Value.none) (by kernel_rfl) ?_)
 obtain⟨h1,hh1⟩:∃h1,h1=s.heap.push {cls:= .type "tuple",data:= .seq #[Value.str msg s.toks]}:=⟨_,rfl⟩
 have k1:∀b ob,s.heap.get? b=some ob→h1.get? b=some ob:=fun b ob e=>by rw [hh1];exact Heap.get?_push_of_some _ e
 show wpAny (model prog w) A (newObj (.type "AttributeError") (.fields #[.ref s.heap.objs.size,.none,.none,.none,.bool false,.none,unsetMember,unsetMember])) _ E {s with heap:=s.heap.push {cls:= .type "tuple",data:= .seq #[Value.str msg s.toks]},toks:=s.toks+1}
 rw [←hh1]
 refine wpAny_newObj_type ?_ (by unfold sizeOk;first|trivial|(rw [sizeLine_eq];simp)|decide)
 obtain⟨h2,hh2⟩:∃h2,h2=h1.push {cls:= .type "AttributeError",data:= .fields #[.ref s.heap.objs.size,.none,.none,.none,.bool false,.none,unsetMember,unsetMember]}:=⟨_,rfl⟩
 have k2:∀b ob,h1.get? b=some ob→h2.get? b=some ob:=fun b ob e=>by rw [hh2];exact Heap.get?_push_of_some _ e
 have e2:h2.get? h1.objs.size=some {cls:= .type "AttributeError",data:= .fields #[.ref s.heap.objs.size,.none,.none,.none,.bool false,.none,unsetMember,unsetMember]}:=by rw [hh2];exact Heap.get?_push_size _ rfl
 show wpAny (model prog w) A (do let x←mkText name;noteAttr (.ref h1.objs.size) o x;raiseNew (.ref h1.objs.size)) Q E {s with heap:=h1.push {cls:= .type "AttributeError",data:= .fields #[.ref s.heap.objs.size,.none,.none,.none,.bool false,.none,unsetMember,unsetMember]},toks:=s.toks+1}
 rw [←hh2]
 have ne:∀b ob,h1.get? b=some ob→b≠h1.objs.size:=fun b ob e=>Nat.ne_of_lt (Heap.lt_size e)
 generalize h1.objs.size=e at e2 ne⊢
 refine wpAny_bind (wpAny_mkText (wpAny_bind ?_))
 have hT:∀g d t os,(⟨h2,g,d,t,os⟩:Shared).TypeIs (.ref e) "AttributeError":=fun _ _ _ _=>⟨_,e2,rfl⟩
 unfold noteAttr lacksNameAndObj
 refine wpAny_bind (wpAny_bind (wpAny_isInstance (hT _ _ _ _) wf ?_))
 simp only [Bool.not_true,Bool.false_eq_true,if_false]
 refine wpAny_bind (wpAny_load e2 ?_)
 dsimp only
 rw [if_neg (by simp [unsetMember,rawInt]),if_neg (by simp [unsetMember,doubtfulMember,rawInt])]
 refine wpAny_pure ?_
 rw [if_pos rfl]
 refine wpAny_bind (wpAny_rule (wpAny_bind (wpAny_typeOf (hT _ _ _ _) ?_)))
 show wpAny (model prog w) A (layMembers e 6 #[Value.str name (s.toks+1),o]) _ E _
 unfold layMembers
 refine wpAny_bind (wpAny_load e2 ?_)
 dsimp only
 refine wpAny_update e2 ?_
 have e3:=Heap.get?_update_self (Obj.mapFields fun vs=>vs.extract 0 6++ #[Value.str name (s.toks+1),o]) e2 rfl
 have k3:∀b ob,b≠e→h2.get? b=some ob→(h2.update e (Obj.mapFields fun vs=>vs.extract 0 6++ #[Value.str name (s.toks+1),o])).get? b=some ob:=fun b ob hb q=>(Heap.get?_update_other _ _ (Ne.symm hb)).trans q
 exact wpAny_raiseNew_none hh (hq _ _ e (fun b ob q=>k3 b ob (ne b ob (k1 b ob q)) (k2 b ob (k1 b ob q))) ⟨_,e3,rfl⟩)
end
section
variable {prog:Program}{w:World}{A:Around}{E:Value→Shared→Prop}{h:Heap}{g:Array GenState}{d:Drawn}{t:Nat}{os:OsState}{a:Addr}{its:Array Value}{n:Nat}{sl:Array (Option Value)}
theorem nk_entry {tk:Tok}{Q:Fin→Shared→Prop}(hh:A.handled=none)(hx:h.get? a=some {cls:= .type "list",dict:=none,data:= .seq its n,slots:=sl})
  (hq:∀h' tk' e,(∀b ob,h.get? b=some ob→h'.get? b=some ob)→(∃oe,h'.get? e=some oe∧oe.cls= .type "AttributeError")→E (.ref e) ⟨h',g,d,tk',os⟩):
  wpAny (model prog w) A (Builtin.«object.__getattribute__» ⟨[.ref a,.str "keys" tk],[]⟩) Q E ⟨h,g,d,t,os⟩:=by
 have hT:(⟨h,g,d,t,os⟩:Shared).TypeIs (.ref a) "list":=⟨_,hx,rfl⟩
 have f4:=lk_keys
 repeat (any_goals (first|assumption|wp_step))
 exact raise_attr hh (by rw [sizeLine_eq];decide+kernel) hq
theorem nk_call {tk:Tok}{R:Result→Shared→Prop}(hh:A.handled=none)(hx:h.get? a=some {cls:= .type "list",dict:=none,data:= .seq its n,slots:=sl})
  (hq:∀h' tk' e,(∀b ob,h.get? b=some ob→h'.get? b=some ob)→(∃oe,h'.get? e=some oe∧oe.cls= .type "AttributeError")→R (.error (.ref e)) ⟨h',g,d,tk',os⟩):
  codeAny (model prog w) A (.call (.builtin "list.__getattribute__") ⟨[.ref a,.str "keys" tk],[]⟩) R ⟨h,g,d,t,os⟩:=
 codeAny_call_builtin F.slot_list_getattribute.plain F.entry_list_ga (F.slot_list_getattribute.check _ _ _ _ _ _ _ _ (show(⟨h,g,d,t,os⟩:Shared).TypeIs (.ref a) "list" from⟨_,hx,rfl⟩) (F.args_list_getattribute_2 _ _) (nk_entry hh hx hq))
theorem no_keys {Q:Option Value→Shared→Prop}(hh:A.handled=none)(hx:h.get? a=some {cls:= .type "list",dict:=none,data:= .seq its n,slots:=sl})
  (hq:∀h' tk',(∀b ob,h.get? b=some ob→h'.get? b=some ob)→Q none ⟨h',g,d,tk',os⟩):wpAny (model prog w) A (getAttr? (.ref a) "keys") Q E ⟨h,g,d,t,os⟩:=by
 have hT:∀t,(⟨h,g,d,t,os⟩:Shared).TypeIs (.ref a) "list":=fun t=>⟨_,hx,rfl⟩
 unfold getAttr? getAttrBy?
 refine wpAny_bind (wpAny_mkText (wpAny_bind (wpAny_attempt ?_)))
 unfold getAttrBy
 refine wpAny_holding (wpAny_bind (wpAny_typeOf (hT _) ?_))
 rw [F.slot_list_getattribute.lookup]
 refine wpAny_bind (wpAny_pure ?_)
 show wpAny (model prog w) A (getAttrByItsOwn (.ref a) _ (.type "list") (.builtin "list.__getattribute__") false false) _ _ _
 unfold getAttrByItsOwn
 refine wpAny_bind (m:=hookBefore _) (wpAny_pure ?_)
 refine wpAny_bind (wpAny_attempt (wpAny_holding ?_))
 show wpAny (model prog w) A (boundAndCalled (.builtin "list.__getattribute__") (.ref a) _) _ _ _
 unfold boundAndCalled
 rw [F.slot_list_getattribute.bind]
 refine wpAny_bind (wpAny_pure (wpAny_call (nk_call hh hx fun h' tk' e k ⟨oe,e1,e2⟩=> ?_)))
 have hE:∀t,(⟨h',g,d,t,os⟩:Shared).TypeIs (.ref e) "AttributeError":=fun t=>⟨_,e1,e2⟩
 show wpAny (model prog w) A (getattributeRaised (.ref a) _ (.type "list") (.ref e) none false false) _ _ ⟨h',g,d,tk',os⟩
 unfold getattributeRaised
 refine wpAny_bind (wpAny_isInstance (hE _) wf ?_)
 rw [if_pos rfl]
 have lg:hookBehind (.type "list") none=pure none:=by
  show typeLookup (.type "list") "__getattr__"=pure none
  rw [typeLookup_type,builtinLookup_eq_fast]
  kernel_rfl
 rw [lg]
 refine wpAny_bind (wpAny_pure ?_)
 show wpAny (model prog w) A (attributeErrorLeaves (.ref a) _ (.ref e) false false) _ _ _
 unfold attributeErrorLeaves
 refine wpAny_throw ?_
 refine wpAny_bind (wpAny_isInstance (hE _) wf ?_)
 rw [if_pos rfl]
 exact wpAny_pure (hq h' tk' k)
end
theorem Zm:entryFor table "dict.update.loop"=some Builtin.«dict.update.loop»:=entryFor_of_fast (by kernel_rfl)
theorem Jx:plainId "dict.update.loop"=true:=by decide+kernel
section
variable {prog:Program}{w:World}{A:Around}{E:Value→Shared→Prop}{K:Type}[DecidableEq K]{knd:KeyKind prog w K}
def addAll (cur:List (K×Value)):List (K×Value)→List (K×Value)
 | []=>cur
 |p::r=>addAll (stored cur p.1 p.2) r
structure PairAt (h:Heap)(d it:Addr)(v:Value)(p:K×Value):Prop where
 at_:∃(t:Addr) (o:Obj) (k:Value) (n:Nat),v= .ref t∧t≠d∧t≠it∧h.get? t=some o∧o.cls= .type "tuple"∧o.data= .seq #[k,p.2] n∧knd.is p.1 k=true
theorem pairs_loop (hh:A.handled=none){d it l:Addr}{items:Array Value}{ps:List (K×Value)}{R:Result→Shared→Prop}(hdl:d≠l)(hil:it≠l)(hdi:d≠it)(hn:items.size=ps.length)(hz:2*ps.length≤sizeLine)(res:Value):
  ∀(m i:Nat) (s:Shared) (cur:List (K×Value)),i+m=ps.length→s.heap.IsListIter it l i→s.heap.IsList l items→s.heap.DictOf knd d cur→cur.length≤i→
  (∀(j:Nat) (v:Value) (p:K×Value),items[j]? =some v→ps[j]? =some p→PairAt (knd:=knd) s.heap d it v p)→
  (∀h' tk',h'.DictOf knd d (addAll cur (ps.drop i))→(∀b o,b≠d→b≠it→s.heap.get? b=some o→h'.get? b=some o)→R (.ok (.ret res)) {s with heap:=h',toks:=tk'})→
  codeAny (model prog w) A (.builtin "dict.update.loop" ⟨[.ref d,.ref it,rawInt i,res],[]⟩) R s:=by
 intro m
 induction m with
 |zero=>
  intro i s cur hm hit hl hd hc hp hR
  refine codeAny_builtin Zm ?_
  rw [Around.under_plainId Jx _]
  show wpAny _ A.in1 (pyNext (.ref it)>>=_) _ _ s
  refine wpAny_bind (wpAny_pyNext_list_end (A:=A.in1) hh hit hl (by rw [Array.getElem?_eq_none (by omega)]) fun h' eb=> ?_)
  have hd':h'.DictOf knd d cur:=by
   obtain⟨o,es,ep,ho,r⟩:=hd
   exact⟨o,es,ep,eb d o hdi ho,r⟩
  have:=hR h' s.toks (by rw [List.drop_eq_nil_of_le (by omega)];exact hd') fun b o hb1 hb2 e=>eb b o hb2 e
  show wpAny (model prog w) A.in1 (Dict.addKeywords d []>>=fun _=>ret res) _ _ _
  refine wpAny_bind (m:=Dict.addKeywords d []) (wpAny_pure ?_)
  exact wpAny_pure this
 |succ m ih=>
  intro i s cur hm hit hl hd hc hp hR
  refine codeAny_builtin Zm ?_
  rw [Around.under_plainId Jx _]
  have hi:i<items.size:=by omega
  have hip:i<ps.length:=by omega
  have hx:items[i]? =some items[i]:=Array.getElem?_eq_getElem hi
  have hpx:ps[i]? =some ps[i]:=List.getElem?_eq_getElem hip
  obtain⟨t,o,k,n,ev,htd,hti,ho,hc1,hd1,hk⟩:=(hp i _ _ hx hpx).at_
  rw [ev] at hx
  show wpAny _ A.in1 (pyNext (.ref it)>>=_) _ _ s
  refine wpAny_bind (wpAny_pyNext_list_item (A:=A.in1) hit hl hx fun h1 hit1 sb1=> ?_)
  have ho1:h1.get? t=some o:=(sb1.2 t hti).trans ho
  have hT:(({s with heap:=h1}:Shared)).TypeIs (.ref t) "tuple":=⟨_,ho1,hc1⟩
  have hd1':h1.DictOf knd d cur:=hd.sameBut sb1 hdi
  dsimp only
  refine wpAny_bind (wpAny_holding (wpAny_bind (wpAny_tryCatch ?_)))
  unfold Dict.pairItems
  refine wpAny_bind (wpAny_typeOf hT ?_)
  rw [if_pos (by decide)]
  refine wpAny_bind ?_
  unfold seqItems?
  refine wpAny_bind (wpAny_load ho1 ?_)
  rw [hd1]
  refine wpAny_pure (wpAny_pure ?_)
  show wpAny (model prog w) A.in1 (holding [k,ps[i].2] (dictSet d k ps[i].2)) _ _ _
  refine wpAny_holding (wpAny_dictSet_pairs hk hd1' (fun h2 hd2 sb2=> ?_) (by omega))
  have hit2:h2.IsListIter it l (i+1):=by
   obtain⟨oi,e,c⟩:=hit1
   exact⟨oi,(sb2.2 it (Ne.symm hdi)).trans e,c⟩
  have keep:∀b ob,b≠d→b≠it→s.heap.get? b=some ob→h2.get? b=some ob:=fun b ob hb1 hb2 e=>(sb2.2 b hb1).trans ((sb1.2 b hb2).trans e)
  have hl2:h2.IsList l items:=by
   obtain⟨ol,e,c⟩:=hl
   exact⟨ol,keep l ol (Ne.symm hdl) (Ne.symm hil) e,c⟩
  refine wpAny_pure ⟨plainId_quiet Jx _,?_⟩
  have hlen:(stored cur ps[i].1 ps[i].2).length≤i+1:=by
   unfold stored
   split
   ·rw [List.length_map];omega
   ·rw [List.length_append];show cur.length+1≤i+1;omega
  refine ih (i+1) _ _ (by omega) hit2 hl2 hd2 hlen (fun j v p h1 h2=> ?_) fun h' tk' hd' kp=> ?_
  ·obtain⟨t',o',k',n',e1,e2,e3,e4,e5⟩:=(hp j v p h1 h2).at_
   exact⟨⟨t',o',k',n',e1,e2,e3,keep t' o' e2 e3 e4,e5⟩⟩
  ·refine hR h' tk' ?_ fun b ob hb1 hb2 e=>kp b ob hb1 hb2 (keep b ob hb1 hb2 e)
   rw [List.drop_eq_getElem_cons hip]
   exact hd'
theorem dict_pairs (hh:A.handled=none){s:Shared}{l:Addr}{items:Array Value}{n:Nat}{sl:Array (Option Value)}{ps:List (K×Value)}{Q:Value→Shared→Prop}(hl:s.heap.get? l=some {cls:= .type "list",dict:=none,data:= .seq items n,slots:=sl})(hn:items.size=ps.length)(hz:2*ps.length≤sizeLine)
  (hp:∀(j:Nat) (v:Value) (p:K×Value),items[j]? =some v→ps[j]? =some p→∃(t:Addr) (o:Obj) (k:Value) (n:Nat),v= .ref t∧s.heap.get? t=some o∧o.cls= .type "tuple"∧o.data= .seq #[k,p.2] n∧knd.is p.1 k=true)
  (hQ:∀h' tk',h'.DictOf knd s.heap.objs.size (addAll [] ps)→(∀b o,s.heap.get? b=some o→h'.get? b=some o)→Q (.ref s.heap.objs.size) {s with heap:=h',toks:=tk'}):
  wpAny (model prog w) A (call (.type "dict") [.ref l]) Q E s:=by
 refine callType_codes (Q₁:=fun obj s₁=>obj= .ref s.heap.objs.size∧s₁={s with heap:=s.heap.push {cls:= .type "dict",data:= .dict #[]}}) F.kt_called_dict (F.kt_typeCall_dict_1 _) F.entry_dict_init (kt_code_dict_new _ ⟨rfl,rfl⟩) ?_
 rintro obj s₁ ⟨rfl,rfl⟩
 have hnew:(s.heap.push {cls:= .type "dict",data:= .dict #[]}).DictOf knd s.heap.objs.size []:=Heap.DictOf.new s.heap
 refine⟨hnew.typeIs,F.args_dict_init_2 _ _,?_⟩
 unfold Builtin.«dict.__init__»
 refine wpAny_bind ?_
 unfold Builtin.Dict.selfAndRest
 refine wpAny_bind (wpAny_notOrdered_dict hnew.typeIs ?_)
 refine(show wpAny _ _ (pure (s.heap.objs.size,[Value.ref l])) _ _ _ from ?_)
 refine wpAny_pure ?_
 refine(show wpAny _ _ (Builtin.Dict.updateFrom "dict.__init__" s.heap.objs.size (.ref l) [] .none) _ _ _ from ?_)
 unfold Builtin.Dict.updateFrom
 have hl1:(s.heap.push {cls:= .type "dict",data:= .dict #[]}).get? l=some {cls:= .type "list",dict:=none,data:= .seq items n,slots:=sl}:=Heap.get?_push_of_some _ hl
 refine wpAny_bind (wpAny_typeOf (T:="list") ⟨_,hl1,rfl⟩ ?_)
 rw [if_pos (by decide)]
 refine wpAny_bind (no_keys (A:=A.in1.in1) hh hl1 fun h2 tk2 k2=> ?_)
 rw [if_pos (show(none:Option Value).isNone=true from rfl)]
 have hlt:l<s.heap.objs.size:=Heap.lt_size hl
 have hl2:h2.IsList l items:=⟨_,k2 _ _ hl1,rfl,n,rfl⟩
 refine wpAny_bind (wpAny_rule (wpAny_bind (wpAny_pyIter_list hl2 ?_)))
 have hd2:h2.DictOf knd s.heap.objs.size []:=by
  obtain⟨o,es,ep,ho,r⟩:=hnew
  exact⟨o,es,ep,k2 _ _ ho,r⟩
 have hdlt:s.heap.objs.size<h2.objs.size:=by
  obtain⟨o,es,ep,ho,r⟩:=hd2
  exact Heap.lt_size ho
 have k1:∀b o,s.heap.get? b=some o→h2.get? b=some o:=fun b o e=>k2 b o (Heap.get?_push_of_some _ e)
 have k3:∀b o,h2.get? b=some o→(h2.push {cls:= .type "list_iterator",data:= .fields #[.ref l,.int 0 0]}).get? b=some o:=fun b o e=>Heap.get?_push_of_some _ e
 have hl3:(h2.push {cls:= .type "list_iterator",data:= .fields #[.ref l,.int 0 0]}).IsList l items:=⟨_,k3 _ _ (k2 _ _ hl1),rfl,n,rfl⟩
 have hd3:(h2.push {cls:= .type "list_iterator",data:= .fields #[.ref l,.int 0 0]}).DictOf knd s.heap.objs.size []:=hd2.push _
 refine wpAny_pure ⟨plainId_quiet Jx _,pairs_loop (A:=A.in1) hh (d:=s.heap.objs.size) (it:=h2.objs.size) (l:=l) (items:=items) (ps:=ps) (Nat.ne_of_gt hlt) (Nat.ne_of_gt (Nat.lt_trans hlt hdlt)) (Nat.ne_of_lt hdlt) hn hz .none ps.length 0 _ [] (by omega) ⟨_,Heap.get?_push_size _ rfl,rfl,rfl⟩ hl3 hd3 (Nat.le_refl _) (fun j v p h1 h2'=> ?_) fun h' tk' hd' kp=> ?_⟩
 ·obtain⟨t,o,k,n',e1,e2,e3,e4,e5⟩:=hp j v p h1 h2'
  have ht:=Heap.lt_size e2
  exact⟨⟨t,o,k,n',e1,Nat.ne_of_lt ht,Nat.ne_of_lt (Nat.lt_trans ht hdlt),k3 _ _ (k1 _ _ e2),e3,e4,e5⟩⟩
 ·refine⟨rfl,hQ h' tk' hd' fun b o e=> ?_⟩
  have hb:=Heap.lt_size e
  exact kp b o (Nat.ne_of_lt hb) (Nat.ne_of_lt (Nat.lt_trans hb hdlt)) (k3 _ _ (k1 _ _ e))
end
end PySem.AwK
namespace L2
open PySem PySem.Spec PyProof.Rows
section
variable {X:Cx}
def inrK (ps:List (Str×V)):List (Key×V):=ps.map fun p=>(Sum.inr p.1,p.2)
theorem inrK_keys (ps:List (Str×V)):(inrK ps).map (·.1)=(ps.map (·.1)).map Sum.inr:=by
 unfold inrK
 rw [List.map_map,List.map_map]
 rfl
theorem stored_new {kvs:List (Key×Value)}{k:Key}{v:Value}(h:k∉kvs.map (·.1)):stored kvs k v=kvs++ [(k,v)]:=by
 unfold stored
 rw [if_neg]
 intro q
 obtain⟨p,hp,e⟩:=List.any_eq_true.mp q
 exact h (List.mem_map.mpr ⟨p,hp,of_decide_eq_true e⟩)
theorem ZA:∀{ps cur:List (Key×Value)},((cur++ps).map (·.1)).Nodup→AwK.addAll cur ps=cur++ps
 | [],cur,_=>(List.append_nil cur).symm
 |p::r,cur,h=>by
  unfold AwK.addAll
  have hk:p.1∉cur.map (·.1):=by
   rw [List.map_append,List.map_cons] at h
   intro q
   exact(List.nodup_append.mp h).2.2 _ q _ List.mem_cons_self rfl
  rw [stored_new hk,ZA (by rw [List.append_assoc];exact h),List.append_assoc]
  rfl
theorem pairs_are {P:Program}{w:World}{H:Hp}{h:Heap}(ok:HOk P w H h):∀{ts:List Addr}{ps:List (Str×V)},ts.length=ps.length→(∀(i:Nat) (t:Addr) (p:Str×V),ts[i]? =some t→ps[i]? =some p→H t=some (.tup [.str p.1,p.2]))→
  ∃pv:List (Key×Value),KV (inrK ps) pv∧∀(j:Nat) (v:Value) (p:Key×Value),(ts.map Value.ref)[j]? =some v→pv[j]? =some p→∃(t:Addr) (o:Obj) (k:Value) (n:Nat),v= .ref t∧h.get? t=some o∧o.cls= .type "tuple"∧o.data= .seq #[k,p.2] n∧(yl P w).is p.1 k=true
 | [],[],_,_=>⟨[],.nil,fun j v p e=>by simp at e⟩
 |t::ts,p::ps,hl,hp=>by
  obtain⟨pv,h1,h2⟩:=pairs_are ok (ts:=ts) (ps:=ps) (by simpa using hl) fun i t' p' e1 e2=>hp (i+1) t' p' (by simpa using e1) (by simpa using e2)
  obtain⟨_,its,rv,o,ho,hc,n,hd⟩:=(show y3 P w H h t (.tup [.str p.1,p.2]) from ok t _ (hp 0 t p rfl rfl))
  cases rv with
  |cons r1 rv=>
  cases rv with
  |cons r2 rv=>
  cases rv with
  |nil=>
  obtain⟨tk,rfl⟩:=r1
  rename_i u
  refine⟨(Sum.inr p.1,u)::pv,.cons ⟨rfl,r2⟩ h1,fun j v q e1 e2=> ?_⟩
  cases j with
  |zero=>
   simp only [List.map_cons,List.getElem?_cons_zero,Option.some.injEq] at e1 e2
   subst e1 e2
   exact⟨t,o,_,n,rfl,ho,hc,hd,zk _ _ _ _⟩
  |succ j=>exact h2 j v q (by simpa using e1) (by simpa using e2)
 | [],_::_,hl,_=>by simp at hl
 |_::_,[],hl,_=>by simp at hl
def PairsL (H:Hp)(l:Addr)(ps:List (Str×V)):Prop:=∃ts:List Addr,H l=some (.lst (ts.map V.ref))∧ts.length=ps.length∧∀(i:Nat) (t:Addr) (p:Str×V),ts[i]? =some t→ps[i]? =some p→H t=some (.tup [.str p.1,p.2])
theorem dict_of {pins:List (Addr×Obj)}{σ:St}{H:Hp}{s:Shared}{l:Addr}{ps:List (Str×V)}{Q:Value→Shared→Prop}(hc:X.calm=true)(I:Inv X pins σ H s)(hl:PairsL H l ps)(hn:(ps.map (·.1)).Nodup)(hz:ps.length≤1000)
  (h:∀h' tk' pv,0<tk'→(∀b o,s.heap.get? b=some o→h'.get? b=some o)→KV (inrK ps) pv→h'.DictOf (yl X.prog X.w) s.heap.objs.size pv→Q (.ref s.heap.objs.size) {s with heap:=h',toks:=tk'}):
  wpAny (model X.prog X.w) X.A (call (.type "dict") [.ref l]) Q X.xe s:=by
 obtain⟨ts,e1,e2,e3⟩:=hl
 obtain⟨_,its,n,rv,ho⟩:=(show y3 X.prog X.w H s.heap l (.lst (ts.map V.ref)) from I.hok l _ e1)
 cases vals_refs rv
 obtain⟨pv,r,hp⟩:=pairs_are I.hok e2 e3
 have hpl:pv.length=ps.length:=by
  rw [←r.length]
  unfold inrK
  rw [List.length_map]
 have hnd:(pv.map (·.1)).Nodup:=by
  rw [←r.keys,inrK_keys]
  exact List.Pairwise.map _ (fun a b hab e=>hab (Sum.inr.inj e)) hn
 refine wpAny_with_toks (n:=1) I.tk ?_
 refine AwK.dict_pairs (knd:=yl X.prog X.w) (I.ok.hd hc) (ps:=pv) ho (by rw [List.size_toArray,List.length_map];omega) (by rw [sizeLine_eq];omega) (fun j v p h1 h2=>hp j v p (by simpa using h1) h2) fun h' tk' hd' kp=> ?_
 rw [ZA (by simpa using hnd),List.nil_append] at hd'
 exact fun htk=>h h' tk' pv htk kp r hd'
theorem call_dictP (hc:X.calm=true):jR X (.type "dict") (fun xs H Q=>∃(l:Addr) (ps:List (Str×V)),xs= [.ref l]∧PairsL H l ps∧(ps.map (·.1)).Nodup∧ps.length≤1000∧∀q,H q=none→Q (.ref q) (upd H q (.dK (inrK ps)))):=by
 intro pins s σ H xs us Q I r h
 obtain⟨l,ps,rfl,hl,hn,hz,q⟩:=h
 obtain⟨u,rfl,ru⟩:=xj r
 cases ru
 refine dict_of hc I hl hn hz fun h' tk' pv htk kp rel dd=> ?_
 have hlo:(s.heap.objs.size==sysModules)=false:=by
  rw [beq_eq_false_iff_ne]
  exact Nat.ne_of_gt I.big
 have hz':(inrK ps).length≤sizeLine:=by unfold inrK;rw [List.length_map,sizeLine_eq];omega
 exact⟨.ref s.heap.objs.size,_,I.laid kp (Nat.le_refl _) (dk_new hz' hlo rel dd),rfl,q _ I.fresh⟩
end
end L2
namespace AwQ
open PySem PySem.SeqAt
open PySem.AutoSeq1 (wpAny_loadPart')
open PySem.MeetsSeq PySem.MeetsSeq2 PySem.MeetsSeq3
end AwQ
namespace L2
open PySem PySem.Spec PyProof.Rows
mutual
def puD:D→Bool
 | .str _=>true
 | .int _=>true
 | .tup xs=>puL xs
 |_=>false
def puL:List D→Bool
 | []=>true
 |x::r=>puD x&&puL r
end
mutual
def eqD:D→D→Bool
 | .str a,.str b=>a==b
 | .int a,.int b=>a==b
 | .tup xs,.tup ys=>eqL xs ys
 |_,_=>false
def eqL:List D→List D→Bool
 | [],[]=>true
 |x::r,y::q=>eqD x y&&eqL r q
 |_,_=>false
end
mutual
theorem eqD_iff:∀{d e:D},puD d=true→(eqD d e=true↔d=e)
 | .str a,e,_=>by cases e<;>simp [eqD]
 | .int a,e,_=>by cases e<;>simp [eqD]
 | .tup xs,.tup ys,h=>by
  have:=eqL_iff (xs:=xs) (ys:=ys) (by simpa [puD] using h)
  simp only [eqD,this,D.tup.injEq]
 | .tup xs,.non,_=>by simp [eqD]
 | .tup xs,.bl _,_=>by simp [eqD]
 | .tup xs,.int _,_=>by simp [eqD]
 | .tup xs,.str _,_=>by simp [eqD]
 | .tup xs,.lst,_=>by simp [eqD]
 | .tup xs,.dct,_=>by simp [eqD]
 | .non,_,h=>by simp [puD] at h
 | .bl _,_,h=>by simp [puD] at h
 | .lst,_,h=>by simp [puD] at h
 | .dct,_,h=>by simp [puD] at h
theorem eqL_iff:∀{xs ys:List D},puL xs=true→(eqL xs ys=true↔xs=ys)
 | [],[],_=>by simp [eqL]
 | [],_::_,_=>by simp [eqL]
 |_::_,[],_=>by simp [eqL]
 |x::r,y::q,h=>by
  have h':puD x=true∧puL r=true:=by simpa [puL] using h
  simp only [eqL,Bool.and_eq_true,eqD_iff h'.1,eqL_iff h'.2,List.cons.injEq]
end
mutual
theorem Is.det {H:Hp}:∀{d e:D}{v:V},puD d=true→puD e=true→Is H d v→Is H e v→d=e
 | .str a,e,v,_,he,h1,h2=>by
  obtain⟨rfl,_⟩:=(show v= .str a∧_ from h1)
  cases e with
  |str b=>obtain⟨q,_⟩:=(show V.str a=V.str b∧_ from h2);cases q;rfl
  |int b=>cases(show V.str a=V.int b from h2)
  |tup ys=>obtain⟨p,us,q,_⟩:=(show∃p us,V.str a=V.ref p∧_ from h2);cases q
  |_=>simp [puD] at he
 | .int a,e,v,_,he,h1,h2=>by
  cases(show v= .int a from h1)
  cases e with
  |str b=>obtain⟨q,_⟩:=(show V.int a=V.str b∧_ from h2);cases q
  |int b=>cases(show V.int a=V.int b from h2);rfl
  |tup ys=>obtain⟨p,us,q,_⟩:=(show∃p us,V.int a=V.ref p∧_ from h2);cases q
  |_=>simp [puD] at he
 | .tup xs,e,v,hd,he,h1,h2=>by
  obtain⟨p,vs,rfl,hp,hl⟩:=(show∃p vs,v=V.ref p∧H p=some (.tup vs)∧IsL H xs vs from h1)
  cases e with
  |str b=>obtain⟨q,_⟩:=(show V.ref p=V.str b∧_ from h2);cases q
  |int b=>cases(show V.ref p=V.int b from h2)
  |tup ys=>
   obtain⟨p',us,q,hp',hl'⟩:=(show∃p' us,V.ref p=V.ref p'∧H p'=some (.tup us)∧IsL H ys us from h2)
   cases q
   rw [hp] at hp'
   cases hp'
   rw [IsL.det (by simpa [puD] using hd) (by simpa [puD] using he) hl hl']
  |_=>simp [puD] at he
 | .non,_,_,hd,_,_,_=>by simp [puD] at hd
 | .bl _,_,_,hd,_,_,_=>by simp [puD] at hd
 | .lst,_,_,hd,_,_,_=>by simp [puD] at hd
 | .dct,_,_,hd,_,_,_=>by simp [puD] at hd
theorem IsL.det {H:Hp}:∀{xs ys:List D}{vs:List V},puL xs=true→puL ys=true→IsL H xs vs→IsL H ys vs→xs=ys
 | [],[],_,_,_,_,_=>rfl
 | [],_::_,_,_,_,h1,h2=>by
  cases(show _= [] from h1)
  obtain⟨v,r,q,_⟩:=(show∃v r,[]=v::r∧_ from h2)
  cases q
 |_::_,[],_,_,_,h1,h2=>by
  cases(show _= [] from h2)
  obtain⟨v,r,q,_⟩:=(show∃v r,[]=v::r∧_ from h1)
  cases q
 |x::xs,y::ys,_,hd,he,h1,h2=>by
  obtain⟨v,r,rfl,a1,a2⟩:=h1
  obtain⟨v',r',q,b1,b2⟩:=h2
  cases q
  have hd':puD x=true∧puL xs=true:=by simpa [puL] using hd
  have he':puD y=true∧puL ys=true:=by simpa [puL] using he
  rw [Is.det hd'.1 he'.1 a1 b1,IsL.det hd'.2 he'.2 a2 b2]
end
theorem eqL_all:∀(xs ys:List D),eqL xs ys=((List.range (min xs.length ys.length)).all (fun j=>eqD (xs.getD j .non) (ys.getD j .non))&&xs.length==ys.length)
 | [],[]=>by simp [eqL]
 | [],_::_=>by simp [eqL]
 |_::_,[]=>by simp [eqL]
 |x::r,y::q=>by
  have ih:=eqL_all r q
  rw [List.length_cons,List.length_cons,show min (r.length+1) (q.length+1)=min r.length q.length+1 by omega,List.range_succ_eq_map,List.all_cons,List.all_map]
  have e:(List.range (min r.length q.length)).all ((fun j=>eqD ((x::r).getD j .non) ((y::q).getD j .non))∘Nat.succ)=(List.range (min r.length q.length)).all fun j=>eqD (r.getD j .non) (q.getD j .non):=by congr 1
  rw [e]
  have e2:(r.length+1==q.length+1)=(r.length==q.length):=by rw [Bool.eq_iff_iff];simp
  rw [e2,Bool.and_assoc,←ih]
  rfl
end L2
namespace L2
open PySem PySem.Spec PyProof.Rows
section
variable {X:Cx}{pins:List (Addr×Obj)}{σ:St}{H:Hp}{s:Shared}
theorem eqAt_str (I:Inv X pins σ H s){z:Str}{t:Tok}{e:D}{u:V}{b:Value}{A:Around}(he:puD e=true)(h2:Is H e u)(r2:RelV u b)(hu:A.units<cLine):SeqAt.EqAt A s (.str z t) b (eqD (.str z) e):=by
 cases e with
 |str y=>
  obtain⟨rfl,_⟩:=(show u= .str y∧_ from h2)
  obtain⟨t2,rfl⟩:=r2
  exact SeqAt.EqAt.str_str _ _ _ _
 |int y=>
  cases(show u= .int y from h2)
  obtain⟨t2,rfl⟩:=r2
  exact SeqAt.EqAt.str_int _ _ _ _
 |tup ys=>
  obtain⟨p,us,rfl,hp,hl⟩:=(show∃p us,u=V.ref p∧H p=some (.tup us)∧IsL H ys us from h2)
  cases r2
  obtain⟨its,_,q,_⟩:=I.tuple (.inl (.of hp))
  exact SeqAt.EqAt.str_tuple _ _ q hu
 |_=>simp [puD] at he
theorem eqAt_int (I:Inv X pins σ H s){z:Int}{t:Tok}{e:D}{u:V}{b:Value}{A:Around}(he:puD e=true)(h2:Is H e u)(r2:RelV u b)(hu:A.units<cLine):SeqAt.EqAt A s (.int z t) b (eqD (.int z) e):=by
 cases e with
 |str y=>
  obtain⟨rfl,_⟩:=(show u= .str y∧_ from h2)
  obtain⟨t2,rfl⟩:=r2
  exact SeqAt.EqAt.int_str _ _ _ _
 |int y=>
  cases(show u= .int y from h2)
  obtain⟨t2,rfl⟩:=r2
  exact SeqAt.EqAt.int_int _ _ _ _
 |tup ys=>
  obtain⟨p,us,rfl,hp,hl⟩:=(show∃p us,u=V.ref p∧H p=some (.tup us)∧IsL H ys us from h2)
  cases r2
  obtain⟨its,_,q,_⟩:=I.tuple (.inl (.of hp))
  exact SeqAt.EqAt.int_tuple _ _ q hu
 |_=>simp [puD] at he
theorem zP:∀{xs:List D}{j:Nat}{x:D},puL xs=true→xs[j]? =some x→puD x=true
 | [],_,_,_,e=>by simp at e
 |y::r,0,x,h,e=>by
  have h':puD y=true∧puL r=true:=by simpa [puL] using h
  have:y=x:=by simpa using e
  exact this▸h'.1
 |y::r,j+1,x,h,e=>by
  have h':puD y=true∧puL r=true:=by simpa [puL] using h
  exact zP h'.2 (by simpa using e)
theorem eqAt_tup (I:Inv X pins σ H s){xs:List D}{e:D}{v u:V}{a b:Value}{A:Around}(hd:puD (.tup xs)=true)(he:puD e=true)(h1:Is H (.tup xs) v)(h2:Is H e u)(r1:RelV v a)(r2:RelV u b)(hu:A.units<cLine)
  (ih:∀x∈xs,∀(e:D) (v u:V) (a b:Value),puD x=true→puD e=true→Is H x v→Is H e u→RelV v a→RelV u b→SeqAt.EqAt A.in1 s a b (eqD x e)):SeqAt.EqAt A s a b (eqD (.tup xs) e):=by
 obtain⟨p,vs,rfl,hp,hl⟩:=(show∃p vs,v=V.ref p∧H p=some (.tup vs)∧IsL H xs vs from h1)
 cases r1
 obtain⟨its,rv,q,_⟩:=I.tuple (.inl (.of hp))
 cases e with
 |str y=>
  obtain⟨rfl,_⟩:=(show u= .str y∧_ from h2)
  obtain⟨t2,rfl⟩:=r2
  exact SeqAt.EqAt.tuple_str _ _ q hu
 |int y=>
  cases(show u= .int y from h2)
  obtain⟨t2,rfl⟩:=r2
  exact SeqAt.EqAt.tuple_int _ _ q hu
 |tup ys=>
  by_cases hv:V.ref p=u
  ·have:=Is.det (e:= .tup ys) hd he h1 (hv▸h2)
   subst hv
   cases r2
   rw [←this,(eqD_iff hd).mpr rfl]
   exact SeqAt.EqAt.same _
  ·obtain⟨p',us,rfl,hp',hl'⟩:=(show∃p' us,u=V.ref p'∧H p'=some (.tup us)∧IsL H ys us from h2)
   cases r2
   obtain⟨its',rv',q',_⟩:=I.tuple (.inl (.of hp'))
   have l1:its.length=xs.length:=by rw [←rv.length,hl.length]
   have l2:its'.length=ys.length:=by rw [←rv'.length,hl'.length]
   have hd':puL xs=true:=by simpa [puD] using hd
   have he':puL ys=true:=by simpa [puD] using he
   have key:=SeqAt.RcAt.tuples (e:=fun j=>eqD (xs.getD j .non) (ys.getD j .non)) q q' hu fun j a1 a2=>by
    have j1:j<xs.length:=by rw [←l1];simpa using a1
    have j2:j<ys.length:=by rw [←l2];simpa using a2
    obtain⟨v1,e1,i1⟩:=hl.get (i:=j) (d:=xs[j]) (by simp [j1])
    obtain⟨v2,e2,i2⟩:=hl'.get (i:=j) (d:=ys[j]) (by simp [j2])
    obtain⟨b1,f1,g1⟩:=rv.get e1
    obtain⟨b2,f2,g2⟩:=rv'.get e2
    have k1:its.toArray[j]=b1:=by
     have:=f1
     rw [List.getElem?_eq_getElem (by rw [l1];exact j1)] at this
     simpa using this
    have k2:its'.toArray[j]=b2:=by
     have:=f2
     rw [List.getElem?_eq_getElem (by rw [l2];exact j2)] at this
     simpa using this
    have d1:xs.getD j .non=xs[j]:=by simp [List.getD,j1]
    have d2:ys.getD j .non=ys[j]:=by simp [List.getD,j2]
    show SeqAt.EqAt _ s _ _ (eqD (xs.getD j .non) (ys.getD j .non))
    rw [k1,k2,d1,d2]
    exact ih _ (List.getElem_mem j1) _ _ _ _ _ (zP (j:=j) hd' (by simp [j1])) (zP (j:=j) he' (by simp [j2])) i1 i2 g1 g2
   have e1:eqD (.tup xs) (.tup ys)=((List.range (min its.toArray.size its'.toArray.size)).all (fun j=>eqD (xs.getD j .non) (ys.getD j .non))&&its.toArray.size==its'.toArray.size):=by
    rw [List.size_toArray,List.size_toArray,l1,l2,←eqL_all]
    simp only [eqD]
   rw [e1]
   exact SeqAt.EqAt.of_refs (fun z=>hv (by rw [z])) key
 |_=>simp [puD] at he
theorem eqAt_D (I:Inv X pins σ H s):∀(n:Nat) (d e:D) (v u:V) (a b:Value) (A:Around),dp d≤n→puD d=true→puD e=true→Is H d v→Is H e u→RelV v a→RelV u b→A.units+n<cLine→SeqAt.EqAt A s a b (eqD d e):=by
 intro n
 induction n with
 |zero=>
  intro d e v u a b A hn hd he h1 h2 r1 r2 hu
  cases d with
  |int z=>
   cases(show v= .int z from h1)
   obtain⟨t,rfl⟩:=r1
   exact eqAt_int I he h2 r2 hu
  |str z=>simp [dp] at hn
  |tup xs=>simp [dp] at hn
  |_=>simp [puD] at hd
 |succ n ih=>
  intro d e v u a b A hn hd he h1 h2 r1 r2 hu
  have hu0:A.units<cLine:=Nat.lt_of_le_of_lt (Nat.le_add_right _ _) hu
  cases d with
  |int z=>
   cases(show v= .int z from h1)
   obtain⟨t,rfl⟩:=r1
   exact eqAt_int I he h2 r2 hu0
  |str z=>
   obtain⟨rfl,_⟩:=(show v= .str z∧_ from h1)
   obtain⟨t,rfl⟩:=r1
   exact eqAt_str I he h2 r2 hu0
  |tup xs=>
   have hm:dpL xs≤n:=by
    have:dp (.tup xs)=1+dpL xs:=by simp only [dp]
    omega
   exact eqAt_tup I hd he h1 h2 r1 r2 hu0 fun x hx e v u a b k1 k2 k3 k4 k5 k6=>ih x e v u a b A.in1 ((Xq xs).mp hm x hx) k1 k2 k3 k4 k5 k6 (by rw [Around.in1_units];omega)
  |_=>simp [puD] at hd
end
end L2
namespace L2
open PySem PySem.Spec PyProof.Rows
section
variable {X:Cx}{pins:List (Addr×Obj)}{σ:St}{H:Hp}{s:Shared}
end
section
variable {X:Cx}
end
end L2
namespace L2
open PySem PySem.Spec PyProof.Rows
section
variable {X:Cx}
def trD:D→Bool
 | .str _=>true
 | .tup xs=>puL xs
 |_=>false
theorem parts_eq {pins:List (Addr×Obj)}{σ:St}{H:Hp}{s:Shared}(I:Inv X pins σ H s){A:Around}{n:Nat}{xs ys:List D}{vs us:List V}{its its':List Value}(hn:dpL xs≤n)(hd:puL xs=true)(he:puL ys=true)(hl:IsL H xs vs)(hl':IsL H ys us)(rv:Vals vs its)(rv':Vals us its')(hu:A.units+n<cLine):
  ∀j (a1:j<its.toArray.size) (a2:j<its'.toArray.size),SeqAt.EqAt A s its.toArray[j] its'.toArray[j] (eqD (xs.getD j .non) (ys.getD j .non)):=fun j a1 a2=>by
 have l1:its.length=xs.length:=by rw [←rv.length,hl.length]
 have l2:its'.length=ys.length:=by rw [←rv'.length,hl'.length]
 have j1:j<xs.length:=by rw [←l1];simpa using a1
 have j2:j<ys.length:=by rw [←l2];simpa using a2
 obtain⟨v1,e1,i1⟩:=hl.get (i:=j) (d:=xs[j]) (by simp [j1])
 obtain⟨v2,e2,i2⟩:=hl'.get (i:=j) (d:=ys[j]) (by simp [j2])
 obtain⟨b1,f1,g1⟩:=rv.get e1
 obtain⟨b2,f2,g2⟩:=rv'.get e2
 have k1:its.toArray[j]=b1:=by
  have:=f1
  rw [List.getElem?_eq_getElem (by rw [l1];exact j1)] at this
  simpa using this
 have k2:its'.toArray[j]=b2:=by
  have:=f2
  rw [List.getElem?_eq_getElem (by rw [l2];exact j2)] at this
  simpa using this
 have d1:xs.getD j .non=xs[j]:=by simp [List.getD,j1]
 have d2:ys.getD j .non=ys[j]:=by simp [List.getD,j2]
 rw [k1,k2,d1,d2]
 exact eqAt_D I n _ _ _ _ _ _ A ((Xq xs).mp hn _ (List.getElem_mem j1)) (zP (j:=j) hd (by simp [j1])) (zP (j:=j) he (by simp [j2])) i1 i2 g1 g2 hu
theorem rc_D {pins:List (Addr×Obj)}{σ:St}{H:Hp}{s:Shared}(I:Inv X pins σ H s){A:Around}{d e:D}{x y:V}{v u:Value}(h1:Is H d x)(h2:Is H e y)(p1:trD d=true)(p2:trD e=true)(hn:dp d≤60)(rx:RelV x v)(ry:RelV y u)(hu:A.units+64<cLine):
  SeqAt.RcAt A s v u (eqD d e)∧SeqAt.RcNeAt A s v u (!eqD d e):=by
 have hu0:A.units<cLine:=by omega
 cases d with
 |str z=>
  obtain⟨rfl,_⟩:=(show x= .str z∧_ from h1)
  obtain⟨t,rfl⟩:=rx
  cases e with
  |str w=>
   obtain⟨rfl,_⟩:=(show y= .str w∧_ from h2)
   obtain⟨t2,rfl⟩:=ry
   exact⟨SeqAt.RcAt.str_str _ _ _ _,SeqAt.RcNeAt.str_str _ _ _ _⟩
  |tup ys=>
   obtain⟨p,us,rfl,hp,hl⟩:=(show∃p us,y=V.ref p∧H p=some (.tup us)∧IsL H ys us from h2)
   cases ry
   obtain⟨its,_,q,_⟩:=I.tuple (.inl (.of hp))
   exact⟨SeqAt.RcAt.str_tuple _ _ q hu0,SeqAt.RcNeAt.str_tuple _ _ q hu0⟩
  |_=>simp [trD] at p2
 |tup xs=>
  obtain⟨p,vs,rfl,hp,hl⟩:=(show∃p vs,x=V.ref p∧H p=some (.tup vs)∧IsL H xs vs from h1)
  cases rx
  obtain⟨its,rv,q,_⟩:=I.tuple (.inl (.of hp))
  cases e with
  |str w=>
   obtain⟨rfl,_⟩:=(show y= .str w∧_ from h2)
   obtain⟨t2,rfl⟩:=ry
   exact⟨SeqAt.RcAt.tuple_str _ _ q hu0,SeqAt.RcNeAt.tuple_str _ _ q hu0⟩
  |tup ys=>
   obtain⟨p',us,rfl,hp',hl'⟩:=(show∃p' us,y=V.ref p'∧H p'=some (.tup us)∧IsL H ys us from h2)
   cases ry
   obtain⟨its',rv',q',_⟩:=I.tuple (.inl (.of hp'))
   have hm:dpL xs≤60:=by
    have:dp (.tup xs)=1+dpL xs:=by simp only [dp]
    omega
   have l1:its.length=xs.length:=by rw [←rv.length,hl.length]
   have l2:its'.length=ys.length:=by rw [←rv'.length,hl'.length]
   have pe:=parts_eq I (A:=A.in1) hm (by simpa [trD] using p1) (by simpa [trD] using p2) hl hl' rv rv' (by rw [Around.in1_units];omega)
   have e1:eqD (.tup xs) (.tup ys)=((List.range (min its.toArray.size its'.toArray.size)).all (fun j=>eqD (xs.getD j .non) (ys.getD j .non))&&its.toArray.size==its'.toArray.size):=by
    rw [List.size_toArray,List.size_toArray,l1,l2,←eqL_all]
    simp only [eqD]
   rw [e1]
   exact⟨SeqAt.RcAt.tuples q q' hu0 pe,SeqAt.RcNeAt.tuples q q' hu0 pe⟩
  |_=>simp [trD] at p2
 |_=>simp [trD] at p1
def rCmpD (g:Bool→Bool):V→V→Hp→VK→Prop:=fun x y H Q=>∃d e:D,Is H d x∧Is H e y∧trD d=true∧trD e=true∧dp d≤60∧Q (.bl (g (eqD d e))) H
theorem op_eqD (hu:X.A.units+64<cLine):OpR X (compareOp .Eq) (rCmpD id):=by
 intro pins s σ H x y v u Q I rx ry h
 obtain⟨d,e,h1,h2,p1,p2,hn,q⟩:=h
 exact(rc_D I h1 h2 p1 p2 hn rx ry hu).1 X.prog X.w X.xe _ ⟨.bl _,H,I,rfl,q⟩
end
end L2
namespace L2
open PySem PySem.Spec PyProof.Rows
section
variable {X:Cx}
end
end L2
namespace L2
open PySem PySem.Spec PyProof.Rows
theorem xi {X:Cx}:jR X (.builtin "len") (fun xs H Q=>(∃z:Str,xs= [.str z]∧z.length≤sizeLine∧Q (.int z.length) H)∨∃p ys,xs= [.ref p]∧(SqL X.K H p ys∨SqT X.K H p ys)∧(ys.length≤sizeLine→Q (.int ys.length) H)):=by
 intro pins s σ H xs us Q I r h
 rcases h with⟨z,e,hz,q⟩|h
 ·exact wl pins s σ H xs us Q I r ⟨_,z.length,e,⟨hz,rfl⟩,q⟩
 ·exact call_lenB pins s σ H xs us Q I r h
end L2
namespace L2
open PySem PySem.Spec PyProof.Rows
def gLstU (K:PySem.W.Frag)(n:Nat)(t:TGs):TG:=fun v σ H Q=>∃a xs,v= .ref a∧SqL K H a xs∧xs.length=n∧t xs σ H Q
theorem pg_lstU {X:Cx}{es:List Expr}{k:Nat}{t:TGs}{n:Nat}{pos:Pos}(hc:X.calm=true)(h:PGs X es t)
  (hn:(assignEach es X.env).length=n:=by rfl) (hst:(assignEach es X.env).findIdx? (·.1)=none:=by rfl):PG X (.Tuple es k pos) (gLstU X.K n t):=by
 intro pins s σ H v u Q I r hw
 obtain⟨a,xs,e1,hq,hl,hw⟩:=hw
 subst e1
 cases r
 obtain⟨its,rv,ht,hz⟩:=I.list hq
 rw [assign_Tuple]
 refine wpAny_bind (wpAny_standAt ?_)
 unfold unpack
 rw [hst,hn,←hl,show xs.length=its.toArray.size by simp [rv.length]]
 refine wpAny_bind (wpAny_holding (PySem.W.kun_itemsOf (I.ok.hd hc) ht.isList fun h' hx=> ?_))
 have I1:Inv X pins σ H {s with heap:=h'}:=I.kept (t':=s.toks) fun b o e=>hx b o (Nat.ne_of_lt (Heap.lt_size e)) e
 exact h pins _ σ H xs _ Q I1 (by simpa using rv) hw
end L2
namespace L2
open PySem PySem.Spec PyProof.Rows
end L2
namespace L2
open PySem PySem.Spec PyProof.Rows
end L2
namespace L2
open PySem PyProof.Rows
theorem Tk.updD {H:Hp}{p:Addr}{xs ys:List (Key×V)}(h:H p=some (.dK xs)):Tk H (upd H p (.dK ys)):=by
 refine⟨fun b zs e=> ?_,fun b zs e=>⟨zs,?_⟩,fun b zs e=> ?_⟩
 ·rw [qD (fun z=>by rw [z,h] at e;cases e)];exact e
 ·rw [qD (fun z=>by rw [z,h] at e;cases e)];exact e
 ·by_cases z:b=p
  ·exact⟨ys,by rw [z];exact qj⟩
  ·exact⟨zs,by rw [qD z];exact e⟩
theorem Tk.updI {H:Hp}{p C dx C' dx':Addr}{xs ys:List (Str×V)}(h:H p=some (.ins C dx xs)):Tk H (upd H p (.ins C' dx' ys)):=
 ⟨fun b zs e=>by rw [qD (fun z=>by rw [z,h] at e;cases e)];exact e,fun b zs e=>⟨zs,by rw [qD (fun z=>by rw [z,h] at e;cases e)];exact e⟩,fun b zs e=>⟨zs,by rw [qD (fun z=>by rw [z,h] at e;cases e)];exact e⟩⟩
section
variable {X:Cx}
end
end L2
namespace L2
open PySem PyProof.Rows
section
variable {X:Cx}{K:PySem.W.Frag}{o e:Expr}{es:List Expr}{to:TE}{t:TA}{name:Str}{apos cpos:Pos}{T id:String}{r:V→List V→Hp→VK→Prop}
end
end L2
namespace L2
open PySem PyProof.Rows
section
variable {X:Cx}
end
section
variable {prog:Program}{w:World}{A:Around}{E:Value→Shared→Prop}{s:Shared}
end
end L2
namespace L2
open PySem PyProof.Rows
section
variable {X:Cx}{pins:List (Addr×Obj)}{σ:St}{H:Hp}{s:Shared}
end
end L2
namespace L2
open PySem PyProof.Rows
section
variable {prog:Program}{w:World}{A:Around}{E:Value→Shared→Prop}{s:Shared}
end
section
variable {X:Cx}
end
end L2
namespace L2
open PySem PyProof.Rows
section
variable {X:Cx}
end
end L2
namespace L2
open PySem PyProof.Rows
section
variable {X:Cx}{pins:List (Addr×Obj)}{σ:St}{H:Hp}{s:Shared}
end
end L2
namespace L2
open PySem PyProof.Rows
section
variable {X:Cx}{pins:List (Addr×Obj)}{σ:St}{H:Hp}{s:Shared}
end
end L2
namespace L2
open PySem PySem.Spec PyProof.Rows Builtin Builtin.Str
def tCallX (P:Program)(w:World)(K:PySem.W.Frag)(mg:Str→Option Value)(base:Heap)(k:Nat)(tf:TE)(t:TA):TE:=fun σ H Q=>tf σ H fun v H1=>∃(f:Addr) (fd:FuncData) (ps:List Str) (sp:Sp),v= .ref f∧
 FnOk P w K mg base CX0 k f fd ps sp∧Qj K fd ps []∧PySem.W.keepIn K (.ref f)=true∧t σ H1 fun vs H2=>sp vs H2 Q E0
theorem pe_callX {X:Cx}{o i e:Expr}{es:List Expr}{ip pos:Pos}{tf:TE}{t:TA}{k:Nat}{P:Program}{w:World}{K:PySem.W.Frag}{mg:Str→Option Value}{base:Heap}(e1:X.prog=P∧X.w=w∧X.K=K∧X.mg=mg∧X.base=base)(hf:PE X (.Subscript o i ip) tf)(hr:Room k X.A)(ha:PA X (e::es) t)
  (he:starEach (e::es) X.env=(false,eval e X.env)::starEach es X.env:=by rfl) (hpl:(backTo pos (starEach es X.env)).any (·.1)=false:=by rfl):
  PE X (.Call (.Subscript o i ip) (e::es) [] pos) (tCallX P w K mg base k tf t):=by
 obtain⟨rfl,rfl,rfl,rfl,rfl⟩:=e1
 intro pins s σ H Q I h
 show wpAny _ _ (do callWith pos (←eval (.Subscript o i ip) X.env) [] (backTo pos (starEach (e::es) X.env)) (backToKw pos (keywordEach [] X.env))) _ _ s
 refine wpAny_bind (thn (hf pins s σ H _ I h) fun u s1 ⟨v,H1,I1,rv,f,fd,ps,sp,ev,F,hb,hk,q⟩=> ?_)
 subst ev
 obtain rfl:u=Value.ref f:=rv
 refine PySem.W.callWith_K (h₀:=X.base) I1.ok.mod.kin hk (thn (ha pos pins s1 σ H1 _ I1 q) fun us s2 ⟨vs,H2,I2,r,q2⟩=>⟨I2.kIn,?_⟩) he hpl
 exact run_fn (ds:= []) (dvs:= []) F hr hb .nil qr I2 r (by rw [List.append_nil];exact q2)
theorem wn (z y:Str)(hi limit:Nat):∀(l:List Nat) (st:Array Nat×Nat),(forIn l st (StrLaws.occBody z y hi limit)).run.fst.size≤st.fst.size+l.length
 | [],st=>Nat.le_refl _
 |a::l,st=>by
  rw [List.forIn_cons]
  unfold StrLaws.occBody
  split
  ·refine Nat.le_trans (wn z y hi limit l _) ?_
   simp only [Array.size_push,List.length_cons]
   omega
  ·refine Nat.le_trans (wn z y hi limit l _) ?_
   simp only [List.length_cons]
   omega
theorem occ_len (z y:Str)(n:Nat):(occurrences z y 0 z.length n).length≤z.length+1:=by
 rw [StrLaws.occ_eq]
 have:=wn z y z.length n (List.range' 0 (z.length+1-0)) (#[],0)
 rw [Array.length_toList]
 refine Nat.le_trans this ?_
 simp
def spG (z y:Str):List Str:=if(decide (z.length<y.length)||decide (Builtin.Str.strKind z<Builtin.Str.strKind y))=true then [z] else if(occurrences z y 0 z.length (z.length+1)).isEmpty=true then [z] else partsBetween z (occurrences z y 0 z.length (z.length+1)) y.length
theorem spG_len (z y:Str):(spG z y).length≤z.length+2:=by
 unfold spG
 have h:=occ_len z y (z.length+1)
 split
 ·simp
 ·split
  ·simp
  ·simp only [partsBetween,List.length_map,List.length_zip,List.length_cons,List.length_append,List.length_nil]
   omega
theorem spG_mem {z y p:Str}(h:p∈spG z y):p.length≤z.length:=by
 unfold spG at h
 split at h
 ·rw [List.mem_singleton] at h;subst h;exact Nat.le_refl _
 ·split at h
  ·rw [List.mem_singleton] at h;subst h;exact Nat.le_refl _
  ·simp only [partsBetween,List.mem_map] at h
   obtain⟨q,_,e⟩:=h
   rw [←e]
   exact strSub_length_le _ _ _
section
variable {X:Cx}
def rSplitG:V→List V→Hp→VK→Prop:=fun x vs H Q=>∃z y,x= .str z∧vs= [.str y]∧0<y.length∧z.length≤1000∧∀p,H p=none→Q (.ref p) (upd H p (.lst ((spG z y).map V.str)))
theorem mt_splitG:MtM X "str.split" rSplitG:=by
 intro pins s σ H x vs v us Q I rx rv h
 obtain⟨z,y,rfl,rfl,hy,hz,q⟩:=h
 obtain⟨t,rfl⟩:=rx
 obtain⟨u,rfl,t',rfl⟩:=rv.one
 have hz':z.length≤sizeLine:=by rw [sizeLine_eq];omega
 have hy':(y.length==0)=false:=by simp;omega
 have one:spG z y= [z]→∀(T:Nat),0<T→EP X pins σ Q (.ref s.heap.objs.size) {s with heap:=s.heap.push {cls:= .type "list",data:= .seq [Value.str z t].toArray},toks:=T}:=fun e T hT=>by
  rw [e] at q
  exact JI (ys:= [V.str z]) I (.cons (show RelV (V.str z) _ from⟨t,rfl⟩) .nil) (by show 1≤sizeLine;decide) q
 cases h1:(decide (z.length<y.length)||decide (Builtin.Str.strKind z<Builtin.Str.strKind y)) with
 |true=>
  refine call_meets F.slot_str_split (typeIs_str _ _ _) F.entry_str_split (F.args_str_split_2 _ _) (meets_str_split_cannot_occur z y t t' h1) ?_
  exact one (by unfold spG;rw [if_pos h1]) s.toks I.tk
 |false=>
  cases hf:(occurrences z y 0 z.length (z.length+1)).isEmpty with
  |true=>
   refine call_meets F.slot_str_split (typeIs_str _ _ _) F.entry_str_split (F.args_str_split_2 _ _) (meets_str_split_not_found z y t t' h1 hy' hf) ?_
   exact one (by unfold spG;rw [if_neg (by rw [h1];decide),if_pos hf]) s.toks I.tk
  |false=>
   have hl:=spG_len z y
   have e:spG z y=partsBetween z (occurrences z y 0 z.length (z.length+1)) y.length:=by unfold spG;rw [if_neg (by rw [h1];decide),if_neg (by rw [hf];decide)]
   rw [e] at q hl
   refine call_meets F.slot_str_split (typeIs_str _ _ _) F.entry_str_split (F.args_str_split_2 _ _) (meets_str_split_sep z y t t' h1 hy' hf hz' (by rw [sizeLine_eq];omega)) ?_
   exact JI I (xq _ _) (by rw [List.length_map,sizeLine_eq];omega) q
def rJoinT (K:PySem.W.Frag):V→List V→Hp→VK→Prop:=fun x vs H Q=>∃(sep:Str) (p:Addr) (l:List Str),x= .str sep∧vs= [.ref p]∧SqT K H p (l.map V.str)∧(l.map (·.length)).sum+l.length*sep.length≤1000000∧Q (.str (Str.join sep l)) H
theorem mt_joinT:MtM X "str.join" (rJoinT X.K):=by
 intro pins s σ H x vs v us Q I rx rv h
 obtain⟨sep,p,l,rfl,rfl,hp,hz,q⟩:=h
 obtain⟨t,rfl⟩:=rx
 obtain⟨u,rfl,ru⟩:=rv.one
 cases ru
 obtain⟨its,r,pl,hl⟩:=I.tuple hp
 obtain⟨ps,rfl,e2⟩:=zY r
 have hlong:tooLong ((ps.map (·.1)).toArray.foldl (·+ ·.length+sep.length) 0)=false:=by
  rw [e2]
  have:=StrLaws.joinTotal sep l
  rw [this]
  unfold tooLong
  refine decide_eq_false ?_
  rw [sizeLine_eq]
  omega
 refine call_meets F.slot_str_join (typeIs_str _ _ _) F.entry_str_join (F.args_str_join_2 _ _) (meets_str_join_tuple sep t p ps hlong) ⟨(let⟨o,h1,h2,n,h3⟩:=pl;⟨o,n,h1,h2,h3⟩),?_⟩
 have hfit:(glued sep (ps.map (·.1))).length≤sizeLine:=joinFit_length hlong
 match ps,e2,hfit with
 | [],e2,hfit=>
  subst e2
  exact⟨hfit,.str _,H,I.tok _,⟨_,rfl⟩,q⟩
 | [a],e2,_=>
  subst e2
  exact⟨.str _,H,I,⟨a.2,rfl⟩,q⟩
 |a::b::r,e2,hfit=>
  subst e2
  refine⟨hfit,.str _,H,I.tok _,⟨_,rfl⟩,?_⟩
  rw [StrLaws.glued_eq_join]
  exact q
theorem sl_any:SlR X (fun x lo hi H Q=>rSlS x lo hi H Q∨rSlG X.K x lo hi H Q):=sl_str.or j0
end
end L2
namespace L2
open PySem PySem.Spec PyProof.Rows
open Builtin.Int (intBits)
theorem zU:∀(ns:List Int) (x:Int),x∈ns→PySem.W.WData.weight (.int x)≤PySem.W.WData.weightAll (ns.map PySem.W.WData.int)
 |n::ns,x,h=>by
  rw [List.map_cons]
  unfold PySem.W.WData.weightAll
  rcases List.mem_cons.mp h with rfl|h
  ·omega
  ·have:=zU ns x h
   omega
theorem JZ {ns:List Int}(h:PySem.W.WData.layableAll [PySem.W.WData.list (ns.map PySem.W.WData.int)]=true){x:Int}(hx:x∈ns):intBits x≤1048576:=by
 have h1:PySem.W.WData.layable (PySem.W.WData.list (ns.map PySem.W.WData.int))=true:=by
  unfold PySem.W.WData.layableAll at h
  simpa using h
 unfold PySem.W.WData.layable at h1
 rw [Bool.and_eq_true] at h1
 have h2:PySem.W.WData.weight (PySem.W.WData.list (ns.map PySem.W.WData.int))≤2^20:=of_decide_eq_true h1.2
 unfold PySem.W.WData.weight at h2
 have h3:=zU ns x hx
 unfold PySem.W.WData.weight at h3
 have h4:intBits x=if(x==0)=true then 0 else x.natAbs.log2+1:=by
  unfold intBits
  simp
 rw [h4]
 omega
end L2
namespace Att
open PySem PySem.W PySem.Calls PyProof.Rows
open Builtin.Int (intBits)
open L2 (JZ)
end Att
namespace L2
open PySem PySem.Spec PyProof.Rows
open Builtin.Int (intBits)
section
variable {X:Cx}
theorem zj:OpR X (binaryOp .Mult) (rI IntMulOk fun i j=> .int (i*j)):=opI fun _ _ _ _ _ _ _ hc q=>mul_int q hc
def rInK (K:PySem.W.Frag)(w:World):R2:=fun x y H Q=>∃z a r,x= .str z∧y= .ref a∧KDict K w a∧PySem.W.nsIn K a z=some r∧Q (.bl r.isSome) H
theorem op_inK:OpR X (compareOp .In) (rInK X.K X.w):=by
 intro pins s σ H x y v u Q I rx ry h
 obtain⟨z,a,r,rfl,rfl,⟨hs,es,n,hl,hk⟩,hn,q⟩:=h
 obtain⟨t,rfl⟩:=rx
 cases ry
 have hm:=PySem.W.mapOf_K (prog:=X.prog) (w:=X.w) I.kIn hl hk
 refine wpAny_in_of (strKind_is X.prog X.w z t) hs hm ⟨.bl r.isSome,H,I.tok _,?_,q⟩
 rw [PySem.W.find_K hl hn]
 rfl
end
end L2
namespace L2
open PySem PySem.Spec PyProof.Rows
section
variable {X:Cx}
end
end L2
namespace L2
open PySem PySem.Spec PyProof.Rows Builtin Builtin.Str
section
variable {X:Cx}
end
end L2
namespace L2
open PySem PySem.Spec PyProof.Rows Builtin Builtin.Str
section
variable {X:Cx}
end
end L2
namespace L2
open PySem PySem.Spec PyProof.Rows
mutual
def nD:D→Bool
 | .non=>true
 | .str _=>true
 | .int _=>true
 | .tup xs=>nL xs
 |_=>false
def nL:List D→Bool
 | []=>true
 |x::r=>nD x&&nL r
end
theorem nL_get:∀{xs:List D}{j:Nat}{x:D},nL xs=true→xs[j]? =some x→nD x=true
 | [],_,_,_,e=>by simp at e
 |y::r,0,x,h,e=>by
  have h':nD y=true∧nL r=true:=by simpa [nL] using h
  have:y=x:=by simpa using e
  exact this▸h'.1
 |y::r,j+1,x,h,e=>by
  have h':nD y=true∧nL r=true:=by simpa [nL] using h
  exact nL_get h'.2 (by simpa using e)
section
variable {X:Cx}{pins:List (Addr×Obj)}{σ:St}{H:Hp}{s:Shared}
theorem parts_R {xs:List D}{vs us:List V}{its its':List Value}{A:Around}(hd:nL xs=true)(hl:IsL H xs vs)(hl':IsL H xs us)(rv:Vals vs its)(rv':Vals us its')
  (ih:∀x∈xs,∀(v u:V) (a b:Value),nD x=true→Is H x v→Is H x u→RelV v a→RelV u b→SeqAt.EqAt A s a b true):
  ∀j (a1:j<its.toArray.size) (a2:j<its'.toArray.size),SeqAt.EqAt A s its.toArray[j] its'.toArray[j] true:=fun j a1 a2=>by
 have l1:its.length=xs.length:=by rw [←rv.length,hl.length]
 have l2:its'.length=xs.length:=by rw [←rv'.length,hl'.length]
 have j1:j<xs.length:=by rw [←l1];simpa using a1
 obtain⟨v1,e1,i1⟩:=hl.get (i:=j) (d:=xs[j]) (by simp [j1])
 obtain⟨v2,e2,i2⟩:=hl'.get (i:=j) (d:=xs[j]) (by simp [j1])
 obtain⟨b1,f1,g1⟩:=rv.get e1
 obtain⟨b2,f2,g2⟩:=rv'.get e2
 have k1:its.toArray[j]=b1:=by
  have:=f1
  rw [List.getElem?_eq_getElem (by rw [l1];exact j1)] at this
  simpa using this
 have k2:its'.toArray[j]=b2:=by
  have:=f2
  rw [List.getElem?_eq_getElem (by rw [l2];exact j1)] at this
  simpa using this
 rw [k1,k2]
 exact ih _ (List.getElem_mem j1) _ _ _ _ (nL_get (j:=j) hd (by simp [j1])) i1 i2 g1 g2
theorem XR (n:Nat):(List.range n).all (fun _=>true)=true:=by simp
theorem eqAt_R (I:Inv X pins σ H s):∀(n:Nat) (d:D) (v u:V) (a b:Value) (A:Around),dp d≤n→nD d=true→Is H d v→Is H d u→RelV v a→RelV u b→A.units+n<cLine→SeqAt.EqAt A s a b true:=by
 intro n
 induction n with
 |zero=>
  intro d v u a b A hn hd h1 h2 r1 r2 hu
  cases d with
  |int z=>
   cases(show v= .int z from h1)
   cases(show u= .int z from h2)
   obtain⟨t,rfl⟩:=r1
   obtain⟨t',rfl⟩:=r2
   have:=SeqAt.EqAt.int_int (A:=A) (s:=s) z t z t'
   simpa using this
  |non=>
   cases(show v= .non from h1)
   cases(show u= .non from h2)
   cases r1
   cases r2
   exact SeqAt.EqAt.same _
  |str z=>simp [dp] at hn
  |tup xs=>simp [dp] at hn
  |_=>simp [nD] at hd
 |succ n ih=>
  intro d v u a b A hn hd h1 h2 r1 r2 hu
  have hu0:A.units<cLine:=Nat.lt_of_le_of_lt (Nat.le_add_right _ _) hu
  cases d with
  |int z=>exact ih (.int z) v u a b A (Nat.zero_le _) hd h1 h2 r1 r2 (by omega)
  |non=>exact ih .non v u a b A (Nat.zero_le _) hd h1 h2 r1 r2 (by omega)
  |str z=>
   obtain⟨rfl,_⟩:=(show v= .str z∧_ from h1)
   obtain⟨rfl,_⟩:=(show u= .str z∧_ from h2)
   obtain⟨t,rfl⟩:=r1
   obtain⟨t',rfl⟩:=r2
   have:=SeqAt.EqAt.str_str (A:=A) (s:=s) z t z t'
   simpa using this
  |tup xs=>
   have hm:dpL xs≤n:=by
    have:dp (.tup xs)=1+dpL xs:=by simp only [dp]
    omega
   obtain⟨p,vs,rfl,hp,hl⟩:=(show∃p vs,v=V.ref p∧H p=some (.tup vs)∧IsL H xs vs from h1)
   obtain⟨p',us,rfl,hp',hl'⟩:=(show∃p vs,u=V.ref p∧H p=some (.tup vs)∧IsL H xs vs from h2)
   cases r1
   cases r2
   by_cases hv:p=p'
   ·subst hv
    exact SeqAt.EqAt.same _
   ·obtain⟨its,rv,q,_⟩:=I.tuple (.inl (.of hp))
    obtain⟨its',rv',q',_⟩:=I.tuple (.inl (.of hp'))
    have l1:its.length=xs.length:=by rw [←rv.length,hl.length]
    have l2:its'.length=xs.length:=by rw [←rv'.length,hl'.length]
    have key:=SeqAt.RcAt.tuples (e:=fun _=>true) q q' hu0 (parts_R (by simpa [nD] using hd) hl hl' rv rv' fun x hx v u a b k1 k3 k4 k5 k6=>ih x v u a b A.in1 ((Xq xs).mp hm x hx) k1 k3 k4 k5 k6 (by rw [Around.in1_units];omega))
    rw [XR,List.size_toArray,List.size_toArray,l1,l2] at key
    exact SeqAt.EqAt.of_refs hv (by simpa using key)
  |_=>simp [nD] at hd
theorem wj (hu:X.A.units+64<cLine):OpR X (compareOp .NotEq) (fun x y H Q=>∃(l m:Addr) (vs us:List V) (ds:List D),x= .ref l∧y= .ref m∧SqL X.K H l vs∧SqL X.K H m us∧IsL H ds vs∧IsL H ds us∧nL ds=true∧dpL ds≤60∧Q (.bl false) H):=by
 intro pins s σ H x y v u Q I rx ry h
 obtain⟨l,m,vs,us,ds,rfl,rfl,hl,hm,il,im,hn,hd,q⟩:=h
 cases rx
 cases ry
 obtain⟨its,rv,pl,_⟩:=I.list hl
 obtain⟨its',rv',pl',_⟩:=I.list hm
 have l1:its.length=ds.length:=by rw [←rv.length,il.length]
 have l2:its'.length=ds.length:=by rw [←rv'.length,im.length]
 have key:=parts_R hn il im rv rv' fun x hx v u a b k1 k3 k4 k5 k6=>eqAt_R I 60 x v u a b X.A.in1 ((Xq ds).mp hd x hx) k1 k3 k4 k5 k6 (by rw [Around.in1_units];omega)
 refine SeqAt.RcNeAt.lists (e:=fun _=>true) pl.isList pl'.isList (by rw [List.size_toArray,List.size_toArray,l1,l2]) (by omega) key X.prog X.w X.xe _ ⟨.bl false,H,I,?_,q⟩
 rw [XR]
 rfl
theorem call_dictC (hc:X.calm=true):jR X (.type "dict") (fun xs H Q=>∃(d:Addr) (kvs:List (Key×V)),xs= [.ref d]∧H d=some (.dK kvs)∧∀q,H q=none→Q (.ref q) (upd H q (.dK kvs))):=by
 intro pins s σ H xs us Q I r h
 obtain⟨d,kvs,rfl,hd,q⟩:=h
 obtain⟨u,rfl,ru⟩:=xj r
 cases ru
 obtain⟨hz,hlo,vs,kv,dd⟩:=I.hok d _ hd
 have hlen:vs.length≤sizeLine:=by rw [←Paired.length kv];exact hz
 refine kt_call_dict hlo dd hlen fun h' hd' hs'=> ?_
 have hlo':(s.heap.objs.size==sysModules)=false:=by
  rw [beq_eq_false_iff_ne]
  exact Nat.ne_of_gt I.big
 have kp:∀b o,s.heap.get? b=some o→h'.get? b=some o:=fun b o e=>(hs'.2 b (Nat.ne_of_lt (Heap.lt_size e))).trans (Heap.get?_push_of_some _ e)
 exact⟨.ref s.heap.objs.size,_,I.laid (t':=s.toks) kp (Nat.le_refl _) (dk_new hz hlo' kv hd'),rfl,q _ I.fresh⟩
end
end L2
namespace AwZ
open PySem PySem.Spec PyProof.Rows
theorem tc_enum0 (a:Value):checkTypeCall "enumerate" ⟨[a],[]⟩=pure ():=by kernel_rfl
theorem nc_enum0 (a:Value):checkBuiltinCall "enumerate.__new__" ⟨[.type "enumerate",a],[]⟩=pure ():=by kernel_rfl
theorem enum0_made (l:Addr)(its:Array Value):Meets (Builtin.«enumerate.__new__» ⟨[.type "enumerate",.ref l],[]⟩) (fun _ R s=>s.heap.IsTuple l its∧
   R (.ok (.ret (.ref (q1 s.heap l).objs.size))) {s with heap:=(q1 s.heap l).push {cls:= .type "enumerate",data:= .fields #[.none,.bool false,.ref s.heap.objs.size,rawInt 0,.none,.none]}}):=
 .of_wp fun prog w A R s h=>by
  obtain⟨hp,g,d,tk,os⟩:=s
  obtain⟨hl,h⟩:=h
  have sub:=sub_enumerate
  have h1:Heap.IsTuple (Shared.heap ⟨hp,g,d,tk,os⟩) l its:=hl
  wp_walk
  refine wpAny_stack_any fun st=>wpAny_pure ?_
  split
  ·rename_i c _ _ _ _ _
   cases(c==Value.type "enumerate")
   ·wp_walk using wpAny_pyIter_tuple h1
    exact⟨_,rfl,h⟩
   ·wp_walk using wpAny_pyIter_tuple h1
    exact⟨_,rfl,h⟩
  ·wp_walk using wpAny_pyIter_tuple h1
   exact⟨_,rfl,h⟩
end AwZ
namespace L2
open PySem PySem.Spec PyProof.Rows
section
variable {X:Cx}{pins:List (Addr×Obj)}{σ:St}{H:Hp}{s:Shared}
def rSame (g:Bool):R2:=fun x y H Q=>∃ds:List D,Is H (.tup ds) x∧Is H (.tup ds) y∧nL ds=true∧dpL ds≤60∧Q (.bl g) H
theorem rc_R (I:Inv X pins σ H s){ds:List D}{x y:V}{v u:Value}(h1:Is H (.tup ds) x)(h2:Is H (.tup ds) y)(hn:nL ds=true)(hd:dpL ds≤60)(rx:RelV x v)(ry:RelV y u)(hu:X.A.units+64<cLine):
  SeqAt.RcAt X.A s v u true∧SeqAt.RcNeAt X.A s v u false:=by
 obtain⟨p,vs,rfl,hp,hl⟩:=(show∃p vs,x=V.ref p∧H p=some (.tup vs)∧IsL H ds vs from h1)
 obtain⟨p',us,rfl,hp',hl'⟩:=(show∃p vs,y=V.ref p∧H p=some (.tup vs)∧IsL H ds vs from h2)
 cases rx
 cases ry
 obtain⟨its,rv,q,_⟩:=I.tuple (.inl (.of hp))
 obtain⟨its',rv',q',_⟩:=I.tuple (.inl (.of hp'))
 have l1:its.length=ds.length:=by rw [←rv.length,hl.length]
 have l2:its'.length=ds.length:=by rw [←rv'.length,hl'.length]
 have pe:=parts_R hn hl hl' rv rv' fun x hx v u a b k1 k3 k4 k5 k6=>eqAt_R I 60 x v u a b X.A.in1 ((Xq ds).mp hd x hx) k1 k3 k4 k5 k6 (by rw [Around.in1_units];omega)
 have e1:=SeqAt.RcAt.tuples (e:=fun _=>true) q q' (by omega) pe
 have e2:=SeqAt.RcNeAt.tuples (e:=fun _=>true) q q' (by omega) pe
 rw [XR,List.size_toArray,List.size_toArray,l1,l2] at e1 e2
 exact⟨by simpa using e1,by simpa using e2⟩
theorem op_eqR (hu:X.A.units+64<cLine):OpR X (compareOp .Eq) (rSame true):=by
 intro pins s σ H x y v u Q I rx ry h
 obtain⟨ds,h1,h2,hn,hd,q⟩:=h
 exact(rc_R I h1 h2 hn hd rx ry hu).1 X.prog X.w X.xe _ ⟨.bl true,H,I,rfl,q⟩
theorem op_neR (hu:X.A.units+64<cLine):OpR X (compareOp .NotEq) (rSame false):=by
 intro pins s σ H x y v u Q I rx ry h
 obtain⟨ds,h1,h2,hn,hd,q⟩:=h
 exact(rc_R I h1 h2 hn hd rx ry hu).2 X.prog X.w X.xe _ ⟨.bl false,H,I,rfl,q⟩
theorem op_neNil (hu:X.A.units+64<cLine):OpR X (compareOp .NotEq) (fun x y H Q=>∃a b xs,x= .ref a∧y= .ref b∧SqT X.K H a xs∧SqT X.K H b []∧Q (.bl (!xs.isEmpty)) H):=by
 intro pins s σ H x y v u Q I rx ry h
 obtain⟨p,p',xs,rfl,rfl,hp,hp',q0⟩:=h
 cases rx
 cases ry
 obtain⟨its,rv,q,_⟩:=I.tuple hp
 obtain⟨its',rv',q',_⟩:=I.tuple hp'
 cases rv'
 have e2:=SeqAt.RcNeAt.tuples (A:=X.A) (e:=fun _=>true) q q' (by omega) fun j h1 h2=>absurd h2 (by simp)
 refine e2 X.prog X.w X.xe _ ⟨.bl _,H,I,?_,q0⟩
 have l1:=rv.length
 show Value.bool (!((List.range (min its.toArray.size 0)).all (fun _=>true)&&its.toArray.size==0))=Value.bool (!xs.isEmpty)
 rw [XR,List.size_toArray,←l1]
 cases xs<;>rfl
theorem ps_tryN {body:List Stmt}{h₀:ExceptHandler}{hs:List ExceptHandler}{pos:Pos}{t:TS}(hb:PSs X.nox body t):PS X (.Try body (h₀::hs) [] [] pos) t:=by
 intro pins s σ H D I h
 refine wpAny_Try_except (wpAny_mono (hb pins s σ H D (I.wish _) h) (fun f s1 q=> ?_) fun e s1 z=>False.elim z)
 have q':=SP.unwish q
 cases f with
 |next=>exact wpAny_execs_nil q'
 |ret v=>exact q'
 |brk=>exact q'
 |cont=>exact q'
def iEn0 (K:PySem.W.Frag)(te:TE):TI:=fun σ H R=>te σ H fun x H2=>∃a xs,x= .ref a∧SqT K H2 a xs∧(xs.length≤sizeLine→R (Ite K a 0) H2)
theorem pi_enum0 {elts:List Expr}{c:Nat}{tp p pos:Pos}{e:Expr}{te:TE}(hg:Gl X "enumerate")(hm:X.mg "enumerate"=none)(he:PE X e te)(hs:starEach [e] X.env= [(false,eval e X.env)]:=by rfl):
  PI X (.Tuple elts c tp) (.Call (.Name "enumerate" p) [e] [] pos) (iEn0 X.K te):=by
 intro pins s σ H R I h
 have ha:PA X [e] (xT te tNil):=qa he qc hs
 refine Call_ (zG I hg hm boot_enumerate (PyProof.Rows.callWith_type1 (thn (ha pos pins s σ H (fun vs H2=>match vs with| [x]=>∃a xs,x= .ref a∧SqT X.K H2 a xs∧(xs.length≤sizeLine→R (Ite X.K a 0) H2)|_=>False) I h) fun us s2 ⟨vs,H2,I2,r1,q1⟩=> ?_) (by rw [hs];rfl) (by rfl)))
 match vs,r1,q1 with
 | [x],r1,q1=>
 obtain⟨a,xs,rfl,hA,q⟩:=q1
 obtain⟨u,rfl,ru⟩:=xj r1
 cases ru
 obtain⟨its,ra,pa,za⟩:=I2.tuple hA
 refine AwZ.new_kw (kw:= []) F.called_enumerate (by decide) (AwZ.tc_enum0 _) (AwZ.nc_enum0 _) (fun obj=>F.args_object_init_2 _ _) F.entry_enumerate_new (AwZ.enum0_made a its.toArray) ⟨show s2.heap.IsTuple a its.toArray from pa,?_⟩
 have hz:(AwZ.q1 s2.heap a).objs.size=s2.heap.objs.size+1:=Heap.size_push ..
 have hen:IsEnum ((AwZ.q1 s2.heap a).push {cls:= .type "enumerate",data:= .fields #[.none,.bool false,.ref s2.heap.objs.size,rawInt 0,.none,.none]}) (AwZ.q1 s2.heap a).objs.size s2.heap.objs.size 0 .none:=Heap.get?_push_size _ rfl
 refine⟨⟨_,hen,rfl⟩,?_⟩
 refine wpAny_pyIter_enum (s:={s2 with heap:=_}) hen ?_
 refine⟨_,[(AwZ.q1 s2.heap a).objs.size,s2.heap.objs.size],_,_,H2,rfl,I2.kept (t':=s2.toks) (fun b o e=>Heap.get?_push_of_some _ (Heap.get?_push_of_some _ e)),turn_enum a _ _ 0,⟨⟨.none,hen⟩,⟨_,Heap.get?_push_of_some _ (Heap.get?_push_size _ rfl),rfl,rfl⟩,fun e=>Nat.ne_of_gt (Nat.lt_succ_self _) (hz.symm.trans e)⟩,fun x hx=> ?_,q za⟩
 have hx':s2.heap.objs.size≤x:=by
  simp only [List.mem_cons,List.mem_nil_iff,or_false] at hx
  exact two_le hz hx
 exact I2.fpOk hx' (I2.hok.fresh hx')
end
end L2
namespace L2
open PySem PySem.Spec PyProof.Rows
open Builtin.Int (intBits)
theorem bits_sum:∀(ns:List Int),intBits ns.sum≤PySem.W.WData.weightAll (ns.map PySem.W.WData.int)
 | []=>by show intBits 0≤_;exact Nat.zero_le _
 |n::ns=>by
  rw [List.map_cons,List.sum_cons]
  unfold PySem.W.WData.weightAll
  have h1:=bits_sum ns
  have h2:=intBits_add_le (Nat.le_refl (intBits n)) (Nat.le_refl (intBits ns.sum))
  have h3:intBits n≤PySem.W.WData.weight (.int n):=by
   unfold PySem.W.WData.weight
   have h4:intBits n=if(n==0)=true then 0 else n.natAbs.log2+1:=by
    unfold intBits
    simp
   rw [h4]
   omega
  omega
theorem ZC {ns:List Int}(h:PySem.W.WData.layableAll [PySem.W.WData.list (ns.map PySem.W.WData.int)]=true):intBits ns.sum≤1048576:=by
 have h1:PySem.W.WData.layable (PySem.W.WData.list (ns.map PySem.W.WData.int))=true:=by
  unfold PySem.W.WData.layableAll at h
  simpa using h
 unfold PySem.W.WData.layable at h1
 rw [Bool.and_eq_true] at h1
 have h2:PySem.W.WData.weight (PySem.W.WData.list (ns.map PySem.W.WData.int))≤2^20:=of_decide_eq_true h1.2
 unfold PySem.W.WData.weight at h2
 have h3:=bits_sum ns
 omega
end L2
namespace Att
open PySem PySem.W PySem.Calls PyProof.Rows
open Builtin.Int (intBits)
open L2 (JZ ZC)
theorem attach_callS {l:OpenLaw}{n:Nat}{q:Program}{loose:List Str}{XP:(Str→Option Value)→Heap→Prop}{YP:World→Heap→Prop}{d:DefRec}
  (hn:l.most=some n) (hdf:d.params.defaults= [])
  (call:∀(w:World) (s₀ s₁:Shared) (mg mb:Str→Option Value) (fa:Addr) (o:Obj) (pm cd doc:Value) (a:Addr) (vs:List Value) (ns:List Int),
   Ground q loose [] XP w s₀ mg mb s₁.heap→YP w s₁.heap→
   s₁.heap.get? fa=some o→o.data= .func (docDef d.name d.params d.body d.scope pm cd doc)→s₁.heap.CodeRec cd d.name→mg d.name=some (.ref fa)→
   s₁.heap.get? a=some {cls:= .type "list",data:= .seq vs.toArray}→IntsAre vs ns→ns.length≤n→((∀x∈ns,intBits x≤1048576)∧intBits ns.sum≤1048576)→s₁.gens= #[]→
   codeAny (model l.prog w) callerA (.call (.ref fa) ⟨[.ref a],[]⟩) (fun r s'=>r= .ok (.ret (.bool true))∧OldK s₁.heap s'.heap∧s'.os=s₁.os∧AllBare s'.gens) s₁):
  WalkO q loose XP YP l.row.toRowW d [] (fun f vs=>PySem.call f vs):=by
 intro w s₀ s₁ mg mb G Y fa o pm cd doc dV kV ho hd hcd hD hmg hg args vals as hpre hlay hrd hwl hlo
 obtain rfl:dV= .none:=Dflts.none hD hdf
 obtain rfl:kV= .none:=Dflts.noKw hD
 obtain⟨a,vs,ns,rfl,rfl,hobj,hints,hlen⟩:=script_of hn hpre hwl
 refine enter_call (codeAny_mono (call w s₀ s₁ mg mb fa o pm cd doc a vs ns G Y ho (fd_plain hd) hcd hmg hobj hints hlen ⟨fun x hx=>JZ hlay hx,ZC hlay⟩ hg) fun r s' hq=> ?_)
 obtain⟨rfl,h2,h3,h4⟩:=hq
 exact⟨.inl ⟨.bool true,.bool true,[],rfl,fun _=>rfl,.bool true,post_true l _,fun _=>⟨List.Pairwise.nil,fun _ hm=>(nomatch hm)⟩⟩,h2,h3,h4⟩
end Att
namespace L2
open PySem PySem.Spec PyProof.Rows
open Builtin.Int (intBits)
theorem walk_ofS {l:PySem.W.OpenLaw}{n k:Nat}{q:Program}{loose:List Str}{XP:(Str→Option Value)→Heap→Prop}{YP:World→Heap→Prop}{d:DefRec}{K:Params→PySem.W.Frag}{CX:CXT}{sp:PySem.W.Frag→Sp}{x:Str}
  (hn:l.most=some n) (hn2:n≤sizeLine) (hdf:d.params.defaults= []) (hr:Room k callerA)
  (hY:∀(w:World) (h:Heap),YP w h→(K w.params).In h)
  (F:∀(w:World) (mg:Str→Option Value) (fa:Addr) (h:Heap),(K w.params).In h→h.Ns mainGlobals mg→mg d.name=some (.ref fa)→
   ∃fd:FuncData,(∀(s:Shared) (u:Value),BindsTo s fd ⟨[u],[]⟩ [(x,u)])∧fd.scope.names.lookup x=some .local∧
    ∀base:Heap,(K w.params).In base→base.Ns mainGlobals mg→FnOk l.prog w (K w.params) mg base CX k fa fd [x] (sp (K w.params)))
  (hsp:∀(w:World) (H:Hp) (a:Addr) (ns:List Int),ns.length≤n→((∀x∈ns,intBits x≤1048576)∧intBits ns.sum≤1048576)→Only H→SqL (K w.params) H a (ns.map V.int)→sp (K w.params) [.ref a] H (fun v _=>v= .bl true) fun _ _ _=>False)
  (hCX:∀(H:Hp) (s:Shared) (e:Value) (s':Shared),CX [] H s (fun _ _ _=>False) e s'→False):
  PySem.W.WalkO q loose XP YP l.row.toRowW d [] (fun f vs=>PySem.call f vs):=by
 refine Att.attach_callS hn hdf fun w s₀ s₁ mg mb fa o pm cd doc a vs ns G Y ho hd hcd hmg hobj hints hlen hbit hg=> ?_
 have KX:=hY w _ Y
 obtain⟨fd,hb,hloc,hF⟩:=F w mg fa _ KX G.T.g hmg
 exact law_call KX G.T.g G.T.b G.T.builtins G.T.nolimit hg hobj hints (Nat.le_trans hlen hn2) hr hF hb hloc (fun H hO hS=>hsp w H a ns hlen hbit hO hS) fun H e s'=>hCX H s₁ e s'
end L2
namespace K14
open PySem L2 PyProof.Rows
open Builtin.Int (intBits)
def top (i:Nat):Stmt:=PySem.Challenge.pw_askwright_k14_whole_asked_by_answers_alo.main.body.getD i (.Pass ⟨0,0,0,0⟩)
abbrev jA:Stmt:=top 15
abbrev Y2:Stmt:=top 16
abbrev jp:Stmt:=top 17
abbrev QB:Stmt:=top 19
abbrev Yp:Stmt:=top 20
abbrev jI:Stmt:=top 26
abbrev Yd:Stmt:=top 27
abbrev jX:Stmt:=top 28
abbrev yN:Stmt:=top 29
abbrev Ym:Stmt:=top 30
abbrev Ys:Stmt:=top 33
abbrev Yn:Stmt:=top 34
abbrev Yj:Stmt:=top 35
abbrev YR:Stmt:=top 36
abbrev YN:Stmt:=top 37
abbrev Yh:Stmt:=top 38
abbrev yK:Stmt:=top 39
abbrev Yr:Stmt:=top 40
abbrev Yc:Stmt:=top 41
abbrev YL:Stmt:=top 42
abbrev Yl:Stmt:=top 43
abbrev QU:Stmt:=top 45
abbrev QG:Stmt:=top 46
abbrev yc:Stmt:=jl (top 47) 0
abbrev yn:Stmt:=jl (top 47) 1
abbrev QK:Stmt:=jl (top 47) 2
abbrev Q0:Stmt:=jl (top 47) 3
abbrev QW:Stmt:=jl (top 47) 4
abbrev ya:Stmt:=jl (top 47) 5
abbrev QZ:Stmt:=jl (top 47) 6
abbrev Qp:Stmt:=jl (top 47) 7
abbrev QI:Stmt:=jl (top 47) 8
abbrev ye:Stmt:=jl (top 47) 9
abbrev YK:Stmt:=top 48
abbrev QC:Stmt:=top 49
abbrev ZG:Stmt:=top 50
abbrev yo:Stmt:=top 52
abbrev jo:Stmt:=top 53
abbrev YQ:Stmt:=top 54
abbrev yM:Stmt:=top 55
abbrev YM:Stmt:=top 56
abbrev Yf:Stmt:=top 57
abbrev Ye:Stmt:=top 58
abbrev YO:Stmt:=top 59
abbrev Yk:Stmt:=top 60
abbrev yO:Stmt:=top 61
abbrev jt:Stmt:=top 62
abbrev yI:Stmt:=top 63
abbrev QJ:Stmt:=top 64
abbrev yL:Stmt:=top 65
abbrev s_law:Stmt:=top 66
structure Ad where
 Jm:Addr
 Jn:FuncData
 jx:Addr
 jn:FuncData
 jr:Addr
 jq:FuncData
 yt:Addr
 yq:FuncData
 jT:Addr
 jW:FuncData
 J8:Addr
 J4:FuncData
 jL:Addr
 jM:FuncData
 XS:Addr
 XU:FuncData
 ji:Addr
 Y9:FuncData
 jJ:Addr
 jQ:FuncData
 YX:Addr
 J0:FuncData
 YY:Addr
 JY:FuncData
 YU:Addr
 J3:FuncData
 jy:Addr
 xS:FuncData
 jE:Addr
 xx:FuncData
 YV:Addr
 J2:FuncData
 Yz:Addr
 Jt:FuncData
 YZ:Addr
 JV:FuncData
 Y1:Addr
 JS:FuncData
 jB:Addr
 xD:FuncData
 Y5:Addr
 JU:FuncData
 yP:Addr
 yW:FuncData
 yC:Addr
 yB:FuncData
 Qv:Addr
 QA:FuncData
 Qt:Addr
 Qu:FuncData
 Qq:Addr
 Qr:FuncData
 Qx:Addr
 Qw:FuncData
 yT:Addr
 yR:FuncData
 Yu:Addr
 Yw:FuncData
 yh:Addr
 ym:FuncData
 Qc:Addr
 Qb:FuncData
 yE:Addr
 yz:FuncData
 Yx:Addr
 Yt:FuncData
 Jy:Addr
 JH:FuncData
 yr:Addr
 yp:FuncData
 f_does:Addr
 d_does:FuncData
 YH:Addr
 YI:FuncData
 xf:Addr
 xk:FuncData
 yd:Addr
 yb:FuncData
 ja:Addr
 jb:FuncData
 jw:Addr
 jG:FuncData
 JL:Addr
 JK:FuncData
 JM:Addr
 JA:FuncData
 JC:Addr
 JG:FuncData
 jN:Addr
 jZ:FuncData
 YA:Addr
 Yy:FuncData
 J6:Addr
 xg:FuncData
 YC:Addr
 YB:FuncData
 yD:Addr
 yA:FuncData
 jc:Addr
 jj:FuncData
 f_law:Addr
 d_law:FuncData
 qd:Addr
structure Tx (K:PySem.W.Frag)(mg:Str→Option Value)(a:Ad):Prop where
 zg:Fun K "is_text" "is_text" jA a.Jm a.Jn
 b_is_text:Qj K a.Jn ["value"] []
 m_is_text:mg "is_text"=some (.ref a.Jm)
 xo:Fun K "is_tree" "is_tree" Y2 a.jx a.jn
 X5:Qj K a.jn ["value"] []
 zT:mg "is_tree"=some (.ref a.jx)
 xn:Fun K "is_name" "is_name" jp a.jr a.jq
 zI:Qj K a.jq ["value"] []
 zN:mg "is_name"=some (.ref a.jr)
 jC:Fun K "is_row_of_names" "is_row_of_names" QB a.yt a.yq
 Xj:Qj K a.yq ["tree"] []
 xH:mg "is_row_of_names"=some (.ref a.yt)
 zc:Fun K "is_answer" "is_answer" Yp a.jT a.jW
 b_is_answer:Qj K a.jW ["ask","answer"] []
 m_is_answer:mg "is_answer"=some (.ref a.jT)
 F_part_of:Fun K "part_of" "part_of" jI a.J8 a.J4
 b_part_of:Qj K a.J4 ["kind","piece","count"] []
 m_part_of:mg "part_of"=some (.ref a.J8)
 XV:Fun K "pieces_of" "pieces_of" Yd a.jL a.jM
 b_pieces_of:Qj K a.jM ["line","form"] []
 m_pieces_of:mg "pieces_of"=some (.ref a.jL)
 F_row_of:Fun K "row_of" "row_of" jX a.XS a.XU
 b_row_of:Qj K a.XU ["line","count"] []
 m_row_of:mg "row_of"=some (.ref a.XS)
 Xs:Fun K "read_lines" "read_lines" yN a.ji a.Y9
 b_read_lines:Qj K a.Y9 ["value"] []
 m_read_lines:mg "read_lines"=some (.ref a.ji)
 zE:Fun K "rule_rows" "rule_rows" Ym a.jJ a.jQ
 b_rule_rows:Qj K a.jQ ["tree"] []
 m_rule_rows:mg "rule_rows"=some (.ref a.jJ)
 zB:Fun K "text_made" "text_made" Ys a.YX a.J0
 b_text_made:Qj K a.J0 ["boxes","own","parts"] []
 m_text_made:mg "text_made"=some (.ref a.YX)
 X1:Fun K "self_made" "self_made" Yn a.YY a.JY
 b_self_made:Qj K a.JY ["boxes","own","parts"] []
 m_self_made:mg "self_made"=some (.ref a.YY)
 zC:Fun K "copy_made" "copy_made" Yj a.YU a.J3
 b_copy_made:Qj K a.J3 ["boxes","own","parts"] []
 m_copy_made:mg "copy_made"=some (.ref a.YU)
 Zu:Fun K "row_made" "row_made" YR a.jy a.xS
 b_row_made:Qj K a.xS ["boxes","own","parts"] []
 m_row_made:mg "row_made"=some (.ref a.jy)
 ZR:Fun K "put_made" "put_made" YN a.jE a.xx
 b_put_made:Qj K a.xx ["boxes","own","parts"] []
 m_put_made:mg "put_made"=some (.ref a.jE)
 zn:Fun K "join_made" "join_made" Yh a.YV a.J2
 b_join_made:Qj K a.J2 ["boxes","own","parts"] []
 m_join_made:mg "join_made"=some (.ref a.YV)
 Xl:Fun K "first_made" "first_made" yK a.Yz a.Jt
 b_first_made:Qj K a.Jt ["boxes","own","parts"] []
 m_first_made:mg "first_made"=some (.ref a.Yz)
 zZ:Fun K "rest_made" "rest_made" Yr a.YZ a.JV
 b_rest_made:Qj K a.JV ["boxes","own","parts"] []
 m_rest_made:mg "rest_made"=some (.ref a.YZ)
 zK:Fun K "size_made" "size_made" Yc a.Y1 a.JS
 b_size_made:Qj K a.JS ["boxes","own","parts"] []
 m_size_made:mg "size_made"=some (.ref a.Y1)
 ZK:Fun K "cut_made" "cut_made" YL a.jB a.xD
 b_cut_made:Qj K a.xD ["boxes","own","parts"] []
 m_cut_made:mg "cut_made"=some (.ref a.jB)
 zO:Fun K "glue_made" "glue_made" Yl a.Y5 a.JU
 b_glue_made:Qj K a.JU ["boxes","own","parts"] []
 m_glue_made:mg "glue_made"=some (.ref a.Y5)
 Jg:Fun K "is_jump_taken" "is_jump_taken" QU a.yP a.yW
 zV:Qj K a.yW ["boxes","word","parts"] []
 X7:mg "is_jump_taken"=some (.ref a.yP)
 j7:Fun K "asked_or_fault" "asked_or_fault" QG a.yC a.yB
 XL:Qj K a.yB ["word","held"] []
 XH:mg "asked_or_fault"=some (.ref a.yC)
 Zi:Fun K "__init__" "Machine.__init__" yc a.Qv a.QA
 Qn:Qj K a.QA ["self","rule","own"] []
 h_Machine_init:Meth K a.qd "__init__" a.Qv
 wb:Fun K "now" "Machine.now" yn a.Qt a.Qu
 qT:Qj K a.Qu ["self"] []
 qS:Meth K a.qd "now" a.Qt
 Xx:Fun K "answer" "Machine.answer" QK a.Qq a.Qr
 qK:Qj K a.Qr ["self","tree"] []
 qL:Meth K a.qd "answer" a.Qq
 XZ:Fun K "asked" "Machine.asked" Q0 a.Qx a.Qw
 qV:Qj K a.Qw ["self"] []
 qW:Meth K a.qd "asked" a.Qx
 zr:Fun K "lines" "Machine.lines" QW a.yT a.yR
 zJ:Qj K a.yR ["self"] []
 zH:Meth K a.qd "lines" a.yT
 Zc:Fun K "copy" "Machine.copy" ya a.Yu a.Yw
 Zf:Qj K a.Yw ["self"] []
 Zd:Meth K a.qd "copy" a.Yu
 zo:Fun K "go_on" "Machine.go_on" QZ a.yh a.ym
 Jv:Qj K a.ym ["self"] []
 Jq:Meth K a.qd "go_on" a.yh
 JN:Fun K "is_waiting" "Machine.is_waiting" Qp a.Qc a.Qb
 QR:Qj K a.Qb ["self"] []
 QS:Meth K a.qd "is_waiting" a.Qc
 Xy:Fun K "do_row" "Machine.do_row" QI a.yE a.yz
 XA:Qj K a.yz ["self","row"] []
 XE:Meth K a.qd "do_row" a.yE
 Za:Fun K "hold" "Machine.hold" ye a.Yx a.Yt
 Zh:Qj K a.Yt ["self","box","tree"] []
 Zj:Meth K a.qd "hold" a.Yx
 xz:Fun K "replayed" "replayed" YK a.Jy a.JH
 Zr:Qj K a.JH ["rule","own","answers"] []
 ZH:mg "replayed"=some (.ref a.Jy)
 ju:Fun K "asks_that_stand" "asks_that_stand" QC a.yr a.yp
 xZ:Qj K a.yp ["machine","asks"] []
 xO:mg "asks_that_stand"=some (.ref a.yr)
 F_does:Fun K "does" "does" ZG a.f_does a.d_does
 b_does:Qj K a.d_does ["rule","own","run"] []
 m_does:mg "does"=some (.ref a.f_does)
 xh:Fun K "_law_cell_at" "_law_cell_at" yo a.YH a.YI
 wq:Qj K a.YI ["script","k"] []
 wm:mg "_law_cell_at"=some (.ref a.YH)
 zX:Fun K "_law_pot" "_law_pot" jo a.xf a.xk
 b_law_pot:Qj K a.xk ["cell","salt"] []
 m_law_pot:mg "_law_pot"=some (.ref a.xf)
 Qd:Fun K "_law_take" "_law_take" YQ a.yd a.yb
 Ql:Qj K a.yb ["pot","many"] []
 Qk:mg "_law_take"=some (.ref a.yd)
 Xo:Fun K "_law_longer" "_law_longer" yM a.ja a.jb
 b_law_longer:Qj K a.jb ["pot"] []
 m_law_longer:mg "_law_longer"=some (.ref a.ja)
 JD:Fun K "_law_word" "_law_word" YM a.jw a.jG
 Xa:Qj K a.jG ["pot","names"] []
 Xc:mg "_law_word"=some (.ref a.jw)
 ZM:Fun K "_law_line" "_law_line" Yf a.JL a.JK
 b_law_line:Qj K a.JK ["pot","names","many","k"] []
 m_law_line:mg "_law_line"=some (.ref a.JL)
 xY:Fun K "_law_rule" "_law_rule" Ye a.JM a.JA
 Zn:Qj K a.JA ["pot","names"] []
 ZE:mg "_law_rule"=some (.ref a.JM)
 ZF:Fun K "_law_back" "_law_back" YO a.JC a.JG
 b_law_back:Qj K a.JG ["pot","rule"] []
 m_law_back:mg "_law_back"=some (.ref a.JC)
 zL:Fun K "_law_names" "_law_names" Yk a.jN a.jZ
 b_law_names:Qj K a.jZ [] []
 m_law_names:mg "_law_names"=some (.ref a.jN)
 je:Fun K "_law_answer" "_law_answer" yO a.YA a.Yy
 Jr:Qj K a.Yy ["pot","ask","names"] []
 Jh:mg "_law_answer"=some (.ref a.YA)
 F_law_run:Fun K "_law_run" "_law_run" jt a.J6 a.xg
 b_law_run:Qj K a.xg ["pot","machine","names","other","most"] []
 m_law_run:mg "_law_run"=some (.ref a.J6)
 QN:Fun K "_law_stands" "_law_stands" yI a.YC a.YB
 Q3:Qj K a.YB ["machine"] []
 Q4:mg "_law_stands"=some (.ref a.YC)
 j8:Fun K "_law_beginnings" "_law_beginnings" QJ a.yD a.yA
 XI:Qj K a.yA ["rule","own","answers","machine"] []
 XM:mg "_law_beginnings"=some (.ref a.yD)
 Xv:Fun K "_law_parted" "_law_parted" yL a.jc a.jj
 b_law_parted:Qj K a.jj ["pot","rule","own","answers","names"] []
 m_law_parted:mg "_law_parted"=some (.ref a.jc)
 F_law:Fun K "law" "law" s_law a.f_law a.d_law
 b_law:Qj K a.d_law ["script"] []
 m_law:mg "law"=some (.ref a.f_law)
 qf:Cls K a.qd
 yx:Mk K a.qd a.Qv
 yy:mg "Machine"=some (.ref a.qd)
 Yv:YS K a.qd "rows"
 JP:YS K a.qd "rule"
 jV:YS K a.qd "own"
 Qo:YS K a.qd "boxes"
 Qg:YS K a.qd "place"
 Qz:YS K a.qd "done"
 yj:YS K a.qd "given"
 qB:YS K a.qd "there"
 e_law:∀(s:Shared) (u:Value),BindsTo s a.d_law ⟨[u],[]⟩ [("script",u)]
 m_MOST_SIGNS:∃t,mg "MOST_SIGNS"=some (.int 300 t)
 m_MOST_PARTS:∃t,mg "MOST_PARTS"=some (.int 40 t)
 m_MOST_SIZE:∃t,mg "MOST_SIZE"=some (.int 600 t)
 m_MOST_DEPTH:∃t,mg "MOST_DEPTH"=some (.int 12 t)
 xQ:∃t,mg "MOST_NAME_SIGNS"=some (.int 24 t)
 m_LETTERS:∃t,mg "LETTERS"=some (.str "abcdefghijklmnopqrstuvwxyz" t)
 m_NAME_SIGNS:∃t,mg "NAME_SIGNS"=some (.str "abcdefghijklmnopqrstuvwxyz0123456789./" t)
 m_PERCENT:∃t,mg "PERCENT"=some (.int 37 t)
 m_MOST_LINES:∃t,mg "MOST_LINES"=some (.int 40 t)
 m_MOST_DONE:∃t,mg "MOST_DONE"=some (.int 300 t)
 z_ord:mg "ord"=none
 yS:mg "len"=none
 qU:mg "isinstance"=none
 xL:mg "str"=none
 Yg:mg "tuple"=none
 z_all:mg "all"=none
 z_int:mg "int"=none
 jO:mg "range"=none
 z_zip:mg "zip"=none
 z_dict:mg "dict"=none
 z_list:mg "list"=none
 z_enumerate:mg "enumerate"=none
 z_abs:mg "abs"=none
 z_min:mg "min"=none
 z_sum:mg "sum"=none
theorem ZN:qz ["value","sign"] ["value"] (qh jA):=⟨rfl,rfl,rfl,by decide+kernel,rfl,by decide+kernel,by decide+kernel⟩
theorem yJ:qz ["value","size","waiting","pair","part","depth"] ["value"] (qh Y2):=⟨rfl,rfl,rfl,by decide+kernel,rfl,by decide+kernel,by decide+kernel⟩
theorem sc_is_name:qz ["value"] ["value"] (qh jp):=⟨rfl,rfl,rfl,by decide+kernel,rfl,by decide+kernel,by decide+kernel⟩
theorem J7:qz ["tree"] ["tree"] (qh QB):=⟨rfl,rfl,rfl,by decide+kernel,rfl,by decide+kernel,by decide+kernel⟩
theorem sc_is_answer:qz ["ask","answer"] ["ask","answer"] (qh Yp):=⟨rfl,rfl,rfl,by decide+kernel,rfl,by decide+kernel,by decide+kernel⟩
theorem ZP:qz ["kind","piece","count","numbers"] ["kind","piece","count"] (qh jI):=⟨rfl,rfl,rfl,by decide+kernel,rfl,by decide+kernel,by decide+kernel⟩
theorem sc_pieces_of:qz ["line","form"] ["line","form"] (qh Yd):=⟨rfl,rfl,rfl,by decide+kernel,rfl,by decide+kernel,by decide+kernel⟩
theorem Jj:qz ["line","count","word","form","pieces","parts"] ["line","count"] (qh jX):=⟨rfl,rfl,rfl,by decide+kernel,rfl,by decide+kernel,by decide+kernel⟩
theorem YG:qz ["value","rows","line","row"] ["value"] (qh yN):=⟨rfl,rfl,rfl,by decide+kernel,rfl,by decide+kernel,by decide+kernel⟩
theorem Xt:qz ["tree","read"] ["tree"] (qh Ym):=⟨rfl,rfl,rfl,by decide+kernel,rfl,by decide+kernel,by decide+kernel⟩
theorem sc_text_made:qz ["boxes","own","parts"] ["boxes","own","parts"] (qh Ys):=⟨rfl,rfl,rfl,by decide+kernel,rfl,by decide+kernel,by decide+kernel⟩
theorem sc_self_made:qz ["boxes","own","parts"] ["boxes","own","parts"] (qh Yn):=⟨rfl,rfl,rfl,by decide+kernel,rfl,by decide+kernel,by decide+kernel⟩
theorem sc_copy_made:qz ["boxes","own","parts"] ["boxes","own","parts"] (qh Yj):=⟨rfl,rfl,rfl,by decide+kernel,rfl,by decide+kernel,by decide+kernel⟩
theorem sc_row_made:qz ["boxes","own","parts"] ["boxes","own","parts"] (qh YR):=⟨rfl,rfl,rfl,by decide+kernel,rfl,by decide+kernel,by decide+kernel⟩
theorem zl:qz ["boxes","own","parts","row"] ["boxes","own","parts"] (qh YN):=⟨rfl,rfl,rfl,by decide+kernel,rfl,by decide+kernel,by decide+kernel⟩
theorem Jp:qz ["boxes","own","parts","one","other"] ["boxes","own","parts"] (qh Yh):=⟨rfl,rfl,rfl,by decide+kernel,rfl,by decide+kernel,by decide+kernel⟩
theorem xa:qz ["boxes","own","parts","whole"] ["boxes","own","parts"] (qh yK):=⟨rfl,rfl,rfl,by decide+kernel,rfl,by decide+kernel,by decide+kernel⟩
theorem Xm:qz ["boxes","own","parts","whole"] ["boxes","own","parts"] (qh Yr):=⟨rfl,rfl,rfl,by decide+kernel,rfl,by decide+kernel,by decide+kernel⟩
theorem sc_size_made:qz ["boxes","own","parts"] ["boxes","own","parts"] (qh Yc):=⟨rfl,rfl,rfl,by decide+kernel,rfl,by decide+kernel,by decide+kernel⟩
theorem J1:qz ["boxes","own","parts","whole","between"] ["boxes","own","parts"] (qh YL):=⟨rfl,rfl,rfl,by decide+kernel,rfl,by decide+kernel,by decide+kernel⟩
theorem Jf:qz ["boxes","own","parts","row","between"] ["boxes","own","parts"] (qh Yl):=⟨rfl,rfl,rfl,by decide+kernel,rfl,by decide+kernel,by decide+kernel⟩
theorem XF:qz ["boxes","word","parts"] ["boxes","word","parts"] (qh QU):=⟨rfl,rfl,rfl,by decide+kernel,rfl,by decide+kernel,by decide+kernel⟩
theorem xN:qz ["word","held"] ["word","held"] (qh QG):=⟨rfl,rfl,rfl,by decide+kernel,rfl,by decide+kernel,by decide+kernel⟩
theorem zz:qz ["self","rule","own"] ["self","rule","own"] (qh yc):=⟨rfl,rfl,rfl,by decide+kernel,rfl,by decide+kernel,by decide+kernel⟩
theorem Zb:qz ["self"] ["self"] (qh yn):=⟨rfl,rfl,rfl,by decide+kernel,rfl,by decide+kernel,by decide+kernel⟩
theorem jD:qz ["self","tree","ask"] ["self","tree"] (qh QK):=⟨rfl,rfl,rfl,by decide+kernel,rfl,by decide+kernel,by decide+kernel⟩
theorem XB:qz ["self"] ["self"] (qh Q0):=⟨rfl,rfl,rfl,by decide+kernel,rfl,by decide+kernel,by decide+kernel⟩
theorem XG:qz ["self"] ["self"] (qh QW):=⟨rfl,rfl,rfl,by decide+kernel,rfl,by decide+kernel,by decide+kernel⟩
theorem Ji:qz ["self","other"] ["self"] (qh ya):=⟨rfl,rfl,rfl,by decide+kernel,rfl,by decide+kernel,by decide+kernel⟩
theorem XD:qz ["self"] ["self"] (qh QZ):=⟨rfl,rfl,rfl,by decide+kernel,rfl,by decide+kernel,by decide+kernel⟩
theorem Jk:qz ["self"] ["self"] (qh Qp):=⟨rfl,rfl,rfl,by decide+kernel,rfl,by decide+kernel,by decide+kernel⟩
theorem Yo:qz ["self","row","word","parts"] ["self","row"] (qh QI):=⟨rfl,rfl,rfl,by decide+kernel,rfl,by decide+kernel,by decide+kernel⟩
theorem X0:qz ["self","box","tree"] ["self","box","tree"] (qh ye):=⟨rfl,rfl,rfl,by decide+kernel,rfl,by decide+kernel,by decide+kernel⟩
theorem j6:qz ["rule","own","answers","machine","used"] ["rule","own","answers"] (qh YK):=⟨rfl,rfl,rfl,by decide+kernel,rfl,by decide+kernel,by decide+kernel⟩
theorem yX:qz ["machine","asks","count","pair"] ["machine","asks"] (qh QC):=⟨rfl,rfl,rfl,by decide+kernel,rfl,by decide+kernel,by decide+kernel⟩
theorem sc_does:qz ["rule","own","run","machine"] ["rule","own","run"] (qh ZG):=⟨rfl,rfl,rfl,by decide+kernel,rfl,by decide+kernel,by decide+kernel⟩
theorem Zl:qz ["script","k"] ["script","k"] (qh yo):=⟨rfl,rfl,rfl,by decide+kernel,rfl,by decide+kernel,by decide+kernel⟩
theorem YJ:qz ["cell","salt","step","big","k"] ["cell","salt"] (qh jo):=⟨rfl,rfl,rfl,by decide+kernel,rfl,by decide+kernel,by decide+kernel⟩
theorem X3:qz ["pot","many","digit"] ["pot","many"] (qh YQ):=⟨rfl,rfl,rfl,by decide+kernel,rfl,by decide+kernel,by decide+kernel⟩
theorem QO:qz ["pot","step","top","big","k"] ["pot"] (qh yM):=⟨rfl,rfl,rfl,by decide+kernel,rfl,by decide+kernel,by decide+kernel⟩
theorem X4:qz ["pot","names","some"] ["pot","names"] (qh YM):=⟨rfl,rfl,rfl,by decide+kernel,rfl,by decide+kernel,by decide+kernel⟩
theorem yF:qz ["pot","names","many","k","words","word","one","two","three","at"] ["pot","names","many","k"] (qh Yf):=⟨rfl,rfl,rfl,by decide+kernel,rfl,by decide+kernel,by decide+kernel⟩
theorem YT:qz ["pot","names","body","many","lines"] ["pot","names"] (qh Ye):=⟨rfl,rfl,rfl,by decide+kernel,rfl,by decide+kernel,by decide+kernel⟩
theorem JW:qz ["pot","rule","at","word"] ["pot","rule"] (qh YO):=⟨rfl,rfl,rfl,by decide+kernel,rfl,by decide+kernel,by decide+kernel⟩
theorem sc_law_names:qz [] [] (qh Yk):=⟨rfl,rfl,rfl,by decide+kernel,rfl,by decide+kernel,by decide+kernel⟩
theorem J9:qz ["pot","ask","names","some"] ["pot","ask","names"] (qh yO):=⟨rfl,rfl,rfl,by decide+kernel,rfl,by decide+kernel,by decide+kernel⟩
theorem jH:qz ["pot","machine","names","other","most","answers","turn","tree"] ["pot","machine","names","other","most"] (qh jt):=⟨rfl,rfl,rfl,by decide+kernel,rfl,by decide+kernel,by decide+kernel⟩
theorem wp:qz ["machine"] ["machine"] (qh yI):=⟨rfl,rfl,rfl,by decide+kernel,rfl,by decide+kernel,by decide+kernel⟩
theorem QX:qz ["rule","own","answers","machine","k","ask","run"] ["rule","own","answers","machine"] (qh QJ):=⟨rfl,rfl,rfl,by decide+kernel,rfl,by decide+kernel,by decide+kernel⟩
theorem Qh:qz ["pot","rule","own","answers","names","at","machine","first","tree","second","turn","third","ask","held"] ["pot","rule","own","answers","names"] (qh yL):=⟨rfl,rfl,rfl,by decide+kernel,rfl,by decide+kernel,by decide+kernel⟩
theorem YF:qz ["script","names","between","k","pot","rule","own","machine","other","answers","fresh","ask","tree","again"] ["script"] (qh s_law):=⟨rfl,rfl,rfl,by decide+kernel,rfl,by decide+kernel,by decide+kernel⟩
structure Ga where
 (boxes asking forms makers:Addr)
def NOMK:List Str:= ["ask","has","names","go","like","rowed","none","say","fault"]
structure Fx (K:PySem.W.Frag)(w:World)(mg:Str→Option Value)(g:Ga)(a:Ad):Prop where
 m_BOXES:mg "BOXES"=some (.ref g.boxes)
 m_ASKING:mg "ASKING"=some (.ref g.asking)
 m_FORMS:mg "FORMS"=some (.ref g.forms)
 m_MAKERS:mg "MAKERS"=some (.ref g.makers)
 boxes:∀H,SqT K H g.boxes (BX.map V.str)
 asking:∀H,SqT K H g.asking [.str "ask",.str "has",.str "names"]
 kd:KDict K w g.forms
 forms:∀x∈FRM,∃q,PySem.W.nsIn K g.forms x.1=some (some (.ref q))∧∀H,SqT K H q (x.2.map fun k=>V.str k.t)
 km:KDict K w g.makers
 k_text:PySem.W.nsIn K g.makers "text"=some (some (.ref a.YX))
 k_self:PySem.W.nsIn K g.makers "self"=some (some (.ref a.YY))
 k_copy:PySem.W.nsIn K g.makers "copy"=some (some (.ref a.YU))
 k_row:PySem.W.nsIn K g.makers "row"=some (some (.ref a.jy))
 k_put:PySem.W.nsIn K g.makers "put"=some (some (.ref a.jE))
 k_join:PySem.W.nsIn K g.makers "join"=some (some (.ref a.YV))
 k_first:PySem.W.nsIn K g.makers "first"=some (some (.ref a.Yz))
 k_rest:PySem.W.nsIn K g.makers "rest"=some (some (.ref a.YZ))
 k_size:PySem.W.nsIn K g.makers "size"=some (some (.ref a.Y1))
 k_cut:PySem.W.nsIn K g.makers "cut"=some (some (.ref a.jB))
 k_glue:PySem.W.nsIn K g.makers "glue"=some (some (.ref a.Y5))
 k_no:∀z∈NOMK,PySem.W.nsIn K g.makers z=some none
def PotB (m:Nat)(H:Hp)(p:Addr):Prop:=∃x:Int,H p=some (.lst [.int x])∧0≤x∧intBits x≤m
def QD (H:Hp)(p:Addr):Prop:=∃x:Int,H p=some (.lst [.int x])∧0≤x
theorem PotB.at {m:Nat}{H:Hp}{p:Addr}(h:PotB m H p):QD H p:=let⟨x,e,r,_⟩:=h;⟨x,e,r⟩
theorem QD.same {H H':Hp}{p:Addr}(h:QD H p)(s:Same H H'):QD H' p:=by
 obtain⟨x,e,r⟩:=h
 exact⟨x,s _ _ e,r⟩
theorem QD.free {H:Hp}{p l:Addr}(h:QD H p)(n:H l=none):p≠l:=by
 obtain⟨x,e,r⟩:=h
 exact ql e n
theorem QD.tk {H H':Hp}{p:Addr}(h:QD H p)(h':QD H' p)(k:Kept p H H'):Tk H H':=by
 obtain⟨x,e,_⟩:=h
 obtain⟨x',e',_⟩:=h'
 exact k.tk e e'
def MB:Nat:=1048576
def Ju:Sp:=fun vs H Q _=>∃(p:Addr) (many:Int),vs= [.ref p,.int many]∧QD H p∧0<many∧many<1073741824∧∀(d:Int) (H':Hp),0≤d→d<many→QD H' p→Kept p H H'→(PotB MB H p→PotB MB H' p)→Q (.int d) H'
def sp_pot:Sp:=fun vs H Q _=>∃(c t:Int),vs= [.int c,.int t]∧intBits c≤MB∧0≤t∧t<1000∧∀(p:Addr) (H':Hp),H p=none→Same H H'→PotB MB H' p→Q (.ref p) H'
def sp_cell (K:PySem.W.Frag):Sp:=fun vs H Q _=>∃(q:Addr) (ns:List Int) (k:Nat),vs= [.ref q,.int (k:Int)]∧SqL K H q (ns.map V.int)∧(∀x∈ns,intBits x≤MB)∧∀x:Int,intBits x≤MB→Q (.int x) H
def sp_longer:Sp:=fun vs H Q _=>∃p:Addr,vs= [.ref p]∧PotB MB H p∧∀H',QD H' p→Kept p H H'→Q .non H'
theorem yg {n:Nat}(h:n≤1000):n≤sizeLine:=Nat.le_of_lt (zR h)
theorem fits {n:Nat}(h:n≤16000000):n≤sizeLine:=by rw [sizeLine_eq];omega
theorem mulL {i j:Int}(h1: -(2^64)<i)(h2:i<2^64):IntMulOk i j:=CMul.ok (.inl ⟨h1,h2⟩)
theorem mulR {i j:Int}(h1: -(2^64)<j)(h2:j<2^64):IntMulOk i j:=CMul.ok (.inr ⟨h1,h2⟩)
theorem zh {α:Type}{xs:List α}{i:Int}{c:α}(h:atI xs i=some c):c∈xs:=by
 unfold atI at h
 obtain⟨j,_,e⟩:=Option.bind_eq_some_iff.mp h
 exact List.mem_of_getElem? e
theorem big_bits {n:Nat}{b s:Int}(hb:0≤b)(h:intBits b≤32*n)(s0:0≤s)(s1:s<2147483629):intBits (b*2147483629+s)≤32*(n+1):=by
 have h1:=intBits_le_iff.mp h
 refine intBits_le_iff.mpr ?_
 have e:(2:Nat)^(32*(n+1))=2^(32*n)*4294967296:=by rw [Nat.mul_add,Nat.pow_add]
 rw [e]
 generalize 2^(32*n)=N at h1
 omega
section
variable {P:Program}{w:World}{K:PySem.W.Frag}{mg:Str→Option Value}{base:Heap}{a:Ad}
theorem JX (T:Tx K mg a):FnOk P w K mg base CX0 1 a.yd a.yb ["pot","many"] Ju:=by
 refine T.Qd.ok X3 (fun vs H Q E h=> ?_) (fun cdv A outer s H vs Q E hr h=> ?_)
 ·obtain⟨p,many,rfl,_⟩:=h
  rfl
 obtain⟨p,many,rfl,⟨x,hp,hx⟩,hm,hm2,k⟩:=h
 refine⟨_,(@qb _ _ _ _ _ (@qx _ _ (2) _ _ _ _ X3.nd rfl (Or.inl rfl) (@Qa _ _ _ _ _ _ _ _ (@Zt _) (@qQ _ _ _ _ _ _ _ (@Yq _) (pv 0) (@qi _ _ _ _) (fun _ _=>rfl)) (pv 1)) (by trivial) (by trivial)) (@qb _ _ _ _ _ (@ps_asg _ _ _ _ _ _ (@Qa _ _ _ _ _ _ _ _ (@op_fdiv _) (@qQ _ _ _ _ _ _ _ (@Yq _) (pv 0) (@qi _ _ _ _) (fun _ _=>rfl)) (pv 1)) (@pg_sub _ _ _ _ _ _ _ (pv 0) (@qi _ _ _ _) (@set_list _) (by trivial)) (by trivial) (by trivial) (by trivial)) (@qg _ _ _ (@qm _ _ _ _ (pv 2))))),?_⟩
 refine⟨_,rfl,p,_,_,_,rfl,rfl,SqL.of hp,rfl,_,rfl,_,_,rfl,rfl,hm,?_⟩
 refine⟨_,rfl,p,_,_,_,rfl,rfl,SqL.of hp,rfl,_,rfl,_,_,rfl,rfl,⟨hm,hm2⟩,_,rfl,p,_,_,_,rfl,rfl,hp,rfl,?_⟩
 refine⟨_,rfl,?_⟩
 refine k _ _ (Int.emod_nonneg _ (by omega)) (Int.emod_lt_of_pos _ hm) ⟨x/many,qj,Int.ediv_nonneg hx (by omega)⟩ (Kept.upd _ _ _) fun⟨y,hy,hy0,hb⟩=>⟨x/many,qj,Int.ediv_nonneg hx (by omega),?_⟩
 have e:=hy.symm.trans hp
 cases e
 refine intBits_le_of_natAbs ?_ hb
 have h1:x/many≤x:=Int.ediv_le_self _ hx
 have h2:0≤x/many:=Int.ediv_nonneg hx (by omega)
 omega
theorem ok_pot (T:Tx K mg a):FnOk P w K mg base CX0 1 a.xf a.xk ["cell","salt"] sp_pot:=by
 refine T.zX.ok YJ (fun vs H Q E h=> ?_) (fun cdv A outer s H vs Q E hr h=> ?_)
 ·obtain⟨c,t,rfl,_⟩:=h
  rfl
 obtain⟨c,t,rfl,hc,h0,h1,k⟩:=h
 refine⟨_,(@qb _ _ _ _ _ (@qY _ _ _ _ _ _ _ _ (@qo _ _ _ _ _ _ _ _ (@op_ge _) (@qp _ _ _ _ _ _ _ _ _ (@call_abs _) (by rfl) T.z_abs boot_abs (@qa _ _ _ _ _ (pv 0) (@qc _) (by trivial)) (by trivial) (by trivial) (by trivial) (by trivial)) (@Qa _ _ _ _ _ _ _ _ (@op_pow _) (@qi _ _ _ _) (@qi _ _ _ _)) (qF _)) (@qg _ _ _ (@qm _ _ _ _ (@yH _ _ _ _ (@qa _ _ _ _ _ (@qp _ _ _ _ _ _ _ _ _ (@call_abs _) (by rfl) T.z_abs boot_abs (@qa _ _ _ _ _ (pv 0) (@qc _) (by trivial)) (by trivial) (by trivial) (by trivial) (by trivial)) (@qc _) (by trivial))))) (@qt _)) (@qb _ _ _ _ _ (@qx _ _ (2) _ _ _ _ YJ.nd rfl (Or.inl rfl) (@Qa _ _ _ _ _ _ _ _ (@Zt _) (@Qa _ _ _ _ _ _ _ _ (@op_mul _) (@Qa _ _ _ _ _ _ _ _ (@Q8 _) (@Qa _ _ _ _ _ _ _ _ (@Q8 _) (@Qa _ _ _ _ _ _ _ _ (@Zt _) (pv 0) (@qi _ _ _ _)) (@Qa _ _ _ _ _ _ _ _ (@op_mul _) (@qi _ _ _ _) (pv 1))) (@qi _ _ _ _)) (@qi _ _ _ _)) (@qi _ _ _ _)) (by trivial) (by trivial)) (@qb _ _ _ _ _ (@qx _ _ (3) _ _ _ _ YJ.nd rfl (Or.inl rfl) (@qi _ _ _ _) (by trivial) (by trivial)) (@qb _ _ _ _ _ (@jf _ _ _ _ _ _ _ _ PassesOwn.never rfl (@YE _ _ _ _ _ _ (by rfl) T.jO (@qa _ _ _ _ _ (@qi _ _ _ _) (@qc _) (by trivial)) (by trivial)) (@Qm _ _ (4) _ YJ.nd rfl (Or.inl rfl) (by trivial)) (@qb _ _ _ _ _ (@qx _ _ (2) _ _ _ _ YJ.nd rfl (Or.inl rfl) (@Qa _ _ _ _ _ _ _ _ (@Zt _) (@Qa _ _ _ _ _ _ _ _ (@Q8 _) (@Qa _ _ _ _ _ _ _ _ (@Q8 _) (@Qa _ _ _ _ _ _ _ _ (@op_mul _) (pv 2) (pv 2)) (@Qa _ _ _ _ _ _ _ _ (@op_mul _) (@qi _ _ _ _) (pv 4))) (@qi _ _ _ _)) (@qi _ _ _ _)) (by trivial) (by trivial)) (@qg _ _ _ (@qx _ _ (3) _ _ _ _ YJ.nd rfl (Or.inl rfl) (@Qa _ _ _ _ _ _ _ _ (@Q8 _) (@Qa _ _ _ _ _ _ _ _ (@op_mul _) (pv 3) (@qi _ _ _ _)) (pv 2)) (by trivial) (by trivial)))) (by trivial)) (@qg _ _ _ (@qm _ _ _ _ (@yH _ _ _ _ (@qa _ _ _ _ _ (pv 3) (@qc _) (by trivial))))))))),?_⟩
 refine⟨_,rfl,_,rfl,_,_,rfl,rfl,⟨by decide,by decide,by decide⟩,_,_,rfl,rfl,_,rfl,?_⟩
 refine ite2 (fun _=> ?_) (fun _=> ?_)
 ·refine⟨_,rfl,_,rfl,(by show 1≤sizeLine;decide),fun p hp=> ?_⟩
  refine k p _ hp (qe hp _) ⟨_,qj,?_,?_⟩
  ·split<;>omega
  ·refine intBits_le_of_natAbs ?_ hc
   split<;>omega
 ·refine⟨_,rfl,_,_,rfl,rfl,(by show(0:Int)<2147483647;decide),_,rfl,_,_,rfl,rfl,(.inl ⟨by decide,by decide⟩),_,_,rfl,rfl,_,_,rfl,rfl,_,_,rfl,rfl,(.inr ⟨by decide,by decide⟩),_,_,rfl,rfl,(by show(0:Int)<2147483647;decide),9,rfl,by decide,by decide,?_⟩
  refine jv (n:=9) (fun i σ H'=>∃(x b:Int) (kv:Option V),σ= [some (.int c),some (.int t),some (.int x),some (.int b),kv]∧0≤x∧x<2147483647∧0≤b∧intBits b≤32*i∧H'=H) ⟨_,_,none,rfl,Int.emod_nonneg _ (by decide),Int.emod_lt_of_pos _ (by decide),by decide,by decide,rfl⟩ ?_ ?_
  ·rintro i σ H' hi ⟨x,b,kv,rfl,hx0,hx1,hb,hbb,rfl⟩
   have hmul:CMul x x:= .inl ⟨by omega,by omega⟩
   refine⟨_,rfl,_,rfl,_,_,rfl,rfl,hmul,_,rfl,_,_,rfl,rfl,(.inl ⟨by decide,by decide⟩),_,_,rfl,rfl,_,_,rfl,rfl,_,_,rfl,rfl,(by show(0:Int)<2147483629;decide),_,rfl,_,_,rfl,rfl,(.inr ⟨by decide,by decide⟩),_,rfl,_,_,rfl,rfl,?_⟩
   have q0:0≤(x*x+40692*(0+(i:Int))+3)%2147483629:=Int.emod_nonneg _ (by decide)
   have q1:(x*x+40692*(0+(i:Int))+3)%2147483629<2147483629:=Int.emod_lt_of_pos _ (by decide)
   exact⟨_,_,_,rfl,q0,Int.lt_trans q1 (by decide),Int.add_nonneg (Int.mul_nonneg hb (by decide)) q0,big_bits hb hbb q0 q1,rfl⟩
  ·rintro σ H' ⟨x,b,kv,rfl,hx0,hx1,hb,hbb,rfl⟩
   exact⟨_,rfl,(by show 1≤sizeLine;decide),fun p hp=>k p _ hp (qe hp _) ⟨_,qj,hb,Nat.le_trans hbb (by decide)⟩⟩
theorem ok_cell (T:Tx K mg a):FnOk P w K mg base CX0 1 a.YH a.YI ["script","k"] (sp_cell K):=by
 refine T.xh.ok Zl (fun vs H Q E h=> ?_) (fun cdv A outer s H vs Q E hr h=> ?_)
 ·obtain⟨q,ns,i,rfl,_⟩:=h
  rfl
 obtain⟨q,ns,i,rfl,hq,hb,k⟩:=h
 refine⟨_,(@qb _ _ _ _ _ (@qY _ _ _ _ _ _ _ _ (@qo _ _ _ _ _ _ _ _ (@op_lt _) (pv 1) (@qp _ _ _ _ _ _ _ _ _ (@qE _) (by rfl) T.yS PySem.boot_len (@qa _ _ _ _ _ (pv 0) (@qc _) (by trivial)) (by trivial) (by trivial) (by trivial) (by trivial)) (qF _)) (@qg _ _ _ (@qm _ _ _ _ (@qQ _ _ _ _ _ _ _ (@Yq _) (pv 0) (pv 1) (fun _ _=>rfl)))) (@qt _)) (@qg _ _ _ (@qm _ _ _ _ (@qi _ _ _ _)))),?_⟩
 refine⟨_,rfl,_,rfl,q,_,rfl,.inl hq,_,_,rfl,rfl,_,rfl,?_⟩
 refine ite2 (fun c=> ?_) (fun c=> ?_)
 ·have c':(i:Int)<((ns.map V.int).length:Int):=of_decide_eq_true c
  obtain⟨v,hv⟩:=xr (by omega) c'
  obtain⟨y,hy,rfl⟩:=List.mem_map.mp (zh hv)
  exact⟨_,rfl,_,rfl,q,_,_,_,rfl,rfl,hq,hv,k _ (hb _ hy)⟩
 ·exact k 0 (by decide)
theorem ok_longer (T:Tx K mg a):FnOk P w K mg base CX0 1 a.ja a.jb ["pot"] sp_longer:=by
 refine T.Xo.ok QO (fun vs H Q E h=> ?_) (fun cdv A outer s H vs Q E hr h=> ?_)
 ·obtain⟨p,rfl,_⟩:=h
  rfl
 obtain⟨p,rfl,⟨x,hp,hx,hbx⟩,k⟩:=h
 refine⟨_,(@qb _ _ _ _ _ (@qx _ _ (1) _ _ _ _ QO.nd rfl (Or.inl rfl) (@Qa _ _ _ _ _ _ _ _ (@Q8 _) (@Qa _ _ _ _ _ _ _ _ (@Zt _) (@qQ _ _ _ _ _ _ _ (@Yq _) (pv 0) (@qi _ _ _ _) (fun _ _=>rfl)) (@qi _ _ _ _)) (@qi _ _ _ _)) (by trivial) (by trivial)) (@qb _ _ _ _ _ (@qx _ _ (2) _ _ _ _ QO.nd rfl (Or.inl rfl) (@qi _ _ _ _) (by trivial) (by trivial)) (@qb _ _ _ _ _ (@XO _ _ _ _ _ _ PassesOwn.never (@qo _ _ _ _ _ _ _ _ (@op_le _) (pv 2) (@qQ _ _ _ _ _ _ _ (@Yq _) (pv 0) (@qi _ _ _ _) (fun _ _=>rfl)) (qF _)) (@qg _ _ _ (@qx _ _ (2) _ _ _ _ QO.nd rfl (Or.inl rfl) (@Qa _ _ _ _ _ _ _ _ (@zj _) (pv 2) (@qi _ _ _ _)) (by trivial) (by trivial)))) (@qb _ _ _ _ _ (@qx _ _ (3) _ _ _ _ QO.nd rfl (Or.inl rfl) (@qi _ _ _ _) (by trivial) (by trivial)) (@qb _ _ _ _ _ (@jf _ _ _ _ _ _ _ _ PassesOwn.never rfl (@YE _ _ _ _ _ _ (by rfl) T.jO (@qa _ _ _ _ _ (@qi _ _ _ _) (@qc _) (by trivial)) (by trivial)) (@Qm _ _ (4) _ QO.nd rfl (Or.inl rfl) (by trivial)) (@qb _ _ _ _ _ (@qx _ _ (1) _ _ _ _ QO.nd rfl (Or.inl rfl) (@Qa _ _ _ _ _ _ _ _ (@Zt _) (@Qa _ _ _ _ _ _ _ _ (@Q8 _) (@Qa _ _ _ _ _ _ _ _ (@Q8 _) (@Qa _ _ _ _ _ _ _ _ (@zj _) (pv 1) (pv 1)) (@Qa _ _ _ _ _ _ _ _ (@zj _) (@qi _ _ _ _) (pv 4))) (@qi _ _ _ _)) (@qi _ _ _ _)) (by trivial) (by trivial)) (@qg _ _ _ (@qx _ _ (3) _ _ _ _ QO.nd rfl (Or.inl rfl) (@Qa _ _ _ _ _ _ _ _ (@Q8 _) (@Qa _ _ _ _ _ _ _ _ (@zj _) (pv 3) (@qi _ _ _ _)) (pv 1)) (by trivial) (by trivial)))) (by trivial)) (@qg _ _ _ (@ps_asg _ _ _ _ _ _ (@Qa _ _ _ _ _ _ _ _ (@Q8 _) (@qQ _ _ _ _ _ _ _ (@Yq _) (pv 0) (@qi _ _ _ _) (fun _ _=>rfl)) (@Qa _ _ _ _ _ _ _ _ (@zj _) (pv 2) (pv 3))) (@pg_sub _ _ _ _ _ _ _ (pv 0) (@qi _ _ _ _) (@set_list _) (by trivial)) (by trivial) (by trivial) (by trivial)))))))),?_⟩
 refine⟨_,rfl,p,_,_,_,rfl,rfl,SqL.of hp,rfl,_,_,rfl,rfl,(by show(0:Int)<2147483647;decide),_,_,rfl,rfl,?_⟩
 have s0:0≤x%2147483647+17:=Int.add_nonneg (Int.emod_nonneg _ (by decide)) (by decide)
 have s1:x%2147483647+17<2147483664:=by have:=Int.emod_lt_of_pos x (show(0:Int)<2147483647 by decide);omega
 refine⟨fun m σ H'=>∃t:Int,σ= [some (.ref p),some (.int (x%2147483647+17)),some (.int t),none,none]∧1≤t∧(t=1∨∃u,0≤u∧u≤x∧t=u*2147483629)∧H'=H∧m=(x+1-t).toNat,⟨_,1,rfl,by decide,.inl rfl,rfl,rfl⟩,?_⟩
 ·rintro m σ H' ⟨t,rfl,ht,hu,rfl,rfl⟩
  refine⟨_,rfl,_,rfl,p,_,_,_,rfl,rfl,SqL.of hp,rfl,_,_,rfl,rfl,_,rfl,?_⟩
  refine ite2 (fun c=> ?_) (fun c=> ?_)
  ·have c':t≤x:=of_decide_eq_true c
   refine⟨fun σ' H2=>σ'= [some (.ref p),some (.int (x%2147483647+17)),some (.int (t*2147483629)),none,none]∧H2=H',?_,?_⟩
   ·rintro σ' H2 ⟨rfl,rfl⟩
    exact⟨_,by show(x+1-t*2147483629).toNat<(x+1-t).toNat;omega,_,rfl,by omega,.inr ⟨t,by omega,c',rfl⟩,rfl,rfl⟩
   ·exact⟨_,rfl,_,_,rfl,rfl,mulR (by decide) (by decide),rfl,rfl⟩
  ·have bt:intBits t≤MB+32:=by
    rcases hu with rfl|⟨u,u0,u1,rfl⟩
    ·exact Nat.le_trans (by decide:intBits 1≤1) (by decide)
    ·exact intBits_mul_le (intBits_le_of_natAbs (by omega) hbx) (by decide)
   refine⟨27,rfl,by decide,by decide,?_⟩
   refine jv (n:=27) (fun i σ H2=>∃(y b:Int) (kv:Option V),σ= [some (.ref p),some (.int y),some (.int t),some (.int b),kv]∧0≤y∧y<2147483664∧0≤b∧intBits b≤32*i∧H2=H') ⟨_,_,none,rfl,s0,s1,by decide,by decide,rfl⟩ ?_ ?_
   ·rintro i σ H2 hi ⟨y,b,kv,rfl,hx0,hx1,hb,hbb,rfl⟩
    refine⟨_,rfl,_,rfl,_,_,rfl,rfl,mulL (by omega) (by omega),_,rfl,_,_,rfl,rfl,mulL (by decide) (by decide),_,_,rfl,rfl,_,_,rfl,rfl,_,_,rfl,rfl,(by show(0:Int)<2147483629;decide),_,rfl,_,_,rfl,rfl,mulR (by decide) (by decide),_,rfl,_,_,rfl,rfl,?_⟩
    have q0:0≤(y*y+40692*(0+(i:Int))+3)%2147483629:=Int.emod_nonneg _ (by decide)
    have q1:(y*y+40692*(0+(i:Int))+3)%2147483629<2147483629:=Int.emod_lt_of_pos _ (by decide)
    exact⟨_,_,_,rfl,q0,Int.lt_trans q1 (by decide),Int.add_nonneg (Int.mul_nonneg hb (by decide)) q0,big_bits hb hbb q0 q1,rfl⟩
   ·rintro σ H2 ⟨y,b,kv,rfl,hx0,hx1,hb,hbb,rfl⟩
    refine⟨_,rfl,p,_,_,_,rfl,rfl,SqL.of hp,rfl,_,rfl,_,rfl,_,_,rfl,rfl,mulOk_of_bits bt hbb (by decide),_,_,rfl,rfl,_,rfl,p,_,_,_,rfl,rfl,hp,rfl,?_⟩
    exact k _ ⟨_,qj,Int.add_nonneg hx (Int.mul_nonneg (by omega) hb)⟩ (Kept.upd _ _ _)
end
end K14
namespace K14
open PySem L2 PyProof.Rows
theorem zm {z:Str}(h:300<z.length):Ya z=false:=by
 unfold Ya
 rw [decide_eq_false (by omega)]
 rfl
def isTx:D→Bool
 | .str z=>Ya z
 |_=>false
def xM:Sp:=fun vs H Q _=>∃v d,vs= [v]∧Is H d v∧Q (.bl (isTx d)) H
def JJ:Sp:=fun vs H Q _=>∃v d,vs= [v]∧Is H d v∧∀H',Same H H'→Q (.bl (isT d)) H'
def pr (p:D×Nat):D:= .tup [p.1,.int (p.2:Int)]
theorem okText_bad {z:Str}{i c:Nat}(h:z.cps[i]? =some c)(hc:yu c=false):Ya z=false:=by
 unfold Ya
 have hm:c∈z.cps.toList:=by
  have:z.cps.toList[i]? =some c:=by simpa using h
  exact List.mem_of_getElem? this
 have:z.cps.toList.all yu=false:=by
  rw [List.all_eq_false]
  exact⟨c,hm,by rw [hc];exact Bool.false_ne_true⟩
 rw [this,Bool.and_false]
section
variable {P:Program}{w:World}{K:PySem.W.Frag}{mg:Str→Option Value}{base:Heap}{a:Ad}
theorem Zq (T:Tx K mg a):FnOk P w K mg base CX0 1 a.Jm a.Jn ["value"] xM:=by
 refine T.zg.ok ZN (fun vs H Q E h=> ?_) (fun cdv A outer s H vs Q E hr h=> ?_)
 ·obtain⟨v,d,rfl,_⟩:=h
  rfl
 obtain⟨v,d,rfl,hv,k⟩:=h
 refine⟨_,(@qb _ _ _ _ _ (@qY _ _ _ _ _ _ _ _ (@xl _ _ _ _ _ _ _ (@yi _ _ _ _ (@QY _ _ _ (@qp _ _ _ _ _ _ _ _ _ (@Qi _ _ rfl) (by rfl) T.qU boot_isinstance (@qa _ _ _ _ _ (pv 0) (@qa _ _ _ _ _ (@yG _ _ (.ty "str") _ _ (by rfl) T.xL boot_str rfl (by trivial) (by trivial)) (@qc _) (by trivial)) (by trivial)) (by trivial) (by trivial) (by trivial) (by trivial)) (by trivial))) (@Ja _ _ _ _ (@qo _ _ _ _ _ _ _ _ (@op_gt _) (@qp _ _ _ _ _ _ _ _ _ (@Xr _) (by rfl) T.yS PySem.boot_len (@qa _ _ _ _ _ (pv 0) (@qc _) (by trivial)) (by trivial) (by trivial) (by trivial) (by trivial)) (@pe_gI _ _ _ _ (by rfl) T.m_MOST_SIGNS (by trivial)) (qF _)))).pt (@qg _ _ _ (@qm _ _ _ _ (@Y8 _ _ _ _))) (@qt _)) (@qb _ _ _ _ _ (@jf _ _ _ _ _ _ _ _ PassesOwn.never rfl (@pi_str _ _ _ _ (pv 0)) (@Qm _ _ (1) _ ZN.nd rfl (Or.inl rfl) (by trivial)) (@qg _ _ _ (@qY _ _ _ _ _ _ _ _ (@xl _ _ _ _ _ _ _ (@qo _ _ _ _ _ _ _ _ (@op_lt_str _) (pv 1) (@qk _ _ _ _) (qF _)) (@xl _ _ _ _ _ _ _ (@qo _ _ _ _ _ _ _ _ (@op_gt_str _) (pv 1) (@qk _ _ _ _) (qF _)) (@Ja _ _ _ _ (@qo _ _ _ _ _ _ _ _ (@y0 _) (@qp _ _ _ _ _ _ _ _ _ (@call_ord _) (by rfl) T.z_ord boot_ord (@qa _ _ _ _ _ (pv 1) (@qc _) (by trivial)) (by trivial) (by trivial) (by trivial) (by trivial)) (@pe_gI _ _ _ _ (by rfl) T.m_PERCENT (by trivial)) (qF _))))).pt (@qg _ _ _ (@qm _ _ _ _ (@Y8 _ _ _ _))) (@qt _))) (by trivial)) (@qg _ _ _ (@qm _ _ _ _ (@Y8 _ _ _ _))))),?_⟩
 refine⟨_,rfl,v,"str",tyD d,Y3 d,rfl,hv.ty,jS d,_,rfl,?_⟩
 cases d with
 |str z=>
  obtain⟨rfl,hz⟩:=hv
  refine iteF ?_
  refine⟨_,rfl,z,rfl,hz,_,_,rfl,rfl,_,rfl,?_⟩
  refine ite2 (fun c=> ?_) (fun c=> ?_)
  ·have c':(300:Int)<(z.length:Int):=of_decide_eq_true c
   have e:isTx (.str z)=false:=zm (by omega)
   rw [e] at k
   exact k
  ·have c':¬(300:Int)<(z.length:Int):=fun q=>c (decide_eq_true q)
   refine⟨_,rfl,z,rfl,?_⟩
   refine for_str (fun i σ H'=>(∃x,σ= [some (.str z),x])∧H'=H∧(z.cps.toList.take i).all yu=true) ⟨⟨_,rfl⟩,rfl,rfl⟩ ?_ ?_
   ·rintro i c σ H' hc ⟨⟨x,rfl⟩,rfl,hall⟩
    have bad:yu c=false→Q (.bl false) H':=fun e=>by
     have e':isTx (.str z)=false:=okText_bad hc e
     rw [e'] at k
     exact k
    refine⟨_,rfl,_,_,rfl,rfl,_,rfl,?_⟩
    rw [show decide ((⟨#[c]⟩:Str).cps.toList<(" ":Str).cps.toList)=decide (c<32) from lt_one c 32]
    refine ite2 (fun c1=> ?_) (fun c1=> ?_)
    ·refine iteT (bad ?_)
     have:=of_decide_eq_true c1
     unfold yu
     rw [decide_eq_false (by omega)]
     rfl
    ·have c1':¬c<32:=fun q=>c1 (decide_eq_true q)
     refine⟨_,rfl,_,_,rfl,rfl,_,rfl,?_⟩
     rw [show decide (("~":Str).cps.toList<(⟨#[c]⟩:Str).cps.toList)=decide (126<c) from one_gt c 126]
     refine ite2 (fun c2=> ?_) (fun c2=> ?_)
     ·refine iteT (bad ?_)
      have:=of_decide_eq_true c2
      unfold yu
      rw [decide_eq_false (p:=c≤126) (by omega),Bool.and_false]
      rfl
     ·have c2':¬126<c:=fun q=>c2 (decide_eq_true q)
      refine⟨_,rfl,_,rfl,rfl,rfl,_,rfl,?_⟩
      refine ite2 (fun c3=> ?_) (fun c3=> ?_)
      ·have c3':c=37:=by
        have:=of_decide_eq_true c3
        have:=V.int.inj this
        exact Int.ofNat.inj this
       exact bad (by subst c3';rfl)
      ·have c3':c≠37:=fun q=>c3 (decide_eq_true (by rw [q];rfl))
       refine⟨⟨_,rfl⟩,rfl,?_⟩
       rw [List.take_add_one,show z.cps.toList[i]? =some c by simpa using hc,List.all_append,hall]
       show(true&&(yu c&&true))=true
       unfold yu
       rw [decide_eq_true (by omega),decide_eq_true (p:=c≤126) (by omega),decide_eq_true c3']
       rfl
   ·rintro σ H' ⟨⟨x,rfl⟩,rfl,hall⟩
    have e:isTx (.str z)=true:=by
     show Ya z=true
     unfold Ya
     rw [List.take_of_length_le (by simp)] at hall
     rw [hall,decide_eq_true (by omega)]
     rfl
    rw [e] at k
    exact k
 |_=>exact iteT (iteT k)
end
end K14
namespace K14
open PySem L2 PyProof.Rows
theorem map_snoc {α β:Type}(f:α→β)(xs:List α)(x:α):(xs++ [x]).map f=xs.map f++ [f x]:=by simp
theorem last_at {α:Type}(us:List α)(x:α):(us++ [x])[(us++ [x]).length-1]? =some x:=by simp
theorem drop_last {α:Type}(us:List α)(x:α):(us++ [x]).dropLast=us:=by simp
def Wt (v:V)(d:D)(H:Hp)(L:Addr)(m:Nat)(σ:L2.St)(H':Hp):Prop:=
 ∃(n:Nat) (w:List (D×Nat)) (ws:List V) (x3 x4 x5:Option V),σ= [some v,some (.int n),some (.ref L),x3,x4,x5]∧Same H H'∧H' L=some (.lst ws)∧IsL H' (w.map pr) ws∧G w n=isT d∧n≤600∧w.length≤1+40*n∧m=ndL (w.map (·.1))
section
variable {P:Program}{w:World}{K:PySem.W.Frag}{mg:Str→Option Value}{base:Heap}{a:Ad}
theorem xG (T:Tx K mg a):FnOk P w K mg base CX0 2 a.jx a.jn ["value"] JJ:=by
 have zd:FnOk P w K mg base CX0 1 a.Jm a.Jn ["value"] xM:=Zq T
 refine T.xo.ok yJ (fun vs H Q E h=> ?_) (fun cdv A outer s H vs Q E hr h=> ?_)
 ·obtain⟨v,d,rfl,_⟩:=h
  rfl
 obtain⟨v,d,rfl,hv,k⟩:=h
 refine⟨_,(@qb _ _ _ _ _ (@qx _ _ (1) _ _ _ _ yJ.nd rfl (Or.inl rfl) (@qi _ _ _ _) (by trivial) (by trivial)) (@qb _ _ _ _ _ (@qx _ _ (2) _ _ _ _ yJ.nd rfl (Or.inl rfl) (@yH _ _ _ _ (@qa _ _ _ _ _ (@Qf _ _ _ _ _ (@qa _ _ _ _ _ (pv 0) (@qa _ _ _ _ _ (@qi _ _ _ _) (@qc _) (by trivial)) (by trivial))) (@qc _) (by trivial))) (by trivial) (by trivial)) (@qb _ _ _ _ _ (@XO _ _ _ _ _ _ PassesOwn.never (@pt_truth _ _ _ (pv 2) (fun _=>rfl)) (@qb _ _ _ _ _ (@qx _ _ (3) _ _ _ _ yJ.nd rfl (Or.inl rfl) (@pe_bm0 _ _ _ _ _ _ _ _ _ PySem.F.plainAttrs_list PySem.F.slot_list_pop PySem.F.type_list_pop (@mt_pop _) (pv 2) (by trivial) (by trivial)) (by trivial) (by trivial)) (@qb _ _ _ _ _ (@qx _ _ (4) _ _ _ _ yJ.nd rfl (Or.inl rfl) (@qQ _ _ _ _ _ _ _ (@qX _) (pv 3) (@qi _ _ _ _) (fun _ _=>rfl)) (by trivial) (by trivial)) (@qb _ _ _ _ _ (@qx _ _ (5) _ _ _ _ yJ.nd rfl (Or.inr rfl) (@qQ _ _ _ _ _ _ _ (@qX _) (pv 3) (@qi _ _ _ _) (fun _ _=>rfl)) (by trivial) (by trivial)) (@qb _ _ _ _ _ (@qY _ _ _ _ _ _ _ _ (@pw_and _ _ _ _ _ _ _ (@QY _ _ _ (@qp _ _ _ _ _ _ _ _ _ (@Qi _ _ rfl) (by rfl) T.qU boot_isinstance (@qa _ _ _ _ _ (pv 4) (@qa _ _ _ _ _ (@yG _ _ (.ty "tuple") _ _ (by rfl) T.Yg boot_tuple rfl (by trivial) (by trivial)) (@qc _) (by trivial)) (by trivial)) (by trivial) (by trivial) (by trivial) (by trivial)) (by trivial)) (@Z9 _ _ _ _ (@qo _ _ _ _ _ _ _ _ (@op_le _) (@qp _ _ _ _ _ _ _ _ _ (@wl _) (by rfl) T.yS PySem.boot_len (@qa _ _ _ _ _ (pv 4) (@qc _) (by trivial)) (by trivial) (by trivial) (by trivial) (by trivial)) (@pe_gI _ _ _ _ (by rfl) T.m_MOST_PARTS (by trivial)) (qF _)))).pt (@qb _ _ _ _ _ (@ps_aug _ _ (1) _ _ _ _ _ _ yJ.nd rfl (Or.inl rfl) (@qi _ _ _ _) ip_add (by trivial)) (@qg _ _ _ (@QP _ _ _ _ (@xc _ _ _ _ _ _ _ _ _ _ _ _ PySem.F.plainAttrs_list PySem.F.slot_list_extend PySem.F.type_list_extend (@mt_extend _) (pv 2) (@qa _ _ _ _ _ (@pe_lc _ _ (["below","depth"]) (1) ([5]) _ _ _ _ _ _ _ _ _ (lcsN (qh Y2) ["value","size","waiting","pair","part","depth"]) rfl (@wg _ _ _ _ (pv 4)) (fun _ _ _ _ _ _=>(@Qm _ _ (0) _ (show List.Nodup (["below","depth"]:List Str) by decide+kernel) rfl (Or.inl rfl) (by trivial))) (fun _ _ _ _ _ _=> @jK _) (fun _ _ _ _ _ _=>(@Qf _ _ _ _ _ (@qa _ _ _ _ _ (pv 0) (@qa _ _ _ _ _ (@Qa _ _ _ _ _ _ _ _ (@Q8 _) (pv 1) (@qi _ _ _ _)) (@qc _) (by trivial)) (by trivial)))) (by trivial)) (@qc _) (by trivial)) (by trivial) (by trivial) (by trivial) (by trivial) (by trivial)) (by trivial)))) (@qg _ _ _ (@qY _ _ _ _ _ _ _ _ (@QY _ _ _ (@qq _ _ _ _ _ _ _ _ _ _ _ _ _ _ _ _ zd (hr.mono (by first|decide|omega)) (by rfl) T.m_is_text T.zg.kp T.b_is_text .nil qr (@qa _ _ _ _ _ (pv 4) (@qc _) (by trivial)) (by trivial) (by trivial) (by trivial)) (by trivial)) (@qg _ _ _ (@ps_aug _ _ (1) _ _ _ _ _ _ yJ.nd rfl (Or.inl rfl) (@Qa _ _ _ _ _ _ _ _ (@Q8 _) (@qi _ _ _ _) (@qp _ _ _ _ _ _ _ _ _ (@wl _) (by rfl) T.yS PySem.boot_len (@qa _ _ _ _ _ (pv 4) (@qc _) (by trivial)) (by trivial) (by trivial) (by trivial) (by trivial))) ip_add (by trivial))) (@qg _ _ _ (@qm _ _ _ _ (@Y8 _ _ _ _)))))) (@qg _ _ _ (@qY _ _ _ _ _ _ _ _ (@xl _ _ _ _ _ _ _ (@qo _ _ _ _ _ _ _ _ (@op_gt _) (pv 5) (@pe_gI _ _ _ _ (by rfl) T.m_MOST_DEPTH (by trivial)) (qF _)) (@Ja _ _ _ _ (@qo _ _ _ _ _ _ _ _ (@op_gt _) (pv 1) (@pe_gI _ _ _ _ (by rfl) T.m_MOST_SIZE (by trivial)) (qF _)))).pt (@qg _ _ _ (@qm _ _ _ _ (@Y8 _ _ _ _))) (@qt _)))))))) (@qg _ _ _ (@qm _ _ _ _ (@Y8 _ _ _ _)))))),?_⟩
 have no:∀{H':Hp}{w:List (D×Nat)}{n:Nat},Same H H'→G w n=isT d→G w n=false→Q (.bl false) H':=fun{H' w n} sm e1 e2=>by
  have q:=k H' sm
  rw [←e1,e2] at q
  exact q
 refine⟨_,rfl,(by show 2≤sizeLine;decide),fun t1 h1=>⟨(by show 1≤sizeLine;decide),fun L hL=> ?_⟩⟩
 have s1:Same H (upd H t1 (.tup [v,.int 1])):=qe h1 _
 have s2:Same H (upd (upd H t1 (.tup [v,.int 1])) L (.lst [.ref t1])):=s1.trans (qe hL _)
 have hLH:H L=none:=s1.free hL
 have i1:Is (upd H t1 (.tup [v,.int 1])) (pr (d,1)) (.ref t1):=Is.new (ds:= [d,.int 1]) ⟨v,_,rfl,hv,_,_,rfl,rfl,rfl⟩ h1
 refine⟨Wt v d H L,⟨_,0,[(d,1)],[.ref t1],none,none,none,rfl,s2,qj,IsL.one (i1.mono (qe hL _).tk),G_start d,by omega,by simp,rfl⟩,?_⟩
 rintro m σ H' ⟨n,w,ws,x3,x4,x5,rfl,sm,hl,hw,hG,hn,hwl,rfl⟩
 refine⟨_,rfl,!ws.isEmpty,.inl ⟨ws,SqL.of hl,rfl⟩,?_⟩
 rcases List.eq_nil_or_concat w with rfl|⟨w',⟨e,j⟩,rfl⟩
 ·cases(show ws= [] from hw)
  refine iteF ?_
  have q:=k H' sm
  rw [←hG,G_nil hn] at q
  exact q
 ·rw [List.concat_eq_append] at*
  rw [map_snoc] at hw
  obtain⟨us,x,rfl,hu,hx⟩:=hw.unsnoc
  have ne:(!(us++ [x]).isEmpty)=true:=by simp
  rw [ne]
  refine iteT ⟨fun σ' H''=>∃m',m'<ndL ((w'++ [(e,j)]).map (·.1))∧Wt v d H L m' σ' H'',fun _ _ h=>h,?_⟩
  have hm:ndL ((w'++ [(e,j)]).map (·.1))=ndL (w'.map (·.1))+nd e:=by
   rw [map_snoc,xV];simp [ndL]
  have hwl':w'.length≤40*n:=by
   rw [List.length_append,List.length_singleton] at hwl;omega
  have lu:=hu.length
  rw [List.length_map] at lu
  refine⟨_,rfl,.inl ⟨rfl,_,SqL.of hl⟩,L,_,x,rfl,rfl,hl,last_at us x,?_⟩
  rw [drop_last]
  have t2:Tk H' (upd H' L (.lst us)):=Tk.updL hl
  have sm2:Same H (upd H' L (.lst us)):=fun b o z=>by rw [qD (ql z hLH)];exact sm b o z
  have hx2:Is (upd H' L (.lst us)) (.tup [e,.int (j:Int)]) x:=hx.mono t2
  have hu2:IsL (upd H' L (.lst us)) (w'.map pr) us:=hu.mono t2
  have hl2:upd H' L (.lst us) L=some (.lst us):=qj
  generalize upd H' L (.lst us)=H2 at t2 sm2 hx2 hu2 hl2⊢
  clear t2 hl hx hu sm
  refine⟨_,rfl,yw (i:=0) hx2 rfl fun y hy=> ?_⟩
  refine⟨_,rfl,yw (i:=1) hx2 rfl fun y1 hy1=> ?_⟩
  cases(show y1= .int (j:Int) from hy1)
  have tail:∀(n':Nat) (w2:List (D×Nat)) (ws2:List V) (H3:Hp),Same H H3→H3 L=some (.lst ws2)→IsL H3 (w2.map pr) ws2→(j≤12→n'≤600→G w2 n'=isT d)→(12<j∨600<n'→isT d=false)→w2.length≤1+40*n'→ndL (w2.map (·.1))<ndL ((w'++ [(e,j)]).map (·.1))→
    ∃v_1,[some v,some (V.int (n':Int)),some (V.ref L),some x,some y,some (V.int (j:Int))][5]? =some (some v_1)∧∃i i_1,v_1=V.int i∧V.int 12=V.int i_1∧∃k,V.bl (decide (i_1<i))=V.bl k∧
     if k=true then if true=true then Q (.bl false) H3 else∃m',m'<ndL ((w'++ [(e,j)]).map (·.1))∧Wt v d H L m' [some v,some (V.int (n':Int)),some (V.ref L),some x,some y,some (V.int (j:Int))] H3
     else∃v_2,[some v,some (V.int (n':Int)),some (V.ref L),some x,some y,some (V.int (j:Int))][1]? =some (some v_2)∧∃i i_1,v_2=V.int i∧V.int 600=V.int i_1∧∃k,V.bl (decide (i_1<i))=V.bl k∧
      if k=true then Q (.bl false) H3 else∃m',m'<ndL ((w'++ [(e,j)]).map (·.1))∧Wt v d H L m' [some v,some (V.int (n':Int)),some (V.ref L),some x,some y,some (V.int (j:Int))] H3:=by
   intro n' w2 ws2 H3 s3 l3 i3 g3 b3 len3 m3
   have bad:isT d=false→Q (.bl false) H3:=fun e=>by
    have q:=k H3 s3
    rw [e] at q
    exact q
   refine⟨_,rfl,_,_,rfl,rfl,_,rfl,?_⟩
   refine ite2 (fun c=>iteT (bad (b3 (.inl ?_)))) (fun c=>⟨_,rfl,_,_,rfl,rfl,_,rfl,?_⟩)
   ·have:=of_decide_eq_true c;omega
   ·have c':¬(12:Int)<(j:Int):=fun q=>c (decide_eq_true q)
    refine ite2 (fun c2=>bad (b3 (.inr ?_))) (fun c2=> ?_)
    ·have:=of_decide_eq_true c2;omega
    ·have c2':¬(600:Int)<(n':Int):=fun q=>c2 (decide_eq_true q)
     exact⟨_,m3,n',w2,ws2,_,_,_,rfl,s3,l3,i3,g3 (by omega) (by omega),by omega,len3,rfl⟩
  refine⟨_,rfl,y,"tuple",tyD e,isTup e,rfl,hy.ty,xU e,_,rfl,?_⟩
  cases e with
  |tup xs=>
   refine iteT ?_
   obtain⟨a0,vs,rfl,ha0,hvs⟩:=hy
   have lv:=hvs.length
   refine⟨_,rfl,_,vs.length,rfl,.inr ⟨vs,SqT.of ha0,rfl⟩,_,_,rfl,rfl,_,rfl,?_⟩
   refine ite2 (fun c=> ?_) (fun c=> ?_)
   ·have c':(vs.length:Int)≤40:=of_decide_eq_true c
    refine⟨_,rfl,_,_,rfl,rfl,?_⟩
    refine⟨_,rfl,.inl ⟨rfl,_,SqL.of hl2⟩,_,rfl,a0,vs,rfl,SqT.of ha0,fun hvl A0 hA0=> ?_⟩
    refine lc_tupS (tl:= [some (.int (j:Int))]) (fun d0=> .tup [d0,.int ((j+1:Nat):Int)]) ha0 hvs (fits (by omega)) hA0 (fun d0 x0 H3 R _ s3 i3 r=> ?_) fun H3 ys s3 l3 i3=> ?_
    ·refine⟨_,rfl,_,rfl,_,_,rfl,rfl,(by show 2≤sizeLine;decide),fun p hp=> ?_⟩
     exact r _ _ (qe hp _) (Is.new (ds:= [d0,.int ((j+1:Nat):Int)]) ⟨x0,_,rfl,i3,_,_,rfl,rfl,rfl⟩ hp)
    ·have ly:=i3.length
     rw [List.length_map] at ly
     have eA:A0≠L:=fun z=>by rw [z,hl2] at hA0;cases hA0
     refine⟨L,A0,us,ys,rfl,rfl,s3 _ _ hl2,l3,fits (by omega),?_⟩
     have t4:Tk H3 (upd H3 L (.lst (us++ys))):=Tk.updL (s3 _ _ hl2)
     have em:(w'++xs.map fun d0=>(d0,j+1)).map pr=w'.map pr++xs.map fun d0=> .tup [d0,.int ((j+1:Nat):Int)]:=by
      rw [List.map_append,List.map_map];rfl
     have ef:(w'++xs.map fun d0=>(d0,j+1)).map (·.1)=w'.map (·.1)++xs:=by
      rw [List.map_append,List.map_map]
      congr 1
      exact List.map_id xs
     refine tail (n+1) (w'++xs.map fun d0=>(d0,j+1)) (us++ys) _ (fun b o z=>by rw [qD (ql z hLH)];exact s3 b o (sm2 b o z)) qj (by rw [em];exact((hu2.mono s3.tk).mono t4).append (i3.mono t4)) (fun h1 h2=> ?_) (fun h=> ?_) ?_ ?_
     ·rw [←hG,G_tup (by omega) h1]
     ·rw [←hG]
      rcases h with h|h
      ·exact G_deep h
      ·exact G_big1 h
     ·rw [List.length_append,List.length_map];omega
     ·rw [ef,hm,xV]
      simp only [nd]
      omega
   ·have c':¬(vs.length:Int)≤40:=fun q=>c (decide_eq_true q)
    refine⟨_,rfl,_,.tup xs,rfl,(show Is _ (.tup xs) (.ref a0) from⟨a0,vs,rfl,ha0,hvs⟩),_,rfl,?_⟩
    refine iteF ?_
    refine no sm2 hG (G_bad ?_)
    simp only [good]
    rw [decide_eq_false (by omega)]
    rfl
  |str z=>
   refine iteF ?_
   obtain⟨rfl,hz⟩:=hy
   refine⟨_,rfl,_,.str z,rfl,⟨rfl,hz⟩,_,rfl,?_⟩
   cases ht:Ya z with
   |false=>
    have e1:isTx (.str z)=false:=ht
    rw [e1]
    refine iteF ?_
    refine no sm2 hG (G_bad ?_)
    simp only [good]
    exact ht
   |true=>
    have e1:isTx (.str z)=true:=ht
    rw [e1]
    refine iteT ?_
    refine⟨_,rfl,_,rfl,_,z.length,rfl,⟨hz,rfl⟩,_,_,rfl,rfl,_,_,rfl,rfl,?_⟩
    have en:(n:Int)+(1+(z.length:Int))=((n+(1+z.length):Nat):Int):=by omega
    show∃v_1,[some v,some (V.int ((n:Int)+(1+(z.length:Int)))),some (V.ref L),some x,some (V.str z),some (V.int (j:Int))][5]? =some (some v_1)∧_
    rw [en]
    refine tail (n+(1+z.length)) w' us _ sm2 hl2 hu2 (fun h1 h2=> ?_) (fun h=> ?_) (by omega) (by rw [hm];simp only [nd];omega)
    ·rw [←hG,G_str ht h1]
    ·rw [←hG]
     rcases h with h|h
     ·exact G_deep h
     ·refine G_big ?_
      simp only [sz]
      omega
  |_=>
   refine iteF ?_
   refine⟨_,rfl,_,_,rfl,hy,_,rfl,?_⟩
   exact iteF (no sm2 hG (G_bad rfl))
end
end K14
namespace K14
open PySem L2 PyProof.Rows
def LET:Str:="abcdefghijklmnopqrstuvwxyz"
def NSG:Str:="abcdefghijklmnopqrstuvwxyz0123456789./"
def nm (z:Str):Bool:=decide (1≤(z.length:Int))&&decide ((z.length:Int)≤24)&&inS ⟨#[z.cps.getD 0 0]⟩ LET&&(z.cps.toList.map fun c=>inS ⟨#[c]⟩ NSG).all id
def isNm:D→Bool
 | .str z=>nm z
 |_=>false
def wa:Sp:=fun vs H Q _=>∃v d,vs= [v]∧Is H d v∧∀H',Same H H'→Q (.bl (isNm d)) H'
section
variable {P:Program}{w:World}{K:PySem.W.Frag}{mg:Str→Option Value}{base:Heap}{a:Ad}
theorem first_at {z:Str}(h:1≤z.length):atI z.cps.toList 0=some (z.cps.getD 0 0):=by
 have h':0<z.cps.size:=h
 have q:z.cps.toList[0]? =some (z.cps.getD 0 0):=by simp [Array.getD,h']
 exact Qe q
theorem allMap (z:Str):(z.cps.toList.map fun c=>V.bl (inS ⟨#[c]⟩ NSG))=(z.cps.toList.map fun c=>inS ⟨#[c]⟩ NSG).map V.bl:=by
 rw [List.map_map]
 rfl
theorem nm_len {z:Str}(h:¬(1≤(z.length:Int)∧(z.length:Int)≤24)):nm z=false:=by
 unfold nm
 by_cases h1:1≤(z.length:Int)
 ·have h2:¬(z.length:Int)≤24:=fun q=>h ⟨h1,q⟩
  rw [decide_eq_false h2]
  simp
 ·rw [decide_eq_false h1]
  simp
theorem nm_first {z:Str}(h:inS ⟨#[z.cps.getD 0 0]⟩ LET=false):nm z=false:=by
 unfold nm
 rw [h]
 simp
theorem nm_rest {z:Str}(h1:1≤(z.length:Int))(h2:(z.length:Int)≤24)(h:inS ⟨#[z.cps.getD 0 0]⟩ LET=true):nm z=(z.cps.toList.map fun c=>inS ⟨#[c]⟩ NSG).all id:=by
 unfold nm
 rw [h,decide_eq_true h1,decide_eq_true h2]
 simp
theorem ok_name (T:Tx K mg a):FnOk P w K mg base CX0 1 a.jr a.jq ["value"] wa:=by
 refine T.xn.ok sc_is_name (fun vs H Q E h=> ?_) (fun cdv A outer s H vs Q E hr h=> ?_)
 ·obtain⟨x,d,rfl,_⟩:=h
  rfl
 obtain⟨x,d,rfl,hv,k⟩:=h
 refine⟨_,(@qb _ _ _ _ _ (@qY _ _ _ _ _ _ _ _ (@xl _ _ _ _ _ _ _ (@yi _ _ _ _ (@QY _ _ _ (@qp _ _ _ _ _ _ _ _ _ (@Qi _ _ rfl) (by rfl) T.qU boot_isinstance (@qa _ _ _ _ _ (pv 0) (@qa _ _ _ _ _ (@yG _ _ (.ty "str") _ _ (by rfl) T.xL boot_str rfl (by trivial) (by trivial)) (@qc _) (by trivial)) (by trivial)) (by trivial) (by trivial) (by trivial) (by trivial)) (by trivial))) (@Ja _ _ _ _ (@yi _ _ _ _ (@pt_chain _ _ _ _ _ _ _ _ _ _ _ _ (@op_le _) (@op_le _) (@qi _ _ _ _) (@qp _ _ _ _ _ _ _ _ _ (@Xr _) (by rfl) T.yS PySem.boot_len (@qa _ _ _ _ _ (pv 0) (@qc _) (by trivial)) (by trivial) (by trivial) (by trivial) (by trivial)) (@pe_gI _ _ _ _ (by rfl) T.xQ (by trivial)) (by trivial))))).pt (@qg _ _ _ (@qm _ _ _ _ (@Y8 _ _ _ _))) (@qt _)) (@qb _ _ _ _ _ (@qY _ _ _ _ _ _ _ _ (@qo _ _ _ _ _ _ _ _ (@op_notIn_str _) (@qQ _ _ _ _ _ _ _ (@ix_str _) (pv 0) (@qi _ _ _ _) (fun _ _=>rfl)) (@pe_gS _ _ _ _ (by rfl) T.m_LETTERS (by trivial)) (by with_unfolding_all rfl)) (@qg _ _ _ (@qm _ _ _ _ (@Y8 _ _ _ _))) (@qt _)) (@qg _ _ _ (@qm _ _ _ _ (@qp _ _ _ _ _ _ _ _ _ (@zy _ rfl) (by rfl) T.z_all boot_all (@qa _ _ _ _ _ (@pe_lc _ _ (["sign"]) (1) ([]) _ _ _ _ _ _ _ _ _ (lcs0) rfl (@pi_str _ _ _ _ (pv 0)) (fun _ _ _ _ _ _=>(@Qm _ _ (0) _ (show List.Nodup (["sign"]:List Str) by decide+kernel) rfl (Or.inl rfl) (by trivial))) (fun _ _ _ _ _ _=> @jK _) (fun _ _ _ _ _ _=>(@Y0 _ _ _ _ _ _ _ _ (@op_in_str _) (pv 0) (@pe_gS _ _ _ _ (by rfl) T.m_NAME_SIGNS (by trivial)) (by with_unfolding_all rfl))) (by trivial)) (@qc _) (by trivial)) (by trivial) (by trivial) (by trivial) (by trivial)))))),?_⟩
 refine⟨_,rfl,x,"str",tyD d,Y3 d,rfl,hv.ty,jS d,_,rfl,?_⟩
 cases hd:Y3 d with
 |false=>
  refine iteT (iteT ?_)
  have:=k H (Same.refl H)
  have e:isNm d=false:=by cases d<;>first|rfl|simp [Y3] at hd
  rw [e] at this
  exact this
 |true=>
  obtain⟨z,rfl⟩:∃z,d= .str z:=by cases d<;>simp [Y3] at hd;exact⟨_,rfl⟩
  obtain⟨rfl,hz⟩:=hv
  have k:∀H',Same H H'→Q (.bl (nm z)) H':=k
  refine iteF ?_
  refine⟨_,rfl,z,rfl,hz,_,_,rfl,rfl,_,rfl,?_⟩
  have stop:nm z=false→Q (.bl false) H:=fun e=>by
   have:=k H (Same.refl H)
   rw [e] at this
   exact this
  refine ite2 (fun c1=> ?_) (fun c1=> ?_)
  ·have c1':1≤(z.length:Int):=of_decide_eq_true c1
   refine⟨_,_,rfl,rfl,_,rfl,?_⟩
   by_cases c2:(z.length:Int)≤24
   ·rw [decide_eq_true c2]
    refine iteF ?_
    refine⟨_,rfl,_,_,_,rfl,rfl,hz,first_at (by omega),_,_,rfl,rfl,_,rfl,?_⟩
    cases e:inS ⟨#[z.cps.getD 0 0]⟩ LET with
    |false=>
     have e':(!(Builtin.Str.occurrences ("abcdefghijklmnopqrstuvwxyz":Str) ⟨#[z.cps.getD 0 0]⟩ 0 ("abcdefghijklmnopqrstuvwxyz":Str).length 1).isEmpty)=false:=e
     rw [e']
     refine iteT ?_
     exact stop (nm_first e)
    |true=>
     have e':(!(Builtin.Str.occurrences ("abcdefghijklmnopqrstuvwxyz":Str) ⟨#[z.cps.getD 0 0]⟩ 0 ("abcdefghijklmnopqrstuvwxyz":Str).length 1).isEmpty)=true:=e
     rw [e']
     refine iteF ?_
     refine⟨_,rfl,z,rfl,fun D hD=> ?_⟩
     refine lc_str (fun c=> .bl (inS ⟨#[c]⟩ NSG)) (hz) hD (fun i c H' R hc sm r=>⟨_,rfl,_,_,rfl,rfl,r⟩) fun H' sm hl=> ?_
     refine⟨D,z.cps.toList.map fun c=>inS ⟨#[c]⟩ NSG,rfl,SqL.of (by rw [hl,allMap]),?_⟩
     have:=k H' sm
     rw [nm_rest c1' c2 e] at this
     exact this
   ·rw [decide_eq_false c2]
    refine iteT ?_
    exact stop (nm_len fun q=>c2 q.2)
  ·refine⟨_,rfl,?_⟩
   refine iteT ?_
   exact stop (nm_len fun q=>c1 (decide_eq_true q.1))
end
end K14
namespace K14
open PySem L2 PyProof.Rows
def sp_part:Sp:=fun vs H Q _=>∃(n m:Nat) (kd:Kd) (q:Pt),vs= [.str kd.t,.str q.t,.int (n:Int)]∧n≤40∧m≤125∧ptOk n m kd q∧∀(v:V) (H':Hp),Same H H'→Is H' q.d v→Q v H'
section
variable {P:Program}{w:World}{K:PySem.W.Frag}{mg:Str→Option Value}{base:Heap}{a:Ad}{g:Ga}
theorem ok_part (T:Tx K mg a)(C:Fx K w mg g a):FnOk P w K mg base CX0 1 a.J8 a.J4 ["kind","piece","count"] sp_part:=by
 refine T.F_part_of.ok ZP (fun vs H Q E h=> ?_) (fun cdv A outer s H vs Q E hr h=> ?_)
 ·obtain⟨n,m,kd,q,rfl,_⟩:=h
  rfl
 obtain⟨n,m,kd,q,rfl,hn,hm,hq,k⟩:=h
 refine⟨_,(@qb _ _ _ _ _ (@qY _ _ _ _ _ _ _ _ (@qo _ _ _ _ _ _ _ _ (@y0 _) (pv 0) (@qk _ _ _ _) (qF _)) (@qg _ _ _ (@qm _ _ _ _ (pv 1))) (@qt _)) (@qb _ _ _ _ _ (@qY _ _ _ _ _ _ _ _ (@qo _ _ _ _ _ _ _ _ (@y0 _) (pv 0) (@qk _ _ _ _) (qF _)) (@qg _ _ _ (@qm _ _ _ _ (@jd _ _ _ _ _ _ _ _ (@qo _ _ _ _ _ _ _ _ (@yU _) (pv 1) (@pe_gR _ _ _ _ (by rfl) C.m_BOXES (by trivial)) (by with_unfolding_all rfl)) (pv 1) (@Q7 _ _ _)))) (@qt _)) (@qb _ _ _ _ _ (@ps_setLC _ _ (["number"]) (1) ([]) (3) _ _ _ _ _ _ _ _ _ _ _ _ ZP.nd rfl (Or.inl rfl) (lcs0) rfl (@pi_range2 _ _ _ _ _ _ _ (by rfl) T.jO (@qa _ _ _ _ _ (@qi _ _ _ _) (@qa _ _ _ _ _ (@Qa _ _ _ _ _ _ _ _ (@Q8 _) (pv 2) (@qi _ _ _ _)) (@qc _) (by trivial)) (by trivial)) (by trivial) (by trivial)) (fun _ _ _ _ _ _=>(@Qm _ _ (0) _ (show List.Nodup (["number"]:List Str) by decide+kernel) rfl (Or.inl rfl) (by trivial))) (fun _ _ _ _ _ _=> @jK _) (fun _ _ _ _ _ _=>(@QE _ _ _ _ _ _ _ _ _ (@jh _) (by rfl) T.xL boot_str (@qa _ _ _ _ _ (pv 0) (@qc _) (by trivial)) (by trivial) (by trivial) (by trivial) (by trivial))) (by trivial) (by trivial) (by trivial)) (@qg _ _ _ (@qm _ _ _ _ (@jd _ _ _ _ _ _ _ _ (@qo _ _ _ _ _ _ _ _ (@yU _) (pv 1) (pv 3) (by with_unfolding_all rfl)) (@QE _ _ _ _ _ _ _ _ _ (@call_intS _) (by rfl) T.z_int boot_int (@qa _ _ _ _ _ (pv 1) (@qc _) (by trivial)) (by trivial) (by trivial) (by trivial) (by trivial)) (@Q7 _ _ _))))))),?_⟩
 refine⟨_,rfl,rfl,_,rfl,?_⟩
 cases kd with
 |words=>
  have e:decide (V.str Kd.words.t=V.str ("words":Str))=true:=by decide+kernel
  rw [e]
  refine iteT ⟨_,rfl,?_⟩
  cases q with
  |n i=>exact hq.elim
  |s z=>exact k _ H (Same.refl _) ⟨rfl,yg (by have:=hq.1;show z.length≤1000;omega)⟩
 |box=>
  have e:decide (V.str Kd.box.t=V.str ("words":Str))=false:=by decide+kernel
  rw [e]
  refine iteF ⟨_,rfl,rfl,_,rfl,?_⟩
  have e:decide (V.str Kd.box.t=V.str ("box":Str))=true:=by decide+kernel
  rw [e]
  cases q with
  |n i=>exact hq.elim
  |s z=>
   have hz:z∈BX:=hq
   refine iteT ⟨_,rfl,g.boxes,_,rfl,.inr (C.boxes _),rfl,zQ _,_,rfl,?_⟩
   have e:inV (.str (Pt.s z).t) (BX.map V.str)=true:=by rw [X2];exact decide_eq_true hz
   rw [if_neg Bool.false_ne_true,e]
   refine iteT ⟨_,rfl,?_⟩
   exact k _ H (Same.refl _) ⟨rfl,yg (by rw [(QQ hz).1];decide)⟩
 |line=>
  have e:decide (V.str Kd.line.t=V.str ("words":Str))=false:=by decide+kernel
  rw [e]
  refine iteF ⟨_,rfl,rfl,_,rfl,?_⟩
  have e:decide (V.str Kd.line.t=V.str ("box":Str))=false:=by decide+kernel
  rw [e]
  cases q with
  |s z=>exact hq.elim
  |n j=>
   refine iteF ?_
   refine⟨_,rfl,_,_,rfl,rfl,1,(n:Int)+1,rfl,⟨by decide,by decide,by omega,by omega⟩,fun L hL=> ?_⟩
   rw [show((n:Int)+1-1).toNat=n by omega]
   refine Z1 (lo:=1) (tl:= []) (fun i ys H'=>ys=(List.range i).map (fun i:Nat=>V.str (toString (1+(i:Int))))∧Same H H') (fits (by omega)) ⟨rfl,qe hL _⟩ ?_ ?_
   ·rintro i ys H' hi ⟨rfl,sm⟩ hL' hy R hR
    refine⟨_,rfl,_,rfl,?_,hR _ _ hL' ⟨?_,?_⟩⟩
    ·have h1:(1+(i:Int)).natAbs≤41:=by omega
     have h2:=Nat.log2_le_self (1+(i:Int)).natAbs
     omega
    ·rw [List.range_succ,List.map_append]
     rfl
    ·intro b o e
     rw [qD (ql e hL)]
     exact sm b o e
   ·rintro ys H' ⟨rfl,sm⟩ hL'
    have hy:(List.range n).map (fun i:Nat=>V.str (toString (1+(i:Int))))=((List.range n).map fun i:Nat=>(toString (1+(i:Int)):Str)).map V.str:=by rw [List.map_map];rfl
    refine⟨_,rfl,_,rfl,L,_,rfl,.inl (SqL.of hL'),rfl,by rw [hy];exact zQ _,_,rfl,?_⟩
    have e:inV (.str (Pt.n j).t) ((List.range n).map (fun i:Nat=>V.str (toString (1+(i:Int)))))=true:=by
     rw [hy,X2]
     refine decide_eq_true (List.mem_map.mpr ⟨(j-1).toNat,List.mem_range.mpr ?_,?_⟩)
     ·have:=hq.1
      have:=hq.2
      omega
     ·have:=hq.1
      rw [show(1:Int)+(((j-1).toNat:Nat):Int)=j by omega]
      rfl
    rw [if_neg Bool.false_ne_true,e]
    have hj:=js hq.1 (by have:=hq.2;omega)
    exact iteT ⟨_,rfl,_,j,rfl,num_back hq.1 (by have:=hq.2;omega),Nat.le_trans hj.1 (by decide),k _ _ sm rfl⟩
end
end K14
namespace K14
open PySem L2 PyProof.Rows
def sp_pieces (K:PySem.W.Frag):Sp:=fun vs H Q _=>∃(n m:Nat) (r:Rw) (ks:List Kd) (q:Addr),vs= [.str (qG r),.ref q]∧n≤40∧(qG r).length≤1000∧(r.1,ks)∈FRM∧jY n m ks r.2∧SqT K H q (ks.map fun k=>V.str k.t)∧∀p,H p=none→Q (.ref p) (upd H p (.lst ((txs r).map V.str)))
theorem qP (ks:List Kd):(ks.map fun k=>V.str k.t)=(ks.map Kd.t).map V.str:=by rw [List.map_map];rfl
theorem words_in (ks:List Kd):inV (.str "words") (ks.map fun k=>V.str k.t)=decide (Kd.words∈ks):=by
 rw [qP,X2,decide_eq_decide,List.mem_map]
 constructor
 ·rintro⟨k,hk,e⟩
  cases k with
  |words=>exact hk
  |box=>exact absurd e (by decide+kernel)
  |line=>exact absurd e (by decide+kernel)
 ·intro h
  exact⟨_,h,rfl⟩
theorem form_few:∀x∈FRM,x.2.length≤3:=by decide+kernel
section
variable {P:Program}{w:World}{K:PySem.W.Frag}{mg:Str→Option Value}{base:Heap}{a:Ad}{g:Ga}
theorem ok_pieces (T:Tx K mg a):FnOk P w K mg base CX0 1 a.jL a.jM ["line","form"] (sp_pieces K):=by
 refine T.XV.ok sc_pieces_of (fun vs H Q E h=> ?_) (fun cdv A outer s H vs Q E hr h=> ?_)
 ·obtain⟨n,m,r,ks,q,rfl,_⟩:=h
  rfl
 obtain⟨n,m,r,ks,q,rfl,hn,hz,hk,hp,hq,k⟩:=h
 refine⟨_,(@qb _ _ _ _ _ (@qY _ _ _ _ _ _ _ _ (@qo _ _ _ _ _ _ _ _ (@yU _) (@qk _ _ _ _) (pv 1) (by with_unfolding_all rfl)) (@qg _ _ _ (@qm _ _ _ _ (@xc _ _ _ _ _ _ _ _ _ _ _ _ PySem.F.plainAttrs_str PySem.F.slot_str_split PySem.F.type_str_split (@mt_splitN _) (pv 0) (@qa _ _ _ _ _ (@qk _ _ _ _) (@qa _ _ _ _ _ (@qp _ _ _ _ _ _ _ _ _ (@qE _) (by rfl) T.yS PySem.boot_len (@qa _ _ _ _ _ (pv 1) (@qc _) (by trivial)) (by trivial) (by trivial) (by trivial) (by trivial)) (@qc _) (by trivial)) (by trivial)) (by trivial) (by trivial) (by trivial) (by trivial) (by trivial)))) (@qt _)) (@qg _ _ _ (@qm _ _ _ _ (@xc _ _ _ _ _ _ _ _ _ _ _ _ PySem.F.plainAttrs_str PySem.F.slot_str_split PySem.F.type_str_split (@mt_split _) (pv 0) (@qa _ _ _ _ _ (@qk _ _ _ _) (@qc _) (by trivial)) (by trivial) (by trivial) (by trivial) (by trivial) (by trivial))))),?_⟩
 have hs:=line_spl hn hk hp
 have hf:=form_few _ hk
 refine⟨_,rfl,q,_,rfl,.inr hq,rfl,by rw [qP];exact zQ _,_,rfl,?_⟩
 rw [if_neg Bool.false_ne_true,words_in]
 refine ite2 (fun c=> ?_) (fun c=> ?_)
 ·have c':Kd.words∈ks:=of_decide_eq_true c
  rw [if_pos c'] at hs
  have h0:0<ks.length:=List.length_pos_iff.mpr fun e=>by rw [e] at c';simp at c'
  refine⟨_,rfl,rfl,_,rfl,q,_,rfl,.inr hq,_,ks.length,rfl,by rw [List.length_map],hz,h0,by simp only at hf;omega,fun p hp=> ?_⟩
  rw [hs]
  exact k p hp
 ·have c':Kd.words∉ks:=fun z=>c (decide_eq_true z)
  rw [if_neg c'] at hs
  refine⟨_,rfl,rfl,_,rfl,rfl,hz,fun p hp=> ?_⟩
  rw [hs]
  exact k p hp
end
end K14
namespace K14
open PySem L2 PyProof.Rows
def sp_row_of:Sp:=fun vs H Q _=>∃(n m:Nat) (r:Rw),vs= [.str (qG r),.int (n:Int)]∧n≤40∧m≤125∧(qG r).length≤300∧Yi n m r∧∀(v:V) (H':Hp),Same H H'→Is H' (rowD r) v→Q v H'
theorem qA {c:Bool}{A B:Prop}(h:c=false)(b:B):if c=true then A else B:=by rw [if_neg (by rw [h];exact Bool.false_ne_true)];exact b
theorem Qy {c:Bool}{A B:Prop}(h:c=true)(a:A):if c=true then A else B:=by rw [if_pos h];exact a
theorem vals_pt {H:Hp}:∀{ps:List Pt}{vs:List V},L2.IsL H (ps.map Pt.d) vs→vs.all zA=true∧inV .non vs=false
 | [],_,h=>by cases(show _= [] from h);exact⟨rfl,rfl⟩
 |q::ps,_,h=>by
  obtain⟨v,r,rfl,h1,h2⟩:=h
  obtain⟨i1,i2⟩:=vals_pt h2
  have hv:zA v=true∧eqV v .non=false:=by
   cases q with
   |s z=>obtain⟨rfl,_⟩:=h1;exact⟨rfl,rfl⟩
   |n i=>cases(show v= .int i from h1);exact⟨rfl,rfl⟩
  refine⟨?_,?_⟩
  ·rw [List.all_cons,hv.1,i1];rfl
  ·show(eqV v .non||inV .non r)=false
   rw [hv.2,i2];rfl
theorem range_parts (ps:List Pt)(f:Nat→D)(h:∀i q,ps[i]? =some q→f i=q.d):(List.range ps.length).map f=ps.map Pt.d:=by
 apply List.ext_getElem
 ·simp
 ·intro i h1 h2
  simp only [List.length_map,List.length_range] at h1
  simp only [List.getElem_map,List.getElem_range]
  exact h i ps[i] (List.getElem?_eq_getElem h1)
section
variable {P:Program}{w:World}{K:PySem.W.Frag}{mg:Str→Option Value}{base:Heap}{a:Ad}{g:Ga}
theorem ok_row_of (T:Tx K mg a)(C:Fx K w mg g a):FnOk P w K mg base CX0 2 a.XS a.XU ["line","count"] sp_row_of:=by
 have zd:FnOk P w K mg base CX0 1 a.Jm a.Jn ["value"] xM:=Zq T
 have G_part_of:FnOk P w K mg base CX0 1 a.J8 a.J4 ["kind","piece","count"] sp_part:=ok_part T C
 have G_pieces_of:FnOk P w K mg base CX0 1 a.jL a.jM ["line","form"] (sp_pieces K):=ok_pieces T
 refine T.F_row_of.ok Jj (fun vs H Q E h=> ?_) (fun cdv A outer s H vs Q E hr h=> ?_)
 ·obtain⟨n,m,r,rfl,_⟩:=h
  rfl
 obtain⟨n,m,r,rfl,hn,hm,hll,hok,k⟩:=h
 have hla:=line_all hn hok
 have hlh:=line_hd hok
 obtain⟨ks,hk,hp⟩:=hok
 obtain⟨q,hfq,hft⟩:=C.forms _ hk
 have hf:=form_few _ hk
 have hpl:=Jw hp
 simp only at hf
 refine⟨_,(@qb _ _ _ _ _ (@qY _ _ _ _ _ _ _ _ (@yi _ _ _ _ (@QY _ _ _ (@qq _ _ _ _ _ _ _ _ _ _ _ _ _ _ _ _ zd (hr.mono (by first|decide|omega)) (by rfl) T.m_is_text T.zg.kp T.b_is_text .nil qr (@qa _ _ _ _ _ (pv 0) (@qc _) (by trivial)) (by trivial) (by trivial) (by trivial)) (by trivial))) (@qg _ _ _ (@qm _ _ _ _ (@Q7 _ _ _))) (@qt _)) (@qb _ _ _ _ _ (@qx _ _ (2) _ _ _ _ Jj.nd rfl (Or.inl rfl) (@qQ _ _ _ _ _ _ _ (@qX _) (@xc _ _ _ _ _ _ _ _ _ _ _ _ PySem.F.plainAttrs_str PySem.F.slot_str_partition PySem.F.type_str_partition (@mt_part _) (pv 0) (@qa _ _ _ _ _ (@qk _ _ _ _) (@qc _) (by trivial)) (by trivial) (by trivial) (by trivial) (by trivial) (by trivial)) (@qi _ _ _ _) (fun _ _=>rfl)) (by trivial) (by trivial)) (@qb _ _ _ _ _ (@qY _ _ _ _ _ _ _ _ (@qo _ _ _ _ _ _ _ _ (@op_notK _) (pv 2) (@pe_gR _ _ _ _ (by rfl) C.m_FORMS (by trivial)) (by with_unfolding_all rfl)) (@qg _ _ _ (@qm _ _ _ _ (@Q7 _ _ _))) (@qt _)) (@qb _ _ _ _ _ (@qx _ _ (3) _ _ _ _ Jj.nd rfl (Or.inl rfl) (@qQ _ _ _ _ _ _ _ (@ix_K _) (@pe_gR _ _ _ _ (by rfl) C.m_FORMS (by trivial)) (pv 2) (fun _ _=>rfl)) (by trivial) (by trivial)) (@qb _ _ _ _ _ (@qx _ _ (4) _ _ _ _ Jj.nd rfl (Or.inl rfl) (@qq _ _ _ _ _ _ _ _ _ _ _ _ _ _ _ _ G_pieces_of (hr.mono (by first|decide|omega)) (by rfl) T.m_pieces_of T.XV.kp T.b_pieces_of .nil qr (@qa _ _ _ _ _ (pv 0) (@qa _ _ _ _ _ (pv 3) (@qc _) (by trivial)) (by trivial)) (by trivial) (by trivial) (by trivial)) (by trivial) (by trivial)) (@qb _ _ _ _ _ (@qY _ _ _ _ _ _ _ _ (@qo _ _ _ _ _ _ _ _ (@op_ne _) (@qp _ _ _ _ _ _ _ _ _ (@qE _) (by rfl) T.yS PySem.boot_len (@qa _ _ _ _ _ (pv 4) (@qc _) (by trivial)) (by trivial) (by trivial) (by trivial) (by trivial)) (@Qa _ _ _ _ _ _ _ _ (@Q8 _) (@qi _ _ _ _) (@qp _ _ _ _ _ _ _ _ _ (@qE _) (by rfl) T.yS PySem.boot_len (@qa _ _ _ _ _ (pv 3) (@qc _) (by trivial)) (by trivial) (by trivial) (by trivial) (by trivial))) (qF _)) (@qg _ _ _ (@qm _ _ _ _ (@Q7 _ _ _))) (@qt _)) (@qb _ _ _ _ _ (@qx _ _ (5) _ _ _ _ Jj.nd rfl (Or.inl rfl) (@QE _ _ _ _ _ _ _ _ _ (@Q6 _) (by rfl) T.Yg boot_tuple (@qa _ _ _ _ _ (@pe_lc _ _ (["kind","piece","count"]) (2) ([1]) _ _ _ _ _ _ _ _ _ (lcsN (qh jX) ["line","count","word","form","pieces","parts"]) rfl (@pi_zip _ _ _ _ _ _ _ _ _ (by rfl) T.z_zip (@qa _ _ _ _ _ (pv 3) (@qa _ _ _ _ _ (@yY _ _ _ _ _ _ _ _ _ _ (@sl_list _) (pv 4) (@Y4 _ _ _ (@qi _ _ _ _)) (@Y7 _)) (@qc _) (by trivial)) (by trivial)) (by trivial) (by trivial)) (fun _ _ _ _ _ _=>(@pg_tupK _ (K) _ _ _ (2) _ rfl rfl (yQ (@Qm _ _ (0) _ (show List.Nodup (["kind","piece","count"]:List Str) by decide+kernel) rfl (Or.inl rfl) (by trivial)) (yQ (@Qm _ _ (1) _ (show List.Nodup (["kind","piece","count"]:List Str) by decide+kernel) rfl (Or.inl rfl) (by trivial)) zD)) (by trivial) (by trivial))) (fun _ _ _ _ _ _=> @jK _) (fun _ _ _ _ _ _=>(@qq _ _ _ _ _ _ _ _ _ _ _ _ _ _ _ _ G_part_of (hr.mono (by first|decide|omega)) (by rfl) T.m_part_of T.F_part_of.kp T.b_part_of .nil qr (@qa _ _ _ _ _ (pv 0) (@qa _ _ _ _ _ (pv 1) (@qa _ _ _ _ _ (pv 2) (@qc _) (by trivial)) (by trivial)) (by trivial)) (by trivial) (by trivial) (by trivial))) (by trivial)) (@qc _) (by trivial)) (by trivial) (by trivial) (by trivial) (by trivial)) (by trivial) (by trivial)) (@qg _ _ _ (@qm _ _ _ _ (@jd _ _ _ _ _ _ _ _ (@qo _ _ _ _ _ _ _ _ (@yU _) (@Q7 _ _ _) (pv 5) (by with_unfolding_all rfl)) (@Q7 _ _ _) (@Qf _ _ _ _ _ (@qa _ _ _ _ _ (pv 2) (@qa _ _ _ _ _ (pv 5) (@qc _) (by trivial)) (by trivial))))))))))))),?_⟩
 have e0:isTx (.str (qG r))=true:=by
  show Ya (qG r)=true
  unfold Ya
  rw [hla,decide_eq_true (by omega)]
  rfl
 refine⟨_,rfl,_,.str (qG r),rfl,⟨rfl,yg (by omega)⟩,_,rfl,?_⟩
 rw [e0]
 refine iteF ?_
 refine⟨_,rfl,rfl,_,rfl,rfl,by omega,fun t1 x1 x2 g1=> ?_⟩
 refine⟨t1,_,0,_,rfl,rfl,SqT.of qj,rfl,?_⟩
 rw [hlh]
 have s1:Same H (upd H t1 (.tup [.str r.1,.str x1,.str x2])):=qe g1 _
 generalize upd H t1 (.tup [.str r.1,.str x1,.str x2])=H1 at s1⊢
 refine⟨_,rfl,r.1,g.forms,_,rfl,rfl,C.kd,hfq,_,rfl,?_⟩
 refine iteF ?_
 refine⟨_,rfl,r.1,g.forms,_,.ref q,rfl,rfl,C.kd,hfq,rfl,?_⟩
 refine⟨_,rfl,_,rfl,n,m,r,ks,q,rfl,hn,by omega,hk,hp,hft _,fun p2 g2=> ?_⟩
 have s2:Same H1 (upd H1 p2 (.lst ((txs r).map V.str))):=qe g2 _
 have e2:(upd H1 p2 (.lst ((txs r).map V.str))) p2=some (.lst ((txs r).map V.str)):=qj
 generalize upd H1 p2 (.lst ((txs r).map V.str))=H2 at s2 e2⊢
 refine⟨_,rfl,p2,_,rfl,.inl (SqL.of e2),_,rfl,q,_,rfl,.inr (hft _),_,_,rfl,rfl,rfl,_,rfl,?_⟩
 refine qA ?_ ?_
 ·have hlen:(((txs r).map V.str).length:Int)=1+((ks.map fun k=>V.str k.t).length:Int):=by
   simp only [txs,List.length_map,List.length_cons]
   omega
  rw [hlen]
  simp
 refine⟨_,rfl,_,rfl,_,rfl,p2,_,rfl,SqL.of e2,fun p3 g3=> ?_⟩
 have ecut:cutV ((txs r).map V.str) (some 1) none=(r.2.map Pt.t).map V.str:=by
  rw [show(some (1:Int))=some (((1:Nat)):Int) from rfl,J5 (by simp [txs])]
  rfl
 rw [ecut]
 have s3:Same H2 (upd H2 p3 (.lst ((r.2.map Pt.t).map V.str))):=qe g3 _
 have e3:(upd H2 p3 (.lst ((r.2.map Pt.t).map V.str))) p3=some (.lst ((r.2.map Pt.t).map V.str)):=qj
 generalize upd H2 p3 (.lst ((r.2.map Pt.t).map V.str))=H3 at s3 e3⊢
 refine⟨q,p3,_,_,rfl,hft _,SqL.of e3,fun A1 gA=> ?_⟩
 refine lc_zip (K:=K) (tl:= [some (.int (n:Int))]) (xs:=ks.map fun k:Kd=>V.str k.t) (ys:=(r.2.map Pt.t).map V.str) (fun i=>(r.2.map Pt.d).getD i .non) (fun H' _=>hft H') (fun H' sm=>SqL.of (sm _ _ e3)) (by simp [hpl]) (by rw [List.length_map];exact yg (by omega)) gA ?_ ?_
 ·intro i x y H4 R hx hy s4 hR
  rw [List.getElem?_map] at hx hy
  cases hki:ks[i]? with
  |none=>rw [hki] at hx;cases hx
  |some kd=>
   rw [hki] at hx
   cases hx
   rw [List.getElem?_map] at hy
   cases hpi:r.2[i]? with
   |none=>rw [hpi] at hy;cases hy
   |some q1=>
    rw [hpi] at hy
    cases hy
    refine⟨_,rfl,_,rfl,_,rfl,n,m,kd,q1,rfl,hn,hm,ptsOk_get hp hki hpi,fun v H5 s5 hv=>hR v H5 s5 ?_⟩
    have e:(r.2.map Pt.d).getD i .non=q1.d:=by simp [List.getD,hpi]
    simp only [e]
    exact hv
 intro H5 vs s5 e5 h5
 have h5':L2.IsL H5 (r.2.map Pt.d) vs:=by
  rw [List.length_map,←hpl] at h5
  rw [range_parts r.2 _ (fun i q1 hi=>by simp [List.getD,hi])] at h5
  exact h5
 refine⟨A1,vs,rfl,.inl ⟨SqL.of e5,fun t6 g6=> ?_⟩⟩
 have s6:Same H5 (upd H5 t6 (.tup vs)):=qe g6 _
 have i6:Is (upd H5 t6 (.tup vs)) (.tup (r.2.map Pt.d)) (.ref t6):=Is.new h5' g6
 have e6:(upd H5 t6 (.tup vs)) t6=some (.tup vs):=qj
 generalize upd H5 t6 (.tup vs)=H6 at s6 i6 e6⊢
 obtain⟨f1,f2⟩:=vals_pt h5'
 refine⟨_,rfl,t6,vs,rfl,.inr (SqT.of e6),rfl,f1,_,rfl,?_⟩
 refine qA (by rw [if_neg Bool.false_ne_true];exact f2) ?_
 refine⟨_,rfl,_,rfl,(by show 2≤sizeLine;decide),fun t7 g7=> ?_⟩
 have hwl:r.1.length≤sizeLine:=by
  have key:∀x∈FRM,x.1.length≤100:=by decide+kernel
  have:=key _ hk
  exact yg (by simp only at this;omega)
 exact k _ _ (s1.trans (s2.trans (s3.trans (s5.trans (s6.trans (qe g7 _)))))) (Is.new (ds:= [.str r.1,.tup (r.2.map Pt.d)]) ⟨_,_,rfl,⟨rfl,hwl⟩,_,_,rfl,i6,rfl⟩ g7)
end
end K14
namespace K14
open PySem L2 PyProof.Rows
def Yb (rs:List Rw):D:= .tup (rs.map fun r=> .str (qG r))
structure Q2 (rs:List Rw):Prop where
 n0:1≤rs.length
 n1:rs.length≤40
 ok:∀r∈rs,Yi rs.length 125 r
 tree:isT (Yb rs)=true
theorem goodL_mem:∀{ds:List D}{d:D},goodL ds=true→d∈ds→good d=true
 |x::xs,d,h,hm=>by
  simp only [goodL,Bool.and_eq_true] at h
  rcases List.mem_cons.mp hm with rfl|hm
  ·exact h.1
  ·exact goodL_mem h.2 hm
theorem Q2.text {rs:List Rw}(h:Q2 rs){r:Rw}(hr:r∈rs):Ya (qG r)=true:=by
 have h1:=h.tree
 unfold isT at h1
 rw [Bool.and_eq_true,Bool.and_eq_true] at h1
 have h2:=h1.1.1
 unfold Yb at h2
 simp only [good,Bool.and_eq_true] at h2
 have:=goodL_mem h2.2 (List.mem_map.mpr ⟨r,hr,rfl⟩)
 simpa only [good] using this
theorem Q2.len {rs:List Rw}(h:Q2 rs){r:Rw}(hr:r∈rs):(qG r).length≤300:=by
 have h1:=h.text hr
 rcases Nat.lt_or_ge 300 (qG r).length with h2|h2
 ·rw [zm h2] at h1;cases h1
 ·exact h2
def sp_read:Sp:=fun vs H Q _=>∃(v:V) (rs:List Rw),vs= [v]∧Q2 rs∧Is H (Yb rs) v∧∀(u:V) (H':Hp),Same H H'→Is H' (.tup [.tup (rs.map rowD),.non]) u→Q u H'
section
variable {P:Program}{w:World}{K:PySem.W.Frag}{mg:Str→Option Value}{base:Heap}{a:Ad}{g:Ga}
theorem ok_read (T:Tx K mg a)(C:Fx K w mg g a):FnOk P w K mg base CX0 3 a.ji a.Y9 ["value"] sp_read:=by
 have Je:FnOk P w K mg base CX0 2 a.jx a.jn ["value"] JJ:=xG T
 have G_row_of:FnOk P w K mg base CX0 2 a.XS a.XU ["line","count"] sp_row_of:=ok_row_of T C
 refine T.Xs.ok YG (fun vs H Q E h=> ?_) (fun cdv A outer s H vs Q E hr h=> ?_)
 ·obtain⟨v,rs,rfl,_⟩:=h
  rfl
 obtain⟨v,rs,rfl,hR,hv,k⟩:=h
 refine⟨_,(@qb _ _ _ _ _ (@qY _ _ _ _ _ _ _ _ (@xl _ _ _ _ _ _ _ (@yi _ _ _ _ (@QY _ _ _ (@qp _ _ _ _ _ _ _ _ _ (@Qi _ _ rfl) (by rfl) T.qU boot_isinstance (@qa _ _ _ _ _ (pv 0) (@qa _ _ _ _ _ (@yG _ _ (.ty "tuple") _ _ (by rfl) T.Yg boot_tuple rfl (by trivial) (by trivial)) (@qc _) (by trivial)) (by trivial)) (by trivial) (by trivial) (by trivial) (by trivial)) (by trivial))) (@Ja _ _ _ _ (@yi _ _ _ _ (@pt_chain _ _ _ _ _ _ _ _ _ _ _ _ (@op_le _) (@op_le _) (@qi _ _ _ _) (@qp _ _ _ _ _ _ _ _ _ (@qE _) (by rfl) T.yS PySem.boot_len (@qa _ _ _ _ _ (pv 0) (@qc _) (by trivial)) (by trivial) (by trivial) (by trivial) (by trivial)) (@pe_gI _ _ _ _ (by rfl) T.m_MOST_LINES (by trivial)) (by trivial))))).pt (@qg _ _ _ (@qm _ _ _ _ (@Qf _ _ _ _ _ (@qa _ _ _ _ _ (@Qf _ _ _ _ _ (@qc _)) (@qa _ _ _ _ _ (@qi _ _ _ _) (@qc _) (by trivial)) (by trivial))))) (@qt _)) (@qb _ _ _ _ _ (@qx _ _ (1) _ _ _ _ YG.nd rfl (Or.inl rfl) (@yH _ _ _ _ (@qc _)) (by trivial) (by trivial)) (@qb _ _ _ _ _ (@jf _ _ _ _ _ _ _ _ PassesOwn.never rfl (@ZS _ _ _ _ (pv 0)) (@Qm _ _ (2) _ YG.nd rfl (Or.inl rfl) (by trivial)) (@qb _ _ _ _ _ (@qx _ _ (3) _ _ _ _ YG.nd rfl (Or.inl rfl) (@qq _ _ _ _ _ _ _ _ _ _ _ _ _ _ _ _ G_row_of (hr.mono (by first|decide|omega)) (by rfl) T.m_row_of T.F_row_of.kp T.b_row_of .nil qr (@qa _ _ _ _ _ (pv 2) (@qa _ _ _ _ _ (@qp _ _ _ _ _ _ _ _ _ (@qE _) (by rfl) T.yS PySem.boot_len (@qa _ _ _ _ _ (pv 0) (@qc _) (by trivial)) (by trivial) (by trivial) (by trivial) (by trivial)) (@qc _) (by trivial)) (by trivial)) (by trivial) (by trivial) (by trivial)) (by trivial) (by trivial)) (@qb _ _ _ _ _ (@qY _ _ _ _ _ _ _ _ (@qo _ _ _ _ _ _ _ _ (@op_isN _) (pv 3) (@Q7 _ _ _) (qF _)) (@qg _ _ _ (@qm _ _ _ _ (@Qf _ _ _ _ _ (@qa _ _ _ _ _ (@QE _ _ _ _ _ _ _ _ _ (@Q6 _) (by rfl) T.Yg boot_tuple (@qa _ _ _ _ _ (pv 1) (@qc _) (by trivial)) (by trivial) (by trivial) (by trivial) (by trivial)) (@qa _ _ _ _ _ (@Qa _ _ _ _ _ _ _ _ (@Q8 _) (@qp _ _ _ _ _ _ _ _ _ (@qE _) (by rfl) T.yS PySem.boot_len (@qa _ _ _ _ _ (pv 1) (@qc _) (by trivial)) (by trivial) (by trivial) (by trivial) (by trivial)) (@qi _ _ _ _)) (@qc _) (by trivial)) (by trivial))))) (@qt _)) (@qg _ _ _ (@QP _ _ _ _ (@xc _ _ _ _ _ _ _ _ _ _ _ _ PySem.F.plainAttrs_list PySem.F.slot_list_append PySem.F.type_list_append (@zt _) (pv 1) (@qa _ _ _ _ _ (pv 3) (@qc _) (by trivial)) (by trivial) (by trivial) (by trivial) (by trivial) (by trivial)) (by trivial))))) (by trivial)) (@qg _ _ _ (@qm _ _ _ _ (@Qf _ _ _ _ _ (@qa _ _ _ _ _ (@QE _ _ _ _ _ _ _ _ _ (@Q6 _) (by rfl) T.Yg boot_tuple (@qa _ _ _ _ _ (pv 1) (@qc _) (by trivial)) (by trivial) (by trivial) (by trivial) (by trivial)) (@qa _ _ _ _ _ (@jd _ _ _ _ _ _ _ _ (@QY _ _ _ (@qq _ _ _ _ _ _ _ _ _ _ _ _ _ _ _ _ Je (hr.mono (by first|decide|omega)) (by rfl) T.zT T.xo.kp T.X5 .nil qr (@qa _ _ _ _ _ (pv 0) (@qc _) (by trivial)) (by trivial) (by trivial) (by trivial)) (by trivial)) (@Q7 _ _ _) (@qi _ _ _ _)) (@qc _) (by trivial)) (by trivial)))))))),?_⟩
 refine⟨_,rfl,v,"tuple",_,true,rfl,hv.ty,xU (Yb rs),_,rfl,?_⟩
 refine iteF ?_
 have hv':=hv
 obtain⟨va,us,rfl,ha,hu⟩:=hv'
 have hul:us.length=rs.length:=by rw [hu.length,List.length_map]
 have n0:=hR.n0
 have n1:=hR.n1
 refine⟨_,rfl,va,us,rfl,.inr (SqT.of ha),_,_,rfl,rfl,_,rfl,?_⟩
 refine Qy (decide_eq_true (by omega)) ?_
 refine⟨_,_,rfl,rfl,_,rfl,?_⟩
 refine qA (by rw [decide_eq_true (by omega)];rfl) ?_
 refine⟨(by show 0≤sizeLine;decide),fun L1 g1=> ?_⟩
 refine⟨_,rfl,va,rfl,⟨us,SqT.of (qe g1 _ _ _ ha)⟩,?_⟩
 refine xy (K:=K) (a:=va) (xs:=us) (fun i σ H'=>∃(ws:List V) (x2 x3:Option V),σ= [some (.ref va),some (.ref L1),x2,x3]∧H' L1=some (.lst ws)∧L2.IsL H' ((rs.take i).map rowD) ws∧Same H H')
  ⟨[],none,none,rfl,qj,rfl,qe g1 _⟩ (fun i σ H' _ ⟨_,_,_,_,_,_,sm⟩=>SqT.of (sm _ _ ha)) ?_ ?_
 ·rintro i x σ H' hx ⟨ws,x2,x3,rfl,e1,hw,sm⟩
  have hil:i<rs.length:=by
   obtain⟨h,_⟩:=List.getElem?_eq_some_iff.mp hx
   omega
  obtain⟨x',hx',hxi⟩:=hu.get (i:=i) (d:= .str (qG rs[i])) (by rw [List.getElem?_map,List.getElem?_eq_getElem hil];rfl)
  rw [hx] at hx'
  cases hx'
  obtain⟨rfl,_⟩:=hxi
  have hwl:ws.length=i:=by rw [hw.length,List.length_map,List.length_take];omega
  have hmem:rs[i]∈rs:=List.getElem_mem hil
  refine⟨_,rfl,_,rfl,va,us,rfl,.inr (SqT.of (sm _ _ ha)),rs.length,125,rs[i],by rw [hul];rfl,n1,by decide,hR.len hmem,hR.ok _ hmem,fun v H2 s2 hv=> ?_⟩
  have hv':=hv
  obtain⟨va',vs',rfl,_,_⟩:=hv'
  refine⟨_,rfl,rfl,_,rfl,?_⟩
  refine qA (decide_eq_false fun z=>by cases z) ?_
  have e2:=s2 _ _ e1
  refine⟨_,rfl,.inl ⟨rfl,_,SqL.of e2⟩,_,rfl,L1,ws,_,rfl,rfl,e2,zR (by omega),?_⟩
  have t3:Tk H2 (upd H2 L1 (.lst (ws++ [.ref va']))):=Tk.updL e2
  refine⟨ws++ [.ref va'],_,_,rfl,qj,?_,fun b o e=> ?_⟩
  ·rw [List.take_add_one,List.getElem?_eq_getElem hil,List.map_append]
   exact((hw.mono s2.tk).mono t3).append (IsL.one (hv.mono t3))
  ·rw [qD (ql e g1)]
   exact s2 b o (sm b o e)
 ·rintro σ H' ⟨ws,x2,x3,rfl,e1,hw,sm⟩
  rw [List.take_of_length_le (by omega)] at hw
  refine⟨_,rfl,L1,ws,rfl,.inl ⟨SqL.of e1,fun t1 g2=> ?_⟩⟩
  have s2:Same H' (upd H' t1 (.tup ws)):=qe g2 _
  have i2:Is (upd H' t1 (.tup ws)) (.tup (rs.map rowD)) (.ref t1):=Is.new hw g2
  generalize upd H' t1 (.tup ws)=H2 at s2 i2⊢
  refine⟨_,rfl,_,Yb rs,rfl,hv.mono (sm.trans s2).tk,fun H3 s3=> ?_⟩
  refine⟨_,rfl,?_⟩
  refine Qy hR.tree ?_
  refine⟨(by show 2≤sizeLine;decide),fun t4 g4=> ?_⟩
  exact k _ _ (sm.trans (s2.trans (s3.trans (qe g4 _)))) (Is.new (ds:= [.tup (rs.map rowD),.non]) ⟨_,_,rfl,i2.mono s3.tk,_,_,rfl,rfl,rfl⟩ g4)
end
end K14
namespace K14
open PySem L2 PyProof.Rows
def sp_rows:Sp:=fun vs H Q _=>∃(v:V) (rs:List Rw),vs= [v]∧Q2 rs∧Is H (Yb rs) v∧∀(u:V) (H':Hp),Same H H'→Is H' (.tup (rs.map rowD)) u→Q u H'
section
variable {P:Program}{w:World}{K:PySem.W.Frag}{mg:Str→Option Value}{base:Heap}{a:Ad}{g:Ga}
theorem ok_rows (T:Tx K mg a)(C:Fx K w mg g a):FnOk P w K mg base CX0 4 a.jJ a.jQ ["tree"] sp_rows:=by
 have G_read_lines:FnOk P w K mg base CX0 3 a.ji a.Y9 ["value"] sp_read:=ok_read T C
 refine T.zE.ok Xt (fun vs H Q E h=> ?_) (fun cdv A outer s H vs Q E hr h=> ?_)
 ·obtain⟨v,rs,rfl,_⟩:=h
  rfl
 obtain⟨v,rs,rfl,hR,hv,k⟩:=h
 refine⟨_,(@qb _ _ _ _ _ (@qx _ _ (1) _ _ _ _ Xt.nd rfl (Or.inl rfl) (@qq _ _ _ _ _ _ _ _ _ _ _ _ _ _ _ _ G_read_lines (hr.mono (by first|decide|omega)) (by rfl) T.m_read_lines T.Xs.kp T.b_read_lines .nil qr (@qa _ _ _ _ _ (pv 0) (@qc _) (by trivial)) (by trivial) (by trivial) (by trivial)) (by trivial) (by trivial)) (@qb _ _ _ _ _ (@qY _ _ _ _ _ _ _ _ (@qo _ _ _ _ _ _ _ _ (@op_notN _) (@qQ _ _ _ _ _ _ _ (@qX _) (pv 1) (@qi _ _ _ _) (fun _ _=>rfl)) (@Q7 _ _ _) (qF _)) (@qg _ _ _ (@XQ _ _)) (@qt _)) (@qg _ _ _ (@qm _ _ _ _ (@qQ _ _ _ _ _ _ _ (@qX _) (pv 1) (@qi _ _ _ _) (fun _ _=>rfl)))))),?_⟩
 refine⟨_,rfl,v,rs,rfl,hR,hv,fun u H1 s1 hu=> ?_⟩
 refine⟨_,rfl,?_⟩
 dsimp only [tC]
 refine yw (i:=1) (d:= .non) hu rfl fun x hx=> ?_
 cases(show x= .non from hx)
 refine⟨rfl,_,rfl,?_⟩
 refine qA rfl ?_
 refine⟨_,rfl,?_⟩
 dsimp only [tC]
 refine yw (i:=0) (d:= .tup (rs.map rowD)) hu rfl fun x hx=> ?_
 exact k x H1 s1 hx
end
end K14
namespace K14
open PySem L2 PyProof.Rows
def kvB (f:Str→V):List (Key×V):=BX.map fun z=>(Sum.inr z,f z)
theorem val_B {f:Str→V}:∀{zs:List Str}{z:Str},z∈zs→valV (zs.map fun z=>((Sum.inr z:Key),f z)) (Sum.inr z)=some (f z)
 |y::ys,z,h=>by
  rw [List.map_cons]
  by_cases e:y=z
  ·subst e
   exact XT rfl
  ·have h':z∈ys:=by
    rcases List.mem_cons.mp h with rfl|h
    ·exact absurd rfl e
    ·exact h
   have:=val_B (f:=f) h'
   unfold valV at this⊢
   rw [List.find?_cons]
   have e2:decide ((Sum.inr y:Key)=Sum.inr z)=false:=decide_eq_false fun q=>e (Sum.inr.inj q)
   simp only [e2]
   exact this
theorem put_B {f:Str→V}{z:Str}{u:V}(h:z∈BX):putK (kvB f) (Sum.inr z) u=kvB fun y=>if y=z then u else f y:=by
 unfold putK
 rw [if_pos]
 ·unfold kvB
  rw [List.map_map]
  refine List.map_congr_left fun y _=> ?_
  by_cases e:y=z
  ·simp [e]
  ·simp [e]
 ·rw [List.any_eq_true]
  exact⟨(Sum.inr z,f z),List.mem_map.mpr ⟨z,h,rfl⟩,by simp⟩
def YW (H:Hp)(d:Addr)(B:Str→D):Prop:=∃f:Str→V,H d=some (.dK (kvB f))∧∀z∈BX,Is H (B z) (f z)
def setB (B:Str→D)(z:Str)(e:D):Str→D:=fun y=>if y=z then e else B y
theorem YW.same {H H':Hp}{d:Addr}{B:Str→D}(h:YW H d B)(s:Same H H'):YW H' d B:=let⟨f,e,i⟩:=h;⟨f,s _ _ e,fun z hz=>(i z hz).mono s.tk⟩
theorem YW.move {H H':Hp}{d:Addr}{B:Str→D}(h:YW H d B)(t:Tk H H')(e:H' d=H d):YW H' d B:=let⟨f,e1,i⟩:=h;⟨f,e.trans e1,fun z hz=>(i z hz).mono t⟩
theorem YW.get {H:Hp}{d:Addr}{B:Str→D}{z:Str}(h:YW H d B)(hz:z∈BX):∃v,DGet H d (.str z) (some v)∧Is H (B z) v:=by
 obtain⟨f,e,i⟩:=h
 refine⟨f z,?_,i z hz⟩
 have:=DGet.k (k:=(Sum.inr z:Key)) e
 rw [show valV (kvB f) (Sum.inr z)=some (f z) from val_B hz] at this
 exact this
theorem YW.put {H:Hp}{d:Addr}{B:Str→D}{z:Str}{u:V}{e:D}(h:YW H d B)(hz:z∈BX)(hu:Is H e u):∃kvs,DPut H d (.str z) u (upd H d (.dK kvs))∧YW (upd H d (.dK kvs)) d (setB B z e)∧Tk H (upd H d (.dK kvs)):=by
 obtain⟨f,ed,i⟩:=h
 refine⟨kvB fun y=>if y=z then u else f y,.inl ⟨_,Sum.inr z,ed,rfl,by show BX.length<sizeLine;rw [sizeLine_eq];decide,by rw [put_B hz]⟩,⟨_,qj,fun y hy=> ?_⟩,Tk.updD ed⟩
 have t:Tk H (upd H d (.dK (kvB fun y=>if y=z then u else f y))):=Tk.updD ed
 unfold setB
 by_cases c:y=z
 ·rw [if_pos c,if_pos c]
  exact hu.mono t
 ·rw [if_neg c,if_neg c]
  exact(i y hy).mono t
def JQ:List D→Bool
 | []=>true
 | .str _::r=>JQ r
 |_=>false
def JR:List D→List Str
 | .str z::r=>z::JR r
 |_=> []
def b0 (ps:List Pt):Str:=(ps.getD 0 (.s "")).t
def b1 (ps:List Pt):Str:=(ps.getD 1 (.s "")).t
def b2 (ps:List Pt):Str:=(ps.getD 2 (.s "")).t
def firstD:D→D
 | .str z=>if z.length=0 then .non else .str ⟨#[z.cps.getD 0 0]⟩
 | .tup (x::_)=>x
 |_=> .non
def restD:D→D
 | .str z=>if z.length=0 then .non else .str (Txt.slice z (some 1) none)
 | .tup (_::r)=> .tup r
 |_=> .non
def lenD:D→Nat
 | .str z=>z.length
 | .tup xs=>xs.length
 |_=>0
def putD:D→D→D
 | .tup xs,e=> .tup (xs++ [e])
 |_,_=> .non
def joinD:D→D→D
 | .str x,.str y=> .str (x++y)
 |_,_=> .non
def cutD:D→D→D
 | .str z,.str y=>if y.length=0 then .non else .tup ((spG z y).map .str)
 |_,_=> .non
def glueD:D→D→D
 | .tup xs,.str y=>if JQ xs=true then .str (Str.join y (JR xs)) else .non
 |_,_=> .non
def made (w:Str)(B:Str→D)(own:Str)(ps:List Pt):D:=
 if w="text" then .str (b1 ps) else if w="self" then .str own else if w="copy" then B (b1 ps) else if w="row" then .tup [] else
 if w="put" then putD (B (b0 ps)) (B (b1 ps)) else if w="join" then joinD (B (b0 ps)) (B (b1 ps)) else if w="first" then firstD (B (b1 ps)) else if w="rest" then restD (B (b1 ps)) else
 if w="size" then .str (toString ((lenD (B (b1 ps)):Nat):Int)) else if w="cut" then cutD (B (b1 ps)) (B (b2 ps)) else glueD (B (b1 ps)) (B (b2 ps))
theorem Q9 {n m:Nat}{w:Str}{ps:List Pt}{ks:List Kd}(h:Yi n m (w,ps))(hk:(w,ks)∈FRM):jY n m ks ps:=by
 obtain⟨ks',h1,h2⟩:=h
 have:=form_nd _ h1 _ hk rfl
 cases this
 exact h2
theorem sh_b {n m:Nat}{ps:List Pt}(h:jY n m [.box] ps):∃x,ps= [.s x]∧x∈BX:=by
 match ps,h with
 | [.s x],h=>exact⟨x,rfl,h.1⟩
 | [.n _],h=>exact h.1.elim
theorem Ze {n m:Nat}{ps:List Pt}(h:jY n m [.box,.box] ps):∃x y,ps= [.s x,.s y]∧x∈BX∧y∈BX:=by
 match ps,h with
 | [.s x,.s y],h=>exact⟨x,y,rfl,h.1,h.2.1⟩
 | [.n _,_],h=>exact h.1.elim
 | [.s _,.n _],h=>exact h.2.1.elim
theorem sh_bbb {n m:Nat}{ps:List Pt}(h:jY n m [.box,.box,.box] ps):∃x y z,ps= [.s x,.s y,.s z]∧x∈BX∧y∈BX∧z∈BX:=by
 match ps,h with
 | [.s x,.s y,.s z],h=>exact⟨x,y,z,rfl,h.1,h.2.1,h.2.2.1⟩
 | [.n _,_,_],h=>exact h.1.elim
 | [.s _,.n _,_],h=>exact h.2.1.elim
 | [.s _,.s _,.n _],h=>exact h.2.2.1.elim
theorem sh_bw {n m:Nat}{ps:List Pt}(h:jY n m [.box,.words] ps):∃x y,ps= [.s x,.s y]∧x∈BX∧y.length≤m∧y.cps.toList.all yu=true:=by
 match ps,h with
 | [.s x,.s y],h=>exact⟨x,y,rfl,h.1,h.2.1⟩
 | [.n _,_],h=>exact h.1.elim
 | [.s _,.n _],h=>exact h.2.1.elim
theorem sh_bl {n m:Nat}{ps:List Pt}(h:jY n m [.box,.line] ps):∃x,∃i:Int,ps= [.s x,.n i]∧x∈BX∧1≤i∧i≤n:=by
 match ps,h with
 | [.s x,.n i],h=>exact⟨x,i,rfl,h.1,h.2.1⟩
 | [.n _,_],h=>exact h.1.elim
 | [.s _,.s _],h=>exact h.2.1.elim
theorem sh_bbl {n m:Nat}{ps:List Pt}(h:jY n m [.box,.box,.line] ps):∃x y,∃i:Int,ps= [.s x,.s y,.n i]∧x∈BX∧y∈BX∧1≤i∧i≤n:=by
 match ps,h with
 | [.s x,.s y,.n i],h=>exact⟨x,y,i,rfl,h.1,h.2.1,h.2.2.1⟩
 | [.n _,_,_],h=>exact h.1.elim
 | [.s _,.n _,_],h=>exact h.2.1.elim
 | [.s _,.s _,.s _],h=>exact h.2.2.1.elim
def PtsAt (H:Hp)(t:Addr)(ps:List Pt):Prop:=Is H (.tup (ps.map Pt.d)) (.ref t)
def Tr (B:Str→D):Prop:=∀z∈BX,isT (B z)=true
def xR (w:Str):Sp:=fun vs H Q _=>∃(d t:Addr) (own:Str) (B:Str→D) (ps:List Pt) (n:Nat),vs= [.ref d,.str own,.ref t]∧YW H d B∧Tr B∧own.length≤100∧Yi n 125 (w,ps)∧PtsAt H t ps∧
 ∀(v:V) (H':Hp),Same H H'→Is H' (made w B own ps) v→Q v H'
theorem box_at {K:PySem.W.Frag}{H:Hp}{t:Addr}{ps:List Pt}{i:Nat}{z:Str}{Q:VK}(h:PtsAt H t ps)(e:ps[i]? =some (.s z))(q:Q (.str z) H):rIxT K (.ref t) (.int (i:Int)) H Q:=
 yw (d:= .str z) h (Qe (by rw [List.getElem?_map,e];rfl)) fun x hx=>by obtain⟨rfl,_⟩:=hx;exact q
end K14
namespace K14
open PySem L2 PyProof.Rows
theorem Zw {d:D}(h:isT d=true):dp d≤12:=by
 unfold isT at h
 rw [Bool.and_eq_true] at h
 exact of_decide_eq_true h.2
theorem isT_sz {d:D}(h:isT d=true):sz d≤600:=by
 unfold isT at h
 rw [Bool.and_eq_true,Bool.and_eq_true] at h
 exact of_decide_eq_true h.1.2
theorem jk {d:D}(h:isT d=true):lenD d≤600:=by
 have h1:=isT_sz h
 cases d with
 |str z=>simp only [sz] at h1;show z.length≤600;omega
 |tup xs=>
  unfold isT at h
  rw [Bool.and_eq_true,Bool.and_eq_true] at h
  have h2:=h.1.1
  simp only [good,Bool.and_eq_true] at h2
  have:=of_decide_eq_true h2.1
  show xs.length≤600
  omega
 |_=>exact Nat.zero_le _
theorem xJ (z y:Str):(z++y:Str).length=z.length+y.length:=by
 show(z.cps++y.cps).size=z.cps.size+y.cps.size
 exact Array.size_append
theorem bget {K:PySem.W.Frag}{H:Hp}{t d:Addr}{B:Str→D}{ps:List Pt}{i:Nat}{z:Str}{Q:VK}(hB:YW H d B)(h:PtsAt H t ps)(e:ps[i]? =some (.s z))(hz:z∈BX)(q:∀v,Is H (B z) v→Q v H):rIxT K (.ref t) (.int (i:Int)) H (fun y H2=>∃a v,V.ref d= .ref a∧DGet H2 a y (some v)∧Q v H2):=by
 obtain⟨v,gv,iv⟩:=hB.get hz
 exact box_at h e ⟨d,v,rfl,gv,q v iv⟩
section
variable {P:Program}{w:World}{K:PySem.W.Frag}{mg:Str→Option Value}{base:Heap}{a:Ad}{g:Ga}
theorem ok_text (T:Tx K mg a):FnOk P w K mg base CX0 1 a.YX a.J0 ["boxes","own","parts"] (xR "text"):=by
 refine T.zB.ok sc_text_made (fun vs H Q E h=> ?_) (fun cdv A outer s H vs Q E hr h=> ?_)
 ·obtain⟨d,t,own,B,ps,n,rfl,_⟩:=h
  rfl
 obtain⟨d,t,own,B,ps,n,rfl,hB,hT,ho,hr',hp,k⟩:=h
 refine⟨_,(@qg _ _ _ (@qm _ _ _ _ (@qQ _ _ _ _ _ _ _ (@qX _) (pv 2) (@qi _ _ _ _) (fun _ _=>rfl)))),?_⟩
 obtain⟨x,y,rfl,hx,hy,hs⟩:=sh_bw (Q9 hr' (by decide+kernel))
 exact⟨_,rfl,box_at (i:=1) hp rfl (k _ H (Same.refl _) ⟨rfl,yg (by show y.length≤1000;omega)⟩)⟩
theorem ok_self (T:Tx K mg a):FnOk P w K mg base CX0 1 a.YY a.JY ["boxes","own","parts"] (xR "self"):=by
 refine T.X1.ok sc_self_made (fun vs H Q E h=> ?_) (fun cdv A outer s H vs Q E hr h=> ?_)
 ·obtain⟨d,t,own,B,ps,n,rfl,_⟩:=h
  rfl
 obtain⟨d,t,own,B,ps,n,rfl,hB,hT,ho,hr',hp,k⟩:=h
 refine⟨_,(@qg _ _ _ (@qm _ _ _ _ (pv 1))),?_⟩
 exact⟨_,rfl,k _ H (Same.refl _) ⟨rfl,yg (by show own.length≤1000;omega)⟩⟩
theorem ok_row (T:Tx K mg a):FnOk P w K mg base CX0 1 a.jy a.xS ["boxes","own","parts"] (xR "row"):=by
 refine T.Zu.ok sc_row_made (fun vs H Q E h=> ?_) (fun cdv A outer s H vs Q E hr h=> ?_)
 ·obtain⟨d,t,own,B,ps,n,rfl,_⟩:=h
  rfl
 obtain⟨d,t,own,B,ps,n,rfl,hB,hT,ho,hr',hp,k⟩:=h
 refine⟨_,(@qg _ _ _ (@qm _ _ _ _ (@Qf _ _ _ _ _ (@qc _)))),?_⟩
 exact⟨(by show 0≤sizeLine;decide),fun l hl=>k _ _ (qe hl _) (Is.new (ds:= []) rfl hl)⟩
theorem ok_copy (T:Tx K mg a):FnOk P w K mg base CX0 1 a.YU a.J3 ["boxes","own","parts"] (xR "copy"):=by
 refine T.zC.ok sc_copy_made (fun vs H Q E h=> ?_) (fun cdv A outer s H vs Q E hr h=> ?_)
 ·obtain⟨d,t,own,B,ps,n,rfl,_⟩:=h
  rfl
 obtain⟨d,t,own,B,ps,n,rfl,hB,hT,ho,hr',hp,k⟩:=h
 refine⟨_,(@qg _ _ _ (@qm _ _ _ _ (@yf _ _ _ _ _ _ (jF hr) (pv 0) (@qQ _ _ _ _ _ _ _ (@qX _) (pv 2) (@qi _ _ _ _) (fun _ _=>rfl)) (fun _ _=>rfl)))),?_⟩
 obtain⟨x,y,rfl,hx,hy⟩:=Ze (Q9 hr' (by decide+kernel))
 refine⟨_,rfl,_,rfl,?_⟩
 exact bget (i:=1) hB hp rfl hy fun v iv=>k _ H (Same.refl _) iv
theorem ok_put (T:Tx K mg a):FnOk P w K mg base CX0 1 a.jE a.xx ["boxes","own","parts"] (xR "put"):=by
 refine T.ZR.ok zl (fun vs H Q E h=> ?_) (fun cdv A outer s H vs Q E hr h=> ?_)
 ·obtain⟨d,t,own,B,ps,n,rfl,_⟩:=h
  rfl
 obtain⟨d,t,own,B,ps,n,rfl,hB,hT,ho,hr',hp,k⟩:=h
 refine⟨_,(@qb _ _ _ _ _ (@qx _ _ (3) _ _ _ _ zl.nd rfl (Or.inl rfl) (@yf _ _ _ _ _ _ (jF hr) (pv 0) (@qQ _ _ _ _ _ _ _ (@qX _) (pv 2) (@qi _ _ _ _) (fun _ _=>rfl)) (fun _ _=>rfl)) (by trivial) (by trivial)) (@qb _ _ _ _ _ (@qY _ _ _ _ _ _ _ _ (@yi _ _ _ _ (@QY _ _ _ (@qp _ _ _ _ _ _ _ _ _ (@Qi _ _ rfl) (by rfl) T.qU boot_isinstance (@qa _ _ _ _ _ (pv 3) (@qa _ _ _ _ _ (@yG _ _ (.ty "tuple") _ _ (by rfl) T.Yg boot_tuple rfl (by trivial) (by trivial)) (@qc _) (by trivial)) (by trivial)) (by trivial) (by trivial) (by trivial) (by trivial)) (by trivial))) (@qg _ _ _ (@qm _ _ _ _ (@Q7 _ _ _))) (@qt _)) (@qg _ _ _ (@qm _ _ _ _ (@Qa _ _ _ _ _ _ _ _ (@Xi _) (pv 3) (@Qf _ _ _ _ _ (@qa _ _ _ _ _ (@yf _ _ _ _ _ _ (jF hr) (pv 0) (@qQ _ _ _ _ _ _ _ (@qX _) (pv 2) (@qi _ _ _ _) (fun _ _=>rfl)) (fun _ _=>rfl)) (@qc _) (by trivial)))))))),?_⟩
 obtain⟨x,y,rfl,hx,hy⟩:=Ze (Q9 hr' (by decide+kernel))
 refine⟨_,rfl,_,rfl,?_⟩
 refine bget (i:=0) hB hp rfl hx fun v iv=> ?_
 refine⟨_,rfl,v,"tuple",tyD (B x),isTup (B x),rfl,iv.ty,xU _,_,rfl,?_⟩
 have hl':=jk (hT x hx)
 have k':∀(v:V) (H':Hp),Same H H'→Is H' (putD (B x) (B y)) v→Q v H':=k
 generalize B x=dx at iv k' hl'⊢
 cases dx with
 |tup xs=>
  refine iteF ?_
  obtain⟨r,rs,rfl,er,ir⟩:=iv
  refine⟨_,rfl,_,rfl,_,rfl,?_⟩
  refine bget (i:=1) hB hp rfl hy fun u iu=> ?_
  refine⟨(by show 1≤sizeLine;decide),fun l hl=>⟨r,l,rs,[u],rfl,rfl,SqT.of (qe hl _ _ _ er),SqT.of qj,?_,fun e=> ?_,fun _ e=>(by cases e),fun _ _ p hp=> ?_⟩⟩
  ·rw [ir.length]
   have:xs.length≤600:=hl'
   exact yg (by show xs.length+1≤1000;omega)
  ·subst e
   have e2:xs= []:=List.eq_nil_of_length_eq_zero ir.length.symm
   subst e2
   exact k' _ _ (qe hl _) (Is.new (ds:= [B y]) (IsL.one iu) hl)
  ·have t1:Tk H (upd H l (.tup [u])):=(qe hl _).tk
   exact k' _ _ ((qe hl _).trans (qe hp _)) (Is.new (ds:=xs++ [B y]) ((ir.mono t1).append (IsL.one (iu.mono t1))) hp)
 |_=>exact iteT (k' _ H (Same.refl _) rfl)
theorem ok_join (T:Tx K mg a):FnOk P w K mg base CX0 1 a.YV a.J2 ["boxes","own","parts"] (xR "join"):=by
 refine T.zn.ok Jp (fun vs H Q E h=> ?_) (fun cdv A outer s H vs Q E hr h=> ?_)
 ·obtain⟨d,t,own,B,ps,n,rfl,_⟩:=h
  rfl
 obtain⟨d,t,own,B,ps,n,rfl,hB,hT,ho,hr',hp,k⟩:=h
 refine⟨_,(@qb _ _ _ _ _ (@qx _ _ (3) _ _ _ _ Jp.nd rfl (Or.inl rfl) (@yf _ _ _ _ _ _ (jF hr) (pv 0) (@qQ _ _ _ _ _ _ _ (@qX _) (pv 2) (@qi _ _ _ _) (fun _ _=>rfl)) (fun _ _=>rfl)) (by trivial) (by trivial)) (@qb _ _ _ _ _ (@qx _ _ (4) _ _ _ _ Jp.nd rfl (Or.inl rfl) (@yf _ _ _ _ _ _ (jF hr) (pv 0) (@qQ _ _ _ _ _ _ _ (@qX _) (pv 2) (@qi _ _ _ _) (fun _ _=>rfl)) (fun _ _=>rfl)) (by trivial) (by trivial)) (@qb _ _ _ _ _ (@qY _ _ _ _ _ _ _ _ (@xl _ _ _ _ _ _ _ (@yi _ _ _ _ (@QY _ _ _ (@qp _ _ _ _ _ _ _ _ _ (@Qi _ _ rfl) (by rfl) T.qU boot_isinstance (@qa _ _ _ _ _ (pv 3) (@qa _ _ _ _ _ (@yG _ _ (.ty "str") _ _ (by rfl) T.xL boot_str rfl (by trivial) (by trivial)) (@qc _) (by trivial)) (by trivial)) (by trivial) (by trivial) (by trivial) (by trivial)) (by trivial))) (@Ja _ _ _ _ (@yi _ _ _ _ (@QY _ _ _ (@qp _ _ _ _ _ _ _ _ _ (@Qi _ _ rfl) (by rfl) T.qU boot_isinstance (@qa _ _ _ _ _ (pv 4) (@qa _ _ _ _ _ (@yG _ _ (.ty "str") _ _ (by rfl) T.xL boot_str rfl (by trivial) (by trivial)) (@qc _) (by trivial)) (by trivial)) (by trivial) (by trivial) (by trivial) (by trivial)) (by trivial))))).pt (@qg _ _ _ (@qm _ _ _ _ (@Q7 _ _ _))) (@qt _)) (@qg _ _ _ (@qm _ _ _ _ (@Qa _ _ _ _ _ _ _ _ (@QH _) (pv 3) (pv 4))))))),?_⟩
 obtain⟨x,y,rfl,hx,hy⟩:=Ze (Q9 hr' (by decide+kernel))
 refine⟨_,rfl,_,rfl,?_⟩
 refine bget (i:=0) hB hp rfl hx fun v iv=> ?_
 refine⟨_,rfl,_,rfl,?_⟩
 refine bget (i:=1) hB hp rfl hy fun u iu=> ?_
 have lx:=jk (hT x hx)
 have ly:=jk (hT y hy)
 have k':∀(v:V) (H':Hp),Same H H'→Is H' (joinD (B x) (B y)) v→Q v H':=k
 generalize B x=dx at iv k' lx⊢
 generalize B y=dy at iu k' ly⊢
 refine⟨_,rfl,v,"str",tyD dx,Y3 dx,rfl,iv.ty,jS _,_,rfl,?_⟩
 cases dx with
 |str z=>
  refine iteF ⟨_,rfl,u,"str",tyD dy,Y3 dy,rfl,iu.ty,jS _,_,rfl,?_⟩
  cases dy with
  |str z2=>
   refine iteF ?_
   obtain⟨rfl,_⟩:=iv
   obtain⟨rfl,_⟩:=iu
   have h1:z.length≤600:=lx
   have h2:z2.length≤600:=ly
   exact⟨_,rfl,_,rfl,_,_,rfl,rfl,fits (by omega),k' _ H (Same.refl _) ⟨rfl,by rw [show(z++z2).length=z.length+z2.length from xJ z z2];exact fits (by omega)⟩⟩
  |_=>exact iteT (k' _ H (Same.refl _) rfl)
 |_=>exact iteT (k' _ H (Same.refl _) (by cases dy<;>rfl))
theorem ok_first (T:Tx K mg a):FnOk P w K mg base CX0 1 a.Yz a.Jt ["boxes","own","parts"] (xR "first"):=by
 refine T.Xl.ok xa (fun vs H Q E h=> ?_) (fun cdv A outer s H vs Q E hr h=> ?_)
 ·obtain⟨d,t,own,B,ps,n,rfl,_⟩:=h
  rfl
 obtain⟨d,t,own,B,ps,n,rfl,hB,hT,ho,hr',hp,k⟩:=h
 refine⟨_,(@qb _ _ _ _ _ (@qx _ _ (3) _ _ _ _ xa.nd rfl (Or.inl rfl) (@yf _ _ _ _ _ _ (jF hr) (pv 0) (@qQ _ _ _ _ _ _ _ (@qX _) (pv 2) (@qi _ _ _ _) (fun _ _=>rfl)) (fun _ _=>rfl)) (by trivial) (by trivial)) (@qg _ _ _ (@qm _ _ _ _ (@jd _ _ _ _ _ _ _ _ (@qo _ _ _ _ _ _ _ _ (@op_gt _) (@qp _ _ _ _ _ _ _ _ _ (@xi _) (by rfl) T.yS PySem.boot_len (@qa _ _ _ _ _ (pv 3) (@qc _) (by trivial)) (by trivial) (by trivial) (by trivial) (by trivial)) (@qi _ _ _ _) (qF _)) (@qQ _ _ _ _ _ _ _ (@YD _) (pv 3) (@qi _ _ _ _) (fun _ _=>rfl)) (@Q7 _ _ _))))),?_⟩
 obtain⟨x,y,rfl,hx,hy⟩:=Ze (Q9 hr' (by decide+kernel))
 refine⟨_,rfl,_,rfl,?_⟩
 refine bget (i:=1) hB hp rfl hy fun v iv=> ?_
 have ly:=jk (hT y hy)
 have hg:=hT y hy
 have k':∀(v:V) (H':Hp),Same H H'→Is H' (firstD (B y)) v→Q v H':=k
 generalize B y=dy at iv k' ly hg⊢
 cases dy with
 |str z=>
  obtain⟨rfl,hz⟩:=iv
  refine⟨_,rfl,.inl ⟨z,rfl,hz,_,_,rfl,rfl,_,rfl,?_⟩⟩
  refine ite2 (fun c=> ?_) (fun c=> ?_)
  ·have h0:1≤z.length:=by have:=of_decide_eq_true c;omega
   have k2:Is H (firstD (.str z)) (.str ⟨#[z.cps.getD 0 0]⟩):=by
    show Is H (if z.length=0 then D.non else _) _
    rw [if_neg (by omega)]
    exact⟨rfl,yg (by show 1≤1000;decide)⟩
   exact⟨_,rfl,.inr (.inr ⟨z,0,_,rfl,rfl,hz,first_at h0,k' _ H (Same.refl _) k2⟩)⟩
  ·have h0:z.length=0:=by
    rcases Nat.eq_zero_or_pos z.length with e|e
    ·exact e
    ·exact absurd (decide_eq_true (by omega)) c
   exact k' _ H (Same.refl _) (by show Is H (if z.length=0 then D.non else _) _;rw [if_pos h0];rfl)
 |tup xs=>
  have iv':=iv
  obtain⟨r,rs,rfl,er,ir⟩:=iv'
  refine⟨_,rfl,.inr ⟨r,rs,rfl,.inr (SqT.of er),fun _=>⟨_,_,rfl,rfl,_,rfl,?_⟩⟩⟩
  have hl:=ir.length
  cases xs with
  |nil=>exact qA (decide_eq_false (by rw [hl];decide)) (k' _ H (Same.refl _) rfl)
  |cons e es=>
   refine Qy (decide_eq_true (by rw [hl,List.length_cons];omega)) ?_
   exact⟨_,rfl,.inr (.inl (yw (i:=0) (d:=e) iv (Qe (j:=0) rfl) fun q hq=>k' _ H (Same.refl _) hq))⟩
 |_=>simp [isT,good] at hg
end
end K14
namespace K14
open PySem L2 PyProof.Rows
theorem Zp:∀xs:List D,JQ xs=xs.all Y3
 | []=>rfl
 | .str _::r=>by show JQ r=_;rw [Zp r];rfl
 | .non::_| .bl _::_| .int _::_| .lst::_| .dct::_| .tup _::_=>rfl
theorem strs_map:∀{xs:List D},JQ xs=true→xs=(JR xs).map D.str
 | [],_=>rfl
 | .str z::r,h=>by
  show D.str z::r=D.str z::(JR r).map D.str
  rw [←strs_map (show JQ r=true from h)]
theorem IsL.strs {H:Hp}:∀{l:List Str}{vs:List V},L2.IsL H (l.map D.str) vs→vs=l.map V.str
 | [],_,h=>h
 |_::_,_,h=>by
  obtain⟨v,r,rfl,h1,h2⟩:=h
  rw [IsL.strs h2,h1.1];rfl
theorem IsL.ofStrs {H:Hp}:∀{l:List Str},(∀z∈l,z.length≤sizeLine)→L2.IsL H (l.map D.str) (l.map V.str)
 | [],_=>rfl
 |z::l,h=>⟨_,_,rfl,⟨rfl,h z List.mem_cons_self⟩,IsL.ofStrs fun y hy=>h y (List.mem_cons_of_mem _ hy)⟩
theorem sum_lens:∀(l:List Str),(l.map (·.length)).sum+l.length=szL (l.map D.str)
 | []=>rfl
 |z::l=>by
  have:=sum_lens l
  simp only [List.map_cons,List.sum_cons,List.length_cons,szL,sz]
  omega
theorem join_le (sep:Str):∀(l:List Str),(Str.join sep l).length≤(l.map (·.length)).sum+l.length*sep.length
 | []=>Nat.zero_le _
 | [x]=>by simp [Str.join]
 |x::y::r=>by
  have ih:=join_le sep (y::r)
  have e:(Str.join sep (x::y::r)).length=x.length+sep.length+(Str.join sep (y::r)).length:=by
   show((x.cps++sep.cps)++(Str.join sep (y::r)).cps).size=_
   rw [Array.size_append,Array.size_append]
   rfl
  rw [e,List.map_cons,List.sum_cons,List.length_cons,Nat.succ_mul]
  omega
section
variable {P:Program}{w:World}{K:PySem.W.Frag}{mg:Str→Option Value}{base:Heap}{a:Ad}{g:Ga}
theorem ok_rest (T:Tx K mg a):FnOk P w K mg base CX0 1 a.YZ a.JV ["boxes","own","parts"] (xR "rest"):=by
 refine T.zZ.ok Xm (fun vs H Q E h=> ?_) (fun cdv A outer s H vs Q E hr h=> ?_)
 ·obtain⟨d,t,own,B,ps,n,rfl,_⟩:=h
  rfl
 obtain⟨d,t,own,B,ps,n,rfl,hB,hT,ho,hr',hp,k⟩:=h
 refine⟨_,(@qb _ _ _ _ _ (@qx _ _ (3) _ _ _ _ Xm.nd rfl (Or.inl rfl) (@yf _ _ _ _ _ _ (jF hr) (pv 0) (@qQ _ _ _ _ _ _ _ (@qX _) (pv 2) (@qi _ _ _ _) (fun _ _=>rfl)) (fun _ _=>rfl)) (by trivial) (by trivial)) (@qg _ _ _ (@qm _ _ _ _ (@jd _ _ _ _ _ _ _ _ (@qo _ _ _ _ _ _ _ _ (@op_gt _) (@qp _ _ _ _ _ _ _ _ _ (@xi _) (by rfl) T.yS PySem.boot_len (@qa _ _ _ _ _ (pv 3) (@qc _) (by trivial)) (by trivial) (by trivial) (by trivial) (by trivial)) (@qi _ _ _ _) (qF _)) (@yY _ _ _ _ _ _ _ _ _ _ (@sl_any _) (pv 3) (@Y4 _ _ _ (@qi _ _ _ _)) (@Y7 _)) (@Q7 _ _ _))))),?_⟩
 obtain⟨x,y,rfl,hx,hy⟩:=Ze (Q9 hr' (by decide+kernel))
 refine⟨_,rfl,_,rfl,?_⟩
 refine bget (i:=1) hB hp rfl hy fun v iv=> ?_
 have ly:=jk (hT y hy)
 have hg:=hT y hy
 have k':∀(v:V) (H':Hp),Same H H'→Is H' (restD (B y)) v→Q v H':=k
 generalize B y=dy at iv k' ly hg⊢
 cases dy with
 |str z=>
  obtain⟨rfl,hz⟩:=iv
  refine⟨_,rfl,.inl ⟨z,rfl,hz,_,_,rfl,rfl,_,rfl,?_⟩⟩
  refine ite2 (fun c=> ?_) (fun c=> ?_)
  ·have h0:1≤z.length:=by have:=of_decide_eq_true c;omega
   have k2:Is H (restD (.str z)) (.str (Txt.slice z (some 1) none)):=by
    show Is H (if z.length=0 then D.non else _) _
    rw [if_neg (by omega)]
    exact⟨rfl,Nat.le_trans (Txt.slice_le z _ _) hz⟩
   exact⟨_,rfl,_,rfl,.inl ⟨z,rfl,hz,k' _ H (Same.refl _) k2⟩⟩
  ·have h0:z.length=0:=by
    rcases Nat.eq_zero_or_pos z.length with e|e
    ·exact e
    ·exact absurd (decide_eq_true (by omega)) c
   exact k' _ H (Same.refl _) (by show Is H (if z.length=0 then D.non else _) _;rw [if_pos h0];rfl)
 |tup xs=>
  have iv':=iv
  obtain⟨r,rs,rfl,er,ir⟩:=iv'
  refine⟨_,rfl,.inr ⟨r,rs,rfl,.inr (SqT.of er),fun _=>⟨_,_,rfl,rfl,_,rfl,?_⟩⟩⟩
  have hl:=ir.length
  cases xs with
  |nil=>exact qA (decide_eq_false (by rw [hl];decide)) (k' _ H (Same.refl _) rfl)
  |cons e es=>
   refine Qy (decide_eq_true (by rw [hl,List.length_cons];omega)) ?_
   obtain⟨v0,r0,rfl,i0,i1⟩:=ir
   refine⟨_,rfl,_,rfl,.inr ⟨r,v0::r0,rfl,SqT.of er,fun h=> ?_,fun _ p hp=> ?_⟩⟩
   ·exfalso
    have:=h.1
    simp [HT.sIx] at this
   ·have e1:cutV (v0::r0) (some 1) none=r0:=by
     rw [show(some (1:Int))=some (((1:Nat)):Int) from rfl,J5 (by simp)]
     rfl
    rw [e1]
    exact k' _ _ (qe hp _) (Is.new i1 hp)
 |_=>simp [isT,good] at hg
theorem ok_size (T:Tx K mg a):FnOk P w K mg base CX0 1 a.Y1 a.JS ["boxes","own","parts"] (xR "size"):=by
 refine T.zK.ok sc_size_made (fun vs H Q E h=> ?_) (fun cdv A outer s H vs Q E hr h=> ?_)
 ·obtain⟨d,t,own,B,ps,n,rfl,_⟩:=h
  rfl
 obtain⟨d,t,own,B,ps,n,rfl,hB,hT,ho,hr',hp,k⟩:=h
 refine⟨_,(@qg _ _ _ (@qm _ _ _ _ (@QE _ _ _ _ _ _ _ _ _ (@jh _) (by rfl) T.xL boot_str (@qa _ _ _ _ _ (@qp _ _ _ _ _ _ _ _ _ (@xi _) (by rfl) T.yS PySem.boot_len (@qa _ _ _ _ _ (@yf _ _ _ _ _ _ (jF hr) (pv 0) (@qQ _ _ _ _ _ _ _ (@qX _) (pv 2) (@qi _ _ _ _) (fun _ _=>rfl)) (fun _ _=>rfl)) (@qc _) (by trivial)) (by trivial) (by trivial) (by trivial) (by trivial)) (@qc _) (by trivial)) (by trivial) (by trivial) (by trivial) (by trivial)))),?_⟩
 obtain⟨x,y,rfl,hx,hy⟩:=Ze (Q9 hr' (by decide+kernel))
 refine⟨_,rfl,_,rfl,?_⟩
 refine bget (i:=1) hB hp rfl hy fun v iv=> ?_
 have ly:=jk (hT y hy)
 have hg:=hT y hy
 have k':∀(v:V) (H':Hp),Same H H'→Is H' (.str (toString ((lenD (B y):Nat):Int))) v→Q v H':=k
 generalize B y=dy at iv k' ly hg⊢
 have sm:∀n:Nat,n≤600→((n:Int)).natAbs.log2<1920∧((toString (n:Int):Str)).length≤sizeLine:=by
  intro n hn
  have h2:=Nat.log2_le_self ((n:Int)).natAbs
  exact⟨by omega,int_text_fits (by omega)⟩
 cases dy with
 |str z=>
  obtain⟨rfl,hz⟩:=iv
  have h2:=sm z.length ly
  exact .inl ⟨z,rfl,hz,_,rfl,h2.1,k' _ H (Same.refl _) ⟨rfl,h2.2⟩⟩
 |tup xs=>
  have iv':=iv
  obtain⟨r,rs,rfl,er,ir⟩:=iv'
  have h2:=sm xs.length ly
  refine .inr ⟨r,rs,rfl,.inr (SqT.of er),fun _=>⟨_,rfl,?_,?_⟩⟩
  ·rw [ir.length];exact h2.1
  ·rw [ir.length];exact k' _ H (Same.refl _) ⟨rfl,h2.2⟩
 |_=>simp [isT,good] at hg
theorem ok_cut (T:Tx K mg a):FnOk P w K mg base CX0 1 a.jB a.xD ["boxes","own","parts"] (xR "cut"):=by
 refine T.ZK.ok J1 (fun vs H Q E h=> ?_) (fun cdv A outer s H vs Q E hr h=> ?_)
 ·obtain⟨d,t,own,B,ps,n,rfl,_⟩:=h
  rfl
 obtain⟨d,t,own,B,ps,n,rfl,hB,hT,ho,hr',hp,k⟩:=h
 refine⟨_,(@qb _ _ _ _ _ (@qx _ _ (3) _ _ _ _ J1.nd rfl (Or.inl rfl) (@yf _ _ _ _ _ _ (jF hr) (pv 0) (@qQ _ _ _ _ _ _ _ (@qX _) (pv 2) (@qi _ _ _ _) (fun _ _=>rfl)) (fun _ _=>rfl)) (by trivial) (by trivial)) (@qb _ _ _ _ _ (@qx _ _ (4) _ _ _ _ J1.nd rfl (Or.inl rfl) (@yf _ _ _ _ _ _ (jF hr) (pv 0) (@qQ _ _ _ _ _ _ _ (@qX _) (pv 2) (@qi _ _ _ _) (fun _ _=>rfl)) (fun _ _=>rfl)) (by trivial) (by trivial)) (@qb _ _ _ _ _ (@qY _ _ _ _ _ _ _ _ (@xl _ _ _ _ _ _ _ (@yi _ _ _ _ (@QY _ _ _ (@qp _ _ _ _ _ _ _ _ _ (@Qi _ _ rfl) (by rfl) T.qU boot_isinstance (@qa _ _ _ _ _ (pv 3) (@qa _ _ _ _ _ (@yG _ _ (.ty "str") _ _ (by rfl) T.xL boot_str rfl (by trivial) (by trivial)) (@qc _) (by trivial)) (by trivial)) (by trivial) (by trivial) (by trivial) (by trivial)) (by trivial))) (@xl _ _ _ _ _ _ _ (@yi _ _ _ _ (@QY _ _ _ (@qp _ _ _ _ _ _ _ _ _ (@Qi _ _ rfl) (by rfl) T.qU boot_isinstance (@qa _ _ _ _ _ (pv 4) (@qa _ _ _ _ _ (@yG _ _ (.ty "str") _ _ (by rfl) T.xL boot_str rfl (by trivial) (by trivial)) (@qc _) (by trivial)) (by trivial)) (by trivial) (by trivial) (by trivial) (by trivial)) (by trivial))) (@Ja _ _ _ _ (@qo _ _ _ _ _ _ _ _ (@y0 _) (pv 4) (@qk _ _ _ _) (qF _))))).pt (@qg _ _ _ (@qm _ _ _ _ (@Q7 _ _ _))) (@qt _)) (@qg _ _ _ (@qm _ _ _ _ (@QE _ _ _ _ _ _ _ _ _ (@Q6 _) (by rfl) T.Yg boot_tuple (@qa _ _ _ _ _ (@xc _ _ _ _ _ _ _ _ _ _ _ _ PySem.F.plainAttrs_str PySem.F.slot_str_split PySem.F.type_str_split (@mt_splitG _) (pv 3) (@qa _ _ _ _ _ (pv 4) (@qc _) (by trivial)) (by trivial) (by trivial) (by trivial) (by trivial) (by trivial)) (@qc _) (by trivial)) (by trivial) (by trivial) (by trivial) (by trivial))))))),?_⟩
 obtain⟨x0,x,y,rfl,hx0,hx,hy⟩:=sh_bbb (Q9 hr' (by decide+kernel))
 refine⟨_,rfl,_,rfl,?_⟩
 refine bget (i:=1) hB hp rfl hx fun v iv=> ?_
 refine⟨_,rfl,_,rfl,?_⟩
 refine bget (i:=2) hB hp rfl hy fun u iu=> ?_
 have lx:=jk (hT x hx)
 have ly:=jk (hT y hy)
 have k':∀(v:V) (H':Hp),Same H H'→Is H' (cutD (B x) (B y)) v→Q v H':=k
 generalize B x=dx at iv k' lx⊢
 generalize B y=dy at iu k' ly⊢
 refine⟨_,rfl,v,"str",tyD dx,Y3 dx,rfl,iv.ty,jS _,_,rfl,?_⟩
 cases dx with
 |str z=>
  refine iteF ⟨_,rfl,u,"str",tyD dy,Y3 dy,rfl,iu.ty,jS _,_,rfl,?_⟩
  cases dy with
  |str z2=>
   refine iteF ?_
   obtain⟨rfl,_⟩:=iv
   obtain⟨rfl,_⟩:=iu
   have h1:z.length≤600:=lx
   have h2:z2.length≤600:=ly
   refine⟨_,rfl,rfl,_,rfl,?_⟩
   refine ite2 (fun c=> ?_) (fun c=> ?_)
   ·have e:z2="":=by have:=of_decide_eq_true c;injection this
    subst e
    exact k' _ H (Same.refl _) rfl
   ·have h3:z2.length≠0:=fun h=>c (decide_eq_true (by
     have:z2="":=by
      have h4:z2.cps= #[]:=Array.eq_empty_of_size_eq_zero h
      cases z2
      simp only at h4
      subst h4
      decide+kernel
     rw [this]))
    refine⟨_,rfl,rfl,_,rfl,z,z2,rfl,rfl,by omega,by omega,fun p hp=>⟨p,_,rfl,.inl ⟨SqL.of qj,fun l hl=> ?_⟩⟩⟩
    have s1:Same H (upd H p (.lst ((spG z z2).map V.str))):=qe hp _
    refine k' _ _ (s1.trans (qe hl _)) ?_
    show Is _ (if z2.length=0 then D.non else .tup ((spG z z2).map D.str)) _
    rw [if_neg h3]
    exact Is.new (IsL.ofStrs fun q hq=>yg (by have:=spG_mem hq;omega)) hl
  |_=>exact iteT (k' _ H (Same.refl _) rfl)
 |_=>exact iteT (k' _ H (Same.refl _) (by cases dy<;>rfl))
theorem ok_glue (T:Tx K mg a):FnOk P w K mg base CX0 1 a.Y5 a.JU ["boxes","own","parts"] (xR "glue"):=by
 refine T.zO.ok Jf (fun vs H Q E h=> ?_) (fun cdv A outer s H vs Q E hr h=> ?_)
 ·obtain⟨d,t,own,B,ps,n,rfl,_⟩:=h
  rfl
 obtain⟨d,t,own,B,ps,n,rfl,hB,hT,ho,hr',hp,k⟩:=h
 refine⟨_,(@qb _ _ _ _ _ (@qx _ _ (3) _ _ _ _ Jf.nd rfl (Or.inl rfl) (@yf _ _ _ _ _ _ (jF hr) (pv 0) (@qQ _ _ _ _ _ _ _ (@qX _) (pv 2) (@qi _ _ _ _) (fun _ _=>rfl)) (fun _ _=>rfl)) (by trivial) (by trivial)) (@qb _ _ _ _ _ (@qx _ _ (4) _ _ _ _ Jf.nd rfl (Or.inl rfl) (@yf _ _ _ _ _ _ (jF hr) (pv 0) (@qQ _ _ _ _ _ _ _ (@qX _) (pv 2) (@qi _ _ _ _) (fun _ _=>rfl)) (fun _ _=>rfl)) (by trivial) (by trivial)) (@qb _ _ _ _ _ (@qY _ _ _ _ _ _ _ _ (@xl _ _ _ _ _ _ _ (@yi _ _ _ _ (@QY _ _ _ (@qp _ _ _ _ _ _ _ _ _ (@Qi _ _ rfl) (by rfl) T.qU boot_isinstance (@qa _ _ _ _ _ (pv 3) (@qa _ _ _ _ _ (@yG _ _ (.ty "tuple") _ _ (by rfl) T.Yg boot_tuple rfl (by trivial) (by trivial)) (@qc _) (by trivial)) (by trivial)) (by trivial) (by trivial) (by trivial) (by trivial)) (by trivial))) (@Ja _ _ _ _ (@yi _ _ _ _ (@QY _ _ _ (@qp _ _ _ _ _ _ _ _ _ (@Qi _ _ rfl) (by rfl) T.qU boot_isinstance (@qa _ _ _ _ _ (pv 4) (@qa _ _ _ _ _ (@yG _ _ (.ty "str") _ _ (by rfl) T.xL boot_str rfl (by trivial) (by trivial)) (@qc _) (by trivial)) (by trivial)) (by trivial) (by trivial) (by trivial) (by trivial)) (by trivial))))).pt (@qg _ _ _ (@qm _ _ _ _ (@Q7 _ _ _))) (@qt _)) (@qb _ _ _ _ _ (@qY _ _ _ _ _ _ _ _ (@yi _ _ _ _ (@QY _ _ _ (@qp _ _ _ _ _ _ _ _ _ (@zy _ rfl) (by rfl) T.z_all boot_all (@qa _ _ _ _ _ (@pe_lc _ _ (["part"]) (1) ([]) _ _ _ _ _ _ _ _ _ (lcs0) rfl (@wg _ _ _ _ (pv 3)) (fun _ _ _ _ _ _=>(@Qm _ _ (0) _ (show List.Nodup (["part"]:List Str) by decide+kernel) rfl (Or.inl rfl) (by trivial))) (fun _ _ _ _ _ _=> @jK _) (fun _ _ _ _ _ _=>(@qp _ _ _ _ _ _ _ _ _ (@Qi _ _ rfl) (by rfl) T.qU boot_isinstance (@qa _ _ _ _ _ (pv 0) (@qa _ _ _ _ _ (@yG _ _ (.ty "str") _ _ (by rfl) T.xL boot_str rfl (by trivial) (by trivial)) (@qc _) (by trivial)) (by trivial)) (by trivial) (by trivial) (by trivial) (by trivial))) (by trivial)) (@qc _) (by trivial)) (by trivial) (by trivial) (by trivial) (by trivial)) (by trivial))) (@qg _ _ _ (@qm _ _ _ _ (@Q7 _ _ _))) (@qt _)) (@qg _ _ _ (@qm _ _ _ _ (@xc _ _ _ _ _ _ _ _ _ _ _ _ PySem.F.plainAttrs_str PySem.F.slot_str_join PySem.F.type_str_join (@mt_joinT _) (pv 4) (@qa _ _ _ _ _ (pv 3) (@qc _) (by trivial)) (by trivial) (by trivial) (by trivial) (by trivial) (by trivial)))))))),?_⟩
 obtain⟨x0,x,y,rfl,hx0,hx,hy⟩:=sh_bbb (Q9 hr' (by decide+kernel))
 refine⟨_,rfl,_,rfl,?_⟩
 refine bget (i:=1) hB hp rfl hx fun v iv=> ?_
 refine⟨_,rfl,_,rfl,?_⟩
 refine bget (i:=2) hB hp rfl hy fun u iu=> ?_
 have lx:=jk (hT x hx)
 have hg:=hT x hx
 have ly:=jk (hT y hy)
 have k':∀(v:V) (H':Hp),Same H H'→Is H' (glueD (B x) (B y)) v→Q v H':=k
 generalize B x=dx at iv k' lx hg⊢
 generalize B y=dy at iu k' ly⊢
 refine⟨_,rfl,v,"tuple",tyD dx,isTup dx,rfl,iv.ty,xU _,_,rfl,?_⟩
 cases dx with
 |tup xs=>
  refine iteF ⟨_,rfl,u,"str",tyD dy,Y3 dy,rfl,iu.ty,jS _,_,rfl,?_⟩
  cases dy with
  |str z2=>
   refine iteF ?_
   obtain⟨r,rs,rfl,er,ir⟩:=iv
   obtain⟨rfl,_⟩:=iu
   have h1:xs.length≤600:=lx
   have h2:z2.length≤600:=ly
   refine⟨_,rfl,r,rs,rfl,SqT.of er,fun hvl A0 hA0=> ?_⟩
   refine lc_tupS (tl:= []) (fun d=> .bl (Y3 d)) er ir (fits (by omega)) hA0 (fun d0 x0 H3 R hd0 s3 i3 q=>⟨_,rfl,x0,"str",tyD d0,Y3 d0,rfl,i3.ty,jS _,q _ H3 (Same.refl _) rfl⟩) fun H1 ys s1 l1 i1=> ?_
   have ey:ys=(xs.map Y3).map V.bl:=IsL.bls (by rw [List.map_map];exact i1)
   subst ey
   refine⟨A0,xs.map Y3,rfl,SqL.of l1,_,rfl,?_⟩
   have eall:(xs.map Y3).all id=JQ xs:=by rw [Zp,List.all_map];rfl
   rw [eall]
   cases hst:JQ xs with
   |false=>exact iteT (k' _ H1 s1 (by show Is H1 (if JQ xs=true then _ else D.non) _;rw [hst];rfl))
   |true=>
    have exs:=strs_map hst
    have er':rs=(JR xs).map V.str:=IsL.strs (by rw [←exs];exact ir)
    have hsz:=isT_sz hg
    have hsum:=sum_lens (JR xs)
    rw [←exs] at hsum
    simp only [sz] at hsz
    have hln:(JR xs).length*z2.length≤600*600:=Nat.mul_le_mul (by omega) h2
    have hj:=join_le z2 (JR xs)
    refine iteF ⟨_,rfl,rfl,_,rfl,z2,r,JR xs,rfl,rfl,SqT.of (by rw [s1 _ _ er,er']),by omega,?_⟩
    refine k' _ H1 s1 ?_
    show Is H1 (if JQ xs=true then .str (Str.join z2 (JR xs)) else D.non) _
    rw [hst]
    exact⟨rfl,fits (by omega)⟩
  |_=>exact iteT (k' _ H (Same.refl _) rfl)
 |_=>exact iteT (k' _ H (Same.refl _) (by cases dy<;>rfl))
end
end K14
namespace K14
open PySem L2 PyProof.Rows
def jump (w:Str)(B:Str→D)(ps:List Pt):Bool:=if w="like" then eqD (B (b0 ps)) (B (b1 ps)) else if w="rowed" then isTup (B (b0 ps)) else if w="none" then decide (lenD (B (b0 ps))=0) else true
def JMP:List Str:= ["go","like","rowed","none"]
def ASK:List Str:= ["ask","has","names"]
def flt (w:Str):D:= .tup [.str "fault",.str w]
def askF (w:Str)(held:D):D:=if w="names" then(if Y3 held=true then .tup [.str "asks",.tup [.str "names",held]] else flt "kind") else if isNm held=true then .tup [.str "asks",.tup [.str (if w="ask" then "thing" else "has"),held]] else flt "name"
def sp_jump:Sp:=fun vs H Q _=>∃(d t:Addr) (w:Str) (B:Str→D) (ps:List Pt) (n:Nat),vs= [.ref d,.str w,.ref t]∧YW H d B∧Tr B∧w∈JMP∧Yi n 125 (w,ps)∧PtsAt H t ps∧Q (.bl (jump w B ps)) H
def sp_asked:Sp:=fun vs H Q _=>∃(w:Str) (v:V) (d:D),vs= [.str w,v]∧w∈ASK∧Is H d v∧∀(u:V) (H':Hp),Same H H'→Is H' (askF w d) u→Q u H'
mutual
theorem good_pu:∀{d:D},good d=true→puD d=true
 | .str _,_=>rfl
 | .tup xs,h=>by
  simp only [good,Bool.and_eq_true] at h
  show puL xs=true
  exact goodL_pu h.2
 | .non,h| .bl _,h| .int _,h| .lst,h| .dct,h=>by simp [good] at h
theorem goodL_pu:∀{xs:List D},goodL xs=true→puL xs=true
 | [],_=>rfl
 |x::r,h=>by
  simp only [goodL,Bool.and_eq_true] at h
  simp only [puL,good_pu h.1,goodL_pu h.2,Bool.and_self]
end
theorem good_tr {d:D}(h:good d=true):trD d=true:=by
 cases d with
 |str z=>rfl
 |tup xs=>exact good_pu (d:= .tup xs) h
 |_=>simp [good] at h
theorem jU {d:D}(h:isT d=true):good d=true:=by
 unfold isT at h
 rw [Bool.and_eq_true,Bool.and_eq_true] at h
 exact h.1.1
theorem isT_tr {d:D}(h:isT d=true):trD d=true:=good_tr (jU h)
section
variable {P:Program}{w:World}{K:PySem.W.Frag}{mg:Str→Option Value}{base:Heap}{a:Ad}{g:Ga}
theorem ok_jump (T:Tx K mg a):FnOk P w K mg base CX0 1 a.yP a.yW ["boxes","word","parts"] sp_jump:=by
 refine T.Jg.ok XF (fun vs H Q E h=> ?_) (fun cdv A outer s H vs Q E hr h=> ?_)
 ·obtain⟨d,t,w,B,ps,n,rfl,_⟩:=h
  rfl
 obtain⟨d,t,w,B,ps,n,rfl,hB,hT,hw,hr',hp,k⟩:=h
 refine⟨_,(@qb _ _ _ _ _ (@qY _ _ _ _ _ _ _ _ (@qo _ _ _ _ _ _ _ _ (@y0 _) (pv 1) (@qk _ _ _ _) (qF _)) (@qg _ _ _ (@qm _ _ _ _ (@Y0 _ _ _ _ _ _ _ _ (@op_eqD _ hr.units) (@yf _ _ _ _ _ _ (jF hr) (pv 0) (@qQ _ _ _ _ _ _ _ (@qX _) (pv 2) (@qi _ _ _ _) (fun _ _=>rfl)) (fun _ _=>rfl)) (@yf _ _ _ _ _ _ (jF hr) (pv 0) (@qQ _ _ _ _ _ _ _ (@qX _) (pv 2) (@qi _ _ _ _) (fun _ _=>rfl)) (fun _ _=>rfl)) (qF _)))) (@qt _)) (@qb _ _ _ _ _ (@qY _ _ _ _ _ _ _ _ (@qo _ _ _ _ _ _ _ _ (@y0 _) (pv 1) (@qk _ _ _ _) (qF _)) (@qg _ _ _ (@qm _ _ _ _ (@qp _ _ _ _ _ _ _ _ _ (@Qi _ _ rfl) (by rfl) T.qU boot_isinstance (@qa _ _ _ _ _ (@yf _ _ _ _ _ _ (jF hr) (pv 0) (@qQ _ _ _ _ _ _ _ (@qX _) (pv 2) (@qi _ _ _ _) (fun _ _=>rfl)) (fun _ _=>rfl)) (@qa _ _ _ _ _ (@yG _ _ (.ty "tuple") _ _ (by rfl) T.Yg boot_tuple rfl (by trivial) (by trivial)) (@qc _) (by trivial)) (by trivial)) (by trivial) (by trivial) (by trivial) (by trivial)))) (@qt _)) (@qb _ _ _ _ _ (@qY _ _ _ _ _ _ _ _ (@qo _ _ _ _ _ _ _ _ (@y0 _) (pv 1) (@qk _ _ _ _) (qF _)) (@qg _ _ _ (@qm _ _ _ _ (@Y0 _ _ _ _ _ _ _ _ (@y0 _) (@qp _ _ _ _ _ _ _ _ _ (@xi _) (by rfl) T.yS PySem.boot_len (@qa _ _ _ _ _ (@yf _ _ _ _ _ _ (jF hr) (pv 0) (@qQ _ _ _ _ _ _ _ (@qX _) (pv 2) (@qi _ _ _ _) (fun _ _=>rfl)) (fun _ _=>rfl)) (@qc _) (by trivial)) (by trivial) (by trivial) (by trivial) (by trivial)) (@qi _ _ _ _) (qF _)))) (@qt _)) (@qg _ _ _ (@qm _ _ _ _ (@Y8 _ _ _ _)))))),?_⟩
 refine⟨_,rfl,rfl,_,rfl,?_⟩
 simp only [JMP,List.mem_cons,List.not_mem_nil,or_false] at hw
 rcases hw with rfl|rfl|rfl|rfl
 ·refine qA (by decide+kernel) ?_
  refine⟨_,rfl,rfl,_,rfl,qA (by decide+kernel) ?_⟩
  refine⟨_,rfl,rfl,_,rfl,qA (by decide+kernel) ?_⟩
  exact k
 ·refine Qy (by decide+kernel) ?_
  obtain⟨x,y,i,rfl,hx,hy,_⟩:=sh_bbl (Q9 hr' (by decide+kernel))
  refine⟨_,rfl,_,rfl,?_⟩
  dsimp only [tC]
  refine bget (i:=0) hB hp rfl hx fun v iv=> ?_
  refine⟨_,rfl,_,rfl,?_⟩
  dsimp only [tC]
  refine bget (i:=1) hB hp rfl hy fun u iu=> ?_
  refine⟨B x,B y,iv,iu,isT_tr (hT x hx),isT_tr (hT y hy),?_,k⟩
  ·have:=Zw (hT x hx);omega
 ·refine qA (by decide+kernel) ?_
  refine⟨_,rfl,rfl,_,rfl,Qy (by decide+kernel) ?_⟩
  obtain⟨x,i,rfl,hx,_⟩:=sh_bl (Q9 hr' (by decide+kernel))
  refine⟨_,rfl,_,rfl,?_⟩
  refine bget (i:=0) hB hp rfl hx fun v iv=> ?_
  exact⟨v,"tuple",tyD (B x),isTup (B x),rfl,iv.ty,xU _,k⟩
 ·refine qA (by decide+kernel) ?_
  refine⟨_,rfl,rfl,_,rfl,qA (by decide+kernel) ?_⟩
  refine⟨_,rfl,rfl,_,rfl,Qy (by decide+kernel) ?_⟩
  obtain⟨x,i,rfl,hx,_⟩:=sh_bl (Q9 hr' (by decide+kernel))
  refine⟨_,rfl,_,rfl,?_⟩
  refine bget (i:=0) hB hp rfl hx fun v iv=> ?_
  have k':Q (.bl (decide (lenD (B x)=0))) H:=k
  have hg:=hT x hx
  generalize B x=dx at iv k' hg⊢
  have hn:∀n:Nat,decide (V.int (n:Int)=V.int 0)=decide (n=0):=fun n=>by
   rw [decide_eq_decide]
   constructor
   ·intro h;injection h with h;omega
   ·rintro rfl;rfl
  cases dx with
  |str z=>
   obtain⟨rfl,hz⟩:=iv
   refine .inl ⟨z,rfl,hz,rfl,?_⟩
   rw [hn]
   exact k'
  |tup xs=>
   obtain⟨r,rs,rfl,er,ir⟩:=iv
   refine .inr ⟨r,rs,rfl,.inr (SqT.of er),fun _=>⟨rfl,?_⟩⟩
   rw [hn,ir.length]
   exact k'
  |_=>simp [isT,good] at hg
theorem ok_asked (T:Tx K mg a):FnOk P w K mg base CX0 2 a.yC a.yB ["word","held"] sp_asked:=by
 have Js:FnOk P w K mg base CX0 1 a.jr a.jq ["value"] wa:=ok_name T
 refine T.j7.ok xN (fun vs H Q E h=> ?_) (fun cdv A outer s H vs Q E hr h=> ?_)
 ·obtain⟨w,v,d,rfl,_⟩:=h
  rfl
 obtain⟨w,v,d,rfl,hw,iv,k⟩:=h
 refine⟨_,(@qb _ _ _ _ _ (@qY _ _ _ _ _ _ _ _ (@qo _ _ _ _ _ _ _ _ (@y0 _) (pv 0) (@qk _ _ _ _) (qF _)) (@qg _ _ _ (@qm _ _ _ _ (@jd _ _ _ _ _ _ _ _ (@QY _ _ _ (@qp _ _ _ _ _ _ _ _ _ (@Qi _ _ rfl) (by rfl) T.qU boot_isinstance (@qa _ _ _ _ _ (pv 1) (@qa _ _ _ _ _ (@yG _ _ (.ty "str") _ _ (by rfl) T.xL boot_str rfl (by trivial) (by trivial)) (@qc _) (by trivial)) (by trivial)) (by trivial) (by trivial) (by trivial) (by trivial)) (by trivial)) (@Qf _ _ _ _ _ (@qa _ _ _ _ _ (@qk _ _ _ _) (@qa _ _ _ _ _ (@Qf _ _ _ _ _ (@qa _ _ _ _ _ (@qk _ _ _ _) (@qa _ _ _ _ _ (pv 1) (@qc _) (by trivial)) (by trivial))) (@qc _) (by trivial)) (by trivial))) (@Qf _ _ _ _ _ (@qa _ _ _ _ _ (@qk _ _ _ _) (@qa _ _ _ _ _ (@qk _ _ _ _) (@qc _) (by trivial)) (by trivial)))))) (@qt _)) (@qb _ _ _ _ _ (@qY _ _ _ _ _ _ _ _ (@yi _ _ _ _ (@QY _ _ _ (@qq _ _ _ _ _ _ _ _ _ _ _ _ _ _ _ _ Js (hr.mono (by first|decide|omega)) (by rfl) T.zN T.xn.kp T.zI .nil qr (@qa _ _ _ _ _ (pv 1) (@qc _) (by trivial)) (by trivial) (by trivial) (by trivial)) (by trivial))) (@qg _ _ _ (@qm _ _ _ _ (@Qf _ _ _ _ _ (@qa _ _ _ _ _ (@qk _ _ _ _) (@qa _ _ _ _ _ (@qk _ _ _ _) (@qc _) (by trivial)) (by trivial))))) (@qt _)) (@qg _ _ _ (@qm _ _ _ _ (@Qf _ _ _ _ _ (@qa _ _ _ _ _ (@qk _ _ _ _) (@qa _ _ _ _ _ (@Qf _ _ _ _ _ (@qa _ _ _ _ _ (@jd _ _ _ _ _ _ _ _ (@qo _ _ _ _ _ _ _ _ (@y0 _) (pv 0) (@qk _ _ _ _) (qF _)) (@qk _ _ _ _) (@qk _ _ _ _)) (@qa _ _ _ _ _ (pv 1) (@qc _) (by trivial)) (by trivial))) (@qc _) (by trivial)) (by trivial))))))),?_⟩
 have two:(2:Nat)≤sizeLine:=by decide
 have st:∀{H:Hp} (z:Str),z.length≤100→Is H (.str z) (.str z):=fun z hz=>⟨rfl,yg (by omega)⟩
 have fl:∀(z:Str) (H:Hp) (l:Addr),z.length≤100→H l=none→Is (upd H l (.tup [.str "fault",.str z])) (flt z) (.ref l):=fun z H l hz hl=>Is.new (ds:= [.str "fault",.str z]) ⟨_,_,rfl,st _ (by decide),_,_,rfl,st _ hz,rfl⟩ hl
 refine⟨_,rfl,rfl,_,rfl,?_⟩
 by_cases c:w="names"
 ·subst c
  refine Qy (by decide+kernel) ?_
  have ea:askF "names" d=if Y3 d=true then .tup [.str "asks",.tup [.str "names",d]] else flt "kind":=by unfold askF;rw [if_pos rfl]
  rw [ea] at k
  refine⟨_,rfl,v,"str",tyD d,Y3 d,rfl,iv.ty,jS _,_,rfl,?_⟩
  cases hs:Y3 d with
  |true=>
   rw [hs] at k
   refine iteT ⟨_,rfl,two,fun l hl=>⟨two,fun l2 hl2=> ?_⟩⟩
   have t1:Same H (upd H l (.tup [.str "names",v])):=qe hl _
   refine k _ _ (t1.trans (qe hl2 _)) ?_
   exact Is.new (ds:= [.str "asks",.tup [.str "names",d]]) ⟨_,_,rfl,st _ (by decide),_,_,rfl,Is.new (ds:= [.str "names",d]) ⟨_,_,rfl,st _ (by decide),_,_,rfl,iv,rfl⟩ hl,rfl⟩ hl2
  |false=>
   rw [hs] at k
   exact iteF ⟨two,fun l hl=>k _ _ (qe hl _) (fl "kind" H l (by decide) hl)⟩
 ·refine qA (decide_eq_false fun h=>c (by injection h)) ?_
  have ea:askF w d=if isNm d=true then .tup [.str "asks",.tup [.str (if w="ask" then "thing" else "has"),d]] else flt "name":=by unfold askF;rw [if_neg c]
  rw [ea] at k
  refine⟨_,rfl,v,d,rfl,iv,fun H1 s1=>⟨_,rfl,?_⟩⟩
  cases hs:isNm d with
  |false=>
   rw [hs] at k
   exact iteT ⟨two,fun l hl=>k _ _ (s1.trans (qe hl _)) (fl "name" H1 l (by decide) hl)⟩
  |true=>
   rw [hs] at k
   refine iteF ⟨_,rfl,rfl,_,rfl,?_⟩
   have key:∀z:Str,z.length≤100→z=(if w="ask" then("thing":Str) else "has")→∀l,H1 l=none→∀l2,(upd H1 l (.tup [.str z,v])) l2=none→Q (.ref l2) (upd (upd H1 l (.tup [.str z,v])) l2 (.tup [.str "asks",.ref l])):=by
    intro z hz ez l hl l2 hl2
    have t1:Same H1 (upd H1 l (.tup [.str z,v])):=qe hl _
    refine k _ _ (s1.trans (t1.trans (qe hl2 _))) ?_
    rw [←ez]
    exact Is.new (ds:= [.str "asks",.tup [.str z,d]]) ⟨_,_,rfl,st _ (by decide),_,_,rfl,Is.new (ds:= [.str z,d]) ⟨_,_,rfl,st _ hz,_,_,rfl,iv.mono s1.tk,rfl⟩ hl,rfl⟩ hl2
   refine ite2 (fun c2=> ?_) (fun c2=> ?_)
   ·have e:w="ask":=by have:=of_decide_eq_true c2;injection this
    exact⟨_,rfl,two,fun l hl=>⟨two,fun l2 hl2=>key "thing" (by decide) (by rw [if_pos e]) l hl l2 hl2⟩⟩
   ·have e:w≠"ask":=fun e=>c2 (decide_eq_true (by rw [e]))
    exact⟨_,rfl,two,fun l hl=>⟨two,fun l2 hl2=>key "has" (by decide) (by rw [if_neg e]) l hl l2 hl2⟩⟩
end
end K14
namespace K14
open PySem L2 PyProof.Rows
structure Mc where
 (x db dg:Addr)
 rs:List Rw
 own:Str
structure Rn where
 B:Str→D
 p:Int
 n:Nat
 gs:List D
 th:D
def MTH:List Str:= ["now","answer","asked","lines","copy","go_on","is_waiting","do_row","hold"]
structure Fl (fs:List (Str×V))(rv ru:V)(own:Str)(db dg:Addr)(place:Int)(done:Nat)(tv:V):Prop where
 rows:fs.lookup ("rows":Str)=some rv
 rule:fs.lookup ("rule":Str)=some ru
 own:fs.lookup ("own":Str)=some (.str own)
 boxes:fs.lookup ("boxes":Str)=some (.ref db)
 place:fs.lookup ("place":Str)=some (.int place)
 done:fs.lookup ("done":Str)=some (.int (done:Int))
 given:fs.lookup ("given":Str)=some (.ref dg)
 there:fs.lookup ("there":Str)=some tv
 meth:∀m∈MTH,fs.lookup m=none
 len:fs.length≤20
theorem JE {f:Str}{v:V}:∀{fs:List (Str×V)}{u:V},fs.lookup f=some u→(putF f v fs).length=fs.length
 |(g,x)::r,u,h=>by
  unfold putF
  by_cases c:g=f
  ·rw [if_pos c];rfl
  ·rw [if_neg c,List.length_cons,List.length_cons]
   have e:(f==g)=false:=by simp;exact fun z=>c z.symm
   rw [List.lookup_cons,e] at h
   rw [JE (u:=u) h]
 | [],u,h=>by simp at h
section
variable {fs:List (Str×V)}{rv ru:V}{own:Str}{db dg:Addr}{place:Int}{done:Nat}{tv:V}
theorem Fl.set_there {u:V}(h:Fl fs rv ru own db dg place done tv):Fl (putF "there" (u) fs) rv ru own db dg place done u:=by
 refine⟨?_,?_,?_,?_,?_,?_,?_,?_,fun m hm=> ?_,by rw [JE h.there];exact h.len⟩
 all_goals rw [qH]
 all_goals first|rw [if_pos rfl]|(rw [if_neg (by decide+kernel)];first|exact h.rows|exact h.rule|exact h.own|exact h.boxes|exact h.place|exact h.done|exact h.given|exact h.there)|(rw [if_neg (fun e=>by subst e;revert hm;decide+kernel)];exact h.meth m hm)
theorem Fl.set_place {q:Int}(h:Fl fs rv ru own db dg place done tv):Fl (putF "place" (.int q) fs) rv ru own db dg q done tv:=by
 refine⟨?_,?_,?_,?_,?_,?_,?_,?_,fun m hm=> ?_,by rw [JE h.place];exact h.len⟩
 all_goals rw [qH]
 all_goals first|rw [if_pos rfl]|(rw [if_neg (by decide+kernel)];first|exact h.rows|exact h.rule|exact h.own|exact h.boxes|exact h.place|exact h.done|exact h.given|exact h.there)|(rw [if_neg (fun e=>by subst e;revert hm;decide+kernel)];exact h.meth m hm)
theorem Fl.set_done {k:Nat}(h:Fl fs rv ru own db dg place done tv):Fl (putF "done" (.int ((k:Nat):Int)) fs) rv ru own db dg place k tv:=by
 refine⟨?_,?_,?_,?_,?_,?_,?_,?_,fun m hm=> ?_,by rw [JE h.done];exact h.len⟩
 all_goals rw [qH]
 all_goals first|rw [if_pos rfl]|(rw [if_neg (by decide+kernel)];first|exact h.rows|exact h.rule|exact h.own|exact h.boxes|exact h.place|exact h.done|exact h.given|exact h.there)|(rw [if_neg (fun e=>by subst e;revert hm;decide+kernel)];exact h.meth m hm)
theorem Fl.set_boxes {q:Addr}(h:Fl fs rv ru own db dg place done tv):Fl (putF "boxes" (.ref q) fs) rv ru own q dg place done tv:=by
 refine⟨?_,?_,?_,?_,?_,?_,?_,?_,fun m hm=> ?_,by rw [JE h.boxes];exact h.len⟩
 all_goals rw [qH]
 all_goals first|rw [if_pos rfl]|(rw [if_neg (by decide+kernel)];first|exact h.rows|exact h.rule|exact h.own|exact h.boxes|exact h.place|exact h.done|exact h.given|exact h.there)|(rw [if_neg (fun e=>by subst e;revert hm;decide+kernel)];exact h.meth m hm)
theorem Fl.set_given {q:Addr}(h:Fl fs rv ru own db dg place done tv):Fl (putF "given" (.ref q) fs) rv ru own db q place done tv:=by
 refine⟨?_,?_,?_,?_,?_,?_,?_,?_,fun m hm=> ?_,by rw [JE h.given];exact h.len⟩
 all_goals rw [qH]
 all_goals first|rw [if_pos rfl]|(rw [if_neg (by decide+kernel)];first|exact h.rows|exact h.rule|exact h.own|exact h.boxes|exact h.place|exact h.done|exact h.given|exact h.there)|(rw [if_neg (fun e=>by subst e;revert hm;decide+kernel)];exact h.meth m hm)
end
def qM (C:Addr)(H:Hp)(m:Mc)(r:Rn):Prop:=
 ∃(dx:Addr) (fs:List (Str×V)) (rv ru tv:V) (gv:List V),H m.x=some (.ins C dx fs)∧Fl fs rv ru m.own m.db m.dg r.p r.n tv∧Is H (.tup (m.rs.map rowD)) rv∧Is H (Yb m.rs) ru∧YW H m.db r.B∧H m.dg=some (.lst gv)∧L2.IsL H r.gs gv∧Is H r.th tv
structure Mv (m:Mc)(H H':Hp):Prop where
 kept:∀b o,H b=some o→b≠m.x→b≠m.db→b≠m.dg→H' b=some o
 tk:Tk H H'
theorem Mv.refl (m:Mc)(H:Hp):Mv m H H:=⟨fun _ _ e _ _ _=>e,Tk.refl H⟩
theorem Mv.trans {m:Mc}{H H1 H2:Hp}(h:Mv m H H1)(h2:Mv m H1 H2):Mv m H H2:=⟨fun b o e n1 n2 n3=>h2.kept b o (h.kept b o e n1 n2 n3) n1 n2 n3,h.tk.trans h2.tk⟩
theorem Mv.of {m:Mc}{H H':Hp}(s:Same H H'):Mv m H H':=⟨fun b o e _ _ _=>s b o e,s.tk⟩
theorem qM.same {C:Addr}{H H':Hp}{m:Mc}{r:Rn}(h:qM C H m r)(s:Same H H'):qM C H' m r:=
 let⟨dx,fs,rv,ru,tv,gv,e,f,i,j,b,g,gl,t⟩:=h;⟨dx,fs,rv,ru,tv,gv,s _ _ e,f,i.mono s.tk,j.mono s.tk,b.same s,s _ _ g,gl.mono s.tk,t.mono s.tk⟩
theorem YW.ne {H:Hp}{x db C dx:Addr}{fs:List (Str×V)}{B:Str→D}(e:H x=some (.ins C dx fs))(h:YW H db B):db≠x:=fun z=>by
 obtain⟨f,e2,_⟩:=h
 rw [z,e] at e2
 cases e2
theorem QV {C:Addr}{H:Hp}{m:Mc}{r:Rn}{dx:Addr}{fs fs':List (Str×V)}{rv ru tv:V}{gv:List V}(e:H m.x=some (.ins C dx fs))(f:Fl fs' rv ru m.own m.db m.dg r.p r.n tv)(i:Is H (.tup (m.rs.map rowD)) rv)(j:Is H (Yb m.rs) ru)(b:YW H m.db r.B)(hg:H m.dg=some (.lst gv))(gl:L2.IsL H r.gs gv)(t:Is H r.th tv):
  qM C (upd H m.x (.ins C dx fs')) m r∧Mv m H (upd H m.x (.ins C dx fs')):=by
 have tk:Tk H (upd H m.x (.ins C dx fs')):=Tk.updI e
 have n1:m.db≠m.x:=YW.ne e b
 have n2:m.dg≠m.x:=fun z=>by rw [z,e] at hg;cases hg
 exact⟨⟨dx,fs',rv,ru,tv,gv,qj,f,i.mono tk,j.mono tk,b.move tk (qD n1),by rw [qD n2];exact hg,gl.mono tk,t.mono tk⟩,⟨fun c o h a1 _ _=>by rw [qD a1];exact h,tk⟩⟩
def Q1:D→Bool
 | .tup (.str w::_)=>decide (w="asks")
 |_=>false
def Th (d:D):Prop:=d= .non∨∃w e,d= .tup [.str w,e]
inductive Out where
 |go (B:Str→D) (p:Int)|stop (e:D)
def Out.B (B:Str→D):Out→Str→D
 | .go B' _=>B'
 | .stop _=>B
def Out.P (p:Int):Out→Int
 | .go _ p'=>p'
 | .stop _=>p
def Out.T:Out→D
 | .go _ _=> .non
 | .stop e=>e
def holdO (B:Str→D)(z:Str)(e:D)(p:Int):Out:=match e with
 | .non=> .stop (flt "kind")
 |e=>if isT e=true then .go (setB B z e) (p+1) else .stop (flt "big")
def Jb (C:Addr):Sp:=fun vs H Q _=>∃(m:Mc) (r:Rn),vs= [.ref m.x]∧qM C H m r∧∀v,Is H r.th v→Q v H
def sp_lines (C:Addr):Sp:=fun vs H Q _=>∃(m:Mc) (r:Rn),vs= [.ref m.x]∧qM C H m r∧Q (.int (r.n:Int)) H
def xB (C:Addr):Sp:=fun vs H Q _=>∃(m:Mc) (r:Rn),vs= [.ref m.x]∧qM C H m r∧∀v H',Same H H'→Is H' (.tup r.gs) v→Q v H'
def XW (C:Addr):Sp:=fun vs H Q _=>∃(m:Mc) (r:Rn),vs= [.ref m.x]∧qM C H m r∧Th r.th∧Q (.bl (Q1 r.th)) H
def sp_hold (C:Addr):Sp:=fun vs H Q _=>∃(m:Mc) (r:Rn) (z:Str) (v:V) (e:D),vs= [.ref m.x,.str z,v]∧qM C H m r∧r.th= .non∧z∈BX∧Is H e v∧
 ∀H',Mv m H H'→qM C H' m ⟨(holdO r.B z e r.p).B r.B,(holdO r.B z e r.p).P r.p,r.n,r.gs,(holdO r.B z e r.p).T⟩→Q .non H'
section
variable {P:Program}{w:World}{K:PySem.W.Frag}{mg:Str→Option Value}{base:Heap}{a:Ad}{g:Ga}
theorem ze (T:Tx K mg a):FnOk P w K mg base CX0 1 a.Qt a.Qu ["self"] (Jb a.qd):=by
 refine T.wb.ok Zb (fun vs H Q E h=> ?_) (fun cdv A outer s H vs Q E hr h=> ?_)
 ·obtain⟨m,r,rfl,_⟩:=h
  rfl
 obtain⟨m,r,rfl,⟨dx,fs,rv,ru,tv,gv,e,f,ir,iu,ib,hg,gl,it⟩,k⟩:=h
 refine⟨_,(@qg _ _ _ (@qm _ _ _ _ (@QM _ _ _ _ _ (pv 0) rfl))),?_⟩
 exact⟨_,rfl,m.x,_,dx,fs,tv,rfl,e,T.qf,T.qB,f.there,k _ it⟩
theorem ok_lines (T:Tx K mg a):FnOk P w K mg base CX0 1 a.yT a.yR ["self"] (sp_lines a.qd):=by
 refine T.zr.ok XG (fun vs H Q E h=> ?_) (fun cdv A outer s H vs Q E hr h=> ?_)
 ·obtain⟨m,r,rfl,_⟩:=h
  rfl
 obtain⟨m,r,rfl,⟨dx,fs,rv,ru,tv,gv,e,f,ir,iu,ib,hg,gl,it⟩,k⟩:=h
 refine⟨_,(@qg _ _ _ (@qm _ _ _ _ (@QM _ _ _ _ _ (pv 0) rfl))),?_⟩
 exact⟨_,rfl,m.x,_,dx,fs,_,rfl,e,T.qf,T.Qz,f.done,k⟩
theorem X8 (T:Tx K mg a):FnOk P w K mg base CX0 1 a.Qx a.Qw ["self"] (xB a.qd):=by
 refine T.XZ.ok XB (fun vs H Q E h=> ?_) (fun cdv A outer s H vs Q E hr h=> ?_)
 ·obtain⟨m,r,rfl,_⟩:=h
  rfl
 obtain⟨m,r,rfl,⟨dx,fs,rv,ru,tv,gv,e,f,ir,iu,ib,hg,gl,it⟩,k⟩:=h
 refine⟨_,(@qg _ _ _ (@qm _ _ _ _ (@QE _ _ _ _ _ _ _ _ _ (@Q6 _) (by rfl) T.Yg boot_tuple (@qa _ _ _ _ _ (@QM _ _ _ _ _ (pv 0) rfl) (@qc _) (by trivial)) (by trivial) (by trivial) (by trivial) (by trivial)))),?_⟩
 exact⟨_,rfl,m.x,_,dx,fs,_,rfl,e,T.qf,T.yj,f.given,m.dg,gv,rfl,.inl ⟨SqL.of hg,fun l hl=>k _ _ (qe hl _) (Is.new gl hl)⟩⟩
theorem ZZ (T:Tx K mg a):FnOk P w K mg base CX0 1 a.Qc a.Qb ["self"] (XW a.qd):=by
 refine T.JN.ok Jk (fun vs H Q E h=> ?_) (fun cdv A outer s H vs Q E hr h=> ?_)
 ·obtain⟨m,r,rfl,_⟩:=h
  rfl
 obtain⟨m,⟨B,p,n,gs,th⟩,rfl,⟨dx,fs,rv,ru,tv,gv,e,f,ir,iu,ib,hg,gl,it⟩,hth,k⟩:=h
 simp only at f ib gl it hth k
 refine⟨_,(@qg _ _ _ (@qm _ _ _ _ (@pe_and _ _ _ _ _ _ _ (@Y0 _ _ _ _ _ _ _ _ (@op_notN _) (@QM _ _ _ _ _ (pv 0) rfl) (@Q7 _ _ _) (qF _)) (@pe_one _ _ _ _ _ (@Y0 _ _ _ _ _ _ _ _ (@y0 _) (@qQ _ _ _ _ _ _ _ (@YD _) (@QM _ _ _ _ _ (pv 0) rfl) (@qi _ _ _ _) (fun _ _=>rfl)) (@qk _ _ _ _) (qF _)))))),?_⟩
 refine⟨_,rfl,m.x,_,dx,fs,tv,rfl,e,T.qf,T.qB,f.there,rfl,?_⟩
 rcases hth with rfl|⟨w1,e1,rfl⟩
 ·cases(show tv= .non from it)
  exact⟨_,rfl,qA (by decide+kernel) k⟩
 ·have it':=it
  obtain⟨t0,us,rfl,et,iu⟩:=it'
  refine⟨_,rfl,Qy (by simp) ⟨_,rfl,m.x,_,dx,fs,_,rfl,e,T.qf,T.qB,f.there,?_⟩⟩
  refine .inr (.inl (yw (i:=0) (d:= .str w1) it (Qe (j:=0) rfl) fun q hq=> ?_))
  obtain⟨rfl,_⟩:=hq
  refine⟨rfl,?_⟩
  have ew:decide (V.str w1=V.str ("asks":Str))=decide (w1="asks"):=by
   rw [decide_eq_decide]
   exact⟨fun h=>by injection h,fun h=>by rw [h]⟩
  rw [ew]
  exact k
theorem ok_hold (T:Tx K mg a):FnOk P w K mg base CX0 3 a.Yx a.Yt ["self","box","tree"] (sp_hold a.qd):=by
 have Je:FnOk P w K mg base CX0 2 a.jx a.jn ["value"] JJ:=xG T
 refine T.Za.ok X0 (fun vs H Q E h=> ?_) (fun cdv A outer s H vs Q E hr h=> ?_)
 ·obtain⟨m,r,z,v,e,rfl,_⟩:=h
  rfl
 obtain⟨m,⟨B,p,n,gs,th⟩,z,v,d,rfl,⟨dx,fs,rv,ru,tv,gv,e,f,ir,iu,ib,hg,gl,it⟩,hth,hz,iv,k⟩:=h
 simp only at f ib gl it hth k
 subst hth
 refine⟨_,(@qg _ _ _ (@qY _ _ _ _ _ _ _ _ (@qo _ _ _ _ _ _ _ _ (@op_isN _) (pv 2) (@Q7 _ _ _) (qF _)) (@qg _ _ _ (@yk _ _ _ _ _ _ _ _ (pv 0) (@Qf _ _ _ _ _ (@qa _ _ _ _ _ (@qk _ _ _ _) (@qa _ _ _ _ _ (@qk _ _ _ _) (@qc _) (by trivial)) (by trivial))) rfl)) (@qg _ _ _ (@qY _ _ _ _ _ _ _ _ (@yi _ _ _ _ (@QY _ _ _ (@qq _ _ _ _ _ _ _ _ _ _ _ _ _ _ _ _ Je (hr.mono (by first|decide|omega)) (by rfl) T.zT T.xo.kp T.X5 .nil qr (@qa _ _ _ _ _ (pv 2) (@qc _) (by trivial)) (by trivial) (by trivial) (by trivial)) (by trivial))) (@qg _ _ _ (@yk _ _ _ _ _ _ _ _ (pv 0) (@Qf _ _ _ _ _ (@qa _ _ _ _ _ (@qk _ _ _ _) (@qa _ _ _ _ _ (@qk _ _ _ _) (@qc _) (by trivial)) (by trivial))) rfl)) (@qb _ _ _ _ _ (@ps_dput _ _ _ _ _ _ _ _ _ (jF hr) (@QM _ _ _ _ _ (pv 0) rfl) (pv 1) (pv 2) rfl) (@qg _ _ _ (@Jo _ _ _ _ _ _ _ _ _ _ (pv 0) (@qi _ _ _ _) in_add))))))),?_⟩
 have two:(2:Nat)≤sizeLine:=by decide
 have st:∀{H:Hp} (z:Str),z.length≤100→Is H (.str z) (.str z):=fun z hz=>⟨rfl,yg (by omega)⟩
 have fl:∀(z:Str) (H:Hp) (l:Addr),z.length≤100→H l=none→Is (upd H l (.tup [.str "fault",.str z])) (flt z) (.ref l):=fun z H l hz hl=>Is.new (ds:= [.str "fault",.str z]) ⟨_,_,rfl,st _ (by decide),_,_,rfl,st _ hz,rfl⟩ hl
 refine⟨_,rfl,rfl,_,rfl,?_⟩
 have hlt:fs.length<1000:=by have:=f.len;omega
 by_cases c:d= .non
 ·subst c
  cases(show v= .non from iv)
  refine Qy (by decide+kernel) ⟨two,fun l hl=> ?_⟩
  have s1:Same H (upd H l (.tup [.str "fault",.str "kind"])):=qe hl _
  refine⟨_,rfl,m.x,_,dx,fs,rfl,s1 _ _ e,T.qf,T.qB,hlt,?_⟩
  obtain⟨m1,m2⟩:=QV (r:=⟨B,p,n,gs,flt "kind"⟩) (s1 _ _ e) (f.set_there (u:= .ref l)) (ir.mono s1.tk) (iu.mono s1.tk) (ib.same s1) (s1 _ _ hg) (gl.mono s1.tk) (fl "kind" H l (by decide) hl)
  exact k _ ((Mv.of s1).trans m2) m1
 ·have hv:v≠ .non:=by
   rintro rfl
   cases d with
   |non=>exact c rfl
   |bl b=>cases(show V.non= .bl b from iv)
   |int i=>cases(show V.non= .int i from iv)
   |str z=>obtain⟨h,_⟩:=iv;cases h
   |lst=>obtain⟨_,_,h,_⟩:=iv;cases h
   |dct=>obtain⟨_,_,h,_⟩:=iv;cases h
   |tup xs=>obtain⟨_,_,h,_⟩:=iv;cases h
  have eo:holdO B z d p=if isT d=true then .go (setB B z d) (p+1) else .stop (flt "big"):=by
   cases d with
   |non=>exact absurd rfl c
   |_=>rfl
  rw [eo] at k
  refine qA (decide_eq_false hv) ?_
  refine⟨_,rfl,v,d,rfl,iv,fun H1 s1=>⟨_,rfl,?_⟩⟩
  cases ht:isT d with
  |false=>
   rw [ht] at k
   refine iteT ⟨two,fun l hl=> ?_⟩
   have s2:Same H (upd H1 l (.tup [.str "fault",.str "big"])):=s1.trans (qe hl _)
   refine⟨_,rfl,m.x,_,dx,fs,rfl,s2 _ _ e,T.qf,T.qB,hlt,?_⟩
   obtain⟨m1,m2⟩:=QV (r:=⟨B,p,n,gs,flt "big"⟩) (s2 _ _ e) (f.set_there (u:= .ref l)) (ir.mono s2.tk) (iu.mono s2.tk) (ib.same s2) (s2 _ _ hg) (gl.mono s2.tk) (fl "big" H1 l (by decide) hl)
   exact k _ ((Mv.of s2).trans m2) m1
  |true=>
   rw [ht] at k
   refine iteF ?_
   have iv1:=iv.mono s1.tk
   obtain⟨kvs,hput,hb2,t2⟩:=(ib.same s1).put hz iv1
   have n1:m.db≠m.x:=YW.ne e ib
   have n3:m.dg≠m.db:=fun z=>by
    obtain⟨ff,e2,_⟩:=ib
    rw [z,e2] at hg
    cases hg
   have e1:=s1 _ _ e
   have e3:(upd H1 m.db (.dK kvs)) m.x=some (.ins a.qd dx fs):=by rw [qD n1.symm];exact e1
   refine⟨_,rfl,_,rfl,m.x,_,dx,fs,_,rfl,e1,T.qf,T.Qo,f.boxes,_,rfl,m.db,_,rfl,hput,?_⟩
   refine⟨_,rfl,m.x,_,dx,fs,_,rfl,e3,T.qf,T.Qg,f.place,p,1,rfl,rfl,dx,fs,e3,hlt,?_⟩
   obtain⟨m1,m2⟩:=QV (r:=⟨setB B z d,p+1,n,gs,.non⟩) e3 (f.set_place (q:=p+1)) ((ir.mono s1.tk).mono t2) ((iu.mono s1.tk).mono t2) hb2 (by rw [qD n3];exact s1 _ _ hg) ((gl.mono s1.tk).mono t2) it
   exact k _ ((Mv.of s1).trans (Mv.trans ⟨fun b o h _ a2 _=>by rw [qD a2];exact h,t2⟩ m2)) m1
end
end K14
namespace K14
open PySem L2 PyProof.Rows
def MKR:List Str:= ["text","self","copy","row","put","join","first","rest","size","cut","glue"]
def lineNo (ps:List Pt):Int:=match ps.getLast? with
 |some (.n i)=>i
 |_=>0
def rowO (own:Str)(r:Rw)(B:Str→D)(p:Int):Out:=
 if r.1∈MKR then holdO B (b0 r.2) (made r.1 B own r.2) p else if r.1∈ASK then .stop (askF r.1 (B (b1 r.2))) else if r.1="say" then .stop (.tup [.str "said",B (b0 r.2)]) else
 if r.1="fault" then .stop (flt "told") else if jump r.1 B r.2=true then .go B (lineNo r.2) else .go B (p+1)
theorem frm_mk:∀x∈FRM,x.1∈MKR→x.2.head? =some .box:=by decide+kernel
theorem Z4:∀x∈FRM,x.1∈ASK→x.1∉MKR∧x.1∈NOMK∧x.2= [.box,.box]:=by decide+kernel
theorem frm_say:∀x∈FRM,x.1="say"→x.2= [.box]:=by decide+kernel
theorem frm_all:∀x∈FRM,x.1∈MKR∨(x.1∉MKR∧x.1∈NOMK∧(x.1∈ASK∨x.1∉ASK∧(x.1="say"∨x.1="fault"∨x.1≠"say"∧x.1≠"fault"∧x.1∈JMP))):=by decide+kernel
theorem frm_jmp:∀x∈FRM,x.1∈JMP→x.2.getLast? =some .line:=by decide+kernel
theorem mk_b0 {n m:Nat}{r:Rw}(h:Yi n m r)(hw:r.1∈MKR):∃z ps,r.2= .s z::ps∧z∈BX:=by
 obtain⟨ks,hk,hp⟩:=h
 have:=frm_mk _ hk hw
 match ks,hp,this with
 | .box::ks,hp,_=>
  match h2:r.2,hp with
  | .s z::ps,hp=>exact⟨z,ps,rfl,hp.1⟩
  | .n _::_,hp=>exact hp.1.elim
theorem ZD {n m:Nat}:∀{ks:List Kd}{ps:List Pt},jY n m ks ps→ks.getLast? =some .line→∃qs i,ps=qs++ [.n i]∧1≤i∧i≤(n:Int)
 | [k],[p],h,e=>by
  cases e
  cases p with
  |n i=>exact⟨[],i,rfl,h.1⟩
  |s z=>exact h.1.elim
 |k::k2::ks,p::p2::ps,h,e=>by
  rw [List.getLast?_cons_cons] at e
  obtain⟨qs,i,e2,hi⟩:=ZD (ks:=k2::ks) (ps:=p2::ps) h.2 e
  exact⟨p::qs,i,by rw [e2];rfl,hi⟩
 | [k],p::_::_,h,_=>h.2.elim
 |k::_::_,[p],h,_=>h.2.elim
 | [],[],_,e=>by cases e
 | [],_::_,h,_=>h.elim
 |_::_,[],h,_=>h.elim
theorem jmp_last {n m:Nat}{r:Rw}(h:Yi n m r)(hw:r.1∈JMP):∃qs i,r.2=qs++ [.n i]∧1≤i∧i≤(n:Int)∧lineNo r.2=i:=by
 obtain⟨ks,hk,hp⟩:=h
 obtain⟨qs,i,e,h1,h2⟩:=ZD hp (frm_jmp _ hk hw)
 refine⟨qs,i,e,h1,h2,?_⟩
 unfold lineNo
 rw [e,List.getLast?_concat]
def sp_dorow (C:Addr):Sp:=fun vs H Q _=>∃(m:Mc) (r:Rn) (rw:Rw) (v:V) (k:Nat),vs= [.ref m.x,v]∧qM C H m r∧r.th= .non∧Tr r.B∧m.own.length≤100∧Yi k 125 rw∧Is H (rowD rw) v∧
 ∀H',Mv m H H'→qM C H' m ⟨(rowO m.own rw r.B r.p).B r.B,(rowO m.own rw r.B r.p).P r.p,r.n,r.gs,(rowO m.own rw r.B r.p).T⟩→Q .non H'
section
variable {P:Program}{w:World}{K:PySem.W.Frag}{mg:Str→Option Value}{base:Heap}{a:Ad}{g:Ga}
theorem mk_of (T:Tx K mg a)(C:Fx K w mg g a){x:Str}(h:x∈MKR):∃f fd,PySem.W.nsIn K g.makers x=some (some (.ref f))∧FnOk P w K mg base CX0 1 f fd ["boxes","own","parts"] (xR x)∧Qj K fd ["boxes","own","parts"] []∧PySem.W.keepIn K (.ref f)=true:=by
 simp only [MKR,List.mem_cons,List.not_mem_nil,or_false] at h
 rcases h with rfl|rfl|rfl|rfl|rfl|rfl|rfl|rfl|rfl|rfl|rfl
 ·exact⟨_,_,C.k_text,ok_text T,T.b_text_made,T.zB.kp⟩
 ·exact⟨_,_,C.k_self,ok_self T,T.b_self_made,T.X1.kp⟩
 ·exact⟨_,_,C.k_copy,ok_copy T,T.b_copy_made,T.zC.kp⟩
 ·exact⟨_,_,C.k_row,ok_row T,T.b_row_made,T.Zu.kp⟩
 ·exact⟨_,_,C.k_put,ok_put T,T.b_put_made,T.ZR.kp⟩
 ·exact⟨_,_,C.k_join,ok_join T,T.b_join_made,T.zn.kp⟩
 ·exact⟨_,_,C.k_first,ok_first T,T.b_first_made,T.Xl.kp⟩
 ·exact⟨_,_,C.k_rest,ok_rest T,T.b_rest_made,T.zZ.kp⟩
 ·exact⟨_,_,C.k_size,ok_size T,T.b_size_made,T.zK.kp⟩
 ·exact⟨_,_,C.k_cut,ok_cut T,T.b_cut_made,T.ZK.kp⟩
 ·exact⟨_,_,C.k_glue,ok_glue T,T.b_glue_made,T.zO.kp⟩
theorem ok_dorow (T:Tx K mg a)(C:Fx K w mg g a):FnOk P w K mg base CX0 4 a.yE a.yz ["self","row"] (sp_dorow a.qd):=by
 have zS:FnOk P w K mg base CX0 1 a.yP a.yW ["boxes","word","parts"] sp_jump:=ok_jump T
 have XC:FnOk P w K mg base CX0 2 a.yC a.yB ["word","held"] sp_asked:=ok_asked T
 have Zg:FnOk P w K mg base CX0 3 a.Yx a.Yt ["self","box","tree"] (sp_hold a.qd):=ok_hold T
 refine T.Xy.ok Yo (fun vs H Q E h=> ?_) (fun cdv A outer s H vs Q E hr h=> ?_)
 ·obtain⟨m,r,rw,v,nn,rfl,_⟩:=h
  rfl
 obtain⟨m,⟨B,p,n,gs,th⟩,r,v,nn,rfl,M,hth,hT,ho,hro,iv,k⟩:=h
 simp only at hth hT k
 subst hth
 refine⟨_,(@qb _ _ _ _ _ (@qx _ _ (2) _ _ _ _ Yo.nd rfl (Or.inl rfl) (@qQ _ _ _ _ _ _ _ (@qX _) (pv 1) (@qi _ _ _ _) (fun _ _=>rfl)) (by trivial) (by trivial)) (@qb _ _ _ _ _ (@qx _ _ (3) _ _ _ _ Yo.nd rfl (Or.inl rfl) (@qQ _ _ _ _ _ _ _ (@qX _) (pv 1) (@qi _ _ _ _) (fun _ _=>rfl)) (by trivial) (by trivial)) (@qg _ _ _ (@qY _ _ _ _ _ _ _ _ (@qo _ _ _ _ _ _ _ _ (@op_inK _) (pv 2) (@pe_gR _ _ _ _ (by rfl) C.m_MAKERS (by trivial)) (by with_unfolding_all rfl)) (@qg _ _ _ (@QP _ _ _ _ (@yV _ _ _ _ _ _ _ _ _ _ _ _ _ _ _ _ _ _ _ _ (pv 0) T.qf T.Zj Zg (hr.mono (by first|decide|omega)) T.Zh .nil qr (@qa _ _ _ _ _ (@qQ _ _ _ _ _ _ _ (@qX _) (pv 3) (@qi _ _ _ _) (fun _ _=>rfl)) (@qa _ _ _ _ _ (@pe_callX _ _ _ _ _ _ _ _ _ (1) _ _ _ _ _ ⟨rfl,rfl,rfl,rfl,rfl⟩ (@qQ _ _ _ _ _ _ _ (@ix_K _) (@pe_gR _ _ _ _ (by rfl) C.m_MAKERS (by trivial)) (pv 2) (fun _ _=>rfl)) (hr.mono (by first|decide|omega)) (@qa _ _ _ _ _ (@QM _ _ _ _ _ (pv 0) rfl) (@qa _ _ _ _ _ (@QM _ _ _ _ _ (pv 0) rfl) (@qa _ _ _ _ _ (pv 3) (@qc _) (by trivial)) (by trivial)) (by trivial)) (by trivial) (by trivial)) (@qc _) (by trivial)) (by trivial)) (by trivial) (by trivial) (by trivial)) (by trivial))) (@qg _ _ _ (@qY _ _ _ _ _ _ _ _ (@qo _ _ _ _ _ _ _ _ (@yU _) (pv 2) (@pe_gR _ _ _ _ (by rfl) C.m_ASKING (by trivial)) (by with_unfolding_all rfl)) (@qg _ _ _ (@yk _ _ _ _ _ _ _ _ (pv 0) (@qq _ _ _ _ _ _ _ _ _ _ _ _ _ _ _ _ XC (hr.mono (by first|decide|omega)) (by rfl) T.XH T.j7.kp T.XL .nil qr (@qa _ _ _ _ _ (pv 2) (@qa _ _ _ _ _ (@yf _ _ _ _ _ _ (jF hr) (@QM _ _ _ _ _ (pv 0) rfl) (@qQ _ _ _ _ _ _ _ (@qX _) (pv 3) (@qi _ _ _ _) (fun _ _=>rfl)) (fun _ _=>rfl)) (@qc _) (by trivial)) (by trivial)) (by trivial) (by trivial) (by trivial)) rfl)) (@qg _ _ _ (@qY _ _ _ _ _ _ _ _ (@qo _ _ _ _ _ _ _ _ (@y0 _) (pv 2) (@qk _ _ _ _) (qF _)) (@qg _ _ _ (@yk _ _ _ _ _ _ _ _ (pv 0) (@Qf _ _ _ _ _ (@qa _ _ _ _ _ (@qk _ _ _ _) (@qa _ _ _ _ _ (@yf _ _ _ _ _ _ (jF hr) (@QM _ _ _ _ _ (pv 0) rfl) (@qQ _ _ _ _ _ _ _ (@qX _) (pv 3) (@qi _ _ _ _) (fun _ _=>rfl)) (fun _ _=>rfl)) (@qc _) (by trivial)) (by trivial))) rfl)) (@qg _ _ _ (@qY _ _ _ _ _ _ _ _ (@qo _ _ _ _ _ _ _ _ (@y0 _) (pv 2) (@qk _ _ _ _) (qF _)) (@qg _ _ _ (@yk _ _ _ _ _ _ _ _ (pv 0) (@Qf _ _ _ _ _ (@qa _ _ _ _ _ (@qk _ _ _ _) (@qa _ _ _ _ _ (@qk _ _ _ _) (@qc _) (by trivial)) (by trivial))) rfl)) (@qg _ _ _ (@qY _ _ _ _ _ _ _ _ (@QY _ _ _ (@qq _ _ _ _ _ _ _ _ _ _ _ _ _ _ _ _ zS (hr.mono (by first|decide|omega)) (by rfl) T.X7 T.Jg.kp T.zV .nil qr (@qa _ _ _ _ _ (@QM _ _ _ _ _ (pv 0) rfl) (@qa _ _ _ _ _ (pv 2) (@qa _ _ _ _ _ (pv 3) (@qc _) (by trivial)) (by trivial)) (by trivial)) (by trivial) (by trivial) (by trivial)) (by trivial)) (@qg _ _ _ (@yk _ _ _ _ _ _ _ _ (pv 0) (@qQ _ _ _ _ _ _ _ (@qX _) (pv 3) (@pe_un _ _ _ _ _ _ un_neg (@qi _ _ _ _)) (fun _ _=>rfl)) rfl)) (@qg _ _ _ (@Jo _ _ _ _ _ _ _ _ _ _ (pv 0) (@qi _ _ _ _) in_add)))))))))))))),?_⟩
 have two:(2:Nat)≤sizeLine:=by decide
 obtain⟨r1,ps⟩:=r
 obtain⟨t0,us,rfl,et,iu⟩:=iv
 obtain⟨v1,u1,rfl,⟨rfl,hz1⟩,v2,u2,rfl,i2,e2⟩:=iu
 cases(show u2= [] from e2)
 refine⟨_,rfl,t0,_,0,_,rfl,rfl,SqT.of et,rfl,?_⟩
 refine⟨_,rfl,t0,_,1,_,rfl,rfl,SqT.of et,rfl,?_⟩
 obtain⟨t1,us1,rfl,et1,iu1⟩:=id i2
 have hpt:PtsAt H t1 ps:=i2
 have hks:=hro
 obtain⟨ks,hk,hp⟩:=hks
 have hM:=M
 obtain⟨dx,fs,rv,ru,tv,gv,e,f,ir,ij,ib,hg,gl,it⟩:=hM
 simp only at f ib gl it
 have hlt:fs.length<1000:=by have:=f.len;omega
 rcases frm_all _ hk with hmk|⟨hmk,hno,hrest⟩
 ·obtain⟨fa,fd,hn,hF,hb,hkp⟩:=mk_of (P:=P) (base:=base) T C hmk
  obtain⟨z,qs,rfl,hzB⟩:=mk_b0 hro hmk
  have eo:rowO m.own (r1,.s z::qs) B p=holdO B z (made r1 B m.own (.s z::qs)) p:=by unfold rowO;rw [if_pos hmk];rfl
  rw [eo] at k
  refine⟨_,rfl,r1,g.makers,_,rfl,rfl,C.km,hn,_,rfl,?_⟩
  refine iteT ?_
  refine⟨_,rfl,m.x,dx,fs,rfl,e,f.meth _ (by decide+kernel),_,rfl,?_⟩
  dsimp only [tC]
  refine box_at (i:=0) hpt rfl ?_
  refine⟨_,rfl,r1,g.makers,_,.ref fa,rfl,rfl,C.km,hn,rfl,fa,fd,_,xR r1,rfl,hF,hb,hkp,?_⟩
  refine⟨_,rfl,m.x,_,dx,fs,_,rfl,e,T.qf,T.Qo,f.boxes,_,rfl,m.x,_,dx,fs,_,rfl,e,T.qf,T.jV,f.own,_,rfl,?_⟩
  refine⟨m.db,t1,m.own,B,.s z::qs,nn,rfl,ib,hT,ho,hro,hpt,fun v H1 s1 hv=> ?_⟩
  exact⟨m,⟨B,p,n,gs,.non⟩,z,v,_,rfl,M.same s1,rfl,hzB,hv,fun H2 m2 M2=>k H2 ((Mv.of s1).trans m2) M2⟩
 ·refine⟨_,rfl,r1,g.makers,_,rfl,rfl,C.km,C.k_no _ hno,_,rfl,?_⟩
  refine iteF ?_
  refine⟨_,rfl,g.asking,_,rfl,.inr (C.asking _),rfl,rfl,_,rfl,?_⟩
  have ei:inV (.str r1) [.str "ask",.str "has",.str "names"]=decide (r1∈ASK):=X2 (z:=r1) (l:=ASK)
  rw [if_neg Bool.false_ne_true,ei]
  rcases hrest with hask|⟨hask,hrest⟩
  ·refine Qy (decide_eq_true hask) ?_
   obtain⟨_,_,ek⟩:=Z4 _ hk hask
   simp only at ek
   subst ek
   obtain⟨z0,z1,rfl,h0,h1⟩:=Ze hp
   have eo:rowO m.own (r1,[.s z0,.s z1]) B p= .stop (askF r1 (B z1)):=by unfold rowO;rw [if_neg hmk,if_pos hask];rfl
   rw [eo] at k
   refine⟨_,rfl,_,rfl,m.x,_,dx,fs,_,rfl,e,T.qf,T.Qo,f.boxes,_,rfl,?_⟩
   dsimp only [tC]
   refine bget (i:=1) ib hpt rfl h1 fun v hv=> ?_
   refine⟨r1,v,B z1,rfl,hask,hv,fun u H1 s1 hu=> ?_⟩
   refine⟨_,rfl,m.x,_,dx,fs,rfl,s1 _ _ e,T.qf,T.qB,hlt,?_⟩
   obtain⟨m1,m2⟩:=QV (r:=⟨B,p,n,gs,askF r1 (B z1)⟩) (s1 _ _ e) (f.set_there (u:=u)) (ir.mono s1.tk) (ij.mono s1.tk) (ib.same s1) (s1 _ _ hg) (gl.mono s1.tk) hu
   exact k _ ((Mv.of s1).trans m2) m1
  ·refine qA (decide_eq_false hask) ?_
   refine⟨_,rfl,rfl,_,rfl,?_⟩
   have es:∀y:Str,decide (V.str r1=V.str y)=decide (r1=y):=fun y=>by
    rw [decide_eq_decide]
    exact⟨fun h=>by injection h,fun h=>by rw [h]⟩
   rcases hrest with rfl|rfl|⟨hs,hf,hj⟩
   ·refine Qy (decide_eq_true rfl) ?_
    have ek:=frm_say _ hk rfl
    simp only at ek
    subst ek
    obtain⟨z0,rfl,h0⟩:=sh_b hp
    have eo:rowO m.own ("say",[.s z0]) B p= .stop (.tup [.str "said",B z0]):=by unfold rowO;rw [if_neg hmk,if_neg hask,if_pos rfl];rfl
    rw [eo] at k
    refine⟨_,rfl,m.x,_,dx,fs,_,rfl,e,T.qf,T.Qo,f.boxes,_,rfl,?_⟩
    dsimp only [tC]
    refine bget (i:=0) ib hpt rfl h0 fun v hv=> ?_
    refine⟨two,fun l hl=> ?_⟩
    have s1:Same H (upd H l (.tup [.str "said",v])):=qe hl _
    refine⟨_,rfl,m.x,_,dx,fs,rfl,s1 _ _ e,T.qf,T.qB,hlt,?_⟩
    obtain⟨m1,m2⟩:=QV (r:=⟨B,p,n,gs,.tup [.str "said",B z0]⟩) (s1 _ _ e) (f.set_there (u:= .ref l)) (ir.mono s1.tk) (ij.mono s1.tk) (ib.same s1) (s1 _ _ hg) (gl.mono s1.tk) (Is.new (ds:= [.str "said",B z0]) ⟨_,_,rfl,⟨rfl,yg (by decide)⟩,_,_,rfl,hv,rfl⟩ hl)
    exact k _ ((Mv.of s1).trans m2) m1
   ·have nfs:¬(("fault":Str)="say"):=by decide+kernel
    refine qA (decide_eq_false fun h=>nfs (by injection h)) ?_
    refine⟨_,rfl,rfl,_,rfl,Qy (decide_eq_true rfl) ?_⟩
    have eo:rowO m.own ("fault",ps) B p= .stop (flt "told"):=by unfold rowO;rw [if_neg hmk,if_neg hask,if_neg nfs,if_pos rfl]
    rw [eo] at k
    refine⟨two,fun l hl=> ?_⟩
    have s1:Same H (upd H l (.tup [.str "fault",.str "told"])):=qe hl _
    refine⟨_,rfl,m.x,_,dx,fs,rfl,s1 _ _ e,T.qf,T.qB,hlt,?_⟩
    obtain⟨m1,m2⟩:=QV (r:=⟨B,p,n,gs,flt "told"⟩) (s1 _ _ e) (f.set_there (u:= .ref l)) (ir.mono s1.tk) (ij.mono s1.tk) (ib.same s1) (s1 _ _ hg) (gl.mono s1.tk) (Is.new (ds:= [.str "fault",.str "told"]) ⟨_,_,rfl,⟨rfl,yg (by decide)⟩,_,_,rfl,⟨rfl,yg (by decide)⟩,rfl⟩ hl)
    exact k _ ((Mv.of s1).trans m2) m1
   ·refine qA (by rw [es];exact decide_eq_false hs) ?_
    refine⟨_,rfl,rfl,_,rfl,qA (by rw [es];exact decide_eq_false hf) ?_⟩
    have eo:rowO m.own (r1,ps) B p=if jump r1 B ps=true then .go B (lineNo ps) else .go B (p+1):=by unfold rowO;rw [if_neg hmk,if_neg hask,if_neg hs,if_neg hf]
    rw [eo] at k
    obtain⟨qs,i,eps,h1,h2,hl⟩:=jmp_last hro hj
    simp only at eps hl
    refine⟨_,rfl,m.x,_,dx,fs,_,rfl,e,T.qf,T.Qo,f.boxes,_,rfl,_,rfl,m.db,t1,r1,B,ps,nn,rfl,ib,hT,hj,hro,hpt,_,rfl,?_⟩
    cases hjm:jump r1 B ps with
    |true=>
     rw [hjm] at k
     refine iteT ⟨_,rfl,1,rfl,?_⟩
     refine yw (i:= -1) (d:= .int i) hpt (by rw [eps,List.map_append];exact atI_last _ _) fun q hq=> ?_
     cases(show q= .int i from hq)
     refine⟨_,rfl,m.x,_,dx,fs,rfl,e,T.qf,T.Qg,hlt,?_⟩
     obtain⟨m1,m2⟩:=QV (r:=⟨B,i,n,gs,.non⟩) e (f.set_place (q:=i)) ir ij ib hg gl it
     refine k _ m2 ?_
     show qM _ _ _ ⟨B,lineNo ps,n,gs,.non⟩
     rw [hl]
     exact m1
    |false=>
     rw [hjm] at k
     refine iteF ⟨_,rfl,m.x,_,dx,fs,_,rfl,e,T.qf,T.Qg,f.place,p,1,rfl,rfl,dx,fs,e,hlt,?_⟩
     obtain⟨m1,m2⟩:=QV (r:=⟨B,p+1,n,gs,.non⟩) e (f.set_place (q:=p+1)) ir ij ib hg gl it
     exact k _ m2 m1
end
end K14
namespace K14
open PySem L2 PyProof.Rows
def JO (rs:List Rw)(p:Int):Rw:=rs.getD (p.toNat-1) ("fault",[])
def runS (rs:List Rw)(own:Str)(gs:List D):Nat→(Str→D)→Int→Nat→Rn
 |0,B,p,n=>⟨B,p,n,gs,if p>rs.length then flt "silent" else flt "long"⟩
 |f+1,B,p,n=>if p>rs.length then⟨B,p,n,gs,flt "silent"⟩ else match rowO own (JO rs p) B p with
  | .go B' p'=>runS rs own gs f B' p' (n+1)
  | .stop e=>⟨B,p,if Q1 e=true then n else n+1,gs,e⟩
theorem row_at {rs:List Rw}{p:Int}(h1:1≤p)(h2:p≤rs.length):rs[p.toNat-1]? =some (JO rs p):=by
 unfold JO
 have h:p.toNat-1<rs.length:=by omega
 simp [List.getD,h]
theorem row_mem {rs:List Rw}{p:Int}(h1:1≤p)(h2:p≤rs.length):JO rs p∈rs:=List.mem_of_getElem? (row_at h1 h2)
theorem setB_tr {B:Str→D}{z:Str}{e:D}(h:Tr B)(he:isT e=true):Tr (setB B z e):=fun y hy=>by
 unfold setB
 by_cases c:y=z
 ·rw [if_pos c];exact he
 ·rw [if_neg c];exact h y hy
def OutOk (n:Int):Out→Prop
 | .go B p=>Tr B∧1≤p∧p≤n+1
 | .stop e=>∃w d,e= .tup [.str w,d]
theorem holdO_ok {B:Str→D}{z:Str}{e:D}{p n:Int}(h:Tr B)(h1:1≤p)(h2:p≤n):OutOk n (holdO B z e p):=by
 have key:OutOk n (if isT e=true then .go (setB B z e) (p+1) else .stop (flt "big")):=by
  by_cases c:isT e=true
  ·rw [if_pos c];exact⟨setB_tr h c,by omega,by omega⟩
  ·rw [if_neg c];exact⟨_,_,rfl⟩
 cases e with
 |non=>exact⟨_,_,rfl⟩
 |_=>exact key
theorem askF_ok (w:Str)(d:D):∃u e,askF w d= .tup [.str u,e]:=by
 unfold askF
 split
 ·split
  ·exact⟨_,_,rfl⟩
  ·exact⟨_,_,rfl⟩
 ·split
  ·exact⟨_,_,rfl⟩
  ·exact⟨_,_,rfl⟩
theorem rowO_ok {own:Str}{n:Nat}{r:Rw}{B:Str→D}{p:Int}(hr:Yi n 125 r)(h:Tr B)(h1:1≤p)(h2:p≤n):OutOk n (rowO own r B p):=by
 unfold rowO
 by_cases c1:r.1∈MKR
 ·rw [if_pos c1];exact holdO_ok h h1 h2
 rw [if_neg c1]
 by_cases c2:r.1∈ASK
 ·rw [if_pos c2];exact askF_ok _ _
 rw [if_neg c2]
 by_cases c3:r.1="say"
 ·rw [if_pos c3];exact⟨_,_,rfl⟩
 rw [if_neg c3]
 by_cases c4:r.1="fault"
 ·rw [if_pos c4];exact⟨_,_,rfl⟩
 rw [if_neg c4]
 by_cases c5:jump r.1 B r.2=true
 ·rw [if_pos c5]
  obtain⟨ks,hk,hp⟩:=id hr
  have hj:r.1∈JMP:=by
   rcases frm_all _ hk with q|⟨_,_,q|⟨_,q|q|q⟩⟩
   ·exact absurd q c1
   ·exact absurd q c2
   ·exact absurd q c3
   ·exact absurd q c4
   ·exact q.2.2
  obtain⟨qs,i,_,a1,a2,a3⟩:=jmp_last hr hj
  exact⟨h,by rw [a3];exact a1,by rw [a3];omega⟩
 ·rw [if_neg c5];exact⟨h,by omega,by omega⟩
def sp_goon (C:Addr):Sp:=fun vs H Q _=>∃(m:Mc) (r:Rn),vs= [.ref m.x]∧qM C H m r∧r.th= .non∧Tr r.B∧m.own.length≤100∧Q2 m.rs∧1≤r.p∧r.p≤m.rs.length+1∧r.n≤300∧
 ∀(H':Hp),Mv m H H'→qM C H' m (runS m.rs m.own r.gs (300-r.n) r.B r.p r.n)→Q .non H'
section
variable {P:Program}{w:World}{K:PySem.W.Frag}{mg:Str→Option Value}{base:Heap}{a:Ad}{g:Ga}
theorem ok_goon (T:Tx K mg a)(C:Fx K w mg g a):FnOk P w K mg base CX0 5 a.yh a.ym ["self"] (sp_goon a.qd):=by
 have Xz:FnOk P w K mg base CX0 4 a.yE a.yz ["self","row"] (sp_dorow a.qd):=ok_dorow T C
 have qZ:FnOk P w K mg base CX0 1 a.Qc a.Qb ["self"] (XW a.qd):=ZZ T
 refine T.zo.ok XD (fun vs H Q E h=> ?_) (fun cdv A outer s H vs Q E hr h=> ?_)
 ·obtain⟨m,r,rfl,_⟩:=h
  rfl
 obtain⟨⟨x,db,dg,rs,own⟩,⟨B0,p0,n0,gs,th⟩,rfl,M0,hth,hT0,ho,hR,hp0,hp0',hn0,k⟩:=h
 simp only at hth hT0 ho hR hp0 hp0' hn0 k
 subst hth
 refine⟨_,(@qg _ _ _ (@XO _ _ _ _ _ _ PassesOwn.never (@qo _ _ _ _ _ _ _ _ (@op_isN _) (@QM _ _ _ _ _ (pv 0) rfl) (@Q7 _ _ _) (qF _)) (@qg _ _ _ (@qY _ _ _ _ _ _ _ _ (@qo _ _ _ _ _ _ _ _ (@op_gt _) (@QM _ _ _ _ _ (pv 0) rfl) (@qp _ _ _ _ _ _ _ _ _ (@qE _) (by rfl) T.yS PySem.boot_len (@qa _ _ _ _ _ (@QM _ _ _ _ _ (pv 0) rfl) (@qc _) (by trivial)) (by trivial) (by trivial) (by trivial) (by trivial)) (qF _)) (@qg _ _ _ (@yk _ _ _ _ _ _ _ _ (pv 0) (@Qf _ _ _ _ _ (@qa _ _ _ _ _ (@qk _ _ _ _) (@qa _ _ _ _ _ (@qk _ _ _ _) (@qc _) (by trivial)) (by trivial))) rfl)) (@qg _ _ _ (@qY _ _ _ _ _ _ _ _ (@qo _ _ _ _ _ _ _ _ (@y0 _) (@QM _ _ _ _ _ (pv 0) rfl) (@pe_gI _ _ _ _ (by rfl) T.m_MOST_DONE (by trivial)) (qF _)) (@qg _ _ _ (@yk _ _ _ _ _ _ _ _ (pv 0) (@Qf _ _ _ _ _ (@qa _ _ _ _ _ (@qk _ _ _ _) (@qa _ _ _ _ _ (@qk _ _ _ _) (@qc _) (by trivial)) (by trivial))) rfl)) (@qb _ _ _ _ _ (@QP _ _ _ _ (@yV _ _ _ _ _ _ _ _ _ _ _ _ _ _ _ _ _ _ _ _ (pv 0) T.qf T.XE Xz (hr.mono (by first|decide|omega)) T.XA .nil qr (@qa _ _ _ _ _ (@qQ _ _ _ _ _ _ _ (@qX _) (@QM _ _ _ _ _ (pv 0) rfl) (@Qa _ _ _ _ _ _ _ _ (@op_sub _) (@QM _ _ _ _ _ (pv 0) rfl) (@qi _ _ _ _)) (fun _ _=>rfl)) (@qc _) (by trivial)) (by trivial) (by trivial) (by trivial)) (by trivial)) (@qg _ _ _ (@qY _ _ _ _ _ _ _ _ (@yi _ _ _ _ (@QY _ _ _ (@qJ _ _ _ _ _ _ _ _ _ _ _ _ _ _ _ _ _ (pv 0) T.qf T.QS qZ (hr.mono (by first|decide|omega)) T.QR .nil qr (by trivial)) (by trivial))) (@qg _ _ _ (@Jo _ _ _ _ _ _ _ _ _ _ (pv 0) (@qi _ _ _ _) in_add)) (@qt _)))))))))),?_⟩
 have two:(2:Nat)≤sizeLine:=by decide
 have n1:=hR.n1
 generalize hres:runS rs own gs (300-n0) B0 p0 n0=res at k
 refine⟨fun m σ H'=>∃(B:Str→D) (p:Int) (n:Nat) (th:D),σ= [some (.ref x)]∧qM a.qd H' ⟨x,db,dg,rs,own⟩ ⟨B,p,n,gs,th⟩∧Mv ⟨x,db,dg,rs,own⟩ H H'∧Tr B∧1≤p∧p≤rs.length+1∧n≤300∧((th= .non∧runS rs own gs (300-n) B p n=res∧m=301-n)∨((∃u e,th= .tup [.str u,e])∧⟨B,p,n,gs,th⟩=res∧m=0)),⟨_,B0,p0,n0,.non,rfl,M0,Mv.refl _ _,hT0,by omega,by omega,by omega,.inl ⟨rfl,hres,rfl⟩⟩,?_⟩
 rintro m σ H' ⟨B,p,n,th,rfl,M,mv,hT,hp1,hp2,hn,hc⟩
 have hM:=M
 obtain⟨dx,fs,rv,ru,tv,gv,e,f,ir,ij,ib,hg,gl,it⟩:=hM
 simp only at e f ir ij ib hg gl it
 have hlt:fs.length<1000:=by have:=f.len;omega
 refine⟨_,rfl,x,_,dx,fs,tv,rfl,e,T.qf,T.qB,f.there,rfl,_,rfl,?_⟩
 rcases hc with⟨rfl,hrun,rfl⟩|⟨⟨u,d,rfl⟩,hrun,rfl⟩
 ·cases(show tv= .non from it)
  have it2:∀{H:Hp},Is H .non .non:=rfl
  refine Qy (by decide+kernel) ?_
  refine⟨fun σ' H2=>∃(B:Str→D) (p:Int) (n2:Nat) (th:D),σ'= [some (.ref x)]∧qM a.qd H2 ⟨x,db,dg,rs,own⟩ ⟨B,p,n2,gs,th⟩∧Mv ⟨x,db,dg,rs,own⟩ H H2∧Tr B∧1≤p∧p≤rs.length+1∧n2≤300∧((th= .non∧runS rs own gs (300-n2) B p n2=res∧n<n2)∨((∃u e,th= .tup [.str u,e])∧⟨B,p,n2,gs,th⟩=res)),?_,?_⟩
  ·rintro σ' H2 ⟨B2,p2,n2,th2,rfl,M2,mv2,hT2,a1,a2,a3,hc2⟩
   rcases hc2 with⟨rfl,q1,q2⟩|⟨q0,q1⟩
   ·exact⟨301-n2,by omega,B2,p2,n2,_,rfl,M2,mv2,hT2,a1,a2,a3,.inl ⟨rfl,q1,rfl⟩⟩
   ·exact⟨0,by omega,B2,p2,n2,_,rfl,M2,mv2,hT2,a1,a2,a3,.inr ⟨q0,q1,rfl⟩⟩
  ·have ir':=ir
   obtain⟨ta,us,rfl,eta,iu⟩:=ir'
   have hul:us.length=rs.length:=by rw [iu.length,List.length_map]
   have fl:∀(z:Str) (H:Hp) (l:Addr),z.length≤100→H l=none→Is (upd H l (.tup [.str "fault",.str z])) (flt z) (.ref l):=fun z H l hz hl=>Is.new (ds:= [.str "fault",.str z]) ⟨_,_,rfl,⟨rfl,yg (by decide)⟩,_,_,rfl,⟨rfl,yg (by omega)⟩,rfl⟩ hl
   have stopped:∀(z:Str),z.length≤100→⟨B,p,n,gs,flt z⟩=res→∀l,H' l=none→(fun H2=>∃(B:Str→D) (p:Int) (n2:Nat) (th:D),[some (V.ref x)]= [some (V.ref x)]∧qM a.qd H2 ⟨x,db,dg,rs,own⟩ ⟨B,p,n2,gs,th⟩∧Mv ⟨x,db,dg,rs,own⟩ H H2∧Tr B∧1≤p∧p≤rs.length+1∧n2≤300∧((th= .non∧runS rs own gs (300-n2) B p n2=res∧n<n2)∨((∃u e,th= .tup [.str u,e])∧⟨B,p,n2,gs,th⟩=res))) (upd (upd H' l (.tup [.str "fault",.str z])) x (.ins a.qd dx (putF "there" (.ref l) fs))):=by
    intro z hz hzr l hl
    have s1:Same H' (upd H' l (.tup [.str "fault",.str z])):=qe hl _
    obtain⟨m1,m2⟩:=QV (m:=⟨x,db,dg,rs,own⟩) (r:=⟨B,p,n,gs,flt z⟩) (s1 _ _ e) (f.set_there (u:= .ref l)) (ir.mono s1.tk) (ij.mono s1.tk) (ib.same s1) (s1 _ _ hg) (gl.mono s1.tk) (fl z H' l hz hl)
    exact⟨B,p,n,flt z,rfl,m1,mv.trans ((Mv.of s1).trans m2),hT,hp1,hp2,hn,.inr ⟨⟨_,_,rfl⟩,hzr⟩⟩
   refine⟨_,rfl,x,_,dx,fs,_,rfl,e,T.qf,T.Qg,f.place,_,rfl,x,_,dx,fs,_,rfl,e,T.qf,T.Yv,f.rows,ta,us,rfl,.inr (SqT.of eta),_,_,rfl,rfl,_,rfl,?_⟩
   refine ite2 (fun c=> ?_) (fun c=> ?_)
   ·have c':p>rs.length:=by have:=of_decide_eq_true c;omega
    have er:⟨B,p,n,gs,flt "silent"⟩=res:=by
     rw [←hrun]
     cases h3:300-n with
     |zero=>unfold runS;rw [if_pos c']
     |succ q=>unfold runS;rw [if_pos c']
    refine⟨two,fun l hl=> ?_⟩
    have s1:Same H' (upd H' l (.tup [.str "fault",.str "silent"])):=qe hl _
    exact⟨_,rfl,x,_,dx,fs,rfl,s1 _ _ e,T.qf,T.qB,hlt,stopped "silent" (by decide) er l hl⟩
   ·have c':¬p>rs.length:=fun h=>c (decide_eq_true (by omega))
    refine⟨_,rfl,x,_,dx,fs,_,rfl,e,T.qf,T.Qz,f.done,rfl,_,rfl,?_⟩
    refine ite2 (fun c2=> ?_) (fun c2=> ?_)
    ·have e3:n=300:=by have:=of_decide_eq_true c2;injection this with h;omega
     have er:⟨B,p,n,gs,flt "long"⟩=res:=by
      rw [←hrun,e3]
      show _=runS rs own gs 0 B p 300
      unfold runS
      rw [if_neg c']
     refine⟨two,fun l hl=> ?_⟩
     have s1:Same H' (upd H' l (.tup [.str "fault",.str "long"])):=qe hl _
     exact⟨_,rfl,x,_,dx,fs,rfl,s1 _ _ e,T.qf,T.qB,hlt,stopped "long" (by decide) er l hl⟩
    ·have e3:n<300:=by
      rcases Nat.lt_or_ge n 300 with h|h
      ·exact h
      ·exact absurd (decide_eq_true (by rw [show n=300 by omega];rfl)) c2
     have hpl:p≤rs.length:=by omega
     have hro:=hR.ok _ (row_mem hp1 hpl)
     have hok:=rowO_ok (own:=own) hro hT hp1 hpl
     have hstep:res=match rowO own (JO rs p) B p with
       | .go B' p'=>runS rs own gs (300-(n+1)) B' p' (n+1)
       | .stop e=>⟨B,p,if Q1 e=true then n else n+1,gs,e⟩:=by
      rw [←hrun,show 300-n=(300-(n+1))+1 by omega,runS,if_neg c']
     refine⟨_,rfl,x,dx,fs,rfl,e,f.meth _ (by decide+kernel),?_⟩
     refine⟨_,rfl,x,_,dx,fs,_,rfl,e,T.qf,T.Yv,f.rows,_,rfl,x,_,dx,fs,_,rfl,e,T.qf,T.Qg,f.place,_,_,rfl,rfl,?_⟩
     have eat:atI (rs.map rowD) (p-1)=some (rowD (JO rs p)):=by
      rw [show p-1=((p.toNat-1:Nat):Int) by omega]
      exact Qe (by rw [List.getElem?_map,row_at hp1 hpl];rfl)
     refine yw (d:=rowD (JO rs p)) ir eat fun q hq=> ?_
     refine⟨⟨x,db,dg,rs,own⟩,⟨B,p,n,gs,.non⟩,JO rs p,q,rs.length,rfl,M,rfl,hT,ho,hro,hq,fun H2 m2 M2=> ?_⟩
     have hM2:=M2
     obtain⟨dx2,fs2,rv2,ru2,tv2,gv2,e2,f2,ir2,ij2,ib2,hg2,gl2,it2⟩:=hM2
     simp only at e2 f2 ir2 ij2 ib2 hg2 gl2 it2
     have hlt2:fs2.length<1000:=by have:=f2.len;omega
     have mv2:=mv.trans m2
     generalize hO:rowO own (JO rs p) B p=O at hok hstep M2 it2 ib2 f2
     cases O with
     |go B' p'=>
      obtain⟨q1,q2,q3⟩:=hok
      refine⟨_,rfl,x,dx2,fs2,rfl,e2,f2.meth _ (by decide+kernel),_,_,rfl,M2,.inl rfl,_,rfl,?_⟩
      refine Qy rfl ?_
      refine⟨_,rfl,x,_,dx2,fs2,_,rfl,e2,T.qf,T.Qz,f2.done,(n:Int),1,rfl,rfl,dx2,fs2,e2,hlt2,?_⟩
      obtain⟨m3,m4⟩:=QV (m:=⟨x,db,dg,rs,own⟩) (r:=⟨B',p',n+1,gs,.non⟩) e2 (f2.set_done (k:=n+1)) ir2 ij2 ib2 hg2 gl2 it2
      exact⟨B',p',n+1,.non,rfl,m3,mv2.trans m4,q1,q2,q3,by omega,.inl ⟨rfl,hstep.symm,by omega⟩⟩
     |stop d=>
      obtain⟨u,d2,rfl⟩:=hok
      refine⟨_,rfl,x,dx2,fs2,rfl,e2,f2.meth _ (by decide+kernel),_,_,rfl,M2,.inr ⟨_,_,rfl⟩,_,rfl,?_⟩
      cases hw:Q1 (.tup [.str u,d2]) with
      |true=>
       simp only [hw] at hstep
       refine qA (by show(!Q1 (.tup [.str u,d2]))=false;rw [hw];rfl) ?_
       exact⟨B,p,n,_,rfl,M2,mv2,hT,hp1,hp2,hn,.inr ⟨⟨_,_,rfl⟩,hstep.symm⟩⟩
      |false=>
       simp only [hw] at hstep
       refine Qy (by show(!Q1 (.tup [.str u,d2]))=true;rw [hw];rfl) ?_
       refine⟨_,rfl,x,_,dx2,fs2,_,rfl,e2,T.qf,T.Qz,f2.done,(n:Int),1,rfl,rfl,dx2,fs2,e2,hlt2,?_⟩
       obtain⟨m3,m4⟩:=QV (m:=⟨x,db,dg,rs,own⟩) (r:=⟨B,p,n+1,gs,.tup [.str u,d2]⟩) e2 (f2.set_done (k:=n+1)) ir2 ij2 ib2 hg2 gl2 it2
       exact⟨B,p,n+1,_,rfl,m3,mv2.trans m4,hT,hp1,hp2,by omega,.inr ⟨⟨_,_,rfl⟩,hstep.symm⟩⟩
 ·have:tv≠ .non:=by obtain⟨_,_,h,_⟩:=it;rw [h];exact fun z=>by cases z
  refine qA (decide_eq_false this) ?_
  refine k H' mv ?_
  rw [←hrun]
  exact M
end
end K14
namespace K14
open PySem L2 PyProof.Rows
def emp (z:Str):D:= .tup [.str z,.str ""]
theorem prs_of {H:Hp}:∀{zs:List Str}{ys:List V},L2.IsL H (zs.map emp) ys→∃ts:List Addr,ys=ts.map V.ref∧ts.length=zs.length∧∀(i:Nat) (t:Addr) (z:Str),ts[i]? =some t→zs[i]? =some z→H t=some (.tup [.str z,.str ""])
 | [],_,h=>by
  cases(show _= [] from h)
  exact⟨[],rfl,rfl,fun i t z h=>by simp at h⟩
 |y::zs,_,h=>by
  obtain⟨v,r,rfl,⟨t,us,rfl,et,v1,u1,rfl,⟨rfl,_⟩,v2,u2,rfl,⟨rfl,_⟩,e2⟩,h2⟩:=h
  cases(show u2= [] from e2)
  obtain⟨ts,rfl,hl,hi⟩:=prs_of h2
  refine⟨t::ts,rfl,by rw [List.length_cons,hl];rfl,fun i q z h1 h3=> ?_⟩
  cases i with
  |zero=>
   cases h1
   cases h3
   exact et
  |succ j=>exact hi j q z (by simpa using h1) (by simpa using h3)
theorem prs_box {H:Hp}{A:Addr}{ys:List V}(e:H A=some (.lst ys))(h:L2.IsL H (BX.map emp) ys):PairsL H A (BX.map fun z=>(z,V.str "")):=by
 obtain⟨ts,rfl,hl,hi⟩:=prs_of h
 refine⟨ts,e,by rw [hl,List.length_map],fun i t p h1 h2=> ?_⟩
 rw [List.getElem?_map] at h2
 cases hz:BX[i]? with
 |none=>rw [hz] at h2;cases h2
 |some z=>
  rw [hz] at h2
  cases h2
  exact hi i t z h1 hz
def B0:Str→D:=fun _=> .str ""
theorem box_new {H:Hp}{q:Addr}(hq:H q=none):YW (upd H q (.dK (inrK (BX.map fun z=>(z,V.str ""))))) q B0:=by
 refine⟨fun _=> .str "",?_,fun z _=>⟨rfl,yg (by decide)⟩⟩
 rw [qj]
 unfold inrK kvB
 rw [List.map_map]
 rfl
theorem B0_tr:Tr B0:=fun _ _=>(by decide+kernel:isT (.str "")=true)
theorem bx_nodup:((BX.map fun z=>(z,V.str "")).map (·.1)).Nodup:=by
 rw [List.map_map]
 show(BX.map id).Nodup
 rw [List.map_id]
 decide+kernel
theorem putF_le (f:Str)(v:V):∀fs:List (Str×V),(putF f v fs).length≤fs.length+1
 | []=>Nat.le_refl _
 |(g,x)::r=>by
  unfold putF
  by_cases c:g=f
  ·rw [if_pos c];simp
  ·rw [if_neg c]
   have:=putF_le f v r
   simp only [List.length_cons]
   omega
def FLD:List Str:= ["rows","rule","own","boxes","place","done","given","there"]
theorem mth_fld:∀m∈MTH,m∉FLD:=by decide+kernel
theorem fl_new {rv v:V}{own:Str}{db dg:Addr}(hl:(putF "there" .non (putF "given" (.ref dg) (putF "done" (.int 0) (putF "place" (.int 1) (putF "boxes" (.ref db) (putF "own" (.str own) (putF "rule" v (putF "rows" rv [])))))))).length≤20):
  Fl (putF "there" .non (putF "given" (.ref dg) (putF "done" (.int 0) (putF "place" (.int 1) (putF "boxes" (.ref db) (putF "own" (.str own) (putF "rule" v (putF "rows" rv [])))))))) rv v own db dg 1 0 .non:=by
 refine⟨?_,?_,?_,?_,?_,?_,?_,?_,fun m hm=> ?_,hl⟩
 ·iterate 7 rw [qH,if_neg (by decide+kernel)]
  rw [qH,if_pos rfl]
 ·iterate 6 rw [qH,if_neg (by decide+kernel)]
  rw [qH,if_pos rfl]
 ·iterate 5 rw [qH,if_neg (by decide+kernel)]
  rw [qH,if_pos rfl]
 ·iterate 4 rw [qH,if_neg (by decide+kernel)]
  rw [qH,if_pos rfl]
 ·iterate 3 rw [qH,if_neg (by decide+kernel)]
  rw [qH,if_pos rfl]
 ·iterate 2 rw [qH,if_neg (by decide+kernel)]
  rw [qH,if_pos rfl]
  rfl
 ·rw [qH,if_neg (by decide+kernel),qH,if_pos rfl]
 ·rw [qH,if_pos rfl]
 ·have h:=mth_fld m hm
  iterate 8 rw [qH,if_neg (fun e=>h (by rw [e];decide+kernel))]
  rfl
structure Ini (n:Nat)(H:Hp)(C x dx:Addr)(fs:List (Str×V))(H':Hp):Prop where
 len:fs.length≤n
 at':H' x=some (.ins C dx fs)
 kept:∀b o,H b=some o→b≠x→H' b=some o
theorem Ini.put {n:Nat}{H H':Hp}{C x dx:Addr}{fs:List (Str×V)}(I:Ini n H C x dx fs H')(f:Str)(v:V):Ini (n+1) H C x dx (putF f v fs) (upd H' x (.ins C dx (putF f v fs)))∧Tk H' (upd H' x (.ins C dx (putF f v fs))):=
 ⟨⟨Nat.le_trans (putF_le f v fs) (Nat.succ_le_succ I.len),qj,fun b o h n=>by rw [qD n];exact I.kept b o h n⟩,Tk.updI I.at'⟩
theorem Ini.same {n:Nat}{H H' H2:Hp}{C x dx:Addr}{fs:List (Str×V)}(I:Ini n H C x dx fs H')(s:Same H' H2):Ini n H C x dx fs H2:=⟨I.len,s _ _ I.at',fun b o h n=>s _ _ (I.kept b o h n)⟩
theorem lc_box {K:PySem.W.Frag}{b A:Addr}{H1:Hp}{te:TE}{tl:L2.St}{Q:VK}(hb:∀H,SqT K H b (BX.map V.str))(hA:H1 A=none)
  (hte:∀(z:Str) H (R:VK),z.length≤sizeLine→Same H1 H→(∀y H',Same H H'→Is H' (emp z) y→R y H')→te (some (.str z)::tl) H R)
  (hQ:∀H' ys,Same H1 H'→H' A=some (.lst ys)→L2.IsL H' (BX.map emp) ys→Q (.ref A) H'):lcGo A (Itt K b) (xw 0) tYes te (none::tl) H1 Q:=by
 have hl:∀H,L2.IsL H (BX.map D.str) (BX.map V.str):=fun H=>IsL.ofStrs fun z hz=>yg (by rw [(QQ hz).1];decide)
 refine lc_data (ds:=BX.map D.str) (fun d=>match d with| .str z=>emp z|d=>d) (yg (by decide)) hA (fun i H sm hi=>⟨BX.map V.str,(BX.map V.str)[i]'(by simpa using hi),hb H,List.getElem?_eq_getElem _⟩) (fun i H x H' d sm hd y=> ?_) (fun H sm=>⟨BX.map V.str,hb H,by simp⟩) (fun d x H R hd sm hx r=> ?_) (fun H' ys sm e h=>hQ H' ys sm e ?_)
 ·obtain⟨rfl,y⟩:=y
  obtain⟨v,e1,e2⟩:=(hl H').get hd
  have:=y _ (hb H')
  rw [e1] at this
  cases this
  exact⟨rfl,e2⟩
 ·obtain⟨z,_,rfl⟩:=List.mem_map.mp hd
  obtain⟨rfl,hz⟩:=hx
  exact hte z H R hz sm r
 ·rw [List.map_map] at h
  exact h
def jP (C:Addr):Sp:=fun vs H Q _=>∃(x dx:Addr) (v:V) (rs:List Rw) (own:Str),vs= [.ref x,v,.str own]∧H x=some (.ins C dx [])∧Q2 rs∧Is H (Yb rs) v∧nm own=true∧own.length≤100∧
 ∀(H':Hp) (db dg:Addr),(∀b o,H b=some o→b≠x→H' b=some o)→H db=none→H dg=none→qM C H' ⟨x,db,dg,rs,own⟩ (runS rs own [] 300 B0 1 0)→Q .non H'
section
variable {P:Program}{w:World}{K:PySem.W.Frag}{mg:Str→Option Value}{base:Heap}{a:Ad}{g:Ga}
theorem xu (T:Tx K mg a)(C:Fx K w mg g a):FnOk P w K mg base CX0 6 a.Qv a.QA ["self","rule","own"] (jP a.qd):=by
 have Js:FnOk P w K mg base CX0 1 a.jr a.jq ["value"] wa:=ok_name T
 have G_rule_rows:FnOk P w K mg base CX0 4 a.jJ a.jQ ["tree"] sp_rows:=ok_rows T C
 have Y6:FnOk P w K mg base CX0 5 a.yh a.ym ["self"] (sp_goon a.qd):=ok_goon T C
 refine T.Zi.ok zz (fun vs H Q E h=> ?_) (fun cdv A outer s H vs Q E hr h=> ?_)
 ·obtain⟨x,dx,v,rs,own,rfl,_⟩:=h
  rfl
 obtain⟨x,dx,v,rs,own,rfl,hx,hR,hv,hnm,hol,k⟩:=h
 refine⟨_,(@qb _ _ _ _ _ (@yk _ _ _ _ _ _ _ _ (pv 0) (@qq _ _ _ _ _ _ _ _ _ _ _ _ _ _ _ _ G_rule_rows (hr.mono (by first|decide|omega)) (by rfl) T.m_rule_rows T.zE.kp T.b_rule_rows .nil qr (@qa _ _ _ _ _ (pv 1) (@qc _) (by trivial)) (by trivial) (by trivial) (by trivial)) rfl) (@qb _ _ _ _ _ (@qY _ _ _ _ _ _ _ _ (@yi _ _ _ _ (@QY _ _ _ (@qq _ _ _ _ _ _ _ _ _ _ _ _ _ _ _ _ Js (hr.mono (by first|decide|omega)) (by rfl) T.zN T.xn.kp T.zI .nil qr (@qa _ _ _ _ _ (pv 2) (@qc _) (by trivial)) (by trivial) (by trivial) (by trivial)) (by trivial))) (@qg _ _ _ (@XQ _ _)) (@qt _)) (@qb _ _ _ _ _ (@yk _ _ _ _ _ _ _ _ (pv 0) (pv 1) rfl) (@qb _ _ _ _ _ (@yk _ _ _ _ _ _ _ _ (pv 0) (pv 2) rfl) (@qb _ _ _ _ _ (@yk _ _ _ _ _ _ _ _ (pv 0) (@QE _ _ _ _ _ _ _ _ _ (@call_dictP _ rfl) (by rfl) T.z_dict boot_dict (@qa _ _ _ _ _ (@pe_lc _ _ (["box"]) (1) ([]) _ _ _ _ _ _ _ _ _ (lcs0) rfl (@wg _ _ _ _ (@pe_gR _ _ _ _ (by rfl) C.m_BOXES (by trivial))) (fun _ _ _ _ _ _=>(@Qm _ _ (0) _ (show List.Nodup (["box"]:List Str) by decide+kernel) rfl (Or.inl rfl) (by trivial))) (fun _ _ _ _ _ _=> @jK _) (fun _ _ _ _ _ _=>(@Qf _ _ _ _ _ (@qa _ _ _ _ _ (pv 0) (@qa _ _ _ _ _ (@qk _ _ _ _) (@qc _) (by trivial)) (by trivial)))) (by trivial)) (@qc _) (by trivial)) (by trivial) (by trivial) (by trivial) (by trivial)) rfl) (@qb _ _ _ _ _ (@yk _ _ _ _ _ _ _ _ (pv 0) (@qi _ _ _ _) rfl) (@qb _ _ _ _ _ (@yk _ _ _ _ _ _ _ _ (pv 0) (@qi _ _ _ _) rfl) (@qb _ _ _ _ _ (@yk _ _ _ _ _ _ _ _ (pv 0) (@yH _ _ _ _ (@qc _)) rfl) (@qb _ _ _ _ _ (@yk _ _ _ _ _ _ _ _ (pv 0) (@Q7 _ _ _) rfl) (@qg _ _ _ (@QP _ _ _ _ (@qJ _ _ _ _ _ _ _ _ _ _ _ _ _ _ _ _ _ (pv 0) T.qf T.Jq Y6 (hr.mono (by first|decide|omega)) T.Jv .nil qr (by trivial)) (by trivial)))))))))))),?_⟩
 refine⟨_,rfl,v,rs,rfl,hR,hv,fun rv H1 s1 ir=> ?_⟩
 refine⟨_,rfl,x,_,dx,[],rfl,s1 _ _ hx,T.qf,T.Yv,by decide,?_⟩
 have I0:Ini 0 H a.qd x dx [] H1:=⟨Nat.le_refl _,s1 _ _ hx,fun b o h _=>s1 _ _ h⟩
 obtain⟨I1,t1⟩:=I0.put "rows" rv
 have ir1:=ir.mono t1
 refine⟨_,rfl,_,.str own,rfl,⟨rfl,yg (by omega)⟩,fun H3 s3=>⟨_,rfl,qA (by show(!nm own)=false;rw [hnm];rfl) ?_⟩⟩
 have I3:=I1.same s3
 have ir3:=ir1.mono s3.tk
 refine⟨_,rfl,_,rfl,x,_,dx,_,rfl,I3.at',T.qf,T.JP,by have:=I3.len;omega,?_⟩
 obtain⟨I4,t4⟩:=I3.put "rule" v
 have ir4:=ir3.mono t4
 refine⟨_,rfl,_,rfl,x,_,dx,_,rfl,I4.at',T.qf,T.jV,by have:=I4.len;omega,?_⟩
 obtain⟨I5,t5⟩:=I4.put "own" (.str own)
 have ir5:=ir4.mono t5
 refine⟨g.boxes,_,rfl,C.boxes _,fun hvl A0 hA0=> ?_⟩
 refine lc_box (tl:= []) C.boxes hA0 (fun z H6 R hz s6 r=>⟨_,rfl,(by show 2≤sizeLine;decide),fun l hl=>r _ _ (qe hl _) (Is.new (ds:= [.str z,.str ""]) ⟨_,_,rfl,⟨rfl,hz⟩,_,_,rfl,⟨rfl,yg (by decide)⟩,rfl⟩ hl)⟩) fun H6 ys s6 e6 i6=> ?_
 refine⟨A0,_,rfl,prs_box e6 i6,bx_nodup,by decide,fun db hdb=> ?_⟩
 have I6:=I5.same s6
 have s7:Same H6 (upd H6 db (.dK (inrK (BX.map fun z=>(z,V.str ""))))):=qe hdb _
 have I7:=I6.same s7
 have b7:=box_new hdb
 have ir7:=(ir5.mono s6.tk).mono s7.tk
 have nx:∀b o,H b=some o→b≠x→b≠db:=fun b o h n=>ql (I6.kept b o h n) hdb
 have xdb:x≠db:=ql I6.at' hdb
 refine⟨_,rfl,x,_,dx,_,rfl,I7.at',T.qf,T.Qo,by have:=I7.len;omega,?_⟩
 obtain⟨I8,t8⟩:=I7.put "boxes" (.ref db)
 have b8:=b7.move t8 (qD xdb.symm)
 have ir8:=ir7.mono t8
 refine⟨_,rfl,x,_,dx,_,rfl,I8.at',T.qf,T.Qg,by have:=I8.len;omega,?_⟩
 obtain⟨I9,t9⟩:=I8.put "place" (.int 1)
 have b9:=b8.move t9 (qD xdb.symm)
 have ir9:=ir8.mono t9
 refine⟨_,rfl,x,_,dx,_,rfl,I9.at',T.qf,T.Qz,by have:=I9.len;omega,?_⟩
 obtain⟨I10,t10⟩:=I9.put "done" (.int 0)
 have b10:=b9.move t10 (qD xdb.symm)
 have ir10:=ir9.mono t10
 refine⟨(by show 0≤sizeLine;decide),fun dg hdg=> ?_⟩
 have s11:=qe hdg (.lst [])
 have I11:=I10.same s11
 have b11:=b10.same s11
 have ir11:=ir10.mono s11.tk
 have xdg:dg≠x:=(ql I10.at' hdg).symm
 refine⟨_,rfl,x,_,dx,_,rfl,I11.at',T.qf,T.yj,by have:=I11.len;omega,?_⟩
 obtain⟨I12,t12⟩:=I11.put "given" (.ref dg)
 have b12:=b11.move t12 (qD xdb.symm)
 have ir12:=ir11.mono t12
 refine⟨_,rfl,x,_,dx,_,rfl,I12.at',T.qf,T.qB,by have:=I12.len;omega,?_⟩
 obtain⟨I13,t13⟩:=I12.put "there" .non
 have b13:=b12.move t13 (qD xdb.symm)
 have ir13:=ir12.mono t13
 have hl:=I13.len
 refine⟨_,rfl,x,dx,_,rfl,I13.at',(fl_new (by omega)).meth _ (by decide+kernel),?_⟩
 have hvk:Is _ (Yb rs) v:=hv.mono ⟨fun b xs e=>I13.kept b _ e (fun z=>by rw [z,hx] at e;cases e),fun b xs e=>⟨_,I13.kept b _ e (fun z=>by rw [z,hx] at e;cases e)⟩,fun b xs e=>⟨_,I13.kept b _ e (fun z=>by rw [z,hx] at e;cases e)⟩⟩
 have frs:∀{b:Addr}{H2:Hp},(∀c o,H c=some o→c≠x→H2 c=some o)→H2 b=none→b≠x→H b=none:=fun{b H2} k1 h1 n1=>by
  cases hc:H b with
  |none=>rfl
  |some o=>rw [k1 b o hc n1] at h1;cases h1
 have nx2:∀b o,H b=some o→b≠x→b≠dg:=fun b o h n=>ql (I10.kept b o h n) hdg
 refine⟨⟨x,db,dg,rs,own⟩,⟨B0,1,0,[],.non⟩,rfl,⟨dx,_,rv,v,.non,[],I13.at',fl_new (by omega),ir13,hvk,b13,?_,rfl,rfl⟩,rfl,B0_tr,hol,hR,Int.le_refl 1,by show(1:Int)≤(rs.length:Int)+1;omega,Nat.zero_le _,fun H' m M=>k H' db dg (fun b o h n=>m.kept b o (I13.kept b o h n) n (nx b o h n) (nx2 b o h n)) (frs I6.kept hdb xdb.symm) (frs I10.kept hdg xdg) M⟩
 rw [qD xdg,qD xdg,qj]
end
end K14
namespace K14
open PySem L2 PyProof.Rows
def isNon:D→Bool
 | .non=>true
 |_=>false
def askOf:D→D
 | .tup [_,d]=>d
 |d=>d
def AnsOk (d:D):Prop:=d= .non∨isT d=true
theorem not_non {H:Hp}{d:D}{u:V}(i6:Is H d u)(cn:d≠ .non):u≠ .non:=by
 rintro rfl
 cases d with
 |non=>exact cn rfl
 |bl b=>cases(show V.non= .bl b from i6)
 |int i=>cases(show V.non= .int i from i6)
 |str z=>obtain⟨h,_⟩:=i6;cases h
 |lst=>obtain⟨_,_,h,_⟩:=i6;cases h
 |dct=>obtain⟨_,_,h,_⟩:=i6;cases h
 |tup xs=>obtain⟨_,_,h,_⟩:=i6;cases h
theorem ask_sh {n:Nat}{r:Rw}(hro:Yi n 125 r)(hs:r.1∈ASK):∃z0 z1,r.2= [.s z0,.s z1]∧z0∈BX:=by
 obtain⟨ks,hk,hp⟩:=id hro
 obtain⟨_,_,ek⟩:=Z4 _ hk hs
 simp only at ek
 subst ek
 obtain⟨x,y,e,hx,hy⟩:=Ze hp
 exact⟨x,y,e,hx⟩
def Gd (d:D):Prop:=good d=true∧dp d≤20
theorem gd_flt:∀z∈(["kind","big","told","silent","long","name"]:List Str),good (flt z)=true:=by decide+kernel
theorem gd_f {z:Str}(h:z∈(["kind","big","told","silent","long","name"]:List Str)):Gd (flt z):=⟨gd_flt z h,by show dp (.tup [.str "fault",.str z])≤20;simp [dp,dpL]⟩
theorem gd_two {u:Str}{d:D}(hu:Ya u=true)(h:isT d=true):Gd (.tup [.str u,d]):=by
 have hg:=jU h
 have hd:=Zw h
 refine⟨?_,?_⟩
 ·simp only [good,goodL,hu,hg,Bool.and_true]
  rfl
 ·simp only [dp,dpL]
  omega
theorem gd_three {u w:Str}{d:D}(hu:Ya u=true)(hw:Ya w=true)(h:isT d=true):Gd (.tup [.str u,.tup [.str w,d]]):=by
 have hg:=jU h
 have hd:=Zw h
 refine⟨?_,?_⟩
 ·simp only [good,goodL,hu,hw,hg,Bool.and_true]
  rfl
 ·simp only [dp,dpL]
  omega
theorem rowO_gd {own:Str}{n:Nat}{r:Rw}{B:Str→D}{p:Int}{e:D}(hr:Yi n 125 r)(h:Tr B)(he:rowO own r B p= .stop e):Gd e:=by
 unfold rowO at he
 obtain⟨ks,hk,hp⟩:=id hr
 obtain⟨r1,ps⟩:=r
 by_cases c1:r1∈MKR
 ·rw [if_pos c1] at he
  simp only at he
  generalize made r1 B own ps=dm at he
  have key:(if isT dm=true then Out.go (setB B (b0 ps) dm) (p+1) else .stop (flt "big"))= .stop e→Gd e:=by
   intro hq
   by_cases c:isT dm=true
   ·rw [if_pos c] at hq;cases hq
   ·rw [if_neg c] at hq;cases hq;exact gd_f (by decide+kernel)
  cases dm with
  |non=>cases he;exact gd_f (by decide+kernel)
  |_=>exact key he
 rw [if_neg c1] at he
 by_cases c2:r1∈ASK
 ·rw [if_pos c2] at he
  cases he
  obtain⟨_,_,ek⟩:=Z4 _ hk c2
  simp only at ek
  subst ek
  obtain⟨z0,z1,rfl,h0,h1⟩:=Ze hp
  have hT:=h z1 h1
  show Gd (askF r1 (B z1))
  unfold askF
  by_cases d1:r1="names"
  ·rw [if_pos d1]
   by_cases d2:Y3 (B z1)=true
   ·rw [if_pos d2];exact gd_three (by decide+kernel) (by decide+kernel) hT
   ·rw [if_neg d2];exact gd_f (by decide+kernel)
  ·rw [if_neg d1]
   by_cases d2:isNm (B z1)=true
   ·rw [if_pos d2]
    refine gd_three (by decide+kernel) ?_ hT
    split<;>decide+kernel
   ·rw [if_neg d2];exact gd_f (by decide+kernel)
 rw [if_neg c2] at he
 by_cases c3:r1="say"
 ·rw [if_pos c3] at he
  cases he
  subst c3
  have ek:=frm_say _ hk rfl
  simp only at ek
  subst ek
  obtain⟨z0,rfl,h0⟩:=sh_b hp
  exact gd_two (by decide+kernel) (h z0 h0)
 rw [if_neg c3] at he
 by_cases c4:r1="fault"
 ·rw [if_pos c4] at he;cases he;exact gd_f (by decide+kernel)
 rw [if_neg c4] at he
 by_cases c5:jump r1 B ps=true
 ·rw [if_pos c5] at he;cases he
 ·rw [if_neg c5] at he;cases he
def ansS (rs:List Rw)(own:Str)(r:Rn)(a:D):Rn:=if isNon a=true then⟨r.B,r.p,r.n+1,r.gs++ [.tup [askOf r.th,a]],flt "lack"⟩ else runS rs own (r.gs++ [.tup [askOf r.th,a]]) (300-(r.n+1)) (setB r.B (b0 (JO rs r.p).2) a) (r.p+1) (r.n+1)
def xp (rs:List Rw)(own:Str):Rn→List D→Rn
 |r,[]=>r
 |r,a::as=>if Q1 r.th=true then xp rs own (ansS rs own r a) as else r
theorem goneS_stop {rs:List Rw}{own:Str}{r:Rn}(h:Q1 r.th=false):∀as,xp rs own r as=r
 | []=>rfl
 |a::as=>by unfold xp;rw [h,if_neg Bool.false_ne_true]
theorem ZL {rs:List Rw}{own:Str}(a:D):∀(as:List D) (r:Rn),xp rs own r (as++ [a])=if Q1 (xp rs own r as).th=true then ansS rs own (xp rs own r as) a else xp rs own r as
 | [],r=>by
  show(if Q1 r.th=true then xp rs own (ansS rs own r a) [] else r)=_
  rfl
 |b::as,r=>by
  show(if Q1 r.th=true then xp rs own (ansS rs own r b) (as++ [a]) else r)=_
  cases h:Q1 r.th with
  |true=>
   rw [if_pos rfl,ZL a as]
   have e:xp rs own r (b::as)=xp rs own (ansS rs own r b) as:=by
    show(if Q1 r.th=true then _ else r)=_
    rw [h,if_pos rfl]
   rw [e]
  |false=>
   rw [if_neg Bool.false_ne_true,goneS_stop h,h,if_neg Bool.false_ne_true]
def qw (rs:List Rw)(own:Str)(as:List D):Rn:=xp rs own (runS rs own [] 300 B0 1 0) as
structure RnOk (rs:List Rw)(r:Rn):Prop where
 tr:Tr r.B
 p1:1≤r.p
 p2:r.p≤rs.length+1
 n:r.n≤300
 gd:Gd r.th
 two:∃w e,r.th= .tup [.str w,e]
 gs:nL r.gs=true∧dpL r.gs≤30∧r.gs.length≤r.n
 ask:Q1 r.th=true→r.p≤rs.length∧(JO rs r.p).1∈ASK∧r.n<300∧∃(u:Str) (d:D),r.th= .tup [.str "asks",.tup [.str u,d]]∧u∈(["thing","has","names"]:List Str)∧isT d=true
mutual
theorem Xp:∀{d:D},good d=true→nD d=true
 | .str _,_=>rfl
 | .tup xs,h=>by
  simp only [good,Bool.and_eq_true] at h
  simp only [nD]
  exact goodL_n h.2
 | .non,h=>by simp [good] at h
 | .bl _,h=>by simp [good] at h
 | .int _,h=>by simp [good] at h
 | .lst,h=>by simp [good] at h
 | .dct,h=>by simp [good] at h
theorem goodL_n:∀{ds:List D},goodL ds=true→nL ds=true
 | [],_=>rfl
 |d::ds,h=>by
  simp only [goodL,Bool.and_eq_true] at h
  simp only [nL]
  rw [Xp h.1,goodL_n h.2]
  rfl
end
theorem nL_app:∀{xs ys:List D},nL xs=true→nL ys=true→nL (xs++ys)=true
 | [],_,_,h=>h
 |x::xs,ys,h,h2=>by
  simp only [nL,Bool.and_eq_true] at h
  simp only [List.cons_append,nL]
  rw [h.1,nL_app h.2 h2]
  rfl
theorem dpL_app (n:Nat){xs ys:List D}(h:dpL xs≤n)(h2:dpL ys≤n):dpL (xs++ys)≤n:=by
 rw [Xq] at h h2⊢
 intro x hx
 rcases List.mem_append.mp hx with hx|hx
 ·exact h x hx
 ·exact h2 x hx
theorem rowO_ask {own:Str}{n:Nat}{r:Rw}{B:Str→D}{p:Int}{e:D}(hr:Yi n 125 r)(h:Tr B)(he:rowO own r B p= .stop e)(hw:Q1 e=true):r.1∈ASK∧∃(u:Str) (d:D),e= .tup [.str "asks",.tup [.str u,d]]∧u∈(["thing","has","names"]:List Str)∧isT d=true:=by
 unfold rowO at he
 obtain⟨ks,hk,hp⟩:=id hr
 obtain⟨r1,ps⟩:=r
 by_cases c1:r1∈MKR
 ·rw [if_pos c1] at he
  simp only at he
  generalize made r1 B own ps=dm at he
  have key:(if isT dm=true then Out.go (setB B (b0 ps) dm) (p+1) else .stop (flt "big"))= .stop e→False:=by
   intro hq
   by_cases c:isT dm=true
   ·rw [if_pos c] at hq;cases hq
   ·rw [if_neg c] at hq;cases hq;exact absurd hw (by decide+kernel)
  cases dm with
  |non=>cases he;exact absurd hw (by decide+kernel)
  |_=>exact(key he).elim
 rw [if_neg c1] at he
 by_cases c2:r1∈ASK
 ·rw [if_pos c2] at he
  cases he
  refine⟨c2,?_⟩
  obtain⟨_,_,ek⟩:=Z4 _ hk c2
  simp only at ek
  subst ek
  obtain⟨z0,z1,rfl,h0,h1⟩:=Ze hp
  have hT:=h z1 h1
  have hw:Q1 (askF r1 (B z1))=true:=hw
  show∃u d,askF r1 (B z1)=_∧_
  unfold askF at hw⊢
  by_cases d1:r1="names"
  ·rw [if_pos d1] at hw⊢
   by_cases d2:Y3 (B z1)=true
   ·rw [if_pos d2];exact⟨_,_,rfl,by decide+kernel,hT⟩
   ·rw [if_neg d2] at hw;exact absurd hw (by decide+kernel)
  ·rw [if_neg d1] at hw⊢
   by_cases d2:isNm (B z1)=true
   ·rw [if_pos d2]
    exact⟨_,_,rfl,by split<;>decide+kernel,hT⟩
   ·rw [if_neg d2] at hw;exact absurd hw (by decide+kernel)
 rw [if_neg c2] at he
 by_cases c3:r1="say"
 ·rw [if_pos c3] at he
  cases he
  exact absurd hw (by simp only [Q1];exact fun h=>absurd (of_decide_eq_true h) (by decide+kernel))
 rw [if_neg c3] at he
 by_cases c4:r1="fault"
 ·rw [if_pos c4] at he;cases he;exact absurd hw (by decide+kernel)
 rw [if_neg c4] at he
 by_cases c5:jump r1 B ps=true
 ·rw [if_pos c5] at he;cases he
 ·rw [if_neg c5] at he;cases he
theorem runS_ok {rs:List Rw}{own:Str}(hR:Q2 rs):∀(f:Nat) (B:Str→D) (p:Int) (n:Nat) (gs:List D),f+n=300→Tr B→1≤p→p≤rs.length+1→nL gs=true∧dpL gs≤30∧gs.length≤n→RnOk rs (runS rs own gs f B p n)
 |0,B,p,n,gs,hf,hT,h1,h2,hg=>by
  have hw:Q1 (if p>rs.length then flt "silent" else flt "long")=false:=by split<;>decide+kernel
  refine⟨hT,h1,h2,by show n≤300;omega,?_,?_,hg,fun h=>absurd (hw.symm.trans h) (by decide)⟩
  ·show Gd (if p>rs.length then flt "silent" else flt "long")
   split
   ·exact gd_f (by decide+kernel)
   ·exact gd_f (by decide+kernel)
  ·show∃w e,(if p>rs.length then flt "silent" else flt "long")=_
   split
   ·exact⟨_,_,rfl⟩
   ·exact⟨_,_,rfl⟩
 |f+1,B,p,n,gs,hf,hT,h1,h2,hg=>by
  unfold runS
  by_cases c:p>rs.length
  ·rw [if_pos c]
   exact⟨hT,h1,h2,by show n≤300;omega,gd_f (by decide+kernel),⟨_,_,rfl⟩,hg,fun h=>absurd h (show¬Q1 (flt "silent")=true by decide+kernel)⟩
  ·rw [if_neg c]
   have hro:=hR.ok _ (row_mem h1 (by omega))
   have hok:=rowO_ok (own:=own) hro hT h1 (by omega)
   cases hO:rowO own (JO rs p) B p with
   |go B' p'=>
    rw [hO] at hok
    exact runS_ok hR f B' p' (n+1) gs (by omega) hok.1 hok.2.1 hok.2.2 ⟨hg.1,hg.2.1,by have:=hg.2.2;omega⟩
   |stop e=>
    rw [hO] at hok
    simp only
    refine⟨hT,h1,h2,?_,rowO_gd hro hT hO,hok,⟨hg.1,hg.2.1,?_⟩,fun hw=> ?_⟩
    ·show(if Q1 e=true then n else n+1)≤300
     split<;>omega
    ·show gs.length≤(if Q1 e=true then n else n+1)
     have:=hg.2.2
     split<;>omega
    ·obtain⟨a1,u,d,a2,a3,a4⟩:=rowO_ask hro hT hO hw
     refine⟨by show p≤rs.length;omega,a1,?_,u,d,a2,a3,a4⟩
     show(if Q1 e=true then n else n+1)<300
     rw [if_pos (show Q1 e=true from hw)]
     omega
theorem ansS_ok {rs:List Rw}{own:Str}(hR:Q2 rs){r:Rn}{a:D}(h:RnOk rs r)(hw:Q1 r.th=true)(ha:AnsOk a):RnOk rs (ansS rs own r a):=by
 obtain⟨k1,k2,k3,u,d,e,k4,k5⟩:=h.ask hw
 have hda:nD a=true∧dp a≤12:=by
  rcases ha with rfl|ha
  ·exact⟨rfl,by simp [dp]⟩
  ·exact⟨Xp (jU ha),Zw ha⟩
 have hdd:=Zw k5
 have hgs:nL (r.gs++ [D.tup [askOf r.th,a]])=true∧dpL (r.gs++ [D.tup [askOf r.th,a]])≤30∧(r.gs++ [D.tup [askOf r.th,a]]).length≤r.n+1:=by
  rw [e]
  show nL (r.gs++ [.tup [.tup [.str u,d],a]])=true∧_
  refine⟨nL_app h.gs.1 ?_,dpL_app 30 h.gs.2.1 ?_,?_⟩
  ·simp only [nL,nD,Xp (jU k5),hda.1,Bool.and_true]
  ·show dpL [.tup [.tup [.str u,d],a]]≤30
   simp only [dpL,dp]
   have:=hda.2
   omega
  ·rw [List.length_append]
   have:=h.gs.2.2
   show r.gs.length+1≤r.n+1
   omega
 unfold ansS
 cases hn:isNon a with
 |true=>
  rw [if_pos rfl]
  exact⟨h.tr,h.p1,h.p2,by show r.n+1≤300;omega,⟨(by decide+kernel:good (flt "lack")=true),by show dp (.tup [.str "fault",.str "lack"])≤20;simp [dp,dpL]⟩,⟨_,_,rfl⟩,hgs,fun h=>absurd h (show¬Q1 (flt "lack")=true by decide+kernel)⟩
 |false=>
  rw [if_neg Bool.false_ne_true]
  have hT:isT a=true:=by
   rcases ha with rfl|ha
   ·cases hn
   ·exact ha
  refine runS_ok hR _ _ _ _ _ (by omega) (setB_tr h.tr hT) (by have:=h.p1;omega) (by omega) hgs
theorem goneS_ok {rs:List Rw}{own:Str}(hR:Q2 rs):∀(as:List D) (r:Rn),RnOk rs r→(∀a∈as,AnsOk a)→RnOk rs (xp rs own r as)
 | [],r,h,_=>h
 |a::as,r,h,ha=>by
  unfold xp
  cases hw:Q1 r.th with
  |true=>
   rw [if_pos rfl]
   exact goneS_ok hR as _ (ansS_ok hR h hw (ha a List.mem_cons_self)) fun x hx=>ha x (List.mem_cons_of_mem _ hx)
  |false=>rw [if_neg Bool.false_ne_true];exact h
theorem QT {rs:List Rw}{own:Str}(hR:Q2 rs){as:List D}(ha:∀a∈as,AnsOk a):RnOk rs (qw rs own as):=
 goneS_ok hR as _ (runS_ok hR 300 B0 1 0 [] rfl B0_tr (by omega) (by omega) ⟨rfl,by simp [dpL],Nat.le_refl _⟩) ha
end K14
namespace K14
open PySem L2 PyProof.Rows
def NMS:List Str:= ["a","b1","c/d","e.f","g","h9","k","m/n"]
def WRD:List Str:=NMS++(["","x","b1 g","yes","c/d"]:List Str)
theorem wrd_ok:∀z∈WRD,z.length≤4∧z.cps.toList.all yu=true:=by decide+kernel
theorem nms_ok:∀z∈NMS,nm z=true∧z.length≤100:=by decide+kernel
def sp_lnames:Sp:=fun vs H Q _=>vs= []∧∀p,H p=none→Q (.ref p) (upd H p (.lst (NMS.map V.str)))
def sp_word (K:PySem.W.Frag):Sp:=fun vs H Q _=>∃p L:Addr,vs= [.ref p,.ref L]∧QD H p∧H L=some (.lst (NMS.map V.str))∧∀(z:Str) (H':Hp),z∈WRD→QD H' p→Kept p H H'→Q (.str z) H'
theorem Kept.of {p:Addr}{H H':Hp}(s:Same H H'):Kept p H H':=fun b o e _=>s b o e
theorem QD.ne_lst {H:Hp}{p l:Addr}(h:QD H p)(e:H l=some (.lst (WRD.map V.str))):l≠p:=fun z=>by
 obtain⟨x,e2,_⟩:=h
 rw [←z,e] at e2
 have h13:(WRD.map V.str).length= [V.int x].length:=by
  injection e2 with e3
  injection e3 with e4
  rw [e4]
 exact absurd (show(13:Nat)=1 from h13) (by decide)
section
variable {P:Program}{w:World}{K:PySem.W.Frag}{mg:Str→Option Value}{base:Heap}{a:Ad}{g:Ga}
theorem ok_lnames (T:Tx K mg a):FnOk P w K mg base CX0 1 a.jN a.jZ [] sp_lnames:=by
 refine T.zL.ok sc_law_names (fun vs H Q E h=> ?_) (fun cdv A outer s H vs Q E hr h=> ?_)
 ·obtain⟨rfl,_⟩:=h
  rfl
 obtain⟨rfl,k⟩:=h
 refine⟨_,(@qg _ _ _ (@qm _ _ _ _ (@yH _ _ _ _ (@qa _ _ _ _ _ (@qk _ _ _ _) (@qa _ _ _ _ _ (@qk _ _ _ _) (@qa _ _ _ _ _ (@qk _ _ _ _) (@qa _ _ _ _ _ (@qk _ _ _ _) (@qa _ _ _ _ _ (@qk _ _ _ _) (@qa _ _ _ _ _ (@qk _ _ _ _) (@qa _ _ _ _ _ (@qk _ _ _ _) (@qa _ _ _ _ _ (@qk _ _ _ _) (@qc _) (by trivial)) (by trivial)) (by trivial)) (by trivial)) (by trivial)) (by trivial)) (by trivial)) (by trivial))))),?_⟩
 exact⟨(by show 8≤sizeLine;decide),fun p hp=>k p hp⟩
theorem ok_word (T:Tx K mg a):FnOk P w K mg base CX0 2 a.jw a.jG ["pot","names"] (sp_word K):=by
 have qN:FnOk P w K mg base CX0 1 a.yd a.yb ["pot","many"] Ju:=JX T
 refine T.JD.ok X4 (fun vs H Q E h=> ?_) (fun cdv A outer s H vs Q E hr h=> ?_)
 ·obtain⟨p,L,rfl,_⟩:=h
  rfl
 obtain⟨p,L,rfl,hP,hL,k⟩:=h
 refine⟨_,(@qb _ _ _ _ _ (@qx _ _ (2) _ _ _ _ X4.nd rfl (Or.inl rfl) (@Qa _ _ _ _ _ _ _ _ (@op_cat _) (pv 1) (@yH _ _ _ _ (@qa _ _ _ _ _ (@qk _ _ _ _) (@qa _ _ _ _ _ (@qk _ _ _ _) (@qa _ _ _ _ _ (@qk _ _ _ _) (@qa _ _ _ _ _ (@qk _ _ _ _) (@qa _ _ _ _ _ (@qk _ _ _ _) (@qc _) (by trivial)) (by trivial)) (by trivial)) (by trivial)) (by trivial)))) (by trivial) (by trivial)) (@qg _ _ _ (@qm _ _ _ _ (@qQ _ _ _ _ _ _ _ (@Yq _) (pv 2) (@qq _ _ _ _ _ _ _ _ _ _ _ _ _ _ _ _ qN (hr.mono (by first|decide|omega)) (by rfl) T.Qk T.Qd.kp T.Ql .nil qr (@qa _ _ _ _ _ (pv 0) (@qa _ _ _ _ _ (@qp _ _ _ _ _ _ _ _ _ (@qE _) (by rfl) T.yS PySem.boot_len (@qa _ _ _ _ _ (pv 2) (@qc _) (by trivial)) (by trivial) (by trivial) (by trivial) (by trivial)) (@qc _) (by trivial)) (by trivial)) (by trivial) (by trivial) (by trivial)) (fun _ _=>rfl))))),?_⟩
 refine⟨_,rfl,(by show 5≤sizeLine;decide),fun q hq=> ?_⟩
 have s1:Same H (upd H q (.lst [.str "",.str "x",.str "b1 g",.str "yes",.str "c/d"])):=qe hq _
 refine⟨L,q,_,_,rfl,rfl,s1 _ _ hL,qj,(by show 8+5≤sizeLine;decide),fun l hl=> ?_⟩
 have s2:=s1.trans (qe hl (.lst (NMS.map V.str++ [.str "",.str "x",.str "b1 g",.str "yes",.str "c/d"])))
 have el:(upd (upd H q (.lst [.str "",.str "x",.str "b1 g",.str "yes",.str "c/d"])) l (.lst (NMS.map V.str++ [.str "",.str "x",.str "b1 g",.str "yes",.str "c/d"]))) l=some (.lst (WRD.map V.str)):=qj
 generalize upd (upd H q (.lst [.str "",.str "x",.str "b1 g",.str "yes",.str "c/d"])) l (.lst (NMS.map V.str++ [.str "",.str "x",.str "b1 g",.str "yes",.str "c/d"]))=H2 at s2 el⊢
 have P2:=hP.same s2
 refine⟨_,rfl,_,rfl,_,rfl,l,_,rfl,.inl (SqL.of el),p,13,rfl,P2,by decide,by decide,fun d H' d0 d1 P3 K3 _=> ?_⟩
 have el':=K3 _ _ el (hP.same s2|>.ne_lst el)
 obtain⟨v,hv⟩:=xr (xs:=WRD.map V.str) d0 (by show d<13;exact d1)
 obtain⟨z,hz,rfl⟩:=List.mem_map.mp (zh hv)
 exact⟨l,_,d,_,rfl,rfl,SqL.of el',hv,k z H' hz P3 ((Kept.of s2).trans K3)⟩
end
end K14
namespace K14
open PySem L2 PyProof.Rows
def WL:List Str:= ["ask","ask","ask","has","names","text","text","copy","put","put","join","first","first","rest","size","cut","glue","like","none","rowed","go","say","fault","self"]
abbrev WT:Str:="ask ask ask has names text text copy put put join first first rest size cut glue like none rowed"
theorem wl_spl:spl ((WT++(" go say fault self":Str)).length+1) (WT++(" go say fault self":Str))=WL:=by decide+kernel
def sp_line (K:PySem.W.Frag):Sp:=fun vs H Q _=>∃(p L:Addr) (many k:Nat),vs= [.ref p,.ref L,.int (many:Int),.int (k:Int)]∧QD H p∧H L=some (.lst (NMS.map V.str))∧5≤many∧many≤40∧k≤40∧
 ∀(r:Rw) (H':Hp),Yi many 4 r→QD H' p→Kept p H H'→Q (.str (qG r)) H'
theorem abc_at {d:Int}(h0:0≤d)(h1:d<8):∃c,atI ("abcdefgh":Str).cps.toList d=some c∧(⟨#[c]⟩:Str)∈BX:=by
 obtain⟨k,rfl⟩:∃k:Fin 8,d=((k.val:Nat):Int):=⟨⟨d.toNat,by omega⟩,by simp;omega⟩
 have key:∀k:Fin 8,∃c,("abcdefgh":Str).cps.toList[k.val]? =some c∧(⟨#[c]⟩:Str)∈BX:=by
  have e:∀k:Fin 8,(("abcdefgh":Str).cps.toList[k.val]?).any (fun c=>decide ((⟨#[c]⟩:Str)∈BX))=true:=by decide+kernel
  intro k
  have:=e k
  cases h:("abcdefgh":Str).cps.toList[k.val]? with
  |none=>rw [h] at this;cases this
  |some c=>rw [h] at this;exact⟨c,rfl,of_decide_eq_true this⟩
 obtain⟨c,hc,hb⟩:=key k
 exact⟨c,Qe hc,hb⟩
theorem join3t (x y:Str):(("text "++x:Str)++(" ":Str)++y:Str)=qG ("text",[.s x,.s y]):=by
 show _=Str.join " " ["text",x,y]
 have e:("text ":Str)="text"++(" ":Str):=by decide+kernel
 rw [e]
 show(⟨((("text":Str).cps++(" ":Str).cps)++x.cps)++(" ":Str).cps++y.cps⟩:Str)=⟨(("text":Str).cps++(" ":Str).cps)++((x.cps++(" ":Str).cps)++y.cps)⟩
 simp [Array.append_assoc]
def GRP:List Str:= ["ask","has","names","copy","put","join","first","rest","size"]
theorem grp_no:∀z∈GRP,z≠"text"∧z∉(["self","say"]:List Str)∧z≠"fault"∧z≠"go"∧z∉(["none","rowed"]:List Str)∧z≠"like"∧z∉(["cut","glue"]:List Str)∧(z,[Kd.box,.box])∈FRM∧z.length≤10:=by decide+kernel
theorem inV_two (z x y:Str):inV (.str z) [.str x,.str y]=decide (z∈([x,y]:List Str)):=X2 (z:=z) (l:= [x,y])
section
variable {P:Program}{w:World}{K:PySem.W.Frag}{mg:Str→Option Value}{base:Heap}{a:Ad}{g:Ga}
theorem ok_line (T:Tx K mg a):FnOk P w K mg base CX0 3 a.JL a.JK ["pot","names","many","k"] (sp_line K):=by
 have qN:FnOk P w K mg base CX0 1 a.yd a.yb ["pot","many"] Ju:=JX T
 have JB:FnOk P w K mg base CX0 2 a.jw a.jG ["pot","names"] (sp_word K):=ok_word T
 refine T.ZM.ok yF (fun vs H Q E h=> ?_) (fun cdv A outer s H vs Q E hr h=> ?_)
 ·obtain⟨p,L,many,i,rfl,_⟩:=h
  rfl
 obtain⟨p,L,many,i,rfl,hP,hL,hm0,hm1,hi,k⟩:=h
 refine⟨_,(@qb _ _ _ _ _ (@qx _ _ (4) _ _ _ _ yF.nd rfl (Or.inl rfl) (@qk _ _ _ _) (by trivial) (by trivial)) (@qb _ _ _ _ _ (@qx _ _ (5) _ _ _ _ yF.nd rfl (Or.inl rfl) (@qQ _ _ _ _ _ _ _ (@Yq _) (@xc _ _ _ _ _ _ _ _ _ _ _ _ PySem.F.plainAttrs_str PySem.F.slot_str_split PySem.F.type_str_split (@mt_split _) (@Qa _ _ _ _ _ _ _ _ (@QH _) (pv 4) (@qk _ _ _ _)) (@qa _ _ _ _ _ (@qk _ _ _ _) (@qc _) (by trivial)) (by trivial) (by trivial) (by trivial) (by trivial) (by trivial)) (@qq _ _ _ _ _ _ _ _ _ _ _ _ _ _ _ _ qN (hr.mono (by first|decide|omega)) (by rfl) T.Qk T.Qd.kp T.Ql .nil qr (@qa _ _ _ _ _ (pv 0) (@qa _ _ _ _ _ (@qi _ _ _ _) (@qc _) (by trivial)) (by trivial)) (by trivial) (by trivial) (by trivial)) (fun _ _=>rfl)) (by trivial) (by trivial)) (@qb _ _ _ _ _ (@ps_asg _ _ _ _ _ _ (@pe_lc _ _ (["j","pot"]) (1) ([0]) _ _ _ _ _ _ _ _ _ (lcsN (qh Yf) ["pot","names","many","k","words","word","one","two","three","at"]) rfl (@YE _ _ _ _ _ _ (by rfl) T.jO (@qa _ _ _ _ _ (@qi _ _ _ _) (@qc _) (by trivial)) (by trivial)) (fun _ _ _ _ _ _=>(@Qm _ _ (0) _ (show List.Nodup (["j","pot"]:List Str) by decide+kernel) rfl (Or.inl rfl) (by trivial))) (fun _ _ _ _ _ _=> @jK _) (fun _ _ _ _ _ _=>(@qQ _ _ _ _ _ _ _ (@ix_str _) (@qk _ _ _ _) (@qq _ _ _ _ _ _ _ _ _ _ _ _ _ _ _ _ qN (hr.mono (by first|decide|omega)) (by rfl) T.Qk T.Qd.kp T.Ql .nil qr (@qa _ _ _ _ _ (pv 1) (@qa _ _ _ _ _ (@qi _ _ _ _) (@qc _) (by trivial)) (by trivial)) (by trivial) (by trivial) (by trivial)) (fun _ _=>rfl))) (by trivial)) (@pg_lstU _ _ _ _ _ _ rfl (yQ (@Qm _ _ (6) _ yF.nd rfl (Or.inl rfl) (by trivial)) (yQ (@Qm _ _ (7) _ yF.nd rfl (Or.inl rfl) (by trivial)) (yQ (@Qm _ _ (8) _ yF.nd rfl (Or.inl rfl) (by trivial)) zD))) (by trivial) (by trivial)) (by trivial) (by trivial) (by trivial)) (@qb _ _ _ _ _ (@qx _ _ (9) _ _ _ _ yF.nd rfl (Or.inl rfl) (@QE _ _ _ _ _ _ _ _ _ (@jh _) (by rfl) T.xL boot_str (@qa _ _ _ _ _ (@qp _ _ _ _ _ _ _ _ _ (@call_min2 _ rfl) (by rfl) T.z_min boot_min (@qa _ _ _ _ _ (pv 2) (@qa _ _ _ _ _ (@Qa _ _ _ _ _ _ _ _ (@Q8 _) (@Qa _ _ _ _ _ _ _ _ (@Q8 _) (pv 3) (@qi _ _ _ _)) (@qq _ _ _ _ _ _ _ _ _ _ _ _ _ _ _ _ qN (hr.mono (by first|decide|omega)) (by rfl) T.Qk T.Qd.kp T.Ql .nil qr (@qa _ _ _ _ _ (pv 0) (@qa _ _ _ _ _ (pv 2) (@qc _) (by trivial)) (by trivial)) (by trivial) (by trivial) (by trivial))) (@qc _) (by trivial)) (by trivial)) (by trivial) (by trivial) (by trivial) (by trivial)) (@qc _) (by trivial)) (by trivial) (by trivial) (by trivial) (by trivial)) (by trivial) (by trivial)) (@qb _ _ _ _ _ (@qY _ _ _ _ _ _ _ _ (@qo _ _ _ _ _ _ _ _ (@y0 _) (pv 5) (@qk _ _ _ _) (qF _)) (@qg _ _ _ (@qm _ _ _ _ (@Qa _ _ _ _ _ _ _ _ (@QH _) (@Qa _ _ _ _ _ _ _ _ (@QH _) (@Qa _ _ _ _ _ _ _ _ (@QH _) (@qk _ _ _ _) (pv 6)) (@qk _ _ _ _)) (@qq _ _ _ _ _ _ _ _ _ _ _ _ _ _ _ _ JB (hr.mono (by first|decide|omega)) (by rfl) T.Xc T.JD.kp T.Xa .nil qr (@qa _ _ _ _ _ (pv 0) (@qa _ _ _ _ _ (pv 1) (@qc _) (by trivial)) (by trivial)) (by trivial) (by trivial) (by trivial))))) (@qt _)) (@qb _ _ _ _ _ (@qY _ _ _ _ _ _ _ _ (@qo _ _ _ _ _ _ _ _ (@yU _) (pv 5) (@yH _ _ _ _ (@qa _ _ _ _ _ (@qk _ _ _ _) (@qa _ _ _ _ _ (@qk _ _ _ _) (@qc _) (by trivial)) (by trivial))) (by with_unfolding_all rfl)) (@qg _ _ _ (@qm _ _ _ _ (@Qa _ _ _ _ _ _ _ _ (@QH _) (@Qa _ _ _ _ _ _ _ _ (@QH _) (pv 5) (@qk _ _ _ _)) (pv 6)))) (@qt _)) (@qb _ _ _ _ _ (@qY _ _ _ _ _ _ _ _ (@qo _ _ _ _ _ _ _ _ (@y0 _) (pv 5) (@qk _ _ _ _) (qF _)) (@qg _ _ _ (@qm _ _ _ _ (pv 5))) (@qt _)) (@qb _ _ _ _ _ (@qY _ _ _ _ _ _ _ _ (@qo _ _ _ _ _ _ _ _ (@y0 _) (pv 5) (@qk _ _ _ _) (qF _)) (@qg _ _ _ (@qm _ _ _ _ (@Qa _ _ _ _ _ _ _ _ (@QH _) (@qk _ _ _ _) (pv 9)))) (@qt _)) (@qb _ _ _ _ _ (@qY _ _ _ _ _ _ _ _ (@qo _ _ _ _ _ _ _ _ (@yU _) (pv 5) (@yH _ _ _ _ (@qa _ _ _ _ _ (@qk _ _ _ _) (@qa _ _ _ _ _ (@qk _ _ _ _) (@qc _) (by trivial)) (by trivial))) (by with_unfolding_all rfl)) (@qg _ _ _ (@qm _ _ _ _ (@xc _ _ _ _ _ _ _ _ _ _ _ _ PySem.F.plainAttrs_str PySem.F.slot_str_join PySem.F.type_str_join (@ZV _) (@qk _ _ _ _) (@qa _ _ _ _ _ (@yH _ _ _ _ (@qa _ _ _ _ _ (pv 5) (@qa _ _ _ _ _ (pv 6) (@qa _ _ _ _ _ (pv 9) (@qc _) (by trivial)) (by trivial)) (by trivial))) (@qc _) (by trivial)) (by trivial) (by trivial) (by trivial) (by trivial) (by trivial)))) (@qt _)) (@qb _ _ _ _ _ (@qY _ _ _ _ _ _ _ _ (@qo _ _ _ _ _ _ _ _ (@y0 _) (pv 5) (@qk _ _ _ _) (qF _)) (@qg _ _ _ (@qm _ _ _ _ (@xc _ _ _ _ _ _ _ _ _ _ _ _ PySem.F.plainAttrs_str PySem.F.slot_str_join PySem.F.type_str_join (@ZV _) (@qk _ _ _ _) (@qa _ _ _ _ _ (@yH _ _ _ _ (@qa _ _ _ _ _ (pv 5) (@qa _ _ _ _ _ (pv 6) (@qa _ _ _ _ _ (pv 7) (@qa _ _ _ _ _ (pv 9) (@qc _) (by trivial)) (by trivial)) (by trivial)) (by trivial))) (@qc _) (by trivial)) (by trivial) (by trivial) (by trivial) (by trivial) (by trivial)))) (@qt _)) (@qb _ _ _ _ _ (@qY _ _ _ _ _ _ _ _ (@qo _ _ _ _ _ _ _ _ (@yU _) (pv 5) (@yH _ _ _ _ (@qa _ _ _ _ _ (@qk _ _ _ _) (@qa _ _ _ _ _ (@qk _ _ _ _) (@qc _) (by trivial)) (by trivial))) (by with_unfolding_all rfl)) (@qg _ _ _ (@qm _ _ _ _ (@xc _ _ _ _ _ _ _ _ _ _ _ _ PySem.F.plainAttrs_str PySem.F.slot_str_join PySem.F.type_str_join (@ZV _) (@qk _ _ _ _) (@qa _ _ _ _ _ (@yH _ _ _ _ (@qa _ _ _ _ _ (pv 5) (@qa _ _ _ _ _ (pv 6) (@qa _ _ _ _ _ (pv 7) (@qa _ _ _ _ _ (pv 8) (@qc _) (by trivial)) (by trivial)) (by trivial)) (by trivial))) (@qc _) (by trivial)) (by trivial) (by trivial) (by trivial) (by trivial) (by trivial)))) (@qt _)) (@qg _ _ _ (@qm _ _ _ _ (@xc _ _ _ _ _ _ _ _ _ _ _ _ PySem.F.plainAttrs_str PySem.F.slot_str_join PySem.F.type_str_join (@ZV _) (@qk _ _ _ _) (@qa _ _ _ _ _ (@yH _ _ _ _ (@qa _ _ _ _ _ (pv 5) (@qa _ _ _ _ _ (pv 6) (@qa _ _ _ _ _ (pv 7) (@qc _) (by trivial)) (by trivial)) (by trivial))) (@qc _) (by trivial)) (by trivial) (by trivial) (by trivial) (by trivial) (by trivial))))))))))))))),?_⟩
 have ne:∀{H:Hp}{b:Addr}{l:List V},QD H p→H b=some (.lst l)→l.length≠1→b≠p:=fun hP e hl z=>by
  obtain⟨x,e2,_⟩:=hP
  rw [←z,e] at e2
  injection e2 with e3
  injection e3 with e4
  exact hl (by rw [e4];rfl)
 refine⟨_,rfl,_,_,rfl,rfl,(by decide+kernel),rfl,_,rfl,rfl,(by decide+kernel),fun q hq=> ?_⟩
 rw [show spl _ _=WL from wl_spl]
 have s1:Same H (upd H q (.lst (WL.map V.str))):=qe hq _
 have eq:(upd H q (.lst (WL.map V.str))) q=some (.lst (WL.map V.str)):=qj
 generalize upd H q (.lst (WL.map V.str))=H1 at s1 eq⊢
 have P1:=hP.same s1
 refine⟨_,rfl,p,24,rfl,P1,by decide,by decide,fun d H2 d0 d1 P2 K2 _=> ?_⟩
 obtain⟨v,hv⟩:=xr (xs:=WL.map V.str) d0 (by show d<24;exact d1)
 obtain⟨z,hz,rfl⟩:=List.mem_map.mp (zh hv)
 refine⟨q,_,d,_,rfl,rfl,SqL.of (K2 _ _ eq (ne P1 eq (by show(24:Nat)≠1;decide))),hv,?_⟩
 have K2':Kept p H H2:=(Kept.of s1).trans K2
 have hL2:=K2' _ _ hL (ne hP hL (by show(8:Nat)≠1;decide))
 refine⟨3,rfl,by decide,by decide,fun D hD=> ?_⟩
 refine Z1 (lo:=0) (tl:= [some (.ref p)]) (fun i ys H'=>∃bs:List Str,ys=bs.map V.str∧bs.length=i∧(∀b∈bs,b∈BX)∧QD H' p∧(∀b o,H2 b=some o→b≠p→H' b=some o)) (yg (by decide)) ⟨[],rfl,rfl,fun b hb=>by simp at hb,P2.same (qe hD _),fun b o e _=>qe hD _ _ _ e⟩ ?_ ?_
 ·rintro j ys H' hj ⟨bs,rfl,hbl,hbb,P',K'⟩ hD' hy R hR
  refine⟨_,rfl,p,8,rfl,P',by decide,by decide,fun d3 H4 e0 e1 P4 K4 _=> ?_⟩
  obtain⟨c,hc,hcb⟩:=abc_at e0 e1
  refine⟨"abcdefgh",d3,c,rfl,rfl,(by decide+kernel),hc,?_⟩
  have nD:D≠p:=fun z=>by
   obtain⟨x,e2,_⟩:=P2
   rw [z,e2] at hD
   cases hD
  refine hR _ H4 (K4 _ _ hD' nD) ⟨bs++ [⟨#[c]⟩],by rw [List.map_append];rfl,by rw [List.length_append,hbl];rfl,fun b hb=> ?_,?_,fun b o e np=> ?_⟩
  ·rcases List.mem_append.mp hb with h|h
   ·exact hbb b h
   ·rw [List.mem_singleton] at h;subst h;exact hcb
  ·obtain⟨x,e2,h2⟩:=P4
   exact⟨x,by rw [qD nD.symm];exact e2,h2⟩
  ·rw [qD (ql e hD)]
   exact K4 _ _ (K' b o e np) np
 ·rintro ys H' ⟨bs,rfl,hbl,hbb,P',K'⟩ hD'
  obtain⟨x1,x2,x3,rfl⟩:∃x1 x2 x3,bs= [x1,x2,x3]:=by
   match bs,hbl with
   | [x1,x2,x3],_=>exact⟨x1,x2,x3,rfl⟩
  have h1:=hbb x1 (by simp)
  have h2:=hbb x2 (by simp)
  have h3:=hbb x3 (by simp)
  refine⟨D,_,rfl,SqL.of hD',rfl,_,_,rfl,_,_,rfl,_,_,rfl,rfl,?_⟩
  refine⟨_,rfl,_,rfl,_,_,rfl,rfl,_,rfl,_,rfl,p,many,rfl,P',by omega,by omega,fun d5 H5 f0 f1 P5 K5 _=>⟨_,_,rfl,rfl,_,_,rfl,?_⟩⟩
  obtain⟨j,ej,hj1,hj2⟩:∃j:Int,j=(if(i:Int)+5+d5<(many:Int) then(i:Int)+5+d5 else(many:Int))∧1≤j∧j≤many:=⟨_,rfl,by split<;>omega,by split<;>omega⟩
  rw [←ej]
  have hjl:=(js hj1 (by omega)).1
  have hlog:j.natAbs.log2<1920:=by have:=Nat.log2_le_self j.natAbs;omega
  refine⟨_,rfl,hlog,?_⟩
  have KD:Kept p H H':=fun b o e np=>K' b o (K2' b o e np) np
  have K5f:Kept p H H5:=KD.trans K5
  have hL5:=K5f _ _ hL (ne hP hL (by show(8:Nat)≠1;decide))
  have two:(2:Nat)≤sizeLine:=by decide
  clear hv
  simp only [WL,List.mem_cons,List.not_mem_nil,or_false] at hz
  have hz':z="ask"∨z="has"∨z="names"∨z="text"∨z="copy"∨z="put"∨z="join"∨z="first"∨z="rest"∨z="size"∨z="cut"∨z="glue"∨z="like"∨z="none"∨z="rowed"∨z="go"∨z="say"∨z="fault"∨z="self":=by
   rcases hz with h|h|h|h|h|h|h|h|h|h|h|h|h|h|h|h|h|h|h|h|h|h|h|h<;>simp only [h,true_or,or_true]
  have es:∀y:Str,decide (V.str z=V.str y)=decide (z=y):=fun y=>by
   rw [decide_eq_decide]
   exact⟨fun h=>by injection h,fun h=>by rw [h]⟩
  by_cases hG:z∈GRP
  ·obtain⟨g1,g2,g3,g4,g5,g6,g7,hfr,hzl⟩:=grp_no z hG
   refine⟨_,rfl,rfl,_,rfl,qA (by rw [es];exact decide_eq_false g1) ?_⟩
   refine⟨_,rfl,two,fun l1 hl1=>⟨l1,_,rfl,.inl (SqL.of qj),rfl,rfl,_,rfl,?_⟩⟩
   have sl1:=qe hl1 (.lst ([.str "self",.str "say"]:List V))
   have Pl1:=P5.same sl1
   have Kl1:Kept p H _:=K5f.trans (Kept.of sl1)
   refine qA (by rw [if_neg Bool.false_ne_true,inV_two];exact decide_eq_false g2) ?_
   refine⟨_,rfl,rfl,_,rfl,qA (by rw [es];exact decide_eq_false g3) ?_⟩
   refine⟨_,rfl,rfl,_,rfl,qA (by rw [es];exact decide_eq_false g4) ?_⟩
   refine⟨_,rfl,two,fun l2 hl2=>⟨l2,_,rfl,.inl (SqL.of qj),rfl,rfl,_,rfl,?_⟩⟩
   have sl2:=qe hl2 (.lst ([.str "none",.str "rowed"]:List V))
   have Pl2:=Pl1.same sl2
   have Kl2:Kept p H _:=Kl1.trans (Kept.of sl2)
   refine qA (by rw [if_neg Bool.false_ne_true,inV_two];exact decide_eq_false g5) ?_
   refine⟨_,rfl,rfl,_,rfl,qA (by rw [es];exact decide_eq_false g6) ?_⟩
   refine⟨_,rfl,two,fun l3 hl3=>⟨l3,_,rfl,.inl (SqL.of qj),rfl,rfl,_,rfl,?_⟩⟩
   have sl3:=qe hl3 (.lst ([.str "cut",.str "glue"]:List V))
   have Pl3:=Pl2.same sl3
   have Kl3:Kept p H _:=Kl2.trans (Kept.of sl3)
   refine qA (by rw [if_neg Bool.false_ne_true,inV_two];exact decide_eq_false g7) ?_
   refine⟨rfl,_,rfl,_,rfl,_,rfl,(by show 3≤sizeLine;decide),fun q2 hq2=> ?_⟩
   refine⟨" ",q2,[z,x1,x2],rfl,rfl,SqL.of qj,?_,?_⟩
   ·simp only [List.map_cons,List.map_nil,List.sum_cons,List.sum_nil,List.length_cons,List.length_nil]
    have e1:(" ":Str).length=1:=by decide+kernel
    have e2:=hzl
    have:=(QQ h1).1
    have:=(QQ h2).1
    have:=(QQ h3).1
    have:=hjl
    omega
   ·exact k (z,[.s x1,.s x2]) _ ⟨[.box,.box],hfr,h1,h2,trivial⟩ (Pl3.same (qe hq2 _)) (Kl3.trans (Kept.of (qe hq2 _)))
  clear es
  have hz2:z="text"∨z="cut"∨z="glue"∨z="like"∨z="none"∨z="rowed"∨z="go"∨z="say"∨z="fault"∨z="self":=by
   rcases hz' with h|h|h|h|h|h|h|h|h|h|h|h|h|h|h|h|h|h|h<;>first|exact absurd (by rw [h];decide+kernel) hG|simp only [h,true_or,or_true]
  rcases hz2 with rfl|rfl|rfl|rfl|rfl|rfl|rfl|rfl|rfl|rfl
  ·refine⟨_,rfl,rfl,_,rfl,Qy (show decide (V.str ("text":Str)=V.str "text")=true by decide+kernel) ?_⟩
   refine⟨_,rfl,_,_,rfl,rfl,fits (by rw [(QQ h1).1];decide+kernel),_,_,rfl,rfl,fits (by rw [xJ,(QQ h1).1];decide+kernel),_,rfl,_,rfl,p,L,rfl,P5,hL5,fun y H6 hy P6 K6=> ?_⟩
   obtain⟨y1,y2⟩:=wrd_ok y hy
   have hb:=(QQ h1).1
   refine⟨_,_,rfl,rfl,fits (by rw [xJ,xJ,hb];have e5:("text ":Str).length=5:=(by decide+kernel);have e6:(" ":Str).length=1:=(by decide+kernel);omega),?_⟩
   rw [join3t]
   exact k ("text",[.s x1,.s y]) H6 ⟨[.box,.words],(show(("text":Str),[Kd.box,.words])∈FRM by decide+kernel),h1,⟨y1,y2⟩,trivial⟩ P6 (K5f.trans K6)
  ·refine⟨_,rfl,rfl,_,rfl,qA (show decide (V.str ("cut":Str)=V.str "text")=false by decide+kernel) ?_⟩
   refine⟨_,rfl,two,fun l1 hl1=>⟨l1,_,rfl,.inl (SqL.of qj),rfl,rfl,_,rfl,?_⟩⟩
   have sl1:=qe hl1 (.lst ([.str "self",.str "say"]:List V))
   have Pl1:=P5.same sl1
   have Kl1:Kept p H _:=K5f.trans (Kept.of sl1)
   refine qA (by decide+kernel) ?_
   refine⟨_,rfl,rfl,_,rfl,qA (show decide (V.str ("cut":Str)=V.str "fault")=false by decide+kernel) ?_⟩
   refine⟨_,rfl,rfl,_,rfl,qA (show decide (V.str ("cut":Str)=V.str "go")=false by decide+kernel) ?_⟩
   refine⟨_,rfl,two,fun l2 hl2=>⟨l2,_,rfl,.inl (SqL.of qj),rfl,rfl,_,rfl,?_⟩⟩
   have sl2:=qe hl2 (.lst ([.str "none",.str "rowed"]:List V))
   have Pl2:=Pl1.same sl2
   have Kl2:Kept p H _:=Kl1.trans (Kept.of sl2)
   refine qA (by decide+kernel) ?_
   refine⟨_,rfl,rfl,_,rfl,qA (show decide (V.str ("cut":Str)=V.str "like")=false by decide+kernel) ?_⟩
   refine⟨_,rfl,two,fun l3 hl3=>⟨l3,_,rfl,.inl (SqL.of qj),rfl,rfl,_,rfl,?_⟩⟩
   have sl3:=qe hl3 (.lst ([.str "cut",.str "glue"]:List V))
   have Pl3:=Pl2.same sl3
   have Kl3:Kept p H _:=Kl2.trans (Kept.of sl3)
   refine Qy (by decide+kernel) ?_
   refine⟨rfl,_,rfl,_,rfl,_,rfl,_,rfl,(by show 4≤sizeLine;decide),fun q2 hq2=> ?_⟩
   refine⟨" ",q2,["cut",x1,x2,x3],rfl,rfl,SqL.of qj,?_,?_⟩
   ·simp only [List.map_cons,List.map_nil,List.sum_cons,List.sum_nil,List.length_cons,List.length_nil]
    have e1:(" ":Str).length=1:=by decide+kernel
    have e2:("cut":Str).length≤10:=by decide+kernel
    have:=(QQ h1).1
    have:=(QQ h2).1
    have:=(QQ h3).1
    have:=hjl
    omega
   ·exact k ("cut",[.s x1,.s x2,.s x3]) _ ⟨[.box,.box,.box],(show(("cut":Str),[Kd.box,.box,.box])∈FRM by decide+kernel),h1,h2,h3,trivial⟩ (Pl3.same (qe hq2 _)) (Kl3.trans (Kept.of (qe hq2 _)))
  ·refine⟨_,rfl,rfl,_,rfl,qA (show decide (V.str ("glue":Str)=V.str "text")=false by decide+kernel) ?_⟩
   refine⟨_,rfl,two,fun l1 hl1=>⟨l1,_,rfl,.inl (SqL.of qj),rfl,rfl,_,rfl,?_⟩⟩
   have sl1:=qe hl1 (.lst ([.str "self",.str "say"]:List V))
   have Pl1:=P5.same sl1
   have Kl1:Kept p H _:=K5f.trans (Kept.of sl1)
   refine qA (by decide+kernel) ?_
   refine⟨_,rfl,rfl,_,rfl,qA (show decide (V.str ("glue":Str)=V.str "fault")=false by decide+kernel) ?_⟩
   refine⟨_,rfl,rfl,_,rfl,qA (show decide (V.str ("glue":Str)=V.str "go")=false by decide+kernel) ?_⟩
   refine⟨_,rfl,two,fun l2 hl2=>⟨l2,_,rfl,.inl (SqL.of qj),rfl,rfl,_,rfl,?_⟩⟩
   have sl2:=qe hl2 (.lst ([.str "none",.str "rowed"]:List V))
   have Pl2:=Pl1.same sl2
   have Kl2:Kept p H _:=Kl1.trans (Kept.of sl2)
   refine qA (by decide+kernel) ?_
   refine⟨_,rfl,rfl,_,rfl,qA (show decide (V.str ("glue":Str)=V.str "like")=false by decide+kernel) ?_⟩
   refine⟨_,rfl,two,fun l3 hl3=>⟨l3,_,rfl,.inl (SqL.of qj),rfl,rfl,_,rfl,?_⟩⟩
   have sl3:=qe hl3 (.lst ([.str "cut",.str "glue"]:List V))
   have Pl3:=Pl2.same sl3
   have Kl3:Kept p H _:=Kl2.trans (Kept.of sl3)
   refine Qy (by decide+kernel) ?_
   refine⟨rfl,_,rfl,_,rfl,_,rfl,_,rfl,(by show 4≤sizeLine;decide),fun q2 hq2=> ?_⟩
   refine⟨" ",q2,["glue",x1,x2,x3],rfl,rfl,SqL.of qj,?_,?_⟩
   ·simp only [List.map_cons,List.map_nil,List.sum_cons,List.sum_nil,List.length_cons,List.length_nil]
    have e1:(" ":Str).length=1:=by decide+kernel
    have e2:("glue":Str).length≤10:=by decide+kernel
    have:=(QQ h1).1
    have:=(QQ h2).1
    have:=(QQ h3).1
    have:=hjl
    omega
   ·exact k ("glue",[.s x1,.s x2,.s x3]) _ ⟨[.box,.box,.box],(show(("glue":Str),[Kd.box,.box,.box])∈FRM by decide+kernel),h1,h2,h3,trivial⟩ (Pl3.same (qe hq2 _)) (Kl3.trans (Kept.of (qe hq2 _)))
  ·refine⟨_,rfl,rfl,_,rfl,qA (show decide (V.str ("like":Str)=V.str "text")=false by decide+kernel) ?_⟩
   refine⟨_,rfl,two,fun l1 hl1=>⟨l1,_,rfl,.inl (SqL.of qj),rfl,rfl,_,rfl,?_⟩⟩
   have sl1:=qe hl1 (.lst ([.str "self",.str "say"]:List V))
   have Pl1:=P5.same sl1
   have Kl1:Kept p H _:=K5f.trans (Kept.of sl1)
   refine qA (by decide+kernel) ?_
   refine⟨_,rfl,rfl,_,rfl,qA (show decide (V.str ("like":Str)=V.str "fault")=false by decide+kernel) ?_⟩
   refine⟨_,rfl,rfl,_,rfl,qA (show decide (V.str ("like":Str)=V.str "go")=false by decide+kernel) ?_⟩
   refine⟨_,rfl,two,fun l2 hl2=>⟨l2,_,rfl,.inl (SqL.of qj),rfl,rfl,_,rfl,?_⟩⟩
   have sl2:=qe hl2 (.lst ([.str "none",.str "rowed"]:List V))
   have Pl2:=Pl1.same sl2
   have Kl2:Kept p H _:=Kl1.trans (Kept.of sl2)
   refine qA (by decide+kernel) ?_
   refine⟨_,rfl,rfl,_,rfl,Qy (show decide (V.str ("like":Str)=V.str "like")=true by decide+kernel) ?_⟩
   refine⟨rfl,_,rfl,_,rfl,_,rfl,_,rfl,(by show 4≤sizeLine;decide),fun q2 hq2=> ?_⟩
   refine⟨" ",q2,["like",x1,x2,toString j],rfl,rfl,SqL.of qj,?_,?_⟩
   ·simp only [List.map_cons,List.map_nil,List.sum_cons,List.sum_nil,List.length_cons,List.length_nil]
    have e1:(" ":Str).length=1:=by decide+kernel
    have e2:("like":Str).length≤10:=by decide+kernel
    have:=(QQ h1).1
    have:=(QQ h2).1
    have:=(QQ h3).1
    have:=hjl
    omega
   ·exact k ("like",[.s x1,.s x2,.n j]) _ ⟨[.box,.box,.line],(show(("like":Str),[Kd.box,.box,.line])∈FRM by decide+kernel),h1,h2,⟨hj1,hj2⟩,trivial⟩ (Pl2.same (qe hq2 _)) (Kl2.trans (Kept.of (qe hq2 _)))
  ·refine⟨_,rfl,rfl,_,rfl,qA (show decide (V.str ("none":Str)=V.str "text")=false by decide+kernel) ?_⟩
   refine⟨_,rfl,two,fun l1 hl1=>⟨l1,_,rfl,.inl (SqL.of qj),rfl,rfl,_,rfl,?_⟩⟩
   have sl1:=qe hl1 (.lst ([.str "self",.str "say"]:List V))
   have Pl1:=P5.same sl1
   have Kl1:Kept p H _:=K5f.trans (Kept.of sl1)
   refine qA (by decide+kernel) ?_
   refine⟨_,rfl,rfl,_,rfl,qA (show decide (V.str ("none":Str)=V.str "fault")=false by decide+kernel) ?_⟩
   refine⟨_,rfl,rfl,_,rfl,qA (show decide (V.str ("none":Str)=V.str "go")=false by decide+kernel) ?_⟩
   refine⟨_,rfl,two,fun l2 hl2=>⟨l2,_,rfl,.inl (SqL.of qj),rfl,rfl,_,rfl,?_⟩⟩
   have sl2:=qe hl2 (.lst ([.str "none",.str "rowed"]:List V))
   have Pl2:=Pl1.same sl2
   have Kl2:Kept p H _:=Kl1.trans (Kept.of sl2)
   refine Qy (by decide+kernel) ?_
   refine⟨rfl,_,rfl,_,rfl,_,rfl,(by show 3≤sizeLine;decide),fun q2 hq2=> ?_⟩
   refine⟨" ",q2,["none",x1,toString j],rfl,rfl,SqL.of qj,?_,?_⟩
   ·simp only [List.map_cons,List.map_nil,List.sum_cons,List.sum_nil,List.length_cons,List.length_nil]
    have e1:(" ":Str).length=1:=by decide+kernel
    have e2:("none":Str).length≤10:=by decide+kernel
    have:=(QQ h1).1
    have:=(QQ h2).1
    have:=(QQ h3).1
    have:=hjl
    omega
   ·exact k ("none",[.s x1,.n j]) _ ⟨[.box,.line],(show(("none":Str),[Kd.box,.line])∈FRM by decide+kernel),h1,⟨hj1,hj2⟩,trivial⟩ (Pl2.same (qe hq2 _)) (Kl2.trans (Kept.of (qe hq2 _)))
  ·refine⟨_,rfl,rfl,_,rfl,qA (show decide (V.str ("rowed":Str)=V.str "text")=false by decide+kernel) ?_⟩
   refine⟨_,rfl,two,fun l1 hl1=>⟨l1,_,rfl,.inl (SqL.of qj),rfl,rfl,_,rfl,?_⟩⟩
   have sl1:=qe hl1 (.lst ([.str "self",.str "say"]:List V))
   have Pl1:=P5.same sl1
   have Kl1:Kept p H _:=K5f.trans (Kept.of sl1)
   refine qA (by decide+kernel) ?_
   refine⟨_,rfl,rfl,_,rfl,qA (show decide (V.str ("rowed":Str)=V.str "fault")=false by decide+kernel) ?_⟩
   refine⟨_,rfl,rfl,_,rfl,qA (show decide (V.str ("rowed":Str)=V.str "go")=false by decide+kernel) ?_⟩
   refine⟨_,rfl,two,fun l2 hl2=>⟨l2,_,rfl,.inl (SqL.of qj),rfl,rfl,_,rfl,?_⟩⟩
   have sl2:=qe hl2 (.lst ([.str "none",.str "rowed"]:List V))
   have Pl2:=Pl1.same sl2
   have Kl2:Kept p H _:=Kl1.trans (Kept.of sl2)
   refine Qy (by decide+kernel) ?_
   refine⟨rfl,_,rfl,_,rfl,_,rfl,(by show 3≤sizeLine;decide),fun q2 hq2=> ?_⟩
   refine⟨" ",q2,["rowed",x1,toString j],rfl,rfl,SqL.of qj,?_,?_⟩
   ·simp only [List.map_cons,List.map_nil,List.sum_cons,List.sum_nil,List.length_cons,List.length_nil]
    have e1:(" ":Str).length=1:=by decide+kernel
    have e2:("rowed":Str).length≤10:=by decide+kernel
    have:=(QQ h1).1
    have:=(QQ h2).1
    have:=(QQ h3).1
    have:=hjl
    omega
   ·exact k ("rowed",[.s x1,.n j]) _ ⟨[.box,.line],(show(("rowed":Str),[Kd.box,.line])∈FRM by decide+kernel),h1,⟨hj1,hj2⟩,trivial⟩ (Pl2.same (qe hq2 _)) (Kl2.trans (Kept.of (qe hq2 _)))
  ·refine⟨_,rfl,rfl,_,rfl,qA (show decide (V.str ("go":Str)=V.str "text")=false by decide+kernel) ?_⟩
   refine⟨_,rfl,two,fun l1 hl1=>⟨l1,_,rfl,.inl (SqL.of qj),rfl,rfl,_,rfl,?_⟩⟩
   have sl1:=qe hl1 (.lst ([.str "self",.str "say"]:List V))
   have Pl1:=P5.same sl1
   have Kl1:Kept p H _:=K5f.trans (Kept.of sl1)
   refine qA (by decide+kernel) ?_
   refine⟨_,rfl,rfl,_,rfl,qA (show decide (V.str ("go":Str)=V.str "fault")=false by decide+kernel) ?_⟩
   refine⟨_,rfl,rfl,_,rfl,Qy (show decide (V.str ("go":Str)=V.str "go")=true by decide+kernel) ?_⟩
   refine⟨_,rfl,_,_,rfl,rfl,fits (by have e5:("go ":Str).length=3:=(by decide+kernel);omega),?_⟩
   exact k ("go",[.n j]) _ ⟨[.line],(show(("go":Str),[Kd.line])∈FRM by decide+kernel),⟨hj1,hj2⟩,trivial⟩ Pl1 Kl1
  ·refine⟨_,rfl,rfl,_,rfl,qA (show decide (V.str ("say":Str)=V.str "text")=false by decide+kernel) ?_⟩
   refine⟨_,rfl,two,fun l1 hl1=>⟨l1,_,rfl,.inl (SqL.of qj),rfl,rfl,_,rfl,?_⟩⟩
   have sl1:=qe hl1 (.lst ([.str "self",.str "say"]:List V))
   have Pl1:=P5.same sl1
   have Kl1:Kept p H _:=K5f.trans (Kept.of sl1)
   refine Qy (by decide+kernel) ?_
   refine⟨_,rfl,_,_,rfl,rfl,(by decide+kernel),_,rfl,_,_,rfl,rfl,fits (by rw [xJ,(QQ h1).1];decide+kernel),?_⟩
   exact k ("say",[.s x1]) _ ⟨[.box],(show(("say":Str),[Kd.box])∈FRM by decide+kernel),h1,trivial⟩ Pl1 Kl1
  ·refine⟨_,rfl,rfl,_,rfl,qA (show decide (V.str ("fault":Str)=V.str "text")=false by decide+kernel) ?_⟩
   refine⟨_,rfl,two,fun l1 hl1=>⟨l1,_,rfl,.inl (SqL.of qj),rfl,rfl,_,rfl,?_⟩⟩
   have sl1:=qe hl1 (.lst ([.str "self",.str "say"]:List V))
   have Pl1:=P5.same sl1
   have Kl1:Kept p H _:=K5f.trans (Kept.of sl1)
   refine qA (by decide+kernel) ?_
   refine⟨_,rfl,rfl,_,rfl,Qy (show decide (V.str ("fault":Str)=V.str "fault")=true by decide+kernel) ?_⟩
   exact⟨_,rfl,k ("fault",[]) _ ⟨[],(show(("fault":Str),([]:List Kd))∈FRM by decide+kernel),trivial⟩ Pl1 Kl1⟩
  ·refine⟨_,rfl,rfl,_,rfl,qA (show decide (V.str ("self":Str)=V.str "text")=false by decide+kernel) ?_⟩
   refine⟨_,rfl,two,fun l1 hl1=>⟨l1,_,rfl,.inl (SqL.of qj),rfl,rfl,_,rfl,?_⟩⟩
   have sl1:=qe hl1 (.lst ([.str "self",.str "say"]:List V))
   have Pl1:=P5.same sl1
   have Kl1:Kept p H _:=K5f.trans (Kept.of sl1)
   refine Qy (by decide+kernel) ?_
   refine⟨_,rfl,_,_,rfl,rfl,(by decide+kernel),_,rfl,_,_,rfl,rfl,fits (by rw [xJ,(QQ h1).1];decide+kernel),?_⟩
   exact k ("self",[.s x1]) _ ⟨[.box],(show(("self":Str),[Kd.box])∈FRM by decide+kernel),h1,trivial⟩ Pl1 Kl1
end
end K14
namespace K14
open PySem L2 PyProof.Rows
theorem ptsOk_up {n n' m m':Nat}(h1:n≤n')(h2:m≤m'):∀{ks:List Kd}{ps:List Pt},jY n m ks ps→jY n' m' ks ps
 | [],[],_=>trivial
 |k::ks,q::ps,h=>by
  refine⟨?_,ptsOk_up h1 h2 h.2⟩
  have hq:=h.1
  cases k<;>cases q<;>simp only [ptOk] at hq⊢
  ·exact hq
  ·exact⟨hq.1,by omega⟩
  ·exact⟨by omega,hq.2⟩
 | [],_::_,h=>h.elim
 |_::_,[],h=>h.elim
theorem Yi.up {n n' m m':Nat}{r:Rw}(h1:n≤n')(h2:m≤m')(h:Yi n m r):Yi n' m' r:=let⟨ks,hk,hp⟩:=h;⟨ks,hk,ptsOk_up h1 h2 hp⟩
theorem sz_lines (c:Nat):∀rs:List Rw,(∀r∈rs,(qG r).length≤c)→szL (rs.map fun r=> .str (qG r))≤rs.length*(c+1)
 | [],_=>by simp [szL]
 |r::rs,h=>by
  have h1:=h r List.mem_cons_self
  have h2:=sz_lines c rs fun x hx=>h x (List.mem_cons_of_mem _ hx)
  simp only [List.map_cons,szL,sz,List.length_cons,Nat.succ_mul]
  omega
theorem dp_lines:∀rs:List Rw,dpL (rs.map fun r=> .str (qG r))≤1
 | []=>by simp [dpL]
 |r::rs=>by
  have:=dp_lines rs
  simp only [List.map_cons,dpL,dp]
  omega
theorem ZB:∀rs:List Rw,(∀r∈rs,Ya (qG r)=true)→goodL (rs.map fun r=> .str (qG r))=true
 | [],_=>rfl
 |r::rs,h=>by
  simp only [List.map_cons,goodL,good]
  rw [h r List.mem_cons_self,ZB rs fun x hx=>h x (List.mem_cons_of_mem _ hx)]
  rfl
theorem rule_tree {rs:List Rw}{m:Nat}(hl:rs.length≤40)(hm:m≤125)(h:∀r∈rs,Yi rs.length m r)(hc:∀r∈rs,(qG r).length≤300)(hs:szL (rs.map fun r=> .str (qG r))≤599):isT (Yb rs)=true:=by
 have h2:=dp_lines rs
 have h3:=ZB rs fun r hr=>by
  unfold Ya
  rw [line_all hl (h r hr),decide_eq_true (hc r hr)]
  rfl
 have e1:sz (Yb rs)=1+szL (rs.map fun r=> .str (qG r)):=by unfold Yb;simp only [sz]
 have e2:dp (Yb rs)=1+dpL (rs.map fun r=> .str (qG r)):=by unfold Yb;simp only [dp]
 have e3:good (Yb rs)=true:=by
  unfold Yb
  simp only [good]
  rw [h3,List.length_map,decide_eq_true (by omega)]
  rfl
 unfold isT
 rw [e3,decide_eq_true (p:=sz (Yb rs)≤600) (by omega),decide_eq_true (p:=dp (Yb rs)≤12) (by omega)]
 rfl
structure Drawn (rs:List Rw):Prop where
 n0:5≤rs.length
 n1:rs.length≤40
 ok:∀r∈rs,Yi rs.length 4 r
theorem Drawn.rule {rs:List Rw}(h:Drawn rs):Q2 rs:=by
 have h1:∀r∈rs,(qG r).length≤11:=fun r hr=>line_len h.n1 (by decide) (by decide) (h.ok r hr)
 have h2:=sz_lines 11 rs h1
 have n1:=h.n1
 exact⟨by have:=h.n0;omega,n1,fun r hr=>Yi.up (Nat.le_refl _) (by decide) (h.ok r hr),rule_tree n1 (by decide) h.ok (fun r hr=>by have:=h1 r hr;omega) (by omega)⟩
end K14
namespace K14
open PySem L2 PyProof.Rows
def sp_rule:Sp:=fun vs H Q _=>∃p L:Addr,vs= [.ref p,.ref L]∧PotB MB H p∧H L=some (.lst (NMS.map V.str))∧∀(v:V) (rs:List Rw) (H':Hp),Drawn rs→Is H' (Yb rs) v→QD H' p→Kept p H H'→Q v H'
def mkR (z1 z2 c:Str)(rs:List Rw):List Rw:=("text",[.s "a",.s z1])::("text",[.s "b",.s z2])::("row",[.s "h"])::(rs++ [(("say":Str),[Pt.s c])])
theorem mkR_map (z1 z2 c:Str)(rs:List Rw):(([V.str ("text a "++z1),.str ("text b "++z2),.str "row h"]++rs.map fun r=>V.str (qG r))++ [V.str ("say "++c)])=(mkR z1 z2 c rs).map fun r=>V.str (qG r):=by
 have e1:("text a "++z1:Str)=qG ("text",[.s "a",.s z1]):=by
  rw [←join3t]
  rw [show("text a ":Str)=("text "++"a":Str)++(" ":Str) by decide+kernel]
 have e2:("text b "++z2:Str)=qG ("text",[.s "b",.s z2]):=by
  rw [←join3t]
  rw [show("text b ":Str)=("text "++"b":Str)++(" ":Str) by decide+kernel]
 have e3:("row h":Str)=qG ("row",[.s "h"]):=by decide+kernel
 have e4:("say "++c:Str)=qG ("say",[.s c]):=by
  rw [show("say ":Str)=("say":Str)++(" ":Str) by decide+kernel]
  rfl
 rw [e1,e2,e3,e4]
 simp [mkR]
theorem mkR_ok {z1 z2 c:Str}{rs:List Rw}{n:Nat}(h1:z1∈WRD)(h2:z2∈WRD)(hc:c∈BX)(h:∀r∈rs,Yi n 4 r):∀r∈mkR z1 z2 c rs,Yi n 4 r:=by
 intro r hr
 simp only [mkR,List.mem_cons,List.mem_append,List.not_mem_nil,or_false] at hr
 rcases hr with rfl|rfl|rfl|hr|rfl
 ·exact⟨[.box,.words],(show(("text":Str),[Kd.box,.words])∈FRM by decide+kernel),(show("a":Str)∈BX by decide+kernel),wrd_ok z1 h1,trivial⟩
 ·exact⟨[.box,.words],(show(("text":Str),[Kd.box,.words])∈FRM by decide+kernel),(show("b":Str)∈BX by decide+kernel),wrd_ok z2 h2,trivial⟩
 ·exact⟨[.box],by decide+kernel,(show("h":Str)∈BX by decide+kernel),trivial⟩
 ·exact h r hr
 ·exact⟨[.box],(show(("say":Str),[Kd.box])∈FRM by decide+kernel),hc,trivial⟩
theorem rows_is {H:Hp}:∀{rs:List Rw},(∀r∈rs,(qG r).length≤sizeLine)→L2.IsL H (rs.map fun r=> .str (qG r)) (rs.map fun r=>V.str (qG r))
 | [],_=>rfl
 |r::rs,h=>⟨_,_,rfl,⟨rfl,h r List.mem_cons_self⟩,rows_is fun y hy=>h y (List.mem_cons_of_mem _ hy)⟩
section
variable {P:Program}{w:World}{K:PySem.W.Frag}{mg:Str→Option Value}{base:Heap}{a:Ad}{g:Ga}
theorem ok_rule (T:Tx K mg a):FnOk P w K mg base CX0 4 a.JM a.JA ["pot","names"] sp_rule:=by
 have qN:FnOk P w K mg base CX0 1 a.yd a.yb ["pot","many"] Ju:=JX T
 have JB:FnOk P w K mg base CX0 2 a.jw a.jG ["pot","names"] (sp_word K):=ok_word T
 have G_law_longer:FnOk P w K mg base CX0 1 a.ja a.jb ["pot"] sp_longer:=ok_longer T
 have G_law_line:FnOk P w K mg base CX0 3 a.JL a.JK ["pot","names","many","k"] (sp_line K):=ok_line T
 refine T.xY.ok YT (fun vs H Q E h=> ?_) (fun cdv A outer s H vs Q E hr h=> ?_)
 ·obtain⟨p,L,rfl,_⟩:=h
  rfl
 obtain⟨p,L,rfl,hPB,hL,k⟩:=h
 refine⟨_,(@qb _ _ _ _ _ (@qx _ _ (2) _ _ _ _ YT.nd rfl (Or.inl rfl) (@Qa _ _ _ _ _ _ _ _ (@Q8 _) (@qi _ _ _ _) (@qq _ _ _ _ _ _ _ _ _ _ _ _ _ _ _ _ qN (hr.mono (by first|decide|omega)) (by rfl) T.Qk T.Qd.kp T.Ql .nil qr (@qa _ _ _ _ _ (pv 0) (@qa _ _ _ _ _ (@qi _ _ _ _) (@qc _) (by trivial)) (by trivial)) (by trivial) (by trivial) (by trivial))) (by trivial) (by trivial)) (@qb _ _ _ _ _ (@qY _ _ _ _ _ _ _ _ (@qo _ _ _ _ _ _ _ _ (@y0 _) (@qq _ _ _ _ _ _ _ _ _ _ _ _ _ _ _ _ qN (hr.mono (by first|decide|omega)) (by rfl) T.Qk T.Qd.kp T.Ql .nil qr (@qa _ _ _ _ _ (pv 0) (@qa _ _ _ _ _ (@qi _ _ _ _) (@qc _) (by trivial)) (by trivial)) (by trivial) (by trivial) (by trivial)) (@qi _ _ _ _) (qF _)) (@qb _ _ _ _ _ (@qx _ _ (2) _ _ _ _ YT.nd rfl (Or.inl rfl) (@Qa _ _ _ _ _ _ _ _ (@Q8 _) (@qi _ _ _ _) (@qq _ _ _ _ _ _ _ _ _ _ _ _ _ _ _ _ qN (hr.mono (by first|decide|omega)) (by rfl) T.Qk T.Qd.kp T.Ql .nil qr (@qa _ _ _ _ _ (pv 0) (@qa _ _ _ _ _ (@qi _ _ _ _) (@qc _) (by trivial)) (by trivial)) (by trivial) (by trivial) (by trivial))) (by trivial) (by trivial)) (@qg _ _ _ (@QP _ _ _ _ (@qq _ _ _ _ _ _ _ _ _ _ _ _ _ _ _ _ G_law_longer (hr.mono (by first|decide|omega)) (by rfl) T.m_law_longer T.Xo.kp T.b_law_longer .nil qr (@qa _ _ _ _ _ (pv 0) (@qc _) (by trivial)) (by trivial) (by trivial) (by trivial)) (by trivial)))) (@qt _)) (@qb _ _ _ _ _ (@qx _ _ (3) _ _ _ _ YT.nd rfl (Or.inr rfl) (@Qa _ _ _ _ _ _ _ _ (@Q8 _) (pv 2) (@qi _ _ _ _)) (by trivial) (by trivial)) (@qb _ _ _ _ _ (@qx _ _ (4) _ _ _ _ YT.nd rfl (Or.inl rfl) (@yH _ _ _ _ (@qa _ _ _ _ _ (@Qa _ _ _ _ _ _ _ _ (@QH _) (@qk _ _ _ _) (@qq _ _ _ _ _ _ _ _ _ _ _ _ _ _ _ _ JB (hr.mono (by first|decide|omega)) (by rfl) T.Xc T.JD.kp T.Xa .nil qr (@qa _ _ _ _ _ (pv 0) (@qa _ _ _ _ _ (pv 1) (@qc _) (by trivial)) (by trivial)) (by trivial) (by trivial) (by trivial))) (@qa _ _ _ _ _ (@Qa _ _ _ _ _ _ _ _ (@QH _) (@qk _ _ _ _) (@qq _ _ _ _ _ _ _ _ _ _ _ _ _ _ _ _ JB (hr.mono (by first|decide|omega)) (by rfl) T.Xc T.JD.kp T.Xa .nil qr (@qa _ _ _ _ _ (pv 0) (@qa _ _ _ _ _ (pv 1) (@qc _) (by trivial)) (by trivial)) (by trivial) (by trivial) (by trivial))) (@qa _ _ _ _ _ (@qk _ _ _ _) (@qc _) (by trivial)) (by trivial)) (by trivial))) (by trivial) (by trivial)) (@qb _ _ _ _ _ (@QP _ _ _ _ (@xc _ _ _ _ _ _ _ _ _ _ _ _ PySem.F.plainAttrs_list PySem.F.slot_list_extend PySem.F.type_list_extend (@mt_extend _) (pv 4) (@qa _ _ _ _ _ (@pe_lc _ _ (["k","pot","names","many"]) (1) ([0,1,3]) _ _ _ _ _ _ _ _ _ (lcsN (qh Ye) ["pot","names","body","many","lines"]) rfl (@YE _ _ _ _ _ _ (by rfl) T.jO (@qa _ _ _ _ _ (pv 2) (@qc _) (by trivial)) (by trivial)) (fun _ _ _ _ _ _=>(@Qm _ _ (0) _ (show List.Nodup (["k","pot","names","many"]:List Str) by decide+kernel) rfl (Or.inl rfl) (by trivial))) (fun _ _ _ _ _ _=> @jK _) (fun _ _ _ _ _ _=>(@qq _ _ _ _ _ _ _ _ _ _ _ _ _ _ _ _ G_law_line (hr.mono (by first|decide|omega)) (by rfl) T.m_law_line T.ZM.kp T.b_law_line .nil qr (@qa _ _ _ _ _ (pv 1) (@qa _ _ _ _ _ (pv 2) (@qa _ _ _ _ _ (pv 3) (@qa _ _ _ _ _ (pv 0) (@qc _) (by trivial)) (by trivial)) (by trivial)) (by trivial)) (by trivial) (by trivial) (by trivial))) (by trivial)) (@qc _) (by trivial)) (by trivial) (by trivial) (by trivial) (by trivial) (by trivial)) (by trivial)) (@qg _ _ _ (@qm _ _ _ _ (@QE _ _ _ _ _ _ _ _ _ (@Q6 _) (by rfl) T.Yg boot_tuple (@qa _ _ _ _ _ (@Qa _ _ _ _ _ _ _ _ (@op_cat _) (pv 4) (@yH _ _ _ _ (@qa _ _ _ _ _ (@Qa _ _ _ _ _ _ _ _ (@QH _) (@qk _ _ _ _) (@qQ _ _ _ _ _ _ _ (@ix_str _) (@qk _ _ _ _) (@qq _ _ _ _ _ _ _ _ _ _ _ _ _ _ _ _ qN (hr.mono (by first|decide|omega)) (by rfl) T.Qk T.Qd.kp T.Ql .nil qr (@qa _ _ _ _ _ (pv 0) (@qa _ _ _ _ _ (@qi _ _ _ _) (@qc _) (by trivial)) (by trivial)) (by trivial) (by trivial) (by trivial)) (fun _ _=>rfl))) (@qc _) (by trivial)))) (@qc _) (by trivial)) (by trivial) (by trivial) (by trivial) (by trivial))))))))),?_⟩
 have neL:∀{H:Hp}{b:Addr}{l:List V},QD H p→H b=some (.lst l)→l.length≠1→b≠p:=fun hP e hl z=>by
  obtain⟨x,e2,_⟩:=hP
  rw [←z,e] at e2
  injection e2 with e3
  injection e3 with e4
  exact hl (by rw [e4];rfl)
 refine⟨_,rfl,p,8,rfl,hPB.at,by decide,by decide,fun d1 H1 a0 a1 P1 K1 B1=>⟨_,_,rfl,rfl,?_⟩⟩
 refine⟨_,rfl,p,8,rfl,P1,by decide,by decide,fun d2 H2 b0 b1 P2 K2 B2=>⟨rfl,_,rfl,?_⟩⟩
 refine ite2 (fun c=> ?_) (fun c=> ?_)
 refine⟨_,rfl,p,17,rfl,P2,by decide,by decide,fun d3 H3 c0 c1 P3 K3 B3=>⟨_,_,rfl,rfl,?_⟩⟩
 refine⟨_,rfl,p,rfl,B3 (B2 (B1 hPB)),fun H4 P4 K4=> ?_⟩
 obtain⟨nb,hnb,hn0,hn1⟩:∃nb:Nat,20+d3=(nb:Int)∧1≤nb∧nb≤36:=⟨(20+d3).toNat,by omega,by omega,by omega⟩
 have KK:Kept p H H4:=K1.trans (K2.trans (K3.trans K4))
 have hLk:H4 L=some (.lst (NMS.map V.str)):=KK _ _ hL (neL hPB.at hL (by show(8:Nat)≠1;decide))
 dsimp only
 rw [hnb]
 clear hnb
 have PX:=P4
 generalize H4=HX at KK hLk PX⊢
 rotate_left
 obtain⟨nb,hnb,hn0,hn1⟩:∃nb:Nat,1+d1=(nb:Int)∧1≤nb∧nb≤36:=⟨(1+d1).toNat,by omega,by omega,by omega⟩
 have KK:Kept p H H2:=K1.trans K2
 have hLk:H2 L=some (.lst (NMS.map V.str)):=KK _ _ hL (neL hPB.at hL (by show(8:Nat)≠1;decide))
 dsimp only
 rw [hnb]
 clear hnb
 have PX:=P2
 generalize hhx:H2=HX at KK hLk PX⊢
 rotate_left
 all_goals
  refine⟨_,rfl,_,_,rfl,rfl,?_⟩
  refine⟨_,rfl,_,rfl,p,L,rfl,PX,hLk,fun z1 H5 hz1 P5 K5=>⟨_,_,rfl,rfl,fits (by have:=(wrd_ok z1 hz1).1;have e7:("text a ":Str).length=7:=(by decide+kernel);omega),?_⟩⟩
  have hL5:=K5 _ _ hLk (neL PX hLk (by show(8:Nat)≠1;decide))
  refine⟨_,rfl,_,rfl,p,L,rfl,P5,hL5,fun z2 H6 hz2 P6 K6=>⟨_,_,rfl,rfl,fits (by have:=(wrd_ok z2 hz2).1;have e7:("text b ":Str).length=7:=(by decide+kernel);omega),(by show 3≤sizeLine;decide),fun l hl=> ?_⟩⟩
  have hL6:=K6 _ _ hL5 (neL P5 hL5 (by show(8:Nat)≠1;decide))
  have s7:=qe hl (.lst [.str ("text a "++z1),.str ("text b "++z2),.str "row h"])
  have e7:(upd H6 l (.lst [.str ("text a "++z1),.str ("text b "++z2),.str "row h"])) l=some (.lst [.str ("text a "++z1),.str ("text b "++z2),.str "row h"]):=qj
  have P7:=P6.same s7
  have hL7:=s7 _ _ hL6
  have K7:Kept p H (upd H6 l (.lst [.str ("text a "++z1),.str ("text b "++z2),.str "row h"])):=KK.trans (K5.trans (K6.trans (Kept.of s7)))
  refine⟨_,rfl,.inl ⟨rfl,_,SqL.of e7⟩,?_⟩
  generalize upd H6 l (.lst [.str ("text a "++z1),.str ("text b "++z2),.str "row h"])=H7 at e7 P7 hL7 K7⊢
  refine⟨_,rfl,nb,rfl,by omega,by omega,fun D hD=> ?_⟩
  have nD:D≠p:=fun z=>by
   obtain⟨x,e2,_⟩:=P7
   rw [z,e2] at hD
   cases hD
  refine Z1 (lo:=0) (n:=nb) (tl:= [some (.ref p),some (.ref L),some (.int ((nb:Int)+4))]) (fun i ys H'=>∃rs:List Rw,ys=rs.map (fun r=>V.str (qG r))∧rs.length=i∧(∀r∈rs,Yi (nb+4) 4 r)∧QD H' p∧(∀b o,H7 b=some o→b≠p→H' b=some o)) (yg (by omega)) ⟨[],rfl,rfl,fun b hb=>by simp at hb,P7.same (qe hD _),fun b o e _=>qe hD _ _ _ e⟩ ?_ ?_
  ·rintro j ys H' hj ⟨rs,rfl,hbl,hbb,P',K'⟩ hD' hy R hR
   have hL':=K' _ _ hL7 (neL P7 hL7 (by show(8:Nat)≠1;decide))
   refine⟨_,rfl,_,rfl,_,rfl,_,rfl,p,L,nb+4,j,?_,P',hL',by omega,by omega,by omega,fun r H8 hr8 P8 K8=> ?_⟩
   ·rw [show(0:Int)+(j:Int)=(j:Int) by omega,show((nb+4:Nat):Int)=(nb:Int)+4 by omega]
    rfl
   ·refine hR _ H8 (K8 _ _ hD' nD) ⟨rs++ [r],by rw [List.map_append];rfl,by rw [List.length_append,hbl];rfl,fun b hb=> ?_,?_,fun b o e np=> ?_⟩
    ·rcases List.mem_append.mp hb with h|h
     ·exact hbb b h
     ·rw [List.mem_singleton] at h;subst h;exact hr8
    ·obtain⟨x,e2,h2⟩:=P8
     exact⟨x,by rw [qD nD.symm];exact e2,h2⟩
    ·rw [qD (ql e hD)]
     exact K8 _ _ (K' b o e np) np
  ·rintro ys H' ⟨rs,rfl,hbl,hbb,P',K'⟩ hD'
   have nl:l≠p:=neL P7 e7 (by show(3:Nat)≠1;decide)
   have e8:=K' _ _ e7 nl
   refine⟨l,D,_,_,rfl,rfl,e8,hD',fits (by show 3+(rs.map fun r=>V.str (qG r)).length≤16000000;rw [List.length_map];omega),?_⟩
   have e9:(upd H' l (.lst ([.str ("text a "++z1),.str ("text b "++z2),.str "row h"]++rs.map fun r=>V.str (qG r)))) l=some (.lst ([.str ("text a "++z1),.str ("text b "++z2),.str "row h"]++rs.map fun r=>V.str (qG r))):=qj
   have P9:QD (upd H' l (.lst ([.str ("text a "++z1),.str ("text b "++z2),.str "row h"]++rs.map fun r=>V.str (qG r)))) p:=by
    obtain⟨x,e2,h2⟩:=P'
    exact⟨x,by rw [qD nl.symm];exact e2,h2⟩
   have K9:Kept p H (upd H' l (.lst ([.str ("text a "++z1),.str ("text b "++z2),.str "row h"]++rs.map fun r=>V.str (qG r)))):=fun b o e np=>by
    have q6:=(KK.trans (K5.trans K6)) b o e np
    rw [qD (ql q6 hl)]
    exact K' b o (K7 b o e np) np
   generalize upd H' l (.lst ([.str ("text a "++z1),.str ("text b "++z2),.str "row h"]++rs.map fun r=>V.str (qG r)))=H9 at e9 P9 K9⊢
   refine⟨_,rfl,_,rfl,p,8,rfl,P9,by decide,by decide,fun d9 H10 g0 g1 P10 K14 _=> ?_⟩
   obtain⟨c9,hc,hcb⟩:=abc_at g0 g1
   have ne:l≠p:=nl
   have e10:=K14 _ _ e9 ne
   refine⟨"abcdefgh",d9,c9,rfl,rfl,(by decide+kernel),hc,_,_,rfl,rfl,(by show("say ":Str).length+1≤sizeLine;decide+kernel),(by show 1≤sizeLine;decide),fun q1 hq1=> ?_⟩
   have s11:=qe hq1 (.lst [.str ("say "++⟨#[c9]⟩)])
   refine⟨l,q1,_,_,rfl,rfl,s11 _ _ e10,qj,fits (by simp only [List.length_append,List.length_map,List.length_cons,List.length_nil];omega),fun q2 hq2=>⟨q2,_,rfl,.inl ⟨SqL.of qj,fun q3 hq3=> ?_⟩⟩⟩
   have s12:=qe hq2 (.lst (([.str ("text a "++z1),.str ("text b "++z2),.str "row h"]++rs.map fun r=>V.str (qG r))++ [.str ("say "++⟨#[c9]⟩)]))
   have s13:=qe hq3 (.tup (([.str ("text a "++z1),.str ("text b "++z2),.str "row h"]++rs.map fun r=>V.str (qG r))++ [.str ("say "++⟨#[c9]⟩)]))
   have smx:=s11.trans (s12.trans s13)
   have hlen:(mkR z1 z2 ⟨#[c9]⟩ rs).length=nb+4:=by simp only [mkR,List.length_cons,List.length_append,List.length_nil];omega
   have hdr:Drawn (mkR z1 z2 ⟨#[c9]⟩ rs):=⟨by omega,by omega,by rw [hlen];exact mkR_ok hz1 hz2 hcb hbb⟩
   refine k _ (mkR z1 z2 ⟨#[c9]⟩ rs) _ hdr ?_ (P10.same smx) (K9.trans (K14.trans (Kept.of smx)))
   refine Is.new (ds:=(mkR z1 z2 ⟨#[c9]⟩ rs).map fun r=> .str (qG r)) ?_ hq3
   rw [mkR_map]
   exact rows_is (fun r hr=>yg (by have:=hdr.rule.len hr;omega))
end
end K14
namespace K14
open PySem L2 PyProof.Rows
def sp_back:Sp:=fun vs H Q _=>∃(p:Addr) (v:V) (rs:List Rw),vs= [.ref p,v]∧QD H p∧Is H (Yb rs) v∧Drawn rs∧∀(u:V) (rs':List Rw) (H':Hp),Drawn rs'→Is H' (Yb rs') u→QD H' p→Kept p H H'→Q u H'
def BW:List Str:= ["go ","like a b ","none d ","rowed c "]
def bwR (z:Str)(i:Int):Rw:=if z="go " then("go",[.n i]) else if z="like a b " then("like",[.s "a",.s "b",.n i]) else if z="none d " then("none",[.s "d",.n i]) else("rowed",[.s "c",.n i])
theorem bw_line {z:Str}(h:z∈BW)(i:Int):(z++toString i:Str)=qG (bwR z i):=by
 simp only [BW,List.mem_cons,List.not_mem_nil,or_false] at h
 rcases h with rfl|rfl|rfl|rfl
 ·show _=Str.join " " ["go",toString i]
  rw [show("go ":Str)=("go":Str)++(" ":Str) by decide+kernel]
  rfl
 ·show _=Str.join " " ["like","a","b",toString i]
  rw [show("like a b ":Str)=("like":Str)++(" ":Str)++(("a":Str)++(" ":Str))++(("b":Str)++(" ":Str)) by decide+kernel]
  show(⟨(((("like":Str).cps++(" ":Str).cps)++(("a":Str).cps++(" ":Str).cps))++(("b":Str).cps++(" ":Str).cps))++(toString i:Str).cps⟩:Str)=⟨(("like":Str).cps++(" ":Str).cps)++((("a":Str).cps++(" ":Str).cps)++((("b":Str).cps++(" ":Str).cps)++(toString i:Str).cps))⟩
  simp [Array.append_assoc]
 ·show _=Str.join " " ["none","d",toString i]
  rw [show("none d ":Str)=("none":Str)++(" ":Str)++(("d":Str)++(" ":Str)) by decide+kernel]
  show(⟨((("none":Str).cps++(" ":Str).cps)++(("d":Str).cps++(" ":Str).cps))++(toString i:Str).cps⟩:Str)=⟨(("none":Str).cps++(" ":Str).cps)++((("d":Str).cps++(" ":Str).cps)++(toString i:Str).cps)⟩
  simp [Array.append_assoc]
 ·show _=Str.join " " ["rowed","c",toString i]
  rw [show("rowed c ":Str)=("rowed":Str)++(" ":Str)++(("c":Str)++(" ":Str)) by decide+kernel]
  show(⟨((("rowed":Str).cps++(" ":Str).cps)++(("c":Str).cps++(" ":Str).cps))++(toString i:Str).cps⟩:Str)=⟨(("rowed":Str).cps++(" ":Str).cps)++((("c":Str).cps++(" ":Str).cps)++(toString i:Str).cps)⟩
  simp [Array.append_assoc]
theorem bw_ok {z:Str}(h:z∈BW){i:Int}{n:Nat}(h1:1≤i)(h2:i≤n):Yi n 4 (bwR z i):=by
 simp only [BW,List.mem_cons,List.not_mem_nil,or_false] at h
 rcases h with rfl|rfl|rfl|rfl
 ·exact⟨[.line],(show(("go":Str),[Kd.line])∈FRM by decide+kernel),⟨h1,h2⟩,trivial⟩
 ·exact⟨[.box,.box,.line],(show(("like":Str),[Kd.box,.box,.line])∈FRM by decide+kernel),(show("a":Str)∈BX by decide+kernel),(show("b":Str)∈BX by decide+kernel),⟨h1,h2⟩,trivial⟩
 ·exact⟨[.box,.line],(show(("none":Str),[Kd.box,.line])∈FRM by decide+kernel),(show("d":Str)∈BX by decide+kernel),⟨h1,h2⟩,trivial⟩
 ·exact⟨[.box,.line],(show(("rowed":Str),[Kd.box,.line])∈FRM by decide+kernel),(show("c":Str)∈BX by decide+kernel),⟨h1,h2⟩,trivial⟩
section
variable {P:Program}{w:World}{K:PySem.W.Frag}{mg:Str→Option Value}{base:Heap}{a:Ad}{g:Ga}
theorem ok_back (T:Tx K mg a):FnOk P w K mg base CX0 2 a.JC a.JG ["pot","rule"] sp_back:=by
 have qN:FnOk P w K mg base CX0 1 a.yd a.yb ["pot","many"] Ju:=JX T
 refine T.ZF.ok JW (fun vs H Q E h=> ?_) (fun cdv A outer s H vs Q E hr h=> ?_)
 ·obtain⟨p,v,rs,rfl,_⟩:=h
  rfl
 obtain⟨p,v,rs,rfl,hP,hv,hD,k⟩:=h
 refine⟨_,(@qb _ _ _ _ _ (@qx _ _ (2) _ _ _ _ JW.nd rfl (Or.inl rfl) (@Qa _ _ _ _ _ _ _ _ (@Q8 _) (@qi _ _ _ _) (@qq _ _ _ _ _ _ _ _ _ _ _ _ _ _ _ _ qN (hr.mono (by first|decide|omega)) (by rfl) T.Qk T.Qd.kp T.Ql .nil qr (@qa _ _ _ _ _ (pv 0) (@qa _ _ _ _ _ (@Qa _ _ _ _ _ _ _ _ (@op_sub _) (@qp _ _ _ _ _ _ _ _ _ (@qE _) (by rfl) T.yS PySem.boot_len (@qa _ _ _ _ _ (pv 1) (@qc _) (by trivial)) (by trivial) (by trivial) (by trivial) (by trivial)) (@qi _ _ _ _)) (@qc _) (by trivial)) (by trivial)) (by trivial) (by trivial) (by trivial))) (by trivial) (by trivial)) (@qb _ _ _ _ _ (@qx _ _ (3) _ _ _ _ JW.nd rfl (Or.inl rfl) (@qQ _ _ _ _ _ _ _ (@Yq _) (@yH _ _ _ _ (@qa _ _ _ _ _ (@qk _ _ _ _) (@qa _ _ _ _ _ (@qk _ _ _ _) (@qa _ _ _ _ _ (@qk _ _ _ _) (@qa _ _ _ _ _ (@qk _ _ _ _) (@qc _) (by trivial)) (by trivial)) (by trivial)) (by trivial))) (@qq _ _ _ _ _ _ _ _ _ _ _ _ _ _ _ _ qN (hr.mono (by first|decide|omega)) (by rfl) T.Qk T.Qd.kp T.Ql .nil qr (@qa _ _ _ _ _ (pv 0) (@qa _ _ _ _ _ (@qi _ _ _ _) (@qc _) (by trivial)) (by trivial)) (by trivial) (by trivial) (by trivial)) (fun _ _=>rfl)) (by trivial) (by trivial)) (@qg _ _ _ (@qm _ _ _ _ (@Qa _ _ _ _ _ _ _ _ (@Xi _) (@Qa _ _ _ _ _ _ _ _ (@Xi _) (@yY _ _ _ _ _ _ _ _ _ _ (@j0 _) (pv 1) (@Y7 _) (@Y4 _ _ _ (pv 2))) (@Qf _ _ _ _ _ (@qa _ _ _ _ _ (@Qa _ _ _ _ _ _ _ _ (@QH _) (pv 3) (@QE _ _ _ _ _ _ _ _ _ (@jh _) (by rfl) T.xL boot_str (@qa _ _ _ _ _ (@Qa _ _ _ _ _ _ _ _ (@Q8 _) (@qi _ _ _ _) (@qq _ _ _ _ _ _ _ _ _ _ _ _ _ _ _ _ qN (hr.mono (by first|decide|omega)) (by rfl) T.Qk T.Qd.kp T.Ql .nil qr (@qa _ _ _ _ _ (pv 0) (@qa _ _ _ _ _ (@qp _ _ _ _ _ _ _ _ _ (@qE _) (by rfl) T.yS PySem.boot_len (@qa _ _ _ _ _ (pv 1) (@qc _) (by trivial)) (by trivial) (by trivial) (by trivial) (by trivial)) (@qc _) (by trivial)) (by trivial)) (by trivial) (by trivial) (by trivial))) (@qc _) (by trivial)) (by trivial) (by trivial) (by trivial) (by trivial))) (@qc _) (by trivial)))) (@yY _ _ _ _ _ _ _ _ _ _ (@j0 _) (pv 1) (@Y4 _ _ _ (@Qa _ _ _ _ _ _ _ _ (@Q8 _) (pv 2) (@qi _ _ _ _))) (@Y7 _))))))),?_⟩
 have hvv:=hv
 obtain⟨ta,us,rfl,eta,iu⟩:=hvv
 have hul:us.length=rs.length:=by rw [iu.length,List.length_map]
 have n0:=hD.n0
 have n1:=hD.n1
 refine⟨_,rfl,_,rfl,ta,us,rfl,.inr (SqT.of eta),_,_,rfl,rfl,p,_,rfl,hP,?_,?_,fun d1 H1 a0 a1 P1 K1 _=>⟨_,_,rfl,rfl,?_⟩⟩
 ·omega
 ·omega
 refine⟨(by show 4≤sizeLine;decide),fun lw hlw=> ?_⟩
 have P1':=P1.same (qe hlw (.lst (BW.map V.str)))
 refine⟨_,rfl,p,4,rfl,P1',by decide,by decide,fun d2 H2 b0 b1 P2 K2 _=> ?_⟩
 have nlw:lw≠p:=fun z=>by
  obtain⟨x,e2,_⟩:=P1
  rw [z,e2] at hlw
  cases hlw
 have e2:H2 lw=some (.lst (BW.map V.str)):=K2 _ _ qj nlw
 obtain⟨vz,hz⟩:=xr (xs:=BW.map V.str) (i:=d2) b0 (by simpa [BW] using b1)
 obtain⟨z,hzm,rfl⟩:=List.mem_map.mp (zh hz)
 refine⟨lw,_,_,_,rfl,rfl,SqL.of e2,hz,?_⟩
 obtain⟨j,rfl⟩:∃j:Nat,d1=(j:Int):=⟨d1.toNat,by omega⟩
 have hj:j+3<rs.length:=by omega
 have s1:=qe hlw (.lst (BW.map V.str))
 have K02:Kept p H H2:=K1.trans ((Kept.of s1).trans K2)
 have nta:ta≠p:=fun z=>by
  obtain⟨x,e9,_⟩:=hP
  rw [←z,eta] at e9
  cases e9
 have eta2:=K02 _ _ eta nta
 have iu2:=iu.mono (hP.tk P2 K02)
 have cs:HT.sIx us.length us.length (some (3+(j:Int)))=j+3:=by
  rw [show(3+(j:Int))=((j+3:Nat):Int) by omega,HT.sIx_nat]
  omega
 have cs4:HT.sIx us.length 0 (some (3+(j:Int)+1))=j+4:=by
  rw [show(3+(j:Int)+1)=((j+4:Nat):Int) by omega,HT.sIx_nat]
  omega
 refine⟨_,rfl,_,rfl,_,rfl,ta,us,rfl,SqT.of eta2,fun e=>absurd e.2 (by rw [cs];omega),fun _ t1 ht1=> ?_⟩
 rw [show cutV us none (some (3+(j:Int)))=us.take (j+3) by rw [show(3+(j:Int))=((j+3:Nat):Int) by omega];exact zi (by omega)]
 have s3:=qe ht1 (.tup (us.take (j+3)))
 have e3:upd H2 t1 (.tup (us.take (j+3))) t1=some (.tup (us.take (j+3))):=qj
 have P3:=P2.same s3
 have nt1:t1≠p:=(P2.free ht1).symm
 have eta3:=s3 _ _ eta2
 have K03:Kept p H (upd H2 t1 (.tup (us.take (j+3)))):=K02.trans (Kept.of s3)
 have iu3:=iu2.mono s3.tk
 generalize upd H2 t1 (.tup (us.take (j+3)))=H3 at e3 P3 eta3 K03 iu3⊢
 refine⟨_,rfl,_,rfl,_,rfl,ta,us,rfl,.inr (SqT.of eta3),p,_,rfl,P3,by omega,by omega,fun d3 H4 c0 c1 P4 K4 _=>⟨_,_,rfl,rfl,?_⟩⟩
 have eta4:=K4 _ _ eta3 nta
 have e4:=K4 _ _ e3 nt1
 have K04:=K03.trans K4
 have iu4:=iu3.mono (P3.tk P4 K4)
 have hzl:z.length≤9:=by
  have:∀y∈BW,y.length≤9:=by decide+kernel
  exact this z hzm
 have hnl:(toString (1+d3):Str).length≤2:=(js (by omega) (by omega)).1
 refine⟨_,rfl,?_,_,_,rfl,rfl,fits (by omega),(by show 1≤sizeLine;decide),fun t2 ht2=> ?_⟩
 ·have:=Nat.log2_le_self (1+d3).natAbs
  omega
 rw [bw_line hzm (1+d3)]
 generalize hrw:bwR z (1+d3)=rw0
 have hok:Yi rs.length 4 rw0:=hrw▸bw_ok hzm (by omega) (by omega)
 have s5:=qe ht2 (.tup [V.str (qG rw0)])
 have e5:upd H4 t2 (.tup [V.str (qG rw0)]) t2=some (.tup [V.str (qG rw0)]):=qj
 have P5:=P4.same s5
 have e15:=s5 _ _ e4
 have eta5:=s5 _ _ eta4
 have K05:Kept p H (upd H4 t2 (.tup [V.str (qG rw0)])):=K04.trans (Kept.of s5)
 have iu5:=iu4.mono s5.tk
 generalize upd H4 t2 (.tup [V.str (qG rw0)])=H5 at e5 P5 e15 eta5 K05 iu5⊢
 have htl:(us.take (j+3)).length=j+3:=by rw [List.length_take];omega
 have hne:us.take (j+3)≠ []:=fun e=>by rw [e] at htl;simp at htl
 refine⟨t1,t2,_,_,rfl,rfl,SqT.of e15,SqT.of e5,fits (by rw [htl];show j+3+1≤16000000;omega),fun e=>absurd e hne,fun _ e=>absurd e (by simp),fun _ _ t3 ht3=> ?_⟩
 have s6:=qe ht3 (.tup (us.take (j+3)++ [V.str (qG rw0)]))
 have e6:upd H5 t3 (.tup (us.take (j+3)++ [V.str (qG rw0)])) t3=some (.tup (us.take (j+3)++ [V.str (qG rw0)])):=qj
 have P6:=P5.same s6
 have eta6:=s6 _ _ eta5
 have K06:Kept p H (upd H5 t3 (.tup (us.take (j+3)++ [V.str (qG rw0)]))):=K05.trans (Kept.of s6)
 have iu6:=iu5.mono s6.tk
 generalize upd H5 t3 (.tup (us.take (j+3)++ [V.str (qG rw0)]))=H6 at e6 P6 eta6 K06 iu6⊢
 refine⟨_,rfl,_,rfl,_,_,rfl,rfl,_,rfl,ta,us,rfl,SqT.of eta6,fun e=>absurd e.1 (by rw [cs4];omega),fun _ t4 ht4=> ?_⟩
 rw [show cutV us (some ((3+(j:Int))+1)) none=us.drop (j+4) by rw [show(3+(j:Int))+1=((j+4:Nat):Int) by omega];exact J5 (by omega)]
 have s7:=qe ht4 (.tup (us.drop (j+4)))
 have e7:upd H6 t4 (.tup (us.drop (j+4))) t4=some (.tup (us.drop (j+4))):=qj
 have P7:=P6.same s7
 have e37:=s7 _ _ e6
 have K07:Kept p H (upd H6 t4 (.tup (us.drop (j+4)))):=K06.trans (Kept.of s7)
 have iu7:=iu6.mono s7.tk
 generalize upd H6 t4 (.tup (us.drop (j+4)))=H7 at e7 P7 e37 K07 iu7⊢
 have hdl:(us.drop (j+4)).length=rs.length-(j+4):=by rw [List.length_drop,hul]
 have hdr:Drawn (rs.take (j+3)++ [rw0]++rs.drop (j+4)):=by
  have hl:(rs.take (j+3)++ [rw0]++rs.drop (j+4)).length=rs.length:=by
   simp only [List.length_append,List.length_take,List.length_drop,List.length_cons,List.length_nil]
   omega
  refine⟨by omega,by omega,?_⟩
  rw [hl]
  intro r hr
  rcases List.mem_append.mp hr with hr|hr
  ·rcases List.mem_append.mp hr with hr|hr
   ·exact hD.ok r (List.mem_of_mem_take hr)
   ·rw [List.mem_singleton] at hr;subst hr;exact hok
  ·exact hD.ok r (List.mem_of_mem_drop hr)
 have hrl:(qG rw0).length≤sizeLine:=yg (by have:=hdr.rule.len (r:=rw0) (by simp);omega)
 have isx:L2.IsL H7 ((rs.take (j+3)++ [rw0]++rs.drop (j+4)).map fun r=> .str (qG r)) (us.take (j+3)++ [V.str (qG rw0)]++us.drop (j+4)):=by
  rw [List.map_append,List.map_append,List.map_take,List.map_drop]
  exact((iu7.take _).append (IsL.one (show Is H7 (.str (qG rw0)) (V.str (qG rw0)) from⟨rfl,hrl⟩))).append (iu7.drop _)
 refine⟨t3,t4,_,_,rfl,rfl,SqT.of e37,SqT.of e7,fits (by rw [List.length_append,htl,hdl];show j+3+1+(rs.length-(j+4))≤16000000;omega),fun e=>absurd e (by simp),fun _ e=> ?_,fun _ _ t5 ht5=> ?_⟩
 ·refine k _ _ _ hdr ?_ P7 K07
  rw [e,List.append_nil] at isx
  exact⟨t3,_,rfl,e37,isx⟩
 ·have s8:=qe ht5 (.tup (us.take (j+3)++ [V.str (qG rw0)]++us.drop (j+4)))
  exact k _ _ _ hdr (Is.new isx ht5) (P7.same s8) (K07.trans (Kept.of s8))
end
end K14
namespace K14
open PySem L2 PyProof.Rows
def Jl (u:Str)(a:D):Prop:=(u="thing"∧AnsOk a)∨(u="has"∧(a= .str "yes"∨a= .str "no"))∨(u="names"∧∃zs:List Str,a= .tup (zs.map D.str)∧(∀z∈zs,nm z=true)∧isT a=true)
theorem Jl.ok {u:Str}{a:D}(h:Jl u a):AnsOk a:=by
 rcases h with⟨_,h⟩|⟨_,rfl|rfl⟩|⟨_,zs,rfl,_,h⟩
 ·exact h
 ·exact .inr (by decide+kernel)
 ·exact .inr (by decide+kernel)
 ·exact .inr h
def sp_rown:Sp:=fun vs H Q _=>∃(v:V) (zs:List Str),vs= [v]∧Is H (.tup (zs.map D.str)) v∧zs.length≤1000∧(∀z∈zs,nm z=true)∧∀H',Same H H'→Q (.bl true) H'
def sp_isans:Sp:=fun vs H Q _=>∃(v1 v2:V) (u:Str) (d a:D),vs= [v1,v2]∧Is H (.tup [.str u,d]) v1∧Is H a v2∧Jl u a∧∀H',Same H H'→Q (.bl true) H'
def xt (C:Addr):Sp:=fun vs H Q _=>∃(m:Mc) (r:Rn) (v:V) (u:Str) (d a:D),vs= [.ref m.x,v]∧qM C H m r∧RnOk m.rs r∧r.th= .tup [.str "asks",.tup [.str u,d]]∧Is H a v∧Jl u a∧Q2 m.rs∧m.own.length≤100∧
 ∀H',Mv m H H'→qM C H' m (ansS m.rs m.own r a)→Q .non H'
section
variable {P:Program}{w:World}{K:PySem.W.Frag}{mg:Str→Option Value}{base:Heap}{a:Ad}{g:Ga}
theorem ok_rown (T:Tx K mg a):FnOk P w K mg base CX0 2 a.yt a.yq ["tree"] sp_rown:=by
 have Js:FnOk P w K mg base CX0 1 a.jr a.jq ["value"] wa:=ok_name T
 refine T.jC.ok J7 (fun vs H Q E h=> ?_) (fun cdv A outer s H vs Q E hr h=> ?_)
 ·obtain⟨v,zs,rfl,_⟩:=h
  rfl
 obtain⟨v,zs,rfl,iv,hl,hz,k⟩:=h
 refine⟨_,(@qg _ _ _ (@qm _ _ _ _ (@pe_and _ _ _ _ _ _ _ (@qp _ _ _ _ _ _ _ _ _ (@Qi _ _ rfl) (by rfl) T.qU boot_isinstance (@qa _ _ _ _ _ (pv 0) (@qa _ _ _ _ _ (@yG _ _ (.ty "tuple") _ _ (by rfl) T.Yg boot_tuple rfl (by trivial) (by trivial)) (@qc _) (by trivial)) (by trivial)) (by trivial) (by trivial) (by trivial) (by trivial)) (@pe_one _ _ _ _ _ (@qp _ _ _ _ _ _ _ _ _ (@zy _ rfl) (by rfl) T.z_all boot_all (@qa _ _ _ _ _ (@pe_lc _ _ (["part"]) (1) ([]) _ _ _ _ _ _ _ _ _ (lcs0) rfl (@wg _ _ _ _ (pv 0)) (fun _ _ _ _ _ _=>(@Qm _ _ (0) _ (show List.Nodup (["part"]:List Str) by decide+kernel) rfl (Or.inl rfl) (by trivial))) (fun _ _ _ _ _ _=> @jK _) (fun _ _ _ _ _ _=>(@qq _ _ _ _ _ _ _ _ _ _ _ _ _ _ _ _ Js (hr.mono (by first|decide|omega)) (by rfl) T.zN T.xn.kp T.zI .nil qr (@qa _ _ _ _ _ (pv 0) (@qc _) (by trivial)) (by trivial) (by trivial) (by trivial))) (by trivial)) (@qc _) (by trivial)) (by trivial) (by trivial) (by trivial) (by trivial)))))),?_⟩
 refine⟨_,rfl,v,"tuple",tyD (.tup (zs.map D.str)),isTup (.tup (zs.map D.str)),rfl,iv.ty,xU _,?_⟩
 refine⟨_,rfl,iteT ?_⟩
 obtain⟨a0,vs,rfl,ha0,hvs⟩:=iv
 refine⟨_,rfl,a0,vs,rfl,SqT.of ha0,fun hvl A0 hA0=> ?_⟩
 refine lc_tupS (tl:= []) (fun d=> .bl true) ha0 hvs (yg (by rw [List.length_map];exact hl)) hA0 (fun d0 x0 H3 R hd0 s3 i3 r=> ?_) fun H1 ys s1 l1 i1=> ?_
 ·obtain⟨z,hzm,rfl⟩:=List.mem_map.mp hd0
  refine⟨_,rfl,x0,.str z,rfl,i3,fun H4 s4=> ?_⟩
  have e:isNm (.str z)=true:=hz z hzm
  rw [e]
  exact r _ H4 s4 rfl
 have ey:ys=((zs.map D.str).map fun _=>true).map V.bl:=IsL.bls (by rw [List.map_map];exact i1)
 refine⟨A0,(zs.map D.str).map fun _=>true,rfl,SqL.of (by rw [l1,ey]),?_⟩
 have:((zs.map D.str).map fun _=>true).all id=true:=by rw [List.all_map];simp
 rw [this]
 exact k H1 s1
theorem ok_isans (T:Tx K mg a):FnOk P w K mg base CX0 3 a.jT a.jW ["ask","answer"] sp_isans:=by
 have Je:FnOk P w K mg base CX0 2 a.jx a.jn ["value"] JJ:=xG T
 have Xf:FnOk P w K mg base CX0 2 a.yt a.yq ["tree"] sp_rown:=ok_rown T
 refine T.zc.ok sc_is_answer (fun vs H Q E h=> ?_) (fun cdv A outer s H vs Q E hr h=> ?_)
 ·obtain⟨v1,v2,u,d,a,rfl,_⟩:=h
  rfl
 obtain⟨v1,v2,u,d,an,rfl,i1,i2,ha,k⟩:=h
 refine⟨_,(@qb _ _ _ _ _ (@qY _ _ _ _ _ _ _ _ (@qo _ _ _ _ _ _ _ _ (@op_isN _) (pv 1) (@Q7 _ _ _) (qF _)) (@qg _ _ _ (@qm _ _ _ _ (@Y0 _ _ _ _ _ _ _ _ (@y0 _) (@qQ _ _ _ _ _ _ _ (@YD _) (pv 0) (@qi _ _ _ _) (fun _ _=>rfl)) (@qk _ _ _ _) (qF _)))) (@qt _)) (@qb _ _ _ _ _ (@qY _ _ _ _ _ _ _ _ (@yi _ _ _ _ (@QY _ _ _ (@qq _ _ _ _ _ _ _ _ _ _ _ _ _ _ _ _ Je (hr.mono (by first|decide|omega)) (by rfl) T.zT T.xo.kp T.X5 .nil qr (@qa _ _ _ _ _ (pv 1) (@qc _) (by trivial)) (by trivial) (by trivial) (by trivial)) (by trivial))) (@qg _ _ _ (@qm _ _ _ _ (@Y8 _ _ _ _))) (@qt _)) (@qb _ _ _ _ _ (@qY _ _ _ _ _ _ _ _ (@qo _ _ _ _ _ _ _ _ (@y0 _) (@qQ _ _ _ _ _ _ _ (@YD _) (pv 0) (@qi _ _ _ _) (fun _ _=>rfl)) (@qk _ _ _ _) (qF _)) (@qg _ _ _ (@qm _ _ _ _ (@Y0 _ _ _ _ _ _ _ _ (@yU _) (pv 1) (@Qf _ _ _ _ _ (@qa _ _ _ _ _ (@qk _ _ _ _) (@qa _ _ _ _ _ (@qk _ _ _ _) (@qc _) (by trivial)) (by trivial))) (by with_unfolding_all rfl)))) (@qt _)) (@qg _ _ _ (@qm _ _ _ _ (@pe_or _ _ _ _ _ _ _ (@Y0 _ _ _ _ _ _ _ _ (@y0 _) (@qQ _ _ _ _ _ _ _ (@YD _) (pv 0) (@qi _ _ _ _) (fun _ _=>rfl)) (@qk _ _ _ _) (qF _)) (@pe_one _ _ _ _ _ (@qq _ _ _ _ _ _ _ _ _ _ _ _ _ _ _ _ Xf (hr.mono (by first|decide|omega)) (by rfl) T.xH T.jC.kp T.Xj .nil qr (@qa _ _ _ _ _ (pv 1) (@qc _) (by trivial)) (by trivial) (by trivial) (by trivial))))))))),?_⟩
 have two:(2:Nat)≤sizeLine:=by decide
 have es:∀y:Str,decide (V.str u=V.str y)=decide (u=y):=fun y=>by
  rw [decide_eq_decide]
  exact⟨fun h=>by injection h,fun h=>by rw [h]⟩
 have iu:∀{H:Hp}{Q:VK},Is H (.tup [.str u,d]) v1→Q (.str u) H→rIxT K v1 (.int 0) H Q:=fun{H Q} i q=>yw (i:=0) (d:= .str u) i (Qe (j:=0) rfl) fun x hx=>by
  obtain⟨rfl,_⟩:=hx
  exact q
 refine⟨_,rfl,rfl,_,rfl,?_⟩
 by_cases cn:an= .non
 ·subst cn
  cases(show v2= .non from i2)
  refine Qy (by decide+kernel) ?_
  refine⟨_,rfl,.inr (.inl (iu i1 ⟨rfl,?_⟩))⟩
  rcases ha with⟨rfl,_⟩|⟨_,h|h⟩|⟨_,zs,h,_⟩
  ·exact k H (Same.refl _)
  ·cases h
  ·cases h
  ·cases h
 ·have hun:v2≠ .non:=not_non i2 cn
  have hT:isT an=true:=ha.ok.resolve_left cn
  refine qA (decide_eq_false hun) ?_
  refine⟨_,rfl,v2,an,rfl,i2,fun H1 s1=>⟨_,rfl,?_⟩⟩
  rw [hT]
  refine iteF ?_
  refine⟨_,rfl,.inr (.inl (iu (i1.mono s1.tk) ⟨rfl,_,rfl,?_⟩))⟩
  rcases ha with⟨rfl,_⟩|⟨rfl,h⟩|⟨rfl,zs,rfl,hz,_⟩
  ·refine qA (by decide+kernel) ?_
   refine⟨_,rfl,.inr (.inl (iu (i1.mono s1.tk) ⟨rfl,?_⟩))⟩
   refine⟨_,rfl,?_⟩
   rw [if_pos (decide_eq_true rfl)]
   exact k _ s1
  ·refine Qy (by decide+kernel) ?_
   refine⟨_,rfl,two,fun t1 h1=> ?_⟩
   have s2:=qe h1 (.tup [.str "yes",.str "no"])
   have hy:∃y:Str,v2= .str y∧(y="yes"∨y="no"):=by
    rcases h with rfl|rfl
    ·exact⟨_,i2.1,.inl rfl⟩
    ·exact⟨_,i2.1,.inr rfl⟩
   obtain⟨y,rfl,hy⟩:=hy
   refine⟨t1,_,rfl,.inr (SqT.of qj),rfl,rfl,?_⟩
   have e:inV (.str y) [.str "yes",.str "no"]=true:=by
    rcases hy with rfl|rfl<;>decide+kernel
   rw [if_neg Bool.false_ne_true,e]
   exact k _ (s1.trans s2)
  ·refine qA (by decide+kernel) ?_
   refine⟨_,rfl,.inr (.inl (iu (i1.mono s1.tk) ⟨rfl,_,rfl,?_⟩))⟩
   rw [if_neg (by decide+kernel)]
   refine⟨_,rfl,v2,zs,rfl,i2.mono s1.tk,?_,hz,fun H2 s2=>k H2 (s1.trans s2)⟩
   have hg:=jU hT
   simp only [good,Bool.and_eq_true] at hg
   have:=of_decide_eq_true hg.1
   rw [List.length_map] at this
   omega
theorem ok_ans (T:Tx K mg a)(C:Fx K w mg g a):FnOk P w K mg base CX0 6 a.Qq a.Qr ["self","tree"] (xt a.qd):=by
 have qZ:FnOk P w K mg base CX0 1 a.Qc a.Qb ["self"] (XW a.qd):=ZZ T
 have G_is_answer:FnOk P w K mg base CX0 3 a.jT a.jW ["ask","answer"] sp_isans:=ok_isans T
 have Y6:FnOk P w K mg base CX0 5 a.yh a.ym ["self"] (sp_goon a.qd):=ok_goon T C
 refine T.Xx.ok jD (fun vs H Q E h=> ?_) (fun cdv A outer s H vs Q E hr h=> ?_)
 ·obtain⟨m,r,v,u,d,an,rfl,_⟩:=h
  rfl
 obtain⟨m,⟨B,p,n,gs,th⟩,v,u,d,an,rfl,M,hO,hth,iv,ha,hR,hol,k⟩:=h
 simp only at hth
 subst hth
 refine⟨_,(@qb _ _ _ _ _ (@qY _ _ _ _ _ _ _ _ (@yi _ _ _ _ (@QY _ _ _ (@qJ _ _ _ _ _ _ _ _ _ _ _ _ _ _ _ _ _ (pv 0) T.qf T.QS qZ (hr.mono (by first|decide|omega)) T.QR .nil qr (by trivial)) (by trivial))) (@qg _ _ _ (@XQ _ _)) (@qt _)) (@qb _ _ _ _ _ (@qx _ _ (2) _ _ _ _ jD.nd rfl (Or.inl rfl) (@qQ _ _ _ _ _ _ _ (@YD _) (@QM _ _ _ _ _ (pv 0) rfl) (@qi _ _ _ _) (fun _ _=>rfl)) (by trivial) (by trivial)) (@qb _ _ _ _ _ (@qY _ _ _ _ _ _ _ _ (@yi _ _ _ _ (@QY _ _ _ (@qq _ _ _ _ _ _ _ _ _ _ _ _ _ _ _ _ G_is_answer (hr.mono (by first|decide|omega)) (by rfl) T.m_is_answer T.zc.kp T.b_is_answer .nil qr (@qa _ _ _ _ _ (pv 2) (@qa _ _ _ _ _ (pv 1) (@qc _) (by trivial)) (by trivial)) (by trivial) (by trivial) (by trivial)) (by trivial))) (@qg _ _ _ (@XQ _ _)) (@qt _)) (@qb _ _ _ _ _ (@QP _ _ _ _ (@xc _ _ _ _ _ _ _ _ _ _ _ _ PySem.F.plainAttrs_list PySem.F.slot_list_append PySem.F.type_list_append (@zt _) (@QM _ _ _ _ _ (pv 0) rfl) (@qa _ _ _ _ _ (@Qf _ _ _ _ _ (@qa _ _ _ _ _ (pv 2) (@qa _ _ _ _ _ (pv 1) (@qc _) (by trivial)) (by trivial))) (@qc _) (by trivial)) (by trivial) (by trivial) (by trivial) (by trivial) (by trivial)) (by trivial)) (@qb _ _ _ _ _ (@Jo _ _ _ _ _ _ _ _ _ _ (pv 0) (@qi _ _ _ _) in_add) (@qb _ _ _ _ _ (@qY _ _ _ _ _ _ _ _ (@qo _ _ _ _ _ _ _ _ (@op_isN _) (pv 1) (@Q7 _ _ _) (qF _)) (@qb _ _ _ _ _ (@yk _ _ _ _ _ _ _ _ (pv 0) (@Qf _ _ _ _ _ (@qa _ _ _ _ _ (@qk _ _ _ _) (@qa _ _ _ _ _ (@qk _ _ _ _) (@qc _) (by trivial)) (by trivial))) rfl) (@qg _ _ _ (@ps_retN _ _))) (@qt _)) (@qb _ _ _ _ _ (@ps_dput _ _ _ _ _ _ _ _ _ (jF hr) (@QM _ _ _ _ _ (pv 0) rfl) (@qQ _ _ _ _ _ _ _ (@YD _) (@qQ _ _ _ _ _ _ _ (@YD _) (@qQ _ _ _ _ _ _ _ (@qX _) (@QM _ _ _ _ _ (pv 0) rfl) (@Qa _ _ _ _ _ _ _ _ (@op_sub _) (@QM _ _ _ _ _ (pv 0) rfl) (@qi _ _ _ _)) (fun _ _=>rfl)) (@qi _ _ _ _) (fun _ _=>rfl)) (@qi _ _ _ _) (fun _ _=>rfl)) (pv 1) rfl) (@qb _ _ _ _ _ (@Jo _ _ _ _ _ _ _ _ _ _ (pv 0) (@qi _ _ _ _) in_add) (@qb _ _ _ _ _ (@yk _ _ _ _ _ _ _ _ (pv 0) (@Q7 _ _ _) rfl) (@qg _ _ _ (@QP _ _ _ _ (@qJ _ _ _ _ _ _ _ _ _ _ _ _ _ _ _ _ _ (pv 0) T.qf T.Jq Y6 (hr.mono (by first|decide|omega)) T.Jv .nil qr (by trivial)) (by trivial)))))))))))),?_⟩
 have two:(2:Nat)≤sizeLine:=by decide
 have hw:Q1 (.tup [.str "asks",.tup [.str u,d]])=true:=by simp [Q1]
 obtain⟨hp1,hask,hn3,_⟩:=hO.ask hw
 have hp0:=hO.p1
 have hgsl:=hO.gs.2.2
 have hTr:=hO.tr
 simp only at hp1 hask hn3 hp0 hgsl hTr
 have hM:=M
 obtain⟨dx,fs,rv,ru,tv,gv,e,f,ir,ij,ib,hg,gl,it⟩:=hM
 simp only at f ib gl it
 have hlt:fs.length<1000:=by have:=f.len;omega
 refine⟨_,rfl,m.x,dx,fs,rfl,e,f.meth _ (by decide+kernel),m,_,rfl,M,.inr ⟨_,_,rfl⟩,_,rfl,?_⟩
 refine qA (by show(!Q1 (.tup [.str "asks",.tup [.str u,d]]))=false;rw [hw];rfl) ?_
 refine⟨_,rfl,m.x,_,dx,fs,_,rfl,e,T.qf,T.qB,f.there,.inr (.inl (yw (i:=1) it (Qe (j:=1) rfl) fun q hq=> ?_))⟩
 refine⟨_,rfl,_,rfl,q,v,u,d,an,rfl,hq,iv,ha,fun H1 s1=>⟨_,rfl,iteF ?_⟩⟩
 refine⟨_,rfl,m.x,_,dx,fs,_,rfl,s1 _ _ e,T.qf,T.yj,f.given,.inl ⟨rfl,_,SqL.of (s1 _ _ hg)⟩,_,rfl,_,rfl,two,fun t1 h1=> ?_⟩
 have s2:=qe h1 (.tup [q,v])
 have ip:Is (upd H1 t1 (.tup [q,v])) (.tup [.tup [.str u,d],an]) (.ref t1):=Is.new (ds:= [.tup [.str u,d],an]) ⟨_,_,rfl,hq.mono s1.tk,_,_,rfl,iv.mono s1.tk,rfl⟩ h1
 have S2:=s1.trans s2
 generalize upd H1 t1 (.tup [q,v])=H2 at s2 ip S2⊢
 have hgl:gv.length=gs.length:=gl.length
 have hg2:=S2 _ _ hg
 refine⟨m.dg,gv,_,rfl,rfl,hg2,zR (by omega),?_⟩
 have t3:Tk H2 (upd H2 m.dg (.lst (gv++ [.ref t1]))):=Tk.updL hg2
 have nxg:m.x≠m.dg:=fun z=>by rw [←z,e] at hg;cases hg
 have nbg:m.db≠m.dg:=fun z=>by
  obtain⟨ff,e2,_⟩:=ib
  rw [z,hg] at e2
  cases e2
 have e3:(upd H2 m.dg (.lst (gv++ [.ref t1]))) m.x=some (.ins a.qd dx fs):=by rw [qD nxg];exact S2 _ _ e
 have T3:Tk H (upd H2 m.dg (.lst (gv++ [.ref t1]))):=S2.tk.trans t3
 have ib3:=(ib.same S2).move t3 (qD nbg)
 have gl3:L2.IsL (upd H2 m.dg (.lst (gv++ [.ref t1]))) (gs++ [.tup [.tup [.str u,d],an]]) (gv++ [.ref t1]):=(gl.mono T3).append (IsL.one (ip.mono t3))
 have hg3:(upd H2 m.dg (.lst (gv++ [.ref t1]))) m.dg=some (.lst (gv++ [.ref t1])):=qj
 have mv3:Mv m H (upd H2 m.dg (.lst (gv++ [.ref t1]))):=⟨fun b o h _ _ n3=>by rw [qD n3];exact S2 b o h,T3⟩
 generalize upd H2 m.dg (.lst (gv++ [.ref t1]))=H3 at t3 e3 T3 ib3 gl3 hg3 mv3⊢
 refine⟨_,rfl,m.x,_,dx,fs,_,rfl,e3,T.qf,T.Qz,f.done,(n:Int),1,rfl,rfl,dx,fs,e3,hlt,?_⟩
 obtain⟨M4,mv4⟩:=QV (r:=⟨B,p,n+1,gs++ [.tup [.tup [.str u,d],an]],.tup [.str "asks",.tup [.str u,d]]⟩) e3 (f.set_done (k:=n+1)) (ir.mono T3) (ij.mono T3) ib3 hg3 gl3 (it.mono T3)
 have mv4':=mv3.trans mv4
 have iv4:=iv.mono mv4'.tk
 show tSeq _ _ _ _ (upd H3 m.x (.ins a.qd dx (putF "done" (.int ((n+1:Nat):Int)) fs)))
 generalize upd H3 m.x (.ins a.qd dx (putF "done" (.int ((n+1:Nat):Int)) fs))=H4 at M4 mv4 mv4' iv4⊢
 obtain⟨dx4,fs4,rv4,ru4,tv4,gv4,e4,f4,ir4,ij4,ib4,hg4,gl4,it4⟩:=M4
 simp only at f4 ib4 gl4 it4
 have hlt4:fs4.length<1000:=by have:=f4.len;omega
 refine⟨_,rfl,rfl,_,rfl,?_⟩
 by_cases cn:an= .non
 ·subst cn
  cases(show v= .non from iv)
  refine Qy (by decide+kernel) ?_
  refine⟨two,fun l hl=> ?_⟩
  have s5:=qe hl (.tup [.str "fault",.str "lack"])
  refine⟨_,rfl,m.x,_,dx4,fs4,rfl,s5 _ _ e4,T.qf,T.qB,hlt4,?_⟩
  obtain⟨m1,m2⟩:=QV (r:=⟨B,p,n+1,gs++ [.tup [.tup [.str u,d],.non]],flt "lack"⟩) (s5 _ _ e4) (f4.set_there (u:= .ref l)) (ir4.mono s5.tk) (ij4.mono s5.tk) (ib4.same s5) (s5 _ _ hg4) (gl4.mono s5.tk) (Is.new (ds:= [.str "fault",.str "lack"]) ⟨_,_,rfl,⟨rfl,yg (by decide)⟩,_,_,rfl,⟨rfl,yg (by decide)⟩,rfl⟩ hl)
  exact k _ (mv4'.trans ((Mv.of s5).trans m2)) m1
 ·have hT:isT an=true:=ha.ok.resolve_left cn
  have hun:v≠ .non:=not_non iv cn
  have enn:isNon an=false:=by
   cases an with
   |non=>exact absurd rfl cn
   |_=>rfl
  refine qA (decide_eq_false hun) ?_
  obtain⟨z0,z1,er2,hz0⟩:=ask_sh (hR.ok _ (row_mem hp0 hp1)) hask
  have eb0:b0 (JO m.rs p).2=z0:=by rw [er2];rfl
  obtain⟨kvs,hput,hb5,t5⟩:=ib4.put hz0 iv4
  have eat:atI (m.rs.map rowD) (p-1)=some (rowD (JO m.rs p)):=by
   rw [show p-1=((p.toNat-1:Nat):Int) by omega]
   exact Qe (by rw [List.getElem?_map,row_at hp0 hp1];rfl)
  have n14:m.db≠m.x:=YW.ne e4 ib4
  have ngb:m.dg≠m.db:=nbg.symm
  refine⟨_,rfl,_,rfl,m.x,_,dx4,fs4,_,rfl,e4,T.qf,T.Qo,f4.boxes,_,rfl,m.x,_,dx4,fs4,_,rfl,e4,T.qf,T.Yv,f4.rows,_,rfl,m.x,_,dx4,fs4,_,rfl,e4,T.qf,T.Qg,f4.place,_,_,rfl,rfl,?_⟩
  refine yw (d:=rowD (JO m.rs p)) ir4 eat fun q5 hq5=> ?_
  refine .inr (.inl (yw (i:=1) hq5 (Qe (j:=1) rfl) fun q6 hq6=> ?_))
  rw [er2] at hq6
  refine .inr (.inl (yw (i:=0) (d:= .str z0) hq6 (Qe (j:=0) rfl) fun q7 hq7=> ?_))
  obtain⟨rfl,_⟩:=hq7
  refine⟨m.db,_,rfl,hput,?_⟩
  have e5:(upd H4 m.db (.dK kvs)) m.x=some (.ins a.qd dx4 fs4):=by rw [qD n14.symm];exact e4
  refine⟨_,rfl,m.x,_,dx4,fs4,_,rfl,e5,T.qf,T.Qg,f4.place,p,1,rfl,rfl,dx4,fs4,e5,hlt4,?_⟩
  obtain⟨M6,mv6⟩:=QV (r:=⟨setB B z0 an,p+1,n+1,gs++ [.tup [.tup [.str u,d],an]],.tup [.str "asks",.tup [.str u,d]]⟩) e5 (f4.set_place (q:=p+1)) (ir4.mono t5) (ij4.mono t5) hb5 (by rw [qD ngb];exact hg4) (gl4.mono t5) (it4.mono t5)
  have mv6':=mv4'.trans (Mv.trans ⟨fun b o h _ a2 _=>by rw [qD a2];exact h,t5⟩ mv6)
  obtain⟨dx6,fs6,rv6,ru6,tv6,gv6,e6,f6,ir6,ij6,ib6,hg6,gl6,it6⟩:=M6
  simp only at f6 ib6 gl6 it6
  have hlt6:fs6.length<1000:=by have:=f6.len;omega
  refine⟨_,rfl,m.x,_,dx6,fs6,rfl,e6,T.qf,T.qB,hlt6,?_⟩
  obtain⟨M7,mv7⟩:=QV (r:=⟨setB B z0 an,p+1,n+1,gs++ [.tup [.tup [.str u,d],an]],.non⟩) e6 (f6.set_there (u:= .non)) ir6 ij6 ib6 hg6 gl6 rfl
  have mv7':=mv6'.trans mv7
  obtain⟨dx7,fs7,rv7,ru7,tv7,gv7,e7,f7,r7⟩:=id M7
  refine⟨_,rfl,m.x,dx7,fs7,rfl,e7,f7.meth _ (by decide+kernel),m,_,rfl,M7,rfl,setB_tr hTr hT,hol,hR,by show 1≤p+1;omega,by show p+1≤_;omega,by show n+1≤300;omega,fun H8 mv8 M8=>k H8 (mv7'.trans mv8) ?_⟩
  unfold ansS
  rw [enn,if_neg Bool.false_ne_true]
  simp only
  rw [eb0]
  exact M8
end
end K14
namespace K14
open PySem L2 PyProof.Rows
def sp_mcopy (C:Addr):Sp:=fun vs H Q _=>∃(m:Mc) (r:Rn),vs= [.ref m.x]∧qM C H m r∧Q2 m.rs∧nm m.own=true∧m.own.length≤100∧
 ∀(x db dg:Addr) (H':Hp),H x=none→H db=none→H dg=none→Same H H'→qM C H' ⟨x,db,dg,m.rs,m.own⟩ r→Q (.ref x) H'
section
variable {P:Program}{w:World}{K:PySem.W.Frag}{mg:Str→Option Value}{base:Heap}{a:Ad}{g:Ga}
theorem ok_mcopy (T:Tx K mg a)(C:Fx K w mg g a):FnOk P w K mg base CX0 8 a.Yu a.Yw ["self"] (sp_mcopy a.qd):=by
 have qO:FnOk P w K mg base CX0 6 a.Qv a.QA ["self","rule","own"] (jP a.qd):=xu T C
 refine T.Zc.ok Ji (fun vs H Q E h=> ?_) (fun cdv A outer s H vs Q E hr h=> ?_)
 ·obtain⟨m,r,rfl,_⟩:=h
  rfl
 obtain⟨m,r,rfl,M,hR,hnm,hol,k⟩:=h
 refine⟨_,(@qb _ _ _ _ _ (@qx _ _ (1) _ _ _ _ Ji.nd rfl (Or.inl rfl) (@jm _ _ _ _ _ _ _ _ _ _ _ _ _ _ _ _ _ T.yx qO (hr.mono (by first|decide|omega)) (by rfl) T.yy T.Qn .nil qr (@qa _ _ _ _ _ (@QM _ _ _ _ _ (pv 0) rfl) (@qa _ _ _ _ _ (@QM _ _ _ _ _ (pv 0) rfl) (@qc _) (by trivial)) (by trivial)) (by trivial) (by trivial) (by trivial)) (by trivial) (by trivial)) (@qb _ _ _ _ _ (@yk _ _ _ _ _ _ _ _ (pv 1) (@QE _ _ _ _ _ _ _ _ _ (@call_dictC _ rfl) (by rfl) T.z_dict boot_dict (@qa _ _ _ _ _ (@QM _ _ _ _ _ (pv 0) rfl) (@qc _) (by trivial)) (by trivial) (by trivial) (by trivial) (by trivial)) rfl) (@qb _ _ _ _ _ (@yk _ _ _ _ _ _ _ _ (pv 1) (@QM _ _ _ _ _ (pv 0) rfl) rfl) (@qb _ _ _ _ _ (@yk _ _ _ _ _ _ _ _ (pv 1) (@QM _ _ _ _ _ (pv 0) rfl) rfl) (@qb _ _ _ _ _ (@yk _ _ _ _ _ _ _ _ (pv 1) (@QE _ _ _ _ _ _ _ _ _ (@call_list_of _) (by rfl) T.z_list boot_list (@qa _ _ _ _ _ (@QM _ _ _ _ _ (pv 0) rfl) (@qc _) (by trivial)) (by trivial) (by trivial) (by trivial) (by trivial)) rfl) (@qb _ _ _ _ _ (@yk _ _ _ _ _ _ _ _ (pv 1) (@QM _ _ _ _ _ (pv 0) rfl) rfl) (@qg _ _ _ (@qm _ _ _ _ (pv 1))))))))),?_⟩
 obtain⟨dx,fs,rv,ru,tv,gv,e,f,ir,ij,ib,hg,gl,it⟩:=id M
 refine⟨_,rfl,m.x,_,dx,fs,_,rfl,e,T.qf,T.JP,f.rule,_,rfl,m.x,_,dx,fs,_,rfl,e,T.qf,T.jV,f.own,fun x dx1 hx hdx nx=> ?_⟩
 have s0:Same H (upd (upd H dx1 (.own x)) x (.ins a.qd dx1 [])):=fun b o h=>by rw [qD (ql h hx),qD (ql h hdx)];exact h
 refine⟨x,dx1,ru,m.rs,m.own,rfl,qj,hR,ij.mono s0.tk,hnm,hol,fun H1 db1 dg1 kept hdb1 hdg1 M1=>⟨rfl,?_⟩⟩
 have S1:Same H H1:=fun b o h=>kept b o (s0 b o h) (ql h hx)
 have fresh:∀{H2:Hp}{b:Addr},Same H H2→H2 b=none→H b=none:=fun{H2 b} s h=>by
  cases hc:H b with
  |none=>rfl
  |some o=>rw [s _ _ hc] at h;cases h
 have up:∀{H2:Hp}{o:HO},Same H H2→Same H (upd H2 x o):=fun{H2 o} s b ob h=>by
  rw [qD (ql h hx)]
  exact s b ob h
 obtain⟨ff,eb,ibz⟩:=id ib
 refine⟨_,rfl,m.x,_,dx,fs,_,rfl,S1 _ _ e,T.qf,T.Qo,f.boxes,m.db,_,rfl,S1 _ _ eb,fun db hdb=> ?_⟩
 have s2:=qe hdb (.dK (kvB ff))
 have S2:=S1.trans s2
 have b2:YW (upd H1 db (.dK (kvB ff))) db r.B:=⟨ff,qj,fun z hz=>(ibz z hz).mono S2.tk⟩
 have hdbH:=fresh S1 hdb
 generalize upd H1 db (.dK (kvB ff))=H2 at s2 S2 b2⊢
 obtain⟨dx2,fs2,rv2,ru2,tv2,gv2,e2,f2,ir2,ij2,ib2,hg2,gl2,it2⟩:=M1.same s2
 refine⟨_,rfl,x,_,dx2,fs2,rfl,e2,T.qf,T.Qo,by have:=f2.len;omega,?_⟩
 obtain⟨M3,_⟩:=QV (m:=⟨x,db,dg1,m.rs,m.own⟩) (r:=⟨r.B,(runS m.rs m.own [] 300 B0 1 0).p,(runS m.rs m.own [] 300 B0 1 0).n,(runS m.rs m.own [] 300 B0 1 0).gs,(runS m.rs m.own [] 300 B0 1 0).th⟩) e2 (f2.set_boxes (q:=db)) ir2 ij2 b2 hg2 gl2 it2
 have S3:=up (o:= .ins a.qd dx2 (putF "boxes" (.ref db) fs2)) S2
 generalize upd H2 x (.ins a.qd dx2 (putF "boxes" (.ref db) fs2))=H3 at M3 S3⊢
 generalize runS m.rs m.own [] 300 B0 1 0=r0 at M3
 obtain⟨dx3,fs3,rv3,ru3,tv3,gv3,e3,f3,ir3,ij3,ib3,hg3,gl3,it3⟩:=M3
 refine⟨_,rfl,m.x,_,dx,fs,_,rfl,S3 _ _ e,T.qf,T.Qg,f.place,_,rfl,x,_,dx3,fs3,rfl,e3,T.qf,T.Qg,by have:=f3.len;omega,?_⟩
 obtain⟨M4,_⟩:=QV (m:=⟨x,db,dg1,m.rs,m.own⟩) (r:=⟨r.B,r.p,r0.n,r0.gs,r0.th⟩) e3 (f3.set_place (q:=r.p)) ir3 ij3 ib3 hg3 gl3 it3
 have S4:=up (o:= .ins a.qd dx3 (putF "place" (.int r.p) fs3)) S3
 generalize upd H3 x (.ins a.qd dx3 (putF "place" (.int r.p) fs3))=H4 at M4 S4⊢
 obtain⟨dx4,fs4,rv4,ru4,tv4,gv4,e4,f4,ir4,ij4,ib4,hg4,gl4,it4⟩:=M4
 refine⟨_,rfl,m.x,_,dx,fs,_,rfl,S4 _ _ e,T.qf,T.Qz,f.done,_,rfl,x,_,dx4,fs4,rfl,e4,T.qf,T.Qz,by have:=f4.len;omega,?_⟩
 obtain⟨M5,_⟩:=QV (m:=⟨x,db,dg1,m.rs,m.own⟩) (r:=⟨r.B,r.p,r.n,r0.gs,r0.th⟩) e4 (f4.set_done (k:=r.n)) ir4 ij4 ib4 hg4 gl4 it4
 have S5:=up (o:= .ins a.qd dx4 (putF "done" (.int (r.n:Int)) fs4)) S4
 generalize upd H4 x (.ins a.qd dx4 (putF "done" (.int (r.n:Int)) fs4))=H5 at M5 S5⊢
 refine⟨_,rfl,m.x,_,dx,fs,_,rfl,S5 _ _ e,T.qf,T.yj,f.given,m.dg,gv,rfl,.inl (SqL.of (S5 _ _ hg)),fun dg hdg=> ?_⟩
 have s6:=qe hdg (.lst gv)
 have S6:=S5.trans s6
 have hdgH:=fresh S5 hdg
 have g6:upd H5 dg (.lst gv) dg=some (.lst gv):=qj
 generalize upd H5 dg (.lst gv)=H6 at s6 S6 g6⊢
 obtain⟨dx6,fs6,rv6,ru6,tv6,gv6,e6,f6,ir6,ij6,ib6,hg6,gl6,it6⟩:=M5.same s6
 refine⟨_,rfl,x,_,dx6,fs6,rfl,e6,T.qf,T.yj,by have:=f6.len;omega,?_⟩
 obtain⟨M7,_⟩:=QV (m:=⟨x,db,dg,m.rs,m.own⟩) (r:=⟨r.B,r.p,r.n,r.gs,r0.th⟩) e6 (f6.set_given (q:=dg)) ir6 ij6 ib6 g6 (gl.mono S6.tk) it6
 have S7:=up (o:= .ins a.qd dx6 (putF "given" (.ref dg) fs6)) S6
 generalize upd H6 x (.ins a.qd dx6 (putF "given" (.ref dg) fs6))=H7 at M7 S7⊢
 obtain⟨dx7,fs7,rv7,ru7,tv7,gv7,e7,f7,ir7,ij7,ib7,hg7,gl7,it7⟩:=M7
 refine⟨_,rfl,m.x,_,dx,fs,_,rfl,S7 _ _ e,T.qf,T.qB,f.there,_,rfl,x,_,dx7,fs7,rfl,e7,T.qf,T.qB,by have:=f7.len;omega,?_⟩
 obtain⟨M8,_⟩:=QV (m:=⟨x,db,dg,m.rs,m.own⟩) (r:=r) e7 (f7.set_there (u:=tv)) ir7 ij7 ib7 hg7 gl7 (it.mono S7.tk)
 have S8:=up (o:= .ins a.qd dx7 (putF "there" tv fs7)) S7
 exact⟨_,rfl,k x db dg _ hx hdbH hdgH S8 M8⟩
end
end K14
namespace K14
open PySem L2 PyProof.Rows
def SOM:List D:= [.str "x",.str "",.str "c/d",.str "b1 g",.tup [],.tup [.str "x",.str "k"],.tup [.tup [.str "a",.tup []],.str "b1"],.non]
theorem som_ok:∀d∈SOM,AnsOk d:=by
 have h:∀d∈SOM,(isNon d||isT d)=true:=by decide+kernel
 intro d hd
 have:=h d hd
 cases hn:isNon d with
 |true=>
  cases d with
  |non=>exact .inl rfl
  |_=>cases hn
 |false=>
  rw [hn] at this
  exact .inr this
theorem nms_row:∀k:Fin 4,isT (.tup ((NMS.take k.val).map D.str))=true:=by decide+kernel
theorem nms_nm:∀z∈NMS,nm z=true:=by decide+kernel
def zu:Sp:=fun vs H Q _=>∃(p L:Addr) (v:V) (u:Str) (d:D),vs= [.ref p,v,.ref L]∧QD H p∧H L=some (.lst (NMS.map V.str))∧Is H (.tup [.str u,d]) v∧u∈(["thing","has","names"]:List Str)∧
 ∀(x:V) (an:D) (H':Hp),Jl u an→Is H' an x→QD H' p→Kept p H H'→Q x H'
section
variable {P:Program}{w:World}{K:PySem.W.Frag}{mg:Str→Option Value}{base:Heap}{a:Ad}{g:Ga}
theorem ok_lans (T:Tx K mg a):FnOk P w K mg base CX0 2 a.YA a.Yy ["pot","ask","names"] zu:=by
 have qN:FnOk P w K mg base CX0 1 a.yd a.yb ["pot","many"] Ju:=JX T
 refine T.je.ok J9 (fun vs H Q E h=> ?_) (fun cdv A outer s H vs Q E hr h=> ?_)
 ·obtain⟨p,L,v,u,d,rfl,_⟩:=h
  rfl
 obtain⟨p,L,v,u,d,rfl,hP,hL,iv,hu,k⟩:=h
 refine⟨_,(@qb _ _ _ _ _ (@qY _ _ _ _ _ _ _ _ (@qo _ _ _ _ _ _ _ _ (@y0 _) (@qQ _ _ _ _ _ _ _ (@YD _) (pv 1) (@qi _ _ _ _) (fun _ _=>rfl)) (@qk _ _ _ _) (qF _)) (@qg _ _ _ (@qm _ _ _ _ (@qQ _ _ _ _ _ _ _ (@Yq _) (@yH _ _ _ _ (@qa _ _ _ _ _ (@qk _ _ _ _) (@qa _ _ _ _ _ (@qk _ _ _ _) (@qc _) (by trivial)) (by trivial))) (@qq _ _ _ _ _ _ _ _ _ _ _ _ _ _ _ _ qN (hr.mono (by first|decide|omega)) (by rfl) T.Qk T.Qd.kp T.Ql .nil qr (@qa _ _ _ _ _ (pv 0) (@qa _ _ _ _ _ (@qi _ _ _ _) (@qc _) (by trivial)) (by trivial)) (by trivial) (by trivial) (by trivial)) (fun _ _=>rfl)))) (@qt _)) (@qb _ _ _ _ _ (@qY _ _ _ _ _ _ _ _ (@qo _ _ _ _ _ _ _ _ (@y0 _) (@qQ _ _ _ _ _ _ _ (@YD _) (pv 1) (@qi _ _ _ _) (fun _ _=>rfl)) (@qk _ _ _ _) (qF _)) (@qg _ _ _ (@qm _ _ _ _ (@QE _ _ _ _ _ _ _ _ _ (@Q6 _) (by rfl) T.Yg boot_tuple (@qa _ _ _ _ _ (@yY _ _ _ _ _ _ _ _ _ _ (@sl_list _) (pv 2) (@Y7 _) (@Y4 _ _ _ (@qq _ _ _ _ _ _ _ _ _ _ _ _ _ _ _ _ qN (hr.mono (by first|decide|omega)) (by rfl) T.Qk T.Qd.kp T.Ql .nil qr (@qa _ _ _ _ _ (pv 0) (@qa _ _ _ _ _ (@qi _ _ _ _) (@qc _) (by trivial)) (by trivial)) (by trivial) (by trivial) (by trivial)))) (@qc _) (by trivial)) (by trivial) (by trivial) (by trivial) (by trivial)))) (@qt _)) (@qb _ _ _ _ _ (@qx _ _ (3) _ _ _ _ J9.nd rfl (Or.inl rfl) (@yH _ _ _ _ (@qa _ _ _ _ _ (@qk _ _ _ _) (@qa _ _ _ _ _ (@qk _ _ _ _) (@qa _ _ _ _ _ (@qk _ _ _ _) (@qa _ _ _ _ _ (@qk _ _ _ _) (@qa _ _ _ _ _ (@Qf _ _ _ _ _ (@qc _)) (@qa _ _ _ _ _ (@Qf _ _ _ _ _ (@qa _ _ _ _ _ (@qk _ _ _ _) (@qa _ _ _ _ _ (@qk _ _ _ _) (@qc _) (by trivial)) (by trivial))) (@qa _ _ _ _ _ (@Qf _ _ _ _ _ (@qa _ _ _ _ _ (@Qf _ _ _ _ _ (@qa _ _ _ _ _ (@qk _ _ _ _) (@qa _ _ _ _ _ (@Qf _ _ _ _ _ (@qc _)) (@qc _) (by trivial)) (by trivial))) (@qa _ _ _ _ _ (@qk _ _ _ _) (@qc _) (by trivial)) (by trivial))) (@qa _ _ _ _ _ (@Q7 _ _ _) (@qc _) (by trivial)) (by trivial)) (by trivial)) (by trivial)) (by trivial)) (by trivial)) (by trivial)) (by trivial))) (by trivial) (by trivial)) (@qg _ _ _ (@qm _ _ _ _ (@qQ _ _ _ _ _ _ _ (@Yq _) (pv 3) (@qq _ _ _ _ _ _ _ _ _ _ _ _ _ _ _ _ qN (hr.mono (by first|decide|omega)) (by rfl) T.Qk T.Qd.kp T.Ql .nil qr (@qa _ _ _ _ _ (pv 0) (@qa _ _ _ _ _ (@qp _ _ _ _ _ _ _ _ _ (@qE _) (by rfl) T.yS PySem.boot_len (@qa _ _ _ _ _ (pv 3) (@qc _) (by trivial)) (by trivial) (by trivial) (by trivial) (by trivial)) (@qc _) (by trivial)) (by trivial)) (by trivial) (by trivial) (by trivial)) (fun _ _=>rfl))))))),?_⟩
 have zero:(0:Nat)≤sizeLine:=by decide
 have two:(2:Nat)≤sizeLine:=by decide
 have npL:L≠p:=fun z=>by
  obtain⟨x,e,_⟩:=hP
  rw [←z,hL] at e
  injection e with e
  injection e with e
  have h1:(8:Nat)=1:=congrArg List.length e
  omega
 have es:∀y:Str,decide (V.str u=V.str y)=decide (u=y):=fun y=>by
  rw [decide_eq_decide]
  exact⟨fun h=>by injection h,fun h=>by rw [h]⟩
 have iu:∀{Q:VK},Q (.str u) H→rIxT K v (.int 0) H Q:=fun{Q} q=>yw (i:=0) (d:= .str u) iv (Qe (j:=0) rfl) fun x hx=>by
  obtain⟨rfl,_⟩:=hx
  exact q
 refine⟨_,rfl,.inr (.inl (iu ⟨rfl,_,rfl,?_⟩))⟩
 rw [es]
 by_cases c1:u="has"
 ·refine Qy (decide_eq_true c1) ?_
  refine⟨two,fun l hl=> ?_⟩
  have s1:=qe hl (.lst [.str "yes",.str "no"])
  refine⟨_,rfl,p,2,rfl,hP.same s1,by decide,by decide,fun d1 H1 a0 a1 P1 K1 _=> ?_⟩
  have e1:=K1 _ _ qj (hP.free hl).symm
  have hx:∃z:Str,atI [V.str "yes",V.str "no"] d1=some (.str z)∧(z="yes"∨z="no"):=by
   obtain⟨k,rfl⟩:∃k:Fin 2,d1=((k.val:Nat):Int):=⟨⟨d1.toNat,by omega⟩,by simp;omega⟩
   match k with
   |0=>exact⟨_,rfl,.inl rfl⟩
   |1=>exact⟨_,rfl,.inr rfl⟩
  obtain⟨z,hz,hz2⟩:=hx
  refine⟨l,_,_,_,rfl,rfl,SqL.of e1,hz,k _ (.str z) _ (.inr (.inl ⟨c1,?_⟩)) ⟨rfl,?_⟩ P1 ((Kept.of s1).trans K1)⟩
  ·rcases hz2 with rfl|rfl
   ·exact .inl rfl
   ·exact .inr rfl
  ·rcases hz2 with rfl|rfl<;>exact yg (by decide+kernel)
 ·refine qA (decide_eq_false c1) ?_
  refine⟨_,rfl,.inr (.inl (iu ⟨rfl,_,rfl,?_⟩))⟩
  rw [es]
  by_cases c2:u="names"
  ·refine Qy (decide_eq_true c2) ?_
   refine⟨_,rfl,_,rfl,p,4,rfl,hP,by decide,by decide,fun d1 H1 a0 a1 P1 K1 _=> ?_⟩
   have eL1:=K1 _ _ hL npL
   obtain⟨j,rfl⟩:∃j:Fin 4,d1=((j.val:Nat):Int):=⟨⟨d1.toNat,by omega⟩,by simp;omega⟩
   refine⟨_,rfl,L,_,rfl,SqL.of eL1,fun l hl=> ?_⟩
   have hj:j.val≤(NMS.map V.str).length:=by have:=j.isLt;show j.val≤8;omega
   rw [zi hj,←List.map_take]
   have s2:=qe hl (.lst ((NMS.take j.val).map V.str))
   refine⟨l,_,rfl,.inl ⟨SqL.of qj,fun t ht=> ?_⟩⟩
   have s3:=qe ht (.tup ((NMS.take j.val).map V.str))
   refine k _ (.tup ((NMS.take j.val).map D.str)) _ (.inr (.inr ⟨c2,NMS.take j.val,rfl,fun z hz=>nms_nm z (List.mem_of_mem_take hz),nms_row j⟩)) ?_ ((P1.same s2).same s3) (K1.trans (Kept.of (s2.trans s3)))
   exact Is.new (IsL.ofStrs fun z hz=>yg (by have:=(nms_ok z (List.mem_of_mem_take hz)).2;omega)) ht
  ·refine qA (decide_eq_false c2) ?_
   have c3:u="thing":=by
    simp only [List.mem_cons,List.not_mem_nil,or_false] at hu
    rcases hu with h|h|h
    ·exact h
    ·exact absurd h c1
    ·exact absurd h c2
   have st:∀{H:Hp} (z:Str),z.length≤1000→Is H (.str z) (.str z):=fun z hz=>⟨rfl,yg hz⟩
   refine⟨zero,fun t1 h1=>⟨two,fun t2 h2=>⟨zero,fun t3 h3=>⟨two,fun t4 h4=>⟨two,fun t5 h5=>⟨(by show 8≤sizeLine;decide),fun l hl=> ?_⟩⟩⟩⟩⟩⟩
   have s1:=qe h1 (.tup [])
   have s2:=qe h2 (.tup [.str "x",.str "k"])
   have s3:=qe h3 (.tup [])
   have s4:=qe h4 (.tup [.str "a",.ref t3])
   have s5:=qe h5 (.tup [.ref t4,.str "b1"])
   have i1:=Is.new (ds:= []) (vs:= []) rfl h1
   have i2:=Is.new (ds:= [.str "x",.str "k"]) (vs:= [.str "x",.str "k"]) ⟨_,_,rfl,st "x" (by decide),_,_,rfl,st "k" (by decide),rfl⟩ h2
   have i3:=Is.new (ds:= []) (vs:= []) rfl h3
   have i4:=Is.new (ds:= [.str "a",.tup []]) (vs:= [.str "a",.ref t3]) ⟨_,_,rfl,st "a" (by decide),_,_,rfl,i3,rfl⟩ h4
   have i5:=Is.new (ds:= [.tup [.str "a",.tup []],.str "b1"]) (vs:= [.ref t4,.str "b1"]) ⟨_,_,rfl,i4,_,_,rfl,st "b1" (by decide),rfl⟩ h5
   have q2:=(s3.trans (s4.trans s5)).tk
   have q1:=s2.tk.trans q2
   have S6:=s1.trans (s2.trans (s3.trans (s4.trans s5)))
   have il:L2.IsL _ SOM [.str "x",.str "",.str "c/d",.str "b1 g",.ref t1,.ref t2,.ref t5,.non]:=
    ⟨_,_,rfl,st "x" (by decide),_,_,rfl,st "" (by decide),_,_,rfl,st "c/d" (by decide),_,_,rfl,st "b1 g" (by decide),_,_,rfl,i1.mono q1,_,_,rfl,i2.mono q2,_,_,rfl,i5,_,_,rfl,rfl,rfl⟩
   have P6:=hP.same S6
   show tSeq _ _ _ _ (upd _ l (.lst [.str "x",.str "",.str "c/d",.str "b1 g",.ref t1,.ref t2,.ref t5,.non]))
   have s7:=qe hl (.lst [.str "x",.str "",.str "c/d",.str "b1 g",.ref t1,.ref t2,.ref t5,.non])
   have P7:=P6.same s7
   refine⟨_,rfl,_,rfl,_,rfl,l,_,rfl,.inl (SqL.of qj),p,8,rfl,P7,by decide,by decide,fun d1 H7 a0 a1 P8 K8 _=> ?_⟩
   have e8:=K8 _ _ qj (P6.free hl).symm
   have il8:=(il.mono s7.tk).mono (P7.tk P8 K8)
   obtain⟨j,rfl⟩:∃j:Nat,d1=(j:Int):=⟨d1.toNat,by omega⟩
   have hj:j<SOM.length:=by show j<8;omega
   obtain⟨x,hx,ix⟩:=il8.get (i:=j) (d:=SOM[j]) (List.getElem?_eq_getElem hj)
   exact⟨l,_,_,x,rfl,rfl,SqL.of e8,Qe hx,k x SOM[j] _ (.inl ⟨c3,som_ok _ (List.getElem_mem hj)⟩) ix P8 ((Kept.of (S6.trans s7)).trans K8)⟩
end
end K14
namespace K14
open PySem L2 PyProof.Rows
theorem runS_gs {rs:List Rw}{own:Str}{gs:List D}:∀(f:Nat) (B:Str→D) (p:Int) (n:Nat),(runS rs own gs f B p n).gs=gs
 |0,B,p,n=>rfl
 |f+1,B,p,n=>by
  unfold runS
  by_cases c:p>rs.length
  ·rw [if_pos c]
  ·rw [if_neg c]
   cases hO:rowO own (JO rs p) B p with
   |go B' p'=>exact runS_gs f B' p' (n+1)
   |stop e=>rfl
theorem Xd {rs:List Rw}{own:Str}{as:List D}(an:D)(h:Q1 (qw rs own as).th=true):qw rs own (as++ [an])=ansS rs own (qw rs own as) an:=by
 unfold qw at h⊢
 rw [ZL,if_pos h]
theorem gs_snoc {rs:List Rw}{own:Str}{as:List D}(an:D)(h:Q1 (qw rs own as).th=true):(qw rs own (as++ [an])).gs=(qw rs own as).gs++ [.tup [askOf (qw rs own as).th,an]]:=by
 rw [Xd an h]
 unfold ansS
 split
 ·rfl
 ·exact runS_gs _ _ _ _
def Val (rs:List Rw)(own:Str)(as:List D):Prop:=∀(k:Nat) (a:D),as[k]? =some a→∃(u:Str) (d:D),(qw rs own (as.take k)).th= .tup [.str "asks",.tup [.str u,d]]∧Jl u a
theorem wt {u:Str}{d e:D}(h:e= .tup [.str "asks",.tup [.str u,d]]):Q1 e=true:=by rw [h];simp [Q1]
theorem Val.nil {rs:List Rw}{own:Str}:Val rs own []:=fun k a h=>by simp at h
theorem Val.ok {rs:List Rw}{own:Str}{as:List D}(h:Val rs own as):∀a∈as,AnsOk a:=fun a ha=>by
 obtain⟨k,hk⟩:=List.getElem?_of_mem ha
 obtain⟨u,d,_,h2⟩:=h k a hk
 exact h2.ok
theorem Val.take {rs:List Rw}{own:Str}{as:List D}(h:Val rs own as)(n:Nat):Val rs own (as.take n):=fun k a hk=>by
 have hlt:k<n:=by
  have:=(List.getElem?_eq_some_iff.mp hk).1
  rw [List.length_take] at this
  omega
 rw [List.getElem?_take_of_lt hlt] at hk
 obtain⟨u,d,h1,h2⟩:=h k a hk
 rw [List.take_take,Nat.min_eq_left (by omega)]
 exact⟨u,d,h1,h2⟩
theorem Val.snoc {rs:List Rw}{own:Str}{as:List D}{an:D}{u:Str}{d:D}(h:Val rs own as)(e:(qw rs own as).th= .tup [.str "asks",.tup [.str u,d]])(ha:Jl u an):Val rs own (as++ [an]):=fun k a hk=>by
 have hlt:=(List.getElem?_eq_some_iff.mp hk).1
 rw [List.length_append] at hlt
 by_cases c:k<as.length
 ·rw [List.getElem?_append_left c] at hk
  rw [List.take_append_of_le_length (by omega)]
  exact h k a hk
 ·have e2:k=as.length:=by simp at hlt;omega
  subst e2
  rw [List.getElem?_append_right (Nat.le_refl _),Nat.sub_self] at hk
  cases hk
  rw [List.take_left']
  ·exact⟨u,d,e,ha⟩
  ·rfl
theorem Val.last {rs:List Rw}{own:Str}{as:List D}{an:D}(h:Val rs own (as++ [an])):Val rs own as∧∃(u:Str) (d:D),(qw rs own as).th= .tup [.str "asks",.tup [.str u,d]]∧Jl u an:=by
 refine⟨?_,?_⟩
 ·have:=h.take as.length
  rwa [List.take_left' rfl] at this
 ·have:=h as.length an (by rw [List.getElem?_append_right (Nat.le_refl _),Nat.sub_self];rfl)
  rwa [List.take_left' rfl] at this
theorem gs_all {rs:List Rw}{own:Str}:∀(n:Nat) (as:List D),as.length=n→Val rs own as→(qw rs own as).gs.length=as.length∧(∀k,k≤as.length→(qw rs own (as.take k)).gs=(qw rs own as).gs.take k)∧(∀(k:Nat) (a:D),as[k]? =some a→(qw rs own as).gs[k]? =some (.tup [askOf (qw rs own (as.take k)).th,a]))
 |0,as,hl,h=>by
  have e:as= []:=List.eq_nil_of_length_eq_zero hl
  subst e
  have e0:(qw rs own []).gs= []:=runS_gs _ _ _ _
  refine⟨by rw [e0],fun k hk=> ?_,fun k a hk=>by simp at hk⟩
  rw [List.take_nil,e0,List.take_nil]
 |n+1,as,hl,h=>by
  obtain⟨bs,a,rfl⟩:∃bs a,as=bs++ [a]:=by
   rcases List.eq_nil_or_concat as with e|⟨bs,a,e⟩
   ·rw [e] at hl;cases hl
   ·exact⟨bs,a,by rw [e,List.concat_eq_append]⟩
  have hbl:bs.length=n:=by rw [List.length_append] at hl;simpa using hl
  obtain⟨hb,u,d,eth,ha⟩:=h.last
  obtain⟨i1,i2,i3⟩:=gs_all n bs hbl hb
  have eg:=gs_snoc a (wt eth)
  refine⟨by rw [eg,List.length_append,List.length_append,i1];rfl,fun k hk=> ?_,fun k x hk=> ?_⟩
  ·by_cases c:k≤bs.length
   ·rw [List.take_append_of_le_length c,i2 k c,eg,List.take_append_of_le_length (by omega)]
   ·have e2:k=(bs++ [a]).length:=by rw [List.length_append] at hk⊢;simp at hk⊢;omega
    subst e2
    rw [List.take_length]
    have e3:(bs++ [a]).length=(qw rs own (bs++ [a])).gs.length:=by rw [eg,List.length_append,List.length_append,i1];rfl
    conv=>rhs;rw [e3]
    rw [List.take_length]
  ·by_cases c:k<bs.length
   ·rw [List.getElem?_append_left c] at hk
    rw [List.take_append_of_le_length (by omega),eg,List.getElem?_append_left (by omega)]
    exact i3 k x hk
   ·have hlt:=(List.getElem?_eq_some_iff.mp hk).1
    rw [List.length_append] at hlt
    have e2:k=bs.length:=by simp at hlt;omega
    subst e2
    rw [List.getElem?_append_right (Nat.le_refl _),Nat.sub_self] at hk
    cases hk
    rw [List.take_left' rfl,eg,←i1,List.getElem?_append_right (Nat.le_refl _),Nat.sub_self]
    rfl
theorem Xw {rs:List Rw}{own:Str}{as:List D}(h:Val rs own as):(qw rs own as).gs.length=as.length:=(gs_all _ as rfl h).1
theorem gs_take {rs:List Rw}{own:Str}{as:List D}(h:Val rs own as){k:Nat}(hk:k≤as.length):(qw rs own (as.take k)).gs=(qw rs own as).gs.take k:=(gs_all _ as rfl h).2.1 k hk
theorem ZI {rs:List Rw}{own:Str}{as:List D}(h:Val rs own as){k:Nat}{a:D}(hk:as[k]? =some a):∃(u:Str) (d:D),(qw rs own (as.take k)).th= .tup [.str "asks",.tup [.str u,d]]∧Jl u a∧(qw rs own as).gs[k]? =some (.tup [.tup [.str u,d],a]):=by
 obtain⟨u,d,e,ha⟩:=h k a hk
 have:=(gs_all _ as rfl h).2.2 k a hk
 rw [e] at this
 exact⟨u,d,e,ha,this⟩
theorem Val.le {rs:List Rw}{own:Str}{as:List D}(hR:Q2 rs)(h:Val rs own as):as.length≤300:=by
 have h1:=QT (own:=own) hR h.ok
 have h2:=h1.gs.2.2
 have h3:=h1.n
 rw [Xw h] at h2
 omega
theorem qM.keep {C:Addr}{H H':Hp}{m:Mc}{r:Rn}(M:qM C H m r)(t:Tk H H')(h:∀b o,H b=some o→b=m.x∨b=m.db∨b=m.dg→H' b=some o):qM C H' m r:=by
 obtain⟨dx,fs,rv,ru,tv,gv,e,f,i,j,⟨ff,eb,ib⟩,g,gl,it⟩:=M
 exact⟨dx,fs,rv,ru,tv,gv,h _ _ e (.inl rfl),f,i.mono t,j.mono t,⟨ff,h _ _ eb (.inr (.inl rfl)),fun z hz=>(ib z hz).mono t⟩,h _ _ g (.inr (.inr rfl)),gl.mono t,it.mono t⟩
structure Ap (m m2:Mc):Prop where
 x:m.x≠m2.x∧m.db≠m2.x∧m.dg≠m2.x
 b:m.x≠m2.db∧m.db≠m2.db∧m.dg≠m2.db
 g:m.x≠m2.dg∧m.db≠m2.dg∧m.dg≠m2.dg
theorem Ap.symm {m m2:Mc}(h:Ap m m2):Ap m2 m:=⟨⟨h.x.1.symm,h.b.1.symm,h.g.1.symm⟩,⟨h.x.2.1.symm,h.b.2.1.symm,h.g.2.1.symm⟩,⟨h.x.2.2.symm,h.b.2.2.symm,h.g.2.2.symm⟩⟩
theorem qM.there {C:Addr}{H:Hp}{m:Mc}{r:Rn}(M:qM C H m r){q:Addr}(h:H q=none):m.x≠q∧m.db≠q∧m.dg≠q:=by
 obtain⟨dx,fs,rv,ru,tv,gv,e,f,i,j,⟨ff,eb,ib⟩,g,gl,it⟩:=M
 exact⟨ql e h,ql eb h,ql g h⟩
theorem qM.ap {C:Addr}{H:Hp}{m m2:Mc}{r:Rn}(M:qM C H m r)(h1:H m2.x=none)(h2:H m2.db=none)(h3:H m2.dg=none):Ap m m2:=⟨M.there h1,M.there h2,M.there h3⟩
theorem qM.mv {C:Addr}{H H':Hp}{m m2:Mc}{r:Rn}(M:qM C H m r)(v:Mv m2 H H')(n:Ap m m2):qM C H' m r:=
 M.keep v.tk fun b o e hb=>by
  rcases hb with rfl|rfl|rfl
  ·exact v.kept _ _ e n.x.1 n.b.1 n.g.1
  ·exact v.kept _ _ e n.x.2.1 n.b.2.1 n.g.2.1
  ·exact v.kept _ _ e n.x.2.2 n.b.2.2 n.g.2.2
end K14
namespace K14
open PySem L2 PyProof.Rows
theorem fr {H Ha:Hp}{b:Addr}(s:Same H Ha)(h:Ha b=none):H b=none:=by
 cases hc:H b with
 |none=>rfl
 |some o=>rw [s _ _ hc] at h;cases h
theorem same_mv {H H1 H2:Hp}{m:Mc}(s:Same H H1)(v:Mv m H1 H2)(h1:H m.x=none)(h2:H m.db=none)(h3:H m.dg=none):Same H H2:=fun b o e=>v.kept b o (s b o e) (ql e h1) (ql e h2) (ql e h3)
theorem xv {C:Addr}{H:Hp}{v:V}{rs:List Rw}{own:Str}{Q:VK}{E:XK}{x dx:Addr}(hv:Is H (Yb rs) v)(hR:Q2 rs)(hnm:nm own=true)(hol:own.length≤100)(hx:H x=none)(hdx:H dx=none)(q:∀(db dg:Addr) (H':Hp),H db=none→H dg=none→Same H H'→qM C H' ⟨x,db,dg,rs,own⟩ (qw rs own [])→Q .non H'):
  jP C [.ref x,v,.str own] (upd (upd H dx (.own x)) x (.ins C dx [])) Q E:=by
 have s0:Same H (upd (upd H dx (.own x)) x (.ins C dx [])):=fun b o h=>by rw [qD (ql h hx),qD (ql h hdx)];exact h
 exact⟨x,dx,v,rs,own,rfl,qj,hR,hv.mono s0.tk,hnm,hol,fun H1 db dg kept hdb hdg M1=>q db dg H1 (fr s0 hdb) (fr s0 hdg) (fun b o h=>kept b o (s0 b o h) (ql h hx)) M1⟩
theorem qM.m {C:Addr}{H:Hp}{m:Mc}{r:Rn}{n:Str}{p:Prop}(M:qM C H m r)(hn:n∈MTH)(q:p):∃a dx fs,V.ref m.x= .ref a∧H a=some (.ins C dx fs)∧fs.lookup n=none∧p:=by
 obtain⟨dx,fs,rv,ru,tv,gv,e,f,r⟩:=M
 exact⟨m.x,dx,fs,rfl,e,f.meth _ hn,q⟩
theorem an_at {C:Addr}{H:Hp}{m:Mc}{as:List D}{k:Nat}{an:D}{v:V}{Q:VK}{E:XK}(hR:Q2 m.rs)(hol:m.own.length≤100)(hV:Val m.rs m.own as)(hk:as[k]? =some an)(M:qM C H m (qw m.rs m.own (as.take k)))(iv:Is H an v)
  (q:∀H',Mv m H H'→qM C H' m (qw m.rs m.own (as.take (k+1)))→Q .non H'):xt C [.ref m.x,v] H Q E:=by
 obtain⟨u,d,eth,ha⟩:=hV k an hk
 refine⟨m,_,v,u,d,an,rfl,M,QT hR (hV.take k).ok,eth,iv,ha,hR,hol,fun H' mv M'=>q H' mv ?_⟩
 have e:as.take (k+1)=as.take k++ [an]:=by rw [List.take_add_one,hk];rfl
 rw [e,Xd an (wt eth)]
 exact M'
theorem wr {C:Addr}{H:Hp}{m:Mc}{as:List D}{u:Str}{d an:D}{v:V}{Q:VK}{E:XK}(hR:Q2 m.rs)(hol:m.own.length≤100)(hV:Val m.rs m.own as)(eth:(qw m.rs m.own as).th= .tup [.str "asks",.tup [.str u,d]])(ha:Jl u an)(M:qM C H m (qw m.rs m.own as))(iv:Is H an v)
  (q:∀H',Mv m H H'→qM C H' m (qw m.rs m.own (as++ [an]))→Val m.rs m.own (as++ [an])→Q .non H'):xt C [.ref m.x,v] H Q E:=by
 refine⟨m,_,v,u,d,an,rfl,M,QT hR hV.ok,eth,iv,ha,hR,hol,fun H' mv M'=>q H' mv ?_ (hV.snoc eth ha)⟩
 rw [Xd an (wt eth)]
 exact M'
theorem for_en {K:PySem.W.Frag}{a:Addr}{c:Int}{xs:List V}{g:TG}{tb:TS}{D:Ends}{σ:L2.St}{H:Hp}(Pv:Nat→L2.St→Hp→Prop)(h0:Pv 0 σ H)(hl:∀i σ H,i≤xs.length→Pv i σ H→SqT K H a xs)
  (hs:∀i x σ H p,xs[i]? =some x→Pv i σ H→H p=none→g (.ref p) σ (upd H p (.tup [.int (c+i),x])) fun σ2 H2=>tb {D with nx:=Pv (i+1),ct:=Pv (i+1),bk:=D.nx} σ2 H2) (hd:∀σ H,Pv xs.length σ H→D.nx σ H):
  ∃W:Nat→Nat→L2.St→Hp→Prop,(∃m,W 0 m σ H)∧∀i m σ H,W i m σ H→
   ((Ite K a c).stop i H∧D.nx σ H)∨((Ite K a c).go i H∧∃N:L2.St→Hp→Prop,(∀σ' H',N σ' H'→∃m',m'<m∧W (i+1) m' σ' H')∧∀x H',(Ite K a c).yld i H x H'→g x σ H' fun σ2 H2=>tb {D with nx:=N,ct:=N,bk:=D.nx} σ2 H2):=by
 refine⟨fun i m σ H=>m=xs.length-i∧i≤xs.length∧Pv i σ H,⟨xs.length,by simp,Nat.zero_le _,h0⟩,?_⟩
 rintro i m σ H ⟨rfl,hi,p⟩
 have q:=hl i σ H hi p
 by_cases hlt:i<xs.length
 ·refine .inr ⟨⟨xs,xs[i],q,by simp [hlt]⟩,Pv (i+1),fun σ' H' p'=>⟨xs.length-(i+1),by omega,rfl,hlt,p'⟩,fun x H' y=> ?_⟩
  obtain⟨p2,y2,rfl,hp,rfl,y⟩:=y
  exact hs i y2 σ _ p2 (y xs q) p hp
 ·have e:i=xs.length:=by omega
  subst e
  exact .inl ⟨⟨xs,q,rfl⟩,hd σ H p⟩
def sp_repl:Sp:=fun vs H Q _=>∃(v av:V) (own:Str) (rs:List Rw) (as:List D),vs= [v,.str own,av]∧Is H (Yb rs) v∧Q2 rs∧nm own=true∧own.length≤100∧Is H (.tup as) av∧Val rs own as∧∀(u:V) (H':Hp),Same H H'→Is H' (.tup [.tup (qw rs own as).gs,(qw rs own as).th,.int 0]) u→Q u H'
def sp_stnd (C:Addr):Sp:=fun vs H Q _=>∃(m:Mc) (v:V) (as:List D),vs= [.ref m.x,v]∧qM C H m (qw m.rs m.own [])∧Q2 m.rs∧m.own.length≤100∧Val m.rs m.own as∧Is H (.tup (qw m.rs m.own as).gs) v∧∀H',Mv m H H'→qM C H' m (qw m.rs m.own as)→Q (.int (as.length:Int)) H'
def sp_does:Sp:=fun vs H Q _=>∃(v rv:V) (own:Str) (rs:List Rw) (as:List D) (e:D),vs= [v,.str own,rv]∧Is H (Yb rs) v∧Q2 rs∧nm own=true∧own.length≤100∧Val rs own as∧Is H (.tup [.tup (qw rs own as).gs,e]) rv∧(Q1 (qw rs own as).th=true∨e=(qw rs own as).th)∧∀H',Same H H'→Q (.bl (!Q1 (qw rs own as).th)) H'
section
variable {P:Program}{w:World}{K:PySem.W.Frag}{mg:Str→Option Value}{base:Heap}{a:Ad}{g:Ga}
theorem ok_repl (T:Tx K mg a)(C:Fx K w mg g a):FnOk P w K mg base CX0 8 a.Jy a.JH ["rule","own","answers"] sp_repl:=by
 have qO:FnOk P w K mg base CX0 6 a.Qv a.QA ["self","rule","own"] (jP a.qd):=xu T C
 have qC:FnOk P w K mg base CX0 1 a.Qt a.Qu ["self"] (Jb a.qd):=ze T
 have qI:FnOk P w K mg base CX0 1 a.Qx a.Qw ["self"] (xB a.qd):=X8 T
 have qZ:FnOk P w K mg base CX0 1 a.Qc a.Qb ["self"] (XW a.qd):=ZZ T
 have qy:FnOk P w K mg base CX0 6 a.Qq a.Qr ["self","tree"] (xt a.qd):=ok_ans T C
 refine T.xz.ok j6 (fun vs H Q E h=> ?_) (fun cdv A outer s H vs Q E hr h=> ?_)
 ·obtain⟨v,av,own,rs,as,rfl,_⟩:=h
  rfl
 obtain⟨v,av,own,rs,as,rfl,hv,hR,hnm,hol,ia,hV,k⟩:=h
 refine⟨_,(@qb _ _ _ _ _ (@qx _ _ (3) _ _ _ _ j6.nd rfl (Or.inl rfl) (@jm _ _ _ _ _ _ _ _ _ _ _ _ _ _ _ _ _ T.yx qO (hr.mono (by first|decide|omega)) (by rfl) T.yy T.Qn .nil qr (@qa _ _ _ _ _ (pv 0) (@qa _ _ _ _ _ (pv 1) (@qc _) (by trivial)) (by trivial)) (by trivial) (by trivial) (by trivial)) (by trivial) (by trivial)) (@qb _ _ _ _ _ (@qx _ _ (4) _ _ _ _ j6.nd rfl (Or.inl rfl) (@qi _ _ _ _) (by trivial) (by trivial)) (@qb _ _ _ _ _ (@XO _ _ _ _ _ _ PassesOwn.never (@pw_and _ _ _ _ _ _ _ (@qo _ _ _ _ _ _ _ _ (@op_lt _) (pv 4) (@qp _ _ _ _ _ _ _ _ _ (@qE _) (by rfl) T.yS PySem.boot_len (@qa _ _ _ _ _ (pv 2) (@qc _) (by trivial)) (by trivial) (by trivial) (by trivial) (by trivial)) (qF _)) (@Z9 _ _ _ _ (@QY _ _ _ (@qJ _ _ _ _ _ _ _ _ _ _ _ _ _ _ _ _ _ (pv 3) T.qf T.QS qZ (hr.mono (by first|decide|omega)) T.QR .nil qr (by trivial)) (by trivial)))).pt (@qb _ _ _ _ _ (@QP _ _ _ _ (@yV _ _ _ _ _ _ _ _ _ _ _ _ _ _ _ _ _ _ _ _ (pv 3) T.qf T.qL qy (hr.mono (by first|decide|omega)) T.qK .nil qr (@qa _ _ _ _ _ (@qQ _ _ _ _ _ _ _ (@qX _) (pv 2) (pv 4) (fun _ _=>rfl)) (@qc _) (by trivial)) (by trivial) (by trivial) (by trivial)) (by trivial)) (@qg _ _ _ (@ps_aug _ _ (4) _ _ _ _ _ _ j6.nd rfl (Or.inl rfl) (@qi _ _ _ _) ip_add (by trivial))))) (@qg _ _ _ (@qm _ _ _ _ (@Qf _ _ _ _ _ (@qa _ _ _ _ _ (@qJ _ _ _ _ _ _ _ _ _ _ _ _ _ _ _ _ _ (pv 3) T.qf T.qW qI (hr.mono (by first|decide|omega)) T.qV .nil qr (by trivial)) (@qa _ _ _ _ _ (@qJ _ _ _ _ _ _ _ _ _ _ _ _ _ _ _ _ _ (pv 3) T.qf T.qS qC (hr.mono (by first|decide|omega)) T.qT .nil qr (by trivial)) (@qa _ _ _ _ _ (@Qa _ _ _ _ _ _ _ _ (@op_sub _) (@qp _ _ _ _ _ _ _ _ _ (@qE _) (by rfl) T.yS PySem.boot_len (@qa _ _ _ _ _ (pv 2) (@qc _) (by trivial)) (by trivial) (by trivial) (by trivial) (by trivial)) (pv 4)) (@qc _) (by trivial)) (by trivial)) (by trivial)))))))),?_⟩
 obtain⟨pa,us,rfl,epa,iu⟩:=ia
 have hul:us.length=as.length:=iu.length
 have three:(3:Nat)≤sizeLine:=by decide
 refine⟨_,rfl,_,rfl,fun x dx hx hdx _=>xv hv hR hnm hol hx hdx fun db dg H1 hdb hdg S1 M1=>⟨rfl,?_⟩⟩
 refine⟨fun m σ H'=>∃(i:Nat),σ= [some v,some (.str own),some (.ref pa),some (.ref x),some (.int (i:Int))]∧i≤as.length∧m=as.length-i∧qM a.qd H' ⟨x,db,dg,rs,own⟩ (qw rs own (as.take i))∧Same H H',⟨_,0,rfl,Nat.zero_le _,rfl,M1,S1⟩,?_⟩
 rintro m σ H' ⟨i,rfl,hi,rfl,M,sm⟩
 have hO:=QT (own:=own) hR (hV.take i).ok
 have epa':=sm _ _ epa
 refine⟨_,rfl,_,rfl,pa,us,rfl,.inr (SqT.of epa'),_,_,rfl,rfl,_,rfl,?_⟩
 refine ite2 (fun c=> ?_) (fun c=> ?_)
 ·have hlt:i<as.length:=by have:=of_decide_eq_true c;omega
  obtain⟨an,hk⟩:∃an,as[i]? =some an:=⟨as[i],by simp [hlt]⟩
  obtain⟨u,d,eth,ha⟩:=hV i an hk
  refine⟨_,rfl,M.m (by decide+kernel) ⟨⟨x,db,dg,rs,own⟩,_,rfl,M,.inr hO.two,_,rfl,Qy (wt eth) ?_⟩⟩
  refine⟨fun σ' H2=>σ'= [some v,some (.str own),some (.ref pa),some (.ref x),some (.int ((i+1:Nat):Int))]∧qM a.qd H2 ⟨x,db,dg,rs,own⟩ (qw rs own (as.take (i+1)))∧Same H H2,?_,?_⟩
  ·rintro σ' H2 ⟨rfl,M2,s2⟩
   exact⟨as.length-(i+1),by omega,i+1,rfl,by omega,rfl,M2,s2⟩
  ·refine⟨_,rfl,M.m (by decide+kernel) ⟨_,rfl,_,rfl,yw (i:=(i:Int)) (ds:=as) (d:=an) ⟨pa,us,rfl,epa',iu.mono sm.tk⟩ (Qe hk) fun y hy=> ?_⟩⟩
   unfold tNil
   refine an_at (m:=⟨x,db,dg,rs,own⟩) hR hol hV hk M hy fun H2 mv M2=> ?_
   exact⟨_,rfl,_,_,rfl,rfl,rfl,M2,same_mv sm mv hx hdb hdg⟩
 ·have hie:i=as.length:=by have:¬((i:Int)<us.length):=fun h=>c (decide_eq_true h);omega
  subst hie
  rw [List.take_length] at M
  refine⟨_,rfl,M.m (by decide+kernel) ⟨⟨x,db,dg,rs,own⟩,_,rfl,M,fun v1 H2 s2 i2=> ?_⟩⟩
  have M2:=M.same s2
  refine⟨_,rfl,M2.m (by decide+kernel) ⟨⟨x,db,dg,rs,own⟩,_,rfl,M2,fun v2 i3=> ?_⟩⟩
  refine⟨_,rfl,pa,us,rfl,.inr (SqT.of (s2 _ _ epa')),_,rfl,_,_,rfl,rfl,three,fun l hl=> ?_⟩
  have q:=qe hl (.tup [v1,v2,.int ((us.length:Int)-(as.length:Int))])
  refine k _ _ (sm.trans (s2.trans q)) (Is.new (ds:= [.tup (qw rs own as).gs,(qw rs own as).th,.int 0]) ⟨_,_,rfl,i2,_,_,rfl,i3,_,_,rfl,?_,rfl⟩ hl)
  show V.int ((us.length:Int)-(as.length:Int))= .int 0
  rw [hul,Int.sub_self]
theorem ok_stnd (T:Tx K mg a)(C:Fx K w mg g a):FnOk P w K mg base CX0 8 a.yr a.yp ["machine","asks"] (sp_stnd a.qd):=by
 have qC:FnOk P w K mg base CX0 1 a.Qt a.Qu ["self"] (Jb a.qd):=ze T
 have qy:FnOk P w K mg base CX0 6 a.Qq a.Qr ["self","tree"] (xt a.qd):=ok_ans T C
 refine T.ju.ok yX (fun vs H Q E h=> ?_) (fun cdv A outer s H vs Q E hr h=> ?_)
 ·obtain⟨m,v,as,rfl,_⟩:=h
  rfl
 obtain⟨⟨x,db,dg,rs,own⟩,v,as,rfl,M0,hR,hol,hV,iv,k⟩:=h
 simp only at M0 hR hol hV iv k
 refine⟨_,(@qb _ _ _ _ _ (@jf _ _ _ _ _ _ _ _ PassesOwn.never rfl (@pi_enum0 _ _ _ _ _ _ _ _ (by rfl) T.z_enumerate (pv 1) (by trivial)) (@pg_tup _ _ _ _ _ _ rfl (yQ (@Qm _ _ (2) _ yX.nd rfl (Or.inl rfl) (by trivial)) (yQ (@Qm _ _ (3) _ yX.nd rfl (Or.inl rfl) (by trivial)) zD)) (by trivial) (by trivial)) (@qb _ _ _ _ _ (@qY _ _ _ _ _ _ _ _ (@qo _ _ _ _ _ _ _ _ (@op_neR _ hr.units) (@qJ _ _ _ _ _ _ _ _ _ _ _ _ _ _ _ _ _ (pv 0) T.qf T.qS qC (hr.mono (by first|decide|omega)) T.qT .nil qr (by trivial)) (@Qf _ _ _ _ _ (@qa _ _ _ _ _ (@qk _ _ _ _) (@qa _ _ _ _ _ (@qQ _ _ _ _ _ _ _ (@qX _) (pv 3) (@qi _ _ _ _) (fun _ _=>rfl)) (@qc _) (by trivial)) (by trivial))) (qF _)) (@qg _ _ _ (@qm _ _ _ _ (pv 2))) (@qt _)) (@qg _ _ _ (@ps_tryN _ _ _ _ _ _ (@qg _ _ _ (@QP _ _ _ _ (@yV _ _ _ _ _ _ _ _ _ _ _ _ _ _ _ _ _ _ _ _ (pv 0) T.qf T.qL qy (hr.mono (by first|decide|omega)) T.qK .nil qr (@qa _ _ _ _ _ (@qQ _ _ _ _ _ _ _ (@qX _) (pv 3) (@qi _ _ _ _) (fun _ _=>rfl)) (@qc _) (by trivial)) (by trivial) (by trivial) (by trivial)) (by trivial)))))) (by trivial)) (@qg _ _ _ (@qm _ _ _ _ (@qp _ _ _ _ _ _ _ _ _ (@qE _) (by rfl) T.yS PySem.boot_len (@qa _ _ _ _ _ (pv 1) (@qc _) (by trivial)) (by trivial) (by trivial) (by trivial) (by trivial))))),?_⟩
 obtain⟨pa,us,rfl,epa,iu⟩:=iv
 have hul:us.length=as.length:=by rw [iu.length,Xw hV]
 have two:(2:Nat)≤sizeLine:=by decide
 refine⟨_,rfl,pa,us,rfl,SqT.of epa,fun hsz=> ?_⟩
 refine for_en (c:=0) (xs:=us) (fun i σ H'=>∃x2 x3:Option V,σ= [some (.ref x),some (.ref pa),x2,x3]∧i≤as.length∧qM a.qd H' ⟨x,db,dg,rs,own⟩ (qw rs own (as.take i))∧Mv ⟨x,db,dg,rs,own⟩ H H') ⟨_,_,rfl,Nat.zero_le _,M0,Mv.refl _ _⟩ (fun i σ H' hi ⟨_,_,_,_,_,mv⟩=>SqT.of (mv.tk.tup _ _ epa)) ?_ ?_
 ·rintro i y σ H' p hy ⟨x2,x3,rfl,hi,M,mv⟩ hp
  have hlt:i<as.length:=by rw [←hul];exact(List.getElem?_eq_some_iff.mp hy).1
  obtain⟨an,hk⟩:∃an,as[i]? =some an:=⟨as[i],by simp [hlt]⟩
  obtain⟨u,d,eth,ha,hg⟩:=ZI hV hk
  have hO:=QT (own:=own) hR (hV.take i).ok
  have s1:=qe hp (.tup [.int (0+(i:Int)),y])
  have M1:=M.same s1
  have mv1:=mv.trans (Mv.of s1)
  have e1:(upd H' p (.tup [.int (0+(i:Int)),y])) p=some (.tup [.int (0+(i:Int)),y]):=qj
  generalize upd H' p (.tup [.int (0+(i:Int)),y])=H1 at s1 M1 mv1 e1⊢
  obtain⟨y',hy',iy⟩:=iu.get hg
  rw [hy] at hy'
  cases hy'
  have iy1:=iy.mono mv1.tk
  refine⟨p,_,rfl,SqT.of e1,rfl,_,_,rfl,_,_,rfl,rfl,?_⟩
  refine⟨_,rfl,M1.m (by decide+kernel) ⟨⟨x,db,dg,rs,own⟩,_,rfl,M1,fun v5 i5=> ?_⟩⟩
  refine⟨_,rfl,yw (i:=0) (d:= .tup [.str u,d]) iy1 (Qe (j:=0) rfl) fun q hq=>⟨two,fun l hl=> ?_⟩⟩
  have s2:=qe hl (.tup [.str "asks",q])
  have hgd:=hO.gd
  rw [eth] at i5 hgd
  have hgd1:=Xp hgd.1
  simp only [nD] at hgd1
  have hgd2:dpL [.str "asks",.tup [.str u,d]]≤60:=by
   have:=hgd.2
   simp only [dp] at this
   omega
  refine⟨_,i5.mono s2.tk,Is.new (ds:= [.str "asks",.tup [.str u,d]]) ⟨_,_,rfl,⟨rfl,yg (by decide)⟩,_,_,rfl,hq,rfl⟩ hl,hgd1,hgd2,_,rfl,iteF ?_⟩
  have M2:=M1.same s2
  refine⟨_,rfl,M2.m (by decide+kernel) ⟨_,rfl,yw (i:=1) (d:=an) (iy1.mono s2.tk) (Qe (j:=1) rfl) fun z hz=> ?_⟩⟩
  refine an_at (m:=⟨x,db,dg,rs,own⟩) hR hol hV hk M2 hz fun H3 mv3 M3=> ?_
  exact⟨_,_,rfl,hlt,M3,mv1.trans ((Mv.of s2).trans mv3)⟩
 ·rintro σ H' ⟨x2,x3,rfl,hi,M,mv⟩
  rw [hul,List.take_length] at M
  refine⟨_,rfl,pa,us,rfl,.inr (SqT.of (mv.tk.tup _ _ epa)),?_⟩
  rw [hul]
  exact k _ mv M
theorem ok_does (T:Tx K mg a)(C:Fx K w mg g a):FnOk P w K mg base CX0 10 a.f_does a.d_does ["rule","own","run"] sp_does:=by
 have qO:FnOk P w K mg base CX0 6 a.Qv a.QA ["self","rule","own"] (jP a.qd):=xu T C
 have Xe:FnOk P w K mg base CX0 8 a.yr a.yp ["machine","asks"] (sp_stnd a.qd):=ok_stnd T C
 have qC:FnOk P w K mg base CX0 1 a.Qt a.Qu ["self"] (Jb a.qd):=ze T
 have qZ:FnOk P w K mg base CX0 1 a.Qc a.Qb ["self"] (XW a.qd):=ZZ T
 refine T.F_does.ok sc_does (fun vs H Q E h=> ?_) (fun cdv A outer s H vs Q E hr h=> ?_)
 ·obtain⟨v,rv,own,rs,as,e,rfl,_⟩:=h
  rfl
 obtain⟨v,rv,own,rs,as,e,rfl,hv,hR,hnm,hol,hV,ir,he,k⟩:=h
 refine⟨_,(@qb _ _ _ _ _ (@qx _ _ (3) _ _ _ _ sc_does.nd rfl (Or.inl rfl) (@jm _ _ _ _ _ _ _ _ _ _ _ _ _ _ _ _ _ T.yx qO (hr.mono (by first|decide|omega)) (by rfl) T.yy T.Qn .nil qr (@qa _ _ _ _ _ (pv 0) (@qa _ _ _ _ _ (pv 1) (@qc _) (by trivial)) (by trivial)) (by trivial) (by trivial) (by trivial)) (by trivial) (by trivial)) (@qb _ _ _ _ _ (@qY _ _ _ _ _ _ _ _ (@qo _ _ _ _ _ _ _ _ (@op_lt _) (@qq _ _ _ _ _ _ _ _ _ _ _ _ _ _ _ _ Xe (hr.mono (by first|decide|omega)) (by rfl) T.xO T.ju.kp T.xZ .nil qr (@qa _ _ _ _ _ (pv 3) (@qa _ _ _ _ _ (@qQ _ _ _ _ _ _ _ (@qX _) (pv 2) (@qi _ _ _ _) (fun _ _=>rfl)) (@qc _) (by trivial)) (by trivial)) (by trivial) (by trivial) (by trivial)) (@qp _ _ _ _ _ _ _ _ _ (@qE _) (by rfl) T.yS PySem.boot_len (@qa _ _ _ _ _ (@qQ _ _ _ _ _ _ _ (@qX _) (pv 2) (@qi _ _ _ _) (fun _ _=>rfl)) (@qc _) (by trivial)) (by trivial) (by trivial) (by trivial) (by trivial)) (qF _)) (@qg _ _ _ (@qm _ _ _ _ (@Y8 _ _ _ _))) (@qt _)) (@qg _ _ _ (@qm _ _ _ _ (@pe_and _ _ _ _ _ _ _ (@pe_not _ _ _ _ (@qJ _ _ _ _ _ _ _ _ _ _ _ _ _ _ _ _ _ (pv 3) T.qf T.QS qZ (hr.mono (by first|decide|omega)) T.QR .nil qr (by trivial))) (@pe_one _ _ _ _ _ (@Y0 _ _ _ _ _ _ _ _ (@op_eqR _ hr.units) (@qJ _ _ _ _ _ _ _ _ _ _ _ _ _ _ _ _ _ (pv 3) T.qf T.qS qC (hr.mono (by first|decide|omega)) T.qT .nil qr (by trivial)) (@qQ _ _ _ _ _ _ _ (@qX _) (pv 2) (@qi _ _ _ _) (fun _ _=>rfl)) (qF _)))))))),?_⟩
 have hO:=QT (own:=own) hR hV.ok
 refine⟨_,rfl,_,rfl,fun x dx hx hdx _=>xv hv hR hnm hol hx hdx fun db dg H1 hdb hdg S1 M1=>⟨rfl,?_⟩⟩
 refine⟨_,rfl,_,rfl,yw (i:=0) (d:= .tup (qw rs own as).gs) (ir.mono S1.tk) (Qe (j:=0) rfl) fun q hq=> ?_⟩
 refine⟨⟨x,db,dg,rs,own⟩,q,as,rfl,M1,hR,hol,hV,hq,fun H2 mv M2=> ?_⟩
 have S2:=same_mv S1 mv hx hdb hdg
 refine⟨_,rfl,yw (i:=0) (d:= .tup (qw rs own as).gs) (ir.mono S2.tk) (Qe (j:=0) rfl) fun q2 hq2=> ?_⟩
 obtain⟨p2,us2,rfl,ep2,iu2⟩:=hq2
 have hul:us2.length=as.length:=by rw [iu2.length,Xw hV]
 refine⟨p2,us2,rfl,.inr (SqT.of ep2),_,_,rfl,rfl,_,rfl,qA (by rw [hul];exact decide_eq_false (Int.lt_irrefl _)) ?_⟩
 refine⟨_,rfl,M2.m (by decide+kernel) ⟨⟨x,db,dg,rs,own⟩,_,rfl,M2,.inr hO.two,_,rfl,_,rfl,?_⟩⟩
 cases hw:Q1 (qw rs own as).th with
 |true=>
  refine iteF ?_
  have:=k _ S2
  rw [hw] at this
  exact this
 |false=>
  refine iteT ?_
  have he:e=(qw rs own as).th:=he.resolve_left (by rw [hw];decide)
  subst he
  refine⟨_,rfl,M2.m (by decide+kernel) ⟨⟨x,db,dg,rs,own⟩,_,rfl,M2,fun v5 i5=> ?_⟩⟩
  refine⟨_,rfl,?_⟩
  unfold tC
  refine yw (i:=1) (d:=(qw rs own as).th) (ir.mono S2.tk) (Qe (j:=1) rfl) fun q3 hq3=> ?_
  obtain⟨wd,ed,eth⟩:=hO.two
  have hgd:=hO.gd
  rw [eth] at i5 hq3 hgd
  have hgd1:=Xp hgd.1
  simp only [nD] at hgd1
  have hgd2:dpL [.str wd,ed]≤60:=by
   have:=hgd.2
   simp only [dp] at this
   omega
  refine⟨_,i5,hq3,hgd1,hgd2,?_⟩
  have:=k _ S2
  rw [hw] at this
  exact this
end
end K14
namespace K14
open PySem L2 PyProof.Rows
theorem sl_to {K:PySem.W.Frag}{H:Hp}{v:V}{ds:List D}{n:Nat}{Q:VK}(iv:Is H (.tup ds) v)(hn:n≤ds.length)(q:∀u H',Same H H'→Is H' (.tup (ds.take n)) u→Q u H'):rSlG K v none (some (n:Int)) H Q:=by
 obtain⟨p,vs,rfl,ep,il⟩:=iv
 have hl:vs.length=ds.length:=il.length
 refine⟨p,vs,rfl,SqT.of ep,fun h=> ?_,fun h l hl2=> ?_⟩
 ·have e:n=ds.length:=by
   have:=h.2
   rw [HT.sIx_nat] at this
   omega
  subst e
  exact q _ _ (Same.refl _) ⟨p,vs,rfl,ep,by rw [List.take_length];exact il⟩
 ·rw [zi (by omega)]
  exact q _ _ (qe hl2 _) (Is.new (il.take n) hl2)
theorem sl_from {K:PySem.W.Frag}{H:Hp}{v:V}{ds:List D}{n:Nat}{Q:VK}(iv:Is H (.tup ds) v)(hn:n≤ds.length)(q:∀u H',Same H H'→Is H' (.tup (ds.drop n)) u→Q u H'):rSlG K v (some (n:Int)) none H Q:=by
 obtain⟨p,vs,rfl,ep,il⟩:=iv
 have hl:vs.length=ds.length:=il.length
 refine⟨p,vs,rfl,SqT.of ep,fun h=> ?_,fun h l hl2=> ?_⟩
 ·have e:n=0∨n=ds.length∧ds.length=0:=by
   have:=h.1
   rw [HT.sIx_nat] at this
   omega
  have e:n=0:=by omega
  subst e
  exact q _ _ (Same.refl _) ⟨p,vs,rfl,ep,il⟩
 ·rw [J5 (by omega)]
  exact q _ _ (qe hl2 _) (Is.new (il.drop n) hl2)
theorem cat_is {K:PySem.W.Frag}{H:Hp}{v u:V}{ds es:List D}{Q:VK}(iv:Is H (.tup ds) v)(iu:Is H (.tup es) u)(hl:ds.length+es.length≤sizeLine)(q:∀z H',Same H H'→Is H' (.tup (ds++es)) z→Q z H'):rCatG K v u H Q:=by
 obtain⟨p,vs,rfl,ep,il⟩:=iv
 obtain⟨p2,us,rfl,ep2,il2⟩:=iu
 have h1:vs.length=ds.length:=il.length
 have h2:us.length=es.length:=il2.length
 refine⟨p,p2,vs,us,rfl,rfl,SqT.of ep,SqT.of ep2,by omega,fun h=> ?_,fun _ h=> ?_,fun _ _ l hl2=> ?_⟩
 ·subst h
  have e:ds= []:=List.eq_nil_of_length_eq_zero h1.symm
  subst e
  exact q _ _ (Same.refl _) ⟨p2,us,rfl,ep2,il2⟩
 ·subst h
  have e:es= []:=List.eq_nil_of_length_eq_zero h2.symm
  subst e
  rw [List.append_nil] at q
  exact q _ _ (Same.refl _) ⟨p,vs,rfl,ep,il⟩
 ·exact q _ _ (qe hl2 _) (Is.new (il.append il2) hl2)
structure Np (m:Mc)(p:Addr):Prop where
 x:p≠m.x
 b:p≠m.db
 g:p≠m.dg
theorem Np.fresh {H:Hp}{m:Mc}{p:Addr}{o:HO}(e:H p=some o)(h1:H m.x=none)(h2:H m.db=none)(h3:H m.dg=none):Np m p:=⟨ql e h1,ql e h2,ql e h3⟩
theorem Mv.at {m:Mc}{H H':Hp}(v:Mv m H H'){p:Addr}(n:Np m p){o:HO}(e:H p=some o):H' p=some o:=v.kept _ _ e n.x n.b n.g
theorem QD.mv {m:Mc}{H H':Hp}{p:Addr}(h:QD H p)(v:Mv m H H')(n:Np m p):QD H' p:=by
 obtain⟨x,e,h0⟩:=h
 exact⟨x,v.at n e,h0⟩
theorem qM.kept {C:Addr}{H H':Hp}{m:Mc}{r:Rn}{p:Addr}(M:qM C H m r)(k:Kept p H H')(t:Tk H H')(n:Np m p):qM C H' m r:=
 M.keep t fun b o e hb=>by
  rcases hb with rfl|rfl|rfl
  ·exact k _ _ e n.x.symm
  ·exact k _ _ e n.b.symm
  ·exact k _ _ e n.g.symm
structure Kp (p:Addr)(ms:List Mc)(H H':Hp):Prop where
 kept:∀b o,H b=some o→b≠p→(∀m∈ms,Np m b)→H' b=some o
 tk:Tk H H'
theorem Kp.refl (p:Addr)(ms:List Mc)(H:Hp):Kp p ms H H:=⟨fun _ _ h _ _=>h,Tk.refl H⟩
theorem Kp.trans {p:Addr}{ms:List Mc}{H H1 H2:Hp}(a:Kp p ms H H1)(b:Kp p ms H1 H2):Kp p ms H H2:=⟨fun c o h n1 n2=>b.kept c o (a.kept c o h n1 n2) n1 n2,a.tk.trans b.tk⟩
theorem Kp.of {p:Addr}{ms:List Mc}{H H':Hp}(s:Same H H'):Kp p ms H H':=⟨fun b o h _ _=>s b o h,s.tk⟩
theorem Kp.mv {p:Addr}{ms:List Mc}{H H':Hp}{m:Mc}(v:Mv m H H')(hm:m∈ms):Kp p ms H H':=⟨fun b o h _ n=>v.at (n m hm) h,v.tk⟩
theorem Kp.pot {p:Addr}{ms:List Mc}{H H':Hp}(k:Kept p H H')(t:Tk H H'):Kp p ms H H':=⟨fun b o h n _=>k b o h n,t⟩
section
variable {P:Program}{w:World}{K:PySem.W.Frag}{mg:Str→Option Value}{base:Heap}{a:Ad}{g:Ga}
theorem t_ask {C:Addr}{H:Hp}{m:Mc}{r:Rn}{D:Ends}{i:Nat}{σ:L2.St}{t1 t2:TS}(hσ:σ[i]? =some (some (.ref m.x)))(M:qM C H m r)(hO:RnOk m.rs r)(q1:∀(u:Str) (d:L2.D),r.th= .tup [.str "asks",.tup [.str u,d]]→u∈(["thing","has","names"]:List Str)→t1 D σ H)(q2:Q1 r.th=false→t2 D σ H):
  tIfS (tTest (tOp rEq (tOp (rIx K) (tMeth C "now" (Jb C) [] E0 (tVar i) tNil) (tC (.int 0))) (tC (.str "asks")))) t1 t2 D σ H:=by
 obtain⟨wd,ed,eth⟩:=hO.two
 refine⟨_,hσ,M.m (by decide+kernel) ⟨m,_,rfl,M,fun v5 i5=> ?_⟩⟩
 rw [eth] at i5
 refine .inr (.inl (yw (i:=0) (d:= .str wd) i5 (Qe (j:=0) rfl) fun y hy=> ?_))
 obtain⟨rfl,_⟩:=hy
 refine⟨rfl,_,rfl,?_⟩
 have ew:decide (V.str wd=V.str ("asks":Str))=decide (wd="asks"):=by
  rw [decide_eq_decide]
  exact⟨fun h=>by injection h,fun h=>by rw [h]⟩
 have hwt:Q1 r.th=decide (wd="asks"):=by rw [eth];rfl
 rw [ew]
 by_cases cw:wd="asks"
 ·have hw:Q1 r.th=true:=by rw [hwt];exact decide_eq_true cw
  obtain⟨_,_,hn3,u,d,eu,hu,hd⟩:=hO.ask hw
  exact Qy (decide_eq_true cw) (q1 u d eu hu)
 ·exact qA (decide_eq_false cw) (q2 (by rw [hwt];exact decide_eq_false cw))
theorem e_ans {C:Addr}{H:Hp}{m:Mc}{r:Rn}{i j l:Nat}{σ:L2.St}{p L:Addr}{u:Str}{d:D}{Q:VK}(h1:σ[i]? =some (some (.ref p)))(h2:σ[j]? =some (some (.ref m.x)))(h3:σ[l]? =some (some (.ref L)))(M:qM C H m r)(eth:r.th= .tup [.str "asks",.tup [.str u,d]])(hu:u∈(["thing","has","names"]:List Str))(hP:QD H p)(hL:H L=some (.lst (NMS.map V.str)))
  (q:∀(x:V) (an:D) (H':Hp),Jl u an→Is H' an x→QD H' p→Kept p H H'→Tk H H'→Q x H'):
  tCall zu [] E0 (xT (tVar i) (xT (tOp (rIx K) (tMeth C "now" (Jb C) [] E0 (tVar j) tNil) (tC (.int 1))) (xT (tVar l) tNil))) σ H Q:=by
 refine⟨_,h1,_,h2,M.m (by decide+kernel) ⟨m,_,rfl,M,fun v5 i5=> ?_⟩⟩
 rw [eth] at i5
 refine .inr (.inl (yw (i:=1) (d:= .tup [.str u,d]) i5 (Qe (j:=1) rfl) fun y hy=> ?_))
 exact⟨_,h3,p,L,y,u,d,rfl,hP,hL,hy,hu,fun x an H' ha ix hP' hk=>q x an H' ha ix hP' hk (hP.tk hP' hk)⟩
end
end K14
namespace K14
open PySem L2 PyProof.Rows
theorem qM.kp {C:Addr}{H H':Hp}{m:Mc}{r:Rn}{p:Addr}{ms:List Mc}(M:qM C H m r)(k:Kp p ms H H')(n:Np m p)(ap:∀m'∈ms,Ap m m'):qM C H' m r:=
 M.keep k.tk fun b o e hb=>by
  rcases hb with rfl|rfl|rfl
  ·exact k.kept _ _ e n.x.symm fun m' h=>⟨(ap m' h).x.1,(ap m' h).b.1,(ap m' h).g.1⟩
  ·exact k.kept _ _ e n.b.symm fun m' h=>⟨(ap m' h).x.2.1,(ap m' h).b.2.1,(ap m' h).g.2.1⟩
  ·exact k.kept _ _ e n.g.symm fun m' h=>⟨(ap m' h).x.2.2,(ap m' h).b.2.2,(ap m' h).g.2.2⟩
theorem Kp.sub {p:Addr}{ms ms':List Mc}{H H':Hp}(k:Kp p ms H H')(h:∀m∈ms,m∈ms'):Kp p ms' H H':=⟨fun b o e n1 n2=>k.kept b o e n1 fun m hm=>n2 m (h m hm),k.tk⟩
def sp_lrun (C:Addr):Sp:=fun vs H Q _=>∃(p L:Addr) (m m2:Mc) (n:Nat),vs= [.ref p,.ref m.x,.ref L,.ref m2.x,.int (n:Int)]∧n≤1000∧QD H p∧H L=some (.lst (NMS.map V.str))∧L≠p∧qM C H m (qw m.rs m.own [])∧qM C H m2 (qw m2.rs m2.own [])∧Ap m m2∧Np m p∧Np m2 p∧Np m L∧Np m2 L∧Q2 m.rs∧Q2 m2.rs∧m.own.length≤100∧m2.own.length≤100∧
 ∀(u:V) (as bs:List D) (H':Hp),Val m.rs m.own as→Val m2.rs m2.own bs→Is H' (.tup as) u→qM C H' m (qw m.rs m.own as)→qM C H' m2 (qw m2.rs m2.own bs)→QD H' p→Kp p [m,m2] H H'→Q u H'
def sp_stds (C:Addr):Sp:=fun vs H Q _=>∃(m:Mc) (r:Rn),vs= [.ref m.x]∧qM C H m r∧
 ∀(l:Addr) (tv gv:V) (H':Hp),Same H H'→H' l=some (.lst [tv,gv,.int (r.n:Int)])→Is H' r.th tv→Is H' (.tup r.gs) gv→Q (.ref l) H'
def sp_beg (C:Addr):Sp:=fun vs H Q _=>∃(m:Mc) (v av:V) (as:List D),vs= [v,.str m.own,av,.ref m.x]∧Is H (Yb m.rs) v∧Q2 m.rs∧nm m.own=true∧m.own.length≤100∧Is H (.tup as) av∧Val m.rs m.own as∧qM C H m (qw m.rs m.own as)∧∀H',Same H H'→Q (.bl true) H'
theorem rn_n {rs:List Rw}{r:Rn}(h:RnOk rs r)(i:Int):nL [.tup r.gs,r.th,.int i]=true∧dpL [.tup r.gs,r.th,.int i]≤60:=by
 refine⟨?_,?_⟩
 ·simp only [nL,nD,h.gs.1,Xp h.gd.1,Bool.and_true]
 ·have h1:=h.gs.2.1
  have h2:=h.gd.2
  simp only [dpL,dp]
  omega
theorem rn_n2 {rs:List Rw}{r:Rn}(h:RnOk rs r)(i:Int):nL [r.th,.tup r.gs,.int i]=true∧dpL [r.th,.tup r.gs,.int i]≤60:=by
 refine⟨?_,?_⟩
 ·simp only [nL,nD,h.gs.1,Xp h.gd.1,Bool.and_true]
 ·have h1:=h.gs.2.1
  have h2:=h.gd.2
  simp only [dpL,dp]
  omega
section
variable {P:Program}{w:World}{K:PySem.W.Frag}{mg:Str→Option Value}{base:Heap}{a:Ad}{g:Ga}
theorem t_other {C:Addr}{H:Hp}{m:Mc}{bs:List D}{D:Ends}{σ:L2.St}{p L:Addr}(h0:σ[0]? =some (some (.ref p)))(h3:σ[3]? =some (some (.ref m.x)))(h2:σ[2]? =some (some (.ref L)))(M:qM C H m (qw m.rs m.own bs))(hB:Val m.rs m.own bs)(hP:QD H p)(hL:H L=some (.lst (NMS.map V.str)))(np:Np m p)(hR:Q2 m.rs)(hol:m.own.length≤100)
  (q:∀(bs':List L2.D) (H':Hp),Val m.rs m.own bs'→qM C H' m (qw m.rs m.own bs')→QD H' p→Kp p [m] H H'→D.nx σ H'):
  tIfS (tTest (tOp rEq (tOp (rIx K) (tMeth C "now" (Jb C) [] E0 (tVar 3) tNil) (tC (.int 0))) (tC (.str "asks")))) (tDrop (tMeth C "answer" (xt C) [] E0 (tVar 3) (xT (tCall zu [] E0 (xT (tVar 0) (xT (tOp (rIx K) (tMeth C "now" (Jb C) [] E0 (tVar 3) tNil) (tC (.int 1))) (xT (tVar 2) tNil)))) tNil))) tNext D σ H:=by
 refine t_ask (i:=3) h3 M (QT hR hB.ok) (fun u d eth hu=> ?_) (fun _=> ?_)
 ·refine⟨_,h3,M.m (by decide+kernel) ?_⟩
  refine e_ans (i:=0) (j:=3) (l:=2) h0 h3 h2 M eth hu hP hL fun x an H1 ha ix hP1 hk1 tk1=> ?_
  have M1:=M.kept hk1 tk1 np
  unfold tNil
  refine wr hR hol hB eth ha M1 ix fun H2 mv M2 hB2=> ?_
  exact q _ H2 hB2 M2 (hP1.mv mv np) ((Kp.pot hk1 tk1).trans (Kp.mv mv (by simp)))
 ·exact q bs H hB M hP (Kp.refl _ _ _)
theorem ok_run (T:Tx K mg a)(C:Fx K w mg g a):FnOk P w K mg base CX0 8 a.J6 a.xg ["pot","machine","names","other","most"] (sp_lrun a.qd):=by
 have jg:FnOk P w K mg base CX0 2 a.YA a.Yy ["pot","ask","names"] zu:=ok_lans T
 have qC:FnOk P w K mg base CX0 1 a.Qt a.Qu ["self"] (Jb a.qd):=ze T
 have qy:FnOk P w K mg base CX0 6 a.Qq a.Qr ["self","tree"] (xt a.qd):=ok_ans T C
 refine T.F_law_run.ok jH (fun vs H Q E h=> ?_) (fun cdv A outer s H vs Q E hr h=> ?_)
 ·obtain⟨p,L,m,m2,n,rfl,_⟩:=h
  rfl
 obtain⟨p,L,m,m2,n,rfl,hn,hP,hL,nLp,M1,M2,ap,np1,np2,nL1,nL2,hR1,hR2,ho1,ho2,k⟩:=h
 refine⟨_,(@qb _ _ _ _ _ (@qx _ _ (5) _ _ _ _ jH.nd rfl (Or.inl rfl) (@Qf _ _ _ _ _ (@qc _)) (by trivial) (by trivial)) (@qb _ _ _ _ _ (@jf _ _ _ _ _ _ _ _ PassesOwn.never rfl (@YE _ _ _ _ _ _ (by rfl) T.jO (@qa _ _ _ _ _ (pv 4) (@qc _) (by trivial)) (by trivial)) (@Qm _ _ (6) _ jH.nd rfl (Or.inl rfl) (by trivial)) (@qb _ _ _ _ _ (@qY _ _ _ _ _ _ _ _ (@qo _ _ _ _ _ _ _ _ (@y0 _) (@qQ _ _ _ _ _ _ _ (@YD _) (@qJ _ _ _ _ _ _ _ _ _ _ _ _ _ _ _ _ _ (pv 1) T.qf T.qS qC (hr.mono (by first|decide|omega)) T.qT .nil qr (by trivial)) (@qi _ _ _ _) (fun _ _=>rfl)) (@qk _ _ _ _) (qF _)) (@qb _ _ _ _ _ (@qx _ _ (7) _ _ _ _ jH.nd rfl (Or.inl rfl) (@qq _ _ _ _ _ _ _ _ _ _ _ _ _ _ _ _ jg (hr.mono (by first|decide|omega)) (by rfl) T.Jh T.je.kp T.Jr .nil qr (@qa _ _ _ _ _ (pv 0) (@qa _ _ _ _ _ (@qQ _ _ _ _ _ _ _ (@YD _) (@qJ _ _ _ _ _ _ _ _ _ _ _ _ _ _ _ _ _ (pv 1) T.qf T.qS qC (hr.mono (by first|decide|omega)) T.qT .nil qr (by trivial)) (@qi _ _ _ _) (fun _ _=>rfl)) (@qa _ _ _ _ _ (pv 2) (@qc _) (by trivial)) (by trivial)) (by trivial)) (by trivial) (by trivial) (by trivial)) (by trivial) (by trivial)) (@qb _ _ _ _ _ (@qx _ _ (5) _ _ _ _ jH.nd rfl (Or.inl rfl) (@Qa _ _ _ _ _ _ _ _ (@Xi _) (pv 5) (@Qf _ _ _ _ _ (@qa _ _ _ _ _ (pv 7) (@qc _) (by trivial)))) (by trivial) (by trivial)) (@qg _ _ _ (@QP _ _ _ _ (@yV _ _ _ _ _ _ _ _ _ _ _ _ _ _ _ _ _ _ _ _ (pv 1) T.qf T.qL qy (hr.mono (by first|decide|omega)) T.qK .nil qr (@qa _ _ _ _ _ (pv 7) (@qc _) (by trivial)) (by trivial) (by trivial) (by trivial)) (by trivial))))) (@qt _)) (@qg _ _ _ (@qY _ _ _ _ _ _ _ _ (@qo _ _ _ _ _ _ _ _ (@y0 _) (@qQ _ _ _ _ _ _ _ (@YD _) (@qJ _ _ _ _ _ _ _ _ _ _ _ _ _ _ _ _ _ (pv 3) T.qf T.qS qC (hr.mono (by first|decide|omega)) T.qT .nil qr (by trivial)) (@qi _ _ _ _) (fun _ _=>rfl)) (@qk _ _ _ _) (qF _)) (@qg _ _ _ (@QP _ _ _ _ (@yV _ _ _ _ _ _ _ _ _ _ _ _ _ _ _ _ _ _ _ _ (pv 3) T.qf T.qL qy (hr.mono (by first|decide|omega)) T.qK .nil qr (@qa _ _ _ _ _ (@qq _ _ _ _ _ _ _ _ _ _ _ _ _ _ _ _ jg (hr.mono (by first|decide|omega)) (by rfl) T.Jh T.je.kp T.Jr .nil qr (@qa _ _ _ _ _ (pv 0) (@qa _ _ _ _ _ (@qQ _ _ _ _ _ _ _ (@YD _) (@qJ _ _ _ _ _ _ _ _ _ _ _ _ _ _ _ _ _ (pv 3) T.qf T.qS qC (hr.mono (by first|decide|omega)) T.qT .nil qr (by trivial)) (@qi _ _ _ _) (fun _ _=>rfl)) (@qa _ _ _ _ _ (pv 2) (@qc _) (by trivial)) (by trivial)) (by trivial)) (by trivial) (by trivial) (by trivial)) (@qc _) (by trivial)) (by trivial) (by trivial) (by trivial)) (by trivial))) (@qt _)))) (by trivial)) (@qg _ _ _ (@qm _ _ _ _ (pv 5))))),?_⟩
 have one:(1:Nat)≤sizeLine:=by decide
 have two:∀{j:Nat},j≤1001→j≤sizeLine:=fun h=>Nat.le_trans h (by decide)
 refine⟨(by show 0≤sizeLine;decide),fun l0 hl0=> ?_⟩
 have s0:=qe hl0 (.tup [])
 refine⟨_,rfl,(n:Int),rfl,by omega,by omega,?_⟩
 refine jv (n:=(n:Int).toNat) (fun i σ H'=>∃(as bs:List D) (u:V) (x6 x7:Option V),σ= [some (.ref p),some (.ref m.x),some (.ref L),some (.ref m2.x),some (.int (n:Int)),some u,x6,x7]∧Val m.rs m.own as∧Val m2.rs m2.own bs∧Is H' (.tup as) u∧qM a.qd H' m (qw m.rs m.own as)∧qM a.qd H' m2 (qw m2.rs m2.own bs)∧QD H' p∧Kp p [m,m2] H H') ⟨[],[],_,_,_,rfl,Val.nil,Val.nil,Is.new (ds:= []) rfl hl0,M1.same s0,M2.same s0,hP.same s0,Kp.of s0⟩ ?_ ?_
 ·rintro i σ H' hi ⟨as,bs,u,x6,x7,rfl,hA,hB,iu,M1,M2,hP',kp⟩
  have hL':=kp.kept _ _ hL nLp (fun z hz=>by
   rcases List.mem_cons.mp hz with rfl|hz
   ·exact nL1
   ·rcases List.mem_cons.mp hz with rfl|hz
    ·exact nL2
    ·simp at hz)
  have hal:=hA.le hR1
  refine t_ask (i:=1) rfl M1 (QT hR1 hA.ok) (fun uu d eth hu=> ?_) (fun _=> ?_)
  ·refine e_ans (i:=0) (j:=1) (l:=2) rfl rfl rfl M1 eth hu hP' hL' fun x an H1 ha ix hP1 hk1 tk1=> ?_
   have L1:=hk1 _ _ hL' nLp
   refine⟨_,rfl,_,rfl,one,fun t1 h1=> ?_⟩
   have s2:=qe h1 (.tup [x])
   refine cat_is (ds:=as) (es:= [an]) ((iu.mono tk1).mono s2.tk) (Is.new (IsL.one ix) h1) (two (by simp;omega)) fun z H3 s3 i3=> ?_
   have s23:=s2.trans s3
   have M13:=(M1.kept hk1 tk1 np1).same s23
   have M23:=(M2.kept hk1 tk1 np2).same s23
   refine⟨_,rfl,M13.m (by decide+kernel) ⟨_,rfl,?_⟩⟩
   unfold tNil
   refine wr (m:=m) hR1 ho1 hA eth ha M13 (ix.mono s23.tk) fun H4 mv M14 hA'=> ?_
   have M24:=M23.mv mv ap.symm
   have hP4:=(hP1.same s23).mv mv np1
   have L4:=mv.at nL1 (s23 _ _ L1)
   have kp4:Kp p [m,m2] H H4:=kp.trans ((Kp.pot hk1 tk1).trans ((Kp.of s23).trans (Kp.mv mv (by simp))))
   refine t_other (m:=m2) rfl rfl rfl M24 hB hP4 L4 np2 hR2 ho2 fun bs' H5 hB' M25 hP5 k5=> ?_
   exact⟨_,bs',_,_,_,rfl,hA',hB',(i3.mono mv.tk).mono k5.tk,M14.kp k5 np1 (fun z hz=>by rw [List.mem_singleton] at hz;subst hz;exact ap),M25,hP5,kp4.trans (k5.sub (fun z hz=>by rw [List.mem_singleton] at hz;subst hz;simp))⟩
  ·refine t_other (m:=m2) rfl rfl rfl M2 hB hP' hL' np2 hR2 ho2 fun bs' H5 hB' M25 hP5 k5=> ?_
   exact⟨_,bs',_,_,_,rfl,hA,hB',iu.mono k5.tk,M1.kp k5 np1 (fun z hz=>by rw [List.mem_singleton] at hz;subst hz;exact ap),M25,hP5,kp.trans (k5.sub (fun z hz=>by rw [List.mem_singleton] at hz;subst hz;simp))⟩
 ·rintro σ H' ⟨as,bs,u,x6,x7,rfl,hA,hB,iu,M1,M2,hP',kp⟩
  exact⟨_,rfl,k u as bs H' hA hB iu M1 M2 hP' kp⟩
theorem ok_stds (T:Tx K mg a):FnOk P w K mg base CX0 2 a.YC a.YB ["machine"] (sp_stds a.qd):=by
 have qC:FnOk P w K mg base CX0 1 a.Qt a.Qu ["self"] (Jb a.qd):=ze T
 have qI:FnOk P w K mg base CX0 1 a.Qx a.Qw ["self"] (xB a.qd):=X8 T
 have zw:FnOk P w K mg base CX0 1 a.yT a.yR ["self"] (sp_lines a.qd):=ok_lines T
 refine T.QN.ok wp (fun vs H Q E h=> ?_) (fun cdv A outer s H vs Q E hr h=> ?_)
 ·obtain⟨m,r,rfl,_⟩:=h
  rfl
 obtain⟨m,r,rfl,M,k⟩:=h
 refine⟨_,(@qg _ _ _ (@qm _ _ _ _ (@yH _ _ _ _ (@qa _ _ _ _ _ (@qJ _ _ _ _ _ _ _ _ _ _ _ _ _ _ _ _ _ (pv 0) T.qf T.qS qC (hr.mono (by first|decide|omega)) T.qT .nil qr (by trivial)) (@qa _ _ _ _ _ (@qJ _ _ _ _ _ _ _ _ _ _ _ _ _ _ _ _ _ (pv 0) T.qf T.qW qI (hr.mono (by first|decide|omega)) T.qV .nil qr (by trivial)) (@qa _ _ _ _ _ (@qJ _ _ _ _ _ _ _ _ _ _ _ _ _ _ _ _ _ (pv 0) T.qf T.zH zw (hr.mono (by first|decide|omega)) T.zJ .nil qr (by trivial)) (@qc _) (by trivial)) (by trivial)) (by trivial))))),?_⟩
 have three:(3:Nat)≤sizeLine:=by decide
 refine⟨_,rfl,M.m (by decide+kernel) ⟨m,r,rfl,M,fun v1 i1=> ?_⟩⟩
 refine⟨_,rfl,M.m (by decide+kernel) ⟨m,r,rfl,M,fun v2 H2 s2 i2=> ?_⟩⟩
 have M2:=M.same s2
 refine⟨_,rfl,M2.m (by decide+kernel) ⟨m,r,rfl,M2,three,fun l hl=> ?_⟩⟩
 have s3:=qe hl (.lst [v1,v2,.int (r.n:Int)])
 exact k l v1 v2 _ (s2.trans s3) qj ((i1.mono s2.tk).mono s3.tk) (i2.mono s3.tk)
theorem ok_beg (T:Tx K mg a)(C:Fx K w mg g a):FnOk P w K mg base CX0 12 a.yD a.yA ["rule","own","answers","machine"] (sp_beg a.qd):=by
 have qC:FnOk P w K mg base CX0 1 a.Qt a.Qu ["self"] (Jb a.qd):=ze T
 have qI:FnOk P w K mg base CX0 1 a.Qx a.Qw ["self"] (xB a.qd):=X8 T
 have Zs:FnOk P w K mg base CX0 8 a.Jy a.JH ["rule","own","answers"] sp_repl:=ok_repl T C
 have G_does:FnOk P w K mg base CX0 10 a.f_does a.d_does ["rule","own","run"] sp_does:=ok_does T C
 refine T.j8.ok QX (fun vs H Q E h=> ?_) (fun cdv A outer s H vs Q E hr h=> ?_)
 ·obtain⟨m,v,av,as,rfl,_⟩:=h
  rfl
 obtain⟨m,v,av,as,rfl,hv,hR,hnm,hol,ia,hV,M,k⟩:=h
 refine⟨_,(@qb _ _ _ _ _ (@jf _ _ _ _ _ _ _ _ PassesOwn.never rfl (@YE _ _ _ _ _ _ (by rfl) T.jO (@qa _ _ _ _ _ (@qp _ _ _ _ _ _ _ _ _ (@qE _) (by rfl) T.yS PySem.boot_len (@qa _ _ _ _ _ (pv 2) (@qc _) (by trivial)) (by trivial) (by trivial) (by trivial) (by trivial)) (@qc _) (by trivial)) (by trivial)) (@Qm _ _ (4) _ QX.nd rfl (Or.inl rfl) (by trivial)) (@qb _ _ _ _ _ (@qx _ _ (5) _ _ _ _ QX.nd rfl (Or.inl rfl) (@qQ _ _ _ _ _ _ _ (@qX _) (@qQ _ _ _ _ _ _ _ (@qX _) (@qJ _ _ _ _ _ _ _ _ _ _ _ _ _ _ _ _ _ (pv 3) T.qf T.qW qI (hr.mono (by first|decide|omega)) T.qV .nil qr (by trivial)) (pv 4) (fun _ _=>rfl)) (@qi _ _ _ _) (fun _ _=>rfl)) (by trivial) (by trivial)) (@qb _ _ _ _ _ (@qx _ _ (6) _ _ _ _ QX.nd rfl (Or.inl rfl) (@Qf _ _ _ _ _ (@qa _ _ _ _ _ (@yY _ _ _ _ _ _ _ _ _ _ (@j0 _) (@qJ _ _ _ _ _ _ _ _ _ _ _ _ _ _ _ _ _ (pv 3) T.qf T.qW qI (hr.mono (by first|decide|omega)) T.qV .nil qr (by trivial)) (@Y7 _) (@Y4 _ _ _ (pv 4))) (@qa _ _ _ _ _ (@Qf _ _ _ _ _ (@qa _ _ _ _ _ (@qk _ _ _ _) (@qa _ _ _ _ _ (pv 5) (@qc _) (by trivial)) (by trivial))) (@qc _) (by trivial)) (by trivial))) (by trivial) (by trivial)) (@qg _ _ _ (@qY _ _ _ _ _ _ _ _ (@xl _ _ _ _ _ _ _ (@qo _ _ _ _ _ _ _ _ (@op_neR _ hr.units) (@qq _ _ _ _ _ _ _ _ _ _ _ _ _ _ _ _ Zs (hr.mono (by first|decide|omega)) (by rfl) T.ZH T.xz.kp T.Zr .nil qr (@qa _ _ _ _ _ (pv 0) (@qa _ _ _ _ _ (pv 1) (@qa _ _ _ _ _ (@yY _ _ _ _ _ _ _ _ _ _ (@j0 _) (pv 2) (@Y7 _) (@Y4 _ _ _ (pv 4))) (@qc _) (by trivial)) (by trivial)) (by trivial)) (by trivial) (by trivial) (by trivial)) (@Qa _ _ _ _ _ _ _ _ (@Xi _) (pv 6) (@Qf _ _ _ _ _ (@qa _ _ _ _ _ (@qi _ _ _ _) (@qc _) (by trivial)))) (qF _)) (@Ja _ _ _ _ (@qo _ _ _ _ _ _ _ _ (@op_isnotB _) (@qq _ _ _ _ _ _ _ _ _ _ _ _ _ _ _ _ G_does (hr.mono (by first|decide|omega)) (by rfl) T.m_does T.F_does.kp T.b_does .nil qr (@qa _ _ _ _ _ (pv 0) (@qa _ _ _ _ _ (pv 1) (@qa _ _ _ _ _ (@Qf _ _ _ _ _ (@qa _ _ _ _ _ (@qQ _ _ _ _ _ _ _ (@qX _) (pv 6) (@qi _ _ _ _) (fun _ _=>rfl)) (@qa _ _ _ _ _ (@Qf _ _ _ _ _ (@qa _ _ _ _ _ (@qk _ _ _ _) (@qa _ _ _ _ _ (@qk _ _ _ _) (@qc _) (by trivial)) (by trivial))) (@qc _) (by trivial)) (by trivial))) (@qc _) (by trivial)) (by trivial)) (by trivial)) (by trivial) (by trivial) (by trivial)) (@Y8 _ _ _ _) (qF _)))).pt (@qg _ _ _ (@qm _ _ _ _ (@Y8 _ _ _ _))) (@qt _))))) (by trivial)) (@qb _ _ _ _ _ (@qx _ _ (6) _ _ _ _ QX.nd rfl (Or.inl rfl) (@Qf _ _ _ _ _ (@qa _ _ _ _ _ (@qJ _ _ _ _ _ _ _ _ _ _ _ _ _ _ _ _ _ (pv 3) T.qf T.qW qI (hr.mono (by first|decide|omega)) T.qV .nil qr (by trivial)) (@qa _ _ _ _ _ (@qJ _ _ _ _ _ _ _ _ _ _ _ _ _ _ _ _ _ (pv 3) T.qf T.qS qC (hr.mono (by first|decide|omega)) T.qT .nil qr (by trivial)) (@qc _) (by trivial)) (by trivial))) (by trivial) (by trivial)) (@qb _ _ _ _ _ (@qY _ _ _ _ _ _ _ _ (@pw_and _ _ _ _ _ _ _ (@qo _ _ _ _ _ _ _ _ (@op_ne _) (@qQ _ _ _ _ _ _ _ (@qX _) (@qQ _ _ _ _ _ _ _ (@qX _) (pv 6) (@qi _ _ _ _) (fun _ _=>rfl)) (@qi _ _ _ _) (fun _ _=>rfl)) (@qk _ _ _ _) (qF _)) (@Z9 _ _ _ _ (@qo _ _ _ _ _ _ _ _ (@op_isnotB _) (@qq _ _ _ _ _ _ _ _ _ _ _ _ _ _ _ _ G_does (hr.mono (by first|decide|omega)) (by rfl) T.m_does T.F_does.kp T.b_does .nil qr (@qa _ _ _ _ _ (pv 0) (@qa _ _ _ _ _ (pv 1) (@qa _ _ _ _ _ (pv 6) (@qc _) (by trivial)) (by trivial)) (by trivial)) (by trivial) (by trivial) (by trivial)) (@Y8 _ _ _ _) (qF _)))).pt (@qg _ _ _ (@qm _ _ _ _ (@Y8 _ _ _ _))) (@qt _)) (@qg _ _ _ (@qm _ _ _ _ (@Y0 _ _ _ _ _ _ _ _ (@op_eqR _ hr.units) (@qq _ _ _ _ _ _ _ _ _ _ _ _ _ _ _ _ Zs (hr.mono (by first|decide|omega)) (by rfl) T.ZH T.xz.kp T.Zr .nil qr (@qa _ _ _ _ _ (pv 0) (@qa _ _ _ _ _ (pv 1) (@qa _ _ _ _ _ (pv 2) (@qc _) (by trivial)) (by trivial)) (by trivial)) (by trivial) (by trivial) (by trivial)) (@Qa _ _ _ _ _ _ _ _ (@Xi _) (pv 6) (@Qf _ _ _ _ _ (@qa _ _ _ _ _ (@qi _ _ _ _) (@qc _) (by trivial)))) (qF _))))))),?_⟩
 have one:(1:Nat)≤sizeLine:=by decide
 have two:(2:Nat)≤sizeLine:=by decide
 have three:(3:Nat)≤sizeLine:=by decide
 have hle:=hV.le hR
 obtain⟨pa,us,rfl,epa,iu⟩:=id ia
 have hul:us.length=as.length:=iu.length
 refine⟨_,rfl,pa,us,rfl,.inr (SqT.of epa),(us.length:Int),rfl,by omega,by omega,?_⟩
 refine jv (n:=(us.length:Int).toNat) (fun i σ H'=>∃(x4 x5 x6:Option V),σ= [some v,some (.str m.own),some (.ref pa),some (.ref m.x),x4,x5,x6]∧Same H H') ⟨_,_,_,rfl,Same.refl _⟩ ?_ ?_
 ·rintro i σ H' hi ⟨x4,x5,x6,rfl,sm⟩
  have hi2:i<as.length:=by omega
  obtain⟨an,hk⟩:∃an,as[i]? =some an:=⟨as[i],by simp [hi2]⟩
  obtain⟨u,d,eth,ha,hg⟩:=ZI hV hk
  have hgt:=gs_take hV (k:=i) (by omega)
  have hgl:=Xw hV
  have hOi:=QT (own:=m.own) hR (hV.take i).ok
  have M':=M.same sm
  rw [Int.zero_add]
  refine⟨_,rfl,M'.m (by decide+kernel) ⟨m,_,rfl,M',fun v1 H1 s1 i1=> ?_⟩⟩
  refine⟨_,rfl,yw (i:=(i:Int)) (d:= .tup [.tup [.str u,d],an]) i1 (Qe hg) fun y hy=> ?_⟩
  refine yw (i:=0) (d:= .tup [.str u,d]) hy (Qe (j:=0) rfl) fun y2 hy2=> ?_
  have M1:=M'.same s1
  refine⟨_,rfl,M1.m (by decide+kernel) ⟨m,_,rfl,M1,fun v2 H2 s2 i2=> ?_⟩⟩
  refine⟨_,rfl,_,rfl,?_⟩
  refine sl_to (n:=i) i2 (by omega) fun v3 H3 s3 i3=> ?_
  refine⟨_,rfl,two,fun l1 h1=>⟨two,fun l2 h2=> ?_⟩⟩
  have q1:=qe h1 (.tup [.str "asks",y2])
  have q2:=qe h2 (.tup [v3,.ref l1])
  rw [←hgt] at i3
  have j1:Is (upd H3 l1 (.tup [.str "asks",y2])) (qw m.rs m.own (as.take i)).th (.ref l1):=by
   rw [eth]
   exact Is.new (ds:= [.str "asks",.tup [.str u,d]]) ⟨_,_,rfl,⟨rfl,yg (by decide)⟩,_,_,rfl,hy2.mono (s2.trans s3).tk,rfl⟩ h1
  have j2:Is (upd (upd H3 l1 (.tup [.str "asks",y2])) l2 (.tup [v3,.ref l1])) (.tup [.tup (qw m.rs m.own (as.take i)).gs,(qw m.rs m.own (as.take i)).th]) (.ref l2):=Is.new (ds:= [.tup (qw m.rs m.own (as.take i)).gs,(qw m.rs m.own (as.take i)).th]) ⟨_,_,rfl,i3.mono q1.tk,_,_,rfl,j1,rfl⟩ h2
  have S5:=s1.trans (s2.trans (s3.trans (q1.trans q2)))
  generalize upd (upd H3 l1 (.tup [.str "asks",y2])) l2 (.tup [v3,.ref l1])=H5 at j2 S5⊢
  have sm5:=sm.trans S5
  refine⟨_,rfl,_,rfl,_,rfl,_,rfl,_,rfl,?_⟩
  refine sl_to (n:=i) (ia.mono sm5.tk) (by omega) fun v6 H6 s6 i6=> ?_
  refine⟨v,v6,m.own,m.rs,as.take i,rfl,hv.mono (sm5.trans s6).tk,hR,hnm,hol,i6,hV.take i,fun u7 H7 s7 i7=> ?_⟩
  refine⟨_,rfl,one,fun l3 h3=> ?_⟩
  have q3:=qe h3 (.tup [.int 0])
  have S7:=s6.trans s7
  refine cat_is (ds:= [.tup (qw m.rs m.own (as.take i)).gs,(qw m.rs m.own (as.take i)).th]) (es:= [.int 0]) (j2.mono (S7.trans q3).tk) (Is.new (IsL.one (show Is H7 (.int 0) (.int 0) from rfl)) h3) three fun z H9 s9 i9=> ?_
  have S9:=S7.trans (q3.trans s9)
  refine⟨[.tup (qw m.rs m.own (as.take i)).gs,(qw m.rs m.own (as.take i)).th,.int 0],i7.mono (q3.trans s9).tk,i9,(rn_n hOi 0).1,(rn_n hOi 0).2,_,rfl,iteF ?_⟩
  have j9:=j2.mono S9.tk
  refine⟨_,rfl,_,rfl,_,rfl,yw (i:=0) (d:= .tup (qw m.rs m.own (as.take i)).gs) j9 (Qe (j:=0) rfl) fun y5 hy5=> ?_⟩
  refine⟨two,fun l5 h5=>⟨two,fun l6 h6=> ?_⟩⟩
  have q5:=qe h5 (.tup [.str "said",.str "x"])
  have q6:=qe h6 (.tup [y5,.ref l5])
  have sm11:=sm5.trans (S9.trans (q5.trans q6))
  refine⟨v,.ref l6,m.own,m.rs,as.take i,.tup [.str "said",.str "x"],rfl,hv.mono sm11.tk,hR,hnm,hol,hV.take i,Is.new (ds:= [.tup (qw m.rs m.own (as.take i)).gs,.tup [.str "said",.str "x"]]) ⟨_,_,rfl,hy5.mono q5.tk,_,_,rfl,Is.new (ds:= [.str "said",.str "x"]) ⟨_,_,rfl,⟨rfl,yg (by decide)⟩,_,_,rfl,⟨rfl,yg (by decide)⟩,rfl⟩ h5,rfl⟩ h6,.inl (wt eth),fun H12 s12=> ?_⟩
  rw [wt eth]
  exact⟨_,rfl,_,rfl,iteF ⟨_,_,_,rfl,sm11.trans s12⟩⟩
 ·rintro σ H' ⟨x4,x5,x6,rfl,sm⟩
  have hO:=QT (own:=m.own) hR hV.ok
  have M':=M.same sm
  refine⟨_,rfl,M'.m (by decide+kernel) ⟨m,_,rfl,M',fun v1 H1 s1 i1=> ?_⟩⟩
  have M1:=M'.same s1
  refine⟨_,rfl,M1.m (by decide+kernel) ⟨m,_,rfl,M1,fun v2 i2=>⟨two,fun l1 h1=> ?_⟩⟩⟩
  have q1:=qe h1 (.tup [v1,v2])
  have j1:Is (upd H1 l1 (.tup [v1,v2])) (.tup [.tup (qw m.rs m.own as).gs,(qw m.rs m.own as).th]) (.ref l1):=Is.new (ds:= [.tup (qw m.rs m.own as).gs,(qw m.rs m.own as).th]) ⟨_,_,rfl,i1,_,_,rfl,i2,rfl⟩ h1
  have sm1:=sm.trans (s1.trans q1)
  generalize upd H1 l1 (.tup [v1,v2])=H2 at j1 sm1⊢
  have fin:∀(H3:Hp),Same H2 H3→tRet (tOp (rSame true) (tCall sp_repl [] E0 (xT (tVar 0) (xT (tVar 1) (xT (tVar 2) tNil)))) (tOp (rCatG K) (tVar 6) (tTup (xT (tC (.int 0)) tNil)))) ({nx:=fun x H'=>Q V.non H',rt:=Q}:Ends) [some v,some (.str m.own),some (.ref pa),some (.ref m.x),x4,x5,some (.ref l1)] H3:=fun H3 s3=>by
   have sm3:=sm1.trans s3
   refine⟨_,rfl,_,rfl,_,rfl,v,.ref pa,m.own,m.rs,as,rfl,hv.mono sm3.tk,hR,hnm,hol,ia.mono sm3.tk,hV,fun u7 H7 s7 i7=> ?_⟩
   refine⟨_,rfl,one,fun l3 h3=> ?_⟩
   have q3:=qe h3 (.tup [.int 0])
   refine cat_is (ds:= [.tup (qw m.rs m.own as).gs,(qw m.rs m.own as).th]) (es:= [.int 0]) (j1.mono (s3.trans (s7.trans q3)).tk) (Is.new (IsL.one (show Is H7 (.int 0) (.int 0) from rfl)) h3) three fun z H9 s9 i9=> ?_
   exact⟨[.tup (qw m.rs m.own as).gs,(qw m.rs m.own as).th,.int 0],i7.mono (q3.trans s9).tk,i9,(rn_n hO 0).1,(rn_n hO 0).2,k _ (sm3.trans (s7.trans (q3.trans s9)))⟩
  obtain⟨wd,ed,eth⟩:=hO.two
  refine⟨_,rfl,?_⟩
  unfold tC
  refine yw (i:=1) (d:=(qw m.rs m.own as).th) j1 (Qe (j:=1) rfl) fun y hy=> ?_
  rw [eth] at hy
  refine yw (i:=0) (d:= .str wd) hy (Qe (j:=0) rfl) fun y2 hy2=> ?_
  obtain⟨rfl,_⟩:=hy2
  refine⟨rfl,_,rfl,?_⟩
  have ew:decide (V.str wd=V.str ("asks":Str))=decide (wd="asks"):=by
   rw [decide_eq_decide]
   exact⟨fun h=>by injection h,fun h=>by rw [h]⟩
  have hwt:Q1 (qw m.rs m.own as).th=decide (wd="asks"):=by rw [eth];rfl
  rw [ew,←hwt]
  cases hw:Q1 (qw m.rs m.own as).th with
  |true=>exact iteF (iteF (fin _ (Same.refl _)))
  |false=>
   refine iteT ?_
   refine⟨_,rfl,_,rfl,_,rfl,v,.ref l1,m.own,m.rs,as,_,rfl,hv.mono sm1.tk,hR,hnm,hol,hV,j1,.inr rfl,fun H12 s12=> ?_⟩
   rw [hw]
   exact⟨_,rfl,_,rfl,iteF (fin _ s12)⟩
end
end K14
namespace K14
open PySem L2 PyProof.Rows
structure Fh (H:Hp)(m:Mc):Prop where
 x:H m.x=none
 b:H m.db=none
 g:H m.dg=none
theorem Fh.back {H H':Hp}{m:Mc}(h:Fh H' m){p:Addr}(k:Kept p H H')(n:Np m p):Fh H m:=by
 have key:∀{b:Addr},p≠b→H' b=none→H b=none:=fun{b} n h=>by
  cases hc:H b with
  |none=>rfl
  |some o=>rw [k _ _ hc n.symm] at h;cases h
 exact⟨key n.x h.x,key n.b h.b,key n.g h.g⟩
theorem Fh.np {H:Hp}{m:Mc}(h:Fh H m){p:Addr}{o:HO}(e:H p=some o):Np m p:=Np.fresh e h.x h.b h.g
theorem Kept.mv {H H1 H2:Hp}{m:Mc}{p:Addr}(k:Kept p H H1)(v:Mv m H1 H2)(h:Fh H m):Kept p H H2:=fun b o e n=>v.kept _ _ (k b o e n) (ql e h.x) (ql e h.b) (ql e h.g)
theorem qM.apart {C:Addr}{H:Hp}{m m2:Mc}{r:Rn}(M:qM C H m r)(h:Fh H m2):Ap m m2:=M.ap h.x h.b h.g
theorem QD.np {H:Hp}{p:Addr}(h:QD H p){m:Mc}(f:Fh H m):Np m p:=by
 obtain⟨x,e,_⟩:=h
 exact f.np e
def sp_prt (C:Addr):Sp:=fun vs H Q _=>∃(p L:Addr) (v av:V) (own:Str) (rs:List Rw) (as:List D),vs= [.ref p,v,.str own,av,.ref L]∧QD H p∧H L=some (.lst (NMS.map V.str))∧L≠p∧Is H (Yb rs) v∧Q2 rs∧nm own=true∧own.length≤100∧Is H (.tup as) av∧Val rs own as∧as≠ []∧∀H',QD H' p→Kept p H H'→Q (.bl true) H'
section
variable {P:Program}{w:World}{K:PySem.W.Frag}{mg:Str→Option Value}{base:Heap}{a:Ad}{g:Ga}
theorem ok_prt (T:Tx K mg a)(C:Fx K w mg g a):FnOk P w K mg base CX0 12 a.jc a.jj ["pot","rule","own","answers","names"] (sp_prt a.qd):=by
 have qN:FnOk P w K mg base CX0 1 a.yd a.yb ["pot","many"] Ju:=JX T
 have jg:FnOk P w K mg base CX0 2 a.YA a.Yy ["pot","ask","names"] zu:=ok_lans T
 have qO:FnOk P w K mg base CX0 6 a.Qv a.QA ["self","rule","own"] (jP a.qd):=xu T C
 have Zk:FnOk P w K mg base CX0 8 a.Yu a.Yw ["self"] (sp_mcopy a.qd):=ok_mcopy T C
 have qC:FnOk P w K mg base CX0 1 a.Qt a.Qu ["self"] (Jb a.qd):=ze T
 have qI:FnOk P w K mg base CX0 1 a.Qx a.Qw ["self"] (xB a.qd):=X8 T
 have qy:FnOk P w K mg base CX0 6 a.Qq a.Qr ["self","tree"] (xt a.qd):=ok_ans T C
 have QL:FnOk P w K mg base CX0 2 a.YC a.YB ["machine"] (sp_stds a.qd):=ok_stds T
 refine T.Xv.ok Qh (fun vs H Q E h=> ?_) (fun cdv A outer s H vs Q E hr h=> ?_)
 ·obtain⟨p,L,v,av,own,rs,as,rfl,_⟩:=h
  rfl
 obtain⟨p,L,v,av,own,rs,as,rfl,hP,hL,nLp,hv,hR,hnm,hol,ia,hV,hne,k⟩:=h
 refine⟨_,(@qb _ _ _ _ _ (@qx _ _ (5) _ _ _ _ Qh.nd rfl (Or.inl rfl) (@qq _ _ _ _ _ _ _ _ _ _ _ _ _ _ _ _ qN (hr.mono (by first|decide|omega)) (by rfl) T.Qk T.Qd.kp T.Ql .nil qr (@qa _ _ _ _ _ (pv 0) (@qa _ _ _ _ _ (@qp _ _ _ _ _ _ _ _ _ (@qE _) (by rfl) T.yS PySem.boot_len (@qa _ _ _ _ _ (pv 3) (@qc _) (by trivial)) (by trivial) (by trivial) (by trivial) (by trivial)) (@qc _) (by trivial)) (by trivial)) (by trivial) (by trivial) (by trivial)) (by trivial) (by trivial)) (@qb _ _ _ _ _ (@qx _ _ (6) _ _ _ _ Qh.nd rfl (Or.inl rfl) (@jm _ _ _ _ _ _ _ _ _ _ _ _ _ _ _ _ _ T.yx qO (hr.mono (by first|decide|omega)) (by rfl) T.yy T.Qn .nil qr (@qa _ _ _ _ _ (pv 1) (@qa _ _ _ _ _ (pv 2) (@qc _) (by trivial)) (by trivial)) (by trivial) (by trivial) (by trivial)) (by trivial) (by trivial)) (@qb _ _ _ _ _ (@qx _ _ (7) _ _ _ _ Qh.nd rfl (Or.inl rfl) (@jm _ _ _ _ _ _ _ _ _ _ _ _ _ _ _ _ _ T.yx qO (hr.mono (by first|decide|omega)) (by rfl) T.yy T.Qn .nil qr (@qa _ _ _ _ _ (pv 1) (@qa _ _ _ _ _ (pv 2) (@qc _) (by trivial)) (by trivial)) (by trivial) (by trivial) (by trivial)) (by trivial) (by trivial)) (@qb _ _ _ _ _ (@jf _ _ _ _ _ _ _ _ PassesOwn.never rfl (@ZS _ _ _ _ (@yY _ _ _ _ _ _ _ _ _ _ (@j0 _) (pv 3) (@Y7 _) (@Y4 _ _ _ (pv 5)))) (@Qm _ _ (8) _ Qh.nd rfl (Or.inl rfl) (by trivial)) (@qb _ _ _ _ _ (@QP _ _ _ _ (@yV _ _ _ _ _ _ _ _ _ _ _ _ _ _ _ _ _ _ _ _ (pv 6) T.qf T.qL qy (hr.mono (by first|decide|omega)) T.qK .nil qr (@qa _ _ _ _ _ (pv 8) (@qc _) (by trivial)) (by trivial) (by trivial) (by trivial)) (by trivial)) (@qg _ _ _ (@QP _ _ _ _ (@yV _ _ _ _ _ _ _ _ _ _ _ _ _ _ _ _ _ _ _ _ (pv 7) T.qf T.qL qy (hr.mono (by first|decide|omega)) T.qK .nil qr (@qa _ _ _ _ _ (pv 8) (@qc _) (by trivial)) (by trivial) (by trivial) (by trivial)) (by trivial)))) (by trivial)) (@qb _ _ _ _ _ (@qY _ _ _ _ _ _ _ _ (@xl _ _ _ _ _ _ _ (@qo _ _ _ _ _ _ _ _ (@op_neR _ hr.units) (@qJ _ _ _ _ _ _ _ _ _ _ _ _ _ _ _ _ _ (pv 6) T.qf T.qS qC (hr.mono (by first|decide|omega)) T.qT .nil qr (by trivial)) (@qJ _ _ _ _ _ _ _ _ _ _ _ _ _ _ _ _ _ (pv 7) T.qf T.qS qC (hr.mono (by first|decide|omega)) T.qT .nil qr (by trivial)) (qF _)) (@Ja _ _ _ _ (@qo _ _ _ _ _ _ _ _ (@op_ne _) (@qQ _ _ _ _ _ _ _ (@YD _) (@qJ _ _ _ _ _ _ _ _ _ _ _ _ _ _ _ _ _ (pv 6) T.qf T.qS qC (hr.mono (by first|decide|omega)) T.qT .nil qr (by trivial)) (@qi _ _ _ _) (fun _ _=>rfl)) (@qk _ _ _ _) (qF _)))).pt (@qg _ _ _ (@qm _ _ _ _ (@Y8 _ _ _ _))) (@qt _)) (@qb _ _ _ _ _ (@qx _ _ (9) _ _ _ _ Qh.nd rfl (Or.inl rfl) (@qJ _ _ _ _ _ _ _ _ _ _ _ _ _ _ _ _ _ (pv 7) T.qf T.Zd Zk (hr.mono (by first|decide|omega)) T.Zf .nil qr (by trivial)) (by trivial) (by trivial)) (@qb _ _ _ _ _ (@jf _ _ _ _ _ _ _ _ PassesOwn.never rfl (@YE _ _ _ _ _ _ (by rfl) T.jO (@qa _ _ _ _ _ (@qp _ _ _ _ _ _ _ _ _ (@qE _) (by rfl) T.yS PySem.boot_len (@qa _ _ _ _ _ (pv 1) (@qc _) (by trivial)) (by trivial) (by trivial) (by trivial) (by trivial)) (@qc _) (by trivial)) (by trivial)) (@Qm _ _ (10) _ Qh.nd rfl (Or.inl rfl) (by trivial)) (@qg _ _ _ (@qY _ _ _ _ _ _ _ _ (@qo _ _ _ _ _ _ _ _ (@y0 _) (@qQ _ _ _ _ _ _ _ (@YD _) (@qJ _ _ _ _ _ _ _ _ _ _ _ _ _ _ _ _ _ (pv 7) T.qf T.qS qC (hr.mono (by first|decide|omega)) T.qT .nil qr (by trivial)) (@qi _ _ _ _) (fun _ _=>rfl)) (@qk _ _ _ _) (qF _)) (@qb _ _ _ _ _ (@qx _ _ (8) _ _ _ _ Qh.nd rfl (Or.inl rfl) (@qq _ _ _ _ _ _ _ _ _ _ _ _ _ _ _ _ jg (hr.mono (by first|decide|omega)) (by rfl) T.Jh T.je.kp T.Jr .nil qr (@qa _ _ _ _ _ (pv 0) (@qa _ _ _ _ _ (@qQ _ _ _ _ _ _ _ (@YD _) (@qJ _ _ _ _ _ _ _ _ _ _ _ _ _ _ _ _ _ (pv 7) T.qf T.qS qC (hr.mono (by first|decide|omega)) T.qT .nil qr (by trivial)) (@qi _ _ _ _) (fun _ _=>rfl)) (@qa _ _ _ _ _ (pv 4) (@qc _) (by trivial)) (by trivial)) (by trivial)) (by trivial) (by trivial) (by trivial)) (by trivial) (by trivial)) (@qb _ _ _ _ _ (@QP _ _ _ _ (@yV _ _ _ _ _ _ _ _ _ _ _ _ _ _ _ _ _ _ _ _ (pv 7) T.qf T.qL qy (hr.mono (by first|decide|omega)) T.qK .nil qr (@qa _ _ _ _ _ (pv 8) (@qc _) (by trivial)) (by trivial) (by trivial) (by trivial)) (by trivial)) (@qg _ _ _ (@QP _ _ _ _ (@yV _ _ _ _ _ _ _ _ _ _ _ _ _ _ _ _ _ _ _ _ (pv 9) T.qf T.qL qy (hr.mono (by first|decide|omega)) T.qK .nil qr (@qa _ _ _ _ _ (pv 8) (@qc _) (by trivial)) (by trivial) (by trivial) (by trivial)) (by trivial))))) (@qt _))) (by trivial)) (@qb _ _ _ _ _ (@qx _ _ (11) _ _ _ _ Qh.nd rfl (Or.inl rfl) (@jm _ _ _ _ _ _ _ _ _ _ _ _ _ _ _ _ _ T.yx qO (hr.mono (by first|decide|omega)) (by rfl) T.yy T.Qn .nil qr (@qa _ _ _ _ _ (pv 1) (@qa _ _ _ _ _ (pv 2) (@qc _) (by trivial)) (by trivial)) (by trivial) (by trivial) (by trivial)) (by trivial) (by trivial)) (@qb _ _ _ _ _ (@jf _ _ _ _ _ _ _ _ PassesOwn.never rfl (@ZS _ _ _ _ (@qJ _ _ _ _ _ _ _ _ _ _ _ _ _ _ _ _ _ (pv 7) T.qf T.qW qI (hr.mono (by first|decide|omega)) T.qV .nil qr (by trivial))) (@pg_tup _ _ _ _ _ _ rfl (yQ (@Qm _ _ (12) _ Qh.nd rfl (Or.inl rfl) (by trivial)) (yQ (@Qm _ _ (8) _ Qh.nd rfl (Or.inl rfl) (by trivial)) zD)) (by trivial) (by trivial)) (@qg _ _ _ (@QP _ _ _ _ (@yV _ _ _ _ _ _ _ _ _ _ _ _ _ _ _ _ _ _ _ _ (pv 11) T.qf T.qL qy (hr.mono (by first|decide|omega)) T.qK .nil qr (@qa _ _ _ _ _ (pv 8) (@qc _) (by trivial)) (by trivial) (by trivial) (by trivial)) (by trivial))) (by trivial)) (@qb _ _ _ _ _ (@jf _ _ _ _ _ _ _ _ PassesOwn.never rfl (@ZS _ _ _ _ (@yY _ _ _ _ _ _ _ _ _ _ (@j0 _) (pv 3) (@Y4 _ _ _ (pv 5)) (@Y7 _))) (@Qm _ _ (13) _ Qh.nd rfl (Or.inl rfl) (by trivial)) (@qg _ _ _ (@QP _ _ _ _ (@yV _ _ _ _ _ _ _ _ _ _ _ _ _ _ _ _ _ _ _ _ (pv 6) T.qf T.qL qy (hr.mono (by first|decide|omega)) T.qK .nil qr (@qa _ _ _ _ _ (pv 13) (@qc _) (by trivial)) (by trivial) (by trivial) (by trivial)) (by trivial))) (by trivial)) (@qb _ _ _ _ _ (@qY _ _ _ _ _ _ _ _ (@xl _ _ _ _ _ _ _ (@qo _ _ _ _ _ _ _ _ (@wj _ hr.units) (@qq _ _ _ _ _ _ _ _ _ _ _ _ _ _ _ _ QL (hr.mono (by first|decide|omega)) (by rfl) T.Q4 T.QN.kp T.Q3 .nil qr (@qa _ _ _ _ _ (pv 7) (@qc _) (by trivial)) (by trivial) (by trivial) (by trivial)) (@qq _ _ _ _ _ _ _ _ _ _ _ _ _ _ _ _ QL (hr.mono (by first|decide|omega)) (by rfl) T.Q4 T.QN.kp T.Q3 .nil qr (@qa _ _ _ _ _ (pv 9) (@qc _) (by trivial)) (by trivial) (by trivial) (by trivial)) (qF _)) (@Ja _ _ _ _ (@qo _ _ _ _ _ _ _ _ (@wj _ hr.units) (@qq _ _ _ _ _ _ _ _ _ _ _ _ _ _ _ _ QL (hr.mono (by first|decide|omega)) (by rfl) T.Q4 T.QN.kp T.Q3 .nil qr (@qa _ _ _ _ _ (pv 11) (@qc _) (by trivial)) (by trivial) (by trivial) (by trivial)) (@qq _ _ _ _ _ _ _ _ _ _ _ _ _ _ _ _ QL (hr.mono (by first|decide|omega)) (by rfl) T.Q4 T.QN.kp T.Q3 .nil qr (@qa _ _ _ _ _ (pv 9) (@qc _) (by trivial)) (by trivial) (by trivial) (by trivial)) (qF _)))).pt (@qg _ _ _ (@qm _ _ _ _ (@Y8 _ _ _ _))) (@qt _)) (@qb _ _ _ _ _ (@qY _ _ _ _ _ _ _ _ (@qo _ _ _ _ _ _ _ _ (@op_neR _ hr.units) (@yY _ _ _ _ _ _ _ _ _ _ (@j0 _) (@qJ _ _ _ _ _ _ _ _ _ _ _ _ _ _ _ _ _ (pv 7) T.qf T.qW qI (hr.mono (by first|decide|omega)) T.qV .nil qr (by trivial)) (@Y7 _) (@Y4 _ _ _ (pv 5))) (@yY _ _ _ _ _ _ _ _ _ _ (@j0 _) (@qJ _ _ _ _ _ _ _ _ _ _ _ _ _ _ _ _ _ (pv 6) T.qf T.qW qI (hr.mono (by first|decide|omega)) T.qV .nil qr (by trivial)) (@Y7 _) (@Y4 _ _ _ (pv 5))) (qF _)) (@qg _ _ _ (@qm _ _ _ _ (@Y8 _ _ _ _))) (@qt _)) (@qg _ _ _ (@qm _ _ _ _ (@Y0 _ _ _ _ _ _ _ _ (@op_eqR _ hr.units) (@qQ _ _ _ _ _ _ _ (@qX _) (@qQ _ _ _ _ _ _ _ (@qX _) (@qJ _ _ _ _ _ _ _ _ _ _ _ _ _ _ _ _ _ (pv 7) T.qf T.qW qI (hr.mono (by first|decide|omega)) T.qV .nil qr (by trivial)) (pv 5) (fun _ _=>rfl)) (@qi _ _ _ _) (fun _ _=>rfl)) (@qQ _ _ _ _ _ _ _ (@qX _) (@qQ _ _ _ _ _ _ _ (@qX _) (@qJ _ _ _ _ _ _ _ _ _ _ _ _ _ _ _ _ _ (pv 6) T.qf T.qW qI (hr.mono (by first|decide|omega)) T.qV .nil qr (by trivial)) (pv 5) (fun _ _=>rfl)) (@qi _ _ _ _) (fun _ _=>rfl)) (qF _)))))))))))))))),?_⟩
 have hle:=hV.le hR
 have hpos:0<as.length:=List.length_pos_iff.mpr hne
 obtain⟨pa,us,rfl,epa,iu⟩:=id ia
 have hul:us.length=as.length:=iu.length
 refine⟨_,rfl,_,rfl,pa,us,rfl,.inr (SqT.of epa),p,(us.length:Int),rfl,hP,by omega,by omega,fun d1 H1 a0 a1 P1 K1 _=> ?_⟩
 obtain⟨n,rfl⟩:∃n:Nat,d1=(n:Int):=⟨d1.toNat,by omega⟩
 have hn:n<as.length:=by omega
 have tk1:=hP.tk P1 K1
 have hL1:=K1 _ _ hL nLp
 have hv1:=hv.mono tk1
 have ia1:=ia.mono tk1
 clear hL hv ia iu epa
 refine⟨_,rfl,_,rfl,fun x6 dx6 hx6 hdx6 _=>xv hv1 hR hnm hol hx6 hdx6 fun db6 dg6 H2 hdb6 hdg6 S2 M6=>⟨rfl,?_⟩⟩
 have f6:Fh H1 ⟨x6,db6,dg6,rs,own⟩:=⟨hx6,hdb6,hdg6⟩
 clear hx6 hdb6 hdg6 hdx6
 generalize hm6:(⟨x6,db6,dg6,rs,own⟩:Mc)=m6 at M6 f6
 refine⟨_,rfl,_,rfl,fun x7 dx7 hx7 hdx7 _=>xv (hv1.mono S2.tk) hR hnm hol hx7 hdx7 fun db7 dg7 H3 hdb7 hdg7 S3 M7=>⟨rfl,?_⟩⟩
 have f7':Fh H2 ⟨x7,db7,dg7,rs,own⟩:=⟨hx7,hdb7,hdg7⟩
 clear hx7 hdb7 hdg7 hdx7
 generalize hm7:(⟨x7,db7,dg7,rs,own⟩:Mc)=m7 at M7 f7'
 have P2:=P1.same S2
 have f7:Fh H1 m7:=f7'.back (Kept.of (p:=p) S2) (P2.np f7')
 have a67:Ap m6 m7:=M6.apart f7'
 have n6p:=P1.np f6
 have n7p:=P1.np f7
 have n6L:=f6.np hL1
 have n7L:=f7.np hL1
 have M6':=M6.same S3
 have K3:Kept p H1 H3:=Kept.of (S2.trans S3)
 have P3:=P2.same S3
 clear M6 P2 f7' S2 S3
 have tk3:=P1.tk P3 K3
 refine⟨_,rfl,_,rfl,_,rfl,?_⟩
 refine sl_to (n:=n) (ia1.mono tk3) (by omega) fun t4 H4 s4 i4=> ?_
 obtain⟨pt4,u4,rfl,e4,iu4⟩:=i4
 have hu4:u4.length=n:=by rw [iu4.length,List.length_take];omega
 refine⟨pt4,rfl,⟨u4,SqT.of e4⟩,?_⟩
 have er6:m6.rs=rs∧m6.own=own∧m6.x=x6:=by rw [←hm6];exact⟨rfl,rfl,rfl⟩
 have er7:m7.rs=rs∧m7.own=own∧m7.x=x7:=by rw [←hm7];exact⟨rfl,rfl,rfl⟩
 obtain⟨r6,o6,rfl⟩:=er6
 obtain⟨r7,o7,rfl⟩:=er7
 refine xy (xs:=u4) (fun i σ H'=>∃y8 y9 y10 y11 y12 y13:Option V,σ= [some (.ref p),some v,some (.str own),some (.ref pa),some (.ref L),some (.int (n:Int)),some (.ref m6.x),some (.ref m7.x),y8,y9,y10,y11,y12,y13]∧i≤n∧qM a.qd H' m6 (qw rs own (as.take i))∧qM a.qd H' m7 (qw rs own (as.take i))∧QD H' p∧Kept p H1 H'∧Tk H4 H') ⟨_,_,_,_,_,_,rfl,Nat.zero_le _,M6'.same s4,M7.same s4,P3.same s4,K3.trans (Kept.of s4),Tk.refl _⟩ (fun i σ H' hi ⟨_,_,_,_,_,_,_,_,_,_,_,_,t⟩=>SqT.of (t.tup _ _ e4)) ?_ ?_
 ·rintro i y σ H' hy ⟨y8,y9,y10,y11,y12,y13,rfl,hi,M6,M7,P',K',t'⟩
  have hlt:i<n:=by rw [←hu4];exact(List.getElem?_eq_some_iff.mp hy).1
  obtain⟨an,hk⟩:∃an,as[i]? =some an:=⟨as[i],by simp [show i<as.length by omega]⟩
  obtain⟨y',hy',iy⟩:=iu4.get (i:=i) (d:=an) (by rw [List.getElem?_take_of_lt hlt];exact hk)
  rw [hy] at hy'
  cases hy'
  refine⟨_,rfl,M6.m (by decide+kernel) ⟨_,rfl,?_⟩⟩
  unfold tNil
  refine an_at (m:=m6) (by rw [r6];exact hR) (by rw [o6];exact hol) (by rw [r6,o6];exact hV) hk (by rw [r6,o6];exact M6) (iy.mono t') fun H5 v5 M6'=> ?_
  have M75:=M7.mv v5 a67.symm
  refine⟨_,rfl,M75.m (by decide+kernel) ⟨_,rfl,?_⟩⟩
  refine an_at (m:=m7) (by rw [r7];exact hR) (by rw [o7];exact hol) (by rw [r7,o7];exact hV) hk (by rw [r7,o7];exact M75) ((iy.mono t').mono v5.tk) fun H6 v6 M7'=> ?_
  rw [r6,o6] at M6'
  rw [r7,o7] at M7'
  exact⟨_,_,_,_,_,_,rfl,hlt,M6'.mv v6 a67,M7',(P'.mv v5 n6p).mv v6 n7p,(Kept.mv (Kept.mv K' v5 f6) v6 f7),t'.trans (v5.tk.trans v6.tk)⟩
 rintro σ H5 ⟨y8,y9,y10,y11,y12,y13,rfl,hi,M6,M7,P5,K5,t5⟩
 rw [hu4] at M6 M7
 clear hi t5 iu4 e4 s4 M6' hu4
 obtain⟨an0,hk0⟩:∃an,as[n]? =some an:=⟨as[n],by simp [hn]⟩
 obtain⟨u0,d0,eth0,ha0⟩:=hV n an0 hk0
 have hO0:=QT (own:=own) hR (hV.take n).ok
 obtain⟨_,_,_,u1,d1,eth1,hu1,hd1⟩:=hO0.ask (wt eth0)
 obtain⟨rfl,rfl⟩:u0=u1∧d0=d1:=by
  rw [eth0] at eth1
  injection eth1 with e
  injection e with _ e
  injection e with e _
  injection e with e
  injection e with e1 e2
  injection e2 with e2 _
  injection e1 with e1
  exact⟨e1,e2⟩
 have hdd:=Zw hd1
 have hgg:=Xp (jU hd1)
 refine⟨_,rfl,M6.m (by decide+kernel) ⟨m6,_,rfl,M6,fun v1 i1=> ?_⟩⟩
 refine⟨_,rfl,M7.m (by decide+kernel) ⟨m7,_,rfl,M7,fun v2 i2=> ?_⟩⟩
 rw [eth0] at i1 i2
 refine⟨[.str "asks",.tup [.str u0,d0]],i1,i2,by simp only [nL,nD,hgg,Bool.and_true],by simp only [dpL,dp];omega,_,rfl,iteF ?_⟩
 refine⟨_,rfl,M6.m (by decide+kernel) ⟨m6,_,rfl,M6,fun v3 i3=> ?_⟩⟩
 rw [eth0] at i3
 refine .inr (.inl (yw (i:=0) (d:= .str "asks") i3 (Qe (j:=0) rfl) fun y hy=> ?_))
 obtain⟨rfl,_⟩:=hy
 refine⟨rfl,_,rfl,qA (by decide+kernel) ?_⟩
 refine⟨_,rfl,M7.m (by decide+kernel) ⟨m7,_,rfl,M7,by rw [r7];exact hR,by rw [o7];exact hnm,by rw [o7];exact hol,fun x9 db9 dg9 H6 hx9 hdb9 hdg9 S6 M9=> ?_⟩⟩
 have f9':Fh H5 ⟨x9,db9,dg9,m7.rs,m7.own⟩:=⟨hx9,hdb9,hdg9⟩
 clear hx9 hdb9 hdg9
 generalize hm9:(⟨x9,db9,dg9,m7.rs,m7.own⟩:Mc)=m9 at M9 f9'
 have er9:m9.rs=rs∧m9.own=own∧m9.x=x9:=by rw [←hm9];exact⟨r7,o7,rfl⟩
 obtain⟨r9,o9,rfl⟩:=er9
 have n9p:=P5.np f9'
 have f9:Fh H1 m9:=f9'.back K5 n9p
 have n9L:=f9.np hL1
 have a69:=M6.apart f9'
 have a79:=M7.apart f9'
 have M66:=M6.same S6
 have M76:=M7.same S6
 have P6:=P5.same S6
 have K6:=K5.trans (Kept.of S6)
 clear f9' M6 M7 P5 K5 S6
 obtain⟨pv,uv,rfl,epv,iuv⟩:=id hv1
 have huv:uv.length=rs.length:=by rw [iuv.length,List.length_map]
 have n40:=hR.n1
 have n01:=hR.n0
 have tk6:=P1.tk P6 K6
 refine⟨_,rfl,pv,uv,rfl,.inr (SqT.of (tk6.tup _ _ epv)),(uv.length:Int),rfl,by omega,by omega,?_⟩
 refine jv (n:=(uv.length:Int).toNat) (fun i σ H'=>∃(cs:List D) (y8 y10 y11 y12 y13:Option V),σ= [some (.ref p),some (.ref pv),some (.str own),some (.ref pa),some (.ref L),some (.int (n:Int)),some (.ref m6.x),some (.ref m7.x),y8,some (.ref m9.x),y10,y11,y12,y13]∧Val rs own cs∧cs.take n=as.take n∧(n<cs.length∨(i=0∧cs=as.take n))∧qM a.qd H' m6 (qw rs own (as.take n))∧qM a.qd H' m7 (qw rs own cs)∧qM a.qd H' m9 (qw rs own cs)∧QD H' p∧Kept p H1 H') ⟨as.take n,_,_,_,_,_,rfl,hV.take n,by rw [List.take_take,Nat.min_self],.inr ⟨rfl,rfl⟩,M66,M76,M9,P6,K6⟩ ?_ ?_
 ·rintro i σ H' hi ⟨cs,y8,y10,y11,y12,y13,rfl,hC,hct,hcl,M6,M7,M9,P',K'⟩
  have hLl:=K' _ _ hL1 nLp
  have hlc:n≤cs.length:=by
   rcases hcl with h|⟨_,h⟩
   ·omega
   ·rw [h,List.length_take];omega
  refine t_ask (i:=7) rfl M7 (by rw [r7];exact QT hR hC.ok) (fun u d eth hu=> ?_) (fun hw=> ?_)
  ·refine e_ans (i:=0) (j:=7) (l:=4) rfl rfl rfl M7 eth hu P' hLl fun x an H7 ha ix P7 K7 t7=> ?_
   have M77:=M7.kept K7 t7 n7p
   refine⟨_,rfl,M77.m (by decide+kernel) ⟨_,rfl,?_⟩⟩
   unfold tNil
   refine wr (m:=m7) (as:=cs) (by rw [r7];exact hR) (by rw [o7];exact hol) (by rw [r7,o7];exact hC) (by rw [r7,o7];exact eth) ha (by rw [r7,o7];exact M77) ix fun H8 v8 M78 hC'=> ?_
   have M98:=(M9.kept K7 t7 n9p).mv v8 a79.symm
   refine⟨_,rfl,M98.m (by decide+kernel) ⟨_,rfl,?_⟩⟩
   refine wr (m:=m9) (as:=cs) (by rw [r9];exact hR) (by rw [o9];exact hol) (by rw [r9,o9];exact hC) (by rw [r9,o9];exact eth) ha (by rw [r9,o9];exact M98) (ix.mono v8.tk) fun H9 v9 M99 _=> ?_
   rw [r7,o7] at M78 hC'
   rw [r9,o9] at M99
   refine⟨cs++ [an],_,_,_,_,_,rfl,hC',by rw [List.take_append_of_le_length hlc];exact hct,.inl (by rw [List.length_append];simp;omega),((M6.kept K7 t7 n6p).mv v8 a67).mv v9 a69,M78.mv v9 a79,M99,(P7.mv v8 n7p).mv v9 n9p,Kept.mv (Kept.mv (K'.trans K7) v8 f7) v9 f9⟩
  ·refine⟨cs,_,_,_,_,_,rfl,hC,hct,?_,M6,M7,M9,P',K'⟩
   rcases hcl with h|⟨_,h⟩
   ·exact .inl h
   ·rw [h,wt eth0] at hw
    cases hw
 rintro σ H7 ⟨cs,y8,y10,y11,y12,y13,rfl,hC,hct,hcl,M6,M7,M9,P7,K7⟩
 have hlc:n<cs.length:=by
  rcases hcl with h|⟨h,_⟩
  ·exact h
  ·omega
 clear hcl M66 M76 P6 K6 tk6
 have tk7:=P1.tk P7 K7
 refine⟨_,rfl,_,rfl,fun x11 dx11 hx11 hdx11 _=>xv (hv1.mono tk7) hR hnm hol hx11 hdx11 fun db11 dg11 H8 hdb11 hdg11 S8 M11=>⟨rfl,?_⟩⟩
 have f11':Fh H7 ⟨x11,db11,dg11,rs,own⟩:=⟨hx11,hdb11,hdg11⟩
 clear hx11 hdb11 hdg11 hdx11
 generalize hm11:(⟨x11,db11,dg11,rs,own⟩:Mc)=m11 at M11 f11'
 have er11:m11.rs=rs∧m11.own=own∧m11.x=x11:=by rw [←hm11];exact⟨rfl,rfl,rfl⟩
 obtain⟨r11,o11,rfl⟩:=er11
 have n11p:=P7.np f11'
 have f11:Fh H1 m11:=f11'.back K7 n11p
 have a6:=M6.apart f11'
 have a7:=M7.apart f11'
 have a9:=M9.apart f11'
 have M68:=M6.same S8
 have M78:=M7.same S8
 have M98:=M9.same S8
 have P8:=P7.same S8
 have K8:=K7.trans (Kept.of S8)
 clear f11' M6 M7 M9 P7 K7 S8
 refine⟨_,rfl,M78.m (by decide+kernel) ⟨m7,_,rfl,M78,fun t9 H9 s9 i9=> ?_⟩⟩
 obtain⟨pt9,u9,rfl,e9,iu9⟩:=i9
 have hu9:u9.length=cs.length:=by rw [iu9.length,Xw hC]
 refine⟨pt9,rfl,⟨u9,SqT.of e9⟩,?_⟩
 refine xy (xs:=u9) (fun i σ H'=>∃y8 y10 y12 y13:Option V,σ= [some (.ref p),some (.ref pv),some (.str own),some (.ref pa),some (.ref L),some (.int (n:Int)),some (.ref m6.x),some (.ref m7.x),y8,some (.ref m9.x),y10,some (.ref m11.x),y12,y13]∧i≤cs.length∧qM a.qd H' m6 (qw rs own (as.take n))∧qM a.qd H' m7 (qw rs own cs)∧qM a.qd H' m9 (qw rs own cs)∧qM a.qd H' m11 (qw rs own (cs.take i))∧QD H' p∧Kept p H1 H'∧Tk H9 H') ⟨_,_,_,_,rfl,Nat.zero_le _,M68.same s9,M78.same s9,M98.same s9,M11.same s9,P8.same s9,K8.trans (Kept.of s9),Tk.refl _⟩ (fun i σ H' hi ⟨_,_,_,_,_,_,_,_,_,_,_,_,t⟩=>SqT.of (t.tup _ _ e9)) ?_ ?_
 ·rintro i y σ H' hy ⟨y8,y10,y12,y13,rfl,hi,M6,M7,M9,M11,P',K',t'⟩
  have hlt:i<cs.length:=by rw [←hu9];exact(List.getElem?_eq_some_iff.mp hy).1
  obtain⟨an,hk⟩:∃an,cs[i]? =some an:=⟨cs[i],by simp [hlt]⟩
  obtain⟨u,d,eth,ha,hg⟩:=ZI hC hk
  obtain⟨y',hy',iy⟩:=iu9.get (i:=i) hg
  rw [hy] at hy'
  cases hy'
  obtain⟨py,uy,rfl,ey,w1,q1,rfl,j1,w2,q2,rfl,j2,j3⟩:=iy.mono t'
  cases(show q2= [] from j3)
  refine⟨py,_,rfl,SqT.of ey,rfl,_,_,rfl,_,_,rfl,rfl,?_⟩
  refine⟨_,rfl,M11.m (by decide+kernel) ⟨_,rfl,?_⟩⟩
  unfold tNil
  refine an_at (m:=m11) (by rw [r11];exact hR) (by rw [o11];exact hol) (by rw [r11,o11];exact hC) hk (by rw [r11,o11];exact M11) j2 fun H10 v10 M11'=> ?_
  rw [r11,o11] at M11'
  exact⟨_,_,_,_,rfl,hlt,M6.mv v10 a6,M7.mv v10 a7,M9.mv v10 a9,M11',P'.mv v10 n11p,Kept.mv K' v10 f11,t'.trans v10.tk⟩
 rintro σ H10 ⟨y8,y10,y12,y13,rfl,hi,M6,M7,M9,M11',P10,K10,t10⟩
 rw [hu9,List.take_length] at M11'
 clear hi t10 iu9 e9 s9 M68 M78 M98 P8 K8 M11
 have tk10:=P1.tk P10 K10
 refine⟨_,rfl,_,rfl,_,rfl,?_⟩
 unfold tNoPart
 refine sl_from (n:=n) (ia1.mono tk10) (by omega) fun t11 H11 s11 i11=> ?_
 obtain⟨pt11,u11,rfl,e11,iu11⟩:=i11
 have hu11:u11.length=as.length-n:=by rw [iu11.length,List.length_drop]
 refine⟨pt11,rfl,⟨u11,SqT.of e11⟩,?_⟩
 refine xy (xs:=u11) (fun i σ H'=>∃y13:Option V,σ= [some (.ref p),some (.ref pv),some (.str own),some (.ref pa),some (.ref L),some (.int (n:Int)),some (.ref m6.x),some (.ref m7.x),y8,some (.ref m9.x),y10,some (.ref m11.x),y12,y13]∧qM a.qd H' m6 (qw rs own (as.take (n+i)))∧qM a.qd H' m7 (qw rs own cs)∧qM a.qd H' m9 (qw rs own cs)∧qM a.qd H' m11 (qw rs own cs)∧QD H' p∧Kept p H1 H'∧Tk H11 H') ⟨_,rfl,M6.same s11,M7.same s11,M9.same s11,M11'.same s11,P10.same s11,K10.trans (Kept.of s11),Tk.refl _⟩ (fun i σ H' hi ⟨_,_,_,_,_,_,_,_,t⟩=>SqT.of (t.tup _ _ e11)) ?_ ?_
 ·rintro i y σ H' hy ⟨y13,rfl,M6,M7,M9,M11,P',K',t'⟩
  have hlt:n+i<as.length:=by have:=(List.getElem?_eq_some_iff.mp hy).1;omega
  obtain⟨an,hk⟩:∃an,as[n+i]? =some an:=⟨as[n+i],by simp [hlt]⟩
  obtain⟨y',hy',iy⟩:=iu11.get (i:=i) (d:=an) (by rw [List.getElem?_drop];exact hk)
  rw [hy] at hy'
  cases hy'
  refine⟨_,rfl,M6.m (by decide+kernel) ⟨_,rfl,?_⟩⟩
  unfold tNil
  refine an_at (m:=m6) (by rw [r6];exact hR) (by rw [o6];exact hol) (by rw [r6,o6];exact hV) hk (by rw [r6,o6];exact M6) (iy.mono t') fun H12 v12 M6'=> ?_
  rw [r6,o6] at M6'
  exact⟨_,rfl,M6',M7.mv v12 a67.symm,M9.mv v12 a69.symm,M11.mv v12 a6.symm,P'.mv v12 n6p,Kept.mv K' v12 f6,t'.trans v12.tk⟩
 rintro σ H12 ⟨y13,rfl,M6',M7',M9',M11',P12,K12,t12⟩
 rw [hu11,show n+(as.length-n)=as.length by omega,List.take_length] at M6'
 clear t12 iu11 e11 s11 M6 M7 M9
 have hOC:=QT (own:=own) hR hC.ok
 have hOA:=QT (own:=own) hR hV.ok
 refine⟨_,rfl,m7,_,rfl,M7',fun l1 tv1 gv1 H13 s13 e13 i13 j13=> ?_⟩
 refine⟨_,rfl,m9,_,rfl,M9'.same s13,fun l2 tv2 gv2 H14 s14 e14 i14 j14=> ?_⟩
 refine⟨l1,l2,_,_,[(qw rs own cs).th,.tup (qw rs own cs).gs,.int ((qw rs own cs).n:Int)],rfl,rfl,SqL.of (s14 _ _ e13),SqL.of e14,⟨_,_,rfl,i13.mono s14.tk,_,_,rfl,j13.mono s14.tk,_,_,rfl,rfl,rfl⟩,⟨_,_,rfl,i14,_,_,rfl,j14,_,_,rfl,rfl,rfl⟩,(rn_n2 hOC _).1,(rn_n2 hOC _).2,_,rfl,iteF ?_⟩
 have S14:=s13.trans s14
 clear s13 s14 e13 i13 j13 e14 i14 j14
 refine⟨_,rfl,m11,_,rfl,M11'.same S14,fun l3 tv1 gv1 H15 s15 e13 i13 j13=> ?_⟩
 refine⟨_,rfl,m9,_,rfl,(M9'.same S14).same s15,fun l4 tv2 gv2 H16 s16 e14 i14 j14=> ?_⟩
 refine⟨l3,l4,_,_,[(qw rs own cs).th,.tup (qw rs own cs).gs,.int ((qw rs own cs).n:Int)],rfl,rfl,SqL.of (s16 _ _ e13),SqL.of e14,⟨_,_,rfl,i13.mono s16.tk,_,_,rfl,j13.mono s16.tk,_,_,rfl,rfl,rfl⟩,⟨_,_,rfl,i14,_,_,rfl,j14,_,_,rfl,rfl,rfl⟩,(rn_n2 hOC _).1,(rn_n2 hOC _).2,_,rfl,iteF ?_⟩
 have S16:=S14.trans (s15.trans s16)
 clear s15 s16 e13 i13 j13 e14 i14 j14 S14
 have M7q:=M7'.same S16
 have M6q:=M6'.same S16
 have P16:=P12.same S16
 have K16:=K12.trans (Kept.of S16)
 clear M7' M6' M9' M11' S16 P12 K12
 have hgA:=gs_take hV (k:=n) (by omega)
 have hgC:=gs_take hC (k:=n) (by omega)
 have hlA:=Xw hV
 have hlC:=Xw hC
 rw [hct] at hgC
 refine⟨_,rfl,M7q.m (by decide+kernel) ⟨m7,_,rfl,M7q,fun v1 H17 s17 i17=> ?_⟩⟩
 refine⟨_,rfl,_,rfl,?_⟩
 refine sl_to (n:=n) i17 (by omega) fun v2 H18 s18 i18=> ?_
 have M6r:=M6q.same (s17.trans s18)
 refine⟨_,rfl,M6r.m (by decide+kernel) ⟨m6,_,rfl,M6r,fun v3 H19 s19 i19=> ?_⟩⟩
 refine⟨_,rfl,_,rfl,?_⟩
 refine sl_to (n:=n) i19 (by omega) fun v4 H20 s20 i20=> ?_
 rw [←hgC] at i18
 rw [←hgA] at i20
 have S20:=s17.trans (s18.trans (s19.trans s20))
 refine⟨(qw rs own (as.take n)).gs,i18.mono (s19.trans s20).tk,i20,hO0.gs.1,by have:=hO0.gs.2.1;omega,_,rfl,iteF ?_⟩
 obtain⟨ua,da,etha,_,hga⟩:=ZI hV hk0
 obtain⟨c0,hc0⟩:∃an,cs[n]? =some an:=⟨cs[n],by simp [hlc]⟩
 obtain⟨uc,dc,ethc,_,hgc⟩:=ZI hC hc0
 rw [hct] at ethc
 have eda:D.tup [.str ua,da]= .tup [.str u0,d0]:=by
  have:=etha.symm.trans eth0
  injection this with this
  injection this with _ this
  injection this with this _
 have edc:D.tup [.str uc,dc]= .tup [.str u0,d0]:=by
  have:=ethc.symm.trans eth0
  injection this with this
  injection this with _ this
  injection this with this _
 have M7s:=M7q.same S20
 refine⟨_,rfl,M7s.m (by decide+kernel) ⟨m7,_,rfl,M7s,fun v1 H21 s21 i21=> ?_⟩⟩
 refine⟨_,rfl,yw (i:=(n:Int)) i21 (Qe hgc) fun y5 hy5=> ?_⟩
 unfold tC
 refine yw (i:=0) (d:= .tup [.str uc,dc]) hy5 (Qe (j:=0) rfl) fun y6 hy6=> ?_
 have M6s:=(M6q.same S20).same s21
 refine⟨_,rfl,M6s.m (by decide+kernel) ⟨m6,_,rfl,M6s,fun v2 H22 s22 i22=> ?_⟩⟩
 refine⟨_,rfl,yw (i:=(n:Int)) i22 (Qe hga) fun y7 hy7=> ?_⟩
 refine yw (i:=0) (d:= .tup [.str ua,da]) hy7 (Qe (j:=0) rfl) fun y8 hy8=> ?_
 rw [edc] at hy6
 rw [eda] at hy8
 refine⟨[.str u0,d0],hy6.mono s22.tk,hy8,by simp only [nL,nD,hgg,Bool.and_true],by simp only [dpL,dp];omega,?_⟩
 have S22:=S20.trans (s21.trans s22)
 exact k _ (P16.same S22) (K1.trans (K16.trans (Kept.of S22)))
end
end K14
namespace K14
open PySem L2 PyProof.Rows
open Builtin.Int (intBits)
def sp_law (K:PySem.W.Frag):Sp:=fun vs H Q _=>∃(q:Addr) (ns:List Int),vs= [.ref q]∧SqL K H q (ns.map V.int)∧ns.length≤63∧((∀x∈ns,intBits x≤MB)∧intBits ns.sum≤MB)∧∀H',Q (.bl true) H'
theorem nms_at {d:Int}(h0:0≤d)(h1:d<8):∃z:Str,atI (NMS.map V.str) d=some (.str z)∧nm z=true∧z.length≤100:=by
 obtain⟨v,hv⟩:=xr (xs:=NMS.map V.str) (i:=d) h0 h1
 obtain⟨z,hz,rfl⟩:=List.mem_map.mp (zh hv)
 exact⟨z,hv,nms_ok z hz⟩
theorem Kept.kp {H H1 H2:Hp}{ms:List Mc}{p:Addr}(k:Kept p H H1)(v:Kp p ms H1 H2)(h:∀m∈ms,Fh H m):Kept p H H2:=fun b o e n=>v.kept _ _ (k b o e n) n fun m hm=>(h m hm).np e
section
variable {P:Program}{w:World}{K:PySem.W.Frag}{mg:Str→Option Value}{base:Heap}{a:Ad}{g:Ga}
theorem ok_law (T:Tx K mg a)(C:Fx K w mg g a):FnOk P w K mg base CX0 13 a.f_law a.d_law ["script"] (sp_law K):=by
 have G_law_names:FnOk P w K mg base CX0 1 a.jN a.jZ [] sp_lnames:=ok_lnames T
 have wk:FnOk P w K mg base CX0 1 a.YH a.YI ["script","k"] (sp_cell K):=ok_cell T
 have G_law_pot:FnOk P w K mg base CX0 1 a.xf a.xk ["cell","salt"] sp_pot:=ok_pot T
 have qN:FnOk P w K mg base CX0 1 a.yd a.yb ["pot","many"] Ju:=JX T
 have Zo:FnOk P w K mg base CX0 4 a.JM a.JA ["pot","names"] sp_rule:=ok_rule T
 have G_law_back:FnOk P w K mg base CX0 2 a.JC a.JG ["pot","rule"] sp_back:=ok_back T
 have qO:FnOk P w K mg base CX0 6 a.Qv a.QA ["self","rule","own"] (jP a.qd):=xu T C
 have qI:FnOk P w K mg base CX0 1 a.Qx a.Qw ["self"] (xB a.qd):=X8 T
 have qy:FnOk P w K mg base CX0 6 a.Qq a.Qr ["self","tree"] (xt a.qd):=ok_ans T C
 have G_law_run:FnOk P w K mg base CX0 8 a.J6 a.xg ["pot","machine","names","other","most"] (sp_lrun a.qd):=ok_run T C
 have QL:FnOk P w K mg base CX0 2 a.YC a.YB ["machine"] (sp_stds a.qd):=ok_stds T
 have XJ:FnOk P w K mg base CX0 12 a.yD a.yA ["rule","own","answers","machine"] (sp_beg a.qd):=ok_beg T C
 have G_law_parted:FnOk P w K mg base CX0 12 a.jc a.jj ["pot","rule","own","answers","names"] (sp_prt a.qd):=ok_prt T C
 refine T.F_law.ok YF (fun vs H Q E h=> ?_) (fun cdv A outer s H vs Q E hr h=> ?_)
 ·obtain⟨q,ns,rfl,_⟩:=h
  rfl
 obtain⟨q,ns,rfl,hS,hlen,⟨hbit,hsum⟩,k⟩:=h
 refine⟨_,(@qb _ _ _ _ _ (@qx _ _ (1) _ _ _ _ YF.nd rfl (Or.inl rfl) (@pe_call0 _ _ _ _ _ _ _ _ _ _ _ _ _ G_law_names (hr.mono (by first|decide|omega)) (by rfl) T.m_law_names T.zL.kp T.b_law_names .nil qr (by trivial)) (by trivial) (by trivial)) (@qb _ _ _ _ _ (@qx _ _ (2) _ _ _ _ YF.nd rfl (Or.inl rfl) (@qq _ _ _ _ _ _ _ _ _ _ _ _ _ _ _ _ Zo (hr.mono (by first|decide|omega)) (by rfl) T.ZE T.xY.kp T.Zn .nil qr (@qa _ _ _ _ _ (@qq _ _ _ _ _ _ _ _ _ _ _ _ _ _ _ _ G_law_pot (hr.mono (by first|decide|omega)) (by rfl) T.m_law_pot T.zX.kp T.b_law_pot .nil qr (@qa _ _ _ _ _ (@qp _ _ _ _ _ _ _ _ _ (@call_sumL _ rfl) (by rfl) T.z_sum boot_sum (@qa _ _ _ _ _ (pv 0) (@qc _) (by trivial)) (by trivial) (by trivial) (by trivial) (by trivial)) (@qa _ _ _ _ _ (@qi _ _ _ _) (@qc _) (by trivial)) (by trivial)) (by trivial) (by trivial) (by trivial)) (@qa _ _ _ _ _ (pv 1) (@qc _) (by trivial)) (by trivial)) (by trivial) (by trivial) (by trivial)) (by trivial) (by trivial)) (@qb _ _ _ _ _ (@jf _ _ _ _ _ _ _ _ PassesOwn.never rfl (@YE _ _ _ _ _ _ (by rfl) T.jO (@qa _ _ _ _ _ (@Qa _ _ _ _ _ _ _ _ (@Q8 _) (@qp _ _ _ _ _ _ _ _ _ (@call_min2 _ rfl) (by rfl) T.z_min boot_min (@qa _ _ _ _ _ (@qi _ _ _ _) (@qa _ _ _ _ _ (@qp _ _ _ _ _ _ _ _ _ (@qE _) (by rfl) T.yS PySem.boot_len (@qa _ _ _ _ _ (pv 0) (@qc _) (by trivial)) (by trivial) (by trivial) (by trivial) (by trivial)) (@qc _) (by trivial)) (by trivial)) (by trivial) (by trivial) (by trivial) (by trivial)) (@qi _ _ _ _)) (@qc _) (by trivial)) (by trivial)) (@Qm _ _ (3) _ YF.nd rfl (Or.inl rfl) (by trivial)) (@qb _ _ _ _ _ (@qx _ _ (4) _ _ _ _ YF.nd rfl (Or.inl rfl) (@qq _ _ _ _ _ _ _ _ _ _ _ _ _ _ _ _ G_law_pot (hr.mono (by first|decide|omega)) (by rfl) T.m_law_pot T.zX.kp T.b_law_pot .nil qr (@qa _ _ _ _ _ (@qq _ _ _ _ _ _ _ _ _ _ _ _ _ _ _ _ wk (hr.mono (by first|decide|omega)) (by rfl) T.wm T.xh.kp T.wq .nil qr (@qa _ _ _ _ _ (pv 0) (@qa _ _ _ _ _ (pv 3) (@qc _) (by trivial)) (by trivial)) (by trivial) (by trivial) (by trivial)) (@qa _ _ _ _ _ (@Qa _ _ _ _ _ _ _ _ (@Q8 _) (@qi _ _ _ _) (pv 3)) (@qc _) (by trivial)) (by trivial)) (by trivial) (by trivial) (by trivial)) (by trivial) (by trivial)) (@qb _ _ _ _ _ (@qx _ _ (5) _ _ _ _ YF.nd rfl (Or.inl rfl) (@qq _ _ _ _ _ _ _ _ _ _ _ _ _ _ _ _ Zo (hr.mono (by first|decide|omega)) (by rfl) T.ZE T.xY.kp T.Zn .nil qr (@qa _ _ _ _ _ (pv 4) (@qa _ _ _ _ _ (pv 1) (@qc _) (by trivial)) (by trivial)) (by trivial) (by trivial) (by trivial)) (by trivial) (by trivial)) (@qb _ _ _ _ _ (@qY _ _ _ _ _ _ _ _ (@qo _ _ _ _ _ _ _ _ (@y0 _) (@qq _ _ _ _ _ _ _ _ _ _ _ _ _ _ _ _ qN (hr.mono (by first|decide|omega)) (by rfl) T.Qk T.Qd.kp T.Ql .nil qr (@qa _ _ _ _ _ (pv 4) (@qa _ _ _ _ _ (@qi _ _ _ _) (@qc _) (by trivial)) (by trivial)) (by trivial) (by trivial) (by trivial)) (@qi _ _ _ _) (qF _)) (@qg _ _ _ (@qx _ _ (5) _ _ _ _ YF.nd rfl (Or.inl rfl) (@qq _ _ _ _ _ _ _ _ _ _ _ _ _ _ _ _ G_law_back (hr.mono (by first|decide|omega)) (by rfl) T.m_law_back T.ZF.kp T.b_law_back .nil qr (@qa _ _ _ _ _ (pv 4) (@qa _ _ _ _ _ (pv 5) (@qc _) (by trivial)) (by trivial)) (by trivial) (by trivial) (by trivial)) (by trivial) (by trivial))) (@qt _)) (@qb _ _ _ _ _ (@qx _ _ (6) _ _ _ _ YF.nd rfl (Or.inl rfl) (@qQ _ _ _ _ _ _ _ (@Yq _) (pv 1) (@qq _ _ _ _ _ _ _ _ _ _ _ _ _ _ _ _ qN (hr.mono (by first|decide|omega)) (by rfl) T.Qk T.Qd.kp T.Ql .nil qr (@qa _ _ _ _ _ (pv 4) (@qa _ _ _ _ _ (@qi _ _ _ _) (@qc _) (by trivial)) (by trivial)) (by trivial) (by trivial) (by trivial)) (fun _ _=>rfl)) (by trivial) (by trivial)) (@qb _ _ _ _ _ (@qx _ _ (7) _ _ _ _ YF.nd rfl (Or.inl rfl) (@jm _ _ _ _ _ _ _ _ _ _ _ _ _ _ _ _ _ T.yx qO (hr.mono (by first|decide|omega)) (by rfl) T.yy T.Qn .nil qr (@qa _ _ _ _ _ (pv 5) (@qa _ _ _ _ _ (pv 6) (@qc _) (by trivial)) (by trivial)) (by trivial) (by trivial) (by trivial)) (by trivial) (by trivial)) (@qb _ _ _ _ _ (@qx _ _ (8) _ _ _ _ YF.nd rfl (Or.inl rfl) (@jm _ _ _ _ _ _ _ _ _ _ _ _ _ _ _ _ _ T.yx qO (hr.mono (by first|decide|omega)) (by rfl) T.yy T.Qn .nil qr (@qa _ _ _ _ _ (pv 2) (@qa _ _ _ _ _ (pv 6) (@qc _) (by trivial)) (by trivial)) (by trivial) (by trivial) (by trivial)) (by trivial) (by trivial)) (@qb _ _ _ _ _ (@qx _ _ (9) _ _ _ _ YF.nd rfl (Or.inl rfl) (@qq _ _ _ _ _ _ _ _ _ _ _ _ _ _ _ _ G_law_run (hr.mono (by first|decide|omega)) (by rfl) T.m_law_run T.F_law_run.kp T.b_law_run .nil qr (@qa _ _ _ _ _ (pv 4) (@qa _ _ _ _ _ (pv 7) (@qa _ _ _ _ _ (pv 1) (@qa _ _ _ _ _ (pv 8) (@qa _ _ _ _ _ (@qp _ _ _ _ _ _ _ _ _ (@qE _) (by rfl) T.yS PySem.boot_len (@qa _ _ _ _ _ (pv 5) (@qc _) (by trivial)) (by trivial) (by trivial) (by trivial) (by trivial)) (@qc _) (by trivial)) (by trivial)) (by trivial)) (by trivial)) (by trivial)) (by trivial) (by trivial) (by trivial)) (by trivial) (by trivial)) (@qb _ _ _ _ _ (@qx _ _ (10) _ _ _ _ YF.nd rfl (Or.inl rfl) (@jm _ _ _ _ _ _ _ _ _ _ _ _ _ _ _ _ _ T.yx qO (hr.mono (by first|decide|omega)) (by rfl) T.yy T.Qn .nil qr (@qa _ _ _ _ _ (pv 2) (@qa _ _ _ _ _ (pv 6) (@qc _) (by trivial)) (by trivial)) (by trivial) (by trivial) (by trivial)) (by trivial) (by trivial)) (@qb _ _ _ _ _ (@jf _ _ _ _ _ _ _ _ PassesOwn.never rfl (@ZS _ _ _ _ (@qJ _ _ _ _ _ _ _ _ _ _ _ _ _ _ _ _ _ (pv 8) T.qf T.qW qI (hr.mono (by first|decide|omega)) T.qV .nil qr (by trivial))) (@pg_tup _ _ _ _ _ _ rfl (yQ (@Qm _ _ (11) _ YF.nd rfl (Or.inl rfl) (by trivial)) (yQ (@Qm _ _ (12) _ YF.nd rfl (Or.inl rfl) (by trivial)) zD)) (by trivial) (by trivial)) (@qg _ _ _ (@QP _ _ _ _ (@yV _ _ _ _ _ _ _ _ _ _ _ _ _ _ _ _ _ _ _ _ (pv 10) T.qf T.qL qy (hr.mono (by first|decide|omega)) T.qK .nil qr (@qa _ _ _ _ _ (pv 12) (@qc _) (by trivial)) (by trivial) (by trivial) (by trivial)) (by trivial))) (by trivial)) (@qb _ _ _ _ _ (@qY _ _ _ _ _ _ _ _ (@qo _ _ _ _ _ _ _ _ (@wj _ hr.units) (@qq _ _ _ _ _ _ _ _ _ _ _ _ _ _ _ _ QL (hr.mono (by first|decide|omega)) (by rfl) T.Q4 T.QN.kp T.Q3 .nil qr (@qa _ _ _ _ _ (pv 10) (@qc _) (by trivial)) (by trivial) (by trivial) (by trivial)) (@qq _ _ _ _ _ _ _ _ _ _ _ _ _ _ _ _ QL (hr.mono (by first|decide|omega)) (by rfl) T.Q4 T.QN.kp T.Q3 .nil qr (@qa _ _ _ _ _ (pv 8) (@qc _) (by trivial)) (by trivial) (by trivial) (by trivial)) (qF _)) (@qg _ _ _ (@qm _ _ _ _ (@Y8 _ _ _ _))) (@qt _)) (@qb _ _ _ _ _ (@qx _ _ (13) _ _ _ _ YF.nd rfl (Or.inl rfl) (@jm _ _ _ _ _ _ _ _ _ _ _ _ _ _ _ _ _ T.yx qO (hr.mono (by first|decide|omega)) (by rfl) T.yy T.Qn .nil qr (@qa _ _ _ _ _ (pv 5) (@qa _ _ _ _ _ (pv 6) (@qc _) (by trivial)) (by trivial)) (by trivial) (by trivial) (by trivial)) (by trivial) (by trivial)) (@qb _ _ _ _ _ (@jf _ _ _ _ _ _ _ _ PassesOwn.never rfl (@ZS _ _ _ _ (pv 9)) (@Qm _ _ (12) _ YF.nd rfl (Or.inl rfl) (by trivial)) (@qg _ _ _ (@QP _ _ _ _ (@yV _ _ _ _ _ _ _ _ _ _ _ _ _ _ _ _ _ _ _ _ (pv 13) T.qf T.qL qy (hr.mono (by first|decide|omega)) T.qK .nil qr (@qa _ _ _ _ _ (pv 12) (@qc _) (by trivial)) (by trivial) (by trivial) (by trivial)) (by trivial))) (by trivial)) (@qb _ _ _ _ _ (@qY _ _ _ _ _ _ _ _ (@xl _ _ _ _ _ _ _ (@qo _ _ _ _ _ _ _ _ (@wj _ hr.units) (@qq _ _ _ _ _ _ _ _ _ _ _ _ _ _ _ _ QL (hr.mono (by first|decide|omega)) (by rfl) T.Q4 T.QN.kp T.Q3 .nil qr (@qa _ _ _ _ _ (pv 7) (@qc _) (by trivial)) (by trivial) (by trivial) (by trivial)) (@qq _ _ _ _ _ _ _ _ _ _ _ _ _ _ _ _ QL (hr.mono (by first|decide|omega)) (by rfl) T.Q4 T.QN.kp T.Q3 .nil qr (@qa _ _ _ _ _ (pv 13) (@qc _) (by trivial)) (by trivial) (by trivial) (by trivial)) (qF _)) (@Ja _ _ _ _ (@yi _ _ _ _ (@QY _ _ _ (@qq _ _ _ _ _ _ _ _ _ _ _ _ _ _ _ _ XJ (hr.mono (by first|decide|omega)) (by rfl) T.XM T.j8.kp T.XI .nil qr (@qa _ _ _ _ _ (pv 5) (@qa _ _ _ _ _ (pv 6) (@qa _ _ _ _ _ (pv 9) (@qa _ _ _ _ _ (pv 7) (@qc _) (by trivial)) (by trivial)) (by trivial)) (by trivial)) (by trivial) (by trivial) (by trivial)) (by trivial))))).pt (@qg _ _ _ (@qm _ _ _ _ (@Y8 _ _ _ _))) (@qt _)) (@qg _ _ _ (@qY _ _ _ _ _ _ _ _ (@pw_and _ _ _ _ _ _ _ (@qo _ _ _ _ _ _ _ _ (@op_neNil _ hr.units) (pv 9) (@Qf _ _ _ _ _ (@qc _)) (qF _)) (@Z9 _ _ _ _ (@yi _ _ _ _ (@QY _ _ _ (@qq _ _ _ _ _ _ _ _ _ _ _ _ _ _ _ _ G_law_parted (hr.mono (by first|decide|omega)) (by rfl) T.m_law_parted T.Xv.kp T.b_law_parted .nil qr (@qa _ _ _ _ _ (pv 4) (@qa _ _ _ _ _ (pv 5) (@qa _ _ _ _ _ (pv 6) (@qa _ _ _ _ _ (pv 9) (@qa _ _ _ _ _ (pv 1) (@qc _) (by trivial)) (by trivial)) (by trivial)) (by trivial)) (by trivial)) (by trivial) (by trivial) (by trivial)) (by trivial))))).pt (@qg _ _ _ (@qm _ _ _ _ (@Y8 _ _ _ _))) (@qt _)))))))))))))))) (by trivial)) (@qg _ _ _ (@qm _ _ _ _ (@Y8 _ _ _ _)))))),?_⟩
 refine⟨rfl,fun L hL=> ?_⟩
 have s1:=qe hL (.lst (NMS.map V.str))
 have e1:upd H L (.lst (NMS.map V.str)) L=some (.lst (NMS.map V.str)):=qj
 generalize upd H L (.lst (NMS.map V.str))=H1 at s1 e1⊢
 refine⟨_,rfl,q,ns,rfl,s1.seq hS,ns.sum,30,rfl,hsum,by decide,by decide,fun pb H2 hpb s2 Pb=> ?_⟩
 refine⟨_,rfl,pb,L,rfl,Pb,s2 _ _ e1,fun vb rb H3 hDb ib Pb3 Kb=> ?_⟩
 have S13:Same H1 H3:=Kb.same s2 hpb
 have S3:Same H H3:=s1.trans S13
 have eL3:=S13 _ _ e1
 have hRb:=hDb.rule
 clear hDb s1 e1 s2 Pb Pb3 Kb hpb S13 hL
 refine⟨_,rfl,q,_,rfl,.inl (S3.seq hS),_,_,rfl,_,_,rfl,rfl,?_⟩
 obtain⟨nk,hnk,hn5⟩:∃nk:Nat,(if((ns.map V.int).length:Int)<3 then((ns.map V.int).length:Int) else 3)+1=(nk:Int)∧nk≤5:=by
  refine⟨((if((ns.map V.int).length:Int)<3 then((ns.map V.int).length:Int) else 3)+1).toNat,?_,?_⟩<;>split<;>omega
 refine⟨(nk:Int),congrArg (fun z=> [V.int z]) hnk,by omega,by omega,?_⟩
 refine jv (n:=nk) (fun i σ H'=>∃(x3 x4 x5 x6 x7 x8 x9 x10 x11 x12 x13:Option V),σ= [some (.ref q),some (.ref L),some vb,x3,x4,x5,x6,x7,x8,x9,x10,x11,x12,x13]∧Same H3 H') ⟨_,_,_,_,_,_,_,_,_,_,_,rfl,Same.refl _⟩ ?_ ?_
 ·rintro i σ H' hi ⟨x3,x4,x5,x6,x7,x8,x9,x10,x11,x12,x13,rfl,sm⟩
  have eL:=sm _ _ eL3
  have ibH:=ib.mono sm.tk
  rw [show(0:Int)+(i:Int)=(i:Int) by omega]
  refine⟨_,rfl,_,rfl,q,ns,i,rfl,(S3.trans sm).seq hS,hbit,fun x hx=>⟨_,rfl,_,_,rfl,rfl,x,_,rfl,hx,by omega,by omega,fun p Hp hp sp Pp=> ?_⟩⟩
  have eLp:=sp _ _ eL
  refine⟨_,rfl,_,rfl,p,L,rfl,Pp,eLp,fun v rs H2 hD iv P2 K2=> ?_⟩
  refine⟨_,rfl,p,4,rfl,P2,by decide,by decide,fun d3 H3 a0 a1 P3 K3 _=>⟨rfl,_,rfl,?_⟩⟩
  have iv3:=iv.mono (P2.tk P3 K3)
  have K3':=K2.trans K3
  refine ite2 (fun c=> ?_) (fun c=> ?_)
  refine⟨_,rfl,_,rfl,p,v,rs,rfl,P3,iv3,hD,fun u rs' H4 hD4 iv4 P4 K4=> ?_⟩
  have K4':=K3'.trans K4
  clear iv3 P3 K3 K3' K4 iv P2 K2 hD
  generalize u=v at iv4⊢
  generalize rs'=rs at hD4 iv4
  rotate_left
  have hD4:=hD
  have iv4:=iv3
  have P4:=P3
  have K4':=K3'
  clear iv3 K3' iv P2 K2 hD
  generalize hh:H3=H4 at iv4 P4 K4'⊢
  clear P3 K3 hh
  rotate_left
  all_goals
   refine⟨_,rfl,_,rfl,p,8,rfl,P4,by decide,by decide,fun d7 H7 c0 c1 P7 K7 _=> ?_⟩
   have K47:=K4'.trans K7
   have S7:Same H' H7:=K47.same sp hp
   have hR:=hD4.rule
   have nLp:L≠p:=ql eL hp
   have eL7:=S7 _ _ eL
   have iv7:=iv4.mono (P4.tk P7 K7)
   have ib7:=ibH.mono S7.tk
   clear hD4 iv4 K4' K7 P4
   obtain⟨own,hz7,hnm,hol⟩:=nms_at c0 c1
   refine⟨L,_,_,_,rfl,rfl,SqL.of eL7,hz7,?_⟩
   clear c0 c1 hz7
   refine⟨_,rfl,_,rfl,fun xm dx hx hdx _=>xv iv7 hR hnm hol hx hdx fun db dg H8 hdb hdg S8 M7=>⟨rfl,?_⟩⟩
   have f7:Fh H7 ⟨xm,db,dg,rs,own⟩:=⟨hx,hdb,hdg⟩
   clear hx hdb hdg hdx
   generalize hm7:(⟨xm,db,dg,rs,own⟩:Mc)=m7 at M7 f7
   obtain⟨r7,o7,rfl⟩:m7.rs=rs∧m7.own=own∧m7.x=xm:=by rw [←hm7];exact⟨rfl,rfl,rfl⟩
   clear hm7
   refine⟨_,rfl,_,rfl,fun xm dx hx hdx _=>xv (ib7.mono S8.tk) hRb hnm hol hx hdx fun db dg H9 hdb hdg S9 M8=>⟨rfl,?_⟩⟩
   have f8':Fh H8 ⟨xm,db,dg,rb,own⟩:=⟨hx,hdb,hdg⟩
   clear hx hdb hdg hdx
   generalize hm8:(⟨xm,db,dg,rb,own⟩:Mc)=m8 at M8 f8'
   obtain⟨r8,o8,rfl⟩:m8.rs=rb∧m8.own=own∧m8.x=xm:=by rw [←hm8];exact⟨rfl,rfl,rfl⟩
   clear hm8
   have P8:=P7.same S8
   have n7p:=P7.np f7
   have n8p:=P8.np f8'
   have f8:Fh H7 m8:=f8'.back (Kept.of (p:=p) S8) n8p
   have a78:=M7.apart f8'
   have n7L:=f7.np eL7
   have n8L:=f8.np eL7
   have S79:=S8.trans S9
   have M79:=M7.same S9
   obtain⟨pv,uv,rfl,epv,iuv⟩:=id iv7
   have huv:uv.length=rs.length:=by rw [iuv.length,List.length_map]
   have n40:=hR.n1
   clear f8' M7 P8 S8 S9 iuv
   refine⟨_,rfl,_,rfl,_,rfl,_,rfl,_,rfl,pv,uv,rfl,.inr (SqT.of (S79 _ _ epv)),?_⟩
   refine⟨p,L,m7,m8,uv.length,rfl,by omega,P7.same S79,S79 _ _ eL7,nLp,by rw [r7,o7];exact M79,by rw [r8,o8];exact M8,a78,n7p,n8p,n7L,n8L,by rw [r7];exact hR,by rw [r8];exact hRb,by rw [o7];exact hol,by rw [o8];exact hol,fun ua as bs H10 hA hB iua M7 M8' P10 kp=> ?_⟩
   rw [r7,o7] at hA M7
   rw [r8,o8] at hB M8'
   have K10:Kept p H7 H10:=Kept.kp (Kept.of S79) kp (fun z hz=>by
    rcases List.mem_cons.mp hz with rfl|hz
    ·exact f7
    ·rcases List.mem_cons.mp hz with rfl|hz
     ·exact f8
     ·simp at hz)
   clear kp M79 M8 S79 epv
   have tk10:=P7.tk P10 K10
   refine⟨_,rfl,_,rfl,fun xm dx hx hdx _=>xv (ib7.mono tk10) hRb hnm hol hx hdx fun db dg H11 hdb hdg S11 M10=>⟨rfl,?_⟩⟩
   have f10':Fh H10 ⟨xm,db,dg,rb,own⟩:=⟨hx,hdb,hdg⟩
   clear hx hdb hdg hdx
   generalize hm10:(⟨xm,db,dg,rb,own⟩:Mc)=m10 at M10 f10'
   obtain⟨r10,o10,rfl⟩:m10.rs=rb∧m10.own=own∧m10.x=xm:=by rw [←hm10];exact⟨rfl,rfl,rfl⟩
   clear hm10
   have n10p:=P10.np f10'
   have f10:Fh H7 m10:=f10'.back K10 n10p
   have a70:=M7.apart f10'
   have a80:=M8'.apart f10'
   have M711:=M7.same S11
   have M811:=M8'.same S11
   have P11:=P10.same S11
   have K11:=K10.trans (Kept.of S11)
   have iua11:=iua.mono S11.tk
   clear f10' M7 M8' P10 K10 S11 tk10 iua
   refine⟨_,rfl,M811.m (by decide+kernel) ⟨m8,_,rfl,M811,fun t9 H12 s9 i9=> ?_⟩⟩
   obtain⟨pt9,u9,rfl,e9,iu9⟩:=i9
   have hu9:u9.length=bs.length:=by rw [iu9.length,Xw hB]
   refine⟨pt9,rfl,⟨u9,SqT.of e9⟩,?_⟩
   refine xy (xs:=u9) (fun j σ H'=>∃y11 y12:Option V,σ= [some (.ref q),some (.ref L),some vb,some (.int (i:Int)),some (.ref p),some (.ref pv),some (.str own),some (.ref m7.x),some (.ref m8.x),some ua,some (.ref m10.x),y11,y12,x13]∧j≤bs.length∧qM a.qd H' m7 (qw rs own as)∧qM a.qd H' m8 (qw rb own bs)∧qM a.qd H' m10 (qw rb own (bs.take j))∧QD H' p∧Kept p H7 H'∧Tk H12 H') ⟨_,_,rfl,Nat.zero_le _,M711.same s9,M811.same s9,M10.same s9,P11.same s9,K11.trans (Kept.of s9),Tk.refl _⟩ (fun j σ H' hi ⟨_,_,_,_,_,_,_,_,_,t⟩=>SqT.of (t.tup _ _ e9)) ?_ ?_
   ·rintro j y σ H' hy ⟨y11,y12,rfl,hj,M7,M8,M10,P',K',t'⟩
    have hlt:j<bs.length:=by rw [←hu9];exact(List.getElem?_eq_some_iff.mp hy).1
    obtain⟨an,hk⟩:∃an,bs[j]? =some an:=⟨bs[j],by simp [hlt]⟩
    obtain⟨u,d,eth,ha,hg⟩:=ZI hB hk
    obtain⟨y',hy',iy⟩:=iu9.get (i:=j) hg
    rw [hy] at hy'
    cases hy'
    obtain⟨py,uy,rfl,ey,w1,q1,rfl,j1,w2,q2,rfl,j2,j3⟩:=iy.mono t'
    cases(show q2= [] from j3)
    refine⟨py,_,rfl,SqT.of ey,rfl,_,_,rfl,_,_,rfl,rfl,?_⟩
    refine⟨_,rfl,M10.m (by decide+kernel) ⟨_,rfl,?_⟩⟩
    unfold tNil
    refine an_at (m:=m10) (by rw [r10];exact hRb) (by rw [o10];exact hol) (by rw [r10,o10];exact hB) hk (by rw [r10,o10];exact M10) j2 fun H10 v10 M10'=> ?_
    rw [r10,o10] at M10'
    exact⟨_,_,rfl,hlt,M7.mv v10 a70,M8.mv v10 a80,M10',P'.mv v10 n10p,Kept.mv K' v10 f10,t'.trans v10.tk⟩
   rintro σ H13 ⟨y11,y12,rfl,hj,M7,M8,M10',P13,K13,t13⟩
   rw [hu9,List.take_length] at M10'
   have iua13:=(iua11.mono s9.tk).mono t13
   clear hj t13 iu9 e9 s9 M711 M811 P11 K11 M10 iua11
   have hOB:=QT (own:=own) hRb hB.ok
   have hOA:=QT (own:=own) hR hA.ok
   refine⟨_,rfl,m10,_,rfl,M10',fun l1 tv1 gv1 H14 s14 e13 i13 j13=> ?_⟩
   refine⟨_,rfl,m8,_,rfl,M8.same s14,fun l2 tv2 gv2 H15 s15 e14 i14 j14=> ?_⟩
   refine⟨l1,l2,_,_,[(qw rb own bs).th,.tup (qw rb own bs).gs,.int ((qw rb own bs).n:Int)],rfl,rfl,SqL.of (s15 _ _ e13),SqL.of e14,⟨_,_,rfl,i13.mono s15.tk,_,_,rfl,j13.mono s15.tk,_,_,rfl,rfl,rfl⟩,⟨_,_,rfl,i14,_,_,rfl,j14,_,_,rfl,rfl,rfl⟩,(rn_n2 hOB _).1,(rn_n2 hOB _).2,_,rfl,iteF ?_⟩
   have S15:=s14.trans s15
   have M715:=M7.same S15
   have P15:=P13.same S15
   have K15:=K13.trans (Kept.of S15)
   have iua15:=iua13.mono S15.tk
   clear s14 s15 e13 i13 j13 e14 i14 j14 S15 M7 M8 M10' P13 K13 iua13
   have tk15:=P7.tk P15 K15
   refine⟨_,rfl,_,rfl,fun xm dx hx hdx _=>xv (iv7.mono tk15) hR hnm hol hx hdx fun db dg H16 hdb hdg S16 M13=>⟨rfl,?_⟩⟩
   have f13':Fh H15 ⟨xm,db,dg,rs,own⟩:=⟨hx,hdb,hdg⟩
   clear hx hdb hdg hdx
   generalize hm13:(⟨xm,db,dg,rs,own⟩:Mc)=m13 at M13 f13'
   obtain⟨r13,o13,rfl⟩:m13.rs=rs∧m13.own=own∧m13.x=xm:=by rw [←hm13];exact⟨rfl,rfl,rfl⟩
   clear hm13
   have n13p:=P15.np f13'
   have f13:Fh H7 m13:=f13'.back K15 n13p
   have a73:=M715.apart f13'
   have M716:=M715.same S16
   have P16:=P15.same S16
   have K16:=K15.trans (Kept.of S16)
   have iua16:=iua15.mono S16.tk
   clear f13' M715 P15 K15 S16 tk15 iua15
   obtain⟨pa,us,rfl,epa,iu⟩:=id iua16
   have hul:us.length=as.length:=iu.length
   refine⟨_,rfl,pa,rfl,⟨us,SqT.of epa⟩,?_⟩
   refine xy (xs:=us) (fun j σ H'=>∃y12:Option V,σ= [some (.ref q),some (.ref L),some vb,some (.int (i:Int)),some (.ref p),some (.ref pv),some (.str own),some (.ref m7.x),some (.ref m8.x),some (.ref pa),some (.ref m10.x),y11,y12,some (.ref m13.x)]∧j≤as.length∧qM a.qd H' m7 (qw rs own as)∧qM a.qd H' m13 (qw rs own (as.take j))∧QD H' p∧Kept p H7 H'∧Tk H16 H') ⟨_,rfl,Nat.zero_le _,M716,M13,P16,K16,Tk.refl _⟩ (fun j σ H' hi ⟨_,_,_,_,_,_,_,t⟩=>SqT.of (t.tup _ _ epa)) ?_ ?_
   ·rintro j y σ H' hy ⟨y12,rfl,hj,M7,M13,P',K',t'⟩
    have hlt:j<as.length:=by rw [←hul];exact(List.getElem?_eq_some_iff.mp hy).1
    obtain⟨an,hk⟩:∃an,as[j]? =some an:=⟨as[j],by simp [hlt]⟩
    obtain⟨y',hy',iy⟩:=iu.get (i:=j) hk
    rw [hy] at hy'
    cases hy'
    refine⟨_,rfl,M13.m (by decide+kernel) ⟨_,rfl,?_⟩⟩
    unfold tNil
    refine an_at (m:=m13) (by rw [r13];exact hR) (by rw [o13];exact hol) (by rw [r13,o13];exact hA) hk (by rw [r13,o13];exact M13) (iy.mono t') fun H10 v10 M13'=> ?_
    rw [r13,o13] at M13'
    exact⟨_,rfl,hlt,M7.mv v10 a73,M13',P'.mv v10 n13p,Kept.mv K' v10 f13,t'.trans v10.tk⟩
   rintro σ H17 ⟨y12,rfl,hj,M7,M13',P17,K17,t17⟩
   rw [hul,List.take_length] at M13'
   have iua17:=iua16.mono t17
   clear hj t17 iu epa M716 P16 K16 M13 iua16
   refine⟨_,rfl,m7,_,rfl,M7,fun l1 tv1 gv1 H18 s14 e13 i13 j13=> ?_⟩
   refine⟨_,rfl,m13,_,rfl,M13'.same s14,fun l2 tv2 gv2 H19 s15 e14 i14 j14=> ?_⟩
   refine⟨l1,l2,_,_,[(qw rs own as).th,.tup (qw rs own as).gs,.int ((qw rs own as).n:Int)],rfl,rfl,SqL.of (s15 _ _ e13),SqL.of e14,⟨_,_,rfl,i13.mono s15.tk,_,_,rfl,j13.mono s15.tk,_,_,rfl,rfl,rfl⟩,⟨_,_,rfl,i14,_,_,rfl,j14,_,_,rfl,rfl,rfl⟩,(rn_n2 hOA _).1,(rn_n2 hOA _).2,_,rfl,iteF ?_⟩
   have S19:=s14.trans s15
   have M719:=M7.same S19
   have P19:=P17.same S19
   have K19:=K17.trans (Kept.of S19)
   have iua19:=iua17.mono S19.tk
   clear s14 s15 e13 i13 j13 e14 i14 j14 S19 M7 M13' P17 K17 iua17
   have tk19:=P7.tk P19 K19
   subst r7 o7
   refine⟨_,rfl,_,rfl,_,rfl,_,rfl,m7,.ref pv,.ref pa,as,rfl,iv7.mono tk19,hR,hnm,hol,iua19,hA,M719,fun H20 s20=>⟨_,rfl,iteF ?_⟩⟩
   have P20:=P19.same s20
   have K20:=K19.trans (Kept.of s20)
   have iua20:=iua19.mono s20.tk
   clear M719 P19 K19 iua19 tk19 s20
   have tk20:=P7.tk P20 K20
   obtain⟨pa',us',ep',epa,iu⟩:=id iua20
   cases ep'
   have hul':us'.length=as.length:=iu.length
   refine⟨_,rfl,(by show 0≤sizeLine;decide),fun t0 ht0=> ?_⟩
   have s21:=qe ht0 (.tup [])
   refine⟨pa,t0,us',rfl,rfl,SqT.of (s21 _ _ epa),SqT.of qj,_,rfl,?_⟩
   have P21:=P20.same s21
   have K21:=K20.trans (Kept.of s21)
   have iua21:=iua20.mono s21.tk
   have tk21:=tk20.trans s21.tk
   have eL21:=K21 _ _ eL7 nLp
   generalize upd H20 t0 (.tup [])=H21 at s21 P21 K21 iua21 tk21 eL21⊢
   cases hem:us'.isEmpty with
   |true=>exact iteF (iteF ⟨_,_,_,_,_,_,_,_,_,_,_,rfl,sm.trans ((K47.trans K21).same sp hp)⟩)
   |false=>
    have hne:as≠ []:=fun h=>by
     rw [h] at hul'
     rw [List.eq_nil_of_length_eq_zero hul'] at hem
     cases hem
    refine iteT ?_
    refine⟨_,rfl,_,rfl,_,rfl,_,rfl,_,rfl,p,L,.ref pv,.ref pa,m7.own,m7.rs,as,rfl,P21,eL21,nLp,iv7.mono tk21,hR,hnm,hol,iua21,hA,hne,fun H22 P22 K22=>⟨_,rfl,iteF ?_⟩⟩
    exact⟨_,_,_,_,_,_,_,_,_,_,_,rfl,sm.trans ((K47.trans (K21.trans K22)).same sp hp)⟩
 ·rintro σ H' ⟨x3,x4,x5,x6,x7,x8,x9,x10,x11,x12,x13,rfl,sm⟩
  exact k H'
end
end K14
namespace K14
open PySem L2 PyProof.Rows
theorem strs_of:∀{l:List Str}{us:List Value},(us.map fun u=>match u with| .str z _=>some z|_=>none)=l.map some→Vals (l.map V.str) us
 | [],[],_=> .nil
 |z::l,u::us,h=>by
  rw [List.map_cons,List.map_cons] at h
  injection h with h1 h2
  cases u with
  |str y t=>
   have:y=z:=Option.some.inj h1
   subst this
   exact .cons ⟨t,rfl⟩ (strs_of h2)
  |_=>cases h1
 | [],_::_,h=>by simp at h
 |_::_,[],h=>by simp at h
theorem QF {K:PySem.W.Frag}{H:Hp}{q:Addr}{d:Option Addr}{its:Array Value}{n:Nat}{sl:Array (Option Value)}{l:List Str}{us:List Value}(hl:K.lookup q=some ⟨.type "tuple",d,.seq its n,sl⟩)(e:its.toList=us)(h:(us.map fun u=>match u with| .str z _=>some z|_=>none)=l.map some)(hz:us.length≤100:=by simp):SqT K H q (l.map V.str):=
 .inr ⟨_,its,n,hl,rfl,rfl,by rw [←Array.length_toList,e];exact yg (by omega),by rw [e];exact strs_of h⟩
theorem tx_mk {K:PySem.W.Frag}{h:Heap}{mg:Str→Option Value}(X:K.In h)(G:h.Ns mainGlobals mg){f1:Addr}{od1 an1:Option Addr}{sl1:Array (Option Value)}{oc1 kV1 dc1 pm1 cd1 ct1:Value}{f2:Addr}{od2 an2:Option Addr}{sl2:Array (Option Value)}{oc2 kV2 dc2 pm2 cd2 ct2:Value}{f3:Addr}{od3 an3:Option Addr}{sl3:Array (Option Value)}{oc3 kV3 dc3 pm3 cd3 ct3:Value}{f4:Addr}{od4 an4:Option Addr}{sl4:Array (Option Value)}{oc4 kV4 dc4 pm4 cd4 ct4:Value}{f5:Addr}{od5 an5:Option Addr}{sl5:Array (Option Value)}{oc5 kV5 dc5 pm5 cd5 ct5:Value}{f6:Addr}{od6 an6:Option Addr}{sl6:Array (Option Value)}{oc6 kV6 dc6 pm6 cd6 ct6:Value}{f7:Addr}{od7 an7:Option Addr}{sl7:Array (Option Value)}{oc7 kV7 dc7 pm7 cd7 ct7:Value}{f8:Addr}{od8 an8:Option Addr}{sl8:Array (Option Value)}{oc8 kV8 dc8 pm8 cd8 ct8:Value}{f9:Addr}{od9 an9:Option Addr}{sl9:Array (Option Value)}{oc9 kV9 dc9 pm9 cd9 ct9:Value}{f10:Addr}{od10 an10:Option Addr}{sl10:Array (Option Value)}{oc10 kV10 dc10 pm10 cd10 ct10:Value}{f11:Addr}{od11 an11:Option Addr}{sl11:Array (Option Value)}{oc11 kV11 dc11 pm11 cd11 ct11:Value}{f12:Addr}{od12 an12:Option Addr}{sl12:Array (Option Value)}{oc12 kV12 dc12 pm12 cd12 ct12:Value}{f13:Addr}{od13 an13:Option Addr}{sl13:Array (Option Value)}{oc13 kV13 dc13 pm13 cd13 ct13:Value}{f14:Addr}{od14 an14:Option Addr}{sl14:Array (Option Value)}{oc14 kV14 dc14 pm14 cd14 ct14:Value}{f15:Addr}{od15 an15:Option Addr}{sl15:Array (Option Value)}{oc15 kV15 dc15 pm15 cd15 ct15:Value}{f16:Addr}{od16 an16:Option Addr}{sl16:Array (Option Value)}{oc16 kV16 dc16 pm16 cd16 ct16:Value}{f17:Addr}{od17 an17:Option Addr}{sl17:Array (Option Value)}{oc17 kV17 dc17 pm17 cd17 ct17:Value}{f18:Addr}{od18 an18:Option Addr}{sl18:Array (Option Value)}{oc18 kV18 dc18 pm18 cd18 ct18:Value}{f19:Addr}{od19 an19:Option Addr}{sl19:Array (Option Value)}{oc19 kV19 dc19 pm19 cd19 ct19:Value}{f20:Addr}{od20 an20:Option Addr}{sl20:Array (Option Value)}{oc20 kV20 dc20 pm20 cd20 ct20:Value}{f21:Addr}{od21 an21:Option Addr}{sl21:Array (Option Value)}{oc21 kV21 dc21 pm21 cd21 ct21:Value}{f22:Addr}{od22 an22:Option Addr}{sl22:Array (Option Value)}{oc22 kV22 dc22 pm22 cd22 ct22:Value}{f23:Addr}{od23 an23:Option Addr}{sl23:Array (Option Value)}{oc23 kV23 dc23 pm23 cd23 ct23:Value}{f24:Addr}{od24 an24:Option Addr}{sl24:Array (Option Value)}{oc24 kV24 dc24 pm24 cd24 ct24:Value}{f25:Addr}{od25 an25:Option Addr}{sl25:Array (Option Value)}{oc25 kV25 dc25 pm25 cd25 ct25:Value}{f26:Addr}{od26 an26:Option Addr}{sl26:Array (Option Value)}{oc26 kV26 dc26 pm26 cd26 ct26:Value}{f27:Addr}{od27 an27:Option Addr}{sl27:Array (Option Value)}{oc27 kV27 dc27 pm27 cd27 ct27:Value}{f28:Addr}{od28 an28:Option Addr}{sl28:Array (Option Value)}{oc28 kV28 dc28 pm28 cd28 ct28:Value}{f29:Addr}{od29 an29:Option Addr}{sl29:Array (Option Value)}{oc29 kV29 dc29 pm29 cd29 ct29:Value}{f30:Addr}{od30 an30:Option Addr}{sl30:Array (Option Value)}{oc30 kV30 dc30 pm30 cd30 ct30:Value}{f31:Addr}{od31 an31:Option Addr}{sl31:Array (Option Value)}{oc31 kV31 dc31 pm31 cd31 ct31:Value}{f32:Addr}{od32 an32:Option Addr}{sl32:Array (Option Value)}{oc32 kV32 dc32 pm32 cd32 ct32:Value}{f33:Addr}{od33 an33:Option Addr}{sl33:Array (Option Value)}{oc33 kV33 dc33 pm33 cd33 ct33:Value}{f34:Addr}{od34 an34:Option Addr}{sl34:Array (Option Value)}{oc34 kV34 dc34 pm34 cd34 ct34:Value}{f35:Addr}{od35 an35:Option Addr}{sl35:Array (Option Value)}{oc35 kV35 dc35 pm35 cd35 ct35:Value}{f36:Addr}{od36 an36:Option Addr}{sl36:Array (Option Value)}{oc36 kV36 dc36 pm36 cd36 ct36:Value}{f37:Addr}{od37 an37:Option Addr}{sl37:Array (Option Value)}{oc37 kV37 dc37 pm37 cd37 ct37:Value}{f38:Addr}{od38 an38:Option Addr}{sl38:Array (Option Value)}{oc38 kV38 dc38 pm38 cd38 ct38:Value}{f39:Addr}{od39 an39:Option Addr}{sl39:Array (Option Value)}{oc39 kV39 dc39 pm39 cd39 ct39:Value}{f40:Addr}{od40 an40:Option Addr}{sl40:Array (Option Value)}{oc40 kV40 dc40 pm40 cd40 ct40:Value}{f41:Addr}{od41 an41:Option Addr}{sl41:Array (Option Value)}{oc41 kV41 dc41 pm41 cd41 ct41:Value}{f42:Addr}{od42 an42:Option Addr}{sl42:Array (Option Value)}{oc42 kV42 dc42 pm42 cd42 ct42:Value}{f43:Addr}{od43 an43:Option Addr}{sl43:Array (Option Value)}{oc43 kV43 dc43 pm43 cd43 ct43:Value}{f44:Addr}{od44 an44:Option Addr}{sl44:Array (Option Value)}{oc44 kV44 dc44 pm44 cd44 ct44:Value}{f45:Addr}{od45 an45:Option Addr}{sl45:Array (Option Value)}{oc45 kV45 dc45 pm45 cd45 ct45:Value}{f46:Addr}{od46 an46:Option Addr}{sl46:Array (Option Value)}{oc46 kV46 dc46 pm46 cd46 ct46:Value}{f47:Addr}{od47 an47:Option Addr}{sl47:Array (Option Value)}{oc47 kV47 dc47 pm47 cd47 ct47:Value}{f48:Addr}{od48 an48:Option Addr}{sl48:Array (Option Value)}{oc48 kV48 dc48 pm48 cd48 ct48:Value}{f49:Addr}{od49 an49:Option Addr}{sl49:Array (Option Value)}{oc49 kV49 dc49 pm49 cd49 ct49:Value}{f50:Addr}{od50 an50:Option Addr}{sl50:Array (Option Value)}{oc50 kV50 dc50 pm50 cd50 ct50:Value}{f51:Addr}{od51 an51:Option Addr}{sl51:Array (Option Value)}{oc51 kV51 dc51 pm51 cd51 ct51:Value}{CMachine:Addr}{t1:Tok}{t2:Tok}{t3:Tok}{t4:Tok}{t5:Tok}{t6:Tok}{t7:Tok}{t8:Tok}{t9:Tok}{t10:Tok}
  (a1:PySem.W.nsIn K mainGlobals "is_text"=some (some (.ref f1))) (l1:K.lookup f1=some ⟨oc1,od1,.func (PySem.W.fnOf "is_text" "is_text" (qv jA) (qu jA) (qh jA) .none kV1 dc1 pm1 an1 cd1 ct1),sl1⟩) (c1:PySem.W.codeIn K cd1 "is_text"=true) (k1:PySem.W.keepIn K (.ref f1)=true)
  (a2:PySem.W.nsIn K mainGlobals "is_tree"=some (some (.ref f2))) (l2:K.lookup f2=some ⟨oc2,od2,.func (PySem.W.fnOf "is_tree" "is_tree" (qv Y2) (qu Y2) (qh Y2) .none kV2 dc2 pm2 an2 cd2 ct2),sl2⟩) (c2:PySem.W.codeIn K cd2 "is_tree"=true) (k2:PySem.W.keepIn K (.ref f2)=true)
  (a3:PySem.W.nsIn K mainGlobals "is_name"=some (some (.ref f3))) (l3:K.lookup f3=some ⟨oc3,od3,.func (PySem.W.fnOf "is_name" "is_name" (qv jp) (qu jp) (qh jp) .none kV3 dc3 pm3 an3 cd3 ct3),sl3⟩) (c3:PySem.W.codeIn K cd3 "is_name"=true) (k3:PySem.W.keepIn K (.ref f3)=true)
  (a4:PySem.W.nsIn K mainGlobals "is_row_of_names"=some (some (.ref f4))) (l4:K.lookup f4=some ⟨oc4,od4,.func (PySem.W.fnOf "is_row_of_names" "is_row_of_names" (qv QB) (qu QB) (qh QB) .none kV4 dc4 pm4 an4 cd4 ct4),sl4⟩) (c4:PySem.W.codeIn K cd4 "is_row_of_names"=true) (k4:PySem.W.keepIn K (.ref f4)=true)
  (a5:PySem.W.nsIn K mainGlobals "is_answer"=some (some (.ref f5))) (l5:K.lookup f5=some ⟨oc5,od5,.func (PySem.W.fnOf "is_answer" "is_answer" (qv Yp) (qu Yp) (qh Yp) .none kV5 dc5 pm5 an5 cd5 ct5),sl5⟩) (c5:PySem.W.codeIn K cd5 "is_answer"=true) (k5:PySem.W.keepIn K (.ref f5)=true)
  (a6:PySem.W.nsIn K mainGlobals "part_of"=some (some (.ref f6))) (l6:K.lookup f6=some ⟨oc6,od6,.func (PySem.W.fnOf "part_of" "part_of" (qv jI) (qu jI) (qh jI) .none kV6 dc6 pm6 an6 cd6 ct6),sl6⟩) (c6:PySem.W.codeIn K cd6 "part_of"=true) (k6:PySem.W.keepIn K (.ref f6)=true)
  (a7:PySem.W.nsIn K mainGlobals "pieces_of"=some (some (.ref f7))) (l7:K.lookup f7=some ⟨oc7,od7,.func (PySem.W.fnOf "pieces_of" "pieces_of" (qv Yd) (qu Yd) (qh Yd) .none kV7 dc7 pm7 an7 cd7 ct7),sl7⟩) (c7:PySem.W.codeIn K cd7 "pieces_of"=true) (k7:PySem.W.keepIn K (.ref f7)=true)
  (a8:PySem.W.nsIn K mainGlobals "row_of"=some (some (.ref f8))) (l8:K.lookup f8=some ⟨oc8,od8,.func (PySem.W.fnOf "row_of" "row_of" (qv jX) (qu jX) (qh jX) .none kV8 dc8 pm8 an8 cd8 ct8),sl8⟩) (c8:PySem.W.codeIn K cd8 "row_of"=true) (k8:PySem.W.keepIn K (.ref f8)=true)
  (a9:PySem.W.nsIn K mainGlobals "read_lines"=some (some (.ref f9))) (l9:K.lookup f9=some ⟨oc9,od9,.func (PySem.W.fnOf "read_lines" "read_lines" (qv yN) (qu yN) (qh yN) .none kV9 dc9 pm9 an9 cd9 ct9),sl9⟩) (c9:PySem.W.codeIn K cd9 "read_lines"=true) (k9:PySem.W.keepIn K (.ref f9)=true)
  (a10:PySem.W.nsIn K mainGlobals "rule_rows"=some (some (.ref f10))) (l10:K.lookup f10=some ⟨oc10,od10,.func (PySem.W.fnOf "rule_rows" "rule_rows" (qv Ym) (qu Ym) (qh Ym) .none kV10 dc10 pm10 an10 cd10 ct10),sl10⟩) (c10:PySem.W.codeIn K cd10 "rule_rows"=true) (k10:PySem.W.keepIn K (.ref f10)=true)
  (a11:PySem.W.nsIn K mainGlobals "text_made"=some (some (.ref f11))) (l11:K.lookup f11=some ⟨oc11,od11,.func (PySem.W.fnOf "text_made" "text_made" (qv Ys) (qu Ys) (qh Ys) .none kV11 dc11 pm11 an11 cd11 ct11),sl11⟩) (c11:PySem.W.codeIn K cd11 "text_made"=true) (k11:PySem.W.keepIn K (.ref f11)=true)
  (a12:PySem.W.nsIn K mainGlobals "self_made"=some (some (.ref f12))) (l12:K.lookup f12=some ⟨oc12,od12,.func (PySem.W.fnOf "self_made" "self_made" (qv Yn) (qu Yn) (qh Yn) .none kV12 dc12 pm12 an12 cd12 ct12),sl12⟩) (c12:PySem.W.codeIn K cd12 "self_made"=true) (k12:PySem.W.keepIn K (.ref f12)=true)
  (a13:PySem.W.nsIn K mainGlobals "copy_made"=some (some (.ref f13))) (l13:K.lookup f13=some ⟨oc13,od13,.func (PySem.W.fnOf "copy_made" "copy_made" (qv Yj) (qu Yj) (qh Yj) .none kV13 dc13 pm13 an13 cd13 ct13),sl13⟩) (c13:PySem.W.codeIn K cd13 "copy_made"=true) (k13:PySem.W.keepIn K (.ref f13)=true)
  (a14:PySem.W.nsIn K mainGlobals "row_made"=some (some (.ref f14))) (l14:K.lookup f14=some ⟨oc14,od14,.func (PySem.W.fnOf "row_made" "row_made" (qv YR) (qu YR) (qh YR) .none kV14 dc14 pm14 an14 cd14 ct14),sl14⟩) (c14:PySem.W.codeIn K cd14 "row_made"=true) (k14:PySem.W.keepIn K (.ref f14)=true)
  (a15:PySem.W.nsIn K mainGlobals "put_made"=some (some (.ref f15))) (l15:K.lookup f15=some ⟨oc15,od15,.func (PySem.W.fnOf "put_made" "put_made" (qv YN) (qu YN) (qh YN) .none kV15 dc15 pm15 an15 cd15 ct15),sl15⟩) (c15:PySem.W.codeIn K cd15 "put_made"=true) (k15:PySem.W.keepIn K (.ref f15)=true)
  (a16:PySem.W.nsIn K mainGlobals "join_made"=some (some (.ref f16))) (l16:K.lookup f16=some ⟨oc16,od16,.func (PySem.W.fnOf "join_made" "join_made" (qv Yh) (qu Yh) (qh Yh) .none kV16 dc16 pm16 an16 cd16 ct16),sl16⟩) (c16:PySem.W.codeIn K cd16 "join_made"=true) (k16:PySem.W.keepIn K (.ref f16)=true)
  (a17:PySem.W.nsIn K mainGlobals "first_made"=some (some (.ref f17))) (l17:K.lookup f17=some ⟨oc17,od17,.func (PySem.W.fnOf "first_made" "first_made" (qv yK) (qu yK) (qh yK) .none kV17 dc17 pm17 an17 cd17 ct17),sl17⟩) (c17:PySem.W.codeIn K cd17 "first_made"=true) (k17:PySem.W.keepIn K (.ref f17)=true)
  (a18:PySem.W.nsIn K mainGlobals "rest_made"=some (some (.ref f18))) (l18:K.lookup f18=some ⟨oc18,od18,.func (PySem.W.fnOf "rest_made" "rest_made" (qv Yr) (qu Yr) (qh Yr) .none kV18 dc18 pm18 an18 cd18 ct18),sl18⟩) (c18:PySem.W.codeIn K cd18 "rest_made"=true) (k18:PySem.W.keepIn K (.ref f18)=true)
  (a19:PySem.W.nsIn K mainGlobals "size_made"=some (some (.ref f19))) (l19:K.lookup f19=some ⟨oc19,od19,.func (PySem.W.fnOf "size_made" "size_made" (qv Yc) (qu Yc) (qh Yc) .none kV19 dc19 pm19 an19 cd19 ct19),sl19⟩) (c19:PySem.W.codeIn K cd19 "size_made"=true) (k19:PySem.W.keepIn K (.ref f19)=true)
  (a20:PySem.W.nsIn K mainGlobals "cut_made"=some (some (.ref f20))) (l20:K.lookup f20=some ⟨oc20,od20,.func (PySem.W.fnOf "cut_made" "cut_made" (qv YL) (qu YL) (qh YL) .none kV20 dc20 pm20 an20 cd20 ct20),sl20⟩) (c20:PySem.W.codeIn K cd20 "cut_made"=true) (k20:PySem.W.keepIn K (.ref f20)=true)
  (a21:PySem.W.nsIn K mainGlobals "glue_made"=some (some (.ref f21))) (l21:K.lookup f21=some ⟨oc21,od21,.func (PySem.W.fnOf "glue_made" "glue_made" (qv Yl) (qu Yl) (qh Yl) .none kV21 dc21 pm21 an21 cd21 ct21),sl21⟩) (c21:PySem.W.codeIn K cd21 "glue_made"=true) (k21:PySem.W.keepIn K (.ref f21)=true)
  (a22:PySem.W.nsIn K mainGlobals "is_jump_taken"=some (some (.ref f22))) (l22:K.lookup f22=some ⟨oc22,od22,.func (PySem.W.fnOf "is_jump_taken" "is_jump_taken" (qv QU) (qu QU) (qh QU) .none kV22 dc22 pm22 an22 cd22 ct22),sl22⟩) (c22:PySem.W.codeIn K cd22 "is_jump_taken"=true) (k22:PySem.W.keepIn K (.ref f22)=true)
  (a23:PySem.W.nsIn K mainGlobals "asked_or_fault"=some (some (.ref f23))) (l23:K.lookup f23=some ⟨oc23,od23,.func (PySem.W.fnOf "asked_or_fault" "asked_or_fault" (qv QG) (qu QG) (qh QG) .none kV23 dc23 pm23 an23 cd23 ct23),sl23⟩) (c23:PySem.W.codeIn K cd23 "asked_or_fault"=true) (k23:PySem.W.keepIn K (.ref f23)=true)
  (a24:PySem.W.findIn K (.ref CMachine) "__init__"=some (some (.ref f24))) (i24:PySem.W.isFn K (.ref f24)=true) (l24:K.lookup f24=some ⟨oc24,od24,.func (PySem.W.fnOf "__init__" "Machine.__init__" (qv yc) (qu yc) (qh yc) .none kV24 dc24 pm24 an24 cd24 ct24),sl24⟩) (c24:PySem.W.codeIn K cd24 "Machine.__init__"=true) (k24:PySem.W.keepIn K (.ref f24)=true)
  (a25:PySem.W.findIn K (.ref CMachine) "now"=some (some (.ref f25))) (i25:PySem.W.isFn K (.ref f25)=true) (l25:K.lookup f25=some ⟨oc25,od25,.func (PySem.W.fnOf "now" "Machine.now" (qv yn) (qu yn) (qh yn) .none kV25 dc25 pm25 an25 cd25 ct25),sl25⟩) (c25:PySem.W.codeIn K cd25 "Machine.now"=true) (k25:PySem.W.keepIn K (.ref f25)=true)
  (a26:PySem.W.findIn K (.ref CMachine) "answer"=some (some (.ref f26))) (i26:PySem.W.isFn K (.ref f26)=true) (l26:K.lookup f26=some ⟨oc26,od26,.func (PySem.W.fnOf "answer" "Machine.answer" (qv QK) (qu QK) (qh QK) .none kV26 dc26 pm26 an26 cd26 ct26),sl26⟩) (c26:PySem.W.codeIn K cd26 "Machine.answer"=true) (k26:PySem.W.keepIn K (.ref f26)=true)
  (a27:PySem.W.findIn K (.ref CMachine) "asked"=some (some (.ref f27))) (i27:PySem.W.isFn K (.ref f27)=true) (l27:K.lookup f27=some ⟨oc27,od27,.func (PySem.W.fnOf "asked" "Machine.asked" (qv Q0) (qu Q0) (qh Q0) .none kV27 dc27 pm27 an27 cd27 ct27),sl27⟩) (c27:PySem.W.codeIn K cd27 "Machine.asked"=true) (k27:PySem.W.keepIn K (.ref f27)=true)
  (a28:PySem.W.findIn K (.ref CMachine) "lines"=some (some (.ref f28))) (i28:PySem.W.isFn K (.ref f28)=true) (l28:K.lookup f28=some ⟨oc28,od28,.func (PySem.W.fnOf "lines" "Machine.lines" (qv QW) (qu QW) (qh QW) .none kV28 dc28 pm28 an28 cd28 ct28),sl28⟩) (c28:PySem.W.codeIn K cd28 "Machine.lines"=true) (k28:PySem.W.keepIn K (.ref f28)=true)
  (a29:PySem.W.findIn K (.ref CMachine) "copy"=some (some (.ref f29))) (i29:PySem.W.isFn K (.ref f29)=true) (l29:K.lookup f29=some ⟨oc29,od29,.func (PySem.W.fnOf "copy" "Machine.copy" (qv ya) (qu ya) (qh ya) .none kV29 dc29 pm29 an29 cd29 ct29),sl29⟩) (c29:PySem.W.codeIn K cd29 "Machine.copy"=true) (k29:PySem.W.keepIn K (.ref f29)=true)
  (a30:PySem.W.findIn K (.ref CMachine) "go_on"=some (some (.ref f30))) (i30:PySem.W.isFn K (.ref f30)=true) (l30:K.lookup f30=some ⟨oc30,od30,.func (PySem.W.fnOf "go_on" "Machine.go_on" (qv QZ) (qu QZ) (qh QZ) .none kV30 dc30 pm30 an30 cd30 ct30),sl30⟩) (c30:PySem.W.codeIn K cd30 "Machine.go_on"=true) (k30:PySem.W.keepIn K (.ref f30)=true)
  (a31:PySem.W.findIn K (.ref CMachine) "is_waiting"=some (some (.ref f31))) (i31:PySem.W.isFn K (.ref f31)=true) (l31:K.lookup f31=some ⟨oc31,od31,.func (PySem.W.fnOf "is_waiting" "Machine.is_waiting" (qv Qp) (qu Qp) (qh Qp) .none kV31 dc31 pm31 an31 cd31 ct31),sl31⟩) (c31:PySem.W.codeIn K cd31 "Machine.is_waiting"=true) (k31:PySem.W.keepIn K (.ref f31)=true)
  (a32:PySem.W.findIn K (.ref CMachine) "do_row"=some (some (.ref f32))) (i32:PySem.W.isFn K (.ref f32)=true) (l32:K.lookup f32=some ⟨oc32,od32,.func (PySem.W.fnOf "do_row" "Machine.do_row" (qv QI) (qu QI) (qh QI) .none kV32 dc32 pm32 an32 cd32 ct32),sl32⟩) (c32:PySem.W.codeIn K cd32 "Machine.do_row"=true) (k32:PySem.W.keepIn K (.ref f32)=true)
  (a33:PySem.W.findIn K (.ref CMachine) "hold"=some (some (.ref f33))) (i33:PySem.W.isFn K (.ref f33)=true) (l33:K.lookup f33=some ⟨oc33,od33,.func (PySem.W.fnOf "hold" "Machine.hold" (qv ye) (qu ye) (qh ye) .none kV33 dc33 pm33 an33 cd33 ct33),sl33⟩) (c33:PySem.W.codeIn K cd33 "Machine.hold"=true) (k33:PySem.W.keepIn K (.ref f33)=true)
  (a34:PySem.W.nsIn K mainGlobals "replayed"=some (some (.ref f34))) (l34:K.lookup f34=some ⟨oc34,od34,.func (PySem.W.fnOf "replayed" "replayed" (qv YK) (qu YK) (qh YK) .none kV34 dc34 pm34 an34 cd34 ct34),sl34⟩) (c34:PySem.W.codeIn K cd34 "replayed"=true) (k34:PySem.W.keepIn K (.ref f34)=true)
  (a35:PySem.W.nsIn K mainGlobals "asks_that_stand"=some (some (.ref f35))) (l35:K.lookup f35=some ⟨oc35,od35,.func (PySem.W.fnOf "asks_that_stand" "asks_that_stand" (qv QC) (qu QC) (qh QC) .none kV35 dc35 pm35 an35 cd35 ct35),sl35⟩) (c35:PySem.W.codeIn K cd35 "asks_that_stand"=true) (k35:PySem.W.keepIn K (.ref f35)=true)
  (a36:PySem.W.nsIn K mainGlobals "does"=some (some (.ref f36))) (l36:K.lookup f36=some ⟨oc36,od36,.func (PySem.W.fnOf "does" "does" (qv ZG) (qu ZG) (qh ZG) .none kV36 dc36 pm36 an36 cd36 ct36),sl36⟩) (c36:PySem.W.codeIn K cd36 "does"=true) (k36:PySem.W.keepIn K (.ref f36)=true)
  (a37:PySem.W.nsIn K mainGlobals "_law_cell_at"=some (some (.ref f37))) (l37:K.lookup f37=some ⟨oc37,od37,.func (PySem.W.fnOf "_law_cell_at" "_law_cell_at" (qv yo) (qu yo) (qh yo) .none kV37 dc37 pm37 an37 cd37 ct37),sl37⟩) (c37:PySem.W.codeIn K cd37 "_law_cell_at"=true) (k37:PySem.W.keepIn K (.ref f37)=true)
  (a38:PySem.W.nsIn K mainGlobals "_law_pot"=some (some (.ref f38))) (l38:K.lookup f38=some ⟨oc38,od38,.func (PySem.W.fnOf "_law_pot" "_law_pot" (qv jo) (qu jo) (qh jo) .none kV38 dc38 pm38 an38 cd38 ct38),sl38⟩) (c38:PySem.W.codeIn K cd38 "_law_pot"=true) (k38:PySem.W.keepIn K (.ref f38)=true)
  (a39:PySem.W.nsIn K mainGlobals "_law_take"=some (some (.ref f39))) (l39:K.lookup f39=some ⟨oc39,od39,.func (PySem.W.fnOf "_law_take" "_law_take" (qv YQ) (qu YQ) (qh YQ) .none kV39 dc39 pm39 an39 cd39 ct39),sl39⟩) (c39:PySem.W.codeIn K cd39 "_law_take"=true) (k39:PySem.W.keepIn K (.ref f39)=true)
  (a40:PySem.W.nsIn K mainGlobals "_law_longer"=some (some (.ref f40))) (l40:K.lookup f40=some ⟨oc40,od40,.func (PySem.W.fnOf "_law_longer" "_law_longer" (qv yM) (qu yM) (qh yM) .none kV40 dc40 pm40 an40 cd40 ct40),sl40⟩) (c40:PySem.W.codeIn K cd40 "_law_longer"=true) (k40:PySem.W.keepIn K (.ref f40)=true)
  (a41:PySem.W.nsIn K mainGlobals "_law_word"=some (some (.ref f41))) (l41:K.lookup f41=some ⟨oc41,od41,.func (PySem.W.fnOf "_law_word" "_law_word" (qv YM) (qu YM) (qh YM) .none kV41 dc41 pm41 an41 cd41 ct41),sl41⟩) (c41:PySem.W.codeIn K cd41 "_law_word"=true) (k41:PySem.W.keepIn K (.ref f41)=true)
  (a42:PySem.W.nsIn K mainGlobals "_law_line"=some (some (.ref f42))) (l42:K.lookup f42=some ⟨oc42,od42,.func (PySem.W.fnOf "_law_line" "_law_line" (qv Yf) (qu Yf) (qh Yf) .none kV42 dc42 pm42 an42 cd42 ct42),sl42⟩) (c42:PySem.W.codeIn K cd42 "_law_line"=true) (k42:PySem.W.keepIn K (.ref f42)=true)
  (a43:PySem.W.nsIn K mainGlobals "_law_rule"=some (some (.ref f43))) (l43:K.lookup f43=some ⟨oc43,od43,.func (PySem.W.fnOf "_law_rule" "_law_rule" (qv Ye) (qu Ye) (qh Ye) .none kV43 dc43 pm43 an43 cd43 ct43),sl43⟩) (c43:PySem.W.codeIn K cd43 "_law_rule"=true) (k43:PySem.W.keepIn K (.ref f43)=true)
  (a44:PySem.W.nsIn K mainGlobals "_law_back"=some (some (.ref f44))) (l44:K.lookup f44=some ⟨oc44,od44,.func (PySem.W.fnOf "_law_back" "_law_back" (qv YO) (qu YO) (qh YO) .none kV44 dc44 pm44 an44 cd44 ct44),sl44⟩) (c44:PySem.W.codeIn K cd44 "_law_back"=true) (k44:PySem.W.keepIn K (.ref f44)=true)
  (a45:PySem.W.nsIn K mainGlobals "_law_names"=some (some (.ref f45))) (l45:K.lookup f45=some ⟨oc45,od45,.func (PySem.W.fnOf "_law_names" "_law_names" (qv Yk) (qu Yk) (qh Yk) .none kV45 dc45 pm45 an45 cd45 ct45),sl45⟩) (c45:PySem.W.codeIn K cd45 "_law_names"=true) (k45:PySem.W.keepIn K (.ref f45)=true)
  (a46:PySem.W.nsIn K mainGlobals "_law_answer"=some (some (.ref f46))) (l46:K.lookup f46=some ⟨oc46,od46,.func (PySem.W.fnOf "_law_answer" "_law_answer" (qv yO) (qu yO) (qh yO) .none kV46 dc46 pm46 an46 cd46 ct46),sl46⟩) (c46:PySem.W.codeIn K cd46 "_law_answer"=true) (k46:PySem.W.keepIn K (.ref f46)=true)
  (a47:PySem.W.nsIn K mainGlobals "_law_run"=some (some (.ref f47))) (l47:K.lookup f47=some ⟨oc47,od47,.func (PySem.W.fnOf "_law_run" "_law_run" (qv jt) (qu jt) (qh jt) .none kV47 dc47 pm47 an47 cd47 ct47),sl47⟩) (c47:PySem.W.codeIn K cd47 "_law_run"=true) (k47:PySem.W.keepIn K (.ref f47)=true)
  (a48:PySem.W.nsIn K mainGlobals "_law_stands"=some (some (.ref f48))) (l48:K.lookup f48=some ⟨oc48,od48,.func (PySem.W.fnOf "_law_stands" "_law_stands" (qv yI) (qu yI) (qh yI) .none kV48 dc48 pm48 an48 cd48 ct48),sl48⟩) (c48:PySem.W.codeIn K cd48 "_law_stands"=true) (k48:PySem.W.keepIn K (.ref f48)=true)
  (a49:PySem.W.nsIn K mainGlobals "_law_beginnings"=some (some (.ref f49))) (l49:K.lookup f49=some ⟨oc49,od49,.func (PySem.W.fnOf "_law_beginnings" "_law_beginnings" (qv QJ) (qu QJ) (qh QJ) .none kV49 dc49 pm49 an49 cd49 ct49),sl49⟩) (c49:PySem.W.codeIn K cd49 "_law_beginnings"=true) (k49:PySem.W.keepIn K (.ref f49)=true)
  (a50:PySem.W.nsIn K mainGlobals "_law_parted"=some (some (.ref f50))) (l50:K.lookup f50=some ⟨oc50,od50,.func (PySem.W.fnOf "_law_parted" "_law_parted" (qv yL) (qu yL) (qh yL) .none kV50 dc50 pm50 an50 cd50 ct50),sl50⟩) (c50:PySem.W.codeIn K cd50 "_law_parted"=true) (k50:PySem.W.keepIn K (.ref f50)=true)
  (a51:PySem.W.nsIn K mainGlobals "law"=some (some (.ref f51))) (l51:K.lookup f51=some ⟨oc51,od51,.func (PySem.W.fnOf "law" "law" (qv s_law) (qu s_law) (qh s_law) .none kV51 dc51 pm51 an51 cd51 ct51),sl51⟩) (c51:PySem.W.codeIn K cd51 "law"=true) (k51:PySem.W.keepIn K (.ref f51)=true)
  (AMachine:PySem.W.nsIn K mainGlobals "Machine"=some (some (.ref CMachine))) (pgMachine:PySem.W.plainGet K CMachine Str.empty=true) (hdMachine:PySem.W.hasDictIn K CMachine=true) (poMachine:PySem.W.plainOver K CMachine=true) (saMachine:PySem.W.findIn K (.ref CMachine) "__setattr__"=some (some (.builtin "object.__setattr__"))) (mkMachine:PySem.W.makesIn K CMachine=true) (kcMachine:PySem.W.keepIn K (.ref CMachine)=true)
  (nnMachinerows:PySem.W.findIn K (.ref CMachine) "rows"=some none)
  (nnMachinerule:PySem.W.findIn K (.ref CMachine) "rule"=some none)
  (nnMachineown:PySem.W.findIn K (.ref CMachine) "own"=some none)
  (nnMachineboxes:PySem.W.findIn K (.ref CMachine) "boxes"=some none)
  (nnMachineplace:PySem.W.findIn K (.ref CMachine) "place"=some none)
  (nnMachinedone:PySem.W.findIn K (.ref CMachine) "done"=some none)
  (nnMachinegiven:PySem.W.findIn K (.ref CMachine) "given"=some none)
  (nnMachinethere:PySem.W.findIn K (.ref CMachine) "there"=some none)
  (g1:PySem.W.nsIn K mainGlobals "MOST_SIGNS"=some (some (.int 300 t1)))
  (g2:PySem.W.nsIn K mainGlobals "MOST_PARTS"=some (some (.int 40 t2)))
  (g3:PySem.W.nsIn K mainGlobals "MOST_SIZE"=some (some (.int 600 t3)))
  (g4:PySem.W.nsIn K mainGlobals "MOST_DEPTH"=some (some (.int 12 t4)))
  (g5:PySem.W.nsIn K mainGlobals "MOST_NAME_SIGNS"=some (some (.int 24 t5)))
  (g6:PySem.W.nsIn K mainGlobals "LETTERS"=some (some (.str "abcdefghijklmnopqrstuvwxyz" t6)))
  (g7:PySem.W.nsIn K mainGlobals "NAME_SIGNS"=some (some (.str "abcdefghijklmnopqrstuvwxyz0123456789./" t7)))
  (g8:PySem.W.nsIn K mainGlobals "PERCENT"=some (some (.int 37 t8)))
  (g9:PySem.W.nsIn K mainGlobals "MOST_LINES"=some (some (.int 40 t9)))
  (g10:PySem.W.nsIn K mainGlobals "MOST_DONE"=some (some (.int 300 t10)))
  (z1:PySem.W.nsIn K mainGlobals "ord"=some none)
  (z2:PySem.W.nsIn K mainGlobals "len"=some none)
  (z3:PySem.W.nsIn K mainGlobals "isinstance"=some none)
  (z4:PySem.W.nsIn K mainGlobals "str"=some none)
  (z5:PySem.W.nsIn K mainGlobals "tuple"=some none)
  (z6:PySem.W.nsIn K mainGlobals "all"=some none)
  (z7:PySem.W.nsIn K mainGlobals "int"=some none)
  (z8:PySem.W.nsIn K mainGlobals "range"=some none)
  (z9:PySem.W.nsIn K mainGlobals "zip"=some none)
  (z10:PySem.W.nsIn K mainGlobals "dict"=some none)
  (z11:PySem.W.nsIn K mainGlobals "list"=some none)
  (z12:PySem.W.nsIn K mainGlobals "enumerate"=some none)
  (z13:PySem.W.nsIn K mainGlobals "abs"=some none)
  (z14:PySem.W.nsIn K mainGlobals "min"=some none)
  (z15:PySem.W.nsIn K mainGlobals "sum"=some none):∃a,Tx K mg a:=by
 have F1:=qR (st:=jA) l1 c1 k1
 have b1:=F1.binds (ps:= ["value"]) fun _ _ _ _ _ _ us hl=>match us,hl with| [_],_=>rfl
 have F2:=qR (st:=Y2) l2 c2 k2
 have b2:=F2.binds (ps:= ["value"]) fun _ _ _ _ _ _ us hl=>match us,hl with| [_],_=>rfl
 have F3:=qR (st:=jp) l3 c3 k3
 have b3:=F3.binds (ps:= ["value"]) fun _ _ _ _ _ _ us hl=>match us,hl with| [_],_=>rfl
 have F4:=qR (st:=QB) l4 c4 k4
 have b4:=F4.binds (ps:= ["tree"]) fun _ _ _ _ _ _ us hl=>match us,hl with| [_],_=>rfl
 have F5:=qR (st:=Yp) l5 c5 k5
 have b5:=F5.binds (ps:= ["ask","answer"]) fun _ _ _ _ _ _ us hl=>match us,hl with| [_,_],_=>rfl
 have F6:=qR (st:=jI) l6 c6 k6
 have b6:=F6.binds (ps:= ["kind","piece","count"]) fun _ _ _ _ _ _ us hl=>match us,hl with| [_,_,_],_=>rfl
 have F7:=qR (st:=Yd) l7 c7 k7
 have b7:=F7.binds (ps:= ["line","form"]) fun _ _ _ _ _ _ us hl=>match us,hl with| [_,_],_=>rfl
 have F8:=qR (st:=jX) l8 c8 k8
 have b8:=F8.binds (ps:= ["line","count"]) fun _ _ _ _ _ _ us hl=>match us,hl with| [_,_],_=>rfl
 have F9:=qR (st:=yN) l9 c9 k9
 have b9:=F9.binds (ps:= ["value"]) fun _ _ _ _ _ _ us hl=>match us,hl with| [_],_=>rfl
 have F10:=qR (st:=Ym) l10 c10 k10
 have b10:=F10.binds (ps:= ["tree"]) fun _ _ _ _ _ _ us hl=>match us,hl with| [_],_=>rfl
 have F11:=qR (st:=Ys) l11 c11 k11
 have b11:=F11.binds (ps:= ["boxes","own","parts"]) fun _ _ _ _ _ _ us hl=>match us,hl with| [_,_,_],_=>rfl
 have F12:=qR (st:=Yn) l12 c12 k12
 have b12:=F12.binds (ps:= ["boxes","own","parts"]) fun _ _ _ _ _ _ us hl=>match us,hl with| [_,_,_],_=>rfl
 have F13:=qR (st:=Yj) l13 c13 k13
 have b13:=F13.binds (ps:= ["boxes","own","parts"]) fun _ _ _ _ _ _ us hl=>match us,hl with| [_,_,_],_=>rfl
 have F14:=qR (st:=YR) l14 c14 k14
 have b14:=F14.binds (ps:= ["boxes","own","parts"]) fun _ _ _ _ _ _ us hl=>match us,hl with| [_,_,_],_=>rfl
 have F15:=qR (st:=YN) l15 c15 k15
 have b15:=F15.binds (ps:= ["boxes","own","parts"]) fun _ _ _ _ _ _ us hl=>match us,hl with| [_,_,_],_=>rfl
 have F16:=qR (st:=Yh) l16 c16 k16
 have b16:=F16.binds (ps:= ["boxes","own","parts"]) fun _ _ _ _ _ _ us hl=>match us,hl with| [_,_,_],_=>rfl
 have F17:=qR (st:=yK) l17 c17 k17
 have b17:=F17.binds (ps:= ["boxes","own","parts"]) fun _ _ _ _ _ _ us hl=>match us,hl with| [_,_,_],_=>rfl
 have F18:=qR (st:=Yr) l18 c18 k18
 have b18:=F18.binds (ps:= ["boxes","own","parts"]) fun _ _ _ _ _ _ us hl=>match us,hl with| [_,_,_],_=>rfl
 have F19:=qR (st:=Yc) l19 c19 k19
 have b19:=F19.binds (ps:= ["boxes","own","parts"]) fun _ _ _ _ _ _ us hl=>match us,hl with| [_,_,_],_=>rfl
 have F20:=qR (st:=YL) l20 c20 k20
 have b20:=F20.binds (ps:= ["boxes","own","parts"]) fun _ _ _ _ _ _ us hl=>match us,hl with| [_,_,_],_=>rfl
 have F21:=qR (st:=Yl) l21 c21 k21
 have b21:=F21.binds (ps:= ["boxes","own","parts"]) fun _ _ _ _ _ _ us hl=>match us,hl with| [_,_,_],_=>rfl
 have F22:=qR (st:=QU) l22 c22 k22
 have b22:=F22.binds (ps:= ["boxes","word","parts"]) fun _ _ _ _ _ _ us hl=>match us,hl with| [_,_,_],_=>rfl
 have F23:=qR (st:=QG) l23 c23 k23
 have b23:=F23.binds (ps:= ["word","held"]) fun _ _ _ _ _ _ us hl=>match us,hl with| [_,_],_=>rfl
 have F24:=qR (st:=yc) l24 c24 k24
 have b24:=F24.binds (ps:= ["self","rule","own"]) fun _ _ _ _ _ _ us hl=>match us,hl with| [_,_,_],_=>rfl
 have F25:=qR (st:=yn) l25 c25 k25
 have b25:=F25.binds (ps:= ["self"]) fun _ _ _ _ _ _ us hl=>match us,hl with| [_],_=>rfl
 have F26:=qR (st:=QK) l26 c26 k26
 have b26:=F26.binds (ps:= ["self","tree"]) fun _ _ _ _ _ _ us hl=>match us,hl with| [_,_],_=>rfl
 have F27:=qR (st:=Q0) l27 c27 k27
 have b27:=F27.binds (ps:= ["self"]) fun _ _ _ _ _ _ us hl=>match us,hl with| [_],_=>rfl
 have F28:=qR (st:=QW) l28 c28 k28
 have b28:=F28.binds (ps:= ["self"]) fun _ _ _ _ _ _ us hl=>match us,hl with| [_],_=>rfl
 have F29:=qR (st:=ya) l29 c29 k29
 have b29:=F29.binds (ps:= ["self"]) fun _ _ _ _ _ _ us hl=>match us,hl with| [_],_=>rfl
 have F30:=qR (st:=QZ) l30 c30 k30
 have b30:=F30.binds (ps:= ["self"]) fun _ _ _ _ _ _ us hl=>match us,hl with| [_],_=>rfl
 have F31:=qR (st:=Qp) l31 c31 k31
 have b31:=F31.binds (ps:= ["self"]) fun _ _ _ _ _ _ us hl=>match us,hl with| [_],_=>rfl
 have F32:=qR (st:=QI) l32 c32 k32
 have b32:=F32.binds (ps:= ["self","row"]) fun _ _ _ _ _ _ us hl=>match us,hl with| [_,_],_=>rfl
 have F33:=qR (st:=ye) l33 c33 k33
 have b33:=F33.binds (ps:= ["self","box","tree"]) fun _ _ _ _ _ _ us hl=>match us,hl with| [_,_,_],_=>rfl
 have F34:=qR (st:=YK) l34 c34 k34
 have b34:=F34.binds (ps:= ["rule","own","answers"]) fun _ _ _ _ _ _ us hl=>match us,hl with| [_,_,_],_=>rfl
 have F35:=qR (st:=QC) l35 c35 k35
 have b35:=F35.binds (ps:= ["machine","asks"]) fun _ _ _ _ _ _ us hl=>match us,hl with| [_,_],_=>rfl
 have F36:=qR (st:=ZG) l36 c36 k36
 have b36:=F36.binds (ps:= ["rule","own","run"]) fun _ _ _ _ _ _ us hl=>match us,hl with| [_,_,_],_=>rfl
 have F37:=qR (st:=yo) l37 c37 k37
 have b37:=F37.binds (ps:= ["script","k"]) fun _ _ _ _ _ _ us hl=>match us,hl with| [_,_],_=>rfl
 have F38:=qR (st:=jo) l38 c38 k38
 have b38:=F38.binds (ps:= ["cell","salt"]) fun _ _ _ _ _ _ us hl=>match us,hl with| [_,_],_=>rfl
 have F39:=qR (st:=YQ) l39 c39 k39
 have b39:=F39.binds (ps:= ["pot","many"]) fun _ _ _ _ _ _ us hl=>match us,hl with| [_,_],_=>rfl
 have F40:=qR (st:=yM) l40 c40 k40
 have b40:=F40.binds (ps:= ["pot"]) fun _ _ _ _ _ _ us hl=>match us,hl with| [_],_=>rfl
 have F41:=qR (st:=YM) l41 c41 k41
 have b41:=F41.binds (ps:= ["pot","names"]) fun _ _ _ _ _ _ us hl=>match us,hl with| [_,_],_=>rfl
 have F42:=qR (st:=Yf) l42 c42 k42
 have b42:=F42.binds (ps:= ["pot","names","many","k"]) fun _ _ _ _ _ _ us hl=>match us,hl with| [_,_,_,_],_=>rfl
 have F43:=qR (st:=Ye) l43 c43 k43
 have b43:=F43.binds (ps:= ["pot","names"]) fun _ _ _ _ _ _ us hl=>match us,hl with| [_,_],_=>rfl
 have F44:=qR (st:=YO) l44 c44 k44
 have b44:=F44.binds (ps:= ["pot","rule"]) fun _ _ _ _ _ _ us hl=>match us,hl with| [_,_],_=>rfl
 have F45:=qR (st:=Yk) l45 c45 k45
 have b45:=F45.binds (ps:= []) fun _ _ _ _ _ _ us hl=>match us,hl with| [],_=>rfl
 have F46:=qR (st:=yO) l46 c46 k46
 have b46:=F46.binds (ps:= ["pot","ask","names"]) fun _ _ _ _ _ _ us hl=>match us,hl with| [_,_,_],_=>rfl
 have F47:=qR (st:=jt) l47 c47 k47
 have b47:=F47.binds (ps:= ["pot","machine","names","other","most"]) fun _ _ _ _ _ _ us hl=>match us,hl with| [_,_,_,_,_],_=>rfl
 have F48:=qR (st:=yI) l48 c48 k48
 have b48:=F48.binds (ps:= ["machine"]) fun _ _ _ _ _ _ us hl=>match us,hl with| [_],_=>rfl
 have F49:=qR (st:=QJ) l49 c49 k49
 have b49:=F49.binds (ps:= ["rule","own","answers","machine"]) fun _ _ _ _ _ _ us hl=>match us,hl with| [_,_,_,_],_=>rfl
 have F50:=qR (st:=yL) l50 c50 k50
 have b50:=F50.binds (ps:= ["pot","rule","own","answers","names"]) fun _ _ _ _ _ _ us hl=>match us,hl with| [_,_,_,_,_],_=>rfl
 have F51:=qR (st:=s_law) l51 c51 k51
 have b51:=F51.binds (ps:= ["script"]) fun _ _ _ _ _ _ us hl=>match us,hl with| [_],_=>rfl
 exact⟨⟨f1,_,f2,_,f3,_,f4,_,f5,_,f6,_,f7,_,f8,_,f9,_,f10,_,f11,_,f12,_,f13,_,f14,_,f15,_,f16,_,f17,_,f18,_,f19,_,f20,_,f21,_,f22,_,f23,_,f24,_,f25,_,f26,_,f27,_,f28,_,f29,_,f30,_,f31,_,f32,_,f33,_,f34,_,f35,_,f36,_,f37,_,f38,_,f39,_,f40,_,f41,_,f42,_,f43,_,f44,_,f45,_,f46,_,f47,_,f48,_,f49,_,f50,_,f51,_,CMachine⟩,⟨F1,b1,PySem.W.mg_of X G a1,F2,b2,PySem.W.mg_of X G a2,F3,b3,PySem.W.mg_of X G a3,F4,b4,PySem.W.mg_of X G a4,F5,b5,PySem.W.mg_of X G a5,F6,b6,PySem.W.mg_of X G a6,F7,b7,PySem.W.mg_of X G a7,F8,b8,PySem.W.mg_of X G a8,F9,b9,PySem.W.mg_of X G a9,F10,b10,PySem.W.mg_of X G a10,F11,b11,PySem.W.mg_of X G a11,F12,b12,PySem.W.mg_of X G a12,F13,b13,PySem.W.mg_of X G a13,F14,b14,PySem.W.mg_of X G a14,F15,b15,PySem.W.mg_of X G a15,F16,b16,PySem.W.mg_of X G a16,F17,b17,PySem.W.mg_of X G a17,F18,b18,PySem.W.mg_of X G a18,F19,b19,PySem.W.mg_of X G a19,F20,b20,PySem.W.mg_of X G a20,F21,b21,PySem.W.mg_of X G a21,F22,b22,PySem.W.mg_of X G a22,F23,b23,PySem.W.mg_of X G a23,F24,b24,⟨a24,i24,k24⟩,F25,b25,⟨a25,i25,k25⟩,F26,b26,⟨a26,i26,k26⟩,F27,b27,⟨a27,i27,k27⟩,F28,b28,⟨a28,i28,k28⟩,F29,b29,⟨a29,i29,k29⟩,F30,b30,⟨a30,i30,k30⟩,F31,b31,⟨a31,i31,k31⟩,F32,b32,⟨a32,i32,k32⟩,F33,b33,⟨a33,i33,k33⟩,F34,b34,PySem.W.mg_of X G a34,F35,b35,PySem.W.mg_of X G a35,F36,b36,PySem.W.mg_of X G a36,F37,b37,PySem.W.mg_of X G a37,F38,b38,PySem.W.mg_of X G a38,F39,b39,PySem.W.mg_of X G a39,F40,b40,PySem.W.mg_of X G a40,F41,b41,PySem.W.mg_of X G a41,F42,b42,PySem.W.mg_of X G a42,F43,b43,PySem.W.mg_of X G a43,F44,b44,PySem.W.mg_of X G a44,F45,b45,PySem.W.mg_of X G a45,F46,b46,PySem.W.mg_of X G a46,F47,b47,PySem.W.mg_of X G a47,F48,b48,PySem.W.mg_of X G a48,F49,b49,PySem.W.mg_of X G a49,F50,b50,PySem.W.mg_of X G a50,F51,b51,PySem.W.mg_of X G a51,⟨pgMachine,hdMachine,poMachine,saMachine⟩,⟨mkMachine,a24,i24,kcMachine⟩,PySem.W.mg_of X G AMachine,nnMachinerows,nnMachinerule,nnMachineown,nnMachineboxes,nnMachineplace,nnMachinedone,nnMachinegiven,nnMachinethere,fun s u=> .of_eq rfl,⟨_,PySem.W.mg_of X G g1⟩,⟨_,PySem.W.mg_of X G g2⟩,⟨_,PySem.W.mg_of X G g3⟩,⟨_,PySem.W.mg_of X G g4⟩,⟨_,PySem.W.mg_of X G g5⟩,⟨_,PySem.W.mg_of X G g6⟩,⟨_,PySem.W.mg_of X G g7⟩,⟨_,PySem.W.mg_of X G g8⟩,⟨_,PySem.W.mg_of X G g9⟩,⟨_,PySem.W.mg_of X G g10⟩,PySem.W.mg_none_of X G z1,PySem.W.mg_none_of X G z2,PySem.W.mg_none_of X G z3,PySem.W.mg_none_of X G z4,PySem.W.mg_none_of X G z5,PySem.W.mg_none_of X G z6,PySem.W.mg_none_of X G z7,PySem.W.mg_none_of X G z8,PySem.W.mg_none_of X G z9,PySem.W.mg_none_of X G z10,PySem.W.mg_none_of X G z11,PySem.W.mg_none_of X G z12,PySem.W.mg_none_of X G z13,PySem.W.mg_none_of X G z14,PySem.W.mg_none_of X G z15⟩⟩
theorem fx_mk {w:World}{K:PySem.W.Frag}{h:Heap}{mg:Str→Option Value}{a:Ad}(T:Tx K mg a)(X:K.In h)(G:h.Ns mainGlobals mg){aB:Addr}{dB:Option Addr}{iB:Array Value}{nB:Nat}{sB:Array (Option Value)}{uB_0 uB_1 uB_2 uB_3 uB_4 uB_5 uB_6 uB_7:Tok}{aA:Addr}{dA:Option Addr}{iA:Array Value}{nA:Nat}{sA:Array (Option Value)}{uA_0 uA_1 uA_2:Tok}{aF:Addr}{eF:Array DictEntry}{nF:Nat}{aM:Addr}{eM:Array DictEntry}{nM:Nat}{q1:Addr}{d1:Option Addr}{i1:Array Value}{n1:Nat}{s1:Array (Option Value)}{u1_0 u1_1:Tok}{q2:Addr}{d2:Option Addr}{i2:Array Value}{n2:Nat}{s2:Array (Option Value)}{u2_0:Tok}{q3:Addr}{d3:Option Addr}{i3:Array Value}{n3:Nat}{s3:Array (Option Value)}{u3_0 u3_1:Tok}{q4:Addr}{d4:Option Addr}{i4:Array Value}{n4:Nat}{s4:Array (Option Value)}{u4_0:Tok}{q5:Addr}{d5:Option Addr}{i5:Array Value}{n5:Nat}{s5:Array (Option Value)}{u5_0 u5_1:Tok}{q6:Addr}{d6:Option Addr}{i6:Array Value}{n6:Nat}{s6:Array (Option Value)}{u6_0 u6_1:Tok}{q7:Addr}{d7:Option Addr}{i7:Array Value}{n7:Nat}{s7:Array (Option Value)}{u7_0 u7_1:Tok}{q8:Addr}{d8:Option Addr}{i8:Array Value}{n8:Nat}{s8:Array (Option Value)}{u8_0 u8_1:Tok}{q9:Addr}{d9:Option Addr}{i9:Array Value}{n9:Nat}{s9:Array (Option Value)}{u9_0 u9_1:Tok}{q10:Addr}{d10:Option Addr}{i10:Array Value}{n10:Nat}{s10:Array (Option Value)}{u10_0 u10_1 u10_2:Tok}{q11:Addr}{d11:Option Addr}{i11:Array Value}{n11:Nat}{s11:Array (Option Value)}{u11_0 u11_1 u11_2:Tok}{q12:Addr}{d12:Option Addr}{i12:Array Value}{n12:Nat}{s12:Array (Option Value)}{u12_0 u12_1:Tok}{q13:Addr}{d13:Option Addr}{i13:Array Value}{n13:Nat}{s13:Array (Option Value)}{u13_0 u13_1:Tok}{q14:Addr}{d14:Option Addr}{i14:Array Value}{n14:Nat}{s14:Array (Option Value)}{u14_0 u14_1:Tok}{q15:Addr}{d15:Option Addr}{i15:Array Value}{n15:Nat}{s15:Array (Option Value)}{u15_0:Tok}{q16:Addr}{d16:Option Addr}{i16:Array Value}{n16:Nat}{s16:Array (Option Value)}{u16_0 u16_1 u16_2:Tok}{q17:Addr}{d17:Option Addr}{i17:Array Value}{n17:Nat}{s17:Array (Option Value)}{u17_0 u17_1:Tok}{q18:Addr}{d18:Option Addr}{i18:Array Value}{n18:Nat}{s18:Array (Option Value)}{u18_0 u18_1:Tok}{q19:Addr}{d19:Option Addr}{i19:Array Value}{n19:Nat}{s19:Array (Option Value)}{u19_0:Tok}{q20:Addr}{d20:Option Addr}{i20:Array Value}{n20:Nat}{s20:Array (Option Value)}{m_text:Addr}{m_self:Addr}{m_copy:Addr}{m_row:Addr}{m_put:Addr}{m_join:Addr}{m_first:Addr}{m_rest:Addr}{m_size:Addr}{m_cut:Addr}{m_glue:Addr}
  (gB:PySem.W.nsIn K mainGlobals "BOXES"=some (some (.ref aB))) (lB:K.lookup aB=some ⟨.type "tuple",dB,.seq iB nB,sB⟩) (vB:iB.toList= [.str "a" uB_0,.str "b" uB_1,.str "c" uB_2,.str "d" uB_3,.str "e" uB_4,.str "f" uB_5,.str "g" uB_6,.str "h" uB_7])
  (gA:PySem.W.nsIn K mainGlobals "ASKING"=some (some (.ref aA))) (lA:K.lookup aA=some ⟨.type "tuple",dA,.seq iA nA,sA⟩) (vA:iA.toList= [.str "ask" uA_0,.str "has" uA_1,.str "names" uA_2])
  (gF:PySem.W.nsIn K mainGlobals "FORMS"=some (some (.ref aF))) (lF:K.lookup aF=some ⟨.type "dict",none,.dict eF nF,#[]⟩) (kF:PySem.W.KeysLit w.params eF.toList) (zF:(aF==sysModules)=false)
  (gM:PySem.W.nsIn K mainGlobals "MAKERS"=some (some (.ref aM))) (lM:K.lookup aM=some ⟨.type "dict",none,.dict eM nM,#[]⟩) (kM:PySem.W.KeysLit w.params eM.toList) (zM:(aM==sysModules)=false)
  (f1:PySem.W.nsIn K aF "text"=some (some (.ref q1))) (l1:K.lookup q1=some ⟨.type "tuple",d1,.seq i1 n1,s1⟩) (v1:i1.toList= [.str "box" u1_0,.str "words" u1_1])
  (f2:PySem.W.nsIn K aF "self"=some (some (.ref q2))) (l2:K.lookup q2=some ⟨.type "tuple",d2,.seq i2 n2,s2⟩) (v2:i2.toList= [.str "box" u2_0])
  (f3:PySem.W.nsIn K aF "copy"=some (some (.ref q3))) (l3:K.lookup q3=some ⟨.type "tuple",d3,.seq i3 n3,s3⟩) (v3:i3.toList= [.str "box" u3_0,.str "box" u3_1])
  (f4:PySem.W.nsIn K aF "row"=some (some (.ref q4))) (l4:K.lookup q4=some ⟨.type "tuple",d4,.seq i4 n4,s4⟩) (v4:i4.toList= [.str "box" u4_0])
  (f5:PySem.W.nsIn K aF "put"=some (some (.ref q5))) (l5:K.lookup q5=some ⟨.type "tuple",d5,.seq i5 n5,s5⟩) (v5:i5.toList= [.str "box" u5_0,.str "box" u5_1])
  (f6:PySem.W.nsIn K aF "join"=some (some (.ref q6))) (l6:K.lookup q6=some ⟨.type "tuple",d6,.seq i6 n6,s6⟩) (v6:i6.toList= [.str "box" u6_0,.str "box" u6_1])
  (f7:PySem.W.nsIn K aF "first"=some (some (.ref q7))) (l7:K.lookup q7=some ⟨.type "tuple",d7,.seq i7 n7,s7⟩) (v7:i7.toList= [.str "box" u7_0,.str "box" u7_1])
  (f8:PySem.W.nsIn K aF "rest"=some (some (.ref q8))) (l8:K.lookup q8=some ⟨.type "tuple",d8,.seq i8 n8,s8⟩) (v8:i8.toList= [.str "box" u8_0,.str "box" u8_1])
  (f9:PySem.W.nsIn K aF "size"=some (some (.ref q9))) (l9:K.lookup q9=some ⟨.type "tuple",d9,.seq i9 n9,s9⟩) (v9:i9.toList= [.str "box" u9_0,.str "box" u9_1])
  (f10:PySem.W.nsIn K aF "cut"=some (some (.ref q10))) (l10:K.lookup q10=some ⟨.type "tuple",d10,.seq i10 n10,s10⟩) (v10:i10.toList= [.str "box" u10_0,.str "box" u10_1,.str "box" u10_2])
  (f11:PySem.W.nsIn K aF "glue"=some (some (.ref q11))) (l11:K.lookup q11=some ⟨.type "tuple",d11,.seq i11 n11,s11⟩) (v11:i11.toList= [.str "box" u11_0,.str "box" u11_1,.str "box" u11_2])
  (f12:PySem.W.nsIn K aF "ask"=some (some (.ref q12))) (l12:K.lookup q12=some ⟨.type "tuple",d12,.seq i12 n12,s12⟩) (v12:i12.toList= [.str "box" u12_0,.str "box" u12_1])
  (f13:PySem.W.nsIn K aF "has"=some (some (.ref q13))) (l13:K.lookup q13=some ⟨.type "tuple",d13,.seq i13 n13,s13⟩) (v13:i13.toList= [.str "box" u13_0,.str "box" u13_1])
  (f14:PySem.W.nsIn K aF "names"=some (some (.ref q14))) (l14:K.lookup q14=some ⟨.type "tuple",d14,.seq i14 n14,s14⟩) (v14:i14.toList= [.str "box" u14_0,.str "box" u14_1])
  (f15:PySem.W.nsIn K aF "go"=some (some (.ref q15))) (l15:K.lookup q15=some ⟨.type "tuple",d15,.seq i15 n15,s15⟩) (v15:i15.toList= [.str "line" u15_0])
  (f16:PySem.W.nsIn K aF "like"=some (some (.ref q16))) (l16:K.lookup q16=some ⟨.type "tuple",d16,.seq i16 n16,s16⟩) (v16:i16.toList= [.str "box" u16_0,.str "box" u16_1,.str "line" u16_2])
  (f17:PySem.W.nsIn K aF "rowed"=some (some (.ref q17))) (l17:K.lookup q17=some ⟨.type "tuple",d17,.seq i17 n17,s17⟩) (v17:i17.toList= [.str "box" u17_0,.str "line" u17_1])
  (f18:PySem.W.nsIn K aF "none"=some (some (.ref q18))) (l18:K.lookup q18=some ⟨.type "tuple",d18,.seq i18 n18,s18⟩) (v18:i18.toList= [.str "box" u18_0,.str "line" u18_1])
  (f19:PySem.W.nsIn K aF "say"=some (some (.ref q19))) (l19:K.lookup q19=some ⟨.type "tuple",d19,.seq i19 n19,s19⟩) (v19:i19.toList= [.str "box" u19_0])
  (f20:PySem.W.nsIn K aF "fault"=some (some (.ref q20))) (l20:K.lookup q20=some ⟨.type "tuple",d20,.seq i20 n20,s20⟩) (v20:i20.toList= [])
  (x_text:PySem.W.nsIn K mainGlobals "text_made"=some (some (.ref m_text))) (y_text:PySem.W.nsIn K aM "text"=some (some (.ref m_text)))
  (x_self:PySem.W.nsIn K mainGlobals "self_made"=some (some (.ref m_self))) (y_self:PySem.W.nsIn K aM "self"=some (some (.ref m_self)))
  (x_copy:PySem.W.nsIn K mainGlobals "copy_made"=some (some (.ref m_copy))) (y_copy:PySem.W.nsIn K aM "copy"=some (some (.ref m_copy)))
  (x_row:PySem.W.nsIn K mainGlobals "row_made"=some (some (.ref m_row))) (y_row:PySem.W.nsIn K aM "row"=some (some (.ref m_row)))
  (x_put:PySem.W.nsIn K mainGlobals "put_made"=some (some (.ref m_put))) (y_put:PySem.W.nsIn K aM "put"=some (some (.ref m_put)))
  (x_join:PySem.W.nsIn K mainGlobals "join_made"=some (some (.ref m_join))) (y_join:PySem.W.nsIn K aM "join"=some (some (.ref m_join)))
  (x_first:PySem.W.nsIn K mainGlobals "first_made"=some (some (.ref m_first))) (y_first:PySem.W.nsIn K aM "first"=some (some (.ref m_first)))
  (x_rest:PySem.W.nsIn K mainGlobals "rest_made"=some (some (.ref m_rest))) (y_rest:PySem.W.nsIn K aM "rest"=some (some (.ref m_rest)))
  (x_size:PySem.W.nsIn K mainGlobals "size_made"=some (some (.ref m_size))) (y_size:PySem.W.nsIn K aM "size"=some (some (.ref m_size)))
  (x_cut:PySem.W.nsIn K mainGlobals "cut_made"=some (some (.ref m_cut))) (y_cut:PySem.W.nsIn K aM "cut"=some (some (.ref m_cut)))
  (x_glue:PySem.W.nsIn K mainGlobals "glue_made"=some (some (.ref m_glue))) (y_glue:PySem.W.nsIn K aM "glue"=some (some (.ref m_glue)))
  (o_ask:PySem.W.nsIn K aM "ask"=some none)
  (o_has:PySem.W.nsIn K aM "has"=some none)
  (o_names:PySem.W.nsIn K aM "names"=some none)
  (o_go:PySem.W.nsIn K aM "go"=some none)
  (o_like:PySem.W.nsIn K aM "like"=some none)
  (o_rowed:PySem.W.nsIn K aM "rowed"=some none)
  (o_none:PySem.W.nsIn K aM "none"=some none)
  (o_say:PySem.W.nsIn K aM "say"=some none)
  (o_fault:PySem.W.nsIn K aM "fault"=some none):∃g,Fx K w mg g a:=by
 have z_text:m_text=a.YX:=by
  have:=(PySem.W.mg_of X G x_text).symm.trans T.m_text_made
  injection this with this
  injection this
 have z_self:m_self=a.YY:=by
  have:=(PySem.W.mg_of X G x_self).symm.trans T.m_self_made
  injection this with this
  injection this
 have z_copy:m_copy=a.YU:=by
  have:=(PySem.W.mg_of X G x_copy).symm.trans T.m_copy_made
  injection this with this
  injection this
 have z_row:m_row=a.jy:=by
  have:=(PySem.W.mg_of X G x_row).symm.trans T.m_row_made
  injection this with this
  injection this
 have z_put:m_put=a.jE:=by
  have:=(PySem.W.mg_of X G x_put).symm.trans T.m_put_made
  injection this with this
  injection this
 have z_join:m_join=a.YV:=by
  have:=(PySem.W.mg_of X G x_join).symm.trans T.m_join_made
  injection this with this
  injection this
 have z_first:m_first=a.Yz:=by
  have:=(PySem.W.mg_of X G x_first).symm.trans T.m_first_made
  injection this with this
  injection this
 have z_rest:m_rest=a.YZ:=by
  have:=(PySem.W.mg_of X G x_rest).symm.trans T.m_rest_made
  injection this with this
  injection this
 have z_size:m_size=a.Y1:=by
  have:=(PySem.W.mg_of X G x_size).symm.trans T.m_size_made
  injection this with this
  injection this
 have z_cut:m_cut=a.jB:=by
  have:=(PySem.W.mg_of X G x_cut).symm.trans T.m_cut_made
  injection this with this
  injection this
 have z_glue:m_glue=a.Y5:=by
  have:=(PySem.W.mg_of X G x_glue).symm.trans T.m_glue_made
  injection this with this
  injection this
 refine⟨⟨aB,aA,aF,aM⟩,⟨PySem.W.mg_of X G gB,PySem.W.mg_of X G gA,PySem.W.mg_of X G gF,PySem.W.mg_of X G gM,fun H=>QF lB vB rfl,fun H=>QF (l:= ["ask","has","names"]) lA vA rfl,⟨zF,eF,nF,lF,kF⟩,fun x hx=> ?_,⟨zM,eM,nM,lM,kM⟩,z_text▸y_text,z_self▸y_self,z_copy▸y_copy,z_row▸y_row,z_put▸y_put,z_join▸y_join,z_first▸y_first,z_rest▸y_rest,z_size▸y_size,z_cut▸y_cut,z_glue▸y_glue,fun z hz=> ?_⟩⟩
 ·unfold FRM at hx
  simp only [List.mem_cons,List.mem_nil_iff,or_false] at hx
  rcases hx with rfl|rfl|rfl|rfl|rfl|rfl|rfl|rfl|rfl|rfl|rfl|rfl|rfl|rfl|rfl|rfl|rfl|rfl|rfl|rfl
  ·exact⟨_,f1,fun H=>by rw [qP];exact QF l1 v1 rfl⟩
  ·exact⟨_,f2,fun H=>by rw [qP];exact QF l2 v2 rfl⟩
  ·exact⟨_,f3,fun H=>by rw [qP];exact QF l3 v3 rfl⟩
  ·exact⟨_,f4,fun H=>by rw [qP];exact QF l4 v4 rfl⟩
  ·exact⟨_,f5,fun H=>by rw [qP];exact QF l5 v5 rfl⟩
  ·exact⟨_,f6,fun H=>by rw [qP];exact QF l6 v6 rfl⟩
  ·exact⟨_,f7,fun H=>by rw [qP];exact QF l7 v7 rfl⟩
  ·exact⟨_,f8,fun H=>by rw [qP];exact QF l8 v8 rfl⟩
  ·exact⟨_,f9,fun H=>by rw [qP];exact QF l9 v9 rfl⟩
  ·exact⟨_,f10,fun H=>by rw [qP];exact QF l10 v10 rfl⟩
  ·exact⟨_,f11,fun H=>by rw [qP];exact QF l11 v11 rfl⟩
  ·exact⟨_,f12,fun H=>by rw [qP];exact QF l12 v12 rfl⟩
  ·exact⟨_,f13,fun H=>by rw [qP];exact QF l13 v13 rfl⟩
  ·exact⟨_,f14,fun H=>by rw [qP];exact QF l14 v14 rfl⟩
  ·exact⟨_,f15,fun H=>by rw [qP];exact QF l15 v15 rfl⟩
  ·exact⟨_,f16,fun H=>by rw [qP];exact QF l16 v16 rfl⟩
  ·exact⟨_,f17,fun H=>by rw [qP];exact QF l17 v17 rfl⟩
  ·exact⟨_,f18,fun H=>by rw [qP];exact QF l18 v18 rfl⟩
  ·exact⟨_,f19,fun H=>by rw [qP];exact QF l19 v19 rfl⟩
  ·exact⟨_,f20,fun H=>by rw [qP];exact QF l20 v20 rfl⟩
 ·simp only [NOMK,List.mem_cons,List.mem_nil_iff,or_false] at hz
  rcases hz with rfl|rfl|rfl|rfl|rfl|rfl|rfl|rfl|rfl
  ·exact o_ask
  ·exact o_has
  ·exact o_names
  ·exact o_go
  ·exact o_like
  ·exact o_rowed
  ·exact o_none
  ·exact o_say
  ·exact o_fault
end K14
open PySem PySem.W PyProof.Rows
set_option maxRecDepth 100000 in
set_option maxHeartbeats 0 in
theorem PySem.Challenge.cw_askwright_k14_whole_asked_by_answers_alo_holds : PySem.Challenge.rw_askwright_k14_whole_asked_by_answers_alo.Holds := by
 w_on;o_law;k_head;(case hw=>w_witness2)
 k_fill
 refine L2.walk_ofS (l:=PySem.Challenge.rw_askwright_k14_whole_asked_by_answers_alo) (n:=63) (k:=13) (x:="script") (CX:=L2.CX0) (sp:=K14.sp_law) rfl (by decide) rfl ⟨rfl,by decide,by decide⟩ (fun w h Y=>PySem.W.kIn_of Y) ?F ?S ?C
 case F=>
  intro w mg fa h KX G hmg
  have T:∃a,K14.Tx (L2.KOf KX) mg a:=by
   dsimp only [L2.KOf]
   refine' K14.tx_mk KX G (AMachine:= ?AMachine) (a1:= ?a1) (l1:= ?l1) (c1:= ?c1) (k1:= ?k1) (a2:= ?a2) (l2:= ?l2) (c2:= ?c2) (k2:= ?k2) (a3:= ?a3) (l3:= ?l3) (c3:= ?c3) (k3:= ?k3) (a4:= ?a4) (l4:= ?l4) (c4:= ?c4) (k4:= ?k4) (a5:= ?a5) (l5:= ?l5) (c5:= ?c5) (k5:= ?k5) (a6:= ?a6) (l6:= ?l6) (c6:= ?c6) (k6:= ?k6) (a7:= ?a7) (l7:= ?l7) (c7:= ?c7) (k7:= ?k7) (a8:= ?a8) (l8:= ?l8) (c8:= ?c8) (k8:= ?k8) (a9:= ?a9) (l9:= ?l9) (c9:= ?c9) (k9:= ?k9) (a10:= ?a10) (l10:= ?l10) (c10:= ?c10) (k10:= ?k10) (a11:= ?a11) (l11:= ?l11) (c11:= ?c11) (k11:= ?k11) (a12:= ?a12) (l12:= ?l12) (c12:= ?c12) (k12:= ?k12) (a13:= ?a13) (l13:= ?l13) (c13:= ?c13) (k13:= ?k13) (a14:= ?a14) (l14:= ?l14) (c14:= ?c14) (k14:= ?k14) (a15:= ?a15) (l15:= ?l15) (c15:= ?c15) (k15:= ?k15) (a16:= ?a16) (l16:= ?l16) (c16:= ?c16) (k16:= ?k16) (a17:= ?a17) (l17:= ?l17) (c17:= ?c17) (k17:= ?k17) (a18:= ?a18) (l18:= ?l18) (c18:= ?c18) (k18:= ?k18) (a19:= ?a19) (l19:= ?l19) (c19:= ?c19) (k19:= ?k19) (a20:= ?a20) (l20:= ?l20) (c20:= ?c20) (k20:= ?k20) (a21:= ?a21) (l21:= ?l21) (c21:= ?c21) (k21:= ?k21) (a22:= ?a22) (l22:= ?l22) (c22:= ?c22) (k22:= ?k22) (a23:= ?a23) (l23:= ?l23) (c23:= ?c23) (k23:= ?k23) (a24:= ?a24) (i24:= ?i24) (l24:= ?l24) (c24:= ?c24) (k24:= ?k24) (a25:= ?a25) (i25:= ?i25) (l25:= ?l25) (c25:= ?c25) (k25:= ?k25) (a26:= ?a26) (i26:= ?i26) (l26:= ?l26) (c26:= ?c26) (k26:= ?k26) (a27:= ?a27) (i27:= ?i27) (l27:= ?l27) (c27:= ?c27) (k27:= ?k27) (a28:= ?a28) (i28:= ?i28) (l28:= ?l28) (c28:= ?c28) (k28:= ?k28) (a29:= ?a29) (i29:= ?i29) (l29:= ?l29) (c29:= ?c29) (k29:= ?k29) (a30:= ?a30) (i30:= ?i30) (l30:= ?l30) (c30:= ?c30) (k30:= ?k30) (a31:= ?a31) (i31:= ?i31) (l31:= ?l31) (c31:= ?c31) (k31:= ?k31) (a32:= ?a32) (i32:= ?i32) (l32:= ?l32) (c32:= ?c32) (k32:= ?k32) (a33:= ?a33) (i33:= ?i33) (l33:= ?l33) (c33:= ?c33) (k33:= ?k33) (a34:= ?a34) (l34:= ?l34) (c34:= ?c34) (k34:= ?k34) (a35:= ?a35) (l35:= ?l35) (c35:= ?c35) (k35:= ?k35) (a36:= ?a36) (l36:= ?l36) (c36:= ?c36) (k36:= ?k36) (a37:= ?a37) (l37:= ?l37) (c37:= ?c37) (k37:= ?k37) (a38:= ?a38) (l38:= ?l38) (c38:= ?c38) (k38:= ?k38) (a39:= ?a39) (l39:= ?l39) (c39:= ?c39) (k39:= ?k39) (a40:= ?a40) (l40:= ?l40) (c40:= ?c40) (k40:= ?k40) (a41:= ?a41) (l41:= ?l41) (c41:= ?c41) (k41:= ?k41) (a42:= ?a42) (l42:= ?l42) (c42:= ?c42) (k42:= ?k42) (a43:= ?a43) (l43:= ?l43) (c43:= ?c43) (k43:= ?k43) (a44:= ?a44) (l44:= ?l44) (c44:= ?c44) (k44:= ?k44) (a45:= ?a45) (l45:= ?l45) (c45:= ?c45) (k45:= ?k45) (a46:= ?a46) (l46:= ?l46) (c46:= ?c46) (k46:= ?k46) (a47:= ?a47) (l47:= ?l47) (c47:= ?c47) (k47:= ?k47) (a48:= ?a48) (l48:= ?l48) (c48:= ?c48) (k48:= ?k48) (a49:= ?a49) (l49:= ?l49) (c49:= ?c49) (k49:= ?k49) (a50:= ?a50) (l50:= ?l50) (c50:= ?c50) (k50:= ?k50) (a51:= ?a51) (l51:= ?l51) (c51:= ?c51) (k51:= ?k51) (pgMachine:= ?pgMachine) (hdMachine:= ?hdMachine) (poMachine:= ?poMachine) (saMachine:= ?saMachine) (mkMachine:= ?mkMachine) (kcMachine:= ?kcMachine) (nnMachinerows:= ?nnMachinerows) (nnMachinerule:= ?nnMachinerule) (nnMachineown:= ?nnMachineown) (nnMachineboxes:= ?nnMachineboxes) (nnMachineplace:= ?nnMachineplace) (nnMachinedone:= ?nnMachinedone) (nnMachinegiven:= ?nnMachinegiven) (nnMachinethere:= ?nnMachinethere) (g1:= ?g1) (g2:= ?g2) (g3:= ?g3) (g4:= ?g4) (g5:= ?g5) (g6:= ?g6) (g7:= ?g7) (g8:= ?g8) (g9:= ?g9) (g10:= ?g10) (z1:= ?z1) (z2:= ?z2) (z3:= ?z3) (z4:= ?z4) (z5:= ?z5) (z6:= ?z6) (z7:= ?z7) (z8:= ?z8) (z9:= ?z9) (z10:= ?z10) (z11:= ?z11) (z12:= ?z12) (z13:= ?z13) (z14:= ?z14) (z15:= ?z15)
   (case AMachine=>k_is);(case a1=>k_is);(case l1=>k_is);(case c1=>k_is);(case k1=>k_is);(case a2=>k_is);(case l2=>k_is);(case c2=>k_is);(case k2=>k_is);(case a3=>k_is);(case l3=>k_is);(case c3=>k_is);(case k3=>k_is);(case a4=>k_is);(case l4=>k_is);(case c4=>k_is);(case k4=>k_is);(case a5=>k_is);(case l5=>k_is);(case c5=>k_is);(case k5=>k_is);(case a6=>k_is);(case l6=>k_is);(case c6=>k_is);(case k6=>k_is);(case a7=>k_is);(case l7=>k_is);(case c7=>k_is);(case k7=>k_is);(case a8=>k_is);(case l8=>k_is);(case c8=>k_is);(case k8=>k_is);(case a9=>k_is);(case l9=>k_is);(case c9=>k_is);(case k9=>k_is);(case a10=>k_is);(case l10=>k_is);(case c10=>k_is);(case k10=>k_is);(case a11=>k_is);(case l11=>k_is);(case c11=>k_is);(case k11=>k_is);(case a12=>k_is);(case l12=>k_is);(case c12=>k_is);(case k12=>k_is);(case a13=>k_is);(case l13=>k_is);(case c13=>k_is);(case k13=>k_is);(case a14=>k_is);(case l14=>k_is);(case c14=>k_is);(case k14=>k_is);(case a15=>k_is);(case l15=>k_is);(case c15=>k_is);(case k15=>k_is);(case a16=>k_is);(case l16=>k_is);(case c16=>k_is);(case k16=>k_is);(case a17=>k_is);(case l17=>k_is);(case c17=>k_is);(case k17=>k_is);(case a18=>k_is);(case l18=>k_is);(case c18=>k_is);(case k18=>k_is);(case a19=>k_is);(case l19=>k_is);(case c19=>k_is);(case k19=>k_is);(case a20=>k_is);(case l20=>k_is);(case c20=>k_is);(case k20=>k_is);(case a21=>k_is);(case l21=>k_is);(case c21=>k_is);(case k21=>k_is);(case a22=>k_is);(case l22=>k_is);(case c22=>k_is);(case k22=>k_is);(case a23=>k_is);(case l23=>k_is);(case c23=>k_is);(case k23=>k_is);(case a24=>k_is);(case i24=>k_is);(case l24=>k_is);(case c24=>k_is);(case k24=>k_is);(case a25=>k_is);(case i25=>k_is);(case l25=>k_is);(case c25=>k_is);(case k25=>k_is);(case a26=>k_is);(case i26=>k_is);(case l26=>k_is);(case c26=>k_is);(case k26=>k_is);(case a27=>k_is);(case i27=>k_is);(case l27=>k_is);(case c27=>k_is);(case k27=>k_is);(case a28=>k_is);(case i28=>k_is);(case l28=>k_is);(case c28=>k_is);(case k28=>k_is);(case a29=>k_is);(case i29=>k_is);(case l29=>k_is);(case c29=>k_is);(case k29=>k_is);(case a30=>k_is);(case i30=>k_is);(case l30=>k_is);(case c30=>k_is);(case k30=>k_is);(case a31=>k_is);(case i31=>k_is);(case l31=>k_is);(case c31=>k_is);(case k31=>k_is);(case a32=>k_is);(case i32=>k_is);(case l32=>k_is);(case c32=>k_is);(case k32=>k_is);(case a33=>k_is);(case i33=>k_is);(case l33=>k_is);(case c33=>k_is);(case k33=>k_is);(case a34=>k_is);(case l34=>k_is);(case c34=>k_is);(case k34=>k_is);(case a35=>k_is);(case l35=>k_is);(case c35=>k_is);(case k35=>k_is);(case a36=>k_is);(case l36=>k_is);(case c36=>k_is);(case k36=>k_is);(case a37=>k_is);(case l37=>k_is);(case c37=>k_is);(case k37=>k_is);(case a38=>k_is);(case l38=>k_is);(case c38=>k_is);(case k38=>k_is);(case a39=>k_is);(case l39=>k_is);(case c39=>k_is);(case k39=>k_is);(case a40=>k_is);(case l40=>k_is);(case c40=>k_is);(case k40=>k_is);(case a41=>k_is);(case l41=>k_is);(case c41=>k_is);(case k41=>k_is);(case a42=>k_is);(case l42=>k_is);(case c42=>k_is);(case k42=>k_is);(case a43=>k_is);(case l43=>k_is);(case c43=>k_is);(case k43=>k_is);(case a44=>k_is);(case l44=>k_is);(case c44=>k_is);(case k44=>k_is);(case a45=>k_is);(case l45=>k_is);(case c45=>k_is);(case k45=>k_is);(case a46=>k_is);(case l46=>k_is);(case c46=>k_is);(case k46=>k_is);(case a47=>k_is);(case l47=>k_is);(case c47=>k_is);(case k47=>k_is);(case a48=>k_is);(case l48=>k_is);(case c48=>k_is);(case k48=>k_is);(case a49=>k_is);(case l49=>k_is);(case c49=>k_is);(case k49=>k_is);(case a50=>k_is);(case l50=>k_is);(case c50=>k_is);(case k50=>k_is);(case a51=>k_is);(case l51=>k_is);(case c51=>k_is);(case k51=>k_is);(case pgMachine=>k_is);(case hdMachine=>k_is);(case poMachine=>k_is);(case saMachine=>k_is);(case mkMachine=>k_is);(case kcMachine=>k_is);(case nnMachinerows=>k_is);(case nnMachinerule=>k_is);(case nnMachineown=>k_is);(case nnMachineboxes=>k_is);(case nnMachineplace=>k_is);(case nnMachinedone=>k_is);(case nnMachinegiven=>k_is);(case nnMachinethere=>k_is);(case g1=>k_is);(case g2=>k_is);(case g3=>k_is);(case g4=>k_is);(case g5=>k_is);(case g6=>k_is);(case g7=>k_is);(case g8=>k_is);(case g9=>k_is);(case g10=>k_is);(case z1=>k_is);(case z2=>k_is);(case z3=>k_is);(case z4=>k_is);(case z5=>k_is);(case z6=>k_is);(case z7=>k_is);(case z8=>k_is);(case z9=>k_is);(case z10=>k_is);(case z11=>k_is);(case z12=>k_is);(case z13=>k_is);(case z14=>k_is);(case z15=>k_is)
  obtain⟨a,T⟩:=T
  have C:∃g,K14.Fx (L2.KOf KX) w mg g a:=by
   dsimp only [L2.KOf] at T⊢
   refine' K14.fx_mk T KX G (gB:= ?gB) (lB:= ?lB) (vB:= ?vB) (gA:= ?gA) (lA:= ?lA) (vA:= ?vA) (gF:= ?gF) (lF:= ?lF) (kF:= ?kF) (zF:= ?zF) (gM:= ?gM) (lM:= ?lM) (kM:= ?kM) (zM:= ?zM) (f1:= ?f1) (l1:= ?l1) (v1:= ?v1) (f2:= ?f2) (l2:= ?l2) (v2:= ?v2) (f3:= ?f3) (l3:= ?l3) (v3:= ?v3) (f4:= ?f4) (l4:= ?l4) (v4:= ?v4) (f5:= ?f5) (l5:= ?l5) (v5:= ?v5) (f6:= ?f6) (l6:= ?l6) (v6:= ?v6) (f7:= ?f7) (l7:= ?l7) (v7:= ?v7) (f8:= ?f8) (l8:= ?l8) (v8:= ?v8) (f9:= ?f9) (l9:= ?l9) (v9:= ?v9) (f10:= ?f10) (l10:= ?l10) (v10:= ?v10) (f11:= ?f11) (l11:= ?l11) (v11:= ?v11) (f12:= ?f12) (l12:= ?l12) (v12:= ?v12) (f13:= ?f13) (l13:= ?l13) (v13:= ?v13) (f14:= ?f14) (l14:= ?l14) (v14:= ?v14) (f15:= ?f15) (l15:= ?l15) (v15:= ?v15) (f16:= ?f16) (l16:= ?l16) (v16:= ?v16) (f17:= ?f17) (l17:= ?l17) (v17:= ?v17) (f18:= ?f18) (l18:= ?l18) (v18:= ?v18) (f19:= ?f19) (l19:= ?l19) (v19:= ?v19) (f20:= ?f20) (l20:= ?l20) (v20:= ?v20) (x_text:= ?x_text) (y_text:= ?y_text) (x_self:= ?x_self) (y_self:= ?y_self) (x_copy:= ?x_copy) (y_copy:= ?y_copy) (x_row:= ?x_row) (y_row:= ?y_row) (x_put:= ?x_put) (y_put:= ?y_put) (x_join:= ?x_join) (y_join:= ?y_join) (x_first:= ?x_first) (y_first:= ?y_first) (x_rest:= ?x_rest) (y_rest:= ?y_rest) (x_size:= ?x_size) (y_size:= ?y_size) (x_cut:= ?x_cut) (y_cut:= ?y_cut) (x_glue:= ?x_glue) (y_glue:= ?y_glue) (o_ask:= ?o_ask) (o_has:= ?o_has) (o_names:= ?o_names) (o_go:= ?o_go) (o_like:= ?o_like) (o_rowed:= ?o_rowed) (o_none:= ?o_none) (o_say:= ?o_say) (o_fault:= ?o_fault)
   (case gB=>k_is);(case lB=>k_is);(case vB=>rfl);(case gA=>k_is);(case lA=>k_is);(case vA=>rfl);(case gF=>k_is);(case lF=>k_is);(case kF=>(repeat (first|exact trivial|refine⟨⟨_,_,rfl,rfl⟩,?_⟩)));(case zF=>rfl);(case gM=>k_is);(case lM=>k_is);(case kM=>(repeat (first|exact trivial|refine⟨⟨_,_,rfl,rfl⟩,?_⟩)));(case zM=>rfl);(case f1=>k_is);(case l1=>k_is);(case v1=>rfl);(case f2=>k_is);(case l2=>k_is);(case v2=>rfl);(case f3=>k_is);(case l3=>k_is);(case v3=>rfl);(case f4=>k_is);(case l4=>k_is);(case v4=>rfl);(case f5=>k_is);(case l5=>k_is);(case v5=>rfl);(case f6=>k_is);(case l6=>k_is);(case v6=>rfl);(case f7=>k_is);(case l7=>k_is);(case v7=>rfl);(case f8=>k_is);(case l8=>k_is);(case v8=>rfl);(case f9=>k_is);(case l9=>k_is);(case v9=>rfl);(case f10=>k_is);(case l10=>k_is);(case v10=>rfl);(case f11=>k_is);(case l11=>k_is);(case v11=>rfl);(case f12=>k_is);(case l12=>k_is);(case v12=>rfl);(case f13=>k_is);(case l13=>k_is);(case v13=>rfl);(case f14=>k_is);(case l14=>k_is);(case v14=>rfl);(case f15=>k_is);(case l15=>k_is);(case v15=>rfl);(case f16=>k_is);(case l16=>k_is);(case v16=>rfl);(case f17=>k_is);(case l17=>k_is);(case v17=>rfl);(case f18=>k_is);(case l18=>k_is);(case v18=>rfl);(case f19=>k_is);(case l19=>k_is);(case v19=>rfl);(case f20=>k_is);(case l20=>k_is);(case v20=>rfl);(case x_text=>k_is);(case y_text=>k_is);(case x_self=>k_is);(case y_self=>k_is);(case x_copy=>k_is);(case y_copy=>k_is);(case x_row=>k_is);(case y_row=>k_is);(case x_put=>k_is);(case y_put=>k_is);(case x_join=>k_is);(case y_join=>k_is);(case x_first=>k_is);(case y_first=>k_is);(case x_rest=>k_is);(case y_rest=>k_is);(case x_size=>k_is);(case y_size=>k_is);(case x_cut=>k_is);(case y_cut=>k_is);(case x_glue=>k_is);(case y_glue=>k_is);(case o_ask=>k_is);(case o_has=>k_is);(case o_names=>k_is);(case o_go=>k_is);(case o_like=>k_is);(case o_rowed=>k_is);(case o_none=>k_is);(case o_say=>k_is);(case o_fault=>k_is)
  obtain⟨g,C⟩:=C
  have e0:=hmg.symm.trans T.m_law
  cases e0
  exact⟨_,T.e_law,(by obtain⟨_,_,_,_,_,_,_,_,_,e,_⟩:=T.F_law.ex;rw [e];rfl),fun base kb nb=>K14.ok_law T C⟩
 case S=>exact fun w H a ns hl hb hO hS=>⟨a,ns,rfl,hS,hl,hb,fun _=>rfl⟩
 case C=>exact fun _ _ _ _ z=>z
#print axioms PySem.Challenge.cw_askwright_k14_whole_asked_by_answers_alo_holds
