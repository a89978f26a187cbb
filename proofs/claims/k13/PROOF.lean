import PyProof.Rows.All
import Wide.All
import OpenK.AllK
import Wide.FinOn
import Lean
import PyProof.EqAt
import PyProof.EqKinds
import PyProof.TupleCall
import PySem.Str
import PyProof.ZipIter
import PyProof.Draws
import PyProof.StrLawsChain
import PyProof.StrLawsTight
import KE.KIntText
import OpenK.KTop
import PyProof.StationsW
import PyProof.ExcClass2
import PyProof.ExcBaseAll.ValueError
import PyProof.Rows.Catch
import OpenK.KOwn
import KE.KTryMore
import KE.FramesApart
import PyProof.RulesAs
import PyProof.NsDelKeeps
import PyProof.ExcArgs
import PyProof.Rows.SortStr
import KE.KDictSum
import PyProof.DictWalks
import PyProof.IsiH_list
import KE.KDictOf
import PyProof.NeKinds
import PyProof.StrCalls6
import PyProof.FString
import KE.KUnpack
import KE.KItemsList
import KE.KRevIter
import KE.IntBitsLaws
import PyProof.FString5
import PySem.Challenge.RW_askwright_k13_where_runs_must_end
def PySem.W.Fast.tw11523587836192295700 : Nat := 0
def PySem.W.Fast.tw735911177837730383 : Nat := 0
def PySem.W.Fast.tw6636142773769148854 : Nat := 0
def PySem.W.Fast.tw2823299661094780682 : Nat := 0
def PySem.W.Fast.tw2161565103951626598 : Nat := 0
def PySem.W.Fast.tw6247378731439671354 : Nat := 0
def PySem.W.Fast.tw10855276817339403290 : Nat := 0
def PySem.W.Fast.tw11486679401486983370 : Nat := 0
def PySem.W.Fast.tw1485141824449886260 : Nat := 0
def PySem.W.Fast.tw1389037625936252549 : Nat := 0
def PySem.W.Fast.tw3652250224595779785 : Nat := 0
def PySem.W.Fast.tw5824189169266912921 : Nat := 0
def PySem.W.Fast.tw2880867395615317002 : Nat := 0
def PySem.W.Fast.tw5863214081438527956 : Nat := 0
def PySem.W.Fast.tw14633501837568321538 : Nat := 0
def PySem.W.Fast.tw8689465206756457909 : Nat := 0
def PySem.W.Fast.tw8636057413197487133 : Nat := 0
def PySem.W.Fast.tw14595644730312372743 : Nat := 0
def PySem.W.Fast.tw12844383583191806239 : Nat := 0
def PySem.W.Fast.tw14419181459870678098 : Nat := 0
def PySem.W.Fast.tw5899867127353689530 : Nat := 0
def PySem.W.Fast.tw14453631552945853077 : Nat := 0
def PySem.W.Fast.tw11923942767500781266 : Nat := 0
def PySem.W.Fast.tw1492186906880947819 : Nat := 0
def PySem.W.Fast.tw15263920419657531197 : Nat := 0
def PySem.W.Fast.tw883219972212626812 : Nat := 0
def PySem.W.Fast.tw8589150488949677291 : Nat := 0
def PySem.W.Fast.tw1022914013358355287 : Nat := 0
def PySem.W.Fast.tw14477869901169198774 : Nat := 0
def PySem.W.Fast.tw4048552466829431222 : Nat := 0
def PySem.W.Fast.tw2402473156620258057 : Nat := 0
def PySem.W.Fast.tw14495406030426974528 : Nat := 0
def PySem.W.Fast.tw2470722922625917981 : Nat := 0
def PySem.W.Fast.tw18143888436372935338 : Nat := 0
def PySem.W.Fast.tw12143883123067883167 : Nat := 0
def PySem.W.Fast.tw7157055648662220789 : Nat := 0
def PySem.W.Fast.tw45689262286070044 : Nat := 0
def PySem.W.Fast.tw7075851013075956206 : Nat := 0
def PySem.W.Fast.tw13471328236883754535 : Nat := 0
def PySem.W.Fast.tw2324530119886522145 : Nat := 0
def PySem.W.Fast.tw15530818713660577454 : Nat := 0
def PySem.W.Fast.tw12611279413911200572 : Nat := 0
def PySem.W.Fast.tw15573916429734255173 : Nat := 0
def PySem.W.Fast.tw10975248274701332504 : Nat := 0
def PySem.W.Fast.tw12861106279582270952 : Nat := 0
def PySem.W.Fast.tw3465680076310016852 : Nat := 0
def PySem.W.Fast.tw9465392955495596409 : Nat := 0
def PySem.W.Fast.tw2648962946753108704 : Nat := 0
def PySem.W.Fast.tw11874797548292448661 : Nat := 0
def PySem.W.Fast.tw6957085859668292291 : Nat := 0
def PySem.W.Fast.tw2162530851280079614 : Nat := 0
def PySem.W.Fast.tw4004956530085857550 : Nat := 0
def PySem.W.Fast.tw13773350598420322649 : Nat := 0
def PySem.W.Fast.tw3924821780518699575 : Nat := 0
def PySem.W.Fast.tw8504236752196922148 : Nat := 0
def PySem.W.Fast.tw9464914981305627250 : Nat := 0
def PySem.W.Fast.tw13192335188102572297 : Nat := 0
def PySem.W.Fast.tw11356022916332375983 : Nat := 0
def PySem.W.Fast.tw7903649623129674662 : Nat := 0
def PySem.W.Fast.tw11783639330489193881 : Nat := 0
def PySem.W.Fast.tw10600991189075912019 : Nat := 0
def PySem.W.Fast.tw7851296301170492340 : Nat := 0
def PySem.W.Fast.tw1969798290031514071 : Nat := 0
def PySem.W.Fast.tw15814331848927952431 : Nat := 0
def PySem.W.Fast.tw16561314691984322768 : Nat := 0
def PySem.W.Fast.tw430506714237858283 : Nat := 0
def PySem.W.Fast.tw12752857387080695769 : Nat := 0
def PySem.W.Fast.tw12856071374466992167 : Nat := 0
def PySem.W.Fast.tw16422248607764326908 : Nat := 0
def PySem.W.Fast.tw12722353895254931301 : Nat := 0
def PySem.W.Fast.tw12722496826895504193 : Nat := 0
def PySem.W.Fast.tw17731241403854366511 : Nat := 0
def PySem.W.Fast.tw13217970691631282625 : Nat := 0
def PySem.W.Fast.tw3882742657522311825 : Nat := 0
def PySem.W.Fast.tw11909658720503288642 : Nat := 0
def PySem.W.Fast.tw8246281883378974475 : Nat := 0
def PySem.W.Fast.tw1147152879165079864 : Nat := 0
def PySem.W.Fast.tw1387283778937063971 : Nat := 0
def PySem.W.Fast.tw14408457922462807574 : Nat := 0
def PySem.W.Fast.tw15278560656816757488 : Nat := 0
def PySem.W.Fast.tw3714156743584982170 : Nat := 0
def PySem.W.Fast.tw10692986117333211763 : Nat := 0
def PySem.W.Fast.tw5073854149961310121 : Nat := 0
def PySem.W.Fast.tw13138617771783195658 : Nat := 0
def PySem.W.Fast.tw8526997860272885917 : Nat := 0
def PySem.W.Fast.tw16754764649102421202 : Nat := 0
def PySem.W.Fast.tw10091079478379769954 : Nat := 0
def PySem.W.Fast.tw18105715287342976179 : Nat := 0
def PySem.W.Fast.tw3286691147399035155 : Nat := 0
def PySem.W.Fast.tw3643431838812598365 : Nat := 0
def PySem.W.Fast.tw11153172445209502127 : Nat := 0
def PySem.W.Fast.tw11629124406826074157 : Nat := 0
def PySem.W.Fast.tw2946885478408284983 : Nat := 0
def PySem.W.Fast.tw4703500408993098482 : Nat := 0
def PySem.W.Fast.tw15689682025857905549 : Nat := 0
local macro_rules | `(tactic| trivial) => `(tactic| first | rfl | exact .inl rfl | exact .inr rfl | exact .inr (.inl rfl) | decide +kernel | (intro _; rfl))
set_option Elab.async false
set_option linter.all false
set_option maxRecDepth 100000
set_option maxHeartbeats 4000000
namespace L2
open PySem PySem.Spec PyProof.Rows
abbrev Key:=Sum Int Str
def keyIs:Key→Value→Bool
 | .inl k,v=>Value.isInt k v
 | .inr x,v=>Value.isStrOf x v
def keyH (w:World):Key→Int
 | .inl k=>hashInt k
 | .inr x=>hashStr w x
theorem QO:∀{k:Key}{v:Value},keyIs k v=true→(∃i t,k=Sum.inl i∧v=Value.int i t)∨(∃x t,k=Sum.inr x∧v=Value.str x t)
 | .inl i,v,h=>by
  obtain⟨t,e⟩:=Value.isInt_shape (k:=i) (v:=v) h
  exact .inl ⟨i,t,rfl,e⟩
 | .inr x,v,h=>by
  obtain⟨t,e⟩:=Value.isStrOf_shape (x:=x) (v:=v) h
  exact .inr ⟨x,t,rfl,e⟩
theorem keyIs_int (i:Int)(t:Tok):keyIs (.inl i) (.int i t)=true:=by simp [keyIs,Value.isInt]
theorem keyIs_str (x:Str)(t:Tok):keyIs (.inr x) (.str x t)=true:=by simp [keyIs,Value.isStrOf]
theorem key_ll (a b:Int):decide ((Sum.inl a:Key)=Sum.inl b)=(a==b):=by
 by_cases e:a=b
 ·subst e;simp
 ·have h:¬(Sum.inl a:Key)=Sum.inl b:=fun q=>e (Sum.inl.inj q)
  rw [decide_eq_false h]
  exact(beq_eq_false_iff_ne.mpr e).symm
theorem key_rr (a b:Str):decide ((Sum.inr a:Key)=Sum.inr b)=decide (a=b):=by
 by_cases e:a=b
 ·subst e;simp
 ·have h:¬(Sum.inr a:Key)=Sum.inr b:=fun q=>e (Sum.inr.inj q)
  rw [decide_eq_false h,decide_eq_false e]
theorem key_lr (a:Int)(b:Str):decide ((Sum.inl a:Key)=Sum.inr b)=false:=decide_eq_false (fun q=>nomatch q)
theorem key_rl (a:Str)(b:Int):decide ((Sum.inr a:Key)=Sum.inl b)=false:=decide_eq_false (fun q=>nomatch q)
def QC (prog:Program)(w:World):PySem.KeyKind prog w Key where
 is:=keyIs
 hash:=keyH w
 inj:=fun v a b ha hb=>by
  rcases QO ha with⟨i,t,rfl,rfl⟩|⟨x,t,rfl,rfl⟩
  ·rcases QO hb with⟨j,u,rfl,e⟩|⟨y,u,rfl,e⟩
   ·injection e with e1 _;rw [e1]
   ·exact nomatch e
  ·rcases QO hb with⟨j,u,rfl,e⟩|⟨y,u,rfl,e⟩
   ·exact nomatch e
   ·injection e with e1 _;rw [e1]
 byValue:=fun k v h=>by
  rcases QO h with⟨i,t,rfl,rfl⟩|⟨x,t,rfl,rfl⟩<;>rfl
 pyHash:=fun hv h=>by
  rcases QO hv with⟨i,t,rfl,rfl⟩|⟨x,t,rfl,rfl⟩
  ·exact wpAny_pyHash_int h
  ·exact wpAny_pyHash_str h
 eqBool:=fun hu hv h=>by
  rcases QO hu with⟨i,t,rfl,rfl⟩|⟨x,t,rfl,rfl⟩
  ·rcases QO hv with⟨j,u,rfl,rfl⟩|⟨y,u,rfl,rfl⟩
   ·rw [key_ll] at h;exact wpAny_eqBool_int h
   ·rw [key_lr] at h;exact SeqAt.EqAt.int_str i t y u _ _ _ _ h
  ·rcases QO hv with⟨j,u,rfl,rfl⟩|⟨y,u,rfl,rfl⟩
   ·rw [key_rl] at h;exact SeqAt.EqAt.str_int x t j u _ _ _ _ h
   ·rw [key_rr] at h;exact wpAny_eqBool_str h
 «strs»:=fun k x t v h=>by
  rcases QO h with⟨i,u,rfl,e⟩|⟨y,u,rfl,e⟩
  ·exact nomatch e
  ·injection e with e1 _
   subst e1
   cases v<;>rfl
theorem mixKind_int (prog:Program)(w:World)(i:Int)(t:Tok):(QC prog w).is (.inl i) (.int i t)=true:=keyIs_int i t
theorem Zd (prog:Program)(w:World)(x:Str)(t:Tok):(QC prog w).is (.inr x) (.str x t)=true:=keyIs_str x t
end L2
namespace L2
open PySem PySem.Spec PyProof.Rows
inductive V where
 |non|bl (b:Bool)|int (i:Int)|str (x:Str)|byt (b:Array UInt8)|flt (b:UInt64)|ref (a:Addr)|ty (n:String)
 deriving DecidableEq
def RelV:V→Value→Prop
 | .non,u=>u=Value.none
 | .bl b,u=>u=Value.bool b
 | .int i,u=>∃t,u=Value.int i t
 | .str x,u=>∃t,u=Value.str x t
 | .byt b,u=>∃t,u=Value.bytes b t
 | .flt b,u=>∃t,u=Value.float b t
 | .ref a,u=>u=Value.ref a
 | .ty n,u=>u=Value.type n
abbrev Vals:List V→List Value→Prop:=Paired RelV
theorem Vals.length {xs:List V}{us:List Value}(r:Vals xs us):xs.length=us.length:=Paired.length r
theorem Vals.get:∀{xs:List V}{us:List Value}{i:Nat}{x:V},Vals xs us→xs[i]? =some x→∃u,us[i]? =some u∧RelV x u
 |_,_,_,_,.nil,e=>by simp at e
 |_,_,0,_,.cons r _,e=>by simp at e;subst e;exact⟨_,rfl,r⟩
 |_,_,i+1,x,.cons _ t,e=>by
  obtain⟨u,h1,h2⟩:=Vals.get (i:=i) (x:=x) t (by simpa using e)
  exact⟨u,by simpa using h1,h2⟩
theorem Vals.set {x:V}{u:Value}(r:RelV x u):∀{xs:List V}{us:List Value} (i:Nat),Vals xs us→Vals (xs.set i x) (us.set i u)
 |_,_,_,.nil=> .nil
 |_,_,0,.cons _ t=> .cons r t
 |_,_,i+1,.cons q t=> .cons q (Vals.set r i t)
theorem Vals.append:∀{xs ys:List V}{us ws:List Value},Vals xs us→Vals ys ws→Vals (xs++ys) (us++ws)
 |_,_,_,_,.nil,s=>s
 |_,_,_,_,.cons r t,s=> .cons r (Vals.append t s)
theorem Vals.take:∀{xs:List V}{us:List Value} (n:Nat),Vals xs us→Vals (xs.take n) (us.take n)
 |_,_,0,_=> .nil
 |_,_,_+1,.nil=> .nil
 |_,_,n+1,.cons r t=> .cons r (Vals.take n t)
theorem Vals.drop:∀{xs:List V}{us:List Value} (n:Nat),Vals xs us→Vals (xs.drop n) (us.drop n)
 |_,_,0,r=>r
 |_,_,_+1,.nil=> .nil
 |_,_,n+1,.cons _ t=>Vals.drop n t
def RelO:Option V→Option Value→Prop
 |some v,some u=>RelV v u
 |none,none=>True
 |_,_=>False
def KV {κ:Type}:List (κ×V)→List (κ×Value)→Prop:=Paired fun(p:κ×V) (q:κ×Value)=>p.1=q.1∧RelV p.2 q.2
def kV:Key→V
 | .inl i=> .int i
 | .inr x=> .str x
inductive HO where
 |lst (xs:List V)
 |tup (xs:List V)
 |dK (kvs:List (Key×V))|dT (kvs:List (List Key×V))
 |set (S:Int→Bool) (n:Nat)
 |ins (C dx:Addr) (fs:List (Str×V))
 |own (x:Addr)
 |xd (fs:List (Str×V))
 |met (f x:Addr)
 |rng (lo hi:Int)
 |frz (o:Obj) (u:HO)
 |tbl (ps:Array Value)
 |ext (φ:Heap→Prop)
abbrev Hp:=Addr→Option HO
def upd (H:Hp)(a:Addr)(o:HO):Hp:=fun b=>if b=a then some o else H b
theorem qf {H:Hp}{a:Addr}{o:HO}:upd H a o a=some o:=by unfold upd;rw [if_pos rfl]
theorem qu {H:Hp}{a b:Addr}{o:HO}(h:b≠a):upd H a o b=H b:=by unfold upd;rw [if_neg h]
theorem ne_of {H:Hp}{a b:Addr}{o u:HO}(h:H a=some o)(h':H b=some u)(d:o≠u):a≠b:=by
 intro e;subst e;rw [h] at h';exact d (Option.some.inj h')
theorem qm {H:Hp}{a b:Addr}{o:HO}(h:H a=some o)(h':H b=none):a≠b:=by
 intro e;subst e;rw [h] at h';cases h'
section
variable (P:Program)(w:World)
def yL (H:Hp)(h:Heap)(a:Addr):HO→Prop
 | .lst xs=>xs.length≤sizeLine∧∃(its:List Value) (n:Nat),Vals xs its∧h.get? a=some {cls:= .type "list",data:= .seq its.toArray n}
 | .tup xs=>xs.length≤sizeLine∧∃its:List Value,Vals xs its∧IsTup h a its.toArray
 | .dK kvs=>kvs.length≤sizeLine∧(a==sysModules)=false∧∃vs,KV kvs vs∧h.DictOf (QC P w) a vs
 | .dT kvs=>kvs.length≤sizeLine∧(a==sysModules)=false∧∃xs:List (List Key×Addr×Value),
   Paired (fun(p:List Key×V) (q:List Key×Addr×Value)=>p.1=q.1∧H q.2.1=some (.tup (p.1.map kV))∧RelV p.2 q.2.2) kvs xs∧
   ∃o es ep,h.get? a=some o∧o.ExactDict∧o.data= .dict es ep∧es.toList=xs.map (entryOfKey (tupleKind (QC P w)))∧(xs.map (·.1)).Nodup
 | .set S n=>h.SetOf (intKind P w) a S n
 | .ins C dx fs=>H dx=some (.own a)∧fs.length≤1000∧dx≠a∧h.get? a=some (PySem.W.instObj C dx)∧
   ∃mA,h.Ns1 dx mA∧(∀f,RelO (fs.lookup f) (mA f))∧PySem.Within mA (fs.map (·.1))
 | .own _=>∃o,h.get? a=some o
 | .xd fs=>∃mA,h.Ns1 a mA∧∀f,RelO (fs.lookup f) (mA f)
 | .rng lo hi=>∃t u v,h.get? a=some {cls:= .type "range",data:= .fields #[.int lo t,.int hi u,.int 1 v]}
 | .frz o u=>h.get? a=some o∧yL H h a u
 | .tbl ps=>h.get? a=some {cls:= .none,data:= .fields ps}
 | .met f x=>h.get? a=some (PySem.W.methodObj (.ref f) (.ref x))
 | .ext φ=>φ h∧(∃o,h.get? a=some o)∧∀h1 h2:Heap,φ h1→(∀o,h1.get? a=some o→h2.get? a=some o)→φ h2
def HOk (H:Hp)(h:Heap):Prop:=∀a o,H a=some o→yL P w H h a o
end
section
variable {P:Program}{w:World}{H H':Hp}{h h':Heap}{a:Addr}{o:HO}
theorem yL.lt (x:yL P w H h a o):a<h.objs.size:=by
 cases o with
 |lst xs=>obtain⟨_,_,_,_,e⟩:=x;exact Heap.lt_size e
 |tup xs=>obtain⟨_,_,_,p⟩:=x;exact p.lt
 |dK kvs=>obtain⟨_,_,_,_,o,_,_,e,_⟩:=x;exact Heap.lt_size e
 |dT kvs=>obtain⟨_,_,_,_,o,_,_,e,_⟩:=x;exact Heap.lt_size e
 |set S n=>obtain⟨o,_,_,_,e,_⟩:=x;exact Heap.lt_size e
 |ins C dx fs=>obtain⟨_,_,_,e,_⟩:=x;exact Heap.lt_size e
 |own y=>obtain⟨_,e⟩:=x;exact Heap.lt_size e
 |xd fs=>obtain⟨_,⟨_,_,_,e,_⟩,_⟩:=x;exact Heap.lt_size e
 |rng lo hi=>obtain⟨_,_,_,e⟩:=x;exact Heap.lt_size e
 |frz ob u=>obtain⟨e,_⟩:=x;exact Heap.lt_size e
 |tbl ps=>exact Heap.lt_size (show h.get? a=some _ from x)
 |met f y=>exact Heap.lt_size (show h.get? a=some _ from x)
 |ext φ=>obtain⟨_,⟨_,e⟩,_⟩:=x;exact Heap.lt_size e
theorem Paired.mapP {α β:Type}{F G:α→β→Prop}:∀{l₁:List α}{l₂:List β},Paired F l₁ l₂→(∀a b,F a b→G a b)→Paired G l₁ l₂
 |_,_,.nil,_=> .nil
 |_,_,.cons r t,f=> .cons (f _ _ r) (Paired.mapP t f)
theorem yL.stay (x:yL P w H h a o)(k:∀b u,(b=a∨H b=some (.own a))→h.get? b=some u→h'.get? b=some u)
  (ho:∀b,H b=some (.own a)→H' b=some (.own a)) (ht:∀b xs,H b=some (.tup xs)→H' b=some (.tup xs)):yL P w H' h' a o:=by
 induction o with
 |lst xs=>obtain⟨z,its,n,r,e⟩:=x;exact⟨z,its,n,r,k _ _ (.inl rfl) e⟩
 |tup xs=>obtain⟨z,its,r,ob,e,c⟩:=x;exact⟨z,its,r,ob,k _ _ (.inl rfl) e,c⟩
 |dK kvs=>obtain⟨z,y,vs,r,ob,es,ep,e,c⟩:=x;exact⟨z,y,vs,r,ob,es,ep,k _ _ (.inl rfl) e,c⟩
 |dT kvs=>
  obtain⟨z,y,xs,r,ob,es,ep,e,c⟩:=x
  exact⟨z,y,xs,Paired.mapP r fun p q z=>⟨z.1,ht _ _ z.2.1,z.2.2⟩,ob,es,ep,k _ _ (.inl rfl) e,c⟩
 |set S n=>obtain⟨ob,es,ep,t,e,c⟩:=x;exact⟨ob,es,ep,t,k _ _ (.inl rfl) e,c⟩
 |ins C dx fs=>
  obtain⟨d,z,ne,e,mA,⟨od,es,ep,e2,c⟩,r⟩:=x
  exact⟨ho _ d,z,ne,k _ _ (.inl rfl) e,mA,⟨od,es,ep,k _ _ (.inr d) e2,c⟩,r⟩
 |own y=>obtain⟨ob,e⟩:=x;exact⟨ob,k _ _ (.inl rfl) e⟩
 |xd fs=>obtain⟨mA,⟨od,es,ep,e,c⟩,r⟩:=x;exact⟨mA,⟨od,es,ep,k _ _ (.inl rfl) e,c⟩,r⟩
 |rng lo hi=>obtain⟨t,u,v,e⟩:=x;exact⟨t,u,v,k _ _ (.inl rfl) e⟩
 |frz ob u ih=>obtain⟨e,q⟩:=x;exact⟨k _ _ (.inl rfl) e,ih q⟩
 |tbl ps=>
  have e:h.get? a=some {cls:= .none,data:= .fields ps}:=x
  show h'.get? a=some {cls:= .none,data:= .fields ps}
  exact k a _ (.inl rfl) e
 |met f y=>
  have e:h.get? a=some (PySem.W.methodObj (.ref f) (.ref y)):=x
  show h'.get? a=some (PySem.W.methodObj (.ref f) (.ref y))
  exact k a _ (.inl rfl) e
 |ext φ=>obtain⟨p,⟨o,e⟩,st⟩:=x;exact⟨st _ _ p fun o q=>k _ _ (.inl rfl) q,⟨o,k _ _ (.inl rfl) e⟩,st⟩
theorem HOk.lt (x:HOk P w H h)(e:H a=some o):a<h.objs.size:=(x a o e).lt
theorem HOk.fresh (x:HOk P w H h)(e:h.objs.size≤a):H a=none:=by
 cases q:H a with
 |none=>rfl
 |some u=>exact absurd (Nat.lt_of_lt_of_le (x.lt q) e) (Nat.lt_irrefl _)
theorem HOk.kept (x:HOk P w H h)(k:∀b u,h.get? b=some u→h'.get? b=some u):HOk P w H h':=fun a o e=>
 (x a o e).stay (fun b u _ q=>k b u q) (fun _ q=>q) fun _ _ q=>q
theorem HOk.laid (x:HOk P w H h)(k:∀b u,h.get? b=some u→h'.get? b=some u)(hp:h.objs.size≤a)(new:yL P w (upd H a o) h' a o):HOk P w (upd H a o) h':=fun b u e=>by
 have hn:=x.fresh hp
 by_cases hb:b=a
 ·subst hb;rw [qf] at e;cases e;exact new
 ·rw [qu hb] at e
  exact(x b u e).stay (fun c v _ q=>k c v q) (fun c q=>by rw [qu (qm q hn)];exact q) fun c xs q=>by rw [qu (qm q hn)];exact q
end
def Rd (H:Hp)(a:Addr)(u:HO):Prop:=H a=some u∨∃o,H a=some (.frz o u)
theorem Rd.of {H:Hp}{a:Addr}{u:HO}(h:H a=some u):Rd H a u:= .inl h
theorem Rd.ok {P:Program}{w:World}{H:Hp}{h:Heap}{a:Addr}{u:HO}(r:Rd H a u)(x:HOk P w H h):yL P w H h a u:=by
 rcases r with r|⟨o,r⟩
 ·exact x a u r
 ·obtain⟨_,q⟩:=x a _ r
  exact q
def Mut:Option HO→Prop
 |some (.lst _)=>True
 |some (.dK _)=>True
 |some (.dT _)=>True
 |some (.set _ _)=>True
 |some (.ins _ _ _)=>True
 |some (.ext _)=>True
 |_=>False
section
variable {P:Program}{w:World}{H:Hp}{h h':Heap}{x e:Addr}{o':HO}
theorem HOk.write (ok:HOk P w H h)(mu:Mut (H x))(he:e=x∨H e=some (.own x))(k:∀b u,b≠e→h.get? b=some u→h'.get? b=some u)(heo:∃u,h'.get? e=some u)
  (new:yL P w (upd H x o') h' x o'):HOk P w (upd H x o') h':=fun b u q=>by
 have nown:∀c y,H c=some (.own y)→c≠x:=fun c y r z=>by subst z;rw [r] at mu;exact mu
 have ntup:∀c xs,H c=some (.tup xs)→c≠x:=fun c xs r z=>by subst z;rw [r] at mu;exact mu
 by_cases hb:b=x
 ·subst hb;rw [qf] at q;cases q;exact new
 ·rw [qu hb] at q
  by_cases hbe:b=e
  ·have q':H b=some (.own x):=by
    rcases he with z|z
    ·exact absurd (hbe.trans z) hb
    ·rw [hbe];exact z
   rw [q] at q';cases q'
   obtain⟨v,hv⟩:=heo
   exact⟨v,by rw [hbe];exact hv⟩
  ·refine(ok b u q).stay (fun c v hc r=>k c v ?_ r) (fun c r=>by rw [qu (nown c b r)];exact r) fun c xs r=>by rw [qu (ntup c xs r)];exact r
   rcases hc with rfl|hc
   ·exact hbe
   ·rintro rfl
    rcases he with z|z
    ·exact nown c b hc z
    ·rw [hc] at z;cases z;exact hb rfl
end
structure Un (fs ex:List Addr)(H H':Hp)(h h':Heap):Prop where
 keep:∀b o,h.get? b=some o→H b=none→b∉fs→b∉ex→h'.get? b=some o
 slot:∀b o,h.get? b=some o→H b=none→b∈fs→b∉ex→∃sl,h'.get? b=some {o with slots:=sl}
 free:∀b o,h.get? b=some o→H b=none→b∉ex→H' b=none
 there:∀b o,h.get? b=some o→b∉ex→∃o',h'.get? b=some o'
 tups:∀b xs,H b=some (.tup xs)→H' b=some (.tup xs)
 frzs:∀b o u,H b=some (.frz o u)→H' b=some (.frz o u)
 tbls:∀b ps,H b=some (.tbl ps)→∃more,H' b=some (.tbl (ps++more))
section
variable {fs fs' ex ex':List Addr}{H H1 H2:Hp}{h h1 h2 h':Heap}{a x e:Addr}{o:HO}
theorem Un.any (u:Un fs ex H H1 h h1){b:Addr}{ob:Obj}(q:h.get? b=some ob)(n:H b=none)(hx:b∉ex):∃sl,h1.get? b=some {ob with slots:=sl}:=by
 by_cases hb:b∈fs
 ·exact u.slot b ob q n hb hx
 ·exact⟨ob.slots,u.keep b ob q n hb hx⟩
theorem Un.trans (a:Un fs ex H H1 h h1)(b:Un fs ex H1 H2 h1 h2):Un fs ex H H2 h h2 where
 keep:=fun c ob q n hc hx=>b.keep c ob (a.keep c ob q n hc hx) (a.free c ob q n hx) hc hx
 slot:=fun c ob q n hc hx=>by
  obtain⟨sl,e1⟩:=a.slot c ob q n hc hx
  obtain⟨sl',e2⟩:=b.slot c _ e1 (a.free c ob q n hx) hc hx
  exact⟨sl',e2⟩
 free:=fun c ob q n hx=>by
  obtain⟨o',e1⟩:=a.there c ob q hx
  exact b.free c o' e1 (a.free c ob q n hx) hx
 there:=fun c ob q hx=>by
  obtain⟨o',e1⟩:=a.there c ob q hx
  exact b.there c o' e1 hx
 tups:=fun c xs q=>b.tups c xs (a.tups c xs q)
 frzs:=fun c ob xs q=>b.frzs c ob xs (a.frzs c ob xs q)
 tbls:=fun c ps q=>by
  obtain⟨m1,e1⟩:=a.tbls c ps q
  obtain⟨m2,e2⟩:=b.tbls c _ e1
  exact⟨m1++m2,by rw [e2,Array.append_assoc]⟩
theorem Un.kept (k:∀b u,h.get? b=some u→h'.get? b=some u):Un fs ex H H h h':=
 ⟨fun b ob q _ _ _=>k b ob q,fun b ob q _ _ _=>⟨ob.slots,k b ob q⟩,fun _ _ _ n _=>n,fun b ob q _=>⟨ob,k b ob q⟩,fun _ _ q=>q,fun _ _ _ q=>q,fun _ ps q=>⟨#[],by rw [q];simp⟩⟩
theorem Un.refl:Un fs ex H H h h:=Un.kept fun _ _ q=>q
theorem Un.laid (k:∀b u,h.get? b=some u→h'.get? b=some u)(hp:h.objs.size≤a)(hn:H a=none):Un fs ex H (upd H a o) h h' where
 keep:=fun b u q _ _ _=>k b u q
 slot:=fun b u q _ _ _=>⟨u.slots,k b u q⟩
 free:=fun b u q n _=>by rw [qu (Nat.ne_of_lt (Nat.lt_of_lt_of_le (Heap.lt_size q) hp))];exact n
 there:=fun b u q _=>⟨u,k b u q⟩
 tups:=fun b xs q=>by rw [qu (qm q hn)];exact q
 frzs:=fun b u xs q=>by rw [qu (qm q hn)];exact q
 tbls:=fun b ps q=>⟨#[],by rw [qu (qm q hn),q];simp⟩
theorem Un.write (mu:Mut (H x))(he:e=x∨H e=some (.own x))(k:∀b u,b≠e→h.get? b=some u→h'.get? b=some u)(heo:∃u,h'.get? e=some u):Un fs ex H (upd H x o) h h':=by
 have hx:∀b,H b=none→b≠x:=fun b n z=>by subst z;rw [n] at mu;exact mu
 have hb:∀b,H b=none→b≠e:=fun b n z=>by
  subst z
  rcases he with r|r
  ·exact hx b n r
  ·rw [n] at r;cases r
 have hm:∀b u,H b=some u→¬Mut (some u)→b≠x:=fun b u q nm z=>by subst z;rw [q] at mu;exact nm mu
 refine⟨fun b u q n _ _=>k b u (hb b n) q,fun b u q n _ _=>⟨u.slots,k b u (hb b n) q⟩,fun b u q n _=>by rw [qu (hx b n)];exact n,fun b u q _=> ?_,
  fun b xs q=>by rw [qu (hm b _ q fun z=>z)];exact q,fun b u xs q=>by rw [qu (hm b _ q fun z=>z)];exact q,fun b ps q=>⟨#[],by rw [qu (hm b _ q fun z=>z),q];simp⟩⟩
 by_cases hbe:b=e
 ·subst hbe;exact heo
 ·exact⟨u,k b u hbe q⟩
end
def trk (h:Heap)(H:Hp):List Addr:=(List.range h.objs.size).filter fun a=>(H a).isSome
def hidT (h:Heap)(H:Hp):Heap:=PySem.W.hideAll h (trk h H)
theorem hidT_size (h:Heap)(H:Hp):(hidT h H).objs.size=h.objs.size:=PySem.W.hideAll_size _ _
theorem hidT_get {h:Heap}{H:Hp}{b:Addr}{o:Obj}(e:h.get? b=some o)(n:H b=none):(hidT h H).get? b=some o:=
 PySem.W.hideAll_get _ e fun hm=>by
  have q:(H b).isSome=true:=(List.mem_filter.mp hm).2
  rw [n] at q;simp at q
theorem of_hidT {h:Heap}{H:Hp}{b:Addr}{o:Obj}(e:(hidT h H).get? b=some o):h.get? b=some o∧H b=none:=by
 have e':h.get? b=some o:=PySem.W.of_hideAll (trk h H) e
 refine⟨e',?_⟩
 cases q:H b with
 |none=>rfl
 |some x=>
  have hm:b∈trk h H:=List.mem_filter.mpr ⟨List.mem_range.mpr (Heap.lt_size e'),by simp [q]⟩
  have z:(hidT h H).get? b=none:=PySem.W.hideAll_none (trk h H) hm
  rw [z] at e;cases e
end L2
namespace L2
open PySem PySem.Spec PyProof.Rows
structure Mod (K:PySem.W.Frag)(mg:Str→Option Value)(base:Heap):Prop where
 kin:K.In base
 glob:base.Ns mainGlobals mg
 blt:∃mb,base.Ns builtinsNs mb∧∀x:Str,x≠"__name__"→mb x=bootBuiltins x
 nolimit:base.NoLimit
structure Cx where
 prog:Program
 w:World
 K:PySem.W.Frag
 mg:Str→Option Value
 base:Heap
 A:Around
 N:List Str
 s₀:Shared
 H₀:Hp
 env:Env
 outer:List Env
 stack:List Env
 ex:List Addr
 fn:Str→Bool
 calm:Bool
 pn:List (Addr×Obj)
 xe:Value→Shared→Prop
def frs (l:List Env):List Addr:=l.filterMap (·.frame)
abbrev Cx.fs (X:Cx):List Addr:=frs X.outer
def Vis (sc:Scope)(x:Str):Prop:=sc.names.lookup x=some .local∨sc.names.lookup x=some .cell∨sc.names.lookup x=some .free
def Loc (sc:Scope)(x:Str):Prop:=sc.names.lookup x=some .local∨sc.names.lookup x=some .cell
def Look (env:Env)(h:Heap)(m:Str→Option Value)(x:Str)(u:Value):Prop:=
 (env.kindOf x=some .local∧m x=some u)∨((env.kindOf x=some .cell∨env.kindOf x=some .free)∧∃c,env.cells.lookup x=some c∧h.IsCell c (some u))
structure Cx.Ok (X:Cx):Prop where
 mod:Mod X.K X.mg X.base
 kind:X.env.scope.kind= .function
 glob:X.env.globals=mainGlobals
 blt:X.env.builtins=builtinsNs
 above:X.s₀.heap.objs.size≤X.env.locals
 inj:∀x y c,X.env.cells.lookup x=some c→X.env.cells.lookup y=some c→x=y
 has:∀x,(X.env.kindOf x=some .cell∨X.env.kindOf x=some .free)→∃c,X.env.cells.lookup x=some c
 cab:∀x c,X.fn x=true→X.env.cells.lookup x=some c→X.s₀.heap.objs.size≤c
 hd:X.calm=true→X.A.handled=none
 frames:X.A.frames=some X.stack
 stk:X.stack=X.outer∨(X.stack=X.env::X.outer∧X.env.frame=some X.env.locals)
 exf:∀b∈X.ex,b≠X.env.locals∧∀x c,X.env.cells.lookup x=some c→c≠b
 bs:∀b o,X.base.get? b=some o→X.s₀.heap.get? b=some o∧X.H₀ b=none
 bsz:X.base.objs.size≤X.s₀.heap.objs.size
 noex:∀b o,X.base.get? b=some o→b∉X.ex
 exfs:∀b∈X.ex,b∉X.fs
 funs:X.s₀.heap.FunFrames X.base X.outer
 frf:∀b∈X.fs,X.H₀ b=none
structure Inv (X:Cx)(pins:List (Addr×Obj))(σ:List (Option V))(H:Hp)(s:Shared):Prop where
 ok:X.Ok
 os:s.os=X.s₀.os
 bare:AllBare s.gens
 base:Un X.fs X.ex X.H₀ H X.s₀.heap s.heap
 loc:∃m,s.heap.Ns X.env.locals m∧∀(i:Nat) (x:Str) (v:V),X.N[i]? =some x→σ[i]? =some (some v)→Vis X.env.scope x→∃u,RelV v u∧Look X.env s.heap m x u
 cell:∀x c,X.env.cells.lookup x=some c→∃v,s.heap.IsCell c v
 free:H X.env.locals=none
 freeC:∀x c,X.env.cells.lookup x=some c→H c=none
 pin:∀p∈X.pn++pins,s.heap.get? p.1=some p.2∧H p.1=none∧p.1≠X.env.locals∧p.1∉X.fs∧∀v,p.2.data≠ .cell v
 hok:HOk X.prog X.w H s.heap
 len:σ.length=X.N.length
 tk:0<s.toks
section
variable {X:Cx}{pins:List (Addr×Obj)}{σ:List (Option V)}{H H':Hp}{s:Shared}{h':Heap}
theorem Cx.Ok.nofr (ok:X.Ok){b:Addr}{o:Obj}(e:X.base.get? b=some o):b∉X.fs:=fun hb=>by
 have:=(ok.funs.mem hb).1
 rw [e] at this;cases this
theorem Inv.bs (I:Inv X pins σ H s):∀b o,X.base.get? b=some o→s.heap.get? b=some o∧H b=none:=fun b o e=>
 ⟨I.base.keep b o (I.ok.bs b o e).1 (I.ok.bs b o e).2 (I.ok.nofr e) (I.ok.noex b o e),I.base.free b o (I.ok.bs b o e).1 (I.ok.bs b o e).2 (I.ok.noex b o e)⟩
theorem Inv.bk (I:Inv X pins σ H s):∀b o,X.base.get? b=some o→s.heap.get? b=some o:=fun b o e=>(I.bs b o e).1
theorem Inv.mod (I:Inv X pins σ H s):Mod X.K X.mg X.base:=I.ok.mod
theorem Inv.kIn (I:Inv X pins σ H s):X.K.In s.heap:=I.ok.mod.kin.keeps I.bk
theorem Inv.lt (I:Inv X pins σ H s):X.env.locals<s.heap.objs.size:=let⟨_,hn,_⟩:=I.loc;hn.lt
theorem Inv.sz (I:Inv X pins σ H s):X.s₀.heap.objs.size≤s.heap.objs.size:=Nat.le_trans I.ok.above (Nat.le_of_lt I.lt)
theorem Inv.nofs (I:Inv X pins σ H s){a:Addr}(h:s.heap.objs.size≤a):a∉X.fs:=fun hb=>by
 obtain⟨_,o,ho,_⟩:=I.ok.funs.mem hb
 exact absurd (Nat.lt_of_lt_of_le (Heap.lt_size ho) (Nat.le_trans I.sz h)) (Nat.lt_irrefl _)
theorem Inv.cne (I:Inv X pins σ H s):∀x c,X.env.cells.lookup x=some c→c≠X.env.locals:=fun x c e z=>by
 obtain⟨v,o,ho,hd⟩:=I.cell x c e
 obtain⟨m,⟨o',es,ep,ho',hd',_⟩,_⟩:=I.loc
 rw [z,ho'] at ho;cases ho;rw [hd'] at hd;cases hd
theorem Inv.funs (I:Inv X pins σ H s):s.heap.FunFrames X.base X.outer:=by
 have all:∀(l:List Env),(∀b∈frs l,b∈X.fs)→X.s₀.heap.FunFrames X.base l→s.heap.FunFrames X.base l:=by
  intro l
  induction l with
  |nil=>intro _ _;trivial
  |cons env r ih=>
   intro hs hl
   obtain⟨hk,⟨L,o,hf,hn,ho,hd⟩,hr⟩:=hl
   have hL:L∈X.fs:=hs L (by unfold frs;rw [List.filterMap_cons,hf];exact List.mem_cons_self)
   obtain⟨sl,e⟩:=I.base.slot L o ho (I.ok.frf L hL) hL fun z=>I.ok.exfs L z hL
   exact⟨hk,⟨L,_,hf,hn,e,hd⟩,ih (fun b hb=>hs b (by unfold frs;rw [List.filterMap_cons,hf];exact List.mem_cons_of_mem _ hb)) hr⟩
 exact all X.outer (fun _ hb=>hb) I.ok.funs
theorem Inv.stack (I:Inv X pins σ H s):s.heap.FunFrames X.base X.stack:=by
 rcases I.ok.stk with e|⟨e,hf⟩
 ·rw [e];exact I.funs
 ·rw [e]
  obtain⟨m,hn,_⟩:=I.loc
  refine .cons (by rw [I.ok.kind];decide) hf hn ?_ I.funs
  exact Heap.get?_none_of_le (Nat.le_trans I.ok.bsz I.ok.above)
theorem Inv.stkSub (I:Inv X pins σ H s):∀b∈frs X.stack,b∈X.env.locals::X.fs:=fun b hb=>by
 rcases I.ok.stk with e|⟨e,hf⟩
 ·rw [e] at hb;exact List.mem_cons_of_mem _ hb
 ·rw [e] at hb
  unfold frs at hb
  rw [List.filterMap_cons,hf] at hb
  exact hb
theorem Inv.stkFree (I:Inv X pins σ H s):∀b∈frs X.stack,H b=none:=fun b hb=>by
 rcases List.mem_cons.mp (I.stkSub b hb) with e|hb
 ·rw [e];exact I.free
 ·obtain⟨_,o,ho,_⟩:=I.ok.funs.mem hb
  exact I.base.free b o ho (I.ok.frf b hb) fun z=>I.ok.exfs b z hb
theorem Inv.step {g':Array GenState}{t':Nat}{d':Drawn}{ch:List Addr}(I:Inv X pins σ H s)
  (hch:∀b∈ch,(b∈X.ex∨X.s₀.heap.objs.size≤b)∧b≠X.env.locals∧(∀x c,X.env.cells.lookup x=some c→c≠b)∧∀p∈X.pn++pins,p.1≠b)
  (keep:∀b o,b≠X.env.locals→b∉X.fs→b∉ch→s.heap.get? b=some o→H b=none→h'.get? b=some o)
  (slot:∀b o,b≠X.env.locals→b∈X.fs→b∉ch→s.heap.get? b=some o→H b=none→∃sl,h'.get? b=some {o with slots:=sl}) (free:∀b o,b∉ch→s.heap.get? b=some o→H b=none→H' b=none)
  (there:∀b o,b∉ch→s.heap.get? b=some o→∃o',h'.get? b=some o')
  (tups:∀b xs,H b=some (.tup xs)→H' b=some (.tup xs)) (frzs:∀b o u,H b=some (.frz o u)→H' b=some (.frz o u)) (tbls:∀b ps,H b=some (.tbl ps)→∃more,H' b=some (.tbl (ps++more)))
  (ns:∀m,s.heap.Ns X.env.locals m→h'.Ns X.env.locals m) (hok:HOk X.prog X.w H' h') (hg:AllBare g') (ht:0<t':=by((try dsimp only);first|assumption|exact Inv.tk (by assumption)|exact Nat.succ_pos _|exact Nat.lt_of_lt_of_le (Inv.tk (by assumption)) (by assumption)|exact Nat.add_pos_left (Inv.tk (by assumption)) _|omega)):
  Inv X pins σ H' {s with heap:=h',gens:=g',drawn:=d',toks:=t'}:=by
 have neL:∀b o,X.s₀.heap.get? b=some o→b≠X.env.locals:=fun b o e=>Nat.ne_of_lt (Nat.lt_of_lt_of_le (Heap.lt_size e) I.ok.above)
 have neC:∀b o,X.s₀.heap.get? b=some o→b∉X.ex→b∉ch:=fun b o e hx hb=>by
  rcases(hch b hb).1 with z|z
  ·exact hx z
  ·exact absurd (Nat.lt_of_lt_of_le (Heap.lt_size e) z) (Nat.lt_irrefl _)
 have cellK:∀x c,X.env.cells.lookup x=some c→∀v,s.heap.IsCell c v→h'.IsCell c v:=fun x c e v ⟨o,ho,hd⟩=>by
  have nch:c∉ch:=fun z=>(hch c z).2.2.1 x c e rfl
  by_cases hc:c∈X.fs
  ·obtain⟨sl,q⟩:=slot c o (I.cne x c e) hc nch ho (I.freeC x c e)
   exact⟨_,q,hd⟩
  ·exact⟨o,keep c o (I.cne x c e) hc nch ho (I.freeC x c e),hd⟩
 refine⟨I.ok,I.os,hg,⟨fun b o e n hb hx=> ?_,fun b o e n hb hx=> ?_,fun b o e n hx=> ?_,fun b o e hx=> ?_,fun b xs e=>tups b xs (I.base.tups b xs e),fun b o xs e=>frzs b o xs (I.base.frzs b o xs e),fun b ps e=> ?_⟩,?_,fun x c e=> ?_,?_,fun x c e=> ?_,fun p hp=> ?_,hok,I.len,ht⟩
 ·exact keep b o (neL b o e) hb (neC b o e hx) (I.base.keep b o e n hb hx) (I.base.free b o e n hx)
 ·obtain⟨sl,e1⟩:=I.base.slot b o e n hb hx
  obtain⟨sl',e2⟩:=slot b _ (neL b o e) hb (neC b o e hx) e1 (I.base.free b o e n hx)
  exact⟨sl',e2⟩
 ·obtain⟨o',e1⟩:=I.base.there b o e hx
  exact free b o' (neC b o e hx) e1 (I.base.free b o e n hx)
 ·obtain⟨o',e1⟩:=I.base.there b o e hx
  exact there b o' (neC b o e hx) e1
 ·obtain⟨m1,e1⟩:=I.base.tbls b ps e
  obtain⟨m2,e2⟩:=tbls b _ e1
  exact⟨m1++m2,by rw [e2,Array.append_assoc]⟩
 ·obtain⟨m,hn,hl⟩:=I.loc
  refine⟨m,ns m hn,fun i x v e1 e2 e3=> ?_⟩
  obtain⟨u,r,l⟩:=hl i x v e1 e2 e3
  refine⟨u,r,?_⟩
  rcases l with l|⟨k,c,e,z⟩
  ·exact .inl l
  ·exact .inr ⟨k,c,e,cellK x c e _ z⟩
 ·obtain⟨v,z⟩:=I.cell x c e
  exact⟨v,cellK x c e v z⟩
 ·obtain⟨m,⟨o,_,_,ho,_⟩,_⟩:=I.loc
  exact free _ o (fun z=>(hch _ z).2.1 rfl) ho I.free
 ·obtain⟨v,o,ho,hd⟩:=I.cell x c e
  exact free c o (fun z=>(hch c z).2.2.1 x c e rfl) ho (I.freeC x c e)
 ·obtain⟨e,n,ne,nf,d⟩:=I.pin p hp
  have nch:p.1∉ch:=fun z=>(hch p.1 z).2.2.2 p hp rfl
  exact⟨keep p.1 p.2 ne nf nch e n,free p.1 p.2 nch e n,ne,nf,d⟩
theorem Inv.un {t':Nat}(I:Inv X pins σ H s)(u:Un X.fs [] H H' s.heap h')(hok:HOk X.prog X.w H' h')(ht:0<t':=by((try dsimp only);first|assumption|exact Inv.tk (by assumption)|exact Nat.succ_pos _|exact Nat.lt_of_lt_of_le (Inv.tk (by assumption)) (by assumption)|exact Nat.add_pos_left (Inv.tk (by assumption)) _|omega)):Inv X pins σ H' {s with heap:=h',toks:=t'}:=by
 obtain⟨m,⟨o,es,ep,ho,r⟩,_⟩:=id I.loc
 obtain⟨sl,hL⟩:=u.any ho I.free (by simp)
 exact I.step (g':=s.gens) (d':=s.drawn) (ch:= []) (fun _ z=>nomatch z) (fun b o _ hb _ e n=>u.keep b o e n hb (by simp)) (fun b o _ hb _ e n=>u.slot b o e n hb (by simp)) (fun b o _ e n=>u.free b o e n (by simp)) (fun b o _ e=>u.there b o e (by simp)) u.tups u.frzs u.tbls (fun m' hm=>by
  obtain⟨o',es',ep',ho',r'⟩:=hm
  rw [ho] at ho';cases ho'
  exact⟨_,es',ep',hL,r'⟩) hok I.bare
theorem Inv.call {g':Array GenState}{t':Nat}{d':Drawn}{ch:List Addr}(I:Inv X pins σ H s)(u:Un (frs X.stack) ch H H' s.heap h')(hok:HOk X.prog X.w H' h')(hg:AllBare g')
  (hch:∀b∈ch,(b∈X.ex∨X.s₀.heap.objs.size≤b)∧b≠X.env.locals∧(∀x c,X.env.cells.lookup x=some c→c≠b)∧∀p∈X.pn++pins,p.1≠b) (ht:0<t':=by((try dsimp only);first|assumption|exact Inv.tk (by assumption)|exact Nat.succ_pos _|exact Nat.lt_of_lt_of_le (Inv.tk (by assumption)) (by assumption)|exact Nat.add_pos_left (Inv.tk (by assumption)) _|omega)):
  Inv X pins σ H' {s with heap:=h',gens:=g',drawn:=d',toks:=t'}:=by
 obtain⟨m,⟨o,es,ep,ho,r⟩,_⟩:=id I.loc
 obtain⟨sl,hL⟩:=u.any ho I.free fun z=>(hch _ z).2.1 rfl
 exact I.step (ch:=ch) hch (fun b o hL hb hc e n=>u.keep b o e n (fun z=>(List.mem_cons.mp (I.stkSub b z)).elim hL hb) hc) (fun b o _ _ hc e n=>u.any e n hc) (fun b o hc e n=>u.free b o e n hc) (fun b o hc e=>u.there b o e hc) u.tups u.frzs u.tbls (fun m' hm=>by
  obtain⟨o',es',ep',ho',r'⟩:=hm
  rw [ho] at ho';cases ho'
  exact⟨_,es',ep',hL,r'⟩) hok hg
theorem Inv.turned {t':Nat}{it:Addr}(I:Inv X pins σ H s)(k:∀b o,b≠it→s.heap.get? b=some o→h'.get? b=some o)(hn:H it=none)(hL:it≠X.env.locals)
  (h1:it∈X.ex∨X.s₀.heap.objs.size≤it) (h2:∀x c,X.env.cells.lookup x=some c→c≠it) (h3:∀p∈X.pn++pins,p.1≠it) (ht:0<t':=by((try dsimp only);first|assumption|exact Inv.tk (by assumption)|exact Nat.succ_pos _|exact Nat.lt_of_lt_of_le (Inv.tk (by assumption)) (by assumption)|exact Nat.add_pos_left (Inv.tk (by assumption)) _|omega)):Inv X pins σ H {s with heap:=h',toks:=t'}:=by
 have nit:∀b u,H b=some u→b≠it:=fun b u e z=>by rw [z,hn] at e;cases e
 refine I.step (g':=s.gens) (d':=s.drawn) (ch:= [it]) (fun b hb=> ?_) (fun b o _ _ hc e _=>k b o (fun z=>hc (by simp [z])) e) (fun b o _ _ hc e _=>⟨o.slots,k b o (fun z=>hc (by simp [z])) e⟩) (fun _ _ _ _ n=>n)
  (fun b o hc e=>⟨o,k b o (fun z=>hc (by simp [z])) e⟩) (fun _ _ e=>e) (fun _ _ _ e=>e) (fun b ps e=>⟨#[],by rw [e];simp⟩) (fun m hm=> ?_) (fun b u e=> ?_) I.bare
 ·have e:b=it:=by simpa using hb
  subst e
  exact⟨h1,hL,h2,h3⟩
 ·obtain⟨o,es,ep,ho,r⟩:=hm
  exact⟨o,es,ep,k _ o (Ne.symm hL) ho,r⟩
 ·refine(I.hok b u e).stay (fun c v hc q=>k c v ?_ q) (fun _ q=>q) fun _ _ q=>q
  rcases hc with z|z
  ·rw [z];exact nit b u e
  ·exact nit c _ z
theorem Inv.tok (I:Inv X pins σ H s)(t:Nat)(ht:0<t:=by((try dsimp only);first|assumption|exact Inv.tk (by assumption)|exact Nat.succ_pos _|exact Nat.lt_of_lt_of_le (Inv.tk (by assumption)) (by assumption)|exact Nat.add_pos_left (Inv.tk (by assumption)) _|omega)):Inv X pins σ H {s with toks:=t}:=I.un (h':=s.heap) (t':=t) Un.refl I.hok
theorem Inv.kept {t':Nat}(I:Inv X pins σ H s)(k:∀b u,s.heap.get? b=some u→h'.get? b=some u)(ht:0<t':=by((try dsimp only);first|assumption|exact Inv.tk (by assumption)|exact Nat.succ_pos _|exact Nat.lt_of_lt_of_le (Inv.tk (by assumption)) (by assumption)|exact Nat.add_pos_left (Inv.tk (by assumption)) _|omega)):Inv X pins σ H {s with heap:=h',toks:=t'}:=I.un (Un.kept k) (I.hok.kept k)
theorem Inv.laid {a:Addr}{o:HO}{t':Nat}(I:Inv X pins σ H s)(k:∀b u,s.heap.get? b=some u→h'.get? b=some u)(hp:s.heap.objs.size≤a)(new:yL X.prog X.w (upd H a o) h' a o)(ht:0<t':=by((try dsimp only);first|assumption|exact Inv.tk (by assumption)|exact Nat.succ_pos _|exact Nat.lt_of_lt_of_le (Inv.tk (by assumption)) (by assumption)|exact Nat.add_pos_left (Inv.tk (by assumption)) _|omega)):
  Inv X pins σ (upd H a o) {s with heap:=h',toks:=t'}:=I.un (Un.laid k hp (I.hok.fresh hp)) (I.hok.laid k hp new)
theorem Inv.write {x e:Addr}{o:HO}{t':Nat}(I:Inv X pins σ H s)(mu:Mut (H x))(he:e=x∨H e=some (.own x))(k:∀b u,b≠e→s.heap.get? b=some u→h'.get? b=some u)(heo:∃u,h'.get? e=some u)
  (new:yL X.prog X.w (upd H x o) h' x o) (ht:0<t':=by((try dsimp only);first|assumption|exact Inv.tk (by assumption)|exact Nat.succ_pos _|exact Nat.lt_of_lt_of_le (Inv.tk (by assumption)) (by assumption)|exact Nat.add_pos_left (Inv.tk (by assumption)) _|omega)):Inv X pins σ (upd H x o) {s with heap:=h',toks:=t'}:=I.un (Un.write mu he k heo) (I.hok.write mu he k heo new)
theorem Inv.pins_of {pins':List (Addr×Obj)}(I:Inv X pins σ H s)(h:∀p∈pins',s.heap.get? p.1=some p.2∧H p.1=none∧p.1≠X.env.locals∧p.1∉X.fs∧∀v,p.2.data≠ .cell v):Inv X pins' σ H s:=
 ⟨I.ok,I.os,I.bare,I.base,I.loc,I.cell,I.free,I.freeC,fun p hp=>(List.mem_append.mp hp).elim (fun z=>I.pin p (List.mem_append_left _ z)) (h p),I.hok,I.len,I.tk⟩
theorem nodup_ix {N:List Str}(hN:N.Nodup){i j:Nat}{x:Str}(a:N[i]? =some x)(b:N[j]? =some x):i=j:=by
 obtain⟨h1,e1⟩:=List.getElem?_eq_some_iff.mp a
 obtain⟨h2,e2⟩:=List.getElem?_eq_some_iff.mp b
 exact(List.getElem_inj hN).mp (e1.trans e2.symm)
theorem store_ok2 {M:Model}{A:Around}{E:Value→Shared→Prop}{i:Nat}{x:Str}{v:V}{u:Value}{Q:Unit→Shared→Prop}(I:Inv X pins σ H s)(hN:X.N.Nodup)(hi:X.N[i]? =some x)(hx:Loc X.env.scope x)(r:RelV v u)
  (h:∀s',Inv X pins (σ.set i (some v)) H s'→(∃a,Heap.SameBut a s.heap s'.heap∧(a=X.env.locals∨X.env.cells.lookup x=some a))→Q () s') (hf:X.fn x=true∨X.env.scope.names.lookup x=some .local:=by first|exact .inl rfl|exact .inr rfl|assumption):wpAny M A (storeName X.env x u) Q E s:=by
 obtain⟨m,hn,hl⟩:=id I.loc
 have hcls:(X.env.scope.kind== .class||(X.env.scope.kind== .module&&X.env.locals !=X.env.globals))=false:=by rw [I.ok.kind];rfl
 have hiσ:i<σ.length:=by rw [I.len];exact(List.getElem?_eq_some_iff.mp hi).1
 have cne:=I.cne
 have tracked:∀{a:Addr}{h':Heap},(∃o,s.heap.get? a=some o∧H a=none)→Heap.SameBut a s.heap h'→HOk X.prog X.w H h':=fun{a h'} ha hs b ob e=>by
  obtain⟨_,_,hfree⟩:=ha
  refine(I.hok b ob e).stay (fun c w' hc q=>(hs.2 c ?_).trans q) (fun _ q=>q) fun _ _ q=>q
  rintro rfl
  rcases hc with rfl|hc
  ·rw [hfree] at e;cases e
  ·rw [hfree] at hc;cases hc
 rcases hx with hk|hk
 ·refine wpAny_storeName_local hk hn (fun h' hn' hs=> ?_) hcls
  obtain⟨oL,_,_,hoL,_⟩:=id hn
  refine h _ ⟨I.ok,I.os,I.bare,⟨fun b o e n hb hx=> ?_,fun b o e n hb hx=> ?_,I.base.free,fun b o e hx=> ?_,I.base.tups,I.base.frzs,I.base.tbls⟩,⟨_,hn',fun j y v' e1 e2 e3=> ?_⟩,fun y c e=> ?_,I.free,I.freeC,fun p hp=> ?_,tracked ⟨oL,hoL,I.free⟩ hs,by simpa using I.len,by first|exact I.tk|exact Nat.succ_pos _⟩ ⟨_,hs,.inl rfl⟩
  ·exact(hs.2 b (Nat.ne_of_lt (Nat.lt_of_lt_of_le (Heap.lt_size e) I.ok.above))).trans (I.base.keep b o e n hb hx)
  ·obtain⟨sl,e1⟩:=I.base.slot b o e n hb hx
   exact⟨sl,(hs.2 b (Nat.ne_of_lt (Nat.lt_of_lt_of_le (Heap.lt_size e) I.ok.above))).trans e1⟩
  ·obtain⟨o',e1⟩:=I.base.there b o e hx
   exact⟨o',(hs.2 b (Nat.ne_of_lt (Nat.lt_of_lt_of_le (Heap.lt_size e) I.ok.above))).trans e1⟩
  ·by_cases hj:j=i
   ·subst hj
    rw [hi] at e1;cases e1
    rw [List.getElem?_set_self hiσ] at e2
    cases e2
    exact⟨u,r,.inl ⟨hk,by simp⟩⟩
   ·rw [List.getElem?_set_ne (Ne.symm hj)] at e2
    obtain⟨u',r',q⟩:=hl j y v' e1 e2 e3
    refine⟨u',r',?_⟩
    rcases q with⟨k,e⟩|⟨k,c,e,z⟩
    ·refine .inl ⟨k,?_⟩
     have:y≠x:=fun e=>hj (nodup_ix hN e1 (e▸hi))
     simp [this,e]
    ·exact .inr ⟨k,c,e,z.sameBut hs (cne y c e)⟩
  ·obtain⟨w',z⟩:=I.cell y c e
   exact⟨w',z.sameBut hs (cne y c e)⟩
  ·obtain⟨e,n,ne,nf,d⟩:=I.pin p hp
   exact⟨(hs.2 p.1 ne).trans e,n,ne,nf,d⟩
 ·have hfn:X.fn x=true:=by
   rcases hf with z|z
   ·exact z
   ·rw [z] at hk;cases hk
  obtain⟨c,hc⟩:=I.ok.has x (.inl hk)
  obtain⟨w',z⟩:=I.cell x c hc
  refine wpAny_storeName_cell I.ok.kind hk hc z (fun h' hc' hs=> ?_)
  obtain⟨oc,hoc,hocd⟩:=id z
  refine h {s with heap:=h'} ⟨I.ok,I.os,I.bare,⟨fun b o e n hb hx=> ?_,fun b o e n hb hx=> ?_,I.base.free,fun b o e hx=> ?_,I.base.tups,I.base.frzs,I.base.tbls⟩,⟨m,hn.sameBut hs (Ne.symm (cne x c hc)),fun j y v' e1 e2 e3=> ?_⟩,fun y c' e=> ?_,I.free,I.freeC,fun p hp=> ?_,tracked ⟨oc,hoc,I.freeC x c hc⟩ hs,by simpa using I.len,by first|exact I.tk|exact Nat.succ_pos _⟩ ⟨c,hs,.inr hc⟩
  ·exact(hs.2 b (Nat.ne_of_lt (Nat.lt_of_lt_of_le (Heap.lt_size e) (I.ok.cab x c hfn hc)))).trans (I.base.keep b o e n hb hx)
  ·obtain⟨sl,e1⟩:=I.base.slot b o e n hb hx
   exact⟨sl,(hs.2 b (Nat.ne_of_lt (Nat.lt_of_lt_of_le (Heap.lt_size e) (I.ok.cab x c hfn hc)))).trans e1⟩
  ·obtain⟨o',e1⟩:=I.base.there b o e hx
   exact⟨o',(hs.2 b (Nat.ne_of_lt (Nat.lt_of_lt_of_le (Heap.lt_size e) (I.ok.cab x c hfn hc)))).trans e1⟩
  ·by_cases hj:j=i
   ·subst hj
    rw [hi] at e1;cases e1
    rw [List.getElem?_set_self hiσ] at e2
    cases e2
    exact⟨u,r,.inr ⟨.inl hk,c,hc,hc'⟩⟩
   ·rw [List.getElem?_set_ne (Ne.symm hj)] at e2
    obtain⟨u',r',q⟩:=hl j y v' e1 e2 e3
    refine⟨u',r',?_⟩
    rcases q with q|⟨k,c',e,z'⟩
    ·exact .inl q
    ·refine .inr ⟨k,c',e,z'.sameBut hs ?_⟩
     rintro rfl
     exact hj (nodup_ix hN e1 (I.ok.inj _ _ _ e hc▸hi))
  ·by_cases hcc:c'=c
   ·subst hcc;exact⟨_,hc'⟩
   ·obtain⟨w2,z2⟩:=I.cell y c' e
    exact⟨w2,z2.sameBut hs hcc⟩
  ·obtain⟨e,n,ne,nf,d⟩:=I.pin p hp
   refine⟨(hs.2 p.1 ?_).trans e,n,ne,nf,d⟩
   intro q
   rw [q,hoc] at e
   have q':oc=p.2:=Option.some.inj e
   exact d w' (by rw [←q'];exact hocd)
theorem wD {M:Model}{A:Around}{E:Value→Shared→Prop}{i:Nat}{x:Str}{v:V}{u:Value}{Q:Unit→Shared→Prop}(I:Inv X pins σ H s)(hN:X.N.Nodup)(hi:X.N[i]? =some x)(hx:Loc X.env.scope x)(r:RelV v u)
  (h:∀s',Inv X pins (σ.set i (some v)) H s'→Q () s') (hf:X.fn x=true∨X.env.scope.names.lookup x=some .local:=by first|exact .inl rfl|exact .inr rfl|assumption):wpAny M A (storeName X.env x u) Q E s:=
 store_ok2 I hN hi hx r (fun s' I' _=>h s' I') hf
theorem Inv.call' {s':Shared}{ch:List Addr}(I:Inv X pins σ H s)(ho:s'.os=s.os)(u:Un (frs X.stack) ch H H' s.heap s'.heap)(hok:HOk X.prog X.w H' s'.heap)(hg:AllBare s'.gens)
  (hch:∀b∈ch,(b∈X.ex∨X.s₀.heap.objs.size≤b)∧b≠X.env.locals∧(∀x c,X.env.cells.lookup x=some c→c≠b)∧∀p∈X.pn++pins,p.1≠b) (ht:0<s'.toks:=by((try dsimp only);first|assumption|exact Inv.tk (by assumption)|exact Nat.succ_pos _|exact Nat.lt_of_lt_of_le (Inv.tk (by assumption)) (by assumption)|exact Nat.add_pos_left (Inv.tk (by assumption)) _|omega)):Inv X pins σ H' s':=by
 obtain⟨h',g',d',t',o'⟩:=s'
 have e:o'=s.os:=ho
 subst e
 exact I.call (g':=g') (t':=t') (d':=d') u hok hg hch
end
abbrev XK:=Value→Option Addr→Hp→Prop
abbrev St:=List (Option V)
abbrev VK:=V→Hp→Prop
abbrev TE:=St→Hp→VK→Prop
abbrev TT:=St→Hp→(Bool→Hp→Prop)→Prop
abbrev TA:=St→Hp→(List V→Hp→Prop)→Prop
structure Ends where
 nx:St→Hp→Prop
 rt:VK
 bk:St→Hp→Prop:=fun _ _=>False
 ct:St→Hp→Prop:=fun _ _=>False
abbrev TS:=Ends→St→Hp→Prop
def EP (X:Cx)(pins:List (Addr×Obj))(σ:St)(Q:VK)(u:Value)(s':Shared):Prop:=∃v H',Inv X pins σ H' s'∧RelV v u∧Q v H'
def TP (X:Cx)(pins:List (Addr×Obj))(σ:St)(Q:Bool→Hp→Prop)(b:Bool)(s':Shared):Prop:=∃H',Inv X pins σ H' s'∧Q b H'
def AP (X:Cx)(pins:List (Addr×Obj))(σ:St)(Q:List V→Hp→Prop)(us:List Value)(s':Shared):Prop:=∃vs H',Inv X pins σ H' s'∧Vals vs us∧Q vs H'
def SP (X:Cx)(pins:List (Addr×Obj))(D:Ends)(f:Flow)(s':Shared):Prop:=
 match f with
 | .next=>∃σ' H',Inv X pins σ' H' s'∧D.nx σ' H'
 | .brk=>∃σ' H',Inv X pins σ' H' s'∧D.bk σ' H'
 | .cont=>∃σ' H',Inv X pins σ' H' s'∧D.ct σ' H'
 | .ret u=>∃v σ' H',Inv X pins σ' H' s'∧RelV v u∧D.rt v H'
def PE (X:Cx)(e:Expr)(t:TE):Prop:=
 ∀(pins:List (Addr×Obj)) (s:Shared) (σ:St) (H:Hp) (Q:VK),Inv X pins σ H s→t σ H Q→wpAny (model X.prog X.w) X.A (eval e X.env) (EP X pins σ Q) X.xe s
def PT (X:Cx)(e:Expr)(t:TT):Prop:=
 ∀(pins:List (Addr×Obj)) (s:Shared) (σ:St) (H:Hp) (Q:Bool→Hp→Prop),Inv X pins σ H s→t σ H Q→wpAny (model X.prog X.w) X.A (isTrue e X.env (eval e X.env)) (TP X pins σ Q) X.xe s
def PW (X:Cx)(e:Expr)(t:TT):Prop:=
 ∀(whole:Sem Value) (pins:List (Addr×Obj)) (s:Shared) (σ:St) (H:Hp) (Q:Bool→Hp→Prop),Inv X pins σ H s→t σ H Q→wpAny (model X.prog X.w) X.A (isTrue e X.env whole) (TP X pins σ Q) X.xe s
theorem PW.pt {X:Cx}{e:Expr}{t:TT}(h:PW X e t):PT X e t:=h _
def PA (X:Cx)(es:List Expr)(t:TA):Prop:=
 ∀(pos:Pos) (pins:List (Addr×Obj)) (s:Shared) (σ:St) (H:Hp) (Q:List V→Hp→Prop),Inv X pins σ H s→t σ H Q→wpAny (model X.prog X.w) X.A (spliced (backTo pos (starEach es X.env))) (AP X pins σ Q) X.xe s
def PS (X:Cx)(st:Stmt)(t:TS):Prop:=
 ∀(pins:List (Addr×Obj)) (s:Shared) (σ:St) (H:Hp) (D:Ends),Inv X pins σ H s→t D σ H→wpAny (model X.prog X.w) X.A (exec st X.env) (SP X pins D) X.xe s
def PSs (X:Cx)(st:List Stmt)(t:TS):Prop:=
 ∀(pins:List (Addr×Obj)) (s:Shared) (σ:St) (H:Hp) (D:Ends),Inv X pins σ H s→t D σ H→wpAny (model X.prog X.w) X.A (execs st X.env) (SP X pins D) X.xe s
theorem thn {α:Type}{t:Sem α}{Q Q':α→Shared→Prop}{M:Model}{A:Around}{E:Value→Shared→Prop}{s:Shared}(h:wpAny M A t Q E s)(hQ:∀a s,Q a s→Q' a s):wpAny M A t Q' E s:=wpAny_mono h hQ fun _ _ x=>x
end L2
namespace L2
open PySem PySem.Spec PyProof.Rows
section
variable {X:Cx}
theorem bin {a b:Expr}{ta tb:TE}(ha:PE X a ta)(hb:PE X b tb){pins:List (Addr×Obj)}{s:Shared}{σ:St}{H:Hp}{R:V→V→Hp→Prop}(I:Inv X pins σ H s)(h:ta σ H fun x H1=>tb σ H1 fun y H2=>R x y H2)
  {α:Type}{Q:α→Shared→Prop}{f:Value→Value→Sem α}
  (hf:∀v u s2 x y H2,Inv X pins σ H2 s2→RelV x v→RelV y u→R x y H2→wpAny (model X.prog X.w) X.A (f v u) Q X.xe s2):
  wpAny (model X.prog X.w) X.A (eval a X.env) (fun v s₁=>wpAny (model X.prog X.w) X.A (eval b X.env) (fun u s₂=>wpAny (model X.prog X.w) X.A (f v u) Q X.xe s₂) X.xe s₁) X.xe s:=by
 refine thn (ha pins s σ H _ I h) fun v s1 ⟨x,H1,I1,r1,q1⟩=> ?_
 refine thn (hb pins s1 σ H1 _ I1 q1) fun u s2 ⟨y,H2,I2,r2,q2⟩=> ?_
 exact hf v u s2 x y H2 I2 r1 r2 q2
def tVar (i:Nat):TE:=fun σ H Q=>∃v,σ[i]? =some (some v)∧Q v H
def tC (v:V):TE:=fun _ H Q=>Q v H
theorem pe_var {i:Nat}{x:Str}{pos:Pos}(hN:X.N[i]? =some x)(hv:Vis X.env.scope x)(hd:(x==("__debug__":Str))=false:=by decide)(hcd:(x==("__classdict__":Str))=false:=by decide):PE X (.Name x pos) (tVar i):=by
 intro pins s σ H Q I h
 obtain⟨v,e,h⟩:=h
 obtain⟨m,hn,hl⟩:=I.loc
 obtain⟨u,r,l⟩:=hl i x v hN e hv
 have fin:EP X pins σ Q u s:=⟨v,H,I,r,h⟩
 rcases l with⟨hk,hm⟩|⟨hk,c,hc,hcell⟩
 ·exact wpAny_Name (wpAny_loadName_local I.ok.kind hk hn hm fin) hd
 ·rcases hk with hk|hk
  ·exact wpAny_Name (wpAny_loadName_cell I.ok.kind hk hc hcell fin) hd
  ·exact wpAny_Name (wpAny_loadName_free I.ok.kind hk hc hcell fin hcd) hd
theorem qi {i j pos}:PE X (.Constant (.int i) j pos) (tC (.int i)):=fun _ _ _ H _ I h=>wpAny_Constant_int ⟨.int i,H,I.tok _,⟨_,rfl⟩,h⟩
theorem Jv {b j pos}:PE X (.Constant (.bool b) j pos) (tC (.bl b)):=fun _ _ _ H _ I h=>Constant_bool ⟨.bl b,H,I,rfl,h⟩
theorem Qn {j pos}:PE X (.Constant .none j pos) (tC .non):=fun _ _ _ H _ I h=>Constant_none ⟨.non,H,I,rfl,h⟩
theorem qh {x j pos}:PE X (.Constant (.str x) j pos) (tC (.str x)):=fun _ _ _ H _ I h=>Calls.Constant_str ⟨.str x,H,I.tok _,⟨_,rfl⟩,h⟩
def Gl (X:Cx)(x:Str):Prop:=X.env.kindOf x=some .globalImplicit
theorem ld_glob {E:Value→Shared→Prop}{pins:List (Addr×Obj)}{s:Shared}{σ:St}{H:Hp}{x:Str}{u:Value}{pos:Pos}{Q:Value→Shared→Prop}(I:Inv X pins σ H s)(hg:Gl X x)(hm:X.mg x=some u)(h:Q u s)
  (hd:(x==("__debug__":Str))=false:=by decide):wpAny (model X.prog X.w) X.A (eval (.Name x pos) X.env) Q E s:=
 Calls.Name_function_global I.ok.kind hg (Calls.loadGlobal_global (by rw [I.ok.glob];exact I.mod.glob.keeps I.bk) hm h) hd
theorem ZZ {E:Value→Shared→Prop}{pins:List (Addr×Obj)}{s:Shared}{σ:St}{H:Hp}{x:Str}{u:Value}{pos:Pos}{Q:Value→Shared→Prop}(I:Inv X pins σ H s)(hg:Gl X x)(hm:X.mg x=none)(hv:bootBuiltins x=some u)(h:Q u s)
  (hn:x≠"__name__":=by decide) (hd:(x==("__debug__":Str))=false:=by decide):wpAny (model X.prog X.w) X.A (eval (.Name x pos) X.env) Q E s:=by
 obtain⟨mb,h1,h2⟩:=I.mod.blt
 exact Calls.Name_function_global I.ok.kind hg (Calls.loadGlobal_builtin (by rw [I.ok.glob];exact I.mod.glob.keeps I.bk) hm (by rw [I.ok.blt];exact h1.keeps I.bk) ((h2 x hn).trans hv) h) hd
theorem pe_glob {x:Str}{v:V}{u:Value}{pos:Pos}(hg:Gl X x)(hm:X.mg x=some u)(r:RelV v u)(hd:(x==("__debug__":Str))=false:=by decide):PE X (.Name x pos) (tC v):=
 fun _ _ _ H _ I h=>ld_glob I hg hm ⟨v,H,I,r,h⟩ hd
theorem qV {x:Str}{v:V}{u:Value}{pos:Pos}(hg:Gl X x)(hm:X.mg x=none)(hv:bootBuiltins x=some u)(r:RelV v u)(hn:x≠"__name__":=by decide)(hd:(x==("__debug__":Str))=false:=by decide):PE X (.Name x pos) (tC v):=
 fun _ _ _ H _ I h=>ZZ I hg hm hv ⟨v,H,I,r,h⟩ hn hd
variable {a b:Expr}{ta tb:TE}{pos:Pos}
def PC (X:Cx)(op:CmpOp)(a b:Expr)(t:TE):Prop:=
 ∀(pins:List (Addr×Obj)) (s:Shared) (σ:St) (H:Hp) (Q:VK),Inv X pins σ H s→t σ H Q→
  wpAny (model X.prog X.w) X.A (eval a X.env) (fun v s₁=>wpAny (model X.prog X.w) X.A (eval b X.env) (fun u s₂=>wpAny (model X.prog X.w) X.A (compareOp op v u) (EP X pins σ Q) X.xe s₂) X.xe s₁) X.xe s
def tB (t:TE):TT:=fun σ H Q=>t σ H fun x H1=>∃c,x= .bl c∧Q c H1
theorem pt_cmp {op:CmpOp}{t:TE}(h:PC X op a b t)(h1:behindInMarks op b=false:=by first|exact nobehind _ (by decide) (by decide)|rfl):PT X (.Compare a [op] [b] pos) (tB t):=by
 intro pins s σ H Q I hw
 refine wpAny_isTrue_Compare1 (thn (h pins s σ H _ I hw) fun v s1 h1=>thn h1 fun u s2 h2=>thn h2 fun c s3 ⟨x,H1,I1,r1,q1⟩=> ?_) h1
 obtain⟨d,rfl,q⟩:=q1
 cases r1
 exact wpAny_truthy_bool ⟨H1,I1,q⟩
theorem qT {e:Expr}{t:TE}(h:PE X e t)(he:∀whole,isTrue e X.env whole=(do let v←whole;standAt e.pos;holding [v] (truthy v)):=by intro _;rfl):PT X e (tB t):=by
 intro pins s σ H Q I hw
 refine isTrue_plain (thn (h pins s σ H _ I hw) fun v s1 ⟨x,H1,I1,r1,q1⟩=> ?_) (he _)
 obtain⟨d,rfl,q⟩:=q1
 cases r1
 exact wpAny_truthy_bool ⟨H1,I1,q⟩
variable {tA tB':TT}{rest:List Expr}
def tAnd (t u:TT):TT:=fun σ H Q=>t σ H fun c H1=>if c=true then u σ H1 Q else Q false H1
def tOr (t u:TT):TT:=fun σ H Q=>t σ H fun c H1=>if c=true then Q true H1 else u σ H1 Q
def tNot (t:TT):TT:=fun σ H Q=>t σ H fun c H1=>Q (!c) H1
theorem Jy (ha:PT X a tA):PW X (.BoolOp .And [a] pos) tA:=by
 intro wh pins s σ H Q I h
 refine isTrue_and (thn (ha pins s σ H Q I h) fun c s1 e=> ?_)
 cases c with
 |true=>exact isTrue_and_nil e
 |false=>exact e
theorem jf (ha:PT X a tA):PW X (.BoolOp .Or [a] pos) tA:=by
 intro wh pins s σ H Q I h
 refine isTrue_or (thn (ha pins s σ H Q I h) fun c s1 e=> ?_)
 cases c with
 |false=>exact isTrue_or_nil e
 |true=>exact e
theorem xL (ha:PT X a tA)(hb:PW X (.BoolOp .And (b::rest) pos) tB'):PW X (.BoolOp .And (a::b::rest) pos) (tAnd tA tB'):=by
 intro wh pins s σ H Q I h
 refine isTrue_and (thn (ha pins s σ H _ I h) fun c s1 ⟨H1,I1,q1⟩=> ?_)
 cases c with
 |true=>exact hb wh pins s1 σ H1 Q I1 q1
 |false=>exact⟨H1,I1,q1⟩
theorem Jd (ha:PT X a tA)(hb:PW X (.BoolOp .Or (b::rest) pos) tB'):PW X (.BoolOp .Or (a::b::rest) pos) (tOr tA tB'):=by
 intro wh pins s σ H Q I h
 refine isTrue_or (thn (ha pins s σ H _ I h) fun c s1 ⟨H1,I1,q1⟩=> ?_)
 cases c with
 |true=>exact⟨H1,I1,q1⟩
 |false=>exact hb wh pins s1 σ H1 Q I1 q1
theorem Qo (ha:PT X a tA):PT X (.UnaryOp .Not a pos) (tNot tA):=by
 intro pins s σ H Q I h
 exact isTrue_not (ha pins s σ H (fun c H1=>Q (!c) H1) I h)
def tAndV (ta tb:TE):TE:=fun σ H Q=>ta σ H fun x H1=>∃c,x= .bl c∧if c=true then tb σ H1 Q else Q (.bl false) H1
def tOrV (ta tb:TE):TE:=fun σ H Q=>ta σ H fun x H1=>∃c,x= .bl c∧if c=true then Q (.bl true) H1 else tb σ H1 Q
def tNotV (ta:TE):TE:=fun σ H Q=>ta σ H fun x H1=>∃c,x= .bl c∧Q (.bl (!c)) H1
theorem XD {op}{t:TE}(h:PE X a t):PE X (.BoolOp op [a] pos) t:=fun pins s σ H Q I hw=>BoolOp_one (h pins s σ H Q I hw)
theorem XA (ha:PE X a ta)(hb:PE X (.BoolOp .And (b::rest) pos) tb):PE X (.BoolOp .And (a::b::rest) pos) (tAndV ta tb):=by
 intro pins s σ H Q I h
 refine BoolOp_and (thn (ha pins s σ H _ I h) fun v s1 ⟨x,H1,I1,r1,q1⟩=> ?_)
 obtain⟨c,rfl,q1⟩:=q1
 cases r1
 refine wpAny_truthy_bool ?_
 cases c with
 |true=>exact hb pins s1 σ H1 Q I1 q1
 |false=>exact⟨.bl false,H1,I1,rfl,q1⟩
theorem pe_or (ha:PE X a ta)(hb:PE X (.BoolOp .Or (b::rest) pos) tb):PE X (.BoolOp .Or (a::b::rest) pos) (tOrV ta tb):=by
 intro pins s σ H Q I h
 refine BoolOp_or (thn (ha pins s σ H _ I h) fun v s1 ⟨x,H1,I1,r1,q1⟩=> ?_)
 obtain⟨c,rfl,q1⟩:=q1
 cases r1
 refine wpAny_truthy_bool ?_
 cases c with
 |false=>exact hb pins s1 σ H1 Q I1 q1
 |true=>exact⟨.bl true,H1,I1,rfl,q1⟩
theorem pe_not (ha:PE X a ta):PE X (.UnaryOp .Not a pos) (tNotV ta):=by
 intro pins s σ H Q I h
 refine UnaryOp_ (thn (ha pins s σ H _ I h) fun v s1 ⟨x,H1,I1,r1,q1⟩=> ?_)
 obtain⟨c,rfl,q1⟩:=q1
 cases r1
 exact not_of (wpAny_truthy_bool ⟨.bl (!c),H1,I1,rfl,q1⟩)
def tIf (t:TT)(ta tb:TE):TE:=fun σ H Q=>t σ H fun c H1=>if c=true then ta σ H1 Q else tb σ H1 Q
theorem jg {c:Expr}(hc:PT X c tA)(ha:PE X a ta)(hb:PE X b tb):PE X (.IfExp c a b pos) (tIf tA ta tb):=by
 intro pins s σ H Q I h
 refine wpAny_IfExp (thn (hc pins s σ H _ I h) fun d s1 ⟨H1,I1,q1⟩=> ?_)
 cases d with
 |true=>exact ha pins s1 σ H1 Q I1 q1
 |false=>exact hb pins s1 σ H1 Q I1 q1
end
end L2
namespace L2
open PySem PySem.Spec PyProof.Rows
def SqL (K:PySem.W.Frag)(H:Hp)(a:Addr)(xs:List V):Prop:=
 Rd H a (.lst xs)∨
  ∃(o:Obj) (its:Array Value) (n:Nat),K.lookup a=some o∧o.cls= .type "list"∧o.dict=none∧o.data= .seq its n∧its.size≤sizeLine∧Vals xs its.toList
def SqT (K:PySem.W.Frag)(H:Hp)(a:Addr)(xs:List V):Prop:=
 Rd H a (.tup xs)∨
  ∃(o:Obj) (its:Array Value) (n:Nat),K.lookup a=some o∧o.cls= .type "tuple"∧o.data= .seq its n∧its.size≤sizeLine∧Vals xs its.toList
def absV:Value→Option V
 | .none=>some .non
 | .bool b=>some (.bl b)
 | .int i _=>some (.int i)
 | .str x _=>some (.str x)
 | .bytes b _=>some (.byt b)
 | .float b _=>some (.flt b)
 | .ref a=>some (.ref a)
 | .type n=>some (.ty n)
 |_=>none
theorem RelV.abs {x:V}{u:Value}(r:RelV x u):absV u=some x:=by
 cases x with
 |non=>cases r;rfl
 |bl _=>cases r;rfl
 |int _=>obtain⟨t,rfl⟩:=r;rfl
 |str _=>obtain⟨t,rfl⟩:=r;rfl
 |byt _=>obtain⟨t,rfl⟩:=r;rfl
 |flt _=>obtain⟨t,rfl⟩:=r;rfl
 |ref _=>cases r;rfl
 |ty _=>cases r;rfl
theorem RelV.inj {x y:V}{u:Value}(r:RelV x u)(q:RelV y u):x=y:=Option.some.inj (r.abs.symm.trans q.abs)
theorem Vals.inj:∀{xs ys:List V}{us:List Value},Vals xs us→Vals ys us→xs=ys
 |_,_,_,.nil,.nil=>rfl
 |_,_,_,.cons r t,.cons r' t'=>by rw [r.inj r',Vals.inj t t']
section
variable {X:Cx}{pins:List (Addr×Obj)}{σ:St}{H:Hp}{s:Shared}{a:Addr}{xs ys:List V}
theorem SqL.of {K:PySem.W.Frag}(h:H a=some (.lst xs)):SqL K H a xs:= .inl (.inl h)
theorem SqT.of {K:PySem.W.Frag}(h:H a=some (.tup xs)):SqT K H a xs:= .inl (.inl h)
theorem Inv.list (I:Inv X pins σ H s)(h:SqL X.K H a xs):∃its:List Value,Vals xs its∧PlainL s.heap a its.toArray∧xs.length≤sizeLine:=by
 rcases h with h|⟨o,its,n,hk,hc,hd,hs,hz,r⟩
 ·obtain⟨z,its,n,r,e⟩:=h.ok I.hok
  exact⟨its,r,⟨_,n,e,rfl,rfl,rfl⟩,z⟩
 ·refine⟨its.toList,r,⟨o,n,I.kIn a o hk,hc,hd,by simpa using hs⟩,?_⟩
  have e:=r.length
  simp only [Array.length_toList] at e
  omega
theorem Inv.tuple (I:Inv X pins σ H s)(h:SqT X.K H a xs):∃its:List Value,Vals xs its∧IsTup s.heap a its.toArray∧xs.length≤sizeLine:=by
 rcases h with h|⟨o,its,n,hk,hc,hs,hz,r⟩
 ·obtain⟨z,its,r,p⟩:=h.ok I.hok
  exact⟨its,r,p,z⟩
 ·refine⟨its.toList,r,⟨o,I.kIn a o hk,hc,n,by simpa using hs⟩,?_⟩
  have e:=r.length
  simp only [Array.length_toList] at e
  omega
theorem Inv.list_inj (I:Inv X pins σ H s)(h:SqL X.K H a xs)(h':SqL X.K H a ys):xs=ys:=by
 obtain⟨its,r,⟨o,n,e,_,_,d⟩,_⟩:=I.list h
 obtain⟨its',r',⟨o',n',e',_,_,d'⟩,_⟩:=I.list h'
 rw [e] at e';cases e'
 rw [d] at d'
 injection d' with d1 _
 have:its=its':=by simpa using congrArg Array.toList d1
 subst this
 exact r.inj r'
theorem Inv.tuple_inj (I:Inv X pins σ H s)(h:SqT X.K H a xs)(h':SqT X.K H a ys):xs=ys:=by
 obtain⟨its,r,⟨o,e,_,n,d⟩,_⟩:=I.tuple h
 obtain⟨its',r',⟨o',e',_,n',d'⟩,_⟩:=I.tuple h'
 rw [e] at e';cases e'
 rw [d] at d'
 injection d' with d1 _
 have:its=its':=by simpa using congrArg Array.toList d1
 subst this
 exact r.inj r'
end
abbrev Cx.wish (X:Cx)(E:Value→Shared→Prop):Cx:={X with xe:=E}
abbrev Cx.nox (X:Cx):Cx:=X.wish fun _ _=>False
theorem Cx.Ok.wish {X:Cx}(ok:X.Ok)(E:Value→Shared→Prop):(X.wish E).Ok:=
 ⟨ok.mod,ok.kind,ok.glob,ok.blt,ok.above,ok.inj,ok.has,ok.cab,ok.hd,ok.frames,ok.stk,ok.exf,ok.bs,ok.bsz,ok.noex,ok.exfs,ok.funs,ok.frf⟩
theorem Cx.Ok.unwish {X:Cx}{E:Value→Shared→Prop}(ok:(X.wish E).Ok):X.Ok:=
 ⟨ok.mod,ok.kind,ok.glob,ok.blt,ok.above,ok.inj,ok.has,ok.cab,ok.hd,ok.frames,ok.stk,ok.exf,ok.bs,ok.bsz,ok.noex,ok.exfs,ok.funs,ok.frf⟩
section
variable {X:Cx}{pins:List (Addr×Obj)}{σ:St}{H:Hp}{s:Shared}{E:Value→Shared→Prop}
theorem Inv.wish (I:Inv X pins σ H s)(E:Value→Shared→Prop):Inv (X.wish E) pins σ H s:=⟨I.ok.wish E,I.os,I.bare,I.base,I.loc,I.cell,I.free,I.freeC,I.pin,I.hok,I.len,I.tk⟩
theorem Inv.unwish (I:Inv (X.wish E) pins σ H s):Inv X pins σ H s:=⟨I.ok.unwish,I.os,I.bare,I.base,I.loc,I.cell,I.free,I.freeC,I.pin,I.hok,I.len,I.tk⟩
theorem SP.unwish {D:Ends}{f:Flow}{s':Shared}(h:SP (X.wish E) pins D f s'):SP X pins D f s':=by
 cases f with
 |next=>obtain⟨σ',H',I,q⟩:=h;exact⟨σ',H',I.unwish,q⟩
 |brk=>obtain⟨σ',H',I,q⟩:=h;exact⟨σ',H',I.unwish,q⟩
 |cont=>obtain⟨σ',H',I,q⟩:=h;exact⟨σ',H',I.unwish,q⟩
 |ret u=>obtain⟨v,σ',H',I,r,q⟩:=h;exact⟨v,σ',H',I.unwish,r,q⟩
theorem PSs.nox {st:List Stmt}{t:TS}(h:PSs X.nox st t):PSs X st t:=fun pins s σ H D I hw=>
 wpAny_mono (h pins s σ H D (I.wish _) hw) (fun _ _ q=>q.unwish) fun _ _ z=>False.elim z
end
section
variable {X:Cx}{st:Stmt}{rest:List Stmt}{t u:TS}{e:Expr}{te:TE}{pos:Pos}
def tNext:TS:=fun D σ H=>D.nx σ H
def tSeq (t u:TS):TS:=fun D σ H=>t {D with nx:=u D} σ H
theorem qr:PSs X [] tNext:=fun _ _ σ H _ I h=>wpAny_execs_nil ⟨σ,H,I,h⟩
theorem qb (h1:PS X st t)(h2:PSs X rest u):PSs X (st::rest) (tSeq t u):=by
 intro pins s σ H D I h
 refine wpAny_execs_cons (thn (h1 pins s σ H {D with nx:=u D} I h) fun f s1 q=> ?_)
 cases f with
 |next=>
  obtain⟨σ',H',I',q⟩:=q
  exact h2 pins s1 σ' H' D I' q
 |ret v=>exact q
 |brk=>exact q
 |cont=>exact q
theorem qe (h1:PS X st t):PSs X [st] t:=by
 intro pins s σ H D I h
 refine wpAny_execs_cons (thn (h1 pins s σ H D I h) fun f s1 q=> ?_)
 cases f with
 |next=>exact wpAny_execs_nil q
 |ret v=>exact q
 |brk=>exact q
 |cont=>exact q
def tCont:TS:=fun D σ H=>D.ct σ H
theorem ps_continue:PS X (.Continue pos) tCont:=fun _ _ σ H _ I h=>wpAny_Continue ⟨σ,H,I,h⟩
theorem Inv.quiet {pins:List (Addr×Obj)}{σ:St}{H:Hp}{s:Shared}(I:Inv X pins σ H s):interactive X.env=false:=by simp [interactive,I.ok.kind]
def tDrop (te:TE):TS:=fun D σ H=>te σ H fun _ H1=>D.nx σ H1
theorem jq (he:PE X e te)(hs:swapsWith e none pos.line X.env=pure false:=by rfl):PS X (.Expr e pos) (tDrop te):=by
 intro pins s σ H D I h
 exact wpAny_Expr_any (thn (he pins s σ H _ I h) fun v s1 ⟨x,H1,I1,r1,q1⟩=>⟨σ,H1,I1,q1⟩) I.quiet hs
def tRet (te:TE):TS:=fun D σ H=>te σ H D.rt
theorem qk (he:PE X e te):PS X (.Return (some e) pos) (tRet te):=by
 intro pins s σ H D I h
 exact wpAny_Return_some (thn (he pins s σ H _ I h) fun v s1 ⟨x,H1,I1,r1,q1⟩=>⟨x,σ,H1,I1,r1,q1⟩)
def tRetN:TS:=fun D _ H=>D.rt .non H
theorem ps_retN:PS X (.Return none pos) tRetN:=fun _ _ σ H _ I h=>wpAny_Return_none ⟨.non,σ,H,I,rfl,h⟩
def tIfS (c:TT)(t u:TS):TS:=fun D σ H=>c σ H fun b H1=>if b=true then t D σ H1 else u D σ H1
theorem qI {c:Expr}{a b:List Stmt}{tc:TT}(hc:PT X c tc)(ha:PSs X a t)(hb:PSs X b u):PS X (.If c a b pos) (tIfS tc t u):=by
 intro pins s σ H D I h
 refine wpAny_If (thn (hc pins s σ H _ I h) fun d s1 ⟨H1,I1,q1⟩=> ?_)
 cases d with
 |true=>exact ha pins s1 σ H1 D I1 q1
 |false=>exact hb pins s1 σ H1 D I1 q1
def tNever:TS:=fun _ _ _=>False
theorem X9:PS X st tNever:=fun _ _ _ _ _ _ h=>h.elim
end
abbrev TG:=V→St→Hp→(St→Hp→Prop)→Prop
abbrev TGs:=List V→St→Hp→(St→Hp→Prop)→Prop
def PG (X:Cx)(target:Expr)(t:TG):Prop:=
 ∀(pins:List (Addr×Obj)) (s:Shared) (σ:St) (H:Hp) (v:V) (u:Value) (Q:St→Hp→Prop),Inv X pins σ H s→RelV v u→t v σ H Q→
  wpAny (model X.prog X.w) X.A (assign target X.env u) (fun _ s'=>∃σ' H',Inv X pins σ' H' s'∧Q σ' H') X.xe s
def PGs (X:Cx)(ts:List Expr)(t:TGs):Prop:=
 ∀(pins:List (Addr×Obj)) (s:Shared) (σ:St) (H:Hp) (vs:List V) (us:List Value) (Q:St→Hp→Prop),Inv X pins σ H s→Vals vs us→t vs σ H Q→
  wpAny (model X.prog X.w) X.A (assignInOrder ((assignEach ts X.env).map (·.2)) us) (fun _ s'=>∃σ' H',Inv X pins σ' H' s'∧Q σ' H') X.xe s
abbrev TSet:=V→V→V→Hp→(Hp→Prop)→Prop
def PSet (X:Cx)(t:TSet):Prop:=
 ∀(pins:List (Addr×Obj)) (s:Shared) (σ:St) (H:Hp) (o i v:V) (ov iv u:Value) (Q:Hp→Prop),Inv X pins σ H s→RelV o ov→RelV i iv→RelV v u→t o i v H Q→
  wpAny (model X.prog X.w) X.A (setItem ov iv u) (fun _ s'=>∃H',Inv X pins σ H' s'∧Q H') X.xe s
abbrev TIp:=V→V→Hp→VK→Prop
def PIp (X:Cx)(op:Operator)(t:TIp):Prop:=
 ∀(pins:List (Addr×Obj)) (s:Shared) (σ:St) (H:Hp) (x y:V) (v u:Value) (Q:VK),Inv X pins σ H s→RelV x v→RelV y u→t x y H Q→
  wpAny (model X.prog X.w) X.A (inplaceOp op v u) (EP X pins σ Q) X.xe s
section
variable {X:Cx}{pos:Pos}
def J5 (i:Nat):TG:=fun v σ H Q=>Q (σ.set i (some v)) H
theorem Qm {i:Nat}{x:Str}(hN:X.N.Nodup)(hi:X.N[i]? =some x)(hx:Loc X.env.scope x)(hf:X.fn x=true∨X.env.scope.names.lookup x=some .local:=by first|exact .inl rfl|exact .inr rfl|assumption):PG X (.Name x pos) (J5 i):=by
 intro pins s σ H v u Q I r h
 exact wpAny_assign_Name (wD I hN hi hx r (fun s' I'=>⟨_,H,I',h⟩) hf)
def gNil:TGs:=fun vs σ H Q=>vs= []∧Q σ H
def gCons (t:TG)(u:TGs):TGs:=fun vs σ H Q=>∃v r,vs=v::r∧t v σ H fun σ' H'=>u r σ' H' Q
theorem pgs_nil:PGs X [] gNil:=by
 intro pins s σ H vs us Q I r h
 obtain⟨e,h⟩:=h
 subst e
 cases r
 exact assignInOrder_nil ⟨σ,H,I,h⟩
theorem xN {e:Expr}{es:List Expr}{t:TG}{u:TGs}(h1:PG X e t)(h2:PGs X es u)
  (hs:(assignEach (e::es) X.env).map (·.2)=assign e X.env::(assignEach es X.env).map (·.2):=by rfl):PGs X (e::es) (gCons t u):=by
 intro pins s σ H vs us Q I r h
 obtain⟨v,vr,e1,h⟩:=h
 subst e1
 cases r with
 |cons r rr=>
  rw [hs]
  refine assignInOrder_cons (thn (h1 pins s σ H _ _ _ I r h) fun _ s1 ⟨σ1,H1,I1,q1⟩=> ?_)
  exact h2 pins s1 σ1 H1 _ _ Q I1 rr q1
def gTup (K:PySem.W.Frag)(n:Nat)(t:TGs):TG:=fun v σ H Q=>∃a xs,v= .ref a∧SqT K H a xs∧xs.length=n∧t xs σ H Q
theorem pg_tup {es:List Expr}{k:Nat}{t:TGs}{n:Nat}(hc:X.calm=true)(h:PGs X es t)
  (hn:(assignEach es X.env).length=n:=by rfl) (hst:(assignEach es X.env).findIdx? (·.1)=none:=by rfl):PG X (.Tuple es k pos) (gTup X.K n t):=by
 intro pins s σ H v u Q I r hw
 obtain⟨a,xs,e1,hq,hl,hw⟩:=hw
 subst e1
 cases r
 obtain⟨its,rv,ht,hz⟩:=I.tuple hq
 refine assign_Tuple_tuple (I.ok.hd hc) ht (by simp [hn,←hl,rv.length]) hst fun h' hx=> ?_
 have I1:Inv X pins σ H {s with heap:=h'}:=I.kept (t':=s.toks) fun b o e=>hx b o (Nat.ne_of_lt (Heap.lt_size e)) e
 exact h pins _ σ H xs _ Q I1 (by simpa using rv) hw
def gSub (to ti:TE)(t:TSet):TG:=fun v σ H Q=>to σ H fun o H1=>ti σ H1 fun i H2=>t o i v H2 fun H3=>Q σ H3
theorem pg_sub {o i:Expr}{to ti:TE}{t:TSet}(ho:PE X o to)(hi:PE X i ti)(hs:PSet X t)
  (ha:∀v,assign (.Subscript o i pos) X.env v=(do
   let ov←holding [v] (eval o X.env)
   let iv←holding [v,ov] (eval i X.env)
   standAt pos
   holding [v,ov,iv] (setItem ov iv v)
   release [v,ov,iv] []):=by intro _;rfl):PG X (.Subscript o i pos) (gSub to ti t):=by
 intro pins s σ H v u Q I r h
 rw [ha]
 refine wpAny_bind (wpAny_holding (thn (ho pins s σ H _ I h) fun ov s1 ⟨x,H1,I1,r1,q1⟩=> ?_))
 refine wpAny_bind (wpAny_holding (thn (hi pins s1 σ H1 _ I1 q1) fun iv s2 ⟨y,H2,I2,r2,q2⟩=> ?_))
 refine wpAny_bind (wpAny_standAt (wpAny_bind (wpAny_holding (thn (hs pins s2 σ H2 x y v ov iv u _ I2 r1 r2 r q2) fun _ s3 ⟨H3,I3,q3⟩=> ?_))))
 exact wpAny_release ⟨σ,H3,I3,q3⟩
def tAsg (te:TE)(g:TG):TS:=fun D σ H=>te σ H fun x H1=>g x σ H1 D.nx
theorem ps_asg {tg e:Expr}{te:TE}{g:TG}(he:PE X e te)(hg:PG X tg g)(hs:swapsWithSole [tg] e pos.line X.env=pure false:=by rfl)(hw:swappedStores [tg] e X.env=pure none:=by rfl)
  (h1:(assignEach [tg] X.env).map (·.2)= [assign tg X.env]:=by rfl):PS X (.Assign [tg] e pos) (tAsg te g):=by
 intro pins s σ H D I h
 refine wpAny_Assign_stores (thn (he pins s σ H _ I h) fun v s1 ⟨x,H1,I1,r1,q1⟩=> ?_) hs hw
 rw [h1]
 exact thn (hg pins s1 σ H1 x v _ I1 r1 q1) fun _ s2 q=>q
theorem qB {i:Nat}{x:Str}{e:Expr}{te:TE}{pos':Pos}(hN:X.N.Nodup)(hi:X.N[i]? =some x)(hx:Loc X.env.scope x)(he:PE X e te)(hs:swapsWith e (some (.Name x pos')) pos.line X.env=pure false:=by rfl)(hf:X.fn x=true∨X.env.scope.names.lookup x=some .local:=by first|exact .inl rfl|exact .inr rfl|assumption):
  PS X (.Assign [.Name x pos'] e pos) (tAsg te (J5 i)):=by
 intro pins s σ H D I h
 refine wpAny_Assign_Name (thn (he pins s σ H _ I h) fun v s1 ⟨y,H1,I1,r1,q1⟩=> ?_) hs
 exact wD I1 hN hi hx r1 (fun s2 I2=>⟨_,H1,I2,q1⟩) hf
def tAug (i:Nat)(te:TE)(ti:TIp):TS:=fun D σ H=>∃x,σ[i]? =some (some x)∧te σ H fun y H1=>ti x y H1 fun z H2=>D.nx (σ.set i (some z)) H2
theorem ps_aug {i:Nat}{x:Str}{e:Expr}{te:TE}{op:Operator}{ti:TIp}{pos':Pos}(hN:X.N.Nodup)(hi:X.N[i]? =some x)(hx:Loc X.env.scope x)(he:PE X e te)(ho:PIp X op ti)(hf:X.fn x=true∨X.env.scope.names.lookup x=some .local:=by first|exact .inl rfl|exact .inr rfl|assumption):
  PS X (.AugAssign (.Name x pos') op e pos) (tAug i te ti):=by
 intro pins s σ H D I h
 obtain⟨v,e1,h⟩:=h
 obtain⟨m,hn,hl⟩:=I.loc
 have vis:Vis X.env.scope x:=by rcases hx with k|k;exact .inl k;exact .inr (.inl k)
 obtain⟨u,r,l⟩:=hl i x v hi e1 vis
 refine wpAny_AugAssign_Name ?_
 have go:wpAny (model X.prog X.w) X.A (eval e X.env) (fun w s₂=>wpAny (model X.prog X.w) X.A (inplaceOp op u w) (fun r s₃=>wpAny (model X.prog X.w) X.A (storeName X.env x r) (fun _=>SP X pins D .next) X.xe s₃) X.xe s₂) X.xe s:=by
  refine thn (he pins s σ H _ I h) fun w s1 ⟨y,H1,I1,r1,q1⟩=> ?_
  refine thn (ho pins s1 σ H1 v y u w _ I1 r r1 q1) fun z s2 ⟨zv,H2,I2,r2,q2⟩=> ?_
  exact wD I2 hN hi hx r2 (fun s3 I3=>⟨_,H2,I3,q2⟩) hf
 rcases l with⟨hk,hm⟩|⟨hk,c,hc,hcell⟩
 ·exact wpAny_loadName_local I.ok.kind hk hn hm go
 ·rcases hk with hk|hk
  ·exact wpAny_loadName_cell I.ok.kind hk hc hcell go
  ·rcases hx with k|k
   ·have:X.env.scope.names.lookup x=some .free:=hk
    rw [k] at this;cases this
   ·have:X.env.scope.names.lookup x=some .free:=hk
    rw [k] at this;cases this
def ipI (f:Int→Int→Int):TIp:=fun x y H Q=>∃i j,x= .int i∧y= .int j∧Q (.int (f i j)) H
theorem ip_add:PIp X .Add (ipI fun i j=>i+j):=by
 intro pins s σ H x y v u Q I r1 r2 h
 obtain⟨i,j,e1,e2,q⟩:=h
 subst e1;subst e2
 obtain⟨t,rfl⟩:=r1
 obtain⟨t',rfl⟩:=r2
 exact iadd_int ⟨.int _,H,I.tok _,⟨_,rfl⟩,q⟩
end
section
variable {X:Cx}{pos:Pos}
def tWhile (c:TT)(tb:TS):TS:=fun D σ H=>∃W:Nat→St→Hp→Prop,(∃m,W m σ H)∧∀m σ H,W m σ H→
 c σ H fun b H1=>if b=true then∃N:St→Hp→Prop,(∀σ' H',N σ' H'→∃m',m'<m∧W m' σ' H')∧tb {D with nx:=N,ct:=N,bk:=D.nx} σ H1 else D.nx σ H1
theorem ps_while {c:Expr}{body:List Stmt}{tc:TT}{tb:TS}(hp:PassesOwn (model X.prog X.w) X.A X.env X.xe)(hc:PT X c tc)(hb:PSs X body tb):PS X (.While c body [] pos) (tWhile tc tb):=by
 intro pins s σ H D I h
 obtain⟨W,⟨m0,w0⟩,turn⟩:=h
 refine wpAny_While (codeAny_whileLoop (fun n s'=>∃σ' H',Inv X pins σ' H' s'∧W n σ' H') ?_ m0 ⟨σ,H,I,w0⟩)
 rintro n s1 ⟨σ1,H1,I1,w1⟩
 refine wpAny_passesOwn hp (thn (hc pins s1 σ1 H1 _ I1 (turn n σ1 H1 w1)) fun b s2 ⟨H2,I2,q2⟩=> ?_)
 cases b with
 |true=>
  obtain⟨N,hN,q2⟩:=q2
  rw [if_pos rfl]
  refine wpAny_passesOwn hp (thn (hb pins s2 σ1 H2 _ I2 q2) fun f s3 q3=> ?_)
  cases f with
  |next=>
   obtain⟨σ3,H3,I3,n3⟩:=q3
   obtain⟨m',hm,w3⟩:=hN σ3 H3 n3
   exact⟨m',hm,σ3,H3,I3,w3⟩
  |cont=>
   obtain⟨σ3,H3,I3,n3⟩:=q3
   obtain⟨m',hm,w3⟩:=hN σ3 H3 n3
   exact⟨m',hm,σ3,H3,I3,w3⟩
  |brk=>exact q3
  |ret v=>exact q3
 |false=>
  rw [if_neg Bool.false_ne_true]
  exact wpAny_execs_nil ⟨σ1,H2,I2,q2⟩
end
structure It where
 go:Nat→Hp→Prop
 yld:Nat→Hp→V→Hp→Prop
 stop:Nat→Hp→Prop
def FpOk (X:Cx)(pins:List (Addr×Obj))(H:Hp)(b:Addr):Prop:=
 H b=none∧b≠X.env.locals∧b∉X.fs∧(b∈X.ex∨X.s₀.heap.objs.size≤b)∧(∀x c,X.env.cells.lookup x=some c→c≠b)∧∀p∈X.pn++pins,p.1≠b
theorem Inv.fpOk {X:Cx}{pins:List (Addr×Obj)}{σ:St}{H H':Hp}{s:Shared}{b:Addr}(I:Inv X pins σ H s)(hb:s.heap.objs.size≤b)(hn:H' b=none):FpOk X pins H' b:=by
 refine⟨hn,Nat.ne_of_gt (Nat.lt_of_lt_of_le I.lt hb),I.nofs hb,.inr (Nat.le_trans I.sz hb),fun x c e z=> ?_,fun p hp z=> ?_⟩
 ·obtain⟨v,q⟩:=I.cell x c e
  exact absurd (Nat.lt_of_lt_of_le q.lt (by rw [z];exact hb)) (Nat.lt_irrefl _)
 ·exact absurd (Nat.lt_of_lt_of_le (Heap.lt_size (I.pin p hp).1) (by rw [z];exact hb)) (Nat.lt_irrefl _)
structure Turn (P:Program)(w:World)(K:PySem.W.Frag)(tg:Expr)(J:It)(fp:List Addr)(it:Addr)(tn:Nat→Heap→Prop):Prop where
 mem:it∈fp
 obj:∀i h,tn i h→∀b∈fp,∃o,h.get? b=some o∧∀v,o.data≠ .cell v
 keep:∀i h h',tn i h→(∀b∈fp,∀o,h.get? b=some o→h'.get? b=some o)→tn i h'
 item:∀(X:Cx),X.prog=P→X.w=w→X.K=K→X.calm=true→∀(i:Nat) (pins:List (Addr×Obj)) (s:Shared) (σ:St) (H:Hp) (E:Value→Shared→Prop),Inv X pins σ H s→(∀b∈fp,FpOk X pins H b)→tn i s.heap→J.go i H→
  wpAny (model P w) X.A (pyNext (.ref it)) (fun r s1=>∃u,r=some u∧
   wpAny (model P w) X.A (letOwnedTupleGo tg (.ref it) u) (fun _ s2=>∃x H',Inv X pins σ H' s2∧RelV x u∧J.yld i H x H'∧tn (i+1) s2.heap∧∀b∈fp,H' b=none) E s1) E s
 done:∀(X:Cx),X.prog=P→X.w=w→X.K=K→X.calm=true→∀(i:Nat) (pins:List (Addr×Obj)) (s:Shared) (σ:St) (H:Hp) (E:Value→Shared→Prop),Inv X pins σ H s→(∀b∈fp,FpOk X pins H b)→tn i s.heap→J.stop i H→
  wpAny (model P w) X.A (pyNext (.ref it)) (fun r s1=>r=none∧Inv X pins σ H s1) E s
 self:∀(A:Around) (i:Nat) (s:Shared) (Q:Value→Shared→Prop) (E:Value→Shared→Prop),tn i s.heap→Q (.ref it) s→wpAny (model P w) A (pyIter (.ref it)) Q E s
abbrev TI:=St→Hp→(It→Hp→Prop)→Prop
def PIE (X:Cx)(pins:List (Addr×Obj))(σ:St)(tg:Expr)(R:It→Hp→Prop)(itv:Value)(s2:Shared):Prop:=
 ∃(it:Addr) (fp:List Addr) (tn:Nat→Heap→Prop) (J:It) (H':Hp),itv= .ref it∧Inv X pins σ H' s2∧Turn X.prog X.w X.K tg J fp it tn∧tn 0 s2.heap∧(∀b∈fp,FpOk X pins H' b)∧R J H'
def PI (X:Cx)(tg iter:Expr)(wi:TI):Prop:=
 ∀(pins:List (Addr×Obj)) (s:Shared) (σ:St) (H:Hp) (R:It→Hp→Prop),Inv X pins σ H s→wi σ H R→
  wpAny (model X.prog X.w) X.A (eval iter X.env) (fun v s1=>wpAny (model X.prog X.w) X.A (pyIter v) (PIE X pins σ tg R) X.xe s1) X.xe s
theorem go_of {M:Model}{A:Around}{E:Value→Shared→Prop}{s:Shared}{tg:Expr}{it:Addr}{u:Value}{o:Obj}{n:String}{vs:Array Value}{Q:Unit→Shared→Prop}(ho:s.heap.get? it=some o)(hc:o.cls= .type n)(hd:o.data= .fields vs)
  (hn: ["enumerate","zip","dict_itemiterator","dict_reverseitemiterator","odict_iterator","itertools.zip_longest","itertools.pairwise"].contains n=false) (hQ:Q () s):wpAny M A (letOwnedTupleGo tg (.ref it) u) Q E s:=by
 unfold letOwnedTupleGo
 cases tg<;>first
  |exact wpAny_pure hQ
  |(cases u<;>first
    |exact wpAny_pure hQ
    |(refine wpAny_bind (wpAny_load ho ?_)
      rw [hc,hd]
      show wpAny M A (if(["enumerate","zip","dict_itemiterator","dict_reverseitemiterator","odict_iterator","itertools.zip_longest","itertools.pairwise"].contains n&&vs[0]? ==some (rawInt _))=true then _ else _) Q E s
      rw [if_neg (by intro h;rw [hn,Bool.false_and] at h;cases h)]
      exact wpAny_pure hQ))
def Itt (K:PySem.W.Frag)(a:Addr):It:=
 ⟨fun i H=>∃xs x,SqT K H a xs∧xs[i]? =some x,fun i H x H'=>H'=H∧∀xs,SqT K H a xs→xs[i]? =some x,fun i H=>∃xs,SqT K H a xs∧xs.length≤i⟩
def Itr (lo:Int)(n:Nat):It:=⟨fun i _=>i<n,fun i H x H'=>H'=H∧x= .int (lo+i),fun i _=>n≤i⟩
theorem wk {P:Program}{w:World}{K:PySem.W.Frag}{tg:Expr}(a it:Addr):Turn P w K tg (Itt K a) [it] it (fun i h=>h.IsTupleIter it a i) where
 mem:=by simp
 obj:=fun i h st b hb=>by
  have e:b=it:=by simpa using hb
  subst e
  obtain⟨o,e,c,d⟩:=st
  exact⟨o,e,fun v z=>by rw [d] at z;cases z⟩
 keep:=fun i h h' st k=>st.at fun o e=>k it (by simp) o e
 item:=by
  intro X hP hw hK hc i pins s σ H E I hf st hg
  subst hP hw hK
  obtain⟨xs,x,hq,hx⟩:=hg
  obtain⟨its,rv,p,hz⟩:=I.tuple hq
  obtain⟨u,hu,ru⟩:=rv.get hx
  obtain⟨f0,f1,f2,f3,f4,f5⟩:=hf it (by simp)
  refine wpAny_pyNext_tuple_item st (show s.heap.IsTuple a its.toArray from p) (x:=u) (by simpa using hu) fun h' st' sb=> ?_
  have I1:Inv X pins σ H {s with heap:=h'}:=I.turned (t':=s.toks) (fun b o hb e=>(sb.2 b hb).trans e) f0 f1 f3 f4 f5
  obtain⟨o,e,c,d⟩:=id st'
  exact⟨u,rfl,go_of (s:={s with heap:=h'}) e c d (by decide) ⟨x,H,I1,ru,⟨rfl,fun ys hy=>by rw [I.tuple_inj hy hq];exact hx⟩,st',fun b hb=>(hf b hb).1⟩⟩
 done:=by
  intro X hP hw hK hc i pins s σ H E I hf st hg
  subst hP hw hK
  obtain⟨xs,hq,hx⟩:=hg
  obtain⟨its,rv,p,hz⟩:=I.tuple hq
  obtain⟨f0,f1,f2,f3,f4,f5⟩:=hf it (by simp)
  have hl:=rv.length
  exact wpAny_pyNext_tuple_end (I.ok.hd hc) st (show s.heap.IsTuple a its.toArray from p) (by simp;omega) fun h' eb=>⟨rfl,I.turned (t':=s.toks) (fun b o hb e=>eb b o hb e) f0 f1 f3 f4 f5⟩
 self:=fun _ _ _ _ _ st h=>wpAny_pyIter_tupleiter st h
theorem turn_range {P:Program}{w:World}{K:PySem.W.Frag}{tg:Expr}(it:Addr)(lo:Int)(n:Nat):Turn P w K tg (Itr lo n) [it] it (fun i h=>IsRangeIter h it (lo+(i:Nat)*1) ((n:Int)-(i:Nat)) 1) where
 mem:=by simp
 obj:=fun i h st b hb=>by
  have e:b=it:=by simpa using hb
  subst e
  exact⟨_,st,fun v z=>by
   have z':Data.fields _=Data.cell v:=z
   cases z'⟩
 keep:=fun i h h' st k=>k it (by simp) _ st
 item:=by
  intro X hP hw hK hc i pins s σ H E I hf st hg
  subst hP hw hK
  obtain⟨f0,f1,f2,f3,f4,f5⟩:=hf it (by simp)
  have W:=Walks.range (prog:=X.prog) (w:=X.w) (I.ok.hd hc) it lo 1 n
  refine wpAny_with_toks (n:=1) I.tk (W.item i s _ _ hg st fun v h' tk hv st' kk=> ?_)
  intro htk
  obtain⟨t,rfl⟩:=hv
  have I1:Inv X pins σ H {s with heap:=h',toks:=tk}:=I.turned (fun b o hb e=>kk b o (by simpa using hb) e) f0 f1 f3 f4 f5
  refine⟨_,rfl,go_of (s:={s with heap:=h',toks:=tk}) (n:="range_iterator") st' rfl rfl (by decide) ⟨.int (lo+i),H,I1,⟨t,?_⟩,⟨rfl,rfl⟩,st',fun b hb=>(hf b hb).1⟩⟩
  rw [Int.mul_one]
 done:=by
  intro X hP hw hK hc i pins s σ H E I hf st hg
  subst hP hw hK
  obtain⟨f0,f1,f2,f3,f4,f5⟩:=hf it (by simp)
  exact wpAny_pyNext_range_end (I.ok.hd hc) st (by have:n≤i:=hg;omega) fun h' eb=>⟨rfl,I.turned (t':=s.toks) (fun b o hb e=>eb b o hb e) f0 f1 f3 f4 f5⟩
 self:=fun _ _ _ _ _ st h=>wpAny_pyIter_rangeiter st h
end L2
namespace L2
open PySem PySem.Spec PyProof.Rows
section
variable {X:Cx}{tg:Expr}
def iTup (K:PySem.W.Frag)(tl:TE):TI:=fun σ H R=>tl σ H fun x H1=>∃a,x= .ref a∧(∃xs,SqT K H1 a xs)∧R (Itt K a) H1
theorem pi_tup {l:Expr}{tl:TE}(hl:PE X l tl):PI X tg l (iTup X.K tl):=by
 intro pins s σ H R I h
 refine thn (hl pins s σ H _ I h) fun v s1 ⟨x,H1,I1,r1,q1⟩=> ?_
 obtain⟨a,e,⟨xs,hq⟩,q⟩:=q1
 subst e
 cases r1
 obtain⟨its,rv,p,hz⟩:=I1.tuple hq
 refine wpAny_pyIter_tuple (show s1.heap.IsTuple a its.toArray from p) ?_
 refine⟨s1.heap.objs.size,[s1.heap.objs.size],_,_,H1,rfl,I1.kept (t':=s1.toks) fun b o e=>Heap.get?_push_of_some _ e,wk a _,⟨_,Heap.get?_push_size _ rfl,rfl,rfl⟩,fun b hb=> ?_,q⟩
 have e:b=s1.heap.objs.size:=by simpa using hb
 subst e
 exact I1.fpOk (Nat.le_refl _) (I1.hok.fresh (Nat.le_refl _))
theorem range_it {pins:List (Addr×Obj)}{σ:St}{H:Hp}{s:Shared}{R:It→Hp→Prop}{E:Value→Shared→Prop}{lo hi:Int}{t u v:Tok}{tk:Nat}(I:Inv X pins σ H s)(h1: -(2^62)≤lo)(h2:lo<2^62)(h3: -(2^62)≤hi)(h4:hi<2^62)
  (q:R (Itr lo (hi-lo).toNat) H) (htk:0<tk:=by((try dsimp only);first|assumption|exact Inv.tk (by assumption)|exact Nat.succ_pos _|exact Nat.lt_of_lt_of_le (Inv.tk (by assumption)) (by assumption)|exact Nat.add_pos_left (Inv.tk (by assumption)) _|omega)):wpAny (model X.prog X.w) X.A (pyIter (.ref s.heap.objs.size)) (PIE X pins σ tg R) E {s with heap:=s.heap.push {cls:= .type "range",data:= .fields #[.int lo t,.int hi u,.int 1 v]},toks:=tk}:=by
 refine wpAny_pyIter_range (IsRange.new ..) (small_one h1 h2 h3 h4) ?_
 have I1:Inv X pins σ H {s with heap:=s.heap.push {cls:= .type "range",data:= .fields #[.int lo t,.int hi u,.int 1 v]},toks:=tk}:=I.kept fun b o e=>Heap.get?_push_of_some _ e
 refine⟨(s.heap.push {cls:= .type "range",data:= .fields #[.int lo t,.int hi u,.int 1 v]}).objs.size,[(s.heap.push {cls:= .type "range",data:= .fields #[.int lo t,.int hi u,.int 1 v]}).objs.size],_,_,H,rfl,
  I1.kept (t':=tk) fun b o e=>Heap.get?_push_of_some _ e,turn_range _ lo (hi-lo).toNat,?_,fun b hb=> ?_,q⟩
 ·have e1:lo+((0:Nat):Int)*1=lo:=by simp
  have e2:(((hi-lo).toNat:Nat):Int)-((0:Nat):Int)=Builtin.Range.rangeSize lo hi 1:=by rw [rangeSize_one];split<;>omega
  show IsRangeIter _ _ (lo+((0:Nat):Int)*1) ((((hi-lo).toNat:Nat):Int)-((0:Nat):Int)) 1
  rw [e1,e2]
  exact Heap.get?_push_size _ rfl
 ·have e:b=(s.heap.push {cls:= .type "range",data:= .fields #[.int lo t,.int hi u,.int 1 v]}).objs.size:=by simpa using hb
  subst e
  exact I1.fpOk (Nat.le_refl _) (I1.hok.fresh (Nat.le_refl _))
def iRng1 (ta:TA):TI:=fun σ H R=>ta σ H fun vs H1=>∃j:Int,vs= [.int j]∧-(2^62)≤j∧j<2^62∧R (Itr 0 j.toNat) H1
def iRng2 (ta:TA):TI:=fun σ H R=>ta σ H fun vs H1=>∃i j:Int,vs= [.int i,.int j]∧(-(2^62)≤i∧i<2^62∧-(2^62)≤j∧j<2^62)∧R (Itr i (j-i).toNat) H1
theorem xt {a:Expr}{ta:TA}{p pos:Pos}(hg:Gl X "range")(hm:X.mg "range"=none)(ha:PA X [a] ta)(hs:starEach [a] X.env= [(false,eval a X.env)]:=by rfl):PI X tg (.Call (.Name "range" p) [a] [] pos) (iRng1 ta):=by
 intro pins s σ H R I h
 refine Call_ (ZZ I hg hm boot_range (PyProof.Rows.callWith_type1 (thn (ha pos pins s σ H _ I h) fun us s1 ⟨vs,H1,I1,r1,q1⟩=> ?_) hs rfl))
 obtain⟨j,e,q1,q2,q⟩:=q1
 subst e
 cases r1 with
 |cons r rr=>
  cases rr
  obtain⟨t,rfl⟩:=r
  exact call_range_1 (range_it I1 (by omega) (by omega) q1 q2 (by simpa using q))
theorem pi_range2 {a b:Expr}{ta:TA}{p pos:Pos}(hg:Gl X "range")(hm:X.mg "range"=none)(ha:PA X [a,b] ta)(hs:starEach [a,b] X.env= [(false,eval a X.env),(false,eval b X.env)]:=by rfl)(hs2:starEach [b] X.env= [(false,eval b X.env)]:=by rfl):
  PI X tg (.Call (.Name "range" p) [a,b] [] pos) (iRng2 ta):=by
 intro pins s σ H R I h
 refine Call_ (ZZ I hg hm boot_range (PyProof.Rows.callWith_type1 (thn (ha pos pins s σ H _ I h) fun us s1 ⟨vs,H1,I1,r1,q1⟩=> ?_) (by rw [hs,hs2]) (by rw [hs2];rfl)))
 obtain⟨i,j,e,⟨q1,q2,q3,q4⟩,q⟩:=q1
 subst e
 cases r1 with
 |cons r rr=>
  cases rr with
  |cons r' rr=>
   cases rr
   obtain⟨t,rfl⟩:=r
   obtain⟨t',rfl⟩:=r'
   exact call_range_2 (range_it I1 q1 q2 q3 q4 q)
def tFor (wi:TI)(g:TG)(tb:TS):TS:=fun D σ H=>wi σ H fun J H1=>∃W:Nat→Nat→St→Hp→Prop,(∃m,W 0 m σ H1)∧∀i m σ H,W i m σ H→
 (J.stop i H∧D.nx σ H)∨(J.go i H∧∃N:St→Hp→Prop,(∀σ' H',N σ' H'→∃m',m'<m∧W (i+1) m' σ' H')∧∀x H',J.yld i H x H'→g x σ H' fun σ2 H2=>tb {D with nx:=N,ct:=N,bk:=D.nx} σ2 H2)
def pinsAt (fp:List Addr)(h:Heap):List (Addr×Obj):=fp.filterMap fun b=>(h.get? b).map fun o=>(b,o)
theorem JJ {fp:List Addr}{h:Heap}{b:Addr}{o:Obj}(hb:b∈fp)(e:h.get? b=some o):(b,o)∈pinsAt fp h:=List.mem_filterMap.mpr ⟨b,hb,by rw [e];rfl⟩
theorem of_pinsAt {fp:List Addr}{h:Heap}{p:Addr×Obj}(hp:p∈pinsAt fp h):p.1∈fp∧h.get? p.1=some p.2:=by
 obtain⟨b,hb,e⟩:=List.mem_filterMap.mp hp
 cases q:h.get? b with
 |none=>rw [q] at e;cases e
 |some o=>
  rw [q] at e
  have e':(b,o)=p:=Option.some.inj e
  subst e'
  exact⟨hb,q⟩
theorem Inv.pinned {pins:List (Addr×Obj)}{σ:St}{H:Hp}{s:Shared}{fp:List Addr}(I:Inv X pins σ H s)(hf:∀b∈fp,FpOk X pins H b)(ho:∀b∈fp,∃o,s.heap.get? b=some o∧∀v,o.data≠ .cell v):Inv X (pins++pinsAt fp s.heap) σ H s:=
 I.pins_of fun p hp=>(List.mem_append.mp hp).elim (fun z=>I.pin p (List.mem_append_right _ z)) fun z=>by
  obtain⟨hb,e⟩:=of_pinsAt z
  obtain⟨f0,f1,f2,_⟩:=hf p.1 hb
  obtain⟨o,e',d⟩:=ho p.1 hb
  rw [e] at e';cases e'
  exact⟨e,f0,f1,f2,d⟩
theorem Inv.unpinned {pins pl:List (Addr×Obj)}{σ:St}{H:Hp}{s:Shared}(I:Inv X (pins++pl) σ H s):Inv X pins σ H s:=I.pins_of fun p hp=>I.pin p (List.mem_append_right _ (List.mem_append_left _ hp))
theorem wm {iter:Expr}{body:List Stmt}{wi:TI}{g:TG}{tb:TS}{pos:Pos}(hp:PassesOwn (model X.prog X.w) X.A X.env X.xe)(hc:X.calm=true)(hi:PI X tg iter wi)(hg:PG X tg g)(hb:PSs X body tb)
  (hs:∀x,foldedSetIterable iter X.env x=pure x:=by intro _;rfl):PS X (.For tg iter body [] pos) (tFor wi g tb):=by
 intro pins s σ H D I h
 refine wpAny_For (thn (hi pins s σ H _ I h) fun v s1 h1=>thn h1 fun itv s2 h2=> ?_) hs
 obtain⟨it,fp,tn,J,H2,e,I2,T,st2,f2,W,⟨m0,w0⟩,turn⟩:=h2
 subst e
 have stat:∀{H':Hp},(∀b∈fp,H' b=none)→∀b∈fp,FpOk X pins H' b:=fun hn b hb=>⟨hn b hb,(f2 b hb).2⟩
 refine codeAny_forLoop_any (fun n s'=>∃i σ' H',Inv X pins σ' H' s'∧tn i s'.heap∧(∀b∈fp,H' b=none)∧W i n σ' H') ?_ m0 ⟨0,σ,H2,I2,st2,fun b hb=>(f2 b hb).1,w0⟩
 rintro n s3 ⟨i,σ3,H3,I3,st3,fr3,w3⟩
 rcases turn i n σ3 H3 w3 with⟨stop,qn⟩|⟨go,N,hN,step⟩
 ·refine wpAny_passesOwn hp (thn (T.done X rfl rfl rfl hc i pins s3 σ3 H3 X.xe I3 (stat fr3) st3 stop) fun r s4 ⟨hr,I4⟩=> ?_)
  subst hr
  exact wpAny_execs_nil ⟨σ3,H3,I4,qn⟩
 ·refine wpAny_passesOwn hp (thn (T.item X rfl rfl rfl hc i pins s3 σ3 H3 X.xe I3 (stat fr3) st3 go) fun r s4 ⟨u,hr,h4⟩=> ?_)
  subst hr
  refine wpAny_passesOwn hp (thn h4 fun _ s5 ⟨x,H5,I5,r5,y5,st5,fr5⟩=> ?_)
  have I5':=I5.pinned (stat fr5) (T.obj _ _ st5)
  refine wpAny_passesOwn hp (thn (hg _ s5 σ3 H5 x u _ I5' r5 (step x H5 y5)) fun _ s6 ⟨σ6,H6,I6,q6⟩=> ?_)
  refine wpAny_passesOwn hp (thn (hb _ s6 σ6 H6 _ I6 q6) fun f s7 q7=> ?_)
  have again:∀{σ7:St}{H7:Hp},Inv X (pins++pinsAt fp s5.heap) σ7 H7 s7→N σ7 H7→∃m,m<n∧∃i σ' H',Inv X pins σ' H' s7∧tn i s7.heap∧(∀b∈fp,H' b=none)∧W i m σ' H':=fun{σ7 H7} I7 n7=>by
   obtain⟨m',hm,w7⟩:=hN σ7 H7 n7
   refine⟨m',hm,i+1,σ7,H7,I7.unpinned,T.keep _ _ _ st5 fun b hb o e=>(I7.pin (b,o) (List.mem_append_right _ (List.mem_append_right _ (JJ hb e)))).1,fun b hb=> ?_,w7⟩
   obtain⟨o,e,d⟩:=T.obj _ _ st5 b hb
   exact(I7.pin (b,o) (List.mem_append_right _ (List.mem_append_right _ (JJ hb e)))).2.1
  cases f with
  |next=>obtain⟨σ7,H7,I7,n7⟩:=q7;exact again I7 n7
  |cont=>obtain⟨σ7,H7,I7,n7⟩:=q7;exact again I7 n7
  |brk=>obtain⟨σ7,H7,I7,q7⟩:=q7;exact⟨σ7,H7,I7.unpinned,q7⟩
  |ret v=>obtain⟨x7,σ7,H7,I7,r7,q7⟩:=q7;exact⟨x7,σ7,H7,I7.unpinned,r7,q7⟩
end
theorem for_tup {K:PySem.W.Frag}{a:Addr}{xs:List V}{g:TG}{tb:TS}{D:Ends}{σ:St}{H:Hp}(Pv:Nat→St→Hp→Prop)(h0:Pv 0 σ H)(hl:∀i σ H,i≤xs.length→Pv i σ H→SqT K H a xs)
  (hs:∀i x σ H,xs[i]? =some x→Pv i σ H→g x σ H fun σ2 H2=>tb {D with nx:=Pv (i+1),ct:=Pv (i+1),bk:=D.nx} σ2 H2) (hd:∀σ H,Pv xs.length σ H→D.nx σ H):
  ∃W:Nat→Nat→St→Hp→Prop,(∃m,W 0 m σ H)∧∀i m σ H,W i m σ H→
   ((Itt K a).stop i H∧D.nx σ H)∨((Itt K a).go i H∧∃N:St→Hp→Prop,(∀σ' H',N σ' H'→∃m',m'<m∧W (i+1) m' σ' H')∧∀x H',(Itt K a).yld i H x H'→g x σ H' fun σ2 H2=>tb {D with nx:=N,ct:=N,bk:=D.nx} σ2 H2):=by
 refine⟨fun i m σ H=>m=xs.length-i∧i≤xs.length∧Pv i σ H,⟨xs.length,by simp,Nat.zero_le _,h0⟩,?_⟩
 rintro i m σ H ⟨rfl,hi,p⟩
 have q:=hl i σ H hi p
 by_cases hlt:i<xs.length
 ·refine .inr ⟨⟨xs,xs[i],q,by simp [hlt]⟩,Pv (i+1),fun σ' H' p'=>⟨xs.length-(i+1),by omega,rfl,hlt,p'⟩,fun x H' y=> ?_⟩
  obtain⟨e,y⟩:=y
  subst e
  exact hs i x σ _ (y xs q) p
 ·have e:i=xs.length:=by omega
  subst e
  exact .inl ⟨⟨xs,q,Nat.le_refl _⟩,hd σ H p⟩
theorem xO {lo:Int}{n:Nat}{g:TG}{tb:TS}{D:Ends}{σ:St}{H:Hp}(Pv:Nat→St→Hp→Prop)(h0:Pv 0 σ H)
  (hs:∀i σ H,i<n→Pv i σ H→g (.int (lo+i)) σ H fun σ2 H2=>tb {D with nx:=Pv (i+1),ct:=Pv (i+1),bk:=D.nx} σ2 H2) (hd:∀σ H,Pv n σ H→D.nx σ H):
  ∃W:Nat→Nat→St→Hp→Prop,(∃m,W 0 m σ H)∧∀i m σ H,W i m σ H→
   ((Itr lo n).stop i H∧D.nx σ H)∨((Itr lo n).go i H∧∃N:St→Hp→Prop,(∀σ' H',N σ' H'→∃m',m'<m∧W (i+1) m' σ' H')∧∀x H',(Itr lo n).yld i H x H'→g x σ H' fun σ2 H2=>tb {D with nx:=N,ct:=N,bk:=D.nx} σ2 H2):=by
 refine⟨fun i m σ H=>m=n-i∧i≤n∧Pv i σ H,⟨n,by simp,Nat.zero_le _,h0⟩,?_⟩
 rintro i m σ H ⟨rfl,hi,p⟩
 by_cases hlt:i<n
 ·refine .inr ⟨hlt,Pv (i+1),fun σ' H' p'=>⟨n-(i+1),by omega,rfl,hlt,p'⟩,fun x H' y=> ?_⟩
  obtain⟨e,y⟩:=y
  subst e y
  exact hs i σ _ hlt p
 ·have e:i=n:=by omega
  subst e
  exact .inl ⟨Nat.le_refl _,hd σ H p⟩
end L2
namespace L2
open PySem PySem.Spec PyProof.Rows
abbrev R2:=V→V→Hp→VK→Prop
def OpR (X:Cx)(f:Value→Value→Sem Value)(r:R2):Prop:=
 ∀(pins:List (Addr×Obj)) (s:Shared) (σ:St) (H:Hp) (x y:V) (v u:Value) (Q:VK),Inv X pins σ H s→RelV x v→RelV y u→r x y H Q→
  wpAny (model X.prog X.w) X.A (f v u) (EP X pins σ Q) X.xe s
def UnR (X:Cx)(f:Value→Sem Value)(r:V→Hp→VK→Prop):Prop:=
 ∀(pins:List (Addr×Obj)) (s:Shared) (σ:St) (H:Hp) (x:V) (v:Value) (Q:VK),Inv X pins σ H s→RelV x v→r x H Q→
  wpAny (model X.prog X.w) X.A (f v) (EP X pins σ Q) X.xe s
def jW (X:Cx)(f:Value)(r:List V→Hp→VK→Prop):Prop:=
 ∀(pins:List (Addr×Obj)) (s:Shared) (σ:St) (H:Hp) (xs:List V) (us:List Value) (Q:VK),Inv X pins σ H s→Vals xs us→r xs H Q→
  wpAny (model X.prog X.w) X.A (call f us) (EP X pins σ Q) X.xe s
def TruR (X:Cx)(r:V→Hp→(Bool→Hp→Prop)→Prop):Prop:=
 ∀(pins:List (Addr×Obj)) (s:Shared) (σ:St) (H:Hp) (x:V) (v:Value) (Q:Bool→Hp→Prop),Inv X pins σ H s→RelV x v→r x H Q→
  wpAny (model X.prog X.w) X.A (truthy v) (TP X pins σ Q) X.xe s
def tOp (r:R2)(ta tb:TE):TE:=fun σ H Q=>ta σ H fun x H1=>tb σ H1 fun y H2=>r x y H2 Q
def tUn (r:V→Hp→VK→Prop)(ta:TE):TE:=fun σ H Q=>ta σ H fun x H1=>r x H1 Q
def rI (C:Int→Int→Prop)(g:Int→Int→V):R2:=fun x y H Q=>∃i j,x= .int i∧y= .int j∧C i j∧Q (g i j) H
def rI0 (g:Int→Int→V):R2:=fun x y H Q=>∃i j,x= .int i∧y= .int j∧Q (g i j) H
def rU (g:Int→V):V→Hp→VK→Prop:=fun x H Q=>∃i,x= .int i∧Q (g i) H
section
variable {X:Cx}{a b c:Expr}{ta tb tc:TE}{pos:Pos}
theorem binT (ha:PE X a ta)(hb:PE X b tb){pins:List (Addr×Obj)}{s:Shared}{σ:St}{H:Hp}{R:V→V→Hp→Prop}(I:Inv X pins σ H s)
  (h:ta σ H fun x H1=>tb σ H1 fun y H2=>R x y H2) {Q:Value→Shared→Prop}{f:Value→Value→Sem Value}
  (hf:∀v u s2 x y H2,Inv X pins σ H2 s2→RelV x v→RelV y u→R x y H2→wpAny (model X.prog X.w) X.A (f v u) Q X.xe s2):
  wpAny (model X.prog X.w) X.A (eval a X.env) (fun v s₁=>wpAny (model X.prog X.w) X.A (eval b X.env) (fun u s₂=>wpAny (model X.prog X.w) X.A (f v u) Q X.xe s₂) X.xe s₁) X.xe s:=by
 refine thn (ha pins s σ H _ I h) fun v s1 ⟨x,H1,I1,r1,q1⟩=> ?_
 refine thn (hb pins s1 σ H1 _ I1 q1) fun u s2 ⟨y,H2,I2,r2,q2⟩=> ?_
 exact hf v u s2 x y H2 I2 r1 r2 q2
theorem qD {op:Operator}{r:R2}(ho:OpR X (binaryOp op) r)(ha:PE X a ta)(hb:PE X b tb):PE X (.BinOp a op b pos) (tOp r ta tb):=by
 intro pins s σ H Q I h
 exact wpAny_BinOp (binT ha hb I h fun v u s2 x y H2 I2 rx ry q=>ho pins s2 σ H2 x y v u Q I2 rx ry q)
theorem pe_un {op:UnaryOp}{r:V→Hp→VK→Prop}(ho:UnR X (unaryOp op) r)(ha:PE X a ta):PE X (.UnaryOp op a pos) (tUn r ta):=by
 intro pins s σ H Q I h
 exact UnaryOp_ (thn (ha pins s σ H _ I h) fun v s1 ⟨x,H1,I1,r1,q1⟩=>ho pins s1 σ H1 x v Q I1 r1 q1)
theorem opI {f:Value→Value→Sem Value}{C:Int→Int→Prop}{g:Int→Int→Int}
  (rule:∀(i j:Int) (t u:Tok) (s:Shared) (Q:Value→Shared→Prop) (E:Value→Shared→Prop),C i j→Q (.int (g i j) s.toks) {s with toks:=s.toks+1}→wpAny (model X.prog X.w) X.A (f (.int i t) (.int j u)) Q E s):
  OpR X f (rI C fun i j=> .int (g i j)):=by
 intro pins s σ H x y v u Q I rx ry h
 obtain⟨i,j,rfl,rfl,hc,q⟩:=h
 obtain⟨t,rfl⟩:=rx
 obtain⟨t',rfl⟩:=ry
 exact rule i j t t' s _ _ hc ⟨.int (g i j),H,I.tok _,⟨_,rfl⟩,q⟩
theorem opI0 {f:Value→Value→Sem Value}{g:Int→Int→Int}
  (rule:∀(i j:Int) (t u:Tok) (s:Shared) (Q:Value→Shared→Prop) (E:Value→Shared→Prop),Q (.int (g i j) s.toks) {s with toks:=s.toks+1}→wpAny (model X.prog X.w) X.A (f (.int i t) (.int j u)) Q E s):
  OpR X f (rI0 fun i j=> .int (g i j)):=by
 intro pins s σ H x y v u Q I rx ry h
 obtain⟨i,j,rfl,rfl,q⟩:=h
 obtain⟨t,rfl⟩:=rx
 obtain⟨t',rfl⟩:=ry
 exact rule i j t t' s _ _ ⟨.int (g i j),H,I.tok _,⟨_,rfl⟩,q⟩
theorem opB0 {f:Value→Value→Sem Value}{g:Int→Int→Bool}
  (rule:∀(i j:Int) (t u:Tok) (s:Shared) (Q:Value→Shared→Prop) (E:Value→Shared→Prop),Q (.bool (g i j)) s→wpAny (model X.prog X.w) X.A (f (.int i t) (.int j u)) Q E s):
  OpR X f (rI0 fun i j=> .bl (g i j)):=by
 intro pins s σ H x y v u Q I rx ry h
 obtain⟨i,j,rfl,rfl,q⟩:=h
 obtain⟨t,rfl⟩:=rx
 obtain⟨t',rfl⟩:=ry
 exact rule i j t t' s _ _ ⟨.bl (g i j),H,I,rfl,q⟩
def CDiv (i j:Int):Prop:=0<j∧j<1073741824
def CPow (i j:Int):Prop:=0≤j∧j≤1000000∧i.natAbs<2^64
def CMul (i j:Int):Prop:=(-(2^64)<i∧i<2^64)∨(-(2^64)<j∧j<2^64)
theorem CMul.ok {i j:Int}(h:CMul i j):IntMulOk i j:=by
 rcases h with⟨h1,h2⟩|⟨h1,h2⟩
 ·exact .of_left (intBits_le_64 h1 h2)
 ·exact .of_right (intBits_le_64 h1 h2)
theorem Qb:OpR X (binaryOp .Add) (rI0 fun i j=> .int (i+j)):=opI0 fun _ _ _ _ _ _ _ q=>add_int q
theorem xx:OpR X (binaryOp .Sub) (rI0 fun i j=> .int (i-j)):=opI0 fun _ _ _ _ _ _ _ q=>sub_int q
theorem Zh:OpR X (binaryOp .Mult) (rI CMul fun i j=> .int (i*j)):=opI fun _ _ _ _ _ _ _ hc q=>mul_int q hc.ok
theorem op_fdiv:OpR X (binaryOp .FloorDiv) (rI CDiv fun i j=> .int (i/j)):=opI fun i j _ _ _ _ _ hc q=>by
 have h1:(0:Int)<j:=hc.1
 have h2:j<1073741824:=hc.2
 exact floordiv_int (by omega) (by rw [Int.fdiv_eq_ediv_of_nonneg i (by omega)];exact q) (.inl (PyProof.noPylong_small (by omega)))
theorem XJ:OpR X (binaryOp .Mod) (rI (fun _ j=>0<j) fun i j=> .int (i%j)):=opI fun i j _ _ _ _ _ hc q=>by
 have h1:(0:Int)<j:=hc
 exact mod_int' (by omega) (by rw [Int.fmod_eq_emod_of_nonneg i (by omega)];exact q)
theorem op_pow:OpR X (binaryOp .Pow) (rI CPow fun i j=> .int (i^j.toNat)):=opI fun _ _ _ _ _ _ _ hc q=>pow_int_small hc.1 hc.2.1 hc.2.2 q
theorem unI {f:Value→Sem Value}{g:Int→Int}
  (rule:∀(i:Int) (t:Tok) (s:Shared) (Q:Value→Shared→Prop) (E:Value→Shared→Prop),Q (.int (g i) s.toks) {s with toks:=s.toks+1}→wpAny (model X.prog X.w) X.A (f (.int i t)) Q E s):
  UnR X f (rU fun i=> .int (g i)):=by
 intro pins s σ H x v Q I rx h
 obtain⟨i,rfl,q⟩:=h
 obtain⟨t,rfl⟩:=rx
 exact rule i t s _ _ ⟨.int (g i),H,I.tok _,⟨_,rfl⟩,q⟩
theorem un_neg:UnR X (unaryOp .USub) (rU fun i=> .int (-i)):=unI fun _ _ _ _ _ q=>neg_int q
end
def scal:V→V→Bool
 | .non,.non=>true| .non,.int _=>true| .int _,.non=>true| .non,.bl _=>true| .bl _,.non=>true| .non,.str _=>true| .str _,.non=>true
 | .int _,.int _=>true| .bl _,.bl _=>true| .str _,.str _=>true| .byt _,.byt _=>true
 | .int _,.str _=>true| .str _,.int _=>true| .bl _,.str _=>true| .str _,.bl _=>true
 |_,_=>false
def rEq:R2:=fun x y H Q=>scal x y=true∧Q (.bl (decide (x=y))) H
def rNe:R2:=fun x y H Q=>scal x y=true∧Q (.bl (!decide (x=y))) H
theorem dec_int {i j:Int}:decide (V.int i=V.int j)=(i==j):=by
 rw [Bool.eq_iff_iff]
 simp
theorem dec_bl {i j:Bool}:decide (V.bl i=V.bl j)=(i==j):=by
 rw [Bool.eq_iff_iff]
 simp
theorem dec_str {i j:Str}:decide (V.str i=V.str j)=(i==j):=by
 rw [Bool.eq_iff_iff]
 simp
theorem dec_byt {i j:Array UInt8}:decide (V.byt i=V.byt j)=(i.toList==j.toList):=by
 rw [Bool.eq_iff_iff]
 cases i
 cases j
 simp
section
variable {X:Cx}{a b c:Expr}{ta tb tc:TE}{pos:Pos}
theorem qY {pins:List (Addr×Obj)}{σ:St}{H:Hp}{s:Shared}{Q:VK}{k k':Bool}(I:Inv X pins σ H s)(q:Q (.bl k) H)(e:k=k'):EP X pins σ Q (.bool k') s:=by
 subst e
 exact⟨.bl k,H,I,rfl,q⟩
theorem QL:OpR X (compareOp .Eq) rEq:=by
 intro pins s σ H x y v u Q I rx ry h
 obtain⟨hs,q⟩:=h
 cases x with
 |non=>
  cases rx
  cases y with
  |non=>cases ry;exact PySem.EqNone.eq_none_none (qY I q (by simp))
  |bl j=>cases ry;exact PySem.EqNone.eq_none_bool (qY I q (by simp))
  |int j=>obtain⟨t',rfl⟩:=ry;exact PySem.EqNone.eq_none_int (qY I q (by simp))
  |str j=>obtain⟨t',rfl⟩:=ry;exact PySem.EqNone.eq_none_str (qY I q (by simp))
  |_=>exact absurd (show false=true from hs) Bool.false_ne_true
 |bl i=>
  cases rx
  cases y with
  |non=>cases ry;exact PySem.EqNone.eq_bool_none (qY I q (by simp))
  |bl j=>cases ry;exact eq_bool (qY I q dec_bl)
  |str j=>obtain⟨t',rfl⟩:=ry;exact PySem.EqMixed.eq_bool_str (qY I q (by simp))
  |_=>exact absurd (show false=true from hs) Bool.false_ne_true
 |int i=>
  obtain⟨t,rfl⟩:=rx
  cases y with
  |non=>cases ry;exact PySem.EqNone.eq_int_none (qY I q (by simp))
  |int j=>obtain⟨t',rfl⟩:=ry;exact eq_int (qY I q dec_int)
  |str j=>obtain⟨t',rfl⟩:=ry;exact PySem.EqMixed.eq_int_str (qY I q (by simp))
  |_=>exact absurd (show false=true from hs) Bool.false_ne_true
 |str i=>
  obtain⟨t,rfl⟩:=rx
  cases y with
  |non=>cases ry;exact PySem.EqNone.eq_str_none (qY I q (by simp))
  |bl j=>cases ry;exact PySem.EqMixed.eq_str_bool (qY I q (by simp))
  |int j=>obtain⟨t',rfl⟩:=ry;exact PySem.EqMixed.eq_str_int (qY I q (by simp))
  |str j=>obtain⟨t',rfl⟩:=ry;exact eq_str (qY I q dec_str)
  |_=>exact absurd (show false=true from hs) Bool.false_ne_true
 |byt i=>
  obtain⟨t,rfl⟩:=rx
  cases y with
  |byt j=>obtain⟨t',rfl⟩:=ry;exact PySem.W.eq_bytes (qY I q dec_byt)
  |_=>exact absurd (show false=true from hs) Bool.false_ne_true
 |_=>cases y<;>exact absurd (show false=true from hs) Bool.false_ne_true
theorem op_ne:OpR X (compareOp .NotEq) rNe:=by
 intro pins s σ H x y v u Q I rx ry h
 obtain⟨hs,q⟩:=h
 cases x with
 |non=>
  cases rx
  cases y with
  |non=>cases ry;exact PySem.EqNone.ne_none_none (qY I q (by simp))
  |bl j=>cases ry;exact PySem.EqNone.ne_none_bool (qY I q (by simp))
  |int j=>obtain⟨t',rfl⟩:=ry;exact PySem.EqNone.ne_none_int (qY I q (by simp))
  |str j=>obtain⟨t',rfl⟩:=ry;exact PySem.EqNone.ne_none_str (qY I q (by simp))
  |_=>exact absurd (show false=true from hs) Bool.false_ne_true
 |bl i=>
  cases rx
  cases y with
  |non=>cases ry;exact PySem.EqNone.ne_bool_none (qY I q (by simp))
  |bl j=>cases ry;exact ne_bool (qY I q (congrArg not dec_bl))
  |str j=>obtain⟨t',rfl⟩:=ry;exact PySem.EqMixed.ne_bool_str (qY I q (by simp))
  |_=>exact absurd (show false=true from hs) Bool.false_ne_true
 |int i=>
  obtain⟨t,rfl⟩:=rx
  cases y with
  |non=>cases ry;exact PySem.EqNone.ne_int_none (qY I q (by simp))
  |int j=>obtain⟨t',rfl⟩:=ry;exact ne_int (qY I q (congrArg not dec_int))
  |str j=>obtain⟨t',rfl⟩:=ry;exact PySem.EqMixed.ne_int_str (qY I q (by simp))
  |_=>exact absurd (show false=true from hs) Bool.false_ne_true
 |str i=>
  obtain⟨t,rfl⟩:=rx
  cases y with
  |non=>cases ry;exact PySem.EqNone.ne_str_none (qY I q (by simp))
  |bl j=>cases ry;exact PySem.EqMixed.ne_str_bool (qY I q (by simp))
  |int j=>obtain⟨t',rfl⟩:=ry;exact PySem.EqMixed.ne_str_int (qY I q (by simp))
  |str j=>obtain⟨t',rfl⟩:=ry;exact ne_str (qY I q (congrArg not dec_str))
  |_=>exact absurd (show false=true from hs) Bool.false_ne_true
 |byt i=>
  obtain⟨t,rfl⟩:=rx
  cases y with
  |byt j=>obtain⟨t',rfl⟩:=ry;exact PySem.W.ne_bytes (qY I q (congrArg not dec_byt))
  |_=>exact absurd (show false=true from hs) Bool.false_ne_true
 |_=>cases y<;>exact absurd (show false=true from hs) Bool.false_ne_true
theorem op_lt:OpR X (compareOp .Lt) (rI0 fun i j=> .bl (decide (i<j))):=opB0 fun _ _ _ _ _ _ _ q=>lt_int q
theorem op_le:OpR X (compareOp .LtE) (rI0 fun i j=> .bl (decide (i≤j))):=opB0 fun _ _ _ _ _ _ _ q=>le_int q
theorem XY:OpR X (compareOp .Gt) (rI0 fun i j=> .bl (decide (j<i))):=opB0 fun _ _ _ _ _ _ _ q=>gt_int q
theorem op_ge:OpR X (compareOp .GtE) (rI0 fun i j=> .bl (decide (j≤i))):=opB0 fun _ _ _ _ _ _ _ q=>ge_int q
theorem Zv:OpR X (compareOp .Lt) (fun x y H Q=>∃i j,x= .str i∧y= .str j∧Q (.bl (decide (i.cps.toList<j.cps.toList))) H):=by
 intro pins s σ H x y v u Q I rx ry h
 obtain⟨i,j,rfl,rfl,q⟩:=h
 obtain⟨t,rfl⟩:=rx
 obtain⟨t',rfl⟩:=ry
 exact lt_str (qY I q rfl)
theorem op_in_str:OpR X (compareOp .In) (fun x y H Q=>∃i j,x= .str i∧y= .str j∧Q (.bl (!(Builtin.Str.occurrences j i 0 j.length 1).isEmpty)) H):=by
 intro pins s σ H x y v u Q I rx ry h
 obtain⟨i,j,rfl,rfl,q⟩:=h
 obtain⟨t,rfl⟩:=rx
 obtain⟨t',rfl⟩:=ry
 exact in_str (qY I q rfl)
theorem Z7:OpR X (compareOp .Is) (fun x y H Q=>y= .non∧Q (.bl (decide (x= .non))) H):=by
 intro pins s σ H x y v u Q I rx ry h
 obtain⟨rfl,q⟩:=h
 cases ry
 refine is_none_gen (qY I q ?_)
 cases x<;>first
  |(cases rx;rfl)
  |(obtain⟨t,rfl⟩:=rx;rfl)
theorem op_notN:OpR X (compareOp .IsNot) (fun x y H Q=>y= .non∧Q (.bl (!decide (x= .non))) H):=by
 intro pins s σ H x y v u Q I rx ry h
 obtain⟨rfl,q⟩:=h
 cases ry
 refine isnot_none_gen (qY I q ?_)
 cases x<;>first
  |(cases rx;rfl)
  |(obtain⟨t,rfl⟩:=rx;rfl)
theorem qz (b:Expr){op:CmpOp}(h:op≠ .In:=by decide)(h2:op≠ .NotIn:=by decide):behindInMarks op b=false:=by
 have e1:(op==CmpOp.In)=false:=by cases op<;>first|rfl|exact absurd rfl h
 have e2:(op==CmpOp.NotIn)=false:=by cases op<;>first|rfl|exact absurd rfl h2
 cases b<;>simp [behindInMarks,e1,e2]
theorem Q0 {op:CmpOp}{r:R2}(ho:OpR X (compareOp op) r)(ha:PE X a ta)(hb:PE X b tb)(hm:behindInMarks op b=false):PE X (.Compare a [op] [b] pos) (tOp r ta tb):=by
 intro pins s σ H Q I h
 exact wpAny_Compare1 (binT ha hb I h fun v u s2 x y H2 I2 rx ry q=>ho pins s2 σ H2 x y v u Q I2 rx ry q) hm
def tTest (t:TE):TT:=fun σ H Q=>t σ H fun x H'=>∃k,x= .bl k∧Q k H'
theorem qp {op:CmpOp}{r:R2}(ho:OpR X (compareOp op) r)(ha:PE X a ta)(hb:PE X b tb)(hm:behindInMarks op b=false):PT X (.Compare a [op] [b] pos) (tTest (tOp r ta tb)):=by
 intro pins s σ H Q I h
 refine wpAny_isTrue_Compare1 (thn (ha pins s σ H _ I h) fun v s1 ⟨x,H1,I1,r1,q1⟩=>thn (hb pins s1 σ H1 _ I1 q1) fun u s2 ⟨y,H2,I2,r2,q2⟩=>
  thn (ho pins s2 σ H2 x y v u _ I2 r1 r2 q2) fun c s3 ⟨z,H3,I3,r3,k,e,q3⟩=> ?_) hm
 subst e
 cases r3
 exact wpAny_truthy_bool ⟨H3,I3,q3⟩
def tChain (r r':R2)(ta tb tc:TE):TE:=fun σ H Q=>ta σ H fun x H1=>tb σ H1 fun y H2=>r x y H2 fun z H3=>∃k,z= .bl k∧
 (if k=true then tc σ H3 fun w' H4=>r' y w' H4 Q else Q (.bl false) H3)
theorem pe_chain {op op':CmpOp}{r r':R2}(ho:OpR X (compareOp op) r)(ho':OpR X (compareOp op') r')(ha:PE X a ta)(hb:PE X b tb)(hc:PE X c tc)
  (hm:lastMarks [op,op'] [b,c]=false:=by with_unfolding_all rfl):PE X (.Compare a [op,op'] [b,c] pos) (tChain r r' ta tb tc):=by
 intro pins s σ H Q I h
 refine Compare_chain (thn (ha pins s σ H _ I h) fun v s1 ⟨x,H1,I1,r1,q1⟩=>chain_link (thn (hb pins s1 σ H1 _ I1 q1) fun u s2 ⟨y,H2,I2,r2,q2⟩=>
  thn (ho pins s2 σ H2 x y v u _ I2 r1 r2 q2) fun d s3 ⟨z,H3,I3,r3,k,e,q3⟩=> ?_)) hm
 subst e
 cases r3
 refine wpAny_truthy_bool ?_
 cases k with
 |false=>exact ite_ff ⟨.bl false,H3,I3,rfl,q3⟩
 |true=>exact ite_tt (chain_last (thn (hc pins s3 σ H3 _ I3 q3) fun w' s4 ⟨z',H4,I4,r4,q4⟩=>ho' pins s4 σ H4 y z' u w' Q I4 r2 r4 q4))
theorem pt_chain {op op':CmpOp}{r r':R2}(ho:OpR X (compareOp op) r)(ho':OpR X (compareOp op') r')(ha:PE X a ta)(hb:PE X b tb)(hc:PE X c tc)
  (hm:lastMarks [op,op'] [b,c]=false:=by with_unfolding_all rfl):PT X (.Compare a [op,op'] [b,c] pos) (tTest (tChain r r' ta tb tc)):=by
 intro pins s σ H Q I h
 refine isTrue_chain (thn (ha pins s σ H _ I h) fun v s1 ⟨x,H1,I1,r1,q1⟩=>test_link (thn (hb pins s1 σ H1 _ I1 q1) fun u s2 ⟨y,H2,I2,r2,q2⟩=>
  thn (ho pins s2 σ H2 x y v u _ I2 r1 r2 q2) fun d s3 ⟨z,H3,I3,r3,k,e,q3⟩=> ?_)) hm
 subst e
 cases r3
 refine wpAny_truthy_bool ?_
 cases k with
 |false=>
  obtain⟨k',e',q'⟩:=q3
  cases e'
  exact ite_ff ⟨H3,I3,q'⟩
 |true=>
  refine ite_tt (test_last (thn (hc pins s3 σ H3 _ I3 q3) fun w' s4 ⟨z',H4,I4,r4,q4⟩=>thn (ho' pins s4 σ H4 y z' u w' _ I4 r2 r4 q4) fun d' s5 ⟨z2,H5,I5,r5,k2,e2,q5⟩=> ?_))
  subst e2
  cases r5
  exact wpAny_truthy_bool ⟨H5,I5,q5⟩
def TruV (K:PySem.W.Frag)(x:V)(H:Hp)(k:Bool):Prop:=
 match x with
 | .non=>k=false
 | .bl b=>k=b
 | .int i=>k=(i !=0)
 | .str y=>y.length≤sizeLine∧k=((y.length:Int) !=0)
 | .byt y=>y.size≤sizeLine∧k=((y.size:Int) !=0)
 | .ref p=>(∃xs,SqL K H p xs∧k= !xs.isEmpty)∨(∃xs,SqT K H p xs∧k= !xs.isEmpty)∨∃kvs,H p=some (.dK kvs)∧k= !kvs.isEmpty
 |_=>False
theorem isEmpty_kv {κ:Type}{kvs:List (κ×V)}{vs:List (κ×Value)}(r:KV kvs vs):(!vs.isEmpty)= !kvs.isEmpty:=by
 cases r<;>rfl
theorem wc {xs:List V}{its:List Value}(r:Vals xs its):(!its.toArray.isEmpty)= !xs.isEmpty:=by
 cases r<;>simp
theorem XC:(sizeLine:Nat)<2^63:=by rw [sizeLine_eq];decide
theorem tru_ok:TruR X (fun x H Q=>∃k,TruV X.K x H k∧Q k H):=by
 intro pins s σ H x v Q I rx h
 obtain⟨k,e,q⟩:=h
 have hl:=XC
 have hs:sizeLine=16777216:=sizeLine_eq
 cases x with
 |non=>
  cases rx
  have e':k=false:=e
  subst e'
  exact truthy_none ⟨H,I,q⟩
 |bl b=>
  cases rx
  have e':k=b:=e
  subst e'
  exact wpAny_truthy_bool ⟨H,I,q⟩
 |int i=>
  obtain⟨t,rfl⟩:=rx
  have e':k=(i !=0):=e
  subst e'
  exact PySem.P.truthy_int ⟨H,I,q⟩
 |str y=>
  obtain⟨t,rfl⟩:=rx
  obtain⟨hy,e'⟩:y.length≤sizeLine∧k=((y.length:Int) !=0):=e
  subst e'
  exact PySem.P.truthy_str (by omega) ⟨H,I.tok _,q⟩
 |byt y=>
  obtain⟨t,rfl⟩:=rx
  obtain⟨hy,e'⟩:y.size≤sizeLine∧k=((y.size:Int) !=0):=e
  subst e'
  exact PySem.W.truthy_bytes (by omega) ⟨H,I.tok _,q⟩
 |ref p=>
  cases rx
  have e':(∃xs,SqL X.K H p xs∧k= !xs.isEmpty)∨(∃xs,SqT X.K H p xs∧k= !xs.isEmpty)∨∃kvs,H p=some (.dK kvs)∧k= !kvs.isEmpty:=e
  rcases e' with⟨xs,hx,e'⟩|⟨xs,hx,e'⟩|⟨kvs,hx,e'⟩
  ·subst e'
   obtain⟨its,r,pl,hz⟩:=I.list hx
   have hlen:=r.length
   exact wpAny_truthy_list pl.isList (by simp only [List.size_toArray];omega) ⟨H,I.tok _,by rw [wc r];exact q⟩
  ·subst e'
   obtain⟨its,r,pl,hz⟩:=I.tuple hx
   have hlen:=r.length
   exact truthy_tuple pl (by simp only [List.size_toArray];omega) ⟨H,I.tok _,by rw [wc r];exact q⟩
  ·subst e'
   obtain⟨hz,hS,vs,r,m⟩:kvs.length≤sizeLine∧(p==sysModules)=false∧∃vs,KV kvs vs∧s.heap.DictOf (QC X.prog X.w) p vs:=I.hok p _ hx
   have hlen:kvs.length=vs.length:=Paired.length r
   exact wpAny_truthy_dict hS m (by omega) ⟨H,I.tok _,by rw [isEmpty_kv r];exact q⟩
 |_=>exact(show False from e).elim
theorem pt_truth (ha:PE X a ta)(he:∀whole,isTrue a X.env whole=(do let v←whole;standAt a.pos;holding [v] (truthy v))):
  PT X a (fun σ H Q=>ta σ H fun x H'=>∃k,TruV X.K x H' k∧Q k H'):=by
 intro pins s σ H Q I h
 exact isTrue_plain (thn (ha pins s σ H _ I h) fun v s1 ⟨x,H1,I1,r1,q1⟩=>tru_ok pins s1 σ H1 x v Q I1 r1 q1) (he _)
theorem qX:OpR X (binaryOp .Add) (fun x y H Q=>∃i j,x= .str i∧y= .str j∧i.length+j.length≤sizeLine∧Q (.str (i++j)) H):=by
 intro pins s σ H x y v u Q I rx ry h
 obtain⟨i,j,rfl,rfl,hz,q⟩:=h
 obtain⟨t,rfl⟩:=rx
 obtain⟨t',rfl⟩:=ry
 exact wpAny_with_toks (n:=1) I.tk (add_str (fun t' tk htk=>⟨.str (i++j),H,I.tok _,⟨_,rfl⟩,q⟩) hz)
theorem xM {x:V}{us:List Value}(r:Vals [x] us):∃u,us= [u]∧RelV x u:=by
 cases r with
 |cons r1 r2=>cases r2;exact⟨_,rfl,r1⟩
theorem vals2 {x y:V}{us:List Value}(r:Vals [x,y] us):∃u w',us= [u,w']∧RelV x u∧RelV y w':=by
 cases r with
 |cons r1 r2=>
  cases r2 with
  |cons r3 r4=>cases r4;exact⟨_,_,rfl,r1,r3⟩
theorem call_abs:jW X (.builtin "abs") (fun xs H Q=>∃i,xs= [.int i]∧Q (.int (if i<0 then-i else i)) H):=by
 intro pins s σ H xs us Q I r h
 obtain⟨i,rfl,q⟩:=h
 obtain⟨u,rfl,t,rfl⟩:=xM r
 exact wpAny_with_toks (n:=1) I.tk (call_abs_int fun u tk htk=>⟨.int (if i<0 then-i else i),H,I.tok _,⟨_,rfl⟩,q⟩)
theorem call_min2 (hc:X.calm=true):jW X (.builtin "min") (fun xs H Q=>∃i j,xs= [.int i,.int j]∧Q (.int (if j<i then j else i)) H):=by
 intro pins s σ H xs us Q I r h
 obtain⟨i,j,rfl,q⟩:=h
 obtain⟨u,w',rfl,⟨t,rfl⟩,⟨t',rfl⟩⟩:=vals2 r
 refine wpAny_with_toks (n:=1) I.tk (min_two_ints (I.ok.hd hc) fun h' tk k htk=>⟨_,H,I.kept k,?_,q⟩)
 by_cases hj:j<i
 ·rw [if_pos hj,if_pos hj];exact⟨_,rfl⟩
 ·rw [if_neg hj,if_neg hj];exact⟨_,rfl⟩
theorem call_int1:jW X (.type "int") (fun xs H Q=>(∃i,xs= [.int i]∧Q (.int i) H)∨∃k,xs= [.bl k]∧Q (.int (if k then 1 else 0)) H):=by
 intro pins s σ H xs us Q I r h
 rcases h with⟨i,rfl,q⟩|⟨k,rfl,q⟩
 ·obtain⟨u,rfl,t,rfl⟩:=xM r
  exact call_int_int ⟨.int i,H,I,⟨_,rfl⟩,q⟩
 ·obtain⟨u,rfl,r1⟩:=xM r
  cases r1
  exact call_int_bool ⟨.int (if k then 1 else 0),H,I.tok _,⟨_,rfl⟩,q⟩
theorem QA:jW X (.type "str") (fun xs H Q=>∃i,xs= [.int i]∧i.natAbs.log2<1920∧Q (.str (toString i)) H):=by
 intro pins s σ H xs us Q I r h
 obtain⟨i,rfl,hz,q⟩:=h
 obtain⟨u,rfl,t,rfl⟩:=xM r
 exact PySem.P.str_of_int hz ⟨.str _,H,I.tok _,⟨_,rfl⟩,q⟩
theorem call_ord:jW X (.builtin "ord") (fun xs H Q=>∃x,xs= [.str x]∧x.length=1∧Q (.int (x.cps.getD 0 0:Nat)) H):=by
 intro pins s σ H xs us Q I r h
 obtain⟨x,rfl,hz,q⟩:=h
 obtain⟨u,rfl,t,rfl⟩:=xM r
 exact ord_of_one hz ⟨.int _,H,I.tok _,⟨_,rfl⟩,q⟩
def LenV (K:PySem.W.Frag)(x:V)(H:Hp)(n:Nat):Prop:=
 match x with
 | .str y=>y.length≤sizeLine∧n=y.length
 | .byt y=>y.size≤sizeLine∧n=y.size
 | .ref p=>(∃xs,SqL K H p xs∧n=xs.length)∨∃xs,SqT K H p xs∧n=xs.length
 |_=>False
theorem zj:jW X (.builtin "len") (fun xs H Q=>∃x n,xs= [x]∧LenV X.K x H n∧Q (.int n) H):=by
 intro pins s σ H xs us Q I r h
 obtain⟨x,n,rfl,e,q⟩:=h
 obtain⟨u,rfl,rx⟩:=xM r
 have hl:=XC
 have hs:sizeLine=16777216:=sizeLine_eq
 cases x with
 |str y=>
  obtain⟨t,rfl⟩:=rx
  obtain⟨hy,e'⟩:y.length≤sizeLine∧n=y.length:=e
  subst e'
  exact len_str (by omega) ⟨.int _,H,I.tok _,⟨_,rfl⟩,q⟩
 |byt y=>
  obtain⟨t,rfl⟩:=rx
  obtain⟨hy,e'⟩:y.size≤sizeLine∧n=y.size:=e
  subst e'
  exact PySem.W.len_bytes (by omega) ⟨.int _,H,I.tok _,⟨_,rfl⟩,q⟩
 |ref p=>
  cases rx
  have e':(∃xs,SqL X.K H p xs∧n=xs.length)∨∃xs,SqT X.K H p xs∧n=xs.length:=e
  rcases e' with⟨xs,hx,e'⟩|⟨xs,hx,e'⟩
  ·subst e'
   obtain⟨its,r',pl,hz⟩:=I.list hx
   have hlen:=r'.length
   exact Calls.call_len_list pl.isList (by simp only [List.size_toArray];omega) ⟨.int xs.length,H,I.tok _,⟨_,by simp only [List.size_toArray];rw [hlen]⟩,q⟩
  ·subst e'
   obtain⟨its,r',pl,hz⟩:=I.tuple hx
   have hlen:=r'.length
   exact len_tuple pl (by simp only [List.size_toArray];omega) ⟨.int xs.length,H,I.tok _,⟨_,by simp only [List.size_toArray];rw [hlen]⟩,q⟩
 |_=>exact(show False from e).elim
end
end L2
namespace L2
open PySem PySem.Spec PyProof.Rows
structure ObjM (h:Heap)(x dx C:Addr)(mA:Str→Option Value):Prop where
 obj:h.get? x=some (PySem.W.instObj C dx)
 ns:h.Ns1 dx mA
 ne:dx≠x
theorem lookIn_ns {h:Heap}{dx:Addr}{mA:Str→Option Value}(n:h.Ns1 dx mA):∃od,h.get? dx=some od∧∀name,PySem.W.lookIn name od=some (mA name):=by
 obtain⟨o,es,ep,ho,hd,hk,_,hm⟩:=n
 refine⟨o,ho,fun name=> ?_⟩
 have e:=hm name
 unfold nsFind findBy at e
 rw [←Array.find?_toList] at e
 unfold PySem.W.lookIn
 rw [hd]
 dsimp only
 split
 ·rename_i y q
  rw [q] at e
  exact congrArg some e
 ·rename_i q
  rw [q] at e
  have a:es.toList.any (·.refKey)=false:=by
   rw [List.any_eq_false]
   intro y hy
   obtain⟨z,t,hkey⟩:=hk y (Array.mem_toList_iff.mp hy)
   simp [DictEntry.refKey,hkey]
  have a':¬es.toList.any (·.refKey)=true:=by rw [a];exact Bool.false_ne_true
  rw [if_neg a']
  exact congrArg some e
theorem ObjM.look {h:Heap}{x dx C:Addr}{mA:Str→Option Value}(I:ObjM h x dx C mA):∃od,PySem.W.InstAt h x (PySem.W.instObj C dx) C (some od)∧∀name,PySem.W.lookIn name od=some (mA name):=
 let⟨od,ho,hl⟩:=lookIn_ns I.ns
 ⟨od,⟨I.obj,rfl,rfl,ho⟩,hl⟩
section
variable {prog:Program}{w:World}{A:Around}{E:Value→Shared→Prop}{s:Shared}{K:PySem.W.Frag}{x dx C f:Addr}{mA:Str→Option Value}{name:Str}{v:Value}
theorem get_map {expr:Bool}{Q:Value→Shared→Prop}(X:K.In s.heap)(I:ObjM s.heap x dx C mA)(hg:PySem.W.plainGet K C name=true)(hh:PySem.W.hasDictIn K C=true)
  (ha:PySem.W.findIn K (.ref C) name=some none) (hv:mA name=some v) (hv':PySem.W.handedIn v=true) (h:Q v {s with toks:=s.toks+1}):
  wpAny (model prog w) A (getAttr (.ref x) name expr) Q E s:=by
 obtain⟨od,J,hl⟩:=I.look
 exact PySem.W.get_value X J (PySem.W.plainGet_of hg).1 (PySem.W.findObj_own hh ha rfl (by rw [hl,hv])) hv' h
theorem get_meth {pl:Sem Bool}{Q:Value×List Value→Shared→Prop}(X:K.In s.heap)(I:ObjM s.heap x dx C mA)(hg:PySem.W.plainGet K C name=true)
  (hf:PySem.W.findIn K (.ref C) name=some (some (.ref f))) (ht:PySem.W.isFn K (.ref f)=true) (hv:mA name=none) (h:Q (.ref f,[.ref x]) s):
  wpAny (model prog w) A (getMethod (.ref x) name pl) Q E s:=by
 obtain⟨od,J,hl⟩:=I.look
 exact PySem.W.method_fn X J (PySem.W.plainGet_of hg).1 (PySem.W.plainGet_of hg).2 hf (beq_iff_eq.mp ht) (by show(PySem.W.lookIn name od).map (·.isSome)=some false;rw [hl,hv];rfl) h
theorem set_map {ns:List Str}{Q:Unit→Shared→Prop}(X:K.In s.heap)(I:ObjM s.heap x dx C mA)
  (hs:PySem.W.findIn K (.ref C) "__setattr__"=some (some (.builtin "object.__setattr__"))) (hp:PySem.W.plainOver K C=true) (ht:PySem.W.takerIn K C name=some none) (hh:PySem.W.hasDictIn K C=true)
  (hw:PySem.Within mA ns) (hsz:ns.length≤sizeLine)
  (h:∀h',ObjM h' x dx C (fun y=>if y=name then some v else mA y)→Heap.SameBut dx s.heap h'→Q () {s with heap:=h',toks:=s.toks+2}):
  wpAny (model prog w) A (setAttr (.ref x) name v) Q E s:=by
 obtain⟨od,J,hl⟩:=I.look
 refine PySem.W.set_plain X J hs (PySem.W.osa_open (s:={s with toks:=s.toks+1}) (r:=none) X J hp ht fun b=> ?_)
 obtain⟨cd,hc,hd'⟩:=PySem.W.any_some hh
 have hx:s.heap.get? x=some ⟨.ref C,some dx,.plain,#[]⟩:=I.obj
 refine wpAny_bind (wpAny_pure (wpAny_bind (wpAny_bind (wpAny_loadPart hx (wpAny_bind (PySem.W.Looks.here (s:={s with toks:=s.toks+1}) (PySem.W.looks_clsIn X hc) ?_))))))
 rw [hd']
 refine wpAny_pure (a:=some dx) (wpAny_bind (wpAny_pure (wpAny_bind ?_)))
 refine wpAny_nsSet1 (s:={s with toks:=s.toks+1}) I.ns fun h' hn2 hs2=> ?_
 obtain⟨oD,esD,epD,hoD,hdD,hcD⟩:=hn2.count (PySem.Within.cons name v hw)
 refine wpAny_bind (wpAny_lookBehind hoD (by rw [hdD];exact pastItsLine_dict (Nat.le_trans hcD (by rw [List.length_cons];omega))) ?_)
 exact wpAny_pure (h _ ⟨(hs2.2 _ (Ne.symm I.ne)).trans I.obj,hn2,I.ne⟩ hs2)
theorem make_map {R:Result→Shared→Prop}{vs:List Value}{kw:List (Str×Value)}(X:K.In s.heap)(hm:PySem.W.makesIn K C=true)
  (hi:PySem.W.findIn K (.ref C) "__init__"=some (some (.ref f))) (hf:PySem.W.typeIn K (.ref f)=some (.type "function"))
  (h:codeAny (model prog w) (A.under (.builtin "type.__call__" ⟨.ref C::vs,kw⟩)) (.call (.ref f) ⟨.ref (s.heap.objs.size+1)::vs,kw⟩) (PySem.W.InitBack (s.heap.objs.size+1) R)
   {s with heap:=(s.heap.push PySem.W.emptyDict).push (PySem.W.instObj C s.heap.objs.size)}):
  codeAny (model prog w) A (.call (.ref C) ⟨vs,kw⟩) R s:=by
 obtain⟨hh,g,d,t,os⟩:=s
 exact PySem.W.make_core (PySem.W.makes_of X hm) (PySem.W.looks_findIn X hi) (fun self=>PySem.W.bind_fn X self hf) (.inl rfl) h
end
def putF (f:Str)(v:V):List (Str×V)→List (Str×V)
 | []=> [(f,v)]
 |(g,x)::r=>if g=f then(g,v)::r else(g,x)::putF f v r
theorem qJ (f g:Str)(v:V):∀fs:List (Str×V),(putF f v fs).lookup g=if g=f then some v else fs.lookup g
 | []=>by
  show List.lookup g [(f,v)]=_
  by_cases h:g=f
  ·have hb:(g==f)=true:=beq_iff_eq.mpr h
   simp only [List.lookup,hb,if_pos h]
  ·have hb:(g==f)=false:=beq_eq_false_iff_ne.mpr h
   simp only [List.lookup,hb,if_neg h]
 |(k,x)::r=>by
  have ih:=qJ f g v r
  rw [show putF f v ((k,x)::r)=(if k=f then(k,v)::r else(k,x)::putF f v r) from rfl]
  by_cases hk:k=f
  ·rw [if_pos hk]
   by_cases h:g=k
   ·have hb:(g==k)=true:=beq_iff_eq.mpr h
    simp only [List.lookup,hb,if_pos (h.trans hk)]
   ·have hb:(g==k)=false:=beq_eq_false_iff_ne.mpr h
    simp only [List.lookup,hb,if_neg (fun e:g=f=>h (e.trans hk.symm))]
  ·rw [if_neg hk]
   by_cases h:g=k
   ·have hb:(g==k)=true:=beq_iff_eq.mpr h
    simp only [List.lookup,hb,if_neg (fun e:g=f=>hk (h.symm.trans e))]
   ·have hb:(g==k)=false:=beq_eq_false_iff_ne.mpr h
    simp only [List.lookup,hb]
    exact ih
theorem Zc (f:Str)(v:V):∀fs:List (Str×V),f∈(putF f v fs).map (·.1)∧∀g,g∈fs.map (·.1)→g∈(putF f v fs).map (·.1)
 | []=>⟨by simp [putF],fun g h=>by simp at h⟩
 |(k,x)::r=>by
  obtain⟨i1,i2⟩:=Zc f v r
  rw [show putF f v ((k,x)::r)=(if k=f then(k,v)::r else(k,x)::putF f v r) from rfl]
  by_cases hk:k=f
  ·rw [if_pos hk]
   subst hk
   exact⟨by simp,fun g h=>by simpa using h⟩
  ·rw [if_neg hk]
   refine⟨?_,fun g h=> ?_⟩
   ·rw [List.map_cons]
    exact List.mem_cons_of_mem _ i1
   ·rw [List.map_cons] at h⊢
    rcases List.mem_cons.mp h with e|e
    ·exact List.mem_cons.mpr (.inl e)
    ·exact List.mem_cons_of_mem _ (i2 g e)
theorem Zf (f:Str)(v:V):∀fs:List (Str×V),(putF f v fs).length≤fs.length+1
 | []=>by simp [putF]
 |(k,x)::r=>by
  have ih:=Zf f v r
  rw [show putF f v ((k,x)::r)=(if k=f then(k,v)::r else(k,x)::putF f v r) from rfl]
  by_cases hk:k=f
  ·rw [if_pos hk,List.length_cons,List.length_cons];omega
  ·rw [if_neg hk,List.length_cons,List.length_cons];omega
theorem RelO.some_of {v:V}{o:Option Value}(r:RelO (some v) o):∃u,o=some u∧RelV v u:=by
 cases o with
 |none=>exact(show False from r).elim
 |some u=>exact⟨u,rfl,r⟩
theorem RelO.none_of {o:Option Value}(r:RelO none o):o=none:=by
 cases o with
 |none=>rfl
 |some u=>exact(show False from r).elim
theorem handed_of {v:V}{u:Value}(r:RelV v u):PySem.W.handedIn u=true:=by
 cases v with
 |non=>cases(show u=Value.none from r);rfl
 |bl b=>cases(show u=Value.bool b from r);rfl
 |int i=>obtain⟨t,e⟩:=(show∃t,u=Value.int i t from r);cases e;rfl
 |str x=>obtain⟨t,e⟩:=(show∃t,u=Value.str x t from r);cases e;rfl
 |byt b=>obtain⟨t,e⟩:=(show∃t,u=Value.bytes b t from r);cases e;rfl
 |flt b=>obtain⟨t,e⟩:=(show∃t,u=Value.float b t from r);cases e;rfl
 |ref a=>cases(show u=Value.ref a from r);rfl
 |ty n=>cases(show u=Value.type n from r);rfl
section
variable {P:Program}{w:World}{H H':Hp}{h h':Heap}{a C dx:Addr}{fs fs':List (Str×V)}
theorem Wo (hok:HOk P w H h)(e:H a=some (.ins C dx fs)):∃mA,ObjM h a dx C mA∧(∀f,RelO (fs.lookup f) (mA f))∧PySem.Within mA (fs.map (·.1))∧fs.length≤1000∧H dx=some (.own a):=by
 obtain⟨d,z,ne,ob,mA,n,r,q⟩:=(show yL P w H h a (.ins C dx fs) from hok a _ e)
 exact⟨mA,⟨ob,n,ne⟩,r,q,z,d⟩
end
structure Cls (K:PySem.W.Frag)(C:Addr):Prop where
 pg:PySem.W.plainGet K C Str.empty=true
 hd:PySem.W.hasDictIn K C=true
 po:PySem.W.plainOver K C=true
 sa:PySem.W.findIn K (.ref C) "__setattr__"=some (some (.builtin "object.__setattr__"))
theorem Cls.get {K:PySem.W.Frag}{C:Addr}(c:Cls K C)(f:Str):PySem.W.plainGet K C f=true:=c.pg
def ja (K:PySem.W.Frag)(C:Addr)(f:Str):Prop:=PySem.W.findIn K (.ref C) f=some none
theorem ja.taker {K:PySem.W.Frag}{C:Addr}{f:Str}(n:ja K C f):PySem.W.takerIn K C f=some none:=by
 unfold PySem.W.takerIn
 rw [show PySem.W.findIn K (.ref C) f=some none from n]
 rfl
structure Meth (K:PySem.W.Frag)(C:Addr)(m:Str)(f:Addr):Prop where
 at_:PySem.W.findIn K (.ref C) m=some (some (.ref f))
 fn:PySem.W.isFn K (.ref f)=true
 kp:PySem.W.keepIn K (.ref f)=true
section
variable {X:Cx}{pins:List (Addr×Obj)}{σ:St}{H:Hp}{s:Shared}{a C dx:Addr}{fs:List (Str×V)}{f:Str}{v:V}{A:Around}{E:Value→Shared→Prop}
theorem wp {b:Bool}{Q:Value→Shared→Prop}(I:Inv X pins σ H s)(e:H a=some (.ins C dx fs))(c:Cls X.K C)(n:ja X.K C f)(l:fs.lookup f=some v)
  (h:∀u s',Inv X pins σ H s'→RelV v u→Q u s'):wpAny (model X.prog X.w) A (getAttr (.ref a) f b) Q E s:=by
 obtain⟨mA,O,r,_,_,_⟩:=Wo I.hok e
 obtain⟨u,hu,ru⟩:=RelO.some_of (v:=v) (o:=mA f) (by rw [←l];exact r f)
 exact get_map I.kIn O (c.get f) c.hd n hu (handed_of ru) (h u _ (I.tok _) ru)
theorem Xg {m:Str}{g:Addr}{pl:Sem Bool}{Q:Value×List Value→Shared→Prop}(I:Inv X pins σ H s)(e:H a=some (.ins C dx fs))(c:Cls X.K C)(k:Meth X.K C m g)(l:fs.lookup m=none)
  (h:Q (.ref g,[.ref a]) s):wpAny (model X.prog X.w) A (getMethod (.ref a) m pl) Q E s:=by
 obtain⟨mA,O,r,_,_,_⟩:=Wo I.hok e
 have hn:mA m=none:=RelO.none_of (by rw [←l];exact r m)
 exact get_meth I.kIn O (c.get m) k.at_ k.fn hn h
theorem wx {y:V}{u:Value}{Q:Unit→Shared→Prop}(I:Inv X pins σ H s)(e:H a=some (.ins C dx fs))(c:Cls X.K C)(n:ja X.K C f)(hl:fs.length<1000)(ry:RelV y u)
  (h:∀s',Inv X pins σ (upd H a (.ins C dx (putF f y fs))) s'→Q () s'):wpAny (model X.prog X.w) A (setAttr (.ref a) f u) Q E s:=by
 obtain⟨mA,O,r,wi,_,ho⟩:=Wo I.hok e
 have hz:(fs.map (·.1)).length≤sizeLine:=by rw [List.length_map,sizeLine_eq];omega
 refine set_map I.kIn O c.sa c.po n.taker c.hd wi hz fun h' O' sb=>h _ ?_
 have hd:∃o,h'.get? dx=some o:=let⟨o,_,_,e',_⟩:=O'.ns;⟨o,e'⟩
 refine I.write (x:=a) (e:=dx) (by rw [e];exact True.intro) (.inr ho) (fun b q hb z=>(sb.2 b hb).trans z) hd ?_
 refine⟨by rw [qu O.ne];exact ho,?_,O.ne,O'.obj,_,O'.ns,fun g=> ?_,fun g hg=> ?_⟩
 ·have:=Zf f y fs;omega
 ·show RelO ((putF f y fs).lookup g) (if g=f then some u else mA g)
  rw [qJ]
  by_cases q:g=f
  ·rw [if_pos q,if_pos q];exact ry
  ·rw [if_neg q,if_neg q];exact r g
 ·by_cases q:g=f
  ·rw [q];exact(Zc f y fs).1
  ·refine(Zc f y fs).2 g (wi g fun z=>hg ?_)
   show(if g=f then some u else mA g)=none
   rw [if_neg q];exact z
theorem Inv.made (I:Inv X pins σ H s):Inv X pins σ (upd (upd H s.heap.objs.size (.own (s.heap.objs.size+1))) (s.heap.objs.size+1) (.ins C s.heap.objs.size []))
  {s with heap:=(s.heap.push PySem.W.emptyDict).push (PySem.W.instObj C s.heap.objs.size)}:=by
 have e1:(s.heap.push PySem.W.emptyDict).get? s.heap.objs.size=some PySem.W.emptyDict:=Heap.get?_push_size s.heap rfl
 have e2:((s.heap.push PySem.W.emptyDict).push (PySem.W.instObj C s.heap.objs.size)).get? (s.heap.objs.size+1)=some (PySem.W.instObj C s.heap.objs.size):=by
  have:=Heap.get?_push_size (s.heap.push PySem.W.emptyDict) (o:=PySem.W.instObj C s.heap.objs.size) rfl
  rwa [Heap.size_push] at this
 have e3:(s.heap.push PySem.W.emptyDict).Ns s.heap.objs.size (fun _=>none):=⟨PySem.W.emptyDict,#[],_,e1,rfl,(fun e he=>absurd he (by simp)),fun _=>rfl⟩
 have I1:=I.laid (a:=s.heap.objs.size) (o:= .own (s.heap.objs.size+1)) (h':=s.heap.push PySem.W.emptyDict) (t':=s.toks) (fun b u q=>Heap.get?_push_of_some _ q) (Nat.le_refl _) ⟨_,e1⟩
 refine I1.laid (a:=s.heap.objs.size+1) (o:= .ins C s.heap.objs.size []) (t':=s.toks) (fun b u q=>Heap.get?_push_of_some _ q) (Nat.le_of_eq (Heap.size_push _ _)) ?_
 have ne:s.heap.objs.size≠s.heap.objs.size+1:=Nat.ne_of_lt (Nat.lt_succ_self _)
 refine⟨by rw [qu ne,qf],Nat.zero_le _,ne,e2,fun _=>none,(Heap.Ns1.of_empty e3).at fun o q=>Heap.get?_push_of_some _ q,fun _=>True.intro,fun y hy=>absurd rfl hy⟩
theorem attr_of {prog:Program}{w:World}{env:Env}{e:Expr}{f:Str}{pos:Pos}{s:Shared}{Q:Value→Shared→Prop}(hb:attributeBase e f env (eval e env)=eval e env)
  (h:wpAny (model prog w) A (eval e env) (fun o s₁=>wpAny (model prog w) A (getAttr o f true) Q E s₁) E s):wpAny (model prog w) A (eval (.Attribute e f pos) env) Q E s:=
 Attribute_any_ h (by rw [arm_eval_Attribute,hb])
end
def tFld (K:PySem.W.Frag)(ta:TE)(f:Str):TE:=fun σ H Q=>ta σ H fun x H1=>∃a C dx fs v,x= .ref a∧H1 a=some (.ins C dx fs)∧Cls K C∧ja K C f∧fs.lookup f=some v∧Q v H1
def sFld (K:PySem.W.Frag)(ta tv:TE)(f:Str):TS:=fun D σ H=>tv σ H fun y H1=>ta σ H1 fun x H2=>∃a C dx fs,x= .ref a∧H2 a=some (.ins C dx fs)∧Cls K C∧ja K C f∧fs.length<1000∧
 D.nx σ (upd H2 a (.ins C dx (putF f y fs)))
def InOp (X:Cx)(op:Operator)(rd:V→V→Hp→VK→Prop):Prop:=
 ∀(pins:List (Addr×Obj)) (s:Shared) (σ:St) (H:Hp) (x y:V) (u v:Value) (Q:VK),Inv X pins σ H s→RelV x u→RelV y v→rd x y H Q→wpAny (model X.prog X.w) X.A (inplaceOp op u v) (EP X pins σ Q) X.xe s
def sFldAug (K:PySem.W.Frag)(ta tv:TE)(rd:V→V→Hp→VK→Prop)(f:Str):TS:=fun D σ H=>ta σ H fun x H1=>∃a C dx fs v,x= .ref a∧H1 a=some (.ins C dx fs)∧Cls K C∧ja K C f∧fs.lookup f=some v∧
 tv σ H1 fun y H2=>rd v y H2 fun z H3=>∃dx' fs',H3 a=some (.ins C dx' fs')∧fs'.length<1000∧D.nx σ (upd H3 a (.ins C dx' (putF f z fs')))
section
variable {X:Cx}{o e value:Expr}{f:Str}{pos pos' tpos:Pos}{ta tv:TE}
theorem ya (he:PE X e ta)(hb:attributeBase e f X.env (eval e X.env)=eval e X.env):PE X (.Attribute e f pos) (tFld X.K ta f):=by
 intro pins s σ H Q I h
 refine attr_of hb (thn (he pins s σ H _ I h) fun u s1 ⟨x,H1,I1,rx,a,C,dx,fs,v,ex,ea,c,n,l,q⟩=> ?_)
 subst ex
 obtain rfl:u=Value.ref a:=rx
 exact wp I1 ea c n l fun u' s2 I2 ru=>⟨v,H1,I2,ru,q⟩
theorem yN (ha:PE X o ta)(hv:PE X value tv)(hs:swapsWith value (some (.Attribute o f pos')) pos.line X.env=pure false):PS X (.Assign [.Attribute o f pos'] value pos) (sFld X.K ta tv f):=by
 intro pins s σ H D I h
 refine plainObj_wpAny_Assign_Attribute (thn (hv pins s σ H _ I h) fun u s1 ⟨y,H1,I1,ry,q⟩=>thn (ha pins s1 σ H1 _ I1 q) fun ov s2 ⟨x,H2,I2,rx,a,C,dx,fs,ex,ea,c,n,l,q2⟩=> ?_) hs
 subst ex
 obtain rfl:ov=Value.ref a:=rx
 exact wx I2 ea c n l ry fun s3 I3=>⟨σ,_,I3,q2⟩
theorem Jk {op:Operator}{rd:V→V→Hp→VK→Prop}(ha:PE X o ta)(hv:PE X value tv)(hop:InOp X op rd):PS X (.AugAssign (.Attribute o f tpos) op value pos) (sFldAug X.K ta tv rd f):=by
 intro pins s σ H D I h
 refine wpAny_AugAssign_AttributeAny (thn (ha pins s σ H _ I h) fun ov s1 ⟨x,H1,I1,rx,a,C,dx,fs,v,ex,ea,c,n,l,q⟩=> ?_)
 subst ex
 obtain rfl:ov=Value.ref a:=rx
 refine wp I1 ea c n l fun u s2 I2 ru=>thn (hv pins s2 σ H1 _ I2 q) fun w3 s3 ⟨y,H2,I3,ry,q3⟩=>thn (hop pins s3 σ H2 v y u w3 _ I3 ru ry q3) fun w4 s4 ⟨z,H3,I4,rz,dx',fs',ea',l',q4⟩=> ?_
 exact wx I4 ea' c n l' rz fun s5 I5=>⟨σ,_,I5,q4⟩
def rAdd:V→V→Hp→VK→Prop:=fun x y H Q=>∃i j,x= .int i∧y= .int j∧Q (.int (i+j)) H
theorem in_add:InOp X .Add rAdd:=by
 rintro pins s σ H x y u v Q I rx ry ⟨i,j,rfl,rfl,q⟩
 obtain⟨t,rfl⟩:=(show∃t,u=Value.int i t from rx)
 obtain⟨t',rfl⟩:=(show∃t',v=Value.int j t' from ry)
 exact PyProof.Rows.iadd_int ⟨.int (i+j),H,I.tok _,⟨_,rfl⟩,q⟩
theorem methcall_of {pl:Sem Bool}{m:Str}{apos:Pos}{args:List Expr}{pins:List (Addr×Obj)}{s:Shared}{σ:St}{H:Hp}{Q:Value→Shared→Prop}{te:TE}(he:PE X e te)(I:Inv X pins σ H s)
  (h:te σ H fun x H1=>∃a C dx fs g,x= .ref a∧H1 a=some (.ins C dx fs)∧Cls X.K C∧Meth X.K C m g∧fs.lookup m=none∧
   ∀s1,Inv X pins σ H1 s1→wpAny (model X.prog X.w) X.A (callWith pos (.ref g) [.ref a] (backTo pos (starEach args X.env)) (backToKw pos (keywordEach [] X.env))) Q X.xe s1)
  (ht:eval (.Call (.Attribute e m apos) args [] pos) X.env=(do
   let ov←eval e X.env
   standAt apos.atName
   let(f,first)←holding [ov] (getMethod ov m pl)
   callWith pos f first (backTo pos (starEach args X.env)) (backToKw pos (keywordEach [] X.env)))):
  wpAny (model X.prog X.w) X.A (eval (.Call (.Attribute e m apos) args [] pos) X.env) Q X.xe s:=by
 refine PySem.W.methodCall_KW (pl:=pl) (thn (he pins s σ H _ I h) fun u s1 ⟨x,H1,I1,rx,a,C,dx,fs,g,ex,ea,c,k,l,q⟩=> ?_) ht
 subst ex
 obtain rfl:u=Value.ref a:=rx
 exact Xg I1 ea c k l (q s1 I1)
end
section
variable {X:Cx}{pins:List (Addr×Obj)}{σ:St}{H:Hp}{s:Shared}{A:Around}{E:Value→Shared→Prop}{Q:Value→Shared→Prop}{c:Value}{b:Bool}
inductive TyOf (K:PySem.W.Frag) (H:Hp):V→Value→Prop where
 |non:TyOf K H .non (.type "NoneType")
 |bl (x:Bool):TyOf K H (.bl x) (.type "bool")
 |int (i:Int):TyOf K H (.int i) (.type "int")
 |str (x:Str):TyOf K H (.str x) (.type "str")
 |flt (x:UInt64):TyOf K H (.flt x) (.type "float")
 |lst {a:Addr}{xs:List V} (e:H a=some (.lst xs)):TyOf K H (.ref a) (.type "list")
 |frz {a:Addr}{o:Obj}{xs:List V} (e:H a=some (.frz o (.lst xs))):TyOf K H (.ref a) (.type "list")
 |tup {a:Addr}{xs:List V} (e:H a=some (.tup xs)):TyOf K H (.ref a) (.type "tuple")
 |dK {a:Addr}{kvs:List (Key×V)} (e:H a=some (.dK kvs)):TyOf K H (.ref a) (.type "dict")
 |dT {a:Addr}{kvs:List (List Key×V)} (e:H a=some (.dT kvs)):TyOf K H (.ref a) (.type "dict")
 |ins {a C dx:Addr}{fs:List (Str×V)} (e:H a=some (.ins C dx fs)) (cl:Cls K C) (ha:PySem.W.findIn K (.ref C) "__class__"=some (some (.builtin "object.__class__")))
   (hn:PySem.W.specialIn K (.builtin "object.__class__") "__get__"=some (some (.builtin "getset_descriptor.__get__"))) (htk:PySem.W.takesIn K (.builtin "object.__class__")=some true)
   (hm:PySem.W.mroIn K C (.type "object")=some true):TyOf K H (.ref a) (.ref C)
theorem isinst_ok {x:V}{u t:Value}(I:Inv X pins σ H s)(rx:RelV x u)(ty:TyOf X.K H x t)(e:PySem.W.kitOne X.K t c=some b)(h:∀tk,Q (.bool b) {s with toks:=tk}):
  wpAny (model X.prog X.w) A (call (.builtin "isinstance") [u,c]) Q E s:=by
 cases ty with
 |non=>cases(show u=Value.none from rx);exact PySem.W.kia_one PySem.W.kitx_none I.kIn True.intro e (fun z=>nomatch z) h
 |bl y=>cases(show u=Value.bool y from rx);exact PySem.W.kia_one PySem.W.kitx_bool I.kIn True.intro e (fun z=>nomatch z) h
 |int i=>obtain⟨t,q⟩:=(show∃t,u=Value.int i t from rx);cases q;exact PySem.W.kia_one PySem.W.kitx_int I.kIn True.intro e (fun z=>nomatch z) h
 |str y=>obtain⟨t,q⟩:=(show∃t,u=Value.str y t from rx);cases q;exact PySem.W.kia_one PySem.W.kitx_str I.kIn True.intro e (fun z=>nomatch z) h
 |flt y=>obtain⟨t,q⟩:=(show∃t,u=Value.float y t from rx);cases q;exact PySem.W.kia_one PySem.W.kitx_float I.kIn True.intro e (fun z=>nomatch z) h
 | @lst a xs ea=>
  cases(show u=Value.ref a from rx)
  obtain⟨_,_,n,_,h1⟩:=(show yL X.prog X.w H s.heap a (.lst xs) from I.hok a _ ea)
  exact PySem.W.kia_one PySem.W.kitx_list I.kIn ⟨_,h1,rfl⟩ e (fun z=>nomatch z) h
 | @frz a ob xs ea=>
  cases(show u=Value.ref a from rx)
  obtain⟨_,_,_,n,_,h1⟩:=(show yL X.prog X.w H s.heap a (.frz ob (.lst xs)) from I.hok a _ ea)
  exact PySem.W.kia_one PySem.W.kitx_list I.kIn ⟨_,h1,rfl⟩ e (fun z=>nomatch z) h
 | @tup a xs ea=>
  cases(show u=Value.ref a from rx)
  obtain⟨_,_,_,p⟩:=(show yL X.prog X.w H s.heap a (.tup xs) from I.hok a _ ea)
  obtain⟨o,h1,h2,_⟩:=p
  exact PySem.W.kia_one PySem.W.kitx_tuple I.kIn ⟨o,h1,h2⟩ e (fun z=>nomatch z) h
 | @dK a kvs ea=>
  cases(show u=Value.ref a from rx)
  obtain⟨_,_,vs,_,p⟩:=(show yL X.prog X.w H s.heap a (.dK kvs) from I.hok a _ ea)
  obtain⟨o,es,ep,h1,h2,_⟩:=p
  exact PySem.W.kia_one PySem.W.kitx_dict I.kIn ⟨o,h1,h2.1⟩ e (fun z=>nomatch z) h
 | @dT a kvs ea=>
  cases(show u=Value.ref a from rx)
  obtain⟨_,_,xs,_,o,es,ep,h1,h2,_⟩:=(show yL X.prog X.w H s.heap a (.dT kvs) from I.hok a _ ea)
  exact PySem.W.kia_one PySem.W.kitx_dict I.kIn ⟨o,h1,h2.1⟩ e (fun z=>nomatch z) h
 | @ins a C dx fs ea cl ha hn htk hm=>
  cases(show u=Value.ref a from rx)
  obtain⟨mA,O,_⟩:=Wo I.hok ea
  obtain⟨od,J,_⟩:=O.look
  exact PySem.W.kia_one (PySem.W.kitx_own (cl.get _) cl.hd ha hn htk hm) I.kIn J e (fun z=>nomatch z) h
end
end L2
namespace L2
open PySem PySem.Spec PyProof.Rows
structure Room (k:Nat)(A:Around):Prop where
 hd:A.handled=none
 dp:A.depth+3*k+5<recursionLimit
 un:A.units+16*k+200<cLine
theorem Room.mono {j k:Nat}{A:Around}(r:Room k A)(h:j≤k):Room j A:=⟨r.hd,by have:=r.dp;omega,by have:=r.un;omega⟩
theorem Room.deeper {k:Nat}{A:Around}(r:Room (k+1) A)(env:Env):Room k (A.deeper env):=
 ⟨r.hd,by have:=r.dp;show A.depth+1+3*k+5<_;omega,by have:=r.un;show A.units+3+16*k+200<_;omega⟩
theorem make_depth {A:Around}{C:Addr}{us:List Value}{kw:List (Str×Value)}:(A.under (.builtin "type.__call__" ⟨.ref C::us,kw⟩)).depth=A.depth+1:=by
 first|rfl|simp [Around.under,Code.weight,Code.isCreation,Code.isGuard,Code.isCaller,Code.frames,Code.isFrame,guardIds]
theorem make_units {A:Around}{C:Addr}{us:List Value}{kw:List (Str×Value)}:(A.under (.builtin "type.__call__" ⟨.ref C::us,kw⟩)).units=A.units+1:=by
 first|rfl|simp [Around.under,Code.cUnits,Code.frames,Code.isFrame]
theorem Room.make {k:Nat}{A:Around}(r:Room (k+1) A)(C:Addr)(us:List Value)(kw:List (Str×Value)):Room k (A.under (.builtin "type.__call__" ⟨.ref C::us,kw⟩)):=
 ⟨r.hd,by have:=r.dp;rw [make_depth];omega,by have:=r.un;rw [make_units];omega⟩
theorem Room.depth {k:Nat}{A:Around}(r:Room k A):A.depth<recursionLimit:=by have:=r.dp;omega
theorem Room.units {k:Nat}{A:Around}(r:Room k A):A.units+64<cLine:=by have:=r.un;omega
theorem Room.units0 {k:Nat}{A:Around}(r:Room k A):A.units<cLine:=by have:=r.un;omega
def tNil:TA:=fun _ H Q=>Q [] H
def tCons (ta:TE)(tr:TA):TA:=fun σ H Q=>ta σ H fun x H1=>tr σ H1 fun xs H2=>Q (x::xs) H2
section
variable {X:Cx}{e:Expr}{es:List Expr}{te:TE}{t:TA}{pos:Pos}
theorem qc:PA X [] tNil:=fun _ _ _ _ H Q I h=>Calls.spliced_nil ⟨[],H,I,.nil,h⟩
theorem qa (ha:PE X e te)(hr:PA X es t)(hs:starEach (e::es) X.env=(false,eval e X.env)::starEach es X.env:=by rfl):PA X (e::es) (tCons te t):=by
 intro pos pins s σ H Q I h
 rw [hs]
 show wpAny _ _ (spliced ((false,eval e X.env)::backTo pos (starEach es X.env))) _ _ s
 refine Calls.spliced_cons (thn (ha pins s σ H _ I h) fun u s1 ⟨x,H1,I1,r1,q1⟩=> ?_)
 exact thn (hr pos pins s1 σ H1 _ I1 q1) fun us s2 ⟨xs,H2,I2,r2,q2⟩=>⟨x::xs,H2,I2,.cons r1 r2,q2⟩
def tTup (t:TA):TE:=fun σ H Q=>t σ H fun xs H1=>xs.length≤sizeLine∧∀p,H1 p=none→Q (.ref p) (upd H1 p (.tup xs))
def tLst (t:TA):TE:=fun σ H Q=>t σ H fun xs H1=>xs.length≤sizeLine∧∀p,H1 p=none→Q (.ref p) (upd H1 p (.lst xs))
theorem qP {x1}(h:PA X es t):PE X (.Tuple es x1 pos) (tTup t):=by
 intro pins s σ H Q I hq
 refine wpAny_Tuple_spliced (thn (h pos pins s σ H _ I hq) fun us s1 ⟨xs,H1,I1,r,z,q⟩=>⟨by rw [←r.length];exact z,?_⟩)
 have hf:H1 s1.heap.objs.size=none:=I1.hok.fresh (Nat.le_refl _)
 refine⟨.ref s1.heap.objs.size,upd H1 s1.heap.objs.size (.tup xs),I1.laid (t':=s1.toks) (fun b u e=>Heap.get?_push_of_some _ e) (Nat.le_refl _) ?_,rfl,q _ hf⟩
 exact⟨z,us,r,⟨_,Heap.get?_push_size _ rfl,rfl,_,rfl⟩⟩
theorem Qu (h:PA X es t):PE X (.List es pos) (tLst t):=by
 intro pins s σ H Q I hq
 refine wpAny_List_spliced (thn (h pos pins s σ H _ I hq) fun us s1 ⟨xs,H1,I1,r,z,q⟩=>⟨by rw [←r.length];exact z,?_⟩)
 have hf:H1 s1.heap.objs.size=none:=I1.hok.fresh (Nat.le_refl _)
 refine⟨.ref s1.heap.objs.size,upd H1 s1.heap.objs.size (.lst xs),I1.laid (t':=s1.toks) (fun b u e=>Heap.get?_push_of_some _ e) (Nat.le_refl _) ?_,rfl,q _ hf⟩
 exact⟨z,us,0,r,Heap.get?_push_size _ rfl⟩
end
abbrev Sp:=List V→Hp→VK→XK→Prop
abbrev CXT:=List Env→Hp→Shared→XK→Value→Shared→Prop
structure Env0 (P:Program)(w:World)(K:PySem.W.Frag)(mg:Str→Option Value)(base:Heap)(A:Around)(outer:List Env)(s:Shared)(H:Hp):Prop where
 frames:A.frames=some outer
 mod:Mod K mg base
 bs:∀b o,base.get? b=some o→s.heap.get? b=some o∧H b=none
 bsz:base.objs.size≤s.heap.objs.size
 funs:s.heap.FunFrames base outer
 frf:∀b∈frs outer,H b=none
 hok:HOk P w H s.heap
 bare:AllBare s.gens
def CE (outer:List Env)(P:Program)(w:World)(H:Hp)(s:Shared)(Q:VK)(u:Value)(s':Shared):Prop:=
 ∃v H',s'.os=s.os∧AllBare s'.gens∧0<s'.toks∧Un (frs outer) [] H H' s.heap s'.heap∧HOk P w H' s'.heap∧RelV v u∧Q v H'
def CR (CX:CXT)(outer:List Env)(P:Program)(w:World)(H:Hp)(s:Shared)(Q:VK)(E:XK)(r:Result)(s':Shared):Prop:=
 match r with
 | .ok (.ret u)=>CE outer P w H s Q u s'
 | .ok _=>False
 | .error e=>CX outer H s E e s'
structure FnOk (P:Program)(w:World)(K:PySem.W.Frag)(mg:Str→Option Value)(base:Heap)(CX:CXT)(k:Nat)(f:Addr)(fd:FuncData)(ps:List Str)(sp:Sp):Prop where
 len:∀vs H Q E,sp vs H Q E→vs.length=ps.length
 run:∀(A:Around) (outer:List Env) (s:Shared) (H:Hp) (args:Args) (us:List Value) (vs:List V) (Q:VK) (E:XK),Room k A→Env0 P w K mg base A outer s H→BindsTo s fd args (ps.zip us)→Vals vs us→sp vs H Q E→(0<s.toks∨∃x r,ps=x::r∧fd.scope.names.lookup x=some .local)→
  codeAny (model P w) A (.call (.ref f) args) (CR CX outer P w H s Q E) s
theorem Env0.make {P:Program}{w:World}{K:PySem.W.Frag}{mg:Str→Option Value}{base:Heap}{A:Around}{outer:List Env}{s:Shared}{H:Hp}(e:Env0 P w K mg base A outer s H)(C:Addr)(us:List Value)(kw:List (Str×Value)):
  Env0 P w K mg base (A.under (.builtin "type.__call__" ⟨.ref C::us,kw⟩)) outer s H:=⟨by first|exact e.frames|(simpa [Around.under,Code.envs,Code.isFrame,pushEnvs] using e.frames),e.mod,e.bs,e.bsz,e.funs,e.frf,e.hok,e.bare⟩
section
variable {X:Cx}{pins:List (Addr×Obj)}{σ:St}{H:Hp}{s s':Shared}
theorem Inv.env0 (I:Inv X pins σ H s):Env0 X.prog X.w X.K X.mg X.base X.A X.stack s H:=
 ⟨I.ok.frames,I.ok.mod,I.bs,Nat.le_trans I.ok.bsz I.sz,I.stack,I.stkFree,I.hok,I.bare⟩
theorem Inv.after {Q:VK}{u:Value}(I:Inv X pins σ H s)(h:CE X.stack X.prog X.w H s Q u s'):EP X pins σ Q u s':=by
 obtain⟨v,H',os,bare,htk,un,hok,r,q⟩:=h
 obtain⟨hh,g,d,t,os'⟩:=s'
 obtain rfl:os'=s.os:=os
 exact⟨v,H',I.call (h':=hh) (g':=g) (d':=d) (t':=t) (ch:= []) un hok bare (fun b z=>absurd z (by simp)),r,q⟩
end
def tCall (sp:Sp)(dvs:List V)(E:XK)(t:TA):TE:=fun σ H Q=>t σ H fun vs H1=>sp (vs++dvs) H1 Q E
def tMeth (C:Addr)(m:Str)(sp:Sp)(dvs:List V)(E:XK)(ta:TE)(t:TA):TE:=fun σ H Q=>ta σ H fun x H1=>∃a dx fs,x= .ref a∧H1 a=some (.ins C dx fs)∧fs.lookup m=none∧
 t σ H1 fun vs H2=>sp (x::(vs++dvs)) H2 Q E
def tMake (C:Addr)(sp:Sp)(dvs:List V)(E:XK)(t:TA):TE:=fun σ H Q=>t σ H fun vs H1=>∀x dx,H1 x=none→H1 dx=none→dx≠x→
 sp (.ref x::(vs++dvs)) (upd (upd H1 dx (.own x)) x (.ins C dx [])) (fun v H2=>v= .non∧Q (.ref x) H2) E
def qR (K:PySem.W.Frag)(fd:FuncData)(ps:List Str)(ds:List Value):Prop:=
 ∀(s:Shared) (us:List Value),K.In s.heap→(us++ds).length=ps.length→BindsTo s fd ⟨us,[]⟩ (ps.zip (us++ds))
theorem qR.all {K:PySem.W.Frag}{fd:FuncData}{ps:List Str}(h:∀us:List Value,us.length=ps.length→bindArgs fd ⟨us,[]⟩=pure (ps.zip us)):qR K fd ps []:=fun s us _ hl=>by
 rw [List.append_nil] at hl⊢
 exact .of_eq (h us hl)
def Za (CX:CXT)(X:Cx)(E:XK):Prop:=∀(pins:List (Addr×Obj)) (σ:St) (H:Hp) (s:Shared) (e:Value) (s':Shared),Inv X pins σ H s→CX X.stack H s E e s'→X.xe e s'
section
variable {X:Cx}{CX:CXT}{k:Nat}{f C:Addr}{fd:FuncData}{ps:List Str}{sp:Sp}{dvs:List V}{ds:List Value}{E:XK}{x m:Str}{p pos apos:Pos}{e o:Expr}{es:List Expr}{ta:TE}{t:TA}
theorem run_fn {pins:List (Addr×Obj)}{σ:St}{H:Hp}{s:Shared}{Q:VK}{us:List Value}{vs:List V}(F:FnOk X.prog X.w X.K X.mg X.base CX k f fd ps sp)(hr:Room k X.A)(hb:qR X.K fd ps ds)(hd:Vals dvs ds)(hx:Za CX X E)
  (I:Inv X pins σ H s) (r:Vals vs us) (h:sp (vs++dvs) H Q E):wpAny (model X.prog X.w) X.A (call (.ref f) us) (EP X pins σ Q) X.xe s:=by
 have r2:Vals (vs++dvs) (us++ds):=r.append hd
 have hl:(us++ds).length=ps.length:=by rw [←r2.length];exact F.len _ _ _ _ h
 refine wpAny_call (codeAny_mono (F.run X.A X.stack s H ⟨us,[]⟩ (us++ds) (vs++dvs) Q E hr I.env0 (hb s us I.kIn hl) r2 h (.inl I.tk)) fun r s' hq=> ?_)
 cases r with
 |error e=>exact hx pins σ H s e s' I hq
 |ok fl=>
  cases fl with
  |ret u=>exact I.after hq
  |next=>exact False.elim hq
  |brk=>exact False.elim hq
  |cont=>exact False.elim hq
theorem qA (F:FnOk X.prog X.w X.K X.mg X.base CX k f fd ps sp)(hr:Room k X.A)(hg:Gl X x)(hm:X.mg x=some (.ref f))(hk:PySem.W.keepIn X.K (.ref f)=true)(hb:qR X.K fd ps ds)(hd:Vals dvs ds)(hx:Za CX X E)
  (ha:PA X (e::es) t) (hdb:(x==("__debug__":Str))=false:=by decide) (he:starEach (e::es) X.env=(false,eval e X.env)::starEach es X.env:=by rfl) (hpl:(backTo pos (starEach es X.env)).any (·.1)=false:=by rfl):
  PE X (.Call (.Name x p) (e::es) [] pos) (tCall sp dvs E t):=by
 intro pins s σ H Q I h
 refine wpAny_Call_Name_kw (ld_glob I hg hm ?_ hdb)
 refine PySem.W.callWith_K (h₀:=X.base) I.ok.mod.kin hk (thn (ha pos pins s σ H _ I h) fun us s1 ⟨vs,H1,I1,r,q⟩=>⟨I1.kIn,?_⟩) he hpl
 exact run_fn F hr hb hd hx I1 r q
theorem pe_meth {pl:Sem Bool}(he:PE X o ta)(c:Cls X.K C)(hm:Meth X.K C m f)(F:FnOk X.prog X.w X.K X.mg X.base CX k f fd ps sp)(hr:Room k X.A)(hb:qR X.K fd ps ds)(hd:Vals dvs ds)(hx:Za CX X E)(ha:PA X (e::es) t)
  (hst:starEach (e::es) X.env=(false,eval e X.env)::starEach es X.env:=by rfl) (hpl:(backTo pos (starEach es X.env)).any (·.1)=false:=by rfl)
  (ht:eval (.Call (.Attribute o m apos) (e::es) [] pos) X.env=(do
   let ov←eval o X.env
   standAt apos.atName
   let(f,first)←holding [ov] (getMethod ov m pl)
   callWith pos f first (backTo pos (starEach (e::es) X.env)) (backToKw pos (keywordEach [] X.env))):=by rfl):
  PE X (.Call (.Attribute o m apos) (e::es) [] pos) (tMeth C m sp dvs E ta t):=by
 intro pins s σ H Q I h
 refine PySem.W.methodCall_KW (pl:=pl) (thn (he pins s σ H _ I h) fun u s1 ⟨x,H1,I1,rx,a,dx,fs,ex,ea,l,q⟩=> ?_) ht
 subst ex
 obtain rfl:u=Value.ref a:=rx
 refine Xg I1 ea c hm l ?_
 refine PySem.W.callWith_K (first:= [.ref a]) (h₀:=X.base) I.ok.mod.kin hm.kp (thn (ha pos pins s1 σ H1 _ I1 q) fun us s2 ⟨vs,H2,I2,r,q2⟩=>⟨I2.kIn,?_⟩) hst hpl
 exact run_fn (us:= .ref a::us) (vs:= .ref a::vs) F hr hb hd hx I2 (.cons rfl r) q2
theorem jP {pl:Sem Bool}(he:PE X o ta)(c:Cls X.K C)(hm:Meth X.K C m f)(F:FnOk X.prog X.w X.K X.mg X.base CX k f fd ps sp)(hr:Room k X.A)(hb:qR X.K fd ps ds)(hd:Vals dvs ds)(hx:Za CX X E)
  (ht:eval (.Call (.Attribute o m apos) [] [] pos) X.env=(do
   let ov←eval o X.env
   standAt apos.atName
   let(f,first)←holding [ov] (getMethod ov m pl)
   callWith pos f first (backTo pos (starEach [] X.env)) (backToKw pos (keywordEach [] X.env))):=by rfl):
  PE X (.Call (.Attribute o m apos) [] [] pos) (tMeth C m sp dvs E ta tNil):=by
 intro pins s σ H Q I h
 refine PySem.W.methodCall_KW (pl:=pl) (thn (he pins s σ H _ I h) fun u s1 ⟨x,H1,I1,rx,a,dx,fs,ex,ea,l,q⟩=> ?_) ht
 subst ex
 obtain rfl:u=Value.ref a:=rx
 refine Xg I1 ea c hm l ?_
 exact PySem.W.callWith_K0 (first:= [.ref a]) I1.kIn hm.kp (run_fn (us:= [.ref a]) (vs:= [.ref a]) F hr hb hd hx I1 (.cons rfl .nil) q)
structure Mk (K:PySem.W.Frag)(C f:Addr):Prop where
 makes:PySem.W.makesIn K C=true
 init:PySem.W.findIn K (.ref C) "__init__"=some (some (.ref f))
 fn:PySem.W.isFn K (.ref f)=true
 kp:PySem.W.keepIn K (.ref C)=true
theorem run_make {pins:List (Addr×Obj)}{σ:St}{H:Hp}{s:Shared}{Q:VK}{us:List Value}{vs:List V}(M:Mk X.K C f)(F:FnOk X.prog X.w X.K X.mg X.base CX k f fd ps sp)(hr:Room (k+1) X.A)(hb:qR X.K fd ps ds)(hd:Vals dvs ds)
  (hx:Za CX X E) (I:Inv X pins σ H s) (r:Vals vs us)
  (h:∀x dx,H x=none→H dx=none→dx≠x→sp (.ref x::(vs++dvs)) (upd (upd H dx (.own x)) x (.ins C dx [])) (fun v H2=>v= .non∧Q (.ref x) H2) E):
  wpAny (model X.prog X.w) X.A (call (.ref C) us) (EP X pins σ Q) X.xe s:=by
 have hq:=h (s.heap.objs.size+1) s.heap.objs.size (I.hok.fresh (Nat.le_succ _)) (I.hok.fresh (Nat.le_refl _)) (Nat.ne_of_lt (Nat.lt_succ_self _))
 have I2:=Inv.made (C:=C) I
 have r2:Vals (V.ref (s.heap.objs.size+1)::(vs++dvs)) (Value.ref (s.heap.objs.size+1)::(us++ds)):= .cons rfl (r.append hd)
 have hl:(Value.ref (s.heap.objs.size+1)::us++ds).length=ps.length:=by
  have e:=r2.length
  rw [F.len _ _ _ _ hq] at e
  exact e.symm
 refine wpAny_call (make_map (f:=f) I.kIn M.makes M.init (beq_iff_eq.mp M.fn) (codeAny_mono (F.run _ X.stack _ _ ⟨Value.ref (s.heap.objs.size+1)::us,[]⟩ (Value.ref (s.heap.objs.size+1)::(us++ds)) _ _ E (hr.make C us [])
  (I2.env0.make C us []) (hb _ (Value.ref (s.heap.objs.size+1)::us) I2.kIn hl) r2 hq (.inl I2.tk)) fun r s' hq'=> ?_))
 cases r with
 |error e=>exact hx pins σ _ _ e s' I2 hq'
 |ok fl=>
  cases fl with
  |ret u=>
   obtain⟨v,H',I3,rv,ev,q3⟩:=I2.after hq'
   subst ev
   exact⟨rv,⟨V.ref (s.heap.objs.size+1),H',I3,rfl,q3⟩⟩
  |next=>exact False.elim hq'
  |brk=>exact False.elim hq'
  |cont=>exact False.elim hq'
theorem pe_make (M:Mk X.K C f)(F:FnOk X.prog X.w X.K X.mg X.base CX k f fd ps sp)(hr:Room (k+1) X.A)(hg:Gl X x)(hm:X.mg x=some (.ref C))(hb:qR X.K fd ps ds)(hd:Vals dvs ds)(hx:Za CX X E)
  (ha:PA X (e::es) t) (hdb:(x==("__debug__":Str))=false:=by decide) (he:starEach (e::es) X.env=(false,eval e X.env)::starEach es X.env:=by rfl) (hpl:(backTo pos (starEach es X.env)).any (·.1)=false:=by rfl):
  PE X (.Call (.Name x p) (e::es) [] pos) (tMake C sp dvs E t):=by
 intro pins s σ H Q I h
 refine wpAny_Call_Name_kw (ld_glob I hg hm ?_ hdb)
 refine PySem.W.callWith_K (h₀:=X.base) I.ok.mod.kin M.kp (thn (ha pos pins s σ H _ I h) fun us s1 ⟨vs,H1,I1,r,q⟩=>⟨I1.kIn,?_⟩) he hpl
 exact run_make M F hr hb hd hx I1 r q
end
section
variable {X:Cx}{CX:CXT}{k:Nat}{f C:Addr}{fd:FuncData}{ps ks:List Str}{sp:Sp}{E:XK}{x m:Str}{p pos apos kpos:Pos}{e o:Expr}{es:List Expr}{kws:List Keyword}{te ta:TE}{t tk:TA}{nm:Option Str}
variable {g:List Value→List Value→List Value}{gV:List V→List V→List V}
end
structure qy (N P:List Str)(sc:Scope):Prop where
 kind:sc.kind= .function
 co:sc.isCoroutine=false
 gen:sc.isGenerator=false
 nd:N.Nodup
 pre:N.take P.length=P
 par:∀x∈P,sc.names.lookup x=some .local∨sc.names.lookup x=some .cell
 nofree:∀y∈sc.names,y.2≠ .free
theorem bindL_out {kindOf:Str→Option NameKind}{x:Str}:∀{binds:List (Str×Value)}{m:Str→Option Value},(∀v,(x,v)∉binds)→bindL kindOf binds m x=m x
 | [],_,_=>rfl
 |(n,v)::r,m,h=>by
  unfold bindL
  rw [bindL_out fun w hw=>h w (List.mem_cons_of_mem _ hw)]
  split
  ·have:x≠n:=by rintro rfl;exact h v List.mem_cons_self
   simp [this]
  ·rfl
theorem bindC_out {kindOf:Str→Option NameKind}{x:Str}:∀{binds:List (Str×Value)}{m:Str→Option Value},(∀v,(x,v)∉binds)→bindC kindOf binds m x=m x
 | [],_,_=>rfl
 |(n,v)::r,m,h=>by
  unfold bindC
  rw [bindC_out fun w hw=>h w (List.mem_cons_of_mem _ hw)]
  split
  ·rfl
  ·have:x≠n:=by rintro rfl;exact h v List.mem_cons_self
   simp [this]
theorem bindL_get {kindOf:Str→Option NameKind}{x:Str}{v:Value}:∀{P:List Str}{vs:List Value}{i:Nat}{m:Str→Option Value},P.Nodup→P[i]? =some x→vs[i]? =some v→kindOf x=some .local→
  bindL kindOf (P.zip vs) m x=some v
 | [],_,_,_,_,h,_,_=>by simp at h
 |_::_,[],_,_,_,_,h,_=>by simp at h
 |p::P,w::vs,0,m,nd,h1,h2,hk=>by
  simp at h1 h2;subst h1;subst h2
  show bindL kindOf ((p,w)::P.zip vs) m p=_
  unfold bindL
  rw [bindL_out fun v hv=>(List.nodup_cons.mp nd).1 (List.of_mem_zip hv).1,if_pos hk]
  simp
 |p::P,w::vs,i+1,m,nd,h1,h2,hk=>by
  show bindL kindOf ((p,w)::P.zip vs) m x=_
  unfold bindL
  exact bindL_get (i:=i) (List.nodup_cons.mp nd).2 (by simpa using h1) (by simpa using h2) hk
theorem bindC_get {kindOf:Str→Option NameKind}{x:Str}{v:Value}:∀{P:List Str}{vs:List Value}{i:Nat}{m:Str→Option Value},P.Nodup→P[i]? =some x→vs[i]? =some v→kindOf x≠some .local→
  bindC kindOf (P.zip vs) m x=some v
 | [],_,_,_,_,h,_,_=>by simp at h
 |_::_,[],_,_,_,_,h,_=>by simp at h
 |p::P,w::vs,0,m,nd,h1,h2,hk=>by
  simp at h1 h2;subst h1;subst h2
  show bindC kindOf ((p,w)::P.zip vs) m p=_
  unfold bindC
  rw [bindC_out fun v hv=>(List.nodup_cons.mp nd).1 (List.of_mem_zip hv).1,if_neg hk]
  simp
 |p::P,w::vs,i+1,m,nd,h1,h2,hk=>by
  show bindC kindOf ((p,w)::P.zip vs) m x=_
  unfold bindC
  exact bindC_get (i:=i) (List.nodup_cons.mp nd).2 (by simpa using h1) (by simpa using h2) hk
def start (N:List Str)(vs:List V):St:=vs.map some++List.replicate (N.length-vs.length) none
def cxOf (CX:CXT)(P:Program)(w:World)(K:PySem.W.Frag)(mg:Str→Option Value)(base:Heap)(N:List Str)(qual:Str)(scope:Scope)(f:Addr)(cd:Value)(A:Around)(outer:List Env)(s:Shared)(H:Hp)(E:XK):Cx where
 prog:=P
 w:=w
 K:=K
 mg:=mg
 base:=base
 A:=A.deeper (envOfC qual scope s.heap.objs.size f cd)
 N:=N
 s₀:=s
 H₀:=H
 env:=envOfC qual scope s.heap.objs.size f cd
 outer:=outer
 stack:=envOfC qual scope s.heap.objs.size f cd::outer
 ex:= []
 calm:=true
 fn:=fun _=>true
 pn:= []
 xe:=fun e s'=>wpAny (model P w) (A.deeper (envOfC qual scope s.heap.objs.size f cd)) (leaving (envOfC qual scope s.heap.objs.size f cd) e) (fun _ s''=>CX outer H s E e s'') (fun e' s''=>CX outer H s E e' s'') s'
theorem cell_has {sc:Scope}{n:Nat}{x:Str}(h:sc.names.lookup x=some .cell):∃c,(cellsFrom n sc.names []).lookup x=some c:=by
 have q:=PySem.W.cellsFrom_some sc.names n [] (.inl h)
 exact Option.isSome_iff_exists.mp q
theorem inv_start {CX:CXT}{P:Program}{w:World}{K:PySem.W.Frag}{mg:Str→Option Value}{base:Heap}{N ps:List Str}{qual:Str}{scope:Scope}{f:Addr}{cd:Value}{A:Around}{outer:List Env}{s s1:Shared}{H:Hp}{E:XK}{us:List Value}{vs:List V}
  (S:qy N ps scope) (hd:A.handled=none) (e0:Env0 P w K mg base A outer s H) (hl:vs.length=ps.length) (r:Vals vs us)
  (x:InCallC s s.heap.objs.size (bindL (envOfC qual scope s.heap.objs.size f cd).kindOf (ps.zip us) fun _=>none) (cellsFrom (s.heap.objs.size+1) scope.names []) (bindC (envOfC qual scope s.heap.objs.size f cd).kindOf (ps.zip us) fun _=>none) s1) (ht1:0<s1.toks):
  Inv (cxOf CX P w K mg base N qual scope f cd A outer s H E) [] (start N vs) H s1:=by
 have hpl:ps.length≤N.length:=by have:=congrArg List.length S.pre;rw [List.length_take] at this;omega
 obtain⟨h1,tk,rfl,hk⟩:=x.done
 have noA:∀b:Addr,b∉(cxOf CX P w K mg base N qual scope f cd A outer s H E).ex:=fun b z=>absurd (show b∈([]:List Addr) from z) (by simp)
 refine⟨⟨e0.mod,S.kind,rfl,rfl,Nat.le_refl _,fun y z c h1 h2=> ?_,fun y hy=> ?_,fun y c _ h=> ?_,fun _=>hd,Around.frames_deeper e0.frames,.inr ⟨rfl,rfl⟩,fun b z=>absurd z (noA b),e0.bs,e0.bsz,fun b _ _=>noA b,fun b z=>absurd z (noA b),e0.funs,e0.frf⟩,
  rfl,e0.bare,Un.kept hk,⟨_,x.toInCall.ns,fun i y v h1 h2 h3=> ?_⟩,fun y c h=>⟨_,x.cell y c h⟩,e0.hok.fresh (Nat.le_refl _),fun y c h=> ?_,fun p hp=>absurd (show p∈([]:List (Addr×Obj)) from hp) (by simp),e0.hok.kept hk,?_,ht1⟩
 ·exact name_of_addr x.apart (PySem.mem_of_lookup h1) (PySem.mem_of_lookup h2)
 ·have hy:scope.names.lookup y=some .cell∨scope.names.lookup y=some .free:=hy
  rcases hy with hy|hy
  ·exact cell_has hy
  ·exact absurd rfl (S.nofree _ (PySem.mem_of_lookup hy))
 ·exact Nat.le_of_lt (x.above y c (PySem.mem_of_lookup h))
 ·have hi:i<vs.length:=by
   unfold start at h2
   by_cases hi:i<vs.length
   ·exact hi
   ·rw [List.getElem?_append_right (by simpa using hi)] at h2
    rw [List.getElem?_replicate] at h2
    split at h2<;>cases h2
  have ha:vs[i]? =some v:=by
   unfold start at h2
   rw [List.getElem?_append_left (by simpa using hi),List.getElem?_map] at h2
   cases e:vs[i]? with
   |none=>rw [e] at h2;cases h2
   |some a=>rw [e] at h2;cases h2;rfl
  obtain⟨u,hu,rv⟩:=r.get ha
  have hp:ps[i]? =some y:=by
   rw [←S.pre,List.getElem?_take_of_lt (by omega)];exact h1
  have ndP:ps.Nodup:=by rw [←S.pre];exact S.nd.sublist (List.take_sublist _ _)
  refine⟨u,rv,?_⟩
  rcases S.par y (List.mem_of_getElem? hp) with k|k
  ·exact .inl ⟨k,bindL_get ndP hp hu k⟩
  ·obtain⟨c,e⟩:=cell_has (n:=s.heap.objs.size+1) k
   refine .inr ⟨.inl k,c,e,?_⟩
   have q:=x.cell y c e
   rw [bindC_get ndP hp hu (by show scope.names.lookup y≠_;rw [k];decide)] at q
   exact q
 ·exact e0.hok.fresh (Nat.le_of_lt (x.above y c (PySem.mem_of_lookup h)))
 ·unfold start
  show _=N.length
  rw [List.length_append,List.length_map,List.length_replicate]
  omega
theorem bindParams1 {M:Model}{A:Around}{E:Value→Shared→Prop}{s₀ s:Shared}{m cm:Str→Option Value}{env:Env}(f:Str×Value→PUnit→Sem (ForInStep PUnit))(hf:∀n v u,f (n,v) u=(do storeName env n v;pure (.yield ⟨⟩)))(hfn:env.scope.kind= .function)
  (n:Str) (v:Value) (r:List (Str×Value)) (Q:PUnit→Shared→Prop) (x:InCallC s₀ env.locals m env.cells cm s) (hl:env.kindOf n=some .local)
  (hrs:∀x∈r,env.kindOf x.1=some .local∨(env.kindOf x.1=some .cell∧(env.cells.lookup x.1).isSome=true))
  (h:∀s',InCallC s₀ env.locals (bindL env.kindOf ((n,v)::r) m) env.cells (bindC env.kindOf ((n,v)::r) cm) s'→0<s'.toks→Q ⟨⟩ s'):wpAny M A (forIn ((n,v)::r) ⟨⟩ f) Q E s:=by
 rw [List.forIn_cons,hf]
 refine wpAny_bind (wpAny_bind (wpAny_storeName_local hl x.toInCall.ns (fun h' hn' hs'=>wpAny_pure ?_) (by rw [hfn];rfl)))
 have x1:InCallC s₀ env.locals (fun y=>if y=n then some v else m y) env.cells cm {s with heap:=h',toks:=s.toks+1}:=by
  refine⟨⟨?_,hn',fun b o e=> ?_,x.toInCall.fresh⟩,fun k c hc=> ?_,x.apart,x.above⟩
  ·obtain⟨h₁,tk,rfl⟩:=x.toInCall.same
   exact⟨h',_,rfl⟩
  ·have:=x.toInCall.keep b o e;exact hs'.extBut b o (Nat.ne_of_lt (Nat.lt_of_lt_of_le (Heap.lt_size e) x.toInCall.fresh)) (x.toInCall.keep b o e)
  ·exact(x.cell k c hc).sameBut hs' (Nat.ne_of_gt (x.above k c (mem_of_lookup hc)))
 refine wpAny_with_toks (n:=1) (Nat.succ_le_succ (Nat.zero_le _)) (wpAny_bindParams f hf hfn r _ _ _ _ x1 hrs fun s' y h1=>h s' ?_ h1)
 unfold bindL bindC
 rw [if_pos hl,if_pos hl]
 exact y
theorem newEnv_tk {M:Model}{A:Around}{E:Value→Shared→Prop}{s:Shared}{scope:Scope}{globals:Addr}{binds:List (Str×Value)}{qual:Str}{func:Option Addr}{code:Value}{builtins:Addr}{Q:Env→Shared→Prop}
  (hfn:scope.kind= .function)
  (hks:∀x∈binds,scope.names.lookup x.1=some .local∨(scope.names.lookup x.1=some .cell∧((cellsFrom (s.heap.objs.size+1) scope.names []).lookup x.1).isSome=true))
  (htk:0<s.toks∨∃n v r,binds=(n,v)::r∧scope.names.lookup n=some .local)
  (hq:∀en,en=newEnv scope s.heap.objs.size globals (cellsFrom (s.heap.objs.size+1) scope.names []) qual func code none builtins→
   ∀s',InCallC s en.locals (bindL en.kindOf binds fun _=>none) en.cells (bindC en.kindOf binds fun _=>none) s'→0<s'.toks→Q en s'):
  wpAny M A (newFunctionEnv scope globals [] binds qual func code none builtins) Q E s:=by
 rcases htk with htk|⟨n,v,r,rfl,hl⟩
 ·exact wpAny_with_toks (n:=1) htk (wpAny_newFunctionEnv_cells hfn hks fun env he s' x h1=>hq env he s' x h1)
 ·simp only [newFunctionEnv,Option.isSome_none,Bool.false_eq_true,if_false];refine wpAny_bind (wpAny_alloc ?_);refine wpAny_bind (wpAny_layCells _ (fun name kind cells=>by cases hkc:kind==NameKind.cell<;>simp [hkc]) _ _ _ _ ?_)
  have okc:=cellsFrom_ok scope.names (s.heap.push {cls:= .type "frame",data:= .dict #[]}) (s.heap.objs.size+1) [] ⟨fun _ _ hm=>(nomatch hm),List.Pairwise.nil⟩ (by rw [Heap.size_push];exact Nat.le_refl _);rw [Heap.size_push] at okc;rw [show({s with heap:=s.heap.push {cls:= .type "frame",data:= .dict #[]}}:Shared).heap.objs.size=s.heap.objs.size+1 from Heap.size_push ..]
  exact wpAny_bind (bindParams1 (s₀:=s) (env:=newEnv scope s.heap.objs.size globals (cellsFrom (s.heap.objs.size+1) scope.names []) qual func code none builtins)
   _ (fun _ _ _=>rfl) hfn n v r _
   ⟨⟨⟨_,_,by rfl⟩,(Heap.Ns.new s.heap (.type "frame")).keeps (pushCells_keeps _ _),fun b o e=>pushCells_keeps _ _ b o (Heap.get?_push_of_some _ e),Nat.le_refl _⟩,
    fun m c hc=>(okc.empty m c (mem_of_lookup hc)).1,okc.apart,fun n c hm=>(okc.empty n c hm).2⟩
   hl (fun y hy=>hks y (List.mem_cons_of_mem _ hy)) fun s' x h1=>wpAny_pure (hq _ rfl s' x h1))
theorem fn_of {CX:CXT}{P:Program}{w:World}{K:PySem.W.Frag}{mg:Str→Option Value}{base:Heap}{k:Nat}{f:Addr}{name qual:Str}{params:Arguments}{body:List Stmt}{scope:Scope}{dV kV doc pm cdv ct oc:Value}{an od:Option Addr}
  {osl:Array (Option Value)}{N ps:List Str}{sp:Sp} (lk:K.lookup f=some ⟨oc,od,.func (PySem.W.fnOf name qual params body scope dV kV doc pm an cdv ct),osl⟩) (hcd:PySem.W.codeIn K cdv qual=true) (S:qy N ps scope)
  (len:∀vs H Q E,sp vs H Q E→vs.length=ps.length)
  (hbody:∀(A:Around) (outer:List Env) (s:Shared) (H:Hp) (vs:List V) (Q:VK) (E:XK),Room k (A.deeper (envOfC qual scope s.heap.objs.size f cdv))→sp vs H Q E→
   ∃t,PSs (cxOf CX P w K mg base N qual scope f cdv A outer s H E) body t∧t {nx:=fun _ H'=>Q .non H',rt:=Q} (start N vs) H):
  FnOk P w K mg base CX (k+1) f (PySem.W.fnOf name qual params body scope dV kV doc pm an cdv ct) ps sp:=by
 refine⟨len,fun A outer s H args us vs Q E hr e0 hb r hsp htk=> ?_⟩
 have hl:=len _ _ _ _ hsp
 have KX:K.In s.heap:=e0.mod.kin.keeps fun b o e=>(e0.bs b o e).1
 have lim:s.heap.NoLimit:=e0.mod.nolimit.keeps fun b o e=>(e0.bs b o e).1
 have hkind:∀y∈ps.zip us,scope.names.lookup y.1=some .local∨(scope.names.lookup y.1=some .cell∧((cellsFrom (s.heap.objs.size+1) scope.names []).lookup y.1).isSome=true):=fun⟨n,v⟩ hy=>by
  rcases S.par n (List.of_mem_zip hy).1 with q|q
  ·exact .inl q
  ·exact .inr ⟨q,PySem.W.cellsFrom_some _ _ _ (.inl q)⟩
 have htk':0<s.toks∨∃n v r,ps.zip us=(n,v)::r∧scope.names.lookup n=some .local:=by
  rcases htk with h|⟨y,q,e,hy⟩
  ·exact .inl h
  ·have:us.length=ps.length:=by rw [←r.length];exact hl
   subst e
   match us,this with
   |u::us',_=>exact .inr ⟨y,u,q.zip us',rfl,hy⟩
 refine codeAny_call_function hr.depth (KX _ _ lk) rfl S.co S.gen rfl (PySem.W.codeRec_of KX hcd) (hb _ _ _ _ ?_)
 refine newEnv_tk S.kind hkind htk' fun env he s1 x ht1=> ?_
 subst he
 refine⟨lim.keeps x.toInCall.keep,codeAny_func ?_⟩
 obtain⟨t,ht,hq⟩:=hbody A outer s H vs Q E (hr.deeper _) hsp
 have I:Inv (cxOf CX P w K mg base N qual scope f cdv A outer s H E) [] (start N vs) H s1:=inv_start S hr.hd e0 hl r x ht1
 refine wpAny_mono (ht [] s1 (start N vs) H _ I hq) (fun fl s' hs=> ?_) fun e s' hs=>hs
 have fin:∀{σ':St}{H':Hp}{v:V}{u:Value},Inv (cxOf CX P w K mg base N qual scope f cdv A outer s H E) [] σ' H' s'→RelV v u→Q v H'→CE outer P w H s Q u s':=
  fun{σ' H' v u} J rv q=>⟨v,H',J.os,J.bare,J.tk,J.base,J.hok,rv,q⟩
 cases fl with
 |ret u=>
  obtain⟨v,σ',H',J,rv,q⟩:=hs
  exact fin J rv q
 |next=>
  obtain⟨σ',H',J,q⟩:=hs
  exact fin (v:=V.non) (u:=Value.none) J rfl q
 |brk=>
  obtain⟨_,_,_,q⟩:=hs
  exact False.elim q
 |cont=>
  obtain⟨_,_,_,q⟩:=hs
  exact False.elim q
end L2
namespace L2
open PySem PySem.Spec PyProof.Rows
section
variable {X:Cx}{x:Str}{p pos:Pos}{e:Expr}{es:List Expr}{t:TA}{id T:String}{r:List V→Hp→VK→Prop}
def tCB (r:List V→Hp→VK→Prop)(t:TA):TE:=fun σ H Q=>t σ H fun vs H1=>r vs H1 Q
theorem qj (hc:jW X (.builtin id) r)(hg:Gl X x)(hm:X.mg x=none)(hv:bootBuiltins x=some (.builtin id))(ha:PA X (e::es) t)(hn:x≠"__name__":=by decide)(hdb:(x==("__debug__":Str))=false:=by decide)
  (he:starEach (e::es) X.env=(false,eval e X.env)::starEach es X.env:=by rfl) (hpl:(backTo pos (starEach es X.env)).any (·.1)=false:=by rfl):PE X (.Call (.Name x p) (e::es) [] pos) (tCB r t):=by
 intro pins s σ H Q I h
 refine wpAny_Call_Name_kw (ZZ I hg hm hv ?_ hn hdb)
 exact PyProof.Rows.callWith_builtin1 (thn (ha pos pins s σ H _ I h) fun us s1 ⟨vs,H1,I1,r1,q1⟩=>hc pins s1 σ H1 vs us Q I1 r1 q1) he hpl
theorem qH (hc:jW X (.type T) r)(hg:Gl X x)(hm:X.mg x=none)(hv:bootBuiltins x=some (.type T))(ha:PA X (e::es) t)(hn:x≠"__name__":=by decide)(hdb:(x==("__debug__":Str))=false:=by decide)
  (he:starEach (e::es) X.env=(false,eval e X.env)::starEach es X.env:=by rfl) (hpl:(backTo pos (starEach es X.env)).any (·.1)=false:=by rfl):PE X (.Call (.Name x p) (e::es) [] pos) (tCB r t):=by
 intro pins s σ H Q I h
 refine wpAny_Call_Name_kw (ZZ I hg hm hv ?_ hn hdb)
 exact PyProof.Rows.callWith_type1 (thn (ha pos pins s σ H _ I h) fun us s1 ⟨vs,H1,I1,r1,q1⟩=>hc pins s1 σ H1 vs us Q I1 r1 q1) he hpl
end
end L2
namespace HT
open PySem PyProof.Rows
section
open PySem.SeqAt
open PySem.AutoSeq1 (wpAny_loadPart')
open PySem.MeetsSeq PySem.MeetsSeq2 PySem.MeetsSeq3
end
section
variable {prog:Program}{w:World}{A:Around}{E:Value→Shared→Prop}{s:Shared}
theorem cat_tup {t b:Addr}{vs ws:List Value}{Q:Value→Shared→Prop}(ht:IsTup s.heap t vs.toArray)(hb:IsTup s.heap b ws.toArray)(hv:vs≠ [])
  (h1:ws= []→Q (.ref t) s) (h2:ws≠ []→Q (.ref s.heap.objs.size) {s with heap:=s.heap.push {cls:= .type "tuple",data:= .seq (vs++ws).toArray}})
  (hsz:vs.length+ws.length≤sizeLine):wpAny (model prog w) A (binaryOp .Add (.ref t) (.ref b)) Q E s:=by
 obtain⟨⟨cls,dd,data,sl⟩,ho,hc,n,hd⟩:=id ht
 obtain⟨⟨cls2,dd2,data2,sl2⟩,ho2,hc2,n2,hd2⟩:=id hb
 simp only at hc hd hc2 hd2
 subst hc hd hc2 hd2
 have e:vs.toArray++ws.toArray=(vs++ws).toArray:=by simp
 by_cases hw:ws= []
 ·exact concat_meets ⟨_,ho,rfl⟩ ⟨_,ho2,rfl⟩ noFill_tuple_add seq_tuple_add PySem.F.slot_tuple_add PySem.F.entry_tuple_add (PySem.F.args_tuple_add_2 _ _)
   (tuple_addW1 t b vs.toArray ws.toArray n n2 dd dd2 sl sl2 (by simpa using hv) (by simp [hw])) ⟨ho,ho2,h1 hw⟩
 ·refine concat_meets ⟨_,ho,rfl⟩ ⟨_,ho2,rfl⟩ noFill_tuple_add seq_tuple_add PySem.F.slot_tuple_add PySem.F.entry_tuple_add (PySem.F.args_tuple_add_2 _ _)
   (tuple_addW2 t b vs.toArray ws.toArray n n2 dd dd2 sl sl2 (by simpa using hv) (by simpa using hw) (by rw [List.size_toArray,List.size_toArray];exact hsz)) ⟨ho,ho2,?_⟩
  rw [e]
  exact h2 hw
def sIx (n d:Nat):Option Int→Nat
 |none=>d
 |some v=>if v<0 then(v+(n:Int)).toNat else min v.toNat n
theorem sIx_none (n d:Nat):sIx n d none=d:=rfl
theorem sIx_nat (n d k:Nat):sIx n d (some (k:Int))=min k n:=by
 show(if(k:Int)<0 then((k:Int)+(n:Int)).toNat else min (k:Int).toNat n)=min k n
 rw [if_neg (by omega),Int.toNat_natCast]
theorem sIx_le (n d:Nat)(hd:d≤n)(o:Option Int):sIx n d o≤n:=by
 cases o with
 |none=>exact hd
 |some v=>
  show(if v<0 then(v+(n:Int)).toNat else min v.toNat n)≤n
  by_cases hv:v<0
  ·rw [if_pos hv];omega
  ·rw [if_neg hv];exact Nat.min_le_right _ _
theorem clip_eq (v:Int)(n d:Nat):(if v<0 then max (v+(n:Int)) 0 else min v (n:Int))=((sIx n d (some v):Nat):Int):=by
 show(if v<0 then max (v+(n:Int)) 0 else min v (n:Int))=(((if v<0 then(v+(n:Int)).toNat else min v.toNat n):Nat):Int)
 by_cases hv:v<0
 ·simp only [if_pos hv];omega
 ·simp only [if_neg hv];omega
theorem adjust_gen (lo hi:Option Int)(n:Nat):Builtin.Slice.sliceAdjust lo hi 1 (n:Int)=(((sIx n 0 lo:Nat):Int),((sIx n n hi:Nat):Int)):=by
 have h1:¬((1:Int)<0):=by omega
 unfold Builtin.Slice.sliceAdjust
 simp only [h1,if_false]
 refine Prod.ext ?_ ?_
 ·cases lo with
  |none=>rfl
  |some v=>exact clip_eq v n 0
 ·cases hi with
  |none=>rfl
  |some v=>exact clip_eq v n n
theorem places_gen (i j:Nat):Builtin.Slice.slicePlaces (i:Int) (j:Int) 1=j-i:=by
 unfold Builtin.Slice.slicePlaces
 have h1:(1:Int)>0:=by omega
 simp only [h1,if_true,Int.ediv_one]
 split<;>omega
theorem ZY {v:Value}{o:Option Int}{Q:Option Int→Shared→Prop}(p:IsPart v o)(h:Q o s):wpAny (model prog w) A (Builtin.Slice.slicePartIndex v) Q E s:=by
 cases p with
 |none=>exact slicePart_none h
 |int i t=>exact slicePart_int h
theorem Ja {sl:Addr}{vl vu:Value}{lo hi:Option Int}{n:Nat}{Q:Int×Int×Nat→Shared→Prop}(hs:s.heap.IsSliceOf sl vl vu .none)(pl:IsPart vl lo)(pu:IsPart vu hi)
  (h:Q (((sIx n 0 lo:Nat):Int),1,sIx n n hi-sIx n 0 lo) s):wpAny (model prog w) A (Builtin.Slice.sliceApplied (.ref sl) (pure (n:Int))) Q E s:=by
 obtain⟨os,hos,hcs,hds⟩:=id hs
 unfold Builtin.Slice.sliceApplied Builtin.Slice.sliceFields
 refine wpAny_bind (wpAny_bind (wpAny_field hos hds (x:=vl) rfl (wpAny_bind (wpAny_field hos hds (x:=vu) rfl (wpAny_bind (wpAny_field hos hds (x:= .none) rfl (wpAny_pure ?_)))))))
 refine wpAny_bind (slicePart_none ?_)
 show wpAny _ _ (if((1:Int)==0)=true then _ else _) _ _ s
 rw [if_neg (by decide)]
 refine wpAny_bind (ZY pl (wpAny_bind (ZY pu (wpAny_bind (wpAny_pure ?_)))))
 show wpAny _ _ (match Builtin.Slice.sliceAdjust lo hi 1 (n:Int) with|(lo,hi)=>pure (lo,(1:Int),Builtin.Slice.slicePlaces lo hi 1)) _ _ s
 rw [adjust_gen lo hi n]
 show wpAny _ _ (pure (((sIx n 0 lo:Nat):Int),(1:Int),Builtin.Slice.slicePlaces ((sIx n 0 lo:Nat):Int) ((sIx n n hi:Nat):Int) 1)) _ _ s
 rw [places_gen]
 exact wpAny_pure h
theorem pick_gen (xs:Array Value)(i k:Nat):((List.range k).filterMap fun(m:Nat)=>xs[((i:Int)+(m:Int)*1).toNat]?).toArray=((xs.toList.drop i).take k).toArray:=by
 have e:(fun(m:Nat)=>xs[((i:Int)+(m:Int)*1).toNat]?)=fun m=>xs[i+m]? :=by
  funext m
  have:((i:Int)+(m:Int)*1).toNat=i+m:=by omega
  rw [this]
 rw [e]
 have:=pick_run xs i k
 rw [List.filterMap_map] at this
 have e2:((fun x=>xs[x]?)∘fun x=>i+x)=fun m=>xs[i+m]? :=rfl
 rw [e2] at this
 rw [this]
theorem getItem_tuple_cut {t sl:Addr}{items:Array Value}{vl vu:Value}{lo hi:Option Int}{Q:Value→Shared→Prop}(ht:IsTup s.heap t items)(hs:s.heap.IsSliceOf sl vl vu .none)(pl:IsPart vl lo)(pu:IsPart vu hi)
  (hw:¬(sIx items.size 0 lo=0∧sIx items.size items.size hi=items.size))
  (h:Q (.ref s.heap.objs.size) {s with heap:=s.heap.push {cls:= .type "tuple",data:= .seq ((items.toList.drop (sIx items.size 0 lo)).take (sIx items.size items.size hi-sIx items.size 0 lo)).toArray}})
  (hsz:items.size≤sizeLine):wpAny (model prog w) A (getItem (.ref t) (.ref sl)) Q E s:=by
 have htake:sizeOk (.seq ((items.toList.drop (sIx items.size 0 lo)).take (sIx items.size items.size hi-sIx items.size 0 lo)).toArray):=by
  show((items.toList.drop (sIx items.size 0 lo)).take (sIx items.size items.size hi-sIx items.size 0 lo)).toArray.size≤sizeLine
  rw [List.size_toArray,List.length_take,List.length_drop,Array.length_toList]
  omega
 have hj:sIx items.size items.size hi≤items.size:=sIx_le _ _ (Nat.le_refl _) hi
 obtain⟨os,hos,hcs,hds⟩:=id hs
 have hTs:s.TypeIs (.ref sl) "slice":=⟨os,hos,hcs⟩
 unfold getItem
 try with_reducible refine wpAny_holding ?_
 first|refine wpAny_bind (wpAny_pure ?_)|skip
 refine wpAny_bind (wpAny_sequenceKey ht.typeIs (by decide) ?_)
 refine wpAny_bind (wpAny_callSpecial?_slot (name:=Str.ofString "__getitem__") ht.typeIs PyProof.Rows.slot_tuple_getitem
  (wpAny_call_entry PyProof.Rows.slot_tuple_getitem ht.typeIs entry_tuple_getitem ?_ (args_tuple_getitem _ _)))
 show wpAny _ _ (Builtin.Tuple.tupleItemsOf (.ref t)>>=_) _ _ s
 refine wpAny_bind (tupleItemsOf_ ht ?_)
 refine wpAny_bind (wpAny_typeOf hTs ?_)
 rw [if_pos (by decide)]
 refine wpAny_bind (Ja hs pl pu ?_)
 have hno:¬((((sIx items.size 0 lo:Nat):Int)==0&&(1:Int)==1&&(sIx items.size items.size hi-sIx items.size 0 lo)==items.size)=true):=by
  intro q
  rw [Bool.and_eq_true,Bool.and_eq_true] at q
  have q1:((sIx items.size 0 lo:Nat):Int)=0:=eq_of_beq q.1.1
  have q2:sIx items.size items.size hi-sIx items.size 0 lo=items.size:=eq_of_beq q.2
  exact hw ⟨by omega,by omega⟩
 show wpAny _ _ (if(((sIx items.size 0 lo:Nat):Int)==0&&(1:Int)==1&&(sIx items.size items.size hi-sIx items.size 0 lo)==items.size)=true then _ else _) _ _ s
 rw [if_neg hno,pick_gen]
 first
  |exact wpAny_bind (m:=Builtin.Tuple.tupleExact _) (wpAny_newObj_type (wpAny_pure ⟨_,rfl,wpAny_pure h⟩) htake)
  |exact wpAny_bind (m:=Builtin.Tuple.tupleExact _) (wpAny_newObj_type (wpAny_bind (wpAny_pure (wpAny_pure ⟨_,rfl,wpAny_pure h⟩))) htake)
  |exact wpAny_bind (wpAny_bind (m:=Builtin.Tuple.tupleExact _) (wpAny_newObj_type (wpAny_pure (wpAny_pure ⟨_,rfl,wpAny_pure h⟩)) htake))
  |exact wpAny_bind (wpAny_bind (m:=Builtin.Tuple.tupleExact _) (wpAny_newObj_type (wpAny_pure ⟨_,rfl,wpAny_pure h⟩) htake))
end
end HT
namespace L2
open PySem PySem.Spec PyProof.Rows
abbrev TO:=St→Hp→(Option Int→Hp→Prop)→Prop
def PO (X:Cx)(e:Option Expr)(t:TO):Prop:=
 ∀(pins:List (Addr×Obj)) (s:Shared) (σ:St) (H:Hp) (Q:Option Int→Hp→Prop),Inv X pins σ H s→t σ H Q→
  wpAny (model X.prog X.w) X.A (evalPart e X.env) (fun u s'=>∃o H',Inv X pins σ H' s'∧IsPart u o∧Q o H') X.xe s
def tNoPart:TO:=fun _ H Q=>Q none H
def tPart (t:TE):TO:=fun σ H Q=>t σ H fun x H1=>∃i,x= .int i∧Q (some i) H1
theorem ZW {ns:List Int}:∀{us:List Value},Vals (ns.map V.int) us→IntsAre us ns:=by
 induction ns with
 |nil=>intro us r;rw [List.map_nil] at r;cases r;exact .nil
 |cons n ns ih=>
  intro us r
  rw [List.map_cons] at r
  cases r with
  |cons r1 r2=>
   obtain⟨t,e⟩:=r1
   subst e
   exact .cons n t (ih r2)
section
variable {X:Cx}{e:Expr}{te:TE}{lo hi:Option Expr}{tl th:TO}{pos p2:Pos}
theorem wX:PO X none tNoPart:=by
 intro pins s σ H Q I h
 rw [evalPart_none]
 exact wpAny_pure ⟨none,H,I,.none,h⟩
theorem Wk (h:PE X e te):PO X (some e) (tPart te):=by
 intro pins s σ H Q I hw
 rw [evalPart_some]
 refine thn (h pins s σ H _ I hw) fun u s1 ⟨x,H1,I1,r1,q1⟩=> ?_
 obtain⟨i,rfl,q⟩:=q1
 obtain⟨t,rfl⟩:=r1
 exact⟨some i,H1,I1,.int i t,q⟩
def SlR (X:Cx)(r:V→Option Int→Option Int→Hp→VK→Prop):Prop:=
 ∀(pins:List (Addr×Obj)) (s:Shared) (σ:St) (H:Hp) (x:V) (v vl vu:Value) (lo hi:Option Int) (sl:Addr) (Q:VK),Inv X pins σ H s→RelV x v→s.heap.IsSliceOf sl vl vu .none→IsPart vl lo→IsPart vu hi→r x lo hi H Q→
  ∃T id,typeLookup (.type T) "__getitem__"=pure (some (.builtin id))∧s.TypeIs v T∧wpAny (model X.prog X.w) X.A (getItem v (.ref sl)) (EP X pins σ Q) X.xe s
theorem SlR.or {r r':V→Option Int→Option Int→Hp→VK→Prop}(h:SlR X r)(h':SlR X r'):SlR X (fun x lo hi H Q=>r x lo hi H Q∨r' x lo hi H Q):=by
 intro pins s σ H x v vl vu lo hi sl Q I rx hs pl pu q
 rcases q with q|q
 ·exact h pins s σ H x v vl vu lo hi sl Q I rx hs pl pu q
 ·exact h' pins s σ H x v vl vu lo hi sl Q I rx hs pl pu q
def tSl (r:V→Option Int→Option Int→Hp→VK→Prop)(te:TE)(tl th:TO):TE:=fun σ H Q=>te σ H fun x H1=>tl σ H1 fun l H2=>th σ H2 fun u H3=>r x l u H3 Q
theorem zf {r:V→Option Int→Option Int→Hp→VK→Prop}(hr:SlR X r)(he:PE X e te)(hl:PO X lo tl)(hu:PO X hi th):PE X (.Subscript e (.Slice lo hi none p2) pos) (tSl r te tl th):=by
 intro pins s σ H Q I h
 refine Subscript_ (thn (he pins s σ H _ I h) fun v s1 ⟨x,H1,I1,r1,q1⟩=> ?_)
 refine wpAny_Slice (thn (hl pins s1 σ H1 _ I1 q1) fun vl s2 ⟨l,H2,I2,pl,q2⟩=>thn (hu pins s2 σ H2 _ I2 q2) fun vu s3 ⟨u,H3,I3,pu,q3⟩=> ?_)
 rw [evalPart_none]
 refine wpAny_pure ?_
 have I4:Inv X pins σ H3 {s3 with heap:=s3.heap.push {cls:= .type "slice",data:= .fields #[vl,vu,.none]}}:=I3.kept (t':=s3.toks) fun b ob q=>Heap.get?_push_of_some _ q
 obtain⟨T,id,hT,ht,hg⟩:=hr pins {s3 with heap:=s3.heap.push {cls:= .type "slice",data:= .fields #[vl,vu,.none]}} σ H3 x v vl vu l u s3.heap.objs.size Q I4 r1 (Heap.IsSliceOf.new ..) pl pu q3
 show wpAny (model X.prog X.w) X.A (subscriptTail e (.Slice lo hi none p2) v (.ref s3.heap.objs.size)) (EP X pins σ Q) X.xe {s3 with heap:=s3.heap.push {cls:= .type "slice",data:= .fields #[vl,vu,.none]}}
 exact tail_any (ops:= [.ref s3.heap.objs.size,v]) ht hT hg (by with_unfolding_all rfl)
def cutV (xs:List V)(lo hi:Option Int):List V:=(xs.drop (HT.sIx xs.length 0 lo)).take (HT.sIx xs.length xs.length hi-HT.sIx xs.length 0 lo)
theorem Zs (xs:List V)(lo hi:Option Int):(cutV xs lo hi).length≤xs.length:=by
 unfold cutV
 rw [List.length_take,List.length_drop]
 omega
def rSlT (K:PySem.W.Frag):V→Option Int→Option Int→Hp→VK→Prop:=fun x lo hi H Q=>∃a xs,x= .ref a∧SqT K H a xs∧
 ¬(HT.sIx xs.length 0 lo=0∧HT.sIx xs.length xs.length hi=xs.length)∧∀p,H p=none→Q (.ref p) (upd H p (.tup (cutV xs lo hi)))
theorem sl_tup:SlR X (rSlT X.K):=by
 intro pins s σ H x v vl vu lo hi sl Q I rx hs pl pu h
 obtain⟨a,xs,rfl,hx,hw,q⟩:=h
 cases rx
 obtain⟨its,r,ht,hz⟩:=I.tuple hx
 have hlen:its.toArray.size=xs.length:=by rw [List.size_toArray];exact r.length.symm
 refine⟨"tuple",_,PyProof.Rows.slot_tuple_getitem.lookup,ht.typeIs,?_⟩
 refine HT.getItem_tuple_cut ht hs pl pu (by rw [hlen];exact hw) ?_ (by rw [hlen];exact hz)
 rw [hlen]
 refine⟨.ref s.heap.objs.size,_,I.laid (t':=s.toks) (o:= .tup (cutV xs lo hi)) (fun b ob q=>Heap.get?_push_of_some _ q) (Nat.le_refl _) ?_,rfl,q _ (I.hok.fresh (Nat.le_refl _))⟩
 exact⟨Nat.le_trans (Zs xs lo hi) hz,_,(r.drop (HT.sIx xs.length 0 lo)).take (HT.sIx xs.length xs.length hi-HT.sIx xs.length 0 lo),IsTup.new _ _⟩
def rCatT (K:PySem.W.Frag):R2:=fun x y H Q=>∃a b xs ys,x= .ref a∧y= .ref b∧SqT K H a xs∧SqT K H b ys∧xs≠ []∧xs.length+ys.length≤sizeLine∧
 (ys= []→Q (.ref a) H)∧(ys≠ []→∀p,H p=none→Q (.ref p) (upd H p (.tup (xs++ys))))
theorem Vals.nil_iff {xs:List V}{us:List Value}(r:Vals xs us):us= []↔xs= []:=by
 cases r with
 |nil=>simp
 |cons _ _=>simp
theorem op_catT:OpR X (binaryOp .Add) (rCatT X.K):=by
 intro pins s σ H x y v u Q I rx ry h
 obtain⟨a,b,xs,ys,rfl,rfl,ha,hb,hx,hz,q1,q2⟩:=h
 cases rx
 cases ry
 obtain⟨its,r1,p1,_⟩:=I.tuple ha
 obtain⟨its2,r2,p2,_⟩:=I.tuple hb
 refine HT.cat_tup p1 p2 (fun z=>hx (r1.nil_iff.mp z)) (fun z=>⟨.ref a,H,I,rfl,q1 (r2.nil_iff.mp z)⟩) (fun z=> ?_) (by rw [←r1.length,←r2.length];exact hz)
 refine⟨.ref s.heap.objs.size,_,I.laid (t':=s.toks) (o:= .tup (xs++ys)) (fun b ob q=>Heap.get?_push_of_some _ q) (Nat.le_refl _) ?_,rfl,q2 (fun w=>z (r2.nil_iff.mpr w)) _ (I.hok.fresh (Nat.le_refl _))⟩
 exact⟨by rw [List.length_append];exact hz,_,r1.append r2,IsTup.new _ _⟩
end
end L2
namespace L2
open PySem PySem.Spec PyProof.Rows
def ixN (n:Nat)(i:Int):Option Nat:=if 0≤i then(if i<n then some i.toNat else none) else if-(n:Int)≤i then some (i+n).toNat else none
def atI {α:Type}(xs:List α)(i:Int):Option α:=(ixN xs.length i).bind fun j=>xs[j]?
theorem ixN_seq {n:Nat}{i:Int}{j:Nat}(h:ixN n i=some j):seqIndex? i n=some j∧j<n∧-(n:Int)≤i∧i<n:=by
 unfold ixN at h
 by_cases h0:0≤i
 ·rw [if_pos h0] at h
  by_cases h1:i<n
  ·rw [if_pos h1] at h
   have e:i.toNat=j:=Option.some.inj h
   exact⟨by rw [seqIndex_of h0 h1,e],by omega,by omega,h1⟩
  ·rw [if_neg h1] at h;cases h
 ·rw [if_neg h0] at h
  by_cases h1: -(n:Int)≤i
  ·rw [if_pos h1] at h
   have e:(i+n).toNat=j:=Option.some.inj h
   exact⟨by rw [seqIndex_neg (by omega) h1,e],by omega,h1,by omega⟩
  ·rw [if_neg h1] at h;cases h
theorem Wd {α:Type}{xs:List α}{i:Int}{v:α}(h:atI xs i=some v):∃j,seqIndex? i xs.length=some j∧xs[j]? =some v∧j<xs.length∧-(xs.length:Int)≤i∧i<xs.length:=by
 unfold atI at h
 cases e:ixN xs.length i with
 |none=>rw [e] at h;cases h
 |some j=>
  rw [e] at h
  obtain⟨h1,h2,h3,h4⟩:=ixN_seq e
  exact⟨j,h1,h,h2,h3,h4⟩
theorem QI {α:Type}{xs:List α}{j:Nat}{v:α}(h:xs[j]? =some v):atI xs (j:Int)=some v:=by
 have hj:j<xs.length:=(List.getElem?_eq_some_iff.mp h).1
 have e:ixN xs.length (j:Int)=some j:=by
  unfold ixN
  rw [if_pos (by omega),if_pos (by omega)];simp
 unfold atI;rw [e];exact h
theorem zg {α:Type}(xs:List α)(v:α):atI (xs++ [v]) (-1)=some v:=by
 have hl:(xs++ [v]).length=xs.length+1:=by simp
 have e:ixN (xs++ [v]).length (-1)=some xs.length:=by
  unfold ixN
  rw [hl,if_neg (by decide),if_pos (by omega)]
  congr 1
  omega
 unfold atI
 rw [e]
 show(xs++ [v])[xs.length]? =some v
 simp
def PlainIx (b:Expr):Prop:=∀o i,subscripted b false o i=operate [o,i] (getItem o i)
def IxR (X:Cx)(r:R2):Prop:=
 ∀(value slice:Expr) (pins:List (Addr×Obj)) (s:Shared) (σ:St) (H:Hp) (x y:V) (v u:Value) (Q:VK),Inv X pins σ H s→RelV x v→RelV y u→r x y H Q→
  subscripted slice false v u=operate [v,u] (getItem v u)→wpAny (model X.prog X.w) X.A (subscriptTail value slice v u) (EP X pins σ Q) X.xe s
def MtR (X:Cx)(id:String)(r:V→List V→Hp→VK→Prop):Prop:=
 ∀(pins:List (Addr×Obj)) (s:Shared) (σ:St) (H:Hp) (x:V) (xs:List V) (v:Value) (us:List Value) (Q:VK),Inv X pins σ H s→RelV x v→Vals xs us→r x xs H Q→
  wpAny (model X.prog X.w) X.A (call (.builtin id) (v::us)) (EP X pins σ Q) X.xe s
section
variable {X:Cx}{a b:Expr}{ta tb:TE}{pos:Pos}
theorem IxR.or {r r':R2}(h:IxR X r)(h':IxR X r'):IxR X (fun x y H Q=>r x y H Q∨r' x y H Q):=by
 intro value slice pins s σ H x y v u Q I rx ry q hs
 rcases q with q|q
 ·exact h value slice pins s σ H x y v u Q I rx ry q hs
 ·exact h' value slice pins s σ H x y v u Q I rx ry q hs
theorem qL {r:R2}(hr:IxR X r)(ha:PE X a ta)(hb:PE X b tb)(hs:PlainIx b):PE X (.Subscript a b pos) (tOp r ta tb):=by
 intro pins s σ H Q I h
 exact Subscript_ (binT ha hb I h fun v u s2 x y H2 I2 rx ry q=>hr a b pins s2 σ H2 x y v u Q I2 rx ry q (hs _ _))
def rIxL (K:PySem.W.Frag):R2:=fun x y H Q=>∃p xs i v,x= .ref p∧y= .int i∧SqL K H p xs∧atI xs i=some v∧Q v H
def rIxT (K:PySem.W.Frag):R2:=fun x y H Q=>∃p xs i v,x= .ref p∧y= .int i∧SqT K H p xs∧atI xs i=some v∧Q v H
def rIxS:R2:=fun x y H Q=>∃z i c,x= .str z∧y= .int i∧z.length≤sizeLine∧atI z.cps.toList i=some c∧Q (.str ⟨#[c]⟩) H
theorem qS:IxR X (rIxL X.K):=by
 intro value slice pins s σ H x y v u Q I rx ry h hs
 obtain⟨p,xs,i,z,rfl,rfl,hq,he,q⟩:=h
 cases rx
 obtain⟨t,rfl⟩:=ry
 obtain⟨its,r,pl,hz⟩:=I.list hq
 obtain⟨j,h1,h2,h3,h4,h5⟩:=Wd he
 obtain⟨w,ew,rw'⟩:=r.get h2
 have hl:=r.length
 have hn:=XC
 have fin:EP X pins σ Q w s:=⟨z,H,I,rw',q⟩
 by_cases h0:0≤i
 ·have hj:i.toNat=j:=by
   rw [seqIndex_of h0 h5] at h1
   exact Option.some.inj h1
  exact item_listR pl.isList h0 (by omega) (by rw [hj];simpa using ew) fin hs
 ·have hj:(i+(its.toArray.size:Int)).toNat=j:=by
   rw [seqIndex_neg (by omega) h4] at h1
   rw [List.size_toArray,←hl]
   exact Option.some.inj h1
  exact subscriptTail_builtinR (x:=w) pl.isList.typeIs slot_list_getitem.lookup
   (wpAny_getItem_list_neg (Q:=fun r s'=>r=w∧EP X pins σ Q r s') pl.isList (by omega) (by rw [List.size_toArray]<;>omega) (by omega) (by rw [hj];simpa using ew) ⟨rfl,fin⟩) hs
theorem Qk:IxR X (rIxT X.K):=by
 intro value slice pins s σ H x y v u Q I rx ry h hs
 obtain⟨p,xs,i,z,rfl,rfl,hq,he,q⟩:=h
 cases rx
 obtain⟨t,rfl⟩:=ry
 obtain⟨its,r,pl,hz⟩:=I.tuple hq
 obtain⟨j,h1,h2,h3,h4,h5⟩:=Wd he
 obtain⟨w,ew,rw'⟩:=r.get h2
 have hl:=r.length
 have hn:=XC
 have fin:EP X pins σ Q w s:=⟨z,H,I,rw',q⟩
 exact subscriptTail_builtinR (x:=w) pl.typeIs slot_tuple_getitem.lookup
  (getItem_tuple (j:=j) (Q:=fun r s'=>r=w∧EP X pins σ Q r s') pl (by omega) (by omega) (by rw [List.size_toArray,←hl];exact h1) (by simpa using ew) ⟨rfl,fin⟩) hs
theorem ix_str:IxR X rIxS:=by
 intro value slice pins s σ H x y v u Q I rx ry h hs
 obtain⟨z,i,c,rfl,rfl,hz,he,q⟩:=h
 obtain⟨t,rfl⟩:=rx
 obtain⟨t',rfl⟩:=ry
 obtain⟨j,h1,h2,h3,h4,h5⟩:=Wd he
 have hl:z.cps.toList.length=z.length:=by simp [Str.length]
 rw [hl] at h1 h4 h5
 have hn:=XC
 exact tail_any (typeIs_str s z t) slot_str_getitem.lookup (getItem_str (c:=c) (by
  have e1:decide (i< -(2^63:Int))=false:=decide_eq_false (by omega)
  have e2:decide (i≥2^63)=false:=decide_eq_false (by omega)
  rw [e1,e2,Bool.or_false]) (by rw [h1];simpa using h2) ⟨.str ⟨#[c]⟩,H,I.tok _,⟨_,rfl⟩,q⟩) hs
def rIx (K:PySem.W.Frag):R2:=fun x y H Q=>rIxL K x y H Q∨rIxT K x y H Q∨rIxS x y H Q
theorem jA:IxR X (rIx X.K):=qS.or (Qk.or ix_str)
theorem mapSeq_set (its:List Value)(n j:Nat)(u:Value):Obj.mapSeq (·.setIfInBounds j u) {cls:= .type "list",data:= .seq its.toArray n}={cls:= .type "list",data:= .seq (its.set j u).toArray n}:=by
 simp [Obj.mapSeq]
theorem Inv.lst {pins:List (Addr×Obj)}{σ:St}{H:Hp}{s:Shared}{p:Addr}{xs:List V}(I:Inv X pins σ H s)(h:H p=some (.lst xs)):
  ∃(its:List Value) (n:Nat),Vals xs its∧s.heap.get? p=some {cls:= .type "list",data:= .seq its.toArray n}∧xs.length≤sizeLine:=by
 obtain⟨z,its,n,r,e⟩:=I.hok p _ h
 exact⟨its,n,r,e,z⟩
theorem Inv.lstUpd {pins:List (Addr×Obj)}{σ:St}{H:Hp}{s:Shared}{p:Addr}{xs ys:List V}{its its':List Value}{n n':Nat}{f:Obj→Obj}(I:Inv X pins σ H s)(h:H p=some (.lst xs))
  (ho:s.heap.get? p=some {cls:= .type "list",data:= .seq its.toArray n}) (hf:f {cls:= .type "list",data:= .seq its.toArray n}={cls:= .type "list",data:= .seq its'.toArray n'}) (r:Vals ys its') (hz:ys.length≤sizeLine) (t:Nat) (ht:0<t:=by((try dsimp only);first|assumption|exact Inv.tk (by assumption)|exact Nat.succ_pos _|exact Nat.lt_of_lt_of_le (Inv.tk (by assumption)) (by assumption)|exact Nat.add_pos_left (Inv.tk (by assumption)) _|omega)):
  Inv X pins σ (upd H p (.lst ys)) {s with heap:=s.heap.update p f,toks:=t}:=by
 have e:(s.heap.update p f).get? p=some {cls:= .type "list",data:= .seq its'.toArray n'}:=by
  rw [Heap.get?_update_self f ho (by rw [hf]<;>rfl),hf]
 refine I.write (x:=p) (e:=p) (by rw [h];trivial) (.inl rfl) (fun b u hb q=>(Heap.get?_update_other _ _ (Ne.symm hb)).trans q) ⟨_,e⟩ ?_
 exact⟨hz,its',n',r,e⟩
def rSetL:V→V→V→Hp→(Hp→Prop)→Prop:=fun o i v H Q=>∃p xs k j,o= .ref p∧i= .int k∧H p=some (.lst xs)∧ixN xs.length k=some j∧Q (upd H p (.lst (xs.set j v)))
theorem set_list:PSet X rSetL:=by
 intro pins s σ H o i v ov iv u Q I ro ri rv h
 obtain⟨p,xs,k,j,rfl,rfl,hp,hj,q⟩:=h
 cases ro
 obtain⟨t,rfl⟩:=ri
 obtain⟨its,n,r,ho,hz⟩:=I.lst hp
 obtain⟨h1,h2,h3,h4⟩:=ixN_seq hj
 have hl:=r.length
 have hn:=XC
 have I':Inv X pins σ (upd H p (.lst (xs.set j v))) {s with heap:=s.heap.update p (Obj.mapSeq (·.setIfInBounds j u))}:=
  I.lstUpd hp ho (mapSeq_set its n j u) (r.set rv j) (by rw [List.length_set];exact hz) s.toks
 by_cases h0:0≤k
 ·have hk:k.toNat=j:=by
   rw [seqIndex_of h0 h4] at h1
   exact Option.some.inj h1
  exact PySem.W.ki_setAt ho h0 (by omega) (by rw [List.size_toArray,←hl];exact h4) (by rw [hk];exact⟨_,I',q⟩)
 ·have hk:(k+(its.toArray.size:Int)).toNat=j:=by
   rw [seqIndex_neg (by omega) h3] at h1
   rw [List.size_toArray,←hl]
   exact Option.some.inj h1
  exact PySem.W.ki_setBack ho (by omega) (by rw [List.size_toArray,←hl];exact h3) (by omega) (by rw [hk];exact⟨_,I',q⟩)
theorem slice_bounds (lo hi:Option Int)(n:Nat):(sliceBounds lo hi none n).1=((HT.sIx n 0 lo:Nat):Int)∧(sliceBounds lo hi none n).2.1=((HT.sIx n n hi:Nat):Int)∧(sliceBounds lo hi none n).2.2=1:=by
 refine⟨?_,?_,rfl⟩
 ·cases lo with
  |none=>simp [sliceBounds,HT.sIx]
  |some i=>
   simp only [sliceBounds,HT.sIx,Option.getD_none,show(1:Int)>0 by decide,if_true]
   by_cases h:i<0
   ·simp only [h,if_true]<;>omega
   ·simp only [h,if_false]<;>omega
 ·cases hi with
  |none=>simp [sliceBounds,HT.sIx]
  |some i=>
   simp only [sliceBounds,HT.sIx,Option.getD_none,show(1:Int)>0 by decide,if_true]
   by_cases h:i<0
   ·simp only [h,if_true]<;>omega
   ·simp only [h,if_false]<;>omega
theorem wY (its:List Value)(lo hi:Option Int):slicePick its.toArray lo hi none=((its.drop (HT.sIx its.length 0 lo)).take (HT.sIx its.length its.length hi-HT.sIx its.length 0 lo)).toArray:=by
 obtain⟨h1,h2,h3⟩:=slice_bounds lo hi its.toArray.size
 unfold slicePick
 rw [h1,h2,h3]
 simp only [sliceRange_one,pick_run,List.size_toArray]<;>rfl
def rSlL (K:PySem.W.Frag):V→Option Int→Option Int→Hp→VK→Prop:=fun x lo hi H Q=>∃a xs,x= .ref a∧SqL K H a xs∧∀p,H p=none→Q (.ref p) (upd H p (.lst (cutV xs lo hi)))
theorem sl_list:SlR X (rSlL X.K):=by
 intro pins s σ H x v vl vu lo hi sl Q I rx hs pl pu h
 obtain⟨a,xs,rfl,hx,q⟩:=h
 cases rx
 obtain⟨its,r,ht,hz⟩:=I.list hx
 have hlen:=r.length
 refine⟨"list",_,slot_list_getitem.lookup,ht.isList.typeIs,?_⟩
 refine wpAny_getItem_list_slice ht.isList hs pl pu .none (by simp) ?_ (by rw [List.size_toArray]<;>omega)
 rw [wY,←hlen]
 refine⟨.ref s.heap.objs.size,_,I.laid (t':=s.toks) (o:= .lst (cutV xs lo hi)) (fun b ob q=>Heap.get?_push_of_some _ q) (Nat.le_refl _) ?_,rfl,q _ (I.hok.fresh (Nat.le_refl _))⟩
 exact⟨Nat.le_trans (Zs xs lo hi) hz,_,0,(r.drop (HT.sIx xs.length 0 lo)).take (HT.sIx xs.length xs.length hi-HT.sIx xs.length 0 lo),Heap.get?_push_size _ rfl⟩
def Zk:V→Bool
 | .non=>true
 | .bl _=>true
 | .int _=>true
 | .str _=>true
 |_=>false
def eqV:V→V→Bool
 | .non,.non=>true
 | .bl a,.bl b=>a==b
 | .bl a,.int b=>(if a then 1 else 0)==b
 | .int a,.bl b=>a==(if b then 1 else 0)
 | .int a,.int b=>a==b
 | .str a,.str b=>a==b
 |_,_=>false
theorem eqAt_V {A:Around}{s:Shared}{y x:V}{u v:Value}(ry:RelV y u)(rx:RelV x v)(fy:Zk y=true)(fx:Zk x=true):SeqAt.EqAt A s u v (eqV y x):=by
 cases y with
 |non=>
  cases ry
  cases x with
  |non=>cases rx;exact SeqAt.EqAt.same _
  |bl b=>cases rx;exact SeqAt.EqAt.none_bool b
  |int b=>obtain⟨t,rfl⟩:=rx;exact SeqAt.EqAt.none_int b t
  |str b=>obtain⟨t,rfl⟩:=rx;exact SeqAt.EqAt.none_str b t
  |_=>exact absurd (show false=true from fx) Bool.false_ne_true
 |bl a=>
  cases ry
  cases x with
  |non=>cases rx;exact SeqAt.EqAt.bool_none a
  |bl b=>cases rx;exact SeqAt.EqAt.bool_bool a b
  |int b=>obtain⟨t,rfl⟩:=rx;exact SeqAt.EqAt.bool_int a b t
  |str b=>obtain⟨t,rfl⟩:=rx;exact SeqAt.EqAt.bool_str a b t
  |_=>exact absurd (show false=true from fx) Bool.false_ne_true
 |int a=>
  obtain⟨t',rfl⟩:=ry
  cases x with
  |non=>cases rx;exact SeqAt.EqAt.int_none a t'
  |bl b=>cases rx;exact SeqAt.EqAt.int_bool a t' b
  |int b=>obtain⟨t,rfl⟩:=rx;exact SeqAt.EqAt.int_int a t' b t
  |str b=>obtain⟨t,rfl⟩:=rx;exact SeqAt.EqAt.int_str a t' b t
  |_=>exact absurd (show false=true from fx) Bool.false_ne_true
 |str a=>
  obtain⟨t',rfl⟩:=ry
  cases x with
  |non=>cases rx;exact SeqAt.EqAt.str_none a t'
  |bl b=>cases rx;exact SeqAt.EqAt.str_bool a t' b
  |int b=>obtain⟨t,rfl⟩:=rx;exact SeqAt.EqAt.str_int a t' b t
  |str b=>obtain⟨t,rfl⟩:=rx;exact SeqAt.EqAt.str_str a t' b t
  |_=>exact absurd (show false=true from fx) Bool.false_ne_true
 |_=>exact absurd (show false=true from fy) Bool.false_ne_true
def eqU (x:V)(u:Value):Bool:=match u with
 | .none=>eqV .non x
 | .bool b=>eqV (.bl b) x
 | .int i _=>eqV (.int i) x
 | .str z _=>eqV (.str z) x
 |_=>false
theorem eqU_of {x y:V}{u:Value}(r:RelV y u)(f:Zk y=true):eqU x u=eqV y x:=by
 cases y with
 |non=>cases r;rfl
 |bl b=>cases r;rfl
 |int i=>obtain⟨t,rfl⟩:=r;rfl
 |str z=>obtain⟨t,rfl⟩:=r;rfl
 |_=>exact absurd (show false=true from f) Bool.false_ne_true
theorem any_eqU {x:V}:∀{xs:List V}{us:List Value},Vals xs us→xs.all Zk=true→us.any (eqU x)=xs.any fun y=>eqV y x
 |_,_,.nil,_=>rfl
 |y::xs,u::us,.cons r t,f=>by
  rw [List.all_cons,Bool.and_eq_true] at f
  rw [List.any_cons,List.any_cons,eqU_of r f.1,any_eqU t f.2]
theorem wH {A:Around}{s:Shared}{x:V}{v:Value}(rx:RelV x v)(fx:Zk x=true):∀{xs:List V}{us:List Value},Vals xs us→xs.all Zk=true→∀u∈us,SeqAt.EqAt A s u v (eqU x u)
 |_,_,.nil,_=>fun u hu=>by cases hu
 |y::xs,u::us,.cons r t,f=>fun u' hu=>by
  rw [List.all_cons,Bool.and_eq_true] at f
  rcases List.mem_cons.mp hu with rfl|hu
  ·rw [eqU_of r f.1];exact eqAt_V r rx f.1 fx
  ·exact wH rx fx t f.2 u' hu
def inV (x:V)(xs:List V):Bool:=xs.any fun y=>eqV y x
def rIn (K:PySem.W.Frag)(neg:Bool):R2:=fun x y H Q=>∃p xs,y= .ref p∧(SqL K H p xs∨SqT K H p xs)∧Zk x=true∧xs.all Zk=true∧Q (.bl (if neg then !inV x xs else inV x xs)) H
theorem QX:OpR X (compareOp .In) (rIn X.K false):=by
 intro pins s σ H x y v u Q I rx ry h
 obtain⟨p,xs,rfl,hq,fx,fs,q⟩:=h
 cases ry
 rcases hq with hq|hq
 ·obtain⟨its,r,pl,hz⟩:=I.list hq
  refine SeqAt.in_listAt (eqU x) pl.isList (fun w hw=>wH rx fx r fs w (by simpa using hw)) ⟨.bl _,H,I,rfl,?_⟩
  rw [show its.toArray.any (eqU x)=its.any (eqU x) by simp,any_eqU r fs]
  exact q
 ·obtain⟨its,r,pl,hz⟩:=I.tuple hq
  refine SeqAt.in_tupleAt (eqU x) pl (fun w hw=>wH rx fx r fs w (by simpa using hw)) ⟨.bl _,H,I,rfl,?_⟩
  rw [show its.toArray.any (eqU x)=its.any (eqU x) by simp,any_eqU r fs]
  exact q
theorem Xz:OpR X (compareOp .NotIn) (fun x y H Q=>∃i j,x= .str i∧y= .str j∧Q (.bl (!(!(Builtin.Str.occurrences j i 0 j.length 1).isEmpty))) H):=by
 intro pins s σ H x y v u Q I rx ry h
 obtain⟨i,j,rfl,rfl,q⟩:=h
 obtain⟨t,rfl⟩:=rx
 obtain⟨t',rfl⟩:=ry
 exact notIn_str ⟨.bl _,H,I,rfl,q⟩
theorem qM:jW X (.builtin "len") (fun xs H Q=>∃p ys,xs= [.ref p]∧(SqL X.K H p ys∨SqT X.K H p ys)∧Q (.int ys.length) H):=by
 intro pins s σ H xs us Q I r h
 obtain⟨p,ys,rfl,hq,q⟩:=h
 obtain⟨u,rfl,rx⟩:=xM r
 cases rx
 have hn:=XC
 rcases hq with hq|hq
 ·obtain⟨its,r',pl,hz⟩:=I.list hq
  have hlen:=r'.length
  exact Calls.call_len_list pl.isList (by simp only [List.size_toArray]<;>omega) ⟨.int ys.length,H,I.tok _,⟨s.toks+1,by rw [List.size_toArray,hlen]⟩,q⟩
 ·obtain⟨its,r',pl,hz⟩:=I.tuple hq
  have hlen:=r'.length
  exact len_tuple pl (by simp only [List.size_toArray]<;>omega) ⟨.int ys.length,H,I.tok _,⟨s.toks+1,by rw [List.size_toArray,hlen]⟩,q⟩
theorem Jf:jW X (.builtin "len") (fun xs H Q=>∃z,xs= [.str z]∧z.length≤sizeLine∧Q (.int z.length) H):=by
 intro pins s σ H xs us Q I r h
 obtain⟨z,rfl,hz,q⟩:=h
 obtain⟨u,rfl,t,rfl⟩:=xM r
 have hn:=XC
 exact len_str (by omega) ⟨.int z.length,H,I.tok _,⟨_,rfl⟩,q⟩
theorem qO:jW X (.type "tuple") (fun xs H Q=>∃p ys,xs= [.ref p]∧((SqL X.K H p ys∧∀l,H l=none→Q (.ref l) (upd H l (.tup ys)))∨(SqT X.K H p ys∧Q (.ref p) H))):=by
 intro pins s σ H xs us Q I r h
 obtain⟨p,ys,rfl,h⟩:=h
 obtain⟨u,rfl,rx⟩:=xM r
 cases rx
 rcases h with⟨hq,q⟩|⟨hq,q⟩
 ·obtain⟨its,r',pl,hz⟩:=I.list hq
  have hlen:=r'.length
  refine call_tuple_list pl.isList (fun h' kp=> ?_) (by simp only [List.size_toArray]<;>omega)
  have I1:Inv X pins σ H {s with heap:=h'}:=I.kept (t':=s.toks) kp
  have I2:Inv X pins σ (upd H h'.objs.size (.tup ys)) {s with heap:=h'.push {cls:= .type "tuple",data:= .seq its.toArray}}:=
   I1.laid (t':=s.toks) (fun b o e=>Heap.get?_push_of_some _ e) (Nat.le_refl _) (show yL X.prog X.w _ _ _ (.tup ys) from⟨hz,its,r',IsTup.new _ _⟩)
  exact⟨.ref h'.objs.size,_,I2,rfl,q _ (I1.hok.fresh (Nat.le_refl _))⟩
 ·obtain⟨its,r',pl,hz⟩:=I.tuple hq
  exact call_tuple_same pl ⟨.ref p,H,I,rfl,q⟩
def tyV (K:PySem.W.Frag)(T:String)(x:V)(H:Hp):Prop:=match x with
 | .str _=>T="str"
 | .int _=>T="int"
 | .ref p=>(T="list"∧∃xs,SqL K H p xs)∨(T="tuple"∧∃o,K.lookup p=some o∧o.cls= .type "tuple"∧o.dict=none)∨
   (T="dict"∧((∃kvs,H p=some (.dK kvs))∨∃kvs,H p=some (.dT kvs)))∨(T="set"∧∃S n,H p=some (.set S n))
 |_=>False
theorem tyV_is {pins:List (Addr×Obj)}{σ:St}{H:Hp}{s:Shared}{T:String}{x:V}{v:Value}(I:Inv X pins σ H s)(r:RelV x v)(ty:tyV X.K T x H):
  s.TypeIs v T∧∀a,v= .ref a→∃ob,s.heap.get? a=some ob∧ob.dict=none:=by
 cases x with
 |str z=>
  obtain⟨t,rfl⟩:=r
  cases(show T="str" from ty)
  exact⟨typeIs_str s z t,fun _ e=>nomatch e⟩
 |int i=>
  obtain⟨t,rfl⟩:=r
  cases(show T="int" from ty)
  exact⟨typeIs_int s i t,fun _ e=>nomatch e⟩
 |ref p=>
  cases r
  rcases ty with⟨rfl,xs,hq⟩|⟨rfl,o,hk,hc,hd⟩|⟨rfl,hk⟩|⟨rfl,S,n,hk⟩
  ·obtain⟨its,_,pl,_⟩:=I.list hq
   refine⟨pl.isList.typeIs,fun a e=> ?_⟩
   cases e
   obtain⟨o,n,e,c,hd,_⟩:=pl
   exact⟨o,e,hd⟩
  ·refine⟨⟨o,I.kIn p o hk,hc⟩,fun a e=> ?_⟩
   cases e
   exact⟨o,I.kIn _ o hk,hd⟩
  ·have z:∃o,s.heap.get? p=some o∧o.ExactDict:=by
    rcases hk with⟨kvs,hk⟩|⟨kvs,hk⟩
    ·obtain⟨_,_,_,_,o,_,_,e,ex,_⟩:=I.hok p _ hk
     exact⟨o,e,ex⟩
    ·obtain⟨_,_,_,_,o,_,_,e,ex,_⟩:=I.hok p _ hk
     exact⟨o,e,ex⟩
   obtain⟨o,e,ex⟩:=z
   refine⟨⟨o,e,ex.1⟩,fun a e2=> ?_⟩
   cases e2
   exact⟨o,e,ex.2.1⟩
  ·obtain⟨o,_,_,_,e,ex,_⟩:=I.hok p _ hk
   refine⟨⟨o,e,ex.1⟩,fun a e2=> ?_⟩
   cases e2
   exact⟨o,e,ex.2.1⟩
 |_=>exact False.elim ty
def tBM0 (K:PySem.W.Frag)(T:String)(r:V→List V→Hp→VK→Prop)(to:TE):TE:=fun σ H Q=>to σ H fun x H1=>tyV K T x H1∧r x [] H1 Q
def tBM (K:PySem.W.Frag)(T:String)(r:V→List V→Hp→VK→Prop)(to:TE)(t:TA):TE:=fun σ H Q=>to σ H fun x H1=>tyV K T x H1∧t σ H1 fun xs H2=>r x xs H2 Q
variable {o e:Expr}{es:List Expr}{to:TE}{t:TA}{name:Str}{apos cpos:Pos}{T id:String}{r:V→List V→Hp→VK→Prop}
theorem pe_bm0 (pa:PlainAttrs T)(slot:Slot T name id)(hty:typeOf (.builtin id)=pure (.type "method_descriptor"))(hm:MtR X id r)(ho:PE X o to)
  (hbase:attributeBase o name X.env (eval o X.env)=eval o X.env:=by rfl) (hline:(apos.endLine==cpos.line)=true:=by rfl):PE X (.Call (.Attribute o name apos) [] [] cpos) (tBM0 X.K T r to):=by
 intro pins s σ H Q I h
 refine wpAny_Call_method0_late hbase hline (thn (ho pins s σ H _ I h) fun v s1 ⟨x,H1,I1,r1,ty,q1⟩=> ?_)
 obtain⟨h1,h2⟩:=tyV_is I1 r1 ty
 exact⟨T,id,pa,slot,hty,h1,h2,Calls.callWith_builtin rfl (PySem.evalArgs_none (hm pins s1 σ H1 x [] v [] Q I1 r1 .nil q1))⟩
theorem Xx (pa:PlainAttrs T)(slot:Slot T name id)(hty:typeOf (.builtin id)=pure (.type "method_descriptor"))(hm:MtR X id r)(ho:PE X o to)(ha:PA X (e::es) t)
  (hbase:attributeBase o name X.env (eval o X.env)=eval o X.env:=by rfl)
  (hfew:((backTo cpos (starEach (e::es) X.env)).all (fun x=> !x.1)&&(backToKw cpos (keywordEach [] X.env)).all (fun x=>x.1.isSome)
   &&decide ((e::es).length+([]:List Keyword).length+(if([]:List Keyword).isEmpty then 0 else 1)<30))=true:=by rfl)
  (hline:(apos.endLine==cpos.line)=true:=by rfl) (hs:starEach (e::es) X.env=(false,eval e X.env)::starEach es X.env:=by rfl) (hplain:(backTo cpos (starEach es X.env)).any (·.1)=false:=by rfl):
  PE X (.Call (.Attribute o name apos) (e::es) [] cpos) (tBM X.K T r to t):=by
 intro pins s σ H Q I h
 refine wpAny_Call_method_late hbase hfew hline rfl (thn (ho pins s σ H _ I h) fun v s1 ⟨x,H1,I1,r1,ty,q1⟩=> ?_)
 obtain⟨h1,h2⟩:=tyV_is I1 r1 ty
 refine⟨T,id,pa,slot,hty,h1,h2,?_⟩
 have hA:=ha cpos pins s1 σ H1 _ I1 q1
 rw [hs] at hA⊢
 refine Calls.callWith_builtin (by show(false||(backTo cpos (starEach es X.env)).any (·.1))=false;rw [hplain]<;>rfl) (Calls.evalArgs_plain ?_)
 exact thn hA fun us s2 ⟨vs,H2,I2,r2,q2⟩=>hm pins s2 σ H2 x vs v us Q I2 r1 r2 q2
end
end L2
namespace L2
open PySem PySem.Spec PyProof.Rows
def MtM (X:Cx)(id:String)(r:V→List V→Hp→VK→Prop):Prop:=
 ∀(pins:List (Addr×Obj)) (s:Shared) (σ:St) (H:Hp) (x:V) (xs:List V) (v:Value) (us:List Value) (Q:VK),Inv X pins σ H s→RelV x v→Vals xs us→r x xs H Q→
  wpAny (model X.prog X.w) X.A (call (.builtin id) (v::us)) (EP X pins σ Q) X.xe s
theorem Vals.one:∀{x:V}{us:List Value},Vals [x] us→∃u,us= [u]∧RelV x u
 |_,_,.cons r .nil=>⟨_,rfl,r⟩
theorem Vals.zero:∀{us:List Value},Vals [] us→us= []
 |_,.nil=>rfl
theorem Vals.dropLast {xs:List V}{us:List Value}(h:Vals xs us):Vals xs.dropLast us.dropLast:=by
 induction h with
 |nil=>exact .nil
 |cons r t ih=>
  cases t with
  |nil=>exact .nil
  |cons q t'=>exact .cons r ih
theorem Vals.rep {xs:List V}{us:List Value}(h:Vals xs us):∀k:Nat,Vals (List.replicate k xs).flatten (List.replicate k us).flatten
 |0=> .nil
 |k+1=>by
  rw [List.replicate_succ,List.replicate_succ,List.flatten_cons,List.flatten_cons]
  exact Vals.append h (Vals.rep h k)
theorem erase_last {α:Type}(l:List α):l.eraseIdx (l.length-1)=l.dropLast:=by
 induction l with
 |nil=>rfl
 |cons a r ih=>
  cases r with
  |nil=>rfl
  |cons b r=>
   have e:(a::b::r).length-1=((b::r).length-1)+1:=by
    have h1:(a::b::r).length=r.length+2:=rfl
    have h2:(b::r).length=r.length+1:=rfl
    omega
   rw [e,List.eraseIdx_cons_succ,ih]
   all_goals rfl
theorem zC (its:List Value):∀(k:Nat) (acc:List Value),
  List.foldl (fun x1 x2=>x1++x2) acc.toArray (List.replicate k its.toArray)=(acc++(List.replicate k its).flatten).toArray
 |0,acc=>by simp
 |k+1,acc=>by
  have e:acc.toArray++its.toArray=(acc++its).toArray:=by simp
  have e2:(acc++its)++(List.replicate k its).flatten=acc++(List.replicate (k+1) its).flatten:=by
   rw [List.replicate_succ,List.flatten_cons,List.append_assoc]
  rw [←e2,←zC its k (acc++its),←e,List.replicate_succ,List.foldl_cons]
section
variable {X:Cx}{pins:List (Addr×Obj)}{σ:St}{H:Hp}{s:Shared}{l b:Addr}{xs ys zs:List V}
theorem Inv.lset {its its':List Value}{n:Nat}{f:Array Value→Array Value}{t':Nat}(I:Inv X pins σ H s)(hH:H l=some (.lst xs))
  (e:s.heap.get? l=some {cls:= .type "list",data:= .seq its.toArray n}) (hf:f its.toArray=its'.toArray) (hv:Vals ys its') (hz:ys.length≤sizeLine) (ht:0<t':=by((try dsimp only);first|assumption|exact Inv.tk (by assumption)|exact Nat.succ_pos _|exact Nat.lt_of_lt_of_le (Inv.tk (by assumption)) (by assumption)|exact Nat.add_pos_left (Inv.tk (by assumption)) _|omega)):
  Inv X pins σ (upd H l (.lst ys)) {s with heap:=s.heap.update l (Obj.mapSeq f),toks:=t'}:=by
 have q:=PySem.IsL.update e f
 rw [hf] at q
 refine I.write (x:=l) (e:=l) (by rw [hH];exact trivial) (.inl rfl) (fun b' u hb hu=>(Heap.get?_update_other s.heap (Obj.mapSeq f) (Ne.symm hb)).trans hu) ⟨_,q⟩ ?_
 exact⟨hz,its',_,hv,q⟩
theorem Inv.lnew {its:List Value}{t':Nat}(I:Inv X pins σ H s)(hv:Vals ys its)(hz:ys.length≤sizeLine)(ht:0<t':=by((try dsimp only);first|assumption|exact Inv.tk (by assumption)|exact Nat.succ_pos _|exact Nat.lt_of_lt_of_le (Inv.tk (by assumption)) (by assumption)|exact Nat.add_pos_left (Inv.tk (by assumption)) _|omega)):
  Inv X pins σ (upd H s.heap.objs.size (.lst ys)) {s with heap:=s.heap.push {cls:= .type "list",data:= .seq its.toArray},toks:=t'}:=
 I.laid (fun _ _ q=>Heap.get?_push_of_some _ q) (Nat.le_refl _) ⟨hz,its,0,hv,Heap.get?_push_size _ rfl⟩
theorem Inv.fresh (I:Inv X pins σ H s):H s.heap.objs.size=none:=I.hok.fresh (Nat.le_refl _)
theorem Inv.lstM (I:Inv X pins σ H s)(hH:H l=some (.lst xs)):xs.length≤sizeLine∧∃(its:List Value) (n:Nat),Vals xs its∧xs.length=its.length∧s.heap.get? l=some {cls:= .type "list",data:= .seq its.toArray n}:=by
 obtain⟨z,its,n,r,e⟩:=I.hok l _ hH
 exact⟨z,its,n,r,r.length,e⟩
theorem notLongL {n:Nat}(h:n≤sizeLine):Builtin.List.listTooLong n=false:=by
 unfold Builtin.List.listTooLong
 exact decide_eq_false (by omega)
end
section
variable {X:Cx}
def rAppend:V→List V→Hp→VK→Prop:=fun x vs H Q=>∃l xs y,x= .ref l∧vs= [y]∧H l=some (.lst xs)∧xs.length<sizeLine∧Q .non (upd H l (.lst (xs++ [y])))
theorem Jw:MtM X "list.append" rAppend:=by
 intro pins s σ H x vs v us Q I rx rv h
 obtain⟨l,xs,y,rfl,rfl,hH,hz,q⟩:=h
 cases rx
 obtain⟨u,rfl,ru⟩:=rv.one
 obtain⟨z,its,n,r,hl,e⟩:=I.lstM hH
 refine call_meets F.slot_list_append ⟨_,e,rfl⟩ F.entry_list_append (F.args_list_append_2 _ _) (PySem.list_append l its.toArray n u (by rw [List.size_toArray];omega)) ⟨e,?_⟩
 refine⟨.non,_,I.lset (its':=its++ [u]) hH e (by simp) (r.append (.cons ru .nil)) ?_,rfl,q⟩
 rw [List.length_append,List.length_singleton]
 omega
def rExtend:V→List V→Hp→VK→Prop:=fun x vs H Q=>∃l b xs zs,x= .ref l∧vs= [.ref b]∧H l=some (.lst xs)∧H b=some (.lst zs)∧xs.length+zs.length≤sizeLine∧Q .non (upd H l (.lst (xs++zs)))
theorem mt_extend:MtM X "list.extend" rExtend:=by
 intro pins s σ H x vs v us Q I rx rv h
 obtain⟨l,b,xs,zs,rfl,rfl,hH,hB,hz,q⟩:=h
 cases rx
 obtain⟨u,rfl,ru⟩:=rv.one
 cases ru
 obtain⟨z,its,n,r,hl,e⟩:=I.lstM hH
 obtain⟨z2,its2,n2,r2,hl2,e2⟩:=I.lstM hB
 have hsz:its.toArray.size+its2.toArray.size≤sizeLine:=by rw [List.size_toArray,List.size_toArray];omega
 have hlong:¬(!its.toArray.isEmpty&&Builtin.List.listTooLong (its.toArray.size+its2.toArray.size))=true:=by
  rw [notLongL hsz,Bool.and_false]
  exact Bool.false_ne_true
 refine call_meets F.slot_list_extend ⟨_,e,rfl⟩ F.entry_list_extend (F.args_list_extend_2 _ _)
  (AutoSeq1.list_extend_list_list_0 l its.toArray n b its2.toArray n2 hlong (by rw [List.size_toArray];omega) (by omega)) ⟨e,e2,?_⟩
 refine⟨.non,_,I.lset (its':=its++its2) hH e (by simp) (r.append r2) ?_,rfl,q⟩
 rw [List.length_append]
 omega
def rPop:V→List V→Hp→VK→Prop:=fun x vs H Q=>∃l xs y,x= .ref l∧vs= []∧H l=some (.lst xs)∧xs[xs.length-1]? =some y∧Q y (upd H l (.lst xs.dropLast))
theorem mt_pop:MtM X "list.pop" rPop:=by
 intro pins s σ H x vs v us Q I rx rv h
 obtain⟨l,xs,y,rfl,rfl,hH,hy,q⟩:=h
 cases rx
 have hus:=rv.zero
 subst hus
 obtain⟨z,its,n,r,hl,e⟩:=I.lstM hH
 obtain⟨u,hu,ru⟩:=r.get hy
 have hy':its.toArray[its.toArray.size-1]? =some u:=by
  show its.toArray[its.length-1]? =some u
  rw [←Array.getElem?_toList,←hl]
  exact hu
 refine call_meets F.slot_list_pop ⟨_,e,rfl⟩ F.entry_list_pop (F.args_list_pop_1 _) (MeetsSeq.list_pop_last l its.toArray n u hy' (by rw [List.size_toArray];omega)) ⟨e,?_⟩
 refine⟨y,_,I.lset (its':=its.dropLast) hH e ?_ r.dropLast ?_,ru,q⟩
 ·show its.toArray.eraseIdxIfInBounds (its.toArray.size-1)=its.dropLast.toArray
  rw [List.size_toArray,List.eraseIdxIfInBounds_toArray,erase_last]
 ·rw [List.length_dropLast]
  omega
def rCat:R2:=fun x y H Q=>∃l b xs zs,x= .ref l∧y= .ref b∧H l=some (.lst xs)∧H b=some (.lst zs)∧xs.length+zs.length≤sizeLine∧∀p,H p=none→Q (.ref p) (upd H p (.lst (xs++zs)))
theorem Z1:OpR X (binaryOp .Add) rCat:=by
 intro pins s σ H x y v u Q I rx ry h
 obtain⟨l,b,xs,zs,rfl,rfl,hH,hB,hz,q⟩:=h
 cases rx
 cases ry
 obtain⟨z,its,n,r,hl,e⟩:=I.lstM hH
 obtain⟨z2,its2,n2,r2,hl2,e2⟩:=I.lstM hB
 refine PySem.P.add_list e e2 ?_ (by rw [List.size_toArray,List.size_toArray];omega)
 have ea:its.toArray++its2.toArray=(its++its2).toArray:=by simp
 rw [ea]
 exact⟨.ref _,_,I.lnew (t':=s.toks) (r.append r2) (by rw [List.length_append];omega),rfl,q _ I.fresh⟩
def rRep:R2:=fun x y H Q=>∃l k xs,x= .ref l∧y= .int k∧H l=some (.lst xs)∧-(2^63)≤k∧k<2^63∧xs.length*k.toNat≤sizeLine∧
 ∀p,H p=none→Q (.ref p) (upd H p (.lst (List.replicate k.toNat xs).flatten))
theorem len_rep {α:Type}(xs:List α)(k:Nat):(List.replicate k xs).flatten.length=k*xs.length:=by
 induction k with
 |zero=>simp
 |succ k ih=>rw [List.replicate_succ,List.flatten_cons,List.length_append,ih,Nat.succ_mul,Nat.add_comm]
theorem op_rep:OpR X (binaryOp .Mult) rRep:=by
 intro pins s σ H x y v u Q I rx ry h
 obtain⟨l,k,xs,rfl,rfl,hH,h1,h2,hz,q⟩:=h
 cases rx
 obtain⟨t,rfl⟩:=ry
 obtain⟨z,its,n,r,hl,e⟩:=I.lstM hH
 have hlen:its.toArray.size*k.toNat≤sizeLine:=by rw [List.size_toArray,←hl];exact hz
 have hcap:¬its.toArray.size*k.toNat>(2^63-1)/8:=by
  have:(sizeLine:Nat)≤(2^63-1)/8:=by decide
  omega
 have hfit:¬(!Builtin.List.listFitsIndex k)=true:=by
  rw [fitsIndex_both h1 h2]
  exact Bool.false_ne_true
 have hlong:¬Builtin.List.listTooLong (its.toArray.size*k.toNat)=true:=by
  rw [notLongL hlen]
  exact Bool.false_ne_true
 have hnew:List.foldl (fun x1 x2=>x1++x2) #[] (List.replicate (if its.toArray.isEmpty=true then 0 else k.toNat) its.toArray)=(List.replicate k.toNat its).flatten.toArray:=by
  have f0:∀m:Nat,List.foldl (fun x1 x2=>x1++x2) #[] (List.replicate m its.toArray)=(List.replicate m its).flatten.toArray:=fun m=>by
   have:=zC its m []
   rw [List.nil_append] at this
   exact this
  rw [f0]
  cases its with
  |nil=>simp
  |cons a r'=>rw [if_neg (by simp)]
 refine wpAny_binaryOp_repeat_ref (T:="list") (U:="int") (by decide) ⟨_,e,rfl⟩ (fun s'=>typeIs_int s' k t) noFill_list_mul F.fills_int_mul F.slot_int_rmul repeat_list F.slot_int_index.lookup
  (call_meets F.slot_int_rmul (typeIs_int s k t) F.entry_int_rmul (F.args_int_rmul_2 _ _) (int___rmul___int_list k t l its.toArray n)
   ⟨e,rfl,⟨_,e,rfl⟩,call_meets F.slot_list_mul ⟨_,e,rfl⟩ F.entry_list_mul (F.args_list_mul_2 _ _) (AutoListH.list___mul___list_int_3 l its.toArray n k t hfit hcap hlong) ⟨e,?_⟩⟩)
 rw [hnew]
 exact⟨.ref _,_,I.lnew (t':=s.toks) (r.rep k.toNat) (by rw [len_rep,Nat.mul_comm];exact hz),rfl,q _ I.fresh⟩
end
section
variable {prog:Program}{w:World}{A:Around}{E:Value→Shared→Prop}{s:Shared}
set_option maxRecDepth 100000 in
end
section
variable {X:Cx}
end
end L2
namespace L2
open PySem PySem.Spec PyProof.Rows
section
variable {κ:Type}[DecidableEq κ]
def valV (kvs:List (κ×V))(k:κ):Option V:=(kvs.find? fun kv=>decide (kv.1=k)).map (·.2)
def putK (kvs:List (κ×V))(k:κ)(v:V):List (κ×V):=
 if(kvs.any fun kv=>decide (kv.1=k))=true then kvs.map (fun kv=>if kv.1=k then(kv.1,v) else kv) else kvs++ [(k,v)]
theorem zh {p:κ×V}{r:List (κ×V)}{k:κ}(e:p.1=k):valV (p::r) k=some p.2:=by simp [valV,List.find?_cons,e]
theorem Wl {p:κ×V}{r:List (κ×V)}{k:κ}(e:¬p.1=k):valV (p::r) k=valV r k:=by simp [valV,List.find?_cons,e]
theorem valV_any (k:κ):∀kvs:List (κ×V),(kvs.any fun kv=>decide (kv.1=k))=(valV kvs k).isSome
 | []=>rfl
 |p::r=>by
  rw [List.any_cons]
  by_cases e:p.1=k
  ·simp only [zh e,decide_eq_true e,Bool.true_or,Option.isSome_some]
  ·rw [Wl e,decide_eq_false e,Bool.false_or];exact valV_any k r
theorem xg (kvs:List (κ×V))(k:κ)(v:V):(putK kvs k v).length≤kvs.length+1:=by
 unfold putK
 split
 ·rw [List.length_map];omega
 ·rw [List.length_append,List.length_cons,List.length_nil];omega
theorem RelO.isSome_eq {o:Option V}{u:Option Value}(r:RelO o u):o.isSome=u.isSome:=by
 cases o with
 |none=>cases u with
  |none=>rfl
  |some _=>exact(show False from r).elim
 |some _=>cases u with
  |none=>exact(show False from r).elim
  |some _=>rfl
theorem RelO.getD {o:Option V}{u:Option Value}{d:V}{d':Value}(r:RelO o u)(rd:RelV d d'):RelV (o.getD d) (u.getD d'):=by
 cases o with
 |none=>cases u with
  |none=>exact rd
  |some _=>exact(show False from r).elim
 |some _=>cases u with
  |none=>exact(show False from r).elim
  |some _=>exact r
theorem KV.val {kvs:List (κ×V)}{vs:List (κ×Value)}(r:KV kvs vs)(k:κ):RelO (valV kvs k) (valueAt vs k):=by
 unfold KV at r
 induction r with
 |nil=>exact True.intro
 | @cons p q ps qs h t ih=>
  obtain⟨h1,h2⟩:=h
  by_cases e:p.1=k
  ·have e':q.1=k:=h1.symm.trans e
   have b:valueAt (q::qs) k=some q.2:=by simp [valueAt,List.find?_cons,e']
   rw [zh e,b];exact h2
  ·have e':¬q.1=k:=fun z=>e (h1.trans z)
   have b:valueAt (q::qs) k=valueAt qs k:=by simp [valueAt,List.find?_cons,e']
   rw [Wl e,b];exact ih
theorem KV.any {kvs:List (κ×V)}{vs:List (κ×Value)}(r:KV kvs vs)(k:κ):(kvs.any fun kv=>decide (kv.1=k))=vs.any fun kv=>decide (kv.1=k):=by
 unfold KV at r
 induction r with
 |nil=>rfl
 |cons h t ih=>rw [List.any_cons,List.any_cons,ih,h.1]
theorem KV.repl {kvs:List (κ×V)}{vs:List (κ×Value)}(r:KV kvs vs)(k:κ){y:V}{u:Value}(ry:RelV y u):
  KV (kvs.map fun kv=>if kv.1=k then(kv.1,y) else kv) (vs.map fun kv=>if kv.1=k then(kv.1,u) else kv):=by
 unfold KV at r⊢
 induction r with
 |nil=>exact .nil
 | @cons p q ps qs h t ih=>
  rw [List.map_cons,List.map_cons]
  refine .cons ?_ ih
  obtain⟨h1,h2⟩:=h
  by_cases e:p.1=k
  ·rw [if_pos e,if_pos (h1.symm.trans e)];exact⟨h1,ry⟩
  ·rw [if_neg e,if_neg (fun z=>e (h1.trans z))];exact⟨h1,h2⟩
theorem KV.put {kvs:List (κ×V)}{vs:List (κ×Value)}(r:KV kvs vs)(k:κ){y:V}{u:Value}(ry:RelV y u):KV (putK kvs k y) (stored vs k u):=by
 unfold putK stored
 rw [r.any k]
 by_cases e:(vs.any fun kv=>decide (kv.1=k))=true
 ·rw [if_pos e,if_pos e];exact r.repl k ry
 ·rw [if_neg e,if_neg e];exact Paired.snoc r ⟨rfl,ry⟩
theorem KV.keys {kvs:List (κ×V)}{vs:List (κ×Value)}(r:KV kvs vs):kvs.map (·.1)=vs.map (·.1):=by
 unfold KV at r
 induction r with
 |nil=>rfl
 |cons h t ih=>rw [List.map_cons,List.map_cons,ih,h.1]
theorem KV.length {kvs:List (κ×V)}{vs:List (κ×Value)}(r:KV kvs vs):kvs.length=vs.length:=Paired.length r
end
theorem kV_is {P:Program}{w:World}{k:Key}{u:Value}(r:RelV (kV k) u):(QC P w).is k u=true:=by
 cases k with
 |inl i=>obtain⟨t,e⟩:=(show∃t,u=Value.int i t from r);subst e;exact mixKind_int P w i t
 |inr x=>obtain⟨t,e⟩:=(show∃t,u=Value.str x t from r);subst e;exact Zd P w x t
theorem items_are {P:Program}{w:World}:∀{ks:List Key}{us:List Value},Vals (ks.map kV) us→ItemsAre (QC P w) ks us
 | [],_,r=>by rw [List.map_nil] at r;cases r;exact .nil
 |k::ks,_,r=>by
  rw [List.map_cons] at r
  cases r with
  |cons h t=>exact .cons (kV_is h) (items_are t)
abbrev KT (H:Hp):List (List Key×V)→List (List Key×Addr×Value)→Prop:=Paired fun p q=>p.1=q.1∧H q.2.1=some (.tup (p.1.map kV))∧RelV p.2 q.2.2
theorem KT.val {H:Hp}{kvs:List (List Key×V)}{xs:List (List Key×Addr×Value)}(r:KT H kvs xs)(k:List Key):RelO (valV kvs k) ((atKey xs k).map (·.2)):=by
 induction r with
 |nil=>exact True.intro
 | @cons p q ps qs h t ih=>
  obtain⟨h1,_,h2⟩:=h
  by_cases e:p.1=k
  ·have e':q.1=k:=h1.symm.trans e
   have b:atKey (q::qs) k=some q.2:=by simp [atKey,List.find?_cons,e']
   rw [zh e,b];exact h2
  ·have e':¬q.1=k:=fun z=>e (h1.trans z)
   have b:atKey (q::qs) k=atKey qs k:=by simp [atKey,List.find?_cons,e']
   rw [Wl e,b];exact ih
theorem KT.repl {H:Hp}{kvs:List (List Key×V)}{xs:List (List Key×Addr×Value)}(r:KT H kvs xs)(k:List Key){y:V}{u:Value}(ry:RelV y u):
  KT H (kvs.map fun kv=>if kv.1=k then(kv.1,y) else kv) (xs.map (putAt k u)):=by
 induction r with
 |nil=>exact .nil
 | @cons p q ps qs h t ih=>
  rw [List.map_cons,List.map_cons]
  refine .cons ?_ ih
  obtain⟨h1,h2,h3⟩:=h
  unfold putAt
  by_cases e:p.1=k
  ·rw [if_pos e,if_pos (h1.symm.trans e)];exact⟨h1,h2,ry⟩
  ·rw [if_neg e,if_neg (fun z=>e (h1.trans z))];exact⟨h1,h2,h3⟩
theorem KT.put {H:Hp}{kvs:List (List Key×V)}{xs:List (List Key×Addr×Value)}(r:KT H kvs xs)(k:List Key){b:Addr}{y:V}{u:Value}(hb:H b=some (.tup (k.map kV)))(ry:RelV y u):
  KT H (putK kvs k y) (storedH xs k b u):=by
 have e:(kvs.any fun kv=>decide (kv.1=k))=(atKey xs k).isSome:=by
  rw [valV_any,(r.val k).isSome_eq,Option.isSome_map]
 unfold putK storedH
 rw [e]
 by_cases q:(atKey xs k).isSome=true
 ·rw [if_pos q,if_pos q];exact r.repl k ry
 ·rw [if_neg q,if_neg q];exact Paired.snoc r ⟨rfl,hb,ry⟩
theorem KT.keeps {H H':Hp}{kvs:List (List Key×V)}{xs:List (List Key×Addr×Value)}(r:KT H kvs xs)(ht:∀b ys,H b=some (.tup ys)→H' b=some (.tup ys)):KT H' kvs xs:=
 Paired.mapP r fun _ _ z=>⟨z.1,ht _ _ z.2.1,z.2.2⟩
section
variable {P:Program}{w:World}{H:Hp}{h:Heap}{a:Addr}
theorem rd_of {u:HO}(ok:HOk P w H h)(e:Rd H a u):yL P w H h a u:=e.ok ok
theorem dk_rd {kvs:List (Key×V)}(ok:HOk P w H h)(e:Rd H a (.dK kvs)):kvs.length≤sizeLine∧(a==sysModules)=false∧∃vs,KV kvs vs∧h.DictOf (QC P w) a vs:=
 show yL P w H h a (.dK kvs) from rd_of ok e
theorem dk_of {kvs:List (Key×V)}(ok:HOk P w H h)(e:H a=some (.dK kvs)):kvs.length≤sizeLine∧(a==sysModules)=false∧∃vs,KV kvs vs∧h.DictOf (QC P w) a vs:=dk_rd ok (.inl e)
theorem key_of {ks:List Key}(ok:HOk P w H h)(e:H a=some (.tup (ks.map kV))):(tupleKind (QC P w)).is h ks a:=by
 obtain⟨_,its,r,o,h1,h2,n,h3⟩:=(show yL P w H h a (.tup (ks.map kV)) from ok a _ e)
 exact⟨o,its.toArray,n,h1,h2,h3,by simpa using items_are r⟩
theorem dt_rd {kvs:List (List Key×V)}(ok:HOk P w H h)(e:Rd H a (.dT kvs)):kvs.length≤sizeLine∧(a==sysModules)=false∧
  ∃xs,KT H kvs xs∧h.DictOfH (tupleKind (QC P w)) a xs:=by
 obtain⟨z,y,xs,r,o,es,ep,h1,h2,h3,h4,h5⟩:=(show yL P w H h a (.dT kvs) from rd_of ok e)
 refine⟨z,y,xs,r,o,es,ep,h1,h2,h3,h4,fun x hx=> ?_,h5⟩
 have all:∀{l:List (List Key×V)}{m:List (List Key×Addr×Value)},KT H l m→∀x∈m,(tupleKind (QC P w)).is h x.1 x.2.1:=by
  intro l m q
  induction q with
  |nil=>intro x hx;exact nomatch hx
  | @cons p q ps qs hq t ih=>
   intro x hx
   rcases List.mem_cons.mp hx with e|hx
   ·subst e
    exact key_of ok (by rw [←hq.1];exact hq.2.1)
   ·exact ih x hx
 exact all r x hx
theorem dt_of {kvs:List (List Key×V)}(ok:HOk P w H h)(e:H a=some (.dT kvs)):kvs.length≤sizeLine∧(a==sysModules)=false∧
  ∃xs,KT H kvs xs∧h.DictOfH (tupleKind (QC P w)) a xs:=dt_rd ok (.inl e)
end
def DGet (H:Hp)(a:Addr)(y:V)(r:Option V):Prop:=
 (∃kvs k,Rd H a (.dK kvs)∧y=kV k∧r=valV kvs k)∨∃kvs k b,Rd H a (.dT kvs)∧y= .ref b∧H b=some (.tup (k.map kV))∧r=valV kvs k
def DPut (H:Hp)(a:Addr)(y v:V)(H':Hp):Prop:=
 (∃kvs k,H a=some (.dK kvs)∧y=kV k∧kvs.length<sizeLine∧H'=upd H a (.dK (putK kvs k v)))∨
 ∃kvs k b,H a=some (.dT kvs)∧y= .ref b∧H b=some (.tup (k.map kV))∧kvs.length<sizeLine∧H'=upd H a (.dT (putK kvs k v))
theorem DGet.k {H:Hp}{a:Addr}{kvs:List (Key×V)}{k:Key}(e:H a=some (.dK kvs)):DGet H a (kV k) (valV kvs k):= .inl ⟨kvs,k,.inl e,rfl,rfl⟩
section
variable {X:Cx}{pins:List (Addr×Obj)}{σ:St}{H:Hp}{s:Shared}{a:Addr}{y v:V}{u r:Value}{o:Option V}{A:Around}{E:Value→Shared→Prop}
theorem Inv.big (I:Inv X pins σ H s):sysModules<s.heap.objs.size:=by
 have h:mainGlobals<s.heap.objs.size:=(I.mod.glob.keeps I.bk).lt
 exact Nat.lt_trans (by decide) h
theorem d_getItem {Q:Value→Shared→Prop}(hu:A.units+1<cLine)(I:Inv X pins σ H s)(g:DGet H a y (some v))(ry:RelV y u)(h:∀w' s',Inv X pins σ H s'→RelV v w'→Q w' s'):
  wpAny (model X.prog X.w) A (getItem (.ref a) u) Q E s:=by
 rcases g with⟨kvs,k,e,ey,l⟩|⟨kvs,k,b,e,ey,eb,l⟩
 ·subst ey
  obtain⟨z,hd,vs,rel,dd⟩:=dk_rd I.hok e
  obtain⟨w',hw,rw'⟩:=RelO.some_of (v:=v) (o:=valueAt vs k) (by rw [l];exact rel.val k)
  exact wpAny_getItem_of (kV_is ry) dd.mapOf hw (h w' _ (I.tok _) rw')
 ·subst ey
  cases(show u=Value.ref b from ry)
  obtain⟨z,hd,xs,rel,dd⟩:=dt_rd I.hok e
  obtain⟨w',hw,rw'⟩:=RelO.some_of (v:=v) (o:=(atKey xs k).map (·.2)) (by rw [l];exact rel.val k)
  obtain⟨p,hp,hp2⟩:=Option.map_eq_some_iff.mp hw
  refine wpAny_getItem_heap (tupleKind_room_in1 hu) (key_of I.hok eb) dd hp ?_
  rw [hp2]
  exact h w' _ (I.tok _) rw'
theorem d_write {h':Heap}{t':Nat}{ob:HO}(I:Inv X pins σ H s)(mu:Mut (H a))(hs:Heap.SameBut a s.heap h')(he:∃q,h'.get? a=some q)(new:yL X.prog X.w (upd H a ob) h' a ob)(ht:0<t':=by((try dsimp only);first|assumption|exact Inv.tk (by assumption)|exact Nat.succ_pos _|exact Nat.lt_of_lt_of_le (Inv.tk (by assumption)) (by assumption)|exact Nat.add_pos_left (Inv.tk (by assumption)) _|omega)):
  Inv X pins σ (upd H a ob) {s with heap:=h',toks:=t'}:=
 I.write (x:=a) (e:=a) mu (.inl rfl) (fun b q hb z=>(hs.2 b hb).trans z) he new
theorem dk_new {P:Program}{w:World}{H':Hp}{h':Heap}{kvs:List (Key×V)}{vs:List (Key×Value)}(z:kvs.length≤sizeLine)(hd:(a==sysModules)=false)(rel:KV kvs vs)(dd:h'.DictOf (QC P w) a vs):
  yL P w H' h' a (.dK kvs):=⟨z,hd,vs,rel,dd⟩
theorem d_setItem {H':Hp}{Q:Unit→Shared→Prop}(hu:A.units+1<cLine)(I:Inv X pins σ H s)(g:DPut H a y v H')(ry:RelV y u)(rv:RelV v r)(h:∀s',Inv X pins σ H' s'→Q () s'):
  wpAny (model X.prog X.w) A (setItem (.ref a) u r) Q E s:=by
 rcases g with⟨kvs,k,e,ey,l,eH⟩|⟨kvs,k,b,e,ey,eb,l,eH⟩
 ·subst ey eH
  obtain⟨z,hd,vs,rel,dd⟩:=dk_of I.hok e
  have hz:vs.length≤sizeLine:=by rw [←rel.length];exact z
  have hl:(putK kvs k v).length≤sizeLine:=by have:=xg kvs k v;omega
  refine wpAny_setItem_pairs (hsz:=hz) (kV_is ry) dd fun h' dd' hs=>h _ ?_
  have he:∃q,h'.get? a=some q:=let⟨q,_,_,hq,_⟩:=dd';⟨q,hq⟩
  exact d_write I (by rw [e];exact True.intro) hs he (dk_new hl hd (rel.put k rv) dd')
 ·subst ey eH
  cases(show u=Value.ref b from ry)
  obtain⟨z,hd,xs,rel,dd⟩:=dt_of I.hok e
  have hz:xs.length≤sizeLine:=by rw [←Paired.length rel];exact z
  have hl:(putK kvs k v).length≤sizeLine:=by have:=xg kvs k v;omega
  refine wpAny_setItem_heap (hsz:=hz) (tupleKind_room_in1 hu) (key_of I.hok eb) dd fun h' dd' hs=>h _ ?_
  obtain⟨q,es,ep,hq,h2,h3,h4,_,h5⟩:=dd'
  refine d_write I (by rw [e];exact True.intro) hs ⟨q,hq⟩ ⟨hl,hd,_,(rel.put k eb rv).keeps fun c ys ec=> ?_,q,es,ep,hq,h2,h3,h4,h5⟩
  rw [qu (ne_of ec e (fun z=>nomatch z))]
  exact ec
end
section
variable {X:Cx}{pins:List (Addr×Obj)}{σ:St}{H:Hp}{s:Shared}{a:Addr}{kvs:List (Key×V)}{k:Key}{u:Value}{A:Around}{E:Value→Shared→Prop}
end
def NoSl (i:Expr):Prop:=∀ov iv,subscripted i false ov iv=operate [ov,iv] (getItem ov iv)
theorem subD_of {prog:Program}{w:World}{A:Around}{E:Value→Shared→Prop}{s:Shared}{env:Env}{value slice:Expr}{pos:Pos}{T id:String}{Q:Value→Shared→Prop}
  (hl:typeLookup (.type T) "__getitem__"=pure (some (.builtin id))) (hs:NoSl slice)
  (h:wpAny (model prog w) A (eval value env) (fun o s₁=>wpAny (model prog w) A (eval slice env) (fun i s₂=>s₂.TypeIs o T∧wpAny (model prog w) A (getItem o i) Q E s₂) E s₁) E s):
  wpAny (model prog w) A (eval (.Subscript value slice pos) env) Q E s:=by
 refine Subscript_ (wpAny_mono h (fun o s₁ h₁=>wpAny_mono h₁ (fun i s₂ h₂=> ?_) fun _ _ x=>x) fun _ _ x=>x)
 obtain⟨hT,h₂⟩:=h₂
 unfold subscriptTail
 refine wpAny_bind ?_
 rw [getitemInPython_of_ne hT.not_modules]
 refine wpAny_bind (wpAny_specialOf hT hl ?_)
 have fin:wpAny (model prog w) A (subscripted slice false o i) (fun r s₃=>wpAny (model prog w) A (letTemporaryGo value o r>>=fun _=>pure r) Q E s₃) E s₂:=by
  rw [hs o i]
  exact wpAny_operating (wpAny_mono h₂ (fun r s₃ h₃=>wpAny_bind (wpAny_letTemporaryGo (wpAny_pure h₃))) fun _ _ x=>x)
 first
  |exact wpAny_pure (wpAny_bind fin)
  |exact wpAny_bind (wpAny_pure (wpAny_bind fin))
  |exact wpAny_bind fin
theorem dict_typeIs {X:Cx}{pins:List (Addr×Obj)}{σ:St}{H:Hp}{s:Shared}{a:Addr}{y:V}{o:Option V}(I:Inv X pins σ H s)(g:DGet H a y o):s.TypeIs (.ref a) "dict":=by
 rcases g with⟨kvs,k,e,_,_⟩|⟨kvs,k,b,e,_,_,_⟩
 ·obtain⟨_,_,vs,_,dd⟩:=dk_rd I.hok e
  exact dd.typeIs
 ·obtain⟨_,_,xs,_,dd⟩:=dt_rd I.hok e
  exact dd.typeIs
def tDGet (td ty:TE):TE:=fun σ H Q=>td σ H fun x H1=>ty σ H1 fun y H2=>∃a v,x= .ref a∧DGet H2 a y (some v)∧Q v H2
def sDPut (td ty tv:TE):TS:=fun D σ H=>tv σ H fun v H1=>td σ H1 fun x H2=>ty σ H2 fun y H3=>∃a H4,x= .ref a∧DPut H3 a y v H4∧D.nx σ H4
section
variable {X:Cx}{o i e value:Expr}{pos pos' tpos:Pos}{td ty tv:TE}
theorem qZ (hu:X.A.units+1<cLine)(ho:PE X o td)(hi:PE X i ty)(hs:NoSl i):PE X (.Subscript o i pos) (tDGet td ty):=by
 intro pins s σ H Q I h
 refine subD_of PySem.F.slot_dict_getitem.lookup hs (thn (ho pins s σ H _ I h) fun u s1 ⟨x,H1,I1,rx,q1⟩=>thn (hi pins s1 σ H1 _ I1 q1) fun iv s2 ⟨y,H2,I2,ry,a,v,ex,g,q2⟩=> ?_)
 subst ex
 obtain rfl:u=Value.ref a:=rx
 exact⟨dict_typeIs I2 g,d_getItem hu I2 g ry fun w' s3 I3 rw'=>⟨v,H2,I3,rw',q2⟩⟩
theorem ps_dput (hu:X.A.units+1<cLine)(ho:PE X o td)(hi:PE X i ty)(hv:PE X value tv)(hs:swapsWith value (some (.Subscript o i pos')) pos.line X.env=pure false):
  PS X (.Assign [.Subscript o i pos'] value pos) (sDPut td ty tv):=by
 intro pins s σ H D I h
 refine wpAny_Assign_Subscript (thn (hv pins s σ H _ I h) fun r s1 ⟨v,H1,I1,rv,q1⟩=>thn (ho pins s1 σ H1 _ I1 q1) fun u s2 ⟨x,H2,I2,rx,q2⟩=>thn (hi pins s2 σ H2 _ I2 q2) fun iv s3 ⟨y,H3,I3,ry,a,H4,ex,g,q3⟩=> ?_) hs
 subst ex
 obtain rfl:u=Value.ref a:=rx
 exact d_setItem hu I3 g ry rv fun s4 I4=>⟨σ,H4,I4,q3⟩
end
theorem dk_empty {P:Program}{w:World}{H:Hp}(h:Heap)(hb:sysModules<h.objs.size):yL P w H (h.push {cls:= .type "dict",data:= .dict #[]}) h.objs.size (.dK []):=
 ⟨Nat.zero_le _,beq_eq_false_iff_ne.mpr (Ne.symm (Nat.ne_of_lt hb)),[],.nil,Heap.DictOf.new h⟩
section
variable {X:Cx}{pos:Pos}
end
def tPairs:List (TE×TE)→St→Hp→(List (V×V)→Hp→Prop)→Prop
 | [],_,H,Q=>Q [] H
 |(tk,tv)::r,σ,H,Q=>tk σ H fun x H1=>tv σ H1 fun y H2=>tPairs r σ H2 fun ps H3=>Q ((x,y)::ps) H3
abbrev VV:List (V×V)→List (Value×Value)→Prop:=Paired fun p q=>RelV p.1 q.1∧RelV p.2 q.2
def PPs (X:Cx)(pos:Pos)(keys:List (Option Expr))(values:List Expr)(trs:List (TE×TE)):Prop:=
 ∀(pins:List (Addr×Obj)) (s:Shared) (σ:St) (H:Hp) (Q:List (V×V)→Hp→Prop),Inv X pins σ H s→tPairs trs σ H Q→
  wpAny (model X.prog X.w) X.A (evalPairs (pairTrees keys values X.env pos)) (fun vs s'=>∃ps H',Inv X pins σ H' s'∧VV ps vs∧Q ps H') X.xe s
theorem pps_nil {X:Cx}{pos:Pos}:PPs X pos [] [] []:=fun pins s σ H Q I h=>pairTrees_nil_walk ⟨[],H,I,.nil,h⟩
theorem Yn {X:Cx}{pos:Pos}{k v:Expr}{ks:List (Option Expr)}{vs:List Expr}{tk tv:TE}{trs:List (TE×TE)}(hk:PE X k tk)(hv:PE X v tv)(hr:PPs X pos ks vs trs):
  PPs X pos (some k::ks) (v::vs) ((tk,tv)::trs):=fun pins s σ H Q I h=>
 pairTrees_cons_walk (thn (hk pins s σ H _ I h) fun u s1 ⟨x,H1,I1,rx,q1⟩=>thn (hv pins s1 σ H1 _ I1 q1) fun w2 s2 ⟨y,H2,I2,ry,q2⟩=>
  thn (hr pins s2 σ H2 _ I2 q2) fun ws s3 ⟨ps,H3,I3,rel,q3⟩=>⟨(x,y)::ps,H3,I3,.cons ⟨rx,ry⟩ rel,q3⟩)
def j9 (kvs more:List (Key×V)):List (Key×V):=more.foldl (fun acc kv=>putK acc kv.1 kv.2) kvs
theorem KV.merge:∀{more:List (Key×V)}{rs:List (Key×Value)}{kvs:List (Key×V)}{vs:List (Key×Value)},KV more rs→KV kvs vs→KV (j9 kvs more) (merged vs rs):=by
 intro more rs kvs vs r
 unfold KV at r
 induction r generalizing kvs vs with
 |nil=>intro q;exact q
 | @cons p q ps qs h t ih=>
  intro r0
  have e:KV (putK kvs p.1 p.2) (stored vs q.1 q.2):=by
   have:=r0.put p.1 h.2
   rw [←h.1];exact this
  exact ih e
theorem xQ:∀(more kvs:List (Key×V)),(j9 kvs more).length≤kvs.length+more.length
 | [],kvs=>by show kvs.length≤kvs.length+0;omega
 |p::r,kvs=>by
  have h1:=xQ r (putK kvs p.1 p.2)
  have h2:=xg kvs p.1 p.2
  show(j9 (putK kvs p.1 p.2) r).length≤_
  rw [List.length_cons];omega
theorem ww {P:Program}{w:World}:∀{kvs:List (Key×V)}{ws:List (Value×Value)},VV (kvs.map fun kv=>(kV kv.1,kv.2)) ws→∃rs,Carries (QC P w) ws rs∧KV kvs rs
 | [],_,r=>by rw [List.map_nil] at r;cases r;exact⟨[],True.intro,.nil⟩
 |p::kvs,_,r=>by
  rw [List.map_cons] at r
  cases r with
  | @cons a b as bs h t=>
   obtain⟨rs,c,q⟩:=ww (P:=P) (w:=w) t
   obtain⟨b1,b2⟩:=b
   exact⟨(p.1,b2)::rs,⟨kV_is h.1,rfl,c⟩,.cons ⟨rfl,h.2⟩ q⟩
def tDisp (trs:List (TE×TE)):TE:=fun σ H Q=>∀p,H p=none→tPairs trs σ (upd H p (.dK [])) fun ps H2=>H2 p=some (.dK [])∧∃kvs:List (Key×V),ps=kvs.map (fun kv=>(kV kv.1,kv.2))∧kvs.length≤15∧Q (.ref p) (upd H2 p (.dK (j9 [] kvs)))
theorem pe_disp {X:Cx}{pos:Pos}{keys:List (Option Expr)}{values:List Expr}{trs:List (TE×TE)}(h:PPs X pos keys values trs)(hall:keys.all (·.isSome)=true)(hl:keys.length=values.length)(h0:keys≠ [])
  (h15:keys.length≤15):PE X (.Dict keys values pos) (tDisp trs):=by
 intro pins s σ H Q I q
 have hn:=I.hok.fresh (Nat.le_refl s.heap.objs.size)
 have I1:=I.laid (a:=s.heap.objs.size) (o:= .dK []) (h':=s.heap.push {cls:= .type "dict",data:= .dict #[]}) (t':=s.toks) (fun _ _ q=>Heap.get?_push_of_some _ q) (Nat.le_refl _) (dk_empty s.heap I.big)
 refine wpAny_Dict_walk (knd:=QC X.prog X.w) hall hl h0 h15 (thn (h pins _ σ _ _ I1 (q _ hn)) fun ws s2 ⟨ps,H2,I2,rel,e,kvs,ep,lk,q2⟩=> ?_)
 subst ep
 obtain⟨rs,c,rk⟩:=ww (P:=X.prog) (w:=X.w) rel
 obtain⟨z,hd,vs0,r0,dd⟩:=dk_of I2.hok e
 cases r0
 refine⟨rs,c,dd,fun h' dd' hs=>⟨.ref s.heap.objs.size,_,?_,rfl,q2⟩⟩
 have hz:(j9 [] kvs).length≤sizeLine:=by
  have h1:=xQ kvs []
  rw [List.length_nil] at h1
  rw [sizeLine_eq];omega
 have he:∃q,h'.get? s.heap.objs.size=some q:=let⟨q,_,_,hq,_⟩:=dd';⟨q,hq⟩
 exact d_write I2 (by rw [e];exact True.intro) hs he (dk_new hz hd (rk.merge .nil) dd')
structure M2 (X:Cx)(o:Expr)(m:Str)(apos:Pos)(e f:Expr)(cpos:Pos):Prop where
 base:attributeBase o m X.env (eval o X.env)=eval o X.env
 few:((backTo cpos (starEach [e,f] X.env)).all (fun x=> !x.1)&&(backToKw cpos (keywordEach [] X.env)).all (fun x=>x.1.isSome)
  &&decide (([e,f]:List Expr).length+([]:List Keyword).length+(if([]:List Keyword).isEmpty then 0 else 1)<30))=true
 line:(apos.endLine==cpos.line)=true
 trees:backTo cpos (starEach [e,f] X.env)= [(false,eval e X.env),(false,eval f X.env)]
def IsD (H:Hp)(a:Addr):Prop:=(∃kvs,Rd H a (.dK kvs))∨∃kvs,Rd H a (.dT kvs)
theorem isD_at {X:Cx}{pins:List (Addr×Obj)}{σ:St}{H:Hp}{s:Shared}{a:Addr}(I:Inv X pins σ H s)(d:IsD H a):
  s.TypeIs (.ref a) "dict"∧(∀b,Value.ref a= .ref b→∃ob,s.heap.get? b=some ob∧ob.dict=none)∧(a==sysModules)=false:=by
 rcases d with⟨kvs,e⟩|⟨kvs,e⟩
 ·obtain⟨_,hd,vs,_,dd⟩:=dk_rd I.hok e
  refine⟨dd.typeIs,fun b q=> ?_,hd⟩
  cases q
  obtain⟨ob,_,_,h1,h2,_⟩:=dd
  exact⟨ob,h1,h2.2.1⟩
 ·obtain⟨_,hd,xs,_,dd⟩:=dt_rd I.hok e
  refine⟨dd.typeIs,fun b q=> ?_,hd⟩
  cases q
  obtain⟨ob,_,_,h1,h2,_⟩:=dd
  exact⟨ob,h1,h2.2.1⟩
section
variable {X:Cx}{pins:List (Addr×Obj)}{σ:St}{H:Hp}{s:Shared}{a:Addr}{y d:V}{u r:Value}{o:Option V}{A:Around}{E:Value→Shared→Prop}
theorem d_get2 {Q:Value→Shared→Prop}(hu:A.units+1<cLine)(I:Inv X pins σ H s)(g:DGet H a y o)(ry:RelV y u)(rd:RelV d r)(h:∀w' s',Inv X pins σ H s'→RelV (o.getD d) w'→Q w' s'):
  wpAny (model X.prog X.w) A (call (.builtin "dict.get") [.ref a,u,r]) Q E s:=by
 rcases g with⟨kvs,k,e,ey,l⟩|⟨kvs,k,b,e,ey,eb,l⟩
 ·subst ey
  obtain⟨z,hd,vs,rel,dd⟩:=dk_rd I.hok e
  refine call_meetsIn PySem.F.slot_dict_get dd.typeIs PySem.F.entry_dict_get (PySem.F.args_dict_get_3 _ _ _) (meets_dict_get_default (QC X.prog X.w) a (kV_is ry) hd r) ⟨_,dd.mapOf,h _ _ (I.tok _) ?_⟩
  rw [l]
  exact(rel.val k).getD rd
 ·subst ey
  cases(show u=Value.ref b from ry)
  obtain⟨z,hd,xs,rel,dd⟩:=dt_rd I.hok e
  refine call_meetsIn PySem.F.slot_dict_get dd.typeIs PySem.F.entry_dict_get (PySem.F.args_dict_get_3 _ _ _) (meetsH_dict_get_default (tupleKind (QC X.prog X.w)) a b hd r) ⟨tupleKind_room_in1 hu,k,xs,key_of I.hok eb,dd,h _ _ (I.tok _) ?_⟩
  rw [l]
  exact(rel.val k).getD rd
end
def tDGet2 (td ty tx:TE):TE:=fun σ H Q=>td σ H fun x H1=>∃a,x= .ref a∧IsD H1 a∧ty σ H1 fun y H2=>tx σ H2 fun z H3=>∃o,DGet H3 a y o∧Q (o.getD z) H3
section
variable {X:Cx}{o e f:Expr}{apos cpos:Pos}{td ty tx:TE}
theorem w8 (hu:X.A.units+1<cLine)(ho:PE X o td)(he:PE X e ty)(hf:PE X f tx)(m:M2 X o "get" apos e f cpos):PE X (.Call (.Attribute o "get" apos) [e,f] [] cpos) (tDGet2 td ty tx):=by
 intro pins s σ H Q I h
 refine wpAny_Call_method m.base m.few m.line PySem.F.plainAttrs_dict PySem.F.slot_dict_get PySem.F.type_dict_get (thn (ho pins s σ H _ I h) fun u s1 ⟨x,H1,I1,rx,a,ex,d,q1⟩=> ?_)
 subst ex
 obtain rfl:u=Value.ref a:=rx
 obtain⟨t1,t2,_⟩:=isD_at I1 d
 refine⟨t1,t2,?_⟩
 rw [m.trees]
 refine Calls.callWith_builtin rfl (Calls.evalArgs_plain (Calls.spliced_cons (thn (he pins s1 σ H1 _ I1 q1) fun iv s2 ⟨y,H2,I2,ry,q2⟩=>
  Calls.spliced_cons (thn (hf pins s2 σ H2 _ I2 q2) fun fv s3 ⟨z,H3,I3,rz,ov,g,q3⟩=>Calls.spliced_nil ?_))))
 exact d_get2 hu I3 g ry rz fun w' s4 I4 rw'=>⟨_,H3,I4,rw',q3⟩
end
section
variable {X:Cx}{pins:List (Addr×Obj)}{σ:St}{H:Hp}{s:Shared}{a:Addr}{kvs:List (Key×V)}{A:Around}{E:Value→Shared→Prop}
end
section
variable {X:Cx}{pins:List (Addr×Obj)}{σ:St}{H:Hp}{s:Shared}{a:Addr}{y:V}{u:Value}{A:Around}{E:Value→Shared→Prop}
end
end L2
namespace Att
open PySem PySem.W PySem.Calls PyProof.Rows
theorem zr {P:Params}{h:Heap}:∀(ns:List Int) (vs:List Value),WellAll P h vs (ns.map WData.int)→IntsAre vs ns:=by
 intro ns
 induction ns with
 |nil=>
  intro vs w
  rw [List.map_nil] at w
  cases w
  exact .nil
 |cons n ns ih=>
  intro vs w
  rw [List.map_cons] at w
  cases w with
  |cons a b=>
   cases a
   exact .cons _ _ (ih _ b)
theorem script_of {l:OpenLaw}{n:Nat}(hn:l.most=some n){P:Params}{h:Heap}{args:List WData}{vals:List Value}
  (hpre:l.row.toRowW.claim.pre args=true) (hwl:WellAll P h vals args):
  ∃a vs ns,vals= [Value.ref a]∧args= [WData.list (ns.map WData.int)]∧h.get? a=some {cls:= .type "list",data:= .seq vs.toArray}∧IntsAre vs ns∧ns.length≤n:=by
 have hsh:WShape.hasAll [] args [.list .int]=true:=(pre_splitW hpre).1
 have hc:l.pre.holds [] {args:=args}=true:=(pre_splitW hpre).2
 obtain⟨d,r,rfl,h1,h2⟩:=hasAllW_cons hsh
 obtain rfl:=hasAllW_nil h2
 obtain⟨xs,rfl,h3⟩:=hasW_list h1
 obtain⟨ns,rfl⟩:=items_int h3
 have hlen:ns.length≤n:=by
  unfold OpenLaw.pre at hc
  have h4:(WTm.not (.lt (.lit (.int (n:Int))) (.len (.arg 0)))).holds [] {args:= [.list (ns.map .int)]}=true:=by
   have h4:=(holds_andW hc).1
   rw [hn] at h4
   exact h4
  have h5:=condW_of h4 (w_not (w_lt w_lit (w_len_list (w_arg rfl))))
  rw [List.length_map] at h5
  refine Nat.le_of_not_lt fun q=> ?_
  have q':(n:Int)<((ns.length:Nat):Int):=by omega
  first
   |(rw [decide_eq_true q'] at h5;exact absurd h5 (by decide))
   |(simp at h5;omega)
 cases hwl with
 |cons w1 w2=>
  cases w2
  cases w1 with
  |list ho hall=>exact⟨_,_,ns,rfl,rfl,ho,zr ns _ hall,hlen⟩
theorem post_true (l:OpenLaw)(args:List WData):l.row.toRowW.claim.post args (.bool true) args=true:=
 postW_of (r:=l.row.toRowW) (X:=(true==true))
  (show WShape.has [] (.bool true) .bool=true by first|rfl|decide|simp [WShape.has,WShape.arms,WShape.armsAll])
  (show(WTm.eq .res (.lit (.bool true))).value [] {args:=args,res:=some (.bool true),after:=args}=some (.bool (true==true)) from w_eq_bool (w_res rfl) w_lit) rfl
section
variable {prog:Program}{w:World}{A:Around}{E:Value→Shared→Prop}{s:Shared}{K:Frag}
end
end Att
namespace L2
open PySem PySem.Spec PyProof.Rows
theorem vals_ints:∀{vs:List Value}{ns:List Int},IntsAre vs ns→Vals (ns.map V.int) vs
 |_,_,.nil=> .nil
 |_,_,.cons n t h=> .cons ⟨t,rfl⟩ (vals_ints h)
def Only (H:Hp):Prop:=∀b,H b=none∨∃o xs,H b=some (.frz o (.lst xs))
theorem law_call {P:Program}{w:World}{K:PySem.W.Frag}{mg mb:Str→Option Value}{CX:CXT}{k:Nat}{fa a:Addr}{fd:FuncData}{x:Str}{sp:Sp}{s₁:Shared}{vs:List Value}{ns:List Int}
  (KX:K.In s₁.heap) (hns:s₁.heap.Ns mainGlobals mg) (hb:s₁.heap.Ns builtinsNs mb) (hbb:∀x:Str,x≠"__name__"→mb x=bootBuiltins x) (hlim:s₁.heap.NoLimit) (hg:s₁.gens= #[])
  (ha:s₁.heap.get? a=some {cls:= .type "list",data:= .seq vs.toArray}) (hi:IntsAre vs ns) (hl:ns.length≤sizeLine) (hr:Room k callerA)
  (F:∀base:Heap,K.In base→base.Ns mainGlobals mg→FnOk P w K mg base CX k fa fd [x] sp) (hbind:∀(s:Shared) (u:Value),BindsTo s fd ⟨[u],[]⟩ [(x,u)])
  (hloc:fd.scope.names.lookup x=some .local) (hsp:∀H:Hp,Only H→SqL K H a (ns.map V.int)→sp [.ref a] H (fun v _=>v= .bl true) fun _ _ _=>False)
  (hCX:∀H e s',CX [] H s₁ (fun _ _ _=>False) e s'→False):
  codeAny (model P w) callerA (.call (.ref fa) ⟨[.ref a],[]⟩) (fun r s'=>r= .ok (.ret (.bool true))∧OldK s₁.heap s'.heap∧s'.os=s₁.os∧AllBare s'.gens) s₁:=by
 have rv:=vals_ints hi
 have lenV:=hi.length
 have core:∀H:Hp,Only H→SqL K H a (ns.map V.int)→HOk P w H s₁.heap→(∀b,H b≠none→b=a)→(H a≠none→K.lookup a=none)→
   codeAny (model P w) callerA (.call (.ref fa) ⟨[.ref a],[]⟩) (fun r s'=>r= .ok (.ret (.bool true))∧OldK s₁.heap s'.heap∧s'.os=s₁.os∧AllBare s'.gens) s₁:=by
  intro H hO hS hok hA hK
  have base_of:∀{b:Addr}{o:Obj},s₁.heap.get? b=some o→H b=none→(hidT s₁.heap H).get? b=some o:=fun e n=>hidT_get e n
  have noA:∀{b:Addr}{o:Obj}{es:Array DictEntry}{ep:Nat},s₁.heap.get? b=some o→o.data= .dict es ep→H b=none:=fun{b o es ep} e d=>by
   cases q:H b with
   |none=>rfl
   |some u=>
    have e':b=a:=hA b (by rw [q];simp)
    subst e'
    rw [ha] at e;cases e
    have d':Data.seq vs.toArray _=Data.dict es ep:=d
    cases d'
  have nsK:∀{b:Addr}{m:Str→Option Value},s₁.heap.Ns b m→(hidT s₁.heap H).Ns b m:=fun{b m} ⟨o,es,ep,e,d,r⟩=>⟨o,es,ep,base_of e (noA e d),d,r⟩
  have hKb:K.In (hidT s₁.heap H):=fun b o e=>base_of (KX b o e) (by
   cases q:H b with
   |none=>rfl
   |some u=>
    have e':b=a:=hA b (by rw [q];simp)
    subst e'
    rw [hK (by rw [q];simp)] at e;cases e)
  have hM:Mod K mg (hidT s₁.heap H):=⟨hKb,nsK hns,⟨mb,nsK hb,hbb⟩,let⟨mc,h1,h2⟩:=hlim;⟨mc,nsK h1,h2⟩⟩
  have e0:Env0 P w K mg (hidT s₁.heap H) callerA [] s₁ H:=⟨rfl,hM,fun b o e=>of_hidT e,Nat.le_of_eq (hidT_size _ _),trivial,fun b hb=>absurd (show b∈([]:List Addr) from hb) (by simp),hok,.of_eq hg⟩
  refine codeAny_mono ((F _ hKb (nsK hns)).run callerA [] s₁ H ⟨[.ref a],[]⟩ [.ref a] [.ref a] _ _ hr e0 (hbind s₁ (.ref a)) (.cons rfl .nil) (hsp H hO hS) (.inr ⟨_,_,rfl,hloc⟩)) fun r s' h=> ?_
  cases r with
  |error e=>exact(hCX H e s' h).elim
  |ok fl=>
   cases fl with
   |next=>exact False.elim h
   |brk=>exact False.elim h
   |cont=>exact False.elim h
   |ret u=>
    obtain⟨v,H',os,bare,htk,un,hok',r',q⟩:=h
    have q':v= .bl true:=q
    subst q'
    obtain rfl:u=Value.bool true:=r'
    refine⟨rfl,OldK.of_keep fun b o e=> ?_,os,bare⟩
    cases q:H b with
    |none=>exact un.keep b o e q (by intro z;exact absurd (show b∈([]:List Addr) from z) (by simp)) (by simp)
    |some u=>
     rcases hO b with z|⟨ob,xs,z⟩
     ·rw [q] at z;cases z
     ·have z2:=un.frzs b ob _ z
      obtain⟨e1,_⟩:=hok b _ z
      obtain⟨e2,_⟩:=hok' b _ z2
      rw [e] at e1;cases e1
      exact e2
 cases hk:K.lookup a with
 |some o=>
  have e:=KX a o hk
  rw [ha] at e
  cases e
  refine core (fun _=>none) (fun _=> .inl rfl) (.inr ⟨_,vs.toArray,_,hk,rfl,rfl,rfl,by rw [List.size_toArray,lenV];exact hl,by simpa using rv⟩) (fun b u z=>by have z':(none:Option HO)=some u:=z;cases z') (fun b z=>absurd rfl z) fun z=>absurd rfl z
 |none=>
  refine core (fun b=>if b=a then some (.frz {cls:= .type "list",data:= .seq vs.toArray} (.lst (ns.map V.int))) else none) (fun b=> ?_) (.inl (.inr ⟨{cls:= .type "list",data:= .seq vs.toArray},if_pos rfl⟩)) (fun b u z=> ?_) (fun b z=> ?_) fun _=>hk
  ·by_cases hb:b=a
   ·exact .inr ⟨_,_,if_pos hb⟩
   ·exact .inl (if_neg hb)
  ·by_cases hb:b=a
   ·have z':=(if_pos hb).symm.trans z
    cases z'
    subst hb
    exact⟨ha,by rw [List.length_map];exact hl,vs,_,rv,ha⟩
   ·have z':=(if_neg hb).symm.trans z
    cases z'
  ·by_cases hb:b=a
   ·exact hb
   ·exact absurd (if_neg hb) z
end L2
namespace L2
open PySem PySem.Spec PyProof.Rows
abbrev KOf {K:PySem.W.Frag}{h:Heap}(_:K.In h):PySem.W.Frag:=K
end L2
namespace L2
open PySem PySem.Spec PyProof.Rows
def j7 (s:Stmt)(j:Nat):Stmt:=match s with
 | .ClassDef _ _ _ body _ _ _ _ _ _ _=>body.getD j (.Pass ⟨0,0,0,0⟩)
 |_=> .Pass ⟨0,0,0,0⟩
def qx (s:Stmt):Arguments:=match s with
 | .FunctionDef _ a _ _ _ _ _ _ _ _=>a
 |_=>{posonlyargs:= [],args:= [],vararg:=none,kwonlyargs:= [],kw_defaults:= [],kwarg:=none,defaults:= []}
def qv (s:Stmt):List Stmt:=match s with
 | .FunctionDef _ _ b _ _ _ _ _ _ _=>b
 |_=> []
def qg (s:Stmt):Scope:=match s with
 | .FunctionDef _ _ _ _ _ _ sc _ _ _=>sc
 |_=>{kind:= .function,names:= [],isGenerator:=false,isCoroutine:=false}
abbrev CX0:CXT:=fun _ _ _ _ _ _=>False
abbrev E0:XK:=fun _ _ _=>False
theorem qQ {X:Cx}:Za CX0 X E0:=fun _ _ _ _ _ _ _ h=>h.elim
structure Fun (K:PySem.W.Frag)(x qual:Str)(st:Stmt)(f:Addr)(fd:FuncData):Prop where
 ex:∃(oc:Value) (od:Option Addr) (kV doc pm:Value) (an:Option Addr) (cdv ct:Value) (osl:Array (Option Value)),
  fd=PySem.W.fnOf x qual (qx st) (qv st) (qg st) .none kV doc pm an cdv ct∧K.lookup f=some ⟨oc,od,.func fd,osl⟩∧PySem.W.codeIn K cdv qual=true
 kp:PySem.W.keepIn K (.ref f)=true
section
variable {P:Program}{w:World}{K:PySem.W.Frag}{mg:Str→Option Value}{base:Heap}
theorem Fun.ok {x qual:Str}{st:Stmt}{f:Addr}{fd:FuncData}{N ps:List Str}{k:Nat}{sp:Sp}(F:Fun K x qual st f fd)(S:qy N ps (qg st))(len:∀vs H Q E,sp vs H Q E→vs.length=ps.length)
  (hbody:∀(cdv:Value) (A:Around) (outer:List Env) (s:Shared) (H:Hp) (vs:List V) (Q:VK) (E:XK),Room k (A.deeper (envOfC qual (qg st) s.heap.objs.size f cdv))→sp vs H Q E→
   ∃t,PSs (cxOf CX0 P w K mg base N qual (qg st) f cdv A outer s H E).nox (qv st) t∧t {nx:=fun _ H'=>Q .non H',rt:=Q} (start N vs) H):FnOk P w K mg base CX0 (k+1) f fd ps sp:=by
 obtain⟨oc,od,kV,doc,pm,an,cdv,ct,osl,rfl,lk,hcd⟩:=F.ex
 refine fn_of lk hcd S len fun A outer s H vs Q E hr hsp=> ?_
 obtain⟨t,h,q⟩:=hbody cdv A outer s H vs Q E hr hsp
 exact⟨t,h.nox,q⟩
theorem Fun.binds {x qual:Str}{st:Stmt}{f:Addr}{fd:FuncData}{ps:List Str}(F:Fun K x qual st f fd)
  (h:∀(kV doc pm:Value) (an:Option Addr) (cdv ct:Value) (us:List Value),us.length=ps.length→bindArgs (PySem.W.fnOf x qual (qx st) (qv st) (qg st) .none kV doc pm an cdv ct) ⟨us,[]⟩=pure (ps.zip us)):qR K fd ps []:=by
 obtain⟨oc,od,kV,doc,pm,an,cdv,ct,osl,rfl,lk,hcd⟩:=F.ex
 exact .all (h kV doc pm an cdv ct)
theorem qK {x qual:Str}{st:Stmt}{f:Addr}{oc:Value}{od an:Option Addr}{osl:Array (Option Value)}{kV doc pm cdv ct:Value}(l:K.lookup f=some ⟨oc,od,.func (PySem.W.fnOf x qual (qx st) (qv st) (qg st) .none kV doc pm an cdv ct),osl⟩)
  (c:PySem.W.codeIn K cdv qual=true) (k:PySem.W.keepIn K (.ref f)=true):Fun K x qual st f (PySem.W.fnOf x qual (qx st) (qv st) (qg st) .none kV doc pm an cdv ct):=⟨⟨oc,od,kV,doc,pm,an,cdv,ct,osl,rfl,l,c⟩,k⟩
end
theorem yd {A:Around}{k:Nat}(hr:Room k A):A.units+1<cLine:=Nat.lt_of_le_of_lt (Nat.add_le_add_left (by decide:1≤64) _) hr.units
theorem Jl {n:Nat}(h:n≤1000):n<sizeLine:=Nat.lt_of_le_of_lt h (by decide)
section
variable {X:Cx}
theorem pv (i:Nat){x:Str}{pos:Pos}(hN:X.N[i]? =some x:=by rfl)(hv:Vis X.env.scope x:=by first|exact Or.inl rfl|exact Or.inr (Or.inl rfl)|exact Or.inr (Or.inr rfl))(hd:(x==("__debug__":Str))=false:=by decide)
  (hcd:(x==("__classdict__":Str))=false:=by decide):PE X (.Name x pos) (tVar i):=pe_var hN hv hd hcd
end
theorem iteF {A B:Prop}(h:B):if false=true then A else B:=by
 rw [if_neg Bool.false_ne_true]
 exact h
theorem iteT {A B:Prop}(h:A):if true=true then A else B:=by
 rw [if_pos rfl]
 exact h
theorem ite2 {c A B:Prop}[Decidable c](h1:c→A)(h2:¬c→B):if c then A else B:=by
 by_cases h:c
 ·rw [if_pos h]
  exact h1 h
 ·rw [if_neg h]
  exact h2 h
def Same (H H':Hp):Prop:=∀b o,H b=some o→H' b=some o
theorem Same.refl (H:Hp):Same H H:=fun _ _ h=>h
theorem Same.trans {H H1 H2:Hp}(a:Same H H1)(b:Same H1 H2):Same H H2:=fun c o h=>b c o (a c o h)
theorem Same.free {H H':Hp}(e:Same H H'){l:Addr}(h:H' l=Option.none):H l=Option.none:=by
 cases q:H l with
 |none=>rfl
 |some o=>
  rw [e l o q] at h
  cases h
theorem Same.seq {K:PySem.W.Frag}{H H':Hp}{a:Addr}{xs:List V}(e:Same H H')(h:SqL K H a xs):SqL K H' a xs:=by
 rcases h with(h|⟨o,h⟩)|h
 ·exact .inl (.inl (e _ _ h))
 ·exact .inl (.inr ⟨o,e _ _ h⟩)
 ·exact .inr h
section
variable {κ:Type}[DecidableEq κ]
end
end L2
namespace L2
open PySem
inductive D where
 |non|bl (b:Bool)|int (i:Int)|str (z:Str)|lst|dct|tup (xs:List D)
def Qg (c:Nat):Bool:=decide (32≤c)&&decide (c≤126)&&decide (c≠37)
def yu (z:Str):Bool:=decide (z.length≤300)&&z.cps.toList.all Qg
mutual
def good:D→Bool
 | .str z=>yu z
 | .tup xs=>decide (xs.length≤40)&&goodL xs
 |_=>false
def goodL:List D→Bool
 | []=>true
 |x::r=>good x&&goodL r
end
mutual
def sz:D→Nat
 | .str z=>z.length+1
 | .tup xs=>1+szL xs
 |_=>0
def szL:List D→Nat
 | []=>0
 |x::r=>sz x+szL r
end
mutual
def dp:D→Nat
 | .str _=>1
 | .tup xs=>1+dpL xs
 |_=>0
def dpL:List D→Nat
 | []=>0
 |x::r=>max (dp x) (dpL r)
end
mutual
def nd:D→Nat
 | .tup xs=>1+ndL xs
 |_=>1
def ndL:List D→Nat
 | []=>0
 |x::r=>nd x+ndL r
end
def isT (d:D):Bool:=good d&&decide (sz d≤600)&&decide (dp d≤12)
theorem Xh:∀(xs ys:List D),szL (xs++ys)=szL xs+szL ys
 | [],ys=>by simp [szL]
 |x::r,ys=>by simp only [List.cons_append,szL,Xh r ys];omega
theorem Xn:∀(xs ys:List D),ndL (xs++ys)=ndL xs+ndL ys
 | [],ys=>by simp [ndL]
 |x::r,ys=>by simp only [List.cons_append,ndL,Xn r ys];omega
theorem wg:∀(xs ys:List D),dpL (xs++ys)=max (dpL xs) (dpL ys)
 | [],ys=>by simp [dpL]
 |x::r,ys=>by simp only [List.cons_append,dpL,wg r ys];omega
theorem goodL_all:∀(xs:List D),goodL xs=xs.all good
 | []=>rfl
 |x::r=>by simp only [goodL,List.all_cons,goodL_all r]
theorem JZ {k:Nat}:∀(xs:List D),dpL xs≤k↔∀x∈xs,dp x≤k
 | []=>by simp [dpL]
 |x::r=>by
  have ih:=JZ (k:=k) r
  have e:dpL (x::r)=max (dp x) (dpL r):=by simp only [dpL]
  rw [e]
  constructor
  ·intro h y hy
   rcases List.mem_cons.mp hy with rfl|hy
   ·omega
   ·exact ih.mp (by omega) y hy
  ·intro h
   have h1:=h x List.mem_cons_self
   have h2:=ih.mpr fun y hy=>h y (List.mem_cons_of_mem _ hy)
   omega
theorem dp_pos {d:D}(h:good d=true):1≤dp d:=by
 cases d<;>simp_all [good,dp]
def wOk (w:List (D×Nat)):Bool:=w.all fun p=>good p.1&&decide (p.2+dp p.1≤13)
def wSz (w:List (D×Nat)):Nat:=szL (w.map (·.1))
def G (w:List (D×Nat))(n:Nat):Bool:=wOk w&&decide (n+wSz w≤600)
theorem G_start (d:D):G [(d,1)] 0=isT d:=by
 simp only [G,wOk,wSz,isT,List.all_cons,List.all_nil,List.map_cons,List.map_nil,szL,Bool.and_true,Nat.zero_add,Nat.add_zero]
 have e:decide (1+dp d≤13)=decide (dp d≤12):=by
  rw [decide_eq_decide];omega
 rw [e]
 cases good d<;>cases decide (sz d≤600)<;>cases decide (dp d≤12)<;>rfl
theorem G_nil {n:Nat}(h:n≤600):G [] n=true:=by simp [G,wOk,wSz,szL,h]
theorem G_snoc (w:List (D×Nat))(d:D)(k n:Nat):G (w++ [(d,k)]) n=(wOk w&&(good d&&decide (k+dp d≤13))&&decide (n+(wSz w+sz d)≤600)):=by
 simp only [G,wOk,wSz,List.all_append,List.all_cons,List.all_nil,Bool.and_true,List.map_append,List.map_cons,List.map_nil,Xh,szL,Nat.add_zero]
 rfl
theorem G_bad {w:List (D×Nat)}{d:D}{k n:Nat}(h:good d=false):G (w++ [(d,k)]) n=false:=by
 rw [G_snoc,h];simp
theorem G_deep {w:List (D×Nat)}{d:D}{k n:Nat}(h:12<k):G (w++ [(d,k)]) n=false:=by
 rw [G_snoc]
 cases hg:good d with
 |false=>simp
 |true=>
  have:=dp_pos hg
  have e:decide (k+dp d≤13)=false:=decide_eq_false (by omega)
  rw [e];simp
theorem G_big {w:List (D×Nat)}{d:D}{k n:Nat}(h:600<n+sz d):G (w++ [(d,k)]) n=false:=by
 rw [G_snoc]
 have e:decide (n+(wSz w+sz d)≤600)=false:=decide_eq_false (by omega)
 rw [e];simp
theorem G_big1 {w:List (D×Nat)}{xs:List D}{k n:Nat}(h:600<n+1):G (w++ [(.tup xs,k)]) n=false:=G_big (by simp only [sz];omega)
theorem wOk_map (xs:List D)(k:Nat):wOk (xs.map fun x=>(x,k+1))=(goodL xs&&xs.all fun x=>decide (k+1+dp x≤13)):=by
 induction xs with
 |nil=>rfl
 |cons x r ih=>
  simp only [List.map_cons,wOk,List.all_cons,goodL] at ih⊢
  rw [ih]
  cases good x<;>cases decide (k+1+dp x≤13)<;>cases goodL r<;>simp
theorem wSz_map (xs:List D)(k:Nat):wSz (xs.map fun x=>(x,k+1))=szL xs:=by
 unfold wSz
 rw [List.map_map]
 congr 1
 induction xs with
 |nil=>rfl
 |cons x r ih=>simp only [List.map_cons,ih];rfl
theorem G_tup {w:List (D×Nat)}{xs:List D}{k n:Nat}(hl:xs.length≤40)(hk:k≤12):G (w++ [(.tup xs,k)]) n=G (w++xs.map fun x=>(x,k+1)) (n+1):=by
 rw [G_snoc]
 unfold G
 have e1:wOk (w++xs.map fun x=>(x,k+1))=(wOk w&&wOk (xs.map fun x=>(x,k+1))):=by unfold wOk;rw [List.all_append]
 have e2:wSz (w++xs.map fun x=>(x,k+1))=wSz w+szL xs:=by
  have:=wSz_map xs k
  unfold wSz at this⊢
  rw [List.map_append,Xh,this]
 have e3:decide (k+dp (.tup xs)≤13)=xs.all fun x=>decide (k+1+dp x≤13):=by
  have q:=JZ (k:=12-k) xs
  have e0:dp (.tup xs)=1+dpL xs:=by simp only [dp]
  rw [e0,Bool.eq_iff_iff]
  constructor
  ·intro h
   have h:=of_decide_eq_true h
   refine List.all_eq_true.mpr fun x hx=>decide_eq_true ?_
   have h2:=q.mp (by omega) x hx
   omega
  ·intro h
   refine decide_eq_true ?_
   have h2:=q.mpr fun x hx=>by
    have h3:=of_decide_eq_true (List.all_eq_true.mp h x hx)
    omega
   omega
 rw [e1,e2,e3,wOk_map]
 have e4:good (.tup xs)=goodL xs:=by simp only [good,decide_eq_true hl,Bool.true_and]
 have e5:decide (n+(wSz w+sz (.tup xs))≤600)=decide (n+1+(wSz w+szL xs)≤600):=by
  rw [decide_eq_decide];simp only [sz];omega
 rw [e4,e5]
theorem G_str {w:List (D×Nat)}{z:Str}{k n:Nat}(ht:yu z=true)(hk:k≤12):G (w++ [(.str z,k)]) n=G w (n+(1+z.length)):=by
 rw [G_snoc]
 unfold G
 have e4:good (.str z)=true:=by simp only [good,ht]
 have e3:decide (k+dp (.str z)≤13)=true:=decide_eq_true (by simp only [dp];omega)
 have e5:decide (n+(wSz w+sz (.str z))≤600)=decide (n+(1+z.length)+wSz w≤600):=by
  rw [decide_eq_decide];simp only [sz];omega
 rw [e4,e3,e5];simp
end L2
namespace AwZ
open PySem PyProof.Rows
open PySem.AutoSeq1 (wpAny_loadPart')
section
variable {prog:Program}{w:World}{A:Around}{E:Value→Shared→Prop}{s:Shared}
theorem tdraw {j t:Addr}{i:Nat}{its:Array Value}{x:Value}{Q:Value→Shared→Prop}(gj:s.heap.IsTupleIter j t i)(gt:s.heap.IsTuple t its)(gx:its[i]? =some x)
  (q:∀h2,h2.IsTupleIter j t (i+1)→Heap.SameBut j s.heap h2→Q x {s with heap:=h2}):wpAny (model prog w) A (Builtin.SmallTypes.nextOf (.ref j)) Q E s:=by
 obtain⟨u,hu,cu,du⟩:=id gj
 obtain⟨ut,hut,_,nt,dut⟩:=gt
 unfold Builtin.SmallTypes.nextOf
 refine wpAny_bind (wpAny_callSpecial?_slot (name:=Str.ofString "__next__") gj.typeIs F.slot_tuple_iterator_next
  (wpAny_call_entry F.slot_tuple_iterator_next gj.typeIs F.entry_tuple_iterator_next ?_ (F.args_tuple_iterator_next_1 _)))
 show wpAny _ _ (field (.ref j) 0>>=_) _ _ s
 refine wpAny_bind (wpAny_field hu du (x:= .ref t) rfl ?_)
 show wpAny _ _ (if(Value.ref t==Value.none)=true then _ else _) _ _ s
 rw [if_neg (show¬(Value.ref t==Value.none)=true from Bool.false_ne_true)]
 show wpAny _ _ (field (.ref j) 1>>=_) _ _ s
 refine wpAny_bind (wpAny_field hu du (x:= .int i 0) rfl ?_)
 show wpAny _ _ (seqItems? (.ref t)>>=_) _ _ s
 refine wpAny_bind (wpAny_seqItems hut dut ?_)
 simp only [Int.toNat_natCast,gx]
 refine wpAny_bind (wpAny_setField hu du (by simp) (wpAny_pure ⟨x,rfl,wpAny_pure (q _ ?_ (Heap.SameBut.update ..))⟩))
 exact⟨_,Heap.get?_update_self _ hu (Obj.isFreed_of_fields (Obj.data_mapFields du _)),(Obj.cls_mapFields ..).trans cu,by rw [Obj.data_mapFields du];simp [rawInt]⟩
theorem tdraw_end {j t:Addr}{i:Nat}{its:Array Value}{Q:Value→Shared→Prop}(hh:A.handled=none)(gj:s.heap.IsTupleIter j t i)(gt:s.heap.IsTuple t its)(gx:its[i]? =none)
  (q:∀h2 e,Heap.ExtBut j s.heap h2→(∃u,h2.get? e=some u∧u.cls= .type "StopIteration")→E (.ref e) {s with heap:=h2}):wpAny (model prog w) A (Builtin.SmallTypes.nextOf (.ref j)) Q E s:=by
 obtain⟨u,hu,cu,du⟩:=id gj
 obtain⟨ut,hut,_,nt,dut⟩:=gt
 unfold Builtin.SmallTypes.nextOf
 refine wpAny_bind (wpAny_callSpecial?_slot (name:=Str.ofString "__next__") gj.typeIs F.slot_tuple_iterator_next
  (wpAny_call_entry F.slot_tuple_iterator_next gj.typeIs F.entry_tuple_iterator_next ?_ (F.args_tuple_iterator_next_1 _)))
 show wpAny _ _ (field (.ref j) 0>>=_) _ _ s
 refine wpAny_bind (wpAny_field hu du (x:= .ref t) rfl ?_)
 show wpAny _ _ (if(Value.ref t==Value.none)=true then _ else _) _ _ s
 rw [if_neg (show¬(Value.ref t==Value.none)=true from Bool.false_ne_true)]
 show wpAny _ _ (field (.ref j) 1>>=_) _ _ s
 refine wpAny_bind (wpAny_field hu du (x:= .int i 0) rfl ?_)
 show wpAny _ _ (seqItems? (.ref t)>>=_) _ _ s
 refine wpAny_bind (wpAny_seqItems hut dut ?_)
 simp only [Int.toNat_natCast,gx]
 refine wpAny_bind (wpAny_rule (wpAny_bind (wpAny_setField hu du (by simp) ?_)))
 show wpAny _ _ (newExc (.type "StopIteration") []>>=_) _ _ _
 refine wpAny_bind ?_
 simp only [newExc,newTuple]
 refine wpAny_bind (wpAny_newObj_type ?_ (by size_fits))
 refine wpAny_bind (m:=firstArgMember _ _) (wpAny_of_eq (a:=Value.none) (by first|rfl|(simp only [firstArgMember];rfl)) ?_)
 refine wpAny_newObj_type ?_ (by size_fits)
 simp only [raiseNew]
 refine wpAny_bind (wpAny_handled ?_)
 first|rw [show A.in1.handled=none from hh]|rw [hh]
 refine wpAny_bind (wpAny_pure (wpAny_throw ?_))
 exact q _ _ (((Heap.SameBut.update ..).extBut.push _).push _) ⟨_,Heap.get?_push_size _ rfl,rfl⟩
structure Apt (z p r i j a b:Addr):Prop where
 pz:p≠z
 rz:r≠z
 iz:i≠z
 jz:j≠z
 pr:p≠r
 pi:p≠i
 pj:p≠j
 ri:r≠i
 rj:r≠j
 ij:i≠j
 az:a≠z
 ar:a≠r
 ai:a≠i
 aj:a≠j
 bz:b≠z
 br:b≠r
 bi:b≠i
 bj:b≠j
theorem ziptl {z p r i j a b:Addr}{k:Nat}{xs ys:Array Value}{x y u v:Value}{Q:Value→Shared→Prop}(D:Apt z p r i j a b)
  (hz:IsZip s.heap z p r .none) (hp:IsPair s.heap p (.ref i) (.ref j)) (hr:IsPair s.heap r u v)
  (hi:s.heap.IsTupleIter i a k) (hj:s.heap.IsListIter j b k) (ha:s.heap.IsTuple a xs) (hb:s.heap.IsList b ys) (hx:xs[k]? =some x) (hy:ys[k]? =some y)
  (q:∀h2,IsZip h2 z p r (rawInt s.heap.objs.size)→IsPair h2 r x y→h2.IsTupleIter i a (k+1)→h2.IsListIter j b (k+1)→IsPair h2 s.heap.objs.size x y→h2.objs.size=s.heap.objs.size+1→
   (∀c o,c≠z→c≠r→c≠i→c≠j→s.heap.get? c=some o→h2.get? c=some o)→Q (.ref s.heap.objs.size) {s with heap:=h2}):
  wpAny (model prog w) A (Builtin.«zip.__next__» ⟨[.ref z],[]⟩) (fun fin t=>∃v,fin= .done (.ret v)∧Q v t) E s:=by
 show wpAny _ _ (field (.ref z) 2>>=_) _ _ _
 refine wpAny_bind (wpAny_field hz rfl (x:= .bool false) rfl ?_)
 show wpAny _ _ (field (.ref z) 3>>=_) _ _ _
 refine wpAny_bind (wpAny_field hz rfl (x:= .ref p) rfl ?_)
 refine wpAny_bind (wpAny_seqItems hp rfl ?_)
 show wpAny _ _ (Builtin.SmallTypes.ownedTupleIsFree (.ref z)>>=_) _ _ s
 refine wpAny_bind ?_
 unfold Builtin.SmallTypes.ownedTupleIsFree
 refine wpAny_bind (wpAny_field hz rfl (x:= .none) rfl (wpAny_pure ?_))
 simp only [if_true]
 refine wpAny_bind (wpAny_rule ?_)
 refine wpAny_bind (wpAny_field hz rfl (x:= .ref r) rfl ?_)
 refine wpAny_bind (wpAny_setField_rec hz (by simp) fun h1 z1 s1=> ?_)
 replace z1:IsZip h1 z p r .ellipsis:=z1
 refine wpAny_bind ?_
 simp only [List.zipIdx_cons,List.zipIdx_nil,List.forIn_cons,List.forIn_nil]
 refine wpAny_bind (wpAny_bind (wpAny_onRaise ?_))
 show wpAny _ _ (Builtin.SmallTypes.nextOf (.ref i)>>=_) _ _ _
 refine wpAny_bind (tdraw (hi.extBut s1.extBut D.iz) (ha.extBut s1.extBut D.az) hx fun h2 i2 s2=>wpAny_pure ?_)
 have r2:IsPair h2 r u v:=s2.extBut _ _ D.ri (s1.extBut _ _ D.rz hr)
 refine wpAny_bind (wpAny_seqItems r2 rfl ?_)
 refine wpAny_bind (wpAny_updateSeq_pair r2 fun h3 r3 s3=> ?_)
 replace r3:IsPair h3 r x v:=r3
 refine wpAny_bind (wpAny_letGo (wpAny_pure ?_))
 refine wpAny_bind (wpAny_bind (wpAny_onRaise ?_))
 show wpAny _ _ (Builtin.SmallTypes.nextOf (.ref j)>>=_) _ _ _
 refine wpAny_bind (wpAny_nextOf_list_item (((hj.extBut s1.extBut D.jz).extBut s2.extBut D.ij.symm).extBut s3.extBut D.rj.symm)
  (((hb.extBut s1.extBut D.bz).extBut s2.extBut D.bi).extBut s3.extBut D.br) hy fun h4 j4 s4=>wpAny_pure ?_)
 have r4:IsPair h4 r x v:=s4.extBut _ _ D.rj r3
 refine wpAny_bind (wpAny_seqItems r4 rfl ?_)
 refine wpAny_bind (wpAny_updateSeq_pair r4 fun h5 r5 s5=> ?_)
 replace r5:IsPair h5 r x y:=r5
 refine wpAny_bind (wpAny_letGo (wpAny_pure (wpAny_pure ?_)))
 refine wpAny_bind (wpAny_seqItems r5 rfl ?_)
 refine wpAny_bind (wpAny_newTuple ?_)
 have sz:h5.objs.size=s.heap.objs.size:=by rw [s5.1,s4.1,s3.1,s2.1,s1.1]
 have z5:IsZip h5 z p r .ellipsis:=s5.extBut _ _ D.rz.symm (s4.extBut _ _ D.jz.symm (s3.extBut _ _ D.rz.symm (s2.extBut _ _ D.iz.symm z1)))
 have k5:∀c o,c≠z→c≠r→c≠i→c≠j→s.heap.get? c=some o→h5.get? c=some o:=fun c o c1 c2 c3 c4 e=>
  s5.extBut _ _ c2 (s4.extBut _ _ c4 (s3.extBut _ _ c2 (s2.extBut _ _ c3 (s1.extBut _ _ c1 e))))
 have i5:h5.IsTupleIter i a (k+1):=((i2.extBut s3.extBut D.ri.symm).extBut s4.extBut D.ij).extBut s5.extBut D.ri.symm
 have j5:h5.IsListIter j b (k+1):=j4.extBut s5.extBut D.rj.symm
 have zlt:z<h5.objs.size:=Heap.lt_size z5
 show wpAny _ _ (Builtin.SmallTypes.ownedTupleHandOut (.ref z) (.ref h5.objs.size)>>=_) _ _ _
 refine wpAny_bind ?_
 unfold Builtin.SmallTypes.ownedTupleHandOut
 have z6:IsZip (h5.push {cls:= .type "tuple",data:= .seq #[x,y]}) z p r .ellipsis:=Heap.get?_push_of_some _ z5
 refine wpAny_bind (wpAny_setField_rec z6 (by simp) fun h7 z7 s7=> ?_)
 replace z7:IsZip h7 z p r (rawInt h5.objs.size):=z7
 refine wpAny_setField_rec z7 (by simp) fun h8 z8 s8=> ?_
 replace z8:IsZip h8 z p r (rawInt h5.objs.size):=z8
 have up:∀c o,c≠z→h5.get? c=some o→h8.get? c=some o:=fun c o c1 e=>s8.extBut _ _ c1 (s7.extBut _ _ c1 (Heap.get?_push_of_some _ e))
 have t8:IsPair h8 h5.objs.size x y:=s8.extBut _ _ (Nat.ne_of_gt zlt) (s7.extBut _ _ (Nat.ne_of_gt zlt) (Heap.get?_push_size _ rfl))
 have n8:h8.objs.size=h5.objs.size+1:=by rw [s8.1,s7.1,Heap.size_push]
 rw [sz] at z8 t8 n8
 refine wpAny_pure ⟨_,rfl,?_⟩
 show Q (.ref h5.objs.size) _
 rw [sz]
 exact q h8 z8 (up _ _ D.rz r5) (by obtain⟨o,e,g⟩:=i5;exact⟨o,up _ o D.iz e,g⟩) (j5.at fun o e=>up _ o D.jz e) t8 n8 fun c o c1 c2 c3 c4 e=>up c o c1 (k5 c o c1 c2 c3 c4 e)
theorem zip_go {z p r i j a b:Addr}{k:Nat}{xs ys:Array Value}{x y u v:Value}{Q:Option Value→Shared→Prop}(D:Apt z p r i j a b)
  (hz:IsZip s.heap z p r .none) (hp:IsPair s.heap p (.ref i) (.ref j)) (hr:IsPair s.heap r u v)
  (hi:s.heap.IsTupleIter i a k) (hj:s.heap.IsListIter j b k) (ha:s.heap.IsTuple a xs) (hb:s.heap.IsList b ys) (hx:xs[k]? =some x) (hy:ys[k]? =some y)
  (q:∀h2,IsZip h2 z p r (rawInt s.heap.objs.size)→IsPair h2 r x y→h2.IsTupleIter i a (k+1)→h2.IsListIter j b (k+1)→IsPair h2 s.heap.objs.size x y→h2.objs.size=s.heap.objs.size+1→
   (∀c o,c≠z→c≠r→c≠i→c≠j→s.heap.get? c=some o→h2.get? c=some o)→Q (some (.ref s.heap.objs.size)) {s with heap:=h2}):
  wpAny (model prog w) A (pyNext (.ref z)) Q E s:=by
 have tz:s.TypeIs (.ref z) "zip":=⟨_,hz,rfl⟩
 unfold pyNext
 exact wpAny_bind (wpAny_attempt (wpAny_callSpecial?_slot (name:=Str.ofString "__next__") tz F.slot_zip_next
  (wpAny_call_entry F.slot_zip_next tz F.entry_zip_next (ziptl D hz hp hr hi hj ha hb hx hy fun h2 b1 b2 b3 b4 b5 b6 b7=>wpAny_pure (q h2 b1 b2 b3 b4 b5 b6 b7)) (F.args_zip_next_1 _))))
theorem zip_stop {z p r i j a b:Addr}{k:Nat}{xs:Array Value}{Q:Option Value→Shared→Prop}(hh:A.handled=none)(D:Apt z p r i j a b)
  (hz:IsZip s.heap z p r .none) (hp:IsPair s.heap p (.ref i) (.ref j)) (hi:s.heap.IsTupleIter i a k) (ha:s.heap.IsTuple a xs) (hx:xs[k]? =none)
  (q:∀h2,(∀c o,c≠z→c≠r→c≠i→c≠j→s.heap.get? c=some o→h2.get? c=some o)→Q none {s with heap:=h2}):wpAny (model prog w) A (pyNext (.ref z)) Q E s:=by
 have tz:s.TypeIs (.ref z) "zip":=⟨_,hz,rfl⟩
 unfold pyNext
 refine wpAny_bind (wpAny_attempt (wpAny_callSpecial?_slot (name:=Str.ofString "__next__") tz F.slot_zip_next
  (wpAny_call_entry F.slot_zip_next tz F.entry_zip_next ?_ (F.args_zip_next_1 _))))
 show wpAny _ _ (field (.ref z) 2>>=_) _ _ _
 refine wpAny_bind (wpAny_field hz rfl (x:= .bool false) rfl ?_)
 show wpAny _ _ (field (.ref z) 3>>=_) _ _ _
 refine wpAny_bind (wpAny_field hz rfl (x:= .ref p) rfl ?_)
 refine wpAny_bind (wpAny_seqItems hp rfl ?_)
 show wpAny _ _ (Builtin.SmallTypes.ownedTupleIsFree (.ref z)>>=_) _ _ s
 refine wpAny_bind ?_
 unfold Builtin.SmallTypes.ownedTupleIsFree
 refine wpAny_bind (wpAny_field hz rfl (x:= .none) rfl (wpAny_pure ?_))
 simp only [if_true]
 refine wpAny_bind (wpAny_rule ?_)
 refine wpAny_bind (wpAny_field hz rfl (x:= .ref r) rfl ?_)
 refine wpAny_bind (wpAny_setField_rec hz (by simp) fun h1 z1 s1=> ?_)
 replace z1:IsZip h1 z p r .ellipsis:=z1
 refine wpAny_bind ?_
 simp only [List.zipIdx_cons,List.zipIdx_nil,List.forIn_cons,List.forIn_nil]
 refine wpAny_bind (wpAny_bind (wpAny_onRaise ?_))
 show wpAny _ _ (Builtin.SmallTypes.nextOf (.ref i)>>=_) _ _ _
 refine wpAny_bind (tdraw_end hh (hi.extBut s1.extBut D.iz) (ha.extBut s1.extBut D.az) hx fun h2 e s2 he=> ?_)
 obtain⟨oe,ge,ce⟩:=he
 have z2:IsZip h2 z p r .ellipsis:=s2 _ _ D.iz.symm z1
 have ez:e≠z:=fun x=>by subst x;rw [z2] at ge;cases ge;simp at ce
 refine wpAny_setField_rec z2 (by simp) fun h3 _ s3=> ?_
 refine wpAny_bind (wpAny_isInstance (T:="StopIteration") (b:=true) ⟨oe,s3.extBut _ _ ez ge,ce⟩ isSubtype_stop ?_)
 exact wpAny_pure (q _ fun c o c1 _ c3 _ x=>s3.extBut _ _ c1 (s2 _ _ c3 (s1.extBut _ _ c1 x)))
end
abbrev q1 (h:Heap)(a:Addr):Heap:=h.push {cls:= .type "tuple_iterator",data:= .fields #[.ref a,.int 0 0]}
abbrev q2 (h:Heap)(a b:Addr):Heap:=(q1 h a).push {cls:= .type "list_iterator",data:= .fields #[.ref b,.int 0 0]}
abbrev q3 (h:Heap)(a b:Addr):Heap:=(q2 h a b).push {cls:= .type "tuple",data:= .seq #[.ref h.objs.size,.ref (q1 h a).objs.size]}
abbrev q4 (h:Heap)(a b:Addr):Heap:=(q3 h a b).push {cls:= .type "tuple",data:= .seq #[.none,.none]}
abbrev q5 (h:Heap)(a b:Addr):Heap:=(q4 h a b).push {cls:= .type "zip",data:= .fields #[.none,.bool false,.bool false,.ref (q2 h a b).objs.size,.ref (q3 h a b).objs.size]}
theorem zip_made (a b:Addr)(xs ys:Array Value):Meets (Builtin.«zip.__new__» ⟨[.type "zip",.ref a,.ref b],[]⟩) (fun _ R s=>s.heap.IsTuple a xs∧s.heap.IsList b ys∧R (.ok (.ret (.ref (q4 s.heap a b).objs.size))) {s with heap:=q5 s.heap a b}):=
 .of_wp fun prog w A R s h=>by
  obtain⟨hp,g,d,tk,os⟩:=s
  obtain⟨ha,hb,h⟩:=h
  have sub:=sub_zip
  have h1:Heap.IsTuple (Shared.heap ⟨hp,g,d,tk,os⟩) a xs:=ha
  have h2:Heap.IsList (Shared.heap ⟨hp.push {cls:= .type "tuple_iterator",data:= .fields #[.ref a,.int 0 0]},g,d,tk,os⟩) b ys:=Heap.IsList.push hb _
  wp_walk using wpAny_pyIter_tuple h1,wpAny_pyIter_list h2
  exact⟨_,rfl,h⟩
section
variable {prog:Program}{w:World}{A:Around}{E:Value→Shared→Prop}{s:Shared}
theorem zip_call {a b:Addr}{xs ys:Array Value}{Q:Value→Shared→Prop}(ha:s.heap.IsTuple a xs)(hb:s.heap.IsList b ys)
  (h:∀h2,IsZip h2 (s.heap.objs.size+4) (s.heap.objs.size+2) (s.heap.objs.size+3) .none→IsPair h2 (s.heap.objs.size+2) (.ref s.heap.objs.size) (.ref (s.heap.objs.size+1))→
   IsPair h2 (s.heap.objs.size+3) .none .none→h2.IsTupleIter s.heap.objs.size a 0→h2.IsListIter (s.heap.objs.size+1) b 0→h2.objs.size=s.heap.objs.size+5→
   (∀c o,s.heap.get? c=some o→h2.get? c=some o)→Q (.ref (s.heap.objs.size+4)) {s with heap:=h2}):wpAny (model prog w) A (call (.type "zip") [.ref a,.ref b]) Q E s:=by
 refine callType_new F.called_zip (by decide) (F.typeCall_zip_2 _ _) (F.newCall_zip_2 _ _) (fun obj=>F.args_object_init_3 obj _ _) F.entry_zip_new (zip_made a b xs ys) ⟨ha,hb,?_⟩
 have z1:(q1 s.heap a).objs.size=s.heap.objs.size+1:=Heap.size_push ..
 have z2:(q2 s.heap a b).objs.size=s.heap.objs.size+2:=by rw [Heap.size_push,z1]
 have z3:(q3 s.heap a b).objs.size=s.heap.objs.size+3:=by rw [Heap.size_push,z2]
 have z4:(q4 s.heap a b).objs.size=s.heap.objs.size+4:=by rw [Heap.size_push,z3]
 have z5:(q5 s.heap a b).objs.size=s.heap.objs.size+5:=by rw [Heap.size_push,z4]
 have g5:(q5 s.heap a b).get? (q4 s.heap a b).objs.size=some _:=Heap.get?_push_size _ rfl
 have g4:(q5 s.heap a b).get? (q3 s.heap a b).objs.size=some _:=Heap.get?_push_of_some _ (Heap.get?_push_size _ rfl)
 have g3:(q5 s.heap a b).get? (q2 s.heap a b).objs.size=some _:=Heap.get?_push_of_some _ (Heap.get?_push_of_some _ (Heap.get?_push_size _ rfl))
 have g2:(q5 s.heap a b).get? (q1 s.heap a).objs.size=some _:=Heap.get?_push_of_some _ (Heap.get?_push_of_some _ (Heap.get?_push_of_some _ (Heap.get?_push_size _ rfl)))
 have g1:(q5 s.heap a b).get? s.heap.objs.size=some _:=Heap.get?_push_of_some _ (Heap.get?_push_of_some _ (Heap.get?_push_of_some _ (Heap.get?_push_of_some _ (Heap.get?_push_size _ rfl))))
 show _∧_
 rw [z2,z3,z4] at g5
 rw [z1,z2] at g3
 rw [z3] at g4
 rw [z1] at g2
 rw [z4]
 exact⟨⟨_,g5,rfl⟩,h _ g5 g3 g4 ⟨_,g1,rfl,rfl⟩ ⟨_,g2,rfl,rfl⟩ z5 fun c o x=>Heap.get?_push_of_some _ (Heap.get?_push_of_some _ (Heap.get?_push_of_some _ (Heap.get?_push_of_some _ (Heap.get?_push_of_some _ x))))⟩
end
end AwZ
namespace AwZ
open PySem PyProof.Rows
open PySem.AutoSeq1 (wpAny_loadPart')
section
variable {prog:Program}{w:World}{A:Around}{E:Value→Shared→Prop}{s:Shared}
end
end AwZ
namespace L2
open PySem PySem.Spec PyProof.Rows
def Its (x:Str):It:=⟨fun i _=>i<x.cps.size,fun i H v H'=>H'=H∧∃c,x.cps[i]? =some c∧v= .str ⟨#[c]⟩,fun i _=>i=x.cps.size⟩
theorem turn_str {P:Program}{w:World}{K:PySem.W.Frag}{tg:Expr}{x:Str}{t:Tok}{it:Addr}(ty:String)(hty:ty="str_ascii_iterator"∨ty="str_iterator"):
  Turn P w K tg (Its x) [it] it (fun i h=>h.IsStrIter it ty x t i) where
 mem:=by simp
 obj:=fun i h st b hb=>by
  have e:b=it:=by simpa using hb
  subst e
  obtain⟨o,e,c,d⟩:=st
  exact⟨o,e,fun v z=>by rw [d] at z;cases z⟩
 keep:=fun i h h' st k=>by
  obtain⟨o,e,r⟩:=st
  exact⟨o,k it (by simp) o e,r⟩
 item:=by
  intro X hP hw hK hc i pins s σ H E I hf st hg
  subst hP hw hK
  obtain⟨f0,f1,f2,f3,f4,f5⟩:=hf it (by simp)
  have W:Walks X.prog X.w X.A it [it] [it] x.cps.size (SignAt x) (fun i h=>h.IsStrIter it ty x t i):=by
   rcases hty with rfl|rfl
   ·exact Walks.strAscii (I.ok.hd hc) it x t
   ·exact Walks.strWide (I.ok.hd hc) it x t
  refine wpAny_with_toks (n:=1) I.tk (W.item i s _ _ hg st fun v h' tk hv st' kk=> ?_)
  intro htk
  obtain⟨c,u,hx,rfl⟩:=hv
  have I1:Inv X pins σ H {s with heap:=h',toks:=tk}:=I.turned (fun b o hb e=>kk b o (by simpa using hb) e) f0 f1 f3 f4 f5
  obtain⟨o,e,c',d⟩:=id st'
  refine⟨_,rfl,go_of (s:={s with heap:=h',toks:=tk}) e c' d (by rcases hty with rfl|rfl<;>decide) ⟨.str ⟨#[c]⟩,H,I1,⟨u,rfl⟩,⟨rfl,c,hx,rfl⟩,st',fun b hb=>(hf b hb).1⟩⟩
 done:=by
  intro X hP hw hK hc i pins s σ H E I hf st hg
  subst hP hw hK
  have hg':i=x.cps.size:=hg
  subst hg'
  obtain⟨f0,f1,f2,f3,f4,f5⟩:=hf it (by simp)
  have W:Walks X.prog X.w X.A it [it] [it] x.cps.size (SignAt x) (fun i h=>h.IsStrIter it ty x t i):=by
   rcases hty with rfl|rfl
   ·exact Walks.strAscii (I.ok.hd hc) it x t
   ·exact Walks.strWide (I.ok.hd hc) it x t
  exact wpAny_with_toks (n:=1) I.tk (W.done s _ _ st fun h' tk kk htk=>⟨rfl,I.turned (fun b o hb e=>kk b o (by simpa using hb) e) f0 f1 f3 f4 f5⟩)
 self:=fun _ _ _ _ _ st h=>by
  rcases hty with rfl|rfl
  ·exact wpAny_pyIter_striter_ascii st h
  ·exact wpAny_pyIter_striter_wide st h
section
variable {X:Cx}{tg:Expr}
def iStr (tl:TE):TI:=fun σ H R=>tl σ H fun x H1=>∃z,x= .str z∧R (Its z) H1
theorem pi_str {l:Expr}{tl:TE}(hl:PE X l tl):PI X tg l (iStr tl):=by
 intro pins s σ H R I h
 refine thn (hl pins s σ H _ I h) fun v s1 ⟨x,H1,I1,r1,q1⟩=> ?_
 obtain⟨z,e,q⟩:=q1
 subst e
 obtain⟨t,rfl⟩:=r1
 have fp:∀(o:Obj),∀b∈ [s1.heap.objs.size],FpOk X pins H1 b:=fun o b hb=>by
  have e:b=s1.heap.objs.size:=by simpa using hb
  subst e
  exact I1.fpOk (Nat.le_refl _) (I1.hok.fresh (Nat.le_refl _))
 cases ha:z.cps.all (·<128)
 ·refine wpAny_pyIter_wide ha ?_
  exact⟨s1.heap.objs.size,[s1.heap.objs.size],_,_,H1,rfl,I1.kept (t':=s1.toks) fun b o e=>Heap.get?_push_of_some _ e,turn_str "str_iterator" (.inr rfl),⟨_,Heap.get?_push_size _ rfl,rfl,rfl⟩,fp default,q⟩
 ·refine wpAny_pyIter_ascii ha ?_
  exact⟨s1.heap.objs.size,[s1.heap.objs.size],_,_,H1,rfl,I1.kept (t':=s1.toks) fun b o e=>Heap.get?_push_of_some _ e,turn_str "str_ascii_iterator" (.inl rfl),⟨_,Heap.get?_push_size _ rfl,rfl,rfl⟩,fp default,q⟩
def rSlS:V→Option Int→Option Int→Hp→VK→Prop:=fun x lo hi H Q=>∃z,x= .str z∧z.length≤sizeLine∧Q (.str (Txt.slice z lo hi)) H
def tokOf:Value→Option (Int×Tok)
 | .int i t=>some (i,t)
 |_=>none
theorem sl_str:SlR X rSlS:=by
 intro pins s σ H x v vl vu lo hi sl Q I rx hs pl pu h
 obtain⟨z,rfl,hz,q⟩:=h
 obtain⟨t,rfl⟩:=rx
 refine⟨"str",_,F.slot_str_getitem.lookup,typeIs_str _ _ _,?_⟩
 have hl:vl=partValue (tokOf vl)∧lo=(tokOf vl).map (·.1):=by cases pl<;>exact⟨rfl,rfl⟩
 have hu:vu=partValue (tokOf vu)∧hi=(tokOf vu).map (·.1):=by cases pu<;>exact⟨rfl,rfl⟩
 obtain⟨o,e1,e2,e3⟩:=hs
 refine wpAny_with_toks (n:=1) I.tk ?_
 refine wpAny_getItem_str_slice (l:=tokOf vl) (u:=tokOf vu) (st:=none) ⟨o,e1,e2,by rw [e3,←hl.1,←hu.1];rfl⟩ rfl ?_
 refine post_val_or_str ⟨?_,fun t' k=> ?_⟩
 ·exact Nat.le_trans (Txt.slice_le z _ _) hz
 ·intro htk
  exact⟨.str (Txt.slice z lo hi),H,I.tok k,⟨t',by rw [hl.2,hu.2];rfl⟩,q⟩
theorem qw {K:PySem.W.Frag}(hK:X.K=K):jW X (.builtin "isinstance") (fun xs H Q=>∃x T t b,xs= [x,.ty T]∧TyOf K H x t∧PySem.W.kitOne K t (.type T)=some b∧Q (.bl b) H):=by
 intro pins s σ H xs us Q I r h
 obtain⟨x,T,t,b,rfl,ty,e,q⟩:=h
 obtain⟨u,u',rfl,ru,ru'⟩:=vals2 r
 cases ru'
 subst hK
 exact wpAny_with_toks (n:=1) I.tk (isinst_ok I ru ty e fun tk htk=>⟨.bl b,H,I.tok tk,rfl,q⟩)
theorem all_range:∀bs:List Bool,(List.range bs.length).all (fun i=>bs.getD i true)=bs.all id
 | []=>rfl
 |b::r=>by
  rw [List.length_cons,List.range_succ_eq_map,List.all_cons,List.all_map,List.all_cons]
  have e:(List.range r.length).all ((fun i=>(b::r).getD i true)∘Nat.succ)=(List.range r.length).all fun i=>r.getD i true:=by
   congr 1
  rw [e,all_range r]
  rfl
theorem YZ (hc:X.calm=true):jW X (.builtin "all") (fun xs H Q=>∃(p:Addr) (bs:List Bool),xs= [.ref p]∧SqL X.K H p (bs.map V.bl)∧Q (.bl (bs.all id)) H):=by
 intro pins s σ H xs us Q I r h
 obtain⟨p,bs,rfl,hp,q⟩:=h
 obtain⟨u,rfl,ru⟩:=xM r
 cases ru
 obtain⟨its,rv,pl,hz⟩:=I.list hp
 have hlt:p<s.heap.objs.size:=by obtain⟨o,n,e,_⟩:=pl;exact Heap.lt_size e
 refine wpAny_with_toks (n:=1) I.tk ?_
 refine call_all_walk (wpAny_pyIter_list pl.isList ?_)
 have up:∀b o,s.heap.get? b=some o→(s.heap.push {cls:= .type "list_iterator",data:= .fields #[.ref p,.int 0 0]}).get? b=some o:=fun b o e=>Heap.get?_push_of_some _ e
 have hl:its.length=bs.length:=by have:=rv.length;simpa using this.symm
 refine⟨s.heap.objs.size,_,_,_,_,_,fun i=>bs.getD i true,rfl,Walks.list (show X.A.in1.handled=none from I.ok.hd hc) s.heap.objs.size p (Nat.ne_of_lt hlt) its.toArray,⟨⟨_,Heap.get?_push_size _ rfl,rfl,rfl⟩,pl.isList.push _⟩,?_,?_⟩
 ·intro i v s' Q' E' hv hQ
  have hv':its[i]? =some v:=by simpa using hv
  have hi:i<its.length:=(List.getElem?_eq_some_iff.mp hv').1
  obtain⟨u,e1,e2⟩:=rv.get (i:=i) (x:= .bl (bs[i]'(by omega))) (by simp [show i<bs.length by omega])
  rw [hv'] at e1
  cases e1
  cases e2
  have:bs.getD i true=bs[i]'(by omega):=by simp [List.getD,show i<bs.length by omega]
  have hQ2:Q' (bs.getD i true) s':=hQ
  rw [this] at hQ2
  exact wpAny_truthy_bool hQ2
 ·intro h' tk kk htk
  have hall:(List.range its.toArray.size).all (fun i=>bs.getD i true)=bs.all id:=by
   rw [List.size_toArray,hl]
   exact all_range bs
  rw [hall]
  have I1:=I.kept (t':=s.toks) (h':=s.heap.push {cls:= .type "list_iterator",data:= .fields #[.ref p,.int 0 0]}) up
  have fpo:=I.fpOk (Nat.le_refl _) (I.hok.fresh (Nat.le_refl s.heap.objs.size))
  obtain⟨f0,f1,f2,f3,f4,f5⟩:=fpo
  exact⟨.bl (bs.all id),H,I1.turned (it:=s.heap.objs.size) (fun b o hb e=>kk b o (by simpa using hb) e) f0 f1 f3 f4 f5,rfl,q⟩
end
end L2
namespace L2
open PySem PySem.Spec PyProof.Rows
section
variable {X:Cx}
theorem Jj:OpR X (binaryOp .Mult) (fun x y H Q=>∃z k,x= .str z∧y= .int k∧MulOk z k∧Q (.str (Txt.mul z k)) H):=by
 intro pins s σ H x y v u Q I rx ry h
 obtain⟨z,k,rfl,rfl,hok,q⟩:=h
 obtain⟨t,rfl⟩:=rx
 obtain⟨t',rfl⟩:=ry
 exact wpAny_with_toks (n:=1) I.tk (SB.mul hok fun t' k' htk=>⟨.str (Txt.mul z k),H,I.tok k',⟨t',rfl⟩,q⟩)
theorem pe_gI {x:Str}{i:Int}{pos:Pos}(hg:Gl X x)(hm:∃t,X.mg x=some (.int i t))(hd:(x==("__debug__":Str))=false:=by decide):PE X (.Name x pos) (tC (.int i)):=by
 obtain⟨t,hm⟩:=hm
 exact pe_glob hg hm ⟨t,rfl⟩ hd
theorem pe_gS {x z:Str}{pos:Pos}(hg:Gl X x)(hm:∃t,X.mg x=some (.str z t))(hd:(x==("__debug__":Str))=false:=by decide):PE X (.Name x pos) (tC (.str z)):=by
 obtain⟨t,hm⟩:=hm
 exact pe_glob hg hm ⟨t,rfl⟩ hd
theorem pe_gR {x:Str}{a:Addr}{pos:Pos}(hg:Gl X x)(hm:X.mg x=some (.ref a))(hd:(x==("__debug__":Str))=false:=by decide):PE X (.Name x pos) (tC (.ref a)):=pe_glob hg hm rfl hd
end
theorem qd {H:Hp}{p:Addr}(h:H p=none)(o:HO):Same H (upd H p o):=fun b u q=>by rw [qu (qm q h)];exact q
def Kept (p:Addr)(H H':Hp):Prop:=∀b o,H b=some o→b≠p→H' b=some o
theorem Kept.trans {p:Addr}{H H1 H2:Hp}(a:Kept p H H1)(b:Kept p H1 H2):Kept p H H2:=fun c o h n=>b c o (a c o h n) n
theorem Kept.upd (p:Addr)(H:Hp)(o:HO):Kept p H (L2.upd H p o):=fun b u h n=>by rw [qu n];exact h
theorem Kept.same {p:Addr}{H H1 H':Hp}(k:Kept p H1 H')(s:Same H H1)(n:H p=none):Same H H':=fun b o h=>k b o (s b o h) (qm h n)
theorem atI_some {α:Type}{xs:List α}{i:Int}(h0:0≤i)(h1:i<xs.length):∃c,atI xs i=some c:=by
 obtain⟨n,rfl⟩:∃n:Nat,i=(n:Int):=⟨i.toNat,by omega⟩
 have hn:n<xs.length:=by omega
 exact⟨xs[n],QI (List.getElem?_eq_getElem hn)⟩
end L2
namespace L2
open PySem PySem.Spec PyProof.Rows
def clOf (cells:List (Str×Addr)):List (Str×NameKind)→List (Str×Addr)→List (Str×Addr)
 | [],cs=>cs
 |(n,k)::r,cs=>clOf cells r (if k== .free then(match cells.lookup n with|some a=>(n,a)::cs|none=>cs) else cs)
theorem wL {cells:List (Str×Addr)}:∀{names:List (Str×NameKind)}{cs:List (Str×Addr)},(∀y c,cs.lookup y=some c→cells.lookup y=some c)→∀y c,(clOf cells names cs).lookup y=some c→cells.lookup y=some c
 | [],_,h=>h
 |(n,k)::r,cs,h=>by
  unfold clOf
  refine wL fun y c e=> ?_
  split at e
  ·split at e
   ·rename_i a ha
    rw [List.lookup_cons] at e
    split at e
    ·rename_i hy
     have hy':y=n:=beq_iff_eq.mp hy
     subst hy'
     cases e
     exact ha
    ·exact h y c e
   ·exact h y c e
  ·exact h y c e
theorem clOf_keep {cells:List (Str×Addr)}:∀{names:List (Str×NameKind)}{cs:List (Str×Addr)}{y:Str},(∃c,cs.lookup y=some c)→∃c,(clOf cells names cs).lookup y=some c
 | [],_,_,h=>h
 |(n,k)::r,cs,y,h=>by
  unfold clOf
  refine clOf_keep ?_
  split
  ·split
   ·rw [List.lookup_cons]
    split
    ·exact⟨_,rfl⟩
    ·exact h
   ·exact h
  ·exact h
theorem Wr {cells:List (Str×Addr)}:∀{names:List (Str×NameKind)}{cs:List (Str×Addr)}{y:Str},(y,NameKind.free)∈names→(∃c,cells.lookup y=some c)→∃c,(clOf cells names cs).lookup y=some c
 | [],_,_,h,_=>nomatch h
 |(n,k)::r,cs,y,h,hc=>by
  unfold clOf
  rcases List.mem_cons.mp h with e|h
  ·cases e
   refine clOf_keep ?_
   obtain⟨c,hc⟩:=hc
   rw [if_pos (by rfl),hc]
   exact⟨c,by simp [List.lookup_cons]⟩
  ·exact Wr h hc
theorem Xw {env:Env}:∀{names:List (Str×NameKind)}{cs:List (Str×Addr)},(∀y,(y,NameKind.free)∈names→∃c,env.cells.lookup y=some c)→
  (forIn names cs fun x r=>(do
   if x.2== .free then
    let a←cellOf env x.1
    pure (ForInStep.yield ((x.1,a)::r))
   else pure (ForInStep.yield r):Sem (ForInStep (List (Str×Addr)))))=(pure (clOf env.cells names cs):Sem (List (Str×Addr)))
 | [],cs,_=>rfl
 |(n,k)::r,cs,h=>by
  rw [List.forIn_cons]
  have hr:∀y,(y,NameKind.free)∈r→∃c,env.cells.lookup y=some c:=fun y hy=>h y (List.mem_cons_of_mem _ hy)
  unfold clOf
  by_cases hk:(k==NameKind.free)=true
  ·have hk':k= .free:=by simpa using hk
   subst hk'
   obtain⟨c,hc⟩:=h n List.mem_cons_self
   have e:cellOf env n=pure c:=by unfold cellOf;rw [hc]
   simp only [hk,if_true,e,hc,pure_bind]
   exact Xw hr
  ·simp only [if_neg hk,pure_bind]
   exact Xw hr
theorem wy {scope:Scope}{env:Env}(h:∀y,(y,NameKind.free)∈scope.names→∃c,env.cells.lookup y=some c):closureFor scope env=pure (clOf env.cells scope.names []):=by
 unfold closureFor
 have q:=Xw (cs:= []) h
 show(forIn scope.names ([]:List (Str×Addr)) (fun x r=>(do
   if x.2== .free then
    let a←cellOf env x.1
    pure (ForInStep.yield ((x.1,a)::r))
   else pure (ForInStep.yield r):Sem (ForInStep (List (Str×Addr)))))>>=fun cs=>pure cs)=_
 rw [q,pure_bind]
theorem XN {env:Env}(hf:env.scope.kind= .function):∀{names:List (Str×NameKind)}{x:Str},names.lookup x=some .free→env.kindOf x=some .cell→
  (names.map fun(n,k)=>if(k==NameKind.free&&env.scope.kind== .function&&env.kindOf n==some .cell) then(n,NameKind.cell) else(n,k)).lookup x=some .cell
 | [],_,h,_=>by simp at h
 |(n,k)::r,x,h,hc=>by
  have ih:= @XN env hf r x
  show List.lookup x ((if(k==NameKind.free&&env.scope.kind== .function&&env.kindOf n==some .cell)=true then(n,NameKind.cell) else(n,k))::_)=_
  cases hx:x==n with
  |true=>
   simp only [List.lookup_cons,hx] at h
   cases h
   have hx':x=n:=beq_iff_eq.mp hx
   subst hx'
   rw [if_pos (by rw [hf,hc];rfl)]
   simp [List.lookup_cons]
  |false=>
   simp only [List.lookup_cons,hx] at h
   by_cases hc':(k==NameKind.free&&env.scope.kind== .function&&env.kindOf n==some .cell)=true
   ·rw [if_pos hc'];simp only [List.lookup_cons,hx];exact ih h hc
   ·rw [if_neg hc'];simp only [List.lookup_cons,hx];exact ih h hc
theorem zW {env:Env}:∀{names:List (Str×NameKind)}{x:Str},(∀y∈names,y.2≠ .cell)→
  ((names.map fun(n,k)=>if(k==NameKind.free&&env.scope.kind== .function&&env.kindOf n==some .cell) then(n,NameKind.cell) else(n,k)).lookup x=some .cell∨
   (names.map fun(n,k)=>if(k==NameKind.free&&env.scope.kind== .function&&env.kindOf n==some .cell) then(n,NameKind.cell) else(n,k)).lookup x=some .free)→(x,NameKind.free)∈names
 | [],_,_,h=>by simp at h
 |(n,k)::r,x,hn,h=>by
  have ih:= @zW env r x (fun y hy=>hn y (List.mem_cons_of_mem _ hy))
  have g:List.lookup x ((if(k==NameKind.free&&env.scope.kind== .function&&env.kindOf n==some .cell)=true then(n,NameKind.cell) else(n,k))::(r.map fun(n,k)=>if(k==NameKind.free&&env.scope.kind== .function&&env.kindOf n==some .cell) then(n,NameKind.cell) else(n,k)))=some .cell∨
   List.lookup x ((if(k==NameKind.free&&env.scope.kind== .function&&env.kindOf n==some .cell)=true then(n,NameKind.cell) else(n,k))::(r.map fun(n,k)=>if(k==NameKind.free&&env.scope.kind== .function&&env.kindOf n==some .cell) then(n,NameKind.cell) else(n,k)))=some .free:=h
  have hnk:k≠ .cell:=hn (n,k) List.mem_cons_self
  by_cases hc:(k==NameKind.free&&env.scope.kind== .function&&env.kindOf n==some .cell)=true
  ·rw [if_pos hc] at g
   have hk:k= .free:=by
    rw [Bool.and_eq_true,Bool.and_eq_true] at hc
    simpa using hc.1.1
   subst hk
   cases hx:x==n with
   |true=>
    have hx':x=n:=beq_iff_eq.mp hx
    subst hx'
    exact List.mem_cons_self
   |false=>
    simp only [List.lookup_cons,hx] at g
    exact List.mem_cons_of_mem _ (ih g)
  ·rw [if_neg hc] at g
   cases hx:x==n with
   |true=>
    have hx':x=n:=beq_iff_eq.mp hx
    subst hx'
    simp only [List.lookup_cons,hx] at g
    rcases g with g|g
    ·exact absurd (Option.some.inj g) hnk
    ·rw [show k=NameKind.free from Option.some.inj g]
     exact List.mem_cons_self
   |false=>
    simp only [List.lookup_cons,hx] at g
    exact List.mem_cons_of_mem _ (ih g)
abbrev blk (X:Cx)(scope:Scope)(Nb:List Str)(cl:List (Str×Addr))(C:Addr)(s₀:Shared)(H₀:Hp)(fp:List Addr)(pn:List (Addr×Obj)):Cx:=
 {X with N:=Nb,s₀:=s₀,H₀:=H₀,env:=compEnvC scope cl C X.env,outer:=X.stack,ex:=fp,fn:=fun _=>false,pn:=pn,xe:=fun _ _=>False}
structure LcS (X:Cx)(scope:Scope)(Nb:List Str)(nt:Nat)(fr:List Nat):Prop where
 kind:scope.kind= .function
 cell:∀y∈scope.names,y.2≠ .cell
 names:∀y∈scope.names,y.2= .local→scope.names.lookup y.1=some .local
 free:∀y∈scope.names,y.2= .free→X.env.kindOf y.1=some .cell
 len:Nb.length=nt+fr.length
 fr:∀(k j:Nat) (x:Str),fr[k]? =some j→Nb[nt+k]? =some x→X.N[j]? =some x∧scope.names.lookup x=some .free
def sigB (nt:Nat)(fr:List Nat)(σ:St):St:=List.replicate nt none++fr.map fun j=>(σ[j]?).join
section
variable {pr:Program}{wo:World}{ar:Around}{RR:Result→Shared→Prop}{st:Shared}
abbrev nb (pr:Program)(wo:World)(ar:Around)(en:Env)(RR:Result→Shared→Prop):Value→Shared→Prop:=notedBy (model pr wo) ar en fun x t=>RR (.error x) t
abbrev tsts (en:Env)(cs:List Expr):Sem Bool:=forIn cs true fun c b=>if b=true then do let y←isTrue c en (eval c en);pure (ForInStep.yield y) else pure (ForInStep.yield b)
theorem compLoop_by {el tg itx:Expr}{cs:List Expr}{sc:Scope}{ps:Pos}{itv acc:Value}{en:Env}(J:Nat→Shared→Prop)
  (turn:∀k t,J k t→wpAny (model pr wo) ar (pyNext itv) (fun r t1=>match r with
   |none=>RR (.ok .next) t1
   |some v=>wpAny (model pr wo) ar (letOwnedTupleGo tg itv v) (fun _ t2=>wpAny (model pr wo) ar (assign tg en v) (fun _ t3=>wpAny (model pr wo) ar (tsts en cs) (fun b t4=>
     if b=true then wpAny (model pr wo) ar (eval el en) (fun x t5=>wpAny (model pr wo) ar (call (.builtin "list.append") [acc,x]) (fun _ t6=>∃m,m<k∧J m t6) (nb pr wo ar en RR) t5) (nb pr wo ar en RR) t4
     else∃m,m<k∧J m t4) (nb pr wo ar en RR) t3) (nb pr wo ar en RR) t2) (nb pr wo ar en RR) t1) (nb pr wo ar en RR) t)
  (k:Nat) (h0:J k st):codeAny (model pr wo) ar (.compLoop (.ListComp el [⟨tg,itx,cs,0⟩] sc ps) 0 itv acc en) RR st:=by
 refine codeAny_loop rfl J (fun k t hJ=> ?_) k h0
 show wpAny _ ar ((compTurn (.ListComp el [⟨tg,itx,cs,0⟩] sc ps) 0 itv acc en).onRaise fun x=>do noteFrame x en;theTreesLotGoes x) _ _ t
 rw [compTurn_list]
 refine wpAny_noted (wpAny_bind (wpAny_standAt (wpAny_bind (thn (turn k t hJ) fun r t1 q1=> ?_))))
 cases r with
 |none=>exact wpAny_pure q1
 |some v=>
  refine wpAny_bind (thn q1 fun _ t2 q2=>wpAny_bind (thn q2 fun _ t3 q3=>wpAny_bind (thn q3 fun b t4 q4=> ?_)))
  cases b with
  |false=>exact wpAny_pure ⟨rfl,q4⟩
  |true=>exact wpAny_bind (wpAny_bind (thn q4 fun x t5 q5=>wpAny_bind (thn q5 fun _ t6 q6=>wpAny_pure (wpAny_pure ⟨rfl,q6⟩))))
end
def PIfs (X:Cx)(ifs:List Expr)(t:TT):Prop:=
 ∀(pins:List (Addr×Obj)) (s:Shared) (σ:St) (H:Hp) (Q:Bool→Hp→Prop),Inv X pins σ H s→t σ H Q→wpAny (model X.prog X.w) X.A (tsts X.env ifs) (TP X pins σ Q) X.xe s
def tYes:TT:=fun _ H Q=>Q true H
theorem yC {X:Cx}:PIfs X [] tYes:=fun _ _ _ H _ I h=>wpAny_tests_nil ⟨H,I,h⟩
def lcGo (D:Addr)(J:It)(g:TG)(tc:TT)(te:TE)(σb:St)(H1:Hp)(Q:VK):Prop:=
 ∃(n:Nat) (W:Nat→St→List V→Hp→Prop),n≤sizeLine∧W 0 σb [] (upd H1 D (.lst []))∧
  (∀i σ ys H,i<n→W i σ ys H→H D=some (.lst ys)→ys.length≤i→J.go i H∧∀x H',J.yld i H x H'→g x σ H' fun σ2 H2=>tc σ2 H2 fun b H3=>
   if b=true then te σ2 H3 fun y H4=>H4 D=some (.lst ys)∧W (i+1) σ2 (ys++ [y]) (upd H4 D (.lst (ys++ [y]))) else H3 D=some (.lst ys)∧W (i+1) σ2 ys H3)∧
  ∀σ ys H,W n σ ys H→H D=some (.lst ys)→J.stop n H∧Q (.ref D) H
def tLC (nt:Nat)(fr:List Nat)(wi:TI)(g:TG)(tc:TT)(te:TE):TE:=fun σ H Q=>wi σ H fun J H1=>∀D,H1 D=none→lcGo D J g tc te (sigB nt fr σ) H1 Q
section
variable {X:Cx}{scope:Scope}{Nb:List Str}{nt:Nat}{fr:List Nat}
theorem inv_blk {pins:List (Addr×Obj)}{σ:St}{H:Hp}{s:Shared}{fp:List Addr}{C:Addr}{h4:Heap}{tk:Nat}(S:LcS X scope Nb nt fr)(I:Inv X pins σ H s)(hC:C=s.heap.objs.size)
  (hns:h4.Ns C fun _=>none) (old:∀b o,s.heap.get? b=some o→h4.get? b=some o) (hf:∀b∈fp,FpOk X pins H b) (ho:∀b∈fp,∃o,s.heap.get? b=some o) (ht:0<tk:=by((try dsimp only);first|assumption|exact Inv.tk (by assumption)|exact Nat.succ_pos _|exact Nat.lt_of_lt_of_le (Inv.tk (by assumption)) (by assumption)|exact Nat.add_pos_left (Inv.tk (by assumption)) _|omega)):
  Inv (blk X scope Nb (clOf X.env.cells scope.names []) C s H fp (X.pn++pins)) [] (sigB nt fr σ) H {s with heap:=h4,toks:=tk}:=by
 subst hC
 have sub:∀y c,(clOf X.env.cells scope.names []).lookup y=some c→X.env.cells.lookup y=some c:=wL fun y c e=>by simp at e
 have frees:∀y,(y,NameKind.free)∈scope.names→X.env.kindOf y=some .cell:=fun y hy=>S.free _ hy rfl
 have neC:∀b o,s.heap.get? b=some o→b≠s.heap.objs.size:=fun b o e z=>by rw [z] at e;exact absurd (Heap.lt_size e) (Nat.lt_irrefl _)
 have notStk:∀b,b≠X.env.locals→b∉X.fs→b∉frs X.stack:=fun b h1 h2 z=>(List.mem_cons.mp (I.stkSub b z)).elim h1 h2
 refine⟨⟨I.ok.mod,S.kind,I.ok.glob,I.ok.blt,Nat.le_refl _,fun x y c h1 h2=>I.ok.inj x y c (sub x c h1) (sub y c h2),fun x hx=> ?_,fun x c z=>(by cases z),I.ok.hd,I.ok.frames,.inl rfl,fun b hb=> ?_,I.bs,Nat.le_trans I.ok.bsz I.sz,fun b o e hb=> ?_,fun b hb=> ?_,I.stack,I.stkFree⟩,
  rfl,I.bare,Un.kept old,⟨_,hns,fun i x v e1 e2 e3=> ?_⟩,fun x c e=> ?_,I.hok.fresh (Nat.le_refl _),fun x c e=>I.freeC x c (sub x c e),fun p hp=> ?_,I.hok.kept old,?_,ht⟩
 ·have hm:=zW (env:=X.env) S.cell hx
  exact Wr hm (I.ok.has x (.inl (frees x hm)))
 ·obtain⟨o,e⟩:=ho b hb
  exact⟨neC b o e,fun x c e'=>(hf b hb).2.2.2.2.1 x c (sub x c e')⟩
 ·rcases(hf b hb).2.2.2.1 with z|z
  ·exact I.ok.noex b o e z
  ·exact absurd (Nat.lt_of_lt_of_le (Heap.lt_size e) (Nat.le_trans I.ok.bsz z)) (Nat.lt_irrefl _)
 ·exact notStk b (hf b hb).2.1 (hf b hb).2.2.1
 ·
  have hi:nt≤i:=by
   rcases Nat.lt_or_ge i nt with z|z
   ·unfold sigB at e2
    rw [List.getElem?_append_left (by simpa using z),List.getElem?_replicate] at e2
    split at e2<;>cases e2
   ·exact z
  obtain⟨k,rfl⟩:∃k,i=nt+k:=⟨i-nt,by omega⟩
  unfold sigB at e2
  rw [List.getElem?_append_right (by simp)] at e2
  simp only [List.length_replicate,Nat.add_sub_cancel_left,List.getElem?_map] at e2
  cases ej:fr[k]? with
  |none=>rw [ej] at e2;cases e2
  |some j=>
   rw [ej] at e2
   have e2':(σ[j]?).join=some v:=Option.some.inj e2
   have e2'':σ[j]? =some (some v):=by
    cases q:σ[j]? with
    |none=>rw [q] at e2';cases e2'
    |some z=>rw [q] at e2';exact congrArg some e2'
   obtain⟨n1,n2⟩:=S.fr k j x ej e1
   have kx:X.env.kindOf x=some .cell:=frees x (PySem.mem_of_lookup n2)
   obtain⟨m,hn,hl⟩:=I.loc
   obtain⟨u,r,l⟩:=hl j x v n1 e2'' (.inr (.inl kx))
   refine⟨u,r,.inr ⟨.inl (XN I.ok.kind n2 kx),?_⟩⟩
   rcases l with⟨z,_⟩|⟨_,c,ec,hcell⟩
   ·rw [kx] at z;cases z
   ·obtain⟨c',ec'⟩:=Wr (cells:=X.env.cells) (cs:= []) (PySem.mem_of_lookup n2) ⟨c,ec⟩
    have:=sub x c' ec'
    rw [ec] at this
    cases this
    obtain⟨o,q,d⟩:=hcell
    exact⟨c,ec',o,old c o q,d⟩
 ·obtain⟨v,o,q,d⟩:=I.cell x c (sub x c e)
  exact⟨v,o,old c o q,d⟩
 ·have hp':p∈X.pn++pins:=by simpa using hp
  obtain⟨e,n,ne,nf,d⟩:=I.pin p hp'
  exact⟨old _ _ e,n,neC _ _ e,notStk _ ne nf,d⟩
 ·show(sigB nt fr σ).length=Nb.length
  unfold sigB
  rw [S.len]
  simp
theorem lc_core {tg iter elt:Expr}{ifs:List Expr}{wi:TI}{g:TG}{tc:TT}{te:TE}{pos:Pos}{R:Value→Addr→Result→Shared→Prop}{pins:List (Addr×Obj)}{s:Shared}{σ:St}{H:Hp}{Q:VK}(S:LcS X scope Nb nt fr)(hcalm:X.calm=true)(hi:PI X tg iter wi)
  (hg:∀cl C s₀ H₀ fp pn,PG (blk X scope Nb cl C s₀ H₀ fp pn) tg g) (hc:∀cl C s₀ H₀ fp pn,PIfs (blk X scope Nb cl C s₀ H₀ fp pn) ifs tc) (he:∀cl C s₀ H₀ fp pn,PE (blk X scope Nb cl C s₀ H₀ fp pn) elt te)
  (I:Inv X pins σ H s) (h:tLC nt fr wi g tc te σ H Q)
  (hR:∀(D C:Addr) (H':Hp) (s1:Shared) (m:Str→Option Value),Inv X pins σ H' s1→s1.heap.Ns C m→FpOk X pins H' C→Q (.ref D) H'→R (.ref D) C (.ok .next) s1):
  wpAny (model X.prog X.w) X.A (eval iter X.env) (fun x s₁=>wpAny (model X.prog X.w) X.A (pyIter x) (fun it s₂=>wpAny (model X.prog X.w) X.A (newList []) (fun acc s₃=>
   wpAny (model X.prog X.w) X.A (newFunctionEnv scope X.env.globals (clOf X.env.cells scope.names []) [] X.env.qual none .none (some X.env)) (fun cenv s₄=>
    codeAny (model X.prog X.w) X.A (.compStart (.ListComp elt [⟨tg,iter,ifs,0⟩] scope pos) 0 it acc {cenv with scope:=relabel scope X.env}) (R acc cenv.locals) s₄) X.xe s₃) X.xe s₂) X.xe s₁) X.xe s:=by
 refine thn (hi pins s σ H _ I h) fun v s1 h1=>thn h1 fun itv s2 h2=> ?_
 obtain⟨it,fp,tn,J,H2,e,I2,T,st2,f2,q2⟩:=h2
 subst e
 have hDn:H2 s2.heap.objs.size=none:=I2.hok.fresh (Nat.le_refl _)
 obtain⟨n,W,hn,w0,step,fin⟩:=q2 _ hDn
 generalize hD:s2.heap.objs.size=D at*
 refine wpAny_newObj_type ?_
 rw [hD]
 have I3:Inv X pins σ (upd H2 D (.lst [])) {s2 with heap:=s2.heap.push {cls:= .type "list",data:= .seq ([]:List Value).toArray}}:=by
  have:=I2.lnew (ys:= []) (its:= []) (t':=s2.toks) .nil (Nat.zero_le _)
  rw [hD] at this
  exact this
 refine wpAny_newFunctionEnv S.cell (by intro y hy;simp at hy) (fun h4 hns4 sb4=> ?_) S.kind
 dsimp only at hns4 sb4⊢
 generalize hH3:s2.heap.push {cls:= .type "list",dict:=none,data:= .seq ([]:List Value).toArray}=h3 at hns4 sb4 I3⊢
 have hC:h3.objs.size=D+1:=by rw [←hH3,Heap.size_push,hD]
 have old4:∀b o,h3.get? b=some o→h4.get? b=some o:=fun b o e=>sb4.extBut b o (Nat.ne_of_lt (Heap.lt_size e)) (Heap.get?_push_of_some _ e)
 have old3:∀b o,s2.heap.get? b=some o→h3.get? b=some o:=fun b o e=>by rw [←hH3];exact Heap.get?_push_of_some _ e
 have fpo:∀b∈fp,∃o,s2.heap.get? b=some o:=fun b hb=>let⟨o,e,_⟩:=T.obj _ _ st2 b hb;⟨o,e⟩
 have fpD:∀b∈fp,b≠D:=fun b hb z=>by
  obtain⟨o,e⟩:=fpo b hb
  have q:=Heap.lt_size e
  rw [z,hD] at q
  exact Nat.lt_irrefl _ q
 have f3:∀b∈fp,FpOk X pins (upd H2 D (.lst [])) b:=fun b hb=>⟨by rw [qu (fpD b hb)];exact(f2 b hb).1,(f2 b hb).2⟩
 have IB:=inv_blk (C:=h3.objs.size) (h4:=h4) (tk:=s2.toks+([]:List (Str×Value)).length) (fp:=fp) S I3 rfl hns4 old4 f3 fun b hb=>let⟨o,e⟩:=fpo b hb;⟨o,old3 b o e⟩
 generalize hXb:blk X scope Nb (clOf X.env.cells scope.names []) h3.objs.size {s2 with heap:=h3} (upd H2 D (.lst [])) fp (X.pn++pins)=Xb at IB
 have gB:=hg (clOf X.env.cells scope.names []) h3.objs.size {s2 with heap:=h3} (upd H2 D (.lst [])) fp (X.pn++pins)
 have cB:=hc (clOf X.env.cells scope.names []) h3.objs.size {s2 with heap:=h3} (upd H2 D (.lst [])) fp (X.pn++pins)
 have eB:=he (clOf X.env.cells scope.names []) h3.objs.size {s2 with heap:=h3} (upd H2 D (.lst [])) fp (X.pn++pins)
 rw [hXb] at gB cB eB
 have xP:Xb.prog=X.prog:=by rw [←hXb]
 have xW:Xb.w=X.w:=by rw [←hXb]
 have xK:Xb.K=X.K:=by rw [←hXb]
 have xA:Xb.A=X.A:=by rw [←hXb]
 have xC:Xb.calm=true:=by rw [←hXb];exact hcalm
 have xE:Xb.env=compEnvC scope (clOf X.env.cells scope.names []) h3.objs.size X.env:=by rw [←hXb]
 have xX:Xb.xe=fun _ _=>False:=by rw [←hXb]
 have stat:∀{H':Hp},(∀b∈fp,H' b=none)→∀b∈fp,FpOk Xb [] H' b:=fun hn b hb=>by
  obtain⟨g1,g2,g3,g4,g5,g6⟩:=f2 b hb
  obtain⟨o,e⟩:=fpo b hb
  subst hXb
  refine⟨hn b hb,fun z=> ?_,fun z=>(List.mem_cons.mp (I2.stkSub b z)).elim g2 g3,.inl hb,fun x c ec=>g5 x c (wL (fun y c e=>by simp at e) x c ec),fun p hp=>g6 p (by simpa using hp)⟩
  have hlt:=Heap.lt_size (old3 b o e)
  have z':b=h3.objs.size:=z
  rw [z'] at hlt
  exact Nat.lt_irrefl _ hlt
 have loop:∀s5:Shared,s5={s2 with heap:=h4,toks:=s2.toks+([]:List (Str×Value)).length}→
   codeAny (model X.prog X.w) X.A (.compLoop (.ListComp elt [⟨tg,iter,ifs,0⟩] scope pos) 0 (.ref it) (.ref D) (compEnvC scope (clOf X.env.cells scope.names []) h3.objs.size X.env))
    (R (.ref D) h3.objs.size) s5:=by
  rintro s5 rfl
  refine compLoop_by (fun k s'=>∃i σ' ys H',Inv Xb [] σ' H' s'∧tn i s'.heap∧(∀b∈fp,H' b=none)∧H' D=some (.lst ys)∧i≤n∧k=n-i∧ys.length≤i∧W i σ' ys H') ?_ n
   ⟨0,sigB nt fr σ,[],_,IB,T.keep _ _ _ st2 fun b hb o e=>old4 b o (old3 b o e),fun b hb=>(f3 b hb).1,qf,Nat.zero_le _,rfl,Nat.le_refl _,w0⟩
  rintro k s' ⟨i,σ',ys,H',I',st',fr',hD',hin,rfl,hyl,w'⟩
  rcases Nat.lt_or_ge i n with hlt|hge
  ·obtain⟨go,next⟩:=step i σ' ys H' hlt w' hD' hyl
   have ti:=T.item Xb xP xW xK xC i [] s' σ' H' (fun _ _=>False) I' (stat fr') st' go
   rw [xA] at ti
   refine wpAny_mono ti (fun r s1 h1=> ?_) fun _ _ z=>z.elim
   obtain⟨u,rfl,h1⟩:=h1
   refine wpAny_mono h1 (fun _ s2' h2'=> ?_) fun _ _ z=>z.elim
   obtain⟨x,H5,I5,r5,y5,st5,fr5⟩:=h2'
   have I5':=I5.pinned (stat fr5) (T.obj _ _ st5)
   have ga:=gB _ s2' σ' H5 x u _ I5' r5 (next x H5 y5)
   rw [xP,xW,xA,xE,xX] at ga
   refine wpAny_mono ga (fun _ s3 h3'=> ?_) fun _ _ z=>z.elim
   obtain⟨σ6,H6,I6,q6⟩:=h3'
   have ca:=cB _ s3 σ6 H6 _ I6 q6
   rw [xP,xW,xA,xE,xX] at ca
   refine wpAny_mono ca (fun ok s4 h4'=> ?_) fun _ _ z=>z.elim
   obtain⟨H7,I7,q7⟩:=h4'
   have back:∀{σ8:St}{H8:Hp}{s8:Shared},Inv Xb ([]++pinsAt fp s2'.heap) σ8 H8 s8→Inv Xb [] σ8 H8 s8∧tn (i+1) s8.heap∧∀b∈fp,H8 b=none:=fun{σ8 H8 s8} I8=>by
    refine⟨I8.unpinned,T.keep _ _ _ st5 fun b hb o e=>(I8.pin (b,o) (List.mem_append_right _ (List.mem_append_right _ (JJ hb e)))).1,fun b hb=> ?_⟩
    obtain⟨o,e,d⟩:=T.obj _ _ st5 b hb
    exact(I8.pin (b,o) (List.mem_append_right _ (List.mem_append_right _ (JJ hb e)))).2.1
   cases ok with
   |false=>
    rw [if_neg Bool.false_ne_true] at q7⊢
    obtain⟨b1,b2,b3⟩:=back I7
    exact⟨n-(i+1),by omega,i+1,σ6,ys,H7,b1,b2,b3,q7.1,hlt,rfl,by omega,q7.2⟩
   |true=>
    rw [if_pos rfl] at q7⊢
    have ea:=eB _ s4 σ6 H7 _ I7 q7
    rw [xP,xW,xA,xE,xX] at ea
    refine wpAny_mono ea (fun y s5 h5=> ?_) fun _ _ z=>z.elim
    obtain⟨yv,H8,I8,r8,hD8,q8⟩:=h5
    have ma:=Jw (X:=Xb) _ s5 σ6 H8 (.ref D) [yv] (.ref D) [y] (fun _ H9=>H9=upd H8 D (.lst (ys++ [yv]))) I8 rfl (.cons r8 .nil) ⟨D,ys,yv,rfl,rfl,hD8,by omega,rfl⟩
    rw [xP,xW,xA,xX] at ma
    refine wpAny_mono ma (fun _ s6 h6=> ?_) fun _ _ z=>z.elim
    obtain⟨_,H9,I9,_,rfl⟩:=h6
    obtain⟨b1,b2,b3⟩:=back I9
    exact⟨n-(i+1),by omega,i+1,σ6,ys++ [yv],_,b1,b2,b3,qf,hlt,rfl,by rw [List.length_append,List.length_singleton];omega,q8⟩
  ·have hin':i=n:=Nat.le_antisymm hin hge
   subst hin'
   obtain⟨stop,hq⟩:=fin σ' ys H' w' hD'
   have td:=T.done Xb xP xW xK xC i [] s' σ' H' (fun _ _=>False) I' (stat fr') st' stop
   rw [xA] at td
   refine wpAny_mono td (fun r s1 h1=> ?_) fun _ _ z=>z.elim
   obtain⟨rfl,I6⟩:=h1
   obtain⟨m,hm,_⟩:=id I6.loc
   rw [xE] at hm
   have frC:H' h3.objs.size=none:=by have:=I6.free;rw [xE] at this;exact this
   have u6:Un (frs X.stack) fp (upd H2 D (.lst [])) H' h3 s1.heap:=by have:=I6.base;subst hXb;exact this
   have u2:Un (frs X.stack) fp H2 (upd H2 D (.lst [])) s2.heap h3:=Un.laid (fun b o e=>old3 b o e) (by rw [hD];exact Nat.le_refl _) hDn
   have hos:s1.os=s2.os:=by have:=I6.os;subst hXb;exact this
   have hok:HOk X.prog X.w H' s1.heap:=by
    have:=I6.hok
    subst hXb;exact this
   refine hR D h3.objs.size H' s1 m (I2.call' (s':=s1) (ch:=fp) hos (u2.trans u6) hok I6.bare fun b hb=> ?_) hm (I2.fpOk (by omega) frC) hq
   obtain⟨g1,g2,g3,g4,g5,g6⟩:=f2 b hb
   exact⟨g4,g2,g5,g6⟩
 exact codeAny_compStart_list (loop _ rfl) (T.self _ 0 _ _ _ (T.keep _ _ _ st2 fun b hb o e=>old4 b o (old3 b o e)) (loop _ rfl))
theorem Xi {tg iter elt:Expr}{ifs:List Expr}{wi:TI}{g:TG}{tc:TT}{te:TE}{pos:Pos}(S:LcS X scope Nb nt fr)(hcalm:X.calm=true)(hi:PI X tg iter wi)
  (hg:∀cl C s₀ H₀ fp pn,PG (blk X scope Nb cl C s₀ H₀ fp pn) tg g) (hc:∀cl C s₀ H₀ fp pn,PIfs (blk X scope Nb cl C s₀ H₀ fp pn) ifs tc) (he:∀cl C s₀ H₀ fp pn,PE (blk X scope Nb cl C s₀ H₀ fp pn) elt te)
  (hs:∀x,foldedSetIterable iter X.env x=pure x:=by intro _;rfl):PE X (.ListComp elt [⟨tg,iter,ifs,0⟩] scope pos) (tLC nt fr wi g tc te):=by
 intro pins s σ H Q I h
 have hclos:closureFor scope X.env=pure (clOf X.env.cells scope.names []):=wy fun y hy=>I.ok.has y (.inl (S.free _ hy rfl))
 rw [eval_ListComp]
 refine wpAny_comprehension_free (use:=none) rfl hs hclos S.kind S.names ?_
 refine lc_core (R:=fun acc C=>compPost (model X.prog X.w) X.A X.xe none (EP X pins σ Q) acc C) S hcalm hi hg hc he I h fun D C H' s1 m I1 hm fc q=> ?_
 obtain⟨f0,f1,f2,f3,f4,f5⟩:=fc
 exact⟨m,hm,fun h' hs'=>⟨.ref D,H',I1.turned (t':=s1.toks) (it:=C) (fun b o hb e=>(hs'.2 b hb).trans e) f0 f1 f3 f4 f5,rfl,q⟩⟩
theorem ps_setLC {i:Nat}{y:Str}{tg iter elt:Expr}{ifs:List Expr}{wi:TI}{g:TG}{tc:TT}{te:TE}{pos spos py:Pos}(hN:X.N.Nodup)(hi':X.N[i]? =some y)(hy:Loc X.env.scope y)(S:LcS X scope Nb nt fr)(hcalm:X.calm=true)(hi:PI X tg iter wi)
  (hg:∀cl C s₀ H₀ fp pn,PG (blk X scope Nb cl C s₀ H₀ fp pn) tg g) (hc:∀cl C s₀ H₀ fp pn,PIfs (blk X scope Nb cl C s₀ H₀ fp pn) ifs tc) (he:∀cl C s₀ H₀ fp pn,PE (blk X scope Nb cl C s₀ H₀ fp pn) elt te)
  (hs:∀x,foldedSetIterable iter X.env x=pure x:=by intro _;rfl) (hsw:swapsWith (.ListComp elt [⟨tg,iter,ifs,0⟩] scope pos) (some (.Name y py)) spos.line X.env=pure true:=by rfl)
  (hf:X.fn y=true∨X.env.scope.names.lookup y=some .local:=by first|exact .inl rfl|exact .inr rfl|assumption):
  PS X (.Assign [.Name y py] (.ListComp elt [⟨tg,iter,ifs,0⟩] scope pos) spos) (tAsg (tLC nt fr wi g tc te) (J5 i)):=by
 intro pins s σ H D I h
 have hclos:closureFor scope X.env=pure (clOf X.env.cells scope.names []):=wy fun y hy=>I.ok.has y (.inl (S.free _ hy rfl))
 rw [exec_Assign_Name_used _ _ _ _ hsw]
 refine wpAny_bind (wpAny_standAt (wpAny_bind ?_))
 show wpAny _ X.A (do let _←comprehension (.ListComp elt [⟨tg,iter,ifs,0⟩] scope pos) scope X.env _ (newList []) false (eval iter X.env) (some (assign (.Name y py) X.env))) _ _ s
 refine wpAny_bind (wpAny_mono (wpAny_comprehension_free (use:=some (assign (.Name y py) X.env)) (Q:=fun _ s'=>SP X pins D .next s') rfl hs hclos S.kind S.names ?_) (fun _ s' hq=>wpAny_pure (wpAny_pure hq)) fun _ _ e=>e)
 refine lc_core (R:=fun acc C=>compPost (model X.prog X.w) X.A X.xe (some (assign (.Name y py) X.env)) (fun _ s'=>SP X pins D .next s') acc C) S hcalm hi hg hc he I h fun A C H' s1 m I1 hm fc q=> ?_
 obtain⟨f0,f1,f2,f3,f4,f5⟩:=fc
 show wpAny _ X.A (assign (.Name y py) X.env (.ref A)) _ _ s1
 refine wpAny_assign_Name (store_ok2 (v:= .ref A) I1 hN hi' hy (show RelV (.ref A) (.ref A) from rfl) (fun s' I' ⟨a,sb,ha⟩=> ?_) hf)
 have hCa:C≠a:=by
  rcases ha with rfl|ha
  ·exact f1
  ·exact fun z=>f4 y a ha z.symm
 refine⟨m,hm.sameBut sb hCa,fun h' hs'=>⟨_,H',I'.turned (t':=s'.toks) (it:=C) (fun b o hb e=>(hs'.2 b hb).trans e) f0 f1 f3 f4 f5,q⟩⟩
end
end L2
namespace L2
open PySem PySem.Spec PyProof.Rows
theorem lcs0 {X:Cx}{sc:Scope}{x:Str}(hk:sc.kind= .function:=by rfl)(hc:∀y∈sc.names,y.2≠ .cell:=by decide+kernel)(hn:∀y∈sc.names,y.2= .local→sc.names.lookup y.1=some .local:=by decide+kernel)
  (hf:∀y∈sc.names,y.2≠ .free:=by decide+kernel):LcS X sc [x] 1 []:=⟨hk,hc,hn,fun y hy e=>absurd e (hf y hy),rfl,fun k j x h=>by simp at h⟩
theorem lcsN {X:Cx}{sc:Scope}{Nb:List Str}{nt:Nat}{fr:List Nat}(fsc:Scope)(Nf:List Str)(hX:X.env.scope=fsc:=by rfl)(hN:X.N=Nf:=by rfl)(hk:sc.kind= .function:=by rfl)(hc:∀y∈sc.names,y.2≠ .cell:=by decide+kernel)
  (hn:∀y∈sc.names,y.2= .local→sc.names.lookup y.1=some .local:=by decide+kernel) (hf:∀y∈sc.names,y.2= .free→fsc.names.lookup y.1=some .cell:=by decide+kernel) (hl:Nb.length=nt+fr.length:=by rfl)
  (hz:((fr.zip (Nb.drop nt)).all fun p=>decide (Nf[p.1]? =some p.2)&&decide (sc.names.lookup p.2=some .free))=true:=by decide+kernel):LcS X sc Nb nt fr:=by
 subst hX hN
 refine⟨hk,hc,hn,hf,hl,fun k j x h1 h2=> ?_⟩
 have hm:(fr.zip (Nb.drop nt))[k]? =some (j,x):=by
  rw [List.getElem?_zip_eq_some]
  exact⟨h1,by rw [List.getElem?_drop];exact h2⟩
 have q:=List.all_eq_true.mp hz _ (List.mem_of_getElem? hm)
 rw [Bool.and_eq_true] at q
 exact⟨of_decide_eq_true q.1,of_decide_eq_true q.2⟩
theorem lc_str {z:Str}{D:Addr}{H1:Hp}{te:TE}{tl:St}{Q:VK}(f:Nat→V)(hz:z.length≤sizeLine)(hD:H1 D=none)
  (hte:∀(i c:Nat) H (R:VK),z.cps[i]? =some c→Same H1 H→R (f c) H→te (some (.str ⟨#[c]⟩)::tl) H R)
  (hQ:∀H',Same H1 H'→H' D=some (.lst (z.cps.toList.map f))→Q (.ref D) H'):lcGo D (Its z) (J5 0) tYes te (none::tl) H1 Q:=by
 refine⟨z.cps.size,fun i σ ys H=>(∃w,σ=w::tl)∧ys=(z.cps.toList.take i).map f∧Same H1 H,hz,⟨⟨none,rfl⟩,rfl,qd hD _⟩,?_,?_⟩
 ·rintro i σ ys H hi ⟨⟨w,rfl⟩,rfl,sm⟩ hl hy
  refine⟨hi,?_⟩
  rintro x H' ⟨rfl,c,hc,rfl⟩
  dsimp only [J5,tYes,List.set]
  rw [if_pos rfl]
  refine hte i c H' _ hc sm ⟨hl,⟨some (.str ⟨#[c]⟩),rfl⟩,?_,?_⟩
  ·rw [List.take_add_one,show z.cps.toList[i]? =some c by simpa using hc]
   simp
  ·intro b o e
   rw [qu (qm e hD)]
   exact sm b o e
 ·rintro σ ys H ⟨_,rfl,sm⟩ hl
  refine⟨rfl,hQ H sm ?_⟩
  rw [hl,List.take_of_length_le (by simp)]
end L2
namespace L2
open PySem PySem.Spec PyProof.Rows
mutual
def Is (H:Hp):D→V→Prop
 | .non,v=>v= .non
 | .bl b,v=>v= .bl b
 | .int i,v=>v= .int i
 | .str z,v=>v= .str z∧z.length≤sizeLine
 | .lst,v=>∃a xs,v= .ref a∧H a=some (.lst xs)
 | .dct,v=>∃a kvs,v= .ref a∧H a=some (.dK kvs)
 | .tup xs,v=>∃a vs,v= .ref a∧H a=some (.tup vs)∧IsL H xs vs
def IsL (H:Hp):List D→List V→Prop
 | [],vs=>vs= []
 |x::xs,vs=>∃v r,vs=v::r∧Is H x v∧IsL H xs r
end
structure Tk (H H':Hp):Prop where
 tup:∀b xs,H b=some (.tup xs)→H' b=some (.tup xs)
 lst:∀b xs,H b=some (.lst xs)→∃ys,H' b=some (.lst ys)
 dct:∀b xs,H b=some (.dK xs)→∃ys,H' b=some (.dK ys)
theorem Same.tk {H H':Hp}(s:Same H H'):Tk H H':=⟨fun b xs e=>s b _ e,fun b xs e=>⟨xs,s b _ e⟩,fun b xs e=>⟨xs,s b _ e⟩⟩
theorem Tk.refl (H:Hp):Tk H H:=(Same.refl H).tk
theorem Tk.trans {H H1 H2:Hp}(a:Tk H H1)(b:Tk H1 H2):Tk H H2:=⟨fun c xs e=>b.tup c xs (a.tup c xs e),fun c xs e=>let⟨ys,e1⟩:=a.lst c xs e;b.lst c ys e1,fun c xs e=>let⟨ys,e1⟩:=a.dct c xs e;b.dct c ys e1⟩
mutual
theorem Is.mono {H H':Hp}(t:Tk H H'):∀{d:D}{v:V},Is H d v→Is H' d v
 | .non,_,h=>h
 | .bl _,_,h=>h
 | .int _,_,h=>h
 | .str _,_,h=>h
 | .lst,_,h=>by
  obtain⟨a,vs,e,ha⟩:=h
  obtain⟨ys,q⟩:=t.lst a vs ha
  exact⟨a,ys,e,q⟩
 | .dct,_,h=>by
  obtain⟨a,vs,e,ha⟩:=h
  obtain⟨ys,q⟩:=t.dct a vs ha
  exact⟨a,ys,e,q⟩
 | .tup xs,_,h=>by
  obtain⟨a,vs,e,ha,hl⟩:=h
  exact⟨a,vs,e,t.tup a vs ha,IsL.mono t hl⟩
theorem IsL.mono {H H':Hp}(t:Tk H H'):∀{ds:List D}{vs:List V},IsL H ds vs→IsL H' ds vs
 | [],_,h=>h
 |_::_,_,h=>by
  obtain⟨v,r,e,h1,h2⟩:=h
  exact⟨v,r,e,Is.mono t h1,IsL.mono t h2⟩
end
theorem IsL.length {H:Hp}:∀{ds:List D}{vs:List V},IsL H ds vs→vs.length=ds.length
 | [],_,h=>by cases(show _= [] from h);rfl
 |_::_,_,h=>by
  obtain⟨v,r,rfl,_,h2⟩:=h
  rw [List.length_cons,List.length_cons,IsL.length h2]
theorem IsL.get {H:Hp}:∀{ds:List D}{vs:List V}{i:Nat}{d:D},IsL H ds vs→ds[i]? =some d→∃v,vs[i]? =some v∧Is H d v
 | [],_,_,_,_,e=>by simp at e
 |x::_,_,0,d,h,e=>by
  obtain⟨v,r,rfl,h1,_⟩:=h
  have:x=d:=by simpa using e
  exact⟨v,rfl,this▸h1⟩
 |_::_,_,i+1,d,h,e=>by
  obtain⟨v,r,rfl,_,h2⟩:=h
  obtain⟨u,e1,e2⟩:=IsL.get (i:=i) (d:=d) h2 (by simpa using e)
  exact⟨u,by simpa using e1,e2⟩
theorem IsL.append {H:Hp}:∀{ds es:List D}{vs us:List V},IsL H ds vs→IsL H es us→IsL H (ds++es) (vs++us)
 | [],_,_,_,h,k=>by cases(show _= [] from h);exact k
 |_::_,_,_,_,h,k=>by
  obtain⟨v,r,rfl,h1,h2⟩:=h
  exact⟨v,_,rfl,h1,IsL.append h2 k⟩
theorem IsL.one {H:Hp}{d:D}{v:V}(h:Is H d v):IsL H [d] [v]:=⟨v,[],rfl,h,rfl⟩
theorem Is.new {H:Hp}{ds:List D}{vs:List V}{p:Addr}(h:IsL H ds vs)(hp:H p=none):Is (upd H p (.tup vs)) (.tup ds) (.ref p):=
 ⟨p,vs,rfl,qf,h.mono (qd hp _).tk⟩
def tyD:D→Value
 | .non=> .type "NoneType"
 | .bl _=> .type "bool"
 | .int _=> .type "int"
 | .str _=> .type "str"
 | .lst=> .type "list"
 | .dct=> .type "dict"
 | .tup _=> .type "tuple"
theorem Is.ty {K:PySem.W.Frag}{H:Hp}{d:D}{v:V}(h:Is H d v):TyOf K H v (tyD d):=by
 cases d with
 |non=>cases(show v= .non from h);exact .non
 |bl b=>cases(show v= .bl b from h);exact .bl b
 |int i=>cases(show v= .int i from h);exact .int i
 |str z=>
  obtain⟨rfl,_⟩:=h
  exact .str z
 |lst=>
  obtain⟨a,vs,rfl,ha⟩:=h
  exact .lst ha
 |dct=>
  obtain⟨a,vs,rfl,ha⟩:=h
  exact .dK ha
 |tup xs=>
  obtain⟨a,vs,rfl,ha,_⟩:=h
  exact .tup ha
end L2
namespace PySem.AwM
open PySem.AutoSeq1 PySem.MeetsSeq PySem.MeetsSeq3
theorem wM (a:Int)(t:Tok)(l:Addr)(items:Array Value)(n:Nat)(dd:Option Addr)(sl:Array (Option Value)):
  Meets (Builtin.«int.__rmul__» ⟨[.int a t,.ref l],[]⟩) (fun _ R s=>s.heap.get? l=some {cls:= .type "tuple",dict:=dd,data:= .seq items n,slots:=sl}∧R (.ok (.ret Value.notImplemented)) s):=
 .of_wp fun prog w A R s h=>by obtain⟨hp,g,d,tk,os⟩:=s;obtain⟨hl,q⟩:=h;wp_walk;exact⟨_,rfl,q⟩
theorem tuple_mul (l:Addr)(items:Array Value)(n:Nat)(dd:Option Addr)(sl:Array (Option Value))(k:Int)(u:Tok)(h1:1<k)(h2:k<2^63)(hne:items.isEmpty=false)(hz:items.size*k.toNat≤sizeLine)
  (hc1:¬(decide (k< -(2^63))||decide (k≥2^63))=true) (hc2:¬(items.isEmpty||k==1)=true) (hc3:¬(decide (k≤0)||items.isEmpty)=true) (hc4:¬(items.size:Int)*k>(2^63-1)/8) (hc5:¬Builtin.Tuple.tupleTooMany ((items.size:Int)*k)=true)
  (hc6:((List.replicate k.toNat items).foldl (·++ ·) #[]).size≤sizeLine):
  Meets (Builtin.«tuple.__mul__» ⟨[.ref l,.int k u],[]⟩) (fun _ R s=>s.heap.get? l=some {cls:= .type "tuple",dict:=dd,data:= .seq items n,slots:=sl}∧
   R (.ok (.ret (Value.ref s.heap.objs.size))) {s with heap:=s.heap.push {cls:=Value.type "tuple",data:=Data.seq ((List.replicate k.toNat items).foldl (·++ ·) #[])},toks:=s.toks}):=
 .of_wp fun prog w A R s h=>by
  obtain⟨hp,g,d,tk,os⟩:=s;obtain⟨hl,h⟩:=h;have f1:=idx_int;have f2:=sub_tuple_tuple;have f3:=sub_list_list;have f4:=sub_tuple_list;have f5:=sub_list_tuple;
  wp_walk using wpAny_loadPart' hl
  rw [if_neg hc1]
  wp_walk using wpAny_loadPart' hl
  rw [if_neg hc2]
  wp_walk using wpAny_loadPart' hl
  rw [if_neg hc3]
  wp_walk using wpAny_loadPart' hl
  rw [if_neg hc4]
  wp_walk using wpAny_loadPart' hl
  exact⟨_,rfl,h⟩
end PySem.AwM
namespace PySem.AwM
open PySem
section
variable {pg:Program}{wd:World}{ar:Around}{RR:Result→Shared→Prop}{it:Addr}{fs ws:List Addr}{n:Nat}{PP:Nat→Value→Prop}{SS:Nat→Heap→Prop}
end
end PySem.AwM
namespace PySem.AwM
open PyProof.Rows
end PySem.AwM
namespace L2
open PySem PySem.Spec PyProof.Rows
section
variable {X:Cx}
theorem op_gt_str:OpR X (compareOp .Gt) (fun x y H Q=>∃i j,x= .str i∧y= .str j∧Q (.bl (decide (j.cps.toList<i.cps.toList))) H):=by
 intro pins s σ H x y v u Q I rx ry h
 obtain⟨i,j,rfl,rfl,q⟩:=h
 obtain⟨t,rfl⟩:=rx
 obtain⟨t',rfl⟩:=ry
 exact PySem.P.gt_str (qY I q rfl)
theorem call_sumL (hc:X.calm=true):jW X (.builtin "sum") (fun xs H Q=>∃(p:Addr) (ns:List Int),xs= [.ref p]∧SqL X.K H p (ns.map V.int)∧Q (.int ns.sum) H):=by
 intro pins s σ H xs us Q I r h
 obtain⟨p,ns,rfl,hp,q⟩:=h
 obtain⟨u,rfl,ru⟩:=xM r
 cases ru
 obtain⟨its,rv,pl,hz⟩:=I.list hp
 have hi:IntsAre its ns:=ZW rv
 obtain⟨ys,hy⟩:=hi.allInts.items
 have hl':s.heap.IsList p (intItems ys):=hy▸pl.isList
 refine wpAny_with_toks (n:=1) I.tk (sum_intListG (I.ok.hd hc) hl' fun h' tk t' hk=> ?_)
 intro htk
 have e1:ns=ys.toList.map (·.1):=by
  have q1:=hi.numsOf
  rw [←nums_intItems,←hy]
  exact(show numsOf its.toArray.toList=ns from q1).symm
 have e2:preSum (numAt ys) ys.size=ns.sum:=by
  rw [preSum_eq,List.take_of_length_le (by simp),e1]
 rw [e2]
 exact⟨.int ns.sum,H,I.kept hk,⟨t',rfl⟩,q⟩
theorem Ys:fillsNumberSlot (.type "tuple") "mul"=pure false:=
 PySem.fillsNumberSlot_seq (id:="tuple.__mul__") (r:=some (.builtin "tuple.__rmul__")) F.slot_tuple_mul.lookup (by decide+kernel) F.slot_tuple_rmul.lookup (by decide+kernel)
theorem Js:seqRepeat? (.type "tuple")=pure (some (.builtin "tuple.__mul__")):=by
 unfold seqRepeat?
 rw [PySem.seqSlot_of (T:="tuple") (name:="__mul__") (id:="tuple.__mul__") F.slot_tuple_mul.lookup (by decide+kernel),PySem.seqSlot_of (T:="tuple") (name:="__rmul__") (id:="tuple.__rmul__") F.slot_tuple_rmul.lookup (by decide+kernel)];rfl
def rRepT (K:PySem.W.Frag):R2:=fun x y H Q=>∃l k xs,x= .ref l∧y= .int k∧SqT K H l xs∧xs≠ []∧1<k∧k<1000000∧xs.length*k.toNat≤sizeLine∧
 ∀p,H p=none→Q (.ref p) (upd H p (.tup (List.replicate k.toNat xs).flatten))
theorem op_repT:OpR X (binaryOp .Mult) (rRepT X.K):=by
 intro pins s σ H x y v u Q I rx ry h
 obtain⟨l,k,xs,rfl,rfl,hH,hne,h1,h2,hz,q⟩:=h
 cases rx
 obtain⟨t,rfl⟩:=ry
 obtain⟨its,r,p,z⟩:=I.tuple hH
 obtain⟨⟨cls,dd,data,sl⟩,e,hc,n,hd⟩:=id p
 simp only at hc hd
 subst hc hd
 have hl:=r.length
 have hnew:List.foldl (fun x1 x2=>x1++x2) #[] (List.replicate k.toNat its.toArray)=(List.replicate k.toNat its).flatten.toArray:=by
  have:=zC its k.toNat []
  rw [List.nil_append] at this
  exact this
 have hne':its.toArray.isEmpty=false:=by
  cases its with
  |nil=>exact absurd (List.eq_nil_of_length_eq_zero hl) hne
  |cons a b=>rfl
 have hk1:(k==1)=false:=beq_eq_false_iff_ne.mpr (by omega)
 have hmul:(its.toArray.size:Int)*k≤sizeLine:=by
  have e1:k=((k.toNat:Nat):Int):=by omega
  rw [e1,List.size_toArray,←hl]
  exact_mod_cast hz
 have hline:(sizeLine:Int)≤(2^63-1)/8:=by decide
 have c1:¬(decide (k< -(2^63))||decide (k≥2^63))=true:=by
  rw [decide_eq_false (by omega),decide_eq_false (by omega)];exact Bool.false_ne_true
 have c2:¬(its.toArray.isEmpty||k==1)=true:=by rw [hne',hk1];exact Bool.false_ne_true
 have c3:¬(decide (k≤0)||its.toArray.isEmpty)=true:=by rw [decide_eq_false (by omega),hne'];exact Bool.false_ne_true
 have c4:¬(its.toArray.size:Int)*k>(2^63-1)/8:=by
  intro w;exact absurd (Int.lt_of_lt_of_le w hmul) (Int.not_lt.mpr hline)
 have c5:¬Builtin.Tuple.tupleTooMany ((its.toArray.size:Int)*k)=true:=by
  unfold Builtin.Tuple.tupleTooMany
  intro w
  have w':=of_decide_eq_true w
  omega
 have c6:((List.replicate k.toNat its.toArray).foldl (·++ ·) #[]).size≤sizeLine:=by
  rw [hnew,List.size_toArray,len_rep,←hl,Nat.mul_comm];exact hz
 refine wpAny_binaryOp_repeat_ref (T:="tuple") (U:="int") (by decide) p.typeIs (fun s'=>typeIs_int s' k t) Ys F.fills_int_mul F.slot_int_rmul Js F.slot_int_index.lookup
  (call_meets F.slot_int_rmul (typeIs_int s k t) F.entry_int_rmul (F.args_int_rmul_2 _ _) (AwM.wM k t l its.toArray n dd sl)
   ⟨e,rfl,p.typeIs,call_meets F.slot_tuple_mul p.typeIs F.entry_tuple_mul (F.args_tuple_mul_2 _ _) (AwM.tuple_mul l its.toArray n dd sl k t h1 (by omega) hne' (by rw [List.size_toArray,←hl];exact hz) c1 c2 c3 c4 c5 c6) ⟨e,?_⟩⟩)
 rw [hnew]
 refine⟨.ref s.heap.objs.size,_,I.laid (t':=s.toks) (o:= .tup (List.replicate k.toNat xs).flatten) (fun b ob w=>Heap.get?_push_of_some _ w) (Nat.le_refl _) ?_,rfl,q _ (I.hok.fresh (Nat.le_refl _))⟩
 exact⟨by rw [len_rep,Nat.mul_comm];exact hz,_,r.rep k.toNat,IsTup.new _ _⟩
def rEqNil (K:PySem.W.Frag):R2:=fun x y H Q=>∃a b xs,x= .ref a∧y= .ref b∧SqT K H a xs∧SqT K H b []∧Q (.bl xs.isEmpty) H
theorem op_eqNil (hu:X.A.units<cLine):OpR X (compareOp .Eq) (rEqNil X.K):=by
 intro pins s σ H x y v u Q I rx ry h
 obtain⟨a,b,xs,rfl,rfl,ha,hb,q⟩:=h
 cases rx
 cases ry
 obtain⟨its,r,p,_⟩:=I.tuple ha
 obtain⟨its2,r2,p2,_⟩:=I.tuple hb
 cases r2
 refine SeqAt.eq_tupleAt (e:=fun _=>true) p p2 hu (fun j _ h2=>absurd h2 (Nat.not_lt_zero _)) ⟨.bl xs.isEmpty,H,I,?_,q⟩
 show Value.bool _=Value.bool _
 cases r with
 |nil=>rfl
 |cons _ _=>simp
end
end L2
namespace L2
open PySem PySem.Spec PyProof.Rows
section
variable {X:Cx}
def rCatG (K:PySem.W.Frag):R2:=fun x y H Q=>∃a b xs ys,x= .ref a∧y= .ref b∧SqT K H a xs∧SqT K H b ys∧xs.length+ys.length≤sizeLine∧
 (xs= []→Q (.ref b) H)∧(xs≠ []→ys= []→Q (.ref a) H)∧(xs≠ []→ys≠ []→∀p,H p=none→Q (.ref p) (upd H p (.tup (xs++ys))))
theorem op_catG:OpR X (binaryOp .Add) (rCatG X.K):=by
 intro pins s σ H x y v u Q I rx ry h
 obtain⟨a,b,xs,ys,rfl,rfl,ha,hb,hz,q0,q1,q2⟩:=h
 by_cases hx:xs= []
 ·cases rx
  cases ry
  obtain⟨its,r1,p1,_⟩:=I.tuple ha
  obtain⟨its2,r2,p2,_⟩:=I.tuple hb
  subst hx
  cases r1
  obtain⟨⟨c1,d1,t1,l1⟩,o1,e1,n1,f1⟩:=id p1
  obtain⟨⟨c2,d2,t2,l2⟩,o2,e2,n2,f2⟩:=id p2
  simp only at e1 f1 e2 f2
  subst e1 f1 e2 f2
  exact concat_meets p1.typeIs p2.typeIs noFill_tuple_add seq_tuple_add PySem.F.slot_tuple_add PySem.F.entry_tuple_add (PySem.F.args_tuple_add_2 _ _) (tuple_addW0 a b _ _ n1 n2 d1 d2 l1 l2 rfl) ⟨o1,o2,⟨.ref b,H,I,rfl,q0 rfl⟩⟩
 ·exact op_catT pins s σ H (.ref a) (.ref b) v u Q I rx ry ⟨a,b,xs,ys,rfl,rfl,ha,hb,hx,hz,q1 hx,q2 hx⟩
end
end L2
namespace L2
open PySem PySem.Spec PyProof.Rows
theorem Tk.updL {H:Hp}{p:Addr}{xs ys:List V}(h:H p=some (.lst xs)):Tk H (upd H p (.lst ys)):=by
 refine⟨fun b zs e=> ?_,fun b zs e=> ?_,fun b zs e=>⟨zs,?_⟩⟩
 ·rw [qu (fun z=>by rw [z,h] at e;cases e)];exact e
 ·by_cases z:b=p
  ·exact⟨ys,by rw [z];exact qf⟩
  ·exact⟨zs,by rw [qu z];exact e⟩
 ·rw [qu (fun z=>by rw [z,h] at e;cases e)];exact e
theorem lc_data {J:It}{A:Addr}{H1:Hp}{te:TE}{tl:St}{Q:VK}{ds:List D}(f:D→D)(hn:ds.length≤sizeLine)(hA:H1 A=none)
  (hgo:∀i H,Same H1 H→i<ds.length→J.go i H) (hy:∀i H x H' d,Same H1 H→ds[i]? =some d→J.yld i H x H'→H'=H∧Is H d x) (hstop:∀H,Same H1 H→J.stop ds.length H)
  (hte:∀d x H (R:VK),d∈ds→Same H1 H→Is H d x→(∀y H',Same H H'→Is H' (f d) y→R y H')→te (some x::tl) H R)
  (hQ:∀H' ys,Same H1 H'→H' A=some (.lst ys)→IsL H' (ds.map f) ys→Q (.ref A) H'):lcGo A J (J5 0) tYes te (none::tl) H1 Q:=by
 refine⟨ds.length,fun i σ ys H=>(∃w,σ=w::tl)∧IsL H ((ds.take i).map f) ys∧Same H1 H,hn,⟨⟨none,rfl⟩,rfl,qd hA _⟩,?_,?_⟩
 ·rintro i σ ys H hi ⟨⟨w,rfl⟩,hl,sm⟩ hA' hyl
  refine⟨hgo i H sm hi,fun x H' y=> ?_⟩
  obtain⟨rfl,hx⟩:=hy i H x H' ds[i] sm (List.getElem?_eq_getElem hi) y
  dsimp only [J5,tYes,List.set]
  rw [if_pos rfl]
  refine hte ds[i] x H' _ (List.getElem_mem hi) sm hx fun y' H4 s4 hy'=>⟨s4 _ _ hA',⟨some x,rfl⟩,?_,fun b o e=> ?_⟩
  ·have t:Tk H4 (upd H4 A (.lst (ys++ [y']))):=Tk.updL (s4 _ _ hA')
   have e:(ds.take (i+1)).map f=(ds.take i).map f++ [f ds[i]]:=by
    rw [List.take_add_one,List.getElem?_eq_getElem hi,List.map_append]
    rfl
   rw [e]
   exact((hl.mono s4.tk).mono t).append (IsL.one (hy'.mono t))
  ·rw [qu (qm e hA)]
   exact s4 b o (sm b o e)
 ·rintro σ ys H ⟨_,hl,sm⟩ hA'
  refine⟨hstop H sm,hQ H ys sm hA' ?_⟩
  rw [List.take_of_length_le (Nat.le_refl _)] at hl
  exact hl
theorem xa {K:PySem.W.Frag}{a A:Addr}{H1:Hp}{te:TE}{tl:St}{Q:VK}{ds:List D}{vs:List V}(f:D→D)(ha:H1 a=some (.tup vs))(hl:IsL H1 ds vs)(hn:ds.length≤sizeLine)(hA:H1 A=none)
  (hte:∀d x H (R:VK),d∈ds→Same H1 H→Is H d x→(∀y H',Same H H'→Is H' (f d) y→R y H')→te (some x::tl) H R)
  (hQ:∀H' ys,Same H1 H'→H' A=some (.lst ys)→IsL H' (ds.map f) ys→Q (.ref A) H'):lcGo A (Itt K a) (J5 0) tYes te (none::tl) H1 Q:=by
 have ln:=hl.length
 refine lc_data f hn hA (fun i H sm hi=>⟨vs,vs[i]'(by omega),SqT.of (sm _ _ ha),List.getElem?_eq_getElem _⟩) (fun i H x H' d sm hd y=> ?_) (fun H sm=>⟨vs,SqT.of (sm _ _ ha),by omega⟩) hte hQ
 obtain⟨rfl,y⟩:=y
 obtain⟨v,e1,e2⟩:=hl.get hd
 have e3:=y vs (SqT.of (sm _ _ ha))
 rw [e1] at e3
 cases e3
 exact⟨rfl,e2.mono sm.tk⟩
theorem IsL.bls {H:Hp}:∀{bs:List Bool}{vs:List V},IsL H (bs.map D.bl) vs→vs=bs.map V.bl
 | [],_,h=>h
 |_::_,_,h=>by
  obtain⟨v,r,rfl,h1,h2⟩:=h
  rw [IsL.bls h2,show v=_ from h1];rfl
theorem IsL.ints {H:Hp}:∀{ns:List Int}{vs:List V},IsL H (ns.map D.int) vs→vs=ns.map V.int
 | [],_,h=>h
 |_::_,_,h=>by
  obtain⟨v,r,rfl,h1,h2⟩:=h
  rw [IsL.ints h2,show v=_ from h1];rfl
theorem jT {K:PySem.W.Frag}{H:Hp}{ds:List D}{v:V}{i:Int}{d:D}{Q:VK}(h:Is H (.tup ds) v)(hi:atI ds i=some d)(q:∀x,Is H d x→Q x H):rIxT K v (.int i) H Q:=by
 obtain⟨a,vs,rfl,ha,hl⟩:=h
 obtain⟨j,h1,h2,h3,h4,h5⟩:=Wd hi
 obtain⟨x,e1,e2⟩:=hl.get h2
 refine⟨a,vs,i,x,rfl,rfl,SqT.of ha,?_,q x e2⟩
 have ln:=hl.length
 unfold atI at hi⊢
 rw [ln]
 cases e:ixN ds.length i with
 |none=>rw [e] at hi;cases hi
 |some k=>
  rw [e] at hi
  obtain⟨g1,_⟩:=ixN_seq e
  rw [h1] at g1
  cases g1
  exact e1
def inS (i j:Str):Bool:= !(Builtin.Str.occurrences j i 0 j.length 1).isEmpty
theorem ji {z:Str}{n:Int}(h0:0≤n)(h1:n≤10000)(hz:z.length≤1000):MulOk z n:=by
 have hs:sizeLine=16777216:=sizeLine_eq
 refine⟨by rw [decide_eq_false (by omega),decide_eq_false (by omega)];rfl,fun hn _=> ?_,fun hn _=> ?_⟩
 ·have:(1000:Int)≤(2^63-1)/n:=by
   have h3:(1000:Int)*n≤2^63-1:=by omega
   exact(Int.le_ediv_iff_mul_le (by omega)).mpr h3
  omega
 ·unfold Builtin.Str.tooLong
  refine decide_eq_false ?_
  have:z.length*n.toNat≤1000*10000:=Nat.mul_le_mul hz (by omega)
  omega
theorem XM (xs:Array Nat):∀(k:Nat) (acc:Array Nat),((List.replicate k xs).foldl (·++ ·) acc).size=acc.size+k*xs.size
 |0,acc=>by simp
 |k+1,acc=>by rw [List.replicate_succ,List.foldl_cons,XM xs k,Array.size_append,Nat.succ_mul];omega
theorem joined_size (xs:Array Nat)(k:Nat):((List.replicate k xs).foldl (·++ ·) #[]).size=k*xs.size:=by
 rw [XM];simp
theorem J4 {z:Str}{n:Int}(hz:z.length≤1)(h1:n≤10000):(Txt.mul z n).length≤10000:=by
 unfold Txt.mul
 split
 ·show 0≤10000;decide
 ·split
  ·omega
  ·show((List.replicate n.toNat z.cps).foldl (·++ ·) #[]).size≤10000
   rw [joined_size]
   have:n.toNat*z.cps.size≤10000*1:=Nat.mul_le_mul (by omega) hz
   omega
end L2
namespace L2
open PySem PySem.Spec PyProof.Rows
theorem for_str {z:Str}{g:TG}{tb:TS}{E:Ends}{σ:St}{H:Hp}(Pv:Nat→St→Hp→Prop)(h0:Pv 0 σ H)
  (hs:∀(i c:Nat) σ H,z.cps[i]? =some c→Pv i σ H→g (.str ⟨#[c]⟩) σ H fun σ2 H2=>tb {E with nx:=Pv (i+1),ct:=Pv (i+1),bk:=E.nx} σ2 H2) (hd:∀σ H,Pv z.cps.size σ H→E.nx σ H):
  ∃W:Nat→Nat→St→Hp→Prop,(∃m,W 0 m σ H)∧∀i m σ H,W i m σ H→
   ((Its z).stop i H∧E.nx σ H)∨((Its z).go i H∧∃N:St→Hp→Prop,(∀σ' H',N σ' H'→∃m',m'<m∧W (i+1) m' σ' H')∧∀x H',(Its z).yld i H x H'→g x σ H' fun σ2 H2=>tb {E with nx:=N,ct:=N,bk:=E.nx} σ2 H2):=by
 refine⟨fun i m σ H=>m=z.cps.size-i∧i≤z.cps.size∧Pv i σ H,⟨z.cps.size,by simp,Nat.zero_le _,h0⟩,?_⟩
 rintro i m σ H ⟨rfl,hi,p⟩
 by_cases hlt:i<z.cps.size
 ·refine .inr ⟨hlt,Pv (i+1),fun σ' H' p'=>⟨z.cps.size-(i+1),by omega,rfl,hlt,p'⟩,fun x H' y=> ?_⟩
  obtain⟨rfl,c,hc,rfl⟩:=y
  exact hs i c σ _ hc p
 ·have e:i=z.cps.size:=by omega
  exact .inl ⟨e,hd σ H (e▸p)⟩
theorem IsL.unsnoc {H:Hp}:∀{ds:List D}{d:D}{vs:List V},IsL H (ds++ [d]) vs→∃us x,vs=us++ [x]∧IsL H ds us∧Is H d x
 | [],d,_,h=>by
  obtain⟨v,r,rfl,h1,h2⟩:=h
  cases(show r= [] from h2)
  exact⟨[],v,rfl,rfl,h1⟩
 |e::r,d,_,h=>by
  obtain⟨v,q,rfl,h1,h2⟩:=h
  obtain⟨us,x,rfl,h3,h4⟩:=IsL.unsnoc h2
  exact⟨v::us,x,rfl,⟨v,us,rfl,h1,h3⟩,h4⟩
def Qd:D→Bool
 | .str _=>true
 |_=>false
def xV:D→Bool
 | .tup _=>true
 |_=>false
section
variable {K:PySem.W.Frag}
theorem kit_no {T U:String}{b:Bool}(h:(Value.type T==Value.type U)=false)(hm:PySem.W.kitMeta U=true)(hs:(fastBuiltinMro T).map (·.contains (Value.type U))=some b):PySem.W.kitOne K (.type T) (.type U)=some b:=by
 unfold PySem.W.kitOne
 rw [if_neg (by rw [h];exact Bool.false_ne_true)]
 show(if PySem.W.kitMeta U=true then PySem.W.subIn K (.type T) (.type U) else none)=some b
 rw [if_pos hm]
 exact hs
theorem kit_self {T:String}(h:(Value.type T==Value.type T)=true):PySem.W.kitOne K (.type T) (.type T)=some true:=by
 unfold PySem.W.kitOne
 rw [if_pos h]
theorem QB (d:D):PySem.W.kitOne K (tyD d) (.type "str")=some (Qd d):=by
 cases d with
 |str z=>exact kit_self (by decide)
 |_=>exact kit_no (b:=false) (by decide) (by decide+kernel) (by decide+kernel)
theorem Y6 (d:D):PySem.W.kitOne K (tyD d) (.type "tuple")=some (xV d):=by
 cases d with
 |tup z=>exact kit_self (by decide)
 |_=>exact kit_no (b:=false) (by decide) (by decide+kernel) (by decide+kernel)
end
theorem wB (c k:Nat):decide ((⟨#[c]⟩:Str).cps.toList< [k])=decide (c<k):=by
 rw [decide_eq_decide]
 simp [List.cons_lt_cons_iff]
theorem one_gt (c k:Nat):decide ([k]<(⟨#[c]⟩:Str).cps.toList)=decide (k<c):=by
 rw [decide_eq_decide]
 simp [List.cons_lt_cons_iff]
end L2
namespace L2
open PySem PySem.Spec PyProof.Rows
end L2
namespace L2
open PySem PySem.Spec PyProof.Rows
def iTupB (K:PySem.W.Frag)(tl:TE):TI:=fun σ H R=>tl σ H fun x H1=>∃a xs,x= .ref a∧SqT K H1 a xs∧(xs.length≤sizeLine→R (Itt K a) H1)
theorem JC {X:Cx}{tg l:Expr}{tl:TE}(hl:PE X l tl):PI X tg l (iTupB X.K tl):=by
 intro pins s σ H R I h
 refine thn (hl pins s σ H _ I h) fun v s1 ⟨x,H1,I1,r1,q1⟩=> ?_
 obtain⟨a,xs,e,hq,q⟩:=q1
 subst e
 cases r1
 obtain⟨its,rv,p,hz⟩:=I1.tuple hq
 refine wpAny_pyIter_tuple (show s1.heap.IsTuple a its.toArray from p) ?_
 refine⟨s1.heap.objs.size,[s1.heap.objs.size],_,_,H1,rfl,I1.kept (t':=s1.toks) fun b o e=>Heap.get?_push_of_some _ e,wk a _,⟨_,Heap.get?_push_size _ rfl,rfl,rfl⟩,fun b hb=> ?_,q hz⟩
 have e:b=s1.heap.objs.size:=by simpa using hb
 subst e
 exact I1.fpOk (Nat.le_refl _) (I1.hok.fresh (Nat.le_refl _))
end L2
namespace L2
open PySem PySem.Spec PyProof.Rows
theorem call_lenB {X:Cx}:jW X (.builtin "len") (fun xs H Q=>∃p ys,xs= [.ref p]∧(SqL X.K H p ys∨SqT X.K H p ys)∧(ys.length≤sizeLine→Q (.int ys.length) H)):=by
 intro pins s σ H xs us Q I r h
 obtain⟨p,ys,e,hq,q⟩:=h
 have hz:ys.length≤sizeLine:=by
  rcases hq with hq|hq
  ·exact(I.list hq).choose_spec.2.2
  ·exact(I.tuple hq).choose_spec.2.2
 exact qM pins s σ H xs us Q I r ⟨p,ys,e,hq,q hz⟩
theorem zK {xs:List V}{n:Nat}(h:n≤xs.length):cutV xs (some (n:Int)) none=xs.drop n:=by
 unfold cutV
 rw [HT.sIx_none,HT.sIx_nat,Nat.min_eq_left h]
 exact List.take_of_length_le (by rw [List.length_drop];exact Nat.le_refl _)
end L2
namespace L2
open PySem PySem.Spec PyProof.Rows Builtin Builtin.Str
def posL (c:Nat):List Nat→Nat→List Nat
 | [],_=> []
 |a::r,i=>if a=c then i::posL c r (i+1) else posL c r (i+1)
def cutL (c:Nat):Nat→List Nat→List (List Nat)
 |0,L=> [L]
 |_+1,[]=> [[]]
 |n+1,a::r=>if a=c then []::cutL c n r else match cutL c (n+1) r with
  |p::q=>(a::p)::q
  | []=> [[a]]
def ofL (l:List Nat):Str:=⟨l.toArray⟩
theorem yn (z:Str):ofL z.cps.toList=z:=by
 unfold ofL
 simp
theorem Xc (c:Nat):∀(n:Nat) (L:List Nat),∃p q,cutL c n L=p::q
 |0,L=>⟨L,[],by simp [cutL]⟩
 |n+1,[]=>⟨[],[],by simp [cutL]⟩
 |n+1,a::r=>by
  by_cases h:a=c
  ·exact⟨[],cutL c n r,by simp [cutL,h]⟩
  ·obtain⟨p,q,e⟩:=Xc c (n+1) r
   exact⟨a::p,q,by simp [cutL,h,e]⟩
theorem wS {c:Nat}{n:Nat}{r:List Nat}:∀{p:List Nat},c∉p→cutL c (n+1) (p++c::r)=p::cutL c n r
 | [],_=>by simp [cutL]
 |a::p,h=>by
  have h1:a≠c:=fun e=>h (by simp [e])
  have ih:=wS (n:=n) (r:=r) (p:=p) (fun z=>h (List.mem_cons_of_mem _ z))
  show cutL c (n+1) (a::(p++c::r))=_
  rw [cutL,if_neg h1,ih]
theorem zY {c:Nat}{n:Nat}:∀{p:List Nat},c∉p→cutL c n p= [p]
 | [],_=>by cases n<;>simp [cutL]
 |a::p,h=>by
  have h1:a≠c:=fun e=>h (by simp [e])
  cases n with
  |zero=>simp [cutL]
  |succ n=>
   have ih:=zY (n:=n+1) (p:=p) (fun z=>h (List.mem_cons_of_mem _ z))
   rw [cutL,if_neg h1,ih]
theorem subAt_sign (x:Str)(c i:Nat)(h:i<x.length):subAt x ⟨#[c]⟩ i=decide (x.cps.toList[i]? =some c):=by
 rw [StrLaws.subAt_eq]
 have hl:i<x.cps.toList.length:=by simpa [Str.length] using h
 have e1:(x.cps.toList.drop i).take 1= [x.cps.toList[i]]:=by
  rw [List.drop_eq_getElem_cons hl]
  rfl
 show((x.cps.toList.drop i).take 1== [c])=_
 rw [e1,List.getElem?_eq_getElem hl]
 generalize x.cps.toList[i]=k
 by_cases e:k=c
 ·simp [e]
 ·simp [e]
theorem occ_go (x:Str)(c n:Nat):∀(m k:Nat) (found:Array Nat) (free:Nat),k+m=x.length+1→free≤k→
  (forIn (List.range' k m) (found,free) (StrLaws.occBody x ⟨#[c]⟩ x.length n)).run.fst.toList=found.toList++(posL c (x.cps.toList.drop k) k).take (n-found.size)
 |0,k,found,free,hk,_=>by
  have hl:x.cps.toList.length≤k:=by simp [Str.length] at hk⊢;omega
  rw [List.drop_of_length_le hl]
  simp [posL]
 |m+1,k,found,free,hk,hf=>by
  rw [List.range'_succ,List.forIn_cons]
  unfold StrLaws.occBody
  have hlen:x.cps.toList.length=x.length:=by simp [Str.length]
  by_cases hlt:k<x.length
  ·have hkl:k<x.cps.toList.length:=by omega
   rw [List.drop_eq_getElem_cons hkl]
   have hs:=subAt_sign x c k hlt
   rw [List.getElem?_eq_getElem hkl] at hs
   by_cases e:x.cps.toList[k]=c
   ·have hs':subAt x ⟨#[c]⟩ k=true:=by rw [hs,e];simp
    by_cases hn:found.size<n
    ·rw [if_pos ⟨⟨⟨hn,hf⟩,by show k+1≤x.length;omega⟩,hs'⟩]
     have ih:=occ_go x c n m (k+1) (found.push k) (k+1) (by omega) (Nat.le_refl _)
     show(forIn (List.range' (k+1) m) (found.push k,k+1) (StrLaws.occBody x ⟨#[c]⟩ x.length n)).run.fst.toList=_
     rw [ih]
     rw [posL,if_pos e,Array.toList_push,Array.size_push]
     obtain⟨j,hj⟩:∃j,n-found.size=j+1:=⟨n-found.size-1,by omega⟩
     rw [hj,List.take_succ_cons,show n-(found.size+1)=j by omega]
     simp
    ·rw [if_neg (fun z=>hn z.1.1.1)]
     have ih:=occ_go x c n m (k+1) found free (by omega) (by omega)
     show(forIn (List.range' (k+1) m) (found,free) (StrLaws.occBody x ⟨#[c]⟩ x.length n)).run.fst.toList=_
     rw [ih,show n-found.size=0 by omega]
     simp
   ·have hs':¬subAt x ⟨#[c]⟩ k=true:=by rw [hs];intro z;exact e (Option.some.inj (of_decide_eq_true z))
    rw [if_neg (fun z=>hs' z.2)]
    have ih:=occ_go x c n m (k+1) found free (by omega) (by omega)
    show(forIn (List.range' (k+1) m) (found,free) (StrLaws.occBody x ⟨#[c]⟩ x.length n)).run.fst.toList=_
    rw [ih,posL,if_neg e]
  ·rw [if_neg (fun z=>hlt (by have:=z.1.2;show k<x.length;have h1:k+1≤x.length:=this;omega))]
   have ih:=occ_go x c n m (k+1) found free (by omega) (by omega)
   show(forIn (List.range' (k+1) m) (found,free) (StrLaws.occBody x ⟨#[c]⟩ x.length n)).run.fst.toList=_
   rw [ih]
   have h1:x.cps.toList.length≤k:=by omega
   rw [List.drop_of_length_le h1,List.drop_of_length_le (by omega)]
   simp [posL]
theorem wE (x:Str)(c n:Nat):occurrences x ⟨#[c]⟩ 0 x.length n=(posL c x.cps.toList 0).take n:=by
 rw [StrLaws.occ_eq]
 have:=occ_go x c n (x.length+1) 0 #[] 0 (by omega) (Nat.le_refl _)
 simpa using this
def att (p:List Nat):List (List Nat)→List (List Nat)
 |q::r=>(p++q)::r
 | []=> [p]
theorem parts_go (x:Str)(c:Nat):∀(m n a b:Nat),a≤b→b+m=x.length→
  StrLaws.partsFrom x 1 a ((posL c (x.cps.toList.drop b) b).take n)=(att ((x.cps.toList.drop a).take (b-a)) (cutL c n (x.cps.toList.drop b))).map ofL:=by
 have hlen:x.cps.toList.length=x.length:=by simp [Str.length]
 have hsub:∀i j,strSub x i j=ofL ((x.cps.toList.drop i).take (j-i)):=fun i j=>by
  rw [←yn (strSub x i j),StrLaws.strSub_toList]
 intro m
 induction m with
 |zero=>
  intro n a b hab hb
  have h1:x.cps.toList.drop b= []:=List.drop_of_length_le (by omega)
  rw [h1]
  have e1:cutL c n []= [[]]:=by cases n<;>simp [cutL]
  rw [e1]
  simp only [posL,List.take_nil,StrLaws.partsFrom,att,List.append_nil,List.map_cons,List.map_nil]
  rw [hsub,show x.length-a=b-a by omega]
 |succ m ih=>
  intro n a b hab hb
  have hbl:b<x.cps.toList.length:=by omega
  rw [List.drop_eq_getElem_cons hbl]
  cases n with
  |zero=>
   simp only [List.take_zero,StrLaws.partsFrom,cutL,att,List.map_cons,List.map_nil]
   rw [hsub,←List.drop_eq_getElem_cons hbl]
   have e2:(x.cps.toList.drop a).take (x.length-a)=x.cps.toList.drop a:=List.take_of_length_le (by rw [List.length_drop];omega)
   have e3:x.cps.toList.drop b=(x.cps.toList.drop a).drop (b-a):=by rw [List.drop_drop];congr 1;omega
   rw [e2,e3,List.take_append_drop]
  |succ n=>
   by_cases e:x.cps.toList[b]=c
   ·rw [posL,if_pos e,List.take_succ_cons,StrLaws.partsFrom,cutL,if_pos e]
    rw [ih n (b+1) (b+1) (Nat.le_refl _) (by omega)]
    obtain⟨p,q,e2⟩:=Xc c n (x.cps.toList.drop (b+1))
    rw [e2,hsub]
    simp [att]
   ·rw [posL,if_neg e,ih (n+1) a (b+1) (by omega) (by omega),cutL,if_neg e]
    obtain⟨p,q,e2⟩:=Xc c (n+1) (x.cps.toList.drop (b+1))
    rw [e2]
    simp only [att,List.map_cons]
    congr 2
    have e3:b+1-a=(b-a)+1:=by omega
    have hx:b-a<(x.cps.toList.drop a).length:=by rw [List.length_drop];omega
    rw [e3,List.take_succ_eq_append_getElem hx]
    simp [show a+(b-a)=b by omega]
theorem parts_cut (x:Str)(c n:Nat):partsBetween x (occurrences x ⟨#[c]⟩ 0 x.length n) 1=(cutL c n x.cps.toList).map ofL:=by
 rw [StrLaws.partsBetween_eq,wE]
 have:=parts_go x c x.length n 0 0 (Nat.le_refl _) (by omega)
 rw [List.drop_zero] at this
 rw [this]
 obtain⟨p,q,e⟩:=Xc c n x.cps.toList
 rw [e]
 simp [att]
theorem Zl {c:Nat}:∀{L:List Nat}{i:Nat},posL c L i= []→c∉L
 | [],_,_=>by simp
 |a::r,i,h=>by
  by_cases e:a=c
  ·simp [posL,e] at h
  ·rw [posL,if_neg e] at h
   have:=Zl h
   simp [Ne.symm e,this]
end L2
namespace L2
open PySem PySem.Spec PyProof.Rows Builtin Builtin.Str
theorem xS:∀(l:List Str) (k:Nat),Vals (l.map V.str) (strsFrom k l)
 | [],_=> .nil
 |x::r,k=> .cons ⟨k,rfl⟩ (xS r (k+1))
theorem vals_strs:∀{l:List Str}{us:List Value},Vals (l.map V.str) us→∃ps:List (Str×Tok),us=strValues ps∧ps.map (·.1)=l
 | [],_,.nil=>⟨[],rfl,rfl⟩
 |x::r,_,.cons ⟨t,e⟩ h=>by
  obtain⟨ps,e1,e2⟩:=vals_strs h
  subst e
  exact⟨(x,t)::ps,by rw [e1];rfl,by rw [List.map_cons,e2]⟩
theorem Z4 (z:Str):¬Builtin.Str.strKind z<Builtin.Str.strKind " ":=by
 have h1:Builtin.Str.strKind " "=1:=by decide+kernel
 rw [h1]
 unfold Builtin.Str.strKind
 split
 ·omega
 ·split<;>omega
theorem wJ (c:Nat):∀(n:Nat) (L:List Nat),(cutL c n L).length≤L.length+1
 |0,L=>by simp [cutL]
 |n+1,[]=>by simp [cutL]
 |n+1,a::r=>by
  by_cases h:a=c
  ·have:=wJ c n r
   simp [cutL,h];omega
  ·have:=wJ c (n+1) r
   obtain⟨p,q,e⟩:=Xc c (n+1) r
   rw [e] at this
   simp only [cutL,if_neg h,e]
   simp at this⊢
   omega
def spl (n:Nat)(z:Str):List Str:=(cutL 32 n z.cps.toList).map ofL
theorem spl_len (n:Nat)(z:Str):(spl n z).length≤z.length+1:=by
 unfold spl
 rw [List.length_map]
 have:=wJ 32 n z.cps.toList
 simpa [Str.length] using this
theorem JR:(" ":Str)=⟨#[32]⟩:=by decide+kernel
theorem spl_one {z:Str}{n:Nat}(hn:z.length≤n∨z.length<1∨True)(h:(occurrences z " " 0 z.length n).isEmpty=true)(h0:n≠0):spl n z= [z]:=by
 rw [JR,wE,List.isEmpty_iff] at h
 have h1:posL 32 z.cps.toList 0= []:=by
  cases e:posL 32 z.cps.toList 0 with
  |nil=>rfl
  |cons a r=>
   rw [e] at h
   obtain⟨k,rfl⟩:∃k,n=k+1:=⟨n-1,by omega⟩
   simp at h
 unfold spl
 rw [zY (Zl h1)]
 simp [yn]
section
variable {X:Cx}
def rSplit:V→List V→Hp→VK→Prop:=fun x vs H Q=>∃z,x= .str z∧vs= [.str " "]∧z.length≤1000∧∀p,H p=none→Q (.ref p) (upd H p (.lst ((spl (z.length+1) z).map V.str)))
theorem JN {pins:List (Addr×Obj)}{σ:St}{H:Hp}{s:Shared}{Q:VK}{ys:List V}{its:List Value}{t':Nat}(I:Inv X pins σ H s)(hv:Vals ys its)(hz:ys.length≤sizeLine)(q:∀p,H p=none→Q (.ref p) (upd H p (.lst ys)))(ht:0<t':=by((try dsimp only);first|assumption|exact Inv.tk (by assumption)|exact Nat.succ_pos _|exact Nat.lt_of_lt_of_le (Inv.tk (by assumption)) (by assumption)|exact Nat.add_pos_left (Inv.tk (by assumption)) _|omega)):
  EP X pins σ Q (.ref s.heap.objs.size) {s with heap:=s.heap.push {cls:= .type "list",data:= .seq its.toArray},toks:=t'}:=
 ⟨.ref s.heap.objs.size,_,I.lnew hv hz,rfl,q _ I.fresh⟩
theorem mt_split:MtM X "str.split" rSplit:=by
 intro pins s σ H x vs v us Q I rx rv h
 obtain⟨z,rfl,rfl,hz,q⟩:=h
 obtain⟨t,rfl⟩:=rx
 obtain⟨u,rfl,t',rfl⟩:=rv.one
 have hz':z.length≤sizeLine:=by rw [sizeLine_eq];omega
 have one:spl (z.length+1) z= [z]→∀(T:Nat),0<T→EP X pins σ Q (.ref s.heap.objs.size) {s with heap:=s.heap.push {cls:= .type "list",data:= .seq [Value.str z t].toArray},toks:=T}:=fun e T hT=>by
  rw [e] at q
  exact JN (ys:= [V.str z]) I (.cons (show RelV (V.str z) _ from⟨t,rfl⟩) .nil) (by show 1≤sizeLine;decide) q
 cases h1:(decide (z.length<(" ":Str).length)||decide (Builtin.Str.strKind z<Builtin.Str.strKind " ")) with
 |true=>
  refine call_meets F.slot_str_split (typeIs_str _ _ _) F.entry_str_split (F.args_str_split_2 _ _) (meets_str_split_cannot_occur z " " t t' h1) ?_
  have h2:z.length<1:=by
   rw [Bool.or_eq_true] at h1
   rcases h1 with h1|h1
   ·exact of_decide_eq_true h1
   ·exact absurd (of_decide_eq_true h1) (Z4 z)
  refine one ?_ s.toks I.tk
  have e:z.cps.toList= []:=List.eq_nil_of_length_eq_zero (by simpa [Str.length] using h2)
  unfold spl
  rw [e,cutL]
  rw [←yn z,e]
  rfl
 |false=>
  cases hf:(occurrences z " " 0 z.length (z.length+1)).isEmpty with
  |true=>
   refine call_meets F.slot_str_split (typeIs_str _ _ _) F.entry_str_split (F.args_str_split_2 _ _) (meets_str_split_not_found z " " t t' h1 (by decide) hf) ?_
   exact one (spl_one (.inr (.inr trivial)) hf (by omega)) s.toks I.tk
  |false=>
   have hl:=spl_len (z.length+1) z
   have e:partsBetween z (occurrences z " " 0 z.length (z.length+1)) (" ":Str).length=spl (z.length+1) z:=by
    rw [JR]
    exact parts_cut z 32 (z.length+1)
   refine call_meets F.slot_str_split (typeIs_str _ _ _) F.entry_str_split (F.args_str_split_2 _ _) (meets_str_split_sep z " " t t' h1 (by decide) hf hz' (by rw [e,sizeLine_eq];omega)) ?_
   rw [e]
   exact JN I (xS _ _) (by rw [List.length_map,sizeLine_eq];omega) q
theorem J9 (x y:Str)(k:Int)(t u v:Tok)(hk:(decide (k< -(2^63:Int))||decide (k≥2^63))=false)(h1:(decide (x.length<y.length)||decide (Builtin.Str.strKind x<Builtin.Str.strKind y))=false)(hy:(y.length==0)=false)
  (hf:(occurrences x y 0 x.length (limitOf x k)).isEmpty=true):Meets («str.split» ⟨[.str x t,.str y u,.int k v],[]⟩) (listOfItself x t):=by
 obtain⟨raising,htree⟩:=split_sep_max_tree x y k t u v hk
 refine .of_wp fun prog w A R s h=> ?_
 rw [htree,h1,hy,hf]
 show wpAny _ _ (do rule "str.split.same-object";ret (←newList [.str x t])) _ _ s
 exact wpAny_bind (wpAny_rule (wpAny_bind (wpAny_newList (wpAny_pure ⟨_,rfl,h⟩) (by show 1≤sizeLine;decide))))
theorem Jc (x y:Str)(k:Int)(t u v:Tok)(hk:(decide (k< -(2^63:Int))||decide (k≥2^63))=false)(h1:(decide (x.length<y.length)||decide (Builtin.Str.strKind x<Builtin.Str.strKind y))=true):
  Meets («str.split» ⟨[.str x t,.str y u,.int k v],[]⟩) (listOfItself x t):=by
 obtain⟨raising,htree⟩:=split_sep_max_tree x y k t u v hk
 refine .of_wp fun prog w A R s h=> ?_
 rw [htree,h1]
 show wpAny _ _ (do rule "str.split.sep-cannot-occur";ret (←newList [.str x t])) _ _ s
 exact wpAny_bind (wpAny_rule (wpAny_bind (wpAny_newList (wpAny_pure ⟨_,rfl,h⟩) (by show 1≤sizeLine;decide))))
def rSplitN:V→List V→Hp→VK→Prop:=fun x vs H Q=>∃(z:Str) (n:Nat),x= .str z∧vs= [.str " ",.int (n:Int)]∧z.length≤1000∧0<n∧n≤1000∧∀p,H p=none→Q (.ref p) (upd H p (.lst ((spl n z).map V.str)))
theorem mt_splitN:MtM X "str.split" rSplitN:=by
 intro pins s σ H x vs v us Q I rx rv h
 obtain⟨z,n,rfl,rfl,hz,hn0,hn,q⟩:=h
 obtain⟨t,rfl⟩:=rx
 obtain⟨u,u',rfl,⟨t',rfl⟩,⟨t'',rfl⟩⟩:=vals2 rv
 have hz':z.length≤sizeLine:=by rw [sizeLine_eq];omega
 have hk:(decide ((n:Int)< -(2^63:Int))||decide ((n:Int)≥2^63))=false:=by
  rw [decide_eq_false (by omega),decide_eq_false (by omega)];rfl
 have hlim:limitOf z (n:Int)=n:=by
  unfold limitOf
  rw [if_neg (by omega)]
  omega
 have one:spl n z= [z]→∀(T:Nat),0<T→EP X pins σ Q (.ref s.heap.objs.size) {s with heap:=s.heap.push {cls:= .type "list",data:= .seq [Value.str z t].toArray},toks:=T}:=fun e T hT=>by
  rw [e] at q
  exact JN (ys:= [V.str z]) I (.cons (show RelV (V.str z) _ from⟨t,rfl⟩) .nil) (by show 1≤sizeLine;decide) q
 cases h1:(decide (z.length<(" ":Str).length)||decide (Builtin.Str.strKind z<Builtin.Str.strKind " ")) with
 |true=>
  refine call_meets F.slot_str_split (typeIs_str _ _ _) F.entry_str_split (F.args_str_split_3 _ _ _) (Jc z " " n t t' t'' hk h1) ?_
  have h2:z.length<1:=by
   rw [Bool.or_eq_true] at h1
   rcases h1 with h1|h1
   ·exact of_decide_eq_true h1
   ·exact absurd (of_decide_eq_true h1) (Z4 z)
  refine one ?_ s.toks I.tk
  have e:z.cps.toList= []:=List.eq_nil_of_length_eq_zero (by simpa [Str.length] using h2)
  obtain⟨j,rfl⟩:∃j,n=j+1:=⟨n-1,by omega⟩
  unfold spl
  rw [e,cutL]
  rw [←yn z,e]
  rfl
 |false=>
  cases hf:(occurrences z " " 0 z.length (limitOf z (n:Int))).isEmpty with
  |true=>
   refine call_meets F.slot_str_split (typeIs_str _ _ _) F.entry_str_split (F.args_str_split_3 _ _ _) (J9 z " " n t t' t'' hk h1 (by decide) hf) ?_
   rw [hlim] at hf
   exact one (spl_one (.inr (.inr trivial)) hf (by omega)) s.toks I.tk
  |false=>
   have hl:=spl_len n z
   have e:partsBetween z (occurrences z " " 0 z.length (limitOf z (n:Int))) (" ":Str).length=spl n z:=by
    rw [JR,hlim]
    exact parts_cut z 32 n
   refine call_meets F.slot_str_split (typeIs_str _ _ _) F.entry_str_split (F.args_str_split_3 _ _ _) (meets_str_split_sep_max z " " n t t' t'' hk h1 (by decide) hf hz' (by rw [e,sizeLine_eq];omega)) ?_
   rw [e]
   exact JN I (xS _ _) (by rw [List.length_map,sizeLine_eq];omega) q
def X3 (c:Nat):List Nat→List Nat
 | []=> []
 |a::r=>if a=c then [] else a::X3 c r
end
end L2
namespace L2
open PySem PySem.Spec PyProof.Rows Builtin Builtin.Str
theorem headL_pos {c:Nat}:∀{L:List Nat}{i j:Nat}{r:List Nat},posL c L i=j::r→i≤j∧X3 c L=L.take (j-i)
 | [],_,_,_,h=>by simp [posL] at h
 |a::q,i,j,r,h=>by
  by_cases e:a=c
  ·rw [posL,if_pos e] at h
   cases h
   exact⟨Nat.le_refl _,by simp [X3,e]⟩
  ·rw [posL,if_neg e] at h
   obtain⟨h1,h2⟩:=headL_pos h
   refine⟨by omega,?_⟩
   rw [X3,if_neg e,h2,show j-i=(j-(i+1))+1 by omega,List.take_succ_cons]
theorem xZ {c:Nat}:∀{L:List Nat},c∉L→X3 c L=L
 | [],_=>rfl
 |a::r,h=>by
  have h1:a≠c:=fun e=>h (by simp [e])
  rw [X3,if_neg h1,xZ fun z=>h (List.mem_cons_of_mem _ z)]
def hd (z:Str):Str:=ofL (X3 32 z.cps.toList)
section
variable {X:Cx}
theorem fin_tup {pins:List (Addr×Obj)}{σ:St}{H:Hp}{s:Shared}{Q:VK}{ys:List V}{its:List Value}{t':Nat}(I:Inv X pins σ H s)(hv:Vals ys its)(hz:ys.length≤sizeLine)(q:∀p,H p=none→Q (.ref p) (upd H p (.tup ys)))(ht:0<t':=by((try dsimp only);first|assumption|exact Inv.tk (by assumption)|exact Nat.succ_pos _|exact Nat.lt_of_lt_of_le (Inv.tk (by assumption)) (by assumption)|exact Nat.add_pos_left (Inv.tk (by assumption)) _|omega)):
  EP X pins σ Q (.ref s.heap.objs.size) {s with heap:=s.heap.push {cls:= .type "tuple",data:= .seq its.toArray},toks:=t'}:=
 ⟨.ref s.heap.objs.size,_,I.laid (o:= .tup ys) (fun _ _ w=>Heap.get?_push_of_some _ w) (Nat.le_refl _) ⟨hz,its,hv,IsTup.new _ _⟩,rfl,q _ I.fresh⟩
def rPart:V→List V→Hp→VK→Prop:=fun x vs H Q=>∃z,x= .str z∧vs= [.str " "]∧z.length≤1000∧∀p a b,H p=none→Q (.ref p) (upd H p (.tup [.str (hd z),.str a,.str b]))
theorem mt_part:MtM X "str.partition" rPart:=by
 intro pins s σ H x vs v us Q I rx rv h
 obtain⟨z,rfl,rfl,hz,q⟩:=h
 obtain⟨t,rfl⟩:=rx
 obtain⟨u,rfl,t',rfl⟩:=rv.one
 have hz':z.length≤sizeLine:=by rw [sizeLine_eq];omega
 refine call_meets F.slot_str_partition (typeIs_str _ _ _) F.entry_str_partition (F.args_str_partition_2 _ _) (meets_str_partition z " " t t' (by decide) hz') ?_
 cases ho:occurrences z " " 0 z.length 1 with
 |nil=>
  have h0:hd z=z:=by
   rw [JR,wE] at ho
   have h1:posL 32 z.cps.toList 0= []:=by
    cases e:posL 32 z.cps.toList 0 with
    |nil=>rfl
    |cons a r=>rw [e] at ho;simp at ho
   unfold hd
   rw [xZ (Zl h1),yn]
  refine fin_tup (ys:= [.str (hd z),.str Str.empty,.str Str.empty]) (t':=s.toks+1) I (.cons (show RelV (V.str (hd z)) _ from⟨t,by rw [h0]⟩) (.cons (show RelV (V.str _) _ from⟨_,rfl⟩) (.cons (show RelV (V.str _) _ from⟨_,rfl⟩) .nil))) (by show 3≤sizeLine;decide) fun p hp=>q p _ _ hp
 |cons i r=>
  have h0:hd z=strSub z 0 i:=by
   rw [JR,wE] at ho
   cases e:posL 32 z.cps.toList 0 with
   |nil=>rw [e] at ho;simp at ho
   |cons a r'=>
    rw [e] at ho
    have:a=i:=by simp at ho;exact ho.1
    subst this
    obtain⟨_,h2⟩:=headL_pos e
    unfold hd
    rw [h2,←yn (strSub z 0 a),StrLaws.strSub_toList,List.drop_zero]
  refine fin_tup (ys:= [.str (hd z),.str " ",.str _]) (t':=s.toks+1+1) I (.cons (show RelV (V.str (hd z)) _ from⟨s.toks,by rw [h0]⟩) (.cons (show RelV (V.str _) _ from⟨t',rfl⟩) (.cons (show RelV (V.str _) _ from⟨s.toks+1,rfl⟩) .nil))) (by show 3≤sizeLine;decide) fun p hp=>q p _ _ hp
theorem call_intS:jW X (.type "int") (fun xs H Q=>∃z n,xs= [.str z]∧PySem.intText? z=some n∧z.length≤640∧Q (.int n) H):=by
 intro pins s σ H xs us Q I r h
 obtain⟨z,n,rfl,hn,hl,q⟩:=h
 obtain⟨u,rfl,t,rfl⟩:=xM r
 exact PySem.W.KIN.call_text hn hl ⟨.int n,H,I.tok _,⟨_,rfl⟩,q⟩
end
end L2
namespace L2
open PySem PySem.Spec PyProof.Rows
theorem Inv.turnedL {X:Cx}{pins:List (Addr×Obj)}{σ:St}{H:Hp}{s:Shared}{h':Heap}{t':Nat}{fp:List Addr}(I:Inv X pins σ H s)(k:∀b o,b∉fp→s.heap.get? b=some o→h'.get? b=some o)(hf:∀b∈fp,FpOk X pins H b)(ht:0<t':=by((try dsimp only);first|assumption|exact Inv.tk (by assumption)|exact Nat.succ_pos _|exact Nat.lt_of_lt_of_le (Inv.tk (by assumption)) (by assumption)|exact Nat.add_pos_left (Inv.tk (by assumption)) _|omega)):Inv X pins σ H {s with heap:=h',toks:=t'}:=by
 have nit:∀b u,H b=some u→b∉fp:=fun b u e z=>by
  have:=(hf b z).1
  rw [this] at e;cases e
 have nL:X.env.locals∉fp:=fun z=>(hf _ z).2.1 rfl
 refine I.step (g':=s.gens) (d':=s.drawn) (ch:=fp) (fun b hb=>⟨(hf b hb).2.2.2.1,(hf b hb).2.1,(hf b hb).2.2.2.2.1,(hf b hb).2.2.2.2.2⟩) (fun b o _ _ hc e _=>k b o hc e) (fun b o _ _ hc e _=>⟨o.slots,k b o hc e⟩) (fun _ _ _ _ n=>n)
  (fun b o hc e=>⟨o,k b o hc e⟩) (fun _ _ e=>e) (fun _ _ _ e=>e) (fun b ps e=>⟨#[],by rw [e];simp⟩) (fun m hm=> ?_) (fun b u e=> ?_) I.bare
 ·obtain⟨o,es,ep,ho,r⟩:=hm
  exact⟨o,es,ep,k _ o nL ho,r⟩
 ·refine(I.hok b u e).stay (fun c v hc q=>k c v ?_ q) (fun _ q=>q) fun _ _ q=>q
  rcases hc with z|z
  ·rw [z];exact nit b u e
  ·exact nit c _ z
theorem Inv.handed {X:Cx}{pins:List (Addr×Obj)}{σ:St}{H:Hp}{s:Shared}{h':Heap}{t':Nat}{fp:List Addr}{ys:List V}{its:List Value}(I:Inv X pins σ H s)(hf:∀b∈fp,FpOk X pins H b)(hl:∀b∈fp,b<s.heap.objs.size)(hv:Vals ys its)(hz:ys.length≤sizeLine)
  (hn:h'.get? s.heap.objs.size=some {cls:= .type "tuple",data:= .seq its.toArray}) (hs:h'.objs.size=s.heap.objs.size+1) (k:∀b o,b∉fp→s.heap.get? b=some o→h'.get? b=some o) (ht:0<t':=by((try dsimp only);first|assumption|exact Inv.tk (by assumption)|exact Nat.succ_pos _|exact Nat.lt_of_lt_of_le (Inv.tk (by assumption)) (by assumption)|exact Nat.add_pos_left (Inv.tk (by assumption)) _|omega)):
  Inv X pins σ (upd H s.heap.objs.size (.tup ys)) {s with heap:=h',toks:=t'}∧∀b∈fp,FpOk X pins (upd H s.heap.objs.size (.tup ys)) b:=by
 have I1:Inv X pins σ (upd H s.heap.objs.size (.tup ys)) {s with heap:=s.heap.push {cls:= .type "tuple",data:= .seq its.toArray},toks:=t'}:=
  I.laid (o:= .tup ys) (fun _ _ w=>Heap.get?_push_of_some _ w) (Nat.le_refl _) ⟨hz,its,hv,IsTup.new _ _⟩
 have hf1:∀b∈fp,FpOk X pins (upd H s.heap.objs.size (.tup ys)) b:=fun b hb=>by
  obtain⟨f0,f1,f2,f3,f4,f5⟩:=hf b hb
  have:=hl b hb
  exact⟨by rw [qu (Nat.ne_of_lt this)];exact f0,f1,f2,f3,f4,f5⟩
 refine⟨I1.turnedL (h':=h') (t':=t') (fun b o hb e=> ?_) hf1,hf1⟩
 rcases Heap.get?_push_cases (show(s.heap.push {cls:= .type "tuple",data:= .seq its.toArray}).get? b=some o from e) with⟨rfl,rfl⟩|e'
 ·exact hn
 ·exact k b o hb e'
end L2
namespace L2
open PySem PySem.Spec PyProof.Rows
def Itz (K:PySem.W.Frag)(a b:Addr):It:=
 ⟨fun i H=>∃xs ys x y,SqT K H a xs∧SqL K H b ys∧xs[i]? =some x∧ys[i]? =some y,
  fun i H v H'=>∃p x y,v= .ref p∧H p=none∧H'=upd H p (.tup [x,y])∧(∀xs,SqT K H a xs→xs[i]? =some x)∧∀ys,SqL K H b ys→ys[i]? =some y,
  fun i H=>∃xs,SqT K H a xs∧xs.length=i⟩
def tnZ (a b z p r i j:Addr)(k:Nat)(h:Heap):Prop:=
 IsZip h z p r .none∧IsPair h p (.ref i) (.ref j)∧(∃u v,IsPair h r u v)∧h.IsTupleIter i a k∧h.IsListIter j b k∧AwZ.Apt z p r i j a b
theorem turn_zip {P:Program}{w:World}{K:PySem.W.Frag}{elts:List Expr}{c:Nat}{tp:Pos}(a b z p r i j:Addr):Turn P w K (.Tuple elts c tp) (Itz K a b) [z,p,r,i,j] z (tnZ a b z p r i j) where
 mem:=by simp
 obj:=fun k h st x hx=>by
  obtain⟨h1,h2,⟨u,v,h3⟩,⟨o4,e4,c4,d4⟩,⟨o5,e5,c5,d5⟩,D⟩:=st
  simp only [List.mem_cons,List.mem_nil_iff,or_false] at hx
  rcases hx with rfl|rfl|rfl|rfl|rfl
  ·exact⟨_,h1,fun v z=>by cases z⟩
  ·exact⟨_,h2,fun v z=>by cases z⟩
  ·exact⟨_,h3,fun v z=>by cases z⟩
  ·exact⟨o4,e4,fun v z=>by rw [d4] at z;cases z⟩
  ·exact⟨o5,e5,fun v z=>by rw [d5] at z;cases z⟩
 keep:=fun k h h' st kk=>by
  obtain⟨h1,h2,⟨u,v,h3⟩,⟨o4,e4,r4⟩,⟨o5,e5,r5⟩,D⟩:=st
  exact⟨kk z (by simp) _ h1,kk p (by simp) _ h2,⟨u,v,kk r (by simp) _ h3⟩,⟨o4,kk i (by simp) _ e4,r4⟩,⟨o5,kk j (by simp) _ e5,r5⟩,D⟩
 item:=by
  intro X hP hw hK hc k pins s σ H E I hf st hg
  subst hP hw hK
  obtain⟨xs,ys,x,y,ha,hb,hx,hy⟩:=hg
  obtain⟨its,ra,pa,za⟩:=I.tuple ha
  obtain⟨jts,rb,pb,zb⟩:=I.list hb
  obtain⟨ux,eux,rux⟩:=ra.get hx
  obtain⟨uy,euy,ruy⟩:=rb.get hy
  obtain⟨h1,h2,⟨u,v,h3⟩,h4,h5,D⟩:=st
  have l1:=Heap.lt_size h1
  have l2:=Heap.lt_size h2
  have l3:=Heap.lt_size h3
  have l4:i<s.heap.objs.size:=by obtain⟨o,e,_⟩:=h4;exact Heap.lt_size e
  have l5:j<s.heap.objs.size:=by obtain⟨o,e,_⟩:=h5;exact Heap.lt_size e
  refine AwZ.zip_go D h1 h2 h3 h4 h5 (show s.heap.IsTuple a its.toArray from pa) pb.isList (x:=ux) (y:=uy) (by simpa using eux) (by simpa using euy) fun h' g1 g2 g3 g4 g5 g6 g7=> ?_
  have g8:IsPair h' p (.ref i) (.ref j):=g7 _ _ D.pz D.pr D.pi D.pj h2
  obtain⟨I1,hf1⟩:=I.handed (t':=s.toks) (ys:= [x,y]) (its:= [ux,uy]) hf (fun c hc=>by
   simp only [List.mem_cons,List.mem_nil_iff,or_false] at hc
   rcases hc with rfl|rfl|rfl|rfl|rfl<;>assumption) (.cons rux (.cons ruy .nil)) (by show 2≤sizeLine;decide) g5 g6 (fun c o hc e=>by
    simp only [List.mem_cons,List.mem_nil_iff,or_false,not_or] at hc
    exact g7 c o hc.1 hc.2.2.1 hc.2.2.2.1 hc.2.2.2.2 e)
  refine⟨_,rfl,wpAny_letOwnedTupleGo_zip (s:={s with heap:=h'}) g1 fun h2' z2 s2=> ?_⟩
  have s2':∀c o,c≠z→h'.get? c=some o→h2'.get? c=some o:=fun c o hc e=>s2.extBut c o hc e
  refine⟨.ref s.heap.objs.size,_,I1.turnedL (fp:= [z]) (h':=h2') (t':=s.toks) (fun c o hc e=>s2' c o (by simpa using hc) e) (fun c hc=>hf1 c (by simp at hc;simp [hc])),rfl,⟨_,x,y,rfl,I.fresh,rfl,fun zs hzs=> ?_,fun zs hzs=> ?_⟩,⟨z2,s2' _ _ D.pz g8,⟨_,_,s2' _ _ D.rz g2⟩,?_,?_,D⟩,fun c hc=>(hf1 c hc).1⟩
  ·rw [I.tuple_inj hzs ha];exact hx
  ·rw [I.list_inj hzs hb];exact hy
  ·obtain⟨o,e,q⟩:=g3
   exact⟨o,s2' _ _ D.iz e,q⟩
  ·obtain⟨o,e,q⟩:=g4
   exact⟨o,s2' _ _ D.jz e,q⟩
 done:=by
  intro X hP hw hK hc k pins s σ H E I hf st hg
  subst hP hw hK
  obtain⟨xs,ha,hx⟩:=hg
  obtain⟨its,ra,pa,za⟩:=I.tuple ha
  have hl:=ra.length
  obtain⟨h1,h2,⟨u,v,h3⟩,h4,h5,D⟩:=st
  refine AwZ.zip_stop (A:=X.A) (I.ok.hd hc) D h1 h2 h4 (show s.heap.IsTuple a its.toArray from pa) (by simp;omega) fun h' kk=>⟨rfl,?_⟩
  exact I.turnedL (t':=s.toks) (fun c o hc e=>by
   simp only [List.mem_cons,List.mem_nil_iff,or_false,not_or] at hc
   exact kk c o hc.1 hc.2.2.1 hc.2.2.2.1 hc.2.2.2.2 e) hf
 self:=fun _ _ _ _ _ st h=>wpAny_pyIter_zip st.1 h
end L2
namespace L2
open PySem PySem.Spec PyProof.Rows
section
variable {X:Cx}
theorem apt_mk {n a b:Nat}(ha:a<n)(hb:b<n):AwZ.Apt (n+4) (n+2) (n+3) n (n+1) a b:=by
 constructor<;>exact(show _≠((_:Nat)) by omega)
theorem five_le {n x:Nat}(h:x=n+4∨x=n+2∨x=n+3∨x=n∨x=n+1):n≤x:=by omega
def iZip (K:PySem.W.Frag)(ta:TA):TI:=fun σ H R=>ta σ H fun vs H1=>∃a b xs ys,vs= [.ref a,.ref b]∧SqT K H1 a xs∧SqL K H1 b ys∧R (Itz K a b) H1
theorem pi_zip {elts:List Expr}{c:Nat}{tp p pos:Pos}{e1 e2:Expr}{ta:TA}(hg:Gl X "zip")(hm:X.mg "zip"=none)(ha:PA X [e1,e2] ta)(hs:starEach [e1,e2] X.env= [(false,eval e1 X.env),(false,eval e2 X.env)]:=by rfl)(hs2:starEach [e2] X.env= [(false,eval e2 X.env)]:=by rfl):
  PI X (.Tuple elts c tp) (.Call (.Name "zip" p) [e1,e2] [] pos) (iZip X.K ta):=by
 intro pins s σ H R I h
 refine Call_ (ZZ I hg hm boot_zip (PyProof.Rows.callWith_type1 (thn (ha pos pins s σ H _ I h) fun us s1 ⟨vs,H1,I1,r1,q1⟩=> ?_) (by rw [hs,hs2]) (by rw [hs2];rfl)))
 obtain⟨a,b,xs,ys,e,hA,hB,q⟩:=q1
 subst e
 obtain⟨u,u',rfl,ru,ru'⟩:=vals2 r1
 cases ru
 cases ru'
 obtain⟨its,ra,pa,za⟩:=I1.tuple hA
 obtain⟨jts,rb,pb,zb⟩:=I1.list hB
 have la:a<s1.heap.objs.size:=by obtain⟨o,e,_⟩:=id pa;exact Heap.lt_size e
 have lb:b<s1.heap.objs.size:=by obtain⟨o,n,e,_⟩:=id pb;exact Heap.lt_size e
 refine AwZ.zip_call (show s1.heap.IsTuple a its.toArray from pa) pb.isList fun h2 g1 g2 g3 g4 g5 g6 g7=> ?_
 refine wpAny_pyIter_zip (s:={s1 with heap:=h2}) g1 ?_
 refine⟨_,[s1.heap.objs.size+4,s1.heap.objs.size+2,s1.heap.objs.size+3,s1.heap.objs.size,s1.heap.objs.size+1],_,_,H1,rfl,I1.kept (t':=s1.toks) g7,turn_zip a b _ _ _ _ _,⟨g1,g2,⟨_,_,g3⟩,g4,g5,?_⟩,fun x hx=> ?_,q⟩
 ·exact apt_mk la lb
 ·have hx':s1.heap.objs.size≤x:=by
   simp only [List.mem_cons,List.mem_nil_iff,or_false] at hx
   exact five_le hx
  exact I1.fpOk hx' (I1.hok.fresh hx')
def KDict (K:PySem.W.Frag)(w:World)(a:Addr):Prop:=(a==sysModules)=false∧∃es n,K.lookup a=some ⟨.type "dict",none,.dict es n,#[]⟩∧PySem.W.KeysLit w.params es.toList
def rNotK (K:PySem.W.Frag)(w:World):R2:=fun x y H Q=>∃z a r,x= .str z∧y= .ref a∧KDict K w a∧PySem.W.nsIn K a z=some r∧Q (.bl (!r.isSome)) H
theorem op_notK:OpR X (compareOp .NotIn) (rNotK X.K X.w):=by
 intro pins s σ H x y v u Q I rx ry h
 obtain⟨z,a,r,rfl,rfl,⟨hs,es,n,hl,hk⟩,hn,q⟩:=h
 obtain⟨t,rfl⟩:=rx
 cases ry
 have hm:=PySem.W.mapOf_K (prog:=X.prog) (w:=X.w) I.kIn hl hk
 refine wpAny_notIn_of (strKind_is X.prog X.w z t) hs hm ⟨.bl (!r.isSome),H,I.tok _,?_,q⟩
 rw [PySem.W.find_K hl hn]
 rfl
def rIxK (K:PySem.W.Frag)(w:World):R2:=fun x y H Q=>∃z a u v,x= .ref a∧y= .str z∧KDict K w a∧PySem.W.nsIn K a z=some (some u)∧RelV v u∧Q v H
theorem ix_K:IxR X (rIxK X.K X.w):=by
 intro value slice pins s σ H x y v u Q I rx ry h hs
 obtain⟨z,a,u',v',rfl,rfl,⟨_,es,n,hl,hk⟩,hn,hr,q⟩:=h
 obtain⟨t,rfl⟩:=ry
 cases rx
 have hm:=PySem.W.mapOf_K (prog:=X.prog) (w:=X.w) I.kIn hl hk
 exact tail_any hm.typeIs slot_dict_getitem.lookup (wpAny_getItem_of (strKind_is X.prog X.w z t) hm (PySem.W.find_K hl hn) ⟨v',H,I.tok _,hr,q⟩) hs
end
end L2
namespace L2
open PySem PySem.Spec PyProof.Rows
section
variable {X:Cx}{K:PySem.W.Frag}
theorem pg_tupK {es:List Expr}{k:Nat}{t:TGs}{n:Nat}{pos:Pos}(hK:X.K=K)(hc:X.calm=true)(h:PGs X es t)
  (hn:(assignEach es X.env).length=n:=by rfl) (hst:(assignEach es X.env).findIdx? (·.1)=none:=by rfl):PG X (.Tuple es k pos) (gTup K n t):=by subst hK;exact pg_tup hc h hn hst
end
end L2
namespace L2
open PySem PySem.Spec PyProof.Rows
theorem lc_range {lo:Int}{n:Nat}{L:Addr}{H1:Hp}{te:TE}{tl:St}{Q:VK}(C:Nat→List V→Hp→Prop)(hn:n≤sizeLine)(h0:C 0 [] (upd H1 L (.lst [])))
  (hs:∀i ys H,i<n→C i ys H→H L=some (.lst ys)→ys.length≤i→∀R:VK,(∀y H4,H4 L=some (.lst ys)→C (i+1) (ys++ [y]) (upd H4 L (.lst (ys++ [y])))→R y H4)→te (some (.int (lo+(i:Int)))::tl) H R)
  (hQ:∀ys H,C n ys H→H L=some (.lst ys)→Q (.ref L) H):lcGo L (Itr lo n) (J5 0) tYes te (none::tl) H1 Q:=by
 refine⟨n,fun i σ ys H=>(∃x,σ=x::tl)∧C i ys H,hn,⟨⟨none,rfl⟩,h0⟩,?_,?_⟩
 ·rintro i σ ys H hi ⟨⟨x,rfl⟩,hc⟩ hL hy
  refine⟨hi,?_⟩
  rintro x' H' ⟨rfl,rfl⟩
  dsimp only [J5,tYes,List.set]
  rw [if_pos rfl]
  exact hs i ys H' hi hc hL hy _ fun y H4 e c=>⟨e,⟨_,rfl⟩,c⟩
 ·rintro σ ys H ⟨_,hc⟩ hL
  exact⟨Nat.le_refl _,hQ ys H hc hL⟩
theorem lc_zip {K:PySem.W.Frag}{a b A:Addr}{H1:Hp}{te:TE}{tl:St}{Q:VK}{xs ys:List V}(f:Nat→D)(ha:∀H,Same H1 H→SqT K H a xs)(hb:∀H,Same H1 H→SqL K H b ys)(hxy:xs.length=ys.length)(hn:xs.length≤sizeLine)(hA:H1 A=none)
  (hte:∀i x y H (R:VK),xs[i]? =some x→ys[i]? =some y→Same H1 H→(∀v H',Same H H'→Is H' (f i) v→R v H')→te (some x::some y::tl) H R)
  (hQ:∀H' vs,Same H1 H'→H' A=some (.lst vs)→L2.IsL H' ((List.range xs.length).map f) vs→Q (.ref A) H'):lcGo A (Itz K a b) (gTup K 2 (gCons (J5 0) (gCons (J5 1) gNil))) tYes te (none::none::tl) H1 Q:=by
 refine⟨xs.length,fun i σ us H=>(∃u v,σ=u::v::tl)∧L2.IsL H ((List.range i).map f) us∧Same H1 H,hn,⟨⟨none,none,rfl⟩,rfl,qd hA _⟩,?_,?_⟩
 ·rintro i σ us H hi ⟨⟨u,v,rfl⟩,hl,sm⟩ hA' hyl
  have hx:xs[i]? =some xs[i]:=List.getElem?_eq_getElem hi
  have hy:ys[i]? =some (ys[i]'(by omega)):=List.getElem?_eq_getElem _
  refine⟨⟨xs,ys,_,_,ha H sm,hb H sm,hx,hy⟩,fun x H' y=> ?_⟩
  obtain⟨p,x',y',rfl,hp,rfl,e1,e2⟩:=y
  have e1:=e1 xs (ha H sm)
  have e2:=e2 ys (hb H sm)
  have s2:Same H (upd H p (.tup [x',y'])):=qd hp _
  refine⟨p,_,rfl,SqT.of qf,rfl,x',_,rfl,y',_,rfl,rfl,?_⟩
  dsimp only [tYes]
  rw [if_pos rfl]
  refine hte i x' y' _ _ e1 e2 (sm.trans s2) fun y4 H4 s4 hy'=>⟨s4 _ _ (s2 _ _ hA'),⟨_,_,rfl⟩,?_,fun b o e=> ?_⟩
  ·have t:Tk H4 (upd H4 A (.lst (us++ [y4]))):=Tk.updL (s4 _ _ (s2 _ _ hA'))
   rw [List.range_succ,List.map_append]
   exact((hl.mono (s2.trans s4).tk).mono t).append (IsL.one (hy'.mono t))
  ·rw [qu (qm e hA)]
   exact s4 b o (s2 b o (sm b o e))
 ·rintro σ us H ⟨_,hl,sm⟩ hA'
  exact⟨⟨xs,ha H sm,rfl⟩,hQ H us sm hA' hl⟩
theorem J8 (z:Str)(l:List Str):inV (.str z) (l.map V.str)=decide (z∈l):=by
 unfold inV
 rw [List.any_map,Bool.eq_iff_iff,List.any_eq_true,decide_eq_true_eq]
 constructor
 ·rintro⟨x,hx,e⟩
  have e':(x==z)=true:=e
  rw [beq_iff_eq] at e'
  exact e'▸hx
 ·intro h
  exact⟨z,h,by show(z==z)=true;exact beq_self_eq_true z⟩
theorem zm (l:List Str):(l.map V.str).all Zk=true:=by
 rw [List.all_map,List.all_eq_true]
 intro x _
 rfl
end L2
namespace L2
open PySem PySem.Spec PyProof.Rows
inductive Pt where
 |s (z:Str)|n (i:Int)
def Pt.d:Pt→D
 | .s z=> .str z
 | .n i=> .int i
def Pt.t:Pt→Str
 | .s z=>z
 | .n i=>toString i
inductive Kd where
 |box|line|words
 deriving DecidableEq
def Kd.t:Kd→Str
 | .box=>"box"
 | .line=>"line"
 | .words=>"words"
def BX:List Str:= ["a","b","c","d","e","f","g","h"]
def FRM:List (Str×List Kd):= [("text",[.box,.words]),("self",[.box]),("copy",[.box,.box]),("row",[.box]),("put",[.box,.box]),("join",[.box,.box]),("first",[.box,.box]),("rest",[.box,.box]),
 ("size",[.box,.box]),("cut",[.box,.box,.box]),("glue",[.box,.box,.box]),("ask",[.box,.box]),("has",[.box,.box]),("names",[.box,.box]),("go",[.line]),("like",[.box,.box,.line]),
 ("rowed",[.box,.line]),("none",[.box,.line]),("say",[.box]),("fault",[])]
def ptOk (n m:Nat):Kd→Pt→Prop
 | .box,.s z=>z∈BX
 | .line,.n i=>1≤i∧i≤n
 | .words,.s z=>z.length≤m∧z.cps.toList.all Qg=true
 |_,_=>False
def jo (n m:Nat):List Kd→List Pt→Prop
 | [],[]=>True
 |k::ks,p::ps=>ptOk n m k p∧jo n m ks ps
 |_,_=>False
abbrev Rw:=Str×List Pt
def QP (n m:Nat)(r:Rw):Prop:=∃ks,(r.1,ks)∈FRM∧jo n m ks r.2
def txs (r:Rw):List Str:=r.1::r.2.map Pt.t
def qC (r:Rw):Str:=Str.join " " (txs r)
def rowD (r:Rw):D:= .tup [.str r.1,.tup (r.2.map Pt.d)]
theorem YW:∀(x y:Str) (r:List Str),(Str.join " " (x::y::r)).cps.toList=x.cps.toList++32::(Str.join " " (y::r)).cps.toList:=by
 intro x y r
 show((x.cps++(" ":Str).cps)++(Str.join " " (y::r)).cps).toList=_
 rw [Array.toList_append,Array.toList_append,JR]
 simp
abbrev Free (z:Str):Prop:=32∉z.cps.toList
theorem wC:∀(l:List Str) (z:Str) (n:Nat),(∀p∈l,Free p)→(n=0∨Free z)→spl (l.length+n) (Str.join " " (l++ [z]))=l++ [z]
 | [],z,n,_,hz=>by
  show spl (0+n) z= [z]
  rw [Nat.zero_add]
  unfold spl
  rcases hz with rfl|hz
  ·rw [cutL]
   show [ofL z.cps.toList]= [z]
   rw [yn]
  ·rw [zY hz]
   show [ofL z.cps.toList]= [z]
   rw [yn]
 |p::l,z,n,hl,hz=>by
  have ih:=wC l z n (fun q hq=>hl q (List.mem_cons_of_mem _ hq)) hz
  have hp:Free p:=hl p List.mem_cons_self
  obtain⟨y,r,e⟩:∃y r,l++ [z]=y::r:=by cases l<;>exact⟨_,_,rfl⟩
  show spl ((l.length+1)+n) (Str.join " " (p::(l++ [z])))=p::(l++ [z])
  rw [e] at ih⊢
  unfold spl at ih⊢
  rw [YW,show l.length+1+n=(l.length+n)+1 by omega,wS hp,List.map_cons,ih,yn]
theorem hd_join (w:Str)(r:List Str)(h:Free w):hd (Str.join " " (w::r))=w:=by
 have key:∀(p q:List Nat),32∉p→X3 32 (p++32::q)=p:=by
  intro p
  induction p with
  |nil=>intro q _;simp [X3]
  |cons a p ih=>
   intro q h
   have h1:a≠32:=fun e=>h (by simp [e])
   show X3 32 (a::(p++32::q))=a::p
   rw [X3,if_neg h1,ih q fun z=>h (List.mem_cons_of_mem _ z)]
 cases r with
 |nil=>
  show ofL (X3 32 w.cps.toList)=w
  rw [xZ h,yn]
 |cons y r=>
  unfold hd
  rw [YW,key _ _ h,yn]
theorem wO:∀(l:List Str),l≠ []→(Str.join " " l).length+1=(l.map (·.length)).sum+l.length
 | [],h=>absurd rfl h
 | [x],_=>by simp [Str.join]
 |x::y::r,_=>by
  have ih:=wO (y::r) (by simp)
  have e:(Str.join " " (x::y::r)).length=x.length+(1+(Str.join " " (y::r)).length):=by
   have:=congrArg List.length (YW x y r)
   rw [List.length_append,List.length_cons] at this
   simp only [Array.length_toList] at this
   show(Str.join " " (x::y::r)).cps.size=_
   rw [this]
   show x.cps.size+((Str.join " " (y::r)).cps.size+1)=x.cps.size+(1+(Str.join " " (y::r)).cps.size)
   omega
  rw [e,List.map_cons,List.sum_cons,List.length_cons]
  omega
theorem join_all:∀(l:List Str),(∀p∈l,p.cps.toList.all Qg=true)→(Str.join " " l).cps.toList.all Qg=true
 | [],_=>by decide
 | [x],h=>h x (by simp)
 |x::y::r,h=>by
  have ih:=join_all (y::r) fun p hp=>h p (List.mem_cons_of_mem _ hp)
  rw [YW,List.all_append,List.all_cons,h x List.mem_cons_self,ih]
  rfl
theorem yc {i:Int}(h1:1≤i)(h2:i≤40):(toString i:Str).length≤2∧Free (toString i:Str)∧(toString i:Str).cps.toList.all Qg=true:=by
 obtain⟨k,rfl⟩:∃k:Fin 41,i=((k.val:Nat):Int):=⟨⟨i.toNat,by omega⟩,by simp;omega⟩
 have key:∀k:Fin 41,(toString ((k.val:Nat):Int):Str).length≤2∧decide (Free (toString ((k.val:Nat):Int):Str))=true∧(toString ((k.val:Nat):Int):Str).cps.toList.all Qg=true:=by decide+kernel
 obtain⟨a,b,c⟩:=key k
 exact⟨a,of_decide_eq_true b,c⟩
theorem num_back {i:Int}(h1:1≤i)(h2:i≤40):PySem.intText? (toString i:Str)=some i:=PySem.W.KIN.num_reads (by omega) (by omega)
theorem we {z:Str}(h:z∈BX):z.length=1∧Free z∧z.cps.toList.all Qg=true:=by
 have key:∀z∈BX,z.length=1∧decide (Free z)=true∧z.cps.toList.all Qg=true:=by decide+kernel
 obtain⟨a,b,c⟩:=key z h
 exact⟨a,of_decide_eq_true b,c⟩
theorem Wj:∀x∈FRM,decide (Free x.1)=true∧x.1.cps.toList.all Qg=true:=by decide+kernel
theorem wQ:∀x∈FRM,(decide (Kd.words∈x.2)=false)∨x=(("text":Str),[Kd.box,Kd.words]):=by decide+kernel
theorem form_nd:∀x∈FRM,∀y∈FRM,x.1=y.1→x=y:=by decide+kernel
theorem ptOk_all {n m:Nat}(hn:n≤40){k:Kd}{p:Pt}(h:ptOk n m k p):p.t.cps.toList.all Qg=true:=by
 cases k<;>cases p<;>simp only [ptOk] at h
 ·exact(we h).2.2
 ·exact(yc h.1 (by omega)).2.2
 ·exact h.2
theorem ptOk_free {n m:Nat}(hn:n≤40){k:Kd}{p:Pt}(h:ptOk n m k p)(hk:k≠ .words):Free p.t:=by
 cases k<;>cases p<;>simp only [ptOk] at h
 ·exact(we h).2.1
 ·exact(yc h.1 (by omega)).2.1
 ·exact absurd rfl hk
theorem XE {n m:Nat}:∀{ks:List Kd}{ps:List Pt},jo n m ks ps→ps.length=ks.length
 | [],[],_=>rfl
 |_::_,_::_,h=>by rw [List.length_cons,List.length_cons,XE h.2]
 | [],_::_,h=>h.elim
 |_::_,[],h=>h.elim
theorem ptsOk_get {n m:Nat}:∀{ks:List Kd}{ps:List Pt}{i:Nat}{k:Kd}{p:Pt},jo n m ks ps→ks[i]? =some k→ps[i]? =some p→ptOk n m k p
 |_::_,_::_,0,k,p,h,e1,e2=>by
  cases e1;cases e2;exact h.1
 |_::_,_::_,i+1,k,p,h,e1,e2=>ptsOk_get (i:=i) h.2 (by simpa using e1) (by simpa using e2)
 | [],[],_,_,_,_,e1,_=>by simp at e1
 | [],_::_,_,_,_,h,_,_=>h.elim
 |_::_,[],_,_,_,h,_,_=>h.elim
theorem ptsOk_all {n m:Nat}(hn:n≤40):∀{ks:List Kd}{ps:List Pt},jo n m ks ps→∀p∈ps.map Pt.t,p.cps.toList.all Qg=true
 | [],[],_=>fun p hp=>by simp at hp
 |_::_,_::_,h=>fun p hp=>by
  rw [List.map_cons] at hp
  rcases List.mem_cons.mp hp with rfl|hp
  ·exact ptOk_all hn h.1
  ·exact ptsOk_all hn h.2 p hp
 | [],_::_,h=>h.elim
 |_::_,[],h=>h.elim
theorem Z0 {n m:Nat}(hn:n≤40):∀{ks:List Kd}{ps:List Pt},jo n m ks ps→Kd.words∉ks→∀p∈ps.map Pt.t,Free p
 | [],[],_,_=>fun p hp=>by simp at hp
 |_::_,_::_,h,hk=>fun p hp=>by
  rw [List.map_cons] at hp
  rcases List.mem_cons.mp hp with rfl|hp
  ·exact ptOk_free hn h.1 fun e=>hk (by simp [e])
  ·exact Z0 hn h.2 (fun z=>hk (List.mem_cons_of_mem _ z)) p hp
 | [],_::_,h,_=>h.elim
 |_::_,[],h,_=>h.elim
theorem line_all {n m:Nat}{r:Rw}(hn:n≤40)(h:QP n m r):(qC r).cps.toList.all Qg=true:=by
 obtain⟨ks,hk,hp⟩:=h
 refine join_all _ fun p hp'=> ?_
 rcases List.mem_cons.mp hp' with rfl|hp'
 ·exact(Wj _ hk).2
 ·exact ptsOk_all hn hp p hp'
theorem line_hd {n m:Nat}{r:Rw}(h:QP n m r):hd (qC r)=r.1:=by
 obtain⟨ks,hk,hp⟩:=h
 exact hd_join _ _ (of_decide_eq_true (Wj _ hk).1)
theorem line_spl {n m:Nat}{r:Rw}{ks:List Kd}(hn:n≤40)(hk:(r.1,ks)∈FRM)(hp:jo n m ks r.2):spl (if Kd.words∈ks then ks.length else(qC r).length+1) (qC r)=txs r:=by
 have hw:Free r.1:=of_decide_eq_true (Wj _ hk).1
 by_cases h:Kd.words∈ks
 ·rw [if_pos h]
  rcases wQ _ hk with e|e
  ·simp at e;exact absurd h e
  ·have e1:ks= [.box,.words]:=congrArg Prod.snd e
   subst e1
   obtain⟨w,ps⟩:=r
   match ps,hp with
   | [p,q],hp=>
    have:=wC [w,p.t] q.t 0 (fun z hz=>by
     simp only [List.mem_cons,List.mem_nil_iff,or_false] at hz
     rcases hz with rfl|rfl
     ·exact hw
     ·exact ptOk_free hn hp.1 (by decide)) (.inl rfl)
    exact this
 ·rw [if_neg h]
  have hf:∀p∈txs r,Free p:=fun p hp'=>by
   rcases List.mem_cons.mp hp' with rfl|hp'
   ·exact hw
   ·exact Z0 hn hp h p hp'
  rcases List.eq_nil_or_concat (txs r) with e|⟨l,z,e⟩
  ·simp [txs] at e
  ·rw [List.concat_eq_append] at e
   have hlen:=wO (txs r) (by simp [txs])
   unfold qC
   rw [e] at hf hlen⊢
   have hl:l.length≤(Str.join " " (l++ [z])).length:=by
    rw [List.length_append] at hlen
    simp only [List.length_cons,List.length_nil] at hlen
    omega
   have:=wC l z ((Str.join " " (l++ [z])).length+1-l.length) (fun q hq=>hf q (List.mem_append_left _ hq)) (.inr (hf z (by simp)))
   rw [show l.length+((Str.join " " (l++ [z])).length+1-l.length)=(Str.join " " (l++ [z])).length+1 by omega] at this
   exact this
end L2
namespace L2
open PySem PySem.Spec PyProof.Rows
end L2
namespace L2
open PySem PySem.Spec PyProof.Rows
section
variable {X:Cx}{pins:List (Addr×Obj)}{σ:St}{H:Hp}{s:Shared}{ee:Addr}{xe:Value→Shared→Prop}
end
end L2
namespace PySem.AwM
open PySem.AutoSeq1 PySem.MeetsSeq PySem.MeetsSeq3
theorem tuple_mul1 (l:Addr)(items:Array Value)(n:Nat)(dd:Option Addr)(sl:Array (Option Value))(u:Tok):
  Meets (Builtin.«tuple.__mul__» ⟨[.ref l,.int 1 u],[]⟩) (fun _ R s=>s.heap.get? l=some {cls:= .type "tuple",dict:=dd,data:= .seq items n,slots:=sl}∧R (.ok (.ret (Value.ref l))) s):=
 .of_wp fun prog w A R s h=>by
  obtain⟨hp,g,d,tk,os⟩:=s;obtain⟨hl,h⟩:=h;have f1:=idx_int;have f2:=sub_tuple_tuple;have f3:=sub_list_list;have f4:=sub_tuple_list;have f5:=sub_list_tuple;
  have c2:(items.isEmpty||(1:Int)==1)=true:=by simp
  wp_walk using wpAny_loadPart' hl
  exact⟨_,rfl,h⟩
theorem tuple_mul0 (l:Addr)(items:Array Value)(n:Nat)(dd:Option Addr)(sl:Array (Option Value))(u:Tok)(hne:items.isEmpty=false):
  Meets (Builtin.«tuple.__mul__» ⟨[.ref l,.int 0 u],[]⟩) (fun _ R s=>s.heap.get? l=some {cls:= .type "tuple",dict:=dd,data:= .seq items n,slots:=sl}∧
   R (.ok (.ret (Value.ref s.heap.objs.size))) {s with heap:=s.heap.push {cls:=Value.type "tuple",data:=Data.seq #[]},toks:=s.toks}):=
 .of_wp fun prog w A R s h=>by
  obtain⟨hp,g,d,tk,os⟩:=s;obtain⟨hl,h⟩:=h;have f1:=idx_int;have f2:=sub_tuple_tuple;have f3:=sub_list_list;have f4:=sub_tuple_list;have f5:=sub_list_tuple;
  have c2:¬(items.isEmpty||(0:Int)==1)=true:=by rw [hne];decide
  have c3:(decide ((0:Int)≤0)||items.isEmpty)=true:=by simp
  wp_walk using wpAny_loadPart' hl
  exact⟨_,rfl,h⟩
end PySem.AwM
namespace L2
open PySem PySem.Spec PyProof.Rows
section
variable {X:Cx}
def rRepG (K:PySem.W.Frag):R2:=fun x y H Q=>∃l k xs,x= .ref l∧y= .int k∧SqT K H l xs∧xs≠ []∧0≤k∧k<1000000∧xs.length*k.toNat≤sizeLine∧(k=1→Q (.ref l) H)∧
 (k≠1→∀p,H p=none→Q (.ref p) (upd H p (.tup (List.replicate k.toNat xs).flatten)))
theorem op_repG:OpR X (binaryOp .Mult) (rRepG X.K):=by
 intro pins s σ H x y v u Q I rx ry h
 obtain⟨l,k,xs,rfl,rfl,hH,hne,h0,h2,hz,q1,q⟩:=h
 by_cases h1:1<k
 ·exact op_repT pins s σ H (.ref l) (.int k) v u Q I rx ry ⟨l,k,xs,rfl,rfl,hH,hne,h1,h2,hz,q (by omega)⟩
 cases rx
 obtain⟨t,rfl⟩:=ry
 obtain⟨its,r,p,z⟩:=I.tuple hH
 obtain⟨⟨cls,dd,data,sl⟩,e,hc,n,hd⟩:=id p
 simp only at hc hd
 subst hc hd
 have hl:=r.length
 have hne':its.toArray.isEmpty=false:=by
  cases its with
  |nil=>exact absurd (List.eq_nil_of_length_eq_zero hl) hne
  |cons a b=>rfl
 rcases(show k=0∨k=1 by omega) with rfl|rfl
 ·refine wpAny_binaryOp_repeat_ref (T:="tuple") (U:="int") (by decide) p.typeIs (fun s'=>typeIs_int s' 0 t) Ys F.fills_int_mul F.slot_int_rmul Js F.slot_int_index.lookup
   (call_meets F.slot_int_rmul (typeIs_int s 0 t) F.entry_int_rmul (F.args_int_rmul_2 _ _) (AwM.wM 0 t l its.toArray n dd sl)
    ⟨e,rfl,p.typeIs,call_meets F.slot_tuple_mul p.typeIs F.entry_tuple_mul (F.args_tuple_mul_2 _ _) (AwM.tuple_mul0 l its.toArray n dd sl t hne') ⟨e,?_⟩⟩)
  refine⟨.ref s.heap.objs.size,_,I.laid (t':=s.toks) (o:= .tup []) (fun b ob w=>Heap.get?_push_of_some _ w) (Nat.le_refl _) ?_,rfl,q (by decide) _ (I.hok.fresh (Nat.le_refl _))⟩
  exact⟨Nat.zero_le _,[],.nil,IsTup.new _ _⟩
 ·refine wpAny_binaryOp_repeat_ref (T:="tuple") (U:="int") (by decide) p.typeIs (fun s'=>typeIs_int s' 1 t) Ys F.fills_int_mul F.slot_int_rmul Js F.slot_int_index.lookup
   (call_meets F.slot_int_rmul (typeIs_int s 1 t) F.entry_int_rmul (F.args_int_rmul_2 _ _) (AwM.wM 1 t l its.toArray n dd sl)
    ⟨e,rfl,p.typeIs,call_meets F.slot_tuple_mul p.typeIs F.entry_tuple_mul (F.args_tuple_mul_2 _ _) (AwM.tuple_mul1 l its.toArray n dd sl t) ⟨e,⟨.ref l,H,I,rfl,q1 rfl⟩⟩⟩)
end
end L2
namespace HT
open PySem PyProof.Rows
section
variable {prog:Program}{w:World}{A:Around}{E:Value→Shared→Prop}{s:Shared}
theorem getItem_tuple_all {t sl:Addr}{items:Array Value}{vl vu:Value}{lo hi:Option Int}{Q:Value→Shared→Prop}(ht:IsTup s.heap t items)(hs:s.heap.IsSliceOf sl vl vu .none)(pl:IsPart vl lo)(pu:IsPart vu hi)
  (hw:sIx items.size 0 lo=0∧sIx items.size items.size hi=items.size) (h:Q (.ref t) s):wpAny (model prog w) A (getItem (.ref t) (.ref sl)) Q E s:=by
 obtain⟨os,hos,hcs,hds⟩:=id hs
 have hTs:s.TypeIs (.ref sl) "slice":=⟨os,hos,hcs⟩
 unfold getItem
 try with_reducible refine wpAny_holding ?_
 first|refine wpAny_bind (wpAny_pure ?_)|skip
 refine wpAny_bind (wpAny_sequenceKey ht.typeIs (by decide) ?_)
 refine wpAny_bind (wpAny_callSpecial?_slot (name:=Str.ofString "__getitem__") ht.typeIs PyProof.Rows.slot_tuple_getitem
  (wpAny_call_entry PyProof.Rows.slot_tuple_getitem ht.typeIs entry_tuple_getitem ?_ (args_tuple_getitem _ _)))
 show wpAny _ _ (Builtin.Tuple.tupleItemsOf (.ref t)>>=_) _ _ s
 refine wpAny_bind (tupleItemsOf_ ht ?_)
 refine wpAny_bind (wpAny_typeOf hTs ?_)
 rw [if_pos (by decide)]
 refine wpAny_bind (Ja hs pl pu ?_)
 have hyes:((((sIx items.size 0 lo:Nat):Int)==0&&(1:Int)==1&&(sIx items.size items.size hi-sIx items.size 0 lo)==items.size)=true):=by
  rw [hw.1,hw.2]
  simp
 show wpAny _ _ (if(((sIx items.size 0 lo:Nat):Int)==0&&(1:Int)==1&&(sIx items.size items.size hi-sIx items.size 0 lo)==items.size)=true then _ else _) _ _ s
 rw [if_pos hyes]
 unfold Builtin.Tuple.tupleIsExact
 refine wpAny_bind (wpAny_bind (wpAny_typeOf ht.typeIs (wpAny_pure ?_)))
 rw [if_pos (by decide)]
 exact wpAny_bind (wpAny_rule (wpAny_pure ⟨_,rfl,wpAny_pure h⟩))
end
end HT
namespace L2
open PySem PySem.Spec PyProof.Rows
section
variable {X:Cx}
def rSlG (K:PySem.W.Frag):V→Option Int→Option Int→Hp→VK→Prop:=fun x lo hi H Q=>∃a xs,x= .ref a∧SqT K H a xs∧
 (HT.sIx xs.length 0 lo=0∧HT.sIx xs.length xs.length hi=xs.length→Q (.ref a) H)∧
 (¬(HT.sIx xs.length 0 lo=0∧HT.sIx xs.length xs.length hi=xs.length)→∀p,H p=none→Q (.ref p) (upd H p (.tup (cutV xs lo hi))))
theorem sl_tupG:SlR X (rSlG X.K):=by
 intro pins s σ H x v vl vu lo hi sl Q I rx hs pl pu h
 obtain⟨a,xs,rfl,hx,q1,q2⟩:=h
 by_cases hw:HT.sIx xs.length 0 lo=0∧HT.sIx xs.length xs.length hi=xs.length
 ·cases rx
  obtain⟨its,r,ht,hz⟩:=I.tuple hx
  have hlen:its.toArray.size=xs.length:=by rw [List.size_toArray];exact r.length.symm
  refine⟨"tuple",_,PyProof.Rows.slot_tuple_getitem.lookup,ht.typeIs,?_⟩
  exact HT.getItem_tuple_all ht hs pl pu (by rw [hlen];exact hw) ⟨.ref a,H,I,rfl,q1 hw⟩
 ·exact sl_tup pins s σ H (.ref a) v vl vu lo hi sl Q I rx hs pl pu ⟨a,xs,rfl,hx,hw,q2 hw⟩
end
end L2
namespace L2
open PySem PySem.Spec PyProof.Rows
end L2
namespace L2
open PySem PySem.Spec PyProof.Rows
section
variable {X:Cx}{pins:List (Addr×Obj)}{σ:St}{H:Hp}{s:Shared}
end
end L2
namespace PySem.AwV
open PySem PySem.Calls PyProof.Rows Builtin Builtin.ObjectAttr Builtin.Getset_descriptor PySem.W
section
variable {prog:Program}{w:World}{A:Around}{E:Value→Shared→Prop}{s:Shared}{K:Frag}{x C:Addr}
end
end PySem.AwV
namespace L2
open PySem PySem.Spec PyProof.Rows
section
variable {X:Cx}{pins:List (Addr×Obj)}{σ:St}{H:Hp}{s:Shared}
theorem vals_refs:∀{cs:List Addr}{its:List Value},Vals (cs.map V.ref) its→its=cs.map Value.ref
 | [],_,h=>by cases h;rfl
 |c::cs,_,h=>by
  cases h with
  |cons r1 r2=>
   rw [vals_refs r2,show _=Value.ref c from r1]
   rfl
end
end L2
namespace L2
open PySem PySem.Spec PyProof.Rows
section
variable {X:Cx}
end
end L2
namespace PySem.AwK
open PySem Builtin Builtin.ObjectAttr
theorem lk_keys:typeLookup (.type "list") "keys"=pure none:=by rw [typeLookup_type,builtinLookup_eq_fast];kernel_rfl
section
variable {prog:Program}{w:World}{A:Around}{E:Value→Shared→Prop}{s:Shared}
theorem Wc:isSubtype (.type "AttributeError") (.type "AttributeError")=pure true:=by rw [isSubtype_type];kernel_rfl
theorem raise_attr {α:Type}{o:Value}{name msg:Str}{Q:α→Shared→Prop}(hh:A.handled=none)(hm:msg.length≤sizeLine)
  (hq:∀h' tk' e,(∀b ob,s.heap.get? b=some ob→h'.get? b=some ob)→(∃oe,h'.get? e=some oe∧oe.cls= .type "AttributeError")→E (.ref e) {s with heap:=h',toks:=tk'}):
  wpAny (model prog w) A (raiseAttrError o name msg:Sem α) Q E s:=by
 unfold raiseAttrError
 refine wpAny_bind (wpAny_mkStr (wpAny_bind ?_) hm)
 unfold newExc newTuple
 refine wpAny_bind (wpAny_newObj_type ?_ (by show(1:Nat)≤sizeLine;rw [sizeLine_eq];decide))
 refine wpAny_bind (m:=firstArgMember _ _) (wpAny_of_eq (a:=Value.none) (by kernel_rfl) ?_)
 obtain⟨h1,hh1⟩:∃h1,h1=s.heap.push {cls:= .type "tuple",data:= .seq #[Value.str msg s.toks]}:=⟨_,rfl⟩
 have k1:∀b ob,s.heap.get? b=some ob→h1.get? b=some ob:=fun b ob e=>by rw [hh1];exact Heap.get?_push_of_some _ e
 show wpAny (model prog w) A (newObj (.type "AttributeError") (.fields #[.ref s.heap.objs.size,.none,.none,.none,.bool false,.none,unsetMember,unsetMember])) _ E {s with heap:=s.heap.push {cls:= .type "tuple",data:= .seq #[Value.str msg s.toks]},toks:=s.toks+1}
 rw [←hh1]
 refine wpAny_newObj_type ?_ (by unfold sizeOk;first|trivial|(rw [sizeLine_eq];simp)|decide)
 obtain⟨h2,hh2⟩:∃h2,h2=h1.push {cls:= .type "AttributeError",data:= .fields #[.ref s.heap.objs.size,.none,.none,.none,.bool false,.none,unsetMember,unsetMember]}:=⟨_,rfl⟩
 have k2:∀b ob,h1.get? b=some ob→h2.get? b=some ob:=fun b ob e=>by rw [hh2];exact Heap.get?_push_of_some _ e
 have e2:h2.get? h1.objs.size=some {cls:= .type "AttributeError",data:= .fields #[.ref s.heap.objs.size,.none,.none,.none,.bool false,.none,unsetMember,unsetMember]}:=by rw [hh2];exact Heap.get?_push_size _ rfl
 show wpAny (model prog w) A (do let x←mkText name;noteAttr (.ref h1.objs.size) o x;raiseNew (.ref h1.objs.size)) Q E {s with heap:=h1.push {cls:= .type "AttributeError",data:= .fields #[.ref s.heap.objs.size,.none,.none,.none,.bool false,.none,unsetMember,unsetMember]},toks:=s.toks+1}
 rw [←hh2]
 have ne:∀b ob,h1.get? b=some ob→b≠h1.objs.size:=fun b ob e=>Nat.ne_of_lt (Heap.lt_size e)
 generalize h1.objs.size=e at e2 ne⊢
 refine wpAny_bind (wpAny_mkText (wpAny_bind ?_))
 have hT:∀g d t os,(⟨h2,g,d,t,os⟩:Shared).TypeIs (.ref e) "AttributeError":=fun _ _ _ _=>⟨_,e2,rfl⟩
 unfold noteAttr lacksNameAndObj
 refine wpAny_bind (wpAny_bind (wpAny_isInstance (hT _ _ _ _) Wc ?_))
 simp only [Bool.not_true,Bool.false_eq_true,if_false]
 refine wpAny_bind (wpAny_load e2 ?_)
 dsimp only
 rw [if_neg (by simp [unsetMember,rawInt]),if_neg (by simp [unsetMember,doubtfulMember,rawInt])]
 refine wpAny_pure ?_
 rw [if_pos rfl]
 refine wpAny_bind (wpAny_rule (wpAny_bind (wpAny_typeOf (hT _ _ _ _) ?_)))
 show wpAny (model prog w) A (layMembers e 6 #[Value.str name (s.toks+1),o]) _ E _
 unfold layMembers
 refine wpAny_bind (wpAny_load e2 ?_)
 dsimp only
 refine wpAny_update e2 ?_
 have e3:=Heap.get?_update_self (Obj.mapFields fun vs=>vs.extract 0 6++ #[Value.str name (s.toks+1),o]) e2 rfl
 have k3:∀b ob,b≠e→h2.get? b=some ob→(h2.update e (Obj.mapFields fun vs=>vs.extract 0 6++ #[Value.str name (s.toks+1),o])).get? b=some ob:=fun b ob hb q=>(Heap.get?_update_other _ _ (Ne.symm hb)).trans q
 exact wpAny_raiseNew_none hh (hq _ _ e (fun b ob q=>k3 b ob (ne b ob (k1 b ob q)) (k2 b ob (k1 b ob q))) ⟨_,e3,rfl⟩)
end
section
variable {prog:Program}{w:World}{A:Around}{E:Value→Shared→Prop}{h:Heap}{g:Array GenState}{d:Drawn}{t:Nat}{os:OsState}{a:Addr}{its:Array Value}{n:Nat}{sl:Array (Option Value)}
theorem nk_entry {tk:Tok}{Q:Fin→Shared→Prop}(hh:A.handled=none)(hx:h.get? a=some {cls:= .type "list",dict:=none,data:= .seq its n,slots:=sl})
  (hq:∀h' tk' e,(∀b ob,h.get? b=some ob→h'.get? b=some ob)→(∃oe,h'.get? e=some oe∧oe.cls= .type "AttributeError")→E (.ref e) ⟨h',g,d,tk',os⟩):
  wpAny (model prog w) A (Builtin.«object.__getattribute__» ⟨[.ref a,.str "keys" tk],[]⟩) Q E ⟨h,g,d,t,os⟩:=by
 have hT:(⟨h,g,d,t,os⟩:Shared).TypeIs (.ref a) "list":=⟨_,hx,rfl⟩
 have f4:=lk_keys
 repeat (any_goals (first|assumption|wp_step))
 exact raise_attr hh (by rw [sizeLine_eq];decide+kernel) hq
theorem nk_call {tk:Tok}{R:Result→Shared→Prop}(hh:A.handled=none)(hx:h.get? a=some {cls:= .type "list",dict:=none,data:= .seq its n,slots:=sl})
  (hq:∀h' tk' e,(∀b ob,h.get? b=some ob→h'.get? b=some ob)→(∃oe,h'.get? e=some oe∧oe.cls= .type "AttributeError")→R (.error (.ref e)) ⟨h',g,d,tk',os⟩):
  codeAny (model prog w) A (.call (.builtin "list.__getattribute__") ⟨[.ref a,.str "keys" tk],[]⟩) R ⟨h,g,d,t,os⟩:=
 codeAny_call_builtin F.slot_list_getattribute.plain F.entry_list_ga (F.slot_list_getattribute.check _ _ _ _ _ _ _ _ (show(⟨h,g,d,t,os⟩:Shared).TypeIs (.ref a) "list" from⟨_,hx,rfl⟩) (F.args_list_getattribute_2 _ _) (nk_entry hh hx hq))
theorem no_keys {Q:Option Value→Shared→Prop}(hh:A.handled=none)(hx:h.get? a=some {cls:= .type "list",dict:=none,data:= .seq its n,slots:=sl})
  (hq:∀h' tk',(∀b ob,h.get? b=some ob→h'.get? b=some ob)→Q none ⟨h',g,d,tk',os⟩):wpAny (model prog w) A (getAttr? (.ref a) "keys") Q E ⟨h,g,d,t,os⟩:=by
 have hT:∀t,(⟨h,g,d,t,os⟩:Shared).TypeIs (.ref a) "list":=fun t=>⟨_,hx,rfl⟩
 unfold getAttr? getAttrBy?
 refine wpAny_bind (wpAny_mkText (wpAny_bind (wpAny_attempt ?_)))
 unfold getAttrBy
 refine wpAny_holding (wpAny_bind (wpAny_typeOf (hT _) ?_))
 rw [F.slot_list_getattribute.lookup]
 refine wpAny_bind (wpAny_pure ?_)
 show wpAny (model prog w) A (getAttrByItsOwn (.ref a) _ (.type "list") (.builtin "list.__getattribute__") false false) _ _ _
 unfold getAttrByItsOwn
 refine wpAny_bind (m:=hookBefore _) (wpAny_pure ?_)
 refine wpAny_bind (wpAny_attempt (wpAny_holding ?_))
 show wpAny (model prog w) A (boundAndCalled (.builtin "list.__getattribute__") (.ref a) _) _ _ _
 unfold boundAndCalled
 rw [F.slot_list_getattribute.bind]
 refine wpAny_bind (wpAny_pure (wpAny_call (nk_call hh hx fun h' tk' e k ⟨oe,e1,e2⟩=> ?_)))
 have hE:∀t,(⟨h',g,d,t,os⟩:Shared).TypeIs (.ref e) "AttributeError":=fun t=>⟨_,e1,e2⟩
 show wpAny (model prog w) A (getattributeRaised (.ref a) _ (.type "list") (.ref e) none false false) _ _ ⟨h',g,d,tk',os⟩
 unfold getattributeRaised
 refine wpAny_bind (wpAny_isInstance (hE _) Wc ?_)
 rw [if_pos rfl]
 have lg:hookBehind (.type "list") none=pure none:=by
  show typeLookup (.type "list") "__getattr__"=pure none
  rw [typeLookup_type,builtinLookup_eq_fast]
  kernel_rfl
 rw [lg]
 refine wpAny_bind (wpAny_pure ?_)
 show wpAny (model prog w) A (attributeErrorLeaves (.ref a) _ (.ref e) false false) _ _ _
 unfold attributeErrorLeaves
 refine wpAny_throw ?_
 refine wpAny_bind (wpAny_isInstance (hE _) Wc ?_)
 rw [if_pos rfl]
 exact wpAny_pure (hq h' tk' k)
end
theorem wz:entryFor table "dict.update.loop"=some Builtin.«dict.update.loop»:=entryFor_of_fast (by kernel_rfl)
theorem JD:plainId "dict.update.loop"=true:=by decide+kernel
section
variable {prog:Program}{w:World}{A:Around}{E:Value→Shared→Prop}{K:Type}[DecidableEq K]{knd:KeyKind prog w K}
def addAll (cur:List (K×Value)):List (K×Value)→List (K×Value)
 | []=>cur
 |p::r=>addAll (stored cur p.1 p.2) r
structure PairAt (h:Heap)(d it:Addr)(v:Value)(p:K×Value):Prop where
 at_:∃(t:Addr) (o:Obj) (k:Value) (n:Nat),v= .ref t∧t≠d∧t≠it∧h.get? t=some o∧o.cls= .type "tuple"∧o.data= .seq #[k,p.2] n∧knd.is p.1 k=true
theorem pairs_loop (hh:A.handled=none){d it l:Addr}{items:Array Value}{ps:List (K×Value)}{R:Result→Shared→Prop}(hdl:d≠l)(hil:it≠l)(hdi:d≠it)(hn:items.size=ps.length)(hz:2*ps.length≤sizeLine)(res:Value):
  ∀(m i:Nat) (s:Shared) (cur:List (K×Value)),i+m=ps.length→s.heap.IsListIter it l i→s.heap.IsList l items→s.heap.DictOf knd d cur→cur.length≤i→
  (∀(j:Nat) (v:Value) (p:K×Value),items[j]? =some v→ps[j]? =some p→PairAt (knd:=knd) s.heap d it v p)→
  (∀h' tk',h'.DictOf knd d (addAll cur (ps.drop i))→(∀b o,b≠d→b≠it→s.heap.get? b=some o→h'.get? b=some o)→R (.ok (.ret res)) {s with heap:=h',toks:=tk'})→
  codeAny (model prog w) A (.builtin "dict.update.loop" ⟨[.ref d,.ref it,rawInt i,res],[]⟩) R s:=by
 intro m
 induction m with
 |zero=>
  intro i s cur hm hit hl hd hc hp hR
  refine codeAny_builtin wz ?_
  rw [Around.under_plainId JD _]
  show wpAny _ A.in1 (pyNext (.ref it)>>=_) _ _ s
  refine wpAny_bind (wpAny_pyNext_list_end (A:=A.in1) hh hit hl (by rw [Array.getElem?_eq_none (by omega)]) fun h' eb=> ?_)
  have hd':h'.DictOf knd d cur:=by
   obtain⟨o,es,ep,ho,r⟩:=hd
   exact⟨o,es,ep,eb d o hdi ho,r⟩
  have:=hR h' s.toks (by rw [List.drop_eq_nil_of_le (by omega)];exact hd') fun b o hb1 hb2 e=>eb b o hb2 e
  show wpAny (model prog w) A.in1 (Dict.addKeywords d []>>=fun _=>ret res) _ _ _
  refine wpAny_bind (m:=Dict.addKeywords d []) (wpAny_pure ?_)
  exact wpAny_pure this
 |succ m ih=>
  intro i s cur hm hit hl hd hc hp hR
  refine codeAny_builtin wz ?_
  rw [Around.under_plainId JD _]
  have hi:i<items.size:=by omega
  have hip:i<ps.length:=by omega
  have hx:items[i]? =some items[i]:=Array.getElem?_eq_getElem hi
  have hpx:ps[i]? =some ps[i]:=List.getElem?_eq_getElem hip
  obtain⟨t,o,k,n,ev,htd,hti,ho,hc1,hd1,hk⟩:=(hp i _ _ hx hpx).at_
  rw [ev] at hx
  show wpAny _ A.in1 (pyNext (.ref it)>>=_) _ _ s
  refine wpAny_bind (wpAny_pyNext_list_item (A:=A.in1) hit hl hx fun h1 hit1 sb1=> ?_)
  have ho1:h1.get? t=some o:=(sb1.2 t hti).trans ho
  have hT:(({s with heap:=h1}:Shared)).TypeIs (.ref t) "tuple":=⟨_,ho1,hc1⟩
  have hd1':h1.DictOf knd d cur:=hd.sameBut sb1 hdi
  dsimp only
  refine wpAny_bind (wpAny_holding (wpAny_bind (wpAny_tryCatch ?_)))
  unfold Dict.pairItems
  refine wpAny_bind (wpAny_typeOf hT ?_)
  rw [if_pos (by decide)]
  refine wpAny_bind ?_
  unfold seqItems?
  refine wpAny_bind (wpAny_load ho1 ?_)
  rw [hd1]
  refine wpAny_pure (wpAny_pure ?_)
  show wpAny (model prog w) A.in1 (holding [k,ps[i].2] (dictSet d k ps[i].2)) _ _ _
  refine wpAny_holding (wpAny_dictSet_pairs hk hd1' (fun h2 hd2 sb2=> ?_) (by omega))
  have hit2:h2.IsListIter it l (i+1):=by
   obtain⟨oi,e,c⟩:=hit1
   exact⟨oi,(sb2.2 it (Ne.symm hdi)).trans e,c⟩
  have keep:∀b ob,b≠d→b≠it→s.heap.get? b=some ob→h2.get? b=some ob:=fun b ob hb1 hb2 e=>(sb2.2 b hb1).trans ((sb1.2 b hb2).trans e)
  have hl2:h2.IsList l items:=by
   obtain⟨ol,e,c⟩:=hl
   exact⟨ol,keep l ol (Ne.symm hdl) (Ne.symm hil) e,c⟩
  refine wpAny_pure ⟨plainId_quiet JD _,?_⟩
  have hlen:(stored cur ps[i].1 ps[i].2).length≤i+1:=by
   unfold stored
   split
   ·rw [List.length_map];omega
   ·rw [List.length_append];show cur.length+1≤i+1;omega
  refine ih (i+1) _ _ (by omega) hit2 hl2 hd2 hlen (fun j v p h1 h2=> ?_) fun h' tk' hd' kp=> ?_
  ·obtain⟨t',o',k',n',e1,e2,e3,e4,e5⟩:=(hp j v p h1 h2).at_
   exact⟨⟨t',o',k',n',e1,e2,e3,keep t' o' e2 e3 e4,e5⟩⟩
  ·refine hR h' tk' ?_ fun b ob hb1 hb2 e=>kp b ob hb1 hb2 (keep b ob hb1 hb2 e)
   rw [List.drop_eq_getElem_cons hip]
   exact hd'
theorem dict_pairs (hh:A.handled=none){s:Shared}{l:Addr}{items:Array Value}{n:Nat}{sl:Array (Option Value)}{ps:List (K×Value)}{Q:Value→Shared→Prop}(hl:s.heap.get? l=some {cls:= .type "list",dict:=none,data:= .seq items n,slots:=sl})(hn:items.size=ps.length)(hz:2*ps.length≤sizeLine)
  (hp:∀(j:Nat) (v:Value) (p:K×Value),items[j]? =some v→ps[j]? =some p→∃(t:Addr) (o:Obj) (k:Value) (n:Nat),v= .ref t∧s.heap.get? t=some o∧o.cls= .type "tuple"∧o.data= .seq #[k,p.2] n∧knd.is p.1 k=true)
  (hQ:∀h' tk',h'.DictOf knd s.heap.objs.size (addAll [] ps)→(∀b o,s.heap.get? b=some o→h'.get? b=some o)→Q (.ref s.heap.objs.size) {s with heap:=h',toks:=tk'}):
  wpAny (model prog w) A (call (.type "dict") [.ref l]) Q E s:=by
 refine callType_codes (Q₁:=fun obj s₁=>obj= .ref s.heap.objs.size∧s₁={s with heap:=s.heap.push {cls:= .type "dict",data:= .dict #[]}}) F.kt_called_dict (F.kt_typeCall_dict_1 _) F.entry_dict_init (kt_code_dict_new _ ⟨rfl,rfl⟩) ?_
 rintro obj s₁ ⟨rfl,rfl⟩
 have hnew:(s.heap.push {cls:= .type "dict",data:= .dict #[]}).DictOf knd s.heap.objs.size []:=Heap.DictOf.new s.heap
 refine⟨hnew.typeIs,F.args_dict_init_2 _ _,?_⟩
 unfold Builtin.«dict.__init__»
 refine wpAny_bind ?_
 unfold Builtin.Dict.selfAndRest
 refine wpAny_bind (wpAny_notOrdered_dict hnew.typeIs ?_)
 refine(show wpAny _ _ (pure (s.heap.objs.size,[Value.ref l])) _ _ _ from ?_)
 refine wpAny_pure ?_
 refine(show wpAny _ _ (Builtin.Dict.updateFrom "dict.__init__" s.heap.objs.size (.ref l) [] .none) _ _ _ from ?_)
 unfold Builtin.Dict.updateFrom
 have hl1:(s.heap.push {cls:= .type "dict",data:= .dict #[]}).get? l=some {cls:= .type "list",dict:=none,data:= .seq items n,slots:=sl}:=Heap.get?_push_of_some _ hl
 refine wpAny_bind (wpAny_typeOf (T:="list") ⟨_,hl1,rfl⟩ ?_)
 rw [if_pos (by decide)]
 refine wpAny_bind (no_keys (A:=A.in1.in1) hh hl1 fun h2 tk2 k2=> ?_)
 rw [if_pos (show(none:Option Value).isNone=true from rfl)]
 have hlt:l<s.heap.objs.size:=Heap.lt_size hl
 have hl2:h2.IsList l items:=⟨_,k2 _ _ hl1,rfl,n,rfl⟩
 refine wpAny_bind (wpAny_rule (wpAny_bind (wpAny_pyIter_list hl2 ?_)))
 have hd2:h2.DictOf knd s.heap.objs.size []:=by
  obtain⟨o,es,ep,ho,r⟩:=hnew
  exact⟨o,es,ep,k2 _ _ ho,r⟩
 have hdlt:s.heap.objs.size<h2.objs.size:=by
  obtain⟨o,es,ep,ho,r⟩:=hd2
  exact Heap.lt_size ho
 have k1:∀b o,s.heap.get? b=some o→h2.get? b=some o:=fun b o e=>k2 b o (Heap.get?_push_of_some _ e)
 have k3:∀b o,h2.get? b=some o→(h2.push {cls:= .type "list_iterator",data:= .fields #[.ref l,.int 0 0]}).get? b=some o:=fun b o e=>Heap.get?_push_of_some _ e
 have hl3:(h2.push {cls:= .type "list_iterator",data:= .fields #[.ref l,.int 0 0]}).IsList l items:=⟨_,k3 _ _ (k2 _ _ hl1),rfl,n,rfl⟩
 have hd3:(h2.push {cls:= .type "list_iterator",data:= .fields #[.ref l,.int 0 0]}).DictOf knd s.heap.objs.size []:=hd2.push _
 refine wpAny_pure ⟨plainId_quiet JD _,pairs_loop (A:=A.in1) hh (d:=s.heap.objs.size) (it:=h2.objs.size) (l:=l) (items:=items) (ps:=ps) (Nat.ne_of_gt hlt) (Nat.ne_of_gt (Nat.lt_trans hlt hdlt)) (Nat.ne_of_lt hdlt) hn hz .none ps.length 0 _ [] (by omega) ⟨_,Heap.get?_push_size _ rfl,rfl,rfl⟩ hl3 hd3 (Nat.le_refl _) (fun j v p h1 h2'=> ?_) fun h' tk' hd' kp=> ?_⟩
 ·obtain⟨t,o,k,n',e1,e2,e3,e4,e5⟩:=hp j v p h1 h2'
  have ht:=Heap.lt_size e2
  exact⟨⟨t,o,k,n',e1,Nat.ne_of_lt ht,Nat.ne_of_lt (Nat.lt_trans ht hdlt),k3 _ _ (k1 _ _ e2),e3,e4,e5⟩⟩
 ·refine⟨rfl,hQ h' tk' hd' fun b o e=> ?_⟩
  have hb:=Heap.lt_size e
  exact kp b o (Nat.ne_of_lt hb) (Nat.ne_of_lt (Nat.lt_trans hb hdlt)) (k3 _ _ (k1 _ _ e))
end
end PySem.AwK
namespace L2
open PySem PySem.Spec PyProof.Rows
section
variable {X:Cx}
def inrK (ps:List (Str×V)):List (Key×V):=ps.map fun p=>(Sum.inr p.1,p.2)
theorem inrK_keys (ps:List (Str×V)):(inrK ps).map (·.1)=(ps.map (·.1)).map Sum.inr:=by
 unfold inrK
 rw [List.map_map,List.map_map]
 rfl
theorem stored_new {kvs:List (Key×Value)}{k:Key}{v:Value}(h:k∉kvs.map (·.1)):stored kvs k v=kvs++ [(k,v)]:=by
 unfold stored
 rw [if_neg]
 intro q
 obtain⟨p,hp,e⟩:=List.any_eq_true.mp q
 exact h (List.mem_map.mpr ⟨p,hp,of_decide_eq_true e⟩)
theorem wf:∀{ps cur:List (Key×Value)},((cur++ps).map (·.1)).Nodup→AwK.addAll cur ps=cur++ps
 | [],cur,_=>(List.append_nil cur).symm
 |p::r,cur,h=>by
  unfold AwK.addAll
  have hk:p.1∉cur.map (·.1):=by
   rw [List.map_append,List.map_cons] at h
   intro q
   exact(List.nodup_append.mp h).2.2 _ q _ List.mem_cons_self rfl
  rw [stored_new hk,wf (by rw [List.append_assoc];exact h),List.append_assoc]
  rfl
theorem pairs_are {P:Program}{w:World}{H:Hp}{h:Heap}(ok:HOk P w H h):∀{ts:List Addr}{ps:List (Str×V)},ts.length=ps.length→(∀(i:Nat) (t:Addr) (p:Str×V),ts[i]? =some t→ps[i]? =some p→H t=some (.tup [.str p.1,p.2]))→
  ∃pv:List (Key×Value),KV (inrK ps) pv∧∀(j:Nat) (v:Value) (p:Key×Value),(ts.map Value.ref)[j]? =some v→pv[j]? =some p→∃(t:Addr) (o:Obj) (k:Value) (n:Nat),v= .ref t∧h.get? t=some o∧o.cls= .type "tuple"∧o.data= .seq #[k,p.2] n∧(QC P w).is p.1 k=true
 | [],[],_,_=>⟨[],.nil,fun j v p e=>by simp at e⟩
 |t::ts,p::ps,hl,hp=>by
  obtain⟨pv,h1,h2⟩:=pairs_are ok (ts:=ts) (ps:=ps) (by simpa using hl) fun i t' p' e1 e2=>hp (i+1) t' p' (by simpa using e1) (by simpa using e2)
  obtain⟨_,its,rv,o,ho,hc,n,hd⟩:=(show yL P w H h t (.tup [.str p.1,p.2]) from ok t _ (hp 0 t p rfl rfl))
  cases rv with
  |cons r1 rv=>
  cases rv with
  |cons r2 rv=>
  cases rv with
  |nil=>
  obtain⟨tk,rfl⟩:=r1
  rename_i u
  refine⟨(Sum.inr p.1,u)::pv,.cons ⟨rfl,r2⟩ h1,fun j v q e1 e2=> ?_⟩
  cases j with
  |zero=>
   simp only [List.map_cons,List.getElem?_cons_zero,Option.some.injEq] at e1 e2
   subst e1 e2
   exact⟨t,o,_,n,rfl,ho,hc,hd,Zd _ _ _ _⟩
  |succ j=>exact h2 j v q (by simpa using e1) (by simpa using e2)
 | [],_::_,hl,_=>by simp at hl
 |_::_,[],hl,_=>by simp at hl
def PairsL (H:Hp)(l:Addr)(ps:List (Str×V)):Prop:=∃ts:List Addr,H l=some (.lst (ts.map V.ref))∧ts.length=ps.length∧∀(i:Nat) (t:Addr) (p:Str×V),ts[i]? =some t→ps[i]? =some p→H t=some (.tup [.str p.1,p.2])
theorem dict_of {pins:List (Addr×Obj)}{σ:St}{H:Hp}{s:Shared}{l:Addr}{ps:List (Str×V)}{Q:Value→Shared→Prop}(hc:X.calm=true)(I:Inv X pins σ H s)(hl:PairsL H l ps)(hn:(ps.map (·.1)).Nodup)(hz:ps.length≤1000)
  (h:∀h' tk' pv,0<tk'→(∀b o,s.heap.get? b=some o→h'.get? b=some o)→KV (inrK ps) pv→h'.DictOf (QC X.prog X.w) s.heap.objs.size pv→Q (.ref s.heap.objs.size) {s with heap:=h',toks:=tk'}):
  wpAny (model X.prog X.w) X.A (call (.type "dict") [.ref l]) Q X.xe s:=by
 obtain⟨ts,e1,e2,e3⟩:=hl
 obtain⟨_,its,n,rv,ho⟩:=(show yL X.prog X.w H s.heap l (.lst (ts.map V.ref)) from I.hok l _ e1)
 cases vals_refs rv
 obtain⟨pv,r,hp⟩:=pairs_are I.hok e2 e3
 have hpl:pv.length=ps.length:=by
  rw [←r.length]
  unfold inrK
  rw [List.length_map]
 have hnd:(pv.map (·.1)).Nodup:=by
  rw [←r.keys,inrK_keys]
  exact List.Pairwise.map _ (fun a b hab e=>hab (Sum.inr.inj e)) hn
 refine wpAny_with_toks (n:=1) I.tk ?_
 refine AwK.dict_pairs (knd:=QC X.prog X.w) (I.ok.hd hc) (ps:=pv) ho (by rw [List.size_toArray,List.length_map];omega) (by rw [sizeLine_eq];omega) (fun j v p h1 h2=>hp j v p (by simpa using h1) h2) fun h' tk' hd' kp=> ?_
 rw [wf (by simpa using hnd),List.nil_append] at hd'
 exact fun htk=>h h' tk' pv htk kp r hd'
theorem Z2 (hc:X.calm=true):jW X (.type "dict") (fun xs H Q=>∃(l:Addr) (ps:List (Str×V)),xs= [.ref l]∧PairsL H l ps∧(ps.map (·.1)).Nodup∧ps.length≤1000∧∀q,H q=none→Q (.ref q) (upd H q (.dK (inrK ps)))):=by
 intro pins s σ H xs us Q I r h
 obtain⟨l,ps,rfl,hl,hn,hz,q⟩:=h
 obtain⟨u,rfl,ru⟩:=xM r
 cases ru
 refine dict_of hc I hl hn hz fun h' tk' pv htk kp rel dd=> ?_
 have hlo:(s.heap.objs.size==sysModules)=false:=by
  rw [beq_eq_false_iff_ne]
  exact Nat.ne_of_gt I.big
 have hz':(inrK ps).length≤sizeLine:=by unfold inrK;rw [List.length_map,sizeLine_eq];omega
 exact⟨.ref s.heap.objs.size,_,I.laid kp (Nat.le_refl _) (dk_new hz' hlo rel dd),rfl,q _ I.fresh⟩
end
end L2
namespace AwQ
open PySem PySem.SeqAt
open PySem.AutoSeq1 (wpAny_loadPart')
open PySem.MeetsSeq PySem.MeetsSeq2 PySem.MeetsSeq3
end AwQ
namespace L2
open PySem PySem.Spec PyProof.Rows
mutual
def puD:D→Bool
 | .str _=>true
 | .int _=>true
 | .tup xs=>puL xs
 |_=>false
def puL:List D→Bool
 | []=>true
 |x::r=>puD x&&puL r
end
mutual
def eqD:D→D→Bool
 | .str a,.str b=>a==b
 | .int a,.int b=>a==b
 | .tup xs,.tup ys=>eqL xs ys
 |_,_=>false
def eqL:List D→List D→Bool
 | [],[]=>true
 |x::r,y::q=>eqD x y&&eqL r q
 |_,_=>false
end
mutual
theorem eqD_iff:∀{d e:D},puD d=true→(eqD d e=true↔d=e)
 | .str a,e,_=>by cases e<;>simp [eqD]
 | .int a,e,_=>by cases e<;>simp [eqD]
 | .tup xs,.tup ys,h=>by
  have:=eqL_iff (xs:=xs) (ys:=ys) (by simpa [puD] using h)
  simp only [eqD,this,D.tup.injEq]
 | .tup xs,.non,_=>by simp [eqD]
 | .tup xs,.bl _,_=>by simp [eqD]
 | .tup xs,.int _,_=>by simp [eqD]
 | .tup xs,.str _,_=>by simp [eqD]
 | .tup xs,.lst,_=>by simp [eqD]
 | .tup xs,.dct,_=>by simp [eqD]
 | .non,_,h=>by simp [puD] at h
 | .bl _,_,h=>by simp [puD] at h
 | .lst,_,h=>by simp [puD] at h
 | .dct,_,h=>by simp [puD] at h
theorem eqL_iff:∀{xs ys:List D},puL xs=true→(eqL xs ys=true↔xs=ys)
 | [],[],_=>by simp [eqL]
 | [],_::_,_=>by simp [eqL]
 |_::_,[],_=>by simp [eqL]
 |x::r,y::q,h=>by
  have h':puD x=true∧puL r=true:=by simpa [puL] using h
  simp only [eqL,Bool.and_eq_true,eqD_iff h'.1,eqL_iff h'.2,List.cons.injEq]
end
mutual
theorem Is.det {H:Hp}:∀{d e:D}{v:V},puD d=true→puD e=true→Is H d v→Is H e v→d=e
 | .str a,e,v,_,he,h1,h2=>by
  obtain⟨rfl,_⟩:=(show v= .str a∧_ from h1)
  cases e with
  |str b=>obtain⟨q,_⟩:=(show V.str a=V.str b∧_ from h2);cases q;rfl
  |int b=>cases(show V.str a=V.int b from h2)
  |tup ys=>obtain⟨p,us,q,_⟩:=(show∃p us,V.str a=V.ref p∧_ from h2);cases q
  |_=>simp [puD] at he
 | .int a,e,v,_,he,h1,h2=>by
  cases(show v= .int a from h1)
  cases e with
  |str b=>obtain⟨q,_⟩:=(show V.int a=V.str b∧_ from h2);cases q
  |int b=>cases(show V.int a=V.int b from h2);rfl
  |tup ys=>obtain⟨p,us,q,_⟩:=(show∃p us,V.int a=V.ref p∧_ from h2);cases q
  |_=>simp [puD] at he
 | .tup xs,e,v,hd,he,h1,h2=>by
  obtain⟨p,vs,rfl,hp,hl⟩:=(show∃p vs,v=V.ref p∧H p=some (.tup vs)∧IsL H xs vs from h1)
  cases e with
  |str b=>obtain⟨q,_⟩:=(show V.ref p=V.str b∧_ from h2);cases q
  |int b=>cases(show V.ref p=V.int b from h2)
  |tup ys=>
   obtain⟨p',us,q,hp',hl'⟩:=(show∃p' us,V.ref p=V.ref p'∧H p'=some (.tup us)∧IsL H ys us from h2)
   cases q
   rw [hp] at hp'
   cases hp'
   rw [IsL.det (by simpa [puD] using hd) (by simpa [puD] using he) hl hl']
  |_=>simp [puD] at he
 | .non,_,_,hd,_,_,_=>by simp [puD] at hd
 | .bl _,_,_,hd,_,_,_=>by simp [puD] at hd
 | .lst,_,_,hd,_,_,_=>by simp [puD] at hd
 | .dct,_,_,hd,_,_,_=>by simp [puD] at hd
theorem IsL.det {H:Hp}:∀{xs ys:List D}{vs:List V},puL xs=true→puL ys=true→IsL H xs vs→IsL H ys vs→xs=ys
 | [],[],_,_,_,_,_=>rfl
 | [],_::_,_,_,_,h1,h2=>by
  cases(show _= [] from h1)
  obtain⟨v,r,q,_⟩:=(show∃v r,[]=v::r∧_ from h2)
  cases q
 |_::_,[],_,_,_,h1,h2=>by
  cases(show _= [] from h2)
  obtain⟨v,r,q,_⟩:=(show∃v r,[]=v::r∧_ from h1)
  cases q
 |x::xs,y::ys,_,hd,he,h1,h2=>by
  obtain⟨v,r,rfl,a1,a2⟩:=h1
  obtain⟨v',r',q,b1,b2⟩:=h2
  cases q
  have hd':puD x=true∧puL xs=true:=by simpa [puL] using hd
  have he':puD y=true∧puL ys=true:=by simpa [puL] using he
  rw [Is.det hd'.1 he'.1 a1 b1,IsL.det hd'.2 he'.2 a2 b2]
end
theorem eqL_all:∀(xs ys:List D),eqL xs ys=((List.range (min xs.length ys.length)).all (fun j=>eqD (xs.getD j .non) (ys.getD j .non))&&xs.length==ys.length)
 | [],[]=>by simp [eqL]
 | [],_::_=>by simp [eqL]
 |_::_,[]=>by simp [eqL]
 |x::r,y::q=>by
  have ih:=eqL_all r q
  rw [List.length_cons,List.length_cons,show min (r.length+1) (q.length+1)=min r.length q.length+1 by omega,List.range_succ_eq_map,List.all_cons,List.all_map]
  have e:(List.range (min r.length q.length)).all ((fun j=>eqD ((x::r).getD j .non) ((y::q).getD j .non))∘Nat.succ)=(List.range (min r.length q.length)).all fun j=>eqD (r.getD j .non) (q.getD j .non):=by congr 1
  rw [e]
  have e2:(r.length+1==q.length+1)=(r.length==q.length):=by rw [Bool.eq_iff_iff];simp
  rw [e2,Bool.and_assoc,←ih]
  rfl
end L2
namespace L2
open PySem PySem.Spec PyProof.Rows
section
variable {X:Cx}{pins:List (Addr×Obj)}{σ:St}{H:Hp}{s:Shared}
theorem eqAt_str (I:Inv X pins σ H s){z:Str}{t:Tok}{e:D}{u:V}{b:Value}{A:Around}(he:puD e=true)(h2:Is H e u)(r2:RelV u b)(hu:A.units<cLine):SeqAt.EqAt A s (.str z t) b (eqD (.str z) e):=by
 cases e with
 |str y=>
  obtain⟨rfl,_⟩:=(show u= .str y∧_ from h2)
  obtain⟨t2,rfl⟩:=r2
  exact SeqAt.EqAt.str_str _ _ _ _
 |int y=>
  cases(show u= .int y from h2)
  obtain⟨t2,rfl⟩:=r2
  exact SeqAt.EqAt.str_int _ _ _ _
 |tup ys=>
  obtain⟨p,us,rfl,hp,hl⟩:=(show∃p us,u=V.ref p∧H p=some (.tup us)∧IsL H ys us from h2)
  cases r2
  obtain⟨its,_,q,_⟩:=I.tuple (.inl (.of hp))
  exact SeqAt.EqAt.str_tuple _ _ q hu
 |_=>simp [puD] at he
theorem eqAt_int (I:Inv X pins σ H s){z:Int}{t:Tok}{e:D}{u:V}{b:Value}{A:Around}(he:puD e=true)(h2:Is H e u)(r2:RelV u b)(hu:A.units<cLine):SeqAt.EqAt A s (.int z t) b (eqD (.int z) e):=by
 cases e with
 |str y=>
  obtain⟨rfl,_⟩:=(show u= .str y∧_ from h2)
  obtain⟨t2,rfl⟩:=r2
  exact SeqAt.EqAt.int_str _ _ _ _
 |int y=>
  cases(show u= .int y from h2)
  obtain⟨t2,rfl⟩:=r2
  exact SeqAt.EqAt.int_int _ _ _ _
 |tup ys=>
  obtain⟨p,us,rfl,hp,hl⟩:=(show∃p us,u=V.ref p∧H p=some (.tup us)∧IsL H ys us from h2)
  cases r2
  obtain⟨its,_,q,_⟩:=I.tuple (.inl (.of hp))
  exact SeqAt.EqAt.int_tuple _ _ q hu
 |_=>simp [puD] at he
theorem zw:∀{xs:List D}{j:Nat}{x:D},puL xs=true→xs[j]? =some x→puD x=true
 | [],_,_,_,e=>by simp at e
 |y::r,0,x,h,e=>by
  have h':puD y=true∧puL r=true:=by simpa [puL] using h
  have:y=x:=by simpa using e
  exact this▸h'.1
 |y::r,j+1,x,h,e=>by
  have h':puD y=true∧puL r=true:=by simpa [puL] using h
  exact zw h'.2 (by simpa using e)
theorem eqAt_tup (I:Inv X pins σ H s){xs:List D}{e:D}{v u:V}{a b:Value}{A:Around}(hd:puD (.tup xs)=true)(he:puD e=true)(h1:Is H (.tup xs) v)(h2:Is H e u)(r1:RelV v a)(r2:RelV u b)(hu:A.units<cLine)
  (ih:∀x∈xs,∀(e:D) (v u:V) (a b:Value),puD x=true→puD e=true→Is H x v→Is H e u→RelV v a→RelV u b→SeqAt.EqAt A.in1 s a b (eqD x e)):SeqAt.EqAt A s a b (eqD (.tup xs) e):=by
 obtain⟨p,vs,rfl,hp,hl⟩:=(show∃p vs,v=V.ref p∧H p=some (.tup vs)∧IsL H xs vs from h1)
 cases r1
 obtain⟨its,rv,q,_⟩:=I.tuple (.inl (.of hp))
 cases e with
 |str y=>
  obtain⟨rfl,_⟩:=(show u= .str y∧_ from h2)
  obtain⟨t2,rfl⟩:=r2
  exact SeqAt.EqAt.tuple_str _ _ q hu
 |int y=>
  cases(show u= .int y from h2)
  obtain⟨t2,rfl⟩:=r2
  exact SeqAt.EqAt.tuple_int _ _ q hu
 |tup ys=>
  by_cases hv:V.ref p=u
  ·have:=Is.det (e:= .tup ys) hd he h1 (hv▸h2)
   subst hv
   cases r2
   rw [←this,(eqD_iff hd).mpr rfl]
   exact SeqAt.EqAt.same _
  ·obtain⟨p',us,rfl,hp',hl'⟩:=(show∃p' us,u=V.ref p'∧H p'=some (.tup us)∧IsL H ys us from h2)
   cases r2
   obtain⟨its',rv',q',_⟩:=I.tuple (.inl (.of hp'))
   have l1:its.length=xs.length:=by rw [←rv.length,hl.length]
   have l2:its'.length=ys.length:=by rw [←rv'.length,hl'.length]
   have hd':puL xs=true:=by simpa [puD] using hd
   have he':puL ys=true:=by simpa [puD] using he
   have key:=SeqAt.RcAt.tuples (e:=fun j=>eqD (xs.getD j .non) (ys.getD j .non)) q q' hu fun j a1 a2=>by
    have j1:j<xs.length:=by rw [←l1];simpa using a1
    have j2:j<ys.length:=by rw [←l2];simpa using a2
    obtain⟨v1,e1,i1⟩:=hl.get (i:=j) (d:=xs[j]) (by simp [j1])
    obtain⟨v2,e2,i2⟩:=hl'.get (i:=j) (d:=ys[j]) (by simp [j2])
    obtain⟨b1,f1,g1⟩:=rv.get e1
    obtain⟨b2,f2,g2⟩:=rv'.get e2
    have k1:its.toArray[j]=b1:=by
     have:=f1
     rw [List.getElem?_eq_getElem (by rw [l1];exact j1)] at this
     simpa using this
    have k2:its'.toArray[j]=b2:=by
     have:=f2
     rw [List.getElem?_eq_getElem (by rw [l2];exact j2)] at this
     simpa using this
    have d1:xs.getD j .non=xs[j]:=by simp [List.getD,j1]
    have d2:ys.getD j .non=ys[j]:=by simp [List.getD,j2]
    show SeqAt.EqAt _ s _ _ (eqD (xs.getD j .non) (ys.getD j .non))
    rw [k1,k2,d1,d2]
    exact ih _ (List.getElem_mem j1) _ _ _ _ _ (zw (j:=j) hd' (by simp [j1])) (zw (j:=j) he' (by simp [j2])) i1 i2 g1 g2
   have e1:eqD (.tup xs) (.tup ys)=((List.range (min its.toArray.size its'.toArray.size)).all (fun j=>eqD (xs.getD j .non) (ys.getD j .non))&&its.toArray.size==its'.toArray.size):=by
    rw [List.size_toArray,List.size_toArray,l1,l2,←eqL_all]
    simp only [eqD]
   rw [e1]
   exact SeqAt.EqAt.of_refs (fun z=>hv (by rw [z])) key
 |_=>simp [puD] at he
theorem eqAt_D (I:Inv X pins σ H s):∀(n:Nat) (d e:D) (v u:V) (a b:Value) (A:Around),dp d≤n→puD d=true→puD e=true→Is H d v→Is H e u→RelV v a→RelV u b→A.units+n<cLine→SeqAt.EqAt A s a b (eqD d e):=by
 intro n
 induction n with
 |zero=>
  intro d e v u a b A hn hd he h1 h2 r1 r2 hu
  cases d with
  |int z=>
   cases(show v= .int z from h1)
   obtain⟨t,rfl⟩:=r1
   exact eqAt_int I he h2 r2 hu
  |str z=>simp [dp] at hn
  |tup xs=>simp [dp] at hn
  |_=>simp [puD] at hd
 |succ n ih=>
  intro d e v u a b A hn hd he h1 h2 r1 r2 hu
  have hu0:A.units<cLine:=Nat.lt_of_le_of_lt (Nat.le_add_right _ _) hu
  cases d with
  |int z=>
   cases(show v= .int z from h1)
   obtain⟨t,rfl⟩:=r1
   exact eqAt_int I he h2 r2 hu0
  |str z=>
   obtain⟨rfl,_⟩:=(show v= .str z∧_ from h1)
   obtain⟨t,rfl⟩:=r1
   exact eqAt_str I he h2 r2 hu0
  |tup xs=>
   have hm:dpL xs≤n:=by
    have:dp (.tup xs)=1+dpL xs:=by simp only [dp]
    omega
   exact eqAt_tup I hd he h1 h2 r1 r2 hu0 fun x hx e v u a b k1 k2 k3 k4 k5 k6=>ih x e v u a b A.in1 ((JZ xs).mp hm x hx) k1 k2 k3 k4 k5 k6 (by rw [Around.in1_units];omega)
  |_=>simp [puD] at hd
end
end L2
namespace L2
open PySem PySem.Spec PyProof.Rows
section
variable {X:Cx}{pins:List (Addr×Obj)}{σ:St}{H:Hp}{s:Shared}
end
section
variable {X:Cx}
end
end L2
namespace L2
open PySem PySem.Spec PyProof.Rows
section
variable {X:Cx}
def trD:D→Bool
 | .str _=>true
 | .tup xs=>puL xs
 |_=>false
theorem parts_eq {pins:List (Addr×Obj)}{σ:St}{H:Hp}{s:Shared}(I:Inv X pins σ H s){A:Around}{n:Nat}{xs ys:List D}{vs us:List V}{its its':List Value}(hn:dpL xs≤n)(hd:puL xs=true)(he:puL ys=true)(hl:IsL H xs vs)(hl':IsL H ys us)(rv:Vals vs its)(rv':Vals us its')(hu:A.units+n<cLine):
  ∀j (a1:j<its.toArray.size) (a2:j<its'.toArray.size),SeqAt.EqAt A s its.toArray[j] its'.toArray[j] (eqD (xs.getD j .non) (ys.getD j .non)):=fun j a1 a2=>by
 have l1:its.length=xs.length:=by rw [←rv.length,hl.length]
 have l2:its'.length=ys.length:=by rw [←rv'.length,hl'.length]
 have j1:j<xs.length:=by rw [←l1];simpa using a1
 have j2:j<ys.length:=by rw [←l2];simpa using a2
 obtain⟨v1,e1,i1⟩:=hl.get (i:=j) (d:=xs[j]) (by simp [j1])
 obtain⟨v2,e2,i2⟩:=hl'.get (i:=j) (d:=ys[j]) (by simp [j2])
 obtain⟨b1,f1,g1⟩:=rv.get e1
 obtain⟨b2,f2,g2⟩:=rv'.get e2
 have k1:its.toArray[j]=b1:=by
  have:=f1
  rw [List.getElem?_eq_getElem (by rw [l1];exact j1)] at this
  simpa using this
 have k2:its'.toArray[j]=b2:=by
  have:=f2
  rw [List.getElem?_eq_getElem (by rw [l2];exact j2)] at this
  simpa using this
 have d1:xs.getD j .non=xs[j]:=by simp [List.getD,j1]
 have d2:ys.getD j .non=ys[j]:=by simp [List.getD,j2]
 rw [k1,k2,d1,d2]
 exact eqAt_D I n _ _ _ _ _ _ A ((JZ xs).mp hn _ (List.getElem_mem j1)) (zw (j:=j) hd (by simp [j1])) (zw (j:=j) he (by simp [j2])) i1 i2 g1 g2 hu
theorem rc_D {pins:List (Addr×Obj)}{σ:St}{H:Hp}{s:Shared}(I:Inv X pins σ H s){A:Around}{d e:D}{x y:V}{v u:Value}(h1:Is H d x)(h2:Is H e y)(p1:trD d=true)(p2:trD e=true)(hn:dp d≤60)(rx:RelV x v)(ry:RelV y u)(hu:A.units+64<cLine):
  SeqAt.RcAt A s v u (eqD d e)∧SeqAt.RcNeAt A s v u (!eqD d e):=by
 have hu0:A.units<cLine:=by omega
 cases d with
 |str z=>
  obtain⟨rfl,_⟩:=(show x= .str z∧_ from h1)
  obtain⟨t,rfl⟩:=rx
  cases e with
  |str w=>
   obtain⟨rfl,_⟩:=(show y= .str w∧_ from h2)
   obtain⟨t2,rfl⟩:=ry
   exact⟨SeqAt.RcAt.str_str _ _ _ _,SeqAt.RcNeAt.str_str _ _ _ _⟩
  |tup ys=>
   obtain⟨p,us,rfl,hp,hl⟩:=(show∃p us,y=V.ref p∧H p=some (.tup us)∧IsL H ys us from h2)
   cases ry
   obtain⟨its,_,q,_⟩:=I.tuple (.inl (.of hp))
   exact⟨SeqAt.RcAt.str_tuple _ _ q hu0,SeqAt.RcNeAt.str_tuple _ _ q hu0⟩
  |_=>simp [trD] at p2
 |tup xs=>
  obtain⟨p,vs,rfl,hp,hl⟩:=(show∃p vs,x=V.ref p∧H p=some (.tup vs)∧IsL H xs vs from h1)
  cases rx
  obtain⟨its,rv,q,_⟩:=I.tuple (.inl (.of hp))
  cases e with
  |str w=>
   obtain⟨rfl,_⟩:=(show y= .str w∧_ from h2)
   obtain⟨t2,rfl⟩:=ry
   exact⟨SeqAt.RcAt.tuple_str _ _ q hu0,SeqAt.RcNeAt.tuple_str _ _ q hu0⟩
  |tup ys=>
   obtain⟨p',us,rfl,hp',hl'⟩:=(show∃p' us,y=V.ref p'∧H p'=some (.tup us)∧IsL H ys us from h2)
   cases ry
   obtain⟨its',rv',q',_⟩:=I.tuple (.inl (.of hp'))
   have hm:dpL xs≤60:=by
    have:dp (.tup xs)=1+dpL xs:=by simp only [dp]
    omega
   have l1:its.length=xs.length:=by rw [←rv.length,hl.length]
   have l2:its'.length=ys.length:=by rw [←rv'.length,hl'.length]
   have pe:=parts_eq I (A:=A.in1) hm (by simpa [trD] using p1) (by simpa [trD] using p2) hl hl' rv rv' (by rw [Around.in1_units];omega)
   have e1:eqD (.tup xs) (.tup ys)=((List.range (min its.toArray.size its'.toArray.size)).all (fun j=>eqD (xs.getD j .non) (ys.getD j .non))&&its.toArray.size==its'.toArray.size):=by
    rw [List.size_toArray,List.size_toArray,l1,l2,←eqL_all]
    simp only [eqD]
   rw [e1]
   exact⟨SeqAt.RcAt.tuples q q' hu0 pe,SeqAt.RcNeAt.tuples q q' hu0 pe⟩
  |_=>simp [trD] at p2
 |_=>simp [trD] at p1
def rCmpD (g:Bool→Bool):V→V→Hp→VK→Prop:=fun x y H Q=>∃d e:D,Is H d x∧Is H e y∧trD d=true∧trD e=true∧dp d≤60∧Q (.bl (g (eqD d e))) H
theorem op_eqD (hu:X.A.units+64<cLine):OpR X (compareOp .Eq) (rCmpD id):=by
 intro pins s σ H x y v u Q I rx ry h
 obtain⟨d,e,h1,h2,p1,p2,hn,q⟩:=h
 exact(rc_D I h1 h2 p1 p2 hn rx ry hu).1 X.prog X.w X.xe _ ⟨.bl _,H,I,rfl,q⟩
end
end L2
namespace L2
open PySem PySem.Spec PyProof.Rows
section
variable {X:Cx}
end
end L2
namespace L2
open PySem PySem.Spec PyProof.Rows
theorem yh {X:Cx}:jW X (.builtin "len") (fun xs H Q=>(∃z:Str,xs= [.str z]∧z.length≤sizeLine∧Q (.int z.length) H)∨∃p ys,xs= [.ref p]∧(SqL X.K H p ys∨SqT X.K H p ys)∧(ys.length≤sizeLine→Q (.int ys.length) H)):=by
 intro pins s σ H xs us Q I r h
 rcases h with⟨z,e,hz,q⟩|h
 ·exact zj pins s σ H xs us Q I r ⟨_,z.length,e,⟨hz,rfl⟩,q⟩
 ·exact call_lenB pins s σ H xs us Q I r h
end L2
namespace L2
open PySem PySem.Spec PyProof.Rows
end L2
namespace L2
open PySem PySem.Spec PyProof.Rows
end L2
namespace L2
open PySem PySem.Spec PyProof.Rows
end L2
namespace L2
open PySem PyProof.Rows
theorem Tk.updD {H:Hp}{p:Addr}{xs ys:List (Key×V)}(h:H p=some (.dK xs)):Tk H (upd H p (.dK ys)):=by
 refine⟨fun b zs e=> ?_,fun b zs e=>⟨zs,?_⟩,fun b zs e=> ?_⟩
 ·rw [qu (fun z=>by rw [z,h] at e;cases e)];exact e
 ·rw [qu (fun z=>by rw [z,h] at e;cases e)];exact e
 ·by_cases z:b=p
  ·exact⟨ys,by rw [z];exact qf⟩
  ·exact⟨zs,by rw [qu z];exact e⟩
theorem Tk.updI {H:Hp}{p C dx C' dx':Addr}{xs ys:List (Str×V)}(h:H p=some (.ins C dx xs)):Tk H (upd H p (.ins C' dx' ys)):=
 ⟨fun b zs e=>by rw [qu (fun z=>by rw [z,h] at e;cases e)];exact e,fun b zs e=>⟨zs,by rw [qu (fun z=>by rw [z,h] at e;cases e)];exact e⟩,fun b zs e=>⟨zs,by rw [qu (fun z=>by rw [z,h] at e;cases e)];exact e⟩⟩
section
variable {X:Cx}
end
end L2
namespace L2
open PySem PyProof.Rows
section
variable {X:Cx}{K:PySem.W.Frag}{o e:Expr}{es:List Expr}{to:TE}{t:TA}{name:Str}{apos cpos:Pos}{T id:String}{r:V→List V→Hp→VK→Prop}
end
end L2
namespace L2
open PySem PyProof.Rows
section
variable {X:Cx}
end
section
variable {prog:Program}{w:World}{A:Around}{E:Value→Shared→Prop}{s:Shared}
end
end L2
namespace L2
open PySem PyProof.Rows
section
variable {X:Cx}{pins:List (Addr×Obj)}{σ:St}{H:Hp}{s:Shared}
end
end L2
namespace L2
open PySem PyProof.Rows
section
variable {prog:Program}{w:World}{A:Around}{E:Value→Shared→Prop}{s:Shared}
end
section
variable {X:Cx}
end
end L2
namespace L2
open PySem PyProof.Rows
def okHd:D→Bool
 | .non=>true
 |d=>trD d
section
variable {X:Cx}
def rEqM:V→V→Hp→VK→Prop:=fun x y H Q=>∃(d:D) (z:Str),Is H d x∧y= .str z∧z.length≤1000∧okHd d=true∧dp d≤60∧Q (.bl (eqD d (.str z))) H
theorem op_eqM (hu:X.A.units+64<cLine):OpR X (compareOp .Eq) rEqM:=by
 intro pins s σ H x y v u Q I rx ry h
 obtain⟨d,z,hd,rfl,hz,hk,hp,q⟩:=h
 cases d with
 |non=>
  cases(show x= .non from hd)
  exact QL pins s σ H .non (.str z) v u Q I rx ry ⟨rfl,by simpa [eqD] using q⟩
 |str a=>exact op_eqD hu pins s σ H x _ v u Q I rx ry ⟨_,.str z,hd,⟨rfl,by rw [sizeLine_eq];omega⟩,hk,rfl,hp,q⟩
 |tup a=>exact op_eqD hu pins s σ H x _ v u Q I rx ry ⟨_,.str z,hd,⟨rfl,by rw [sizeLine_eq];omega⟩,hk,rfl,hp,q⟩
 |_=>simp [okHd,trD] at hk
end
end L2
namespace L2
open PySem PyProof.Rows
section
variable {X:Cx}{pins:List (Addr×Obj)}{σ:St}{H:Hp}{s:Shared}
end
end L2
namespace L2
open PySem PyProof.Rows
section
variable {X:Cx}{pins:List (Addr×Obj)}{σ:St}{H:Hp}{s:Shared}
end
end L2
namespace L2
open PySem PySem.Spec PyProof.Rows Builtin Builtin.Str
def tCallX (P:Program)(w:World)(K:PySem.W.Frag)(mg:Str→Option Value)(base:Heap)(k:Nat)(tf:TE)(t:TA):TE:=fun σ H Q=>tf σ H fun v H1=>∃(f:Addr) (fd:FuncData) (ps:List Str) (sp:Sp),v= .ref f∧
 FnOk P w K mg base CX0 k f fd ps sp∧qR K fd ps []∧PySem.W.keepIn K (.ref f)=true∧t σ H1 fun vs H2=>sp vs H2 Q E0
theorem pe_callX {X:Cx}{o i e:Expr}{es:List Expr}{ip pos:Pos}{tf:TE}{t:TA}{k:Nat}{P:Program}{w:World}{K:PySem.W.Frag}{mg:Str→Option Value}{base:Heap}(e1:X.prog=P∧X.w=w∧X.K=K∧X.mg=mg∧X.base=base)(hf:PE X (.Subscript o i ip) tf)(hr:Room k X.A)(ha:PA X (e::es) t)
  (he:starEach (e::es) X.env=(false,eval e X.env)::starEach es X.env:=by rfl) (hpl:(backTo pos (starEach es X.env)).any (·.1)=false:=by rfl):
  PE X (.Call (.Subscript o i ip) (e::es) [] pos) (tCallX P w K mg base k tf t):=by
 obtain⟨rfl,rfl,rfl,rfl,rfl⟩:=e1
 intro pins s σ H Q I h
 show wpAny _ _ (do callWith pos (←eval (.Subscript o i ip) X.env) [] (backTo pos (starEach (e::es) X.env)) (backToKw pos (keywordEach [] X.env))) _ _ s
 refine wpAny_bind (thn (hf pins s σ H _ I h) fun u s1 ⟨v,H1,I1,rv,f,fd,ps,sp,ev,F,hb,hk,q⟩=> ?_)
 subst ev
 obtain rfl:u=Value.ref f:=rv
 refine PySem.W.callWith_K (h₀:=X.base) I1.ok.mod.kin hk (thn (ha pos pins s1 σ H1 _ I1 q) fun us s2 ⟨vs,H2,I2,r,q2⟩=>⟨I2.kIn,?_⟩) he hpl
 exact run_fn (ds:= []) (dvs:= []) F hr hb .nil qQ I2 r (by rw [List.append_nil];exact q2)
theorem Wn (z y:Str)(hi limit:Nat):∀(l:List Nat) (st:Array Nat×Nat),(forIn l st (StrLaws.occBody z y hi limit)).run.fst.size≤st.fst.size+l.length
 | [],st=>Nat.le_refl _
 |a::l,st=>by
  rw [List.forIn_cons]
  unfold StrLaws.occBody
  split
  ·refine Nat.le_trans (Wn z y hi limit l _) ?_
   simp only [Array.size_push,List.length_cons]
   omega
  ·refine Nat.le_trans (Wn z y hi limit l _) ?_
   simp only [List.length_cons]
   omega
theorem occ_len (z y:Str)(n:Nat):(occurrences z y 0 z.length n).length≤z.length+1:=by
 rw [StrLaws.occ_eq]
 have:=Wn z y z.length n (List.range' 0 (z.length+1-0)) (#[],0)
 rw [Array.length_toList]
 refine Nat.le_trans this ?_
 simp
def spG (z y:Str):List Str:=if(decide (z.length<y.length)||decide (Builtin.Str.strKind z<Builtin.Str.strKind y))=true then [z] else if(occurrences z y 0 z.length (z.length+1)).isEmpty=true then [z] else partsBetween z (occurrences z y 0 z.length (z.length+1)) y.length
theorem spG_len (z y:Str):(spG z y).length≤z.length+2:=by
 unfold spG
 have h:=occ_len z y (z.length+1)
 split
 ·simp
 ·split
  ·simp
  ·simp only [partsBetween,List.length_map,List.length_zip,List.length_cons,List.length_append,List.length_nil]
   omega
theorem spG_mem {z y p:Str}(h:p∈spG z y):p.length≤z.length:=by
 unfold spG at h
 split at h
 ·rw [List.mem_singleton] at h;subst h;exact Nat.le_refl _
 ·split at h
  ·rw [List.mem_singleton] at h;subst h;exact Nat.le_refl _
  ·simp only [partsBetween,List.mem_map] at h
   obtain⟨q,_,e⟩:=h
   rw [←e]
   exact strSub_length_le _ _ _
section
variable {X:Cx}
def rSplitG:V→List V→Hp→VK→Prop:=fun x vs H Q=>∃z y,x= .str z∧vs= [.str y]∧0<y.length∧z.length≤1000∧∀p,H p=none→Q (.ref p) (upd H p (.lst ((spG z y).map V.str)))
theorem mt_splitG:MtM X "str.split" rSplitG:=by
 intro pins s σ H x vs v us Q I rx rv h
 obtain⟨z,y,rfl,rfl,hy,hz,q⟩:=h
 obtain⟨t,rfl⟩:=rx
 obtain⟨u,rfl,t',rfl⟩:=rv.one
 have hz':z.length≤sizeLine:=by rw [sizeLine_eq];omega
 have hy':(y.length==0)=false:=by simp;omega
 have one:spG z y= [z]→∀(T:Nat),0<T→EP X pins σ Q (.ref s.heap.objs.size) {s with heap:=s.heap.push {cls:= .type "list",data:= .seq [Value.str z t].toArray},toks:=T}:=fun e T hT=>by
  rw [e] at q
  exact JN (ys:= [V.str z]) I (.cons (show RelV (V.str z) _ from⟨t,rfl⟩) .nil) (by show 1≤sizeLine;decide) q
 cases h1:(decide (z.length<y.length)||decide (Builtin.Str.strKind z<Builtin.Str.strKind y)) with
 |true=>
  refine call_meets F.slot_str_split (typeIs_str _ _ _) F.entry_str_split (F.args_str_split_2 _ _) (meets_str_split_cannot_occur z y t t' h1) ?_
  exact one (by unfold spG;rw [if_pos h1]) s.toks I.tk
 |false=>
  cases hf:(occurrences z y 0 z.length (z.length+1)).isEmpty with
  |true=>
   refine call_meets F.slot_str_split (typeIs_str _ _ _) F.entry_str_split (F.args_str_split_2 _ _) (meets_str_split_not_found z y t t' h1 hy' hf) ?_
   exact one (by unfold spG;rw [if_neg (by rw [h1];decide),if_pos hf]) s.toks I.tk
  |false=>
   have hl:=spG_len z y
   have e:spG z y=partsBetween z (occurrences z y 0 z.length (z.length+1)) y.length:=by unfold spG;rw [if_neg (by rw [h1];decide),if_neg (by rw [hf];decide)]
   rw [e] at q hl
   refine call_meets F.slot_str_split (typeIs_str _ _ _) F.entry_str_split (F.args_str_split_2 _ _) (meets_str_split_sep z y t t' h1 hy' hf hz' (by rw [sizeLine_eq];omega)) ?_
   exact JN I (xS _ _) (by rw [List.length_map,sizeLine_eq];omega) q
def rJoinT (K:PySem.W.Frag):V→List V→Hp→VK→Prop:=fun x vs H Q=>∃(sep:Str) (p:Addr) (l:List Str),x= .str sep∧vs= [.ref p]∧SqT K H p (l.map V.str)∧(l.map (·.length)).sum+l.length*sep.length≤1000000∧Q (.str (Str.join sep l)) H
theorem mt_joinT:MtM X "str.join" (rJoinT X.K):=by
 intro pins s σ H x vs v us Q I rx rv h
 obtain⟨sep,p,l,rfl,rfl,hp,hz,q⟩:=h
 obtain⟨t,rfl⟩:=rx
 obtain⟨u,rfl,ru⟩:=rv.one
 cases ru
 obtain⟨its,r,pl,hl⟩:=I.tuple hp
 obtain⟨ps,rfl,e2⟩:=vals_strs r
 have hlong:tooLong ((ps.map (·.1)).toArray.foldl (·+ ·.length+sep.length) 0)=false:=by
  rw [e2]
  have:=StrLaws.joinTotal sep l
  rw [this]
  unfold tooLong
  refine decide_eq_false ?_
  rw [sizeLine_eq]
  omega
 refine call_meets F.slot_str_join (typeIs_str _ _ _) F.entry_str_join (F.args_str_join_2 _ _) (meets_str_join_tuple sep t p ps hlong) ⟨(let⟨o,h1,h2,n,h3⟩:=pl;⟨o,n,h1,h2,h3⟩),?_⟩
 have hfit:(glued sep (ps.map (·.1))).length≤sizeLine:=joinFit_length hlong
 match ps,e2,hfit with
 | [],e2,hfit=>
  subst e2
  exact⟨hfit,.str _,H,I.tok _,⟨_,rfl⟩,q⟩
 | [a],e2,_=>
  subst e2
  exact⟨.str _,H,I,⟨a.2,rfl⟩,q⟩
 |a::b::r,e2,hfit=>
  subst e2
  refine⟨hfit,.str _,H,I.tok _,⟨_,rfl⟩,?_⟩
  rw [StrLaws.glued_eq_join]
  exact q
theorem sl_any:SlR X (fun x lo hi H Q=>rSlS x lo hi H Q∨rSlG X.K x lo hi H Q):=sl_str.or sl_tupG
end
end L2
namespace L2
open PySem PySem.Spec PyProof.Rows
open Builtin.Int (intBits)
theorem zD:∀(ns:List Int) (x:Int),x∈ns→PySem.W.WData.weight (.int x)≤PySem.W.WData.weightAll (ns.map PySem.W.WData.int)
 |n::ns,x,h=>by
  rw [List.map_cons]
  unfold PySem.W.WData.weightAll
  rcases List.mem_cons.mp h with rfl|h
  ·omega
  ·have:=zD ns x h
   omega
theorem zR {ns:List Int}(h:PySem.W.WData.layableAll [PySem.W.WData.list (ns.map PySem.W.WData.int)]=true){x:Int}(hx:x∈ns):intBits x≤1048576:=by
 have h1:PySem.W.WData.layable (PySem.W.WData.list (ns.map PySem.W.WData.int))=true:=by
  unfold PySem.W.WData.layableAll at h
  simpa using h
 unfold PySem.W.WData.layable at h1
 rw [Bool.and_eq_true] at h1
 have h2:PySem.W.WData.weight (PySem.W.WData.list (ns.map PySem.W.WData.int))≤2^20:=of_decide_eq_true h1.2
 unfold PySem.W.WData.weight at h2
 have h3:=zD ns x hx
 unfold PySem.W.WData.weight at h3
 have h4:intBits x=if(x==0)=true then 0 else x.natAbs.log2+1:=by
  unfold intBits
  simp
 rw [h4]
 omega
end L2
namespace Att
open PySem PySem.W PySem.Calls PyProof.Rows
open Builtin.Int (intBits)
open L2 (zR)
theorem attach_callB {l:OpenLaw}{n:Nat}{q:Program}{loose:List Str}{XP:(Str→Option Value)→Heap→Prop}{YP:World→Heap→Prop}{d:DefRec}
  (hn:l.most=some n) (hdf:d.params.defaults= [])
  (call:∀(w:World) (s₀ s₁:Shared) (mg mb:Str→Option Value) (fa:Addr) (o:Obj) (pm cd doc:Value) (a:Addr) (vs:List Value) (ns:List Int),
   Ground q loose [] XP w s₀ mg mb s₁.heap→YP w s₁.heap→
   s₁.heap.get? fa=some o→o.data= .func (docDef d.name d.params d.body d.scope pm cd doc)→s₁.heap.CodeRec cd d.name→mg d.name=some (.ref fa)→
   s₁.heap.get? a=some {cls:= .type "list",data:= .seq vs.toArray}→IntsAre vs ns→ns.length≤n→(∀x∈ns,intBits x≤1048576)→s₁.gens= #[]→
   codeAny (model l.prog w) callerA (.call (.ref fa) ⟨[.ref a],[]⟩) (fun r s'=>r= .ok (.ret (.bool true))∧OldK s₁.heap s'.heap∧s'.os=s₁.os∧AllBare s'.gens) s₁):
  WalkO q loose XP YP l.row.toRowW d [] (fun f vs=>PySem.call f vs):=by
 intro w s₀ s₁ mg mb G Y fa o pm cd doc dV kV ho hd hcd hD hmg hg args vals as hpre hlay hrd hwl hlo
 obtain rfl:dV= .none:=Dflts.none hD hdf
 obtain rfl:kV= .none:=Dflts.noKw hD
 obtain⟨a,vs,ns,rfl,rfl,hobj,hints,hlen⟩:=script_of hn hpre hwl
 refine enter_call (codeAny_mono (call w s₀ s₁ mg mb fa o pm cd doc a vs ns G Y ho (fd_plain hd) hcd hmg hobj hints hlen (fun x hx=>zR hlay hx) hg) fun r s' hq=> ?_)
 obtain⟨rfl,h2,h3,h4⟩:=hq
 exact⟨.inl ⟨.bool true,.bool true,[],rfl,fun _=>rfl,.bool true,post_true l _,fun _=>⟨List.Pairwise.nil,fun _ hm=>(nomatch hm)⟩⟩,h2,h3,h4⟩
end Att
namespace L2
open PySem PySem.Spec PyProof.Rows
open Builtin.Int (intBits)
theorem walk_ofB {l:PySem.W.OpenLaw}{n k:Nat}{q:Program}{loose:List Str}{XP:(Str→Option Value)→Heap→Prop}{YP:World→Heap→Prop}{d:DefRec}{K:Params→PySem.W.Frag}{CX:CXT}{sp:PySem.W.Frag→Sp}{x:Str}
  (hn:l.most=some n) (hn2:n≤sizeLine) (hdf:d.params.defaults= []) (hr:Room k callerA)
  (hY:∀(w:World) (h:Heap),YP w h→(K w.params).In h)
  (F:∀(w:World) (mg:Str→Option Value) (fa:Addr) (h:Heap),(K w.params).In h→h.Ns mainGlobals mg→mg d.name=some (.ref fa)→
   ∃fd:FuncData,(∀(s:Shared) (u:Value),BindsTo s fd ⟨[u],[]⟩ [(x,u)])∧fd.scope.names.lookup x=some .local∧
    ∀base:Heap,(K w.params).In base→base.Ns mainGlobals mg→FnOk l.prog w (K w.params) mg base CX k fa fd [x] (sp (K w.params)))
  (hsp:∀(w:World) (H:Hp) (a:Addr) (ns:List Int),ns.length≤n→(∀x∈ns,intBits x≤1048576)→Only H→SqL (K w.params) H a (ns.map V.int)→sp (K w.params) [.ref a] H (fun v _=>v= .bl true) fun _ _ _=>False)
  (hCX:∀(H:Hp) (s:Shared) (e:Value) (s':Shared),CX [] H s (fun _ _ _=>False) e s'→False):
  PySem.W.WalkO q loose XP YP l.row.toRowW d [] (fun f vs=>PySem.call f vs):=by
 refine Att.attach_callB hn hdf fun w s₀ s₁ mg mb fa o pm cd doc a vs ns G Y ho hd hcd hmg hobj hints hlen hbit hg=> ?_
 have KX:=hY w _ Y
 obtain⟨fd,hb,hloc,hF⟩:=F w mg fa _ KX G.T.g hmg
 exact law_call KX G.T.g G.T.b G.T.builtins G.T.nolimit hg hobj hints (Nat.le_trans hlen hn2) hr hF hb hloc (fun H hO hS=>hsp w H a ns hlen hbit hO hS) fun H e s'=>hCX H s₁ e s'
section
variable {X:Cx}
def rInK (K:PySem.W.Frag)(w:World):R2:=fun x y H Q=>∃z a r,x= .str z∧y= .ref a∧KDict K w a∧PySem.W.nsIn K a z=some r∧Q (.bl r.isSome) H
theorem op_inK:OpR X (compareOp .In) (rInK X.K X.w):=by
 intro pins s σ H x y v u Q I rx ry h
 obtain⟨z,a,r,rfl,rfl,⟨hs,es,n,hl,hk⟩,hn,q⟩:=h
 obtain⟨t,rfl⟩:=rx
 cases ry
 have hm:=PySem.W.mapOf_K (prog:=X.prog) (w:=X.w) I.kIn hl hk
 refine wpAny_in_of (strKind_is X.prog X.w z t) hs hm ⟨.bl r.isSome,H,I.tok _,?_,q⟩
 rw [PySem.W.find_K hl hn]
 rfl
end
end L2
namespace L2
open PySem PySem.Spec PyProof.Rows
section
variable {X:Cx}
theorem op_le_str:OpR X (compareOp .LtE) (fun x y H Q=>∃i j,x= .str i∧y= .str j∧Q (.bl (!decide (j.cps.toList<i.cps.toList))) H):=by
 intro pins s σ H x y v u Q I rx ry h
 obtain⟨i,j,rfl,rfl,q⟩:=h
 obtain⟨t,rfl⟩:=rx
 obtain⟨t',rfl⟩:=ry
 exact PySem.P.le_str (qY I q rfl)
theorem call_maxL (hc:X.calm=true):jW X (.builtin "max") (fun xs H Q=>∃(p:Addr) (ns:List Int),xs= [.ref p]∧SqL X.K H p (ns.map V.int)∧ns≠ []∧∀M,M∈ns→(∀x∈ns,x≤M)→Q (.int M) H):=by
 intro pins s σ H xs us Q I r h
 obtain⟨p,ns,rfl,hp,hne,q⟩:=h
 obtain⟨u,rfl,ru⟩:=xM r
 cases ru
 obtain⟨its,rv,pl,hz⟩:=I.list hp
 have hi:IntsAre its ns:=ZW rv
 obtain⟨ys,hy⟩:=hi.allInts.items
 have hl':s.heap.IsList p (intItems ys):=hy▸pl.isList
 have e1:ns=ys.toList.map (·.1):=by
  have q1:=hi.numsOf
  rw [←nums_intItems,←hy]
  exact(show numsOf its.toArray.toList=ns from q1).symm
 have hsz:0<ys.size:=by
  rcases Nat.eq_zero_or_pos ys.size with h|h
  ·exact absurd (by rw [e1,List.eq_nil_of_length_eq_zero (l:=ys.toList) (by simpa using h)];rfl) hne
  ·exact h
 refine wpAny_with_toks (n:=1) I.tk (max_intList (I.ok.hd hc) hl' hsz fun v h' tk hv hk=> ?_)
 intro htk
 obtain⟨t,rfl⟩:=intItems_at hv
 obtain⟨h1,h2⟩:=argBest_gt (numAt ys) (ys.size-1)
 refine⟨.int _,H,I.kept hk,⟨t,rfl⟩,q _ ?_ fun a ha=> ?_⟩
 ·rw [e1,numAt_eq]
  exact getD_mem (by rw [List.length_map,Array.length_toList];omega)
 ·rw [e1] at ha
  obtain⟨j,hj,rfl⟩:=mem_getD ha
  rw [List.length_map,Array.length_toList] at hj
  rw [←numAt_eq]
  exact h2 j (by omega)
end
end L2
namespace L2
open PySem PySem.Spec PyProof.Rows Builtin Builtin.Str
section
variable {X:Cx}
end
end L2
namespace L2
open PySem PySem.Spec PyProof.Rows Builtin Builtin.Str
section
variable {X:Cx}
end
end L2
namespace L2
open PySem PySem.Spec PyProof.Rows
mutual
def nD:D→Bool
 | .non=>true
 | .str _=>true
 | .int _=>true
 | .tup xs=>nL xs
 |_=>false
def nL:List D→Bool
 | []=>true
 |x::r=>nD x&&nL r
end
theorem nL_get:∀{xs:List D}{j:Nat}{x:D},nL xs=true→xs[j]? =some x→nD x=true
 | [],_,_,_,e=>by simp at e
 |y::r,0,x,h,e=>by
  have h':nD y=true∧nL r=true:=by simpa [nL] using h
  have:y=x:=by simpa using e
  exact this▸h'.1
 |y::r,j+1,x,h,e=>by
  have h':nD y=true∧nL r=true:=by simpa [nL] using h
  exact nL_get h'.2 (by simpa using e)
section
variable {X:Cx}{pins:List (Addr×Obj)}{σ:St}{H:Hp}{s:Shared}
theorem parts_R {xs:List D}{vs us:List V}{its its':List Value}{A:Around}(hd:nL xs=true)(hl:IsL H xs vs)(hl':IsL H xs us)(rv:Vals vs its)(rv':Vals us its')
  (ih:∀x∈xs,∀(v u:V) (a b:Value),nD x=true→Is H x v→Is H x u→RelV v a→RelV u b→SeqAt.EqAt A s a b true):
  ∀j (a1:j<its.toArray.size) (a2:j<its'.toArray.size),SeqAt.EqAt A s its.toArray[j] its'.toArray[j] true:=fun j a1 a2=>by
 have l1:its.length=xs.length:=by rw [←rv.length,hl.length]
 have l2:its'.length=xs.length:=by rw [←rv'.length,hl'.length]
 have j1:j<xs.length:=by rw [←l1];simpa using a1
 obtain⟨v1,e1,i1⟩:=hl.get (i:=j) (d:=xs[j]) (by simp [j1])
 obtain⟨v2,e2,i2⟩:=hl'.get (i:=j) (d:=xs[j]) (by simp [j1])
 obtain⟨b1,f1,g1⟩:=rv.get e1
 obtain⟨b2,f2,g2⟩:=rv'.get e2
 have k1:its.toArray[j]=b1:=by
  have:=f1
  rw [List.getElem?_eq_getElem (by rw [l1];exact j1)] at this
  simpa using this
 have k2:its'.toArray[j]=b2:=by
  have:=f2
  rw [List.getElem?_eq_getElem (by rw [l2];exact j1)] at this
  simpa using this
 rw [k1,k2]
 exact ih _ (List.getElem_mem j1) _ _ _ _ (nL_get (j:=j) hd (by simp [j1])) i1 i2 g1 g2
theorem all_true (n:Nat):(List.range n).all (fun _=>true)=true:=by simp
theorem eqAt_R (I:Inv X pins σ H s):∀(n:Nat) (d:D) (v u:V) (a b:Value) (A:Around),dp d≤n→nD d=true→Is H d v→Is H d u→RelV v a→RelV u b→A.units+n<cLine→SeqAt.EqAt A s a b true:=by
 intro n
 induction n with
 |zero=>
  intro d v u a b A hn hd h1 h2 r1 r2 hu
  cases d with
  |int z=>
   cases(show v= .int z from h1)
   cases(show u= .int z from h2)
   obtain⟨t,rfl⟩:=r1
   obtain⟨t',rfl⟩:=r2
   have:=SeqAt.EqAt.int_int (A:=A) (s:=s) z t z t'
   simpa using this
  |non=>
   cases(show v= .non from h1)
   cases(show u= .non from h2)
   cases r1
   cases r2
   exact SeqAt.EqAt.same _
  |str z=>simp [dp] at hn
  |tup xs=>simp [dp] at hn
  |_=>simp [nD] at hd
 |succ n ih=>
  intro d v u a b A hn hd h1 h2 r1 r2 hu
  have hu0:A.units<cLine:=Nat.lt_of_le_of_lt (Nat.le_add_right _ _) hu
  cases d with
  |int z=>exact ih (.int z) v u a b A (Nat.zero_le _) hd h1 h2 r1 r2 (by omega)
  |non=>exact ih .non v u a b A (Nat.zero_le _) hd h1 h2 r1 r2 (by omega)
  |str z=>
   obtain⟨rfl,_⟩:=(show v= .str z∧_ from h1)
   obtain⟨rfl,_⟩:=(show u= .str z∧_ from h2)
   obtain⟨t,rfl⟩:=r1
   obtain⟨t',rfl⟩:=r2
   have:=SeqAt.EqAt.str_str (A:=A) (s:=s) z t z t'
   simpa using this
  |tup xs=>
   have hm:dpL xs≤n:=by
    have:dp (.tup xs)=1+dpL xs:=by simp only [dp]
    omega
   obtain⟨p,vs,rfl,hp,hl⟩:=(show∃p vs,v=V.ref p∧H p=some (.tup vs)∧IsL H xs vs from h1)
   obtain⟨p',us,rfl,hp',hl'⟩:=(show∃p vs,u=V.ref p∧H p=some (.tup vs)∧IsL H xs vs from h2)
   cases r1
   cases r2
   by_cases hv:p=p'
   ·subst hv
    exact SeqAt.EqAt.same _
   ·obtain⟨its,rv,q,_⟩:=I.tuple (.inl (.of hp))
    obtain⟨its',rv',q',_⟩:=I.tuple (.inl (.of hp'))
    have l1:its.length=xs.length:=by rw [←rv.length,hl.length]
    have l2:its'.length=xs.length:=by rw [←rv'.length,hl'.length]
    have key:=SeqAt.RcAt.tuples (e:=fun _=>true) q q' hu0 (parts_R (by simpa [nD] using hd) hl hl' rv rv' fun x hx v u a b k1 k3 k4 k5 k6=>ih x v u a b A.in1 ((JZ xs).mp hm x hx) k1 k3 k4 k5 k6 (by rw [Around.in1_units];omega))
    rw [all_true,List.size_toArray,List.size_toArray,l1,l2] at key
    exact SeqAt.EqAt.of_refs hv (by simpa using key)
  |_=>simp [nD] at hd
theorem op_neLR (hu:X.A.units+64<cLine):OpR X (compareOp .NotEq) (fun x y H Q=>∃(l m:Addr) (vs us:List V) (ds:List D),x= .ref l∧y= .ref m∧SqL X.K H l vs∧SqL X.K H m us∧IsL H ds vs∧IsL H ds us∧nL ds=true∧dpL ds≤60∧Q (.bl false) H):=by
 intro pins s σ H x y v u Q I rx ry h
 obtain⟨l,m,vs,us,ds,rfl,rfl,hl,hm,il,im,hn,hd,q⟩:=h
 cases rx
 cases ry
 obtain⟨its,rv,pl,_⟩:=I.list hl
 obtain⟨its',rv',pl',_⟩:=I.list hm
 have l1:its.length=ds.length:=by rw [←rv.length,il.length]
 have l2:its'.length=ds.length:=by rw [←rv'.length,im.length]
 have key:=parts_R hn il im rv rv' fun x hx v u a b k1 k3 k4 k5 k6=>eqAt_R I 60 x v u a b X.A.in1 ((JZ ds).mp hd x hx) k1 k3 k4 k5 k6 (by rw [Around.in1_units];omega)
 refine SeqAt.RcNeAt.lists (e:=fun _=>true) pl.isList pl'.isList (by rw [List.size_toArray,List.size_toArray,l1,l2]) (by omega) key X.prog X.w X.xe _ ⟨.bl false,H,I,?_,q⟩
 rw [all_true]
 rfl
end
end L2
namespace K13
open PySem L2 PyProof.Rows
open Builtin.Int (intBits)
def top (i:Nat):Stmt:=PySem.Challenge.pw_askwright_k13_where_runs_must_end.main.body.getD i (.Pass ⟨0,0,0,0⟩)
abbrev jH:Stmt:=top 15
abbrev YY:Stmt:=top 16
abbrev jw:Stmt:=top 17
abbrev Qr:Stmt:=top 19
abbrev yT:Stmt:=top 20
abbrev jC:Stmt:=top 26
abbrev Yc:Stmt:=top 27
abbrev jO:Stmt:=top 28
abbrev yt:Stmt:=top 29
abbrev yR:Stmt:=top 30
abbrev y6:Stmt:=top 33
abbrev y9:Stmt:=top 34
abbrev yY:Stmt:=top 35
abbrev YH:Stmt:=top 36
abbrev YM:Stmt:=top 37
abbrev yS:Stmt:=top 38
abbrev yr:Stmt:=top 39
abbrev y8:Stmt:=top 40
abbrev y7:Stmt:=top 41
abbrev YO:Stmt:=top 42
abbrev yX:Stmt:=top 43
abbrev QH:Stmt:=top 45
abbrev Qx:Stmt:=top 46
abbrev QQ:Stmt:=j7 (top 47) 0
abbrev Q5:Stmt:=j7 (top 47) 1
abbrev Qz:Stmt:=j7 (top 47) 2
abbrev QJ:Stmt:=j7 (top 47) 3
abbrev QF:Stmt:=j7 (top 47) 4
abbrev QG:Stmt:=j7 (top 47) 6
abbrev qW:Stmt:=j7 (top 47) 7
abbrev Qy:Stmt:=j7 (top 47) 8
abbrev QR:Stmt:=j7 (top 47) 9
abbrev Q3:Stmt:=top 49
abbrev ju:Stmt:=top 50
abbrev YR:Stmt:=top 51
abbrev Qp:Stmt:=top 52
abbrev YL:Stmt:=top 53
abbrev Ya:Stmt:=top 54
abbrev Q1:Stmt:=top 55
abbrev Q7:Stmt:=top 56
abbrev YQ:Stmt:=top 57
abbrev Qf:Stmt:=top 58
abbrev YT:Stmt:=top 59
abbrev jB:Stmt:=top 60
abbrev JT:Stmt:=top 61
abbrev YN:Stmt:=top 62
abbrev QK:Stmt:=top 63
abbrev QS:Stmt:=top 64
abbrev YJ:Stmt:=top 65
abbrev Yb:Stmt:=top 66
abbrev yq:Stmt:=top 67
abbrev YK:Stmt:=top 68
abbrev yw:Stmt:=top 69
abbrev Q9:Stmt:=top 70
abbrev Yg:Stmt:=top 71
abbrev yQ:Stmt:=top 72
abbrev s_law:Stmt:=top 73
structure Ad where
 Jn:Addr
 Ji:FuncData
 jF:Addr
 jy:FuncData
 jJ:Addr
 jD:FuncData
 Q2:Addr
 Q6:FuncData
 jL:Addr
 jU:FuncData
 xu:Addr
 xv:FuncData
 jY:Addr
 j6:FuncData
 zd:Addr
 X7:FuncData
 jl:Addr
 jd:FuncData
 jN:Addr
 j0:FuncData
 Y3:Addr
 J0:FuncData
 Y7:Addr
 xf:FuncData
 Y4:Addr
 J2:FuncData
 jv:Addr
 Xj:FuncData
 jr:Addr
 Xq:FuncData
 jc:Addr
 xi:FuncData
 Yq:Addr
 JA:FuncData
 Y0:Addr
 J1:FuncData
 YX:Addr
 J6:FuncData
 jI:Addr
 Xl:FuncData
 Y2:Addr
 xh:FuncData
 yA:Addr
 yD:FuncData
 yj:Addr
 yo:FuncData
 yf:Addr
 Ym:FuncData
 YG:Addr
 YE:FuncData
 ym:Addr
 yk:FuncData
 yJ:Addr
 yG:FuncData
 yE:Addr
 yz:FuncData
 QZ:Addr
 QY:FuncData
 Qj:Addr
 Ql:FuncData
 yi:Addr
 yl:FuncData
 Yp:Addr
 Yk:FuncData
 Yz:Addr
 YB:FuncData
 xF:Addr
 xy:FuncData
 Ye:Addr
 Yf:FuncData
 Qs:Addr
 Qq:FuncData
 YU:Addr
 YS:FuncData
 Yh:Addr
 yV:FuncData
 Yy:Addr
 YD:FuncData
 YA:Addr
 YC:FuncData
 JP:Addr
 JH:FuncData
 QV:Addr
 QW:FuncData
 JF:Addr
 JK:FuncData
 xq:Addr
 xo:FuncData
 zk:Addr
 X8:FuncData
 JI:Addr
 JL:FuncData
 yy:Addr
 yF:FuncData
 Yo:Addr
 Yj:FuncData
 JS:Addr
 JQ:FuncData
 jV:Addr
 jR:FuncData
 jk:Addr
 jj:FuncData
 JO:Addr
 JE:FuncData
 jm:Addr
 jh:FuncData
 yB:Addr
 yH:FuncData
 jM:Addr
 jS:FuncData
 j8:Addr
 jX:FuncData
 f_law:Addr
 d_law:FuncData
 qq:Addr
structure Tx (K:PySem.W.Frag)(mg:Str→Option Value)(a:Ad):Prop where
 zZ:Fun K "is_text" "is_text" jH a.Jn a.Ji
 b_is_text:qR K a.Ji ["value"] []
 m_is_text:mg "is_text"=some (.ref a.Jn)
 xk:Fun K "is_tree" "is_tree" YY a.jF a.jy
 zH:qR K a.jy ["value"] []
 zn:mg "is_tree"=some (.ref a.jF)
 xY:Fun K "is_name" "is_name" jw a.jJ a.jD
 Zp:qR K a.jD ["value"] []
 Zn:mg "is_name"=some (.ref a.jJ)
 jt:Fun K "is_row_of_names" "is_row_of_names" Qr a.Q2 a.Q6
 Xs:qR K a.Q6 ["tree"] []
 Xm:mg "is_row_of_names"=some (.ref a.Q2)
 zx:Fun K "is_answer" "is_answer" yT a.jL a.jU
 b_is_answer:qR K a.jU ["ask","answer"] []
 m_is_answer:mg "is_answer"=some (.ref a.jL)
 F_part_of:Fun K "part_of" "part_of" jC a.xu a.xv
 b_part_of:qR K a.xv ["kind","piece","count"] []
 m_part_of:mg "part_of"=some (.ref a.xu)
 zJ:Fun K "pieces_of" "pieces_of" Yc a.jY a.j6
 b_pieces_of:qR K a.j6 ["line","form"] []
 m_pieces_of:mg "pieces_of"=some (.ref a.jY)
 F_row_of:Fun K "row_of" "row_of" jO a.zd a.X7
 b_row_of:qR K a.X7 ["line","count"] []
 m_row_of:mg "row_of"=some (.ref a.zd)
 XF:Fun K "read_lines" "read_lines" yt a.jl a.jd
 b_read_lines:qR K a.jd ["value"] []
 m_read_lines:mg "read_lines"=some (.ref a.jl)
 Zt:Fun K "rule_rows" "rule_rows" yR a.jN a.j0
 b_rule_rows:qR K a.j0 ["tree"] []
 m_rule_rows:mg "rule_rows"=some (.ref a.jN)
 zS:Fun K "text_made" "text_made" y6 a.Y3 a.J0
 b_text_made:qR K a.J0 ["boxes","own","parts"] []
 m_text_made:mg "text_made"=some (.ref a.Y3)
 zU:Fun K "self_made" "self_made" y9 a.Y7 a.xf
 b_self_made:qR K a.xf ["boxes","own","parts"] []
 m_self_made:mg "self_made"=some (.ref a.Y7)
 Zu:Fun K "copy_made" "copy_made" yY a.Y4 a.J2
 b_copy_made:qR K a.J2 ["boxes","own","parts"] []
 m_copy_made:mg "copy_made"=some (.ref a.Y4)
 Z9:Fun K "row_made" "row_made" YH a.jv a.Xj
 b_row_made:qR K a.Xj ["boxes","own","parts"] []
 m_row_made:mg "row_made"=some (.ref a.jv)
 wl:Fun K "put_made" "put_made" YM a.jr a.Xq
 b_put_made:qR K a.Xq ["boxes","own","parts"] []
 m_put_made:mg "put_made"=some (.ref a.jr)
 Zo:Fun K "join_made" "join_made" yS a.jc a.xi
 b_join_made:qR K a.xi ["boxes","own","parts"] []
 m_join_made:mg "join_made"=some (.ref a.jc)
 XB:Fun K "first_made" "first_made" yr a.Yq a.JA
 b_first_made:qR K a.JA ["boxes","own","parts"] []
 m_first_made:mg "first_made"=some (.ref a.Yq)
 zG:Fun K "rest_made" "rest_made" y8 a.Y0 a.J1
 b_rest_made:qR K a.J1 ["boxes","own","parts"] []
 m_rest_made:mg "rest_made"=some (.ref a.Y0)
 zo:Fun K "size_made" "size_made" y7 a.YX a.J6
 b_size_made:qR K a.J6 ["boxes","own","parts"] []
 m_size_made:mg "size_made"=some (.ref a.YX)
 wq:Fun K "cut_made" "cut_made" YO a.jI a.Xl
 b_cut_made:qR K a.Xl ["boxes","own","parts"] []
 m_cut_made:mg "cut_made"=some (.ref a.jI)
 Zb:Fun K "glue_made" "glue_made" yX a.Y2 a.xh
 b_glue_made:qR K a.xh ["boxes","own","parts"] []
 m_glue_made:mg "glue_made"=some (.ref a.Y2)
 Jt:Fun K "is_jump_taken" "is_jump_taken" QH a.yA a.yD
 zI:qR K a.yD ["boxes","word","parts"] []
 zt:mg "is_jump_taken"=some (.ref a.yA)
 Jb:Fun K "asked_or_fault" "asked_or_fault" Qx a.yj a.yo
 XV:qR K a.yo ["word","held"] []
 XU:mg "asked_or_fault"=some (.ref a.yj)
 ZG:Fun K "__init__" "Machine.__init__" QQ a.yf a.Ym
 ZS:qR K a.Ym ["self","rule","own"] []
 h_Machine_init:Meth K a.qq "__init__" a.yf
 Wi:Fun K "now" "Machine.now" Q5 a.YG a.YE
 Wm:qR K a.YE ["self"] []
 wU:Meth K a.qq "now" a.YG
 X2:Fun K "answer" "Machine.answer" Qz a.ym a.yk
 XS:qR K a.yk ["self","tree"] []
 XZ:Meth K a.qq "answer" a.ym
 Zj:Fun K "asked" "Machine.asked" QJ a.yJ a.yG
 Zy:qR K a.yG ["self"] []
 ZC:Meth K a.qq "asked" a.yJ
 Zg:Fun K "lines" "Machine.lines" QF a.yE a.yz
 zX:qR K a.yz ["self"] []
 zy:Meth K a.qq "lines" a.yE
 zE:Fun K "go_on" "Machine.go_on" QG a.QZ a.QY
 Jr:qR K a.QY ["self"] []
 JB:Meth K a.qq "go_on" a.QZ
 JU:Fun K "is_waiting" "Machine.is_waiting" qW a.Qj a.Ql
 Yw:qR K a.Ql ["self"] []
 Yv:Meth K a.qq "is_waiting" a.Qj
 XX:Fun K "do_row" "Machine.do_row" Qy a.yi a.yl
 XT:qR K a.yl ["self","row"] []
 X6:Meth K a.qq "do_row" a.yi
 ZK:Fun K "hold" "Machine.hold" QR a.Yp a.Yk
 ZP:qR K a.Yk ["self","box","tree"] []
 ZJ:Meth K a.qq "hold" a.Yp
 xR:Fun K "_law_cell_at" "_law_cell_at" Q3 a.Yz a.YB
 Ws:qR K a.YB ["script","k"] []
 wF:mg "_law_cell_at"=some (.ref a.Yz)
 F_law_pot:Fun K "_law_pot" "_law_pot" ju a.xF a.xy
 b_law_pot:qR K a.xy ["cell","salt"] []
 m_law_pot:mg "_law_pot"=some (.ref a.xF)
 Qw:Fun K "_law_take" "_law_take" YR a.Ye a.Yf
 QE:qR K a.Yf ["pot","many"] []
 QD:mg "_law_take"=some (.ref a.Ye)
 Yi:Fun K "_law_parts_right" "_law_parts_right" Qp a.Qs a.Qq
 jG:qR K a.Qq ["value"] []
 jx:mg "_law_parts_right"=some (.ref a.Qs)
 Xk:Fun K "_law_size" "_law_size" YL a.YU a.YS
 wA:qR K a.YS ["tree"] []
 wv:mg "_law_size"=some (.ref a.YU)
 J7:Fun K "_law_depth" "_law_depth" Ya a.Yh a.yV
 zT:qR K a.yV ["tree"] []
 zu:mg "_law_depth"=some (.ref a.Yh)
 xB:Fun K "_law_is_tree" "_law_is_tree" Q1 a.Yy a.YD
 Wh:qR K a.YD ["value"] []
 w5:mg "_law_is_tree"=some (.ref a.Yy)
 xD:Fun K "_law_is_name" "_law_is_name" Q7 a.YA a.YC
 wT:qR K a.YC ["value"] []
 Wg:mg "_law_is_name"=some (.ref a.YA)
 ZT:Fun K "_law_next" "_law_next" YQ a.JP a.JH
 b_law_next:qR K a.JH ["boxes","words","at"] []
 m_law_next:mg "_law_next"=some (.ref a.JP)
 je:Fun K "_law_cut_or_glued" "_law_cut_or_glued" Qf a.QV a.QW
 xz:qR K a.QW ["word","two","three"] []
 xT:mg "_law_cut_or_glued"=some (.ref a.QV)
 wj:Fun K "_law_held" "_law_held" YT a.JF a.JK
 b_law_held:qR K a.JK ["boxes","words","line","own"] []
 m_law_held:mg "_law_held"=some (.ref a.JF)
 F_law_ask:Fun K "_law_ask" "_law_ask" jB a.xq a.xo
 b_law_ask:qR K a.xo ["boxes","words"] []
 m_law_ask:mg "_law_ask"=some (.ref a.xq)
 F_law_go:Fun K "_law_go" "_law_go" JT a.zk a.X8
 b_law_go:qR K a.X8 ["rule","own","answers"] []
 m_law_go:mg "_law_go"=some (.ref a.zk)
 ZV:Fun K "_law_said" "_law_said" YN a.JI a.JL
 b_law_said:qR K a.JL ["boxes","words"] []
 m_law_said:mg "_law_said"=some (.ref a.JI)
 Ju:Fun K "_law_long_text" "_law_long_text" QK a.yy a.yF
 Zw:qR K a.yF ["many"] []
 zN:mg "_law_long_text"=some (.ref a.yy)
 JW:Fun K "_law_long_row" "_law_long_row" QS a.Yo a.Yj
 ZQ:qR K a.Yj ["many"] []
 ZN:mg "_law_long_row"=some (.ref a.Yo)
 wa:Fun K "_law_deep" "_law_deep" YJ a.JS a.JQ
 b_law_deep:qR K a.JQ ["many"] []
 m_law_deep:mg "_law_deep"=some (.ref a.JS)
 zO:Fun K "_law_great" "_law_great" Yb a.jV a.jR
 b_law_great:qR K a.jR ["many"] []
 m_law_great:mg "_law_great"=some (.ref a.jV)
 XL:Fun K "_law_pieces" "_law_pieces" yq a.jk a.jj
 b_law_pieces:qR K a.jj ["many"] []
 m_law_pieces:mg "_law_pieces"=some (.ref a.jk)
 wb:Fun K "_law_loop" "_law_loop" YK a.JO a.JE
 b_law_loop:qR K a.JE ["pot","many"] []
 m_law_loop:mg "_law_loop"=some (.ref a.JO)
 XH:Fun K "_law_asking" "_law_asking" yw a.jm a.jh
 b_law_asking:qR K a.jh ["pot","many"] []
 m_law_asking:mg "_law_asking"=some (.ref a.jm)
 jK:Fun K "_law_endless" "_law_endless" Q9 a.yB a.yH
 xJ:qR K a.yH ["pot"] []
 xI:mg "_law_endless"=some (.ref a.yB)
 zp:Fun K "_law_drawn" "_law_drawn" Yg a.jM a.jS
 b_law_drawn:qR K a.jS ["pot"] []
 m_law_drawn:mg "_law_drawn"=some (.ref a.jM)
 yW:Fun K "_law_right" "_law_right" yQ a.j8 a.jX
 jb:qR K a.jX ["rule","own"] []
 Y1:mg "_law_right"=some (.ref a.j8)
 F_law:Fun K "law" "law" s_law a.f_law a.d_law
 b_law:qR K a.d_law ["script"] []
 m_law:mg "law"=some (.ref a.f_law)
 ql:Cls K a.qq
 M_Machine:Mk K a.qq a.yf
 m_Machine:mg "Machine"=some (.ref a.qq)
 Yl:ja K a.qq "rows"
 ZE:ja K a.qq "rule"
 xH:ja K a.qq "own"
 Qt:ja K a.qq "boxes"
 Qa:ja K a.qq "place"
 QT:ja K a.qq "done"
 Y9:ja K a.qq "given"
 qE:ja K a.qq "there"
 e_law:∀(s:Shared) (u:Value),BindsTo s a.d_law ⟨[u],[]⟩ [("script",u)]
 m_MOST_SIGNS:∃t,mg "MOST_SIGNS"=some (.int 300 t)
 m_MOST_PARTS:∃t,mg "MOST_PARTS"=some (.int 40 t)
 m_MOST_SIZE:∃t,mg "MOST_SIZE"=some (.int 600 t)
 m_MOST_DEPTH:∃t,mg "MOST_DEPTH"=some (.int 12 t)
 Xo:∃t,mg "MOST_NAME_SIGNS"=some (.int 24 t)
 m_LETTERS:∃t,mg "LETTERS"=some (.str "abcdefghijklmnopqrstuvwxyz" t)
 m_NAME_SIGNS:∃t,mg "NAME_SIGNS"=some (.str "abcdefghijklmnopqrstuvwxyz0123456789./" t)
 m_PERCENT:∃t,mg "PERCENT"=some (.int 37 t)
 m_MOST_LINES:∃t,mg "MOST_LINES"=some (.int 40 t)
 m_MOST_DONE:∃t,mg "MOST_DONE"=some (.int 300 t)
 z_ord:mg "ord"=none
 ye:mg "len"=none
 qt:mg "isinstance"=none
 yI:mg "str"=none
 Qi:mg "tuple"=none
 z_all:mg "all"=none
 z_int:mg "int"=none
 zV:mg "range"=none
 z_zip:mg "zip"=none
 z_dict:mg "dict"=none
 z_abs:mg "abs"=none
 z_sum:mg "sum"=none
 z_max:mg "max"=none
 z_min:mg "min"=none
theorem Z5:qy ["value","sign"] ["value"] (qg jH):=⟨rfl,rfl,rfl,by decide+kernel,rfl,by decide+kernel,by decide+kernel⟩
theorem yx:qy ["value","size","waiting","pair","part","depth"] ["value"] (qg YY):=⟨rfl,rfl,rfl,by decide+kernel,rfl,by decide+kernel,by decide+kernel⟩
theorem sc_is_name:qy ["value"] ["value"] (qg jw):=⟨rfl,rfl,rfl,by decide+kernel,rfl,by decide+kernel,by decide+kernel⟩
theorem xG:qy ["tree"] ["tree"] (qg Qr):=⟨rfl,rfl,rfl,by decide+kernel,rfl,by decide+kernel,by decide+kernel⟩
theorem sc_is_answer:qy ["ask","answer"] ["ask","answer"] (qg yT):=⟨rfl,rfl,rfl,by decide+kernel,rfl,by decide+kernel,by decide+kernel⟩
theorem Z8:qy ["kind","piece","count","numbers"] ["kind","piece","count"] (qg jC):=⟨rfl,rfl,rfl,by decide+kernel,rfl,by decide+kernel,by decide+kernel⟩
theorem sc_pieces_of:qy ["line","form"] ["line","form"] (qg Yc):=⟨rfl,rfl,rfl,by decide+kernel,rfl,by decide+kernel,by decide+kernel⟩
theorem Jp:qy ["line","count","word","form","pieces","parts"] ["line","count"] (qg jO):=⟨rfl,rfl,rfl,by decide+kernel,rfl,by decide+kernel,by decide+kernel⟩
theorem YF:qy ["value","rows","line","row"] ["value"] (qg yt):=⟨rfl,rfl,rfl,by decide+kernel,rfl,by decide+kernel,by decide+kernel⟩
theorem XG:qy ["tree","read"] ["tree"] (qg yR):=⟨rfl,rfl,rfl,by decide+kernel,rfl,by decide+kernel,by decide+kernel⟩
theorem sc_text_made:qy ["boxes","own","parts"] ["boxes","own","parts"] (qg y6):=⟨rfl,rfl,rfl,by decide+kernel,rfl,by decide+kernel,by decide+kernel⟩
theorem sc_self_made:qy ["boxes","own","parts"] ["boxes","own","parts"] (qg y9):=⟨rfl,rfl,rfl,by decide+kernel,rfl,by decide+kernel,by decide+kernel⟩
theorem sc_copy_made:qy ["boxes","own","parts"] ["boxes","own","parts"] (qg yY):=⟨rfl,rfl,rfl,by decide+kernel,rfl,by decide+kernel,by decide+kernel⟩
theorem sc_row_made:qy ["boxes","own","parts"] ["boxes","own","parts"] (qg YH):=⟨rfl,rfl,rfl,by decide+kernel,rfl,by decide+kernel,by decide+kernel⟩
theorem Zr:qy ["boxes","own","parts","row"] ["boxes","own","parts"] (qg YM):=⟨rfl,rfl,rfl,by decide+kernel,rfl,by decide+kernel,by decide+kernel⟩
theorem Jo:qy ["boxes","own","parts","one","other"] ["boxes","own","parts"] (qg yS):=⟨rfl,rfl,rfl,by decide+kernel,rfl,by decide+kernel,by decide+kernel⟩
theorem xm:qy ["boxes","own","parts","whole"] ["boxes","own","parts"] (qg yr):=⟨rfl,rfl,rfl,by decide+kernel,rfl,by decide+kernel,by decide+kernel⟩
theorem Xy:qy ["boxes","own","parts","whole"] ["boxes","own","parts"] (qg y8):=⟨rfl,rfl,rfl,by decide+kernel,rfl,by decide+kernel,by decide+kernel⟩
theorem sc_size_made:qy ["boxes","own","parts"] ["boxes","own","parts"] (qg y7):=⟨rfl,rfl,rfl,by decide+kernel,rfl,by decide+kernel,by decide+kernel⟩
theorem J3:qy ["boxes","own","parts","whole","between"] ["boxes","own","parts"] (qg YO):=⟨rfl,rfl,rfl,by decide+kernel,rfl,by decide+kernel,by decide+kernel⟩
theorem Jg:qy ["boxes","own","parts","row","between"] ["boxes","own","parts"] (qg yX):=⟨rfl,rfl,rfl,by decide+kernel,rfl,by decide+kernel,by decide+kernel⟩
theorem X5:qy ["boxes","word","parts"] ["boxes","word","parts"] (qg QH):=⟨rfl,rfl,rfl,by decide+kernel,rfl,by decide+kernel,by decide+kernel⟩
theorem Xu:qy ["word","held"] ["word","held"] (qg Qx):=⟨rfl,rfl,rfl,by decide+kernel,rfl,by decide+kernel,by decide+kernel⟩
theorem zQ:qy ["self","rule","own"] ["self","rule","own"] (qg QQ):=⟨rfl,rfl,rfl,by decide+kernel,rfl,by decide+kernel,by decide+kernel⟩
theorem ZF:qy ["self"] ["self"] (qg Q5):=⟨rfl,rfl,rfl,by decide+kernel,rfl,by decide+kernel,by decide+kernel⟩
theorem jE:qy ["self","tree","ask"] ["self","tree"] (qg Qz):=⟨rfl,rfl,rfl,by decide+kernel,rfl,by decide+kernel,by decide+kernel⟩
theorem XR:qy ["self"] ["self"] (qg QJ):=⟨rfl,rfl,rfl,by decide+kernel,rfl,by decide+kernel,by decide+kernel⟩
theorem XW:qy ["self"] ["self"] (qg QF):=⟨rfl,rfl,rfl,by decide+kernel,rfl,by decide+kernel,by decide+kernel⟩
theorem XO:qy ["self"] ["self"] (qg QG):=⟨rfl,rfl,rfl,by decide+kernel,rfl,by decide+kernel,by decide+kernel⟩
theorem Jz:qy ["self"] ["self"] (qg qW):=⟨rfl,rfl,rfl,by decide+kernel,rfl,by decide+kernel,by decide+kernel⟩
theorem yZ:qy ["self","row","word","parts"] ["self","row"] (qg Qy):=⟨rfl,rfl,rfl,by decide+kernel,rfl,by decide+kernel,by decide+kernel⟩
theorem zA:qy ["self","box","tree"] ["self","box","tree"] (qg QR):=⟨rfl,rfl,rfl,by decide+kernel,rfl,by decide+kernel,by decide+kernel⟩
theorem ZL:qy ["script","k"] ["script","k"] (qg Q3):=⟨rfl,rfl,rfl,by decide+kernel,rfl,by decide+kernel,by decide+kernel⟩
theorem YI:qy ["cell","salt","step","big","k"] ["cell","salt"] (qg ju):=⟨rfl,rfl,rfl,by decide+kernel,rfl,by decide+kernel,by decide+kernel⟩
theorem ZA:qy ["pot","many","digit"] ["pot","many"] (qg YR):=⟨rfl,rfl,rfl,by decide+kernel,rfl,by decide+kernel,by decide+kernel⟩
theorem xw:qy ["value"] ["value"] (qg Qp):=⟨rfl,rfl,rfl,by decide+kernel,rfl,by decide+kernel,by decide+kernel⟩
theorem sc_law_size:qy ["tree"] ["tree"] (qg YL):=⟨rfl,rfl,rfl,by decide+kernel,rfl,by decide+kernel,by decide+kernel⟩
theorem sc_law_depth:qy ["tree"] ["tree"] (qg Ya):=⟨rfl,rfl,rfl,by decide+kernel,rfl,by decide+kernel,by decide+kernel⟩
theorem ZH:qy ["value"] ["value"] (qg Q1):=⟨rfl,rfl,rfl,by decide+kernel,rfl,by decide+kernel,by decide+kernel⟩
theorem ZR:qy ["value"] ["value"] (qg Q7):=⟨rfl,rfl,rfl,by decide+kernel,rfl,by decide+kernel,by decide+kernel⟩
theorem yU:qy ["boxes","words","at","held","goes"] ["boxes","words","at"] (qg YQ):=⟨rfl,rfl,rfl,by decide+kernel,rfl,by decide+kernel,by decide+kernel⟩
theorem xj:qy ["word","two","three"] ["word","two","three"] (qg Qf):=⟨rfl,rfl,rfl,by decide+kernel,rfl,by decide+kernel,by decide+kernel⟩
theorem Y8:qy ["boxes","words","line","own","word","one","two"] ["boxes","words","line","own"] (qg YT):=⟨rfl,rfl,rfl,by decide+kernel,rfl,by decide+kernel,by decide+kernel⟩
theorem wt:qy ["boxes","words","held"] ["boxes","words"] (qg jB):=⟨rfl,rfl,rfl,by decide+kernel,rfl,by decide+kernel,by decide+kernel⟩
theorem Qc:qy ["rule","own","answers","boxes","asks","at","turn","words","held","fault","ask"] ["rule","own","answers"] (qg JT):=⟨rfl,rfl,rfl,by decide+kernel,rfl,by decide+kernel,by decide+kernel⟩
theorem sc_law_said:qy ["boxes","words"] ["boxes","words"] (qg YN):=⟨rfl,rfl,rfl,by decide+kernel,rfl,by decide+kernel,by decide+kernel⟩
theorem X4:qy ["many"] ["many"] (qg QK):=⟨rfl,rfl,rfl,by decide+kernel,rfl,by decide+kernel,by decide+kernel⟩
theorem ZB:qy ["many"] ["many"] (qg QS):=⟨rfl,rfl,rfl,by decide+kernel,rfl,by decide+kernel,by decide+kernel⟩
theorem zP:qy ["many","lines"] ["many"] (qg YJ):=⟨rfl,rfl,rfl,by decide+kernel,rfl,by decide+kernel,by decide+kernel⟩
theorem Jm:qy ["many","rest","lines"] ["many"] (qg Yb):=⟨rfl,rfl,rfl,by decide+kernel,rfl,by decide+kernel,by decide+kernel⟩
theorem wR:qy ["many"] ["many"] (qg yq):=⟨rfl,rfl,rfl,by decide+kernel,rfl,by decide+kernel,by decide+kernel⟩
theorem y0:qy ["pot","many","turns","lines","at","last"] ["pot","many"] (qg YK):=⟨rfl,rfl,rfl,by decide+kernel,rfl,by decide+kernel,by decide+kernel⟩
theorem QN:qy ["pot","many","turns","ask","lines","at","last"] ["pot","many"] (qg yw):=⟨rfl,rfl,rfl,by decide+kernel,rfl,by decide+kernel,by decide+kernel⟩
theorem jp:qy ["pot","many","ask"] ["pot"] (qg Q9):=⟨rfl,rfl,rfl,by decide+kernel,rfl,by decide+kernel,by decide+kernel⟩
theorem Jx:qy ["pot","way","more"] ["pot"] (qg Yg):=⟨rfl,rfl,rfl,by decide+kernel,rfl,by decide+kernel,by decide+kernel⟩
theorem QM:qy ["rule","own","machine","answers","turn","now","asks","due","done"] ["rule","own"] (qg yQ):=⟨rfl,rfl,rfl,by decide+kernel,rfl,by decide+kernel,by decide+kernel⟩
theorem sc_law:qy ["script","k"] ["script"] (qg s_law):=⟨rfl,rfl,rfl,by decide+kernel,rfl,by decide+kernel,by decide+kernel⟩
structure Ga where
 (boxes asking forms makers:Addr)
def NOMK:List Str:= ["ask","has","names","go","like","rowed","none","say","fault"]
structure Fx (K:PySem.W.Frag)(w:World)(mg:Str→Option Value)(g:Ga)(a:Ad):Prop where
 m_BOXES:mg "BOXES"=some (.ref g.boxes)
 m_ASKING:mg "ASKING"=some (.ref g.asking)
 m_FORMS:mg "FORMS"=some (.ref g.forms)
 m_MAKERS:mg "MAKERS"=some (.ref g.makers)
 boxes:∀H,SqT K H g.boxes (BX.map V.str)
 asking:∀H,SqT K H g.asking [.str "ask",.str "has",.str "names"]
 kd:KDict K w g.forms
 forms:∀x∈FRM,∃q,PySem.W.nsIn K g.forms x.1=some (some (.ref q))∧∀H,SqT K H q (x.2.map fun k=>V.str k.t)
 km:KDict K w g.makers
 k_text:PySem.W.nsIn K g.makers "text"=some (some (.ref a.Y3))
 k_self:PySem.W.nsIn K g.makers "self"=some (some (.ref a.Y7))
 k_copy:PySem.W.nsIn K g.makers "copy"=some (some (.ref a.Y4))
 k_row:PySem.W.nsIn K g.makers "row"=some (some (.ref a.jv))
 k_put:PySem.W.nsIn K g.makers "put"=some (some (.ref a.jr))
 k_join:PySem.W.nsIn K g.makers "join"=some (some (.ref a.jc))
 k_first:PySem.W.nsIn K g.makers "first"=some (some (.ref a.Yq))
 k_rest:PySem.W.nsIn K g.makers "rest"=some (some (.ref a.Y0))
 k_size:PySem.W.nsIn K g.makers "size"=some (some (.ref a.YX))
 k_cut:PySem.W.nsIn K g.makers "cut"=some (some (.ref a.jI))
 k_glue:PySem.W.nsIn K g.makers "glue"=some (some (.ref a.Y2))
 k_no:∀z∈NOMK,PySem.W.nsIn K g.makers z=some none
def PotB (m:Nat)(H:Hp)(p:Addr):Prop:=∃x:Int,H p=some (.lst [.int x])∧0≤x∧intBits x≤m
def Xv (H:Hp)(p:Addr):Prop:=∃x:Int,H p=some (.lst [.int x])∧0≤x
theorem PotB.at {m:Nat}{H:Hp}{p:Addr}(h:PotB m H p):Xv H p:=let⟨x,e,r,_⟩:=h;⟨x,e,r⟩
theorem Xv.same {H H':Hp}{p:Addr}(h:Xv H p)(s:Same H H'):Xv H' p:=by
 obtain⟨x,e,r⟩:=h
 exact⟨x,s _ _ e,r⟩
theorem Xv.free {H:Hp}{p l:Addr}(h:Xv H p)(n:H l=none):p≠l:=by
 obtain⟨x,e,r⟩:=h
 exact qm e n
def MB:Nat:=1048576
def zq:Sp:=fun vs H Q _=>∃(p:Addr) (many:Int),vs= [.ref p,.int many]∧Xv H p∧0<many∧many<1073741824∧∀(d:Int) (H':Hp),0≤d→d<many→Xv H' p→Kept p H H'→(PotB MB H p→PotB MB H' p)→Q (.int d) H'
def sp_pot:Sp:=fun vs H Q _=>∃(c t:Int),vs= [.int c,.int t]∧intBits c≤MB∧0≤t∧t<1000∧∀(p:Addr) (H':Hp),H p=none→Same H H'→PotB MB H' p→Q (.ref p) H'
def sp_cell (K:PySem.W.Frag):Sp:=fun vs H Q _=>∃(q:Addr) (ns:List Int) (k:Nat),vs= [.ref q,.int (k:Int)]∧SqL K H q (ns.map V.int)∧(∀x∈ns,intBits x≤MB)∧∀x:Int,intBits x≤MB→Q (.int x) H
theorem qU {n:Nat}(h:n≤1000):n≤sizeLine:=Nat.le_of_lt (Jl h)
theorem fits {n:Nat}(h:n≤16000000):n≤sizeLine:=by rw [sizeLine_eq];omega
theorem atI_mem {α:Type}{xs:List α}{i:Int}{c:α}(h:atI xs i=some c):c∈xs:=by
 unfold atI at h
 obtain⟨j,_,e⟩:=Option.bind_eq_some_iff.mp h
 exact List.mem_of_getElem? e
theorem big_bits {n:Nat}{b s:Int}(hb:0≤b)(h:intBits b≤32*n)(s0:0≤s)(s1:s<2147483629):intBits (b*2147483629+s)≤32*(n+1):=by
 have h1:=intBits_le_iff.mp h
 refine intBits_le_iff.mpr ?_
 have e:(2:Nat)^(32*(n+1))=2^(32*n)*4294967296:=by rw [Nat.mul_add,Nat.pow_add]
 rw [e]
 generalize 2^(32*n)=N at h1
 omega
section
variable {P:Program}{w:World}{K:PySem.W.Frag}{mg:Str→Option Value}{base:Heap}{a:Ad}
theorem w6 (T:Tx K mg a):FnOk P w K mg base CX0 1 a.Ye a.Yf ["pot","many"] zq:=by
 refine T.Qw.ok ZA (fun vs H Q E h=> ?_) (fun cdv A outer s H vs Q E hr h=> ?_)
 ·obtain⟨p,many,rfl,_⟩:=h
  rfl
 obtain⟨p,many,rfl,⟨x,hp,hx⟩,hm,hm2,k⟩:=h
 refine⟨_,(@qb _ _ _ _ _ (@qB _ _ (2) _ _ _ _ ZA.nd rfl (Or.inl rfl) (@qD _ _ _ _ _ _ _ _ (@XJ _) (@qL _ _ _ _ _ _ _ (@qS _) (pv 0) (@qi _ _ _ _) (fun _ _=>rfl)) (pv 1)) (by trivial) (by trivial)) (@qb _ _ _ _ _ (@ps_asg _ _ _ _ _ _ (@qD _ _ _ _ _ _ _ _ (@op_fdiv _) (@qL _ _ _ _ _ _ _ (@qS _) (pv 0) (@qi _ _ _ _) (fun _ _=>rfl)) (pv 1)) (@pg_sub _ _ _ _ _ _ _ (pv 0) (@qi _ _ _ _) (@set_list _) (by trivial)) (by trivial) (by trivial) (by trivial)) (@qe _ _ _ (@qk _ _ _ _ (pv 2))))),?_⟩
 refine⟨_,rfl,p,_,_,_,rfl,rfl,SqL.of hp,rfl,_,rfl,_,_,rfl,rfl,hm,?_⟩
 refine⟨_,rfl,p,_,_,_,rfl,rfl,SqL.of hp,rfl,_,rfl,_,_,rfl,rfl,⟨hm,hm2⟩,_,rfl,p,_,_,_,rfl,rfl,hp,rfl,?_⟩
 refine⟨_,rfl,?_⟩
 refine k _ _ (Int.emod_nonneg _ (by omega)) (Int.emod_lt_of_pos _ hm) ⟨x/many,qf,Int.ediv_nonneg hx (by omega)⟩ (Kept.upd _ _ _) fun⟨y,hy,hy0,hb⟩=>⟨x/many,qf,Int.ediv_nonneg hx (by omega),?_⟩
 have e:=hy.symm.trans hp
 cases e
 refine intBits_le_of_natAbs ?_ hb
 have h1:x/many≤x:=Int.ediv_le_self _ hx
 have h2:0≤x/many:=Int.ediv_nonneg hx (by omega)
 omega
theorem ok_pot (T:Tx K mg a):FnOk P w K mg base CX0 1 a.xF a.xy ["cell","salt"] sp_pot:=by
 refine T.F_law_pot.ok YI (fun vs H Q E h=> ?_) (fun cdv A outer s H vs Q E hr h=> ?_)
 ·obtain⟨c,t,rfl,_⟩:=h
  rfl
 obtain⟨c,t,rfl,hc,h0,h1,k⟩:=h
 refine⟨_,(@qb _ _ _ _ _ (@qI _ _ _ _ _ _ _ _ (@qp _ _ _ _ _ _ _ _ (@op_ge _) (@qj _ _ _ _ _ _ _ _ _ (@call_abs _) (by rfl) T.z_abs boot_abs (@qa _ _ _ _ _ (pv 0) (@qc _) (by trivial)) (by trivial) (by trivial) (by trivial) (by trivial)) (@qD _ _ _ _ _ _ _ _ (@op_pow _) (@qi _ _ _ _) (@qi _ _ _ _)) (qz _)) (@qe _ _ _ (@qk _ _ _ _ (@Qu _ _ _ _ (@qa _ _ _ _ _ (@qj _ _ _ _ _ _ _ _ _ (@call_abs _) (by rfl) T.z_abs boot_abs (@qa _ _ _ _ _ (pv 0) (@qc _) (by trivial)) (by trivial) (by trivial) (by trivial) (by trivial)) (@qc _) (by trivial))))) (@qr _)) (@qb _ _ _ _ _ (@qB _ _ (2) _ _ _ _ YI.nd rfl (Or.inl rfl) (@qD _ _ _ _ _ _ _ _ (@XJ _) (@qD _ _ _ _ _ _ _ _ (@Zh _) (@qD _ _ _ _ _ _ _ _ (@Qb _) (@qD _ _ _ _ _ _ _ _ (@Qb _) (@qD _ _ _ _ _ _ _ _ (@XJ _) (pv 0) (@qi _ _ _ _)) (@qD _ _ _ _ _ _ _ _ (@Zh _) (@qi _ _ _ _) (pv 1))) (@qi _ _ _ _)) (@qi _ _ _ _)) (@qi _ _ _ _)) (by trivial) (by trivial)) (@qb _ _ _ _ _ (@qB _ _ (3) _ _ _ _ YI.nd rfl (Or.inl rfl) (@qi _ _ _ _) (by trivial) (by trivial)) (@qb _ _ _ _ _ (@wm _ _ _ _ _ _ _ _ PassesOwn.never rfl (@xt _ _ _ _ _ _ (by rfl) T.zV (@qa _ _ _ _ _ (@qi _ _ _ _) (@qc _) (by trivial)) (by trivial)) (@Qm _ _ (4) _ YI.nd rfl (Or.inl rfl) (by trivial)) (@qb _ _ _ _ _ (@qB _ _ (2) _ _ _ _ YI.nd rfl (Or.inl rfl) (@qD _ _ _ _ _ _ _ _ (@XJ _) (@qD _ _ _ _ _ _ _ _ (@Qb _) (@qD _ _ _ _ _ _ _ _ (@Qb _) (@qD _ _ _ _ _ _ _ _ (@Zh _) (pv 2) (pv 2)) (@qD _ _ _ _ _ _ _ _ (@Zh _) (@qi _ _ _ _) (pv 4))) (@qi _ _ _ _)) (@qi _ _ _ _)) (by trivial) (by trivial)) (@qe _ _ _ (@qB _ _ (3) _ _ _ _ YI.nd rfl (Or.inl rfl) (@qD _ _ _ _ _ _ _ _ (@Qb _) (@qD _ _ _ _ _ _ _ _ (@Zh _) (pv 3) (@qi _ _ _ _)) (pv 2)) (by trivial) (by trivial)))) (by trivial)) (@qe _ _ _ (@qk _ _ _ _ (@Qu _ _ _ _ (@qa _ _ _ _ _ (pv 3) (@qc _) (by trivial))))))))),?_⟩
 refine⟨_,rfl,_,rfl,_,_,rfl,rfl,⟨by decide,by decide,by decide⟩,_,_,rfl,rfl,_,rfl,?_⟩
 refine ite2 (fun _=> ?_) (fun _=> ?_)
 ·refine⟨_,rfl,_,rfl,(by show 1≤sizeLine;decide),fun p hp=> ?_⟩
  refine k p _ hp (qd hp _) ⟨_,qf,?_,?_⟩
  ·split<;>omega
  ·refine intBits_le_of_natAbs ?_ hc
   split<;>omega
 ·refine⟨_,rfl,_,_,rfl,rfl,(by show(0:Int)<2147483647;decide),_,rfl,_,_,rfl,rfl,(.inl ⟨by decide,by decide⟩),_,_,rfl,rfl,_,_,rfl,rfl,_,_,rfl,rfl,(.inr ⟨by decide,by decide⟩),_,_,rfl,rfl,(by show(0:Int)<2147483647;decide),9,rfl,by decide,by decide,?_⟩
  refine xO (n:=9) (fun i σ H'=>∃(x b:Int) (kv:Option V),σ= [some (.int c),some (.int t),some (.int x),some (.int b),kv]∧0≤x∧x<2147483647∧0≤b∧intBits b≤32*i∧H'=H) ⟨_,_,none,rfl,Int.emod_nonneg _ (by decide),Int.emod_lt_of_pos _ (by decide),by decide,by decide,rfl⟩ ?_ ?_
  ·rintro i σ H' hi ⟨x,b,kv,rfl,hx0,hx1,hb,hbb,rfl⟩
   have hmul:CMul x x:= .inl ⟨by omega,by omega⟩
   refine⟨_,rfl,_,rfl,_,_,rfl,rfl,hmul,_,rfl,_,_,rfl,rfl,(.inl ⟨by decide,by decide⟩),_,_,rfl,rfl,_,_,rfl,rfl,_,_,rfl,rfl,(by show(0:Int)<2147483629;decide),_,rfl,_,_,rfl,rfl,(.inr ⟨by decide,by decide⟩),_,rfl,_,_,rfl,rfl,?_⟩
   have q0:0≤(x*x+40692*(0+(i:Int))+3)%2147483629:=Int.emod_nonneg _ (by decide)
   have q1:(x*x+40692*(0+(i:Int))+3)%2147483629<2147483629:=Int.emod_lt_of_pos _ (by decide)
   exact⟨_,_,_,rfl,q0,Int.lt_trans q1 (by decide),Int.add_nonneg (Int.mul_nonneg hb (by decide)) q0,big_bits hb hbb q0 q1,rfl⟩
  ·rintro σ H' ⟨x,b,kv,rfl,hx0,hx1,hb,hbb,rfl⟩
   exact⟨_,rfl,(by show 1≤sizeLine;decide),fun p hp=>k p _ hp (qd hp _) ⟨_,qf,hb,Nat.le_trans hbb (by decide)⟩⟩
theorem ok_cell (T:Tx K mg a):FnOk P w K mg base CX0 1 a.Yz a.YB ["script","k"] (sp_cell K):=by
 refine T.xR.ok ZL (fun vs H Q E h=> ?_) (fun cdv A outer s H vs Q E hr h=> ?_)
 ·obtain⟨q,ns,i,rfl,_⟩:=h
  rfl
 obtain⟨q,ns,i,rfl,hq,hb,k⟩:=h
 refine⟨_,(@qb _ _ _ _ _ (@qI _ _ _ _ _ _ _ _ (@qp _ _ _ _ _ _ _ _ (@op_lt _) (pv 1) (@qj _ _ _ _ _ _ _ _ _ (@qM _) (by rfl) T.ye PySem.boot_len (@qa _ _ _ _ _ (pv 0) (@qc _) (by trivial)) (by trivial) (by trivial) (by trivial) (by trivial)) (qz _)) (@qe _ _ _ (@qk _ _ _ _ (@qL _ _ _ _ _ _ _ (@qS _) (pv 0) (pv 1) (fun _ _=>rfl)))) (@qr _)) (@qe _ _ _ (@qk _ _ _ _ (@qi _ _ _ _)))),?_⟩
 refine⟨_,rfl,_,rfl,q,_,rfl,.inl hq,_,_,rfl,rfl,_,rfl,?_⟩
 refine ite2 (fun c=> ?_) (fun c=> ?_)
 ·have c':(i:Int)<((ns.map V.int).length:Int):=of_decide_eq_true c
  obtain⟨v,hv⟩:=atI_some (by omega) c'
  obtain⟨y,hy,rfl⟩:=List.mem_map.mp (atI_mem hv)
  exact⟨_,rfl,_,rfl,q,_,_,_,rfl,rfl,hq,hv,k _ (hb _ hy)⟩
 ·exact k 0 (by decide)
end
end K13
namespace K13
open PySem L2 PyProof.Rows
theorem xb {z:Str}(h:300<z.length):yu z=false:=by
 unfold yu
 rw [decide_eq_false (by omega)]
 rfl
def isTx:D→Bool
 | .str z=>yu z
 |_=>false
def Xe:Sp:=fun vs H Q _=>∃v d,vs= [v]∧Is H d v∧Q (.bl (isTx d)) H
def JG:Sp:=fun vs H Q _=>∃v d,vs= [v]∧Is H d v∧∀H',Same H H'→Q (.bl (isT d)) H'
def pr (p:D×Nat):D:= .tup [p.1,.int (p.2:Int)]
theorem okText_bad {z:Str}{i c:Nat}(h:z.cps[i]? =some c)(hc:Qg c=false):yu z=false:=by
 unfold yu
 have hm:c∈z.cps.toList:=by
  have:z.cps.toList[i]? =some c:=by simpa using h
  exact List.mem_of_getElem? this
 have:z.cps.toList.all Qg=false:=by
  rw [List.all_eq_false]
  exact⟨c,hm,by rw [hc];exact Bool.false_ne_true⟩
 rw [this,Bool.and_false]
section
variable {P:Program}{w:World}{K:PySem.W.Frag}{mg:Str→Option Value}{base:Heap}{a:Ad}
theorem wr (T:Tx K mg a):FnOk P w K mg base CX0 1 a.Jn a.Ji ["value"] Xe:=by
 refine T.zZ.ok Z5 (fun vs H Q E h=> ?_) (fun cdv A outer s H vs Q E hr h=> ?_)
 ·obtain⟨v,d,rfl,_⟩:=h
  rfl
 obtain⟨v,d,rfl,hv,k⟩:=h
 refine⟨_,(@qb _ _ _ _ _ (@qI _ _ _ _ _ _ _ _ (@Jd _ _ _ _ _ _ _ (@Qo _ _ _ _ (@qT _ _ _ (@qj _ _ _ _ _ _ _ _ _ (@qw _ _ rfl) (by rfl) T.qt boot_isinstance (@qa _ _ _ _ _ (pv 0) (@qa _ _ _ _ _ (@qV _ _ (.ty "str") _ _ (by rfl) T.yI boot_str rfl (by trivial) (by trivial)) (@qc _) (by trivial)) (by trivial)) (by trivial) (by trivial) (by trivial) (by trivial)) (by trivial))) (@jf _ _ _ _ (@qp _ _ _ _ _ _ _ _ (@XY _) (@qj _ _ _ _ _ _ _ _ _ (@Jf _) (by rfl) T.ye PySem.boot_len (@qa _ _ _ _ _ (pv 0) (@qc _) (by trivial)) (by trivial) (by trivial) (by trivial) (by trivial)) (@pe_gI _ _ _ _ (by rfl) T.m_MOST_SIGNS (by trivial)) (qz _)))).pt (@qe _ _ _ (@qk _ _ _ _ (@Jv _ _ _ _))) (@qr _)) (@qb _ _ _ _ _ (@wm _ _ _ _ _ _ _ _ PassesOwn.never rfl (@pi_str _ _ _ _ (pv 0)) (@Qm _ _ (1) _ Z5.nd rfl (Or.inl rfl) (by trivial)) (@qe _ _ _ (@qI _ _ _ _ _ _ _ _ (@Jd _ _ _ _ _ _ _ (@qp _ _ _ _ _ _ _ _ (@Zv _) (pv 1) (@qh _ _ _ _) (qz _)) (@Jd _ _ _ _ _ _ _ (@qp _ _ _ _ _ _ _ _ (@op_gt_str _) (pv 1) (@qh _ _ _ _) (qz _)) (@jf _ _ _ _ (@qp _ _ _ _ _ _ _ _ (@QL _) (@qj _ _ _ _ _ _ _ _ _ (@call_ord _) (by rfl) T.z_ord boot_ord (@qa _ _ _ _ _ (pv 1) (@qc _) (by trivial)) (by trivial) (by trivial) (by trivial) (by trivial)) (@pe_gI _ _ _ _ (by rfl) T.m_PERCENT (by trivial)) (qz _))))).pt (@qe _ _ _ (@qk _ _ _ _ (@Jv _ _ _ _))) (@qr _))) (by trivial)) (@qe _ _ _ (@qk _ _ _ _ (@Jv _ _ _ _))))),?_⟩
 refine⟨_,rfl,v,"str",tyD d,Qd d,rfl,hv.ty,QB d,_,rfl,?_⟩
 cases d with
 |str z=>
  obtain⟨rfl,hz⟩:=hv
  refine iteF ?_
  refine⟨_,rfl,z,rfl,hz,_,_,rfl,rfl,_,rfl,?_⟩
  refine ite2 (fun c=> ?_) (fun c=> ?_)
  ·have c':(300:Int)<(z.length:Int):=of_decide_eq_true c
   have e:isTx (.str z)=false:=xb (by omega)
   rw [e] at k
   exact k
  ·have c':¬(300:Int)<(z.length:Int):=fun q=>c (decide_eq_true q)
   refine⟨_,rfl,z,rfl,?_⟩
   refine for_str (fun i σ H'=>(∃x,σ= [some (.str z),x])∧H'=H∧(z.cps.toList.take i).all Qg=true) ⟨⟨_,rfl⟩,rfl,rfl⟩ ?_ ?_
   ·rintro i c σ H' hc ⟨⟨x,rfl⟩,rfl,hall⟩
    have bad:Qg c=false→Q (.bl false) H':=fun e=>by
     have e':isTx (.str z)=false:=okText_bad hc e
     rw [e'] at k
     exact k
    refine⟨_,rfl,_,_,rfl,rfl,_,rfl,?_⟩
    rw [show decide ((⟨#[c]⟩:Str).cps.toList<(" ":Str).cps.toList)=decide (c<32) from wB c 32]
    refine ite2 (fun c1=> ?_) (fun c1=> ?_)
    ·refine iteT (bad ?_)
     have:=of_decide_eq_true c1
     unfold Qg
     rw [decide_eq_false (by omega)]
     rfl
    ·have c1':¬c<32:=fun q=>c1 (decide_eq_true q)
     refine⟨_,rfl,_,_,rfl,rfl,_,rfl,?_⟩
     rw [show decide (("~":Str).cps.toList<(⟨#[c]⟩:Str).cps.toList)=decide (126<c) from one_gt c 126]
     refine ite2 (fun c2=> ?_) (fun c2=> ?_)
     ·refine iteT (bad ?_)
      have:=of_decide_eq_true c2
      unfold Qg
      rw [decide_eq_false (p:=c≤126) (by omega),Bool.and_false]
      rfl
     ·have c2':¬126<c:=fun q=>c2 (decide_eq_true q)
      refine⟨_,rfl,_,rfl,rfl,rfl,_,rfl,?_⟩
      refine ite2 (fun c3=> ?_) (fun c3=> ?_)
      ·have c3':c=37:=by
        have:=of_decide_eq_true c3
        have:=V.int.inj this
        exact Int.ofNat.inj this
       exact bad (by subst c3';rfl)
      ·have c3':c≠37:=fun q=>c3 (decide_eq_true (by rw [q];rfl))
       refine⟨⟨_,rfl⟩,rfl,?_⟩
       rw [List.take_add_one,show z.cps.toList[i]? =some c by simpa using hc,List.all_append,hall]
       show(true&&(Qg c&&true))=true
       unfold Qg
       rw [decide_eq_true (by omega),decide_eq_true (p:=c≤126) (by omega),decide_eq_true c3']
       rfl
   ·rintro σ H' ⟨⟨x,rfl⟩,rfl,hall⟩
    have e:isTx (.str z)=true:=by
     show yu z=true
     unfold yu
     rw [List.take_of_length_le (by simp)] at hall
     rw [hall,decide_eq_true (by omega)]
     rfl
    rw [e] at k
    exact k
 |_=>exact iteT (iteT k)
end
end K13
namespace K13
open PySem L2 PyProof.Rows
theorem map_snoc {α β:Type}(f:α→β)(xs:List α)(x:α):(xs++ [x]).map f=xs.map f++ [f x]:=by simp
theorem last_at {α:Type}(us:List α)(x:α):(us++ [x])[(us++ [x]).length-1]? =some x:=by simp
theorem drop_last {α:Type}(us:List α)(x:α):(us++ [x]).dropLast=us:=by simp
def Wt (v:V)(d:D)(H:Hp)(L:Addr)(m:Nat)(σ:L2.St)(H':Hp):Prop:=
 ∃(n:Nat) (w:List (D×Nat)) (ws:List V) (x3 x4 x5:Option V),σ= [some v,some (.int n),some (.ref L),x3,x4,x5]∧Same H H'∧H' L=some (.lst ws)∧IsL H' (w.map pr) ws∧G w n=isT d∧n≤600∧w.length≤1+40*n∧m=ndL (w.map (·.1))
section
variable {P:Program}{w:World}{K:PySem.W.Frag}{mg:Str→Option Value}{base:Heap}{a:Ad}
theorem Xd (T:Tx K mg a):FnOk P w K mg base CX0 2 a.jF a.jy ["value"] JG:=by
 have Zi:FnOk P w K mg base CX0 1 a.Jn a.Ji ["value"] Xe:=wr T
 refine T.xk.ok yx (fun vs H Q E h=> ?_) (fun cdv A outer s H vs Q E hr h=> ?_)
 ·obtain⟨v,d,rfl,_⟩:=h
  rfl
 obtain⟨v,d,rfl,hv,k⟩:=h
 refine⟨_,(@qb _ _ _ _ _ (@qB _ _ (1) _ _ _ _ yx.nd rfl (Or.inl rfl) (@qi _ _ _ _) (by trivial) (by trivial)) (@qb _ _ _ _ _ (@qB _ _ (2) _ _ _ _ yx.nd rfl (Or.inl rfl) (@Qu _ _ _ _ (@qa _ _ _ _ _ (@qP _ _ _ _ _ (@qa _ _ _ _ _ (pv 0) (@qa _ _ _ _ _ (@qi _ _ _ _) (@qc _) (by trivial)) (by trivial))) (@qc _) (by trivial))) (by trivial) (by trivial)) (@qb _ _ _ _ _ (@ps_while _ _ _ _ _ _ PassesOwn.never (@pt_truth _ _ _ (pv 2) (fun _=>rfl)) (@qb _ _ _ _ _ (@qB _ _ (3) _ _ _ _ yx.nd rfl (Or.inl rfl) (@pe_bm0 _ _ _ _ _ _ _ _ _ PySem.F.plainAttrs_list PySem.F.slot_list_pop PySem.F.type_list_pop (@mt_pop _) (pv 2) (by trivial) (by trivial)) (by trivial) (by trivial)) (@qb _ _ _ _ _ (@qB _ _ (4) _ _ _ _ yx.nd rfl (Or.inl rfl) (@qL _ _ _ _ _ _ _ (@Qk _) (pv 3) (@qi _ _ _ _) (fun _ _=>rfl)) (by trivial) (by trivial)) (@qb _ _ _ _ _ (@qB _ _ (5) _ _ _ _ yx.nd rfl (Or.inr rfl) (@qL _ _ _ _ _ _ _ (@Qk _) (pv 3) (@qi _ _ _ _) (fun _ _=>rfl)) (by trivial) (by trivial)) (@qb _ _ _ _ _ (@qI _ _ _ _ _ _ _ _ (@xL _ _ _ _ _ _ _ (@qT _ _ _ (@qj _ _ _ _ _ _ _ _ _ (@qw _ _ rfl) (by rfl) T.qt boot_isinstance (@qa _ _ _ _ _ (pv 4) (@qa _ _ _ _ _ (@qV _ _ (.ty "tuple") _ _ (by rfl) T.Qi boot_tuple rfl (by trivial) (by trivial)) (@qc _) (by trivial)) (by trivial)) (by trivial) (by trivial) (by trivial) (by trivial)) (by trivial)) (@Jy _ _ _ _ (@qp _ _ _ _ _ _ _ _ (@op_le _) (@qj _ _ _ _ _ _ _ _ _ (@zj _) (by rfl) T.ye PySem.boot_len (@qa _ _ _ _ _ (pv 4) (@qc _) (by trivial)) (by trivial) (by trivial) (by trivial) (by trivial)) (@pe_gI _ _ _ _ (by rfl) T.m_MOST_PARTS (by trivial)) (qz _)))).pt (@qb _ _ _ _ _ (@ps_aug _ _ (1) _ _ _ _ _ _ yx.nd rfl (Or.inl rfl) (@qi _ _ _ _) ip_add (by trivial)) (@qe _ _ _ (@jq _ _ _ _ (@Xx _ _ _ _ _ _ _ _ _ _ _ _ PySem.F.plainAttrs_list PySem.F.slot_list_extend PySem.F.type_list_extend (@mt_extend _) (pv 2) (@qa _ _ _ _ _ (@Xi _ _ (["below","depth"]) (1) ([5]) _ _ _ _ _ _ _ _ _ (lcsN (qg YY) ["value","size","waiting","pair","part","depth"]) rfl (@JC _ _ _ _ (pv 4)) (fun _ _ _ _ _ _=>(@Qm _ _ (0) _ (show List.Nodup (["below","depth"]:List Str) by decide+kernel) rfl (Or.inl rfl) (by trivial))) (fun _ _ _ _ _ _=> @yC _) (fun _ _ _ _ _ _=>(@qP _ _ _ _ _ (@qa _ _ _ _ _ (pv 0) (@qa _ _ _ _ _ (@qD _ _ _ _ _ _ _ _ (@Qb _) (pv 1) (@qi _ _ _ _)) (@qc _) (by trivial)) (by trivial)))) (by trivial)) (@qc _) (by trivial)) (by trivial) (by trivial) (by trivial) (by trivial) (by trivial)) (by trivial)))) (@qe _ _ _ (@qI _ _ _ _ _ _ _ _ (@qT _ _ _ (@qA _ _ _ _ _ _ _ _ _ _ _ _ _ _ _ _ Zi (hr.mono (by first|decide|omega)) (by rfl) T.m_is_text T.zZ.kp T.b_is_text .nil qQ (@qa _ _ _ _ _ (pv 4) (@qc _) (by trivial)) (by trivial) (by trivial) (by trivial)) (by trivial)) (@qe _ _ _ (@ps_aug _ _ (1) _ _ _ _ _ _ yx.nd rfl (Or.inl rfl) (@qD _ _ _ _ _ _ _ _ (@Qb _) (@qi _ _ _ _) (@qj _ _ _ _ _ _ _ _ _ (@zj _) (by rfl) T.ye PySem.boot_len (@qa _ _ _ _ _ (pv 4) (@qc _) (by trivial)) (by trivial) (by trivial) (by trivial) (by trivial))) ip_add (by trivial))) (@qe _ _ _ (@qk _ _ _ _ (@Jv _ _ _ _)))))) (@qe _ _ _ (@qI _ _ _ _ _ _ _ _ (@Jd _ _ _ _ _ _ _ (@qp _ _ _ _ _ _ _ _ (@XY _) (pv 5) (@pe_gI _ _ _ _ (by rfl) T.m_MOST_DEPTH (by trivial)) (qz _)) (@jf _ _ _ _ (@qp _ _ _ _ _ _ _ _ (@XY _) (pv 1) (@pe_gI _ _ _ _ (by rfl) T.m_MOST_SIZE (by trivial)) (qz _)))).pt (@qe _ _ _ (@qk _ _ _ _ (@Jv _ _ _ _))) (@qr _)))))))) (@qe _ _ _ (@qk _ _ _ _ (@Jv _ _ _ _)))))),?_⟩
 have no:∀{H':Hp}{w:List (D×Nat)}{n:Nat},Same H H'→G w n=isT d→G w n=false→Q (.bl false) H':=fun{H' w n} sm e1 e2=>by
  have q:=k H' sm
  rw [←e1,e2] at q
  exact q
 refine⟨_,rfl,(by show 2≤sizeLine;decide),fun t1 h1=>⟨(by show 1≤sizeLine;decide),fun L hL=> ?_⟩⟩
 have s1:Same H (upd H t1 (.tup [v,.int 1])):=qd h1 _
 have s2:Same H (upd (upd H t1 (.tup [v,.int 1])) L (.lst [.ref t1])):=s1.trans (qd hL _)
 have hLH:H L=none:=s1.free hL
 have i1:Is (upd H t1 (.tup [v,.int 1])) (pr (d,1)) (.ref t1):=Is.new (ds:= [d,.int 1]) ⟨v,_,rfl,hv,_,_,rfl,rfl,rfl⟩ h1
 refine⟨Wt v d H L,⟨_,0,[(d,1)],[.ref t1],none,none,none,rfl,s2,qf,IsL.one (i1.mono (qd hL _).tk),G_start d,by omega,by simp,rfl⟩,?_⟩
 rintro m σ H' ⟨n,w,ws,x3,x4,x5,rfl,sm,hl,hw,hG,hn,hwl,rfl⟩
 refine⟨_,rfl,!ws.isEmpty,.inl ⟨ws,SqL.of hl,rfl⟩,?_⟩
 rcases List.eq_nil_or_concat w with rfl|⟨w',⟨e,j⟩,rfl⟩
 ·cases(show ws= [] from hw)
  refine iteF ?_
  have q:=k H' sm
  rw [←hG,G_nil hn] at q
  exact q
 ·rw [List.concat_eq_append] at*
  rw [map_snoc] at hw
  obtain⟨us,x,rfl,hu,hx⟩:=hw.unsnoc
  have ne:(!(us++ [x]).isEmpty)=true:=by simp
  rw [ne]
  refine iteT ⟨fun σ' H''=>∃m',m'<ndL ((w'++ [(e,j)]).map (·.1))∧Wt v d H L m' σ' H'',fun _ _ h=>h,?_⟩
  have hm:ndL ((w'++ [(e,j)]).map (·.1))=ndL (w'.map (·.1))+nd e:=by
   rw [map_snoc,Xn];simp [ndL]
  have hwl':w'.length≤40*n:=by
   rw [List.length_append,List.length_singleton] at hwl;omega
  have lu:=hu.length
  rw [List.length_map] at lu
  refine⟨_,rfl,.inl ⟨rfl,_,SqL.of hl⟩,L,_,x,rfl,rfl,hl,last_at us x,?_⟩
  rw [drop_last]
  have t2:Tk H' (upd H' L (.lst us)):=Tk.updL hl
  have sm2:Same H (upd H' L (.lst us)):=fun b o z=>by rw [qu (qm z hLH)];exact sm b o z
  have hx2:Is (upd H' L (.lst us)) (.tup [e,.int (j:Int)]) x:=hx.mono t2
  have hu2:IsL (upd H' L (.lst us)) (w'.map pr) us:=hu.mono t2
  have hl2:upd H' L (.lst us) L=some (.lst us):=qf
  generalize upd H' L (.lst us)=H2 at t2 sm2 hx2 hu2 hl2⊢
  clear t2 hl hx hu sm
  refine⟨_,rfl,jT (i:=0) hx2 rfl fun y hy=> ?_⟩
  refine⟨_,rfl,jT (i:=1) hx2 rfl fun y1 hy1=> ?_⟩
  cases(show y1= .int (j:Int) from hy1)
  have tail:∀(n':Nat) (w2:List (D×Nat)) (ws2:List V) (H3:Hp),Same H H3→H3 L=some (.lst ws2)→IsL H3 (w2.map pr) ws2→(j≤12→n'≤600→G w2 n'=isT d)→(12<j∨600<n'→isT d=false)→w2.length≤1+40*n'→ndL (w2.map (·.1))<ndL ((w'++ [(e,j)]).map (·.1))→
    ∃v_1,[some v,some (V.int (n':Int)),some (V.ref L),some x,some y,some (V.int (j:Int))][5]? =some (some v_1)∧∃i i_1,v_1=V.int i∧V.int 12=V.int i_1∧∃k,V.bl (decide (i_1<i))=V.bl k∧
     if k=true then if true=true then Q (.bl false) H3 else∃m',m'<ndL ((w'++ [(e,j)]).map (·.1))∧Wt v d H L m' [some v,some (V.int (n':Int)),some (V.ref L),some x,some y,some (V.int (j:Int))] H3
     else∃v_2,[some v,some (V.int (n':Int)),some (V.ref L),some x,some y,some (V.int (j:Int))][1]? =some (some v_2)∧∃i i_1,v_2=V.int i∧V.int 600=V.int i_1∧∃k,V.bl (decide (i_1<i))=V.bl k∧
      if k=true then Q (.bl false) H3 else∃m',m'<ndL ((w'++ [(e,j)]).map (·.1))∧Wt v d H L m' [some v,some (V.int (n':Int)),some (V.ref L),some x,some y,some (V.int (j:Int))] H3:=by
   intro n' w2 ws2 H3 s3 l3 i3 g3 b3 len3 m3
   have bad:isT d=false→Q (.bl false) H3:=fun e=>by
    have q:=k H3 s3
    rw [e] at q
    exact q
   refine⟨_,rfl,_,_,rfl,rfl,_,rfl,?_⟩
   refine ite2 (fun c=>iteT (bad (b3 (.inl ?_)))) (fun c=>⟨_,rfl,_,_,rfl,rfl,_,rfl,?_⟩)
   ·have:=of_decide_eq_true c;omega
   ·have c':¬(12:Int)<(j:Int):=fun q=>c (decide_eq_true q)
    refine ite2 (fun c2=>bad (b3 (.inr ?_))) (fun c2=> ?_)
    ·have:=of_decide_eq_true c2;omega
    ·have c2':¬(600:Int)<(n':Int):=fun q=>c2 (decide_eq_true q)
     exact⟨_,m3,n',w2,ws2,_,_,_,rfl,s3,l3,i3,g3 (by omega) (by omega),by omega,len3,rfl⟩
  refine⟨_,rfl,y,"tuple",tyD e,xV e,rfl,hy.ty,Y6 e,_,rfl,?_⟩
  cases e with
  |tup xs=>
   refine iteT ?_
   obtain⟨a0,vs,rfl,ha0,hvs⟩:=hy
   have lv:=hvs.length
   refine⟨_,rfl,_,vs.length,rfl,.inr ⟨vs,SqT.of ha0,rfl⟩,_,_,rfl,rfl,_,rfl,?_⟩
   refine ite2 (fun c=> ?_) (fun c=> ?_)
   ·have c':(vs.length:Int)≤40:=of_decide_eq_true c
    refine⟨_,rfl,_,_,rfl,rfl,?_⟩
    refine⟨_,rfl,.inl ⟨rfl,_,SqL.of hl2⟩,_,rfl,a0,vs,rfl,SqT.of ha0,fun hvl A0 hA0=> ?_⟩
    refine xa (tl:= [some (.int (j:Int))]) (fun d0=> .tup [d0,.int ((j+1:Nat):Int)]) ha0 hvs (fits (by omega)) hA0 (fun d0 x0 H3 R _ s3 i3 r=> ?_) fun H3 ys s3 l3 i3=> ?_
    ·refine⟨_,rfl,_,rfl,_,_,rfl,rfl,(by show 2≤sizeLine;decide),fun p hp=> ?_⟩
     exact r _ _ (qd hp _) (Is.new (ds:= [d0,.int ((j+1:Nat):Int)]) ⟨x0,_,rfl,i3,_,_,rfl,rfl,rfl⟩ hp)
    ·have ly:=i3.length
     rw [List.length_map] at ly
     have eA:A0≠L:=fun z=>by rw [z,hl2] at hA0;cases hA0
     refine⟨L,A0,us,ys,rfl,rfl,s3 _ _ hl2,l3,fits (by omega),?_⟩
     have t4:Tk H3 (upd H3 L (.lst (us++ys))):=Tk.updL (s3 _ _ hl2)
     have em:(w'++xs.map fun d0=>(d0,j+1)).map pr=w'.map pr++xs.map fun d0=> .tup [d0,.int ((j+1:Nat):Int)]:=by
      rw [List.map_append,List.map_map];rfl
     have ef:(w'++xs.map fun d0=>(d0,j+1)).map (·.1)=w'.map (·.1)++xs:=by
      rw [List.map_append,List.map_map]
      congr 1
      exact List.map_id xs
     refine tail (n+1) (w'++xs.map fun d0=>(d0,j+1)) (us++ys) _ (fun b o z=>by rw [qu (qm z hLH)];exact s3 b o (sm2 b o z)) qf (by rw [em];exact((hu2.mono s3.tk).mono t4).append (i3.mono t4)) (fun h1 h2=> ?_) (fun h=> ?_) ?_ ?_
     ·rw [←hG,G_tup (by omega) h1]
     ·rw [←hG]
      rcases h with h|h
      ·exact G_deep h
      ·exact G_big1 h
     ·rw [List.length_append,List.length_map];omega
     ·rw [ef,hm,Xn]
      simp only [nd]
      omega
   ·have c':¬(vs.length:Int)≤40:=fun q=>c (decide_eq_true q)
    refine⟨_,rfl,_,.tup xs,rfl,(show Is _ (.tup xs) (.ref a0) from⟨a0,vs,rfl,ha0,hvs⟩),_,rfl,?_⟩
    refine iteF ?_
    refine no sm2 hG (G_bad ?_)
    simp only [good]
    rw [decide_eq_false (by omega)]
    rfl
  |str z=>
   refine iteF ?_
   obtain⟨rfl,hz⟩:=hy
   refine⟨_,rfl,_,.str z,rfl,⟨rfl,hz⟩,_,rfl,?_⟩
   cases ht:yu z with
   |false=>
    have e1:isTx (.str z)=false:=ht
    rw [e1]
    refine iteF ?_
    refine no sm2 hG (G_bad ?_)
    simp only [good]
    exact ht
   |true=>
    have e1:isTx (.str z)=true:=ht
    rw [e1]
    refine iteT ?_
    refine⟨_,rfl,_,rfl,_,z.length,rfl,⟨hz,rfl⟩,_,_,rfl,rfl,_,_,rfl,rfl,?_⟩
    have en:(n:Int)+(1+(z.length:Int))=((n+(1+z.length):Nat):Int):=by omega
    show∃v_1,[some v,some (V.int ((n:Int)+(1+(z.length:Int)))),some (V.ref L),some x,some (V.str z),some (V.int (j:Int))][5]? =some (some v_1)∧_
    rw [en]
    refine tail (n+(1+z.length)) w' us _ sm2 hl2 hu2 (fun h1 h2=> ?_) (fun h=> ?_) (by omega) (by rw [hm];simp only [nd];omega)
    ·rw [←hG,G_str ht h1]
    ·rw [←hG]
     rcases h with h|h
     ·exact G_deep h
     ·refine G_big ?_
      simp only [sz]
      omega
  |_=>
   refine iteF ?_
   refine⟨_,rfl,_,_,rfl,hy,_,rfl,?_⟩
   exact iteF (no sm2 hG (G_bad rfl))
end
end K13
namespace K13
open PySem L2 PyProof.Rows
def LET:Str:="abcdefghijklmnopqrstuvwxyz"
def NSG:Str:="abcdefghijklmnopqrstuvwxyz0123456789./"
def nm (z:Str):Bool:=decide (1≤(z.length:Int))&&decide ((z.length:Int)≤24)&&inS ⟨#[z.cps.getD 0 0]⟩ LET&&(z.cps.toList.map fun c=>inS ⟨#[c]⟩ NSG).all id
def isNm:D→Bool
 | .str z=>nm z
 |_=>false
def Wb:Sp:=fun vs H Q _=>∃v d,vs= [v]∧Is H d v∧∀H',Same H H'→Q (.bl (isNm d)) H'
section
variable {P:Program}{w:World}{K:PySem.W.Frag}{mg:Str→Option Value}{base:Heap}{a:Ad}
theorem zi {z:Str}(h:1≤z.length):atI z.cps.toList 0=some (z.cps.getD 0 0):=by
 have h':0<z.cps.size:=h
 have q:z.cps.toList[0]? =some (z.cps.getD 0 0):=by simp [Array.getD,h']
 exact QI q
theorem allMap (z:Str):(z.cps.toList.map fun c=>V.bl (inS ⟨#[c]⟩ NSG))=(z.cps.toList.map fun c=>inS ⟨#[c]⟩ NSG).map V.bl:=by
 rw [List.map_map]
 rfl
theorem nm_len {z:Str}(h:¬(1≤(z.length:Int)∧(z.length:Int)≤24)):nm z=false:=by
 unfold nm
 by_cases h1:1≤(z.length:Int)
 ·have h2:¬(z.length:Int)≤24:=fun q=>h ⟨h1,q⟩
  rw [decide_eq_false h2]
  simp
 ·rw [decide_eq_false h1]
  simp
theorem nm_first {z:Str}(h:inS ⟨#[z.cps.getD 0 0]⟩ LET=false):nm z=false:=by
 unfold nm
 rw [h]
 simp
theorem nm_rest {z:Str}(h1:1≤(z.length:Int))(h2:(z.length:Int)≤24)(h:inS ⟨#[z.cps.getD 0 0]⟩ LET=true):nm z=(z.cps.toList.map fun c=>inS ⟨#[c]⟩ NSG).all id:=by
 unfold nm
 rw [h,decide_eq_true h1,decide_eq_true h2]
 simp
theorem ok_name (T:Tx K mg a):FnOk P w K mg base CX0 1 a.jJ a.jD ["value"] Wb:=by
 refine T.xY.ok sc_is_name (fun vs H Q E h=> ?_) (fun cdv A outer s H vs Q E hr h=> ?_)
 ·obtain⟨x,d,rfl,_⟩:=h
  rfl
 obtain⟨x,d,rfl,hv,k⟩:=h
 refine⟨_,(@qb _ _ _ _ _ (@qI _ _ _ _ _ _ _ _ (@Jd _ _ _ _ _ _ _ (@Qo _ _ _ _ (@qT _ _ _ (@qj _ _ _ _ _ _ _ _ _ (@qw _ _ rfl) (by rfl) T.qt boot_isinstance (@qa _ _ _ _ _ (pv 0) (@qa _ _ _ _ _ (@qV _ _ (.ty "str") _ _ (by rfl) T.yI boot_str rfl (by trivial) (by trivial)) (@qc _) (by trivial)) (by trivial)) (by trivial) (by trivial) (by trivial) (by trivial)) (by trivial))) (@jf _ _ _ _ (@Qo _ _ _ _ (@pt_chain _ _ _ _ _ _ _ _ _ _ _ _ (@op_le _) (@op_le _) (@qi _ _ _ _) (@qj _ _ _ _ _ _ _ _ _ (@Jf _) (by rfl) T.ye PySem.boot_len (@qa _ _ _ _ _ (pv 0) (@qc _) (by trivial)) (by trivial) (by trivial) (by trivial) (by trivial)) (@pe_gI _ _ _ _ (by rfl) T.Xo (by trivial)) (by trivial))))).pt (@qe _ _ _ (@qk _ _ _ _ (@Jv _ _ _ _))) (@qr _)) (@qb _ _ _ _ _ (@qI _ _ _ _ _ _ _ _ (@qp _ _ _ _ _ _ _ _ (@Xz _) (@qL _ _ _ _ _ _ _ (@ix_str _) (pv 0) (@qi _ _ _ _) (fun _ _=>rfl)) (@pe_gS _ _ _ _ (by rfl) T.m_LETTERS (by trivial)) (by with_unfolding_all rfl)) (@qe _ _ _ (@qk _ _ _ _ (@Jv _ _ _ _))) (@qr _)) (@qe _ _ _ (@qk _ _ _ _ (@qj _ _ _ _ _ _ _ _ _ (@YZ _ rfl) (by rfl) T.z_all boot_all (@qa _ _ _ _ _ (@Xi _ _ (["sign"]) (1) ([]) _ _ _ _ _ _ _ _ _ (lcs0) rfl (@pi_str _ _ _ _ (pv 0)) (fun _ _ _ _ _ _=>(@Qm _ _ (0) _ (show List.Nodup (["sign"]:List Str) by decide+kernel) rfl (Or.inl rfl) (by trivial))) (fun _ _ _ _ _ _=> @yC _) (fun _ _ _ _ _ _=>(@Q0 _ _ _ _ _ _ _ _ (@op_in_str _) (pv 0) (@pe_gS _ _ _ _ (by rfl) T.m_NAME_SIGNS (by trivial)) (by with_unfolding_all rfl))) (by trivial)) (@qc _) (by trivial)) (by trivial) (by trivial) (by trivial) (by trivial)))))),?_⟩
 refine⟨_,rfl,x,"str",tyD d,Qd d,rfl,hv.ty,QB d,_,rfl,?_⟩
 cases hd:Qd d with
 |false=>
  refine iteT (iteT ?_)
  have:=k H (Same.refl H)
  have e:isNm d=false:=by cases d<;>first|rfl|simp [Qd] at hd
  rw [e] at this
  exact this
 |true=>
  obtain⟨z,rfl⟩:∃z,d= .str z:=by cases d<;>simp [Qd] at hd;exact⟨_,rfl⟩
  obtain⟨rfl,hz⟩:=hv
  have k:∀H',Same H H'→Q (.bl (nm z)) H':=k
  refine iteF ?_
  refine⟨_,rfl,z,rfl,hz,_,_,rfl,rfl,_,rfl,?_⟩
  have stop:nm z=false→Q (.bl false) H:=fun e=>by
   have:=k H (Same.refl H)
   rw [e] at this
   exact this
  refine ite2 (fun c1=> ?_) (fun c1=> ?_)
  ·have c1':1≤(z.length:Int):=of_decide_eq_true c1
   refine⟨_,_,rfl,rfl,_,rfl,?_⟩
   by_cases c2:(z.length:Int)≤24
   ·rw [decide_eq_true c2]
    refine iteF ?_
    refine⟨_,rfl,_,_,_,rfl,rfl,hz,zi (by omega),_,_,rfl,rfl,_,rfl,?_⟩
    cases e:inS ⟨#[z.cps.getD 0 0]⟩ LET with
    |false=>
     have e':(!(Builtin.Str.occurrences ("abcdefghijklmnopqrstuvwxyz":Str) ⟨#[z.cps.getD 0 0]⟩ 0 ("abcdefghijklmnopqrstuvwxyz":Str).length 1).isEmpty)=false:=e
     rw [e']
     refine iteT ?_
     exact stop (nm_first e)
    |true=>
     have e':(!(Builtin.Str.occurrences ("abcdefghijklmnopqrstuvwxyz":Str) ⟨#[z.cps.getD 0 0]⟩ 0 ("abcdefghijklmnopqrstuvwxyz":Str).length 1).isEmpty)=true:=e
     rw [e']
     refine iteF ?_
     refine⟨_,rfl,z,rfl,fun D hD=> ?_⟩
     refine lc_str (fun c=> .bl (inS ⟨#[c]⟩ NSG)) (hz) hD (fun i c H' R hc sm r=>⟨_,rfl,_,_,rfl,rfl,r⟩) fun H' sm hl=> ?_
     refine⟨D,z.cps.toList.map fun c=>inS ⟨#[c]⟩ NSG,rfl,SqL.of (by rw [hl,allMap]),?_⟩
     have:=k H' sm
     rw [nm_rest c1' c2 e] at this
     exact this
   ·rw [decide_eq_false c2]
    refine iteT ?_
    exact stop (nm_len fun q=>c2 q.2)
  ·refine⟨_,rfl,?_⟩
   refine iteT ?_
   exact stop (nm_len fun q=>c1 (decide_eq_true q.1))
end
end K13
namespace K13
open PySem L2 PyProof.Rows
def sp_part:Sp:=fun vs H Q _=>∃(n m:Nat) (kd:Kd) (q:Pt),vs= [.str kd.t,.str q.t,.int (n:Int)]∧n≤40∧m≤160∧ptOk n m kd q∧∀(v:V) (H':Hp),Same H H'→Is H' q.d v→Q v H'
section
variable {P:Program}{w:World}{K:PySem.W.Frag}{mg:Str→Option Value}{base:Heap}{a:Ad}{g:Ga}
theorem ok_part (T:Tx K mg a)(C:Fx K w mg g a):FnOk P w K mg base CX0 1 a.xu a.xv ["kind","piece","count"] sp_part:=by
 refine T.F_part_of.ok Z8 (fun vs H Q E h=> ?_) (fun cdv A outer s H vs Q E hr h=> ?_)
 ·obtain⟨n,m,kd,q,rfl,_⟩:=h
  rfl
 obtain⟨n,m,kd,q,rfl,hn,hm,hq,k⟩:=h
 refine⟨_,(@qb _ _ _ _ _ (@qI _ _ _ _ _ _ _ _ (@qp _ _ _ _ _ _ _ _ (@QL _) (pv 0) (@qh _ _ _ _) (qz _)) (@qe _ _ _ (@qk _ _ _ _ (pv 1))) (@qr _)) (@qb _ _ _ _ _ (@qI _ _ _ _ _ _ _ _ (@qp _ _ _ _ _ _ _ _ (@QL _) (pv 0) (@qh _ _ _ _) (qz _)) (@qe _ _ _ (@qk _ _ _ _ (@jg _ _ _ _ _ _ _ _ (@qp _ _ _ _ _ _ _ _ (@QX _) (pv 1) (@pe_gR _ _ _ _ (by rfl) C.m_BOXES (by trivial)) (by with_unfolding_all rfl)) (pv 1) (@Qn _ _ _)))) (@qr _)) (@qb _ _ _ _ _ (@ps_setLC _ _ (["number"]) (1) ([]) (3) _ _ _ _ _ _ _ _ _ _ _ _ Z8.nd rfl (Or.inl rfl) (lcs0) rfl (@pi_range2 _ _ _ _ _ _ _ (by rfl) T.zV (@qa _ _ _ _ _ (@qi _ _ _ _) (@qa _ _ _ _ _ (@qD _ _ _ _ _ _ _ _ (@Qb _) (pv 2) (@qi _ _ _ _)) (@qc _) (by trivial)) (by trivial)) (by trivial) (by trivial)) (fun _ _ _ _ _ _=>(@Qm _ _ (0) _ (show List.Nodup (["number"]:List Str) by decide+kernel) rfl (Or.inl rfl) (by trivial))) (fun _ _ _ _ _ _=> @yC _) (fun _ _ _ _ _ _=>(@qH _ _ _ _ _ _ _ _ _ (@QA _) (by rfl) T.yI boot_str (@qa _ _ _ _ _ (pv 0) (@qc _) (by trivial)) (by trivial) (by trivial) (by trivial) (by trivial))) (by trivial) (by trivial) (by trivial)) (@qe _ _ _ (@qk _ _ _ _ (@jg _ _ _ _ _ _ _ _ (@qp _ _ _ _ _ _ _ _ (@QX _) (pv 1) (pv 3) (by with_unfolding_all rfl)) (@qH _ _ _ _ _ _ _ _ _ (@call_intS _) (by rfl) T.z_int boot_int (@qa _ _ _ _ _ (pv 1) (@qc _) (by trivial)) (by trivial) (by trivial) (by trivial) (by trivial)) (@Qn _ _ _))))))),?_⟩
 refine⟨_,rfl,rfl,_,rfl,?_⟩
 cases kd with
 |words=>
  have e:decide (V.str Kd.words.t=V.str ("words":Str))=true:=by decide+kernel
  rw [e]
  refine iteT ⟨_,rfl,?_⟩
  cases q with
  |n i=>exact hq.elim
  |s z=>exact k _ H (Same.refl _) ⟨rfl,qU (by have:=hq.1;show z.length≤1000;omega)⟩
 |box=>
  have e:decide (V.str Kd.box.t=V.str ("words":Str))=false:=by decide+kernel
  rw [e]
  refine iteF ⟨_,rfl,rfl,_,rfl,?_⟩
  have e:decide (V.str Kd.box.t=V.str ("box":Str))=true:=by decide+kernel
  rw [e]
  cases q with
  |n i=>exact hq.elim
  |s z=>
   have hz:z∈BX:=hq
   refine iteT ⟨_,rfl,g.boxes,_,rfl,.inr (C.boxes _),rfl,zm _,_,rfl,?_⟩
   have e:inV (.str (Pt.s z).t) (BX.map V.str)=true:=by rw [J8];exact decide_eq_true hz
   rw [if_neg Bool.false_ne_true,e]
   refine iteT ⟨_,rfl,?_⟩
   exact k _ H (Same.refl _) ⟨rfl,qU (by rw [(we hz).1];decide)⟩
 |line=>
  have e:decide (V.str Kd.line.t=V.str ("words":Str))=false:=by decide+kernel
  rw [e]
  refine iteF ⟨_,rfl,rfl,_,rfl,?_⟩
  have e:decide (V.str Kd.line.t=V.str ("box":Str))=false:=by decide+kernel
  rw [e]
  cases q with
  |s z=>exact hq.elim
  |n j=>
   refine iteF ?_
   refine⟨_,rfl,_,_,rfl,rfl,1,(n:Int)+1,rfl,⟨by decide,by decide,by omega,by omega⟩,fun L hL=> ?_⟩
   rw [show((n:Int)+1-1).toNat=n by omega]
   refine lc_range (lo:=1) (tl:= []) (fun i ys H'=>ys=(List.range i).map (fun i:Nat=>V.str (toString (1+(i:Int))))∧Same H H') (fits (by omega)) ⟨rfl,qd hL _⟩ ?_ ?_
   ·rintro i ys H' hi ⟨rfl,sm⟩ hL' hy R hR
    refine⟨_,rfl,_,rfl,?_,hR _ _ hL' ⟨?_,?_⟩⟩
    ·have h1:(1+(i:Int)).natAbs≤41:=by omega
     have h2:=Nat.log2_le_self (1+(i:Int)).natAbs
     omega
    ·rw [List.range_succ,List.map_append]
     rfl
    ·intro b o e
     rw [qu (qm e hL)]
     exact sm b o e
   ·rintro ys H' ⟨rfl,sm⟩ hL'
    have hy:(List.range n).map (fun i:Nat=>V.str (toString (1+(i:Int))))=((List.range n).map fun i:Nat=>(toString (1+(i:Int)):Str)).map V.str:=by rw [List.map_map];rfl
    refine⟨_,rfl,_,rfl,L,_,rfl,.inl (SqL.of hL'),rfl,by rw [hy];exact zm _,_,rfl,?_⟩
    have e:inV (.str (Pt.n j).t) ((List.range n).map (fun i:Nat=>V.str (toString (1+(i:Int)))))=true:=by
     rw [hy,J8]
     refine decide_eq_true (List.mem_map.mpr ⟨(j-1).toNat,List.mem_range.mpr ?_,?_⟩)
     ·have:=hq.1
      have:=hq.2
      omega
     ·have:=hq.1
      rw [show(1:Int)+(((j-1).toNat:Nat):Int)=j by omega]
      rfl
    rw [if_neg Bool.false_ne_true,e]
    have hj:=yc hq.1 (by have:=hq.2;omega)
    exact iteT ⟨_,rfl,_,j,rfl,num_back hq.1 (by have:=hq.2;omega),Nat.le_trans hj.1 (by decide),k _ _ sm rfl⟩
end
end K13
namespace K13
open PySem L2 PyProof.Rows
def sp_pieces (K:PySem.W.Frag):Sp:=fun vs H Q _=>∃(n m:Nat) (r:Rw) (ks:List Kd) (q:Addr),vs= [.str (qC r),.ref q]∧n≤40∧(qC r).length≤1000∧(r.1,ks)∈FRM∧jo n m ks r.2∧SqT K H q (ks.map fun k=>V.str k.t)∧∀p,H p=none→Q (.ref p) (upd H p (.lst ((txs r).map V.str)))
theorem qN (ks:List Kd):(ks.map fun k=>V.str k.t)=(ks.map Kd.t).map V.str:=by rw [List.map_map];rfl
theorem words_in (ks:List Kd):inV (.str "words") (ks.map fun k=>V.str k.t)=decide (Kd.words∈ks):=by
 rw [qN,J8,decide_eq_decide,List.mem_map]
 constructor
 ·rintro⟨k,hk,e⟩
  cases k with
  |words=>exact hk
  |box=>exact absurd e (by decide+kernel)
  |line=>exact absurd e (by decide+kernel)
 ·intro h
  exact⟨_,h,rfl⟩
theorem form_few:∀x∈FRM,x.2.length≤3:=by decide+kernel
section
variable {P:Program}{w:World}{K:PySem.W.Frag}{mg:Str→Option Value}{base:Heap}{a:Ad}{g:Ga}
theorem ok_pieces (T:Tx K mg a):FnOk P w K mg base CX0 1 a.jY a.j6 ["line","form"] (sp_pieces K):=by
 refine T.zJ.ok sc_pieces_of (fun vs H Q E h=> ?_) (fun cdv A outer s H vs Q E hr h=> ?_)
 ·obtain⟨n,m,r,ks,q,rfl,_⟩:=h
  rfl
 obtain⟨n,m,r,ks,q,rfl,hn,hz,hk,hp,hq,k⟩:=h
 refine⟨_,(@qb _ _ _ _ _ (@qI _ _ _ _ _ _ _ _ (@qp _ _ _ _ _ _ _ _ (@QX _) (@qh _ _ _ _) (pv 1) (by with_unfolding_all rfl)) (@qe _ _ _ (@qk _ _ _ _ (@Xx _ _ _ _ _ _ _ _ _ _ _ _ PySem.F.plainAttrs_str PySem.F.slot_str_split PySem.F.type_str_split (@mt_splitN _) (pv 0) (@qa _ _ _ _ _ (@qh _ _ _ _) (@qa _ _ _ _ _ (@qj _ _ _ _ _ _ _ _ _ (@qM _) (by rfl) T.ye PySem.boot_len (@qa _ _ _ _ _ (pv 1) (@qc _) (by trivial)) (by trivial) (by trivial) (by trivial) (by trivial)) (@qc _) (by trivial)) (by trivial)) (by trivial) (by trivial) (by trivial) (by trivial) (by trivial)))) (@qr _)) (@qe _ _ _ (@qk _ _ _ _ (@Xx _ _ _ _ _ _ _ _ _ _ _ _ PySem.F.plainAttrs_str PySem.F.slot_str_split PySem.F.type_str_split (@mt_split _) (pv 0) (@qa _ _ _ _ _ (@qh _ _ _ _) (@qc _) (by trivial)) (by trivial) (by trivial) (by trivial) (by trivial) (by trivial))))),?_⟩
 have hs:=line_spl hn hk hp
 have hf:=form_few _ hk
 refine⟨_,rfl,q,_,rfl,.inr hq,rfl,by rw [qN];exact zm _,_,rfl,?_⟩
 rw [if_neg Bool.false_ne_true,words_in]
 refine ite2 (fun c=> ?_) (fun c=> ?_)
 ·have c':Kd.words∈ks:=of_decide_eq_true c
  rw [if_pos c'] at hs
  have h0:0<ks.length:=List.length_pos_iff.mpr fun e=>by rw [e] at c';simp at c'
  refine⟨_,rfl,rfl,_,rfl,q,_,rfl,.inr hq,_,ks.length,rfl,by rw [List.length_map],hz,h0,by simp only at hf;omega,fun p hp=> ?_⟩
  rw [hs]
  exact k p hp
 ·have c':Kd.words∉ks:=fun z=>c (decide_eq_true z)
  rw [if_neg c'] at hs
  refine⟨_,rfl,rfl,_,rfl,rfl,hz,fun p hp=> ?_⟩
  rw [hs]
  exact k p hp
end
end K13
namespace K13
open PySem L2 PyProof.Rows
def sp_row_of:Sp:=fun vs H Q _=>∃(n m:Nat) (r:Rw),vs= [.str (qC r),.int (n:Int)]∧n≤40∧m≤160∧(qC r).length≤300∧QP n m r∧∀(v:V) (H':Hp),Same H H'→Is H' (rowD r) v→Q v H'
theorem qo {c:Bool}{A B:Prop}(h:c=false)(b:B):if c=true then A else B:=by rw [if_neg (by rw [h];exact Bool.false_ne_true)];exact b
theorem qG {c:Bool}{A B:Prop}(h:c=true)(a:A):if c=true then A else B:=by rw [if_pos h];exact a
theorem vals_pt {H:Hp}:∀{ps:List Pt}{vs:List V},L2.IsL H (ps.map Pt.d) vs→vs.all Zk=true∧inV .non vs=false
 | [],_,h=>by cases(show _= [] from h);exact⟨rfl,rfl⟩
 |q::ps,_,h=>by
  obtain⟨v,r,rfl,h1,h2⟩:=h
  obtain⟨i1,i2⟩:=vals_pt h2
  have hv:Zk v=true∧eqV v .non=false:=by
   cases q with
   |s z=>obtain⟨rfl,_⟩:=h1;exact⟨rfl,rfl⟩
   |n i=>cases(show v= .int i from h1);exact⟨rfl,rfl⟩
  refine⟨?_,?_⟩
  ·rw [List.all_cons,hv.1,i1];rfl
  ·show(eqV v .non||inV .non r)=false
   rw [hv.2,i2];rfl
theorem range_parts (ps:List Pt)(f:Nat→D)(h:∀i q,ps[i]? =some q→f i=q.d):(List.range ps.length).map f=ps.map Pt.d:=by
 apply List.ext_getElem
 ·simp
 ·intro i h1 h2
  simp only [List.length_map,List.length_range] at h1
  simp only [List.getElem_map,List.getElem_range]
  exact h i ps[i] (List.getElem?_eq_getElem h1)
section
variable {P:Program}{w:World}{K:PySem.W.Frag}{mg:Str→Option Value}{base:Heap}{a:Ad}{g:Ga}
theorem ok_row_of (T:Tx K mg a)(C:Fx K w mg g a):FnOk P w K mg base CX0 2 a.zd a.X7 ["line","count"] sp_row_of:=by
 have Zi:FnOk P w K mg base CX0 1 a.Jn a.Ji ["value"] Xe:=wr T
 have G_part_of:FnOk P w K mg base CX0 1 a.xu a.xv ["kind","piece","count"] sp_part:=ok_part T C
 have G_pieces_of:FnOk P w K mg base CX0 1 a.jY a.j6 ["line","form"] (sp_pieces K):=ok_pieces T
 refine T.F_row_of.ok Jp (fun vs H Q E h=> ?_) (fun cdv A outer s H vs Q E hr h=> ?_)
 ·obtain⟨n,m,r,rfl,_⟩:=h
  rfl
 obtain⟨n,m,r,rfl,hn,hm,hll,hok,k⟩:=h
 have hla:=line_all hn hok
 have hlh:=line_hd hok
 obtain⟨ks,hk,hp⟩:=hok
 obtain⟨q,hfq,hft⟩:=C.forms _ hk
 have hf:=form_few _ hk
 have hpl:=XE hp
 simp only at hf
 refine⟨_,(@qb _ _ _ _ _ (@qI _ _ _ _ _ _ _ _ (@Qo _ _ _ _ (@qT _ _ _ (@qA _ _ _ _ _ _ _ _ _ _ _ _ _ _ _ _ Zi (hr.mono (by first|decide|omega)) (by rfl) T.m_is_text T.zZ.kp T.b_is_text .nil qQ (@qa _ _ _ _ _ (pv 0) (@qc _) (by trivial)) (by trivial) (by trivial) (by trivial)) (by trivial))) (@qe _ _ _ (@qk _ _ _ _ (@Qn _ _ _))) (@qr _)) (@qb _ _ _ _ _ (@qB _ _ (2) _ _ _ _ Jp.nd rfl (Or.inl rfl) (@qL _ _ _ _ _ _ _ (@Qk _) (@Xx _ _ _ _ _ _ _ _ _ _ _ _ PySem.F.plainAttrs_str PySem.F.slot_str_partition PySem.F.type_str_partition (@mt_part _) (pv 0) (@qa _ _ _ _ _ (@qh _ _ _ _) (@qc _) (by trivial)) (by trivial) (by trivial) (by trivial) (by trivial) (by trivial)) (@qi _ _ _ _) (fun _ _=>rfl)) (by trivial) (by trivial)) (@qb _ _ _ _ _ (@qI _ _ _ _ _ _ _ _ (@qp _ _ _ _ _ _ _ _ (@op_notK _) (pv 2) (@pe_gR _ _ _ _ (by rfl) C.m_FORMS (by trivial)) (by with_unfolding_all rfl)) (@qe _ _ _ (@qk _ _ _ _ (@Qn _ _ _))) (@qr _)) (@qb _ _ _ _ _ (@qB _ _ (3) _ _ _ _ Jp.nd rfl (Or.inl rfl) (@qL _ _ _ _ _ _ _ (@ix_K _) (@pe_gR _ _ _ _ (by rfl) C.m_FORMS (by trivial)) (pv 2) (fun _ _=>rfl)) (by trivial) (by trivial)) (@qb _ _ _ _ _ (@qB _ _ (4) _ _ _ _ Jp.nd rfl (Or.inl rfl) (@qA _ _ _ _ _ _ _ _ _ _ _ _ _ _ _ _ G_pieces_of (hr.mono (by first|decide|omega)) (by rfl) T.m_pieces_of T.zJ.kp T.b_pieces_of .nil qQ (@qa _ _ _ _ _ (pv 0) (@qa _ _ _ _ _ (pv 3) (@qc _) (by trivial)) (by trivial)) (by trivial) (by trivial) (by trivial)) (by trivial) (by trivial)) (@qb _ _ _ _ _ (@qI _ _ _ _ _ _ _ _ (@qp _ _ _ _ _ _ _ _ (@op_ne _) (@qj _ _ _ _ _ _ _ _ _ (@qM _) (by rfl) T.ye PySem.boot_len (@qa _ _ _ _ _ (pv 4) (@qc _) (by trivial)) (by trivial) (by trivial) (by trivial) (by trivial)) (@qD _ _ _ _ _ _ _ _ (@Qb _) (@qi _ _ _ _) (@qj _ _ _ _ _ _ _ _ _ (@qM _) (by rfl) T.ye PySem.boot_len (@qa _ _ _ _ _ (pv 3) (@qc _) (by trivial)) (by trivial) (by trivial) (by trivial) (by trivial))) (qz _)) (@qe _ _ _ (@qk _ _ _ _ (@Qn _ _ _))) (@qr _)) (@qb _ _ _ _ _ (@qB _ _ (5) _ _ _ _ Jp.nd rfl (Or.inl rfl) (@qH _ _ _ _ _ _ _ _ _ (@qO _) (by rfl) T.Qi boot_tuple (@qa _ _ _ _ _ (@Xi _ _ (["kind","piece","count"]) (2) ([1]) _ _ _ _ _ _ _ _ _ (lcsN (qg jO) ["line","count","word","form","pieces","parts"]) rfl (@pi_zip _ _ _ _ _ _ _ _ _ (by rfl) T.z_zip (@qa _ _ _ _ _ (pv 3) (@qa _ _ _ _ _ (@zf _ _ _ _ _ _ _ _ _ _ (@sl_list _) (pv 4) (@Wk _ _ _ (@qi _ _ _ _)) (@wX _)) (@qc _) (by trivial)) (by trivial)) (by trivial) (by trivial)) (fun _ _ _ _ _ _=>(@pg_tupK _ (K) _ _ _ (2) _ rfl rfl (xN (@Qm _ _ (0) _ (show List.Nodup (["kind","piece","count"]:List Str) by decide+kernel) rfl (Or.inl rfl) (by trivial)) (xN (@Qm _ _ (1) _ (show List.Nodup (["kind","piece","count"]:List Str) by decide+kernel) rfl (Or.inl rfl) (by trivial)) pgs_nil)) (by trivial) (by trivial))) (fun _ _ _ _ _ _=> @yC _) (fun _ _ _ _ _ _=>(@qA _ _ _ _ _ _ _ _ _ _ _ _ _ _ _ _ G_part_of (hr.mono (by first|decide|omega)) (by rfl) T.m_part_of T.F_part_of.kp T.b_part_of .nil qQ (@qa _ _ _ _ _ (pv 0) (@qa _ _ _ _ _ (pv 1) (@qa _ _ _ _ _ (pv 2) (@qc _) (by trivial)) (by trivial)) (by trivial)) (by trivial) (by trivial) (by trivial))) (by trivial)) (@qc _) (by trivial)) (by trivial) (by trivial) (by trivial) (by trivial)) (by trivial) (by trivial)) (@qe _ _ _ (@qk _ _ _ _ (@jg _ _ _ _ _ _ _ _ (@qp _ _ _ _ _ _ _ _ (@QX _) (@Qn _ _ _) (pv 5) (by with_unfolding_all rfl)) (@Qn _ _ _) (@qP _ _ _ _ _ (@qa _ _ _ _ _ (pv 2) (@qa _ _ _ _ _ (pv 5) (@qc _) (by trivial)) (by trivial))))))))))))),?_⟩
 have e0:isTx (.str (qC r))=true:=by
  show yu (qC r)=true
  unfold yu
  rw [hla,decide_eq_true (by omega)]
  rfl
 refine⟨_,rfl,_,.str (qC r),rfl,⟨rfl,qU (by omega)⟩,_,rfl,?_⟩
 rw [e0]
 refine iteF ?_
 refine⟨_,rfl,rfl,_,rfl,rfl,by omega,fun t1 x1 x2 g1=> ?_⟩
 refine⟨t1,_,0,_,rfl,rfl,SqT.of qf,rfl,?_⟩
 rw [hlh]
 have s1:Same H (upd H t1 (.tup [.str r.1,.str x1,.str x2])):=qd g1 _
 generalize upd H t1 (.tup [.str r.1,.str x1,.str x2])=H1 at s1⊢
 refine⟨_,rfl,r.1,g.forms,_,rfl,rfl,C.kd,hfq,_,rfl,?_⟩
 refine iteF ?_
 refine⟨_,rfl,r.1,g.forms,_,.ref q,rfl,rfl,C.kd,hfq,rfl,?_⟩
 refine⟨_,rfl,_,rfl,n,m,r,ks,q,rfl,hn,by omega,hk,hp,hft _,fun p2 g2=> ?_⟩
 have s2:Same H1 (upd H1 p2 (.lst ((txs r).map V.str))):=qd g2 _
 have e2:(upd H1 p2 (.lst ((txs r).map V.str))) p2=some (.lst ((txs r).map V.str)):=qf
 generalize upd H1 p2 (.lst ((txs r).map V.str))=H2 at s2 e2⊢
 refine⟨_,rfl,p2,_,rfl,.inl (SqL.of e2),_,rfl,q,_,rfl,.inr (hft _),_,_,rfl,rfl,rfl,_,rfl,?_⟩
 refine qo ?_ ?_
 ·have hlen:(((txs r).map V.str).length:Int)=1+((ks.map fun k=>V.str k.t).length:Int):=by
   simp only [txs,List.length_map,List.length_cons]
   omega
  rw [hlen]
  simp
 refine⟨_,rfl,_,rfl,_,rfl,p2,_,rfl,SqL.of e2,fun p3 g3=> ?_⟩
 have ecut:cutV ((txs r).map V.str) (some 1) none=(r.2.map Pt.t).map V.str:=by
  rw [show(some (1:Int))=some (((1:Nat)):Int) from rfl,zK (by simp [txs])]
  rfl
 rw [ecut]
 have s3:Same H2 (upd H2 p3 (.lst ((r.2.map Pt.t).map V.str))):=qd g3 _
 have e3:(upd H2 p3 (.lst ((r.2.map Pt.t).map V.str))) p3=some (.lst ((r.2.map Pt.t).map V.str)):=qf
 generalize upd H2 p3 (.lst ((r.2.map Pt.t).map V.str))=H3 at s3 e3⊢
 refine⟨q,p3,_,_,rfl,hft _,SqL.of e3,fun A1 gA=> ?_⟩
 refine lc_zip (K:=K) (tl:= [some (.int (n:Int))]) (xs:=ks.map fun k:Kd=>V.str k.t) (ys:=(r.2.map Pt.t).map V.str) (fun i=>(r.2.map Pt.d).getD i .non) (fun H' _=>hft H') (fun H' sm=>SqL.of (sm _ _ e3)) (by simp [hpl]) (by rw [List.length_map];exact qU (by omega)) gA ?_ ?_
 ·intro i x y H4 R hx hy s4 hR
  rw [List.getElem?_map] at hx hy
  cases hki:ks[i]? with
  |none=>rw [hki] at hx;cases hx
  |some kd=>
   rw [hki] at hx
   cases hx
   rw [List.getElem?_map] at hy
   cases hpi:r.2[i]? with
   |none=>rw [hpi] at hy;cases hy
   |some q1=>
    rw [hpi] at hy
    cases hy
    refine⟨_,rfl,_,rfl,_,rfl,n,m,kd,q1,rfl,hn,hm,ptsOk_get hp hki hpi,fun v H5 s5 hv=>hR v H5 s5 ?_⟩
    have e:(r.2.map Pt.d).getD i .non=q1.d:=by simp [List.getD,hpi]
    simp only [e]
    exact hv
 intro H5 vs s5 e5 h5
 have h5':L2.IsL H5 (r.2.map Pt.d) vs:=by
  rw [List.length_map,←hpl] at h5
  rw [range_parts r.2 _ (fun i q1 hi=>by simp [List.getD,hi])] at h5
  exact h5
 refine⟨A1,vs,rfl,.inl ⟨SqL.of e5,fun t6 g6=> ?_⟩⟩
 have s6:Same H5 (upd H5 t6 (.tup vs)):=qd g6 _
 have i6:Is (upd H5 t6 (.tup vs)) (.tup (r.2.map Pt.d)) (.ref t6):=Is.new h5' g6
 have e6:(upd H5 t6 (.tup vs)) t6=some (.tup vs):=qf
 generalize upd H5 t6 (.tup vs)=H6 at s6 i6 e6⊢
 obtain⟨f1,f2⟩:=vals_pt h5'
 refine⟨_,rfl,t6,vs,rfl,.inr (SqT.of e6),rfl,f1,_,rfl,?_⟩
 refine qo (by rw [if_neg Bool.false_ne_true];exact f2) ?_
 refine⟨_,rfl,_,rfl,(by show 2≤sizeLine;decide),fun t7 g7=> ?_⟩
 have hwl:r.1.length≤sizeLine:=by
  have key:∀x∈FRM,x.1.length≤100:=by decide+kernel
  have:=key _ hk
  exact qU (by simp only at this;omega)
 exact k _ _ (s1.trans (s2.trans (s3.trans (s5.trans (s6.trans (qd g7 _)))))) (Is.new (ds:= [.str r.1,.tup (r.2.map Pt.d)]) ⟨_,_,rfl,⟨rfl,hwl⟩,_,_,rfl,i6,rfl⟩ g7)
end
end K13
namespace K13
open PySem L2 PyProof.Rows
def yM (rs:List Rw):D:= .tup (rs.map fun r=> .str (qC r))
structure Yu (rs:List Rw):Prop where
 n0:1≤rs.length
 n1:rs.length≤40
 ok:∀r∈rs,QP rs.length 160 r
 tree:isT (yM rs)=true
theorem xn:∀{ds:List D}{d:D},goodL ds=true→d∈ds→good d=true
 |x::xs,d,h,hm=>by
  simp only [goodL,Bool.and_eq_true] at h
  rcases List.mem_cons.mp hm with rfl|hm
  ·exact h.1
  ·exact xn h.2 hm
theorem Yu.text {rs:List Rw}(h:Yu rs){r:Rw}(hr:r∈rs):yu (qC r)=true:=by
 have h1:=h.tree
 unfold isT at h1
 rw [Bool.and_eq_true,Bool.and_eq_true] at h1
 have h2:=h1.1.1
 unfold yM at h2
 simp only [good,Bool.and_eq_true] at h2
 have:=xn h2.2 (List.mem_map.mpr ⟨r,hr,rfl⟩)
 simpa only [good] using this
theorem Yu.len {rs:List Rw}(h:Yu rs){r:Rw}(hr:r∈rs):(qC r).length≤300:=by
 have h1:=h.text hr
 rcases Nat.lt_or_ge 300 (qC r).length with h2|h2
 ·rw [xb h2] at h1;cases h1
 ·exact h2
def sp_read:Sp:=fun vs H Q _=>∃(v:V) (rs:List Rw),vs= [v]∧Yu rs∧Is H (yM rs) v∧∀(u:V) (H':Hp),Same H H'→Is H' (.tup [.tup (rs.map rowD),.non]) u→Q u H'
section
variable {P:Program}{w:World}{K:PySem.W.Frag}{mg:Str→Option Value}{base:Heap}{a:Ad}{g:Ga}
theorem ok_read (T:Tx K mg a)(C:Fx K w mg g a):FnOk P w K mg base CX0 3 a.jl a.jd ["value"] sp_read:=by
 have Jq:FnOk P w K mg base CX0 2 a.jF a.jy ["value"] JG:=Xd T
 have G_row_of:FnOk P w K mg base CX0 2 a.zd a.X7 ["line","count"] sp_row_of:=ok_row_of T C
 refine T.XF.ok YF (fun vs H Q E h=> ?_) (fun cdv A outer s H vs Q E hr h=> ?_)
 ·obtain⟨v,rs,rfl,_⟩:=h
  rfl
 obtain⟨v,rs,rfl,hR,hv,k⟩:=h
 refine⟨_,(@qb _ _ _ _ _ (@qI _ _ _ _ _ _ _ _ (@Jd _ _ _ _ _ _ _ (@Qo _ _ _ _ (@qT _ _ _ (@qj _ _ _ _ _ _ _ _ _ (@qw _ _ rfl) (by rfl) T.qt boot_isinstance (@qa _ _ _ _ _ (pv 0) (@qa _ _ _ _ _ (@qV _ _ (.ty "tuple") _ _ (by rfl) T.Qi boot_tuple rfl (by trivial) (by trivial)) (@qc _) (by trivial)) (by trivial)) (by trivial) (by trivial) (by trivial) (by trivial)) (by trivial))) (@jf _ _ _ _ (@Qo _ _ _ _ (@pt_chain _ _ _ _ _ _ _ _ _ _ _ _ (@op_le _) (@op_le _) (@qi _ _ _ _) (@qj _ _ _ _ _ _ _ _ _ (@qM _) (by rfl) T.ye PySem.boot_len (@qa _ _ _ _ _ (pv 0) (@qc _) (by trivial)) (by trivial) (by trivial) (by trivial) (by trivial)) (@pe_gI _ _ _ _ (by rfl) T.m_MOST_LINES (by trivial)) (by trivial))))).pt (@qe _ _ _ (@qk _ _ _ _ (@qP _ _ _ _ _ (@qa _ _ _ _ _ (@qP _ _ _ _ _ (@qc _)) (@qa _ _ _ _ _ (@qi _ _ _ _) (@qc _) (by trivial)) (by trivial))))) (@qr _)) (@qb _ _ _ _ _ (@qB _ _ (1) _ _ _ _ YF.nd rfl (Or.inl rfl) (@Qu _ _ _ _ (@qc _)) (by trivial) (by trivial)) (@qb _ _ _ _ _ (@wm _ _ _ _ _ _ _ _ PassesOwn.never rfl (@pi_tup _ _ _ _ (pv 0)) (@Qm _ _ (2) _ YF.nd rfl (Or.inl rfl) (by trivial)) (@qb _ _ _ _ _ (@qB _ _ (3) _ _ _ _ YF.nd rfl (Or.inl rfl) (@qA _ _ _ _ _ _ _ _ _ _ _ _ _ _ _ _ G_row_of (hr.mono (by first|decide|omega)) (by rfl) T.m_row_of T.F_row_of.kp T.b_row_of .nil qQ (@qa _ _ _ _ _ (pv 2) (@qa _ _ _ _ _ (@qj _ _ _ _ _ _ _ _ _ (@qM _) (by rfl) T.ye PySem.boot_len (@qa _ _ _ _ _ (pv 0) (@qc _) (by trivial)) (by trivial) (by trivial) (by trivial) (by trivial)) (@qc _) (by trivial)) (by trivial)) (by trivial) (by trivial) (by trivial)) (by trivial) (by trivial)) (@qb _ _ _ _ _ (@qI _ _ _ _ _ _ _ _ (@qp _ _ _ _ _ _ _ _ (@Z7 _) (pv 3) (@Qn _ _ _) (qz _)) (@qe _ _ _ (@qk _ _ _ _ (@qP _ _ _ _ _ (@qa _ _ _ _ _ (@qH _ _ _ _ _ _ _ _ _ (@qO _) (by rfl) T.Qi boot_tuple (@qa _ _ _ _ _ (pv 1) (@qc _) (by trivial)) (by trivial) (by trivial) (by trivial) (by trivial)) (@qa _ _ _ _ _ (@qD _ _ _ _ _ _ _ _ (@Qb _) (@qj _ _ _ _ _ _ _ _ _ (@qM _) (by rfl) T.ye PySem.boot_len (@qa _ _ _ _ _ (pv 1) (@qc _) (by trivial)) (by trivial) (by trivial) (by trivial) (by trivial)) (@qi _ _ _ _)) (@qc _) (by trivial)) (by trivial))))) (@qr _)) (@qe _ _ _ (@jq _ _ _ _ (@Xx _ _ _ _ _ _ _ _ _ _ _ _ PySem.F.plainAttrs_list PySem.F.slot_list_append PySem.F.type_list_append (@Jw _) (pv 1) (@qa _ _ _ _ _ (pv 3) (@qc _) (by trivial)) (by trivial) (by trivial) (by trivial) (by trivial) (by trivial)) (by trivial))))) (by trivial)) (@qe _ _ _ (@qk _ _ _ _ (@qP _ _ _ _ _ (@qa _ _ _ _ _ (@qH _ _ _ _ _ _ _ _ _ (@qO _) (by rfl) T.Qi boot_tuple (@qa _ _ _ _ _ (pv 1) (@qc _) (by trivial)) (by trivial) (by trivial) (by trivial) (by trivial)) (@qa _ _ _ _ _ (@jg _ _ _ _ _ _ _ _ (@qT _ _ _ (@qA _ _ _ _ _ _ _ _ _ _ _ _ _ _ _ _ Jq (hr.mono (by first|decide|omega)) (by rfl) T.zn T.xk.kp T.zH .nil qQ (@qa _ _ _ _ _ (pv 0) (@qc _) (by trivial)) (by trivial) (by trivial) (by trivial)) (by trivial)) (@Qn _ _ _) (@qi _ _ _ _)) (@qc _) (by trivial)) (by trivial)))))))),?_⟩
 refine⟨_,rfl,v,"tuple",_,true,rfl,hv.ty,Y6 (yM rs),_,rfl,?_⟩
 refine iteF ?_
 have hv':=hv
 obtain⟨va,us,rfl,ha,hu⟩:=hv'
 have hul:us.length=rs.length:=by rw [hu.length,List.length_map]
 have n0:=hR.n0
 have n1:=hR.n1
 refine⟨_,rfl,va,us,rfl,.inr (SqT.of ha),_,_,rfl,rfl,_,rfl,?_⟩
 refine qG (decide_eq_true (by omega)) ?_
 refine⟨_,_,rfl,rfl,_,rfl,?_⟩
 refine qo (by rw [decide_eq_true (by omega)];rfl) ?_
 refine⟨(by show 0≤sizeLine;decide),fun L1 g1=> ?_⟩
 refine⟨_,rfl,va,rfl,⟨us,SqT.of (qd g1 _ _ _ ha)⟩,?_⟩
 refine for_tup (K:=K) (a:=va) (xs:=us) (fun i σ H'=>∃(ws:List V) (x2 x3:Option V),σ= [some (.ref va),some (.ref L1),x2,x3]∧H' L1=some (.lst ws)∧L2.IsL H' ((rs.take i).map rowD) ws∧Same H H')
  ⟨[],none,none,rfl,qf,rfl,qd g1 _⟩ (fun i σ H' _ ⟨_,_,_,_,_,_,sm⟩=>SqT.of (sm _ _ ha)) ?_ ?_
 ·rintro i x σ H' hx ⟨ws,x2,x3,rfl,e1,hw,sm⟩
  have hil:i<rs.length:=by
   obtain⟨h,_⟩:=List.getElem?_eq_some_iff.mp hx
   omega
  obtain⟨x',hx',hxi⟩:=hu.get (i:=i) (d:= .str (qC rs[i])) (by rw [List.getElem?_map,List.getElem?_eq_getElem hil];rfl)
  rw [hx] at hx'
  cases hx'
  obtain⟨rfl,_⟩:=hxi
  have hwl:ws.length=i:=by rw [hw.length,List.length_map,List.length_take];omega
  have hmem:rs[i]∈rs:=List.getElem_mem hil
  refine⟨_,rfl,_,rfl,va,us,rfl,.inr (SqT.of (sm _ _ ha)),rs.length,160,rs[i],by rw [hul];rfl,n1,by decide,hR.len hmem,hR.ok _ hmem,fun v H2 s2 hv=> ?_⟩
  have hv':=hv
  obtain⟨va',vs',rfl,_,_⟩:=hv'
  refine⟨_,rfl,rfl,_,rfl,?_⟩
  refine qo (decide_eq_false fun z=>by cases z) ?_
  have e2:=s2 _ _ e1
  refine⟨_,rfl,.inl ⟨rfl,_,SqL.of e2⟩,_,rfl,L1,ws,_,rfl,rfl,e2,Jl (by omega),?_⟩
  have t3:Tk H2 (upd H2 L1 (.lst (ws++ [.ref va']))):=Tk.updL e2
  refine⟨ws++ [.ref va'],_,_,rfl,qf,?_,fun b o e=> ?_⟩
  ·rw [List.take_add_one,List.getElem?_eq_getElem hil,List.map_append]
   exact((hw.mono s2.tk).mono t3).append (IsL.one (hv.mono t3))
  ·rw [qu (qm e g1)]
   exact s2 b o (sm b o e)
 ·rintro σ H' ⟨ws,x2,x3,rfl,e1,hw,sm⟩
  rw [List.take_of_length_le (by omega)] at hw
  refine⟨_,rfl,L1,ws,rfl,.inl ⟨SqL.of e1,fun t1 g2=> ?_⟩⟩
  have s2:Same H' (upd H' t1 (.tup ws)):=qd g2 _
  have i2:Is (upd H' t1 (.tup ws)) (.tup (rs.map rowD)) (.ref t1):=Is.new hw g2
  generalize upd H' t1 (.tup ws)=H2 at s2 i2⊢
  refine⟨_,rfl,_,yM rs,rfl,hv.mono (sm.trans s2).tk,fun H3 s3=> ?_⟩
  refine⟨_,rfl,?_⟩
  refine qG hR.tree ?_
  refine⟨(by show 2≤sizeLine;decide),fun t4 g4=> ?_⟩
  exact k _ _ (sm.trans (s2.trans (s3.trans (qd g4 _)))) (Is.new (ds:= [.tup (rs.map rowD),.non]) ⟨_,_,rfl,i2.mono s3.tk,_,_,rfl,rfl,rfl⟩ g4)
end
end K13
namespace K13
open PySem L2 PyProof.Rows
def sp_rows:Sp:=fun vs H Q _=>∃(v:V) (rs:List Rw),vs= [v]∧Yu rs∧Is H (yM rs) v∧∀(u:V) (H':Hp),Same H H'→Is H' (.tup (rs.map rowD)) u→Q u H'
section
variable {P:Program}{w:World}{K:PySem.W.Frag}{mg:Str→Option Value}{base:Heap}{a:Ad}{g:Ga}
theorem ok_rows (T:Tx K mg a)(C:Fx K w mg g a):FnOk P w K mg base CX0 4 a.jN a.j0 ["tree"] sp_rows:=by
 have G_read_lines:FnOk P w K mg base CX0 3 a.jl a.jd ["value"] sp_read:=ok_read T C
 refine T.Zt.ok XG (fun vs H Q E h=> ?_) (fun cdv A outer s H vs Q E hr h=> ?_)
 ·obtain⟨v,rs,rfl,_⟩:=h
  rfl
 obtain⟨v,rs,rfl,hR,hv,k⟩:=h
 refine⟨_,(@qb _ _ _ _ _ (@qB _ _ (1) _ _ _ _ XG.nd rfl (Or.inl rfl) (@qA _ _ _ _ _ _ _ _ _ _ _ _ _ _ _ _ G_read_lines (hr.mono (by first|decide|omega)) (by rfl) T.m_read_lines T.XF.kp T.b_read_lines .nil qQ (@qa _ _ _ _ _ (pv 0) (@qc _) (by trivial)) (by trivial) (by trivial) (by trivial)) (by trivial) (by trivial)) (@qb _ _ _ _ _ (@qI _ _ _ _ _ _ _ _ (@qp _ _ _ _ _ _ _ _ (@op_notN _) (@qL _ _ _ _ _ _ _ (@Qk _) (pv 1) (@qi _ _ _ _) (fun _ _=>rfl)) (@Qn _ _ _) (qz _)) (@qe _ _ _ (@X9 _ _)) (@qr _)) (@qe _ _ _ (@qk _ _ _ _ (@qL _ _ _ _ _ _ _ (@Qk _) (pv 1) (@qi _ _ _ _) (fun _ _=>rfl)))))),?_⟩
 refine⟨_,rfl,v,rs,rfl,hR,hv,fun u H1 s1 hu=> ?_⟩
 refine⟨_,rfl,?_⟩
 dsimp only [tC]
 refine jT (i:=1) (d:= .non) hu rfl fun x hx=> ?_
 cases(show x= .non from hx)
 refine⟨rfl,_,rfl,?_⟩
 refine qo rfl ?_
 refine⟨_,rfl,?_⟩
 dsimp only [tC]
 refine jT (i:=0) (d:= .tup (rs.map rowD)) hu rfl fun x hx=> ?_
 exact k x H1 s1 hx
end
end K13
namespace K13
open PySem L2 PyProof.Rows
def kvB (f:Str→V):List (Key×V):=BX.map fun z=>(Sum.inr z,f z)
theorem val_B {f:Str→V}:∀{zs:List Str}{z:Str},z∈zs→valV (zs.map fun z=>((Sum.inr z:Key),f z)) (Sum.inr z)=some (f z)
 |y::ys,z,h=>by
  rw [List.map_cons]
  by_cases e:y=z
  ·subst e
   exact zh rfl
  ·have h':z∈ys:=by
    rcases List.mem_cons.mp h with rfl|h
    ·exact absurd rfl e
    ·exact h
   have:=val_B (f:=f) h'
   unfold valV at this⊢
   rw [List.find?_cons]
   have e2:decide ((Sum.inr y:Key)=Sum.inr z)=false:=decide_eq_false fun q=>e (Sum.inr.inj q)
   simp only [e2]
   exact this
theorem val_none {f:Str→V}{zs:List Str}{z:Str}(h:z∉zs):valV (zs.map fun z=>((Sum.inr z:Key),f z)) (Sum.inr z)=none:=by
 unfold valV
 rw [Option.map_eq_none_iff,List.find?_eq_none]
 intro p hp
 obtain⟨y,hy,rfl⟩:=List.mem_map.mp hp
 intro q
 exact h (by rw [←Sum.inr.inj (of_decide_eq_true q)];exact hy)
theorem put_B {f:Str→V}{z:Str}{u:V}(h:z∈BX):putK (kvB f) (Sum.inr z) u=kvB fun y=>if y=z then u else f y:=by
 unfold putK
 rw [if_pos]
 ·unfold kvB
  rw [List.map_map]
  refine List.map_congr_left fun y _=> ?_
  by_cases e:y=z
  ·simp [e]
  ·simp [e]
 ·rw [List.any_eq_true]
  exact⟨(Sum.inr z,f z),List.mem_map.mpr ⟨z,h,rfl⟩,by simp⟩
def Q8 (H:Hp)(d:Addr)(B:Str→D):Prop:=∃f:Str→V,H d=some (.dK (kvB f))∧∀z∈BX,Is H (B z) (f z)
def setB (B:Str→D)(z:Str)(e:D):Str→D:=fun y=>if y=z then e else B y
theorem Q8.same {H H':Hp}{d:Addr}{B:Str→D}(h:Q8 H d B)(s:Same H H'):Q8 H' d B:=let⟨f,e,i⟩:=h;⟨f,s _ _ e,fun z hz=>(i z hz).mono s.tk⟩
theorem Q8.move {H H':Hp}{d:Addr}{B:Str→D}(h:Q8 H d B)(t:Tk H H')(e:H' d=H d):Q8 H' d B:=let⟨f,e1,i⟩:=h;⟨f,e.trans e1,fun z hz=>(i z hz).mono t⟩
theorem Q8.get {H:Hp}{d:Addr}{B:Str→D}{z:Str}(h:Q8 H d B)(hz:z∈BX):∃v,DGet H d (.str z) (some v)∧Is H (B z) v:=by
 obtain⟨f,e,i⟩:=h
 refine⟨f z,?_,i z hz⟩
 have:=DGet.k (k:=(Sum.inr z:Key)) e
 rw [show valV (kvB f) (Sum.inr z)=some (f z) from val_B hz] at this
 exact this
theorem Q8.lack {H:Hp}{d:Addr}{B:Str→D}{z:Str}(h:Q8 H d B)(hz:z∉BX):DGet H d (.str z) none:=by
 obtain⟨f,e,i⟩:=h
 have:=DGet.k (k:=(Sum.inr z:Key)) e
 rw [show valV (kvB f) (Sum.inr z)=none from val_none hz] at this
 exact this
theorem Q8.put {H:Hp}{d:Addr}{B:Str→D}{z:Str}{u:V}{e:D}(h:Q8 H d B)(hz:z∈BX)(hu:Is H e u):∃kvs,DPut H d (.str z) u (upd H d (.dK kvs))∧Q8 (upd H d (.dK kvs)) d (setB B z e)∧Tk H (upd H d (.dK kvs)):=by
 obtain⟨f,ed,i⟩:=h
 refine⟨kvB fun y=>if y=z then u else f y,.inl ⟨_,Sum.inr z,ed,rfl,by show BX.length<sizeLine;rw [sizeLine_eq];decide,by rw [put_B hz]⟩,⟨_,qf,fun y hy=> ?_⟩,Tk.updD ed⟩
 have t:Tk H (upd H d (.dK (kvB fun y=>if y=z then u else f y))):=Tk.updD ed
 unfold setB
 by_cases c:y=z
 ·rw [if_pos c,if_pos c]
  exact hu.mono t
 ·rw [if_neg c,if_neg c]
  exact(i y hy).mono t
def Yx:List D→Bool
 | []=>true
 | .str _::r=>Yx r
 |_=>false
def Yt:List D→List Str
 | .str z::r=>z::Yt r
 |_=> []
def b0 (ps:List Pt):Str:=(ps.getD 0 (.s "")).t
def b1 (ps:List Pt):Str:=(ps.getD 1 (.s "")).t
def b2 (ps:List Pt):Str:=(ps.getD 2 (.s "")).t
def wu:D→D
 | .str z=>if z.length=0 then .non else .str ⟨#[z.cps.getD 0 0]⟩
 | .tup (x::_)=>x
 |_=> .non
def restD:D→D
 | .str z=>if z.length=0 then .non else .str (Txt.slice z (some 1) none)
 | .tup (_::r)=> .tup r
 |_=> .non
def lenD:D→Nat
 | .str z=>z.length
 | .tup xs=>xs.length
 |_=>0
def putD:D→D→D
 | .tup xs,e=> .tup (xs++ [e])
 |_,_=> .non
def joinD:D→D→D
 | .str x,.str y=> .str (x++y)
 |_,_=> .non
def cutD:D→D→D
 | .str z,.str y=>if y.length=0 then .non else .tup ((spG z y).map .str)
 |_,_=> .non
def glueD:D→D→D
 | .tup xs,.str y=>if Yx xs=true then .str (Str.join y (Yt xs)) else .non
 |_,_=> .non
def made (w:Str)(B:Str→D)(own:Str)(ps:List Pt):D:=
 if w="text" then .str (b1 ps) else if w="self" then .str own else if w="copy" then B (b1 ps) else if w="row" then .tup [] else
 if w="put" then putD (B (b0 ps)) (B (b1 ps)) else if w="join" then joinD (B (b0 ps)) (B (b1 ps)) else if w="first" then wu (B (b1 ps)) else if w="rest" then restD (B (b1 ps)) else
 if w="size" then .str (toString ((lenD (B (b1 ps)):Nat):Int)) else if w="cut" then cutD (B (b1 ps)) (B (b2 ps)) else glueD (B (b1 ps)) (B (b2 ps))
theorem qF {n m:Nat}{w:Str}{ps:List Pt}{ks:List Kd}(h:QP n m (w,ps))(hk:(w,ks)∈FRM):jo n m ks ps:=by
 obtain⟨ks',h1,h2⟩:=h
 have:=form_nd _ h1 _ hk rfl
 cases this
 exact h2
theorem sh_b {n m:Nat}{ps:List Pt}(h:jo n m [.box] ps):∃x,ps= [.s x]∧x∈BX:=by
 match ps,h with
 | [.s x],h=>exact⟨x,rfl,h.1⟩
 | [.n _],h=>exact h.1.elim
theorem jn {n m:Nat}{ps:List Pt}(h:jo n m [.box,.box] ps):∃x y,ps= [.s x,.s y]∧x∈BX∧y∈BX:=by
 match ps,h with
 | [.s x,.s y],h=>exact⟨x,y,rfl,h.1,h.2.1⟩
 | [.n _,_],h=>exact h.1.elim
 | [.s _,.n _],h=>exact h.2.1.elim
theorem sh_bbb {n m:Nat}{ps:List Pt}(h:jo n m [.box,.box,.box] ps):∃x y z,ps= [.s x,.s y,.s z]∧x∈BX∧y∈BX∧z∈BX:=by
 match ps,h with
 | [.s x,.s y,.s z],h=>exact⟨x,y,z,rfl,h.1,h.2.1,h.2.2.1⟩
 | [.n _,_,_],h=>exact h.1.elim
 | [.s _,.n _,_],h=>exact h.2.1.elim
 | [.s _,.s _,.n _],h=>exact h.2.2.1.elim
theorem sh_bw {n m:Nat}{ps:List Pt}(h:jo n m [.box,.words] ps):∃x y,ps= [.s x,.s y]∧x∈BX∧y.length≤m∧y.cps.toList.all Qg=true:=by
 match ps,h with
 | [.s x,.s y],h=>exact⟨x,y,rfl,h.1,h.2.1⟩
 | [.n _,_],h=>exact h.1.elim
 | [.s _,.n _],h=>exact h.2.1.elim
theorem sh_l {n m:Nat}{ps:List Pt}(h:jo n m [.line] ps):∃i:Int,ps= [.n i]∧1≤i∧i≤n:=by
 match ps,h with
 | [.n i],h=>exact⟨i,rfl,h.1⟩
 | [.s _],h=>exact h.1.elim
theorem sh_bl {n m:Nat}{ps:List Pt}(h:jo n m [.box,.line] ps):∃x,∃i:Int,ps= [.s x,.n i]∧x∈BX∧1≤i∧i≤n:=by
 match ps,h with
 | [.s x,.n i],h=>exact⟨x,i,rfl,h.1,h.2.1⟩
 | [.n _,_],h=>exact h.1.elim
 | [.s _,.s _],h=>exact h.2.1.elim
theorem sh_bbl {n m:Nat}{ps:List Pt}(h:jo n m [.box,.box,.line] ps):∃x y,∃i:Int,ps= [.s x,.s y,.n i]∧x∈BX∧y∈BX∧1≤i∧i≤n:=by
 match ps,h with
 | [.s x,.s y,.n i],h=>exact⟨x,y,i,rfl,h.1,h.2.1,h.2.2.1⟩
 | [.n _,_,_],h=>exact h.1.elim
 | [.s _,.n _,_],h=>exact h.2.1.elim
 | [.s _,.s _,.s _],h=>exact h.2.2.1.elim
def PtsAt (H:Hp)(t:Addr)(ps:List Pt):Prop:=Is H (.tup (ps.map Pt.d)) (.ref t)
def Tr (B:Str→D):Prop:=∀z∈BX,isT (B z)=true
def Xf (w:Str):Sp:=fun vs H Q _=>∃(d t:Addr) (own:Str) (B:Str→D) (ps:List Pt) (n:Nat),vs= [.ref d,.str own,.ref t]∧Q8 H d B∧Tr B∧own.length≤100∧QP n 160 (w,ps)∧PtsAt H t ps∧
 ∀(v:V) (H':Hp),Same H H'→Is H' (made w B own ps) v→Q v H'
theorem box_at {K:PySem.W.Frag}{H:Hp}{t:Addr}{ps:List Pt}{i:Nat}{z:Str}{Q:VK}(h:PtsAt H t ps)(e:ps[i]? =some (.s z))(q:Q (.str z) H):rIxT K (.ref t) (.int (i:Int)) H Q:=
 jT (d:= .str z) h (QI (by rw [List.getElem?_map,e];rfl)) fun x hx=>by obtain⟨rfl,_⟩:=hx;exact q
end K13
namespace K13
open PySem L2 PyProof.Rows
theorem xp {d:D}(h:isT d=true):dp d≤12:=by
 unfold isT at h
 rw [Bool.and_eq_true] at h
 exact of_decide_eq_true h.2
theorem isT_sz {d:D}(h:isT d=true):sz d≤600:=by
 unfold isT at h
 rw [Bool.and_eq_true,Bool.and_eq_true] at h
 exact of_decide_eq_true h.1.2
theorem QU {d:D}(h:isT d=true):lenD d≤600:=by
 have h1:=isT_sz h
 cases d with
 |str z=>simp only [sz] at h1;show z.length≤600;omega
 |tup xs=>
  unfold isT at h
  rw [Bool.and_eq_true,Bool.and_eq_true] at h
  have h2:=h.1.1
  simp only [good,Bool.and_eq_true] at h2
  have:=of_decide_eq_true h2.1
  show xs.length≤600
  omega
 |_=>exact Nat.zero_le _
theorem app_len (z y:Str):(z++y:Str).length=z.length+y.length:=by
 show(z.cps++y.cps).size=z.cps.size+y.cps.size
 exact Array.size_append
theorem bget {K:PySem.W.Frag}{H:Hp}{t d:Addr}{B:Str→D}{ps:List Pt}{i:Nat}{z:Str}{Q:VK}(hB:Q8 H d B)(h:PtsAt H t ps)(e:ps[i]? =some (.s z))(hz:z∈BX)(q:∀v,Is H (B z) v→Q v H):rIxT K (.ref t) (.int (i:Int)) H (fun y H2=>∃a v,V.ref d= .ref a∧DGet H2 a y (some v)∧Q v H2):=by
 obtain⟨v,gv,iv⟩:=hB.get hz
 exact box_at h e ⟨d,v,rfl,gv,q v iv⟩
section
variable {P:Program}{w:World}{K:PySem.W.Frag}{mg:Str→Option Value}{base:Heap}{a:Ad}{g:Ga}
theorem ok_text (T:Tx K mg a):FnOk P w K mg base CX0 1 a.Y3 a.J0 ["boxes","own","parts"] (Xf "text"):=by
 refine T.zS.ok sc_text_made (fun vs H Q E h=> ?_) (fun cdv A outer s H vs Q E hr h=> ?_)
 ·obtain⟨d,t,own,B,ps,n,rfl,_⟩:=h
  rfl
 obtain⟨d,t,own,B,ps,n,rfl,hB,hT,ho,hr',hp,k⟩:=h
 refine⟨_,(@qe _ _ _ (@qk _ _ _ _ (@qL _ _ _ _ _ _ _ (@Qk _) (pv 2) (@qi _ _ _ _) (fun _ _=>rfl)))),?_⟩
 obtain⟨x,y,rfl,hx,hy,hs⟩:=sh_bw (qF hr' (by decide+kernel))
 exact⟨_,rfl,box_at (i:=1) hp rfl (k _ H (Same.refl _) ⟨rfl,qU (by show y.length≤1000;omega)⟩)⟩
theorem ok_self (T:Tx K mg a):FnOk P w K mg base CX0 1 a.Y7 a.xf ["boxes","own","parts"] (Xf "self"):=by
 refine T.zU.ok sc_self_made (fun vs H Q E h=> ?_) (fun cdv A outer s H vs Q E hr h=> ?_)
 ·obtain⟨d,t,own,B,ps,n,rfl,_⟩:=h
  rfl
 obtain⟨d,t,own,B,ps,n,rfl,hB,hT,ho,hr',hp,k⟩:=h
 refine⟨_,(@qe _ _ _ (@qk _ _ _ _ (pv 1))),?_⟩
 exact⟨_,rfl,k _ H (Same.refl _) ⟨rfl,qU (by show own.length≤1000;omega)⟩⟩
theorem ok_row (T:Tx K mg a):FnOk P w K mg base CX0 1 a.jv a.Xj ["boxes","own","parts"] (Xf "row"):=by
 refine T.Z9.ok sc_row_made (fun vs H Q E h=> ?_) (fun cdv A outer s H vs Q E hr h=> ?_)
 ·obtain⟨d,t,own,B,ps,n,rfl,_⟩:=h
  rfl
 obtain⟨d,t,own,B,ps,n,rfl,hB,hT,ho,hr',hp,k⟩:=h
 refine⟨_,(@qe _ _ _ (@qk _ _ _ _ (@qP _ _ _ _ _ (@qc _)))),?_⟩
 exact⟨(by show 0≤sizeLine;decide),fun l hl=>k _ _ (qd hl _) (Is.new (ds:= []) rfl hl)⟩
theorem ok_copy (T:Tx K mg a):FnOk P w K mg base CX0 1 a.Y4 a.J2 ["boxes","own","parts"] (Xf "copy"):=by
 refine T.Zu.ok sc_copy_made (fun vs H Q E h=> ?_) (fun cdv A outer s H vs Q E hr h=> ?_)
 ·obtain⟨d,t,own,B,ps,n,rfl,_⟩:=h
  rfl
 obtain⟨d,t,own,B,ps,n,rfl,hB,hT,ho,hr',hp,k⟩:=h
 refine⟨_,(@qe _ _ _ (@qk _ _ _ _ (@qZ _ _ _ _ _ _ (yd hr) (pv 0) (@qL _ _ _ _ _ _ _ (@Qk _) (pv 2) (@qi _ _ _ _) (fun _ _=>rfl)) (fun _ _=>rfl)))),?_⟩
 obtain⟨x,y,rfl,hx,hy⟩:=jn (qF hr' (by decide+kernel))
 refine⟨_,rfl,_,rfl,?_⟩
 exact bget (i:=1) hB hp rfl hy fun v iv=>k _ H (Same.refl _) iv
theorem ok_put (T:Tx K mg a):FnOk P w K mg base CX0 1 a.jr a.Xq ["boxes","own","parts"] (Xf "put"):=by
 refine T.wl.ok Zr (fun vs H Q E h=> ?_) (fun cdv A outer s H vs Q E hr h=> ?_)
 ·obtain⟨d,t,own,B,ps,n,rfl,_⟩:=h
  rfl
 obtain⟨d,t,own,B,ps,n,rfl,hB,hT,ho,hr',hp,k⟩:=h
 refine⟨_,(@qb _ _ _ _ _ (@qB _ _ (3) _ _ _ _ Zr.nd rfl (Or.inl rfl) (@qZ _ _ _ _ _ _ (yd hr) (pv 0) (@qL _ _ _ _ _ _ _ (@Qk _) (pv 2) (@qi _ _ _ _) (fun _ _=>rfl)) (fun _ _=>rfl)) (by trivial) (by trivial)) (@qb _ _ _ _ _ (@qI _ _ _ _ _ _ _ _ (@Qo _ _ _ _ (@qT _ _ _ (@qj _ _ _ _ _ _ _ _ _ (@qw _ _ rfl) (by rfl) T.qt boot_isinstance (@qa _ _ _ _ _ (pv 3) (@qa _ _ _ _ _ (@qV _ _ (.ty "tuple") _ _ (by rfl) T.Qi boot_tuple rfl (by trivial) (by trivial)) (@qc _) (by trivial)) (by trivial)) (by trivial) (by trivial) (by trivial) (by trivial)) (by trivial))) (@qe _ _ _ (@qk _ _ _ _ (@Qn _ _ _))) (@qr _)) (@qe _ _ _ (@qk _ _ _ _ (@qD _ _ _ _ _ _ _ _ (@op_catG _) (pv 3) (@qP _ _ _ _ _ (@qa _ _ _ _ _ (@qZ _ _ _ _ _ _ (yd hr) (pv 0) (@qL _ _ _ _ _ _ _ (@Qk _) (pv 2) (@qi _ _ _ _) (fun _ _=>rfl)) (fun _ _=>rfl)) (@qc _) (by trivial)))))))),?_⟩
 obtain⟨x,y,rfl,hx,hy⟩:=jn (qF hr' (by decide+kernel))
 refine⟨_,rfl,_,rfl,?_⟩
 refine bget (i:=0) hB hp rfl hx fun v iv=> ?_
 refine⟨_,rfl,v,"tuple",tyD (B x),xV (B x),rfl,iv.ty,Y6 _,_,rfl,?_⟩
 have hl':=QU (hT x hx)
 have k':∀(v:V) (H':Hp),Same H H'→Is H' (putD (B x) (B y)) v→Q v H':=k
 generalize B x=dx at iv k' hl'⊢
 cases dx with
 |tup xs=>
  refine iteF ?_
  obtain⟨r,rs,rfl,er,ir⟩:=iv
  refine⟨_,rfl,_,rfl,_,rfl,?_⟩
  refine bget (i:=1) hB hp rfl hy fun u iu=> ?_
  refine⟨(by show 1≤sizeLine;decide),fun l hl=>⟨r,l,rs,[u],rfl,rfl,SqT.of (qd hl _ _ _ er),SqT.of qf,?_,fun e=> ?_,fun _ e=>(by cases e),fun _ _ p hp=> ?_⟩⟩
  ·rw [ir.length]
   have:xs.length≤600:=hl'
   exact qU (by show xs.length+1≤1000;omega)
  ·subst e
   have e2:xs= []:=List.eq_nil_of_length_eq_zero ir.length.symm
   subst e2
   exact k' _ _ (qd hl _) (Is.new (ds:= [B y]) (IsL.one iu) hl)
  ·have t1:Tk H (upd H l (.tup [u])):=(qd hl _).tk
   exact k' _ _ ((qd hl _).trans (qd hp _)) (Is.new (ds:=xs++ [B y]) ((ir.mono t1).append (IsL.one (iu.mono t1))) hp)
 |_=>exact iteT (k' _ H (Same.refl _) rfl)
theorem ok_join (T:Tx K mg a):FnOk P w K mg base CX0 1 a.jc a.xi ["boxes","own","parts"] (Xf "join"):=by
 refine T.Zo.ok Jo (fun vs H Q E h=> ?_) (fun cdv A outer s H vs Q E hr h=> ?_)
 ·obtain⟨d,t,own,B,ps,n,rfl,_⟩:=h
  rfl
 obtain⟨d,t,own,B,ps,n,rfl,hB,hT,ho,hr',hp,k⟩:=h
 refine⟨_,(@qb _ _ _ _ _ (@qB _ _ (3) _ _ _ _ Jo.nd rfl (Or.inl rfl) (@qZ _ _ _ _ _ _ (yd hr) (pv 0) (@qL _ _ _ _ _ _ _ (@Qk _) (pv 2) (@qi _ _ _ _) (fun _ _=>rfl)) (fun _ _=>rfl)) (by trivial) (by trivial)) (@qb _ _ _ _ _ (@qB _ _ (4) _ _ _ _ Jo.nd rfl (Or.inl rfl) (@qZ _ _ _ _ _ _ (yd hr) (pv 0) (@qL _ _ _ _ _ _ _ (@Qk _) (pv 2) (@qi _ _ _ _) (fun _ _=>rfl)) (fun _ _=>rfl)) (by trivial) (by trivial)) (@qb _ _ _ _ _ (@qI _ _ _ _ _ _ _ _ (@Jd _ _ _ _ _ _ _ (@Qo _ _ _ _ (@qT _ _ _ (@qj _ _ _ _ _ _ _ _ _ (@qw _ _ rfl) (by rfl) T.qt boot_isinstance (@qa _ _ _ _ _ (pv 3) (@qa _ _ _ _ _ (@qV _ _ (.ty "str") _ _ (by rfl) T.yI boot_str rfl (by trivial) (by trivial)) (@qc _) (by trivial)) (by trivial)) (by trivial) (by trivial) (by trivial) (by trivial)) (by trivial))) (@jf _ _ _ _ (@Qo _ _ _ _ (@qT _ _ _ (@qj _ _ _ _ _ _ _ _ _ (@qw _ _ rfl) (by rfl) T.qt boot_isinstance (@qa _ _ _ _ _ (pv 4) (@qa _ _ _ _ _ (@qV _ _ (.ty "str") _ _ (by rfl) T.yI boot_str rfl (by trivial) (by trivial)) (@qc _) (by trivial)) (by trivial)) (by trivial) (by trivial) (by trivial) (by trivial)) (by trivial))))).pt (@qe _ _ _ (@qk _ _ _ _ (@Qn _ _ _))) (@qr _)) (@qe _ _ _ (@qk _ _ _ _ (@qD _ _ _ _ _ _ _ _ (@qX _) (pv 3) (pv 4))))))),?_⟩
 obtain⟨x,y,rfl,hx,hy⟩:=jn (qF hr' (by decide+kernel))
 refine⟨_,rfl,_,rfl,?_⟩
 refine bget (i:=0) hB hp rfl hx fun v iv=> ?_
 refine⟨_,rfl,_,rfl,?_⟩
 refine bget (i:=1) hB hp rfl hy fun u iu=> ?_
 have lx:=QU (hT x hx)
 have ly:=QU (hT y hy)
 have k':∀(v:V) (H':Hp),Same H H'→Is H' (joinD (B x) (B y)) v→Q v H':=k
 generalize B x=dx at iv k' lx⊢
 generalize B y=dy at iu k' ly⊢
 refine⟨_,rfl,v,"str",tyD dx,Qd dx,rfl,iv.ty,QB _,_,rfl,?_⟩
 cases dx with
 |str z=>
  refine iteF ⟨_,rfl,u,"str",tyD dy,Qd dy,rfl,iu.ty,QB _,_,rfl,?_⟩
  cases dy with
  |str z2=>
   refine iteF ?_
   obtain⟨rfl,_⟩:=iv
   obtain⟨rfl,_⟩:=iu
   have h1:z.length≤600:=lx
   have h2:z2.length≤600:=ly
   exact⟨_,rfl,_,rfl,_,_,rfl,rfl,fits (by omega),k' _ H (Same.refl _) ⟨rfl,by rw [show(z++z2).length=z.length+z2.length from app_len z z2];exact fits (by omega)⟩⟩
  |_=>exact iteT (k' _ H (Same.refl _) rfl)
 |_=>exact iteT (k' _ H (Same.refl _) (by cases dy<;>rfl))
theorem ok_first (T:Tx K mg a):FnOk P w K mg base CX0 1 a.Yq a.JA ["boxes","own","parts"] (Xf "first"):=by
 refine T.XB.ok xm (fun vs H Q E h=> ?_) (fun cdv A outer s H vs Q E hr h=> ?_)
 ·obtain⟨d,t,own,B,ps,n,rfl,_⟩:=h
  rfl
 obtain⟨d,t,own,B,ps,n,rfl,hB,hT,ho,hr',hp,k⟩:=h
 refine⟨_,(@qb _ _ _ _ _ (@qB _ _ (3) _ _ _ _ xm.nd rfl (Or.inl rfl) (@qZ _ _ _ _ _ _ (yd hr) (pv 0) (@qL _ _ _ _ _ _ _ (@Qk _) (pv 2) (@qi _ _ _ _) (fun _ _=>rfl)) (fun _ _=>rfl)) (by trivial) (by trivial)) (@qe _ _ _ (@qk _ _ _ _ (@jg _ _ _ _ _ _ _ _ (@qp _ _ _ _ _ _ _ _ (@XY _) (@qj _ _ _ _ _ _ _ _ _ (@yh _) (by rfl) T.ye PySem.boot_len (@qa _ _ _ _ _ (pv 3) (@qc _) (by trivial)) (by trivial) (by trivial) (by trivial) (by trivial)) (@qi _ _ _ _) (qz _)) (@qL _ _ _ _ _ _ _ (@jA _) (pv 3) (@qi _ _ _ _) (fun _ _=>rfl)) (@Qn _ _ _))))),?_⟩
 obtain⟨x,y,rfl,hx,hy⟩:=jn (qF hr' (by decide+kernel))
 refine⟨_,rfl,_,rfl,?_⟩
 refine bget (i:=1) hB hp rfl hy fun v iv=> ?_
 have ly:=QU (hT y hy)
 have hg:=hT y hy
 have k':∀(v:V) (H':Hp),Same H H'→Is H' (wu (B y)) v→Q v H':=k
 generalize B y=dy at iv k' ly hg⊢
 cases dy with
 |str z=>
  obtain⟨rfl,hz⟩:=iv
  refine⟨_,rfl,.inl ⟨z,rfl,hz,_,_,rfl,rfl,_,rfl,?_⟩⟩
  refine ite2 (fun c=> ?_) (fun c=> ?_)
  ·have h0:1≤z.length:=by have:=of_decide_eq_true c;omega
   have k2:Is H (wu (.str z)) (.str ⟨#[z.cps.getD 0 0]⟩):=by
    show Is H (if z.length=0 then D.non else _) _
    rw [if_neg (by omega)]
    exact⟨rfl,qU (by show 1≤1000;decide)⟩
   exact⟨_,rfl,.inr (.inr ⟨z,0,_,rfl,rfl,hz,zi h0,k' _ H (Same.refl _) k2⟩)⟩
  ·have h0:z.length=0:=by
    rcases Nat.eq_zero_or_pos z.length with e|e
    ·exact e
    ·exact absurd (decide_eq_true (by omega)) c
   exact k' _ H (Same.refl _) (by show Is H (if z.length=0 then D.non else _) _;rw [if_pos h0];rfl)
 |tup xs=>
  have iv':=iv
  obtain⟨r,rs,rfl,er,ir⟩:=iv'
  refine⟨_,rfl,.inr ⟨r,rs,rfl,.inr (SqT.of er),fun _=>⟨_,_,rfl,rfl,_,rfl,?_⟩⟩⟩
  have hl:=ir.length
  cases xs with
  |nil=>exact qo (decide_eq_false (by rw [hl];decide)) (k' _ H (Same.refl _) rfl)
  |cons e es=>
   refine qG (decide_eq_true (by rw [hl,List.length_cons];omega)) ?_
   exact⟨_,rfl,.inr (.inl (jT (i:=0) (d:=e) iv (QI (j:=0) rfl) fun q hq=>k' _ H (Same.refl _) hq))⟩
 |_=>simp [isT,good] at hg
end
end K13
namespace K13
open PySem L2 PyProof.Rows
theorem Xt:∀xs:List D,Yx xs=xs.all Qd
 | []=>rfl
 | .str _::r=>by show Yx r=_;rw [Xt r];rfl
 | .non::_| .bl _::_| .int _::_| .lst::_| .dct::_| .tup _::_=>rfl
theorem wN:∀{xs:List D},Yx xs=true→xs=(Yt xs).map D.str
 | [],_=>rfl
 | .str z::r,h=>by
  show D.str z::r=D.str z::(Yt r).map D.str
  rw [←wN (show Yx r=true from h)]
theorem IsL.strs {H:Hp}:∀{l:List Str}{vs:List V},L2.IsL H (l.map D.str) vs→vs=l.map V.str
 | [],_,h=>h
 |_::_,_,h=>by
  obtain⟨v,r,rfl,h1,h2⟩:=h
  rw [IsL.strs h2,h1.1];rfl
theorem IsL.ofStrs {H:Hp}:∀{l:List Str},(∀z∈l,z.length≤sizeLine)→L2.IsL H (l.map D.str) (l.map V.str)
 | [],_=>rfl
 |z::l,h=>⟨_,_,rfl,⟨rfl,h z List.mem_cons_self⟩,IsL.ofStrs fun y hy=>h y (List.mem_cons_of_mem _ hy)⟩
theorem Wa:∀(l:List Str),(l.map (·.length)).sum+l.length=szL (l.map D.str)
 | []=>rfl
 |z::l=>by
  have:=Wa l
  simp only [List.map_cons,List.sum_cons,List.length_cons,szL,sz]
  omega
theorem join_le (sep:Str):∀(l:List Str),(Str.join sep l).length≤(l.map (·.length)).sum+l.length*sep.length
 | []=>Nat.zero_le _
 | [x]=>by simp [Str.join]
 |x::y::r=>by
  have ih:=join_le sep (y::r)
  have e:(Str.join sep (x::y::r)).length=x.length+sep.length+(Str.join sep (y::r)).length:=by
   show((x.cps++sep.cps)++(Str.join sep (y::r)).cps).size=_
   rw [Array.size_append,Array.size_append]
   rfl
  rw [e,List.map_cons,List.sum_cons,List.length_cons,Nat.succ_mul]
  omega
section
variable {P:Program}{w:World}{K:PySem.W.Frag}{mg:Str→Option Value}{base:Heap}{a:Ad}{g:Ga}
theorem ok_rest (T:Tx K mg a):FnOk P w K mg base CX0 1 a.Y0 a.J1 ["boxes","own","parts"] (Xf "rest"):=by
 refine T.zG.ok Xy (fun vs H Q E h=> ?_) (fun cdv A outer s H vs Q E hr h=> ?_)
 ·obtain⟨d,t,own,B,ps,n,rfl,_⟩:=h
  rfl
 obtain⟨d,t,own,B,ps,n,rfl,hB,hT,ho,hr',hp,k⟩:=h
 refine⟨_,(@qb _ _ _ _ _ (@qB _ _ (3) _ _ _ _ Xy.nd rfl (Or.inl rfl) (@qZ _ _ _ _ _ _ (yd hr) (pv 0) (@qL _ _ _ _ _ _ _ (@Qk _) (pv 2) (@qi _ _ _ _) (fun _ _=>rfl)) (fun _ _=>rfl)) (by trivial) (by trivial)) (@qe _ _ _ (@qk _ _ _ _ (@jg _ _ _ _ _ _ _ _ (@qp _ _ _ _ _ _ _ _ (@XY _) (@qj _ _ _ _ _ _ _ _ _ (@yh _) (by rfl) T.ye PySem.boot_len (@qa _ _ _ _ _ (pv 3) (@qc _) (by trivial)) (by trivial) (by trivial) (by trivial) (by trivial)) (@qi _ _ _ _) (qz _)) (@zf _ _ _ _ _ _ _ _ _ _ (@sl_any _) (pv 3) (@Wk _ _ _ (@qi _ _ _ _)) (@wX _)) (@Qn _ _ _))))),?_⟩
 obtain⟨x,y,rfl,hx,hy⟩:=jn (qF hr' (by decide+kernel))
 refine⟨_,rfl,_,rfl,?_⟩
 refine bget (i:=1) hB hp rfl hy fun v iv=> ?_
 have ly:=QU (hT y hy)
 have hg:=hT y hy
 have k':∀(v:V) (H':Hp),Same H H'→Is H' (restD (B y)) v→Q v H':=k
 generalize B y=dy at iv k' ly hg⊢
 cases dy with
 |str z=>
  obtain⟨rfl,hz⟩:=iv
  refine⟨_,rfl,.inl ⟨z,rfl,hz,_,_,rfl,rfl,_,rfl,?_⟩⟩
  refine ite2 (fun c=> ?_) (fun c=> ?_)
  ·have h0:1≤z.length:=by have:=of_decide_eq_true c;omega
   have k2:Is H (restD (.str z)) (.str (Txt.slice z (some 1) none)):=by
    show Is H (if z.length=0 then D.non else _) _
    rw [if_neg (by omega)]
    exact⟨rfl,Nat.le_trans (Txt.slice_le z _ _) hz⟩
   exact⟨_,rfl,_,rfl,.inl ⟨z,rfl,hz,k' _ H (Same.refl _) k2⟩⟩
  ·have h0:z.length=0:=by
    rcases Nat.eq_zero_or_pos z.length with e|e
    ·exact e
    ·exact absurd (decide_eq_true (by omega)) c
   exact k' _ H (Same.refl _) (by show Is H (if z.length=0 then D.non else _) _;rw [if_pos h0];rfl)
 |tup xs=>
  have iv':=iv
  obtain⟨r,rs,rfl,er,ir⟩:=iv'
  refine⟨_,rfl,.inr ⟨r,rs,rfl,.inr (SqT.of er),fun _=>⟨_,_,rfl,rfl,_,rfl,?_⟩⟩⟩
  have hl:=ir.length
  cases xs with
  |nil=>exact qo (decide_eq_false (by rw [hl];decide)) (k' _ H (Same.refl _) rfl)
  |cons e es=>
   refine qG (decide_eq_true (by rw [hl,List.length_cons];omega)) ?_
   obtain⟨v0,r0,rfl,i0,i1⟩:=ir
   refine⟨_,rfl,_,rfl,.inr ⟨r,v0::r0,rfl,SqT.of er,fun h=> ?_,fun _ p hp=> ?_⟩⟩
   ·exfalso
    have:=h.1
    simp [HT.sIx] at this
   ·have e1:cutV (v0::r0) (some 1) none=r0:=by
     rw [show(some (1:Int))=some (((1:Nat)):Int) from rfl,zK (by simp)]
     rfl
    rw [e1]
    exact k' _ _ (qd hp _) (Is.new i1 hp)
 |_=>simp [isT,good] at hg
theorem ok_size (T:Tx K mg a):FnOk P w K mg base CX0 1 a.YX a.J6 ["boxes","own","parts"] (Xf "size"):=by
 refine T.zo.ok sc_size_made (fun vs H Q E h=> ?_) (fun cdv A outer s H vs Q E hr h=> ?_)
 ·obtain⟨d,t,own,B,ps,n,rfl,_⟩:=h
  rfl
 obtain⟨d,t,own,B,ps,n,rfl,hB,hT,ho,hr',hp,k⟩:=h
 refine⟨_,(@qe _ _ _ (@qk _ _ _ _ (@qH _ _ _ _ _ _ _ _ _ (@QA _) (by rfl) T.yI boot_str (@qa _ _ _ _ _ (@qj _ _ _ _ _ _ _ _ _ (@yh _) (by rfl) T.ye PySem.boot_len (@qa _ _ _ _ _ (@qZ _ _ _ _ _ _ (yd hr) (pv 0) (@qL _ _ _ _ _ _ _ (@Qk _) (pv 2) (@qi _ _ _ _) (fun _ _=>rfl)) (fun _ _=>rfl)) (@qc _) (by trivial)) (by trivial) (by trivial) (by trivial) (by trivial)) (@qc _) (by trivial)) (by trivial) (by trivial) (by trivial) (by trivial)))),?_⟩
 obtain⟨x,y,rfl,hx,hy⟩:=jn (qF hr' (by decide+kernel))
 refine⟨_,rfl,_,rfl,?_⟩
 refine bget (i:=1) hB hp rfl hy fun v iv=> ?_
 have ly:=QU (hT y hy)
 have hg:=hT y hy
 have k':∀(v:V) (H':Hp),Same H H'→Is H' (.str (toString ((lenD (B y):Nat):Int))) v→Q v H':=k
 generalize B y=dy at iv k' ly hg⊢
 have sm:∀n:Nat,n≤600→((n:Int)).natAbs.log2<1920∧((toString (n:Int):Str)).length≤sizeLine:=by
  intro n hn
  have h2:=Nat.log2_le_self ((n:Int)).natAbs
  exact⟨by omega,int_text_fits (by omega)⟩
 cases dy with
 |str z=>
  obtain⟨rfl,hz⟩:=iv
  have h2:=sm z.length ly
  exact .inl ⟨z,rfl,hz,_,rfl,h2.1,k' _ H (Same.refl _) ⟨rfl,h2.2⟩⟩
 |tup xs=>
  have iv':=iv
  obtain⟨r,rs,rfl,er,ir⟩:=iv'
  have h2:=sm xs.length ly
  refine .inr ⟨r,rs,rfl,.inr (SqT.of er),fun _=>⟨_,rfl,?_,?_⟩⟩
  ·rw [ir.length];exact h2.1
  ·rw [ir.length];exact k' _ H (Same.refl _) ⟨rfl,h2.2⟩
 |_=>simp [isT,good] at hg
theorem ok_cut (T:Tx K mg a):FnOk P w K mg base CX0 1 a.jI a.Xl ["boxes","own","parts"] (Xf "cut"):=by
 refine T.wq.ok J3 (fun vs H Q E h=> ?_) (fun cdv A outer s H vs Q E hr h=> ?_)
 ·obtain⟨d,t,own,B,ps,n,rfl,_⟩:=h
  rfl
 obtain⟨d,t,own,B,ps,n,rfl,hB,hT,ho,hr',hp,k⟩:=h
 refine⟨_,(@qb _ _ _ _ _ (@qB _ _ (3) _ _ _ _ J3.nd rfl (Or.inl rfl) (@qZ _ _ _ _ _ _ (yd hr) (pv 0) (@qL _ _ _ _ _ _ _ (@Qk _) (pv 2) (@qi _ _ _ _) (fun _ _=>rfl)) (fun _ _=>rfl)) (by trivial) (by trivial)) (@qb _ _ _ _ _ (@qB _ _ (4) _ _ _ _ J3.nd rfl (Or.inl rfl) (@qZ _ _ _ _ _ _ (yd hr) (pv 0) (@qL _ _ _ _ _ _ _ (@Qk _) (pv 2) (@qi _ _ _ _) (fun _ _=>rfl)) (fun _ _=>rfl)) (by trivial) (by trivial)) (@qb _ _ _ _ _ (@qI _ _ _ _ _ _ _ _ (@Jd _ _ _ _ _ _ _ (@Qo _ _ _ _ (@qT _ _ _ (@qj _ _ _ _ _ _ _ _ _ (@qw _ _ rfl) (by rfl) T.qt boot_isinstance (@qa _ _ _ _ _ (pv 3) (@qa _ _ _ _ _ (@qV _ _ (.ty "str") _ _ (by rfl) T.yI boot_str rfl (by trivial) (by trivial)) (@qc _) (by trivial)) (by trivial)) (by trivial) (by trivial) (by trivial) (by trivial)) (by trivial))) (@Jd _ _ _ _ _ _ _ (@Qo _ _ _ _ (@qT _ _ _ (@qj _ _ _ _ _ _ _ _ _ (@qw _ _ rfl) (by rfl) T.qt boot_isinstance (@qa _ _ _ _ _ (pv 4) (@qa _ _ _ _ _ (@qV _ _ (.ty "str") _ _ (by rfl) T.yI boot_str rfl (by trivial) (by trivial)) (@qc _) (by trivial)) (by trivial)) (by trivial) (by trivial) (by trivial) (by trivial)) (by trivial))) (@jf _ _ _ _ (@qp _ _ _ _ _ _ _ _ (@QL _) (pv 4) (@qh _ _ _ _) (qz _))))).pt (@qe _ _ _ (@qk _ _ _ _ (@Qn _ _ _))) (@qr _)) (@qe _ _ _ (@qk _ _ _ _ (@qH _ _ _ _ _ _ _ _ _ (@qO _) (by rfl) T.Qi boot_tuple (@qa _ _ _ _ _ (@Xx _ _ _ _ _ _ _ _ _ _ _ _ PySem.F.plainAttrs_str PySem.F.slot_str_split PySem.F.type_str_split (@mt_splitG _) (pv 3) (@qa _ _ _ _ _ (pv 4) (@qc _) (by trivial)) (by trivial) (by trivial) (by trivial) (by trivial) (by trivial)) (@qc _) (by trivial)) (by trivial) (by trivial) (by trivial) (by trivial))))))),?_⟩
 obtain⟨x0,x,y,rfl,hx0,hx,hy⟩:=sh_bbb (qF hr' (by decide+kernel))
 refine⟨_,rfl,_,rfl,?_⟩
 refine bget (i:=1) hB hp rfl hx fun v iv=> ?_
 refine⟨_,rfl,_,rfl,?_⟩
 refine bget (i:=2) hB hp rfl hy fun u iu=> ?_
 have lx:=QU (hT x hx)
 have ly:=QU (hT y hy)
 have k':∀(v:V) (H':Hp),Same H H'→Is H' (cutD (B x) (B y)) v→Q v H':=k
 generalize B x=dx at iv k' lx⊢
 generalize B y=dy at iu k' ly⊢
 refine⟨_,rfl,v,"str",tyD dx,Qd dx,rfl,iv.ty,QB _,_,rfl,?_⟩
 cases dx with
 |str z=>
  refine iteF ⟨_,rfl,u,"str",tyD dy,Qd dy,rfl,iu.ty,QB _,_,rfl,?_⟩
  cases dy with
  |str z2=>
   refine iteF ?_
   obtain⟨rfl,_⟩:=iv
   obtain⟨rfl,_⟩:=iu
   have h1:z.length≤600:=lx
   have h2:z2.length≤600:=ly
   refine⟨_,rfl,rfl,_,rfl,?_⟩
   refine ite2 (fun c=> ?_) (fun c=> ?_)
   ·have e:z2="":=by have:=of_decide_eq_true c;injection this
    subst e
    exact k' _ H (Same.refl _) rfl
   ·have h3:z2.length≠0:=fun h=>c (decide_eq_true (by
     have:z2="":=by
      have h4:z2.cps= #[]:=Array.eq_empty_of_size_eq_zero h
      cases z2
      simp only at h4
      subst h4
      decide+kernel
     rw [this]))
    refine⟨_,rfl,rfl,_,rfl,z,z2,rfl,rfl,by omega,by omega,fun p hp=>⟨p,_,rfl,.inl ⟨SqL.of qf,fun l hl=> ?_⟩⟩⟩
    have s1:Same H (upd H p (.lst ((spG z z2).map V.str))):=qd hp _
    refine k' _ _ (s1.trans (qd hl _)) ?_
    show Is _ (if z2.length=0 then D.non else .tup ((spG z z2).map D.str)) _
    rw [if_neg h3]
    exact Is.new (IsL.ofStrs fun q hq=>qU (by have:=spG_mem hq;omega)) hl
  |_=>exact iteT (k' _ H (Same.refl _) rfl)
 |_=>exact iteT (k' _ H (Same.refl _) (by cases dy<;>rfl))
theorem ok_glue (T:Tx K mg a):FnOk P w K mg base CX0 1 a.Y2 a.xh ["boxes","own","parts"] (Xf "glue"):=by
 refine T.Zb.ok Jg (fun vs H Q E h=> ?_) (fun cdv A outer s H vs Q E hr h=> ?_)
 ·obtain⟨d,t,own,B,ps,n,rfl,_⟩:=h
  rfl
 obtain⟨d,t,own,B,ps,n,rfl,hB,hT,ho,hr',hp,k⟩:=h
 refine⟨_,(@qb _ _ _ _ _ (@qB _ _ (3) _ _ _ _ Jg.nd rfl (Or.inl rfl) (@qZ _ _ _ _ _ _ (yd hr) (pv 0) (@qL _ _ _ _ _ _ _ (@Qk _) (pv 2) (@qi _ _ _ _) (fun _ _=>rfl)) (fun _ _=>rfl)) (by trivial) (by trivial)) (@qb _ _ _ _ _ (@qB _ _ (4) _ _ _ _ Jg.nd rfl (Or.inl rfl) (@qZ _ _ _ _ _ _ (yd hr) (pv 0) (@qL _ _ _ _ _ _ _ (@Qk _) (pv 2) (@qi _ _ _ _) (fun _ _=>rfl)) (fun _ _=>rfl)) (by trivial) (by trivial)) (@qb _ _ _ _ _ (@qI _ _ _ _ _ _ _ _ (@Jd _ _ _ _ _ _ _ (@Qo _ _ _ _ (@qT _ _ _ (@qj _ _ _ _ _ _ _ _ _ (@qw _ _ rfl) (by rfl) T.qt boot_isinstance (@qa _ _ _ _ _ (pv 3) (@qa _ _ _ _ _ (@qV _ _ (.ty "tuple") _ _ (by rfl) T.Qi boot_tuple rfl (by trivial) (by trivial)) (@qc _) (by trivial)) (by trivial)) (by trivial) (by trivial) (by trivial) (by trivial)) (by trivial))) (@jf _ _ _ _ (@Qo _ _ _ _ (@qT _ _ _ (@qj _ _ _ _ _ _ _ _ _ (@qw _ _ rfl) (by rfl) T.qt boot_isinstance (@qa _ _ _ _ _ (pv 4) (@qa _ _ _ _ _ (@qV _ _ (.ty "str") _ _ (by rfl) T.yI boot_str rfl (by trivial) (by trivial)) (@qc _) (by trivial)) (by trivial)) (by trivial) (by trivial) (by trivial) (by trivial)) (by trivial))))).pt (@qe _ _ _ (@qk _ _ _ _ (@Qn _ _ _))) (@qr _)) (@qb _ _ _ _ _ (@qI _ _ _ _ _ _ _ _ (@Qo _ _ _ _ (@qT _ _ _ (@qj _ _ _ _ _ _ _ _ _ (@YZ _ rfl) (by rfl) T.z_all boot_all (@qa _ _ _ _ _ (@Xi _ _ (["part"]) (1) ([]) _ _ _ _ _ _ _ _ _ (lcs0) rfl (@JC _ _ _ _ (pv 3)) (fun _ _ _ _ _ _=>(@Qm _ _ (0) _ (show List.Nodup (["part"]:List Str) by decide+kernel) rfl (Or.inl rfl) (by trivial))) (fun _ _ _ _ _ _=> @yC _) (fun _ _ _ _ _ _=>(@qj _ _ _ _ _ _ _ _ _ (@qw _ _ rfl) (by rfl) T.qt boot_isinstance (@qa _ _ _ _ _ (pv 0) (@qa _ _ _ _ _ (@qV _ _ (.ty "str") _ _ (by rfl) T.yI boot_str rfl (by trivial) (by trivial)) (@qc _) (by trivial)) (by trivial)) (by trivial) (by trivial) (by trivial) (by trivial))) (by trivial)) (@qc _) (by trivial)) (by trivial) (by trivial) (by trivial) (by trivial)) (by trivial))) (@qe _ _ _ (@qk _ _ _ _ (@Qn _ _ _))) (@qr _)) (@qe _ _ _ (@qk _ _ _ _ (@Xx _ _ _ _ _ _ _ _ _ _ _ _ PySem.F.plainAttrs_str PySem.F.slot_str_join PySem.F.type_str_join (@mt_joinT _) (pv 4) (@qa _ _ _ _ _ (pv 3) (@qc _) (by trivial)) (by trivial) (by trivial) (by trivial) (by trivial) (by trivial)))))))),?_⟩
 obtain⟨x0,x,y,rfl,hx0,hx,hy⟩:=sh_bbb (qF hr' (by decide+kernel))
 refine⟨_,rfl,_,rfl,?_⟩
 refine bget (i:=1) hB hp rfl hx fun v iv=> ?_
 refine⟨_,rfl,_,rfl,?_⟩
 refine bget (i:=2) hB hp rfl hy fun u iu=> ?_
 have lx:=QU (hT x hx)
 have hg:=hT x hx
 have ly:=QU (hT y hy)
 have k':∀(v:V) (H':Hp),Same H H'→Is H' (glueD (B x) (B y)) v→Q v H':=k
 generalize B x=dx at iv k' lx hg⊢
 generalize B y=dy at iu k' ly⊢
 refine⟨_,rfl,v,"tuple",tyD dx,xV dx,rfl,iv.ty,Y6 _,_,rfl,?_⟩
 cases dx with
 |tup xs=>
  refine iteF ⟨_,rfl,u,"str",tyD dy,Qd dy,rfl,iu.ty,QB _,_,rfl,?_⟩
  cases dy with
  |str z2=>
   refine iteF ?_
   obtain⟨r,rs,rfl,er,ir⟩:=iv
   obtain⟨rfl,_⟩:=iu
   have h1:xs.length≤600:=lx
   have h2:z2.length≤600:=ly
   refine⟨_,rfl,r,rs,rfl,SqT.of er,fun hvl A0 hA0=> ?_⟩
   refine xa (tl:= []) (fun d=> .bl (Qd d)) er ir (fits (by omega)) hA0 (fun d0 x0 H3 R hd0 s3 i3 q=>⟨_,rfl,x0,"str",tyD d0,Qd d0,rfl,i3.ty,QB _,q _ H3 (Same.refl _) rfl⟩) fun H1 ys s1 l1 i1=> ?_
   have ey:ys=(xs.map Qd).map V.bl:=IsL.bls (by rw [List.map_map];exact i1)
   subst ey
   refine⟨A0,xs.map Qd,rfl,SqL.of l1,_,rfl,?_⟩
   have eall:(xs.map Qd).all id=Yx xs:=by rw [Xt,List.all_map];rfl
   rw [eall]
   cases hst:Yx xs with
   |false=>exact iteT (k' _ H1 s1 (by show Is H1 (if Yx xs=true then _ else D.non) _;rw [hst];rfl))
   |true=>
    have exs:=wN hst
    have er':rs=(Yt xs).map V.str:=IsL.strs (by rw [←exs];exact ir)
    have hsz:=isT_sz hg
    have hsum:=Wa (Yt xs)
    rw [←exs] at hsum
    simp only [sz] at hsz
    have hln:(Yt xs).length*z2.length≤600*600:=Nat.mul_le_mul (by omega) h2
    have hj:=join_le z2 (Yt xs)
    refine iteF ⟨_,rfl,rfl,_,rfl,z2,r,Yt xs,rfl,rfl,SqT.of (by rw [s1 _ _ er,er']),by omega,?_⟩
    refine k' _ H1 s1 ?_
    show Is H1 (if Yx xs=true then .str (Str.join z2 (Yt xs)) else D.non) _
    rw [hst]
    exact⟨rfl,fits (by omega)⟩
  |_=>exact iteT (k' _ H (Same.refl _) rfl)
 |_=>exact iteT (k' _ H (Same.refl _) (by cases dy<;>rfl))
end
end K13
namespace K13
open PySem L2 PyProof.Rows
def jump (w:Str)(B:Str→D)(ps:List Pt):Bool:=if w="like" then eqD (B (b0 ps)) (B (b1 ps)) else if w="rowed" then xV (B (b0 ps)) else if w="none" then decide (lenD (B (b0 ps))=0) else true
def JMP:List Str:= ["go","like","rowed","none"]
def ASK:List Str:= ["ask","has","names"]
def flt (w:Str):D:= .tup [.str "fault",.str w]
def askF (w:Str)(held:D):D:=if w="names" then(if Qd held=true then .tup [.str "asks",.tup [.str "names",held]] else flt "kind") else if isNm held=true then .tup [.str "asks",.tup [.str (if w="ask" then "thing" else "has"),held]] else flt "name"
def sp_jump:Sp:=fun vs H Q _=>∃(d t:Addr) (w:Str) (B:Str→D) (ps:List Pt) (n:Nat),vs= [.ref d,.str w,.ref t]∧Q8 H d B∧Tr B∧w∈JMP∧QP n 160 (w,ps)∧PtsAt H t ps∧Q (.bl (jump w B ps)) H
def sp_asked:Sp:=fun vs H Q _=>∃(w:Str) (v:V) (d:D),vs= [.str w,v]∧w∈ASK∧Is H d v∧∀(u:V) (H':Hp),Same H H'→Is H' (askF w d) u→Q u H'
mutual
theorem good_pu:∀{d:D},good d=true→puD d=true
 | .str _,_=>rfl
 | .tup xs,h=>by
  simp only [good,Bool.and_eq_true] at h
  show puL xs=true
  exact goodL_pu h.2
 | .non,h| .bl _,h| .int _,h| .lst,h| .dct,h=>by simp [good] at h
theorem goodL_pu:∀{xs:List D},goodL xs=true→puL xs=true
 | [],_=>rfl
 |x::r,h=>by
  simp only [goodL,Bool.and_eq_true] at h
  simp only [puL,good_pu h.1,goodL_pu h.2,Bool.and_self]
end
theorem good_tr {d:D}(h:good d=true):trD d=true:=by
 cases d with
 |str z=>rfl
 |tup xs=>exact good_pu (d:= .tup xs) h
 |_=>simp [good] at h
theorem JM {d:D}(h:isT d=true):good d=true:=by
 unfold isT at h
 rw [Bool.and_eq_true,Bool.and_eq_true] at h
 exact h.1.1
theorem isT_tr {d:D}(h:isT d=true):trD d=true:=good_tr (JM h)
section
variable {P:Program}{w:World}{K:PySem.W.Frag}{mg:Str→Option Value}{base:Heap}{a:Ad}{g:Ga}
theorem ok_jump (T:Tx K mg a):FnOk P w K mg base CX0 1 a.yA a.yD ["boxes","word","parts"] sp_jump:=by
 refine T.Jt.ok X5 (fun vs H Q E h=> ?_) (fun cdv A outer s H vs Q E hr h=> ?_)
 ·obtain⟨d,t,w,B,ps,n,rfl,_⟩:=h
  rfl
 obtain⟨d,t,w,B,ps,n,rfl,hB,hT,hw,hr',hp,k⟩:=h
 refine⟨_,(@qb _ _ _ _ _ (@qI _ _ _ _ _ _ _ _ (@qp _ _ _ _ _ _ _ _ (@QL _) (pv 1) (@qh _ _ _ _) (qz _)) (@qe _ _ _ (@qk _ _ _ _ (@Q0 _ _ _ _ _ _ _ _ (@op_eqD _ hr.units) (@qZ _ _ _ _ _ _ (yd hr) (pv 0) (@qL _ _ _ _ _ _ _ (@Qk _) (pv 2) (@qi _ _ _ _) (fun _ _=>rfl)) (fun _ _=>rfl)) (@qZ _ _ _ _ _ _ (yd hr) (pv 0) (@qL _ _ _ _ _ _ _ (@Qk _) (pv 2) (@qi _ _ _ _) (fun _ _=>rfl)) (fun _ _=>rfl)) (qz _)))) (@qr _)) (@qb _ _ _ _ _ (@qI _ _ _ _ _ _ _ _ (@qp _ _ _ _ _ _ _ _ (@QL _) (pv 1) (@qh _ _ _ _) (qz _)) (@qe _ _ _ (@qk _ _ _ _ (@qj _ _ _ _ _ _ _ _ _ (@qw _ _ rfl) (by rfl) T.qt boot_isinstance (@qa _ _ _ _ _ (@qZ _ _ _ _ _ _ (yd hr) (pv 0) (@qL _ _ _ _ _ _ _ (@Qk _) (pv 2) (@qi _ _ _ _) (fun _ _=>rfl)) (fun _ _=>rfl)) (@qa _ _ _ _ _ (@qV _ _ (.ty "tuple") _ _ (by rfl) T.Qi boot_tuple rfl (by trivial) (by trivial)) (@qc _) (by trivial)) (by trivial)) (by trivial) (by trivial) (by trivial) (by trivial)))) (@qr _)) (@qb _ _ _ _ _ (@qI _ _ _ _ _ _ _ _ (@qp _ _ _ _ _ _ _ _ (@QL _) (pv 1) (@qh _ _ _ _) (qz _)) (@qe _ _ _ (@qk _ _ _ _ (@Q0 _ _ _ _ _ _ _ _ (@QL _) (@qj _ _ _ _ _ _ _ _ _ (@yh _) (by rfl) T.ye PySem.boot_len (@qa _ _ _ _ _ (@qZ _ _ _ _ _ _ (yd hr) (pv 0) (@qL _ _ _ _ _ _ _ (@Qk _) (pv 2) (@qi _ _ _ _) (fun _ _=>rfl)) (fun _ _=>rfl)) (@qc _) (by trivial)) (by trivial) (by trivial) (by trivial) (by trivial)) (@qi _ _ _ _) (qz _)))) (@qr _)) (@qe _ _ _ (@qk _ _ _ _ (@Jv _ _ _ _)))))),?_⟩
 refine⟨_,rfl,rfl,_,rfl,?_⟩
 simp only [JMP,List.mem_cons,List.not_mem_nil,or_false] at hw
 rcases hw with rfl|rfl|rfl|rfl
 ·refine qo (by decide+kernel) ?_
  refine⟨_,rfl,rfl,_,rfl,qo (by decide+kernel) ?_⟩
  refine⟨_,rfl,rfl,_,rfl,qo (by decide+kernel) ?_⟩
  exact k
 ·refine qG (by decide+kernel) ?_
  obtain⟨x,y,i,rfl,hx,hy,_⟩:=sh_bbl (qF hr' (by decide+kernel))
  refine⟨_,rfl,_,rfl,?_⟩
  dsimp only [tC]
  refine bget (i:=0) hB hp rfl hx fun v iv=> ?_
  refine⟨_,rfl,_,rfl,?_⟩
  dsimp only [tC]
  refine bget (i:=1) hB hp rfl hy fun u iu=> ?_
  refine⟨B x,B y,iv,iu,isT_tr (hT x hx),isT_tr (hT y hy),?_,k⟩
  ·have:=xp (hT x hx);omega
 ·refine qo (by decide+kernel) ?_
  refine⟨_,rfl,rfl,_,rfl,qG (by decide+kernel) ?_⟩
  obtain⟨x,i,rfl,hx,_⟩:=sh_bl (qF hr' (by decide+kernel))
  refine⟨_,rfl,_,rfl,?_⟩
  refine bget (i:=0) hB hp rfl hx fun v iv=> ?_
  exact⟨v,"tuple",tyD (B x),xV (B x),rfl,iv.ty,Y6 _,k⟩
 ·refine qo (by decide+kernel) ?_
  refine⟨_,rfl,rfl,_,rfl,qo (by decide+kernel) ?_⟩
  refine⟨_,rfl,rfl,_,rfl,qG (by decide+kernel) ?_⟩
  obtain⟨x,i,rfl,hx,_⟩:=sh_bl (qF hr' (by decide+kernel))
  refine⟨_,rfl,_,rfl,?_⟩
  refine bget (i:=0) hB hp rfl hx fun v iv=> ?_
  have k':Q (.bl (decide (lenD (B x)=0))) H:=k
  have hg:=hT x hx
  generalize B x=dx at iv k' hg⊢
  have hn:∀n:Nat,decide (V.int (n:Int)=V.int 0)=decide (n=0):=fun n=>by
   rw [decide_eq_decide]
   constructor
   ·intro h;injection h with h;omega
   ·rintro rfl;rfl
  cases dx with
  |str z=>
   obtain⟨rfl,hz⟩:=iv
   refine .inl ⟨z,rfl,hz,rfl,?_⟩
   rw [hn]
   exact k'
  |tup xs=>
   obtain⟨r,rs,rfl,er,ir⟩:=iv
   refine .inr ⟨r,rs,rfl,.inr (SqT.of er),fun _=>⟨rfl,?_⟩⟩
   rw [hn,ir.length]
   exact k'
  |_=>simp [isT,good] at hg
theorem ok_asked (T:Tx K mg a):FnOk P w K mg base CX0 2 a.yj a.yo ["word","held"] sp_asked:=by
 have Jh:FnOk P w K mg base CX0 1 a.jJ a.jD ["value"] Wb:=ok_name T
 refine T.Jb.ok Xu (fun vs H Q E h=> ?_) (fun cdv A outer s H vs Q E hr h=> ?_)
 ·obtain⟨w,v,d,rfl,_⟩:=h
  rfl
 obtain⟨w,v,d,rfl,hw,iv,k⟩:=h
 refine⟨_,(@qb _ _ _ _ _ (@qI _ _ _ _ _ _ _ _ (@qp _ _ _ _ _ _ _ _ (@QL _) (pv 0) (@qh _ _ _ _) (qz _)) (@qe _ _ _ (@qk _ _ _ _ (@jg _ _ _ _ _ _ _ _ (@qT _ _ _ (@qj _ _ _ _ _ _ _ _ _ (@qw _ _ rfl) (by rfl) T.qt boot_isinstance (@qa _ _ _ _ _ (pv 1) (@qa _ _ _ _ _ (@qV _ _ (.ty "str") _ _ (by rfl) T.yI boot_str rfl (by trivial) (by trivial)) (@qc _) (by trivial)) (by trivial)) (by trivial) (by trivial) (by trivial) (by trivial)) (by trivial)) (@qP _ _ _ _ _ (@qa _ _ _ _ _ (@qh _ _ _ _) (@qa _ _ _ _ _ (@qP _ _ _ _ _ (@qa _ _ _ _ _ (@qh _ _ _ _) (@qa _ _ _ _ _ (pv 1) (@qc _) (by trivial)) (by trivial))) (@qc _) (by trivial)) (by trivial))) (@qP _ _ _ _ _ (@qa _ _ _ _ _ (@qh _ _ _ _) (@qa _ _ _ _ _ (@qh _ _ _ _) (@qc _) (by trivial)) (by trivial)))))) (@qr _)) (@qb _ _ _ _ _ (@qI _ _ _ _ _ _ _ _ (@Qo _ _ _ _ (@qT _ _ _ (@qA _ _ _ _ _ _ _ _ _ _ _ _ _ _ _ _ Jh (hr.mono (by first|decide|omega)) (by rfl) T.Zn T.xY.kp T.Zp .nil qQ (@qa _ _ _ _ _ (pv 1) (@qc _) (by trivial)) (by trivial) (by trivial) (by trivial)) (by trivial))) (@qe _ _ _ (@qk _ _ _ _ (@qP _ _ _ _ _ (@qa _ _ _ _ _ (@qh _ _ _ _) (@qa _ _ _ _ _ (@qh _ _ _ _) (@qc _) (by trivial)) (by trivial))))) (@qr _)) (@qe _ _ _ (@qk _ _ _ _ (@qP _ _ _ _ _ (@qa _ _ _ _ _ (@qh _ _ _ _) (@qa _ _ _ _ _ (@qP _ _ _ _ _ (@qa _ _ _ _ _ (@jg _ _ _ _ _ _ _ _ (@qp _ _ _ _ _ _ _ _ (@QL _) (pv 0) (@qh _ _ _ _) (qz _)) (@qh _ _ _ _) (@qh _ _ _ _)) (@qa _ _ _ _ _ (pv 1) (@qc _) (by trivial)) (by trivial))) (@qc _) (by trivial)) (by trivial))))))),?_⟩
 have two:(2:Nat)≤sizeLine:=by decide
 have st:∀{H:Hp} (z:Str),z.length≤100→Is H (.str z) (.str z):=fun z hz=>⟨rfl,qU (by omega)⟩
 have fl:∀(z:Str) (H:Hp) (l:Addr),z.length≤100→H l=none→Is (upd H l (.tup [.str "fault",.str z])) (flt z) (.ref l):=fun z H l hz hl=>Is.new (ds:= [.str "fault",.str z]) ⟨_,_,rfl,st _ (by decide),_,_,rfl,st _ hz,rfl⟩ hl
 refine⟨_,rfl,rfl,_,rfl,?_⟩
 by_cases c:w="names"
 ·subst c
  refine qG (by decide+kernel) ?_
  have ea:askF "names" d=if Qd d=true then .tup [.str "asks",.tup [.str "names",d]] else flt "kind":=by unfold askF;rw [if_pos rfl]
  rw [ea] at k
  refine⟨_,rfl,v,"str",tyD d,Qd d,rfl,iv.ty,QB _,_,rfl,?_⟩
  cases hs:Qd d with
  |true=>
   rw [hs] at k
   refine iteT ⟨_,rfl,two,fun l hl=>⟨two,fun l2 hl2=> ?_⟩⟩
   have t1:Same H (upd H l (.tup [.str "names",v])):=qd hl _
   refine k _ _ (t1.trans (qd hl2 _)) ?_
   exact Is.new (ds:= [.str "asks",.tup [.str "names",d]]) ⟨_,_,rfl,st _ (by decide),_,_,rfl,Is.new (ds:= [.str "names",d]) ⟨_,_,rfl,st _ (by decide),_,_,rfl,iv,rfl⟩ hl,rfl⟩ hl2
  |false=>
   rw [hs] at k
   exact iteF ⟨two,fun l hl=>k _ _ (qd hl _) (fl "kind" H l (by decide) hl)⟩
 ·refine qo (decide_eq_false fun h=>c (by injection h)) ?_
  have ea:askF w d=if isNm d=true then .tup [.str "asks",.tup [.str (if w="ask" then "thing" else "has"),d]] else flt "name":=by unfold askF;rw [if_neg c]
  rw [ea] at k
  refine⟨_,rfl,v,d,rfl,iv,fun H1 s1=>⟨_,rfl,?_⟩⟩
  cases hs:isNm d with
  |false=>
   rw [hs] at k
   exact iteT ⟨two,fun l hl=>k _ _ (s1.trans (qd hl _)) (fl "name" H1 l (by decide) hl)⟩
  |true=>
   rw [hs] at k
   refine iteF ⟨_,rfl,rfl,_,rfl,?_⟩
   have key:∀z:Str,z.length≤100→z=(if w="ask" then("thing":Str) else "has")→∀l,H1 l=none→∀l2,(upd H1 l (.tup [.str z,v])) l2=none→Q (.ref l2) (upd (upd H1 l (.tup [.str z,v])) l2 (.tup [.str "asks",.ref l])):=by
    intro z hz ez l hl l2 hl2
    have t1:Same H1 (upd H1 l (.tup [.str z,v])):=qd hl _
    refine k _ _ (s1.trans (t1.trans (qd hl2 _))) ?_
    rw [←ez]
    exact Is.new (ds:= [.str "asks",.tup [.str z,d]]) ⟨_,_,rfl,st _ (by decide),_,_,rfl,Is.new (ds:= [.str z,d]) ⟨_,_,rfl,st _ hz,_,_,rfl,iv.mono s1.tk,rfl⟩ hl,rfl⟩ hl2
   refine ite2 (fun c2=> ?_) (fun c2=> ?_)
   ·have e:w="ask":=by have:=of_decide_eq_true c2;injection this
    exact⟨_,rfl,two,fun l hl=>⟨two,fun l2 hl2=>key "thing" (by decide) (by rw [if_pos e]) l hl l2 hl2⟩⟩
   ·have e:w≠"ask":=fun e=>c2 (decide_eq_true (by rw [e]))
    exact⟨_,rfl,two,fun l hl=>⟨two,fun l2 hl2=>key "has" (by decide) (by rw [if_neg e]) l hl l2 hl2⟩⟩
end
end K13
namespace K13
open PySem L2 PyProof.Rows
structure Mc where
 (x db dg:Addr)
 rs:List Rw
 own:Str
structure Rn where
 B:Str→D
 p:Int
 n:Nat
 gs:List D
 th:D
def MTH:List Str:= ["now","answer","asked","lines","copy","go_on","is_waiting","do_row","hold"]
structure Fl (fs:List (Str×V))(rv ru:V)(own:Str)(db dg:Addr)(place:Int)(done:Nat)(tv:V):Prop where
 rows:fs.lookup ("rows":Str)=some rv
 rule:fs.lookup ("rule":Str)=some ru
 own:fs.lookup ("own":Str)=some (.str own)
 boxes:fs.lookup ("boxes":Str)=some (.ref db)
 place:fs.lookup ("place":Str)=some (.int place)
 done:fs.lookup ("done":Str)=some (.int (done:Int))
 given:fs.lookup ("given":Str)=some (.ref dg)
 there:fs.lookup ("there":Str)=some tv
 meth:∀m∈MTH,fs.lookup m=none
 len:fs.length≤20
theorem zc {f:Str}{v:V}:∀{fs:List (Str×V)}{u:V},fs.lookup f=some u→(putF f v fs).length=fs.length
 |(g,x)::r,u,h=>by
  unfold putF
  by_cases c:g=f
  ·rw [if_pos c];rfl
  ·rw [if_neg c,List.length_cons,List.length_cons]
   have e:(f==g)=false:=by simp;exact fun z=>c z.symm
   rw [List.lookup_cons,e] at h
   rw [zc (u:=u) h]
 | [],u,h=>by simp at h
section
variable {fs:List (Str×V)}{rv ru:V}{own:Str}{db dg:Addr}{place:Int}{done:Nat}{tv:V}
theorem Fl.set_there {u:V}(h:Fl fs rv ru own db dg place done tv):Fl (putF "there" (u) fs) rv ru own db dg place done u:=by
 refine⟨?_,?_,?_,?_,?_,?_,?_,?_,fun m hm=> ?_,by rw [zc h.there];exact h.len⟩
 all_goals rw [qJ]
 all_goals first|rw [if_pos rfl]|(rw [if_neg (by decide+kernel)];first|exact h.rows|exact h.rule|exact h.own|exact h.boxes|exact h.place|exact h.done|exact h.given|exact h.there)|(rw [if_neg (fun e=>by subst e;revert hm;decide+kernel)];exact h.meth m hm)
theorem Fl.set_place {q:Int}(h:Fl fs rv ru own db dg place done tv):Fl (putF "place" (.int q) fs) rv ru own db dg q done tv:=by
 refine⟨?_,?_,?_,?_,?_,?_,?_,?_,fun m hm=> ?_,by rw [zc h.place];exact h.len⟩
 all_goals rw [qJ]
 all_goals first|rw [if_pos rfl]|(rw [if_neg (by decide+kernel)];first|exact h.rows|exact h.rule|exact h.own|exact h.boxes|exact h.place|exact h.done|exact h.given|exact h.there)|(rw [if_neg (fun e=>by subst e;revert hm;decide+kernel)];exact h.meth m hm)
theorem Fl.set_done {k:Nat}(h:Fl fs rv ru own db dg place done tv):Fl (putF "done" (.int ((k:Nat):Int)) fs) rv ru own db dg place k tv:=by
 refine⟨?_,?_,?_,?_,?_,?_,?_,?_,fun m hm=> ?_,by rw [zc h.done];exact h.len⟩
 all_goals rw [qJ]
 all_goals first|rw [if_pos rfl]|(rw [if_neg (by decide+kernel)];first|exact h.rows|exact h.rule|exact h.own|exact h.boxes|exact h.place|exact h.done|exact h.given|exact h.there)|(rw [if_neg (fun e=>by subst e;revert hm;decide+kernel)];exact h.meth m hm)
end
def Yd (C:Addr)(H:Hp)(m:Mc)(r:Rn):Prop:=
 ∃(dx:Addr) (fs:List (Str×V)) (rv ru tv:V) (gv:List V),H m.x=some (.ins C dx fs)∧Fl fs rv ru m.own m.db m.dg r.p r.n tv∧Is H (.tup (m.rs.map rowD)) rv∧Is H (yM m.rs) ru∧Q8 H m.db r.B∧H m.dg=some (.lst gv)∧L2.IsL H r.gs gv∧Is H r.th tv
structure Mv (m:Mc)(H H':Hp):Prop where
 kept:∀b o,H b=some o→b≠m.x→b≠m.db→b≠m.dg→H' b=some o
 tk:Tk H H'
theorem Mv.refl (m:Mc)(H:Hp):Mv m H H:=⟨fun _ _ e _ _ _=>e,Tk.refl H⟩
theorem Mv.trans {m:Mc}{H H1 H2:Hp}(h:Mv m H H1)(h2:Mv m H1 H2):Mv m H H2:=⟨fun b o e n1 n2 n3=>h2.kept b o (h.kept b o e n1 n2 n3) n1 n2 n3,h.tk.trans h2.tk⟩
theorem Mv.of {m:Mc}{H H':Hp}(s:Same H H'):Mv m H H':=⟨fun b o e _ _ _=>s b o e,s.tk⟩
theorem Yd.same {C:Addr}{H H':Hp}{m:Mc}{r:Rn}(h:Yd C H m r)(s:Same H H'):Yd C H' m r:=
 let⟨dx,fs,rv,ru,tv,gv,e,f,i,j,b,g,gl,t⟩:=h;⟨dx,fs,rv,ru,tv,gv,s _ _ e,f,i.mono s.tk,j.mono s.tk,b.same s,s _ _ g,gl.mono s.tk,t.mono s.tk⟩
theorem Q8.ne {H:Hp}{x db C dx:Addr}{fs:List (Str×V)}{B:Str→D}(e:H x=some (.ins C dx fs))(h:Q8 H db B):db≠x:=fun z=>by
 obtain⟨f,e2,_⟩:=h
 rw [z,e] at e2
 cases e2
theorem yp {C:Addr}{H:Hp}{m:Mc}{r:Rn}{dx:Addr}{fs fs':List (Str×V)}{rv ru tv:V}{gv:List V}(e:H m.x=some (.ins C dx fs))(f:Fl fs' rv ru m.own m.db m.dg r.p r.n tv)(i:Is H (.tup (m.rs.map rowD)) rv)(j:Is H (yM m.rs) ru)(b:Q8 H m.db r.B)(hg:H m.dg=some (.lst gv))(gl:L2.IsL H r.gs gv)(t:Is H r.th tv):
  Yd C (upd H m.x (.ins C dx fs')) m r∧Mv m H (upd H m.x (.ins C dx fs')):=by
 have tk:Tk H (upd H m.x (.ins C dx fs')):=Tk.updI e
 have n1:m.db≠m.x:=Q8.ne e b
 have n2:m.dg≠m.x:=fun z=>by rw [z,e] at hg;cases hg
 exact⟨⟨dx,fs',rv,ru,tv,gv,qf,f,i.mono tk,j.mono tk,b.move tk (qu n1),by rw [qu n2];exact hg,gl.mono tk,t.mono tk⟩,⟨fun c o h a1 _ _=>by rw [qu a1];exact h,tk⟩⟩
def Qe:D→Bool
 | .tup (.str w::_)=>decide (w="asks")
 |_=>false
def Th (d:D):Prop:=d= .non∨∃w e,d= .tup [.str w,e]
inductive Out where
 |go (B:Str→D) (p:Int)|stop (e:D)
def Out.B (B:Str→D):Out→Str→D
 | .go B' _=>B'
 | .stop _=>B
def Out.P (p:Int):Out→Int
 | .go _ p'=>p'
 | .stop _=>p
def Out.T:Out→D
 | .go _ _=> .non
 | .stop e=>e
def wI (B:Str→D)(z:Str)(e:D)(p:Int):Out:=match e with
 | .non=> .stop (flt "kind")
 |e=>if isT e=true then .go (setB B z e) (p+1) else .stop (flt "big")
def sp_now (C:Addr):Sp:=fun vs H Q _=>∃(m:Mc) (r:Rn),vs= [.ref m.x]∧Yd C H m r∧∀v,Is H r.th v→Q v H
def sp_lines (C:Addr):Sp:=fun vs H Q _=>∃(m:Mc) (r:Rn),vs= [.ref m.x]∧Yd C H m r∧Q (.int (r.n:Int)) H
def sp_asks (C:Addr):Sp:=fun vs H Q _=>∃(m:Mc) (r:Rn),vs= [.ref m.x]∧Yd C H m r∧∀v H',Same H H'→Is H' (.tup r.gs) v→Q v H'
def sp_wait (C:Addr):Sp:=fun vs H Q _=>∃(m:Mc) (r:Rn),vs= [.ref m.x]∧Yd C H m r∧Th r.th∧Q (.bl (Qe r.th)) H
def sp_hold (C:Addr):Sp:=fun vs H Q _=>∃(m:Mc) (r:Rn) (z:Str) (v:V) (e:D),vs= [.ref m.x,.str z,v]∧Yd C H m r∧r.th= .non∧z∈BX∧Is H e v∧
 ∀H',Mv m H H'→Yd C H' m ⟨(wI r.B z e r.p).B r.B,(wI r.B z e r.p).P r.p,r.n,r.gs,(wI r.B z e r.p).T⟩→Q .non H'
section
variable {P:Program}{w:World}{K:PySem.W.Frag}{mg:Str→Option Value}{base:Heap}{a:Ad}{g:Ga}
theorem ok_now (T:Tx K mg a):FnOk P w K mg base CX0 1 a.YG a.YE ["self"] (sp_now a.qq):=by
 refine T.Wi.ok ZF (fun vs H Q E h=> ?_) (fun cdv A outer s H vs Q E hr h=> ?_)
 ·obtain⟨m,r,rfl,_⟩:=h
  rfl
 obtain⟨m,r,rfl,⟨dx,fs,rv,ru,tv,gv,e,f,ir,iu,ib,hg,gl,it⟩,k⟩:=h
 refine⟨_,(@qe _ _ _ (@qk _ _ _ _ (@ya _ _ _ _ _ (pv 0) rfl))),?_⟩
 exact⟨_,rfl,m.x,_,dx,fs,tv,rfl,e,T.ql,T.qE,f.there,k _ it⟩
theorem ok_lines (T:Tx K mg a):FnOk P w K mg base CX0 1 a.yE a.yz ["self"] (sp_lines a.qq):=by
 refine T.Zg.ok XW (fun vs H Q E h=> ?_) (fun cdv A outer s H vs Q E hr h=> ?_)
 ·obtain⟨m,r,rfl,_⟩:=h
  rfl
 obtain⟨m,r,rfl,⟨dx,fs,rv,ru,tv,gv,e,f,ir,iu,ib,hg,gl,it⟩,k⟩:=h
 refine⟨_,(@qe _ _ _ (@qk _ _ _ _ (@ya _ _ _ _ _ (pv 0) rfl))),?_⟩
 exact⟨_,rfl,m.x,_,dx,fs,_,rfl,e,T.ql,T.QT,f.done,k⟩
theorem ok_asks (T:Tx K mg a):FnOk P w K mg base CX0 1 a.yJ a.yG ["self"] (sp_asks a.qq):=by
 refine T.Zj.ok XR (fun vs H Q E h=> ?_) (fun cdv A outer s H vs Q E hr h=> ?_)
 ·obtain⟨m,r,rfl,_⟩:=h
  rfl
 obtain⟨m,r,rfl,⟨dx,fs,rv,ru,tv,gv,e,f,ir,iu,ib,hg,gl,it⟩,k⟩:=h
 refine⟨_,(@qe _ _ _ (@qk _ _ _ _ (@qH _ _ _ _ _ _ _ _ _ (@qO _) (by rfl) T.Qi boot_tuple (@qa _ _ _ _ _ (@ya _ _ _ _ _ (pv 0) rfl) (@qc _) (by trivial)) (by trivial) (by trivial) (by trivial) (by trivial)))),?_⟩
 exact⟨_,rfl,m.x,_,dx,fs,_,rfl,e,T.ql,T.Y9,f.given,m.dg,gv,rfl,.inl ⟨SqL.of hg,fun l hl=>k _ _ (qd hl _) (Is.new gl hl)⟩⟩
theorem ok_wait (T:Tx K mg a):FnOk P w K mg base CX0 1 a.Qj a.Ql ["self"] (sp_wait a.qq):=by
 refine T.JU.ok Jz (fun vs H Q E h=> ?_) (fun cdv A outer s H vs Q E hr h=> ?_)
 ·obtain⟨m,r,rfl,_⟩:=h
  rfl
 obtain⟨m,⟨B,p,n,gs,th⟩,rfl,⟨dx,fs,rv,ru,tv,gv,e,f,ir,iu,ib,hg,gl,it⟩,hth,k⟩:=h
 simp only at f ib gl it hth k
 refine⟨_,(@qe _ _ _ (@qk _ _ _ _ (@XA _ _ _ _ _ _ _ (@Q0 _ _ _ _ _ _ _ _ (@op_notN _) (@ya _ _ _ _ _ (pv 0) rfl) (@Qn _ _ _) (qz _)) (@XD _ _ _ _ _ (@Q0 _ _ _ _ _ _ _ _ (@QL _) (@qL _ _ _ _ _ _ _ (@jA _) (@ya _ _ _ _ _ (pv 0) rfl) (@qi _ _ _ _) (fun _ _=>rfl)) (@qh _ _ _ _) (qz _)))))),?_⟩
 refine⟨_,rfl,m.x,_,dx,fs,tv,rfl,e,T.ql,T.qE,f.there,rfl,?_⟩
 rcases hth with rfl|⟨w1,e1,rfl⟩
 ·cases(show tv= .non from it)
  exact⟨_,rfl,qo (by decide+kernel) k⟩
 ·have it':=it
  obtain⟨t0,us,rfl,et,iu⟩:=it'
  refine⟨_,rfl,qG (by simp) ⟨_,rfl,m.x,_,dx,fs,_,rfl,e,T.ql,T.qE,f.there,?_⟩⟩
  refine .inr (.inl (jT (i:=0) (d:= .str w1) it (QI (j:=0) rfl) fun q hq=> ?_))
  obtain⟨rfl,_⟩:=hq
  refine⟨rfl,?_⟩
  have ew:decide (V.str w1=V.str ("asks":Str))=decide (w1="asks"):=by
   rw [decide_eq_decide]
   exact⟨fun h=>by injection h,fun h=>by rw [h]⟩
  rw [ew]
  exact k
theorem ok_hold (T:Tx K mg a):FnOk P w K mg base CX0 3 a.Yp a.Yk ["self","box","tree"] (sp_hold a.qq):=by
 have Jq:FnOk P w K mg base CX0 2 a.jF a.jy ["value"] JG:=Xd T
 refine T.ZK.ok zA (fun vs H Q E h=> ?_) (fun cdv A outer s H vs Q E hr h=> ?_)
 ·obtain⟨m,r,z,v,e,rfl,_⟩:=h
  rfl
 obtain⟨m,⟨B,p,n,gs,th⟩,z,v,d,rfl,⟨dx,fs,rv,ru,tv,gv,e,f,ir,iu,ib,hg,gl,it⟩,hth,hz,iv,k⟩:=h
 simp only at f ib gl it hth k
 subst hth
 refine⟨_,(@qe _ _ _ (@qI _ _ _ _ _ _ _ _ (@qp _ _ _ _ _ _ _ _ (@Z7 _) (pv 2) (@Qn _ _ _) (qz _)) (@qe _ _ _ (@yN _ _ _ _ _ _ _ _ (pv 0) (@qP _ _ _ _ _ (@qa _ _ _ _ _ (@qh _ _ _ _) (@qa _ _ _ _ _ (@qh _ _ _ _) (@qc _) (by trivial)) (by trivial))) rfl)) (@qe _ _ _ (@qI _ _ _ _ _ _ _ _ (@Qo _ _ _ _ (@qT _ _ _ (@qA _ _ _ _ _ _ _ _ _ _ _ _ _ _ _ _ Jq (hr.mono (by first|decide|omega)) (by rfl) T.zn T.xk.kp T.zH .nil qQ (@qa _ _ _ _ _ (pv 2) (@qc _) (by trivial)) (by trivial) (by trivial) (by trivial)) (by trivial))) (@qe _ _ _ (@yN _ _ _ _ _ _ _ _ (pv 0) (@qP _ _ _ _ _ (@qa _ _ _ _ _ (@qh _ _ _ _) (@qa _ _ _ _ _ (@qh _ _ _ _) (@qc _) (by trivial)) (by trivial))) rfl)) (@qb _ _ _ _ _ (@ps_dput _ _ _ _ _ _ _ _ _ (yd hr) (@ya _ _ _ _ _ (pv 0) rfl) (pv 1) (pv 2) rfl) (@qe _ _ _ (@Jk _ _ _ _ _ _ _ _ _ _ (pv 0) (@qi _ _ _ _) in_add))))))),?_⟩
 have two:(2:Nat)≤sizeLine:=by decide
 have st:∀{H:Hp} (z:Str),z.length≤100→Is H (.str z) (.str z):=fun z hz=>⟨rfl,qU (by omega)⟩
 have fl:∀(z:Str) (H:Hp) (l:Addr),z.length≤100→H l=none→Is (upd H l (.tup [.str "fault",.str z])) (flt z) (.ref l):=fun z H l hz hl=>Is.new (ds:= [.str "fault",.str z]) ⟨_,_,rfl,st _ (by decide),_,_,rfl,st _ hz,rfl⟩ hl
 refine⟨_,rfl,rfl,_,rfl,?_⟩
 have hlt:fs.length<1000:=by have:=f.len;omega
 by_cases c:d= .non
 ·subst c
  cases(show v= .non from iv)
  refine qG (by decide+kernel) ⟨two,fun l hl=> ?_⟩
  have s1:Same H (upd H l (.tup [.str "fault",.str "kind"])):=qd hl _
  refine⟨_,rfl,m.x,_,dx,fs,rfl,s1 _ _ e,T.ql,T.qE,hlt,?_⟩
  obtain⟨m1,m2⟩:=yp (r:=⟨B,p,n,gs,flt "kind"⟩) (s1 _ _ e) (f.set_there (u:= .ref l)) (ir.mono s1.tk) (iu.mono s1.tk) (ib.same s1) (s1 _ _ hg) (gl.mono s1.tk) (fl "kind" H l (by decide) hl)
  exact k _ ((Mv.of s1).trans m2) m1
 ·have hv:v≠ .non:=by
   rintro rfl
   cases d with
   |non=>exact c rfl
   |bl b=>cases(show V.non= .bl b from iv)
   |int i=>cases(show V.non= .int i from iv)
   |str z=>obtain⟨h,_⟩:=iv;cases h
   |lst=>obtain⟨_,_,h,_⟩:=iv;cases h
   |dct=>obtain⟨_,_,h,_⟩:=iv;cases h
   |tup xs=>obtain⟨_,_,h,_⟩:=iv;cases h
  have eo:wI B z d p=if isT d=true then .go (setB B z d) (p+1) else .stop (flt "big"):=by
   cases d with
   |non=>exact absurd rfl c
   |_=>rfl
  rw [eo] at k
  refine qo (decide_eq_false hv) ?_
  refine⟨_,rfl,v,d,rfl,iv,fun H1 s1=>⟨_,rfl,?_⟩⟩
  cases ht:isT d with
  |false=>
   rw [ht] at k
   refine iteT ⟨two,fun l hl=> ?_⟩
   have s2:Same H (upd H1 l (.tup [.str "fault",.str "big"])):=s1.trans (qd hl _)
   refine⟨_,rfl,m.x,_,dx,fs,rfl,s2 _ _ e,T.ql,T.qE,hlt,?_⟩
   obtain⟨m1,m2⟩:=yp (r:=⟨B,p,n,gs,flt "big"⟩) (s2 _ _ e) (f.set_there (u:= .ref l)) (ir.mono s2.tk) (iu.mono s2.tk) (ib.same s2) (s2 _ _ hg) (gl.mono s2.tk) (fl "big" H1 l (by decide) hl)
   exact k _ ((Mv.of s2).trans m2) m1
  |true=>
   rw [ht] at k
   refine iteF ?_
   have iv1:=iv.mono s1.tk
   obtain⟨kvs,hput,hb2,t2⟩:=(ib.same s1).put hz iv1
   have n1:m.db≠m.x:=Q8.ne e ib
   have n3:m.dg≠m.db:=fun z=>by
    obtain⟨ff,e2,_⟩:=ib
    rw [z,e2] at hg
    cases hg
   have e1:=s1 _ _ e
   have e3:(upd H1 m.db (.dK kvs)) m.x=some (.ins a.qq dx fs):=by rw [qu n1.symm];exact e1
   refine⟨_,rfl,_,rfl,m.x,_,dx,fs,_,rfl,e1,T.ql,T.Qt,f.boxes,_,rfl,m.db,_,rfl,hput,?_⟩
   refine⟨_,rfl,m.x,_,dx,fs,_,rfl,e3,T.ql,T.Qa,f.place,p,1,rfl,rfl,dx,fs,e3,hlt,?_⟩
   obtain⟨m1,m2⟩:=yp (r:=⟨setB B z d,p+1,n,gs,.non⟩) e3 (f.set_place (q:=p+1)) ((ir.mono s1.tk).mono t2) ((iu.mono s1.tk).mono t2) hb2 (by rw [qu n3];exact s1 _ _ hg) ((gl.mono s1.tk).mono t2) it
   exact k _ ((Mv.of s1).trans (Mv.trans ⟨fun b o h _ a2 _=>by rw [qu a2];exact h,t2⟩ m2)) m1
end
end K13
namespace K13
open PySem L2 PyProof.Rows
def MKR:List Str:= ["text","self","copy","row","put","join","first","rest","size","cut","glue"]
def JX (ps:List Pt):Int:=match ps.getLast? with
 |some (.n i)=>i
 |_=>0
def rowO (own:Str)(r:Rw)(B:Str→D)(p:Int):Out:=
 if r.1∈MKR then wI B (b0 r.2) (made r.1 B own r.2) p else if r.1∈ASK then .stop (askF r.1 (B (b1 r.2))) else if r.1="say" then .stop (.tup [.str "said",B (b0 r.2)]) else
 if r.1="fault" then .stop (flt "told") else if jump r.1 B r.2=true then .go B (JX r.2) else .go B (p+1)
theorem frm_mk:∀x∈FRM,x.1∈MKR→x.2.head? =some .box:=by decide+kernel
theorem Xa:∀x∈FRM,x.1∈ASK→x.1∉MKR∧x.1∈NOMK∧x.2= [.box,.box]:=by decide+kernel
theorem frm_say:∀x∈FRM,x.1="say"→x.2= [.box]:=by decide+kernel
theorem frm_all:∀x∈FRM,x.1∈MKR∨(x.1∉MKR∧x.1∈NOMK∧(x.1∈ASK∨x.1∉ASK∧(x.1="say"∨x.1="fault"∨x.1≠"say"∧x.1≠"fault"∧x.1∈JMP))):=by decide+kernel
theorem frm_jmp:∀x∈FRM,x.1∈JMP→x.2.getLast? =some .line:=by decide+kernel
theorem mk_b0 {n m:Nat}{r:Rw}(h:QP n m r)(hw:r.1∈MKR):∃z ps,r.2= .s z::ps∧z∈BX:=by
 obtain⟨ks,hk,hp⟩:=h
 have:=frm_mk _ hk hw
 match ks,hp,this with
 | .box::ks,hp,_=>
  match h2:r.2,hp with
  | .s z::ps,hp=>exact⟨z,ps,rfl,hp.1⟩
  | .n _::_,hp=>exact hp.1.elim
theorem Z3 {n m:Nat}:∀{ks:List Kd}{ps:List Pt},jo n m ks ps→ks.getLast? =some .line→∃qs i,ps=qs++ [.n i]∧1≤i∧i≤(n:Int)
 | [k],[p],h,e=>by
  cases e
  cases p with
  |n i=>exact⟨[],i,rfl,h.1⟩
  |s z=>exact h.1.elim
 |k::k2::ks,p::p2::ps,h,e=>by
  rw [List.getLast?_cons_cons] at e
  obtain⟨qs,i,e2,hi⟩:=Z3 (ks:=k2::ks) (ps:=p2::ps) h.2 e
  exact⟨p::qs,i,by rw [e2];rfl,hi⟩
 | [k],p::_::_,h,_=>h.2.elim
 |k::_::_,[p],h,_=>h.2.elim
 | [],[],_,e=>by cases e
 | [],_::_,h,_=>h.elim
 |_::_,[],h,_=>h.elim
theorem wG {n m:Nat}{r:Rw}(h:QP n m r)(hw:r.1∈JMP):∃qs i,r.2=qs++ [.n i]∧1≤i∧i≤(n:Int)∧JX r.2=i:=by
 obtain⟨ks,hk,hp⟩:=h
 obtain⟨qs,i,e,h1,h2⟩:=Z3 hp (frm_jmp _ hk hw)
 refine⟨qs,i,e,h1,h2,?_⟩
 unfold JX
 rw [e,List.getLast?_concat]
def sp_dorow (C:Addr):Sp:=fun vs H Q _=>∃(m:Mc) (r:Rn) (rw:Rw) (v:V) (k:Nat),vs= [.ref m.x,v]∧Yd C H m r∧r.th= .non∧Tr r.B∧m.own.length≤100∧QP k 160 rw∧Is H (rowD rw) v∧
 ∀H',Mv m H H'→Yd C H' m ⟨(rowO m.own rw r.B r.p).B r.B,(rowO m.own rw r.B r.p).P r.p,r.n,r.gs,(rowO m.own rw r.B r.p).T⟩→Q .non H'
section
variable {P:Program}{w:World}{K:PySem.W.Frag}{mg:Str→Option Value}{base:Heap}{a:Ad}{g:Ga}
theorem mk_of (T:Tx K mg a)(C:Fx K w mg g a){x:Str}(h:x∈MKR):∃f fd,PySem.W.nsIn K g.makers x=some (some (.ref f))∧FnOk P w K mg base CX0 1 f fd ["boxes","own","parts"] (Xf x)∧qR K fd ["boxes","own","parts"] []∧PySem.W.keepIn K (.ref f)=true:=by
 simp only [MKR,List.mem_cons,List.not_mem_nil,or_false] at h
 rcases h with rfl|rfl|rfl|rfl|rfl|rfl|rfl|rfl|rfl|rfl|rfl
 ·exact⟨_,_,C.k_text,ok_text T,T.b_text_made,T.zS.kp⟩
 ·exact⟨_,_,C.k_self,ok_self T,T.b_self_made,T.zU.kp⟩
 ·exact⟨_,_,C.k_copy,ok_copy T,T.b_copy_made,T.Zu.kp⟩
 ·exact⟨_,_,C.k_row,ok_row T,T.b_row_made,T.Z9.kp⟩
 ·exact⟨_,_,C.k_put,ok_put T,T.b_put_made,T.wl.kp⟩
 ·exact⟨_,_,C.k_join,ok_join T,T.b_join_made,T.Zo.kp⟩
 ·exact⟨_,_,C.k_first,ok_first T,T.b_first_made,T.XB.kp⟩
 ·exact⟨_,_,C.k_rest,ok_rest T,T.b_rest_made,T.zG.kp⟩
 ·exact⟨_,_,C.k_size,ok_size T,T.b_size_made,T.zo.kp⟩
 ·exact⟨_,_,C.k_cut,ok_cut T,T.b_cut_made,T.wq.kp⟩
 ·exact⟨_,_,C.k_glue,ok_glue T,T.b_glue_made,T.Zb.kp⟩
theorem ok_dorow (T:Tx K mg a)(C:Fx K w mg g a):FnOk P w K mg base CX0 4 a.yi a.yl ["self","row"] (sp_dorow a.qq):=by
 have Zz:FnOk P w K mg base CX0 1 a.yA a.yD ["boxes","word","parts"] sp_jump:=ok_jump T
 have X1:FnOk P w K mg base CX0 2 a.yj a.yo ["word","held"] sp_asked:=ok_asked T
 have ZI:FnOk P w K mg base CX0 3 a.Yp a.Yk ["self","box","tree"] (sp_hold a.qq):=ok_hold T
 refine T.XX.ok yZ (fun vs H Q E h=> ?_) (fun cdv A outer s H vs Q E hr h=> ?_)
 ·obtain⟨m,r,rw,v,nn,rfl,_⟩:=h
  rfl
 obtain⟨m,⟨B,p,n,gs,th⟩,r,v,nn,rfl,M,hth,hT,ho,hro,iv,k⟩:=h
 simp only at hth hT k
 subst hth
 refine⟨_,(@qb _ _ _ _ _ (@qB _ _ (2) _ _ _ _ yZ.nd rfl (Or.inl rfl) (@qL _ _ _ _ _ _ _ (@Qk _) (pv 1) (@qi _ _ _ _) (fun _ _=>rfl)) (by trivial) (by trivial)) (@qb _ _ _ _ _ (@qB _ _ (3) _ _ _ _ yZ.nd rfl (Or.inl rfl) (@qL _ _ _ _ _ _ _ (@Qk _) (pv 1) (@qi _ _ _ _) (fun _ _=>rfl)) (by trivial) (by trivial)) (@qe _ _ _ (@qI _ _ _ _ _ _ _ _ (@qp _ _ _ _ _ _ _ _ (@op_inK _) (pv 2) (@pe_gR _ _ _ _ (by rfl) C.m_MAKERS (by trivial)) (by with_unfolding_all rfl)) (@qe _ _ _ (@jq _ _ _ _ (@pe_meth _ _ _ _ _ _ _ _ _ _ _ _ _ _ _ _ _ _ _ _ (pv 0) T.ql T.ZJ ZI (hr.mono (by first|decide|omega)) T.ZP .nil qQ (@qa _ _ _ _ _ (@qL _ _ _ _ _ _ _ (@Qk _) (pv 3) (@qi _ _ _ _) (fun _ _=>rfl)) (@qa _ _ _ _ _ (@pe_callX _ _ _ _ _ _ _ _ _ (1) _ _ _ _ _ ⟨rfl,rfl,rfl,rfl,rfl⟩ (@qL _ _ _ _ _ _ _ (@ix_K _) (@pe_gR _ _ _ _ (by rfl) C.m_MAKERS (by trivial)) (pv 2) (fun _ _=>rfl)) (hr.mono (by first|decide|omega)) (@qa _ _ _ _ _ (@ya _ _ _ _ _ (pv 0) rfl) (@qa _ _ _ _ _ (@ya _ _ _ _ _ (pv 0) rfl) (@qa _ _ _ _ _ (pv 3) (@qc _) (by trivial)) (by trivial)) (by trivial)) (by trivial) (by trivial)) (@qc _) (by trivial)) (by trivial)) (by trivial) (by trivial) (by trivial)) (by trivial))) (@qe _ _ _ (@qI _ _ _ _ _ _ _ _ (@qp _ _ _ _ _ _ _ _ (@QX _) (pv 2) (@pe_gR _ _ _ _ (by rfl) C.m_ASKING (by trivial)) (by with_unfolding_all rfl)) (@qe _ _ _ (@yN _ _ _ _ _ _ _ _ (pv 0) (@qA _ _ _ _ _ _ _ _ _ _ _ _ _ _ _ _ X1 (hr.mono (by first|decide|omega)) (by rfl) T.XU T.Jb.kp T.XV .nil qQ (@qa _ _ _ _ _ (pv 2) (@qa _ _ _ _ _ (@qZ _ _ _ _ _ _ (yd hr) (@ya _ _ _ _ _ (pv 0) rfl) (@qL _ _ _ _ _ _ _ (@Qk _) (pv 3) (@qi _ _ _ _) (fun _ _=>rfl)) (fun _ _=>rfl)) (@qc _) (by trivial)) (by trivial)) (by trivial) (by trivial) (by trivial)) rfl)) (@qe _ _ _ (@qI _ _ _ _ _ _ _ _ (@qp _ _ _ _ _ _ _ _ (@QL _) (pv 2) (@qh _ _ _ _) (qz _)) (@qe _ _ _ (@yN _ _ _ _ _ _ _ _ (pv 0) (@qP _ _ _ _ _ (@qa _ _ _ _ _ (@qh _ _ _ _) (@qa _ _ _ _ _ (@qZ _ _ _ _ _ _ (yd hr) (@ya _ _ _ _ _ (pv 0) rfl) (@qL _ _ _ _ _ _ _ (@Qk _) (pv 3) (@qi _ _ _ _) (fun _ _=>rfl)) (fun _ _=>rfl)) (@qc _) (by trivial)) (by trivial))) rfl)) (@qe _ _ _ (@qI _ _ _ _ _ _ _ _ (@qp _ _ _ _ _ _ _ _ (@QL _) (pv 2) (@qh _ _ _ _) (qz _)) (@qe _ _ _ (@yN _ _ _ _ _ _ _ _ (pv 0) (@qP _ _ _ _ _ (@qa _ _ _ _ _ (@qh _ _ _ _) (@qa _ _ _ _ _ (@qh _ _ _ _) (@qc _) (by trivial)) (by trivial))) rfl)) (@qe _ _ _ (@qI _ _ _ _ _ _ _ _ (@qT _ _ _ (@qA _ _ _ _ _ _ _ _ _ _ _ _ _ _ _ _ Zz (hr.mono (by first|decide|omega)) (by rfl) T.zt T.Jt.kp T.zI .nil qQ (@qa _ _ _ _ _ (@ya _ _ _ _ _ (pv 0) rfl) (@qa _ _ _ _ _ (pv 2) (@qa _ _ _ _ _ (pv 3) (@qc _) (by trivial)) (by trivial)) (by trivial)) (by trivial) (by trivial) (by trivial)) (by trivial)) (@qe _ _ _ (@yN _ _ _ _ _ _ _ _ (pv 0) (@qL _ _ _ _ _ _ _ (@Qk _) (pv 3) (@pe_un _ _ _ _ _ _ un_neg (@qi _ _ _ _)) (fun _ _=>rfl)) rfl)) (@qe _ _ _ (@Jk _ _ _ _ _ _ _ _ _ _ (pv 0) (@qi _ _ _ _) in_add)))))))))))))),?_⟩
 have two:(2:Nat)≤sizeLine:=by decide
 obtain⟨r1,ps⟩:=r
 obtain⟨t0,us,rfl,et,iu⟩:=iv
 obtain⟨v1,u1,rfl,⟨rfl,hz1⟩,v2,u2,rfl,i2,e2⟩:=iu
 cases(show u2= [] from e2)
 refine⟨_,rfl,t0,_,0,_,rfl,rfl,SqT.of et,rfl,?_⟩
 refine⟨_,rfl,t0,_,1,_,rfl,rfl,SqT.of et,rfl,?_⟩
 obtain⟨t1,us1,rfl,et1,iu1⟩:=id i2
 have hpt:PtsAt H t1 ps:=i2
 have hks:=hro
 obtain⟨ks,hk,hp⟩:=hks
 have hM:=M
 obtain⟨dx,fs,rv,ru,tv,gv,e,f,ir,ij,ib,hg,gl,it⟩:=hM
 simp only at f ib gl it
 have hlt:fs.length<1000:=by have:=f.len;omega
 rcases frm_all _ hk with hmk|⟨hmk,hno,hrest⟩
 ·obtain⟨fa,fd,hn,hF,hb,hkp⟩:=mk_of (P:=P) (base:=base) T C hmk
  obtain⟨z,qs,rfl,hzB⟩:=mk_b0 hro hmk
  have eo:rowO m.own (r1,.s z::qs) B p=wI B z (made r1 B m.own (.s z::qs)) p:=by unfold rowO;rw [if_pos hmk];rfl
  rw [eo] at k
  refine⟨_,rfl,r1,g.makers,_,rfl,rfl,C.km,hn,_,rfl,?_⟩
  refine iteT ?_
  refine⟨_,rfl,m.x,dx,fs,rfl,e,f.meth _ (by decide+kernel),_,rfl,?_⟩
  dsimp only [tC]
  refine box_at (i:=0) hpt rfl ?_
  refine⟨_,rfl,r1,g.makers,_,.ref fa,rfl,rfl,C.km,hn,rfl,fa,fd,_,Xf r1,rfl,hF,hb,hkp,?_⟩
  refine⟨_,rfl,m.x,_,dx,fs,_,rfl,e,T.ql,T.Qt,f.boxes,_,rfl,m.x,_,dx,fs,_,rfl,e,T.ql,T.xH,f.own,_,rfl,?_⟩
  refine⟨m.db,t1,m.own,B,.s z::qs,nn,rfl,ib,hT,ho,hro,hpt,fun v H1 s1 hv=> ?_⟩
  exact⟨m,⟨B,p,n,gs,.non⟩,z,v,_,rfl,M.same s1,rfl,hzB,hv,fun H2 m2 M2=>k H2 ((Mv.of s1).trans m2) M2⟩
 ·refine⟨_,rfl,r1,g.makers,_,rfl,rfl,C.km,C.k_no _ hno,_,rfl,?_⟩
  refine iteF ?_
  refine⟨_,rfl,g.asking,_,rfl,.inr (C.asking _),rfl,rfl,_,rfl,?_⟩
  have ei:inV (.str r1) [.str "ask",.str "has",.str "names"]=decide (r1∈ASK):=J8 (z:=r1) (l:=ASK)
  rw [if_neg Bool.false_ne_true,ei]
  rcases hrest with hask|⟨hask,hrest⟩
  ·refine qG (decide_eq_true hask) ?_
   obtain⟨_,_,ek⟩:=Xa _ hk hask
   simp only at ek
   subst ek
   obtain⟨z0,z1,rfl,h0,h1⟩:=jn hp
   have eo:rowO m.own (r1,[.s z0,.s z1]) B p= .stop (askF r1 (B z1)):=by unfold rowO;rw [if_neg hmk,if_pos hask];rfl
   rw [eo] at k
   refine⟨_,rfl,_,rfl,m.x,_,dx,fs,_,rfl,e,T.ql,T.Qt,f.boxes,_,rfl,?_⟩
   dsimp only [tC]
   refine bget (i:=1) ib hpt rfl h1 fun v hv=> ?_
   refine⟨r1,v,B z1,rfl,hask,hv,fun u H1 s1 hu=> ?_⟩
   refine⟨_,rfl,m.x,_,dx,fs,rfl,s1 _ _ e,T.ql,T.qE,hlt,?_⟩
   obtain⟨m1,m2⟩:=yp (r:=⟨B,p,n,gs,askF r1 (B z1)⟩) (s1 _ _ e) (f.set_there (u:=u)) (ir.mono s1.tk) (ij.mono s1.tk) (ib.same s1) (s1 _ _ hg) (gl.mono s1.tk) hu
   exact k _ ((Mv.of s1).trans m2) m1
  ·refine qo (decide_eq_false hask) ?_
   refine⟨_,rfl,rfl,_,rfl,?_⟩
   have es:∀y:Str,decide (V.str r1=V.str y)=decide (r1=y):=fun y=>by
    rw [decide_eq_decide]
    exact⟨fun h=>by injection h,fun h=>by rw [h]⟩
   rcases hrest with rfl|rfl|⟨hs,hf,hj⟩
   ·refine qG (decide_eq_true rfl) ?_
    have ek:=frm_say _ hk rfl
    simp only at ek
    subst ek
    obtain⟨z0,rfl,h0⟩:=sh_b hp
    have eo:rowO m.own ("say",[.s z0]) B p= .stop (.tup [.str "said",B z0]):=by unfold rowO;rw [if_neg hmk,if_neg hask,if_pos rfl];rfl
    rw [eo] at k
    refine⟨_,rfl,m.x,_,dx,fs,_,rfl,e,T.ql,T.Qt,f.boxes,_,rfl,?_⟩
    dsimp only [tC]
    refine bget (i:=0) ib hpt rfl h0 fun v hv=> ?_
    refine⟨two,fun l hl=> ?_⟩
    have s1:Same H (upd H l (.tup [.str "said",v])):=qd hl _
    refine⟨_,rfl,m.x,_,dx,fs,rfl,s1 _ _ e,T.ql,T.qE,hlt,?_⟩
    obtain⟨m1,m2⟩:=yp (r:=⟨B,p,n,gs,.tup [.str "said",B z0]⟩) (s1 _ _ e) (f.set_there (u:= .ref l)) (ir.mono s1.tk) (ij.mono s1.tk) (ib.same s1) (s1 _ _ hg) (gl.mono s1.tk) (Is.new (ds:= [.str "said",B z0]) ⟨_,_,rfl,⟨rfl,qU (by decide)⟩,_,_,rfl,hv,rfl⟩ hl)
    exact k _ ((Mv.of s1).trans m2) m1
   ·have nfs:¬(("fault":Str)="say"):=by decide+kernel
    refine qo (decide_eq_false fun h=>nfs (by injection h)) ?_
    refine⟨_,rfl,rfl,_,rfl,qG (decide_eq_true rfl) ?_⟩
    have eo:rowO m.own ("fault",ps) B p= .stop (flt "told"):=by unfold rowO;rw [if_neg hmk,if_neg hask,if_neg nfs,if_pos rfl]
    rw [eo] at k
    refine⟨two,fun l hl=> ?_⟩
    have s1:Same H (upd H l (.tup [.str "fault",.str "told"])):=qd hl _
    refine⟨_,rfl,m.x,_,dx,fs,rfl,s1 _ _ e,T.ql,T.qE,hlt,?_⟩
    obtain⟨m1,m2⟩:=yp (r:=⟨B,p,n,gs,flt "told"⟩) (s1 _ _ e) (f.set_there (u:= .ref l)) (ir.mono s1.tk) (ij.mono s1.tk) (ib.same s1) (s1 _ _ hg) (gl.mono s1.tk) (Is.new (ds:= [.str "fault",.str "told"]) ⟨_,_,rfl,⟨rfl,qU (by decide)⟩,_,_,rfl,⟨rfl,qU (by decide)⟩,rfl⟩ hl)
    exact k _ ((Mv.of s1).trans m2) m1
   ·refine qo (by rw [es];exact decide_eq_false hs) ?_
    refine⟨_,rfl,rfl,_,rfl,qo (by rw [es];exact decide_eq_false hf) ?_⟩
    have eo:rowO m.own (r1,ps) B p=if jump r1 B ps=true then .go B (JX ps) else .go B (p+1):=by unfold rowO;rw [if_neg hmk,if_neg hask,if_neg hs,if_neg hf]
    rw [eo] at k
    obtain⟨qs,i,eps,h1,h2,hl⟩:=wG hro hj
    simp only at eps hl
    refine⟨_,rfl,m.x,_,dx,fs,_,rfl,e,T.ql,T.Qt,f.boxes,_,rfl,_,rfl,m.db,t1,r1,B,ps,nn,rfl,ib,hT,hj,hro,hpt,_,rfl,?_⟩
    cases hjm:jump r1 B ps with
    |true=>
     rw [hjm] at k
     refine iteT ⟨_,rfl,1,rfl,?_⟩
     refine jT (i:= -1) (d:= .int i) hpt (by rw [eps,List.map_append];exact zg _ _) fun q hq=> ?_
     cases(show q= .int i from hq)
     refine⟨_,rfl,m.x,_,dx,fs,rfl,e,T.ql,T.Qa,hlt,?_⟩
     obtain⟨m1,m2⟩:=yp (r:=⟨B,i,n,gs,.non⟩) e (f.set_place (q:=i)) ir ij ib hg gl it
     refine k _ m2 ?_
     show Yd _ _ _ ⟨B,JX ps,n,gs,.non⟩
     rw [hl]
     exact m1
    |false=>
     rw [hjm] at k
     refine iteF ⟨_,rfl,m.x,_,dx,fs,_,rfl,e,T.ql,T.Qa,f.place,p,1,rfl,rfl,dx,fs,e,hlt,?_⟩
     obtain⟨m1,m2⟩:=yp (r:=⟨B,p+1,n,gs,.non⟩) e (f.set_place (q:=p+1)) ir ij ib hg gl it
     exact k _ m2 m1
end
end K13
namespace K13
open PySem L2 PyProof.Rows
def yK (rs:List Rw)(p:Int):Rw:=rs.getD (p.toNat-1) ("fault",[])
def runS (rs:List Rw)(own:Str)(gs:List D):Nat→(Str→D)→Int→Nat→Rn
 |0,B,p,n=>⟨B,p,n,gs,if p>rs.length then flt "silent" else flt "long"⟩
 |f+1,B,p,n=>if p>rs.length then⟨B,p,n,gs,flt "silent"⟩ else match rowO own (yK rs p) B p with
  | .go B' p'=>runS rs own gs f B' p' (n+1)
  | .stop e=>⟨B,p,if Qe e=true then n else n+1,gs,e⟩
theorem wn {rs:List Rw}{p:Int}(h1:1≤p)(h2:p≤rs.length):rs[p.toNat-1]? =some (yK rs p):=by
 unfold yK
 have h:p.toNat-1<rs.length:=by omega
 simp [List.getD,h]
theorem Zm {rs:List Rw}{p:Int}(h1:1≤p)(h2:p≤rs.length):yK rs p∈rs:=List.mem_of_getElem? (wn h1 h2)
theorem zL {B:Str→D}{z:Str}{e:D}(h:Tr B)(he:isT e=true):Tr (setB B z e):=fun y hy=>by
 unfold setB
 by_cases c:y=z
 ·rw [if_pos c];exact he
 ·rw [if_neg c];exact h y hy
def OutOk (n:Int):Out→Prop
 | .go B p=>Tr B∧1≤p∧p≤n+1
 | .stop e=>∃w d,e= .tup [.str w,d]
theorem holdO_ok {B:Str→D}{z:Str}{e:D}{p n:Int}(h:Tr B)(h1:1≤p)(h2:p≤n):OutOk n (wI B z e p):=by
 have key:OutOk n (if isT e=true then .go (setB B z e) (p+1) else .stop (flt "big")):=by
  by_cases c:isT e=true
  ·rw [if_pos c];exact⟨zL h c,by omega,by omega⟩
  ·rw [if_neg c];exact⟨_,_,rfl⟩
 cases e with
 |non=>exact⟨_,_,rfl⟩
 |_=>exact key
theorem askF_ok (w:Str)(d:D):∃u e,askF w d= .tup [.str u,e]:=by
 unfold askF
 split
 ·split
  ·exact⟨_,_,rfl⟩
  ·exact⟨_,_,rfl⟩
 ·split
  ·exact⟨_,_,rfl⟩
  ·exact⟨_,_,rfl⟩
theorem rowO_ok {own:Str}{n:Nat}{r:Rw}{B:Str→D}{p:Int}(hr:QP n 160 r)(h:Tr B)(h1:1≤p)(h2:p≤n):OutOk n (rowO own r B p):=by
 unfold rowO
 by_cases c1:r.1∈MKR
 ·rw [if_pos c1];exact holdO_ok h h1 h2
 rw [if_neg c1]
 by_cases c2:r.1∈ASK
 ·rw [if_pos c2];exact askF_ok _ _
 rw [if_neg c2]
 by_cases c3:r.1="say"
 ·rw [if_pos c3];exact⟨_,_,rfl⟩
 rw [if_neg c3]
 by_cases c4:r.1="fault"
 ·rw [if_pos c4];exact⟨_,_,rfl⟩
 rw [if_neg c4]
 by_cases c5:jump r.1 B r.2=true
 ·rw [if_pos c5]
  obtain⟨ks,hk,hp⟩:=id hr
  have hj:r.1∈JMP:=by
   rcases frm_all _ hk with q|⟨_,_,q|⟨_,q|q|q⟩⟩
   ·exact absurd q c1
   ·exact absurd q c2
   ·exact absurd q c3
   ·exact absurd q c4
   ·exact q.2.2
  obtain⟨qs,i,_,a1,a2,a3⟩:=wG hr hj
  exact⟨h,by rw [a3];exact a1,by rw [a3];omega⟩
 ·rw [if_neg c5];exact⟨h,by omega,by omega⟩
def sp_goon (C:Addr):Sp:=fun vs H Q _=>∃(m:Mc) (r:Rn),vs= [.ref m.x]∧Yd C H m r∧r.th= .non∧Tr r.B∧m.own.length≤100∧Yu m.rs∧1≤r.p∧r.p≤m.rs.length+1∧r.n≤300∧
 ∀(H':Hp),Mv m H H'→Yd C H' m (runS m.rs m.own r.gs (300-r.n) r.B r.p r.n)→Q .non H'
section
variable {P:Program}{w:World}{K:PySem.W.Frag}{mg:Str→Option Value}{base:Heap}{a:Ad}{g:Ga}
theorem ok_goon (T:Tx K mg a)(C:Fx K w mg g a):FnOk P w K mg base CX0 5 a.QZ a.QY ["self"] (sp_goon a.qq):=by
 have XQ:FnOk P w K mg base CX0 4 a.yi a.yl ["self","row"] (sp_dorow a.qq):=ok_dorow T C
 have yb:FnOk P w K mg base CX0 1 a.Qj a.Ql ["self"] (sp_wait a.qq):=ok_wait T
 refine T.zE.ok XO (fun vs H Q E h=> ?_) (fun cdv A outer s H vs Q E hr h=> ?_)
 ·obtain⟨m,r,rfl,_⟩:=h
  rfl
 obtain⟨⟨x,db,dg,rs,own⟩,⟨B0,p0,n0,gs,th⟩,rfl,M0,hth,hT0,ho,hR,hp0,hp0',hn0,k⟩:=h
 simp only at hth hT0 ho hR hp0 hp0' hn0 k
 subst hth
 refine⟨_,(@qe _ _ _ (@ps_while _ _ _ _ _ _ PassesOwn.never (@qp _ _ _ _ _ _ _ _ (@Z7 _) (@ya _ _ _ _ _ (pv 0) rfl) (@Qn _ _ _) (qz _)) (@qe _ _ _ (@qI _ _ _ _ _ _ _ _ (@qp _ _ _ _ _ _ _ _ (@XY _) (@ya _ _ _ _ _ (pv 0) rfl) (@qj _ _ _ _ _ _ _ _ _ (@qM _) (by rfl) T.ye PySem.boot_len (@qa _ _ _ _ _ (@ya _ _ _ _ _ (pv 0) rfl) (@qc _) (by trivial)) (by trivial) (by trivial) (by trivial) (by trivial)) (qz _)) (@qe _ _ _ (@yN _ _ _ _ _ _ _ _ (pv 0) (@qP _ _ _ _ _ (@qa _ _ _ _ _ (@qh _ _ _ _) (@qa _ _ _ _ _ (@qh _ _ _ _) (@qc _) (by trivial)) (by trivial))) rfl)) (@qe _ _ _ (@qI _ _ _ _ _ _ _ _ (@qp _ _ _ _ _ _ _ _ (@QL _) (@ya _ _ _ _ _ (pv 0) rfl) (@pe_gI _ _ _ _ (by rfl) T.m_MOST_DONE (by trivial)) (qz _)) (@qe _ _ _ (@yN _ _ _ _ _ _ _ _ (pv 0) (@qP _ _ _ _ _ (@qa _ _ _ _ _ (@qh _ _ _ _) (@qa _ _ _ _ _ (@qh _ _ _ _) (@qc _) (by trivial)) (by trivial))) rfl)) (@qb _ _ _ _ _ (@jq _ _ _ _ (@pe_meth _ _ _ _ _ _ _ _ _ _ _ _ _ _ _ _ _ _ _ _ (pv 0) T.ql T.X6 XQ (hr.mono (by first|decide|omega)) T.XT .nil qQ (@qa _ _ _ _ _ (@qL _ _ _ _ _ _ _ (@Qk _) (@ya _ _ _ _ _ (pv 0) rfl) (@qD _ _ _ _ _ _ _ _ (@xx _) (@ya _ _ _ _ _ (pv 0) rfl) (@qi _ _ _ _)) (fun _ _=>rfl)) (@qc _) (by trivial)) (by trivial) (by trivial) (by trivial)) (by trivial)) (@qe _ _ _ (@qI _ _ _ _ _ _ _ _ (@Qo _ _ _ _ (@qT _ _ _ (@jP _ _ _ _ _ _ _ _ _ _ _ _ _ _ _ _ _ (pv 0) T.ql T.Yv yb (hr.mono (by first|decide|omega)) T.Yw .nil qQ (by trivial)) (by trivial))) (@qe _ _ _ (@Jk _ _ _ _ _ _ _ _ _ _ (pv 0) (@qi _ _ _ _) in_add)) (@qr _)))))))))),?_⟩
 have two:(2:Nat)≤sizeLine:=by decide
 have n1:=hR.n1
 generalize hres:runS rs own gs (300-n0) B0 p0 n0=res at k
 refine⟨fun m σ H'=>∃(B:Str→D) (p:Int) (n:Nat) (th:D),σ= [some (.ref x)]∧Yd a.qq H' ⟨x,db,dg,rs,own⟩ ⟨B,p,n,gs,th⟩∧Mv ⟨x,db,dg,rs,own⟩ H H'∧Tr B∧1≤p∧p≤rs.length+1∧n≤300∧((th= .non∧runS rs own gs (300-n) B p n=res∧m=301-n)∨((∃u e,th= .tup [.str u,e])∧⟨B,p,n,gs,th⟩=res∧m=0)),⟨_,B0,p0,n0,.non,rfl,M0,Mv.refl _ _,hT0,by omega,by omega,by omega,.inl ⟨rfl,hres,rfl⟩⟩,?_⟩
 rintro m σ H' ⟨B,p,n,th,rfl,M,mv,hT,hp1,hp2,hn,hc⟩
 have hM:=M
 obtain⟨dx,fs,rv,ru,tv,gv,e,f,ir,ij,ib,hg,gl,it⟩:=hM
 simp only at e f ir ij ib hg gl it
 have hlt:fs.length<1000:=by have:=f.len;omega
 refine⟨_,rfl,x,_,dx,fs,tv,rfl,e,T.ql,T.qE,f.there,rfl,_,rfl,?_⟩
 rcases hc with⟨rfl,hrun,rfl⟩|⟨⟨u,d,rfl⟩,hrun,rfl⟩
 ·cases(show tv= .non from it)
  have it2:∀{H:Hp},Is H .non .non:=rfl
  refine qG (by decide+kernel) ?_
  refine⟨fun σ' H2=>∃(B:Str→D) (p:Int) (n2:Nat) (th:D),σ'= [some (.ref x)]∧Yd a.qq H2 ⟨x,db,dg,rs,own⟩ ⟨B,p,n2,gs,th⟩∧Mv ⟨x,db,dg,rs,own⟩ H H2∧Tr B∧1≤p∧p≤rs.length+1∧n2≤300∧((th= .non∧runS rs own gs (300-n2) B p n2=res∧n<n2)∨((∃u e,th= .tup [.str u,e])∧⟨B,p,n2,gs,th⟩=res)),?_,?_⟩
  ·rintro σ' H2 ⟨B2,p2,n2,th2,rfl,M2,mv2,hT2,a1,a2,a3,hc2⟩
   rcases hc2 with⟨rfl,q1,q2⟩|⟨q0,q1⟩
   ·exact⟨301-n2,by omega,B2,p2,n2,_,rfl,M2,mv2,hT2,a1,a2,a3,.inl ⟨rfl,q1,rfl⟩⟩
   ·exact⟨0,by omega,B2,p2,n2,_,rfl,M2,mv2,hT2,a1,a2,a3,.inr ⟨q0,q1,rfl⟩⟩
  ·have ir':=ir
   obtain⟨ta,us,rfl,eta,iu⟩:=ir'
   have hul:us.length=rs.length:=by rw [iu.length,List.length_map]
   have fl:∀(z:Str) (H:Hp) (l:Addr),z.length≤100→H l=none→Is (upd H l (.tup [.str "fault",.str z])) (flt z) (.ref l):=fun z H l hz hl=>Is.new (ds:= [.str "fault",.str z]) ⟨_,_,rfl,⟨rfl,qU (by decide)⟩,_,_,rfl,⟨rfl,qU (by omega)⟩,rfl⟩ hl
   have stopped:∀(z:Str),z.length≤100→⟨B,p,n,gs,flt z⟩=res→∀l,H' l=none→(fun H2=>∃(B:Str→D) (p:Int) (n2:Nat) (th:D),[some (V.ref x)]= [some (V.ref x)]∧Yd a.qq H2 ⟨x,db,dg,rs,own⟩ ⟨B,p,n2,gs,th⟩∧Mv ⟨x,db,dg,rs,own⟩ H H2∧Tr B∧1≤p∧p≤rs.length+1∧n2≤300∧((th= .non∧runS rs own gs (300-n2) B p n2=res∧n<n2)∨((∃u e,th= .tup [.str u,e])∧⟨B,p,n2,gs,th⟩=res))) (upd (upd H' l (.tup [.str "fault",.str z])) x (.ins a.qq dx (putF "there" (.ref l) fs))):=by
    intro z hz hzr l hl
    have s1:Same H' (upd H' l (.tup [.str "fault",.str z])):=qd hl _
    obtain⟨m1,m2⟩:=yp (m:=⟨x,db,dg,rs,own⟩) (r:=⟨B,p,n,gs,flt z⟩) (s1 _ _ e) (f.set_there (u:= .ref l)) (ir.mono s1.tk) (ij.mono s1.tk) (ib.same s1) (s1 _ _ hg) (gl.mono s1.tk) (fl z H' l hz hl)
    exact⟨B,p,n,flt z,rfl,m1,mv.trans ((Mv.of s1).trans m2),hT,hp1,hp2,hn,.inr ⟨⟨_,_,rfl⟩,hzr⟩⟩
   refine⟨_,rfl,x,_,dx,fs,_,rfl,e,T.ql,T.Qa,f.place,_,rfl,x,_,dx,fs,_,rfl,e,T.ql,T.Yl,f.rows,ta,us,rfl,.inr (SqT.of eta),_,_,rfl,rfl,_,rfl,?_⟩
   refine ite2 (fun c=> ?_) (fun c=> ?_)
   ·have c':p>rs.length:=by have:=of_decide_eq_true c;omega
    have er:⟨B,p,n,gs,flt "silent"⟩=res:=by
     rw [←hrun]
     cases h3:300-n with
     |zero=>unfold runS;rw [if_pos c']
     |succ q=>unfold runS;rw [if_pos c']
    refine⟨two,fun l hl=> ?_⟩
    have s1:Same H' (upd H' l (.tup [.str "fault",.str "silent"])):=qd hl _
    exact⟨_,rfl,x,_,dx,fs,rfl,s1 _ _ e,T.ql,T.qE,hlt,stopped "silent" (by decide) er l hl⟩
   ·have c':¬p>rs.length:=fun h=>c (decide_eq_true (by omega))
    refine⟨_,rfl,x,_,dx,fs,_,rfl,e,T.ql,T.QT,f.done,rfl,_,rfl,?_⟩
    refine ite2 (fun c2=> ?_) (fun c2=> ?_)
    ·have e3:n=300:=by have:=of_decide_eq_true c2;injection this with h;omega
     have er:⟨B,p,n,gs,flt "long"⟩=res:=by
      rw [←hrun,e3]
      show _=runS rs own gs 0 B p 300
      unfold runS
      rw [if_neg c']
     refine⟨two,fun l hl=> ?_⟩
     have s1:Same H' (upd H' l (.tup [.str "fault",.str "long"])):=qd hl _
     exact⟨_,rfl,x,_,dx,fs,rfl,s1 _ _ e,T.ql,T.qE,hlt,stopped "long" (by decide) er l hl⟩
    ·have e3:n<300:=by
      rcases Nat.lt_or_ge n 300 with h|h
      ·exact h
      ·exact absurd (decide_eq_true (by rw [show n=300 by omega];rfl)) c2
     have hpl:p≤rs.length:=by omega
     have hro:=hR.ok _ (Zm hp1 hpl)
     have hok:=rowO_ok (own:=own) hro hT hp1 hpl
     have hstep:res=match rowO own (yK rs p) B p with
       | .go B' p'=>runS rs own gs (300-(n+1)) B' p' (n+1)
       | .stop e=>⟨B,p,if Qe e=true then n else n+1,gs,e⟩:=by
      rw [←hrun,show 300-n=(300-(n+1))+1 by omega,runS,if_neg c']
     refine⟨_,rfl,x,dx,fs,rfl,e,f.meth _ (by decide+kernel),?_⟩
     refine⟨_,rfl,x,_,dx,fs,_,rfl,e,T.ql,T.Yl,f.rows,_,rfl,x,_,dx,fs,_,rfl,e,T.ql,T.Qa,f.place,_,_,rfl,rfl,?_⟩
     have eat:atI (rs.map rowD) (p-1)=some (rowD (yK rs p)):=by
      rw [show p-1=((p.toNat-1:Nat):Int) by omega]
      exact QI (by rw [List.getElem?_map,wn hp1 hpl];rfl)
     refine jT (d:=rowD (yK rs p)) ir eat fun q hq=> ?_
     refine⟨⟨x,db,dg,rs,own⟩,⟨B,p,n,gs,.non⟩,yK rs p,q,rs.length,rfl,M,rfl,hT,ho,hro,hq,fun H2 m2 M2=> ?_⟩
     have hM2:=M2
     obtain⟨dx2,fs2,rv2,ru2,tv2,gv2,e2,f2,ir2,ij2,ib2,hg2,gl2,it2⟩:=hM2
     simp only at e2 f2 ir2 ij2 ib2 hg2 gl2 it2
     have hlt2:fs2.length<1000:=by have:=f2.len;omega
     have mv2:=mv.trans m2
     generalize hO:rowO own (yK rs p) B p=O at hok hstep M2 it2 ib2 f2
     cases O with
     |go B' p'=>
      obtain⟨q1,q2,q3⟩:=hok
      refine⟨_,rfl,x,dx2,fs2,rfl,e2,f2.meth _ (by decide+kernel),_,_,rfl,M2,.inl rfl,_,rfl,?_⟩
      refine qG rfl ?_
      refine⟨_,rfl,x,_,dx2,fs2,_,rfl,e2,T.ql,T.QT,f2.done,(n:Int),1,rfl,rfl,dx2,fs2,e2,hlt2,?_⟩
      obtain⟨m3,m4⟩:=yp (m:=⟨x,db,dg,rs,own⟩) (r:=⟨B',p',n+1,gs,.non⟩) e2 (f2.set_done (k:=n+1)) ir2 ij2 ib2 hg2 gl2 it2
      exact⟨B',p',n+1,.non,rfl,m3,mv2.trans m4,q1,q2,q3,by omega,.inl ⟨rfl,hstep.symm,by omega⟩⟩
     |stop d=>
      obtain⟨u,d2,rfl⟩:=hok
      refine⟨_,rfl,x,dx2,fs2,rfl,e2,f2.meth _ (by decide+kernel),_,_,rfl,M2,.inr ⟨_,_,rfl⟩,_,rfl,?_⟩
      cases hw:Qe (.tup [.str u,d2]) with
      |true=>
       simp only [hw] at hstep
       refine qo (by show(!Qe (.tup [.str u,d2]))=false;rw [hw];rfl) ?_
       exact⟨B,p,n,_,rfl,M2,mv2,hT,hp1,hp2,hn,.inr ⟨⟨_,_,rfl⟩,hstep.symm⟩⟩
      |false=>
       simp only [hw] at hstep
       refine qG (by show(!Qe (.tup [.str u,d2]))=true;rw [hw];rfl) ?_
       refine⟨_,rfl,x,_,dx2,fs2,_,rfl,e2,T.ql,T.QT,f2.done,(n:Int),1,rfl,rfl,dx2,fs2,e2,hlt2,?_⟩
       obtain⟨m3,m4⟩:=yp (m:=⟨x,db,dg,rs,own⟩) (r:=⟨B,p,n+1,gs,.tup [.str u,d2]⟩) e2 (f2.set_done (k:=n+1)) ir2 ij2 ib2 hg2 gl2 it2
       exact⟨B,p,n+1,_,rfl,m3,mv2.trans m4,hT,hp1,hp2,by omega,.inr ⟨⟨_,_,rfl⟩,hstep.symm⟩⟩
 ·have:tv≠ .non:=by obtain⟨_,_,h,_⟩:=it;rw [h];exact fun z=>by cases z
  refine qo (decide_eq_false this) ?_
  refine k H' mv ?_
  rw [←hrun]
  exact M
end
end K13
namespace K13
open PySem L2 PyProof.Rows
def emp (z:Str):D:= .tup [.str z,.str ""]
theorem prs_of {H:Hp}:∀{zs:List Str}{ys:List V},L2.IsL H (zs.map emp) ys→∃ts:List Addr,ys=ts.map V.ref∧ts.length=zs.length∧∀(i:Nat) (t:Addr) (z:Str),ts[i]? =some t→zs[i]? =some z→H t=some (.tup [.str z,.str ""])
 | [],_,h=>by
  cases(show _= [] from h)
  exact⟨[],rfl,rfl,fun i t z h=>by simp at h⟩
 |y::zs,_,h=>by
  obtain⟨v,r,rfl,⟨t,us,rfl,et,v1,u1,rfl,⟨rfl,_⟩,v2,u2,rfl,⟨rfl,_⟩,e2⟩,h2⟩:=h
  cases(show u2= [] from e2)
  obtain⟨ts,rfl,hl,hi⟩:=prs_of h2
  refine⟨t::ts,rfl,by rw [List.length_cons,hl];rfl,fun i q z h1 h3=> ?_⟩
  cases i with
  |zero=>
   cases h1
   cases h3
   exact et
  |succ j=>exact hi j q z (by simpa using h1) (by simpa using h3)
theorem prs_box {H:Hp}{A:Addr}{ys:List V}(e:H A=some (.lst ys))(h:L2.IsL H (BX.map emp) ys):PairsL H A (BX.map fun z=>(z,V.str "")):=by
 obtain⟨ts,rfl,hl,hi⟩:=prs_of h
 refine⟨ts,e,by rw [hl,List.length_map],fun i t p h1 h2=> ?_⟩
 rw [List.getElem?_map] at h2
 cases hz:BX[i]? with
 |none=>rw [hz] at h2;cases h2
 |some z=>
  rw [hz] at h2
  cases h2
  exact hi i t z h1 hz
def B0:Str→D:=fun _=> .str ""
theorem box_new {H:Hp}{q:Addr}(hq:H q=none):Q8 (upd H q (.dK (inrK (BX.map fun z=>(z,V.str ""))))) q B0:=by
 refine⟨fun _=> .str "",?_,fun z _=>⟨rfl,qU (by decide)⟩⟩
 rw [qf]
 unfold inrK kvB
 rw [List.map_map]
 rfl
theorem B0_tr:Tr B0:=fun _ _=>(by decide+kernel:isT (.str "")=true)
theorem bx_nodup:((BX.map fun z=>(z,V.str "")).map (·.1)).Nodup:=by
 rw [List.map_map]
 show(BX.map id).Nodup
 rw [List.map_id]
 decide+kernel
theorem putF_le (f:Str)(v:V):∀fs:List (Str×V),(putF f v fs).length≤fs.length+1
 | []=>Nat.le_refl _
 |(g,x)::r=>by
  unfold putF
  by_cases c:g=f
  ·rw [if_pos c];simp
  ·rw [if_neg c]
   have:=putF_le f v r
   simp only [List.length_cons]
   omega
def FLD:List Str:= ["rows","rule","own","boxes","place","done","given","there"]
theorem mth_fld:∀m∈MTH,m∉FLD:=by decide+kernel
theorem fl_new {rv v:V}{own:Str}{db dg:Addr}(hl:(putF "there" .non (putF "given" (.ref dg) (putF "done" (.int 0) (putF "place" (.int 1) (putF "boxes" (.ref db) (putF "own" (.str own) (putF "rule" v (putF "rows" rv [])))))))).length≤20):
  Fl (putF "there" .non (putF "given" (.ref dg) (putF "done" (.int 0) (putF "place" (.int 1) (putF "boxes" (.ref db) (putF "own" (.str own) (putF "rule" v (putF "rows" rv [])))))))) rv v own db dg 1 0 .non:=by
 refine⟨?_,?_,?_,?_,?_,?_,?_,?_,fun m hm=> ?_,hl⟩
 ·iterate 7 rw [qJ,if_neg (by decide+kernel)]
  rw [qJ,if_pos rfl]
 ·iterate 6 rw [qJ,if_neg (by decide+kernel)]
  rw [qJ,if_pos rfl]
 ·iterate 5 rw [qJ,if_neg (by decide+kernel)]
  rw [qJ,if_pos rfl]
 ·iterate 4 rw [qJ,if_neg (by decide+kernel)]
  rw [qJ,if_pos rfl]
 ·iterate 3 rw [qJ,if_neg (by decide+kernel)]
  rw [qJ,if_pos rfl]
 ·iterate 2 rw [qJ,if_neg (by decide+kernel)]
  rw [qJ,if_pos rfl]
  rfl
 ·rw [qJ,if_neg (by decide+kernel),qJ,if_pos rfl]
 ·rw [qJ,if_pos rfl]
 ·have h:=mth_fld m hm
  iterate 8 rw [qJ,if_neg (fun e=>h (by rw [e];decide+kernel))]
  rfl
structure Ini (n:Nat)(H:Hp)(C x dx:Addr)(fs:List (Str×V))(H':Hp):Prop where
 len:fs.length≤n
 at':H' x=some (.ins C dx fs)
 kept:∀b o,H b=some o→b≠x→H' b=some o
theorem Ini.put {n:Nat}{H H':Hp}{C x dx:Addr}{fs:List (Str×V)}(I:Ini n H C x dx fs H')(f:Str)(v:V):Ini (n+1) H C x dx (putF f v fs) (upd H' x (.ins C dx (putF f v fs)))∧Tk H' (upd H' x (.ins C dx (putF f v fs))):=
 ⟨⟨Nat.le_trans (putF_le f v fs) (Nat.succ_le_succ I.len),qf,fun b o h n=>by rw [qu n];exact I.kept b o h n⟩,Tk.updI I.at'⟩
theorem Ini.same {n:Nat}{H H' H2:Hp}{C x dx:Addr}{fs:List (Str×V)}(I:Ini n H C x dx fs H')(s:Same H' H2):Ini n H C x dx fs H2:=⟨I.len,s _ _ I.at',fun b o h n=>s _ _ (I.kept b o h n)⟩
theorem lc_box {K:PySem.W.Frag}{b A:Addr}{H1:Hp}{te:TE}{tl:L2.St}{Q:VK}(hb:∀H,SqT K H b (BX.map V.str))(hA:H1 A=none)
  (hte:∀(z:Str) H (R:VK),z.length≤sizeLine→Same H1 H→(∀y H',Same H H'→Is H' (emp z) y→R y H')→te (some (.str z)::tl) H R)
  (hQ:∀H' ys,Same H1 H'→H' A=some (.lst ys)→L2.IsL H' (BX.map emp) ys→Q (.ref A) H'):lcGo A (Itt K b) (J5 0) tYes te (none::tl) H1 Q:=by
 have hl:∀H,L2.IsL H (BX.map D.str) (BX.map V.str):=fun H=>IsL.ofStrs fun z hz=>qU (by rw [(we hz).1];decide)
 refine lc_data (ds:=BX.map D.str) (fun d=>match d with| .str z=>emp z|d=>d) (qU (by decide)) hA (fun i H sm hi=>⟨BX.map V.str,(BX.map V.str)[i]'(by simpa using hi),hb H,List.getElem?_eq_getElem _⟩) (fun i H x H' d sm hd y=> ?_) (fun H sm=>⟨BX.map V.str,hb H,by simp⟩) (fun d x H R hd sm hx r=> ?_) (fun H' ys sm e h=>hQ H' ys sm e ?_)
 ·obtain⟨rfl,y⟩:=y
  obtain⟨v,e1,e2⟩:=(hl H').get hd
  have:=y _ (hb H')
  rw [e1] at this
  cases this
  exact⟨rfl,e2⟩
 ·obtain⟨z,_,rfl⟩:=List.mem_map.mp hd
  obtain⟨rfl,hz⟩:=hx
  exact hte z H R hz sm r
 ·rw [List.map_map] at h
  exact h
def sp_minit (C:Addr):Sp:=fun vs H Q _=>∃(x dx:Addr) (v:V) (rs:List Rw) (own:Str),vs= [.ref x,v,.str own]∧H x=some (.ins C dx [])∧Yu rs∧Is H (yM rs) v∧nm own=true∧own.length≤100∧
 ∀(H':Hp) (db dg:Addr),(∀b o,H b=some o→b≠x→H' b=some o)→H db=none→H dg=none→Yd C H' ⟨x,db,dg,rs,own⟩ (runS rs own [] 300 B0 1 0)→Q .non H'
section
variable {P:Program}{w:World}{K:PySem.W.Frag}{mg:Str→Option Value}{base:Heap}{a:Ad}{g:Ga}
theorem ok_minit (T:Tx K mg a)(C:Fx K w mg g a):FnOk P w K mg base CX0 6 a.yf a.Ym ["self","rule","own"] (sp_minit a.qq):=by
 have Jh:FnOk P w K mg base CX0 1 a.jJ a.jD ["value"] Wb:=ok_name T
 have G_rule_rows:FnOk P w K mg base CX0 4 a.jN a.j0 ["tree"] sp_rows:=ok_rows T C
 have YV:FnOk P w K mg base CX0 5 a.QZ a.QY ["self"] (sp_goon a.qq):=ok_goon T C
 refine T.ZG.ok zQ (fun vs H Q E h=> ?_) (fun cdv A outer s H vs Q E hr h=> ?_)
 ·obtain⟨x,dx,v,rs,own,rfl,_⟩:=h
  rfl
 obtain⟨x,dx,v,rs,own,rfl,hx,hR,hv,hnm,hol,k⟩:=h
 refine⟨_,(@qb _ _ _ _ _ (@yN _ _ _ _ _ _ _ _ (pv 0) (@qA _ _ _ _ _ _ _ _ _ _ _ _ _ _ _ _ G_rule_rows (hr.mono (by first|decide|omega)) (by rfl) T.m_rule_rows T.Zt.kp T.b_rule_rows .nil qQ (@qa _ _ _ _ _ (pv 1) (@qc _) (by trivial)) (by trivial) (by trivial) (by trivial)) rfl) (@qb _ _ _ _ _ (@qI _ _ _ _ _ _ _ _ (@Qo _ _ _ _ (@qT _ _ _ (@qA _ _ _ _ _ _ _ _ _ _ _ _ _ _ _ _ Jh (hr.mono (by first|decide|omega)) (by rfl) T.Zn T.xY.kp T.Zp .nil qQ (@qa _ _ _ _ _ (pv 2) (@qc _) (by trivial)) (by trivial) (by trivial) (by trivial)) (by trivial))) (@qe _ _ _ (@X9 _ _)) (@qr _)) (@qb _ _ _ _ _ (@yN _ _ _ _ _ _ _ _ (pv 0) (pv 1) rfl) (@qb _ _ _ _ _ (@yN _ _ _ _ _ _ _ _ (pv 0) (pv 2) rfl) (@qb _ _ _ _ _ (@yN _ _ _ _ _ _ _ _ (pv 0) (@qH _ _ _ _ _ _ _ _ _ (@Z2 _ rfl) (by rfl) T.z_dict boot_dict (@qa _ _ _ _ _ (@Xi _ _ (["box"]) (1) ([]) _ _ _ _ _ _ _ _ _ (lcs0) rfl (@JC _ _ _ _ (@pe_gR _ _ _ _ (by rfl) C.m_BOXES (by trivial))) (fun _ _ _ _ _ _=>(@Qm _ _ (0) _ (show List.Nodup (["box"]:List Str) by decide+kernel) rfl (Or.inl rfl) (by trivial))) (fun _ _ _ _ _ _=> @yC _) (fun _ _ _ _ _ _=>(@qP _ _ _ _ _ (@qa _ _ _ _ _ (pv 0) (@qa _ _ _ _ _ (@qh _ _ _ _) (@qc _) (by trivial)) (by trivial)))) (by trivial)) (@qc _) (by trivial)) (by trivial) (by trivial) (by trivial) (by trivial)) rfl) (@qb _ _ _ _ _ (@yN _ _ _ _ _ _ _ _ (pv 0) (@qi _ _ _ _) rfl) (@qb _ _ _ _ _ (@yN _ _ _ _ _ _ _ _ (pv 0) (@qi _ _ _ _) rfl) (@qb _ _ _ _ _ (@yN _ _ _ _ _ _ _ _ (pv 0) (@Qu _ _ _ _ (@qc _)) rfl) (@qb _ _ _ _ _ (@yN _ _ _ _ _ _ _ _ (pv 0) (@Qn _ _ _) rfl) (@qe _ _ _ (@jq _ _ _ _ (@jP _ _ _ _ _ _ _ _ _ _ _ _ _ _ _ _ _ (pv 0) T.ql T.JB YV (hr.mono (by first|decide|omega)) T.Jr .nil qQ (by trivial)) (by trivial)))))))))))),?_⟩
 refine⟨_,rfl,v,rs,rfl,hR,hv,fun rv H1 s1 ir=> ?_⟩
 refine⟨_,rfl,x,_,dx,[],rfl,s1 _ _ hx,T.ql,T.Yl,by decide,?_⟩
 have I0:Ini 0 H a.qq x dx [] H1:=⟨Nat.le_refl _,s1 _ _ hx,fun b o h _=>s1 _ _ h⟩
 obtain⟨I1,t1⟩:=I0.put "rows" rv
 have ir1:=ir.mono t1
 refine⟨_,rfl,_,.str own,rfl,⟨rfl,qU (by omega)⟩,fun H3 s3=>⟨_,rfl,qo (by show(!nm own)=false;rw [hnm];rfl) ?_⟩⟩
 have I3:=I1.same s3
 have ir3:=ir1.mono s3.tk
 refine⟨_,rfl,_,rfl,x,_,dx,_,rfl,I3.at',T.ql,T.ZE,by have:=I3.len;omega,?_⟩
 obtain⟨I4,t4⟩:=I3.put "rule" v
 have ir4:=ir3.mono t4
 refine⟨_,rfl,_,rfl,x,_,dx,_,rfl,I4.at',T.ql,T.xH,by have:=I4.len;omega,?_⟩
 obtain⟨I5,t5⟩:=I4.put "own" (.str own)
 have ir5:=ir4.mono t5
 refine⟨g.boxes,_,rfl,C.boxes _,fun hvl A0 hA0=> ?_⟩
 refine lc_box (tl:= []) C.boxes hA0 (fun z H6 R hz s6 r=>⟨_,rfl,(by show 2≤sizeLine;decide),fun l hl=>r _ _ (qd hl _) (Is.new (ds:= [.str z,.str ""]) ⟨_,_,rfl,⟨rfl,hz⟩,_,_,rfl,⟨rfl,qU (by decide)⟩,rfl⟩ hl)⟩) fun H6 ys s6 e6 i6=> ?_
 refine⟨A0,_,rfl,prs_box e6 i6,bx_nodup,by decide,fun db hdb=> ?_⟩
 have I6:=I5.same s6
 have s7:Same H6 (upd H6 db (.dK (inrK (BX.map fun z=>(z,V.str ""))))):=qd hdb _
 have I7:=I6.same s7
 have b7:=box_new hdb
 have ir7:=(ir5.mono s6.tk).mono s7.tk
 have nx:∀b o,H b=some o→b≠x→b≠db:=fun b o h n=>qm (I6.kept b o h n) hdb
 have xdb:x≠db:=qm I6.at' hdb
 refine⟨_,rfl,x,_,dx,_,rfl,I7.at',T.ql,T.Qt,by have:=I7.len;omega,?_⟩
 obtain⟨I8,t8⟩:=I7.put "boxes" (.ref db)
 have b8:=b7.move t8 (qu xdb.symm)
 have ir8:=ir7.mono t8
 refine⟨_,rfl,x,_,dx,_,rfl,I8.at',T.ql,T.Qa,by have:=I8.len;omega,?_⟩
 obtain⟨I9,t9⟩:=I8.put "place" (.int 1)
 have b9:=b8.move t9 (qu xdb.symm)
 have ir9:=ir8.mono t9
 refine⟨_,rfl,x,_,dx,_,rfl,I9.at',T.ql,T.QT,by have:=I9.len;omega,?_⟩
 obtain⟨I10,t10⟩:=I9.put "done" (.int 0)
 have b10:=b9.move t10 (qu xdb.symm)
 have ir10:=ir9.mono t10
 refine⟨(by show 0≤sizeLine;decide),fun dg hdg=> ?_⟩
 have s11:=qd hdg (.lst [])
 have I11:=I10.same s11
 have b11:=b10.same s11
 have ir11:=ir10.mono s11.tk
 have xdg:dg≠x:=(qm I10.at' hdg).symm
 refine⟨_,rfl,x,_,dx,_,rfl,I11.at',T.ql,T.Y9,by have:=I11.len;omega,?_⟩
 obtain⟨I12,t12⟩:=I11.put "given" (.ref dg)
 have b12:=b11.move t12 (qu xdb.symm)
 have ir12:=ir11.mono t12
 refine⟨_,rfl,x,_,dx,_,rfl,I12.at',T.ql,T.qE,by have:=I12.len;omega,?_⟩
 obtain⟨I13,t13⟩:=I12.put "there" .non
 have b13:=b12.move t13 (qu xdb.symm)
 have ir13:=ir12.mono t13
 have hl:=I13.len
 refine⟨_,rfl,x,dx,_,rfl,I13.at',(fl_new (by omega)).meth _ (by decide+kernel),?_⟩
 have hvk:Is _ (yM rs) v:=hv.mono ⟨fun b xs e=>I13.kept b _ e (fun z=>by rw [z,hx] at e;cases e),fun b xs e=>⟨_,I13.kept b _ e (fun z=>by rw [z,hx] at e;cases e)⟩,fun b xs e=>⟨_,I13.kept b _ e (fun z=>by rw [z,hx] at e;cases e)⟩⟩
 have frs:∀{b:Addr}{H2:Hp},(∀c o,H c=some o→c≠x→H2 c=some o)→H2 b=none→b≠x→H b=none:=fun{b H2} k1 h1 n1=>by
  cases hc:H b with
  |none=>rfl
  |some o=>rw [k1 b o hc n1] at h1;cases h1
 have nx2:∀b o,H b=some o→b≠x→b≠dg:=fun b o h n=>qm (I10.kept b o h n) hdg
 refine⟨⟨x,db,dg,rs,own⟩,⟨B0,1,0,[],.non⟩,rfl,⟨dx,_,rv,v,.non,[],I13.at',fl_new (by omega),ir13,hvk,b13,?_,rfl,rfl⟩,rfl,B0_tr,hol,hR,Int.le_refl 1,by show(1:Int)≤(rs.length:Int)+1;omega,Nat.zero_le _,fun H' m M=>k H' db dg (fun b o h n=>m.kept b o (I13.kept b o h n) n (nx b o h n) (nx2 b o h n)) (frs I6.kept hdb xdb.symm) (frs I10.kept hdg xdg) M⟩
 rw [qu xdg,qu xdg,qf]
end
end K13
namespace K13
open PySem L2 PyProof.Rows
theorem wB (x y:Nat):decide (([x]:List Nat)< [y])=decide (x<y):=by
 rw [decide_eq_decide]
 constructor
 ·intro h
  rcases List.cons_lt_cons_iff.mp h with h|⟨_,h⟩
  ·exact h
  ·exact absurd h (by simp)
 ·intro h
  exact List.cons_lt_cons_iff.mpr (.inl h)
def sp_pr (n:Nat):Sp:=fun vs H Q _=>∃v d,vs= [v]∧Is H d v∧dp d<n∧∀H',Same H H'→Q (.bl (good d)) H'
def sp_sz (n:Nat):Sp:=fun vs H Q _=>∃v d,vs= [v]∧Is H d v∧good d=true∧dp d<n∧∀H',Same H H'→Q (.int (sz d:Int)) H'
def sp_dp (n:Nat):Sp:=fun vs H Q _=>∃v d,vs= [v]∧Is H d v∧good d=true∧dp d<n∧∀H',Same H H'→Q (.int (dp d:Int)) H'
def sp_lt:Sp:=fun vs H Q _=>∃v d,vs= [v]∧Is H d v∧dp d≤20∧∀H',Same H H'→Q (.bl (isT d)) H'
theorem dp_row {xs:List D}{d:D}(h:d∈xs):dp d<dp (.tup xs):=by
 have:=(JZ xs).mp (Nat.le_refl _) d h
 simp only [dp]
 omega
section
variable {P:Program}{w:World}{K:PySem.W.Frag}{mg:Str→Option Value}{base:Heap}{a:Ad}{g:Ga}
theorem pr_none {f:Addr}{fd:FuncData}{l:Nat}{x:Str}:FnOk P w K mg base CX0 l f fd [x] (sp_pr 0):=by
 have no:∀vs H Q E,¬sp_pr 0 vs H Q E:=fun vs H Q E h=>by
  obtain⟨v,d,_,_,h1,_⟩:=h
  omega
 exact⟨fun vs H Q E h=>absurd h (no vs H Q E),fun A outer s H args us vs Q E _ _ _ _ h=>absurd h (no vs H Q E)⟩
theorem sz_none {f:Addr}{fd:FuncData}{l:Nat}{x:Str}:FnOk P w K mg base CX0 l f fd [x] (sp_sz 0):=by
 have no:∀vs H Q E,¬sp_sz 0 vs H Q E:=fun vs H Q E h=>by
  obtain⟨v,d,_,_,_,h1,_⟩:=h
  omega
 exact⟨fun vs H Q E h=>absurd h (no vs H Q E),fun A outer s H args us vs Q E _ _ _ _ h=>absurd h (no vs H Q E)⟩
theorem dp_none {f:Addr}{fd:FuncData}{l:Nat}{x:Str}:FnOk P w K mg base CX0 l f fd [x] (sp_dp 0):=by
 have no:∀vs H Q E,¬sp_dp 0 vs H Q E:=fun vs H Q E h=>by
  obtain⟨v,d,_,_,_,h1,_⟩:=h
  omega
 exact⟨fun vs H Q E h=>absurd h (no vs H Q E),fun A outer s H args us vs Q E _ _ _ _ h=>absurd h (no vs H Q E)⟩
theorem ok_pr1 (T:Tx K mg a){n:Nat}(yP:FnOk P w K mg base CX0 (n+1) a.Qs a.Qq ["value"] (sp_pr n)):FnOk P w K mg base CX0 (n+2) a.Qs a.Qq ["value"] (sp_pr (n+1)):=by
 refine T.Yi.ok xw (fun vs H Q E h=> ?_) (fun cdv A outer s H vs Q E hr h=> ?_)
 ·obtain⟨v,d,rfl,_⟩:=h
  rfl
 obtain⟨v,d,rfl,hv,hd,k⟩:=h
 refine⟨_,(@qb _ _ _ _ _ (@qI _ _ _ _ _ _ _ _ (@qT _ _ _ (@qj _ _ _ _ _ _ _ _ _ (@qw _ _ rfl) (by rfl) T.qt boot_isinstance (@qa _ _ _ _ _ (pv 0) (@qa _ _ _ _ _ (@qV _ _ (.ty "str") _ _ (by rfl) T.yI boot_str rfl (by trivial) (by trivial)) (@qc _) (by trivial)) (by trivial)) (by trivial) (by trivial) (by trivial) (by trivial)) (by trivial)) (@qe _ _ _ (@qk _ _ _ _ (@XA _ _ _ _ _ _ _ (@Q0 _ _ _ _ _ _ _ _ (@op_le _) (@qj _ _ _ _ _ _ _ _ _ (@yh _) (by rfl) T.ye PySem.boot_len (@qa _ _ _ _ _ (pv 0) (@qc _) (by trivial)) (by trivial) (by trivial) (by trivial) (by trivial)) (@qi _ _ _ _) (qz _)) (@XD _ _ _ _ _ (@qj _ _ _ _ _ _ _ _ _ (@YZ _ rfl) (by rfl) T.z_all boot_all (@qa _ _ _ _ _ (@Xi _ _ (["sign"]) (1) ([]) _ _ _ _ _ _ _ _ _ (lcs0) rfl (@pi_str _ _ _ _ (pv 0)) (fun _ _ _ _ _ _=>(@Qm _ _ (0) _ (show List.Nodup (["sign"]:List Str) by decide+kernel) rfl (Or.inl rfl) (by trivial))) (fun _ _ _ _ _ _=> @yC _) (fun _ _ _ _ _ _=>(@XA _ _ _ _ _ _ _ (@pe_chain _ _ _ _ _ _ _ _ _ _ _ _ (@op_le_str _) (@op_le_str _) (@qh _ _ _ _) (pv 0) (@qh _ _ _ _) (by trivial)) (@XD _ _ _ _ _ (@pe_not _ _ _ _ (@pe_chain _ _ _ _ _ _ _ _ _ _ _ _ (@Zv _) (@Zv _) (@qh _ _ _ _) (pv 0) (@qh _ _ _ _) (by trivial)))))) (by trivial)) (@qc _) (by trivial)) (by trivial) (by trivial) (by trivial) (by trivial)))))) (@qr _)) (@qb _ _ _ _ _ (@qI _ _ _ _ _ _ _ _ (@Jd _ _ _ _ _ _ _ (@Qo _ _ _ _ (@qT _ _ _ (@qj _ _ _ _ _ _ _ _ _ (@qw _ _ rfl) (by rfl) T.qt boot_isinstance (@qa _ _ _ _ _ (pv 0) (@qa _ _ _ _ _ (@qV _ _ (.ty "tuple") _ _ (by rfl) T.Qi boot_tuple rfl (by trivial) (by trivial)) (@qc _) (by trivial)) (by trivial)) (by trivial) (by trivial) (by trivial) (by trivial)) (by trivial))) (@jf _ _ _ _ (@qp _ _ _ _ _ _ _ _ (@XY _) (@qj _ _ _ _ _ _ _ _ _ (@yh _) (by rfl) T.ye PySem.boot_len (@qa _ _ _ _ _ (pv 0) (@qc _) (by trivial)) (by trivial) (by trivial) (by trivial) (by trivial)) (@qi _ _ _ _) (qz _)))).pt (@qe _ _ _ (@qk _ _ _ _ (@Jv _ _ _ _))) (@qr _)) (@qe _ _ _ (@qk _ _ _ _ (@qj _ _ _ _ _ _ _ _ _ (@YZ _ rfl) (by rfl) T.z_all boot_all (@qa _ _ _ _ _ (@Xi _ _ (["part"]) (1) ([]) _ _ _ _ _ _ _ _ _ (lcs0) rfl (@JC _ _ _ _ (pv 0)) (fun _ _ _ _ _ _=>(@Qm _ _ (0) _ (show List.Nodup (["part"]:List Str) by decide+kernel) rfl (Or.inl rfl) (by trivial))) (fun _ _ _ _ _ _=> @yC _) (fun _ _ _ _ _ _=>(@qA _ _ _ _ _ _ _ _ _ _ _ _ _ _ _ _ yP (hr.mono (by first|decide|omega)) (by rfl) T.jx T.Yi.kp T.jG .nil qQ (@qa _ _ _ _ _ (pv 0) (@qc _) (by trivial)) (by trivial) (by trivial) (by trivial))) (by trivial)) (@qc _) (by trivial)) (by trivial) (by trivial) (by trivial) (by trivial)))))),?_⟩
 refine⟨_,rfl,v,"str",tyD d,Qd d,rfl,hv.ty,QB d,_,rfl,?_⟩
 cases d with
 |str z=>
  refine iteT ?_
  obtain⟨rfl,hz⟩:=hv
  refine⟨_,rfl,.inl ⟨z,rfl,hz,_,_,rfl,rfl,_,rfl,?_⟩⟩
  refine ite2 (fun c=> ?_) (fun c=> ?_)
  ·have c':(z.length:Int)≤300:=of_decide_eq_true c
   refine⟨_,rfl,z,rfl,fun A0 hA0=> ?_⟩
   refine lc_str (tl:= []) (fun c=> .bl (Qg c)) hz hA0 (fun i c H' R hc sm r=> ?_) fun H' sm hl=> ?_
   ·have e1:(" ":Str).cps.toList= [32]:=by decide+kernel
    have e2:("~":Str).cps.toList= [126]:=by decide+kernel
    have e3:("$":Str).cps.toList= [36]:=by decide+kernel
    have e4:("&":Str).cps.toList= [38]:=by decide+kernel
    have f1:(!decide (([c]:List Nat)<(" ":Str).cps.toList))=decide (32≤c):=by rw [e1,wB,←decide_not,decide_eq_decide];omega
    have f2:(!decide (("~":Str).cps.toList<([c]:List Nat)))=decide (c≤126):=by rw [e2,wB,←decide_not,decide_eq_decide];omega
    have f3:decide (("$":Str).cps.toList<([c]:List Nat))=decide (36<c):=by rw [e3,wB]
    have f4:decide (([c]:List Nat)<("&":Str).cps.toList)=decide (c<38):=by rw [e4,wB]
    refine⟨_,rfl,_,_,rfl,rfl,_,rfl,?_⟩
    refine ite2 (fun c1=> ?_) (fun c1=> ?_)
    ·have h1:=of_decide_eq_true (f1.symm.trans c1)
     refine⟨_,_,rfl,rfl,_,rfl,?_⟩
     refine ite2 (fun c2=> ?_) (fun c2=> ?_)
     ·have h2:=of_decide_eq_true (f2.symm.trans c2)
      refine⟨_,rfl,_,_,rfl,rfl,_,rfl,?_⟩
      refine ite2 (fun c3=> ?_) (fun c3=> ?_)
      ·have h3:=of_decide_eq_true (f3.symm.trans c3)
       refine⟨_,_,rfl,rfl,_,rfl,?_⟩
       have e:Qg c= !decide (([c]:List Nat)<("&":Str).cps.toList):=by
        unfold Qg
        rw [f4,decide_eq_true h1,decide_eq_true h2,Bool.true_and,Bool.true_and,←decide_not,decide_eq_decide]
        omega
       rw [e] at r
       exact r
      ·have h3:¬36<c:=fun h=>c3 (f3.trans (decide_eq_true h))
       refine⟨_,rfl,?_⟩
       have e:Qg c=true:=by
        unfold Qg
        rw [decide_eq_true h1,decide_eq_true h2,decide_eq_true (by omega)]
        rfl
       rw [e] at r
       exact r
     ·have h2:¬c≤126:=fun h=>c2 (f2.trans (decide_eq_true h))
      have e:Qg c=false:=by
       unfold Qg
       rw [decide_eq_false h2,Bool.and_false,Bool.false_and]
      rw [e] at r
      exact r
    ·have h1:¬32≤c:=fun h=>c1 (f1.trans (decide_eq_true h))
     have e:Qg c=false:=by
      unfold Qg
      rw [decide_eq_false h1,Bool.false_and,Bool.false_and]
     rw [e] at r
     exact⟨_,rfl,r⟩
   ·refine⟨A0,z.cps.toList.map Qg,rfl,SqL.of (by rw [hl,List.map_map];rfl),?_⟩
    have e:good (.str z)=(z.cps.toList.map Qg).all id:=by
     show yu z=_
     unfold yu
     rw [decide_eq_true (by omega),Bool.true_and,List.all_map]
     rfl
    rw [←e]
    exact k H' sm
  ·have c':¬(z.length:Int)≤300:=fun q=>c (decide_eq_true q)
   have:=k H (Same.refl _)
   rw [show good (.str z)=false from xb (by omega)] at this
   exact this
 |tup xs=>
  refine iteF ⟨_,rfl,v,"tuple",_,true,rfl,hv.ty,Y6 (.tup xs),_,rfl,?_⟩
  refine iteF ?_
  obtain⟨a0,vs,rfl,ha0,hvs⟩:=hv
  have lv:=hvs.length
  have e3:good (.tup xs)=(decide (xs.length≤40)&&goodL xs):=by simp only [good]
  refine⟨_,rfl,.inr ⟨a0,vs,rfl,.inr (SqT.of ha0),fun hvl=>⟨_,_,rfl,rfl,_,rfl,?_⟩⟩⟩
  refine ite2 (fun c=> ?_) (fun c=> ?_)
  ·have c':(40:Int)<vs.length:=of_decide_eq_true c
   have:=k H (Same.refl _)
   rw [e3,decide_eq_false (by omega),Bool.false_and] at this
   exact this
  ·have c':¬(40:Int)<vs.length:=fun q=>c (decide_eq_true q)
   refine⟨_,rfl,a0,vs,rfl,SqT.of ha0,fun hvl A0 hA0=> ?_⟩
   refine xa (tl:= []) (fun d=> .bl (good d)) ha0 hvs (qU (by omega)) hA0 (fun d0 x0 H3 R hd0 s3 i3 r=> ?_) fun H1 ys s1 l1 i1=> ?_
   ·refine⟨_,rfl,x0,d0,rfl,i3,?_,fun H4 s4=>r _ H4 s4 rfl⟩
    have:=dp_row hd0
    omega
   have ey:ys=(xs.map good).map V.bl:=IsL.bls (by rw [List.map_map];exact i1)
   refine⟨A0,xs.map good,rfl,SqL.of (by rw [l1,ey]),?_⟩
   have:=k H1 s1
   rw [e3,decide_eq_true (by omega),Bool.true_and,goodL_all] at this
   rw [List.all_map]
   exact this
 |_=>exact iteF ⟨_,rfl,v,"tuple",_,false,rfl,hv.ty,Y6 _,_,rfl,iteT (k H (Same.refl _))⟩
theorem ok_pr (T:Tx K mg a):∀n:Nat,FnOk P w K mg base CX0 (n+1) a.Qs a.Qq ["value"] (sp_pr n)
 |0=>pr_none
 |n+1=>ok_pr1 T (ok_pr T n)
theorem ok_sz1 (T:Tx K mg a){n:Nat}(Xr:FnOk P w K mg base CX0 (n+1) a.YU a.YS ["tree"] (sp_sz n)):FnOk P w K mg base CX0 (n+2) a.YU a.YS ["tree"] (sp_sz (n+1)):=by
 refine T.Xk.ok sc_law_size (fun vs H Q E h=> ?_) (fun cdv A outer s H vs Q E hr h=> ?_)
 ·obtain⟨v,d,rfl,_⟩:=h
  rfl
 obtain⟨v,d,rfl,hv,hg,hd,k⟩:=h
 refine⟨_,(@qb _ _ _ _ _ (@qI _ _ _ _ _ _ _ _ (@qT _ _ _ (@qj _ _ _ _ _ _ _ _ _ (@qw _ _ rfl) (by rfl) T.qt boot_isinstance (@qa _ _ _ _ _ (pv 0) (@qa _ _ _ _ _ (@qV _ _ (.ty "str") _ _ (by rfl) T.yI boot_str rfl (by trivial) (by trivial)) (@qc _) (by trivial)) (by trivial)) (by trivial) (by trivial) (by trivial) (by trivial)) (by trivial)) (@qe _ _ _ (@qk _ _ _ _ (@qD _ _ _ _ _ _ _ _ (@Qb _) (@qj _ _ _ _ _ _ _ _ _ (@yh _) (by rfl) T.ye PySem.boot_len (@qa _ _ _ _ _ (pv 0) (@qc _) (by trivial)) (by trivial) (by trivial) (by trivial) (by trivial)) (@qi _ _ _ _)))) (@qr _)) (@qe _ _ _ (@qk _ _ _ _ (@qD _ _ _ _ _ _ _ _ (@Qb _) (@qi _ _ _ _) (@qj _ _ _ _ _ _ _ _ _ (@call_sumL _ rfl) (by rfl) T.z_sum boot_sum (@qa _ _ _ _ _ (@Xi _ _ (["part"]) (1) ([]) _ _ _ _ _ _ _ _ _ (lcs0) rfl (@JC _ _ _ _ (pv 0)) (fun _ _ _ _ _ _=>(@Qm _ _ (0) _ (show List.Nodup (["part"]:List Str) by decide+kernel) rfl (Or.inl rfl) (by trivial))) (fun _ _ _ _ _ _=> @yC _) (fun _ _ _ _ _ _=>(@qA _ _ _ _ _ _ _ _ _ _ _ _ _ _ _ _ Xr (hr.mono (by first|decide|omega)) (by rfl) T.wv T.Xk.kp T.wA .nil qQ (@qa _ _ _ _ _ (pv 0) (@qc _) (by trivial)) (by trivial) (by trivial) (by trivial))) (by trivial)) (@qc _) (by trivial)) (by trivial) (by trivial) (by trivial) (by trivial)))))),?_⟩
 refine⟨_,rfl,v,"str",tyD d,Qd d,rfl,hv.ty,QB d,_,rfl,?_⟩
 cases d with
 |str z=>
  refine iteT ?_
  obtain⟨rfl,hz⟩:=hv
  refine⟨_,rfl,.inl ⟨z,rfl,hz,_,_,rfl,rfl,?_⟩⟩
  have:=k H (Same.refl _)
  simp only [sz] at this
  exact this
 |tup xs=>
  refine iteF ?_
  obtain⟨a0,vs,rfl,ha0,hvs⟩:=hv
  have hg':=hg
  simp only [good,Bool.and_eq_true] at hg'
  have hlen:=of_decide_eq_true hg'.1
  refine⟨_,rfl,a0,vs,rfl,SqT.of ha0,fun hvl A0 hA0=> ?_⟩
  refine xa (tl:= []) (fun d=> .int (sz d:Int)) ha0 hvs (qU (by omega)) hA0 (fun d0 x0 H3 R hd0 s3 i3 r=> ?_) fun H1 ys s1 l1 i1=> ?_
  ·refine⟨_,rfl,x0,d0,rfl,i3,xn hg'.2 hd0,?_,fun H4 s4=>r _ H4 s4 rfl⟩
   have:=dp_row hd0
   omega
  have ey:ys=(xs.map fun d=>(sz d:Int)).map V.int:=IsL.ints (by rw [List.map_map];exact i1)
  refine⟨A0,xs.map fun d=>(sz d:Int),rfl,SqL.of (by rw [l1,ey]),_,_,rfl,rfl,?_⟩
  have:=k H1 s1
  have es:∀l:List D,(l.map fun d=>(sz d:Int)).sum=(szL l:Int):=by
   intro l
   induction l with
   |nil=>rfl
   |cons x r ih=>simp only [List.map_cons,List.sum_cons,ih,szL];omega
  rw [es]
  simp only [sz] at this
  show Q (.int ((1:Int)+(szL xs:Int))) H1
  rw [show(1:Int)+(szL xs:Int)=((1+szL xs:Nat):Int) by omega]
  exact this
 |_=>simp [good] at hg
theorem ok_sz (T:Tx K mg a):∀n:Nat,FnOk P w K mg base CX0 (n+1) a.YU a.YS ["tree"] (sp_sz n)
 |0=>sz_none
 |n+1=>ok_sz1 T (ok_sz T n)
theorem ok_dp1 (T:Tx K mg a){n:Nat}(xc:FnOk P w K mg base CX0 (n+1) a.Yh a.yV ["tree"] (sp_dp n)):FnOk P w K mg base CX0 (n+2) a.Yh a.yV ["tree"] (sp_dp (n+1)):=by
 refine T.J7.ok sc_law_depth (fun vs H Q E h=> ?_) (fun cdv A outer s H vs Q E hr h=> ?_)
 ·obtain⟨v,d,rfl,_⟩:=h
  rfl
 obtain⟨v,d,rfl,hv,hg,hd,k⟩:=h
 refine⟨_,(@qb _ _ _ _ _ (@qI _ _ _ _ _ _ _ _ (@Jd _ _ _ _ _ _ _ (@qT _ _ _ (@qj _ _ _ _ _ _ _ _ _ (@qw _ _ rfl) (by rfl) T.qt boot_isinstance (@qa _ _ _ _ _ (pv 0) (@qa _ _ _ _ _ (@qV _ _ (.ty "str") _ _ (by rfl) T.yI boot_str rfl (by trivial) (by trivial)) (@qc _) (by trivial)) (by trivial)) (by trivial) (by trivial) (by trivial) (by trivial)) (by trivial)) (@jf _ _ _ _ (@qp _ _ _ _ _ _ _ _ (@op_eqNil _ hr.units0) (pv 0) (@qP _ _ _ _ _ (@qc _)) (qz _)))).pt (@qe _ _ _ (@qk _ _ _ _ (@qi _ _ _ _))) (@qr _)) (@qe _ _ _ (@qk _ _ _ _ (@qD _ _ _ _ _ _ _ _ (@Qb _) (@qi _ _ _ _) (@qj _ _ _ _ _ _ _ _ _ (@call_maxL _ rfl) (by rfl) T.z_max boot_max (@qa _ _ _ _ _ (@Xi _ _ (["part"]) (1) ([]) _ _ _ _ _ _ _ _ _ (lcs0) rfl (@JC _ _ _ _ (pv 0)) (fun _ _ _ _ _ _=>(@Qm _ _ (0) _ (show List.Nodup (["part"]:List Str) by decide+kernel) rfl (Or.inl rfl) (by trivial))) (fun _ _ _ _ _ _=> @yC _) (fun _ _ _ _ _ _=>(@qA _ _ _ _ _ _ _ _ _ _ _ _ _ _ _ _ xc (hr.mono (by first|decide|omega)) (by rfl) T.zu T.J7.kp T.zT .nil qQ (@qa _ _ _ _ _ (pv 0) (@qc _) (by trivial)) (by trivial) (by trivial) (by trivial))) (by trivial)) (@qc _) (by trivial)) (by trivial) (by trivial) (by trivial) (by trivial)))))),?_⟩
 refine⟨_,rfl,v,"str",tyD d,Qd d,rfl,hv.ty,QB d,_,rfl,?_⟩
 cases d with
 |str z=>exact iteT (k H (Same.refl _))
 |tup xs=>
  refine iteF ?_
  obtain⟨a0,vs,rfl,ha0,hvs⟩:=hv
  have hg':=hg
  simp only [good,Bool.and_eq_true] at hg'
  have hlen:=of_decide_eq_true hg'.1
  have lv:=hvs.length
  refine⟨_,rfl,(by show 0≤sizeLine;decide),fun l hl=>⟨a0,l,vs,rfl,rfl,SqT.of (qd hl _ _ _ ha0),SqT.of qf,_,rfl,?_⟩⟩
  have s0:Same H (upd H l (.tup [])):=qd hl _
  cases xs with
  |nil=>
   cases(show vs= [] from hvs)
   exact iteT (k _ s0)
  |cons x0 xr=>
   have hne:vs.isEmpty=false:=by cases vs with|nil=>simp at lv|cons _ _=>rfl
   refine qo hne ?_
   refine⟨_,rfl,a0,vs,rfl,SqT.of (s0 _ _ ha0),fun hvl A0 hA0=> ?_⟩
   refine xa (tl:= []) (fun d=> .int (dp d:Int)) (s0 _ _ ha0) (hvs.mono s0.tk) (qU (by omega)) hA0 (fun d0 x0 H3 R hd0 s3 i3 r=> ?_) fun H1 ys s1 l1 i1=> ?_
   ·refine⟨_,rfl,x0,d0,rfl,i3,xn hg'.2 hd0,?_,fun H4 s4=>r _ H4 s4 rfl⟩
    have:=dp_row hd0
    omega
   have ey:ys=((x0::xr).map fun d=>(dp d:Int)).map V.int:=IsL.ints (by rw [List.map_map];exact i1)
   refine⟨A0,(x0::xr).map fun d=>(dp d:Int),rfl,SqL.of (by rw [l1,ey]),by simp,fun M hM hmax=>⟨_,_,rfl,rfl,?_⟩⟩
   obtain⟨dM,hdM,rfl⟩:=List.mem_map.mp hM
   have eM:dpL (x0::xr)=dp dM:=by
    apply Nat.le_antisymm
    ·refine(JZ _).mpr fun y hy=> ?_
     have:=hmax _ (List.mem_map.mpr ⟨y,hy,rfl⟩)
     omega
    ·exact(JZ _).mp (Nat.le_refl _) dM hdM
   have:=k H1 (s0.trans s1)
   rw [show dp (.tup (x0::xr))=1+dpL (x0::xr) by simp only [dp],eM] at this
   show Q (.int ((1:Int)+(dp dM:Int))) H1
   rw [show(1:Int)+(dp dM:Int)=((1+dp dM:Nat):Int) by omega]
   exact this
 |_=>simp [good] at hg
theorem ok_dp (T:Tx K mg a):∀n:Nat,FnOk P w K mg base CX0 (n+1) a.Yh a.yV ["tree"] (sp_dp n)
 |0=>dp_none
 |n+1=>ok_dp1 T (ok_dp T n)
theorem ok_lt (T:Tx K mg a):FnOk P w K mg base CX0 23 a.Yy a.YD ["value"] sp_lt:=by
 have yP:FnOk P w K mg base CX0 22 a.Qs a.Qq ["value"] (sp_pr 21):=ok_pr T 21
 have Xr:FnOk P w K mg base CX0 22 a.YU a.YS ["tree"] (sp_sz 21):=ok_sz T 21
 have xc:FnOk P w K mg base CX0 22 a.Yh a.yV ["tree"] (sp_dp 21):=ok_dp T 21
 refine T.xB.ok ZH (fun vs H Q E h=> ?_) (fun cdv A outer s H vs Q E hr h=> ?_)
 ·obtain⟨v,d,rfl,_⟩:=h
  rfl
 obtain⟨v,d,rfl,hv,hd,k⟩:=h
 refine⟨_,(@qe _ _ _ (@qk _ _ _ _ (@XA _ _ _ _ _ _ _ (@qA _ _ _ _ _ _ _ _ _ _ _ _ _ _ _ _ yP (hr.mono (by first|decide|omega)) (by rfl) T.jx T.Yi.kp T.jG .nil qQ (@qa _ _ _ _ _ (pv 0) (@qc _) (by trivial)) (by trivial) (by trivial) (by trivial)) (@XA _ _ _ _ _ _ _ (@Q0 _ _ _ _ _ _ _ _ (@op_le _) (@qA _ _ _ _ _ _ _ _ _ _ _ _ _ _ _ _ Xr (hr.mono (by first|decide|omega)) (by rfl) T.wv T.Xk.kp T.wA .nil qQ (@qa _ _ _ _ _ (pv 0) (@qc _) (by trivial)) (by trivial) (by trivial) (by trivial)) (@qi _ _ _ _) (qz _)) (@XD _ _ _ _ _ (@Q0 _ _ _ _ _ _ _ _ (@op_le _) (@qA _ _ _ _ _ _ _ _ _ _ _ _ _ _ _ _ xc (hr.mono (by first|decide|omega)) (by rfl) T.zu T.J7.kp T.zT .nil qQ (@qa _ _ _ _ _ (pv 0) (@qc _) (by trivial)) (by trivial) (by trivial) (by trivial)) (@qi _ _ _ _) (qz _))))))),?_⟩
 unfold isT at k
 refine⟨_,rfl,v,d,rfl,hv,by omega,fun H1 s1=>⟨_,rfl,?_⟩⟩
 cases hg:good d with
 |false=>
  have:=k H1 s1
  rw [hg] at this
  exact iteF this
 |true=>
  refine iteT ⟨_,rfl,v,d,rfl,hv.mono s1.tk,hg,by omega,fun H2 s2=>⟨_,_,rfl,rfl,_,rfl,?_⟩⟩
  refine ite2 (fun c=> ?_) (fun c=> ?_)
  ·have c':sz d≤600:=by have:=of_decide_eq_true c;omega
   refine⟨_,rfl,v,d,rfl,hv.mono (s1.trans s2).tk,hg,by omega,fun H3 s3=>⟨_,_,rfl,rfl,?_⟩⟩
   have:=k H3 (s1.trans (s2.trans s3))
   rw [hg,decide_eq_true c',Bool.true_and,Bool.true_and] at this
   show Q (.bl (decide ((dp d:Int)≤12))) H3
   rw [show decide ((dp d:Int)≤12)=decide (dp d≤12) by rw [decide_eq_decide];omega]
   exact this
  ·have c':¬sz d≤600:=fun q=>c (decide_eq_true (by omega))
   have:=k H2 (s1.trans s2)
   rw [hg,decide_eq_false c',Bool.true_and,Bool.false_and] at this
   exact this
end
end K13
namespace K13
open PySem L2 PyProof.Rows
def wds (r:Rw):List Str:=spl ((qC r).length+1) (qC r)
theorem yO {n m:Nat}{r:Rw}{ks:List Kd}(hn:n≤40)(hk:(r.1,ks)∈FRM)(hp:jo n m ks r.2)(hw:Kd.words∉ks):wds r=txs r:=by
 have:=line_spl hn hk hp
 rw [if_neg hw] at this
 exact this
theorem spl_cons {p:Str}(hp:Free p)(n:Nat)(y:Str)(r:List Str):spl (n+1) (Str.join " " (p::y::r))=p::spl n (Str.join " " (y::r)):=by
 unfold spl
 rw [L2.YW,wS hp,List.map_cons,yn]
theorem ze {x y:Str}(hx:x∈BX):∃tl,wds ("text",[.s x,.s y])=("text":Str)::x::tl∧tl≠ []:=by
 have hl:=wO (txs ("text",[.s x,.s y])) (by simp [txs])
 have e:qC ("text",[.s x,.s y])=Str.join " " ["text",x,y]:=rfl
 have ht:Free ("text":Str):=of_decide_eq_true (Wj ("text",[.box,.words]) (by decide+kernel)).1
 have hxf:=(we hx).2.1
 have hl2:2≤(qC ("text",[.s x,.s y])).length+1:=by
  simp only [txs,List.map_cons,List.map_nil,List.length_cons,List.length_nil,List.sum_cons,List.sum_nil] at hl
  have:(qC ("text",[.s x,.s y])).length=(Str.join " " (txs ("text",[.s x,.s y]))).length:=rfl
  simp only [txs,List.map_cons,List.map_nil] at this
  rw [this]
  omega
 obtain⟨n,hn⟩:∃n,(qC ("text",[.s x,.s y])).length+1=n+1+1:=⟨(qC ("text",[.s x,.s y])).length-1,by omega⟩
 unfold wds
 rw [hn,e,spl_cons ht,spl_cons hxf]
 refine⟨_,rfl,?_⟩
 unfold spl
 obtain⟨p,q,ec⟩:=Xc 32 n (Str.join " " [y]).cps.toList
 rw [ec]
 simp
def WdAt (H:Hp)(p:Addr)(r:Rw):Prop:=H p=some (.lst ((wds r).map V.str))
theorem yg {K:PySem.W.Frag}{H:Hp}{p:Addr}{r:Rw}{i:Nat}{z:Str}{Q:VK}(h:WdAt H p r)(e:(wds r)[i]? =some z)(q:Q (.str z) H):rIxL K (.ref p) (.int (i:Int)) H Q:=
 ⟨p,_,_,_,rfl,rfl,SqL.of h,QI (by rw [List.getElem?_map,e];rfl),q⟩
theorem wds0 {n m:Nat}{r:Rw}(hn:n≤40)(h:QP n m r):(wds r)[0]? =some r.1:=by
 obtain⟨ks,hk,hp⟩:=id h
 by_cases hw:Kd.words∈ks
 ·rcases wQ _ hk with e|e
  ·simp at e;exact absurd hw e
  ·have e1:ks= [.box,.words]:=congrArg Prod.snd e
   have e2:r.1="text":=congrArg Prod.fst e
   subst e1
   obtain⟨r1,ps⟩:=r
   simp only at e2
   subst e2
   obtain⟨x,y,rfl,hx,_⟩:=sh_bw hp
   obtain⟨tl,e3,_⟩:=ze (y:=y) hx
   rw [e3]
   rfl
 ·rw [yO hn hk hp hw]
  rfl
def sp_lname:Sp:=fun vs H Q _=>∃v d,vs= [v]∧Is H d v∧∀H',Same H H'→Q (.bl (isNm d)) H'
def sp_said:Sp:=fun vs H Q _=>∃(d p:Addr) (B:Str→D) (r:Rw) (n:Nat),vs= [.ref d,.ref p]∧n≤40∧Q8 H d B∧WdAt H p r∧QP n 160 r∧(r.1="say"∨r.1="fault")∧
 ∀(v:V) (H':Hp),Same H H'→Is H' (if r.1="say" then .tup [.str "said",B (b0 r.2)] else flt "told") v→Q v H'
def askL (w:Str)(held:D):D:=if w="names" then(if Qd held=true then .tup [.str "names",held] else .str "kind") else if isNm held=true then .tup [.str (if w="ask" then "thing" else "has"),held] else .str "name"
def sp_lask:Sp:=fun vs H Q _=>∃(d p:Addr) (B:Str→D) (r:Rw) (n:Nat),vs= [.ref d,.ref p]∧n≤40∧Q8 H d B∧WdAt H p r∧QP n 160 r∧r.1∈ASK∧
 ∀(v:V) (H':Hp),Same H H'→Is H' (askL r.1 (B (b1 r.2))) v→Q v H'
def sp_next:Sp:=fun vs H Q _=>∃(d p:Addr) (B:Str→D) (r:Rw) (n:Nat) (at':Int),vs= [.ref d,.ref p,.int at']∧n≤40∧Q8 H d B∧Tr B∧WdAt H p r∧QP n 160 r∧r.1∈JMP∧
 ∀H',Same H H'→Q (.int (if jump r.1 B r.2=true then JX r.2-1 else at'+1)) H'
theorem num_nobox:∀k:Fin 41,(toString ((k.val:Nat):Int):Str)∉BX:=by decide+kernel
theorem num_no {i:Int}(h1:1≤i)(h2:i≤40):(toString i:Str)∉BX:=by
 obtain⟨k,rfl⟩:∃k:Fin 41,i=((k.val:Nat):Int):=⟨⟨i.toNat,by omega⟩,by simp;omega⟩
 exact num_nobox k
section
variable {P:Program}{w:World}{K:PySem.W.Frag}{mg:Str→Option Value}{base:Heap}{a:Ad}{g:Ga}
theorem ok_lname (T:Tx K mg a):FnOk P w K mg base CX0 1 a.YA a.YC ["value"] sp_lname:=by
 refine T.xD.ok ZR (fun vs H Q E h=> ?_) (fun cdv A outer s H vs Q E hr h=> ?_)
 ·obtain⟨x,d,rfl,_⟩:=h
  rfl
 obtain⟨x,d,rfl,hv,k⟩:=h
 refine⟨_,(@qb _ _ _ _ _ (@qI _ _ _ _ _ _ _ _ (@Jd _ _ _ _ _ _ _ (@Qo _ _ _ _ (@qT _ _ _ (@qj _ _ _ _ _ _ _ _ _ (@qw _ _ rfl) (by rfl) T.qt boot_isinstance (@qa _ _ _ _ _ (pv 0) (@qa _ _ _ _ _ (@qV _ _ (.ty "str") _ _ (by rfl) T.yI boot_str rfl (by trivial) (by trivial)) (@qc _) (by trivial)) (by trivial)) (by trivial) (by trivial) (by trivial) (by trivial)) (by trivial))) (@Jd _ _ _ _ _ _ _ (@qp _ _ _ _ _ _ _ _ (@QL _) (pv 0) (@qh _ _ _ _) (qz _)) (@Jd _ _ _ _ _ _ _ (@qp _ _ _ _ _ _ _ _ (@XY _) (@qj _ _ _ _ _ _ _ _ _ (@Jf _) (by rfl) T.ye PySem.boot_len (@qa _ _ _ _ _ (pv 0) (@qc _) (by trivial)) (by trivial) (by trivial) (by trivial) (by trivial)) (@qi _ _ _ _) (qz _)) (@jf _ _ _ _ (@qp _ _ _ _ _ _ _ _ (@Xz _) (@qL _ _ _ _ _ _ _ (@ix_str _) (pv 0) (@qi _ _ _ _) (fun _ _=>rfl)) (@qh _ _ _ _) (by with_unfolding_all rfl)))))).pt (@qe _ _ _ (@qk _ _ _ _ (@Jv _ _ _ _))) (@qr _)) (@qe _ _ _ (@qk _ _ _ _ (@qj _ _ _ _ _ _ _ _ _ (@YZ _ rfl) (by rfl) T.z_all boot_all (@qa _ _ _ _ _ (@Xi _ _ (["sign"]) (1) ([]) _ _ _ _ _ _ _ _ _ (lcs0) rfl (@pi_str _ _ _ _ (pv 0)) (fun _ _ _ _ _ _=>(@Qm _ _ (0) _ (show List.Nodup (["sign"]:List Str) by decide+kernel) rfl (Or.inl rfl) (by trivial))) (fun _ _ _ _ _ _=> @yC _) (fun _ _ _ _ _ _=>(@Q0 _ _ _ _ _ _ _ _ (@op_in_str _) (pv 0) (@qh _ _ _ _) (by with_unfolding_all rfl))) (by trivial)) (@qc _) (by trivial)) (by trivial) (by trivial) (by trivial) (by trivial))))),?_⟩
 refine⟨_,rfl,x,"str",tyD d,Qd d,rfl,hv.ty,QB d,_,rfl,?_⟩
 cases hd:Qd d with
 |false=>
  refine iteT ?_
  have:=k H (Same.refl H)
  have e:isNm d=false:=by cases d<;>first|rfl|simp [Qd] at hd
  rw [e] at this
  exact this
 |true=>
  obtain⟨z,rfl⟩:∃z,d= .str z:=by cases d<;>simp [Qd] at hd;exact⟨_,rfl⟩
  obtain⟨rfl,hz⟩:=hv
  have k:∀H',Same H H'→Q (.bl (nm z)) H':=k
  have stop:nm z=false→Q (.bl false) H:=fun e=>by
   have:=k H (Same.refl H)
   rw [e] at this
   exact this
  refine iteF ⟨_,rfl,rfl,_,rfl,?_⟩
  refine ite2 (fun c1=> ?_) (fun c1=> ?_)
  ·have e:z="":=by have:=of_decide_eq_true c1;injection this
   subst e
   exact stop (by decide+kernel)
  ·have c1':1≤(z.length:Int):=by
    rcases Nat.eq_zero_or_pos z.length with h|h
    ·exfalso
     refine c1 (decide_eq_true ?_)
     have h4:z.cps= #[]:=Array.eq_empty_of_size_eq_zero h
     cases z
     simp only at h4
     subst h4
     decide+kernel
    ·omega
   refine⟨_,rfl,z,rfl,hz,_,_,rfl,rfl,_,rfl,?_⟩
   refine ite2 (fun c2=> ?_) (fun c2=> ?_)
   ·have c2':(24:Int)<z.length:=of_decide_eq_true c2
    exact stop (nm_len fun q=>by omega)
   ·have c2':(z.length:Int)≤24:=by
     rcases Int.lt_or_le (24:Int) z.length with h|h
     ·exact absurd (decide_eq_true h) c2
     ·exact h
    refine⟨_,rfl,_,_,_,rfl,rfl,hz,zi (by omega),_,_,rfl,rfl,_,rfl,?_⟩
    cases e:inS ⟨#[z.cps.getD 0 0]⟩ LET with
    |false=>
     have e':(!(Builtin.Str.occurrences ("abcdefghijklmnopqrstuvwxyz":Str) ⟨#[z.cps.getD 0 0]⟩ 0 ("abcdefghijklmnopqrstuvwxyz":Str).length 1).isEmpty)=false:=e
     rw [e']
     refine iteT ?_
     exact stop (nm_first e)
    |true=>
     have e':(!(Builtin.Str.occurrences ("abcdefghijklmnopqrstuvwxyz":Str) ⟨#[z.cps.getD 0 0]⟩ 0 ("abcdefghijklmnopqrstuvwxyz":Str).length 1).isEmpty)=true:=e
     rw [e']
     refine iteF ?_
     refine⟨_,rfl,z,rfl,fun D hD=> ?_⟩
     refine lc_str (fun c=> .bl (inS ⟨#[c]⟩ NSG)) (hz) hD (fun i c H' R hc sm r=>⟨_,rfl,_,_,rfl,rfl,r⟩) fun H' sm hl=> ?_
     refine⟨D,z.cps.toList.map fun c=>inS ⟨#[c]⟩ NSG,rfl,SqL.of (by rw [hl,allMap]),?_⟩
     have:=k H' sm
     rw [nm_rest c1' c2' e] at this
     exact this
theorem ok_said (T:Tx K mg a):FnOk P w K mg base CX0 1 a.JI a.JL ["boxes","words"] sp_said:=by
 refine T.ZV.ok sc_law_said (fun vs H Q E h=> ?_) (fun cdv A outer s H vs Q E hr h=> ?_)
 ·obtain⟨d,p,B,r,n,rfl,_⟩:=h
  rfl
 obtain⟨d,p,B,⟨r1,ps⟩,n,rfl,hn,hB,hw,hro,hs,k⟩:=h
 refine⟨_,(@qb _ _ _ _ _ (@qI _ _ _ _ _ _ _ _ (@qp _ _ _ _ _ _ _ _ (@QL _) (@qL _ _ _ _ _ _ _ (@qS _) (pv 1) (@qi _ _ _ _) (fun _ _=>rfl)) (@qh _ _ _ _) (qz _)) (@qe _ _ _ (@qk _ _ _ _ (@qP _ _ _ _ _ (@qa _ _ _ _ _ (@qh _ _ _ _) (@qa _ _ _ _ _ (@qh _ _ _ _) (@qc _) (by trivial)) (by trivial))))) (@qr _)) (@qe _ _ _ (@qk _ _ _ _ (@qP _ _ _ _ _ (@qa _ _ _ _ _ (@qh _ _ _ _) (@qa _ _ _ _ _ (@qZ _ _ _ _ _ _ (yd hr) (pv 0) (@qL _ _ _ _ _ _ _ (@qS _) (pv 1) (@qi _ _ _ _) (fun _ _=>rfl)) (fun _ _=>rfl)) (@qc _) (by trivial)) (by trivial)))))),?_⟩
 have two:(2:Nat)≤sizeLine:=by decide
 refine⟨_,rfl,?_⟩
 dsimp only [tC]
 refine yg (i:=0) hw (wds0 hn hro) ⟨rfl,_,rfl,?_⟩
 simp only at hs
 rcases hs with rfl|rfl
 ·refine qo (decide_eq_false fun h=>absurd (show("say":Str)="fault" from V.str.inj h) (by decide+kernel)) ?_
  obtain⟨ks,hk,hp⟩:=id hro
  have ek:=frm_say _ hk rfl
  simp only at ek
  subst ek
  obtain⟨z0,rfl,h0⟩:=sh_b hp
  refine⟨_,rfl,_,rfl,?_⟩
  dsimp only [tC]
  have ew:(wds ("say",[.s z0]))[1]? =some z0:=by rw [yO hn hk hp (by decide)];rfl
  obtain⟨v,gv,iv⟩:=hB.get h0
  refine yg (i:=1) hw ew ⟨d,v,rfl,gv,two,fun l hl=> ?_⟩
  exact k _ _ (qd hl _) (Is.new (ds:= [.str "said",B z0]) ⟨_,_,rfl,⟨rfl,qU (by decide)⟩,_,_,rfl,iv,rfl⟩ hl)
 ·refine qG (decide_eq_true rfl) ⟨two,fun l hl=> ?_⟩
  exact k _ _ (qd hl _) (Is.new (ds:= [.str "fault",.str "told"]) ⟨_,_,rfl,⟨rfl,qU (by decide)⟩,_,_,rfl,⟨rfl,qU (by decide)⟩,rfl⟩ hl)
theorem ok_lask (T:Tx K mg a):FnOk P w K mg base CX0 2 a.xq a.xo ["boxes","words"] sp_lask:=by
 have Wp:FnOk P w K mg base CX0 1 a.YA a.YC ["value"] sp_lname:=ok_lname T
 refine T.F_law_ask.ok wt (fun vs H Q E h=> ?_) (fun cdv A outer s H vs Q E hr h=> ?_)
 ·obtain⟨d,p,B,r,n,rfl,_⟩:=h
  rfl
 obtain⟨d,p,B,⟨r1,ps⟩,n,rfl,hn,hB,hw,hro,hs,k⟩:=h
 refine⟨_,(@qb _ _ _ _ _ (@qB _ _ (2) _ _ _ _ wt.nd rfl (Or.inl rfl) (@qZ _ _ _ _ _ _ (yd hr) (pv 0) (@qL _ _ _ _ _ _ _ (@qS _) (pv 1) (@qi _ _ _ _) (fun _ _=>rfl)) (fun _ _=>rfl)) (by trivial) (by trivial)) (@qb _ _ _ _ _ (@qI _ _ _ _ _ _ _ _ (@xL _ _ _ _ _ _ _ (@qp _ _ _ _ _ _ _ _ (@QL _) (@qL _ _ _ _ _ _ _ (@qS _) (pv 1) (@qi _ _ _ _) (fun _ _=>rfl)) (@qh _ _ _ _) (qz _)) (@Jy _ _ _ _ (@Qo _ _ _ _ (@qT _ _ _ (@qj _ _ _ _ _ _ _ _ _ (@qw _ _ rfl) (by rfl) T.qt boot_isinstance (@qa _ _ _ _ _ (pv 2) (@qa _ _ _ _ _ (@qV _ _ (.ty "str") _ _ (by rfl) T.yI boot_str rfl (by trivial) (by trivial)) (@qc _) (by trivial)) (by trivial)) (by trivial) (by trivial) (by trivial) (by trivial)) (by trivial))))).pt (@qe _ _ _ (@qk _ _ _ _ (@qh _ _ _ _))) (@qr _)) (@qb _ _ _ _ _ (@qI _ _ _ _ _ _ _ _ (@xL _ _ _ _ _ _ _ (@qp _ _ _ _ _ _ _ _ (@op_ne _) (@qL _ _ _ _ _ _ _ (@qS _) (pv 1) (@qi _ _ _ _) (fun _ _=>rfl)) (@qh _ _ _ _) (qz _)) (@Jy _ _ _ _ (@Qo _ _ _ _ (@qT _ _ _ (@qA _ _ _ _ _ _ _ _ _ _ _ _ _ _ _ _ Wp (hr.mono (by first|decide|omega)) (by rfl) T.Wg T.xD.kp T.wT .nil qQ (@qa _ _ _ _ _ (pv 2) (@qc _) (by trivial)) (by trivial) (by trivial) (by trivial)) (by trivial))))).pt (@qe _ _ _ (@qk _ _ _ _ (@qh _ _ _ _))) (@qr _)) (@qe _ _ _ (@qk _ _ _ _ (@qP _ _ _ _ _ (@qa _ _ _ _ _ (@qZ _ _ _ _ _ _ (yd hr) (@pe_disp _ _ _ _ _ (@Yn _ _ _ _ _ _ _ _ _ (@qh _ _ _ _) (@qh _ _ _ _) (@Yn _ _ _ _ _ _ _ _ _ (@qh _ _ _ _) (@qh _ _ _ _) (@Yn _ _ _ _ _ _ _ _ _ (@qh _ _ _ _) (@qh _ _ _ _) (@pps_nil _ _)))) rfl rfl (by simp) (by decide)) (@qL _ _ _ _ _ _ _ (@qS _) (pv 1) (@qi _ _ _ _) (fun _ _=>rfl)) (fun _ _=>rfl)) (@qa _ _ _ _ _ (pv 2) (@qc _) (by trivial)) (by trivial)))))))),?_⟩
 have two:(2:Nat)≤sizeLine:=by decide
 simp only at hs k
 obtain⟨ks,hk,hp⟩:=id hro
 obtain⟨_,_,ek⟩:=Xa _ hk hs
 simp only at ek
 subst ek
 obtain⟨z0,z1,rfl,h0,h1⟩:=jn hp
 have ew:wds (r1,[.s z0,.s z1])= [r1,z0,z1]:=yO hn hk hp (by decide)
 obtain⟨v,gv,iv⟩:=hB.get h1
 have k':∀(v:V) (H':Hp),Same H H'→Is H' (askL r1 (B z1)) v→Q v H':=k
 refine⟨_,rfl,_,rfl,?_⟩
 dsimp only [tC]
 refine yg (i:=2) hw (by rw [ew];rfl) ⟨d,v,rfl,gv,?_⟩
 have disp:∀(H1:Hp),Same H H1→askL r1 (B z1)= .tup [.str (if r1="names" then "names" else if r1="ask" then "thing" else "has"),B z1]→∀q,H1 q=none→∃z:Str,valV (j9 [] [((Sum.inr "ask":Key),V.str "thing"),(Sum.inr "has",V.str "has"),(Sum.inr "names",V.str "names")]) (Sum.inr r1)=some (.str z)∧∀l,(upd (upd H1 q (.dK [])) q (.dK (j9 [] [((Sum.inr "ask":Key),V.str "thing"),(Sum.inr "has",V.str "has"),(Sum.inr "names",V.str "names")]))) l=none→Q (.ref l) (upd (upd (upd H1 q (.dK [])) q (.dK (j9 [] [((Sum.inr "ask":Key),V.str "thing"),(Sum.inr "has",V.str "has"),(Sum.inr "names",V.str "names")]))) l (.tup [.str z,v])):=by
  intro H1 s1 e q hq
  have s2:Same H (upd (upd H1 q (.dK [])) q (.dK (j9 [] [((Sum.inr "ask":Key),V.str "thing"),(Sum.inr "has",V.str "has"),(Sum.inr "names",V.str "names")]))):=fun b o h=>by
   have h1:=s1 b o h
   have nb:b≠q:=qm h1 hq
   rw [qu nb,qu nb]
   exact h1
  refine⟨if r1="names" then "names" else if r1="ask" then "thing" else "has",?_,fun l hl=> ?_⟩
  ·simp only [ASK,List.mem_cons,List.not_mem_nil,or_false] at hs
   rcases hs with rfl|rfl|rfl
   ·rfl
   ·rfl
   ·rfl
  ·refine k' _ _ (s2.trans (qd hl _)) ?_
   rw [e]
   exact Is.new (ds:= [.str (if r1="names" then "names" else if r1="ask" then "thing" else "has"),B z1]) ⟨_,_,rfl,⟨rfl,qU (by split<;>first|decide|(split<;>decide))⟩,_,_,rfl,iv.mono s2.tk,rfl⟩ hl
 have es:∀y:Str,decide (V.str r1=V.str y)=decide (r1=y):=fun y=>by
  rw [decide_eq_decide]
  exact⟨fun h=>by injection h,fun h=>by rw [h]⟩
 show∃_,_
 refine⟨_,rfl,?_⟩
 dsimp only [tC]
 refine yg (i:=0) hw (wds0 hn hro) ⟨rfl,_,rfl,?_⟩
 by_cases c:r1="names"
 ·refine qG (by rw [es];exact decide_eq_true c) ⟨_,rfl,v,"str",tyD (B z1),Qd (B z1),rfl,iv.ty,QB _,_,rfl,?_⟩
  cases hst:Qd (B z1) with
  |false=>exact iteT (k' _ H (Same.refl _) (by unfold askL;rw [if_pos c,hst];exact⟨rfl,qU (by decide)⟩))
  |true=>
   refine iteF ?_
   refine⟨_,rfl,?_⟩
   dsimp only [tC]
   refine yg (i:=0) hw (wds0 hn hro) ⟨rfl,_,rfl,?_⟩
   refine qo (by rw [es];rw [decide_eq_true c];rfl) ?_
   have EE:askL r1 (B z1)= .tup [.str (if r1="names" then "names" else if r1="ask" then "thing" else "has"),B z1]:=by unfold askL;rw [if_pos c,hst,if_pos c];rfl
   refine fun q hq=>⟨qf,[((Sum.inr "ask":Key),V.str "thing"),(Sum.inr "has",V.str "has"),(Sum.inr "names",V.str "names")],rfl,by decide,_,rfl,?_⟩
   dsimp only [tC]
   obtain⟨z,ez,fz⟩:=disp H (Same.refl H) EE q hq
   have nb:p≠q:=qm ((Same.refl H) _ _ hw) hq
   refine yg (i:=0) (r:=(r1,[.s z0,.s z1])) (by unfold WdAt;rw [qu nb,qu nb];exact(Same.refl H) _ _ hw) (wds0 hn hro) ⟨q,.str z,rfl,?_,_,rfl,two,fun l hl=>fz l hl⟩
   have dg:=DGet.k (a:=q) (k:=(Sum.inr r1:Key)) (H:=upd (upd H q (.dK [])) q (.dK (j9 [] [((Sum.inr "ask":Key),V.str "thing"),(Sum.inr "has",V.str "has"),(Sum.inr "names",V.str "names")]))) qf
   rw [ez] at dg
   exact dg
 ·refine qo (by rw [es];exact decide_eq_false c) ?_
  refine⟨_,rfl,?_⟩
  dsimp only [tC]
  refine yg (i:=0) hw (wds0 hn hro) ⟨rfl,_,rfl,?_⟩
  refine qG (by rw [es];rw [decide_eq_false c];rfl) ⟨_,rfl,v,B z1,rfl,iv,fun H1 s1=>⟨_,rfl,?_⟩⟩
  cases hst:isNm (B z1) with
  |false=>exact iteT (k' _ H1 s1 (by unfold askL;rw [if_neg c,hst];exact⟨rfl,qU (by decide)⟩))
  |true=>
   refine iteF ?_
   have EE:askL r1 (B z1)= .tup [.str (if r1="names" then "names" else if r1="ask" then "thing" else "has"),B z1]:=by unfold askL;rw [if_neg c,hst,if_neg c];rfl
   refine fun q hq=>⟨qf,[((Sum.inr "ask":Key),V.str "thing"),(Sum.inr "has",V.str "has"),(Sum.inr "names",V.str "names")],rfl,by decide,_,rfl,?_⟩
   dsimp only [tC]
   obtain⟨z,ez,fz⟩:=disp H1 s1 EE q hq
   have nb:p≠q:=qm (s1 _ _ hw) hq
   refine yg (i:=0) (r:=(r1,[.s z0,.s z1])) (by unfold WdAt;rw [qu nb,qu nb];exact s1 _ _ hw) (wds0 hn hro) ⟨q,.str z,rfl,?_,_,rfl,two,fun l hl=>fz l hl⟩
   have dg:=DGet.k (a:=q) (k:=(Sum.inr r1:Key)) (H:=upd (upd H1 q (.dK [])) q (.dK (j9 [] [((Sum.inr "ask":Key),V.str "thing"),(Sum.inr "has",V.str "has"),(Sum.inr "names",V.str "names")]))) qf
   rw [ez] at dg
   exact dg
end
end K13
namespace K13
open PySem L2 PyProof.Rows
theorem frm_jks:∀x∈FRM,x.1∈JMP→x=(("go":Str),[Kd.line])∨x=(("like":Str),[Kd.box,.box,.line])∨x=(("rowed":Str),[Kd.box,.line])∨x=(("none":Str),[Kd.box,.line]):=by decide+kernel
theorem tvl {K:PySem.W.Frag}{H:Hp}{p:Addr}{r:Rw}{n m:Nat}{σ:L2.St}{y:Str}{k:VK}(hσ:σ[1]? =some (some (.ref p)))(hw:WdAt H p r)(hn:n≤40)(hro:QP n m r)(q:k (.bl (decide (r.1=y))) H):tOp rEq (tOp (rIxL K) (tVar 1) (tC (.int 0))) (tC (.str y)) σ H k:=by
 refine⟨_,hσ,?_⟩
 dsimp only [tC]
 refine yg (i:=0) hw (wds0 hn hro) ⟨rfl,?_⟩
 rw [show decide (V.str r.1=V.str y)=decide (r.1=y) by rw [decide_eq_decide];exact⟨fun h=>by injection h,fun h=>by rw [h]⟩]
 exact q
theorem tst {K:PySem.W.Frag}{H:Hp}{p:Addr}{r:Rw}{n m:Nat}{σ:L2.St}{y:Str}{k:Bool→Hp→Prop}(hσ:σ[1]? =some (some (.ref p)))(hw:WdAt H p r)(hn:n≤40)(hro:QP n m r)(q:k (decide (r.1=y)) H):tTest (tOp rEq (tOp (rIxL K) (tVar 1) (tC (.int 0))) (tC (.str y))) σ H k:=
 tvl hσ hw hn hro ⟨_,rfl,q⟩
section
variable {P:Program}{w:World}{K:PySem.W.Frag}{mg:Str→Option Value}{base:Heap}{a:Ad}{g:Ga}
theorem ok_next (T:Tx K mg a):FnOk P w K mg base CX0 1 a.JP a.JH ["boxes","words","at"] sp_next:=by
 refine T.ZT.ok yU (fun vs H Q E h=> ?_) (fun cdv A outer s H vs Q E hr h=> ?_)
 ·obtain⟨d,p,B,r,n,at',rfl,_⟩:=h
  rfl
 obtain⟨d,p,B,⟨r1,ps⟩,n,at',rfl,hn,hB,hT,hw,hro,hs,k⟩:=h
 refine⟨_,(@qb _ _ _ _ _ (@qB _ _ (3) _ _ _ _ yU.nd rfl (Or.inl rfl) (@w8 _ _ _ _ _ _ _ _ _ (yd hr) (pv 0) (@qL _ _ _ _ _ _ _ (@qS _) (pv 1) (@qi _ _ _ _) (fun _ _=>rfl)) (@qh _ _ _ _) ⟨rfl,rfl,rfl,rfl⟩) (by trivial) (by trivial)) (@qb _ _ _ _ _ (@qB _ _ (4) _ _ _ _ yU.nd rfl (Or.inl rfl) (@Q0 _ _ _ _ _ _ _ _ (@QL _) (@qL _ _ _ _ _ _ _ (@qS _) (pv 1) (@qi _ _ _ _) (fun _ _=>rfl)) (@qh _ _ _ _) (qz _)) (by trivial) (by trivial)) (@qb _ _ _ _ _ (@qI _ _ _ _ _ _ _ _ (@qp _ _ _ _ _ _ _ _ (@QL _) (@qL _ _ _ _ _ _ _ (@qS _) (pv 1) (@qi _ _ _ _) (fun _ _=>rfl)) (@qh _ _ _ _) (qz _)) (@qe _ _ _ (@qB _ _ (4) _ _ _ _ yU.nd rfl (Or.inl rfl) (@Q0 _ _ _ _ _ _ _ _ (@op_eqD _ hr.units) (pv 3) (@qZ _ _ _ _ _ _ (yd hr) (pv 0) (@qL _ _ _ _ _ _ _ (@qS _) (pv 1) (@qi _ _ _ _) (fun _ _=>rfl)) (fun _ _=>rfl)) (qz _)) (by trivial) (by trivial))) (@qr _)) (@qb _ _ _ _ _ (@qI _ _ _ _ _ _ _ _ (@qp _ _ _ _ _ _ _ _ (@QL _) (@qL _ _ _ _ _ _ _ (@qS _) (pv 1) (@qi _ _ _ _) (fun _ _=>rfl)) (@qh _ _ _ _) (qz _)) (@qe _ _ _ (@qB _ _ (4) _ _ _ _ yU.nd rfl (Or.inl rfl) (@qj _ _ _ _ _ _ _ _ _ (@qw _ _ rfl) (by rfl) T.qt boot_isinstance (@qa _ _ _ _ _ (pv 3) (@qa _ _ _ _ _ (@qV _ _ (.ty "tuple") _ _ (by rfl) T.Qi boot_tuple rfl (by trivial) (by trivial)) (@qc _) (by trivial)) (by trivial)) (by trivial) (by trivial) (by trivial) (by trivial)) (by trivial) (by trivial))) (@qr _)) (@qb _ _ _ _ _ (@qI _ _ _ _ _ _ _ _ (@qp _ _ _ _ _ _ _ _ (@QL _) (@qL _ _ _ _ _ _ _ (@qS _) (pv 1) (@qi _ _ _ _) (fun _ _=>rfl)) (@qh _ _ _ _) (qz _)) (@qe _ _ _ (@qB _ _ (4) _ _ _ _ yU.nd rfl (Or.inl rfl) (@pe_or _ _ _ _ _ _ _ (@Q0 _ _ _ _ _ _ _ _ (@op_eqM _ hr.units) (pv 3) (@qh _ _ _ _) (qz _)) (@XD _ _ _ _ _ (@Q0 _ _ _ _ _ _ _ _ (@op_eqD _ hr.units) (pv 3) (@qP _ _ _ _ _ (@qc _)) (qz _)))) (by trivial) (by trivial))) (@qr _)) (@qb _ _ _ _ _ (@qI _ _ _ _ _ _ _ _ (@qT _ _ _ (pv 4) (by trivial)) (@qe _ _ _ (@qk _ _ _ _ (@qD _ _ _ _ _ _ _ _ (@xx _) (@qH _ _ _ _ _ _ _ _ _ (@call_intS _) (by rfl) T.z_int boot_int (@qa _ _ _ _ _ (@qL _ _ _ _ _ _ _ (@qS _) (pv 1) (@pe_un _ _ _ _ _ _ un_neg (@qi _ _ _ _)) (fun _ _=>rfl)) (@qc _) (by trivial)) (by trivial) (by trivial) (by trivial) (by trivial)) (@qi _ _ _ _)))) (@qr _)) (@qe _ _ _ (@qk _ _ _ _ (@qD _ _ _ _ _ _ _ _ (@Qb _) (pv 2) (@qi _ _ _ _)))))))))),?_⟩
 simp only at hs k
 obtain⟨ks,hk,hp⟩:=id hro
 obtain⟨qs,i,eps,h1,h2,hl⟩:=wG hro hs
 simp only at eps hl
 have hwn:Kd.words∉ks:=by
  rcases frm_jks _ hk hs with e|e|e|e<;>(have:=congrArg Prod.snd e;simp only at this;subst this;decide)
 have ew:wds (r1,ps)=r1::ps.map Pt.t:=yO hn hk hp hwn
 have hw0:(wds (r1,ps))[0]? =some r1:=wds0 hn hro
 have hlast:atI ((wds (r1,ps)).map V.str) (-1)=some (.str (toString i)):=by
  rw [ew,eps,List.map_cons,List.map_map,List.map_append,←List.cons_append]
  exact zg _ _
 have es:∀y:Str,decide (V.str r1=V.str y)=decide (r1=y):=fun y=>by
  rw [decide_eq_decide]
  exact⟨fun h=>by injection h,fun h=>by rw [h]⟩
 have hw1:∀q qs2,ps=q::qs2→(wds (r1,ps))[1]? =some q.t:=fun q qs2 e=>by rw [ew,e];rfl
 have fin:∀(H1:Hp) (held:V),Same H H1→tSeq (tIfS (tB (tVar 4)) (tRet (tOp (rI0 fun i j=> .int (i-j)) (tCB (fun xs H Q=>∃z n,xs= [.str z]∧PySem.intText? z=some n∧z.length≤640∧Q (.int n) H) (tCons (tOp (rIxL K) (tVar 1) (tUn (rU fun i=>V.int (-i)) (tC (.int 1)))) tNil)) (tC (.int 1)))) tNext) (tRet (tOp (rI0 fun i j=> .int (i+j)) (tVar 2) (tC (.int 1)))) {nx:=fun _ H'=>Q V.non H',rt:=Q} [some (.ref d),some (.ref p),some (.int at'),some held,some (.bl (jump r1 B ps))] H1:=by
  intro H1 held s1
  have:=k H1 s1
  refine⟨_,rfl,_,rfl,?_⟩
  cases hj:jump r1 B ps with
  |true=>
   rw [hj,if_pos rfl,hl] at this
   refine iteT ⟨_,rfl,1,rfl,p,_,_,_,rfl,rfl,SqL.of (s1 _ _ hw),hlast,toString i,i,rfl,num_back h1 (by omega),?_,_,_,rfl,rfl,this⟩
   have:=(yc h1 (by omega)).1
   omega
  |false=>
   rw [hj,if_neg Bool.false_ne_true] at this
   exact iteF ⟨_,rfl,_,_,rfl,rfl,this⟩
 refine⟨_,rfl,d,rfl,(let⟨f,e,_⟩:=hB; .inl ⟨_,.inl e⟩),_,rfl,?_⟩
 dsimp only [tC]
 have hcases:=frm_jks _ hk hs
 simp only at hcases
 rcases hcases with e|e|e|e
 ·cases e
  obtain⟨j,rfl,hj1,hj2⟩:=sh_l hp
  refine yg (i:=1) hw (hw1 _ _ rfl) ⟨none,hB.lack (num_no hj1 (by omega)),?_⟩
  refine tvl rfl hw hn hro ?_
  refine tst rfl hw hn hro (qo (show decide (("go":Str)="like")=false by decide+kernel) ?_)
  refine tst rfl hw hn hro (qo (show decide (("go":Str)="rowed")=false by decide+kernel) ?_)
  refine tst rfl hw hn hro (qo (show decide (("go":Str)="none")=false by decide+kernel) ?_)
  exact fin H _ (Same.refl _)
 ·cases e
  obtain⟨x,y,j,rfl,hx,hy,_⟩:=sh_bbl hp
  obtain⟨v,gv,iv⟩:=hB.get hx
  obtain⟨u,gu,iu⟩:=hB.get hy
  refine yg (i:=1) hw (hw1 _ _ rfl) ⟨some v,gv,?_⟩
  refine tvl rfl hw hn hro ?_
  refine tst rfl hw hn hro (qG (show decide (("like":Str)="like")=true by decide+kernel) ?_)
  refine⟨_,rfl,_,rfl,_,rfl,?_⟩
  dsimp only [tC]
  refine yg (i:=2) hw (by rw [ew];rfl) ⟨d,u,rfl,gu,B x,B y,iv,iu,isT_tr (hT x hx),isT_tr (hT y hy),by have:=xp (hT x hx);omega,?_⟩
  refine tst rfl hw hn hro (qo (show decide (("like":Str)="rowed")=false by decide+kernel) ?_)
  refine tst rfl hw hn hro (qo (show decide (("like":Str)="none")=false by decide+kernel) ?_)
  exact fin H _ (Same.refl _)
 ·cases e
  obtain⟨x,j,rfl,hx,_⟩:=sh_bl hp
  obtain⟨v,gv,iv⟩:=hB.get hx
  refine yg (i:=1) hw (hw1 _ _ rfl) ⟨some v,gv,?_⟩
  refine tvl rfl hw hn hro ?_
  refine tst rfl hw hn hro (qo (show decide (("rowed":Str)="like")=false by decide+kernel) ?_)
  refine tst rfl hw hn hro (qG (show decide (("rowed":Str)="rowed")=true by decide+kernel) ?_)
  refine⟨_,rfl,v,"tuple",tyD (B x),xV (B x),rfl,iv.ty,Y6 _,?_⟩
  refine tst rfl hw hn hro (qo (show decide (("rowed":Str)="none")=false by decide+kernel) ?_)
  exact fin H _ (Same.refl _)
 ·cases e
  obtain⟨x,j,rfl,hx,_⟩:=sh_bl hp
  obtain⟨v,gv,iv⟩:=hB.get hx
  refine yg (i:=1) hw (hw1 _ _ rfl) ⟨some v,gv,?_⟩
  refine tvl rfl hw hn hro ?_
  refine tst rfl hw hn hro (qo (show decide (("none":Str)="like")=false by decide+kernel) ?_)
  refine tst rfl hw hn hro (qo (show decide (("none":Str)="rowed")=false by decide+kernel) ?_)
  refine tst rfl hw hn hro (qG (show decide (("none":Str)="none")=true by decide+kernel) ?_)
  have htr:=isT_tr (hT x hx)
  have hdp:dp (B x)≤60:=by have:=xp (hT x hx);omega
  refine⟨_,rfl,B x,"",iv,rfl,by decide,(by cases hb:B x<;>first|rfl|(rw [hb] at htr;exact htr)),hdp,_,rfl,?_⟩
  have ej:jump "none" B [.s x,.n j]=decide (lenD (B x)=0):=by
   unfold jump
   rw [if_neg (by decide+kernel),if_neg (by decide+kernel),if_pos rfl]
   rfl
  have hg:=hT x hx
  cases hb:B x with
  |str z=>
   rw [hb] at ej
   have e1:eqD (.str z) (.str "")=decide (lenD (.str z)=0):=by
    show(z==("":Str))=decide (z.length=0)
    by_cases c:z.length=0
    ·have h4:z.cps= #[]:=Array.eq_empty_of_size_eq_zero c
     rw [decide_eq_true c]
     cases z
     simp only at h4
     subst h4
     decide+kernel
    ·rw [decide_eq_false c]
     have:z≠"":=fun e=>c (by rw [e];decide+kernel)
     simpa using this
   rw [e1]
   cases hc:decide (lenD (.str z)=0) with
   |true=>
    rw [hc] at ej
    refine iteT ?_
    rw [←ej]
    exact fin H _ (Same.refl _)
   |false=>
    rw [hc] at ej
    refine iteF ⟨_,rfl,(by show 0≤sizeLine;decide),fun l hl=> ?_⟩
    have s1:Same H (upd H l (.tup [])):=qd hl _
    refine⟨.str z,.tup [],by rw [←hb];exact iv.mono s1.tk,Is.new (ds:= []) rfl hl,rfl,rfl,by simp [dp],?_⟩
    show tSeq _ _ _ _ _
    have:=fin (upd H l (.tup [])) v s1
    rw [ej] at this
    exact this
  |tup xs=>
   rw [hb] at ej
   refine iteF ⟨_,rfl,(by show 0≤sizeLine;decide),fun l hl=> ?_⟩
   have s1:Same H (upd H l (.tup [])):=qd hl _
   refine⟨.tup xs,.tup [],by rw [←hb];exact iv.mono s1.tk,Is.new (ds:= []) rfl hl,by rw [←hb];exact htr,rfl,by rw [←hb];exact hdp,?_⟩
   have:=fin (upd H l (.tup [])) v s1
   rw [ej] at this
   have e1:decide (lenD (.tup xs)=0)=eqD (.tup xs) (.tup []):=by cases xs<;>rfl
   rw [e1] at this
   exact this
  |_=>rw [hb] at hg;simp [isT,good] at hg
end
end K13
namespace K13
open PySem L2 PyProof.Rows
def sp_cg:Sp:=fun vs H Q _=>∃(w:Str) (v2 v3:V) (d2 d3:D),vs= [.str w,v2,v3]∧(w="cut"∨w="glue")∧Is H d2 v2∧Is H d3 v3∧isT d2=true∧isT d3=true∧∀(v:V) (H':Hp),Same H H'→Is H' (if w="cut" then cutD d2 d3 else glueD d2 d3) v→Q v H'
section
variable {P:Program}{w:World}{K:PySem.W.Frag}{mg:Str→Option Value}{base:Heap}{a:Ad}{g:Ga}
theorem ok_cg (T:Tx K mg a):FnOk P w K mg base CX0 1 a.QV a.QW ["word","two","three"] sp_cg:=by
 refine T.je.ok xj (fun vs H Q E h=> ?_) (fun cdv A outer s H vs Q E hr h=> ?_)
 ·obtain⟨w,v2,v3,d2,d3,rfl,_⟩:=h
  rfl
 obtain⟨w,v,u,dx,dy,rfl,hw,iv,iu,hg,hg3,k⟩:=h
 refine⟨_,(@qb _ _ _ _ _ (@qI _ _ _ _ _ _ _ _ (@Qo _ _ _ _ (@qT _ _ _ (@qj _ _ _ _ _ _ _ _ _ (@qw _ _ rfl) (by rfl) T.qt boot_isinstance (@qa _ _ _ _ _ (pv 2) (@qa _ _ _ _ _ (@qV _ _ (.ty "str") _ _ (by rfl) T.yI boot_str rfl (by trivial) (by trivial)) (@qc _) (by trivial)) (by trivial)) (by trivial) (by trivial) (by trivial) (by trivial)) (by trivial))) (@qe _ _ _ (@qk _ _ _ _ (@Qn _ _ _))) (@qr _)) (@qb _ _ _ _ _ (@qI _ _ _ _ _ _ _ _ (@qp _ _ _ _ _ _ _ _ (@QL _) (pv 0) (@qh _ _ _ _) (qz _)) (@qb _ _ _ _ _ (@qI _ _ _ _ _ _ _ _ (@Jd _ _ _ _ _ _ _ (@Qo _ _ _ _ (@qT _ _ _ (@qj _ _ _ _ _ _ _ _ _ (@qw _ _ rfl) (by rfl) T.qt boot_isinstance (@qa _ _ _ _ _ (pv 1) (@qa _ _ _ _ _ (@qV _ _ (.ty "str") _ _ (by rfl) T.yI boot_str rfl (by trivial) (by trivial)) (@qc _) (by trivial)) (by trivial)) (by trivial) (by trivial) (by trivial) (by trivial)) (by trivial))) (@jf _ _ _ _ (@qp _ _ _ _ _ _ _ _ (@QL _) (pv 2) (@qh _ _ _ _) (qz _)))).pt (@qe _ _ _ (@qk _ _ _ _ (@Qn _ _ _))) (@qr _)) (@qe _ _ _ (@qk _ _ _ _ (@qH _ _ _ _ _ _ _ _ _ (@qO _) (by rfl) T.Qi boot_tuple (@qa _ _ _ _ _ (@Xx _ _ _ _ _ _ _ _ _ _ _ _ PySem.F.plainAttrs_str PySem.F.slot_str_split PySem.F.type_str_split (@mt_splitG _) (pv 1) (@qa _ _ _ _ _ (pv 2) (@qc _) (by trivial)) (by trivial) (by trivial) (by trivial) (by trivial) (by trivial)) (@qc _) (by trivial)) (by trivial) (by trivial) (by trivial) (by trivial))))) (@qr _)) (@qb _ _ _ _ _ (@qI _ _ _ _ _ _ _ _ (@Jd _ _ _ _ _ _ _ (@Qo _ _ _ _ (@qT _ _ _ (@qj _ _ _ _ _ _ _ _ _ (@qw _ _ rfl) (by rfl) T.qt boot_isinstance (@qa _ _ _ _ _ (pv 1) (@qa _ _ _ _ _ (@qV _ _ (.ty "tuple") _ _ (by rfl) T.Qi boot_tuple rfl (by trivial) (by trivial)) (@qc _) (by trivial)) (by trivial)) (by trivial) (by trivial) (by trivial) (by trivial)) (by trivial))) (@jf _ _ _ _ (@Qo _ _ _ _ (@qT _ _ _ (@qj _ _ _ _ _ _ _ _ _ (@YZ _ rfl) (by rfl) T.z_all boot_all (@qa _ _ _ _ _ (@Xi _ _ (["part"]) (1) ([]) _ _ _ _ _ _ _ _ _ (lcs0) rfl (@JC _ _ _ _ (pv 1)) (fun _ _ _ _ _ _=>(@Qm _ _ (0) _ (show List.Nodup (["part"]:List Str) by decide+kernel) rfl (Or.inl rfl) (by trivial))) (fun _ _ _ _ _ _=> @yC _) (fun _ _ _ _ _ _=>(@qj _ _ _ _ _ _ _ _ _ (@qw _ _ rfl) (by rfl) T.qt boot_isinstance (@qa _ _ _ _ _ (pv 0) (@qa _ _ _ _ _ (@qV _ _ (.ty "str") _ _ (by rfl) T.yI boot_str rfl (by trivial) (by trivial)) (@qc _) (by trivial)) (by trivial)) (by trivial) (by trivial) (by trivial) (by trivial))) (by trivial)) (@qc _) (by trivial)) (by trivial) (by trivial) (by trivial) (by trivial)) (by trivial))))).pt (@qe _ _ _ (@qk _ _ _ _ (@Qn _ _ _))) (@qr _)) (@qe _ _ _ (@qk _ _ _ _ (@Xx _ _ _ _ _ _ _ _ _ _ _ _ PySem.F.plainAttrs_str PySem.F.slot_str_join PySem.F.type_str_join (@mt_joinT _) (pv 2) (@qa _ _ _ _ _ (pv 1) (@qc _) (by trivial)) (by trivial) (by trivial) (by trivial) (by trivial) (by trivial))))))),?_⟩
 have lx:=QU hg
 have ly:=QU hg3
 refine⟨_,rfl,u,"str",tyD dy,Qd dy,rfl,iu.ty,QB _,_,rfl,?_⟩
 cases dy with
 |str z2=>
  obtain⟨rfl,_⟩:=iu
  have h2:z2.length≤600:=ly
  refine iteF ⟨_,rfl,rfl,_,rfl,?_⟩
  rcases hw with rfl|rfl
  ·refine qG (by decide+kernel) ?_
   have k':∀(v:V) (H':Hp),Same H H'→Is H' (cutD dx (.str z2)) v→Q v H':=k
   refine⟨_,rfl,v,"str",tyD dx,Qd dx,rfl,iv.ty,QB _,_,rfl,?_⟩
   cases dx with
   |str z=>
    refine iteF ?_
    obtain⟨rfl,_⟩:=iv
    have h1:z.length≤600:=lx
    refine⟨_,rfl,rfl,_,rfl,?_⟩
    refine ite2 (fun c=> ?_) (fun c=> ?_)
    ·have e:z2="":=by have:=of_decide_eq_true c;injection this
     subst e
     exact k' _ H (Same.refl _) rfl
    ·have h3:z2.length≠0:=fun h=>c (decide_eq_true (by
      have:z2="":=by
       have h4:z2.cps= #[]:=Array.eq_empty_of_size_eq_zero h
       cases z2
       simp only at h4
       subst h4
       decide+kernel
      rw [this]))
     refine⟨_,rfl,rfl,_,rfl,z,z2,rfl,rfl,by omega,by omega,fun p hp=>⟨p,_,rfl,.inl ⟨SqL.of qf,fun l hl=> ?_⟩⟩⟩
     have s1:Same H (upd H p (.lst ((spG z z2).map V.str))):=qd hp _
     refine k' _ _ (s1.trans (qd hl _)) ?_
     show Is _ (if z2.length=0 then D.non else .tup ((spG z z2).map D.str)) _
     rw [if_neg h3]
     exact Is.new (IsL.ofStrs fun q hq=>qU (by have:=spG_mem hq;omega)) hl
   |_=>exact iteT (k' _ H (Same.refl _) rfl)
  ·refine qo (by decide+kernel) ?_
   have k':∀(v:V) (H':Hp),Same H H'→Is H' (glueD dx (.str z2)) v→Q v H':=k
   refine⟨_,rfl,v,"tuple",tyD dx,xV dx,rfl,iv.ty,Y6 _,_,rfl,?_⟩
   cases dx with
   |tup xs=>
    refine iteF ?_
    obtain⟨r,rs,rfl,er,ir⟩:=iv
    have h1:xs.length≤600:=lx
    refine⟨_,rfl,r,rs,rfl,SqT.of er,fun hvl A0 hA0=> ?_⟩
    refine xa (tl:= []) (fun d=> .bl (Qd d)) er ir (fits (by omega)) hA0 (fun d0 x0 H3 R hd0 s3 i3 q=>⟨_,rfl,x0,"str",tyD d0,Qd d0,rfl,i3.ty,QB _,q _ H3 (Same.refl _) rfl⟩) fun H1 ys s1 l1 i1=> ?_
    have ey:ys=(xs.map Qd).map V.bl:=IsL.bls (by rw [List.map_map];exact i1)
    subst ey
    refine⟨A0,xs.map Qd,rfl,SqL.of l1,_,rfl,?_⟩
    have eall:(xs.map Qd).all id=Yx xs:=by rw [Xt,List.all_map];rfl
    rw [eall]
    cases hst:Yx xs with
    |false=>exact iteT (k' _ H1 s1 (by show Is H1 (if Yx xs=true then _ else D.non) _;rw [hst];rfl))
    |true=>
     have exs:=wN hst
     have er':rs=(Yt xs).map V.str:=IsL.strs (by rw [←exs];exact ir)
     have hsz:=isT_sz hg
     have hsum:=Wa (Yt xs)
     rw [←exs] at hsum
     simp only [sz] at hsz
     have hln:(Yt xs).length*z2.length≤600*600:=Nat.mul_le_mul (by omega) h2
     have hj:=join_le z2 (Yt xs)
     refine iteF ⟨_,rfl,rfl,_,rfl,z2,r,Yt xs,rfl,rfl,SqT.of (by rw [s1 _ _ er,er']),by omega,?_⟩
     refine k' _ H1 s1 ?_
     show Is H1 (if Yx xs=true then .str (Str.join z2 (Yt xs)) else D.non) _
     rw [hst]
     exact⟨rfl,fits (by omega)⟩
   |_=>exact iteT (k' _ H (Same.refl _) rfl)
 |_=>exact iteT (k _ H (Same.refl _) (by split<;>cases dx<;>rfl))
end
end K13
namespace K13
open PySem L2 PyProof.Rows
theorem Q8.any {H:Hp}{d:Addr}{B:Str→D}(h:Q8 H d B)(z:Str):∃o,DGet H d (.str z) o:=by
 by_cases c:z∈BX
 ·obtain⟨v,gv,_⟩:=h.get c
  exact⟨_,gv⟩
 ·exact⟨_,h.lack c⟩
theorem Q8.isD {H:Hp}{d:Addr}{B:Str→D}(h:Q8 H d B):IsD H d:=let⟨f,e,_⟩:=h; .inl ⟨_,.inl e⟩
def sp_held:Sp:=fun vs H Q _=>∃(d p:Addr) (B:Str→D) (r:Rw) (n:Nat) (own:Str),vs= [.ref d,.ref p,.str (qC r),.str own]∧n≤40∧own.length≤100∧(qC r).length≤300∧Q8 H d B∧Tr B∧WdAt H p r∧QP n 160 r∧r.1∈MKR∧
 ∀(v:V) (H':Hp),Same H H'→Is H' (made r.1 B own r.2) v→Q v H'
theorem last_wd {ws:List Str}(h:ws≠ []):∃z,atI (ws.map V.str) (-1)=some (.str z):=by
 rcases List.eq_nil_or_concat ws with e|⟨l,z,e⟩
 ·exact absurd e h
 ·refine⟨z,?_⟩
  rw [e,List.concat_eq_append,List.map_append]
  exact zg _ _
theorem text_tail {x y:Str}(hx:x.length=1):Txt.slice (qC ("text",[.s x,.s y])) (some 7) none=y:=by
 have e:(qC ("text",[.s x,.s y])).cps.toList=("text":Str).cps.toList++32::(x.cps.toList++32::y.cps.toList):=by
  show(Str.join " " ["text",x,y]).cps.toList=_
  rw [L2.YW,L2.YW]
  rfl
 have h4:("text":Str).cps.toList= [116,101,120,116]:=by decide+kernel
 have h1:∃c,x.cps.toList= [c]:=by
  have:x.cps.toList.length=1:=by simpa [Str.length] using hx
  match x.cps.toList,this with
  | [c],_=>exact⟨c,rfl⟩
 obtain⟨c,hc⟩:=h1
 rw [h4,hc] at e
 generalize qC ("text",[.s x,.s y])=z at e⊢
 have hl:z.cps.toList.length=7+y.cps.toList.length:=by rw [e];simp;omega
 have e2:Txt.slice z (some 7) none=⟨((z.cps.toList.drop (7:Int).toNat).take ((z.cps.toList.length:Int)-7).toNat).toArray⟩:=StrLaws.sliceText_from ⟨by omega,by omega⟩
 rw [e2,List.take_of_length_le (by rw [List.length_drop];omega),e]
 show(⟨y.cps.toList.toArray⟩:Str)=y
 simp
def SEC:List Str:= ["copy","put","join","first","rest","size","cut","glue"]
theorem frm_sec:∀x∈FRM,x.1∈SEC→x.2= [Kd.box,.box]∨x.2= [Kd.box,.box,.box]:=by decide+kernel
section
variable {P:Program}{w:World}{K:PySem.W.Frag}{mg:Str→Option Value}{base:Heap}{a:Ad}{g:Ga}
theorem ok_held (T:Tx K mg a):FnOk P w K mg base CX0 2 a.JF a.JK ["boxes","words","line","own"] sp_held:=by
 have xU:FnOk P w K mg base CX0 1 a.QV a.QW ["word","two","three"] sp_cg:=ok_cg T
 refine T.wj.ok Y8 (fun vs H Q E h=> ?_) (fun cdv A outer s H vs Q E hr h=> ?_)
 ·obtain⟨d,p,B,r,n,own,rfl,_⟩:=h
  rfl
 obtain⟨d,p,B,⟨r1,ps⟩,n,own,rfl,hn,ho,hll,hB,hT,hw,hro,hs,k⟩:=h
 refine⟨_,(@qb _ _ _ _ _ (@qB _ _ (4) _ _ _ _ Y8.nd rfl (Or.inl rfl) (@qL _ _ _ _ _ _ _ (@qS _) (pv 1) (@qi _ _ _ _) (fun _ _=>rfl)) (by trivial) (by trivial)) (@qb _ _ _ _ _ (@qB _ _ (5) _ _ _ _ Y8.nd rfl (Or.inl rfl) (@qZ _ _ _ _ _ _ (yd hr) (pv 0) (@qL _ _ _ _ _ _ _ (@qS _) (pv 1) (@qi _ _ _ _) (fun _ _=>rfl)) (fun _ _=>rfl)) (by trivial) (by trivial)) (@qb _ _ _ _ _ (@qB _ _ (6) _ _ _ _ Y8.nd rfl (Or.inl rfl) (@w8 _ _ _ _ _ _ _ _ _ (yd hr) (pv 0) (@qL _ _ _ _ _ _ _ (@qS _) (pv 1) (@pe_un _ _ _ _ _ _ un_neg (@qi _ _ _ _)) (fun _ _=>rfl)) (@qh _ _ _ _) ⟨rfl,rfl,rfl,rfl⟩) (by trivial) (by trivial)) (@qb _ _ _ _ _ (@qI _ _ _ _ _ _ _ _ (@qp _ _ _ _ _ _ _ _ (@XY _) (@qj _ _ _ _ _ _ _ _ _ (@zj _) (by rfl) T.ye PySem.boot_len (@qa _ _ _ _ _ (pv 1) (@qc _) (by trivial)) (by trivial) (by trivial) (by trivial) (by trivial)) (@qi _ _ _ _) (qz _)) (@qe _ _ _ (@qB _ _ (6) _ _ _ _ Y8.nd rfl (Or.inl rfl) (@w8 _ _ _ _ _ _ _ _ _ (yd hr) (pv 0) (@qL _ _ _ _ _ _ _ (@qS _) (pv 1) (@qi _ _ _ _) (fun _ _=>rfl)) (@qh _ _ _ _) ⟨rfl,rfl,rfl,rfl⟩) (by trivial) (by trivial))) (@qr _)) (@qb _ _ _ _ _ (@qI _ _ _ _ _ _ _ _ (@qp _ _ _ _ _ _ _ _ (@QX _) (pv 4) (@Qu _ _ _ _ (@qa _ _ _ _ _ (@qh _ _ _ _) (@qa _ _ _ _ _ (@qh _ _ _ _) (@qa _ _ _ _ _ (@qh _ _ _ _) (@qa _ _ _ _ _ (@qh _ _ _ _) (@qc _) (by trivial)) (by trivial)) (by trivial)) (by trivial))) (by with_unfolding_all rfl)) (@qe _ _ _ (@qk _ _ _ _ (@qZ _ _ _ _ _ _ (yd hr) (@pe_disp _ _ _ _ _ (@Yn _ _ _ _ _ _ _ _ _ (@qh _ _ _ _) (@zf _ _ _ _ _ _ _ _ _ _ (@sl_str _) (pv 2) (@Wk _ _ _ (@qi _ _ _ _)) (@wX _)) (@Yn _ _ _ _ _ _ _ _ _ (@qh _ _ _ _) (pv 3) (@Yn _ _ _ _ _ _ _ _ _ (@qh _ _ _ _) (pv 6) (@Yn _ _ _ _ _ _ _ _ _ (@qh _ _ _ _) (@qP _ _ _ _ _ (@qc _)) (@pps_nil _ _))))) rfl rfl (by simp) (by decide)) (pv 4) (fun _ _=>rfl)))) (@qr _)) (@qb _ _ _ _ _ (@qI _ _ _ _ _ _ _ _ (@xL _ _ _ _ _ _ _ (@qp _ _ _ _ _ _ _ _ (@QL _) (pv 4) (@qh _ _ _ _) (qz _)) (@Jy _ _ _ _ (@qT _ _ _ (@qj _ _ _ _ _ _ _ _ _ (@qw _ _ rfl) (by rfl) T.qt boot_isinstance (@qa _ _ _ _ _ (pv 5) (@qa _ _ _ _ _ (@qV _ _ (.ty "tuple") _ _ (by rfl) T.Qi boot_tuple rfl (by trivial) (by trivial)) (@qc _) (by trivial)) (by trivial)) (by trivial) (by trivial) (by trivial) (by trivial)) (by trivial)))).pt (@qe _ _ _ (@qk _ _ _ _ (@qD _ _ _ _ _ _ _ _ (@op_catG _) (pv 5) (@qP _ _ _ _ _ (@qa _ _ _ _ _ (pv 6) (@qc _) (by trivial)))))) (@qr _)) (@qb _ _ _ _ _ (@qI _ _ _ _ _ _ _ _ (@xL _ _ _ _ _ _ _ (@qp _ _ _ _ _ _ _ _ (@QL _) (pv 4) (@qh _ _ _ _) (qz _)) (@xL _ _ _ _ _ _ _ (@qT _ _ _ (@qj _ _ _ _ _ _ _ _ _ (@qw _ _ rfl) (by rfl) T.qt boot_isinstance (@qa _ _ _ _ _ (pv 5) (@qa _ _ _ _ _ (@qV _ _ (.ty "str") _ _ (by rfl) T.yI boot_str rfl (by trivial) (by trivial)) (@qc _) (by trivial)) (by trivial)) (by trivial) (by trivial) (by trivial) (by trivial)) (by trivial)) (@Jy _ _ _ _ (@qT _ _ _ (@qj _ _ _ _ _ _ _ _ _ (@qw _ _ rfl) (by rfl) T.qt boot_isinstance (@qa _ _ _ _ _ (pv 6) (@qa _ _ _ _ _ (@qV _ _ (.ty "str") _ _ (by rfl) T.yI boot_str rfl (by trivial) (by trivial)) (@qc _) (by trivial)) (by trivial)) (by trivial) (by trivial) (by trivial) (by trivial)) (by trivial))))).pt (@qe _ _ _ (@qk _ _ _ _ (@qD _ _ _ _ _ _ _ _ (@qX _) (pv 5) (pv 6)))) (@qr _)) (@qb _ _ _ _ _ (@qI _ _ _ _ _ _ _ _ (@xL _ _ _ _ _ _ _ (@qp _ _ _ _ _ _ _ _ (@QL _) (pv 4) (@qh _ _ _ _) (qz _)) (@Jy _ _ _ _ (@qp _ _ _ _ _ _ _ _ (@XY _) (@qj _ _ _ _ _ _ _ _ _ (@yh _) (by rfl) T.ye PySem.boot_len (@qa _ _ _ _ _ (pv 6) (@qc _) (by trivial)) (by trivial) (by trivial) (by trivial) (by trivial)) (@qi _ _ _ _) (qz _)))).pt (@qe _ _ _ (@qk _ _ _ _ (@qL _ _ _ _ _ _ _ (@jA _) (pv 6) (@qi _ _ _ _) (fun _ _=>rfl)))) (@qr _)) (@qb _ _ _ _ _ (@qI _ _ _ _ _ _ _ _ (@xL _ _ _ _ _ _ _ (@qp _ _ _ _ _ _ _ _ (@QL _) (pv 4) (@qh _ _ _ _) (qz _)) (@Jy _ _ _ _ (@qp _ _ _ _ _ _ _ _ (@XY _) (@qj _ _ _ _ _ _ _ _ _ (@yh _) (by rfl) T.ye PySem.boot_len (@qa _ _ _ _ _ (pv 6) (@qc _) (by trivial)) (by trivial) (by trivial) (by trivial) (by trivial)) (@qi _ _ _ _) (qz _)))).pt (@qe _ _ _ (@qk _ _ _ _ (@zf _ _ _ _ _ _ _ _ _ _ (@sl_any _) (pv 6) (@Wk _ _ _ (@qi _ _ _ _)) (@wX _)))) (@qr _)) (@qb _ _ _ _ _ (@qI _ _ _ _ _ _ _ _ (@qp _ _ _ _ _ _ _ _ (@QL _) (pv 4) (@qh _ _ _ _) (qz _)) (@qe _ _ _ (@qk _ _ _ _ (@qH _ _ _ _ _ _ _ _ _ (@QA _) (by rfl) T.yI boot_str (@qa _ _ _ _ _ (@qj _ _ _ _ _ _ _ _ _ (@yh _) (by rfl) T.ye PySem.boot_len (@qa _ _ _ _ _ (pv 6) (@qc _) (by trivial)) (by trivial) (by trivial) (by trivial) (by trivial)) (@qc _) (by trivial)) (by trivial) (by trivial) (by trivial) (by trivial)))) (@qr _)) (@qb _ _ _ _ _ (@qI _ _ _ _ _ _ _ _ (@qp _ _ _ _ _ _ _ _ (@QX _) (pv 4) (@Qu _ _ _ _ (@qa _ _ _ _ _ (@qh _ _ _ _) (@qa _ _ _ _ _ (@qh _ _ _ _) (@qc _) (by trivial)) (by trivial))) (by with_unfolding_all rfl)) (@qe _ _ _ (@qk _ _ _ _ (@qA _ _ _ _ _ _ _ _ _ _ _ _ _ _ _ _ xU (hr.mono (by first|decide|omega)) (by rfl) T.xT T.je.kp T.xz .nil qQ (@qa _ _ _ _ _ (pv 4) (@qa _ _ _ _ _ (pv 6) (@qa _ _ _ _ _ (@qZ _ _ _ _ _ _ (yd hr) (pv 0) (@qL _ _ _ _ _ _ _ (@qS _) (pv 1) (@qi _ _ _ _) (fun _ _=>rfl)) (fun _ _=>rfl)) (@qc _) (by trivial)) (by trivial)) (by trivial)) (by trivial) (by trivial) (by trivial)))) (@qr _)) (@qe _ _ _ (@qk _ _ _ _ (@Qn _ _ _)))))))))))))),?_⟩
 simp only at hs k
 obtain⟨z0,qs,eps,hz0⟩:=mk_b0 hro hs
 simp only at eps
 obtain⟨ks,hk,hp⟩:=id hro
 have hw1:(wds (r1,ps))[1]? =some z0:=by
  by_cases hwn:Kd.words∈ks
  ·rcases wQ _ hk with e|e
   ·simp at e;exact absurd hwn e
   ·have e1:ks= [.box,.words]:=congrArg Prod.snd e
    have e2:r1="text":=congrArg Prod.fst e
    subst e1 e2
    obtain⟨x,y,rfl,hx,_⟩:=sh_bw hp
    cases eps
    obtain⟨tl,e3,_⟩:=ze (y:=y) hx
    rw [e3]
    rfl
  ·rw [yO hn hk hp hwn,eps]
   rfl
 have hne:wds (r1,ps)≠ []:=fun e=>by rw [e] at hw1;cases hw1
 obtain⟨v1,g1,i1⟩:=hB.get hz0
 obtain⟨zl,hlast⟩:=last_wd hne
 obtain⟨oL,gL⟩:=hB.any zl
 refine⟨_,rfl,?_⟩
 dsimp only [tC]
 refine yg (i:=0) hw (wds0 hn hro) ?_
 refine⟨_,rfl,_,rfl,?_⟩
 dsimp only [tC]
 refine yg (i:=1) hw hw1 ⟨d,v1,rfl,g1,?_⟩
 refine⟨_,rfl,d,rfl,hB.isD,_,rfl,1,rfl,p,_,_,_,rfl,rfl,SqL.of hw,hlast,oL,gL,?_⟩
 refine⟨_,rfl,_,((wds (r1,ps)).map V.str).length,rfl,.inl ⟨_,SqL.of hw,rfl⟩,_,_,rfl,rfl,_,rfl,?_⟩
 have hsec:r1∈SEC→(wds (r1,ps))[2]? =some (b1 ps)∧b1 ps∈BX∧2<(wds (r1,ps)).length:=by
  intro hq
  rcases frm_sec _ hk hq with e|e
  ·simp only at e
   subst e
   obtain⟨x,y,rfl,hx,hy⟩:=jn hp
   rw [yO hn hk hp (by decide)]
   exact⟨rfl,hy,by show 2<3;decide⟩
  ·simp only at e
   subst e
   obtain⟨x,y,z,rfl,hx,hy,hz⟩:=sh_bbb hp
   rw [yO hn hk hp (by decide)]
   exact⟨rfl,hy,by show 2<4;decide⟩
 simp only [MKR,List.mem_cons,List.not_mem_nil,or_false] at hs
 rcases hs with rfl|rfl|rfl|rfl|rfl|rfl|rfl|rfl|rfl|rfl|rfl
 ·obtain⟨x,y,rfl,hx,hy,hsn⟩:=sh_bw (qF hro (by decide+kernel))
  obtain⟨tl,ew,htl⟩:=ze (y:=y) hx
  obtain⟨z2,hz2⟩:∃z2,(wds ("text",[.s x,.s y]))[2]? =some z2:=by
   rw [ew]
   cases tl with
   |nil=>exact absurd rfl htl
   |cons q _=>exact⟨q,rfl⟩
  obtain⟨o2,g2⟩:=hB.any z2
  have hl2:2<(wds ("text",[.s x,.s y])).length:=(List.getElem?_eq_some_iff.mp hz2).1
  refine qG (decide_eq_true (by rw [List.length_map];omega)) ⟨_,rfl,d,rfl,hB.isD,_,rfl,?_⟩
  dsimp only [tC]
  refine yg (i:=2) hw hz2 ⟨o2,g2,?_⟩
  generalize o2.getD _=tw
  refine⟨_,rfl,(by show 4≤sizeLine;decide),fun l4 hl4=>⟨l4,_,rfl,.inl (SqL.of qf),rfl,rfl,_,rfl,?_⟩⟩
  have s1:Same H (upd H l4 (.lst [.str "text",.str "self",.str "copy",.str "row"])):=qd hl4 _
  generalize upd H l4 (.lst [.str "text",.str "self",.str "copy",.str "row"])=H1 at s1⊢
  refine qG (by decide+kernel) ?_
  refine fun q hq=>⟨_,rfl,_,rfl,_,rfl,qU (by omega),_,rfl,_,rfl,(by show 0≤sizeLine;decide),fun l5 hl5=> ?_⟩
  have nq:q≠l5:=qm qf hl5
  refine⟨by rw [qu nq];exact qf,[((Sum.inr "text":Key),_),(Sum.inr "self",V.str own),(Sum.inr "copy",tw),(Sum.inr "row",.ref l5)],rfl,(by show 4≤15;decide),_,rfl,q,.str (Txt.slice (qC ("text",[.s x,.s y])) (some 7) none),rfl,?_,?_⟩
  ·exact DGet.k (a:=q) (k:=(Sum.inr "text":Key)) qf
  ·have sm:∀kvs,Same H (upd (upd (upd H1 q (.dK [])) l5 (.tup [])) q (.dK kvs)):=fun kvs b o h=>by
    have nb:=qm (s1 b o h) hq
    rw [qu nb]
    exact qd hl5 _ _ _ (qd hq _ _ _ (s1 b o h))
   refine k _ _ (sm _) ?_
   show Is _ (.str y) _
   rw [text_tail (we hx).1]
   exact⟨rfl,qU (by omega)⟩
 ·obtain⟨x,rfl,hx⟩:=sh_b (qF hro (by decide+kernel))
  have hl2:(wds ("self",[.s x])).length=2:=by rw [yO hn (ks:= [.box]) (show(("self":Str),[Kd.box])∈FRM by decide+kernel) (qF hro (by decide+kernel)) (by decide)];rfl
  refine qo (decide_eq_false (by rw [List.length_map];omega)) ?_
  generalize oL.getD _=tw
  refine⟨_,rfl,(by show 4≤sizeLine;decide),fun l4 hl4=>⟨l4,_,rfl,.inl (SqL.of qf),rfl,rfl,_,rfl,?_⟩⟩
  have s1:Same H (upd H l4 (.lst [.str "text",.str "self",.str "copy",.str "row"])):=qd hl4 _
  generalize upd H l4 (.lst [.str "text",.str "self",.str "copy",.str "row"])=H1 at s1⊢
  refine qG (by decide+kernel) ?_
  refine fun q hq=>⟨_,rfl,_,rfl,_,rfl,qU (by omega),_,rfl,_,rfl,(by show 0≤sizeLine;decide),fun l5 hl5=> ?_⟩
  have nq:q≠l5:=qm qf hl5
  refine⟨by rw [qu nq];exact qf,[((Sum.inr "text":Key),_),(Sum.inr "self",V.str own),(Sum.inr "copy",tw),(Sum.inr "row",.ref l5)],rfl,(by show 4≤15;decide),_,rfl,q,.str own,rfl,?_,?_⟩
  ·exact DGet.k (a:=q) (k:=(Sum.inr "self":Key)) qf
  ·have sm:∀kvs,Same H (upd (upd (upd H1 q (.dK [])) l5 (.tup [])) q (.dK kvs)):=fun kvs b o h=>by
    have nb:=qm (s1 b o h) hq
    rw [qu nb]
    exact qd hl5 _ _ _ (qd hq _ _ _ (s1 b o h))
   refine k _ _ (sm _) ?_
   exact⟨rfl,qU (by show own.length≤1000;omega)⟩
 ·obtain⟨hz2,hb1,hl2⟩:=hsec (by decide+kernel)
  obtain⟨tw,g2,i2⟩:=hB.get hb1
  refine qG (decide_eq_true (by rw [List.length_map];omega)) ⟨_,rfl,d,rfl,hB.isD,_,rfl,?_⟩
  dsimp only [tC]
  refine yg (i:=2) hw hz2 ⟨some tw,g2,?_⟩
  refine⟨_,rfl,(by show 4≤sizeLine;decide),fun l4 hl4=>⟨l4,_,rfl,.inl (SqL.of qf),rfl,rfl,_,rfl,?_⟩⟩
  have s1:Same H (upd H l4 (.lst [.str "text",.str "self",.str "copy",.str "row"])):=qd hl4 _
  generalize upd H l4 (.lst [.str "text",.str "self",.str "copy",.str "row"])=H1 at s1⊢
  refine qG (by decide+kernel) ?_
  refine fun q hq=>⟨_,rfl,_,rfl,_,rfl,qU (by omega),_,rfl,_,rfl,(by show 0≤sizeLine;decide),fun l5 hl5=> ?_⟩
  have nq:q≠l5:=qm qf hl5
  refine⟨by rw [qu nq];exact qf,[((Sum.inr "text":Key),_),(Sum.inr "self",V.str own),(Sum.inr "copy",tw),(Sum.inr "row",.ref l5)],rfl,(by show 4≤15;decide),_,rfl,q,tw,rfl,?_,?_⟩
  ·exact DGet.k (a:=q) (k:=(Sum.inr "copy":Key)) qf
  ·have sm:∀kvs,Same H (upd (upd (upd H1 q (.dK [])) l5 (.tup [])) q (.dK kvs)):=fun kvs b o h=>by
    have nb:=qm (s1 b o h) hq
    rw [qu nb]
    exact qd hl5 _ _ _ (qd hq _ _ _ (s1 b o h))
   refine k _ _ (sm _) ?_
   exact i2.mono (sm _).tk
 ·obtain⟨x,rfl,hx⟩:=sh_b (qF hro (by decide+kernel))
  have hl2:(wds ("row",[.s x])).length=2:=by rw [yO hn (ks:= [.box]) (show(("row":Str),[Kd.box])∈FRM by decide+kernel) (qF hro (by decide+kernel)) (by decide)];rfl
  refine qo (decide_eq_false (by rw [List.length_map];omega)) ?_
  generalize oL.getD _=tw
  refine⟨_,rfl,(by show 4≤sizeLine;decide),fun l4 hl4=>⟨l4,_,rfl,.inl (SqL.of qf),rfl,rfl,_,rfl,?_⟩⟩
  have s1:Same H (upd H l4 (.lst [.str "text",.str "self",.str "copy",.str "row"])):=qd hl4 _
  generalize upd H l4 (.lst [.str "text",.str "self",.str "copy",.str "row"])=H1 at s1⊢
  refine qG (by decide+kernel) ?_
  refine fun q hq=>⟨_,rfl,_,rfl,_,rfl,qU (by omega),_,rfl,_,rfl,(by show 0≤sizeLine;decide),fun l5 hl5=> ?_⟩
  have nq:q≠l5:=qm qf hl5
  refine⟨by rw [qu nq];exact qf,[((Sum.inr "text":Key),_),(Sum.inr "self",V.str own),(Sum.inr "copy",tw),(Sum.inr "row",.ref l5)],rfl,(by show 4≤15;decide),_,rfl,q,.ref l5,rfl,?_,?_⟩
  ·exact DGet.k (a:=q) (k:=(Sum.inr "row":Key)) qf
  ·have sm:∀kvs,Same H (upd (upd (upd H1 q (.dK [])) l5 (.tup [])) q (.dK kvs)):=fun kvs b o h=>by
    have nb:=qm (s1 b o h) hq
    rw [qu nb]
    exact qd hl5 _ _ _ (qd hq _ _ _ (s1 b o h))
   refine k _ _ (sm _) ?_
   refine⟨l5,[],rfl,?_,rfl⟩
   rw [qu nq.symm]
   exact qf
 ·obtain⟨hz2,hb1,hl2⟩:=hsec (by decide+kernel)
  obtain⟨tw,g2,i2⟩:=hB.get hb1
  refine qG (decide_eq_true (by rw [List.length_map];omega)) ⟨_,rfl,d,rfl,hB.isD,_,rfl,?_⟩
  dsimp only [tC]
  refine yg (i:=2) hw hz2 ⟨some tw,g2,?_⟩
  refine⟨_,rfl,(by show 4≤sizeLine;decide),fun l4 hl4=>⟨l4,_,rfl,.inl (SqL.of qf),rfl,rfl,_,rfl,?_⟩⟩
  have s1:Same H (upd H l4 (.lst [.str "text",.str "self",.str "copy",.str "row"])):=qd hl4 _
  generalize upd H l4 (.lst [.str "text",.str "self",.str "copy",.str "row"])=H1 at s1⊢
  refine qo (by decide+kernel) ?_
  have j1:=i1.mono s1.tk
  have j2:=i2.mono s1.tk
  have B1:=hB.same s1
  obtain⟨x,y,rfl,hx,hy⟩:=jn (qF hro (by decide+kernel))
  cases eps
  refine⟨_,rfl,rfl,_,rfl,qG (show decide (V.str ("put":Str)=V.str "put")=true by decide+kernel) ?_⟩
  have lx:=QU (hT z0 hz0)
  have k':∀(v:V) (H':Hp),Same H H'→Is H' (putD (B z0) (B y)) v→Q v H':=k
  generalize B z0=dx at j1 k' lx⊢
  refine⟨_,rfl,v1,"tuple",tyD dx,xV dx,rfl,j1.ty,Y6 _,_,rfl,?_⟩
  have no:xV dx=false→Is H1 (putD dx (B y)) .non:=fun h=>by cases dx<;>first|rfl|simp [xV] at h
  cases ht:xV dx with
  |false=>
   refine iteF ?_
   refine⟨_,rfl,rfl,_,rfl,qo (show decide (V.str ("put":Str)=V.str "join")=false by decide+kernel) ?_⟩
   refine⟨_,rfl,rfl,_,rfl,qo (show decide (V.str ("put":Str)=V.str "first")=false by decide+kernel) ?_⟩
   refine⟨_,rfl,rfl,_,rfl,qo (show decide (V.str ("put":Str)=V.str "rest")=false by decide+kernel) ?_⟩
   refine⟨_,rfl,rfl,_,rfl,qo (show decide (V.str ("put":Str)=V.str "size")=false by decide+kernel) ?_⟩
   refine⟨_,rfl,(by show 2≤sizeLine;decide),fun l6 hl6=>⟨l6,_,rfl,.inl (SqL.of qf),rfl,rfl,_,rfl,qo (by decide+kernel) ?_⟩⟩
   exact k' _ _ (s1.trans (qd hl6 _)) ((no ht).mono (qd hl6 _).tk)
  |true=>
   refine iteT ?_
   cases dx with
   |tup xs=>
    obtain⟨r,rs,rfl,er,ir⟩:=j1
    refine⟨_,rfl,_,rfl,(by show 1≤sizeLine;decide),fun l hl=>⟨r,l,rs,[tw],rfl,rfl,SqT.of (qd hl _ _ _ er),SqT.of qf,?_,fun e=> ?_,fun _ e=>(by cases e),fun _ _ p hp=> ?_⟩⟩
    ·rw [ir.length]
     have:xs.length≤600:=lx
     exact qU (by show xs.length+1≤1000;omega)
    ·subst e
     have e2:xs= []:=List.eq_nil_of_length_eq_zero ir.length.symm
     subst e2
     exact k' _ _ (s1.trans (qd hl _)) (Is.new (ds:= [B y]) (IsL.one j2) hl)
    ·have t1:Tk H1 (upd H1 l (.tup [tw])):=(qd hl _).tk
     exact k' _ _ (s1.trans ((qd hl _).trans (qd hp _))) (Is.new (ds:=xs++ [B y]) ((ir.mono t1).append (IsL.one (j2.mono t1))) hp)
   |_=>simp [xV] at ht
 ·obtain⟨hz2,hb1,hl2⟩:=hsec (by decide+kernel)
  obtain⟨tw,g2,i2⟩:=hB.get hb1
  refine qG (decide_eq_true (by rw [List.length_map];omega)) ⟨_,rfl,d,rfl,hB.isD,_,rfl,?_⟩
  dsimp only [tC]
  refine yg (i:=2) hw hz2 ⟨some tw,g2,?_⟩
  refine⟨_,rfl,(by show 4≤sizeLine;decide),fun l4 hl4=>⟨l4,_,rfl,.inl (SqL.of qf),rfl,rfl,_,rfl,?_⟩⟩
  have s1:Same H (upd H l4 (.lst [.str "text",.str "self",.str "copy",.str "row"])):=qd hl4 _
  generalize upd H l4 (.lst [.str "text",.str "self",.str "copy",.str "row"])=H1 at s1⊢
  refine qo (by decide+kernel) ?_
  have j1:=i1.mono s1.tk
  have j2:=i2.mono s1.tk
  have B1:=hB.same s1
  obtain⟨x,y,rfl,hx,hy⟩:=jn (qF hro (by decide+kernel))
  cases eps
  refine⟨_,rfl,rfl,_,rfl,qo (show decide (V.str ("join":Str)=V.str "put")=false by decide+kernel) ?_⟩
  refine⟨_,rfl,rfl,_,rfl,qG (show decide (V.str ("join":Str)=V.str "join")=true by decide+kernel) ?_⟩
  have lx:=QU (hT z0 hz0)
  have ly:=QU (hT y hy)
  have k':∀(v:V) (H':Hp),Same H H'→Is H' (joinD (B z0) (B y)) v→Q v H':=k
  have j2':Is H1 (B y) tw:=j2
  generalize B z0=dx at j1 k' lx⊢
  generalize B y=dy at j2' k' ly⊢
  refine⟨_,rfl,v1,"str",tyD dx,Qd dx,rfl,j1.ty,QB _,_,rfl,?_⟩
  have no:Qd dx=false→Is H1 (joinD dx dy) .non:=fun h=>by cases dx<;>first|(cases dy<;>rfl)|simp [Qd] at h
  have no2:Qd dy=false→Is H1 (joinD dx dy) .non:=fun h=>by cases dy<;>first|(cases dx<;>rfl)|simp [Qd] at h
  cases ht:Qd dx with
  |false=>
   refine iteF ?_
   refine⟨_,rfl,rfl,_,rfl,qo (show decide (V.str ("join":Str)=V.str "first")=false by decide+kernel) ?_⟩
   refine⟨_,rfl,rfl,_,rfl,qo (show decide (V.str ("join":Str)=V.str "rest")=false by decide+kernel) ?_⟩
   refine⟨_,rfl,rfl,_,rfl,qo (show decide (V.str ("join":Str)=V.str "size")=false by decide+kernel) ?_⟩
   refine⟨_,rfl,(by show 2≤sizeLine;decide),fun l6 hl6=>⟨l6,_,rfl,.inl (SqL.of qf),rfl,rfl,_,rfl,qo (by decide+kernel) ?_⟩⟩
   exact k' _ _ (s1.trans (qd hl6 _)) ((no ht).mono (qd hl6 _).tk)
  |true=>
   refine iteT ⟨_,rfl,tw,"str",tyD dy,Qd dy,rfl,j2'.ty,QB _,_,rfl,?_⟩
   cases ht2:Qd dy with
   |false=>
    refine iteF ?_
    refine⟨_,rfl,rfl,_,rfl,qo (show decide (V.str ("join":Str)=V.str "first")=false by decide+kernel) ?_⟩
    refine⟨_,rfl,rfl,_,rfl,qo (show decide (V.str ("join":Str)=V.str "rest")=false by decide+kernel) ?_⟩
    refine⟨_,rfl,rfl,_,rfl,qo (show decide (V.str ("join":Str)=V.str "size")=false by decide+kernel) ?_⟩
    refine⟨_,rfl,(by show 2≤sizeLine;decide),fun l6 hl6=>⟨l6,_,rfl,.inl (SqL.of qf),rfl,rfl,_,rfl,qo (by decide+kernel) ?_⟩⟩
    exact k' _ _ (s1.trans (qd hl6 _)) ((no2 ht2).mono (qd hl6 _).tk)
   |true=>
    refine iteT ?_
    cases dx with
    |str z=>
     cases dy with
     |str z2=>
      obtain⟨rfl,_⟩:=j1
      obtain⟨rfl,_⟩:=j2'
      have h1:z.length≤600:=lx
      have h2:z2.length≤600:=ly
      exact⟨_,rfl,_,rfl,_,_,rfl,rfl,fits (by omega),k' _ H1 s1 ⟨rfl,by rw [show(z++z2).length=z.length+z2.length from app_len z z2];exact fits (by omega)⟩⟩
     |_=>simp [Qd] at ht2
    |_=>simp [Qd] at ht
 ·obtain⟨hz2,hb1,hl2⟩:=hsec (by decide+kernel)
  obtain⟨tw,g2,i2⟩:=hB.get hb1
  refine qG (decide_eq_true (by rw [List.length_map];omega)) ⟨_,rfl,d,rfl,hB.isD,_,rfl,?_⟩
  dsimp only [tC]
  refine yg (i:=2) hw hz2 ⟨some tw,g2,?_⟩
  refine⟨_,rfl,(by show 4≤sizeLine;decide),fun l4 hl4=>⟨l4,_,rfl,.inl (SqL.of qf),rfl,rfl,_,rfl,?_⟩⟩
  have s1:Same H (upd H l4 (.lst [.str "text",.str "self",.str "copy",.str "row"])):=qd hl4 _
  generalize upd H l4 (.lst [.str "text",.str "self",.str "copy",.str "row"])=H1 at s1⊢
  refine qo (by decide+kernel) ?_
  have j1:=i1.mono s1.tk
  have j2:=i2.mono s1.tk
  have B1:=hB.same s1
  obtain⟨x,y,rfl,hx,hy⟩:=jn (qF hro (by decide+kernel))
  cases eps
  refine⟨_,rfl,rfl,_,rfl,qo (show decide (V.str ("first":Str)=V.str "put")=false by decide+kernel) ?_⟩
  refine⟨_,rfl,rfl,_,rfl,qo (show decide (V.str ("first":Str)=V.str "join")=false by decide+kernel) ?_⟩
  refine⟨_,rfl,rfl,_,rfl,qG (show decide (V.str ("first":Str)=V.str "first")=true by decide+kernel) ?_⟩
  have ly:=QU (hT y hy)
  have hg:=hT y hy
  have k':∀(v:V) (H':Hp),Same H H'→Is H' (wu (B y)) v→Q v H':=k
  have j2':Is H1 (B y) tw:=j2
  generalize B y=dy at j2' k' ly hg⊢
  cases dy with
  |str z=>
   obtain⟨rfl,hz⟩:=j2'
   refine⟨_,rfl,.inl ⟨z,rfl,hz,_,_,rfl,rfl,_,rfl,?_⟩⟩
   refine ite2 (fun c=> ?_) (fun c=> ?_)
   ·have h0:1≤z.length:=by have:=of_decide_eq_true c;omega
    have k2:Is H1 (wu (.str z)) (.str ⟨#[z.cps.getD 0 0]⟩):=by
     show Is H1 (if z.length=0 then D.non else _) _
     rw [if_neg (by omega)]
     exact⟨rfl,qU (by show 1≤1000;decide)⟩
    exact⟨_,rfl,.inr (.inr ⟨z,0,_,rfl,rfl,hz,zi h0,k' _ H1 s1 k2⟩)⟩
   ·have h0:z.length=0:=by
     rcases Nat.eq_zero_or_pos z.length with e|e
     ·exact e
     ·exact absurd (decide_eq_true (by omega)) c
    refine⟨_,rfl,rfl,_,rfl,qo (show decide (V.str ("first":Str)=V.str "rest")=false by decide+kernel) ?_⟩
    refine⟨_,rfl,rfl,_,rfl,qo (show decide (V.str ("first":Str)=V.str "size")=false by decide+kernel) ?_⟩
    refine⟨_,rfl,(by show 2≤sizeLine;decide),fun l6 hl6=>⟨l6,_,rfl,.inl (SqL.of qf),rfl,rfl,_,rfl,qo (by decide+kernel) ?_⟩⟩
    exact k' _ _ (s1.trans (qd hl6 _)) (by show Is _ (if z.length=0 then D.non else _) _;rw [if_pos h0];rfl)
  |tup xs=>
   have iv':=j2'
   obtain⟨r,rs,rfl,er,ir⟩:=iv'
   refine⟨_,rfl,.inr ⟨r,rs,rfl,.inr (SqT.of er),fun _=>⟨_,_,rfl,rfl,_,rfl,?_⟩⟩⟩
   have hl:=ir.length
   cases xs with
   |nil=>
    refine qo (decide_eq_false (by rw [hl];decide)) ?_
    refine⟨_,rfl,rfl,_,rfl,qo (show decide (V.str ("first":Str)=V.str "rest")=false by decide+kernel) ?_⟩
    refine⟨_,rfl,rfl,_,rfl,qo (show decide (V.str ("first":Str)=V.str "size")=false by decide+kernel) ?_⟩
    refine⟨_,rfl,(by show 2≤sizeLine;decide),fun l6 hl6=>⟨l6,_,rfl,.inl (SqL.of qf),rfl,rfl,_,rfl,qo (by decide+kernel) ?_⟩⟩
    exact k' _ _ (s1.trans (qd hl6 _)) rfl
   |cons e es=>
    refine qG (decide_eq_true (by rw [hl,List.length_cons];omega)) ?_
    exact⟨_,rfl,.inr (.inl (jT (i:=0) (d:=e) j2' (QI (j:=0) rfl) fun q hq=>k' _ H1 s1 hq))⟩
  |_=>simp [isT,good] at hg
 ·obtain⟨hz2,hb1,hl2⟩:=hsec (by decide+kernel)
  obtain⟨tw,g2,i2⟩:=hB.get hb1
  refine qG (decide_eq_true (by rw [List.length_map];omega)) ⟨_,rfl,d,rfl,hB.isD,_,rfl,?_⟩
  dsimp only [tC]
  refine yg (i:=2) hw hz2 ⟨some tw,g2,?_⟩
  refine⟨_,rfl,(by show 4≤sizeLine;decide),fun l4 hl4=>⟨l4,_,rfl,.inl (SqL.of qf),rfl,rfl,_,rfl,?_⟩⟩
  have s1:Same H (upd H l4 (.lst [.str "text",.str "self",.str "copy",.str "row"])):=qd hl4 _
  generalize upd H l4 (.lst [.str "text",.str "self",.str "copy",.str "row"])=H1 at s1⊢
  refine qo (by decide+kernel) ?_
  have j1:=i1.mono s1.tk
  have j2:=i2.mono s1.tk
  have B1:=hB.same s1
  obtain⟨x,y,rfl,hx,hy⟩:=jn (qF hro (by decide+kernel))
  cases eps
  refine⟨_,rfl,rfl,_,rfl,qo (show decide (V.str ("rest":Str)=V.str "put")=false by decide+kernel) ?_⟩
  refine⟨_,rfl,rfl,_,rfl,qo (show decide (V.str ("rest":Str)=V.str "join")=false by decide+kernel) ?_⟩
  refine⟨_,rfl,rfl,_,rfl,qo (show decide (V.str ("rest":Str)=V.str "first")=false by decide+kernel) ?_⟩
  refine⟨_,rfl,rfl,_,rfl,qG (show decide (V.str ("rest":Str)=V.str "rest")=true by decide+kernel) ?_⟩
  have ly:=QU (hT y hy)
  have hg:=hT y hy
  have k':∀(v:V) (H':Hp),Same H H'→Is H' (restD (B y)) v→Q v H':=k
  have j2':Is H1 (B y) tw:=j2
  generalize B y=dy at j2' k' ly hg⊢
  cases dy with
  |str z=>
   obtain⟨rfl,hz⟩:=j2'
   refine⟨_,rfl,.inl ⟨z,rfl,hz,_,_,rfl,rfl,_,rfl,?_⟩⟩
   refine ite2 (fun c=> ?_) (fun c=> ?_)
   ·have h0:1≤z.length:=by have:=of_decide_eq_true c;omega
    have k2:Is H1 (restD (.str z)) (.str (Txt.slice z (some 1) none)):=by
     show Is H1 (if z.length=0 then D.non else _) _
     rw [if_neg (by omega)]
     exact⟨rfl,Nat.le_trans (Txt.slice_le z _ _) hz⟩
    exact⟨_,rfl,_,rfl,.inl ⟨z,rfl,hz,k' _ H1 s1 k2⟩⟩
   ·have h0:z.length=0:=by
     rcases Nat.eq_zero_or_pos z.length with e|e
     ·exact e
     ·exact absurd (decide_eq_true (by omega)) c
    refine⟨_,rfl,rfl,_,rfl,qo (show decide (V.str ("rest":Str)=V.str "size")=false by decide+kernel) ?_⟩
    refine⟨_,rfl,(by show 2≤sizeLine;decide),fun l6 hl6=>⟨l6,_,rfl,.inl (SqL.of qf),rfl,rfl,_,rfl,qo (by decide+kernel) ?_⟩⟩
    exact k' _ _ (s1.trans (qd hl6 _)) (by show Is _ (if z.length=0 then D.non else _) _;rw [if_pos h0];rfl)
  |tup xs=>
   have iv':=j2'
   obtain⟨r,rs,rfl,er,ir⟩:=iv'
   refine⟨_,rfl,.inr ⟨r,rs,rfl,.inr (SqT.of er),fun _=>⟨_,_,rfl,rfl,_,rfl,?_⟩⟩⟩
   have hl:=ir.length
   cases xs with
   |nil=>
    refine qo (decide_eq_false (by rw [hl];decide)) ?_
    refine⟨_,rfl,rfl,_,rfl,qo (show decide (V.str ("rest":Str)=V.str "size")=false by decide+kernel) ?_⟩
    refine⟨_,rfl,(by show 2≤sizeLine;decide),fun l6 hl6=>⟨l6,_,rfl,.inl (SqL.of qf),rfl,rfl,_,rfl,qo (by decide+kernel) ?_⟩⟩
    exact k' _ _ (s1.trans (qd hl6 _)) rfl
   |cons e es=>
    refine qG (decide_eq_true (by rw [hl,List.length_cons];omega)) ?_
    obtain⟨v0,r0,rfl,i0,i1'⟩:=ir
    refine⟨_,rfl,_,rfl,.inr ⟨r,v0::r0,rfl,SqT.of er,fun h=> ?_,fun _ p hp=> ?_⟩⟩
    ·exfalso
     have:=h.1
     simp [HT.sIx] at this
    ·have e1:cutV (v0::r0) (some 1) none=r0:=by
      rw [show(some (1:Int))=some (((1:Nat)):Int) from rfl,zK (by simp)]
      rfl
     rw [e1]
     exact k' _ _ (s1.trans (qd hp _)) (Is.new i1' hp)
  |_=>simp [isT,good] at hg
 ·obtain⟨hz2,hb1,hl2⟩:=hsec (by decide+kernel)
  obtain⟨tw,g2,i2⟩:=hB.get hb1
  refine qG (decide_eq_true (by rw [List.length_map];omega)) ⟨_,rfl,d,rfl,hB.isD,_,rfl,?_⟩
  dsimp only [tC]
  refine yg (i:=2) hw hz2 ⟨some tw,g2,?_⟩
  refine⟨_,rfl,(by show 4≤sizeLine;decide),fun l4 hl4=>⟨l4,_,rfl,.inl (SqL.of qf),rfl,rfl,_,rfl,?_⟩⟩
  have s1:Same H (upd H l4 (.lst [.str "text",.str "self",.str "copy",.str "row"])):=qd hl4 _
  generalize upd H l4 (.lst [.str "text",.str "self",.str "copy",.str "row"])=H1 at s1⊢
  refine qo (by decide+kernel) ?_
  have j1:=i1.mono s1.tk
  have j2:=i2.mono s1.tk
  have B1:=hB.same s1
  obtain⟨x,y,rfl,hx,hy⟩:=jn (qF hro (by decide+kernel))
  cases eps
  refine⟨_,rfl,rfl,_,rfl,qo (show decide (V.str ("size":Str)=V.str "put")=false by decide+kernel) ?_⟩
  refine⟨_,rfl,rfl,_,rfl,qo (show decide (V.str ("size":Str)=V.str "join")=false by decide+kernel) ?_⟩
  refine⟨_,rfl,rfl,_,rfl,qo (show decide (V.str ("size":Str)=V.str "first")=false by decide+kernel) ?_⟩
  refine⟨_,rfl,rfl,_,rfl,qo (show decide (V.str ("size":Str)=V.str "rest")=false by decide+kernel) ?_⟩
  refine⟨_,rfl,rfl,_,rfl,qG (show decide (V.str ("size":Str)=V.str "size")=true by decide+kernel) ?_⟩
  have ly:=QU (hT y hy)
  have hg:=hT y hy
  have k':∀(v:V) (H':Hp),Same H H'→Is H' (.str (toString ((lenD (B y):Nat):Int))) v→Q v H':=k
  have j2':Is H1 (B y) tw:=j2
  generalize B y=dy at j2' k' ly hg⊢
  have sm:∀n:Nat,n≤600→((n:Int)).natAbs.log2<1920∧((toString (n:Int):Str)).length≤sizeLine:=by
   intro n hn
   have h2:=Nat.log2_le_self ((n:Int)).natAbs
   exact⟨by omega,int_text_fits (by omega)⟩
  cases dy with
  |str z=>
   obtain⟨rfl,hz⟩:=j2'
   have h2:=sm z.length ly
   exact⟨_,rfl,.inl ⟨z,rfl,hz,_,rfl,h2.1,k' _ H1 s1 ⟨rfl,h2.2⟩⟩⟩
  |tup xs=>
   have iv':=j2'
   obtain⟨r,rs,rfl,er,ir⟩:=iv'
   have h2:=sm xs.length ly
   refine⟨_,rfl,.inr ⟨r,rs,rfl,.inr (SqT.of er),fun _=>⟨_,rfl,?_,?_⟩⟩⟩
   ·rw [ir.length];exact h2.1
   ·rw [ir.length];exact k' _ H1 s1 ⟨rfl,h2.2⟩
  |_=>simp [isT,good] at hg
 ·obtain⟨hz2,hb1,hl2⟩:=hsec (by decide+kernel)
  obtain⟨tw,g2,i2⟩:=hB.get hb1
  refine qG (decide_eq_true (by rw [List.length_map];omega)) ⟨_,rfl,d,rfl,hB.isD,_,rfl,?_⟩
  dsimp only [tC]
  refine yg (i:=2) hw hz2 ⟨some tw,g2,?_⟩
  refine⟨_,rfl,(by show 4≤sizeLine;decide),fun l4 hl4=>⟨l4,_,rfl,.inl (SqL.of qf),rfl,rfl,_,rfl,?_⟩⟩
  have s1:Same H (upd H l4 (.lst [.str "text",.str "self",.str "copy",.str "row"])):=qd hl4 _
  generalize upd H l4 (.lst [.str "text",.str "self",.str "copy",.str "row"])=H1 at s1⊢
  refine qo (by decide+kernel) ?_
  have j1:=i1.mono s1.tk
  have j2:=i2.mono s1.tk
  have B1:=hB.same s1
  refine⟨_,rfl,rfl,_,rfl,qo (show decide (V.str ("cut":Str)=V.str "put")=false by decide+kernel) ?_⟩
  refine⟨_,rfl,rfl,_,rfl,qo (show decide (V.str ("cut":Str)=V.str "join")=false by decide+kernel) ?_⟩
  refine⟨_,rfl,rfl,_,rfl,qo (show decide (V.str ("cut":Str)=V.str "first")=false by decide+kernel) ?_⟩
  refine⟨_,rfl,rfl,_,rfl,qo (show decide (V.str ("cut":Str)=V.str "rest")=false by decide+kernel) ?_⟩
  refine⟨_,rfl,rfl,_,rfl,qo (show decide (V.str ("cut":Str)=V.str "size")=false by decide+kernel) ?_⟩
  refine⟨_,rfl,(by show 2≤sizeLine;decide),fun l6 hl6=>⟨l6,_,rfl,.inl (SqL.of qf),rfl,rfl,_,rfl,qG (by decide+kernel) ?_⟩⟩
  obtain⟨x,y,z,rfl,hx,hy,hz⟩:=sh_bbb (qF hro (by decide+kernel))
  have s2:Same H (upd H1 l6 (.lst [.str "cut",.str "glue"])):=s1.trans (qd hl6 _)
  have B2:=hB.same s2
  obtain⟨v3,g3,i3⟩:=B2.get hz
  refine⟨_,rfl,_,rfl,_,rfl,_,rfl,?_⟩
  dsimp only [tC]
  have hw3:(wds ("cut",[.s x,.s y,.s z]))[3]? =some z:=by rw [yO hn (ks:= [.box,.box,.box]) (show(("cut":Str),[Kd.box,.box,.box])∈FRM by decide+kernel) (qF hro (by decide+kernel)) (by decide)];rfl
  refine yg (i:=3) (show WdAt _ p ("cut",[.s x,.s y,.s z]) from s2 _ _ hw) hw3 ⟨d,v3,rfl,g3,?_⟩
  exact⟨"cut",tw,v3,B y,B z,rfl,.inl rfl,i2.mono s2.tk,i3,hT y hy,hT z hz,fun v H' s3 hv=>k v H' (s2.trans s3) hv⟩
 ·obtain⟨hz2,hb1,hl2⟩:=hsec (by decide+kernel)
  obtain⟨tw,g2,i2⟩:=hB.get hb1
  refine qG (decide_eq_true (by rw [List.length_map];omega)) ⟨_,rfl,d,rfl,hB.isD,_,rfl,?_⟩
  dsimp only [tC]
  refine yg (i:=2) hw hz2 ⟨some tw,g2,?_⟩
  refine⟨_,rfl,(by show 4≤sizeLine;decide),fun l4 hl4=>⟨l4,_,rfl,.inl (SqL.of qf),rfl,rfl,_,rfl,?_⟩⟩
  have s1:Same H (upd H l4 (.lst [.str "text",.str "self",.str "copy",.str "row"])):=qd hl4 _
  generalize upd H l4 (.lst [.str "text",.str "self",.str "copy",.str "row"])=H1 at s1⊢
  refine qo (by decide+kernel) ?_
  have j1:=i1.mono s1.tk
  have j2:=i2.mono s1.tk
  have B1:=hB.same s1
  refine⟨_,rfl,rfl,_,rfl,qo (show decide (V.str ("glue":Str)=V.str "put")=false by decide+kernel) ?_⟩
  refine⟨_,rfl,rfl,_,rfl,qo (show decide (V.str ("glue":Str)=V.str "join")=false by decide+kernel) ?_⟩
  refine⟨_,rfl,rfl,_,rfl,qo (show decide (V.str ("glue":Str)=V.str "first")=false by decide+kernel) ?_⟩
  refine⟨_,rfl,rfl,_,rfl,qo (show decide (V.str ("glue":Str)=V.str "rest")=false by decide+kernel) ?_⟩
  refine⟨_,rfl,rfl,_,rfl,qo (show decide (V.str ("glue":Str)=V.str "size")=false by decide+kernel) ?_⟩
  refine⟨_,rfl,(by show 2≤sizeLine;decide),fun l6 hl6=>⟨l6,_,rfl,.inl (SqL.of qf),rfl,rfl,_,rfl,qG (by decide+kernel) ?_⟩⟩
  obtain⟨x,y,z,rfl,hx,hy,hz⟩:=sh_bbb (qF hro (by decide+kernel))
  have s2:Same H (upd H1 l6 (.lst [.str "cut",.str "glue"])):=s1.trans (qd hl6 _)
  have B2:=hB.same s2
  obtain⟨v3,g3,i3⟩:=B2.get hz
  refine⟨_,rfl,_,rfl,_,rfl,_,rfl,?_⟩
  dsimp only [tC]
  have hw3:(wds ("glue",[.s x,.s y,.s z]))[3]? =some z:=by rw [yO hn (ks:= [.box,.box,.box]) (show(("glue":Str),[Kd.box,.box,.box])∈FRM by decide+kernel) (qF hro (by decide+kernel)) (by decide)];rfl
  refine yg (i:=3) (show WdAt _ p ("glue",[.s x,.s y,.s z]) from s2 _ _ hw) hw3 ⟨d,v3,rfl,g3,?_⟩
  exact⟨"glue",tw,v3,B y,B z,rfl,.inr rfl,i2.mono s2.tk,i3,hT y hy,hT z hz,fun v H' s3 hv=>k v H' (s2.trans s3) hv⟩
end
end K13
namespace K13
open PySem L2 PyProof.Rows
theorem dpL_strs:∀l:List Str,dpL (l.map D.str)≤1
 | []=>by simp [dpL]
 |z::l=>by
  have:=dpL_strs l
  simp only [List.map_cons,dpL,dp]
  omega
theorem putD_dp {d e:D}(h1:dp d≤12)(h2:dp e≤12):dp (putD d e)≤20:=by
 cases d with
 |tup xs=>
  show dp (.tup (xs++ [e]))≤20
  simp only [dp] at h1⊢
  rw [wg]
  simp only [dpL]
  omega
 |_=>exact Nat.zero_le _
theorem joinD_dp (d e:D):dp (joinD d e)≤20:=by
 cases d with
 |str x=>
  cases e with
  |str y=>show 1≤20;decide
  |_=>exact Nat.zero_le _
 |_=>exact Nat.zero_le _
theorem firstD_dp {d:D}(h:dp d≤12):dp (wu d)≤20:=by
 cases d with
 |str z=>
  show dp (if z.length=0 then D.non else D.str _)≤20
  by_cases c:z.length=0
  ·rw [if_pos c];exact Nat.zero_le _
  ·rw [if_neg c];show 1≤20;decide
 |tup xs=>
  cases xs with
  |nil=>exact Nat.zero_le _
  |cons x r=>
   have:=dp_row (List.mem_cons_self (a:=x) (l:=r))
   show dp x≤20
   omega
 |_=>exact Nat.zero_le _
theorem restD_dp {d:D}(h:dp d≤12):dp (restD d)≤20:=by
 cases d with
 |str z=>
  show dp (if z.length=0 then D.non else D.str _)≤20
  by_cases c:z.length=0
  ·rw [if_pos c];exact Nat.zero_le _
  ·rw [if_neg c];show 1≤20;decide
 |tup xs=>
  cases xs with
  |nil=>exact Nat.zero_le _
  |cons x r=>
   show dp (.tup r)≤20
   simp only [dp,dpL] at h⊢
   omega
 |_=>exact Nat.zero_le _
theorem cutD_dp (d e:D):dp (cutD d e)≤20:=by
 cases d with
 |str x=>
  cases e with
  |str y=>
   show dp (if y.length=0 then D.non else D.tup ((spG x y).map D.str))≤20
   by_cases c:y.length=0
   ·rw [if_pos c];exact Nat.zero_le _
   ·rw [if_neg c]
    have:=dpL_strs (spG x y)
    simp only [dp]
    omega
  |_=>exact Nat.zero_le _
 |_=>exact Nat.zero_le _
theorem glueD_dp (d e:D):dp (glueD d e)≤20:=by
 cases d with
 |tup xs=>
  cases e with
  |str y=>
   show dp (if Yx xs=true then D.str _ else D.non)≤20
   by_cases c:Yx xs=true
   ·rw [if_pos c];show 1≤20;decide
   ·rw [if_neg c];exact Nat.zero_le _
  |_=>exact Nat.zero_le _
 |_=>exact Nat.zero_le _
theorem made_dp {n:Nat}{r1:Str}{ps:List Pt}{B:Str→D}{own:Str}(hT:Tr B)(hro:QP n 160 (r1,ps))(hs:r1∈MKR):dp (made r1 B own ps)≤20:=by
 have tb:∀z∈BX,dp (B z)≤12:=fun z hz=>xp (hT z hz)
 simp only [MKR,List.mem_cons,List.not_mem_nil,or_false] at hs
 rcases hs with rfl|rfl|rfl|rfl|rfl|rfl|rfl|rfl|rfl|rfl|rfl
 ·show 1≤20;decide
 ·show 1≤20;decide
 ·obtain⟨x,y,rfl,hx,hy⟩:=jn (qF hro (by decide+kernel))
  have:=tb y hy
  show dp (B y)≤20
  omega
 ·show 1≤20;decide
 ·obtain⟨x,y,rfl,hx,hy⟩:=jn (qF hro (by decide+kernel))
  exact putD_dp (tb x hx) (tb y hy)
 ·exact joinD_dp _ _
 ·obtain⟨x,y,rfl,hx,hy⟩:=jn (qF hro (by decide+kernel))
  exact firstD_dp (tb y hy)
 ·obtain⟨x,y,rfl,hx,hy⟩:=jn (qF hro (by decide+kernel))
  exact restD_dp (tb y hy)
 ·show 1≤20;decide
 ·exact cutD_dp _ _
 ·exact glueD_dp _ _
theorem askF_L (w:Str)(d:D):(∃z:Str,z.length≤100∧askL w d= .str z∧askF w d=flt z)∨(∃e,Qd (askL w d)=false∧askL w d=e∧askF w d= .tup [.str "asks",askL w d]):=by
 unfold askL askF
 by_cases c:w="names"
 ·rw [if_pos c,if_pos c]
  cases h:Qd d with
  |true=>exact .inr ⟨_,rfl,rfl,rfl⟩
  |false=>exact .inl ⟨_,by decide,rfl,rfl⟩
 ·rw [if_neg c,if_neg c]
  cases h:isNm d with
  |true=>exact .inr ⟨_,rfl,rfl,rfl⟩
  |false=>exact .inl ⟨_,by decide,rfl,rfl⟩
theorem wds1 {n:Nat}{r:Rw}{z0:Str}{qs:List Pt}(hn:n≤40)(hro:QP n 160 r)(hs:r.1∈MKR)(eps:r.2= .s z0::qs):(wds r)[1]? =some z0:=by
 obtain⟨ks,hk,hp⟩:=id hro
 obtain⟨r1,ps⟩:=r
 simp only at eps hs
 by_cases hwn:Kd.words∈ks
 ·rcases wQ _ hk with e|e
  ·simp at e;exact absurd hwn e
  ·have e1:ks= [.box,.words]:=congrArg Prod.snd e
   have e2:r1="text":=congrArg Prod.fst e
   subst e1 e2
   obtain⟨x,y,rfl,hx,_⟩:=sh_bw hp
   cases eps
   obtain⟨tl,e3,_⟩:=ze (y:=y) hx
   rw [e3]
   rfl
 ·rw [yO hn hk hp hwn]
  show(r1::ps.map Pt.t)[1]? =_
  rw [eps]
  rfl
theorem rule_get {rs:List Rw}{H:Hp}{v:V}{K:PySem.W.Frag}{at':Nat}{Q:VK}(hv:Is H (yM rs) v)(h:at'<rs.length)(q:Q (.str (qC (yK rs ((at':Int)+1)))) H):rIxT K v (.int (at':Int)) H Q:=by
 have e:=wn (rs:=rs) (p:=(at':Int)+1) (by omega) (by omega)
 have e2:((at':Int)+1).toNat-1=at':=by omega
 rw [e2] at e
 refine jT (d:= .str (qC (yK rs ((at':Int)+1)))) hv (QI (by rw [List.getElem?_map,e];rfl)) fun x hx=> ?_
 obtain⟨rfl,_⟩:=hx
 exact q
def wP:D→Bool
 | .non=>true
 |_=>false
def wZ:D→D
 | .tup [_,d]=>d
 |d=>d
def askStep (k:(Str→D)→Int→Nat→List D→List D→List D×D×Nat)(B:Str→D)(z:Str)(p:Int)(n:Nat)(gs:List D)(e:D):List D→List D×D×Nat
 | []=>(gs,e,n)
 |a::as=>if wP a=true then(gs++ [.tup [wZ e,a]],flt "lack",n+1) else k (setB B z a) (p+1) (n+1) as (gs++ [.tup [wZ e,a]])
def goF (rs:List Rw)(own:Str):Nat→(Str→D)→Int→Nat→List D→List D→List D×D×Nat
 |0,_,p,n,_,gs=>(gs,if p>rs.length then flt "silent" else flt "long",n)
 |f+1,B,p,n,as,gs=>if p>rs.length then(gs,flt "silent",n) else match rowO own (yK rs p) B p with
  | .go B' p'=>goF rs own f B' p' (n+1) as gs
  | .stop e=>if Qe e=true then askStep (goF rs own f) B (b0 (yK rs p).2) p n gs e as else(gs,e,n+1)
def AnsOk (d:D):Prop:=d= .non∨isT d=true
def sp_lgo:Sp:=fun vs H Q _=>∃(v:V) (own:Str) (la:Addr) (rs:List Rw) (as:List D) (av:List V),vs= [v,.str own,.ref la]∧H la=some (.lst av)∧L2.IsL H as av∧(∀d∈as,AnsOk d)∧as.length≤1000∧Is H (yM rs) v∧Yu rs∧own.length≤100∧
 ∀(u:V) (H':Hp),Same H H'→Is H' (.tup [.tup (goF rs own 300 B0 1 0 as []).1,(goF rs own 300 B0 1 0 as []).2.1,.int ((goF rs own 300 B0 1 0 as []).2.2:Int)]) u→Q u H'
theorem wds1a {n:Nat}{r:Rw}(hn:n≤40)(hro:QP n 160 r)(hs:r.1∈ASK):∃z0 z1,r.2= [.s z0,.s z1]∧z0∈BX∧(wds r)[1]? =some z0:=by
 obtain⟨ks,hk,hp⟩:=id hro
 obtain⟨_,_,ek⟩:=Xa _ hk hs
 simp only at ek
 subst ek
 obtain⟨x,y,e,hx,hy⟩:=jn hp
 refine⟨x,y,e,hx,?_⟩
 rw [yO hn hk hp (by decide)]
 show(r.1::r.2.map Pt.t)[1]? =_
 rw [e]
 rfl
theorem We {H:Hp}{d:D}{u:V}(i6:Is H d u)(cn:d≠ .non):u≠ .non:=by
 rintro rfl
 cases d with
 |non=>exact cn rfl
 |bl b=>cases(show V.non= .bl b from i6)
 |int i=>cases(show V.non= .int i from i6)
 |str z=>obtain⟨h,_⟩:=i6;cases h
 |lst=>obtain⟨_,_,h,_⟩:=i6;cases h
 |dct=>obtain⟨_,_,h,_⟩:=i6;cases h
 |tup xs=>obtain⟨_,_,h,_⟩:=i6;cases h
theorem lc_abc {A:Addr}{H1:Hp}{te:TE}{tl:L2.St}{Q:VK}(hA:H1 A=none)
  (hte:∀(z:Str) H (R:VK),z.length≤sizeLine→Same H1 H→(∀y H',Same H H'→Is H' (emp z) y→R y H')→te (some (.str z)::tl) H R)
  (hQ:∀H' ys,Same H1 H'→H' A=some (.lst ys)→L2.IsL H' (BX.map emp) ys→Q (.ref A) H'):lcGo A (Its "abcdefgh") (J5 0) tYes te (none::tl) H1 Q:=by
 have eb:BX=("abcdefgh":Str).cps.toList.map fun c=>(⟨#[c]⟩:Str):=by decide+kernel
 have e8:("abcdefgh":Str).cps.size=BX.length:=by decide+kernel
 refine lc_data (ds:=BX.map D.str) (fun d=>match d with| .str z=>emp z|d=>d) (qU (by decide)) hA (fun i H sm hi=>by show i<("abcdefgh":Str).cps.size;rw [e8];simpa using hi) (fun i H x H' d sm hd y=> ?_) (fun H sm=>by show(BX.map D.str).length=("abcdefgh":Str).cps.size;rw [e8,List.length_map]) (fun d x H R hd sm hx r=> ?_) (fun H' ys sm e h=>hQ H' ys sm e ?_)
 ·obtain⟨rfl,c,hc,rfl⟩:=y
  refine⟨rfl,?_⟩
  rw [eb,List.map_map,List.getElem?_map] at hd
  have hc':("abcdefgh":Str).cps.toList[i]? =some c:=by simpa using hc
  rw [hc'] at hd
  cases hd
  exact⟨rfl,qU (by show 1≤1000;decide)⟩
 ·obtain⟨z,_,rfl⟩:=List.mem_map.mp hd
  obtain⟨rfl,hz⟩:=hx
  exact hte z H R hz sm r
 ·rw [List.map_map] at h
  exact h
section
variable {P:Program}{w:World}{K:PySem.W.Frag}{mg:Str→Option Value}{base:Heap}{a:Ad}{g:Ga}
theorem ok_lgo (T:Tx K mg a):FnOk P w K mg base CX0 24 a.zk a.X8 ["rule","own","answers"] sp_lgo:=by
 have G_law_said:FnOk P w K mg base CX0 1 a.JI a.JL ["boxes","words"] sp_said:=ok_said T
 have G_law_next:FnOk P w K mg base CX0 1 a.JP a.JH ["boxes","words","at"] sp_next:=ok_next T
 have G_law_ask:FnOk P w K mg base CX0 2 a.xq a.xo ["boxes","words"] sp_lask:=ok_lask T
 have G_law_held:FnOk P w K mg base CX0 2 a.JF a.JK ["boxes","words","line","own"] sp_held:=ok_held T
 have wK:FnOk P w K mg base CX0 23 a.Yy a.YD ["value"] sp_lt:=ok_lt T
 refine T.F_law_go.ok Qc (fun vs H Q E h=> ?_) (fun cdv A outer s H vs Q E hr h=> ?_)
 ·obtain⟨v,own,la,rs,as,av,rfl,_⟩:=h
  rfl
 obtain⟨v,own,la,rs,as,av,rfl,hla,iav,haok,hal,hv,hR,hol,k⟩:=h
 refine⟨_,(@qb _ _ _ _ _ (@qB _ _ (3) _ _ _ _ Qc.nd rfl (Or.inl rfl) (@qH _ _ _ _ _ _ _ _ _ (@Z2 _ rfl) (by rfl) T.z_dict boot_dict (@qa _ _ _ _ _ (@Xi _ _ (["box"]) (1) ([]) _ _ _ _ _ _ _ _ _ (lcs0) rfl (@pi_str _ _ _ _ (@qh _ _ _ _)) (fun _ _ _ _ _ _=>(@Qm _ _ (0) _ (show List.Nodup (["box"]:List Str) by decide+kernel) rfl (Or.inl rfl) (by trivial))) (fun _ _ _ _ _ _=> @yC _) (fun _ _ _ _ _ _=>(@qP _ _ _ _ _ (@qa _ _ _ _ _ (pv 0) (@qa _ _ _ _ _ (@qh _ _ _ _) (@qc _) (by trivial)) (by trivial)))) (by trivial)) (@qc _) (by trivial)) (by trivial) (by trivial) (by trivial) (by trivial)) (by trivial) (by trivial)) (@qb _ _ _ _ _ (@qB _ _ (4) _ _ _ _ Qc.nd rfl (Or.inl rfl) (@Qu _ _ _ _ (@qc _)) (by trivial) (by trivial)) (@qb _ _ _ _ _ (@qB _ _ (5) _ _ _ _ Qc.nd rfl (Or.inl rfl) (@qi _ _ _ _) (by trivial) (by trivial)) (@qb _ _ _ _ _ (@wm _ _ _ _ _ _ _ _ PassesOwn.never rfl (@xt _ _ _ _ _ _ (by rfl) T.zV (@qa _ _ _ _ _ (@qi _ _ _ _) (@qc _) (by trivial)) (by trivial)) (@Qm _ _ (6) _ Qc.nd rfl (Or.inl rfl) (by trivial)) (@qb _ _ _ _ _ (@qI _ _ _ _ _ _ _ _ (@qp _ _ _ _ _ _ _ _ (@op_ge _) (pv 5) (@qj _ _ _ _ _ _ _ _ _ (@qM _) (by rfl) T.ye PySem.boot_len (@qa _ _ _ _ _ (pv 0) (@qc _) (by trivial)) (by trivial) (by trivial) (by trivial) (by trivial)) (qz _)) (@qe _ _ _ (@qk _ _ _ _ (@qP _ _ _ _ _ (@qa _ _ _ _ _ (@qH _ _ _ _ _ _ _ _ _ (@qO _) (by rfl) T.Qi boot_tuple (@qa _ _ _ _ _ (pv 4) (@qc _) (by trivial)) (by trivial) (by trivial) (by trivial) (by trivial)) (@qa _ _ _ _ _ (@qP _ _ _ _ _ (@qa _ _ _ _ _ (@qh _ _ _ _) (@qa _ _ _ _ _ (@qh _ _ _ _) (@qc _) (by trivial)) (by trivial))) (@qa _ _ _ _ _ (pv 6) (@qc _) (by trivial)) (by trivial)) (by trivial))))) (@qr _)) (@qb _ _ _ _ _ (@qB _ _ (7) _ _ _ _ Qc.nd rfl (Or.inl rfl) (@Xx _ _ _ _ _ _ _ _ _ _ _ _ PySem.F.plainAttrs_str PySem.F.slot_str_split PySem.F.type_str_split (@mt_split _) (@qL _ _ _ _ _ _ _ (@Qk _) (pv 0) (pv 5) (fun _ _=>rfl)) (@qa _ _ _ _ _ (@qh _ _ _ _) (@qc _) (by trivial)) (by trivial) (by trivial) (by trivial) (by trivial) (by trivial)) (by trivial) (by trivial)) (@qb _ _ _ _ _ (@qI _ _ _ _ _ _ _ _ (@qp _ _ _ _ _ _ _ _ (@QX _) (@qL _ _ _ _ _ _ _ (@qS _) (pv 7) (@qi _ _ _ _) (fun _ _=>rfl)) (@Qu _ _ _ _ (@qa _ _ _ _ _ (@qh _ _ _ _) (@qa _ _ _ _ _ (@qh _ _ _ _) (@qc _) (by trivial)) (by trivial))) (by with_unfolding_all rfl)) (@qe _ _ _ (@qk _ _ _ _ (@qP _ _ _ _ _ (@qa _ _ _ _ _ (@qH _ _ _ _ _ _ _ _ _ (@qO _) (by rfl) T.Qi boot_tuple (@qa _ _ _ _ _ (pv 4) (@qc _) (by trivial)) (by trivial) (by trivial) (by trivial) (by trivial)) (@qa _ _ _ _ _ (@qA _ _ _ _ _ _ _ _ _ _ _ _ _ _ _ _ G_law_said (hr.mono (by first|decide|omega)) (by rfl) T.m_law_said T.ZV.kp T.b_law_said .nil qQ (@qa _ _ _ _ _ (pv 3) (@qa _ _ _ _ _ (pv 7) (@qc _) (by trivial)) (by trivial)) (by trivial) (by trivial) (by trivial)) (@qa _ _ _ _ _ (@qD _ _ _ _ _ _ _ _ (@Qb _) (pv 6) (@qi _ _ _ _)) (@qc _) (by trivial)) (by trivial)) (by trivial))))) (@qr _)) (@qb _ _ _ _ _ (@qI _ _ _ _ _ _ _ _ (@qp _ _ _ _ _ _ _ _ (@QX _) (@qL _ _ _ _ _ _ _ (@qS _) (pv 7) (@qi _ _ _ _) (fun _ _=>rfl)) (@Qu _ _ _ _ (@qa _ _ _ _ _ (@qh _ _ _ _) (@qa _ _ _ _ _ (@qh _ _ _ _) (@qa _ _ _ _ _ (@qh _ _ _ _) (@qa _ _ _ _ _ (@qh _ _ _ _) (@qc _) (by trivial)) (by trivial)) (by trivial)) (by trivial))) (by with_unfolding_all rfl)) (@qb _ _ _ _ _ (@qB _ _ (5) _ _ _ _ Qc.nd rfl (Or.inl rfl) (@qA _ _ _ _ _ _ _ _ _ _ _ _ _ _ _ _ G_law_next (hr.mono (by first|decide|omega)) (by rfl) T.m_law_next T.ZT.kp T.b_law_next .nil qQ (@qa _ _ _ _ _ (pv 3) (@qa _ _ _ _ _ (pv 7) (@qa _ _ _ _ _ (pv 5) (@qc _) (by trivial)) (by trivial)) (by trivial)) (by trivial) (by trivial) (by trivial)) (by trivial) (by trivial)) (@qe _ _ _ (@ps_continue _ _))) (@qr _)) (@qb _ _ _ _ _ (@qB _ _ (8) _ _ _ _ Qc.nd rfl (Or.inl rfl) (@Qn _ _ _) (by trivial) (by trivial)) (@qb _ _ _ _ _ (@qB _ _ (9) _ _ _ _ Qc.nd rfl (Or.inl rfl) (@qh _ _ _ _) (by trivial) (by trivial)) (@qb _ _ _ _ _ (@qI _ _ _ _ _ _ _ _ (@qp _ _ _ _ _ _ _ _ (@QX _) (@qL _ _ _ _ _ _ _ (@qS _) (pv 7) (@qi _ _ _ _) (fun _ _=>rfl)) (@Qu _ _ _ _ (@qa _ _ _ _ _ (@qh _ _ _ _) (@qa _ _ _ _ _ (@qh _ _ _ _) (@qa _ _ _ _ _ (@qh _ _ _ _) (@qc _) (by trivial)) (by trivial)) (by trivial))) (by with_unfolding_all rfl)) (@qb _ _ _ _ _ (@qB _ _ (10) _ _ _ _ Qc.nd rfl (Or.inl rfl) (@qA _ _ _ _ _ _ _ _ _ _ _ _ _ _ _ _ G_law_ask (hr.mono (by first|decide|omega)) (by rfl) T.m_law_ask T.F_law_ask.kp T.b_law_ask .nil qQ (@qa _ _ _ _ _ (pv 3) (@qa _ _ _ _ _ (pv 7) (@qc _) (by trivial)) (by trivial)) (by trivial) (by trivial) (by trivial)) (by trivial) (by trivial)) (@qe _ _ _ (@qI _ _ _ _ _ _ _ _ (@qT _ _ _ (@qj _ _ _ _ _ _ _ _ _ (@qw _ _ rfl) (by rfl) T.qt boot_isinstance (@qa _ _ _ _ _ (pv 10) (@qa _ _ _ _ _ (@qV _ _ (.ty "str") _ _ (by rfl) T.yI boot_str rfl (by trivial) (by trivial)) (@qc _) (by trivial)) (by trivial)) (by trivial) (by trivial) (by trivial) (by trivial)) (by trivial)) (@qe _ _ _ (@qB _ _ (9) _ _ _ _ Qc.nd rfl (Or.inl rfl) (pv 10) (by trivial) (by trivial))) (@qe _ _ _ (@qI _ _ _ _ _ _ _ _ (@qp _ _ _ _ _ _ _ _ (@QL _) (@qj _ _ _ _ _ _ _ _ _ (@qM _) (by rfl) T.ye PySem.boot_len (@qa _ _ _ _ _ (pv 4) (@qc _) (by trivial)) (by trivial) (by trivial) (by trivial) (by trivial)) (@qj _ _ _ _ _ _ _ _ _ (@qM _) (by rfl) T.ye PySem.boot_len (@qa _ _ _ _ _ (pv 2) (@qc _) (by trivial)) (by trivial) (by trivial) (by trivial) (by trivial)) (qz _)) (@qe _ _ _ (@qk _ _ _ _ (@qP _ _ _ _ _ (@qa _ _ _ _ _ (@qH _ _ _ _ _ _ _ _ _ (@qO _) (by rfl) T.Qi boot_tuple (@qa _ _ _ _ _ (pv 4) (@qc _) (by trivial)) (by trivial) (by trivial) (by trivial) (by trivial)) (@qa _ _ _ _ _ (@qP _ _ _ _ _ (@qa _ _ _ _ _ (@qh _ _ _ _) (@qa _ _ _ _ _ (pv 10) (@qc _) (by trivial)) (by trivial))) (@qa _ _ _ _ _ (pv 6) (@qc _) (by trivial)) (by trivial)) (by trivial))))) (@qb _ _ _ _ _ (@qB _ _ (8) _ _ _ _ Qc.nd rfl (Or.inl rfl) (@qL _ _ _ _ _ _ _ (@qS _) (pv 2) (@qj _ _ _ _ _ _ _ _ _ (@qM _) (by rfl) T.ye PySem.boot_len (@qa _ _ _ _ _ (pv 4) (@qc _) (by trivial)) (by trivial) (by trivial) (by trivial) (by trivial)) (fun _ _=>rfl)) (by trivial) (by trivial)) (@qb _ _ _ _ _ (@jq _ _ _ _ (@Xx _ _ _ _ _ _ _ _ _ _ _ _ PySem.F.plainAttrs_list PySem.F.slot_list_append PySem.F.type_list_append (@Jw _) (pv 4) (@qa _ _ _ _ _ (@qP _ _ _ _ _ (@qa _ _ _ _ _ (pv 10) (@qa _ _ _ _ _ (pv 8) (@qc _) (by trivial)) (by trivial))) (@qc _) (by trivial)) (by trivial) (by trivial) (by trivial) (by trivial) (by trivial)) (by trivial)) (@qe _ _ _ (@qB _ _ (9) _ _ _ _ Qc.nd rfl (Or.inl rfl) (@qh _ _ _ _) (by trivial) (by trivial)))))))))) (@qe _ _ _ (@qB _ _ (8) _ _ _ _ Qc.nd rfl (Or.inl rfl) (@qA _ _ _ _ _ _ _ _ _ _ _ _ _ _ _ _ G_law_held (hr.mono (by first|decide|omega)) (by rfl) T.m_law_held T.wj.kp T.b_law_held .nil qQ (@qa _ _ _ _ _ (pv 3) (@qa _ _ _ _ _ (pv 7) (@qa _ _ _ _ _ (@qL _ _ _ _ _ _ _ (@Qk _) (pv 0) (pv 5) (fun _ _=>rfl)) (@qa _ _ _ _ _ (pv 1) (@qc _) (by trivial)) (by trivial)) (by trivial)) (by trivial)) (by trivial) (by trivial) (by trivial)) (by trivial) (by trivial)))) (@qb _ _ _ _ _ (@qI _ _ _ _ _ _ _ _ (@xL _ _ _ _ _ _ _ (@qp _ _ _ _ _ _ _ _ (@op_notN _) (pv 8) (@Qn _ _ _) (qz _)) (@Jy _ _ _ _ (@Qo _ _ _ _ (@qT _ _ _ (@qA _ _ _ _ _ _ _ _ _ _ _ _ _ _ _ _ wK (hr.mono (by first|decide|omega)) (by rfl) T.w5 T.xB.kp T.Wh .nil qQ (@qa _ _ _ _ _ (pv 8) (@qc _) (by trivial)) (by trivial) (by trivial) (by trivial)) (by trivial))))).pt (@qb _ _ _ _ _ (@qB _ _ (8) _ _ _ _ Qc.nd rfl (Or.inl rfl) (@Qn _ _ _) (by trivial) (by trivial)) (@qe _ _ _ (@qB _ _ (9) _ _ _ _ Qc.nd rfl (Or.inl rfl) (@qh _ _ _ _) (by trivial) (by trivial)))) (@qr _)) (@qb _ _ _ _ _ (@qI _ _ _ _ _ _ _ _ (@qp _ _ _ _ _ _ _ _ (@Z7 _) (pv 8) (@Qn _ _ _) (qz _)) (@qe _ _ _ (@qk _ _ _ _ (@qP _ _ _ _ _ (@qa _ _ _ _ _ (@qH _ _ _ _ _ _ _ _ _ (@qO _) (by rfl) T.Qi boot_tuple (@qa _ _ _ _ _ (pv 4) (@qc _) (by trivial)) (by trivial) (by trivial) (by trivial) (by trivial)) (@qa _ _ _ _ _ (@qP _ _ _ _ _ (@qa _ _ _ _ _ (@qh _ _ _ _) (@qa _ _ _ _ _ (pv 9) (@qc _) (by trivial)) (by trivial))) (@qa _ _ _ _ _ (@qD _ _ _ _ _ _ _ _ (@Qb _) (pv 6) (@qi _ _ _ _)) (@qc _) (by trivial)) (by trivial)) (by trivial))))) (@qr _)) (@qb _ _ _ _ _ (@ps_dput _ _ _ _ _ _ _ _ _ (yd hr) (pv 3) (@qL _ _ _ _ _ _ _ (@qS _) (pv 7) (@qi _ _ _ _) (fun _ _=>rfl)) (pv 8) rfl) (@qe _ _ _ (@qB _ _ (5) _ _ _ _ Qc.nd rfl (Or.inl rfl) (@qD _ _ _ _ _ _ _ _ (@Qb _) (pv 5) (@qi _ _ _ _)) (by trivial) (by trivial))))))))))))) (by trivial)) (@qe _ _ _ (@qk _ _ _ _ (@qP _ _ _ _ _ (@qa _ _ _ _ _ (@qH _ _ _ _ _ _ _ _ _ (@qO _) (by rfl) T.Qi boot_tuple (@qa _ _ _ _ _ (pv 4) (@qc _) (by trivial)) (by trivial) (by trivial) (by trivial) (by trivial)) (@qa _ _ _ _ _ (@qP _ _ _ _ _ (@qa _ _ _ _ _ (@qh _ _ _ _) (@qa _ _ _ _ _ (@qL _ _ _ _ _ _ _ (@qS _) (@Qu _ _ _ _ (@qa _ _ _ _ _ (@qh _ _ _ _) (@qa _ _ _ _ _ (@qh _ _ _ _) (@qc _) (by trivial)) (by trivial))) (@qH _ _ _ _ _ _ _ _ _ (@call_int1 _) (by rfl) T.z_int boot_int (@qa _ _ _ _ _ (@Q0 _ _ _ _ _ _ _ _ (@op_ge _) (pv 5) (@qj _ _ _ _ _ _ _ _ _ (@qM _) (by rfl) T.ye PySem.boot_len (@qa _ _ _ _ _ (pv 0) (@qc _) (by trivial)) (by trivial) (by trivial) (by trivial) (by trivial)) (qz _)) (@qc _) (by trivial)) (by trivial) (by trivial) (by trivial) (by trivial)) (fun _ _=>rfl)) (@qc _) (by trivial)) (by trivial))) (@qa _ _ _ _ _ (@qi _ _ _ _) (@qc _) (by trivial)) (by trivial)) (by trivial))))))))),?_⟩
 have three:(3:Nat)≤sizeLine:=by decide
 have two:(2:Nat)≤sizeLine:=by decide
 have n0:=hR.n0
 have n1:=hR.n1
 generalize hres:goF rs own 300 B0 1 0 as []=res at k
 have hvl:av.length=as.length:=iav.length
 have fin0:∀(H':Hp) (gs:List D) (gv:List V),Same H H'→L2.IsL H' gs gv→∀(H1:Hp) (t1:Addr) (ve:V) (e:D) (nn:Int),Same H' H1→H1 t1=some (.tup gv)→Is H1 e ve→(gs,e,nn.toNat)=res→0≤nn→∀t2,H1 t2=none→Q (.ref t2) (upd H1 t2 (.tup [.ref t1,ve,.int nn])):=by
  intro H' gs gv sm gl H1 t1 ve e nn s1 e1 ie h1 h2 t2 ht2
  subst h1
  refine k _ _ (sm.trans (s1.trans (qd ht2 _))) (Is.new (ds:= [.tup gs,e,.int (nn.toNat:Int)]) ⟨_,_,rfl,⟨t1,gv,rfl,e1,gl.mono s1.tk⟩,_,_,rfl,ie,_,_,rfl,?_,rfl⟩ ht2)
  show V.int nn=V.int ((nn.toNat:Nat):Int)
  rw [Int.toNat_of_nonneg h2]
 refine⟨"abcdefgh",rfl,fun A0 hA0=> ?_⟩
 refine lc_abc (tl:= []) hA0 (fun z H6 R hz s6 r=>⟨_,rfl,two,fun l hl=>r _ _ (qd hl _) (Is.new (ds:= [.str z,.str ""]) ⟨_,_,rfl,⟨rfl,hz⟩,_,_,rfl,⟨rfl,qU (by decide)⟩,rfl⟩ hl)⟩) fun H6 ys s6 e6 i6=> ?_
 refine⟨A0,_,rfl,prs_box e6 i6,bx_nodup,by decide,fun db hdb=> ?_⟩
 have s7:Same H6 (upd H6 db (.dK (inrK (BX.map fun z=>(z,V.str ""))))):=qd hdb _
 have b7:=box_new hdb
 refine⟨(by show 0≤sizeLine;decide),fun L hL=> ?_⟩
 have s8:=qd hL (.lst [])
 have b8:=b7.same s8
 have sm0:Same H _:=s6.trans (s7.trans s8)
 have ndb:∀b o,H b=some o→b≠db:=fun b o h=>qm (s6 b o h) hdb
 have hLH:H L=none:=by
  cases hc:H L with
  |none=>rfl
  |some o=>exact absurd hL (by rw [(s6.trans s7) _ _ hc];simp)
 have nL:L≠db:=(qm qf hL).symm
 refine⟨300,rfl,by decide,by decide,?_⟩
 refine xO (n:=300) (fun i σ H'=>∃(B:Str→D) (at':Nat) (x6 x7 x8 x9 x10:Option V),σ= [some v,some (.str own),some (.ref la),some (.ref db),some (.ref L),some (.int (at':Int)),x6,x7,x8,x9,x10]∧Same H H'∧Q8 H' db B∧Tr B∧at'≤rs.length∧∃(gs rest dn:List D) (gv:List V),H' L=some (.lst gv)∧L2.IsL H' gs gv∧as=dn++rest∧dn.length=gs.length∧goF rs own (300-i) B ((at':Int)+1) i rest gs=res) ⟨B0,0,_,_,_,_,_,rfl,sm0,b8,B0_tr,by omega,[],as,[],[],qf,rfl,rfl,rfl,hres⟩ ?_ ?_
 ·rintro i σ H' hi ⟨B,at',x6,x7,x8,x9,x10,rfl,sm,hB,hT,hat,gs,rest,dn,gv,eL,gl,eas,hdn,hrun⟩
  have hv':=hv.mono sm.tk
  have hvv:=hv'
  obtain⟨ta,us,rfl,eta,iu⟩:=hvv
  have hul:us.length=rs.length:=by rw [iu.length,List.length_map]
  have fin:=fin0 H' gs gv sm gl
  have hgl:gv.length=gs.length:=gl.length
  refine⟨_,rfl,_,rfl,ta,us,rfl,.inr (SqT.of eta),_,_,rfl,rfl,_,rfl,?_⟩
  refine ite2 (fun c=> ?_) (fun c=> ?_)
  ·have c':rs.length≤at':=by have:=of_decide_eq_true c;omega
   have er:(gs,flt "silent",i)=res:=by
    rw [←hrun]
    cases h3:300-i with
    |zero=>omega
    |succ q=>
     unfold goF
     rw [if_pos (by omega)]
   refine⟨_,rfl,L,gv,rfl,.inl ⟨SqL.of eL,fun t1 h1=>⟨two,fun t3 h3=>⟨_,rfl,three,fun t2 h2=> ?_⟩⟩⟩⟩
   have s1:Same H' (upd H' t1 (.tup gv)):=qd h1 _
   have s3:=qd h3 (.tup [.str "fault",.str "silent"])
   exact fin _ t1 _ (flt "silent") _ (s1.trans s3) (s3 _ _ qf) (Is.new (ds:= [.str "fault",.str "silent"]) ⟨_,_,rfl,⟨rfl,qU (by decide)⟩,_,_,rfl,⟨rfl,qU (by decide)⟩,rfl⟩ h3) (by rw [←er];show(gs,flt "silent",((0:Int)+(i:Int)).toNat)=_;rw [show((0:Int)+(i:Int)).toNat=i by omega]) (by omega) t2 h2
  ·have hlt:at'<rs.length:=by
    rcases Nat.lt_or_ge at' rs.length with h|h
    ·exact h
    ·exact absurd (decide_eq_true (by omega)) c
   have hstep:res=match rowO own (yK rs ((at':Int)+1)) B ((at':Int)+1) with
     | .go B' p'=>goF rs own (300-(i+1)) B' p' (i+1) rest gs
     | .stop e=>if Qe e=true then askStep (goF rs own (300-(i+1))) B (b0 (yK rs ((at':Int)+1)).2) ((at':Int)+1) i gs e rest else(gs,e,i+1):=by
    rw [←hrun,show 300-i=(300-(i+1))+1 by omega,goF,if_neg (by omega)]
    all_goals (cases rowO own (yK rs ((at':Int)+1)) B ((at':Int)+1)<;>first|rfl|(cases rest<;>rfl))
   have hmem:=Zm (rs:=rs) (p:=(at':Int)+1) (by omega) (by omega)
   have hro:=hR.ok _ hmem
   have hll:=hR.len hmem
   have hok:=rowO_ok (own:=own) hro hT (p:=(at':Int)+1) (by omega) (by omega)
   refine⟨_,rfl,_,rfl,?_⟩
   refine rule_get hv' hlt ?_
   generalize hr0:yK rs ((at':Int)+1)=r at hstep hro hll hok hmem⊢
   refine⟨rfl,_,rfl,rfl,by omega,fun p hp=> ?_⟩
   have s1:Same H' (upd H' p (.lst ((wds r).map V.str))):=qd hp _
   have hW:WdAt (upd H' p (.lst ((wds r).map V.str))) p r:=qf
   show J5 7 _ _ (upd H' p (.lst ((wds r).map V.str))) _
   generalize upd H' p (.lst ((wds r).map V.str))=H1 at s1 hW⊢
   have sm1:=s1
   have eL1:=s1 _ _ eL
   have hB1:=hB.same s1
   have hv1:=hv'.mono s1.tk
   have hw0:=wds0 n1 hro
   obtain⟨ks,hk,hpk⟩:=id hro
   refine⟨_,rfl,?_⟩
   dsimp only [tC]
   refine yg (i:=0) hW hw0 ⟨two,fun l2 hl2=>⟨l2,_,rfl,.inl (SqL.of qf),rfl,rfl,_,rfl,?_⟩⟩
   have s2:Same H1 (upd H1 l2 (.lst [.str "say",.str "fault"])):=qd hl2 _
   generalize upd H1 l2 (.lst [.str "say",.str "fault"])=H2 at s2⊢
   have ei:inV (.str r.1) [.str "say",.str "fault"]=decide (r.1∈(["say","fault"]:List Str)):=J8 (z:=r.1) (l:= ["say","fault"])
   rw [if_neg Bool.false_ne_true,ei]
   by_cases csf:r.1="say"∨r.1="fault"
   ·refine qG (decide_eq_true (by simpa using csf)) ?_
    have hnm:r.1∉MKR:=by rcases csf with h|h<;>rw [h]<;>decide+kernel
    have hna:r.1∉ASK:=by rcases csf with h|h<;>rw [h]<;>decide+kernel
    have eo:rowO own r B ((at':Int)+1)= .stop (if r.1="say" then .tup [.str "said",B (b0 r.2)] else flt "told"):=by
     unfold rowO
     rw [if_neg hnm,if_neg hna]
     rcases csf with h|h
     ·rw [if_pos h,if_pos h]
     ·have hns:¬r.1="say":=by rw [h];decide+kernel
      rw [if_neg hns,if_pos h,if_neg hns]
    rw [eo] at hstep
    have hwt:Qe (if r.1="say" then .tup [.str "said",B (b0 r.2)] else flt "told")=false:=by
     by_cases h:r.1="say"
     ·rw [if_pos h];rfl
     ·rw [if_neg h];rfl
    simp only [hwt,Bool.false_eq_true,if_false] at hstep
    have sm2:=sm1.trans s2
    refine⟨_,rfl,L,gv,rfl,.inl ⟨SqL.of (s2 _ _ eL1),fun t1 h1=> ?_⟩⟩
    have s3:Same H2 (upd H2 t1 (.tup gv)):=qd h1 _
    refine⟨_,rfl,_,rfl,db,p,B,r,rs.length,rfl,n1,(hB1.same s2).same s3,s3 _ _ (s2 _ _ hW),hro,csf,fun u3 H3 s4 iu3=>⟨_,rfl,_,_,rfl,rfl,three,fun t2 h2=> ?_⟩⟩
    exact fin H3 t1 _ _ _ (sm2.trans (s3.trans s4)) (s4 _ _ qf) iu3 (by rw [hstep];show(gs,_,((0:Int)+(i:Int)+1).toNat)=_;rw [show((0:Int)+(i:Int)+1).toNat=i+1 by omega]) (by omega) t2 h2
   ·refine qo (decide_eq_false (by simpa using csf)) ?_
    have sm2:=sm1.trans s2
    have eL2:=s2 _ _ eL1
    have hB2:=hB1.same s2
    have hW2:WdAt H2 p r:=s2 _ _ hW
    have hv2:=hv1.mono s2.tk
    refine⟨_,rfl,?_⟩
    dsimp only [tC]
    refine yg (i:=0) hW2 hw0 ⟨(by show 4≤sizeLine;decide),fun l3 hl3=>⟨l3,_,rfl,.inl (SqL.of qf),rfl,rfl,_,rfl,?_⟩⟩
    have s3:Same H2 (upd H2 l3 (.lst [.str "go",.str "like",.str "rowed",.str "none"])):=qd hl3 _
    generalize upd H2 l3 (.lst [.str "go",.str "like",.str "rowed",.str "none"])=H3 at s3⊢
    have ei3:inV (.str r.1) [.str "go",.str "like",.str "rowed",.str "none"]=decide (r.1∈JMP):=J8 (z:=r.1) (l:=JMP)
    rw [if_neg Bool.false_ne_true,ei3]
    have sm3:=sm2.trans s3
    have eL3:=s3 _ _ eL2
    have hB3:=hB2.same s3
    have hW3:WdAt H3 p r:=s3 _ _ hW2
    have hv3:=hv2.mono s3.tk
    by_cases cj:r.1∈JMP
    ·refine qG (decide_eq_true cj) ?_
     have hnm:r.1∉MKR:=fun h=>by revert h;simp only [JMP,List.mem_cons,List.not_mem_nil,or_false] at cj;rcases cj with h|h|h|h<;>rw [h]<;>decide+kernel
     have hna:r.1∉ASK:=fun h=>by revert h;simp only [JMP,List.mem_cons,List.not_mem_nil,or_false] at cj;rcases cj with h|h|h|h<;>rw [h]<;>decide+kernel
     have eo:rowO own r B ((at':Int)+1)=if jump r.1 B r.2=true then .go B (JX r.2) else .go B ((at':Int)+1+1):=by
      unfold rowO
      rw [if_neg hnm,if_neg hna,if_neg (fun h=>csf (.inl h)),if_neg (fun h=>csf (.inr h))]
     rw [eo] at hstep hok
     refine⟨_,rfl,_,rfl,_,rfl,db,p,B,r,rs.length,_,rfl,n1,hB3,hT,hW3,hro,cj,fun H4 s4=> ?_⟩
     cases hj:jump r.1 B r.2 with
     |true=>
      rw [hj] at hstep hok
      simp only [if_true] at hstep hok
      obtain⟨_,o1,o2⟩:=hok
      rw [if_pos rfl]
      obtain⟨m,hm⟩:∃m:Nat,JX r.2-1=(m:Int):=⟨(JX r.2-1).toNat,by omega⟩
      rw [hm]
      refine⟨B,m,_,_,_,_,_,rfl,sm.trans (sm3.trans s4),hB3.same s4,hT,by omega,gs,rest,dn,gv,s4 _ _ eL3,(gl.mono sm3.tk).mono s4.tk,eas,hdn,?_⟩
      rw [show(m:Int)+1=JX r.2 by omega]
      exact hstep.symm
     |false=>
      rw [hj] at hstep hok
      simp only [Bool.false_eq_true,if_false] at hstep hok
      obtain⟨_,o1,o2⟩:=hok
      rw [if_neg Bool.false_ne_true]
      exact⟨B,at'+1,_,_,_,_,_,rfl,sm.trans (sm3.trans s4),hB3.same s4,hT,by omega,gs,rest,dn,gv,s4 _ _ eL3,(gl.mono sm3.tk).mono s4.tk,eas,hdn,hstep.symm⟩
    ·refine qo (decide_eq_false cj) ?_
     refine⟨_,rfl,?_⟩
     dsimp only [tC]
     refine yg (i:=0) hW3 hw0 ⟨three,fun l5 hl5=>⟨l5,_,rfl,.inl (SqL.of qf),rfl,rfl,_,rfl,?_⟩⟩
     have s5:Same H3 (upd H3 l5 (.lst [.str "ask",.str "has",.str "names"])):=qd hl5 _
     generalize upd H3 l5 (.lst [.str "ask",.str "has",.str "names"])=H5 at s5⊢
     have ei5:inV (.str r.1) [.str "ask",.str "has",.str "names"]=decide (r.1∈ASK):=J8 (z:=r.1) (l:=ASK)
     rw [if_neg Bool.false_ne_true,ei5]
     have sm5:=sm3.trans s5
     have eL5:=s5 _ _ eL3
     have hB5:=hB3.same s5
     have hW5:WdAt H5 p r:=s5 _ _ hW3
     have hv5:=hv3.mono s5.tk
     by_cases ca:r.1∈ASK
     ·refine qG (decide_eq_true ca) ?_
      have hnm:r.1∉MKR:=(Xa _ hk ca).1
      have eo:rowO own r B ((at':Int)+1)= .stop (askF r.1 (B (b1 r.2))):=by
       unfold rowO
       rw [if_neg hnm,if_pos ca]
      rw [eo] at hstep
      refine⟨_,rfl,_,rfl,db,p,B,r,rs.length,rfl,n1,hB5,hW5,hro,ca,fun u6 H6 s6 i6=> ?_⟩
      have sm6:=sm5.trans s6
      have eL6:=s6 _ _ eL5
      rcases askF_L r.1 (B (b1 r.2)) with⟨z,hz,e1,e2⟩|⟨e3,e1,e2,e4⟩
      ·rw [e1] at i6
       rw [e2] at hstep
       refine⟨_,rfl,u6,"str",tyD (.str z),Qd (.str z),rfl,i6.ty,QB _,_,rfl,iteT ?_⟩
       obtain⟨rfl,hzl⟩:=i6
       refine⟨_,rfl,_,rfl,rfl,_,rfl,qo (by decide+kernel) ?_⟩
       refine⟨_,rfl,rfl,_,rfl,qG (by decide+kernel) ?_⟩
       have hwt:Qe (flt z)=false:=rfl
       simp only [hwt,Bool.false_eq_true,if_false] at hstep
       refine⟨_,rfl,L,gv,rfl,.inl ⟨SqL.of eL6,fun t1 h1=>⟨_,rfl,two,fun t3 h3=>⟨_,rfl,_,_,rfl,rfl,three,fun t2 h2=> ?_⟩⟩⟩⟩
       have q1:Same H6 (upd H6 t1 (.tup gv)):=qd h1 _
       have q3:=qd h3 (.tup [.str "fault",.str z])
       exact fin _ t1 _ (flt z) _ (sm6.trans (q1.trans q3)) (q3 _ _ qf) (Is.new (ds:= [.str "fault",.str z]) ⟨_,_,rfl,⟨rfl,qU (by decide)⟩,_,_,rfl,⟨rfl,qU (by omega)⟩,rfl⟩ h3) (by rw [hstep];show(gs,_,((0:Int)+(i:Int)+1).toNat)=_;rw [show((0:Int)+(i:Int)+1).toNat=i+1 by omega]) (by omega) t2 h2
      ·rw [e4] at hstep
       refine⟨_,rfl,u6,"str",_,_,rfl,i6.ty,QB _,_,rfl,?_⟩
       rw [e1]
       have hwt:Qe (.tup [.str "asks",askL r.1 (B (b1 r.2))])=true:=by simp [Qe]
       simp only [hwt,if_true] at hstep
       refine iteF ⟨_,rfl,L,gv,rfl,.inl (SqL.of eL6),_,rfl,la,av,rfl,.inl (SqL.of (sm6 _ _ (sm _ _ hla))),rfl,_,rfl,?_⟩
       cases rest with
       |nil=>
        have hll2:gv.length=av.length:=by rw [hgl,hvl,eas];simp [hdn]
        refine qG (decide_eq_true (by rw [hll2])) ?_
        refine⟨_,rfl,L,gv,rfl,.inl ⟨SqL.of eL6,fun t1 h1=>⟨_,rfl,two,fun t3 h3=>⟨_,rfl,three,fun t2 h2=> ?_⟩⟩⟩⟩
        have q1:Same H6 (upd H6 t1 (.tup gv)):=qd h1 _
        have q3:=qd h3 (.tup [.str "asks",u6])
        exact fin _ t1 _ (.tup [.str "asks",askL r.1 (B (b1 r.2))]) _ (sm6.trans (q1.trans q3)) (q3 _ _ qf) (Is.new (ds:= [.str "asks",askL r.1 (B (b1 r.2))]) ⟨_,_,rfl,⟨rfl,qU (by decide)⟩,_,_,rfl,i6.mono q1.tk,rfl⟩ h3) (by rw [hstep];show(gs,_,((0:Int)+(i:Int)).toNat)=_;rw [show((0:Int)+(i:Int)).toNat=i by omega];rfl) (by omega) t2 h2
       |cons ad rest'=>
        have hgl2:gv.length<av.length:=by rw [hgl,hvl,eas,←hdn,List.length_append,List.length_cons];omega
        refine qo (decide_eq_false fun h=>by injection h with h;omega) ?_
        have had:=haok ad (by rw [eas];simp)
        have eget:as[gs.length]? =some ad:=by rw [eas,←hdn,List.getElem?_append_right (Nat.le_refl _),Nat.sub_self];rfl
        obtain⟨va,hva,iva0⟩:=iav.get eget
        have iva:=(iva0.mono sm.tk).mono sm6.tk
        obtain⟨z0,z1,er2,hz0,hw1⟩:=wds1a n1 hro ca
        have ezb:b0 r.2=z0:=by rw [er2];rfl
        have hB6:=hB5.same s6
        have hW6:WdAt H6 p r:=s6 _ _ hW5
        refine⟨_,rfl,_,rfl,L,gv,rfl,.inl (SqL.of eL6),la,av,_,va,rfl,rfl,SqL.of (sm6 _ _ (sm _ _ hla)),QI (by rw [hgl];exact hva),?_⟩
        refine⟨_,rfl,.inl ⟨rfl,_,SqL.of eL6⟩,_,rfl,_,rfl,two,fun t1 h1=> ?_⟩
        have q1:Same H6 (upd H6 t1 (.tup [u6,va])):=qd h1 _
        have ip:Is (upd H6 t1 (.tup [u6,va])) (.tup [askL r.1 (B (b1 r.2)),ad]) (.ref t1):=Is.new (ds:= [askL r.1 (B (b1 r.2)),ad]) ⟨_,_,rfl,i6,_,_,rfl,iva,rfl⟩ h1
        have npL:p≠L:=(qm eL hp).symm
        have eL7:=q1 _ _ eL6
        have hB7:=hB6.same q1
        have hW7:WdAt _ p r:=q1 _ _ hW6
        have gl7:=(gl.mono sm6.tk).mono q1.tk
        have iva7:=iva.mono q1.tk
        have sm7:=sm6.trans q1
        generalize upd H6 t1 (.tup [u6,va])=H7 at q1 ip eL7 hB7 hW7 gl7 iva7 sm7⊢
        refine⟨L,gv,_,rfl,rfl,eL7,Jl (by omega),?_⟩
        have t7:Tk H7 (upd H7 L (.lst (gv++ [.ref t1]))):=Tk.updL eL7
        have eL8:(upd H7 L (.lst (gv++ [.ref t1]))) L=some (.lst (gv++ [.ref t1])):=qf
        have smL:Same H (upd H7 L (.lst (gv++ [.ref t1]))):=fun b o e=>by
         rw [qu (qm e hLH)]
         exact sm7 b o (sm b o e)
        have gl8:L2.IsL (upd H7 L (.lst (gv++ [.ref t1]))) (gs++ [.tup [askL r.1 (B (b1 r.2)),ad]]) (gv++ [.ref t1]):=(gl7.mono t7).append (IsL.one (ip.mono t7))
        have hB8:Q8 (upd H7 L (.lst (gv++ [.ref t1]))) db B:=hB7.move t7 (qu nL.symm)
        have hW8:WdAt (upd H7 L (.lst (gv++ [.ref t1]))) p r:=by
         show upd H7 L (.lst (gv++ [.ref t1])) p=_
         rw [qu npL]
         exact hW7
        have iva8:=iva7.mono t7
        generalize upd H7 L (.lst (gv++ [.ref t1]))=H8 at t7 eL8 smL gl8 hB8 hW8 iva8⊢
        have fin:=fin0 H8 _ _ smL gl8
        have hstep':res=if wP ad=true then(gs++ [.tup [askL r.1 (B (b1 r.2)),ad]],flt "lack",i+1) else goF rs own (300-(i+1)) (setB B z0 ad) ((at':Int)+1+1) (i+1) rest' (gs++ [.tup [askL r.1 (B (b1 r.2)),ad]]):=by
         rw [hstep,←ezb]
         rfl
        refine⟨_,rfl,rfl,_,rfl,?_⟩
        by_cases cn:ad= .non
        ·subst cn
         cases(show va= .non from iva8)
         refine qo (by decide+kernel) ⟨_,rfl,rfl,_,rfl,qG (by decide+kernel) ?_⟩
         refine⟨_,rfl,L,_,rfl,.inl ⟨SqL.of eL8,fun t2 h2=>⟨_,rfl,two,fun t3 h3=>⟨_,rfl,_,_,rfl,rfl,three,fun t4 h4=> ?_⟩⟩⟩⟩
         have r2:Same H8 (upd H8 t2 (.tup (gv++ [.ref t1]))):=qd h2 _
         have r3:=qd h3 (.tup [.str "fault",.str "lack"])
         exact fin _ t2 _ (flt "lack") _ (r2.trans r3) (r3 _ _ qf) (Is.new (ds:= [.str "fault",.str "lack"]) ⟨_,_,rfl,⟨rfl,qU (by decide)⟩,_,_,rfl,⟨rfl,qU (by decide)⟩,rfl⟩ h3) (by rw [hstep'];show(_,_,((0:Int)+(i:Int)+1).toNat)=_;rw [show((0:Int)+(i:Int)+1).toNat=i+1 by omega];rfl) (by omega) t4 h4
        ·have hT2:isT ad=true:=had.resolve_left cn
         have hun:va≠ .non:=We iva8 cn
         have enn:wP ad=false:=by
          cases ad with
          |non=>exact absurd rfl cn
          |_=>rfl
         rw [enn,if_neg Bool.false_ne_true] at hstep'
         refine qG (by rw [decide_eq_false hun];rfl) ⟨_,rfl,va,ad,rfl,iva8,by have:=xp hT2;omega,fun H9 s9=>⟨_,rfl,?_⟩⟩
         rw [hT2]
         refine iteF ⟨_,rfl,rfl,_,rfl,qo (decide_eq_false hun) ?_⟩
         obtain⟨kvs,hput,hb10,t10⟩:=(hB8.same s9).put hz0 (iva8.mono s9.tk)
         refine⟨_,rfl,_,rfl,_,rfl,?_⟩
         dsimp only [tC]
         refine yg (i:=1) (show WdAt H9 p r from s9 _ _ hW8) hw1 ⟨db,_,rfl,hput,?_⟩
         refine⟨_,rfl,_,_,rfl,rfl,?_⟩
         exact⟨setB B z0 ad,at'+1,_,_,_,_,_,rfl,fun b o h=>by rw [qu (ndb b o h)];exact s9 b o (smL b o h),hb10,zL hT hT2,by omega,_,rest',dn++ [ad],gv++ [.ref t1],by rw [qu nL];exact s9 _ _ eL8,(gl8.mono s9.tk).mono t10,by rw [eas];simp,by simp [hdn],hstep'.symm⟩
     ·refine qo (decide_eq_false ca) ?_
      have hmk:r.1∈MKR:=by
       rcases frm_all _ hk with q|⟨_,_,q|⟨_,q|q|q⟩⟩
       ·exact q
       ·exact absurd q ca
       ·exact absurd (.inl q) csf
       ·exact absurd (.inr q) csf
       ·exact absurd q.2.2 cj
      obtain⟨z0,qs,eps,hz0⟩:=mk_b0 hro hmk
      have eb0:b0 r.2=z0:=by rw [eps];rfl
      have eo:rowO own r B ((at':Int)+1)=wI B z0 (made r.1 B own r.2) ((at':Int)+1):=by
       unfold rowO
       rw [if_pos hmk,eb0]
      rw [eo] at hstep hok
      have hdp:=made_dp (own:=own) hT (show QP rs.length 160 (r.1,r.2) from hro) hmk
      refine⟨_,rfl,_,rfl,_,rfl,_,rfl,?_⟩
      refine rule_get hv5 hlt ?_
      rw [hr0]
      refine⟨_,rfl,db,p,B,r,rs.length,own,rfl,n1,hol,hll,hB5,hT,hW5,hro,hmk,fun u6 H6 s6 i6=> ?_⟩
      have sm6:=sm5.trans s6
      have eL6:=s6 _ _ eL5
      have hB6:=hB5.same s6
      have hW6:WdAt H6 p r:=s6 _ _ hW5
      have hw1:(wds r)[1]? =some z0:=wds1 n1 hro hmk eps
      generalize made r.1 B own r.2=dm at i6 hstep hok hdp
      have stop:∀(z:Str) (H7:Hp),z.length≤100→Same H' H7→H7 L=some (.lst gv)→(gs,flt z,i+1)=res→∀t1,H7 t1=none→∀t3,(upd H7 t1 (.tup gv)) t3=none→∀t2,(upd (upd H7 t1 (.tup gv)) t3 (.tup [.str "fault",.str z])) t2=none→Q (.ref t2) (upd (upd (upd H7 t1 (.tup gv)) t3 (.tup [.str "fault",.str z])) t2 (.tup [.ref t1,.ref t3,.int (0+(i:Int)+1)])):=by
       intro z H7 hz sm7 eL7 er t1 h1 t3 h3 t2 h2
       have q1:Same H7 (upd H7 t1 (.tup gv)):=qd h1 _
       have q3:=qd h3 (.tup [.str "fault",.str z])
       exact fin _ t1 _ (flt z) _ (sm7.trans (q1.trans q3)) (q3 _ _ qf) (Is.new (ds:= [.str "fault",.str z]) ⟨_,_,rfl,⟨rfl,qU (by decide)⟩,_,_,rfl,⟨rfl,qU (by omega)⟩,rfl⟩ h3) (by rw [←er];show(gs,_,((0:Int)+(i:Int)+1).toNat)=_;rw [show((0:Int)+(i:Int)+1).toNat=i+1 by omega]) (by omega) t2 h2
      refine⟨_,rfl,rfl,_,rfl,?_⟩
      by_cases cn:dm= .non
      ·subst cn
       cases(show u6= .non from i6)
       refine qo (by decide+kernel) ⟨_,rfl,rfl,_,rfl,qG (by decide+kernel) ?_⟩
       exact⟨_,rfl,L,gv,rfl,.inl ⟨SqL.of eL6,fun t1 h1=>⟨_,rfl,two,fun t3 h3=>⟨_,rfl,_,_,rfl,rfl,three,fun t2 h2=>stop "kind" H6 (by decide) sm6 eL6 (by rw [hstep];rfl) t1 h1 t3 h3 t2 h2⟩⟩⟩⟩
      ·have hun:u6≠ .non:=We i6 cn
       have eo2:wI B z0 dm ((at':Int)+1)=if isT dm=true then .go (setB B z0 dm) ((at':Int)+1+1) else .stop (flt "big"):=by
        cases dm with
        |non=>exact absurd rfl cn
        |_=>rfl
       rw [eo2] at hstep hok
       refine qG (by rw [decide_eq_false hun];rfl) ⟨_,rfl,u6,dm,rfl,i6,hdp,fun H7 s7=>⟨_,rfl,?_⟩⟩
       have sm7:=sm6.trans s7
       have eL7:=s7 _ _ eL6
       cases hT2:isT dm with
       |false=>
        rw [hT2] at hstep
        refine iteT ?_
        refine⟨_,rfl,rfl,_,rfl,qG (by decide+kernel) ?_⟩
        exact⟨_,rfl,L,gv,rfl,.inl ⟨SqL.of eL7,fun t1 h1=>⟨_,rfl,two,fun t3 h3=>⟨_,rfl,_,_,rfl,rfl,three,fun t2 h2=>stop "big" H7 (by decide) sm7 eL7 (by rw [hstep];rfl) t1 h1 t3 h3 t2 h2⟩⟩⟩⟩
       |true=>
        rw [hT2] at hstep hok
        simp only [if_true] at hstep hok
        obtain⟨o0,o1,o2⟩:=hok
        refine iteF ⟨_,rfl,rfl,_,rfl,qo (decide_eq_false hun) ?_⟩
        obtain⟨kvs,hput,hb8,t8⟩:=(hB6.same s7).put hz0 (i6.mono s7.tk)
        refine⟨_,rfl,_,rfl,_,rfl,?_⟩
        dsimp only [tC]
        refine yg (i:=1) (show WdAt H7 p r from s7 _ _ hW6) hw1 ⟨db,_,rfl,hput,?_⟩
        refine⟨_,rfl,_,_,rfl,rfl,?_⟩
        exact⟨setB B z0 dm,at'+1,_,_,_,_,_,rfl,fun b o h=>by rw [qu (ndb b o h)];exact sm7 b o (sm b o h),hb8,o0,by omega,gs,rest,dn,gv,by rw [qu nL];exact eL7,(gl.mono sm7.tk).mono t8,eas,hdn,hstep.symm⟩
 ·rintro σ H' ⟨B,at',x6,x7,x8,x9,x10,rfl,sm,hB,hT,hat,gs,rest,dn,gv,eL,gl,eas,hdn,hrun⟩
  have hv':=hv.mono sm.tk
  have hvv:=hv'
  obtain⟨ta,us,rfl,eta,iu⟩:=hvv
  have hul:us.length=rs.length:=by rw [iu.length,List.length_map]
  refine⟨_,rfl,L,gv,rfl,.inl ⟨SqL.of eL,fun t1 h1=> ?_⟩⟩
  have fin:=fin0 H' gs gv sm gl
  have q1:Same H' (upd H' t1 (.tup gv)):=qd h1 _
  have et1:(upd H' t1 (.tup gv)) t1=some (.tup gv):=qf
  generalize upd H' t1 (.tup gv)=H1 at q1 et1⊢
  refine⟨two,fun l hl=>⟨_,rfl,_,rfl,ta,us,rfl,.inr (SqT.of (qd hl _ _ _ (q1 _ _ eta))),_,_,rfl,rfl,.inr ⟨_,rfl,?_⟩⟩⟩
  have q2:Same H1 (upd H1 l (.lst [.str "long",.str "silent"])):=qd hl _
  have el:(upd H1 l (.lst [.str "long",.str "silent"])) l=some (.lst [.str "long",.str "silent"]):=qf
  generalize upd H1 l (.lst [.str "long",.str "silent"])=H2 at q2 el⊢
  have er:(gs,(if(at':Int)+1>rs.length then flt "silent" else flt "long"),300)=res:=by
   rw [←hrun]
   rfl
  have last:∀z:Str,z.length≤100→(gs,flt z,300)=res→∀t3,H2 t3=none→∀t2,(upd H2 t3 (.tup [.str "fault",.str z])) t2=none→Q (.ref t2) (upd (upd H2 t3 (.tup [.str "fault",.str z])) t2 (.tup [.ref t1,.ref t3,.int 300])):=by
   intro z hz ez t3 h3 t2 h2
   have q3:=qd h3 (.tup [.str "fault",.str z])
   exact fin _ t1 _ (flt z) 300 (q1.trans (q2.trans q3)) (q3 _ _ (q2 _ _ et1)) (Is.new (ds:= [.str "fault",.str z]) ⟨_,_,rfl,⟨rfl,qU (by decide)⟩,_,_,rfl,⟨rfl,qU (by omega)⟩,rfl⟩ h3) ez (by decide) t2 h2
  by_cases c:rs.length≤at'
  ·rw [decide_eq_true (p:=((us.length:Int)≤(at':Int))) (by omega)]
   rw [if_pos (by omega)] at er
   exact⟨l,_,1,.str "silent",rfl,rfl,SqL.of el,rfl,two,fun t3 h3=>⟨three,fun t2 h2=>last "silent" (by decide) er t3 h3 t2 h2⟩⟩
  ·rw [decide_eq_false (p:=((us.length:Int)≤(at':Int))) (by omega)]
   rw [if_neg (by omega)] at er
   exact⟨l,_,0,.str "long",rfl,rfl,SqL.of el,rfl,two,fun t3 h3=>⟨three,fun t2 h2=>last "long" (by decide) er t3 h3 t2 h2⟩⟩
end
end K13
namespace K13
open PySem L2 PyProof.Rows
def Gd (d:D):Prop:=good d=true∧dp d≤20
theorem gd_flt:∀z∈(["kind","big","told","silent","long","name"]:List Str),good (flt z)=true:=by decide+kernel
theorem gd_f {z:Str}(h:z∈(["kind","big","told","silent","long","name"]:List Str)):Gd (flt z):=⟨gd_flt z h,by show dp (.tup [.str "fault",.str z])≤20;simp [dp,dpL]⟩
theorem gd_two {u:Str}{d:D}(hu:yu u=true)(h:isT d=true):Gd (.tup [.str u,d]):=by
 have hg:=JM h
 have hd:=xp h
 refine⟨?_,?_⟩
 ·simp only [good,goodL,hu,hg,Bool.and_true]
  rfl
 ·simp only [dp,dpL]
  omega
theorem gd_three {u w:Str}{d:D}(hu:yu u=true)(hw:yu w=true)(h:isT d=true):Gd (.tup [.str u,.tup [.str w,d]]):=by
 have hg:=JM h
 have hd:=xp h
 refine⟨?_,?_⟩
 ·simp only [good,goodL,hu,hw,hg,Bool.and_true]
  rfl
 ·simp only [dp,dpL]
  omega
theorem rowO_gd {own:Str}{n:Nat}{r:Rw}{B:Str→D}{p:Int}{e:D}(hr:QP n 160 r)(h:Tr B)(he:rowO own r B p= .stop e):Gd e:=by
 unfold rowO at he
 obtain⟨ks,hk,hp⟩:=id hr
 obtain⟨r1,ps⟩:=r
 by_cases c1:r1∈MKR
 ·rw [if_pos c1] at he
  simp only at he
  generalize made r1 B own ps=dm at he
  have key:(if isT dm=true then Out.go (setB B (b0 ps) dm) (p+1) else .stop (flt "big"))= .stop e→Gd e:=by
   intro hq
   by_cases c:isT dm=true
   ·rw [if_pos c] at hq;cases hq
   ·rw [if_neg c] at hq;cases hq;exact gd_f (by decide+kernel)
  cases dm with
  |non=>cases he;exact gd_f (by decide+kernel)
  |_=>exact key he
 rw [if_neg c1] at he
 by_cases c2:r1∈ASK
 ·rw [if_pos c2] at he
  cases he
  obtain⟨_,_,ek⟩:=Xa _ hk c2
  simp only at ek
  subst ek
  obtain⟨z0,z1,rfl,h0,h1⟩:=jn hp
  have hT:=h z1 h1
  show Gd (askF r1 (B z1))
  unfold askF
  by_cases d1:r1="names"
  ·rw [if_pos d1]
   by_cases d2:Qd (B z1)=true
   ·rw [if_pos d2];exact gd_three (by decide+kernel) (by decide+kernel) hT
   ·rw [if_neg d2];exact gd_f (by decide+kernel)
  ·rw [if_neg d1]
   by_cases d2:isNm (B z1)=true
   ·rw [if_pos d2]
    refine gd_three (by decide+kernel) ?_ hT
    split<;>decide+kernel
   ·rw [if_neg d2];exact gd_f (by decide+kernel)
 rw [if_neg c2] at he
 by_cases c3:r1="say"
 ·rw [if_pos c3] at he
  cases he
  subst c3
  have ek:=frm_say _ hk rfl
  simp only at ek
  subst ek
  obtain⟨z0,rfl,h0⟩:=sh_b hp
  exact gd_two (by decide+kernel) (h z0 h0)
 rw [if_neg c3] at he
 by_cases c4:r1="fault"
 ·rw [if_pos c4] at he;cases he;exact gd_f (by decide+kernel)
 rw [if_neg c4] at he
 by_cases c5:jump r1 B ps=true
 ·rw [if_pos c5] at he;cases he
 ·rw [if_neg c5] at he;cases he
def ansS (rs:List Rw)(own:Str)(r:Rn)(a:D):Rn:=if wP a=true then⟨r.B,r.p,r.n+1,r.gs++ [.tup [wZ r.th,a]],flt "lack"⟩ else runS rs own (r.gs++ [.tup [wZ r.th,a]]) (300-(r.n+1)) (setB r.B (b0 (yK rs r.p).2) a) (r.p+1) (r.n+1)
def JV (rs:List Rw)(own:Str):Rn→List D→Rn
 |r,[]=>r
 |r,a::as=>if Qe r.th=true then JV rs own (ansS rs own r a) as else r
theorem js {rs:List Rw}{own:Str}{r:Rn}(h:Qe r.th=false):∀as,JV rs own r as=r
 | []=>rfl
 |a::as=>by unfold JV;rw [h,if_neg Bool.false_ne_true]
theorem ZX {rs:List Rw}{own:Str}(a:D):∀(as:List D) (r:Rn),JV rs own r (as++ [a])=if Qe (JV rs own r as).th=true then ansS rs own (JV rs own r as) a else JV rs own r as
 | [],r=>by
  show(if Qe r.th=true then JV rs own (ansS rs own r a) [] else r)=_
  rfl
 |b::as,r=>by
  show(if Qe r.th=true then JV rs own (ansS rs own r b) (as++ [a]) else r)=_
  cases h:Qe r.th with
  |true=>
   rw [if_pos rfl,ZX a as]
   have e:JV rs own r (b::as)=JV rs own (ansS rs own r b) as:=by
    show(if Qe r.th=true then _ else r)=_
    rw [h,if_pos rfl]
   rw [e]
  |false=>
   rw [if_neg Bool.false_ne_true,js h,h,if_neg Bool.false_ne_true]
def triple (r:Rn):List D×D×Nat:=(r.gs,r.th,r.n)
theorem Wf {rs:List Rw}{own:Str}:∀(f:Nat) (B:Str→D) (p:Int) (n:Nat) (as gs:List D),f+n=300→goF rs own f B p n as gs=triple (JV rs own (runS rs own gs f B p n) as)
 |0,B,p,n,as,gs,_=>by
  have hw:Qe (runS rs own gs 0 B p n).th=false:=by
   show Qe (if p>rs.length then flt "silent" else flt "long")=false
   split<;>decide+kernel
  rw [js hw]
  rfl
 |f+1,B,p,n,as,gs,hf=>by
  unfold goF runS
  by_cases c:p>rs.length
  ·rw [if_pos c,if_pos c,js (show Qe (flt "silent")=false by decide+kernel)]
   rfl
  ·rw [if_neg c,if_neg c]
   cases hO:rowO own (yK rs p) B p with
   |go B' p'=>exact Wf f B' p' (n+1) as gs (by omega)
   |stop e=>
    simp only
    cases hw:Qe e with
    |false=>
     rw [if_neg Bool.false_ne_true,if_neg Bool.false_ne_true,js (by exact hw)]
     rfl
    |true=>
     rw [if_pos rfl,if_pos rfl]
     cases as with
     |nil=>rfl
     |cons a as=>
      show(if wP a=true then _ else goF rs own f _ _ _ as _)=triple (if Qe e=true then JV rs own (ansS rs own ⟨B,p,n,gs,e⟩ a) as else _)
      rw [hw,if_pos rfl]
      unfold ansS
      cases hn:wP a with
      |true=>
       rw [if_pos rfl,if_pos rfl,js (show Qe (flt "lack")=false by decide+kernel)]
       rfl
      |false=>
       rw [if_neg Bool.false_ne_true,if_neg Bool.false_ne_true]
       have e3:300-(n+1)=f:=by omega
       simp only [e3]
       exact Wf f _ _ _ as _ (by omega)
def Q4 (rs:List Rw)(own:Str)(as:List D):Rn:=JV rs own (runS rs own [] 300 B0 1 0) as
theorem goF_stand {rs:List Rw}{own:Str}(as:List D):goF rs own 300 B0 1 0 as []=triple (Q4 rs own as):=Wf 300 B0 1 0 as [] rfl
structure RnOk (rs:List Rw)(r:Rn):Prop where
 tr:Tr r.B
 p1:1≤r.p
 p2:r.p≤rs.length+1
 n:r.n≤300
 gd:Gd r.th
 two:∃w e,r.th= .tup [.str w,e]
 gs:nL r.gs=true∧dpL r.gs≤30∧r.gs.length≤r.n
 ask:Qe r.th=true→r.p≤rs.length∧(yK rs r.p).1∈ASK∧r.n<300∧∃(u:Str) (d:D),r.th= .tup [.str "asks",.tup [.str u,d]]∧u∈(["thing","has","names"]:List Str)∧isT d=true
mutual
theorem good_n:∀{d:D},good d=true→nD d=true
 | .str _,_=>rfl
 | .tup xs,h=>by
  simp only [good,Bool.and_eq_true] at h
  simp only [nD]
  exact goodL_n h.2
 | .non,h=>by simp [good] at h
 | .bl _,h=>by simp [good] at h
 | .int _,h=>by simp [good] at h
 | .lst,h=>by simp [good] at h
 | .dct,h=>by simp [good] at h
theorem goodL_n:∀{ds:List D},goodL ds=true→nL ds=true
 | [],_=>rfl
 |d::ds,h=>by
  simp only [goodL,Bool.and_eq_true] at h
  simp only [nL]
  rw [good_n h.1,goodL_n h.2]
  rfl
end
theorem nL_app:∀{xs ys:List D},nL xs=true→nL ys=true→nL (xs++ys)=true
 | [],_,_,h=>h
 |x::xs,ys,h,h2=>by
  simp only [nL,Bool.and_eq_true] at h
  simp only [List.cons_append,nL]
  rw [h.1,nL_app h.2 h2]
  rfl
theorem dpL_app (n:Nat){xs ys:List D}(h:dpL xs≤n)(h2:dpL ys≤n):dpL (xs++ys)≤n:=by
 rw [JZ] at h h2⊢
 intro x hx
 rcases List.mem_append.mp hx with hx|hx
 ·exact h x hx
 ·exact h2 x hx
theorem rowO_ask {own:Str}{n:Nat}{r:Rw}{B:Str→D}{p:Int}{e:D}(hr:QP n 160 r)(h:Tr B)(he:rowO own r B p= .stop e)(hw:Qe e=true):r.1∈ASK∧∃(u:Str) (d:D),e= .tup [.str "asks",.tup [.str u,d]]∧u∈(["thing","has","names"]:List Str)∧isT d=true:=by
 unfold rowO at he
 obtain⟨ks,hk,hp⟩:=id hr
 obtain⟨r1,ps⟩:=r
 by_cases c1:r1∈MKR
 ·rw [if_pos c1] at he
  simp only at he
  generalize made r1 B own ps=dm at he
  have key:(if isT dm=true then Out.go (setB B (b0 ps) dm) (p+1) else .stop (flt "big"))= .stop e→False:=by
   intro hq
   by_cases c:isT dm=true
   ·rw [if_pos c] at hq;cases hq
   ·rw [if_neg c] at hq;cases hq;exact absurd hw (by decide+kernel)
  cases dm with
  |non=>cases he;exact absurd hw (by decide+kernel)
  |_=>exact(key he).elim
 rw [if_neg c1] at he
 by_cases c2:r1∈ASK
 ·rw [if_pos c2] at he
  cases he
  refine⟨c2,?_⟩
  obtain⟨_,_,ek⟩:=Xa _ hk c2
  simp only at ek
  subst ek
  obtain⟨z0,z1,rfl,h0,h1⟩:=jn hp
  have hT:=h z1 h1
  have hw:Qe (askF r1 (B z1))=true:=hw
  show∃u d,askF r1 (B z1)=_∧_
  unfold askF at hw⊢
  by_cases d1:r1="names"
  ·rw [if_pos d1] at hw⊢
   by_cases d2:Qd (B z1)=true
   ·rw [if_pos d2];exact⟨_,_,rfl,by decide+kernel,hT⟩
   ·rw [if_neg d2] at hw;exact absurd hw (by decide+kernel)
  ·rw [if_neg d1] at hw⊢
   by_cases d2:isNm (B z1)=true
   ·rw [if_pos d2]
    exact⟨_,_,rfl,by split<;>decide+kernel,hT⟩
   ·rw [if_neg d2] at hw;exact absurd hw (by decide+kernel)
 rw [if_neg c2] at he
 by_cases c3:r1="say"
 ·rw [if_pos c3] at he
  cases he
  exact absurd hw (by simp only [Qe];exact fun h=>absurd (of_decide_eq_true h) (by decide+kernel))
 rw [if_neg c3] at he
 by_cases c4:r1="fault"
 ·rw [if_pos c4] at he;cases he;exact absurd hw (by decide+kernel)
 rw [if_neg c4] at he
 by_cases c5:jump r1 B ps=true
 ·rw [if_pos c5] at he;cases he
 ·rw [if_neg c5] at he;cases he
theorem runS_ok {rs:List Rw}{own:Str}(hR:Yu rs):∀(f:Nat) (B:Str→D) (p:Int) (n:Nat) (gs:List D),f+n=300→Tr B→1≤p→p≤rs.length+1→nL gs=true∧dpL gs≤30∧gs.length≤n→RnOk rs (runS rs own gs f B p n)
 |0,B,p,n,gs,hf,hT,h1,h2,hg=>by
  have hw:Qe (if p>rs.length then flt "silent" else flt "long")=false:=by split<;>decide+kernel
  refine⟨hT,h1,h2,by show n≤300;omega,?_,?_,hg,fun h=>absurd (hw.symm.trans h) (by decide)⟩
  ·show Gd (if p>rs.length then flt "silent" else flt "long")
   split
   ·exact gd_f (by decide+kernel)
   ·exact gd_f (by decide+kernel)
  ·show∃w e,(if p>rs.length then flt "silent" else flt "long")=_
   split
   ·exact⟨_,_,rfl⟩
   ·exact⟨_,_,rfl⟩
 |f+1,B,p,n,gs,hf,hT,h1,h2,hg=>by
  unfold runS
  by_cases c:p>rs.length
  ·rw [if_pos c]
   exact⟨hT,h1,h2,by show n≤300;omega,gd_f (by decide+kernel),⟨_,_,rfl⟩,hg,fun h=>absurd h (show¬Qe (flt "silent")=true by decide+kernel)⟩
  ·rw [if_neg c]
   have hro:=hR.ok _ (Zm h1 (by omega))
   have hok:=rowO_ok (own:=own) hro hT h1 (by omega)
   cases hO:rowO own (yK rs p) B p with
   |go B' p'=>
    rw [hO] at hok
    exact runS_ok hR f B' p' (n+1) gs (by omega) hok.1 hok.2.1 hok.2.2 ⟨hg.1,hg.2.1,by have:=hg.2.2;omega⟩
   |stop e=>
    rw [hO] at hok
    simp only
    refine⟨hT,h1,h2,?_,rowO_gd hro hT hO,hok,⟨hg.1,hg.2.1,?_⟩,fun hw=> ?_⟩
    ·show(if Qe e=true then n else n+1)≤300
     split<;>omega
    ·show gs.length≤(if Qe e=true then n else n+1)
     have:=hg.2.2
     split<;>omega
    ·obtain⟨a1,u,d,a2,a3,a4⟩:=rowO_ask hro hT hO hw
     refine⟨by show p≤rs.length;omega,a1,?_,u,d,a2,a3,a4⟩
     show(if Qe e=true then n else n+1)<300
     rw [if_pos (show Qe e=true from hw)]
     omega
theorem ansS_ok {rs:List Rw}{own:Str}(hR:Yu rs){r:Rn}{a:D}(h:RnOk rs r)(hw:Qe r.th=true)(ha:AnsOk a):RnOk rs (ansS rs own r a):=by
 obtain⟨k1,k2,k3,u,d,e,k4,k5⟩:=h.ask hw
 have hda:nD a=true∧dp a≤12:=by
  rcases ha with rfl|ha
  ·exact⟨rfl,by simp [dp]⟩
  ·exact⟨good_n (JM ha),xp ha⟩
 have hdd:=xp k5
 have hgs:nL (r.gs++ [D.tup [wZ r.th,a]])=true∧dpL (r.gs++ [D.tup [wZ r.th,a]])≤30∧(r.gs++ [D.tup [wZ r.th,a]]).length≤r.n+1:=by
  rw [e]
  show nL (r.gs++ [.tup [.tup [.str u,d],a]])=true∧_
  refine⟨nL_app h.gs.1 ?_,dpL_app 30 h.gs.2.1 ?_,?_⟩
  ·simp only [nL,nD,good_n (JM k5),hda.1,Bool.and_true]
  ·show dpL [.tup [.tup [.str u,d],a]]≤30
   simp only [dpL,dp]
   have:=hda.2
   omega
  ·rw [List.length_append]
   have:=h.gs.2.2
   show r.gs.length+1≤r.n+1
   omega
 unfold ansS
 cases hn:wP a with
 |true=>
  rw [if_pos rfl]
  exact⟨h.tr,h.p1,h.p2,by show r.n+1≤300;omega,⟨(by decide+kernel:good (flt "lack")=true),by show dp (.tup [.str "fault",.str "lack"])≤20;simp [dp,dpL]⟩,⟨_,_,rfl⟩,hgs,fun h=>absurd h (show¬Qe (flt "lack")=true by decide+kernel)⟩
 |false=>
  rw [if_neg Bool.false_ne_true]
  have hT:isT a=true:=by
   rcases ha with rfl|ha
   ·cases hn
   ·exact ha
  refine runS_ok hR _ _ _ _ _ (by omega) (zL h.tr hT) (by have:=h.p1;omega) (by omega) hgs
theorem goneS_ok {rs:List Rw}{own:Str}(hR:Yu rs):∀(as:List D) (r:Rn),RnOk rs r→(∀a∈as,AnsOk a)→RnOk rs (JV rs own r as)
 | [],r,h,_=>h
 |a::as,r,h,ha=>by
  unfold JV
  cases hw:Qe r.th with
  |true=>
   rw [if_pos rfl]
   exact goneS_ok hR as _ (ansS_ok hR h hw (ha a List.mem_cons_self)) fun x hx=>ha x (List.mem_cons_of_mem _ hx)
  |false=>rw [if_neg Bool.false_ne_true];exact h
theorem stand_ok {rs:List Rw}{own:Str}(hR:Yu rs){as:List D}(ha:∀a∈as,AnsOk a):RnOk rs (Q4 rs own as):=
 goneS_ok hR as _ (runS_ok hR 300 B0 1 0 [] rfl B0_tr (by omega) (by omega) ⟨rfl,by simp [dpL],Nat.le_refl _⟩) ha
end K13
namespace K13
open PySem L2 PyProof.Rows
theorem ptsOk_up {n n' m m':Nat}(h1:n≤n')(h2:m≤m'):∀{ks:List Kd}{ps:List Pt},jo n m ks ps→jo n' m' ks ps
 | [],[],_=>trivial
 |k::ks,q::ps,h=>by
  refine⟨?_,ptsOk_up h1 h2 h.2⟩
  have hq:=h.1
  cases k<;>cases q<;>simp only [ptOk] at hq⊢
  ·exact hq
  ·exact⟨hq.1,by omega⟩
  ·exact⟨by omega,hq.2⟩
 | [],_::_,h=>h.elim
 |_::_,[],h=>h.elim
theorem QP.up {n n' m m':Nat}{r:Rw}(h1:n≤n')(h2:m≤m')(h:QP n m r):QP n' m' r:=let⟨ks,hk,hp⟩:=h;⟨ks,hk,ptsOk_up h1 h2 hp⟩
theorem dp_lines:∀rs:List Rw,dpL (rs.map fun r=> .str (qC r))≤1
 | []=>by simp [dpL]
 |r::rs=>by
  have:=dp_lines rs
  simp only [List.map_cons,dpL,dp]
  omega
theorem Z6:∀rs:List Rw,(∀r∈rs,yu (qC r)=true)→goodL (rs.map fun r=> .str (qC r))=true
 | [],_=>rfl
 |r::rs,h=>by
  simp only [List.map_cons,goodL,good]
  rw [h r List.mem_cons_self,Z6 rs fun x hx=>h x (List.mem_cons_of_mem _ hx)]
  rfl
theorem rule_tree {rs:List Rw}{m:Nat}(hl:rs.length≤40)(hm:m≤160)(h:∀r∈rs,QP rs.length m r)(hc:∀r∈rs,(qC r).length≤300)(hs:szL (rs.map fun r=> .str (qC r))≤599):isT (yM rs)=true:=by
 have h2:=dp_lines rs
 have h3:=Z6 rs fun r hr=>by
  unfold yu
  rw [line_all hl (h r hr),decide_eq_true (hc r hr)]
  rfl
 have e1:sz (yM rs)=1+szL (rs.map fun r=> .str (qC r)):=by unfold yM;simp only [sz]
 have e2:dp (yM rs)=1+dpL (rs.map fun r=> .str (qC r)):=by unfold yM;simp only [dp]
 have e3:good (yM rs)=true:=by
  unfold yM
  simp only [good]
  rw [h3,List.length_map,decide_eq_true (by omega)]
  rfl
 unfold isT
 rw [e3,decide_eq_true (p:=sz (yM rs)≤600) (by omega),decide_eq_true (p:=dp (yM rs)≤12) (by omega)]
 rfl
end K13
namespace K13
open PySem L2 PyProof.Rows
def AnsFor (u:Str)(a:D):Prop:=(u="thing"∧AnsOk a)∨(u="has"∧(a= .str "yes"∨a= .str "no"))∨(u="names"∧∃zs:List Str,a= .tup (zs.map D.str)∧(∀z∈zs,nm z=true)∧isT a=true)
theorem AnsFor.ok {u:Str}{a:D}(h:AnsFor u a):AnsOk a:=by
 rcases h with⟨_,h⟩|⟨_,rfl|rfl⟩|⟨_,zs,rfl,_,h⟩
 ·exact h
 ·exact .inr (by decide+kernel)
 ·exact .inr (by decide+kernel)
 ·exact .inr h
def sp_rown:Sp:=fun vs H Q _=>∃(v:V) (zs:List Str),vs= [v]∧Is H (.tup (zs.map D.str)) v∧zs.length≤1000∧(∀z∈zs,nm z=true)∧∀H',Same H H'→Q (.bl true) H'
def sp_isans:Sp:=fun vs H Q _=>∃(v1 v2:V) (u:Str) (d a:D),vs= [v1,v2]∧Is H (.tup [.str u,d]) v1∧Is H a v2∧AnsFor u a∧∀H',Same H H'→Q (.bl true) H'
def sp_ans (C:Addr):Sp:=fun vs H Q _=>∃(m:Mc) (r:Rn) (v:V) (u:Str) (d a:D),vs= [.ref m.x,v]∧Yd C H m r∧RnOk m.rs r∧r.th= .tup [.str "asks",.tup [.str u,d]]∧Is H a v∧AnsFor u a∧Yu m.rs∧m.own.length≤100∧
 ∀H',Mv m H H'→Yd C H' m (ansS m.rs m.own r a)→Q .non H'
section
variable {P:Program}{w:World}{K:PySem.W.Frag}{mg:Str→Option Value}{base:Heap}{a:Ad}{g:Ga}
theorem ok_rown (T:Tx K mg a):FnOk P w K mg base CX0 2 a.Q2 a.Q6 ["tree"] sp_rown:=by
 have Jh:FnOk P w K mg base CX0 1 a.jJ a.jD ["value"] Wb:=ok_name T
 refine T.jt.ok xG (fun vs H Q E h=> ?_) (fun cdv A outer s H vs Q E hr h=> ?_)
 ·obtain⟨v,zs,rfl,_⟩:=h
  rfl
 obtain⟨v,zs,rfl,iv,hl,hz,k⟩:=h
 refine⟨_,(@qe _ _ _ (@qk _ _ _ _ (@XA _ _ _ _ _ _ _ (@qj _ _ _ _ _ _ _ _ _ (@qw _ _ rfl) (by rfl) T.qt boot_isinstance (@qa _ _ _ _ _ (pv 0) (@qa _ _ _ _ _ (@qV _ _ (.ty "tuple") _ _ (by rfl) T.Qi boot_tuple rfl (by trivial) (by trivial)) (@qc _) (by trivial)) (by trivial)) (by trivial) (by trivial) (by trivial) (by trivial)) (@XD _ _ _ _ _ (@qj _ _ _ _ _ _ _ _ _ (@YZ _ rfl) (by rfl) T.z_all boot_all (@qa _ _ _ _ _ (@Xi _ _ (["part"]) (1) ([]) _ _ _ _ _ _ _ _ _ (lcs0) rfl (@JC _ _ _ _ (pv 0)) (fun _ _ _ _ _ _=>(@Qm _ _ (0) _ (show List.Nodup (["part"]:List Str) by decide+kernel) rfl (Or.inl rfl) (by trivial))) (fun _ _ _ _ _ _=> @yC _) (fun _ _ _ _ _ _=>(@qA _ _ _ _ _ _ _ _ _ _ _ _ _ _ _ _ Jh (hr.mono (by first|decide|omega)) (by rfl) T.Zn T.xY.kp T.Zp .nil qQ (@qa _ _ _ _ _ (pv 0) (@qc _) (by trivial)) (by trivial) (by trivial) (by trivial))) (by trivial)) (@qc _) (by trivial)) (by trivial) (by trivial) (by trivial) (by trivial)))))),?_⟩
 refine⟨_,rfl,v,"tuple",tyD (.tup (zs.map D.str)),xV (.tup (zs.map D.str)),rfl,iv.ty,Y6 _,?_⟩
 refine⟨_,rfl,iteT ?_⟩
 obtain⟨a0,vs,rfl,ha0,hvs⟩:=iv
 refine⟨_,rfl,a0,vs,rfl,SqT.of ha0,fun hvl A0 hA0=> ?_⟩
 refine xa (tl:= []) (fun d=> .bl true) ha0 hvs (qU (by rw [List.length_map];exact hl)) hA0 (fun d0 x0 H3 R hd0 s3 i3 r=> ?_) fun H1 ys s1 l1 i1=> ?_
 ·obtain⟨z,hzm,rfl⟩:=List.mem_map.mp hd0
  refine⟨_,rfl,x0,.str z,rfl,i3,fun H4 s4=> ?_⟩
  have e:isNm (.str z)=true:=hz z hzm
  rw [e]
  exact r _ H4 s4 rfl
 have ey:ys=((zs.map D.str).map fun _=>true).map V.bl:=IsL.bls (by rw [List.map_map];exact i1)
 refine⟨A0,(zs.map D.str).map fun _=>true,rfl,SqL.of (by rw [l1,ey]),?_⟩
 have:((zs.map D.str).map fun _=>true).all id=true:=by rw [List.all_map];simp
 rw [this]
 exact k H1 s1
theorem ok_isans (T:Tx K mg a):FnOk P w K mg base CX0 3 a.jL a.jU ["ask","answer"] sp_isans:=by
 have Jq:FnOk P w K mg base CX0 2 a.jF a.jy ["value"] JG:=Xd T
 have Xp:FnOk P w K mg base CX0 2 a.Q2 a.Q6 ["tree"] sp_rown:=ok_rown T
 refine T.zx.ok sc_is_answer (fun vs H Q E h=> ?_) (fun cdv A outer s H vs Q E hr h=> ?_)
 ·obtain⟨v1,v2,u,d,a,rfl,_⟩:=h
  rfl
 obtain⟨v1,v2,u,d,an,rfl,i1,i2,ha,k⟩:=h
 refine⟨_,(@qb _ _ _ _ _ (@qI _ _ _ _ _ _ _ _ (@qp _ _ _ _ _ _ _ _ (@Z7 _) (pv 1) (@Qn _ _ _) (qz _)) (@qe _ _ _ (@qk _ _ _ _ (@Q0 _ _ _ _ _ _ _ _ (@QL _) (@qL _ _ _ _ _ _ _ (@jA _) (pv 0) (@qi _ _ _ _) (fun _ _=>rfl)) (@qh _ _ _ _) (qz _)))) (@qr _)) (@qb _ _ _ _ _ (@qI _ _ _ _ _ _ _ _ (@Qo _ _ _ _ (@qT _ _ _ (@qA _ _ _ _ _ _ _ _ _ _ _ _ _ _ _ _ Jq (hr.mono (by first|decide|omega)) (by rfl) T.zn T.xk.kp T.zH .nil qQ (@qa _ _ _ _ _ (pv 1) (@qc _) (by trivial)) (by trivial) (by trivial) (by trivial)) (by trivial))) (@qe _ _ _ (@qk _ _ _ _ (@Jv _ _ _ _))) (@qr _)) (@qb _ _ _ _ _ (@qI _ _ _ _ _ _ _ _ (@qp _ _ _ _ _ _ _ _ (@QL _) (@qL _ _ _ _ _ _ _ (@jA _) (pv 0) (@qi _ _ _ _) (fun _ _=>rfl)) (@qh _ _ _ _) (qz _)) (@qe _ _ _ (@qk _ _ _ _ (@Q0 _ _ _ _ _ _ _ _ (@QX _) (pv 1) (@qP _ _ _ _ _ (@qa _ _ _ _ _ (@qh _ _ _ _) (@qa _ _ _ _ _ (@qh _ _ _ _) (@qc _) (by trivial)) (by trivial))) (by with_unfolding_all rfl)))) (@qr _)) (@qe _ _ _ (@qk _ _ _ _ (@pe_or _ _ _ _ _ _ _ (@Q0 _ _ _ _ _ _ _ _ (@QL _) (@qL _ _ _ _ _ _ _ (@jA _) (pv 0) (@qi _ _ _ _) (fun _ _=>rfl)) (@qh _ _ _ _) (qz _)) (@XD _ _ _ _ _ (@qA _ _ _ _ _ _ _ _ _ _ _ _ _ _ _ _ Xp (hr.mono (by first|decide|omega)) (by rfl) T.Xm T.jt.kp T.Xs .nil qQ (@qa _ _ _ _ _ (pv 1) (@qc _) (by trivial)) (by trivial) (by trivial) (by trivial))))))))),?_⟩
 have two:(2:Nat)≤sizeLine:=by decide
 have es:∀y:Str,decide (V.str u=V.str y)=decide (u=y):=fun y=>by
  rw [decide_eq_decide]
  exact⟨fun h=>by injection h,fun h=>by rw [h]⟩
 have iu:∀{H:Hp}{Q:VK},Is H (.tup [.str u,d]) v1→Q (.str u) H→rIxT K v1 (.int 0) H Q:=fun{H Q} i q=>jT (i:=0) (d:= .str u) i (QI (j:=0) rfl) fun x hx=>by
  obtain⟨rfl,_⟩:=hx
  exact q
 refine⟨_,rfl,rfl,_,rfl,?_⟩
 by_cases cn:an= .non
 ·subst cn
  cases(show v2= .non from i2)
  refine qG (by decide+kernel) ?_
  refine⟨_,rfl,.inr (.inl (iu i1 ⟨rfl,?_⟩))⟩
  rcases ha with⟨rfl,_⟩|⟨_,h|h⟩|⟨_,zs,h,_⟩
  ·exact k H (Same.refl _)
  ·cases h
  ·cases h
  ·cases h
 ·have hun:v2≠ .non:=We i2 cn
  have hT:isT an=true:=ha.ok.resolve_left cn
  refine qo (decide_eq_false hun) ?_
  refine⟨_,rfl,v2,an,rfl,i2,fun H1 s1=>⟨_,rfl,?_⟩⟩
  rw [hT]
  refine iteF ?_
  refine⟨_,rfl,.inr (.inl (iu (i1.mono s1.tk) ⟨rfl,_,rfl,?_⟩))⟩
  rcases ha with⟨rfl,_⟩|⟨rfl,h⟩|⟨rfl,zs,rfl,hz,_⟩
  ·refine qo (by decide+kernel) ?_
   refine⟨_,rfl,.inr (.inl (iu (i1.mono s1.tk) ⟨rfl,?_⟩))⟩
   refine⟨_,rfl,?_⟩
   rw [if_pos (decide_eq_true rfl)]
   exact k _ s1
  ·refine qG (by decide+kernel) ?_
   refine⟨_,rfl,two,fun t1 h1=> ?_⟩
   have s2:=qd h1 (.tup [.str "yes",.str "no"])
   have hy:∃y:Str,v2= .str y∧(y="yes"∨y="no"):=by
    rcases h with rfl|rfl
    ·exact⟨_,i2.1,.inl rfl⟩
    ·exact⟨_,i2.1,.inr rfl⟩
   obtain⟨y,rfl,hy⟩:=hy
   refine⟨t1,_,rfl,.inr (SqT.of qf),rfl,rfl,?_⟩
   have e:inV (.str y) [.str "yes",.str "no"]=true:=by
    rcases hy with rfl|rfl<;>decide+kernel
   rw [if_neg Bool.false_ne_true,e]
   exact k _ (s1.trans s2)
  ·refine qo (by decide+kernel) ?_
   refine⟨_,rfl,.inr (.inl (iu (i1.mono s1.tk) ⟨rfl,_,rfl,?_⟩))⟩
   rw [if_neg (by decide+kernel)]
   refine⟨_,rfl,v2,zs,rfl,i2.mono s1.tk,?_,hz,fun H2 s2=>k H2 (s1.trans s2)⟩
   have hg:=JM hT
   simp only [good,Bool.and_eq_true] at hg
   have:=of_decide_eq_true hg.1
   rw [List.length_map] at this
   omega
theorem ok_ans (T:Tx K mg a)(C:Fx K w mg g a):FnOk P w K mg base CX0 6 a.ym a.yk ["self","tree"] (sp_ans a.qq):=by
 have yb:FnOk P w K mg base CX0 1 a.Qj a.Ql ["self"] (sp_wait a.qq):=ok_wait T
 have G_is_answer:FnOk P w K mg base CX0 3 a.jL a.jU ["ask","answer"] sp_isans:=ok_isans T
 have YV:FnOk P w K mg base CX0 5 a.QZ a.QY ["self"] (sp_goon a.qq):=ok_goon T C
 refine T.X2.ok jE (fun vs H Q E h=> ?_) (fun cdv A outer s H vs Q E hr h=> ?_)
 ·obtain⟨m,r,v,u,d,an,rfl,_⟩:=h
  rfl
 obtain⟨m,⟨B,p,n,gs,th⟩,v,u,d,an,rfl,M,hO,hth,iv,ha,hR,hol,k⟩:=h
 simp only at hth
 subst hth
 refine⟨_,(@qb _ _ _ _ _ (@qI _ _ _ _ _ _ _ _ (@Qo _ _ _ _ (@qT _ _ _ (@jP _ _ _ _ _ _ _ _ _ _ _ _ _ _ _ _ _ (pv 0) T.ql T.Yv yb (hr.mono (by first|decide|omega)) T.Yw .nil qQ (by trivial)) (by trivial))) (@qe _ _ _ (@X9 _ _)) (@qr _)) (@qb _ _ _ _ _ (@qB _ _ (2) _ _ _ _ jE.nd rfl (Or.inl rfl) (@qL _ _ _ _ _ _ _ (@jA _) (@ya _ _ _ _ _ (pv 0) rfl) (@qi _ _ _ _) (fun _ _=>rfl)) (by trivial) (by trivial)) (@qb _ _ _ _ _ (@qI _ _ _ _ _ _ _ _ (@Qo _ _ _ _ (@qT _ _ _ (@qA _ _ _ _ _ _ _ _ _ _ _ _ _ _ _ _ G_is_answer (hr.mono (by first|decide|omega)) (by rfl) T.m_is_answer T.zx.kp T.b_is_answer .nil qQ (@qa _ _ _ _ _ (pv 2) (@qa _ _ _ _ _ (pv 1) (@qc _) (by trivial)) (by trivial)) (by trivial) (by trivial) (by trivial)) (by trivial))) (@qe _ _ _ (@X9 _ _)) (@qr _)) (@qb _ _ _ _ _ (@jq _ _ _ _ (@Xx _ _ _ _ _ _ _ _ _ _ _ _ PySem.F.plainAttrs_list PySem.F.slot_list_append PySem.F.type_list_append (@Jw _) (@ya _ _ _ _ _ (pv 0) rfl) (@qa _ _ _ _ _ (@qP _ _ _ _ _ (@qa _ _ _ _ _ (pv 2) (@qa _ _ _ _ _ (pv 1) (@qc _) (by trivial)) (by trivial))) (@qc _) (by trivial)) (by trivial) (by trivial) (by trivial) (by trivial) (by trivial)) (by trivial)) (@qb _ _ _ _ _ (@Jk _ _ _ _ _ _ _ _ _ _ (pv 0) (@qi _ _ _ _) in_add) (@qb _ _ _ _ _ (@qI _ _ _ _ _ _ _ _ (@qp _ _ _ _ _ _ _ _ (@Z7 _) (pv 1) (@Qn _ _ _) (qz _)) (@qb _ _ _ _ _ (@yN _ _ _ _ _ _ _ _ (pv 0) (@qP _ _ _ _ _ (@qa _ _ _ _ _ (@qh _ _ _ _) (@qa _ _ _ _ _ (@qh _ _ _ _) (@qc _) (by trivial)) (by trivial))) rfl) (@qe _ _ _ (@ps_retN _ _))) (@qr _)) (@qb _ _ _ _ _ (@ps_dput _ _ _ _ _ _ _ _ _ (yd hr) (@ya _ _ _ _ _ (pv 0) rfl) (@qL _ _ _ _ _ _ _ (@jA _) (@qL _ _ _ _ _ _ _ (@jA _) (@qL _ _ _ _ _ _ _ (@Qk _) (@ya _ _ _ _ _ (pv 0) rfl) (@qD _ _ _ _ _ _ _ _ (@xx _) (@ya _ _ _ _ _ (pv 0) rfl) (@qi _ _ _ _)) (fun _ _=>rfl)) (@qi _ _ _ _) (fun _ _=>rfl)) (@qi _ _ _ _) (fun _ _=>rfl)) (pv 1) rfl) (@qb _ _ _ _ _ (@Jk _ _ _ _ _ _ _ _ _ _ (pv 0) (@qi _ _ _ _) in_add) (@qb _ _ _ _ _ (@yN _ _ _ _ _ _ _ _ (pv 0) (@Qn _ _ _) rfl) (@qe _ _ _ (@jq _ _ _ _ (@jP _ _ _ _ _ _ _ _ _ _ _ _ _ _ _ _ _ (pv 0) T.ql T.JB YV (hr.mono (by first|decide|omega)) T.Jr .nil qQ (by trivial)) (by trivial)))))))))))),?_⟩
 have two:(2:Nat)≤sizeLine:=by decide
 have hw:Qe (.tup [.str "asks",.tup [.str u,d]])=true:=by simp [Qe]
 obtain⟨hp1,hask,hn3,_⟩:=hO.ask hw
 have hp0:=hO.p1
 have hgsl:=hO.gs.2.2
 have hTr:=hO.tr
 simp only at hp1 hask hn3 hp0 hgsl hTr
 have hM:=M
 obtain⟨dx,fs,rv,ru,tv,gv,e,f,ir,ij,ib,hg,gl,it⟩:=hM
 simp only at f ib gl it
 have hlt:fs.length<1000:=by have:=f.len;omega
 refine⟨_,rfl,m.x,dx,fs,rfl,e,f.meth _ (by decide+kernel),m,_,rfl,M,.inr ⟨_,_,rfl⟩,_,rfl,?_⟩
 refine qo (by show(!Qe (.tup [.str "asks",.tup [.str u,d]]))=false;rw [hw];rfl) ?_
 refine⟨_,rfl,m.x,_,dx,fs,_,rfl,e,T.ql,T.qE,f.there,.inr (.inl (jT (i:=1) it (QI (j:=1) rfl) fun q hq=> ?_))⟩
 refine⟨_,rfl,_,rfl,q,v,u,d,an,rfl,hq,iv,ha,fun H1 s1=>⟨_,rfl,iteF ?_⟩⟩
 refine⟨_,rfl,m.x,_,dx,fs,_,rfl,s1 _ _ e,T.ql,T.Y9,f.given,.inl ⟨rfl,_,SqL.of (s1 _ _ hg)⟩,_,rfl,_,rfl,two,fun t1 h1=> ?_⟩
 have s2:=qd h1 (.tup [q,v])
 have ip:Is (upd H1 t1 (.tup [q,v])) (.tup [.tup [.str u,d],an]) (.ref t1):=Is.new (ds:= [.tup [.str u,d],an]) ⟨_,_,rfl,hq.mono s1.tk,_,_,rfl,iv.mono s1.tk,rfl⟩ h1
 have S2:=s1.trans s2
 generalize upd H1 t1 (.tup [q,v])=H2 at s2 ip S2⊢
 have hgl:gv.length=gs.length:=gl.length
 have hg2:=S2 _ _ hg
 refine⟨m.dg,gv,_,rfl,rfl,hg2,Jl (by omega),?_⟩
 have t3:Tk H2 (upd H2 m.dg (.lst (gv++ [.ref t1]))):=Tk.updL hg2
 have nxg:m.x≠m.dg:=fun z=>by rw [←z,e] at hg;cases hg
 have nbg:m.db≠m.dg:=fun z=>by
  obtain⟨ff,e2,_⟩:=ib
  rw [z,hg] at e2
  cases e2
 have e3:(upd H2 m.dg (.lst (gv++ [.ref t1]))) m.x=some (.ins a.qq dx fs):=by rw [qu nxg];exact S2 _ _ e
 have T3:Tk H (upd H2 m.dg (.lst (gv++ [.ref t1]))):=S2.tk.trans t3
 have ib3:=(ib.same S2).move t3 (qu nbg)
 have gl3:L2.IsL (upd H2 m.dg (.lst (gv++ [.ref t1]))) (gs++ [.tup [.tup [.str u,d],an]]) (gv++ [.ref t1]):=(gl.mono T3).append (IsL.one (ip.mono t3))
 have hg3:(upd H2 m.dg (.lst (gv++ [.ref t1]))) m.dg=some (.lst (gv++ [.ref t1])):=qf
 have mv3:Mv m H (upd H2 m.dg (.lst (gv++ [.ref t1]))):=⟨fun b o h _ _ n3=>by rw [qu n3];exact S2 b o h,T3⟩
 generalize upd H2 m.dg (.lst (gv++ [.ref t1]))=H3 at t3 e3 T3 ib3 gl3 hg3 mv3⊢
 refine⟨_,rfl,m.x,_,dx,fs,_,rfl,e3,T.ql,T.QT,f.done,(n:Int),1,rfl,rfl,dx,fs,e3,hlt,?_⟩
 obtain⟨M4,mv4⟩:=yp (r:=⟨B,p,n+1,gs++ [.tup [.tup [.str u,d],an]],.tup [.str "asks",.tup [.str u,d]]⟩) e3 (f.set_done (k:=n+1)) (ir.mono T3) (ij.mono T3) ib3 hg3 gl3 (it.mono T3)
 have mv4':=mv3.trans mv4
 have iv4:=iv.mono mv4'.tk
 show tSeq _ _ _ _ (upd H3 m.x (.ins a.qq dx (putF "done" (.int ((n+1:Nat):Int)) fs)))
 generalize upd H3 m.x (.ins a.qq dx (putF "done" (.int ((n+1:Nat):Int)) fs))=H4 at M4 mv4 mv4' iv4⊢
 obtain⟨dx4,fs4,rv4,ru4,tv4,gv4,e4,f4,ir4,ij4,ib4,hg4,gl4,it4⟩:=M4
 simp only at f4 ib4 gl4 it4
 have hlt4:fs4.length<1000:=by have:=f4.len;omega
 refine⟨_,rfl,rfl,_,rfl,?_⟩
 by_cases cn:an= .non
 ·subst cn
  cases(show v= .non from iv)
  refine qG (by decide+kernel) ?_
  refine⟨two,fun l hl=> ?_⟩
  have s5:=qd hl (.tup [.str "fault",.str "lack"])
  refine⟨_,rfl,m.x,_,dx4,fs4,rfl,s5 _ _ e4,T.ql,T.qE,hlt4,?_⟩
  obtain⟨m1,m2⟩:=yp (r:=⟨B,p,n+1,gs++ [.tup [.tup [.str u,d],.non]],flt "lack"⟩) (s5 _ _ e4) (f4.set_there (u:= .ref l)) (ir4.mono s5.tk) (ij4.mono s5.tk) (ib4.same s5) (s5 _ _ hg4) (gl4.mono s5.tk) (Is.new (ds:= [.str "fault",.str "lack"]) ⟨_,_,rfl,⟨rfl,qU (by decide)⟩,_,_,rfl,⟨rfl,qU (by decide)⟩,rfl⟩ hl)
  exact k _ (mv4'.trans ((Mv.of s5).trans m2)) m1
 ·have hT:isT an=true:=ha.ok.resolve_left cn
  have hun:v≠ .non:=We iv cn
  have enn:wP an=false:=by
   cases an with
   |non=>exact absurd rfl cn
   |_=>rfl
  refine qo (decide_eq_false hun) ?_
  obtain⟨z0,z1,er2,hz0,_⟩:=wds1a hR.n1 (hR.ok _ (Zm hp0 hp1)) hask
  have eb0:b0 (yK m.rs p).2=z0:=by rw [er2];rfl
  obtain⟨kvs,hput,hb5,t5⟩:=ib4.put hz0 iv4
  have eat:atI (m.rs.map rowD) (p-1)=some (rowD (yK m.rs p)):=by
   rw [show p-1=((p.toNat-1:Nat):Int) by omega]
   exact QI (by rw [List.getElem?_map,wn hp0 hp1];rfl)
  have n14:m.db≠m.x:=Q8.ne e4 ib4
  have ngb:m.dg≠m.db:=nbg.symm
  refine⟨_,rfl,_,rfl,m.x,_,dx4,fs4,_,rfl,e4,T.ql,T.Qt,f4.boxes,_,rfl,m.x,_,dx4,fs4,_,rfl,e4,T.ql,T.Yl,f4.rows,_,rfl,m.x,_,dx4,fs4,_,rfl,e4,T.ql,T.Qa,f4.place,_,_,rfl,rfl,?_⟩
  refine jT (d:=rowD (yK m.rs p)) ir4 eat fun q5 hq5=> ?_
  refine .inr (.inl (jT (i:=1) hq5 (QI (j:=1) rfl) fun q6 hq6=> ?_))
  rw [er2] at hq6
  refine .inr (.inl (jT (i:=0) (d:= .str z0) hq6 (QI (j:=0) rfl) fun q7 hq7=> ?_))
  obtain⟨rfl,_⟩:=hq7
  refine⟨m.db,_,rfl,hput,?_⟩
  have e5:(upd H4 m.db (.dK kvs)) m.x=some (.ins a.qq dx4 fs4):=by rw [qu n14.symm];exact e4
  refine⟨_,rfl,m.x,_,dx4,fs4,_,rfl,e5,T.ql,T.Qa,f4.place,p,1,rfl,rfl,dx4,fs4,e5,hlt4,?_⟩
  obtain⟨M6,mv6⟩:=yp (r:=⟨setB B z0 an,p+1,n+1,gs++ [.tup [.tup [.str u,d],an]],.tup [.str "asks",.tup [.str u,d]]⟩) e5 (f4.set_place (q:=p+1)) (ir4.mono t5) (ij4.mono t5) hb5 (by rw [qu ngb];exact hg4) (gl4.mono t5) (it4.mono t5)
  have mv6':=mv4'.trans (Mv.trans ⟨fun b o h _ a2 _=>by rw [qu a2];exact h,t5⟩ mv6)
  obtain⟨dx6,fs6,rv6,ru6,tv6,gv6,e6,f6,ir6,ij6,ib6,hg6,gl6,it6⟩:=M6
  simp only at f6 ib6 gl6 it6
  have hlt6:fs6.length<1000:=by have:=f6.len;omega
  refine⟨_,rfl,m.x,_,dx6,fs6,rfl,e6,T.ql,T.qE,hlt6,?_⟩
  obtain⟨M7,mv7⟩:=yp (r:=⟨setB B z0 an,p+1,n+1,gs++ [.tup [.tup [.str u,d],an]],.non⟩) e6 (f6.set_there (u:= .non)) ir6 ij6 ib6 hg6 gl6 rfl
  have mv7':=mv6'.trans mv7
  obtain⟨dx7,fs7,rv7,ru7,tv7,gv7,e7,f7,r7⟩:=id M7
  refine⟨_,rfl,m.x,dx7,fs7,rfl,e7,f7.meth _ (by decide+kernel),m,_,rfl,M7,rfl,zL hTr hT,hol,hR,by show 1≤p+1;omega,by show p+1≤_;omega,by show n+1≤300;omega,fun H8 mv8 M8=>k H8 (mv7'.trans mv8) ?_⟩
  unfold ansS
  rw [enn,if_neg Bool.false_ne_true]
  simp only
  rw [eb0]
  exact M8
end
end K13
namespace K13
open PySem L2 PyProof.Rows
def ptB (n m:Nat):Kd→Pt→Bool
 | .box,.s z=>decide (z∈BX)
 | .line,.n i=>decide (1≤i)&&decide (i≤(n:Int))
 | .words,.s z=>decide (z.length≤m)&&z.cps.toList.all Qg
 |_,_=>false
def ptsB (n m:Nat):List Kd→List Pt→Bool
 | [],[]=>true
 |k::ks,p::ps=>ptB n m k p&&ptsB n m ks ps
 |_,_=>false
theorem ptsB_ok {n m:Nat}:∀{ks:List Kd}{ps:List Pt},ptsB n m ks ps=true→jo n m ks ps
 | [],[],_=>trivial
 |k::ks,p::ps,h=>by
  simp only [ptsB,Bool.and_eq_true] at h
  refine⟨?_,ptsB_ok h.2⟩
  have h1:=h.1
  cases k<;>cases p<;>simp only [ptB,Bool.and_eq_true,decide_eq_true_eq,Bool.false_eq_true] at h1<;>exact h1
 | [],_::_,h=>by simp [ptsB] at h
 |_::_,[],h=>by simp [ptsB] at h
def rowB (n m:Nat)(r:Rw):Bool:=FRM.any fun x=>decide (x.1=r.1)&&ptsB n m x.2 r.2
theorem rowB_ok {n m:Nat}{r:Rw}(h:rowB n m r=true):QP n m r:=by
 obtain⟨x,hx,h2⟩:=List.any_eq_true.mp h
 rw [Bool.and_eq_true,decide_eq_true_eq] at h2
 exact⟨x.2,by rw [←h2.1];exact hx,ptsB_ok h2.2⟩
def twoB:List Rw→Bool
 |a::b::r=> !(decide (a.1∈ASK)&&decide (b.1∈ASK))&&twoB (b::r)
 |_=>true
structure Dr (rs:List Rw):Prop where
 rule:Yu rs
 two:twoB rs=true
def ruS (rs:List Rw):Nat:=(rs.map fun r=>(qC r).length+1).sum
theorem sz_sum:∀rs:List Rw,szL (rs.map fun r=> .str (qC r))=ruS rs
 | []=>by simp [szL,ruS]
 |r::rs=>by
  have:=sz_sum rs
  simp only [ruS,List.map_cons,szL,sz,List.sum_cons] at this⊢
  omega
theorem dr_of {rs:List Rw}(h0:1≤rs.length)(h1:rs.length≤40)(hok:∀r∈rs,QP rs.length 160 r∧(qC r).length≤300)(hs:ruS rs≤599)(h2:twoB rs=true):Dr rs:=
 ⟨⟨h0,h1,fun r hr=>(hok r hr).1,rule_tree (m:=160) h1 (by decide) (fun r hr=>(hok r hr).1) (fun r hr=>(hok r hr).2) (by rw [sz_sum];exact hs)⟩,h2⟩
def chk (rs:List Rw):Bool:=decide (1≤rs.length)&&decide (rs.length≤40)&&rs.all (fun r=>rowB rs.length 160 r&&decide ((qC r).length≤300))&&decide (ruS rs≤599)&&twoB rs
theorem Yr {rs:List Rw}(h:chk rs=true):Dr rs:=by
 simp only [chk,Bool.and_eq_true,decide_eq_true_eq,List.all_eq_true] at h
 exact dr_of h.1.1.1.1 h.1.1.1.2 (fun r hr=>⟨rowB_ok (h.1.1.2 r hr).1,(h.1.1.2 r hr).2⟩) h.1.2 h.2
def tx (b z:Str):Rw:=("text",[.s b,.s z])
theorem tx_a (z:Str):("text a "++z:Str)=qC (tx "a" z):=by
 show _=Str.join " " ["text","a",z]
 rw [show("text a ":Str)=("text":Str)++(" ":Str)++(("a":Str)++(" ":Str)) by decide+kernel]
 show(⟨((("text":Str).cps++(" ":Str).cps)++(("a":Str).cps++(" ":Str).cps))++z.cps⟩:Str)=⟨(("text":Str).cps++(" ":Str).cps)++((("a":Str).cps++(" ":Str).cps)++z.cps)⟩
 simp [Array.append_assoc]
theorem tx_b (z:Str):("text b "++z:Str)=qC (tx "b" z):=by
 show _=Str.join " " ["text","b",z]
 rw [show("text b ":Str)=("text":Str)++(" ":Str)++(("b":Str)++(" ":Str)) by decide+kernel]
 show(⟨((("text":Str).cps++(" ":Str).cps)++(("b":Str).cps++(" ":Str).cps))++z.cps⟩:Str)=⟨(("text":Str).cps++(" ":Str).cps)++((("b":Str).cps++(" ":Str).cps)++z.cps)⟩
 simp [Array.append_assoc]
theorem zB (i:Int):("like a b "++toString i:Str)=qC ("like",[.s "a",.s "b",.n i]):=by
 show _=Str.join " " ["like","a","b",toString i]
 rw [show("like a b ":Str)=("like":Str)++(" ":Str)++(("a":Str)++(" ":Str))++(("b":Str)++(" ":Str)) by decide+kernel]
 show(⟨(((("like":Str).cps++(" ":Str).cps)++(("a":Str).cps++(" ":Str).cps))++(("b":Str).cps++(" ":Str).cps))++(toString i:Str).cps⟩:Str)=⟨(("like":Str).cps++(" ":Str).cps)++((("a":Str).cps++(" ":Str).cps)++((("b":Str).cps++(" ":Str).cps)++(toString i:Str).cps))⟩
 simp [Array.append_assoc]
theorem wV (i:Int):("go "++toString i:Str)=qC ("go",[.n i]):=by
 show _=Str.join " " ["go",toString i]
 rw [show("go ":Str)=("go":Str)++(" ":Str) by decide+kernel]
 rfl
def longText (k:Int):List Rw:= [tx "a" (Txt.mul "q" (k/2)),("join",[.s "a",.s "a"]),tx "b" (Txt.mul "q" (k%2)),("join",[.s "a",.s "b"]),("say",[.s "a"])]
def longRow (k:Int):List Rw:= [("row",[.s "h"]),tx "b" (toString k),("put",[.s "h",.s "a"]),("size",[.s "d",.s "h"]),("like",[.s "d",.s "b",.n 7]),("go",[.n 3]),("say",[.s "h"])]
def deepR (k:Int):List Rw:= [tx "f" "x",tx "b" (Txt.mul "x" k),("row",[.s "c"]),("put",[.s "c",.s "a"]),("copy",[.s "a",.s "c"]),("join",[.s "e",.s "f"]),("like",[.s "e",.s "b",.n 9]),("go",[.n 3]),("say",[.s "a"])]
def greatR (k:Int):List Rw:= [tx "a" (Txt.mul "q" 145),("join",[.s "a",.s "a"]),("row",[.s "h"]),("put",[.s "h",.s "a"]),("put",[.s "h",.s "a"]),tx "b" (Txt.mul "x" (k-584)),("put",[.s "h",.s "b"]),("say",[.s "h"])]
def pieceR (k:Int):List Rw:= [tx "a" (Txt.mul "x " (k-1)),tx "b" " ",("cut",[.s "c",.s "a",.s "b"]),("say",[.s "c"])]
def rowH (n:Nat):List Rw:=List.replicate n ("row",[.s "h"])
def askR (i:Nat):Rw:=([("ask",[.s "d",.s "c"]),("has",[.s "d",.s "c"]),("names",[.s "d",.s "c"])]:List Rw).getD i ("fault",[])
def Je (i:Nat):Rw:=([("say",[.s "a"]),("fault",[]),("ask",[.s "d",.s "c"]),("names",[.s "d",.s "c"]),("row",[.s "d"])]:List Rw).getD i ("fault",[])
def endR (k:Nat)(j:Nat):List Rw:=rowH k++ [tx "c" "x",askR j,("go",[.n ((k:Int)+2)])]
theorem zz:∀k:Fin 5,chk (longText (298+((k.val:Nat):Int)))=true:=by decide+kernel
theorem ZU:∀k:Fin 3,chk (longRow (39+((k.val:Nat):Int)))=true:=by decide+kernel
theorem ok_deepR:∀k:Fin 5,chk (deepR (9+((k.val:Nat):Int)))=true:=by decide+kernel
theorem ok_greatR:∀k:Fin 5,chk (greatR (598+((k.val:Nat):Int)))=true:=by decide+kernel
theorem ok_pieceR:∀k:Fin 3,chk (pieceR (39+((k.val:Nat):Int)))=true:=by decide+kernel
theorem ok_endR:∀k:Fin 9,∀j:Fin 3,chk (endR k.val j.val)=true:=by decide+kernel
def loopR (c:Nat)(t:Int)(j:Nat):List Rw:=rowH c++ [tx "c" "x",tx "b" (Txt.mul "x" t),("join",[.s "a",.s "c"]),("like",[.s "a",.s "b",.n ((c:Int)+6)]),("go",[.n ((c:Int)+3)]),Je j]
def asksR (c:Nat)(t:Int)(i j:Nat):List Rw:=rowH c++ [tx "c" "x",tx "b" (Txt.mul "x" t),("join",[.s "a",.s "c"]),askR i,("like",[.s "a",.s "b",.n ((c:Int)+7)]),("go",[.n ((c:Int)+3)]),Je j]
theorem mul_x:∀k:Fin 100,(Txt.mul "x" ((k.val:Nat):Int)).length=k.val∧(Txt.mul "x" ((k.val:Nat):Int)).cps.toList.all Qg=true:=by decide+kernel
theorem two_row:∀(n:Nat) (l:List Rw),twoB (rowH n++l)=twoB l
 |0,l=>rfl
 |n+1,l=>by
  have ih:=two_row n l
  have e:rowH (n+1)++l=((("row":Str),[Pt.s "h"]):Rw)::(rowH n++l):=rfl
  rw [e]
  cases h:rowH n++l with
  |nil=>rw [←ih,h];rfl
  |cons b r=>
   rw [←ih,h]
   show(!(decide ((("row":Str))∈ASK)&&decide (b.1∈ASK))&&twoB (b::r))=_
   rw [show decide ((("row":Str))∈ASK)=false by decide+kernel]
   simp
theorem ruS_app (a b:List Rw):ruS (a++b)=ruS a+ruS b:=by unfold ruS;rw [List.map_append,List.sum_append]
theorem ruS_row:∀n:Nat,ruS (rowH n)=n*6
 |0=>rfl
 |n+1=>by
  have:=ruS_row n
  have e:ruS (rowH (n+1))=((qC ("row",[.s "h"])).length+1)+ruS (rowH n):=rfl
  rw [e,this,show(qC ("row",[.s "h"])).length=5 by decide+kernel]
  omega
theorem w9 {n:Nat}{i:Int}(h1:1≤i)(h2:i≤n)(hn:n≤40):(QP n 160 ("like",[.s "a",.s "b",.n i])∧(qC ("like",[.s "a",.s "b",.n i])).length≤11)∧QP n 160 ("go",[.n i])∧(qC ("go",[.n i])).length≤5:=by
 have hl:=(yc h1 (by omega)).1
 refine⟨⟨⟨[.box,.box,.line],(show(("like":Str),[Kd.box,.box,.line])∈FRM by decide+kernel),(show("a":Str)∈BX by decide+kernel),(show("b":Str)∈BX by decide+kernel),⟨h1,h2⟩,trivial⟩,?_⟩,⟨[.line],(show(("go":Str),[Kd.line])∈FRM by decide+kernel),⟨h1,h2⟩,trivial⟩,?_⟩
 ·rw [←zB,strLen_append,show("like a b ":Str).length=9 by decide+kernel];omega
 ·rw [←wV,strLen_append,show("go ":Str).length=3 by decide+kernel];omega
theorem ask_ok:∀j:Fin 3,rowB 0 160 (askR j.val)=true∧(qC (askR j.val)).length≤9:=by decide+kernel
theorem last_ok:∀j:Fin 5,rowB 0 160 (Je j.val)=true∧(qC (Je j.val)).length≤9:=by decide+kernel
theorem XI {n:Nat}{r:Rw}(h:rowB 0 160 r=true):QP n 160 r:=QP.up (Nat.zero_le _) (Nat.le_refl _) (rowB_ok h)
theorem txb_ok {n:Nat}{t:Int}(h0:0≤t)(h1:t<100):QP n 160 (tx "b" (Txt.mul "x" t))∧(qC (tx "b" (Txt.mul "x" t))).length≤106:=by
 obtain⟨k,rfl⟩:∃k:Fin 100,t=((k.val:Nat):Int):=⟨⟨t.toNat,by omega⟩,by simp;omega⟩
 obtain⟨e1,e2⟩:=mul_x k
 have:=k.isLt
 refine⟨⟨[.box,.words],(show(("text":Str),[Kd.box,.words])∈FRM by decide+kernel),(show("b":Str)∈BX by decide+kernel),⟨by omega,e2⟩,trivial⟩,?_⟩
 rw [←tx_b,strLen_append,show("text b ":Str).length=7 by decide+kernel]
 omega
theorem rows_of {l tl:List Rw}{c:Nat}(hl:l=rowH c++tl)(hn:c+tl.length≤40)(h0:1≤tl.length)(ht:∀r∈tl,QP (c+tl.length) 160 r∧(qC r).length≤300)(hs:ruS tl≤359)(h2:twoB tl=true):Dr l:=by
 subst hl
 have e:(rowH c++tl).length=c+tl.length:=by rw [List.length_append];unfold rowH;rw [List.length_replicate]
 refine dr_of (by rw [e];omega) (by rw [e];omega) ?_ (by rw [ruS_app,ruS_row];omega) (by rw [two_row];exact h2)
 rw [e]
 intro r hr
 rcases List.mem_append.mp hr with hr|hr
 ·unfold rowH at hr
  rw [List.eq_of_mem_replicate hr]
  exact⟨XI (by decide+kernel),by decide+kernel⟩
 ·exact ht r hr
theorem dr_loop {c:Nat}{t:Int}(j:Fin 5)(hc:c≤34)(h0:0≤t)(h1:t<100):Dr (loopR c t j.val):=by
 obtain⟨a1,a2⟩:=txb_ok (n:=c+6) h0 h1
 obtain⟨⟨b1,b2⟩,_⟩:=w9 (n:=c+6) (i:=(c:Int)+6) (by omega) (by omega) (by omega)
 obtain⟨_,b3,b4⟩:=w9 (n:=c+6) (i:=(c:Int)+3) (by omega) (by omega) (by omega)
 obtain⟨c1,c2⟩:=last_ok j
 have k1:(qC (tx "c" "x")).length=8:=by decide+kernel
 have k2:(qC ("join",[.s "a",.s "c"])).length=8:=by decide+kernel
 refine rows_of (c:=c) rfl (by show c+6≤40;omega) (by show 1≤6;decide) ?_ ?_ ?_
 ·intro r hr
  show QP (c+6) 160 r∧_
  simp only [List.mem_cons,List.not_mem_nil,or_false] at hr
  rcases hr with rfl|rfl|rfl|rfl|rfl|rfl
  ·exact⟨XI (by decide+kernel),by omega⟩
  ·exact⟨a1,by omega⟩
  ·exact⟨XI (by decide+kernel),by omega⟩
  ·exact⟨b1,by omega⟩
  ·exact⟨b3,by omega⟩
  ·exact⟨XI c1,by omega⟩
 ·simp only [ruS,List.map_cons,List.map_nil,List.sum_cons,List.sum_nil]
  omega
 ·have:∀j:Fin 5,(!(decide ((("go":Str))∈ASK)&&decide ((Je j.val).1∈ASK))&&true)=true:=by decide+kernel
  show(!(decide ((("text":Str))∈ASK)&&decide ((("text":Str))∈ASK))&&(!(decide ((("text":Str))∈ASK)&&decide ((("join":Str))∈ASK))&&(!(decide ((("join":Str))∈ASK)&&decide ((("like":Str))∈ASK))&&(!(decide ((("like":Str))∈ASK)&&decide ((("go":Str))∈ASK))&&(!(decide ((("go":Str))∈ASK)&&decide ((Je j.val).1∈ASK))&&true)))))=true
  rw [this j]
  decide+kernel
theorem dr_asks {c:Nat}{t:Int}(i:Fin 3)(j:Fin 5)(hc:c≤33)(h0:0≤t)(h1:t<100):Dr (asksR c t i.val j.val):=by
 obtain⟨a1,a2⟩:=txb_ok (n:=c+7) h0 h1
 obtain⟨⟨b1,b2⟩,_⟩:=w9 (n:=c+7) (i:=(c:Int)+7) (by omega) (by omega) (by omega)
 obtain⟨_,b3,b4⟩:=w9 (n:=c+7) (i:=(c:Int)+3) (by omega) (by omega) (by omega)
 obtain⟨c1,c2⟩:=last_ok j
 obtain⟨d1,d2⟩:=ask_ok i
 have k1:(qC (tx "c" "x")).length=8:=by decide+kernel
 have k2:(qC ("join",[.s "a",.s "c"])).length=8:=by decide+kernel
 refine rows_of (c:=c) rfl (by show c+7≤40;omega) (by show 1≤7;decide) ?_ ?_ ?_
 ·intro r hr
  show QP (c+7) 160 r∧_
  simp only [List.mem_cons,List.not_mem_nil,or_false] at hr
  rcases hr with rfl|rfl|rfl|rfl|rfl|rfl|rfl
  ·exact⟨XI (by decide+kernel),by omega⟩
  ·exact⟨a1,by omega⟩
  ·exact⟨XI (by decide+kernel),by omega⟩
  ·exact⟨XI d1,by omega⟩
  ·exact⟨b1,by omega⟩
  ·exact⟨b3,by omega⟩
  ·exact⟨XI c1,by omega⟩
 ·simp only [ruS,List.map_cons,List.map_nil,List.sum_cons,List.sum_nil]
  omega
 ·have this:∀j:Fin 5,(!(decide ((("go":Str))∈ASK)&&decide ((Je j.val).1∈ASK))&&true)=true:=by decide+kernel
  have that:∀i:Fin 3,(!(decide ((("join":Str))∈ASK)&&decide ((askR i.val).1∈ASK))&& !(decide ((askR i.val).1∈ASK)&&decide ((("like":Str))∈ASK)))=true:=by decide+kernel
  have t2:=that i
  rw [Bool.and_eq_true] at t2
  show(!(decide ((("text":Str))∈ASK)&&decide ((("text":Str))∈ASK))&&(!(decide ((("text":Str))∈ASK)&&decide ((("join":Str))∈ASK))&&(!(decide ((("join":Str))∈ASK)&&decide ((askR i.val).1∈ASK))&&(!(decide ((askR i.val).1∈ASK)&&decide ((("like":Str))∈ASK))&&(!(decide ((("like":Str))∈ASK)&&decide ((("go":Str))∈ASK))&&(!(decide ((("go":Str))∈ASK)&&decide ((Je j.val).1∈ASK))&&true))))))=true
  rw [this j,t2.1,t2.2]
  decide+kernel
end K13
namespace K13
open PySem L2 PyProof.Rows
theorem xl {rs:List Rw}{own:Str}{gs:List D}:∀(f:Nat) (B:Str→D) (p:Int) (n:Nat),n≤(runS rs own gs f B p n).n∧(runS rs own gs f B p n).gs=gs
 |0,B,p,n=>⟨Nat.le_refl _,rfl⟩
 |f+1,B,p,n=>by
  unfold runS
  by_cases c:p>rs.length
  ·rw [if_pos c];exact⟨Nat.le_refl _,rfl⟩
  ·rw [if_neg c]
   cases hO:rowO own (yK rs p) B p with
   |go B' p'=>
    have:=xl (rs:=rs) (own:=own) (gs:=gs) f B' p' (n+1)
    exact⟨by have:=this.1;simp only;omega,this.2⟩
   |stop e=>
    refine⟨?_,rfl⟩
    show n≤(if Qe e=true then n else n+1)
    split<;>omega
theorem run_adv {rs:List Rw}{own:Str}{gs:List D}(hR:Yu rs){f:Nat}{B:Str→D}{p:Int}{n:Nat}(hT:Tr B)(h1:1≤p)(ha:p≤rs.length→(yK rs p).1∉ASK)(hw:Qe (runS rs own gs f B p n).th=true):n+1≤(runS rs own gs f B p n).n:=by
 cases f with
 |zero=>
  have h2:Qe (if p>rs.length then flt "silent" else flt "long")=true:=hw
  exact absurd h2 (by split<;>decide+kernel)
 |succ f=>
  unfold runS at hw⊢
  by_cases c:p>rs.length
  ·rw [if_pos c] at hw
   exact absurd hw (show¬Qe (flt "silent")=true by decide+kernel)
  ·rw [if_neg c] at hw⊢
   have hro:=hR.ok _ (Zm h1 (by omega))
   cases hO:rowO own (yK rs p) B p with
   |go B' p'=>exact(xl f B' p' (n+1)).1
   |stop e=>
    rw [hO] at hw
    exact absurd (rowO_ask hro hT hO hw).1 (ha (by omega))
theorem two_get:∀{rs:List Rw}{i:Nat}{a b:Rw},twoB rs=true→rs[i]? =some a→rs[i+1]? =some b→a.1∈ASK→b.1∉ASK
 |x::y::r,0,a,b,h,e1,e2,ha,hb=>by
  cases e1
  cases e2
  simp only [twoB,Bool.and_eq_true] at h
  rw [decide_eq_true ha,decide_eq_true hb] at h
  exact absurd h.1 (by decide)
 |x::y::r,i+1,a,b,h,e1,e2,ha,hb=>by
  simp only [twoB,Bool.and_eq_true] at h
  exact two_get (rs:=y::r) (i:=i) h.2 e1 e2 ha hb
 | [x],i,a,b,h,e1,e2,ha,hb=>by simp at e2
 | [],i,a,b,h,e1,e2,ha,hb=>by simp at e1
theorem ans_cnt {rs:List Rw}{own:Str}(hD:Dr rs){r:Rn}{an:D}(h:RnOk rs r)(hw:Qe r.th=true)(hc:2*r.gs.length≤r.n)(ha:AnsOk an):(ansS rs own r an).gs.length=r.gs.length+1∧(Qe (ansS rs own r an).th=true→2*(ansS rs own r an).gs.length≤(ansS rs own r an).n):=by
 obtain⟨k1,k2,k3,_⟩:=h.ask hw
 have hp:=h.p1
 unfold ansS
 cases hn:wP an with
 |true=>
  rw [if_pos rfl]
  exact⟨by show(r.gs++_).length=_;rw [List.length_append];rfl,fun h=>absurd h (show¬Qe (flt "lack")=true by decide+kernel)⟩
 |false=>
  rw [if_neg Bool.false_ne_true]
  have hT:isT an=true:=by
   rcases ha with rfl|ha
   ·cases hn
   ·exact ha
  have eg:=(xl (rs:=rs) (own:=own) (gs:=r.gs++ [.tup [wZ r.th,an]]) (300-(r.n+1)) (setB r.B (b0 (yK rs r.p).2) an) (r.p+1) (r.n+1)).2
  have el:(r.gs++ [D.tup [wZ r.th,an]]).length=r.gs.length+1:=by rw [List.length_append];rfl
  refine⟨by rw [eg,el],fun hw2=> ?_⟩
  have:=run_adv hD.rule (zL h.tr hT) (by omega) (fun hle=>two_get (i:=r.p.toNat-1) hD.two (wn hp k1) (by rw [show r.p.toNat-1+1=(r.p+1).toNat-1 by omega];exact wn (by omega) hle) k2) hw2
  rw [eg,el]
  omega
theorem rows_is {H:Hp}:∀{rs:List Rw},(∀r∈rs,(qC r).length≤sizeLine)→L2.IsL H (rs.map fun r=> .str (qC r)) (rs.map fun r=>V.str (qC r))
 | [],_=>rfl
 |r::rs,h=>⟨_,_,rfl,⟨rfl,h r List.mem_cons_self⟩,rows_is fun y hy=>h y (List.mem_cons_of_mem _ hy)⟩
theorem Ze {H:Hp}{rs:List Rw}{vs:List V}{t:Addr}(hD:Dr rs)(e:vs=rs.map fun r=>V.str (qC r))(ht:H t=none):Is (upd H t (.tup vs)) (yM rs) (.ref t):=by
 subst e
 exact Is.new (rows_is fun r hr=>qU (by have:=hD.rule.len hr;omega)) ht
def JY (lo n:Int):Sp:=fun vs H Q _=>∃k:Int,vs= [.int k]∧lo≤k∧k<lo+n∧∀(v:V) (rs:List Rw) (H':Hp),Same H H'→Dr rs→Is H' (yM rs) v→Q v H'
theorem fin_of {lo k:Int}{n:Nat}(h0:lo≤k)(h1:k<lo+n):∃j:Fin n,k=lo+((j.val:Nat):Int):=⟨⟨(k-lo).toNat,by omega⟩,by simp;omega⟩
section
variable {P:Program}{w:World}{K:PySem.W.Frag}{mg:Str→Option Value}{base:Heap}{a:Ad}{g:Ga}
theorem ok_ltext (T:Tx K mg a):FnOk P w K mg base CX0 1 a.yy a.yF ["many"] (JY 298 5):=by
 refine T.Ju.ok X4 (fun vs H Q E h=> ?_) (fun cdv A outer s H vs Q E hr h=> ?_)
 ·obtain⟨k,rfl,_⟩:=h
  rfl
 obtain⟨k,rfl,h0,h1,q⟩:=h
 refine⟨_,(@qe _ _ _ (@qk _ _ _ _ (@qP _ _ _ _ _ (@qa _ _ _ _ _ (@qD _ _ _ _ _ _ _ _ (@qX _) (@qh _ _ _ _) (@qD _ _ _ _ _ _ _ _ (@Jj _) (@qh _ _ _ _) (@qD _ _ _ _ _ _ _ _ (@op_fdiv _) (pv 0) (@qi _ _ _ _)))) (@qa _ _ _ _ _ (@qh _ _ _ _) (@qa _ _ _ _ _ (@qD _ _ _ _ _ _ _ _ (@qX _) (@qh _ _ _ _) (@qD _ _ _ _ _ _ _ _ (@Jj _) (@qh _ _ _ _) (@qD _ _ _ _ _ _ _ _ (@XJ _) (pv 0) (@qi _ _ _ _)))) (@qa _ _ _ _ _ (@qh _ _ _ _) (@qa _ _ _ _ _ (@qh _ _ _ _) (@qc _) (by trivial)) (by trivial)) (by trivial)) (by trivial)) (by trivial))))),?_⟩
 have m1:MulOk "q" (k/2):=L2.ji (by omega) (by omega) (by decide)
 have m2:MulOk "q" (k%2):=L2.ji (by omega) (by omega) (by decide)
 have l1:=J4 (z:="q") (n:=k/2) (by decide) (by omega)
 have l2:=J4 (z:="q") (n:=k%2) (by decide) (by omega)
 have l7:("text a ":Str).length=7∧("text b ":Str).length=7:=by decide+kernel
 refine⟨_,rfl,_,_,rfl,rfl,⟨by decide,by decide⟩,_,_,rfl,rfl,m1,_,_,rfl,rfl,fits (by omega),?_⟩
 refine⟨_,rfl,_,_,rfl,rfl,(by show(0:Int)<2;decide),_,_,rfl,rfl,m2,_,_,rfl,rfl,fits (by omega),(by show 5≤sizeLine;decide),fun t ht=> ?_⟩
 obtain⟨j,rfl⟩:=fin_of (n:=5) h0 h1
 refine q _ _ _ (qd ht _) (Yr (zz j)) (Ze (Yr (zz j)) ?_ ht)
 show [V.str ("text a "++_),V.str "join a a",V.str ("text b "++_),V.str "join a b",V.str "say a"]=_
 rw [tx_a,tx_b]
 rfl
theorem ok_lrow (T:Tx K mg a):FnOk P w K mg base CX0 1 a.Yo a.Yj ["many"] (JY 39 3):=by
 refine T.JW.ok ZB (fun vs H Q E h=> ?_) (fun cdv A outer s H vs Q E hr h=> ?_)
 ·obtain⟨k,rfl,_⟩:=h
  rfl
 obtain⟨k,rfl,h0,h1,q⟩:=h
 refine⟨_,(@qe _ _ _ (@qk _ _ _ _ (@qP _ _ _ _ _ (@qa _ _ _ _ _ (@qh _ _ _ _) (@qa _ _ _ _ _ (@qD _ _ _ _ _ _ _ _ (@qX _) (@qh _ _ _ _) (@qH _ _ _ _ _ _ _ _ _ (@QA _) (by rfl) T.yI boot_str (@qa _ _ _ _ _ (pv 0) (@qc _) (by trivial)) (by trivial) (by trivial) (by trivial) (by trivial))) (@qa _ _ _ _ _ (@qh _ _ _ _) (@qa _ _ _ _ _ (@qh _ _ _ _) (@qa _ _ _ _ _ (@qh _ _ _ _) (@qa _ _ _ _ _ (@qh _ _ _ _) (@qa _ _ _ _ _ (@qh _ _ _ _) (@qc _) (by trivial)) (by trivial)) (by trivial)) (by trivial)) (by trivial)) (by trivial)) (by trivial))))),?_⟩
 obtain⟨j,rfl⟩:=fin_of (n:=3) h0 h1
 have hl:∀j:Fin 3,(toString (39+((j.val:Nat):Int)):Str).length≤10:=by decide+kernel
 have l7:("text b ":Str).length=7:=by decide+kernel
 refine⟨_,rfl,_,rfl,?_,_,_,rfl,rfl,fits (by have:=hl j;omega),(by show 7≤sizeLine;decide),fun t ht=> ?_⟩
 ·have:=Nat.log2_le_self (39+((j.val:Nat):Int)).natAbs
  omega
 refine q _ _ _ (qd ht _) (Yr (ZU j)) (Ze (Yr (ZU j)) ?_ ht)
 show [V.str "row h",V.str ("text b "++_),V.str "put h a",V.str "size d h",V.str "like d b 7",V.str "go 3",V.str "say h"]=_
 rw [tx_b]
 rfl
theorem ok_deep (T:Tx K mg a):FnOk P w K mg base CX0 1 a.JS a.JQ ["many"] (JY 9 5):=by
 refine T.wa.ok zP (fun vs H Q E h=> ?_) (fun cdv A outer s H vs Q E hr h=> ?_)
 ·obtain⟨k,rfl,_⟩:=h
  rfl
 obtain⟨k,rfl,h0,h1,q⟩:=h
 refine⟨_,(@qb _ _ _ _ _ (@qB _ _ (1) _ _ _ _ zP.nd rfl (Or.inl rfl) (@Qu _ _ _ _ (@qa _ _ _ _ _ (@qh _ _ _ _) (@qa _ _ _ _ _ (@qD _ _ _ _ _ _ _ _ (@qX _) (@qh _ _ _ _) (@qD _ _ _ _ _ _ _ _ (@Jj _) (@qh _ _ _ _) (pv 0))) (@qa _ _ _ _ _ (@qh _ _ _ _) (@qa _ _ _ _ _ (@qh _ _ _ _) (@qa _ _ _ _ _ (@qh _ _ _ _) (@qa _ _ _ _ _ (@qh _ _ _ _) (@qa _ _ _ _ _ (@qh _ _ _ _) (@qa _ _ _ _ _ (@qh _ _ _ _) (@qc _) (by trivial)) (by trivial)) (by trivial)) (by trivial)) (by trivial)) (by trivial)) (by trivial)) (by trivial))) (by trivial) (by trivial)) (@qe _ _ _ (@qk _ _ _ _ (@qH _ _ _ _ _ _ _ _ _ (@qO _) (by rfl) T.Qi boot_tuple (@qa _ _ _ _ _ (@qD _ _ _ _ _ _ _ _ (@Z1 _) (pv 1) (@Qu _ _ _ _ (@qa _ _ _ _ _ (@qh _ _ _ _) (@qc _) (by trivial)))) (@qc _) (by trivial)) (by trivial) (by trivial) (by trivial) (by trivial))))),?_⟩
 have m1:MulOk "x" k:=L2.ji (by omega) (by omega) (by decide)
 have l1:=J4 (z:="x") (n:=k) (by decide) (by omega)
 have l7:("text b ":Str).length=7:=by decide+kernel
 refine⟨_,rfl,_,_,rfl,rfl,m1,_,_,rfl,rfl,fits (by omega),(by show 8≤sizeLine;decide),fun l hl=> ?_⟩
 refine⟨_,rfl,(by show 1≤sizeLine;decide),fun l2 hl2=> ?_⟩
 have s1:=qd hl (.lst [.str "text f x",.str ("text b "++Txt.mul "x" k),.str "row c",.str "put c a",.str "copy a c",.str "join e f",.str "like e b 9",.str "go 3"])
 have s2:=qd hl2 (.lst [.str "say a"])
 refine⟨l,l2,_,_,rfl,rfl,s2 _ _ qf,qf,fits (by show 8+1≤16000000;decide),fun l3 hl3=>⟨l3,_,rfl,.inl ⟨SqL.of qf,fun t ht=> ?_⟩⟩⟩
 have s3:=qd hl3 (.lst ([.str "text f x",.str ("text b "++Txt.mul "x" k),.str "row c",.str "put c a",.str "copy a c",.str "join e f",.str "like e b 9",.str "go 3"]++ [.str "say a"]))
 obtain⟨j,rfl⟩:=fin_of (n:=5) h0 h1
 refine q _ _ _ (s1.trans (s2.trans (s3.trans (qd ht _)))) (Yr (ok_deepR j)) (Ze (Yr (ok_deepR j)) ?_ ht)
 rw [tx_b]
 rfl
theorem ok_great (T:Tx K mg a):FnOk P w K mg base CX0 1 a.jV a.jR ["many"] (JY 598 5):=by
 refine T.zO.ok Jm (fun vs H Q E h=> ?_) (fun cdv A outer s H vs Q E hr h=> ?_)
 ·obtain⟨k,rfl,_⟩:=h
  rfl
 obtain⟨k,rfl,h0,h1,q⟩:=h
 refine⟨_,(@qb _ _ _ _ _ (@qB _ _ (1) _ _ _ _ Jm.nd rfl (Or.inl rfl) (@qD _ _ _ _ _ _ _ _ (@xx _) (pv 0) (@qi _ _ _ _)) (by trivial) (by trivial)) (@qb _ _ _ _ _ (@qB _ _ (2) _ _ _ _ Jm.nd rfl (Or.inl rfl) (@Qu _ _ _ _ (@qa _ _ _ _ _ (@qD _ _ _ _ _ _ _ _ (@qX _) (@qh _ _ _ _) (@qD _ _ _ _ _ _ _ _ (@Jj _) (@qh _ _ _ _) (@qi _ _ _ _))) (@qa _ _ _ _ _ (@qh _ _ _ _) (@qa _ _ _ _ _ (@qh _ _ _ _) (@qa _ _ _ _ _ (@qh _ _ _ _) (@qa _ _ _ _ _ (@qh _ _ _ _) (@qa _ _ _ _ _ (@qD _ _ _ _ _ _ _ _ (@qX _) (@qh _ _ _ _) (@qD _ _ _ _ _ _ _ _ (@Jj _) (@qh _ _ _ _) (pv 1))) (@qc _) (by trivial)) (by trivial)) (by trivial)) (by trivial)) (by trivial)) (by trivial))) (by trivial) (by trivial)) (@qe _ _ _ (@qk _ _ _ _ (@qH _ _ _ _ _ _ _ _ _ (@qO _) (by rfl) T.Qi boot_tuple (@qa _ _ _ _ _ (@qD _ _ _ _ _ _ _ _ (@Z1 _) (pv 2) (@Qu _ _ _ _ (@qa _ _ _ _ _ (@qh _ _ _ _) (@qa _ _ _ _ _ (@qh _ _ _ _) (@qc _) (by trivial)) (by trivial)))) (@qc _) (by trivial)) (by trivial) (by trivial) (by trivial) (by trivial)))))),?_⟩
 have m1:MulOk "x" (k-584):=L2.ji (by omega) (by omega) (by decide)
 have m2:MulOk "q" 145:=L2.ji (by decide) (by decide) (by decide)
 have l1:=J4 (z:="x") (n:=k-584) (by decide) (by omega)
 have l2:=J4 (z:="q") (n:=145) (by decide) (by decide)
 have l7:("text a ":Str).length=7∧("text b ":Str).length=7:=by decide+kernel
 refine⟨_,rfl,_,_,rfl,rfl,?_⟩
 refine⟨_,_,rfl,rfl,m2,_,_,rfl,rfl,fits (by omega),_,rfl,_,_,rfl,rfl,m1,_,_,rfl,rfl,fits (by omega),(by show 6≤sizeLine;decide),fun l hl=> ?_⟩
 refine⟨_,rfl,(by show 2≤sizeLine;decide),fun l2 hl2=> ?_⟩
 have s1:=qd hl (.lst [.str ("text a "++Txt.mul "q" 145),.str "join a a",.str "row h",.str "put h a",.str "put h a",.str ("text b "++Txt.mul "x" (k-584))])
 have s2:=qd hl2 (.lst [.str "put h b",.str "say h"])
 refine⟨l,l2,_,_,rfl,rfl,s2 _ _ qf,qf,fits (by show 6+2≤16000000;decide),fun l3 hl3=>⟨l3,_,rfl,.inl ⟨SqL.of qf,fun t ht=> ?_⟩⟩⟩
 have s3:=qd hl3 (.lst ([.str ("text a "++Txt.mul "q" 145),.str "join a a",.str "row h",.str "put h a",.str "put h a",.str ("text b "++Txt.mul "x" (k-584))]++ [.str "put h b",.str "say h"]))
 obtain⟨j,rfl⟩:=fin_of (n:=5) h0 h1
 refine q _ _ _ (s1.trans (s2.trans (s3.trans (qd ht _)))) (Yr (ok_greatR j)) (Ze (Yr (ok_greatR j)) ?_ ht)
 rw [tx_a,tx_b]
 rfl
theorem ok_piec (T:Tx K mg a):FnOk P w K mg base CX0 1 a.jk a.jj ["many"] (JY 39 3):=by
 refine T.XL.ok wR (fun vs H Q E h=> ?_) (fun cdv A outer s H vs Q E hr h=> ?_)
 ·obtain⟨k,rfl,_⟩:=h
  rfl
 obtain⟨k,rfl,h0,h1,q⟩:=h
 refine⟨_,(@qe _ _ _ (@qk _ _ _ _ (@qP _ _ _ _ _ (@qa _ _ _ _ _ (@qD _ _ _ _ _ _ _ _ (@qX _) (@qh _ _ _ _) (@qD _ _ _ _ _ _ _ _ (@Jj _) (@qh _ _ _ _) (@qD _ _ _ _ _ _ _ _ (@xx _) (pv 0) (@qi _ _ _ _)))) (@qa _ _ _ _ _ (@qh _ _ _ _) (@qa _ _ _ _ _ (@qh _ _ _ _) (@qa _ _ _ _ _ (@qh _ _ _ _) (@qc _) (by trivial)) (by trivial)) (by trivial)) (by trivial))))),?_⟩
 obtain⟨j,rfl⟩:=fin_of (n:=3) h0 h1
 have m1:MulOk "x " (39+((j.val:Nat):Int)-1):=L2.ji (by omega) (by omega) (by decide)
 have l1:∀j:Fin 3,(Txt.mul "x " (39+((j.val:Nat):Int)-1)).length≤1000:=by decide+kernel
 have l7:("text a ":Str).length=7:=by decide+kernel
 refine⟨_,rfl,_,_,rfl,rfl,_,_,rfl,rfl,m1,_,_,rfl,rfl,fits (by have:=l1 j;omega),(by show 4≤sizeLine;decide),fun t ht=> ?_⟩
 refine q _ _ _ (qd ht _) (Yr (ok_pieceR j)) (Ze (Yr (ok_pieceR j)) ?_ ht)
 show [V.str ("text a "++_),V.str "text b  ",V.str "cut c a b",V.str "say c"]=_
 rw [tx_a]
 rfl
end
end K13
namespace K13
open PySem L2 PyProof.Rows
theorem Kept.of {p:Addr}{H H':Hp}(s:Same H H'):Kept p H H':=fun b o e _=>s b o e
def lnV (r:Rw):V:=V.str (qC r)
theorem rep_one (n:Nat)(x:V):(List.replicate n [x]).flatten=List.replicate n x:=by
 induction n with
 |zero=>rfl
 |succ n ih=>rw [List.replicate_succ,List.flatten_cons,ih,List.replicate_succ];rfl
theorem jZ (n:Nat):(rowH n).map lnV=List.replicate n (V.str "row h"):=by
 unfold rowH
 rw [List.map_replicate,show lnV ("row",[.s "h"])=V.str "row h" from congrArg V.str (by decide+kernel)]
def sp_end:Sp:=fun vs H Q _=>∃p:Addr,vs= [.ref p]∧Xv H p∧∀(v:V) (rs:List Rw) (H':Hp),Dr rs→Is H' (yM rs) v→Xv H' p→Kept p H H'→Q v H'
def sp_lp:Sp:=fun vs H Q _=>∃(p:Addr) (k:Int),vs= [.ref p,.int k]∧298≤k∧k≤303∧Xv H p∧∀(v:V) (rs:List Rw) (H':Hp),Dr rs→Is H' (yM rs) v→Xv H' p→Kept p H H'→Q v H'
theorem ask_at {d:Int}(h0:0≤d)(h1:d<3):∃i:Fin 3,atI [V.str "ask d c",V.str "has d c",V.str "names d c"] d=some (lnV (askR i.val)):=by
 obtain⟨i,rfl⟩:∃i:Fin 3,d=((i.val:Nat):Int):=⟨⟨d.toNat,by omega⟩,by simp;omega⟩
 refine⟨i,?_⟩
 have e:([V.str "ask d c",V.str "has d c",V.str "names d c"]:List V)[i.val]? =some (lnV (askR i.val)):=by
  have k:∀i:Fin 3,([("ask d c":Str),"has d c","names d c"]:List Str)[i.val]? =some (qC (askR i.val)):=by decide+kernel
  have:=congrArg (Option.map V.str) (k i)
  rw [←List.getElem?_map] at this
  exact this
 exact QI e
theorem lst_at {d:Int}(h0:0≤d)(h1:d<5):∃i:Fin 5,atI [V.str "say a",V.str "fault",V.str "ask d c",V.str "names d c",V.str "row d"] d=some (lnV (Je i.val)):=by
 obtain⟨i,rfl⟩:∃i:Fin 5,d=((i.val:Nat):Int):=⟨⟨d.toNat,by omega⟩,by simp;omega⟩
 refine⟨i,?_⟩
 have e:([V.str "say a",V.str "fault",V.str "ask d c",V.str "names d c",V.str "row d"]:List V)[i.val]? =some (lnV (Je i.val)):=by
  have k:∀i:Fin 5,([("say a":Str),"fault","ask d c","names d c","row d"]:List Str)[i.val]? =some (qC (Je i.val)):=by decide+kernel
  have:=congrArg (Option.map V.str) (k i)
  rw [←List.getElem?_map] at this
  exact this
 exact QI e
section
variable {P:Program}{w:World}{K:PySem.W.Frag}{mg:Str→Option Value}{base:Heap}{a:Ad}{g:Ga}
theorem ok_end (T:Tx K mg a):FnOk P w K mg base CX0 2 a.yB a.yH ["pot"] sp_end:=by
 have Qh:FnOk P w K mg base CX0 1 a.Ye a.Yf ["pot","many"] zq:=w6 T
 refine T.jK.ok jp (fun vs H Q E h=> ?_) (fun cdv A outer s H vs Q E hr h=> ?_)
 ·obtain⟨p,rfl,_⟩:=h
  rfl
 obtain⟨p,rfl,hP,q⟩:=h
 refine⟨_,(@qb _ _ _ _ _ (@qB _ _ (1) _ _ _ _ jp.nd rfl (Or.inl rfl) (@qA _ _ _ _ _ _ _ _ _ _ _ _ _ _ _ _ Qh (hr.mono (by first|decide|omega)) (by rfl) T.QD T.Qw.kp T.QE .nil qQ (@qa _ _ _ _ _ (pv 0) (@qa _ _ _ _ _ (@qi _ _ _ _) (@qc _) (by trivial)) (by trivial)) (by trivial) (by trivial) (by trivial)) (by trivial) (by trivial)) (@qb _ _ _ _ _ (@qB _ _ (2) _ _ _ _ jp.nd rfl (Or.inl rfl) (@qL _ _ _ _ _ _ _ (@qS _) (@Qu _ _ _ _ (@qa _ _ _ _ _ (@qh _ _ _ _) (@qa _ _ _ _ _ (@qh _ _ _ _) (@qa _ _ _ _ _ (@qh _ _ _ _) (@qc _) (by trivial)) (by trivial)) (by trivial))) (@qA _ _ _ _ _ _ _ _ _ _ _ _ _ _ _ _ Qh (hr.mono (by first|decide|omega)) (by rfl) T.QD T.Qw.kp T.QE .nil qQ (@qa _ _ _ _ _ (pv 0) (@qa _ _ _ _ _ (@qi _ _ _ _) (@qc _) (by trivial)) (by trivial)) (by trivial) (by trivial) (by trivial)) (fun _ _=>rfl)) (by trivial) (by trivial)) (@qe _ _ _ (@qk _ _ _ _ (@qD _ _ _ _ _ _ _ _ (@op_catG _) (@qD _ _ _ _ _ _ _ _ (@op_repG _) (@qP _ _ _ _ _ (@qa _ _ _ _ _ (@qh _ _ _ _) (@qc _) (by trivial))) (pv 1)) (@qP _ _ _ _ _ (@qa _ _ _ _ _ (@qh _ _ _ _) (@qa _ _ _ _ _ (pv 2) (@qa _ _ _ _ _ (@qD _ _ _ _ _ _ _ _ (@qX _) (@qh _ _ _ _) (@qH _ _ _ _ _ _ _ _ _ (@QA _) (by rfl) T.yI boot_str (@qa _ _ _ _ _ (@qD _ _ _ _ _ _ _ _ (@Qb _) (pv 1) (@qi _ _ _ _)) (@qc _) (by trivial)) (by trivial) (by trivial) (by trivial) (by trivial))) (@qc _) (by trivial)) (by trivial)) (by trivial)))))))),?_⟩
 refine⟨_,rfl,p,9,rfl,hP,by decide,by decide,fun d1 H1 a0 a1 P1 K1 _=> ?_⟩
 obtain⟨c,rfl⟩:∃c:Fin 9,d1=((c.val:Nat):Int):=⟨⟨d1.toNat,by omega⟩,by simp;omega⟩
 have hc:=c.isLt
 refine⟨(by show 3≤sizeLine;decide),fun l1 h1=> ?_⟩
 have s2:=qd h1 (.lst [V.str "ask d c",V.str "has d c",V.str "names d c"])
 refine⟨_,rfl,p,3,rfl,P1.same s2,by decide,by decide,fun d2 H2 b0 b1 P2 K2 _=> ?_⟩
 obtain⟨i,hi⟩:=ask_at b0 b1
 refine⟨l1,_,_,_,rfl,rfl,SqL.of (K2 _ _ qf (P1.free h1).symm),hi,?_⟩
 have K02:Kept p H H2:=K1.trans ((Kept.of s2).trans K2)
 refine⟨(by show 1≤sizeLine;decide),fun t1 ht1=> ?_⟩
 have s3:=qd ht1 (.tup [V.str "row h"])
 refine⟨_,rfl,t1,_,_,rfl,rfl,SqT.of qf,by simp,by omega,by omega,fits (by show 1*(((c.val:Nat):Int)).toNat≤16000000;omega),fun e1=> ?_,fun e1 t2 ht2=> ?_⟩
 have e3:upd H2 t1 (.tup [V.str "row h"]) t1=some (.tup ((rowH c.val).map lnV)):=by
  rw [jZ,show c.val=1 by omega]
  exact qf
 have S3:=s3
 generalize upd H2 t1 (.tup [V.str "row h"])=H3 at S3 e3⊢
 generalize t1=tt at e3⊢
 clear ht1 s3 e1
 rotate_left
 have e3:upd (upd H2 t1 (.tup [V.str "row h"])) t2 (.tup (List.replicate (((c.val:Nat):Int)).toNat [V.str "row h"]).flatten) t2=some (.tup ((rowH c.val).map lnV)):=by
  rw [qf,rep_one,jZ,Int.toNat_natCast]
 have S3:=s3.trans (qd ht2 (.tup (List.replicate (((c.val:Nat):Int)).toNat [V.str "row h"]).flatten))
 generalize upd (upd H2 t1 (.tup [V.str "row h"])) t2 (.tup (List.replicate (((c.val:Nat):Int)).toNat [V.str "row h"]).flatten)=H3 at S3 e3⊢
 generalize t2=tt at e3⊢
 clear s3 e1
 rotate_left
 all_goals
  have hl:=(yc (i:=((c.val:Nat):Int)+2) (by omega) (by omega)).1
  have l3:("go ":Str).length=3:=by decide+kernel
  refine⟨_,rfl,_,rfl,_,_,rfl,rfl,_,rfl,?_,_,_,rfl,rfl,fits (by omega),(by show 3≤sizeLine;decide),fun t3 ht3=> ?_⟩
  ·have:=Nat.log2_le_self (((c.val:Nat):Int)+2).natAbs
   omega
  rw [wV]
  have s4:=qd ht3 (.tup [V.str "text c x",lnV (askR i.val),V.str (qC ("go",[.n (((c.val:Nat):Int)+2)]))])
  have hD:=Yr (ok_endR c i)
  have S4:=S3.trans s4
  have el:((rowH c.val).map lnV).length=c.val:=by rw [jZ,List.length_replicate]
  have em:(endR c.val i.val).map lnV=(rowH c.val).map lnV++ [V.str "text c x",lnV (askR i.val),V.str (qC ("go",[.n (((c.val:Nat):Int)+2)]))]:=by
   unfold endR
   rw [List.map_append]
   rfl
  refine⟨tt,t3,_,_,rfl,rfl,SqT.of (s4 _ _ e3),SqT.of qf,fits (by rw [el];show c.val+3≤16000000;omega),fun ex=> ?_,fun _ ex=>absurd ex (by simp),fun _ _ t5 ht5=> ?_⟩
  ·refine q _ _ _ hD ?_ (P2.same S4) (K02.trans (Kept.of S4))
   rw [ex,List.nil_append] at em
   exact⟨t3,_,rfl,qf,by rw [←em];exact rows_is fun r hr=>qU (by have:=hD.rule.len hr;omega)⟩
  ·have s5:=qd ht5 (.tup ((rowH c.val).map lnV++ [V.str "text c x",lnV (askR i.val),V.str (qC ("go",[.n (((c.val:Nat):Int)+2)]))]))
   exact q _ _ _ hD (Ze hD em.symm ht5) ((P2.same S4).same s5) (K02.trans (Kept.of (S4.trans s5)))
theorem ok_loop (T:Tx K mg a):FnOk P w K mg base CX0 2 a.JO a.JE ["pot","many"] sp_lp:=by
 have Qh:FnOk P w K mg base CX0 1 a.Ye a.Yf ["pot","many"] zq:=w6 T
 refine T.wb.ok y0 (fun vs H Q E h=> ?_) (fun cdv A outer s H vs Q E hr h=> ?_)
 ·obtain⟨p,k,rfl,_⟩:=h
  rfl
 obtain⟨p,k,rfl,k0,k1,hP,q⟩:=h
 refine⟨_,(@qb _ _ _ _ _ (@qB _ _ (2) _ _ _ _ y0.nd rfl (Or.inl rfl) (@qD _ _ _ _ _ _ _ _ (@Qb _) (@qi _ _ _ _) (@qA _ _ _ _ _ _ _ _ _ _ _ _ _ _ _ _ Qh (hr.mono (by first|decide|omega)) (by rfl) T.QD T.Qw.kp T.QE .nil qQ (@qa _ _ _ _ _ (pv 0) (@qa _ _ _ _ _ (@qi _ _ _ _) (@qc _) (by trivial)) (by trivial)) (by trivial) (by trivial) (by trivial))) (by trivial) (by trivial)) (@qb _ _ _ _ _ (@qB _ _ (3) _ _ _ _ y0.nd rfl (Or.inl rfl) (@qD _ _ _ _ _ _ _ _ (@op_rep _) (@Qu _ _ _ _ (@qa _ _ _ _ _ (@qh _ _ _ _) (@qc _) (by trivial))) (@qD _ _ _ _ _ _ _ _ (@xx _) (@qD _ _ _ _ _ _ _ _ (@xx _) (pv 1) (@qD _ _ _ _ _ _ _ _ (@Zh _) (@qi _ _ _ _) (pv 2))) (@qi _ _ _ _))) (by trivial) (by trivial)) (@qb _ _ _ _ _ (@qB _ _ (4) _ _ _ _ y0.nd rfl (Or.inl rfl) (@qj _ _ _ _ _ _ _ _ _ (@qM _) (by rfl) T.ye PySem.boot_len (@qa _ _ _ _ _ (pv 3) (@qc _) (by trivial)) (by trivial) (by trivial) (by trivial) (by trivial)) (by trivial) (by trivial)) (@qb _ _ _ _ _ (@qB _ _ (3) _ _ _ _ y0.nd rfl (Or.inl rfl) (@qD _ _ _ _ _ _ _ _ (@Z1 _) (pv 3) (@Qu _ _ _ _ (@qa _ _ _ _ _ (@qh _ _ _ _) (@qa _ _ _ _ _ (@qD _ _ _ _ _ _ _ _ (@qX _) (@qh _ _ _ _) (@qD _ _ _ _ _ _ _ _ (@Jj _) (@qh _ _ _ _) (pv 2))) (@qa _ _ _ _ _ (@qh _ _ _ _) (@qa _ _ _ _ _ (@qD _ _ _ _ _ _ _ _ (@qX _) (@qh _ _ _ _) (@qH _ _ _ _ _ _ _ _ _ (@QA _) (by rfl) T.yI boot_str (@qa _ _ _ _ _ (@qD _ _ _ _ _ _ _ _ (@Qb _) (pv 4) (@qi _ _ _ _)) (@qc _) (by trivial)) (by trivial) (by trivial) (by trivial) (by trivial))) (@qa _ _ _ _ _ (@qD _ _ _ _ _ _ _ _ (@qX _) (@qh _ _ _ _) (@qH _ _ _ _ _ _ _ _ _ (@QA _) (by rfl) T.yI boot_str (@qa _ _ _ _ _ (@qD _ _ _ _ _ _ _ _ (@Qb _) (pv 4) (@qi _ _ _ _)) (@qc _) (by trivial)) (by trivial) (by trivial) (by trivial) (by trivial))) (@qc _) (by trivial)) (by trivial)) (by trivial)) (by trivial)) (by trivial)))) (by trivial) (by trivial)) (@qb _ _ _ _ _ (@qB _ _ (5) _ _ _ _ y0.nd rfl (Or.inl rfl) (@qL _ _ _ _ _ _ _ (@qS _) (@Qu _ _ _ _ (@qa _ _ _ _ _ (@qh _ _ _ _) (@qa _ _ _ _ _ (@qh _ _ _ _) (@qa _ _ _ _ _ (@qh _ _ _ _) (@qa _ _ _ _ _ (@qh _ _ _ _) (@qa _ _ _ _ _ (@qh _ _ _ _) (@qc _) (by trivial)) (by trivial)) (by trivial)) (by trivial)) (by trivial))) (@qA _ _ _ _ _ _ _ _ _ _ _ _ _ _ _ _ Qh (hr.mono (by first|decide|omega)) (by rfl) T.QD T.Qw.kp T.QE .nil qQ (@qa _ _ _ _ _ (pv 0) (@qa _ _ _ _ _ (@qi _ _ _ _) (@qc _) (by trivial)) (by trivial)) (by trivial) (by trivial) (by trivial)) (fun _ _=>rfl)) (by trivial) (by trivial)) (@qe _ _ _ (@qk _ _ _ _ (@qH _ _ _ _ _ _ _ _ _ (@qO _) (by rfl) T.Qi boot_tuple (@qa _ _ _ _ _ (@qD _ _ _ _ _ _ _ _ (@Z1 _) (pv 3) (@Qu _ _ _ _ (@qa _ _ _ _ _ (pv 5) (@qc _) (by trivial)))) (@qc _) (by trivial)) (by trivial) (by trivial) (by trivial) (by trivial))))))))),?_⟩
 refine⟨_,rfl,p,9,rfl,hP,by decide,by decide,fun d1 H1 a0 a1 P1 K1 _=>⟨_,_,rfl,rfl,?_⟩⟩
 obtain⟨t,ht0⟩:∃t:Int,89+d1=t:=⟨_,rfl⟩
 show tSeq _ _ _ _ H1
 dsimp only
 rw [ht0]
 have P2:=P1
 have K02:=K1
 obtain⟨H2,hH2⟩:∃H2,H1=H2:=⟨_,rfl⟩
 rw [hH2] at P2 K02⊢
 obtain⟨c,hc⟩:∃c:Nat,k-3*t-2=(c:Int):=⟨(k-3*t-2).toNat,by omega⟩
 refine⟨(by show 1≤sizeLine;decide),fun l1 h1=> ?_⟩
 have s1:=qd h1 (.lst [V.str "row h"])
 refine⟨_,rfl,_,rfl,_,_,rfl,rfl,(.inl ⟨by decide,by decide⟩),_,_,rfl,rfl,_,_,rfl,rfl,l1,_,_,rfl,rfl,qf,by rw [hc];omega,by rw [hc];omega,fits (by rw [hc,Int.toNat_natCast];show 1*c≤16000000;omega),fun l2 h2=> ?_⟩
 have e2:(List.replicate (k-3*t-2).toNat [V.str "row h"]).flatten=(rowH c).map lnV:=by rw [rep_one,jZ,hc,Int.toNat_natCast]
 rw [e2]
 have s2:=qd h2 (.lst ((rowH c).map lnV))
 have g2:upd (upd H2 l1 (.lst [V.str "row h"])) l2 (.lst ((rowH c).map lnV)) l2=some (.lst ((rowH c).map lnV)):=qf
 have S2:=s1.trans s2
 generalize upd (upd H2 l1 (.lst [V.str "row h"])) l2 (.lst ((rowH c).map lnV))=H3 at s2 g2 S2⊢
 have el:((rowH c).map lnV).length=c:=by rw [jZ,List.length_replicate]
 refine⟨_,rfl,l2,_,rfl,.inl (SqL.of g2),?_⟩
 rw [el]
 have m1:MulOk "x" t:=L2.ji (by omega) (by omega) (by decide)
 have y1:=J4 (z:="x") (n:=t) (by decide) (by omega)
 have y2:("text b ":Str).length=7∧("like a b ":Str).length=9∧("go ":Str).length=3:=by decide+kernel
 have y3:=(yc (i:=(c:Int)+6) (by omega) (by omega)).1
 have y4:=(yc (i:=(c:Int)+3) (by omega) (by omega)).1
 have lg:∀i:Int,0≤i→i≤50→i.natAbs.log2<1920:=fun i _ _=>by have:=Nat.log2_le_self i.natAbs;omega
 refine⟨_,rfl,_,rfl,_,_,rfl,rfl,m1,_,_,rfl,rfl,fits (by omega),_,rfl,_,_,rfl,rfl,_,rfl,lg _ (by omega) (by omega),_,_,rfl,rfl,fits (by omega),_,rfl,_,_,rfl,rfl,_,rfl,lg _ (by omega) (by omega),_,_,rfl,rfl,fits (by omega),(by show 5≤sizeLine;decide),fun l3 h3=> ?_⟩
 rw [tx_b,zB,wV]
 have s3:=qd h3 (.lst [V.str "text c x",lnV (tx "b" (Txt.mul "x" t)),V.str "join a c",lnV ("like",[.s "a",.s "b",.n ((c:Int)+6)]),lnV ("go",[.n ((c:Int)+3)])])
 refine⟨l2,l3,_,_,rfl,rfl,s3 _ _ g2,qf,fits (by rw [el];show c+5≤16000000;omega),fun l4 h4=> ?_⟩
 have s4:=qd h4 (.lst ((rowH c).map lnV++ [V.str "text c x",lnV (tx "b" (Txt.mul "x" t)),V.str "join a c",lnV ("like",[.s "a",.s "b",.n ((c:Int)+6)]),lnV ("go",[.n ((c:Int)+3)])]))
 have S4:=S2.trans (s3.trans s4)
 have g4:=(qf:(upd (upd H3 l3 (.lst [V.str "text c x",lnV (tx "b" (Txt.mul "x" t)),V.str "join a c",lnV ("like",[.s "a",.s "b",.n ((c:Int)+6)]),lnV ("go",[.n ((c:Int)+3)])])) l4 (.lst ((rowH c).map lnV++ [V.str "text c x",lnV (tx "b" (Txt.mul "x" t)),V.str "join a c",lnV ("like",[.s "a",.s "b",.n ((c:Int)+6)]),lnV ("go",[.n ((c:Int)+3)])]))) l4=_)
 have n4:l4≠p:=((P2.same (S2.trans s3)).free h4).symm
 have P4:=P2.same S4
 have K04:=K02.trans (Kept.of S4)
 refine⟨(by show 5≤sizeLine;decide),fun l5 h5=> ?_⟩
 have s5:=qd h5 (.lst [V.str "say a",V.str "fault",V.str "ask d c",V.str "names d c",V.str "row d"])
 refine⟨_,rfl,p,5,rfl,P4.same s5,by decide,by decide,fun d3 H6 e0 e1 P6 K6 _=> ?_⟩
 obtain⟨j,hj⟩:=lst_at e0 e1
 refine⟨l5,_,_,_,rfl,rfl,SqL.of (K6 _ _ qf (P4.free h5).symm),hj,?_⟩
 have g6:=K6 _ _ (s5 _ _ g4) n4
 have K06:=K04.trans ((Kept.of s5).trans K6)
 refine⟨_,rfl,_,rfl,(by show 1≤sizeLine;decide),fun l7 h7=> ?_⟩
 have s7:=qd h7 (.lst [lnV (Je j.val)])
 refine⟨l4,l7,_,_,rfl,rfl,s7 _ _ g6,qf,fits (by rw [List.length_append,el];show c+5+1≤16000000;omega),fun l8 h8=>⟨l8,_,rfl,.inl ⟨SqL.of qf,fun t9 h9=> ?_⟩⟩⟩
 have s8:=qd h8 (.lst (((rowH c).map lnV++ [V.str "text c x",lnV (tx "b" (Txt.mul "x" t)),V.str "join a c",lnV ("like",[.s "a",.s "b",.n ((c:Int)+6)]),lnV ("go",[.n ((c:Int)+3)])])++ [lnV (Je j.val)]))
 have s9:=qd h9 (.tup (((rowH c).map lnV++ [V.str "text c x",lnV (tx "b" (Txt.mul "x" t)),V.str "join a c",lnV ("like",[.s "a",.s "b",.n ((c:Int)+6)]),lnV ("go",[.n ((c:Int)+3)])])++ [lnV (Je j.val)]))
 have hD:=dr_loop (c:=c) (t:=t) j (by omega) (by omega) (by omega)
 have S9:=s7.trans (s8.trans s9)
 refine q _ _ _ hD (Ze hD ?_ h9) (P6.same S9) (K06.trans (Kept.of S9))
 show _=(loopR c t j.val).map lnV
 unfold loopR
 rw [List.map_append,List.append_assoc]
 rfl
theorem ok_asking (T:Tx K mg a):FnOk P w K mg base CX0 2 a.jm a.jh ["pot","many"] sp_lp:=by
 have Qh:FnOk P w K mg base CX0 1 a.Ye a.Yf ["pot","many"] zq:=w6 T
 refine T.XH.ok QN (fun vs H Q E h=> ?_) (fun cdv A outer s H vs Q E hr h=> ?_)
 ·obtain⟨p,k,rfl,_⟩:=h
  rfl
 obtain⟨p,k,rfl,k0,k1,hP,q⟩:=h
 refine⟨_,(@qb _ _ _ _ _ (@qB _ _ (2) _ _ _ _ QN.nd rfl (Or.inl rfl) (@qD _ _ _ _ _ _ _ _ (@Qb _) (@qi _ _ _ _) (@qA _ _ _ _ _ _ _ _ _ _ _ _ _ _ _ _ Qh (hr.mono (by first|decide|omega)) (by rfl) T.QD T.Qw.kp T.QE .nil qQ (@qa _ _ _ _ _ (pv 0) (@qa _ _ _ _ _ (@qi _ _ _ _) (@qc _) (by trivial)) (by trivial)) (by trivial) (by trivial) (by trivial))) (by trivial) (by trivial)) (@qb _ _ _ _ _ (@qB _ _ (3) _ _ _ _ QN.nd rfl (Or.inl rfl) (@qL _ _ _ _ _ _ _ (@qS _) (@Qu _ _ _ _ (@qa _ _ _ _ _ (@qh _ _ _ _) (@qa _ _ _ _ _ (@qh _ _ _ _) (@qa _ _ _ _ _ (@qh _ _ _ _) (@qc _) (by trivial)) (by trivial)) (by trivial))) (@qA _ _ _ _ _ _ _ _ _ _ _ _ _ _ _ _ Qh (hr.mono (by first|decide|omega)) (by rfl) T.QD T.Qw.kp T.QE .nil qQ (@qa _ _ _ _ _ (pv 0) (@qa _ _ _ _ _ (@qi _ _ _ _) (@qc _) (by trivial)) (by trivial)) (by trivial) (by trivial) (by trivial)) (fun _ _=>rfl)) (by trivial) (by trivial)) (@qb _ _ _ _ _ (@qB _ _ (4) _ _ _ _ QN.nd rfl (Or.inl rfl) (@qD _ _ _ _ _ _ _ _ (@op_rep _) (@Qu _ _ _ _ (@qa _ _ _ _ _ (@qh _ _ _ _) (@qc _) (by trivial))) (@qD _ _ _ _ _ _ _ _ (@xx _) (@qD _ _ _ _ _ _ _ _ (@xx _) (pv 1) (@qD _ _ _ _ _ _ _ _ (@Zh _) (@qi _ _ _ _) (pv 2))) (@qi _ _ _ _))) (by trivial) (by trivial)) (@qb _ _ _ _ _ (@qB _ _ (5) _ _ _ _ QN.nd rfl (Or.inl rfl) (@qj _ _ _ _ _ _ _ _ _ (@qM _) (by rfl) T.ye PySem.boot_len (@qa _ _ _ _ _ (pv 4) (@qc _) (by trivial)) (by trivial) (by trivial) (by trivial) (by trivial)) (by trivial) (by trivial)) (@qb _ _ _ _ _ (@qB _ _ (4) _ _ _ _ QN.nd rfl (Or.inl rfl) (@qD _ _ _ _ _ _ _ _ (@Z1 _) (pv 4) (@Qu _ _ _ _ (@qa _ _ _ _ _ (@qh _ _ _ _) (@qa _ _ _ _ _ (@qD _ _ _ _ _ _ _ _ (@qX _) (@qh _ _ _ _) (@qD _ _ _ _ _ _ _ _ (@Jj _) (@qh _ _ _ _) (pv 2))) (@qa _ _ _ _ _ (@qh _ _ _ _) (@qa _ _ _ _ _ (pv 3) (@qa _ _ _ _ _ (@qD _ _ _ _ _ _ _ _ (@qX _) (@qh _ _ _ _) (@qH _ _ _ _ _ _ _ _ _ (@QA _) (by rfl) T.yI boot_str (@qa _ _ _ _ _ (@qD _ _ _ _ _ _ _ _ (@Qb _) (pv 5) (@qi _ _ _ _)) (@qc _) (by trivial)) (by trivial) (by trivial) (by trivial) (by trivial))) (@qc _) (by trivial)) (by trivial)) (by trivial)) (by trivial)) (by trivial)))) (by trivial) (by trivial)) (@qb _ _ _ _ _ (@qB _ _ (6) _ _ _ _ QN.nd rfl (Or.inl rfl) (@qL _ _ _ _ _ _ _ (@qS _) (@Qu _ _ _ _ (@qa _ _ _ _ _ (@qh _ _ _ _) (@qa _ _ _ _ _ (@qh _ _ _ _) (@qa _ _ _ _ _ (@qh _ _ _ _) (@qa _ _ _ _ _ (@qh _ _ _ _) (@qa _ _ _ _ _ (@qh _ _ _ _) (@qc _) (by trivial)) (by trivial)) (by trivial)) (by trivial)) (by trivial))) (@qA _ _ _ _ _ _ _ _ _ _ _ _ _ _ _ _ Qh (hr.mono (by first|decide|omega)) (by rfl) T.QD T.Qw.kp T.QE .nil qQ (@qa _ _ _ _ _ (pv 0) (@qa _ _ _ _ _ (@qi _ _ _ _) (@qc _) (by trivial)) (by trivial)) (by trivial) (by trivial) (by trivial)) (fun _ _=>rfl)) (by trivial) (by trivial)) (@qe _ _ _ (@qk _ _ _ _ (@qH _ _ _ _ _ _ _ _ _ (@qO _) (by rfl) T.Qi boot_tuple (@qa _ _ _ _ _ (@qD _ _ _ _ _ _ _ _ (@Z1 _) (pv 4) (@Qu _ _ _ _ (@qa _ _ _ _ _ (@qD _ _ _ _ _ _ _ _ (@qX _) (@qh _ _ _ _) (@qH _ _ _ _ _ _ _ _ _ (@QA _) (by rfl) T.yI boot_str (@qa _ _ _ _ _ (@qD _ _ _ _ _ _ _ _ (@Qb _) (pv 5) (@qi _ _ _ _)) (@qc _) (by trivial)) (by trivial) (by trivial) (by trivial) (by trivial))) (@qa _ _ _ _ _ (pv 6) (@qc _) (by trivial)) (by trivial)))) (@qc _) (by trivial)) (by trivial) (by trivial) (by trivial) (by trivial)))))))))),?_⟩
 refine⟨_,rfl,p,6,rfl,hP,by decide,by decide,fun d1 H1 a0 a1 P1 K1 _=>⟨_,_,rfl,rfl,?_⟩⟩
 obtain⟨t,ht0⟩:∃t:Int,68+d1=t:=⟨_,rfl⟩
 show tSeq _ _ _ _ H1
 dsimp only
 rw [ht0]
 refine⟨(by show 3≤sizeLine;decide),fun l0 h0=> ?_⟩
 have s0:=qd h0 (.lst [V.str "ask d c",V.str "has d c",V.str "names d c"])
 refine⟨_,rfl,p,3,rfl,P1.same s0,by decide,by decide,fun d2 H2 b0 b1 P2 K2 _=> ?_⟩
 obtain⟨i,hi⟩:=ask_at b0 b1
 refine⟨l0,_,_,_,rfl,rfl,SqL.of (K2 _ _ qf (P1.free h0).symm),hi,?_⟩
 have K02:Kept p H H2:=K1.trans ((Kept.of s0).trans K2)
 obtain⟨c,hc⟩:∃c:Nat,k-4*t-2=(c:Int):=⟨(k-4*t-2).toNat,by omega⟩
 refine⟨(by show 1≤sizeLine;decide),fun l1 h1=> ?_⟩
 have s1:=qd h1 (.lst [V.str "row h"])
 refine⟨_,rfl,_,rfl,_,_,rfl,rfl,(.inl ⟨by decide,by decide⟩),_,_,rfl,rfl,_,_,rfl,rfl,l1,_,_,rfl,rfl,qf,by rw [hc];omega,by rw [hc];omega,fits (by rw [hc,Int.toNat_natCast];show 1*c≤16000000;omega),fun l2 h2=> ?_⟩
 have e2:(List.replicate (k-4*t-2).toNat [V.str "row h"]).flatten=(rowH c).map lnV:=by rw [rep_one,jZ,hc,Int.toNat_natCast]
 rw [e2]
 have s2:=qd h2 (.lst ((rowH c).map lnV))
 have g2:upd (upd H2 l1 (.lst [V.str "row h"])) l2 (.lst ((rowH c).map lnV)) l2=some (.lst ((rowH c).map lnV)):=qf
 have S2:=s1.trans s2
 generalize upd (upd H2 l1 (.lst [V.str "row h"])) l2 (.lst ((rowH c).map lnV))=H3 at s2 g2 S2⊢
 have el:((rowH c).map lnV).length=c:=by rw [jZ,List.length_replicate]
 refine⟨_,rfl,l2,_,rfl,.inl (SqL.of g2),?_⟩
 rw [el]
 have m1:MulOk "x" t:=L2.ji (by omega) (by omega) (by decide)
 have y1:=J4 (z:="x") (n:=t) (by decide) (by omega)
 have y2:("text b ":Str).length=7∧("like a b ":Str).length=9∧("go ":Str).length=3:=by decide+kernel
 have y3:=(yc (i:=(c:Int)+7) (by omega) (by omega)).1
 have y4:=(yc (i:=(c:Int)+3) (by omega) (by omega)).1
 have lg:∀i:Int,0≤i→i≤50→i.natAbs.log2<1920:=fun i _ _=>by have:=Nat.log2_le_self i.natAbs;omega
 refine⟨_,rfl,_,rfl,_,_,rfl,rfl,m1,_,_,rfl,rfl,fits (by omega),_,rfl,_,rfl,_,_,rfl,rfl,_,rfl,lg _ (by omega) (by omega),_,_,rfl,rfl,fits (by omega),(by show 5≤sizeLine;decide),fun l3 h3=> ?_⟩
 rw [tx_b,zB]
 have s3:=qd h3 (.lst [V.str "text c x",lnV (tx "b" (Txt.mul "x" t)),V.str "join a c",lnV (askR i.val),lnV ("like",[.s "a",.s "b",.n ((c:Int)+7)])])
 refine⟨l2,l3,_,_,rfl,rfl,s3 _ _ g2,qf,fits (by rw [el];show c+5≤16000000;omega),fun l4 h4=> ?_⟩
 have s4:=qd h4 (.lst ((rowH c).map lnV++ [V.str "text c x",lnV (tx "b" (Txt.mul "x" t)),V.str "join a c",lnV (askR i.val),lnV ("like",[.s "a",.s "b",.n ((c:Int)+7)])]))
 have S4:=S2.trans (s3.trans s4)
 have g4:=(qf:(upd (upd H3 l3 (.lst [V.str "text c x",lnV (tx "b" (Txt.mul "x" t)),V.str "join a c",lnV (askR i.val),lnV ("like",[.s "a",.s "b",.n ((c:Int)+7)])])) l4 (.lst ((rowH c).map lnV++ [V.str "text c x",lnV (tx "b" (Txt.mul "x" t)),V.str "join a c",lnV (askR i.val),lnV ("like",[.s "a",.s "b",.n ((c:Int)+7)])]))) l4=_)
 have n4:l4≠p:=((P2.same (S2.trans s3)).free h4).symm
 have P4:=P2.same S4
 have K04:=K02.trans (Kept.of S4)
 refine⟨(by show 5≤sizeLine;decide),fun l5 h5=> ?_⟩
 have s5:=qd h5 (.lst [V.str "say a",V.str "fault",V.str "ask d c",V.str "names d c",V.str "row d"])
 refine⟨_,rfl,p,5,rfl,P4.same s5,by decide,by decide,fun d3 H6 e0 e1 P6 K6 _=> ?_⟩
 obtain⟨j,hj⟩:=lst_at e0 e1
 refine⟨l5,_,_,_,rfl,rfl,SqL.of (K6 _ _ qf (P4.free h5).symm),hj,?_⟩
 have g6:=K6 _ _ (s5 _ _ g4) n4
 have K06:=K04.trans ((Kept.of s5).trans K6)
 refine⟨_,rfl,_,rfl,_,_,rfl,rfl,_,rfl,lg _ (by omega) (by omega),_,_,rfl,rfl,fits (by omega),_,rfl,(by show 2≤sizeLine;decide),fun l7 h7=> ?_⟩
 rw [wV]
 have s7:=qd h7 (.lst [lnV ("go",[.n ((c:Int)+3)]),lnV (Je j.val)])
 refine⟨l4,l7,_,_,rfl,rfl,s7 _ _ g6,qf,fits (by rw [List.length_append,el];show c+5+2≤16000000;omega),fun l8 h8=>⟨l8,_,rfl,.inl ⟨SqL.of qf,fun t9 h9=> ?_⟩⟩⟩
 have s8:=qd h8 (.lst (((rowH c).map lnV++ [V.str "text c x",lnV (tx "b" (Txt.mul "x" t)),V.str "join a c",lnV (askR i.val),lnV ("like",[.s "a",.s "b",.n ((c:Int)+7)])])++ [lnV ("go",[.n ((c:Int)+3)]),lnV (Je j.val)]))
 have s9:=qd h9 (.tup (((rowH c).map lnV++ [V.str "text c x",lnV (tx "b" (Txt.mul "x" t)),V.str "join a c",lnV (askR i.val),lnV ("like",[.s "a",.s "b",.n ((c:Int)+7)])])++ [lnV ("go",[.n ((c:Int)+3)]),lnV (Je j.val)]))
 have hD:=dr_asks (c:=c) (t:=t) i j (by omega) (by omega) (by omega)
 have S9:=s7.trans (s8.trans s9)
 refine q _ _ _ hD (Ze hD ?_ h9) (P6.same S9) (K06.trans (Kept.of S9))
 show _=(asksR c t i.val j.val).map lnV
 unfold asksR
 rw [List.map_append,List.append_assoc]
 rfl
end
end K13
namespace K13
open PySem L2 PyProof.Rows
open Builtin.Int (intBits)
def sp_right:Sp:=fun vs H Q _=>∃(v:V) (own:Str) (rs:List Rw),vs= [v,.str own]∧Is H (yM rs) v∧Dr rs∧nm own=true∧own.length≤100∧∀H',Same H H'→Q (.bl true) H'
theorem stand_snoc {rs:List Rw}{own:Str}{as:List D}(an:D)(h:Qe (Q4 rs own as).th=true):Q4 rs own (as++ [an])=ansS rs own (Q4 rs own as) an:=by
 unfold Q4 at h⊢
 rw [ZX,if_pos h]
theorem Yd.keep {C:Addr}{H H':Hp}{m:Mc}{r:Rn}(M:Yd C H m r)(t:Tk H H')(h:∀b o,H b=some o→b=m.x∨b=m.db∨b=m.dg→H' b=some o):Yd C H' m r:=by
 obtain⟨dx,fs,rv,ru,tv,gv,e,f,i,j,⟨ff,eb,ib⟩,g,gl,it⟩:=M
 exact⟨dx,fs,rv,ru,tv,gv,h _ _ e (.inl rfl),f,i.mono t,j.mono t,⟨ff,h _ _ eb (.inr (.inl rfl)),fun z hz=>(ib z hz).mono t⟩,h _ _ g (.inr (.inr rfl)),gl.mono t,it.mono t⟩
theorem Yd.there {C:Addr}{H:Hp}{m:Mc}{r:Rn}(M:Yd C H m r){q:Addr}(h:H q=none):m.x≠q∧m.db≠q∧m.dg≠q:=by
 obtain⟨dx,fs,rv,ru,tv,gv,e,f,i,j,⟨ff,eb,ib⟩,g,gl,it⟩:=M
 exact⟨qm e h,qm eb h,qm g h⟩
section
variable {P:Program}{w:World}{K:PySem.W.Frag}{mg:Str→Option Value}{base:Heap}{a:Ad}{g:Ga}
theorem ok_drawn (T:Tx K mg a):FnOk P w K mg base CX0 3 a.jM a.jS ["pot"] sp_end:=by
 have Qh:FnOk P w K mg base CX0 1 a.Ye a.Yf ["pot","many"] zq:=w6 T
 have Zq:FnOk P w K mg base CX0 1 a.yy a.yF ["many"] (JY 298 5):=ok_ltext T
 have ZM:FnOk P w K mg base CX0 1 a.Yo a.Yj ["many"] (JY 39 3):=ok_lrow T
 have G_law_deep:FnOk P w K mg base CX0 1 a.JS a.JQ ["many"] (JY 9 5):=ok_deep T
 have G_law_great:FnOk P w K mg base CX0 1 a.jV a.jR ["many"] (JY 598 5):=ok_great T
 have G_law_pieces:FnOk P w K mg base CX0 1 a.jk a.jj ["many"] (JY 39 3):=ok_piec T
 have jQ:FnOk P w K mg base CX0 2 a.yB a.yH ["pot"] sp_end:=ok_end T
 have G_law_asking:FnOk P w K mg base CX0 2 a.jm a.jh ["pot","many"] sp_lp:=ok_asking T
 have G_law_loop:FnOk P w K mg base CX0 2 a.JO a.JE ["pot","many"] sp_lp:=ok_loop T
 refine T.zp.ok Jx (fun vs H Q E h=> ?_) (fun cdv A outer s H vs Q E hr h=> ?_)
 ·obtain⟨p,rfl,_⟩:=h
  rfl
 obtain⟨p,rfl,hP,q⟩:=h
 refine⟨_,(@qb _ _ _ _ _ (@qB _ _ (1) _ _ _ _ Jx.nd rfl (Or.inl rfl) (@qA _ _ _ _ _ _ _ _ _ _ _ _ _ _ _ _ Qh (hr.mono (by first|decide|omega)) (by rfl) T.QD T.Qw.kp T.QE .nil qQ (@qa _ _ _ _ _ (pv 0) (@qa _ _ _ _ _ (@qi _ _ _ _) (@qc _) (by trivial)) (by trivial)) (by trivial) (by trivial) (by trivial)) (by trivial) (by trivial)) (@qb _ _ _ _ _ (@qB _ _ (2) _ _ _ _ Jx.nd rfl (Or.inl rfl) (@qA _ _ _ _ _ _ _ _ _ _ _ _ _ _ _ _ Qh (hr.mono (by first|decide|omega)) (by rfl) T.QD T.Qw.kp T.QE .nil qQ (@qa _ _ _ _ _ (pv 0) (@qa _ _ _ _ _ (@qi _ _ _ _) (@qc _) (by trivial)) (by trivial)) (by trivial) (by trivial) (by trivial)) (by trivial) (by trivial)) (@qb _ _ _ _ _ (@qI _ _ _ _ _ _ _ _ (@qp _ _ _ _ _ _ _ _ (@QL _) (pv 1) (@qi _ _ _ _) (qz _)) (@qe _ _ _ (@qk _ _ _ _ (@qA _ _ _ _ _ _ _ _ _ _ _ _ _ _ _ _ Zq (hr.mono (by first|decide|omega)) (by rfl) T.zN T.Ju.kp T.Zw .nil qQ (@qa _ _ _ _ _ (@qD _ _ _ _ _ _ _ _ (@Qb _) (@qi _ _ _ _) (pv 2)) (@qc _) (by trivial)) (by trivial) (by trivial) (by trivial)))) (@qr _)) (@qb _ _ _ _ _ (@qI _ _ _ _ _ _ _ _ (@qp _ _ _ _ _ _ _ _ (@QL _) (pv 1) (@qi _ _ _ _) (qz _)) (@qe _ _ _ (@qk _ _ _ _ (@qA _ _ _ _ _ _ _ _ _ _ _ _ _ _ _ _ ZM (hr.mono (by first|decide|omega)) (by rfl) T.ZN T.JW.kp T.ZQ .nil qQ (@qa _ _ _ _ _ (@qD _ _ _ _ _ _ _ _ (@Qb _) (@qi _ _ _ _) (@qD _ _ _ _ _ _ _ _ (@XJ _) (pv 2) (@qi _ _ _ _))) (@qc _) (by trivial)) (by trivial) (by trivial) (by trivial)))) (@qr _)) (@qb _ _ _ _ _ (@qI _ _ _ _ _ _ _ _ (@qp _ _ _ _ _ _ _ _ (@QL _) (pv 1) (@qi _ _ _ _) (qz _)) (@qe _ _ _ (@qk _ _ _ _ (@qA _ _ _ _ _ _ _ _ _ _ _ _ _ _ _ _ G_law_deep (hr.mono (by first|decide|omega)) (by rfl) T.m_law_deep T.wa.kp T.b_law_deep .nil qQ (@qa _ _ _ _ _ (@qD _ _ _ _ _ _ _ _ (@Qb _) (@qi _ _ _ _) (pv 2)) (@qc _) (by trivial)) (by trivial) (by trivial) (by trivial)))) (@qr _)) (@qb _ _ _ _ _ (@qI _ _ _ _ _ _ _ _ (@qp _ _ _ _ _ _ _ _ (@QL _) (pv 1) (@qi _ _ _ _) (qz _)) (@qe _ _ _ (@qk _ _ _ _ (@qA _ _ _ _ _ _ _ _ _ _ _ _ _ _ _ _ G_law_great (hr.mono (by first|decide|omega)) (by rfl) T.m_law_great T.zO.kp T.b_law_great .nil qQ (@qa _ _ _ _ _ (@qD _ _ _ _ _ _ _ _ (@Qb _) (@qi _ _ _ _) (pv 2)) (@qc _) (by trivial)) (by trivial) (by trivial) (by trivial)))) (@qr _)) (@qb _ _ _ _ _ (@qI _ _ _ _ _ _ _ _ (@qp _ _ _ _ _ _ _ _ (@QL _) (pv 1) (@qi _ _ _ _) (qz _)) (@qe _ _ _ (@qk _ _ _ _ (@qA _ _ _ _ _ _ _ _ _ _ _ _ _ _ _ _ G_law_pieces (hr.mono (by first|decide|omega)) (by rfl) T.m_law_pieces T.XL.kp T.b_law_pieces .nil qQ (@qa _ _ _ _ _ (@qD _ _ _ _ _ _ _ _ (@Qb _) (@qi _ _ _ _) (@qD _ _ _ _ _ _ _ _ (@XJ _) (pv 2) (@qi _ _ _ _))) (@qc _) (by trivial)) (by trivial) (by trivial) (by trivial)))) (@qr _)) (@qb _ _ _ _ _ (@qI _ _ _ _ _ _ _ _ (@qp _ _ _ _ _ _ _ _ (@QL _) (pv 1) (@qi _ _ _ _) (qz _)) (@qe _ _ _ (@qk _ _ _ _ (@qA _ _ _ _ _ _ _ _ _ _ _ _ _ _ _ _ jQ (hr.mono (by first|decide|omega)) (by rfl) T.xI T.jK.kp T.xJ .nil qQ (@qa _ _ _ _ _ (pv 0) (@qc _) (by trivial)) (by trivial) (by trivial) (by trivial)))) (@qr _)) (@qb _ _ _ _ _ (@qI _ _ _ _ _ _ _ _ (@qp _ _ _ _ _ _ _ _ (@XY _) (pv 1) (@qi _ _ _ _) (qz _)) (@qe _ _ _ (@qk _ _ _ _ (@qA _ _ _ _ _ _ _ _ _ _ _ _ _ _ _ _ G_law_asking (hr.mono (by first|decide|omega)) (by rfl) T.m_law_asking T.XH.kp T.b_law_asking .nil qQ (@qa _ _ _ _ _ (pv 0) (@qa _ _ _ _ _ (@qD _ _ _ _ _ _ _ _ (@Qb _) (@qD _ _ _ _ _ _ _ _ (@Qb _) (@qi _ _ _ _) (pv 2)) (@qA _ _ _ _ _ _ _ _ _ _ _ _ _ _ _ _ Qh (hr.mono (by first|decide|omega)) (by rfl) T.QD T.Qw.kp T.QE .nil qQ (@qa _ _ _ _ _ (pv 0) (@qa _ _ _ _ _ (@qi _ _ _ _) (@qc _) (by trivial)) (by trivial)) (by trivial) (by trivial) (by trivial))) (@qc _) (by trivial)) (by trivial)) (by trivial) (by trivial) (by trivial)))) (@qr _)) (@qe _ _ _ (@qk _ _ _ _ (@qA _ _ _ _ _ _ _ _ _ _ _ _ _ _ _ _ G_law_loop (hr.mono (by first|decide|omega)) (by rfl) T.m_law_loop T.wb.kp T.b_law_loop .nil qQ (@qa _ _ _ _ _ (pv 0) (@qa _ _ _ _ _ (@qD _ _ _ _ _ _ _ _ (@Qb _) (@qD _ _ _ _ _ _ _ _ (@Qb _) (@qi _ _ _ _) (pv 2)) (@qA _ _ _ _ _ _ _ _ _ _ _ _ _ _ _ _ Qh (hr.mono (by first|decide|omega)) (by rfl) T.QD T.Qw.kp T.QE .nil qQ (@qa _ _ _ _ _ (pv 0) (@qa _ _ _ _ _ (@qi _ _ _ _) (@qc _) (by trivial)) (by trivial)) (by trivial) (by trivial) (by trivial))) (@qc _) (by trivial)) (by trivial)) (by trivial) (by trivial) (by trivial))))))))))))),?_⟩
 refine⟨_,rfl,p,11,rfl,hP,by decide,by decide,fun d1 H1 a0 a1 P1 K1 _=> ?_⟩
 refine⟨_,rfl,p,5,rfl,P1,by decide,by decide,fun d2 H2 b0 b1 P2 K2 _=> ?_⟩
 have K02:=K1.trans K2
 have fin:∀(v:V) (rs:List Rw) (H':Hp),Same H2 H'→Dr rs→Is H' (yM rs) v→Q v H':=fun v rs H' s hD hi=>q v rs H' hD hi (P2.same s) (K02.trans (Kept.of s))
 have fin2:∀(v:V) (rs:List Rw) (H':Hp),Dr rs→Is H' (yM rs) v→Xv H' p→Kept p H2 H'→Q v H':=fun v rs H' hD hi hp hk=>q v rs H' hD hi hp (K02.trans hk)
 refine⟨_,rfl,rfl,_,rfl,ite2 (fun _=> ?_) (fun _=> ?_)⟩
 ·exact⟨_,rfl,_,_,rfl,rfl,_,rfl,by omega,by omega,fin⟩
 refine⟨_,rfl,rfl,_,rfl,ite2 (fun _=> ?_) (fun _=> ?_)⟩
 ·exact⟨_,rfl,_,_,rfl,rfl,(by show(0:Int)<3;decide),_,_,rfl,rfl,_,rfl,by omega,by omega,fin⟩
 refine⟨_,rfl,rfl,_,rfl,ite2 (fun _=> ?_) (fun _=> ?_)⟩
 ·exact⟨_,rfl,_,_,rfl,rfl,_,rfl,by omega,by omega,fin⟩
 refine⟨_,rfl,rfl,_,rfl,ite2 (fun _=> ?_) (fun _=> ?_)⟩
 ·exact⟨_,rfl,_,_,rfl,rfl,_,rfl,by omega,by omega,fin⟩
 refine⟨_,rfl,rfl,_,rfl,ite2 (fun _=> ?_) (fun _=> ?_)⟩
 ·exact⟨_,rfl,_,_,rfl,rfl,(by show(0:Int)<3;decide),_,_,rfl,rfl,_,rfl,by omega,by omega,fin⟩
 refine⟨_,rfl,rfl,_,rfl,ite2 (fun _=> ?_) (fun _=> ?_)⟩
 ·exact⟨_,rfl,p,rfl,P2,fin2⟩
 refine⟨_,rfl,_,_,rfl,rfl,_,rfl,ite2 (fun _=> ?_) (fun _=> ?_)⟩
 ·refine⟨_,rfl,_,rfl,_,_,rfl,rfl,_,rfl,p,2,rfl,P2,by decide,by decide,fun d3 H3 c0 c1 P3 K3 _=>⟨_,_,rfl,rfl,p,_,rfl,by omega,by omega,P3,fun v rs H' hD hi hp hk=>fin2 v rs H' hD hi hp (K3.trans hk)⟩⟩
 ·refine⟨_,rfl,_,rfl,_,_,rfl,rfl,_,rfl,p,2,rfl,P2,by decide,by decide,fun d3 H3 c0 c1 P3 K3 _=>⟨_,_,rfl,rfl,p,_,rfl,by omega,by omega,P3,fun v rs H' hD hi hp hk=>fin2 v rs H' hD hi hp (K3.trans hk)⟩⟩
theorem ok_right (T:Tx K mg a)(C:Fx K w mg g a):FnOk P w K mg base CX0 26 a.j8 a.jX ["rule","own"] sp_right:=by
 have ZO:FnOk P w K mg base CX0 6 a.yf a.Ym ["self","rule","own"] (sp_minit a.qq):=ok_minit T C
 have G_law_go:FnOk P w K mg base CX0 24 a.zk a.X8 ["rule","own","answers"] sp_lgo:=ok_lgo T
 have wW:FnOk P w K mg base CX0 1 a.YG a.YE ["self"] (sp_now a.qq):=ok_now T
 have Zx:FnOk P w K mg base CX0 1 a.yJ a.yG ["self"] (sp_asks a.qq):=ok_asks T
 have ZD:FnOk P w K mg base CX0 1 a.yE a.yz ["self"] (sp_lines a.qq):=ok_lines T
 have X0:FnOk P w K mg base CX0 6 a.ym a.yk ["self","tree"] (sp_ans a.qq):=ok_ans T C
 refine T.yW.ok QM (fun vs H Q E h=> ?_) (fun cdv A outer s H vs Q E hr h=> ?_)
 ·obtain⟨v,own,rs,rfl,_⟩:=h
  rfl
 obtain⟨v,own,rs,rfl,hv,hD,hnm,hol,k⟩:=h
 have hR:=hD.rule
 refine⟨_,(@qb _ _ _ _ _ (@qB _ _ (2) _ _ _ _ QM.nd rfl (Or.inl rfl) (@pe_make _ _ _ _ _ _ _ _ _ _ _ _ _ _ _ _ _ T.M_Machine ZO (hr.mono (by first|decide|omega)) (by rfl) T.m_Machine T.ZS .nil qQ (@qa _ _ _ _ _ (pv 0) (@qa _ _ _ _ _ (pv 1) (@qc _) (by trivial)) (by trivial)) (by trivial) (by trivial) (by trivial)) (by trivial) (by trivial)) (@qb _ _ _ _ _ (@qB _ _ (3) _ _ _ _ QM.nd rfl (Or.inl rfl) (@Qu _ _ _ _ (@qc _)) (by trivial) (by trivial)) (@qb _ _ _ _ _ (@wm _ _ _ _ _ _ _ _ PassesOwn.never rfl (@xt _ _ _ _ _ _ (by rfl) T.zV (@qa _ _ _ _ _ (@qi _ _ _ _) (@qc _) (by trivial)) (by trivial)) (@Qm _ _ (4) _ QM.nd rfl (Or.inl rfl) (by trivial)) (@qb _ _ _ _ _ (@qB _ _ (5) _ _ _ _ QM.nd rfl (Or.inl rfl) (@jP _ _ _ _ _ _ _ _ _ _ _ _ _ _ _ _ _ (pv 2) T.ql T.wU wW (hr.mono (by first|decide|omega)) T.Wm .nil qQ (by trivial)) (by trivial) (by trivial)) (@qb _ _ _ _ _ (@qI _ _ _ _ _ _ _ _ (@Jd _ _ _ _ _ _ _ (@qp _ _ _ _ _ _ _ _ (@op_ne _) (@qL _ _ _ _ _ _ _ (@jA _) (pv 5) (@qi _ _ _ _) (fun _ _=>rfl)) (@qh _ _ _ _) (qz _)) (@jf _ _ _ _ (@qp _ _ _ _ _ _ _ _ (@QL _) (@qD _ _ _ _ _ _ _ _ (@XJ _) (pv 4) (@qi _ _ _ _)) (@qi _ _ _ _) (qz _)))).pt (@qb _ _ _ _ _ (@ps_asg _ _ _ _ _ _ (@qA _ _ _ _ _ _ _ _ _ _ _ _ _ _ _ _ G_law_go (hr.mono (by first|decide|omega)) (by rfl) T.m_law_go T.F_law_go.kp T.b_law_go .nil qQ (@qa _ _ _ _ _ (pv 0) (@qa _ _ _ _ _ (pv 1) (@qa _ _ _ _ _ (pv 3) (@qc _) (by trivial)) (by trivial)) (by trivial)) (by trivial) (by trivial) (by trivial)) (@pg_tup _ _ _ _ _ _ rfl (xN (@Qm _ _ (6) _ QM.nd rfl (Or.inl rfl) (by trivial)) (xN (@Qm _ _ (7) _ QM.nd rfl (Or.inl rfl) (by trivial)) (xN (@Qm _ _ (8) _ QM.nd rfl (Or.inl rfl) (by trivial)) pgs_nil))) (by trivial) (by trivial)) (by trivial) (by trivial) (by trivial)) (@qe _ _ _ (@qI _ _ _ _ _ _ _ _ (@qp _ _ _ _ _ _ _ _ (@op_neLR _ hr.units) (@Qu _ _ _ _ (@qa _ _ _ _ _ (@jP _ _ _ _ _ _ _ _ _ _ _ _ _ _ _ _ _ (pv 2) T.ql T.ZC Zx (hr.mono (by first|decide|omega)) T.Zy .nil qQ (by trivial)) (@qa _ _ _ _ _ (pv 5) (@qa _ _ _ _ _ (@jP _ _ _ _ _ _ _ _ _ _ _ _ _ _ _ _ _ (pv 2) T.ql T.zy ZD (hr.mono (by first|decide|omega)) T.zX .nil qQ (by trivial)) (@qc _) (by trivial)) (by trivial)) (by trivial))) (@Qu _ _ _ _ (@qa _ _ _ _ _ (pv 6) (@qa _ _ _ _ _ (pv 7) (@qa _ _ _ _ _ (pv 8) (@qc _) (by trivial)) (by trivial)) (by trivial))) (qz _)) (@qe _ _ _ (@qk _ _ _ _ (@Jv _ _ _ _))) (@qr _)))) (@qr _)) (@qb _ _ _ _ _ (@qI _ _ _ _ _ _ _ _ (@qp _ _ _ _ _ _ _ _ (@op_ne _) (@qL _ _ _ _ _ _ _ (@jA _) (pv 5) (@qi _ _ _ _) (fun _ _=>rfl)) (@qh _ _ _ _) (qz _)) (@qe _ _ _ (@qk _ _ _ _ (@Jv _ _ _ _))) (@qr _)) (@qb _ _ _ _ _ (@jq _ _ _ _ (@Xx _ _ _ _ _ _ _ _ _ _ _ _ PySem.F.plainAttrs_list PySem.F.slot_list_append PySem.F.type_list_append (@Jw _) (pv 3) (@qa _ _ _ _ _ (@qZ _ _ _ _ _ _ (yd hr) (@pe_disp _ _ _ _ _ (@Yn _ _ _ _ _ _ _ _ _ (@qh _ _ _ _) (@qh _ _ _ _) (@Yn _ _ _ _ _ _ _ _ _ (@qh _ _ _ _) (@qh _ _ _ _) (@Yn _ _ _ _ _ _ _ _ _ (@qh _ _ _ _) (@qP _ _ _ _ _ (@qa _ _ _ _ _ (@qh _ _ _ _) (@qa _ _ _ _ _ (@qh _ _ _ _) (@qc _) (by trivial)) (by trivial))) (@pps_nil _ _)))) rfl rfl (by simp) (by decide)) (@qL _ _ _ _ _ _ _ (@jA _) (@qL _ _ _ _ _ _ _ (@jA _) (pv 5) (@qi _ _ _ _) (fun _ _=>rfl)) (@qi _ _ _ _) (fun _ _=>rfl)) (fun _ _=>rfl)) (@qc _) (by trivial)) (by trivial) (by trivial) (by trivial) (by trivial) (by trivial)) (by trivial)) (@qe _ _ _ (@jq _ _ _ _ (@pe_meth _ _ _ _ _ _ _ _ _ _ _ _ _ _ _ _ _ _ _ _ (pv 2) T.ql T.XZ X0 (hr.mono (by first|decide|omega)) T.XS .nil qQ (@qa _ _ _ _ _ (@qL _ _ _ _ _ _ _ (@qS _) (pv 3) (@pe_un _ _ _ _ _ _ un_neg (@qi _ _ _ _)) (fun _ _=>rfl)) (@qc _) (by trivial)) (by trivial) (by trivial) (by trivial)) (by trivial))))))) (by trivial)) (@qe _ _ _ (@qk _ _ _ _ (@Jv _ _ _ _)))))),?_⟩
 have n1:=hR.n1
 have two:(2:Nat)≤sizeLine:=by decide
 have three:(3:Nat)≤sizeLine:=by decide
 refine⟨_,rfl,_,rfl,fun x dx hx hdx nx=> ?_⟩
 have s0:Same H (upd (upd H dx (.own x)) x (.ins a.qq dx [])):=fun b o h=>by rw [qu (qm h hx),qu (qm h hdx)];exact h
 refine⟨x,dx,v,rs,own,rfl,qf,hR,hv.mono s0.tk,hnm,hol,fun H1 db dg kept hdb hdg M1=>⟨rfl,?_⟩⟩
 have S1:Same H H1:=fun b o h=>kept b o (s0 b o h) (qm h hx)
 have fr:∀{Ha:Hp}{b:Addr},Same H Ha→Ha b=none→H b=none:=fun{Ha b} s h=>by
  cases hc:H b with
  |none=>rfl
  |some o=>rw [s _ _ hc] at h;cases h
 have hdbH:=fr s0 hdb
 have hdgH:=fr s0 hdg
 refine⟨(by show 0≤sizeLine;decide),fun la hla=> ?_⟩
 have s2:=qd hla (.lst [])
 have nml:=M1.there hla
 have hlaH:=fr S1 hla
 have e2:upd H1 la (.lst []) la=some (.lst []):=qf
 have M2:=M1.same s2
 have S2:=S1.trans s2
 generalize upd H1 la (.lst [])=H2 at s2 e2 M2 S2⊢
 refine⟨152,rfl,by decide,by decide,?_⟩
 refine xO (n:=152) (fun i σ H'=>∃(as:List D) (av:List V) (x4 x5 x6 x7 x8:Option V),σ= [some v,some (.str own),some (.ref x),some (.ref la),x4,x5,x6,x7,x8]∧as.length=i∧i≤150∧H' la=some (.lst av)∧L2.IsL H' as av∧(∀d∈as,AnsOk d)∧Yd a.qq H' ⟨x,db,dg,rs,own⟩ (Q4 rs own as)∧(Q4 rs own as).gs.length=i∧(Qe (Q4 rs own as).th=true→2*i≤(Q4 rs own as).n)∧Same H H') ⟨[],[],_,_,_,_,_,rfl,rfl,by omega,e2,rfl,fun d hd=>(by simp at hd),M2,by rw [show(Q4 rs own []).gs= [] from(xl 300 B0 1 0).2];rfl,fun _=>Nat.zero_le _,S2⟩ ?_ ?_
 ·rintro i σ H' hi ⟨as,av,x4,x5,x6,x7,x8,rfl,hal,hi2,ela,iav,haok,M,hgl,hcnt,sm⟩
  have hO:=stand_ok (own:=own) hR haok
  obtain⟨dx3,fs3,rv3,ru3,tv3,gv3,e3,f3,r3⟩:=id M
  obtain⟨wd,ed,eth⟩:=hO.two
  refine⟨_,rfl,x,dx3,fs3,rfl,e3,f3.meth _ (by decide+kernel),⟨x,db,dg,rs,own⟩,_,rfl,M,fun v5 i5=> ?_⟩
  have ew:decide (V.str wd=V.str ("asks":Str))=decide (wd="asks"):=by
   rw [decide_eq_decide]
   exact⟨fun h=>by injection h,fun h=>by rw [h]⟩
  have hwt:Qe (Q4 rs own as).th=decide (wd="asks"):=by rw [eth];rfl
  have at0:∀{Ha:Hp}{Q:VK},Is Ha (Q4 rs own as).th v5→Q (.str wd) Ha→rIxT K v5 (.int 0) Ha Q:=fun{Ha Q} i q=>by
   rw [eth] at i
   exact jT (i:=0) (d:= .str wd) i (QI (j:=0) rfl) fun y hy=>by
    obtain⟨rfl,_⟩:=hy
    exact q
  refine⟨_,rfl,.inr (.inl (at0 i5 ⟨rfl,_,rfl,?_⟩))⟩
  rw [ew]
  have hnl:nL [.tup (Q4 rs own as).gs,(Q4 rs own as).th,.int ((Q4 rs own as).n:Int)]=true:=by
   simp only [nL,nD,hO.gs.1,good_n hO.gd.1,Bool.and_true]
  have hdl:dpL [.tup (Q4 rs own as).gs,(Q4 rs own as).th,.int ((Q4 rs own as).n:Int)]≤60:=by
   have h1:=hO.gs.2.1
   have h2:=hO.gd.2
   simp only [dpL,dp]
   omega
  by_cases cw:wd="asks"
  ·refine qo (by rw [decide_eq_true cw];rfl) ?_
   have hw:Qe (Q4 rs own as).th=true:=by rw [hwt];exact decide_eq_true cw
   obtain⟨_,_,hn3,u,d,eu,hu,hd⟩:=hO.ask hw
   have hc2:=hcnt hw
   refine⟨_,rfl,_,_,rfl,rfl,(by show(0:Int)<16;decide),rfl,_,rfl,?_⟩
   refine ite2 (fun _=> ?_) (fun _=> ?_)
   refine⟨_,rfl,_,rfl,_,rfl,v,own,la,rs,as,av,rfl,ela,iav,haok,by omega,hv.mono sm.tk,hR,hol,fun u4 H4 s4 i4=> ?_⟩
   rw [goF_stand] at i4
   obtain⟨p4,us4,rfl,e4,w1,r1,rfl,j1,w2,r2,rfl,j2,w3,r3',rfl,j3,j4⟩:=i4
   cases(show w3= .int ((Q4 rs own as).n:Int) from j3)
   cases(show r3'= [] from j4)
   refine⟨p4,_,rfl,SqT.of e4,rfl,_,_,rfl,_,_,rfl,_,_,rfl,rfl,?_⟩
   have M4:=M.same s4
   refine⟨_,rfl,x,dx3,fs3,rfl,s4 _ _ e3,f3.meth _ (by decide+kernel),⟨x,db,dg,rs,own⟩,_,rfl,M4,fun v6 H5 s5 i6=> ?_⟩
   have M5:=M4.same s5
   refine⟨_,rfl,_,rfl,x,dx3,fs3,rfl,s5 _ _ (s4 _ _ e3),f3.meth _ (by decide+kernel),⟨x,db,dg,rs,own⟩,_,rfl,M5,three,fun l1 h1=> ?_⟩
   have q1:=qd h1 (.lst [v6,v5,.int ((Q4 rs own as).n:Int)])
   refine⟨_,rfl,_,rfl,_,rfl,three,fun l2 h2=> ?_⟩
   have q2:=qd h2 (.lst [w1,w2,.int ((Q4 rs own as).n:Int)])
   have q12:=q1.trans q2
   have t2:=s5.tk.trans q12.tk
   refine⟨l1,l2,_,_,[.tup (Q4 rs own as).gs,(Q4 rs own as).th,.int ((Q4 rs own as).n:Int)],rfl,rfl,SqL.of (q2 _ _ qf),SqL.of qf,⟨_,_,rfl,i6.mono q12.tk,_,_,rfl,(i5.mono s4.tk).mono t2,_,_,rfl,rfl,rfl⟩,⟨_,_,rfl,Is.mono t2 j1,_,_,rfl,Is.mono t2 j2,_,_,rfl,rfl,rfl⟩,hnl,hdl,_,rfl,iteF ?_⟩
   have S6:=s4.trans (s5.trans q12)
   generalize upd (upd H5 l1 (.lst [v6,v5,.int ((Q4 rs own as).n:Int)])) l2 (.lst [w1,w2,.int ((Q4 rs own as).n:Int)])=H6 at S6⊢
   clear q1 q2 q12 t2 M5 M4 i6 s5 h1 h2 j1 j2 j3 j4 e4 s4
   rotate_left
   obtain⟨H6,hH6⟩:∃H6,H6=H':=⟨_,rfl⟩
   have S6:Same H' H6:=by rw [hH6];exact Same.refl _
   rw [←hH6]
   rotate_left
   all_goals
    have i56:=i5.mono S6.tk
    have M6:=M.same S6
    have ela6:=S6 _ _ ela
    have iav6:=iav.mono S6.tk
    refine⟨_,rfl,.inr (.inl (at0 i56 ⟨rfl,_,rfl,?_⟩))⟩
    rw [ew]
    refine qo (by rw [decide_eq_true cw];rfl) ?_
    rw [eu] at i56
    refine⟨_,rfl,.inl ⟨rfl,_,SqL.of ela6⟩,fun q hq=>⟨two,fun l5 hl5=> ?_⟩⟩
    have nq:q≠l5:=qm qf hl5
    have sq:=qd hq (.dK [])
    have s5:=qd hl5 (.tup [.str "a",.str "x"])
    have i5n:Is (upd (upd H6 q (.dK [])) l5 (.tup [.str "a",.str "x"])) (.tup ((["a","x"]:List Str).map D.str)) (.ref l5):=Is.new (ds:= [.str "a",.str "x"]) ⟨_,_,rfl,⟨rfl,qU (by decide)⟩,_,_,rfl,⟨rfl,qU (by decide)⟩,rfl⟩ hl5
    refine⟨by rw [qu nq];exact qf,[((Sum.inr "thing":Key),V.str "q"),(Sum.inr "has",V.str "no"),(Sum.inr "names",.ref l5)],rfl,(by show 3≤15;decide),?_⟩
    rw [show j9 [] [((Sum.inr "thing":Key),V.str "q"),(Sum.inr "has",V.str "no"),(Sum.inr "names",V.ref l5)]= [((Sum.inr "thing":Key),V.str "q"),(Sum.inr "has",V.str "no"),(Sum.inr "names",V.ref l5)] from rfl]
    have smk:∀kvs,Same H6 (upd (upd (upd H6 q (.dK [])) l5 (.tup [.str "a",.str "x"])) q (.dK kvs)):=fun kvs b o h=>by
     rw [qu (qm h hq)]
     exact s5 _ _ (sq b o h)
    have tkk:∀kvs,Tk (upd (upd H6 q (.dK [])) l5 (.tup [.str "a",.str "x"])) (upd (upd (upd H6 q (.dK [])) l5 (.tup [.str "a",.str "x"])) q (.dK kvs)):=fun kvs=>Tk.updD (by rw [qu nq];exact qf)
    have S8:=smk [((Sum.inr "thing":Key),V.str "q"),(Sum.inr "has",V.str "no"),(Sum.inr "names",.ref l5)]
    have i58:=i5n.mono (tkk [((Sum.inr "thing":Key),V.str "q"),(Sum.inr "has",V.str "no"),(Sum.inr "names",.ref l5)])
    have eq8:(upd (upd (upd H6 q (.dK [])) l5 (.tup [.str "a",.str "x"])) q (.dK [((Sum.inr "thing":Key),V.str "q"),(Sum.inr "has",V.str "no"),(Sum.inr "names",.ref l5)])) q=some (.dK [((Sum.inr "thing":Key),V.str "q"),(Sum.inr "has",V.str "no"),(Sum.inr "names",.ref l5)]):=qf
    generalize upd (upd (upd H6 q (.dK [])) l5 (.tup [.str "a",.str "x"])) q (.dK [((Sum.inr "thing":Key),V.str "q"),(Sum.inr "has",V.str "no"),(Sum.inr "names",.ref l5)])=H8 at S8 i58 eq8⊢
    have M8:=M6.same S8
    have ela8:=S8 _ _ ela6
    refine⟨_,rfl,.inr (.inl (jT (i:=1) (i56.mono S8.tk) (QI (j:=1) rfl) fun q6 hq6=> ?_))⟩
    refine .inr (.inl (jT (i:=0) (d:= .str u) hq6 (QI (j:=0) rfl) fun q7 hq7=> ?_))
    obtain⟨rfl,_⟩:=hq7
    have hval:∃(y:V) (an:D),DGet H8 q (.str u) (some y)∧Is H8 an y∧AnsFor u an:=by
     simp only [List.mem_cons,List.not_mem_nil,or_false] at hu
     rcases hu with rfl|rfl|rfl
     ·exact⟨_,.str "q",DGet.k (k:=(Sum.inr "thing":Key)) eq8,⟨rfl,qU (by decide)⟩,.inl ⟨rfl,.inr (by decide+kernel)⟩⟩
     ·exact⟨_,.str "no",DGet.k (k:=(Sum.inr "has":Key)) eq8,⟨rfl,qU (by decide)⟩,.inr (.inl ⟨rfl,.inr rfl⟩)⟩
     ·exact⟨_,.tup ((["a","x"]:List Str).map D.str),DGet.k (k:=(Sum.inr "names":Key)) eq8,i58,.inr (.inr ⟨rfl,["a","x"],rfl,by decide+kernel,by decide+kernel⟩)⟩
    obtain⟨y,an,hget,iy,han⟩:=hval
    refine⟨q,y,rfl,hget,?_⟩
    have havl:av.length=as.length:=iav.length
    refine⟨la,av,y,rfl,rfl,ela8,Jl (by omega),?_⟩
    have t9:Tk H8 (upd H8 la (.lst (av++ [y]))):=Tk.updL ela8
    have ela9:(upd H8 la (.lst (av++ [y]))) la=some (.lst (av++ [y])):=qf
    have M9:=M8.keep t9 fun b o e hb=>by
     have:b≠la:=by
      rcases hb with rfl|rfl|rfl
      ·exact nml.1
      ·exact nml.2.1
      ·exact nml.2.2
     rw [qu this]
     exact e
    have sm9:Same H (upd H8 la (.lst (av++ [y]))):=fun b o e=>by
     rw [qu (qm e hlaH)]
     exact S8 _ _ (S6 _ _ (sm b o e))
    have iy9:=iy.mono t9
    have iav9:=((iav6.mono S8.tk).mono t9).append (IsL.one iy9)
    generalize upd H8 la (.lst (av++ [y]))=H9 at t9 ela9 M9 sm9 iy9 iav9⊢
    obtain⟨dx9,fs9,rv9,ru9,tv9,gv9,e9,f9,r9⟩:=id M9
    refine⟨_,rfl,x,dx9,fs9,rfl,e9,f9.meth _ (by decide+kernel),_,rfl,_,rfl,la,_,_,y,rfl,rfl,SqL.of ela9,zg _ _,⟨x,db,dg,rs,own⟩,_,y,u,d,an,rfl,M9,hO,eu,iy9,han,hR,hol,fun H10 mv10 M10=> ?_⟩
    simp only at M10
    obtain⟨g1,g2⟩:=ans_cnt (own:=own) hD hO hw (by rw [hgl];exact hc2) han.ok
    rw [←stand_snoc an hw] at M10 g1 g2
    refine⟨as++ [an],av++ [y],_,_,_,_,_,rfl,by rw [List.length_append,hal];rfl,by omega,mv10.kept _ _ ela9 nml.1.symm nml.2.1.symm nml.2.2.symm,iav9.mono mv10.tk,fun z hz=> ?_,M10,by rw [g1,hgl],fun hw2=>by have:=g2 hw2;rw [g1,hgl] at this;exact this,fun b o e=>mv10.kept b o (sm9 b o e) (qm e hx) (qm e hdbH) (qm e hdgH)⟩
    rcases List.mem_append.mp hz with h|h
    ·exact haok z h
    ·rw [List.mem_singleton] at h;subst h;exact han.ok
  ·refine qG (by rw [decide_eq_false cw];rfl) ?_
   refine iteT ?_
   refine⟨_,rfl,_,rfl,_,rfl,v,own,la,rs,as,av,rfl,ela,iav,haok,by omega,hv.mono sm.tk,hR,hol,fun u4 H4 s4 i4=> ?_⟩
   rw [goF_stand] at i4
   obtain⟨p4,us4,rfl,e4,w1,r1,rfl,j1,w2,r2,rfl,j2,w3,r3',rfl,j3,j4⟩:=i4
   cases(show w3= .int ((Q4 rs own as).n:Int) from j3)
   cases(show r3'= [] from j4)
   refine⟨p4,_,rfl,SqT.of e4,rfl,_,_,rfl,_,_,rfl,_,_,rfl,rfl,?_⟩
   have M4:=M.same s4
   refine⟨_,rfl,x,dx3,fs3,rfl,s4 _ _ e3,f3.meth _ (by decide+kernel),⟨x,db,dg,rs,own⟩,_,rfl,M4,fun v6 H5 s5 i6=> ?_⟩
   have M5:=M4.same s5
   refine⟨_,rfl,_,rfl,x,dx3,fs3,rfl,s5 _ _ (s4 _ _ e3),f3.meth _ (by decide+kernel),⟨x,db,dg,rs,own⟩,_,rfl,M5,three,fun l1 h1=> ?_⟩
   have q1:=qd h1 (.lst [v6,v5,.int ((Q4 rs own as).n:Int)])
   refine⟨_,rfl,_,rfl,_,rfl,three,fun l2 h2=> ?_⟩
   have q2:=qd h2 (.lst [w1,w2,.int ((Q4 rs own as).n:Int)])
   have q12:=q1.trans q2
   have t2:=s5.tk.trans q12.tk
   refine⟨l1,l2,_,_,[.tup (Q4 rs own as).gs,(Q4 rs own as).th,.int ((Q4 rs own as).n:Int)],rfl,rfl,SqL.of (q2 _ _ qf),SqL.of qf,⟨_,_,rfl,i6.mono q12.tk,_,_,rfl,(i5.mono s4.tk).mono t2,_,_,rfl,rfl,rfl⟩,⟨_,_,rfl,Is.mono t2 j1,_,_,rfl,Is.mono t2 j2,_,_,rfl,rfl,rfl⟩,hnl,hdl,_,rfl,iteF ?_⟩
   have S6:=s4.trans (s5.trans q12)
   refine⟨_,rfl,.inr (.inl (at0 (i5.mono S6.tk) ⟨rfl,_,rfl,?_⟩))⟩
   rw [ew]
   refine qG (by rw [decide_eq_false cw];rfl) ?_
   exact k _ (sm.trans S6)
 ·rintro σ H' ⟨as,av,x4,x5,x6,x7,x8,rfl,hal,hi2,ela,iav,haok,M,hgl,hcnt,sm⟩
  omega
end
end K13
namespace K13
open PySem L2 PyProof.Rows
open Builtin.Int (intBits)
def sp_law (K:PySem.W.Frag):Sp:=fun vs H Q _=>∃(q:Addr) (ns:List Int),vs= [.ref q]∧SqL K H q (ns.map V.int)∧ns.length≤63∧(∀x∈ns,intBits x≤MB)∧∀H',Q (.bl true) H'
def r40:List Rw:=List.replicate 40 ("row",[.s "a"])
def rGo:List Rw:= [("go",[.n 1])]
def rSay:List Rw:= [("say",[.s "a"])]
theorem d40:chk r40=true:=by decide+kernel
theorem dGo:chk rGo=true:=by decide+kernel
theorem dSay:chk rSay=true:=by decide+kernel
section
variable {P:Program}{w:World}{K:PySem.W.Frag}{mg:Str→Option Value}{base:Heap}{a:Ad}{g:Ga}
theorem ok_law (T:Tx K mg a)(C:Fx K w mg g a):FnOk P w K mg base CX0 27 a.f_law a.d_law ["script"] (sp_law K):=by
 have Wq:FnOk P w K mg base CX0 1 a.Yz a.YB ["script","k"] (sp_cell K):=ok_cell T
 have G_law_pot:FnOk P w K mg base CX0 1 a.xF a.xy ["cell","salt"] sp_pot:=ok_pot T
 have G_law_drawn:FnOk P w K mg base CX0 3 a.jM a.jS ["pot"] sp_end:=ok_drawn T
 have jQ:FnOk P w K mg base CX0 2 a.yB a.yH ["pot"] sp_end:=ok_end T
 have Y5:FnOk P w K mg base CX0 26 a.j8 a.jX ["rule","own"] sp_right:=ok_right T C
 refine T.F_law.ok sc_law (fun vs H Q E h=> ?_) (fun cdv A outer s H vs Q E hr h=> ?_)
 ·obtain⟨q,ns,rfl,_⟩:=h
  rfl
 obtain⟨q,ns,rfl,hS,hlen,hbit,k⟩:=h
 refine⟨_,(@qb _ _ _ _ _ (@wm _ _ _ _ _ _ _ _ PassesOwn.never rfl (@xt _ _ _ _ _ _ (by rfl) T.zV (@qa _ _ _ _ _ (@qD _ _ _ _ _ _ _ _ (@Qb _) (@qj _ _ _ _ _ _ _ _ _ (@call_min2 _ rfl) (by rfl) T.z_min boot_min (@qa _ _ _ _ _ (@qi _ _ _ _) (@qa _ _ _ _ _ (@qj _ _ _ _ _ _ _ _ _ (@qM _) (by rfl) T.ye PySem.boot_len (@qa _ _ _ _ _ (pv 0) (@qc _) (by trivial)) (by trivial) (by trivial) (by trivial) (by trivial)) (@qc _) (by trivial)) (by trivial)) (by trivial) (by trivial) (by trivial) (by trivial)) (@qi _ _ _ _)) (@qc _) (by trivial)) (by trivial)) (@Qm _ _ (1) _ sc_law.nd rfl (Or.inl rfl) (by trivial)) (@qe _ _ _ (@qI _ _ _ _ _ _ _ _ (@Qo _ _ _ _ (@qT _ _ _ (@qA _ _ _ _ _ _ _ _ _ _ _ _ _ _ _ _ Y5 (hr.mono (by first|decide|omega)) (by rfl) T.Y1 T.yW.kp T.jb .nil qQ (@qa _ _ _ _ _ (@qA _ _ _ _ _ _ _ _ _ _ _ _ _ _ _ _ G_law_drawn (hr.mono (by first|decide|omega)) (by rfl) T.m_law_drawn T.zp.kp T.b_law_drawn .nil qQ (@qa _ _ _ _ _ (@qA _ _ _ _ _ _ _ _ _ _ _ _ _ _ _ _ G_law_pot (hr.mono (by first|decide|omega)) (by rfl) T.m_law_pot T.F_law_pot.kp T.b_law_pot .nil qQ (@qa _ _ _ _ _ (@qA _ _ _ _ _ _ _ _ _ _ _ _ _ _ _ _ Wq (hr.mono (by first|decide|omega)) (by rfl) T.wF T.xR.kp T.Ws .nil qQ (@qa _ _ _ _ _ (pv 0) (@qa _ _ _ _ _ (pv 1) (@qc _) (by trivial)) (by trivial)) (by trivial) (by trivial) (by trivial)) (@qa _ _ _ _ _ (@qD _ _ _ _ _ _ _ _ (@Qb _) (@qi _ _ _ _) (pv 1)) (@qc _) (by trivial)) (by trivial)) (by trivial) (by trivial) (by trivial)) (@qc _) (by trivial)) (by trivial) (by trivial) (by trivial)) (@qa _ _ _ _ _ (@qh _ _ _ _) (@qc _) (by trivial)) (by trivial)) (by trivial) (by trivial) (by trivial)) (by trivial))) (@qe _ _ _ (@qk _ _ _ _ (@Jv _ _ _ _))) (@qr _))) (by trivial)) (@qb _ _ _ _ _ (@qI _ _ _ _ _ _ _ _ (@Qo _ _ _ _ (@qT _ _ _ (@qA _ _ _ _ _ _ _ _ _ _ _ _ _ _ _ _ Y5 (hr.mono (by first|decide|omega)) (by rfl) T.Y1 T.yW.kp T.jb .nil qQ (@qa _ _ _ _ _ (@qA _ _ _ _ _ _ _ _ _ _ _ _ _ _ _ _ jQ (hr.mono (by first|decide|omega)) (by rfl) T.xI T.jK.kp T.xJ .nil qQ (@qa _ _ _ _ _ (@Qu _ _ _ _ (@qa _ _ _ _ _ (@qi _ _ _ _) (@qc _) (by trivial))) (@qc _) (by trivial)) (by trivial) (by trivial) (by trivial)) (@qa _ _ _ _ _ (@qh _ _ _ _) (@qc _) (by trivial)) (by trivial)) (by trivial) (by trivial) (by trivial)) (by trivial))) (@qe _ _ _ (@qk _ _ _ _ (@Jv _ _ _ _))) (@qr _)) (@qe _ _ _ (@qk _ _ _ _ (@XA _ _ _ _ _ _ _ (@qA _ _ _ _ _ _ _ _ _ _ _ _ _ _ _ _ Y5 (hr.mono (by first|decide|omega)) (by rfl) T.Y1 T.yW.kp T.jb .nil qQ (@qa _ _ _ _ _ (@qD _ _ _ _ _ _ _ _ (@op_repT _) (@qP _ _ _ _ _ (@qa _ _ _ _ _ (@qh _ _ _ _) (@qc _) (by trivial))) (@qi _ _ _ _)) (@qa _ _ _ _ _ (@qh _ _ _ _) (@qc _) (by trivial)) (by trivial)) (by trivial) (by trivial) (by trivial)) (@XA _ _ _ _ _ _ _ (@qA _ _ _ _ _ _ _ _ _ _ _ _ _ _ _ _ Y5 (hr.mono (by first|decide|omega)) (by rfl) T.Y1 T.yW.kp T.jb .nil qQ (@qa _ _ _ _ _ (@qP _ _ _ _ _ (@qa _ _ _ _ _ (@qh _ _ _ _) (@qc _) (by trivial))) (@qa _ _ _ _ _ (@qh _ _ _ _) (@qc _) (by trivial)) (by trivial)) (by trivial) (by trivial) (by trivial)) (@XD _ _ _ _ _ (@qA _ _ _ _ _ _ _ _ _ _ _ _ _ _ _ _ Y5 (hr.mono (by first|decide|omega)) (by rfl) T.Y1 T.yW.kp T.jb .nil qQ (@qa _ _ _ _ _ (@qP _ _ _ _ _ (@qa _ _ _ _ _ (@qh _ _ _ _) (@qc _) (by trivial))) (@qa _ _ _ _ _ (@qh _ _ _ _) (@qc _) (by trivial)) (by trivial)) (by trivial) (by trivial) (by trivial))))))))),?_⟩
 have nmk:nm "k"=true∧nm "b1"=true∧nm "a"=true:=by decide+kernel
 refine⟨_,rfl,q,_,rfl,.inl hS,_,_,rfl,_,_,rfl,rfl,?_⟩
 obtain⟨nk,hnk,hn5⟩:∃nk:Nat,(if((ns.map V.int).length:Int)<3 then((ns.map V.int).length:Int) else 3)+1=(nk:Int)∧nk≤5:=by
  refine⟨((if((ns.map V.int).length:Int)<3 then((ns.map V.int).length:Int) else 3)+1).toNat,?_,?_⟩<;>split<;>omega
 refine⟨(nk:Int),congrArg (fun z=> [V.int z]) hnk,by omega,by omega,?_⟩
 refine xO (n:=nk) (fun i σ H'=>∃(x1:Option V),σ= [some (.ref q),x1]∧Same H H') ⟨_,rfl,Same.refl _⟩ ?_ ?_
 ·rintro i σ H' hi ⟨x1,rfl,sm⟩
  rw [show(0:Int)+(i:Int)=(i:Int) by omega]
  refine⟨_,rfl,_,rfl,q,ns,i,rfl,sm.seq hS,hbit,fun x hx=>⟨_,rfl,_,_,rfl,rfl,x,_,rfl,hx,by omega,by omega,fun p Hp hp sp Pp=> ?_⟩⟩
  refine⟨p,rfl,Pp.at,fun v rs H2 hD iv P2 K2=> ?_⟩
  refine⟨v,"k",rs,rfl,iv,hD,nmk.1,by decide+kernel,fun H3 s3=>⟨_,rfl,iteF ?_⟩⟩
  exact⟨_,rfl,sm.trans ((K2.same sp hp).trans s3)⟩
 ·rintro σ H' ⟨x1,rfl,sm⟩
  refine⟨(by show 1≤sizeLine;decide),fun p hp=> ?_⟩
  refine⟨p,rfl,⟨2,qf,by decide⟩,fun v rs H2 hD iv P2 K2=> ?_⟩
  refine⟨v,"b1",rs,rfl,iv,hD,nmk.2.1,by decide+kernel,fun H3 s3=>⟨_,rfl,iteF ?_⟩⟩
  refine⟨(by show 1≤sizeLine;decide),fun t1 h1=> ?_⟩
  refine⟨t1,40,_,rfl,rfl,SqT.of qf,by simp,by decide,by decide,by decide,fun t2 h2=> ?_⟩
  refine⟨_,"a",r40,rfl,Ze (Yr d40) (by decide+kernel) h2,Yr d40,nmk.2.2,by decide+kernel,fun H4 s4=>⟨_,rfl,iteT ?_⟩⟩
  refine⟨(by show 1≤sizeLine;decide),fun t3 h3=> ?_⟩
  refine⟨_,"a",rGo,rfl,Ze (Yr dGo) (by decide+kernel) h3,Yr dGo,nmk.2.2,by decide+kernel,fun H5 s5=>⟨_,rfl,iteT ?_⟩⟩
  refine⟨(by show 1≤sizeLine;decide),fun t4 h4=> ?_⟩
  exact⟨_,"a",rSay,rfl,Ze (Yr dSay) (by decide+kernel) h4,Yr dSay,nmk.2.2,by decide+kernel,fun H6 s6=>k H6⟩
end
end K13
namespace K13
open PySem L2 PyProof.Rows
theorem strs_of:∀{l:List Str}{us:List Value},(us.map fun u=>match u with| .str z _=>some z|_=>none)=l.map some→Vals (l.map V.str) us
 | [],[],_=> .nil
 |z::l,u::us,h=>by
  rw [List.map_cons,List.map_cons] at h
  injection h with h1 h2
  cases u with
  |str y t=>
   have:y=z:=Option.some.inj h1
   subst this
   exact .cons ⟨t,rfl⟩ (strs_of h2)
  |_=>cases h1
 | [],_::_,h=>by simp at h
 |_::_,[],h=>by simp at h
theorem Qv {K:PySem.W.Frag}{H:Hp}{q:Addr}{d:Option Addr}{its:Array Value}{n:Nat}{sl:Array (Option Value)}{l:List Str}{us:List Value}(hl:K.lookup q=some ⟨.type "tuple",d,.seq its n,sl⟩)(e:its.toList=us)(h:(us.map fun u=>match u with| .str z _=>some z|_=>none)=l.map some)(hz:us.length≤100:=by simp):SqT K H q (l.map V.str):=
 .inr ⟨_,its,n,hl,rfl,rfl,by rw [←Array.length_toList,e];exact qU (by omega),by rw [e];exact strs_of h⟩
theorem tx_mk {K:PySem.W.Frag}{h:Heap}{mg:Str→Option Value}(X:K.In h)(G:h.Ns mainGlobals mg){f1:Addr}{od1 an1:Option Addr}{sl1:Array (Option Value)}{oc1 kV1 dc1 pm1 cd1 ct1:Value}{f2:Addr}{od2 an2:Option Addr}{sl2:Array (Option Value)}{oc2 kV2 dc2 pm2 cd2 ct2:Value}{f3:Addr}{od3 an3:Option Addr}{sl3:Array (Option Value)}{oc3 kV3 dc3 pm3 cd3 ct3:Value}{f4:Addr}{od4 an4:Option Addr}{sl4:Array (Option Value)}{oc4 kV4 dc4 pm4 cd4 ct4:Value}{f5:Addr}{od5 an5:Option Addr}{sl5:Array (Option Value)}{oc5 kV5 dc5 pm5 cd5 ct5:Value}{f6:Addr}{od6 an6:Option Addr}{sl6:Array (Option Value)}{oc6 kV6 dc6 pm6 cd6 ct6:Value}{f7:Addr}{od7 an7:Option Addr}{sl7:Array (Option Value)}{oc7 kV7 dc7 pm7 cd7 ct7:Value}{f8:Addr}{od8 an8:Option Addr}{sl8:Array (Option Value)}{oc8 kV8 dc8 pm8 cd8 ct8:Value}{f9:Addr}{od9 an9:Option Addr}{sl9:Array (Option Value)}{oc9 kV9 dc9 pm9 cd9 ct9:Value}{f10:Addr}{od10 an10:Option Addr}{sl10:Array (Option Value)}{oc10 kV10 dc10 pm10 cd10 ct10:Value}{f11:Addr}{od11 an11:Option Addr}{sl11:Array (Option Value)}{oc11 kV11 dc11 pm11 cd11 ct11:Value}{f12:Addr}{od12 an12:Option Addr}{sl12:Array (Option Value)}{oc12 kV12 dc12 pm12 cd12 ct12:Value}{f13:Addr}{od13 an13:Option Addr}{sl13:Array (Option Value)}{oc13 kV13 dc13 pm13 cd13 ct13:Value}{f14:Addr}{od14 an14:Option Addr}{sl14:Array (Option Value)}{oc14 kV14 dc14 pm14 cd14 ct14:Value}{f15:Addr}{od15 an15:Option Addr}{sl15:Array (Option Value)}{oc15 kV15 dc15 pm15 cd15 ct15:Value}{f16:Addr}{od16 an16:Option Addr}{sl16:Array (Option Value)}{oc16 kV16 dc16 pm16 cd16 ct16:Value}{f17:Addr}{od17 an17:Option Addr}{sl17:Array (Option Value)}{oc17 kV17 dc17 pm17 cd17 ct17:Value}{f18:Addr}{od18 an18:Option Addr}{sl18:Array (Option Value)}{oc18 kV18 dc18 pm18 cd18 ct18:Value}{f19:Addr}{od19 an19:Option Addr}{sl19:Array (Option Value)}{oc19 kV19 dc19 pm19 cd19 ct19:Value}{f20:Addr}{od20 an20:Option Addr}{sl20:Array (Option Value)}{oc20 kV20 dc20 pm20 cd20 ct20:Value}{f21:Addr}{od21 an21:Option Addr}{sl21:Array (Option Value)}{oc21 kV21 dc21 pm21 cd21 ct21:Value}{f22:Addr}{od22 an22:Option Addr}{sl22:Array (Option Value)}{oc22 kV22 dc22 pm22 cd22 ct22:Value}{f23:Addr}{od23 an23:Option Addr}{sl23:Array (Option Value)}{oc23 kV23 dc23 pm23 cd23 ct23:Value}{f24:Addr}{od24 an24:Option Addr}{sl24:Array (Option Value)}{oc24 kV24 dc24 pm24 cd24 ct24:Value}{f25:Addr}{od25 an25:Option Addr}{sl25:Array (Option Value)}{oc25 kV25 dc25 pm25 cd25 ct25:Value}{f26:Addr}{od26 an26:Option Addr}{sl26:Array (Option Value)}{oc26 kV26 dc26 pm26 cd26 ct26:Value}{f27:Addr}{od27 an27:Option Addr}{sl27:Array (Option Value)}{oc27 kV27 dc27 pm27 cd27 ct27:Value}{f28:Addr}{od28 an28:Option Addr}{sl28:Array (Option Value)}{oc28 kV28 dc28 pm28 cd28 ct28:Value}{f29:Addr}{od29 an29:Option Addr}{sl29:Array (Option Value)}{oc29 kV29 dc29 pm29 cd29 ct29:Value}{f30:Addr}{od30 an30:Option Addr}{sl30:Array (Option Value)}{oc30 kV30 dc30 pm30 cd30 ct30:Value}{f31:Addr}{od31 an31:Option Addr}{sl31:Array (Option Value)}{oc31 kV31 dc31 pm31 cd31 ct31:Value}{f32:Addr}{od32 an32:Option Addr}{sl32:Array (Option Value)}{oc32 kV32 dc32 pm32 cd32 ct32:Value}{f33:Addr}{od33 an33:Option Addr}{sl33:Array (Option Value)}{oc33 kV33 dc33 pm33 cd33 ct33:Value}{f34:Addr}{od34 an34:Option Addr}{sl34:Array (Option Value)}{oc34 kV34 dc34 pm34 cd34 ct34:Value}{f35:Addr}{od35 an35:Option Addr}{sl35:Array (Option Value)}{oc35 kV35 dc35 pm35 cd35 ct35:Value}{f36:Addr}{od36 an36:Option Addr}{sl36:Array (Option Value)}{oc36 kV36 dc36 pm36 cd36 ct36:Value}{f37:Addr}{od37 an37:Option Addr}{sl37:Array (Option Value)}{oc37 kV37 dc37 pm37 cd37 ct37:Value}{f38:Addr}{od38 an38:Option Addr}{sl38:Array (Option Value)}{oc38 kV38 dc38 pm38 cd38 ct38:Value}{f39:Addr}{od39 an39:Option Addr}{sl39:Array (Option Value)}{oc39 kV39 dc39 pm39 cd39 ct39:Value}{f40:Addr}{od40 an40:Option Addr}{sl40:Array (Option Value)}{oc40 kV40 dc40 pm40 cd40 ct40:Value}{f41:Addr}{od41 an41:Option Addr}{sl41:Array (Option Value)}{oc41 kV41 dc41 pm41 cd41 ct41:Value}{f42:Addr}{od42 an42:Option Addr}{sl42:Array (Option Value)}{oc42 kV42 dc42 pm42 cd42 ct42:Value}{f43:Addr}{od43 an43:Option Addr}{sl43:Array (Option Value)}{oc43 kV43 dc43 pm43 cd43 ct43:Value}{f44:Addr}{od44 an44:Option Addr}{sl44:Array (Option Value)}{oc44 kV44 dc44 pm44 cd44 ct44:Value}{f45:Addr}{od45 an45:Option Addr}{sl45:Array (Option Value)}{oc45 kV45 dc45 pm45 cd45 ct45:Value}{f46:Addr}{od46 an46:Option Addr}{sl46:Array (Option Value)}{oc46 kV46 dc46 pm46 cd46 ct46:Value}{f47:Addr}{od47 an47:Option Addr}{sl47:Array (Option Value)}{oc47 kV47 dc47 pm47 cd47 ct47:Value}{f48:Addr}{od48 an48:Option Addr}{sl48:Array (Option Value)}{oc48 kV48 dc48 pm48 cd48 ct48:Value}{f49:Addr}{od49 an49:Option Addr}{sl49:Array (Option Value)}{oc49 kV49 dc49 pm49 cd49 ct49:Value}{f50:Addr}{od50 an50:Option Addr}{sl50:Array (Option Value)}{oc50 kV50 dc50 pm50 cd50 ct50:Value}{f51:Addr}{od51 an51:Option Addr}{sl51:Array (Option Value)}{oc51 kV51 dc51 pm51 cd51 ct51:Value}{f52:Addr}{od52 an52:Option Addr}{sl52:Array (Option Value)}{oc52 kV52 dc52 pm52 cd52 ct52:Value}{f53:Addr}{od53 an53:Option Addr}{sl53:Array (Option Value)}{oc53 kV53 dc53 pm53 cd53 ct53:Value}{f54:Addr}{od54 an54:Option Addr}{sl54:Array (Option Value)}{oc54 kV54 dc54 pm54 cd54 ct54:Value}{f55:Addr}{od55 an55:Option Addr}{sl55:Array (Option Value)}{oc55 kV55 dc55 pm55 cd55 ct55:Value}{f56:Addr}{od56 an56:Option Addr}{sl56:Array (Option Value)}{oc56 kV56 dc56 pm56 cd56 ct56:Value}{f57:Addr}{od57 an57:Option Addr}{sl57:Array (Option Value)}{oc57 kV57 dc57 pm57 cd57 ct57:Value}{CMachine:Addr}{t1:Tok}{t2:Tok}{t3:Tok}{t4:Tok}{t5:Tok}{t6:Tok}{t7:Tok}{t8:Tok}{t9:Tok}{t10:Tok}
  (a1:PySem.W.nsIn K mainGlobals "is_text"=some (some (.ref f1))) (l1:K.lookup f1=some ⟨oc1,od1,.func (PySem.W.fnOf "is_text" "is_text" (qx jH) (qv jH) (qg jH) .none kV1 dc1 pm1 an1 cd1 ct1),sl1⟩) (c1:PySem.W.codeIn K cd1 "is_text"=true) (k1:PySem.W.keepIn K (.ref f1)=true)
  (a2:PySem.W.nsIn K mainGlobals "is_tree"=some (some (.ref f2))) (l2:K.lookup f2=some ⟨oc2,od2,.func (PySem.W.fnOf "is_tree" "is_tree" (qx YY) (qv YY) (qg YY) .none kV2 dc2 pm2 an2 cd2 ct2),sl2⟩) (c2:PySem.W.codeIn K cd2 "is_tree"=true) (k2:PySem.W.keepIn K (.ref f2)=true)
  (a3:PySem.W.nsIn K mainGlobals "is_name"=some (some (.ref f3))) (l3:K.lookup f3=some ⟨oc3,od3,.func (PySem.W.fnOf "is_name" "is_name" (qx jw) (qv jw) (qg jw) .none kV3 dc3 pm3 an3 cd3 ct3),sl3⟩) (c3:PySem.W.codeIn K cd3 "is_name"=true) (k3:PySem.W.keepIn K (.ref f3)=true)
  (a4:PySem.W.nsIn K mainGlobals "is_row_of_names"=some (some (.ref f4))) (l4:K.lookup f4=some ⟨oc4,od4,.func (PySem.W.fnOf "is_row_of_names" "is_row_of_names" (qx Qr) (qv Qr) (qg Qr) .none kV4 dc4 pm4 an4 cd4 ct4),sl4⟩) (c4:PySem.W.codeIn K cd4 "is_row_of_names"=true) (k4:PySem.W.keepIn K (.ref f4)=true)
  (a5:PySem.W.nsIn K mainGlobals "is_answer"=some (some (.ref f5))) (l5:K.lookup f5=some ⟨oc5,od5,.func (PySem.W.fnOf "is_answer" "is_answer" (qx yT) (qv yT) (qg yT) .none kV5 dc5 pm5 an5 cd5 ct5),sl5⟩) (c5:PySem.W.codeIn K cd5 "is_answer"=true) (k5:PySem.W.keepIn K (.ref f5)=true)
  (a6:PySem.W.nsIn K mainGlobals "part_of"=some (some (.ref f6))) (l6:K.lookup f6=some ⟨oc6,od6,.func (PySem.W.fnOf "part_of" "part_of" (qx jC) (qv jC) (qg jC) .none kV6 dc6 pm6 an6 cd6 ct6),sl6⟩) (c6:PySem.W.codeIn K cd6 "part_of"=true) (k6:PySem.W.keepIn K (.ref f6)=true)
  (a7:PySem.W.nsIn K mainGlobals "pieces_of"=some (some (.ref f7))) (l7:K.lookup f7=some ⟨oc7,od7,.func (PySem.W.fnOf "pieces_of" "pieces_of" (qx Yc) (qv Yc) (qg Yc) .none kV7 dc7 pm7 an7 cd7 ct7),sl7⟩) (c7:PySem.W.codeIn K cd7 "pieces_of"=true) (k7:PySem.W.keepIn K (.ref f7)=true)
  (a8:PySem.W.nsIn K mainGlobals "row_of"=some (some (.ref f8))) (l8:K.lookup f8=some ⟨oc8,od8,.func (PySem.W.fnOf "row_of" "row_of" (qx jO) (qv jO) (qg jO) .none kV8 dc8 pm8 an8 cd8 ct8),sl8⟩) (c8:PySem.W.codeIn K cd8 "row_of"=true) (k8:PySem.W.keepIn K (.ref f8)=true)
  (a9:PySem.W.nsIn K mainGlobals "read_lines"=some (some (.ref f9))) (l9:K.lookup f9=some ⟨oc9,od9,.func (PySem.W.fnOf "read_lines" "read_lines" (qx yt) (qv yt) (qg yt) .none kV9 dc9 pm9 an9 cd9 ct9),sl9⟩) (c9:PySem.W.codeIn K cd9 "read_lines"=true) (k9:PySem.W.keepIn K (.ref f9)=true)
  (a10:PySem.W.nsIn K mainGlobals "rule_rows"=some (some (.ref f10))) (l10:K.lookup f10=some ⟨oc10,od10,.func (PySem.W.fnOf "rule_rows" "rule_rows" (qx yR) (qv yR) (qg yR) .none kV10 dc10 pm10 an10 cd10 ct10),sl10⟩) (c10:PySem.W.codeIn K cd10 "rule_rows"=true) (k10:PySem.W.keepIn K (.ref f10)=true)
  (a11:PySem.W.nsIn K mainGlobals "text_made"=some (some (.ref f11))) (l11:K.lookup f11=some ⟨oc11,od11,.func (PySem.W.fnOf "text_made" "text_made" (qx y6) (qv y6) (qg y6) .none kV11 dc11 pm11 an11 cd11 ct11),sl11⟩) (c11:PySem.W.codeIn K cd11 "text_made"=true) (k11:PySem.W.keepIn K (.ref f11)=true)
  (a12:PySem.W.nsIn K mainGlobals "self_made"=some (some (.ref f12))) (l12:K.lookup f12=some ⟨oc12,od12,.func (PySem.W.fnOf "self_made" "self_made" (qx y9) (qv y9) (qg y9) .none kV12 dc12 pm12 an12 cd12 ct12),sl12⟩) (c12:PySem.W.codeIn K cd12 "self_made"=true) (k12:PySem.W.keepIn K (.ref f12)=true)
  (a13:PySem.W.nsIn K mainGlobals "copy_made"=some (some (.ref f13))) (l13:K.lookup f13=some ⟨oc13,od13,.func (PySem.W.fnOf "copy_made" "copy_made" (qx yY) (qv yY) (qg yY) .none kV13 dc13 pm13 an13 cd13 ct13),sl13⟩) (c13:PySem.W.codeIn K cd13 "copy_made"=true) (k13:PySem.W.keepIn K (.ref f13)=true)
  (a14:PySem.W.nsIn K mainGlobals "row_made"=some (some (.ref f14))) (l14:K.lookup f14=some ⟨oc14,od14,.func (PySem.W.fnOf "row_made" "row_made" (qx YH) (qv YH) (qg YH) .none kV14 dc14 pm14 an14 cd14 ct14),sl14⟩) (c14:PySem.W.codeIn K cd14 "row_made"=true) (k14:PySem.W.keepIn K (.ref f14)=true)
  (a15:PySem.W.nsIn K mainGlobals "put_made"=some (some (.ref f15))) (l15:K.lookup f15=some ⟨oc15,od15,.func (PySem.W.fnOf "put_made" "put_made" (qx YM) (qv YM) (qg YM) .none kV15 dc15 pm15 an15 cd15 ct15),sl15⟩) (c15:PySem.W.codeIn K cd15 "put_made"=true) (k15:PySem.W.keepIn K (.ref f15)=true)
  (a16:PySem.W.nsIn K mainGlobals "join_made"=some (some (.ref f16))) (l16:K.lookup f16=some ⟨oc16,od16,.func (PySem.W.fnOf "join_made" "join_made" (qx yS) (qv yS) (qg yS) .none kV16 dc16 pm16 an16 cd16 ct16),sl16⟩) (c16:PySem.W.codeIn K cd16 "join_made"=true) (k16:PySem.W.keepIn K (.ref f16)=true)
  (a17:PySem.W.nsIn K mainGlobals "first_made"=some (some (.ref f17))) (l17:K.lookup f17=some ⟨oc17,od17,.func (PySem.W.fnOf "first_made" "first_made" (qx yr) (qv yr) (qg yr) .none kV17 dc17 pm17 an17 cd17 ct17),sl17⟩) (c17:PySem.W.codeIn K cd17 "first_made"=true) (k17:PySem.W.keepIn K (.ref f17)=true)
  (a18:PySem.W.nsIn K mainGlobals "rest_made"=some (some (.ref f18))) (l18:K.lookup f18=some ⟨oc18,od18,.func (PySem.W.fnOf "rest_made" "rest_made" (qx y8) (qv y8) (qg y8) .none kV18 dc18 pm18 an18 cd18 ct18),sl18⟩) (c18:PySem.W.codeIn K cd18 "rest_made"=true) (k18:PySem.W.keepIn K (.ref f18)=true)
  (a19:PySem.W.nsIn K mainGlobals "size_made"=some (some (.ref f19))) (l19:K.lookup f19=some ⟨oc19,od19,.func (PySem.W.fnOf "size_made" "size_made" (qx y7) (qv y7) (qg y7) .none kV19 dc19 pm19 an19 cd19 ct19),sl19⟩) (c19:PySem.W.codeIn K cd19 "size_made"=true) (k19:PySem.W.keepIn K (.ref f19)=true)
  (a20:PySem.W.nsIn K mainGlobals "cut_made"=some (some (.ref f20))) (l20:K.lookup f20=some ⟨oc20,od20,.func (PySem.W.fnOf "cut_made" "cut_made" (qx YO) (qv YO) (qg YO) .none kV20 dc20 pm20 an20 cd20 ct20),sl20⟩) (c20:PySem.W.codeIn K cd20 "cut_made"=true) (k20:PySem.W.keepIn K (.ref f20)=true)
  (a21:PySem.W.nsIn K mainGlobals "glue_made"=some (some (.ref f21))) (l21:K.lookup f21=some ⟨oc21,od21,.func (PySem.W.fnOf "glue_made" "glue_made" (qx yX) (qv yX) (qg yX) .none kV21 dc21 pm21 an21 cd21 ct21),sl21⟩) (c21:PySem.W.codeIn K cd21 "glue_made"=true) (k21:PySem.W.keepIn K (.ref f21)=true)
  (a22:PySem.W.nsIn K mainGlobals "is_jump_taken"=some (some (.ref f22))) (l22:K.lookup f22=some ⟨oc22,od22,.func (PySem.W.fnOf "is_jump_taken" "is_jump_taken" (qx QH) (qv QH) (qg QH) .none kV22 dc22 pm22 an22 cd22 ct22),sl22⟩) (c22:PySem.W.codeIn K cd22 "is_jump_taken"=true) (k22:PySem.W.keepIn K (.ref f22)=true)
  (a23:PySem.W.nsIn K mainGlobals "asked_or_fault"=some (some (.ref f23))) (l23:K.lookup f23=some ⟨oc23,od23,.func (PySem.W.fnOf "asked_or_fault" "asked_or_fault" (qx Qx) (qv Qx) (qg Qx) .none kV23 dc23 pm23 an23 cd23 ct23),sl23⟩) (c23:PySem.W.codeIn K cd23 "asked_or_fault"=true) (k23:PySem.W.keepIn K (.ref f23)=true)
  (a24:PySem.W.findIn K (.ref CMachine) "__init__"=some (some (.ref f24))) (i24:PySem.W.isFn K (.ref f24)=true) (l24:K.lookup f24=some ⟨oc24,od24,.func (PySem.W.fnOf "__init__" "Machine.__init__" (qx QQ) (qv QQ) (qg QQ) .none kV24 dc24 pm24 an24 cd24 ct24),sl24⟩) (c24:PySem.W.codeIn K cd24 "Machine.__init__"=true) (k24:PySem.W.keepIn K (.ref f24)=true)
  (a25:PySem.W.findIn K (.ref CMachine) "now"=some (some (.ref f25))) (i25:PySem.W.isFn K (.ref f25)=true) (l25:K.lookup f25=some ⟨oc25,od25,.func (PySem.W.fnOf "now" "Machine.now" (qx Q5) (qv Q5) (qg Q5) .none kV25 dc25 pm25 an25 cd25 ct25),sl25⟩) (c25:PySem.W.codeIn K cd25 "Machine.now"=true) (k25:PySem.W.keepIn K (.ref f25)=true)
  (a26:PySem.W.findIn K (.ref CMachine) "answer"=some (some (.ref f26))) (i26:PySem.W.isFn K (.ref f26)=true) (l26:K.lookup f26=some ⟨oc26,od26,.func (PySem.W.fnOf "answer" "Machine.answer" (qx Qz) (qv Qz) (qg Qz) .none kV26 dc26 pm26 an26 cd26 ct26),sl26⟩) (c26:PySem.W.codeIn K cd26 "Machine.answer"=true) (k26:PySem.W.keepIn K (.ref f26)=true)
  (a27:PySem.W.findIn K (.ref CMachine) "asked"=some (some (.ref f27))) (i27:PySem.W.isFn K (.ref f27)=true) (l27:K.lookup f27=some ⟨oc27,od27,.func (PySem.W.fnOf "asked" "Machine.asked" (qx QJ) (qv QJ) (qg QJ) .none kV27 dc27 pm27 an27 cd27 ct27),sl27⟩) (c27:PySem.W.codeIn K cd27 "Machine.asked"=true) (k27:PySem.W.keepIn K (.ref f27)=true)
  (a28:PySem.W.findIn K (.ref CMachine) "lines"=some (some (.ref f28))) (i28:PySem.W.isFn K (.ref f28)=true) (l28:K.lookup f28=some ⟨oc28,od28,.func (PySem.W.fnOf "lines" "Machine.lines" (qx QF) (qv QF) (qg QF) .none kV28 dc28 pm28 an28 cd28 ct28),sl28⟩) (c28:PySem.W.codeIn K cd28 "Machine.lines"=true) (k28:PySem.W.keepIn K (.ref f28)=true)
  (a29:PySem.W.findIn K (.ref CMachine) "go_on"=some (some (.ref f29))) (i29:PySem.W.isFn K (.ref f29)=true) (l29:K.lookup f29=some ⟨oc29,od29,.func (PySem.W.fnOf "go_on" "Machine.go_on" (qx QG) (qv QG) (qg QG) .none kV29 dc29 pm29 an29 cd29 ct29),sl29⟩) (c29:PySem.W.codeIn K cd29 "Machine.go_on"=true) (k29:PySem.W.keepIn K (.ref f29)=true)
  (a30:PySem.W.findIn K (.ref CMachine) "is_waiting"=some (some (.ref f30))) (i30:PySem.W.isFn K (.ref f30)=true) (l30:K.lookup f30=some ⟨oc30,od30,.func (PySem.W.fnOf "is_waiting" "Machine.is_waiting" (qx qW) (qv qW) (qg qW) .none kV30 dc30 pm30 an30 cd30 ct30),sl30⟩) (c30:PySem.W.codeIn K cd30 "Machine.is_waiting"=true) (k30:PySem.W.keepIn K (.ref f30)=true)
  (a31:PySem.W.findIn K (.ref CMachine) "do_row"=some (some (.ref f31))) (i31:PySem.W.isFn K (.ref f31)=true) (l31:K.lookup f31=some ⟨oc31,od31,.func (PySem.W.fnOf "do_row" "Machine.do_row" (qx Qy) (qv Qy) (qg Qy) .none kV31 dc31 pm31 an31 cd31 ct31),sl31⟩) (c31:PySem.W.codeIn K cd31 "Machine.do_row"=true) (k31:PySem.W.keepIn K (.ref f31)=true)
  (a32:PySem.W.findIn K (.ref CMachine) "hold"=some (some (.ref f32))) (i32:PySem.W.isFn K (.ref f32)=true) (l32:K.lookup f32=some ⟨oc32,od32,.func (PySem.W.fnOf "hold" "Machine.hold" (qx QR) (qv QR) (qg QR) .none kV32 dc32 pm32 an32 cd32 ct32),sl32⟩) (c32:PySem.W.codeIn K cd32 "Machine.hold"=true) (k32:PySem.W.keepIn K (.ref f32)=true)
  (a33:PySem.W.nsIn K mainGlobals "_law_cell_at"=some (some (.ref f33))) (l33:K.lookup f33=some ⟨oc33,od33,.func (PySem.W.fnOf "_law_cell_at" "_law_cell_at" (qx Q3) (qv Q3) (qg Q3) .none kV33 dc33 pm33 an33 cd33 ct33),sl33⟩) (c33:PySem.W.codeIn K cd33 "_law_cell_at"=true) (k33:PySem.W.keepIn K (.ref f33)=true)
  (a34:PySem.W.nsIn K mainGlobals "_law_pot"=some (some (.ref f34))) (l34:K.lookup f34=some ⟨oc34,od34,.func (PySem.W.fnOf "_law_pot" "_law_pot" (qx ju) (qv ju) (qg ju) .none kV34 dc34 pm34 an34 cd34 ct34),sl34⟩) (c34:PySem.W.codeIn K cd34 "_law_pot"=true) (k34:PySem.W.keepIn K (.ref f34)=true)
  (a35:PySem.W.nsIn K mainGlobals "_law_take"=some (some (.ref f35))) (l35:K.lookup f35=some ⟨oc35,od35,.func (PySem.W.fnOf "_law_take" "_law_take" (qx YR) (qv YR) (qg YR) .none kV35 dc35 pm35 an35 cd35 ct35),sl35⟩) (c35:PySem.W.codeIn K cd35 "_law_take"=true) (k35:PySem.W.keepIn K (.ref f35)=true)
  (a36:PySem.W.nsIn K mainGlobals "_law_parts_right"=some (some (.ref f36))) (l36:K.lookup f36=some ⟨oc36,od36,.func (PySem.W.fnOf "_law_parts_right" "_law_parts_right" (qx Qp) (qv Qp) (qg Qp) .none kV36 dc36 pm36 an36 cd36 ct36),sl36⟩) (c36:PySem.W.codeIn K cd36 "_law_parts_right"=true) (k36:PySem.W.keepIn K (.ref f36)=true)
  (a37:PySem.W.nsIn K mainGlobals "_law_size"=some (some (.ref f37))) (l37:K.lookup f37=some ⟨oc37,od37,.func (PySem.W.fnOf "_law_size" "_law_size" (qx YL) (qv YL) (qg YL) .none kV37 dc37 pm37 an37 cd37 ct37),sl37⟩) (c37:PySem.W.codeIn K cd37 "_law_size"=true) (k37:PySem.W.keepIn K (.ref f37)=true)
  (a38:PySem.W.nsIn K mainGlobals "_law_depth"=some (some (.ref f38))) (l38:K.lookup f38=some ⟨oc38,od38,.func (PySem.W.fnOf "_law_depth" "_law_depth" (qx Ya) (qv Ya) (qg Ya) .none kV38 dc38 pm38 an38 cd38 ct38),sl38⟩) (c38:PySem.W.codeIn K cd38 "_law_depth"=true) (k38:PySem.W.keepIn K (.ref f38)=true)
  (a39:PySem.W.nsIn K mainGlobals "_law_is_tree"=some (some (.ref f39))) (l39:K.lookup f39=some ⟨oc39,od39,.func (PySem.W.fnOf "_law_is_tree" "_law_is_tree" (qx Q1) (qv Q1) (qg Q1) .none kV39 dc39 pm39 an39 cd39 ct39),sl39⟩) (c39:PySem.W.codeIn K cd39 "_law_is_tree"=true) (k39:PySem.W.keepIn K (.ref f39)=true)
  (a40:PySem.W.nsIn K mainGlobals "_law_is_name"=some (some (.ref f40))) (l40:K.lookup f40=some ⟨oc40,od40,.func (PySem.W.fnOf "_law_is_name" "_law_is_name" (qx Q7) (qv Q7) (qg Q7) .none kV40 dc40 pm40 an40 cd40 ct40),sl40⟩) (c40:PySem.W.codeIn K cd40 "_law_is_name"=true) (k40:PySem.W.keepIn K (.ref f40)=true)
  (a41:PySem.W.nsIn K mainGlobals "_law_next"=some (some (.ref f41))) (l41:K.lookup f41=some ⟨oc41,od41,.func (PySem.W.fnOf "_law_next" "_law_next" (qx YQ) (qv YQ) (qg YQ) .none kV41 dc41 pm41 an41 cd41 ct41),sl41⟩) (c41:PySem.W.codeIn K cd41 "_law_next"=true) (k41:PySem.W.keepIn K (.ref f41)=true)
  (a42:PySem.W.nsIn K mainGlobals "_law_cut_or_glued"=some (some (.ref f42))) (l42:K.lookup f42=some ⟨oc42,od42,.func (PySem.W.fnOf "_law_cut_or_glued" "_law_cut_or_glued" (qx Qf) (qv Qf) (qg Qf) .none kV42 dc42 pm42 an42 cd42 ct42),sl42⟩) (c42:PySem.W.codeIn K cd42 "_law_cut_or_glued"=true) (k42:PySem.W.keepIn K (.ref f42)=true)
  (a43:PySem.W.nsIn K mainGlobals "_law_held"=some (some (.ref f43))) (l43:K.lookup f43=some ⟨oc43,od43,.func (PySem.W.fnOf "_law_held" "_law_held" (qx YT) (qv YT) (qg YT) .none kV43 dc43 pm43 an43 cd43 ct43),sl43⟩) (c43:PySem.W.codeIn K cd43 "_law_held"=true) (k43:PySem.W.keepIn K (.ref f43)=true)
  (a44:PySem.W.nsIn K mainGlobals "_law_ask"=some (some (.ref f44))) (l44:K.lookup f44=some ⟨oc44,od44,.func (PySem.W.fnOf "_law_ask" "_law_ask" (qx jB) (qv jB) (qg jB) .none kV44 dc44 pm44 an44 cd44 ct44),sl44⟩) (c44:PySem.W.codeIn K cd44 "_law_ask"=true) (k44:PySem.W.keepIn K (.ref f44)=true)
  (a45:PySem.W.nsIn K mainGlobals "_law_go"=some (some (.ref f45))) (l45:K.lookup f45=some ⟨oc45,od45,.func (PySem.W.fnOf "_law_go" "_law_go" (qx JT) (qv JT) (qg JT) .none kV45 dc45 pm45 an45 cd45 ct45),sl45⟩) (c45:PySem.W.codeIn K cd45 "_law_go"=true) (k45:PySem.W.keepIn K (.ref f45)=true)
  (a46:PySem.W.nsIn K mainGlobals "_law_said"=some (some (.ref f46))) (l46:K.lookup f46=some ⟨oc46,od46,.func (PySem.W.fnOf "_law_said" "_law_said" (qx YN) (qv YN) (qg YN) .none kV46 dc46 pm46 an46 cd46 ct46),sl46⟩) (c46:PySem.W.codeIn K cd46 "_law_said"=true) (k46:PySem.W.keepIn K (.ref f46)=true)
  (a47:PySem.W.nsIn K mainGlobals "_law_long_text"=some (some (.ref f47))) (l47:K.lookup f47=some ⟨oc47,od47,.func (PySem.W.fnOf "_law_long_text" "_law_long_text" (qx QK) (qv QK) (qg QK) .none kV47 dc47 pm47 an47 cd47 ct47),sl47⟩) (c47:PySem.W.codeIn K cd47 "_law_long_text"=true) (k47:PySem.W.keepIn K (.ref f47)=true)
  (a48:PySem.W.nsIn K mainGlobals "_law_long_row"=some (some (.ref f48))) (l48:K.lookup f48=some ⟨oc48,od48,.func (PySem.W.fnOf "_law_long_row" "_law_long_row" (qx QS) (qv QS) (qg QS) .none kV48 dc48 pm48 an48 cd48 ct48),sl48⟩) (c48:PySem.W.codeIn K cd48 "_law_long_row"=true) (k48:PySem.W.keepIn K (.ref f48)=true)
  (a49:PySem.W.nsIn K mainGlobals "_law_deep"=some (some (.ref f49))) (l49:K.lookup f49=some ⟨oc49,od49,.func (PySem.W.fnOf "_law_deep" "_law_deep" (qx YJ) (qv YJ) (qg YJ) .none kV49 dc49 pm49 an49 cd49 ct49),sl49⟩) (c49:PySem.W.codeIn K cd49 "_law_deep"=true) (k49:PySem.W.keepIn K (.ref f49)=true)
  (a50:PySem.W.nsIn K mainGlobals "_law_great"=some (some (.ref f50))) (l50:K.lookup f50=some ⟨oc50,od50,.func (PySem.W.fnOf "_law_great" "_law_great" (qx Yb) (qv Yb) (qg Yb) .none kV50 dc50 pm50 an50 cd50 ct50),sl50⟩) (c50:PySem.W.codeIn K cd50 "_law_great"=true) (k50:PySem.W.keepIn K (.ref f50)=true)
  (a51:PySem.W.nsIn K mainGlobals "_law_pieces"=some (some (.ref f51))) (l51:K.lookup f51=some ⟨oc51,od51,.func (PySem.W.fnOf "_law_pieces" "_law_pieces" (qx yq) (qv yq) (qg yq) .none kV51 dc51 pm51 an51 cd51 ct51),sl51⟩) (c51:PySem.W.codeIn K cd51 "_law_pieces"=true) (k51:PySem.W.keepIn K (.ref f51)=true)
  (a52:PySem.W.nsIn K mainGlobals "_law_loop"=some (some (.ref f52))) (l52:K.lookup f52=some ⟨oc52,od52,.func (PySem.W.fnOf "_law_loop" "_law_loop" (qx YK) (qv YK) (qg YK) .none kV52 dc52 pm52 an52 cd52 ct52),sl52⟩) (c52:PySem.W.codeIn K cd52 "_law_loop"=true) (k52:PySem.W.keepIn K (.ref f52)=true)
  (a53:PySem.W.nsIn K mainGlobals "_law_asking"=some (some (.ref f53))) (l53:K.lookup f53=some ⟨oc53,od53,.func (PySem.W.fnOf "_law_asking" "_law_asking" (qx yw) (qv yw) (qg yw) .none kV53 dc53 pm53 an53 cd53 ct53),sl53⟩) (c53:PySem.W.codeIn K cd53 "_law_asking"=true) (k53:PySem.W.keepIn K (.ref f53)=true)
  (a54:PySem.W.nsIn K mainGlobals "_law_endless"=some (some (.ref f54))) (l54:K.lookup f54=some ⟨oc54,od54,.func (PySem.W.fnOf "_law_endless" "_law_endless" (qx Q9) (qv Q9) (qg Q9) .none kV54 dc54 pm54 an54 cd54 ct54),sl54⟩) (c54:PySem.W.codeIn K cd54 "_law_endless"=true) (k54:PySem.W.keepIn K (.ref f54)=true)
  (a55:PySem.W.nsIn K mainGlobals "_law_drawn"=some (some (.ref f55))) (l55:K.lookup f55=some ⟨oc55,od55,.func (PySem.W.fnOf "_law_drawn" "_law_drawn" (qx Yg) (qv Yg) (qg Yg) .none kV55 dc55 pm55 an55 cd55 ct55),sl55⟩) (c55:PySem.W.codeIn K cd55 "_law_drawn"=true) (k55:PySem.W.keepIn K (.ref f55)=true)
  (a56:PySem.W.nsIn K mainGlobals "_law_right"=some (some (.ref f56))) (l56:K.lookup f56=some ⟨oc56,od56,.func (PySem.W.fnOf "_law_right" "_law_right" (qx yQ) (qv yQ) (qg yQ) .none kV56 dc56 pm56 an56 cd56 ct56),sl56⟩) (c56:PySem.W.codeIn K cd56 "_law_right"=true) (k56:PySem.W.keepIn K (.ref f56)=true)
  (a57:PySem.W.nsIn K mainGlobals "law"=some (some (.ref f57))) (l57:K.lookup f57=some ⟨oc57,od57,.func (PySem.W.fnOf "law" "law" (qx s_law) (qv s_law) (qg s_law) .none kV57 dc57 pm57 an57 cd57 ct57),sl57⟩) (c57:PySem.W.codeIn K cd57 "law"=true) (k57:PySem.W.keepIn K (.ref f57)=true)
  (AMachine:PySem.W.nsIn K mainGlobals "Machine"=some (some (.ref CMachine))) (pgMachine:PySem.W.plainGet K CMachine Str.empty=true) (hdMachine:PySem.W.hasDictIn K CMachine=true) (poMachine:PySem.W.plainOver K CMachine=true) (saMachine:PySem.W.findIn K (.ref CMachine) "__setattr__"=some (some (.builtin "object.__setattr__"))) (mkMachine:PySem.W.makesIn K CMachine=true) (kcMachine:PySem.W.keepIn K (.ref CMachine)=true)
  (nnMachinerows:PySem.W.findIn K (.ref CMachine) "rows"=some none)
  (nnMachinerule:PySem.W.findIn K (.ref CMachine) "rule"=some none)
  (nnMachineown:PySem.W.findIn K (.ref CMachine) "own"=some none)
  (nnMachineboxes:PySem.W.findIn K (.ref CMachine) "boxes"=some none)
  (nnMachineplace:PySem.W.findIn K (.ref CMachine) "place"=some none)
  (nnMachinedone:PySem.W.findIn K (.ref CMachine) "done"=some none)
  (nnMachinegiven:PySem.W.findIn K (.ref CMachine) "given"=some none)
  (nnMachinethere:PySem.W.findIn K (.ref CMachine) "there"=some none)
  (g1:PySem.W.nsIn K mainGlobals "MOST_SIGNS"=some (some (.int 300 t1)))
  (g2:PySem.W.nsIn K mainGlobals "MOST_PARTS"=some (some (.int 40 t2)))
  (g3:PySem.W.nsIn K mainGlobals "MOST_SIZE"=some (some (.int 600 t3)))
  (g4:PySem.W.nsIn K mainGlobals "MOST_DEPTH"=some (some (.int 12 t4)))
  (g5:PySem.W.nsIn K mainGlobals "MOST_NAME_SIGNS"=some (some (.int 24 t5)))
  (g6:PySem.W.nsIn K mainGlobals "LETTERS"=some (some (.str "abcdefghijklmnopqrstuvwxyz" t6)))
  (g7:PySem.W.nsIn K mainGlobals "NAME_SIGNS"=some (some (.str "abcdefghijklmnopqrstuvwxyz0123456789./" t7)))
  (g8:PySem.W.nsIn K mainGlobals "PERCENT"=some (some (.int 37 t8)))
  (g9:PySem.W.nsIn K mainGlobals "MOST_LINES"=some (some (.int 40 t9)))
  (g10:PySem.W.nsIn K mainGlobals "MOST_DONE"=some (some (.int 300 t10)))
  (z1:PySem.W.nsIn K mainGlobals "ord"=some none)
  (z2:PySem.W.nsIn K mainGlobals "len"=some none)
  (z3:PySem.W.nsIn K mainGlobals "isinstance"=some none)
  (z4:PySem.W.nsIn K mainGlobals "str"=some none)
  (z5:PySem.W.nsIn K mainGlobals "tuple"=some none)
  (z6:PySem.W.nsIn K mainGlobals "all"=some none)
  (z7:PySem.W.nsIn K mainGlobals "int"=some none)
  (z8:PySem.W.nsIn K mainGlobals "range"=some none)
  (z9:PySem.W.nsIn K mainGlobals "zip"=some none)
  (z10:PySem.W.nsIn K mainGlobals "dict"=some none)
  (z11:PySem.W.nsIn K mainGlobals "abs"=some none)
  (z12:PySem.W.nsIn K mainGlobals "sum"=some none)
  (z13:PySem.W.nsIn K mainGlobals "max"=some none)
  (z14:PySem.W.nsIn K mainGlobals "min"=some none):∃a,Tx K mg a:=by
 have F1:=qK (st:=jH) l1 c1 k1
 have b1:=F1.binds (ps:= ["value"]) fun _ _ _ _ _ _ us hl=>match us,hl with| [_],_=>rfl
 have F2:=qK (st:=YY) l2 c2 k2
 have b2:=F2.binds (ps:= ["value"]) fun _ _ _ _ _ _ us hl=>match us,hl with| [_],_=>rfl
 have F3:=qK (st:=jw) l3 c3 k3
 have b3:=F3.binds (ps:= ["value"]) fun _ _ _ _ _ _ us hl=>match us,hl with| [_],_=>rfl
 have F4:=qK (st:=Qr) l4 c4 k4
 have b4:=F4.binds (ps:= ["tree"]) fun _ _ _ _ _ _ us hl=>match us,hl with| [_],_=>rfl
 have F5:=qK (st:=yT) l5 c5 k5
 have b5:=F5.binds (ps:= ["ask","answer"]) fun _ _ _ _ _ _ us hl=>match us,hl with| [_,_],_=>rfl
 have F6:=qK (st:=jC) l6 c6 k6
 have b6:=F6.binds (ps:= ["kind","piece","count"]) fun _ _ _ _ _ _ us hl=>match us,hl with| [_,_,_],_=>rfl
 have F7:=qK (st:=Yc) l7 c7 k7
 have b7:=F7.binds (ps:= ["line","form"]) fun _ _ _ _ _ _ us hl=>match us,hl with| [_,_],_=>rfl
 have F8:=qK (st:=jO) l8 c8 k8
 have b8:=F8.binds (ps:= ["line","count"]) fun _ _ _ _ _ _ us hl=>match us,hl with| [_,_],_=>rfl
 have F9:=qK (st:=yt) l9 c9 k9
 have b9:=F9.binds (ps:= ["value"]) fun _ _ _ _ _ _ us hl=>match us,hl with| [_],_=>rfl
 have F10:=qK (st:=yR) l10 c10 k10
 have b10:=F10.binds (ps:= ["tree"]) fun _ _ _ _ _ _ us hl=>match us,hl with| [_],_=>rfl
 have F11:=qK (st:=y6) l11 c11 k11
 have b11:=F11.binds (ps:= ["boxes","own","parts"]) fun _ _ _ _ _ _ us hl=>match us,hl with| [_,_,_],_=>rfl
 have F12:=qK (st:=y9) l12 c12 k12
 have b12:=F12.binds (ps:= ["boxes","own","parts"]) fun _ _ _ _ _ _ us hl=>match us,hl with| [_,_,_],_=>rfl
 have F13:=qK (st:=yY) l13 c13 k13
 have b13:=F13.binds (ps:= ["boxes","own","parts"]) fun _ _ _ _ _ _ us hl=>match us,hl with| [_,_,_],_=>rfl
 have F14:=qK (st:=YH) l14 c14 k14
 have b14:=F14.binds (ps:= ["boxes","own","parts"]) fun _ _ _ _ _ _ us hl=>match us,hl with| [_,_,_],_=>rfl
 have F15:=qK (st:=YM) l15 c15 k15
 have b15:=F15.binds (ps:= ["boxes","own","parts"]) fun _ _ _ _ _ _ us hl=>match us,hl with| [_,_,_],_=>rfl
 have F16:=qK (st:=yS) l16 c16 k16
 have b16:=F16.binds (ps:= ["boxes","own","parts"]) fun _ _ _ _ _ _ us hl=>match us,hl with| [_,_,_],_=>rfl
 have F17:=qK (st:=yr) l17 c17 k17
 have b17:=F17.binds (ps:= ["boxes","own","parts"]) fun _ _ _ _ _ _ us hl=>match us,hl with| [_,_,_],_=>rfl
 have F18:=qK (st:=y8) l18 c18 k18
 have b18:=F18.binds (ps:= ["boxes","own","parts"]) fun _ _ _ _ _ _ us hl=>match us,hl with| [_,_,_],_=>rfl
 have F19:=qK (st:=y7) l19 c19 k19
 have b19:=F19.binds (ps:= ["boxes","own","parts"]) fun _ _ _ _ _ _ us hl=>match us,hl with| [_,_,_],_=>rfl
 have F20:=qK (st:=YO) l20 c20 k20
 have b20:=F20.binds (ps:= ["boxes","own","parts"]) fun _ _ _ _ _ _ us hl=>match us,hl with| [_,_,_],_=>rfl
 have F21:=qK (st:=yX) l21 c21 k21
 have b21:=F21.binds (ps:= ["boxes","own","parts"]) fun _ _ _ _ _ _ us hl=>match us,hl with| [_,_,_],_=>rfl
 have F22:=qK (st:=QH) l22 c22 k22
 have b22:=F22.binds (ps:= ["boxes","word","parts"]) fun _ _ _ _ _ _ us hl=>match us,hl with| [_,_,_],_=>rfl
 have F23:=qK (st:=Qx) l23 c23 k23
 have b23:=F23.binds (ps:= ["word","held"]) fun _ _ _ _ _ _ us hl=>match us,hl with| [_,_],_=>rfl
 have F24:=qK (st:=QQ) l24 c24 k24
 have b24:=F24.binds (ps:= ["self","rule","own"]) fun _ _ _ _ _ _ us hl=>match us,hl with| [_,_,_],_=>rfl
 have F25:=qK (st:=Q5) l25 c25 k25
 have b25:=F25.binds (ps:= ["self"]) fun _ _ _ _ _ _ us hl=>match us,hl with| [_],_=>rfl
 have F26:=qK (st:=Qz) l26 c26 k26
 have b26:=F26.binds (ps:= ["self","tree"]) fun _ _ _ _ _ _ us hl=>match us,hl with| [_,_],_=>rfl
 have F27:=qK (st:=QJ) l27 c27 k27
 have b27:=F27.binds (ps:= ["self"]) fun _ _ _ _ _ _ us hl=>match us,hl with| [_],_=>rfl
 have F28:=qK (st:=QF) l28 c28 k28
 have b28:=F28.binds (ps:= ["self"]) fun _ _ _ _ _ _ us hl=>match us,hl with| [_],_=>rfl
 have F29:=qK (st:=QG) l29 c29 k29
 have b29:=F29.binds (ps:= ["self"]) fun _ _ _ _ _ _ us hl=>match us,hl with| [_],_=>rfl
 have F30:=qK (st:=qW) l30 c30 k30
 have b30:=F30.binds (ps:= ["self"]) fun _ _ _ _ _ _ us hl=>match us,hl with| [_],_=>rfl
 have F31:=qK (st:=Qy) l31 c31 k31
 have b31:=F31.binds (ps:= ["self","row"]) fun _ _ _ _ _ _ us hl=>match us,hl with| [_,_],_=>rfl
 have F32:=qK (st:=QR) l32 c32 k32
 have b32:=F32.binds (ps:= ["self","box","tree"]) fun _ _ _ _ _ _ us hl=>match us,hl with| [_,_,_],_=>rfl
 have F33:=qK (st:=Q3) l33 c33 k33
 have b33:=F33.binds (ps:= ["script","k"]) fun _ _ _ _ _ _ us hl=>match us,hl with| [_,_],_=>rfl
 have F34:=qK (st:=ju) l34 c34 k34
 have b34:=F34.binds (ps:= ["cell","salt"]) fun _ _ _ _ _ _ us hl=>match us,hl with| [_,_],_=>rfl
 have F35:=qK (st:=YR) l35 c35 k35
 have b35:=F35.binds (ps:= ["pot","many"]) fun _ _ _ _ _ _ us hl=>match us,hl with| [_,_],_=>rfl
 have F36:=qK (st:=Qp) l36 c36 k36
 have b36:=F36.binds (ps:= ["value"]) fun _ _ _ _ _ _ us hl=>match us,hl with| [_],_=>rfl
 have F37:=qK (st:=YL) l37 c37 k37
 have b37:=F37.binds (ps:= ["tree"]) fun _ _ _ _ _ _ us hl=>match us,hl with| [_],_=>rfl
 have F38:=qK (st:=Ya) l38 c38 k38
 have b38:=F38.binds (ps:= ["tree"]) fun _ _ _ _ _ _ us hl=>match us,hl with| [_],_=>rfl
 have F39:=qK (st:=Q1) l39 c39 k39
 have b39:=F39.binds (ps:= ["value"]) fun _ _ _ _ _ _ us hl=>match us,hl with| [_],_=>rfl
 have F40:=qK (st:=Q7) l40 c40 k40
 have b40:=F40.binds (ps:= ["value"]) fun _ _ _ _ _ _ us hl=>match us,hl with| [_],_=>rfl
 have F41:=qK (st:=YQ) l41 c41 k41
 have b41:=F41.binds (ps:= ["boxes","words","at"]) fun _ _ _ _ _ _ us hl=>match us,hl with| [_,_,_],_=>rfl
 have F42:=qK (st:=Qf) l42 c42 k42
 have b42:=F42.binds (ps:= ["word","two","three"]) fun _ _ _ _ _ _ us hl=>match us,hl with| [_,_,_],_=>rfl
 have F43:=qK (st:=YT) l43 c43 k43
 have b43:=F43.binds (ps:= ["boxes","words","line","own"]) fun _ _ _ _ _ _ us hl=>match us,hl with| [_,_,_,_],_=>rfl
 have F44:=qK (st:=jB) l44 c44 k44
 have b44:=F44.binds (ps:= ["boxes","words"]) fun _ _ _ _ _ _ us hl=>match us,hl with| [_,_],_=>rfl
 have F45:=qK (st:=JT) l45 c45 k45
 have b45:=F45.binds (ps:= ["rule","own","answers"]) fun _ _ _ _ _ _ us hl=>match us,hl with| [_,_,_],_=>rfl
 have F46:=qK (st:=YN) l46 c46 k46
 have b46:=F46.binds (ps:= ["boxes","words"]) fun _ _ _ _ _ _ us hl=>match us,hl with| [_,_],_=>rfl
 have F47:=qK (st:=QK) l47 c47 k47
 have b47:=F47.binds (ps:= ["many"]) fun _ _ _ _ _ _ us hl=>match us,hl with| [_],_=>rfl
 have F48:=qK (st:=QS) l48 c48 k48
 have b48:=F48.binds (ps:= ["many"]) fun _ _ _ _ _ _ us hl=>match us,hl with| [_],_=>rfl
 have F49:=qK (st:=YJ) l49 c49 k49
 have b49:=F49.binds (ps:= ["many"]) fun _ _ _ _ _ _ us hl=>match us,hl with| [_],_=>rfl
 have F50:=qK (st:=Yb) l50 c50 k50
 have b50:=F50.binds (ps:= ["many"]) fun _ _ _ _ _ _ us hl=>match us,hl with| [_],_=>rfl
 have F51:=qK (st:=yq) l51 c51 k51
 have b51:=F51.binds (ps:= ["many"]) fun _ _ _ _ _ _ us hl=>match us,hl with| [_],_=>rfl
 have F52:=qK (st:=YK) l52 c52 k52
 have b52:=F52.binds (ps:= ["pot","many"]) fun _ _ _ _ _ _ us hl=>match us,hl with| [_,_],_=>rfl
 have F53:=qK (st:=yw) l53 c53 k53
 have b53:=F53.binds (ps:= ["pot","many"]) fun _ _ _ _ _ _ us hl=>match us,hl with| [_,_],_=>rfl
 have F54:=qK (st:=Q9) l54 c54 k54
 have b54:=F54.binds (ps:= ["pot"]) fun _ _ _ _ _ _ us hl=>match us,hl with| [_],_=>rfl
 have F55:=qK (st:=Yg) l55 c55 k55
 have b55:=F55.binds (ps:= ["pot"]) fun _ _ _ _ _ _ us hl=>match us,hl with| [_],_=>rfl
 have F56:=qK (st:=yQ) l56 c56 k56
 have b56:=F56.binds (ps:= ["rule","own"]) fun _ _ _ _ _ _ us hl=>match us,hl with| [_,_],_=>rfl
 have F57:=qK (st:=s_law) l57 c57 k57
 have b57:=F57.binds (ps:= ["script"]) fun _ _ _ _ _ _ us hl=>match us,hl with| [_],_=>rfl
 exact⟨⟨f1,_,f2,_,f3,_,f4,_,f5,_,f6,_,f7,_,f8,_,f9,_,f10,_,f11,_,f12,_,f13,_,f14,_,f15,_,f16,_,f17,_,f18,_,f19,_,f20,_,f21,_,f22,_,f23,_,f24,_,f25,_,f26,_,f27,_,f28,_,f29,_,f30,_,f31,_,f32,_,f33,_,f34,_,f35,_,f36,_,f37,_,f38,_,f39,_,f40,_,f41,_,f42,_,f43,_,f44,_,f45,_,f46,_,f47,_,f48,_,f49,_,f50,_,f51,_,f52,_,f53,_,f54,_,f55,_,f56,_,f57,_,CMachine⟩,⟨F1,b1,PySem.W.mg_of X G a1,F2,b2,PySem.W.mg_of X G a2,F3,b3,PySem.W.mg_of X G a3,F4,b4,PySem.W.mg_of X G a4,F5,b5,PySem.W.mg_of X G a5,F6,b6,PySem.W.mg_of X G a6,F7,b7,PySem.W.mg_of X G a7,F8,b8,PySem.W.mg_of X G a8,F9,b9,PySem.W.mg_of X G a9,F10,b10,PySem.W.mg_of X G a10,F11,b11,PySem.W.mg_of X G a11,F12,b12,PySem.W.mg_of X G a12,F13,b13,PySem.W.mg_of X G a13,F14,b14,PySem.W.mg_of X G a14,F15,b15,PySem.W.mg_of X G a15,F16,b16,PySem.W.mg_of X G a16,F17,b17,PySem.W.mg_of X G a17,F18,b18,PySem.W.mg_of X G a18,F19,b19,PySem.W.mg_of X G a19,F20,b20,PySem.W.mg_of X G a20,F21,b21,PySem.W.mg_of X G a21,F22,b22,PySem.W.mg_of X G a22,F23,b23,PySem.W.mg_of X G a23,F24,b24,⟨a24,i24,k24⟩,F25,b25,⟨a25,i25,k25⟩,F26,b26,⟨a26,i26,k26⟩,F27,b27,⟨a27,i27,k27⟩,F28,b28,⟨a28,i28,k28⟩,F29,b29,⟨a29,i29,k29⟩,F30,b30,⟨a30,i30,k30⟩,F31,b31,⟨a31,i31,k31⟩,F32,b32,⟨a32,i32,k32⟩,F33,b33,PySem.W.mg_of X G a33,F34,b34,PySem.W.mg_of X G a34,F35,b35,PySem.W.mg_of X G a35,F36,b36,PySem.W.mg_of X G a36,F37,b37,PySem.W.mg_of X G a37,F38,b38,PySem.W.mg_of X G a38,F39,b39,PySem.W.mg_of X G a39,F40,b40,PySem.W.mg_of X G a40,F41,b41,PySem.W.mg_of X G a41,F42,b42,PySem.W.mg_of X G a42,F43,b43,PySem.W.mg_of X G a43,F44,b44,PySem.W.mg_of X G a44,F45,b45,PySem.W.mg_of X G a45,F46,b46,PySem.W.mg_of X G a46,F47,b47,PySem.W.mg_of X G a47,F48,b48,PySem.W.mg_of X G a48,F49,b49,PySem.W.mg_of X G a49,F50,b50,PySem.W.mg_of X G a50,F51,b51,PySem.W.mg_of X G a51,F52,b52,PySem.W.mg_of X G a52,F53,b53,PySem.W.mg_of X G a53,F54,b54,PySem.W.mg_of X G a54,F55,b55,PySem.W.mg_of X G a55,F56,b56,PySem.W.mg_of X G a56,F57,b57,PySem.W.mg_of X G a57,⟨pgMachine,hdMachine,poMachine,saMachine⟩,⟨mkMachine,a24,i24,kcMachine⟩,PySem.W.mg_of X G AMachine,nnMachinerows,nnMachinerule,nnMachineown,nnMachineboxes,nnMachineplace,nnMachinedone,nnMachinegiven,nnMachinethere,fun s u=> .of_eq rfl,⟨_,PySem.W.mg_of X G g1⟩,⟨_,PySem.W.mg_of X G g2⟩,⟨_,PySem.W.mg_of X G g3⟩,⟨_,PySem.W.mg_of X G g4⟩,⟨_,PySem.W.mg_of X G g5⟩,⟨_,PySem.W.mg_of X G g6⟩,⟨_,PySem.W.mg_of X G g7⟩,⟨_,PySem.W.mg_of X G g8⟩,⟨_,PySem.W.mg_of X G g9⟩,⟨_,PySem.W.mg_of X G g10⟩,PySem.W.mg_none_of X G z1,PySem.W.mg_none_of X G z2,PySem.W.mg_none_of X G z3,PySem.W.mg_none_of X G z4,PySem.W.mg_none_of X G z5,PySem.W.mg_none_of X G z6,PySem.W.mg_none_of X G z7,PySem.W.mg_none_of X G z8,PySem.W.mg_none_of X G z9,PySem.W.mg_none_of X G z10,PySem.W.mg_none_of X G z11,PySem.W.mg_none_of X G z12,PySem.W.mg_none_of X G z13,PySem.W.mg_none_of X G z14⟩⟩
theorem fx_mk {w:World}{K:PySem.W.Frag}{h:Heap}{mg:Str→Option Value}{a:Ad}(T:Tx K mg a)(X:K.In h)(G:h.Ns mainGlobals mg){aB:Addr}{dB:Option Addr}{iB:Array Value}{nB:Nat}{sB:Array (Option Value)}{uB_0 uB_1 uB_2 uB_3 uB_4 uB_5 uB_6 uB_7:Tok}{aA:Addr}{dA:Option Addr}{iA:Array Value}{nA:Nat}{sA:Array (Option Value)}{uA_0 uA_1 uA_2:Tok}{aF:Addr}{eF:Array DictEntry}{nF:Nat}{aM:Addr}{eM:Array DictEntry}{nM:Nat}{q1:Addr}{d1:Option Addr}{i1:Array Value}{n1:Nat}{s1:Array (Option Value)}{u1_0 u1_1:Tok}{q2:Addr}{d2:Option Addr}{i2:Array Value}{n2:Nat}{s2:Array (Option Value)}{u2_0:Tok}{q3:Addr}{d3:Option Addr}{i3:Array Value}{n3:Nat}{s3:Array (Option Value)}{u3_0 u3_1:Tok}{q4:Addr}{d4:Option Addr}{i4:Array Value}{n4:Nat}{s4:Array (Option Value)}{u4_0:Tok}{q5:Addr}{d5:Option Addr}{i5:Array Value}{n5:Nat}{s5:Array (Option Value)}{u5_0 u5_1:Tok}{q6:Addr}{d6:Option Addr}{i6:Array Value}{n6:Nat}{s6:Array (Option Value)}{u6_0 u6_1:Tok}{q7:Addr}{d7:Option Addr}{i7:Array Value}{n7:Nat}{s7:Array (Option Value)}{u7_0 u7_1:Tok}{q8:Addr}{d8:Option Addr}{i8:Array Value}{n8:Nat}{s8:Array (Option Value)}{u8_0 u8_1:Tok}{q9:Addr}{d9:Option Addr}{i9:Array Value}{n9:Nat}{s9:Array (Option Value)}{u9_0 u9_1:Tok}{q10:Addr}{d10:Option Addr}{i10:Array Value}{n10:Nat}{s10:Array (Option Value)}{u10_0 u10_1 u10_2:Tok}{q11:Addr}{d11:Option Addr}{i11:Array Value}{n11:Nat}{s11:Array (Option Value)}{u11_0 u11_1 u11_2:Tok}{q12:Addr}{d12:Option Addr}{i12:Array Value}{n12:Nat}{s12:Array (Option Value)}{u12_0 u12_1:Tok}{q13:Addr}{d13:Option Addr}{i13:Array Value}{n13:Nat}{s13:Array (Option Value)}{u13_0 u13_1:Tok}{q14:Addr}{d14:Option Addr}{i14:Array Value}{n14:Nat}{s14:Array (Option Value)}{u14_0 u14_1:Tok}{q15:Addr}{d15:Option Addr}{i15:Array Value}{n15:Nat}{s15:Array (Option Value)}{u15_0:Tok}{q16:Addr}{d16:Option Addr}{i16:Array Value}{n16:Nat}{s16:Array (Option Value)}{u16_0 u16_1 u16_2:Tok}{q17:Addr}{d17:Option Addr}{i17:Array Value}{n17:Nat}{s17:Array (Option Value)}{u17_0 u17_1:Tok}{q18:Addr}{d18:Option Addr}{i18:Array Value}{n18:Nat}{s18:Array (Option Value)}{u18_0 u18_1:Tok}{q19:Addr}{d19:Option Addr}{i19:Array Value}{n19:Nat}{s19:Array (Option Value)}{u19_0:Tok}{q20:Addr}{d20:Option Addr}{i20:Array Value}{n20:Nat}{s20:Array (Option Value)}{m_text:Addr}{m_self:Addr}{m_copy:Addr}{m_row:Addr}{m_put:Addr}{m_join:Addr}{m_first:Addr}{m_rest:Addr}{m_size:Addr}{m_cut:Addr}{m_glue:Addr}
  (gB:PySem.W.nsIn K mainGlobals "BOXES"=some (some (.ref aB))) (lB:K.lookup aB=some ⟨.type "tuple",dB,.seq iB nB,sB⟩) (vB:iB.toList= [.str "a" uB_0,.str "b" uB_1,.str "c" uB_2,.str "d" uB_3,.str "e" uB_4,.str "f" uB_5,.str "g" uB_6,.str "h" uB_7])
  (gA:PySem.W.nsIn K mainGlobals "ASKING"=some (some (.ref aA))) (lA:K.lookup aA=some ⟨.type "tuple",dA,.seq iA nA,sA⟩) (vA:iA.toList= [.str "ask" uA_0,.str "has" uA_1,.str "names" uA_2])
  (gF:PySem.W.nsIn K mainGlobals "FORMS"=some (some (.ref aF))) (lF:K.lookup aF=some ⟨.type "dict",none,.dict eF nF,#[]⟩) (kF:PySem.W.KeysLit w.params eF.toList) (zF:(aF==sysModules)=false)
  (gM:PySem.W.nsIn K mainGlobals "MAKERS"=some (some (.ref aM))) (lM:K.lookup aM=some ⟨.type "dict",none,.dict eM nM,#[]⟩) (kM:PySem.W.KeysLit w.params eM.toList) (zM:(aM==sysModules)=false)
  (f1:PySem.W.nsIn K aF "text"=some (some (.ref q1))) (l1:K.lookup q1=some ⟨.type "tuple",d1,.seq i1 n1,s1⟩) (v1:i1.toList= [.str "box" u1_0,.str "words" u1_1])
  (f2:PySem.W.nsIn K aF "self"=some (some (.ref q2))) (l2:K.lookup q2=some ⟨.type "tuple",d2,.seq i2 n2,s2⟩) (v2:i2.toList= [.str "box" u2_0])
  (f3:PySem.W.nsIn K aF "copy"=some (some (.ref q3))) (l3:K.lookup q3=some ⟨.type "tuple",d3,.seq i3 n3,s3⟩) (v3:i3.toList= [.str "box" u3_0,.str "box" u3_1])
  (f4:PySem.W.nsIn K aF "row"=some (some (.ref q4))) (l4:K.lookup q4=some ⟨.type "tuple",d4,.seq i4 n4,s4⟩) (v4:i4.toList= [.str "box" u4_0])
  (f5:PySem.W.nsIn K aF "put"=some (some (.ref q5))) (l5:K.lookup q5=some ⟨.type "tuple",d5,.seq i5 n5,s5⟩) (v5:i5.toList= [.str "box" u5_0,.str "box" u5_1])
  (f6:PySem.W.nsIn K aF "join"=some (some (.ref q6))) (l6:K.lookup q6=some ⟨.type "tuple",d6,.seq i6 n6,s6⟩) (v6:i6.toList= [.str "box" u6_0,.str "box" u6_1])
  (f7:PySem.W.nsIn K aF "first"=some (some (.ref q7))) (l7:K.lookup q7=some ⟨.type "tuple",d7,.seq i7 n7,s7⟩) (v7:i7.toList= [.str "box" u7_0,.str "box" u7_1])
  (f8:PySem.W.nsIn K aF "rest"=some (some (.ref q8))) (l8:K.lookup q8=some ⟨.type "tuple",d8,.seq i8 n8,s8⟩) (v8:i8.toList= [.str "box" u8_0,.str "box" u8_1])
  (f9:PySem.W.nsIn K aF "size"=some (some (.ref q9))) (l9:K.lookup q9=some ⟨.type "tuple",d9,.seq i9 n9,s9⟩) (v9:i9.toList= [.str "box" u9_0,.str "box" u9_1])
  (f10:PySem.W.nsIn K aF "cut"=some (some (.ref q10))) (l10:K.lookup q10=some ⟨.type "tuple",d10,.seq i10 n10,s10⟩) (v10:i10.toList= [.str "box" u10_0,.str "box" u10_1,.str "box" u10_2])
  (f11:PySem.W.nsIn K aF "glue"=some (some (.ref q11))) (l11:K.lookup q11=some ⟨.type "tuple",d11,.seq i11 n11,s11⟩) (v11:i11.toList= [.str "box" u11_0,.str "box" u11_1,.str "box" u11_2])
  (f12:PySem.W.nsIn K aF "ask"=some (some (.ref q12))) (l12:K.lookup q12=some ⟨.type "tuple",d12,.seq i12 n12,s12⟩) (v12:i12.toList= [.str "box" u12_0,.str "box" u12_1])
  (f13:PySem.W.nsIn K aF "has"=some (some (.ref q13))) (l13:K.lookup q13=some ⟨.type "tuple",d13,.seq i13 n13,s13⟩) (v13:i13.toList= [.str "box" u13_0,.str "box" u13_1])
  (f14:PySem.W.nsIn K aF "names"=some (some (.ref q14))) (l14:K.lookup q14=some ⟨.type "tuple",d14,.seq i14 n14,s14⟩) (v14:i14.toList= [.str "box" u14_0,.str "box" u14_1])
  (f15:PySem.W.nsIn K aF "go"=some (some (.ref q15))) (l15:K.lookup q15=some ⟨.type "tuple",d15,.seq i15 n15,s15⟩) (v15:i15.toList= [.str "line" u15_0])
  (f16:PySem.W.nsIn K aF "like"=some (some (.ref q16))) (l16:K.lookup q16=some ⟨.type "tuple",d16,.seq i16 n16,s16⟩) (v16:i16.toList= [.str "box" u16_0,.str "box" u16_1,.str "line" u16_2])
  (f17:PySem.W.nsIn K aF "rowed"=some (some (.ref q17))) (l17:K.lookup q17=some ⟨.type "tuple",d17,.seq i17 n17,s17⟩) (v17:i17.toList= [.str "box" u17_0,.str "line" u17_1])
  (f18:PySem.W.nsIn K aF "none"=some (some (.ref q18))) (l18:K.lookup q18=some ⟨.type "tuple",d18,.seq i18 n18,s18⟩) (v18:i18.toList= [.str "box" u18_0,.str "line" u18_1])
  (f19:PySem.W.nsIn K aF "say"=some (some (.ref q19))) (l19:K.lookup q19=some ⟨.type "tuple",d19,.seq i19 n19,s19⟩) (v19:i19.toList= [.str "box" u19_0])
  (f20:PySem.W.nsIn K aF "fault"=some (some (.ref q20))) (l20:K.lookup q20=some ⟨.type "tuple",d20,.seq i20 n20,s20⟩) (v20:i20.toList= [])
  (x_text:PySem.W.nsIn K mainGlobals "text_made"=some (some (.ref m_text))) (y_text:PySem.W.nsIn K aM "text"=some (some (.ref m_text)))
  (x_self:PySem.W.nsIn K mainGlobals "self_made"=some (some (.ref m_self))) (y_self:PySem.W.nsIn K aM "self"=some (some (.ref m_self)))
  (x_copy:PySem.W.nsIn K mainGlobals "copy_made"=some (some (.ref m_copy))) (y_copy:PySem.W.nsIn K aM "copy"=some (some (.ref m_copy)))
  (x_row:PySem.W.nsIn K mainGlobals "row_made"=some (some (.ref m_row))) (y_row:PySem.W.nsIn K aM "row"=some (some (.ref m_row)))
  (x_put:PySem.W.nsIn K mainGlobals "put_made"=some (some (.ref m_put))) (y_put:PySem.W.nsIn K aM "put"=some (some (.ref m_put)))
  (x_join:PySem.W.nsIn K mainGlobals "join_made"=some (some (.ref m_join))) (y_join:PySem.W.nsIn K aM "join"=some (some (.ref m_join)))
  (x_first:PySem.W.nsIn K mainGlobals "first_made"=some (some (.ref m_first))) (y_first:PySem.W.nsIn K aM "first"=some (some (.ref m_first)))
  (x_rest:PySem.W.nsIn K mainGlobals "rest_made"=some (some (.ref m_rest))) (y_rest:PySem.W.nsIn K aM "rest"=some (some (.ref m_rest)))
  (x_size:PySem.W.nsIn K mainGlobals "size_made"=some (some (.ref m_size))) (y_size:PySem.W.nsIn K aM "size"=some (some (.ref m_size)))
  (x_cut:PySem.W.nsIn K mainGlobals "cut_made"=some (some (.ref m_cut))) (y_cut:PySem.W.nsIn K aM "cut"=some (some (.ref m_cut)))
  (x_glue:PySem.W.nsIn K mainGlobals "glue_made"=some (some (.ref m_glue))) (y_glue:PySem.W.nsIn K aM "glue"=some (some (.ref m_glue)))
  (o_ask:PySem.W.nsIn K aM "ask"=some none)
  (o_has:PySem.W.nsIn K aM "has"=some none)
  (o_names:PySem.W.nsIn K aM "names"=some none)
  (o_go:PySem.W.nsIn K aM "go"=some none)
  (o_like:PySem.W.nsIn K aM "like"=some none)
  (o_rowed:PySem.W.nsIn K aM "rowed"=some none)
  (o_none:PySem.W.nsIn K aM "none"=some none)
  (o_say:PySem.W.nsIn K aM "say"=some none)
  (o_fault:PySem.W.nsIn K aM "fault"=some none):∃g,Fx K w mg g a:=by
 have z_text:m_text=a.Y3:=by
  have:=(PySem.W.mg_of X G x_text).symm.trans T.m_text_made
  injection this with this
  injection this
 have z_self:m_self=a.Y7:=by
  have:=(PySem.W.mg_of X G x_self).symm.trans T.m_self_made
  injection this with this
  injection this
 have z_copy:m_copy=a.Y4:=by
  have:=(PySem.W.mg_of X G x_copy).symm.trans T.m_copy_made
  injection this with this
  injection this
 have z_row:m_row=a.jv:=by
  have:=(PySem.W.mg_of X G x_row).symm.trans T.m_row_made
  injection this with this
  injection this
 have z_put:m_put=a.jr:=by
  have:=(PySem.W.mg_of X G x_put).symm.trans T.m_put_made
  injection this with this
  injection this
 have z_join:m_join=a.jc:=by
  have:=(PySem.W.mg_of X G x_join).symm.trans T.m_join_made
  injection this with this
  injection this
 have z_first:m_first=a.Yq:=by
  have:=(PySem.W.mg_of X G x_first).symm.trans T.m_first_made
  injection this with this
  injection this
 have z_rest:m_rest=a.Y0:=by
  have:=(PySem.W.mg_of X G x_rest).symm.trans T.m_rest_made
  injection this with this
  injection this
 have z_size:m_size=a.YX:=by
  have:=(PySem.W.mg_of X G x_size).symm.trans T.m_size_made
  injection this with this
  injection this
 have z_cut:m_cut=a.jI:=by
  have:=(PySem.W.mg_of X G x_cut).symm.trans T.m_cut_made
  injection this with this
  injection this
 have z_glue:m_glue=a.Y2:=by
  have:=(PySem.W.mg_of X G x_glue).symm.trans T.m_glue_made
  injection this with this
  injection this
 refine⟨⟨aB,aA,aF,aM⟩,⟨PySem.W.mg_of X G gB,PySem.W.mg_of X G gA,PySem.W.mg_of X G gF,PySem.W.mg_of X G gM,fun H=>Qv lB vB rfl,fun H=>Qv (l:= ["ask","has","names"]) lA vA rfl,⟨zF,eF,nF,lF,kF⟩,fun x hx=> ?_,⟨zM,eM,nM,lM,kM⟩,z_text▸y_text,z_self▸y_self,z_copy▸y_copy,z_row▸y_row,z_put▸y_put,z_join▸y_join,z_first▸y_first,z_rest▸y_rest,z_size▸y_size,z_cut▸y_cut,z_glue▸y_glue,fun z hz=> ?_⟩⟩
 ·unfold FRM at hx
  simp only [List.mem_cons,List.mem_nil_iff,or_false] at hx
  rcases hx with rfl|rfl|rfl|rfl|rfl|rfl|rfl|rfl|rfl|rfl|rfl|rfl|rfl|rfl|rfl|rfl|rfl|rfl|rfl|rfl
  ·exact⟨_,f1,fun H=>by rw [qN];exact Qv l1 v1 rfl⟩
  ·exact⟨_,f2,fun H=>by rw [qN];exact Qv l2 v2 rfl⟩
  ·exact⟨_,f3,fun H=>by rw [qN];exact Qv l3 v3 rfl⟩
  ·exact⟨_,f4,fun H=>by rw [qN];exact Qv l4 v4 rfl⟩
  ·exact⟨_,f5,fun H=>by rw [qN];exact Qv l5 v5 rfl⟩
  ·exact⟨_,f6,fun H=>by rw [qN];exact Qv l6 v6 rfl⟩
  ·exact⟨_,f7,fun H=>by rw [qN];exact Qv l7 v7 rfl⟩
  ·exact⟨_,f8,fun H=>by rw [qN];exact Qv l8 v8 rfl⟩
  ·exact⟨_,f9,fun H=>by rw [qN];exact Qv l9 v9 rfl⟩
  ·exact⟨_,f10,fun H=>by rw [qN];exact Qv l10 v10 rfl⟩
  ·exact⟨_,f11,fun H=>by rw [qN];exact Qv l11 v11 rfl⟩
  ·exact⟨_,f12,fun H=>by rw [qN];exact Qv l12 v12 rfl⟩
  ·exact⟨_,f13,fun H=>by rw [qN];exact Qv l13 v13 rfl⟩
  ·exact⟨_,f14,fun H=>by rw [qN];exact Qv l14 v14 rfl⟩
  ·exact⟨_,f15,fun H=>by rw [qN];exact Qv l15 v15 rfl⟩
  ·exact⟨_,f16,fun H=>by rw [qN];exact Qv l16 v16 rfl⟩
  ·exact⟨_,f17,fun H=>by rw [qN];exact Qv l17 v17 rfl⟩
  ·exact⟨_,f18,fun H=>by rw [qN];exact Qv l18 v18 rfl⟩
  ·exact⟨_,f19,fun H=>by rw [qN];exact Qv l19 v19 rfl⟩
  ·exact⟨_,f20,fun H=>by rw [qN];exact Qv l20 v20 rfl⟩
 ·simp only [NOMK,List.mem_cons,List.mem_nil_iff,or_false] at hz
  rcases hz with rfl|rfl|rfl|rfl|rfl|rfl|rfl|rfl|rfl
  ·exact o_ask
  ·exact o_has
  ·exact o_names
  ·exact o_go
  ·exact o_like
  ·exact o_rowed
  ·exact o_none
  ·exact o_say
  ·exact o_fault
end K13
open PySem PySem.W PyProof.Rows
set_option maxRecDepth 100000 in
set_option maxHeartbeats 0 in
theorem PySem.Challenge.cw_askwright_k13_where_runs_must_end_holds : PySem.Challenge.rw_askwright_k13_where_runs_must_end.Holds := by
 w_on;o_law;k_head;(case hw=>w_witness2)
 k_fill
 refine L2.walk_ofB (l:=PySem.Challenge.rw_askwright_k13_where_runs_must_end) (n:=63) (k:=27) (x:="script") (CX:=L2.CX0) (sp:=K13.sp_law) rfl (by decide) rfl ⟨rfl,by decide,by decide⟩ (fun w h Y=>PySem.W.kIn_of Y) ?F ?S ?C
 case F=>
  intro w mg fa h KX G hmg
  have T:∃a,K13.Tx (L2.KOf KX) mg a:=by
   dsimp only [L2.KOf]
   refine' K13.tx_mk KX G (AMachine:= ?AMachine) (a1:= ?a1) (l1:= ?l1) (c1:= ?c1) (k1:= ?k1) (a2:= ?a2) (l2:= ?l2) (c2:= ?c2) (k2:= ?k2) (a3:= ?a3) (l3:= ?l3) (c3:= ?c3) (k3:= ?k3) (a4:= ?a4) (l4:= ?l4) (c4:= ?c4) (k4:= ?k4) (a5:= ?a5) (l5:= ?l5) (c5:= ?c5) (k5:= ?k5) (a6:= ?a6) (l6:= ?l6) (c6:= ?c6) (k6:= ?k6) (a7:= ?a7) (l7:= ?l7) (c7:= ?c7) (k7:= ?k7) (a8:= ?a8) (l8:= ?l8) (c8:= ?c8) (k8:= ?k8) (a9:= ?a9) (l9:= ?l9) (c9:= ?c9) (k9:= ?k9) (a10:= ?a10) (l10:= ?l10) (c10:= ?c10) (k10:= ?k10) (a11:= ?a11) (l11:= ?l11) (c11:= ?c11) (k11:= ?k11) (a12:= ?a12) (l12:= ?l12) (c12:= ?c12) (k12:= ?k12) (a13:= ?a13) (l13:= ?l13) (c13:= ?c13) (k13:= ?k13) (a14:= ?a14) (l14:= ?l14) (c14:= ?c14) (k14:= ?k14) (a15:= ?a15) (l15:= ?l15) (c15:= ?c15) (k15:= ?k15) (a16:= ?a16) (l16:= ?l16) (c16:= ?c16) (k16:= ?k16) (a17:= ?a17) (l17:= ?l17) (c17:= ?c17) (k17:= ?k17) (a18:= ?a18) (l18:= ?l18) (c18:= ?c18) (k18:= ?k18) (a19:= ?a19) (l19:= ?l19) (c19:= ?c19) (k19:= ?k19) (a20:= ?a20) (l20:= ?l20) (c20:= ?c20) (k20:= ?k20) (a21:= ?a21) (l21:= ?l21) (c21:= ?c21) (k21:= ?k21) (a22:= ?a22) (l22:= ?l22) (c22:= ?c22) (k22:= ?k22) (a23:= ?a23) (l23:= ?l23) (c23:= ?c23) (k23:= ?k23) (a24:= ?a24) (i24:= ?i24) (l24:= ?l24) (c24:= ?c24) (k24:= ?k24) (a25:= ?a25) (i25:= ?i25) (l25:= ?l25) (c25:= ?c25) (k25:= ?k25) (a26:= ?a26) (i26:= ?i26) (l26:= ?l26) (c26:= ?c26) (k26:= ?k26) (a27:= ?a27) (i27:= ?i27) (l27:= ?l27) (c27:= ?c27) (k27:= ?k27) (a28:= ?a28) (i28:= ?i28) (l28:= ?l28) (c28:= ?c28) (k28:= ?k28) (a29:= ?a29) (i29:= ?i29) (l29:= ?l29) (c29:= ?c29) (k29:= ?k29) (a30:= ?a30) (i30:= ?i30) (l30:= ?l30) (c30:= ?c30) (k30:= ?k30) (a31:= ?a31) (i31:= ?i31) (l31:= ?l31) (c31:= ?c31) (k31:= ?k31) (a32:= ?a32) (i32:= ?i32) (l32:= ?l32) (c32:= ?c32) (k32:= ?k32) (a33:= ?a33) (l33:= ?l33) (c33:= ?c33) (k33:= ?k33) (a34:= ?a34) (l34:= ?l34) (c34:= ?c34) (k34:= ?k34) (a35:= ?a35) (l35:= ?l35) (c35:= ?c35) (k35:= ?k35) (a36:= ?a36) (l36:= ?l36) (c36:= ?c36) (k36:= ?k36) (a37:= ?a37) (l37:= ?l37) (c37:= ?c37) (k37:= ?k37) (a38:= ?a38) (l38:= ?l38) (c38:= ?c38) (k38:= ?k38) (a39:= ?a39) (l39:= ?l39) (c39:= ?c39) (k39:= ?k39) (a40:= ?a40) (l40:= ?l40) (c40:= ?c40) (k40:= ?k40) (a41:= ?a41) (l41:= ?l41) (c41:= ?c41) (k41:= ?k41) (a42:= ?a42) (l42:= ?l42) (c42:= ?c42) (k42:= ?k42) (a43:= ?a43) (l43:= ?l43) (c43:= ?c43) (k43:= ?k43) (a44:= ?a44) (l44:= ?l44) (c44:= ?c44) (k44:= ?k44) (a45:= ?a45) (l45:= ?l45) (c45:= ?c45) (k45:= ?k45) (a46:= ?a46) (l46:= ?l46) (c46:= ?c46) (k46:= ?k46) (a47:= ?a47) (l47:= ?l47) (c47:= ?c47) (k47:= ?k47) (a48:= ?a48) (l48:= ?l48) (c48:= ?c48) (k48:= ?k48) (a49:= ?a49) (l49:= ?l49) (c49:= ?c49) (k49:= ?k49) (a50:= ?a50) (l50:= ?l50) (c50:= ?c50) (k50:= ?k50) (a51:= ?a51) (l51:= ?l51) (c51:= ?c51) (k51:= ?k51) (a52:= ?a52) (l52:= ?l52) (c52:= ?c52) (k52:= ?k52) (a53:= ?a53) (l53:= ?l53) (c53:= ?c53) (k53:= ?k53) (a54:= ?a54) (l54:= ?l54) (c54:= ?c54) (k54:= ?k54) (a55:= ?a55) (l55:= ?l55) (c55:= ?c55) (k55:= ?k55) (a56:= ?a56) (l56:= ?l56) (c56:= ?c56) (k56:= ?k56) (a57:= ?a57) (l57:= ?l57) (c57:= ?c57) (k57:= ?k57) (pgMachine:= ?pgMachine) (hdMachine:= ?hdMachine) (poMachine:= ?poMachine) (saMachine:= ?saMachine) (mkMachine:= ?mkMachine) (kcMachine:= ?kcMachine) (nnMachinerows:= ?nnMachinerows) (nnMachinerule:= ?nnMachinerule) (nnMachineown:= ?nnMachineown) (nnMachineboxes:= ?nnMachineboxes) (nnMachineplace:= ?nnMachineplace) (nnMachinedone:= ?nnMachinedone) (nnMachinegiven:= ?nnMachinegiven) (nnMachinethere:= ?nnMachinethere) (g1:= ?g1) (g2:= ?g2) (g3:= ?g3) (g4:= ?g4) (g5:= ?g5) (g6:= ?g6) (g7:= ?g7) (g8:= ?g8) (g9:= ?g9) (g10:= ?g10) (z1:= ?z1) (z2:= ?z2) (z3:= ?z3) (z4:= ?z4) (z5:= ?z5) (z6:= ?z6) (z7:= ?z7) (z8:= ?z8) (z9:= ?z9) (z10:= ?z10) (z11:= ?z11) (z12:= ?z12) (z13:= ?z13) (z14:= ?z14)
   (case AMachine=>k_is);(case a1=>k_is);(case l1=>k_is);(case c1=>k_is);(case k1=>k_is);(case a2=>k_is);(case l2=>k_is);(case c2=>k_is);(case k2=>k_is);(case a3=>k_is);(case l3=>k_is);(case c3=>k_is);(case k3=>k_is);(case a4=>k_is);(case l4=>k_is);(case c4=>k_is);(case k4=>k_is);(case a5=>k_is);(case l5=>k_is);(case c5=>k_is);(case k5=>k_is);(case a6=>k_is);(case l6=>k_is);(case c6=>k_is);(case k6=>k_is);(case a7=>k_is);(case l7=>k_is);(case c7=>k_is);(case k7=>k_is);(case a8=>k_is);(case l8=>k_is);(case c8=>k_is);(case k8=>k_is);(case a9=>k_is);(case l9=>k_is);(case c9=>k_is);(case k9=>k_is);(case a10=>k_is);(case l10=>k_is);(case c10=>k_is);(case k10=>k_is);(case a11=>k_is);(case l11=>k_is);(case c11=>k_is);(case k11=>k_is);(case a12=>k_is);(case l12=>k_is);(case c12=>k_is);(case k12=>k_is);(case a13=>k_is);(case l13=>k_is);(case c13=>k_is);(case k13=>k_is);(case a14=>k_is);(case l14=>k_is);(case c14=>k_is);(case k14=>k_is);(case a15=>k_is);(case l15=>k_is);(case c15=>k_is);(case k15=>k_is);(case a16=>k_is);(case l16=>k_is);(case c16=>k_is);(case k16=>k_is);(case a17=>k_is);(case l17=>k_is);(case c17=>k_is);(case k17=>k_is);(case a18=>k_is);(case l18=>k_is);(case c18=>k_is);(case k18=>k_is);(case a19=>k_is);(case l19=>k_is);(case c19=>k_is);(case k19=>k_is);(case a20=>k_is);(case l20=>k_is);(case c20=>k_is);(case k20=>k_is);(case a21=>k_is);(case l21=>k_is);(case c21=>k_is);(case k21=>k_is);(case a22=>k_is);(case l22=>k_is);(case c22=>k_is);(case k22=>k_is);(case a23=>k_is);(case l23=>k_is);(case c23=>k_is);(case k23=>k_is);(case a24=>k_is);(case i24=>k_is);(case l24=>k_is);(case c24=>k_is);(case k24=>k_is);(case a25=>k_is);(case i25=>k_is);(case l25=>k_is);(case c25=>k_is);(case k25=>k_is);(case a26=>k_is);(case i26=>k_is);(case l26=>k_is);(case c26=>k_is);(case k26=>k_is);(case a27=>k_is);(case i27=>k_is);(case l27=>k_is);(case c27=>k_is);(case k27=>k_is);(case a28=>k_is);(case i28=>k_is);(case l28=>k_is);(case c28=>k_is);(case k28=>k_is);(case a29=>k_is);(case i29=>k_is);(case l29=>k_is);(case c29=>k_is);(case k29=>k_is);(case a30=>k_is);(case i30=>k_is);(case l30=>k_is);(case c30=>k_is);(case k30=>k_is);(case a31=>k_is);(case i31=>k_is);(case l31=>k_is);(case c31=>k_is);(case k31=>k_is);(case a32=>k_is);(case i32=>k_is);(case l32=>k_is);(case c32=>k_is);(case k32=>k_is);(case a33=>k_is);(case l33=>k_is);(case c33=>k_is);(case k33=>k_is);(case a34=>k_is);(case l34=>k_is);(case c34=>k_is);(case k34=>k_is);(case a35=>k_is);(case l35=>k_is);(case c35=>k_is);(case k35=>k_is);(case a36=>k_is);(case l36=>k_is);(case c36=>k_is);(case k36=>k_is);(case a37=>k_is);(case l37=>k_is);(case c37=>k_is);(case k37=>k_is);(case a38=>k_is);(case l38=>k_is);(case c38=>k_is);(case k38=>k_is);(case a39=>k_is);(case l39=>k_is);(case c39=>k_is);(case k39=>k_is);(case a40=>k_is);(case l40=>k_is);(case c40=>k_is);(case k40=>k_is);(case a41=>k_is);(case l41=>k_is);(case c41=>k_is);(case k41=>k_is);(case a42=>k_is);(case l42=>k_is);(case c42=>k_is);(case k42=>k_is);(case a43=>k_is);(case l43=>k_is);(case c43=>k_is);(case k43=>k_is);(case a44=>k_is);(case l44=>k_is);(case c44=>k_is);(case k44=>k_is);(case a45=>k_is);(case l45=>k_is);(case c45=>k_is);(case k45=>k_is);(case a46=>k_is);(case l46=>k_is);(case c46=>k_is);(case k46=>k_is);(case a47=>k_is);(case l47=>k_is);(case c47=>k_is);(case k47=>k_is);(case a48=>k_is);(case l48=>k_is);(case c48=>k_is);(case k48=>k_is);(case a49=>k_is);(case l49=>k_is);(case c49=>k_is);(case k49=>k_is);(case a50=>k_is);(case l50=>k_is);(case c50=>k_is);(case k50=>k_is);(case a51=>k_is);(case l51=>k_is);(case c51=>k_is);(case k51=>k_is);(case a52=>k_is);(case l52=>k_is);(case c52=>k_is);(case k52=>k_is);(case a53=>k_is);(case l53=>k_is);(case c53=>k_is);(case k53=>k_is);(case a54=>k_is);(case l54=>k_is);(case c54=>k_is);(case k54=>k_is);(case a55=>k_is);(case l55=>k_is);(case c55=>k_is);(case k55=>k_is);(case a56=>k_is);(case l56=>k_is);(case c56=>k_is);(case k56=>k_is);(case a57=>k_is);(case l57=>k_is);(case c57=>k_is);(case k57=>k_is);(case pgMachine=>k_is);(case hdMachine=>k_is);(case poMachine=>k_is);(case saMachine=>k_is);(case mkMachine=>k_is);(case kcMachine=>k_is);(case nnMachinerows=>k_is);(case nnMachinerule=>k_is);(case nnMachineown=>k_is);(case nnMachineboxes=>k_is);(case nnMachineplace=>k_is);(case nnMachinedone=>k_is);(case nnMachinegiven=>k_is);(case nnMachinethere=>k_is);(case g1=>k_is);(case g2=>k_is);(case g3=>k_is);(case g4=>k_is);(case g5=>k_is);(case g6=>k_is);(case g7=>k_is);(case g8=>k_is);(case g9=>k_is);(case g10=>k_is);(case z1=>k_is);(case z2=>k_is);(case z3=>k_is);(case z4=>k_is);(case z5=>k_is);(case z6=>k_is);(case z7=>k_is);(case z8=>k_is);(case z9=>k_is);(case z10=>k_is);(case z11=>k_is);(case z12=>k_is);(case z13=>k_is);(case z14=>k_is)
  obtain⟨a,T⟩:=T
  have C:∃g,K13.Fx (L2.KOf KX) w mg g a:=by
   dsimp only [L2.KOf] at T⊢
   refine' K13.fx_mk T KX G (gB:= ?gB) (lB:= ?lB) (vB:= ?vB) (gA:= ?gA) (lA:= ?lA) (vA:= ?vA) (gF:= ?gF) (lF:= ?lF) (kF:= ?kF) (zF:= ?zF) (gM:= ?gM) (lM:= ?lM) (kM:= ?kM) (zM:= ?zM) (f1:= ?f1) (l1:= ?l1) (v1:= ?v1) (f2:= ?f2) (l2:= ?l2) (v2:= ?v2) (f3:= ?f3) (l3:= ?l3) (v3:= ?v3) (f4:= ?f4) (l4:= ?l4) (v4:= ?v4) (f5:= ?f5) (l5:= ?l5) (v5:= ?v5) (f6:= ?f6) (l6:= ?l6) (v6:= ?v6) (f7:= ?f7) (l7:= ?l7) (v7:= ?v7) (f8:= ?f8) (l8:= ?l8) (v8:= ?v8) (f9:= ?f9) (l9:= ?l9) (v9:= ?v9) (f10:= ?f10) (l10:= ?l10) (v10:= ?v10) (f11:= ?f11) (l11:= ?l11) (v11:= ?v11) (f12:= ?f12) (l12:= ?l12) (v12:= ?v12) (f13:= ?f13) (l13:= ?l13) (v13:= ?v13) (f14:= ?f14) (l14:= ?l14) (v14:= ?v14) (f15:= ?f15) (l15:= ?l15) (v15:= ?v15) (f16:= ?f16) (l16:= ?l16) (v16:= ?v16) (f17:= ?f17) (l17:= ?l17) (v17:= ?v17) (f18:= ?f18) (l18:= ?l18) (v18:= ?v18) (f19:= ?f19) (l19:= ?l19) (v19:= ?v19) (f20:= ?f20) (l20:= ?l20) (v20:= ?v20) (x_text:= ?x_text) (y_text:= ?y_text) (x_self:= ?x_self) (y_self:= ?y_self) (x_copy:= ?x_copy) (y_copy:= ?y_copy) (x_row:= ?x_row) (y_row:= ?y_row) (x_put:= ?x_put) (y_put:= ?y_put) (x_join:= ?x_join) (y_join:= ?y_join) (x_first:= ?x_first) (y_first:= ?y_first) (x_rest:= ?x_rest) (y_rest:= ?y_rest) (x_size:= ?x_size) (y_size:= ?y_size) (x_cut:= ?x_cut) (y_cut:= ?y_cut) (x_glue:= ?x_glue) (y_glue:= ?y_glue) (o_ask:= ?o_ask) (o_has:= ?o_has) (o_names:= ?o_names) (o_go:= ?o_go) (o_like:= ?o_like) (o_rowed:= ?o_rowed) (o_none:= ?o_none) (o_say:= ?o_say) (o_fault:= ?o_fault)
   (case gB=>k_is);(case lB=>k_is);(case vB=>rfl);(case gA=>k_is);(case lA=>k_is);(case vA=>rfl);(case gF=>k_is);(case lF=>k_is);(case kF=>(repeat (first|exact trivial|refine⟨⟨_,_,rfl,rfl⟩,?_⟩)));(case zF=>rfl);(case gM=>k_is);(case lM=>k_is);(case kM=>(repeat (first|exact trivial|refine⟨⟨_,_,rfl,rfl⟩,?_⟩)));(case zM=>rfl);(case f1=>k_is);(case l1=>k_is);(case v1=>rfl);(case f2=>k_is);(case l2=>k_is);(case v2=>rfl);(case f3=>k_is);(case l3=>k_is);(case v3=>rfl);(case f4=>k_is);(case l4=>k_is);(case v4=>rfl);(case f5=>k_is);(case l5=>k_is);(case v5=>rfl);(case f6=>k_is);(case l6=>k_is);(case v6=>rfl);(case f7=>k_is);(case l7=>k_is);(case v7=>rfl);(case f8=>k_is);(case l8=>k_is);(case v8=>rfl);(case f9=>k_is);(case l9=>k_is);(case v9=>rfl);(case f10=>k_is);(case l10=>k_is);(case v10=>rfl);(case f11=>k_is);(case l11=>k_is);(case v11=>rfl);(case f12=>k_is);(case l12=>k_is);(case v12=>rfl);(case f13=>k_is);(case l13=>k_is);(case v13=>rfl);(case f14=>k_is);(case l14=>k_is);(case v14=>rfl);(case f15=>k_is);(case l15=>k_is);(case v15=>rfl);(case f16=>k_is);(case l16=>k_is);(case v16=>rfl);(case f17=>k_is);(case l17=>k_is);(case v17=>rfl);(case f18=>k_is);(case l18=>k_is);(case v18=>rfl);(case f19=>k_is);(case l19=>k_is);(case v19=>rfl);(case f20=>k_is);(case l20=>k_is);(case v20=>rfl);(case x_text=>k_is);(case y_text=>k_is);(case x_self=>k_is);(case y_self=>k_is);(case x_copy=>k_is);(case y_copy=>k_is);(case x_row=>k_is);(case y_row=>k_is);(case x_put=>k_is);(case y_put=>k_is);(case x_join=>k_is);(case y_join=>k_is);(case x_first=>k_is);(case y_first=>k_is);(case x_rest=>k_is);(case y_rest=>k_is);(case x_size=>k_is);(case y_size=>k_is);(case x_cut=>k_is);(case y_cut=>k_is);(case x_glue=>k_is);(case y_glue=>k_is);(case o_ask=>k_is);(case o_has=>k_is);(case o_names=>k_is);(case o_go=>k_is);(case o_like=>k_is);(case o_rowed=>k_is);(case o_none=>k_is);(case o_say=>k_is);(case o_fault=>k_is)
  obtain⟨g,C⟩:=C
  have e0:=hmg.symm.trans T.m_law
  cases e0
  exact⟨_,T.e_law,(by obtain⟨_,_,_,_,_,_,_,_,_,e,_⟩:=T.F_law.ex;rw [e];rfl),fun base kb nb=>K13.ok_law T C⟩
 case S=>exact fun w H a ns hl hb hO hS=>⟨a,ns,rfl,hS,hl,hb,fun _=>rfl⟩
 case C=>exact fun _ _ _ _ z=>z
#print axioms PySem.Challenge.cw_askwright_k13_where_runs_must_end_holds
