import PyProof.Rows.All
import Wide.All
import OpenK.AllK
import Wide.FinOn
import Lean
import PyProof.EqAt
import PyProof.EqKinds
import PyProof.TupleCall
import PySem.Str
import PyProof.ZipIter
import PyProof.Draws
import PyProof.StrLawsChain
import PyProof.StrLawsTight
import KE.KIntText
import OpenK.KTop
import PyProof.StationsW
import PyProof.ExcClass2
import PyProof.ExcBaseAll.ValueError
import PyProof.Rows.Catch
import OpenK.KOwn
import KE.KTryMore
import KE.FramesApart
import PyProof.RulesAs
import PyProof.NsDelKeeps
import PyProof.ExcArgs
import PyProof.Rows.SortStr
import KE.KDictSum
import PyProof.DictWalks
import PyProof.IsiH_list
import KE.KDictOf
import PyProof.NeKinds
import PyProof.StrCalls6
import PyProof.FString
import KE.KUnpack
import KE.KItemsList
import KE.KRevIter
import KE.RegKTryMore
import PySem.Challenge.RW_askwright_k18_projects_changed
def PySem.W.Fast.tw2483702173314755810 : Nat := 0
def PySem.W.Fast.tw12990223539220746776 : Nat := 0
def PySem.W.Fast.tw14109988692681113467 : Nat := 0
def PySem.W.Fast.tw5074201007506693900 : Nat := 0
def PySem.W.Fast.tw8204289651376989373 : Nat := 0
def PySem.W.Fast.tw5946513891343396523 : Nat := 0
def PySem.W.Fast.tw6667403223324219056 : Nat := 0
def PySem.W.Fast.tw15839070658914457591 : Nat := 0
def PySem.W.Fast.tw9833162318486587562 : Nat := 0
def PySem.W.Fast.tw8290682398955450234 : Nat := 0
def PySem.W.Fast.tw17210936165605690072 : Nat := 0
def PySem.W.Fast.tw5700414398041293866 : Nat := 0
def PySem.W.Fast.tw14512640696796396124 : Nat := 0
def PySem.W.Fast.tw10386276922764576628 : Nat := 0
def PySem.W.Fast.tw3306979709138925838 : Nat := 0
def PySem.W.Fast.tw994384602624705491 : Nat := 0
def PySem.W.Fast.tw18025664032648728753 : Nat := 0
def PySem.W.Fast.tw18294075190308109589 : Nat := 0
def PySem.W.Fast.tw14688210337982528104 : Nat := 0
def PySem.W.Fast.tw3469963440727535341 : Nat := 0
def PySem.W.Fast.tw7411350334662698942 : Nat := 0
def PySem.W.Fast.tw15799122525842847921 : Nat := 0
def PySem.W.Fast.tw6232310008440131547 : Nat := 0
def PySem.W.Fast.tw1735033283092886479 : Nat := 0
def PySem.W.Fast.tw8899474950042976008 : Nat := 0
def PySem.W.Fast.tw3255638388404748045 : Nat := 0
def PySem.W.Fast.tw13668822608163092350 : Nat := 0
def PySem.W.Fast.tw1713238827516322770 : Nat := 0
def PySem.W.Fast.tw9561004000131362616 : Nat := 0
def PySem.W.Fast.tw846379944295049317 : Nat := 0
def PySem.W.Fast.tw3570157013187370185 : Nat := 0
def PySem.W.Fast.tw15083502711423491885 : Nat := 0
def PySem.W.Fast.tw12624026094229262828 : Nat := 0
def PySem.W.Fast.tw17548235346372470328 : Nat := 0
def PySem.W.Fast.tw14881622730223911508 : Nat := 0
def PySem.W.Fast.tw13109237176172493008 : Nat := 0
def PySem.W.Fast.tw3673246650099925249 : Nat := 0
def PySem.W.Fast.tw10041366932412485324 : Nat := 0
def PySem.W.Fast.tw2176482700107799966 : Nat := 0
def PySem.W.Fast.tw16275853240506721645 : Nat := 0
def PySem.W.Fast.tw12164423501792450712 : Nat := 0
def PySem.W.Fast.tw7083498393196641729 : Nat := 0
def PySem.W.Fast.tw7639326783359133008 : Nat := 0
def PySem.W.Fast.tw6776861672262076600 : Nat := 0
def PySem.W.Fast.tw5424751676384594962 : Nat := 0
def PySem.W.Fast.tw8226229503363480370 : Nat := 0
def PySem.W.Fast.tw1287725363359824565 : Nat := 0
def PySem.W.Fast.tw1522742522468362965 : Nat := 0
def PySem.W.Fast.tw13876792290781630695 : Nat := 0
def PySem.W.Fast.tw11924964605410870045 : Nat := 0
def PySem.W.Fast.tw1025864526186499758 : Nat := 0
def PySem.W.Fast.tw1334559572522718586 : Nat := 0
def PySem.W.Fast.tw7330034688804890582 : Nat := 0
def PySem.W.Fast.tw10286182088958509200 : Nat := 0
def PySem.W.Fast.tw10395667336999664984 : Nat := 0
def PySem.W.Fast.tw16612805464907314929 : Nat := 0
def PySem.W.Fast.tw12927154407690028685 : Nat := 0
def PySem.W.Fast.tw6526797613784698244 : Nat := 0
def PySem.W.Fast.tw16360605019978605994 : Nat := 0
def PySem.W.Fast.tw9231784426693768257 : Nat := 0
def PySem.W.Fast.tw14595232415128579187 : Nat := 0
def PySem.W.Fast.tw8907837540211322576 : Nat := 0
def PySem.W.Fast.tw11749137120922510354 : Nat := 0
def PySem.W.Fast.tw2529378550808137658 : Nat := 0
def PySem.W.Fast.tw3839950642278420251 : Nat := 0
def PySem.W.Fast.tw7344070672481742519 : Nat := 0
def PySem.W.Fast.tw14279781355844808143 : Nat := 0
def PySem.W.Fast.tw13946512591764762700 : Nat := 0
def PySem.W.Fast.tw6928126806288252778 : Nat := 0
def PySem.W.Fast.tw3627745277152980479 : Nat := 0
set_option Elab.async false
set_option linter.all false
set_option maxRecDepth 100000
/-! THE HAND LAYER, for ints, bools, texts, own classes, LISTS and tuples (index, slices, in, append, pop ..), calls, loops. Paste it whole ahead of your own text; what your proof does not reach may be deleted. -/
namespace L2
open PySem PySem.Spec PyProof.Rows

/-- a key: an int or a str -/
abbrev Key := Sum Int Str
def keyIs : Key → Value → Bool
  | .inl k, v => Value.isInt k v
  | .inr x, v => Value.isStrOf x v
def keyH (w : World) : Key → Int
  | .inl k => hashInt k
  | .inr x => hashStr w x
theorem keyIs_shape : ∀ {k : Key} {v : Value}, keyIs k v = true → (∃ i t, k = Sum.inl i ∧ v = Value.int i t) ∨ (∃ x t, k = Sum.inr x ∧ v = Value.str x t)
  | .inl i, v, h => by
    obtain ⟨t, e⟩ := Value.isInt_shape (k := i) (v := v) h
    exact .inl ⟨i, t, rfl, e⟩
  | .inr x, v, h => by
    obtain ⟨t, e⟩ := Value.isStrOf_shape (x := x) (v := v) h
    exact .inr ⟨x, t, rfl, e⟩
theorem keyIs_int (i : Int) (t : Tok) : keyIs (.inl i) (.int i t) = true := by simp [keyIs, Value.isInt]
theorem keyIs_str (x : Str) (t : Tok) : keyIs (.inr x) (.str x t) = true := by simp [keyIs, Value.isStrOf]
theorem key_ll (a b : Int) : decide ((Sum.inl a : Key) = Sum.inl b) = (a == b) := by
  by_cases e : a = b
  · subst e; simp
  · have h : ¬ (Sum.inl a : Key) = Sum.inl b := fun q => e (Sum.inl.inj q)
    rw [decide_eq_false h]
    exact (beq_eq_false_iff_ne.mpr e).symm
theorem key_rr (a b : Str) : decide ((Sum.inr a : Key) = Sum.inr b) = decide (a = b) := by
  by_cases e : a = b
  · subst e; simp
  · have h : ¬ (Sum.inr a : Key) = Sum.inr b := fun q => e (Sum.inr.inj q)
    rw [decide_eq_false h, decide_eq_false e]
theorem key_lr (a : Int) (b : Str) : decide ((Sum.inl a : Key) = Sum.inr b) = false := decide_eq_false (fun q => nomatch q)
theorem key_rl (a : Str) (b : Int) : decide ((Sum.inr a : Key) = Sum.inl b) = false := decide_eq_false (fun q => nomatch q)

def mixKind (prog : Program) (w : World) : PySem.KeyKind prog w Key where
  is := keyIs
  hash := keyH w
  inj := fun v a b ha hb => by
    rcases keyIs_shape ha with ⟨i, t, rfl, rfl⟩ | ⟨x, t, rfl, rfl⟩
    · rcases keyIs_shape hb with ⟨j, u, rfl, e⟩ | ⟨y, u, rfl, e⟩
      · injection e with e1 _; rw [e1]
      · exact nomatch e
    · rcases keyIs_shape hb with ⟨j, u, rfl, e⟩ | ⟨y, u, rfl, e⟩
      · exact nomatch e
      · injection e with e1 _; rw [e1]
  byValue := fun k v h => by
    rcases keyIs_shape h with ⟨i, t, rfl, rfl⟩ | ⟨x, t, rfl, rfl⟩ <;> rfl
  pyHash := fun hv h => by
    rcases keyIs_shape hv with ⟨i, t, rfl, rfl⟩ | ⟨x, t, rfl, rfl⟩
    · exact wpAny_pyHash_int h
    · exact wpAny_pyHash_str h
  eqBool := fun hu hv h => by
    rcases keyIs_shape hu with ⟨i, t, rfl, rfl⟩ | ⟨x, t, rfl, rfl⟩
    · rcases keyIs_shape hv with ⟨j, u, rfl, rfl⟩ | ⟨y, u, rfl, rfl⟩
      · rw [key_ll] at h; exact wpAny_eqBool_int h
      · rw [key_lr] at h; exact SeqAt.EqAt.int_str i t y u _ _ _ _ h
    · rcases keyIs_shape hv with ⟨j, u, rfl, rfl⟩ | ⟨y, u, rfl, rfl⟩
      · rw [key_rl] at h; exact SeqAt.EqAt.str_int x t j u _ _ _ _ h
      · rw [key_rr] at h; exact wpAny_eqBool_str h
  «strs» := fun k x t v h => by
    rcases keyIs_shape h with ⟨i, u, rfl, e⟩ | ⟨y, u, rfl, e⟩
    · exact nomatch e
    · injection e with e1 _
      subst e1
      cases v <;> rfl

theorem mixKind_int (prog : Program) (w : World) (i : Int) (t : Tok) : (mixKind prog w).is (.inl i) (.int i t) = true := keyIs_int i t
theorem mixKind_str (prog : Program) (w : World) (x : Str) (t : Tok) : (mixKind prog w).is (.inr x) (.str x t) = true := keyIs_str x t
end L2

namespace L2
open PySem PySem.Spec PyProof.Rows

/-- a value, without the heap -/
inductive V where
  | non | bl (b : Bool) | int (i : Int) | str (x : Str) | byt (b : Array UInt8) | flt (b : UInt64) | ref (a : Addr) | ty (n : String)
  deriving DecidableEq

def RelV : V → Value → Prop
  | .non, u => u = Value.none
  | .bl b, u => u = Value.bool b
  | .int i, u => ∃ t, u = Value.int i t
  | .str x, u => ∃ t, u = Value.str x t
  | .byt b, u => ∃ t, u = Value.bytes b t
  | .flt b, u => ∃ t, u = Value.float b t
  | .ref a, u => u = Value.ref a
  | .ty n, u => u = Value.type n

abbrev Vals : List V → List Value → Prop := Paired RelV
theorem Vals.length {xs : List V} {us : List Value} (r : Vals xs us) : xs.length = us.length := Paired.length r
theorem Vals.get : ∀ {xs : List V} {us : List Value} {i : Nat} {x : V}, Vals xs us → xs[i]? = some x → ∃ u, us[i]? = some u ∧ RelV x u
  | _, _, _, _, .nil, e => by simp at e
  | _, _, 0, _, .cons r _, e => by simp at e; subst e; exact ⟨_, rfl, r⟩
  | _, _, i + 1, x, .cons _ t, e => by
    obtain ⟨u, h1, h2⟩ := Vals.get (i := i) (x := x) t (by simpa using e)
    exact ⟨u, by simpa using h1, h2⟩
theorem Vals.set {x : V} {u : Value} (r : RelV x u) : ∀ {xs : List V} {us : List Value} (i : Nat), Vals xs us → Vals (xs.set i x) (us.set i u)
  | _, _, _, .nil => .nil
  | _, _, 0, .cons _ t => .cons r t
  | _, _, i + 1, .cons q t => .cons q (Vals.set r i t)
theorem Vals.append : ∀ {xs ys : List V} {us ws : List Value}, Vals xs us → Vals ys ws → Vals (xs ++ ys) (us ++ ws)
  | _, _, _, _, .nil, s => s
  | _, _, _, _, .cons r t, s => .cons r (Vals.append t s)
theorem Vals.take : ∀ {xs : List V} {us : List Value} (n : Nat), Vals xs us → Vals (xs.take n) (us.take n)
  | _, _, 0, _ => .nil
  | _, _, _ + 1, .nil => .nil
  | _, _, n + 1, .cons r t => .cons r (Vals.take n t)
theorem Vals.drop : ∀ {xs : List V} {us : List Value} (n : Nat), Vals xs us → Vals (xs.drop n) (us.drop n)
  | _, _, 0, r => r
  | _, _, _ + 1, .nil => .nil
  | _, _, n + 1, .cons _ t => Vals.drop n t
def RelO : Option V → Option Value → Prop
  | some v, some u => RelV v u
  | none, none => True
  | _, _ => False
def KV {κ : Type} : List (κ × V) → List (κ × Value) → Prop := Paired fun (p : κ × V) (q : κ × Value) => p.1 = q.1 ∧ RelV p.2 q.2

/-- a key of a dict (00_mix): an int or a text -/
def kV : Key → V
  | .inl i => .int i
  | .inr x => .str x

/-- what stands at a tracked address -/
inductive HO where
  /-- a list -/
  | lst (xs : List V)
  /-- a tuple (never changes) -/
  | tup (xs : List V)
  /-- a dict whose keys are ints and texts; one whose keys are tuples of ints and texts (the empty one is both) -/
  | dK (kvs : List (Key × V)) | dT (kvs : List (List Key × V))
  /-- a set of ints: its members, its size -/
  | set (S : Int → Bool) (n : Nat)
  /-- an instance of the class at C, its dict at dx, its attributes -/
  | ins (C dx : Addr) (fs : List (Str × V))
  /-- the dict of the instance at x -/
  | own (x : Addr)
  /-- the dict of an exception -/
  | xd (fs : List (Str × V))
  /-- a bound method, f of x -/
  | met (f x : Addr)
  /-- a range object lo, lo + 1, .. below hi -/
  | rng (lo hi : Int)
  /-- a thing that is known to the object (the script; a dict while a loop walks it): read, never written while it is so -/
  | frz (o : Obj) (u : HO)
  /-- a code object's table -/
  | tbl (ps : Array Value)
  /-- any other thing, by what is true of its one object (a def of one's own: SetO a S n := HO.ext fun h => ..) -/
  | ext (φ : Heap → Prop)

abbrev Hp := Addr → Option HO
def upd (H : Hp) (a : Addr) (o : HO) : Hp := fun b => if b = a then some o else H b
theorem upd_same {H : Hp} {a : Addr} {o : HO} : upd H a o a = some o := by unfold upd; rw [if_pos rfl]
theorem upd_ne {H : Hp} {a b : Addr} {o : HO} (h : b ≠ a) : upd H a o b = H b := by unfold upd; rw [if_neg h]
/-- two objects of different content stand apart -/
theorem ne_of {H : Hp} {a b : Addr} {o u : HO} (h : H a = some o) (h' : H b = some u) (d : o ≠ u) : a ≠ b := by
  intro e; subst e; rw [h] at h'; exact d (Option.some.inj h')
theorem ne_of_none {H : Hp} {a b : Addr} {o : HO} (h : H a = some o) (h' : H b = none) : a ≠ b := by
  intro e; subst e; rw [h] at h'; cases h'

section
variable (P : Program) (w : World)
def ObjOk (H : Hp) (h : Heap) (a : Addr) : HO → Prop
  | .lst xs => xs.length ≤ sizeLine ∧ ∃ (its : List Value) (n : Nat), Vals xs its ∧ h.get? a = some { cls := .type "list", data := .seq its.toArray n }
  | .tup xs => xs.length ≤ sizeLine ∧ ∃ its : List Value, Vals xs its ∧ IsTup h a its.toArray
  | .dK kvs => kvs.length ≤ sizeLine ∧ (a == sysModules) = false ∧ ∃ vs, KV kvs vs ∧ h.DictOf (mixKind P w) a vs
  | .dT kvs => kvs.length ≤ sizeLine ∧ (a == sysModules) = false ∧ ∃ xs : List (List Key × Addr × Value),
      Paired (fun (p : List Key × V) (q : List Key × Addr × Value) => p.1 = q.1 ∧ H q.2.1 = some (.tup (p.1.map kV)) ∧ RelV p.2 q.2.2) kvs xs ∧
      ∃ o es ep, h.get? a = some o ∧ o.ExactDict ∧ o.data = .dict es ep ∧ es.toList = xs.map (entryOfKey (tupleKind (mixKind P w))) ∧ (xs.map (·.1)).Nodup
  | .set S n => h.SetOf (intKind P w) a S n
  | .ins C dx fs => H dx = some (.own a) ∧ fs.length ≤ 1000 ∧ dx ≠ a ∧ h.get? a = some (PySem.W.instObj C dx) ∧
      ∃ mA, h.Ns1 dx mA ∧ (∀ f, RelO (fs.lookup f) (mA f)) ∧ PySem.Within mA (fs.map (·.1))
  | .own _ => ∃ o, h.get? a = some o
  | .xd fs => ∃ mA, h.Ns1 a mA ∧ ∀ f, RelO (fs.lookup f) (mA f)
  | .rng lo hi => ∃ t u v, h.get? a = some { cls := .type "range", data := .fields #[.int lo t, .int hi u, .int 1 v] }
  | .frz o u => h.get? a = some o ∧ ObjOk H h a u
  | .tbl ps => h.get? a = some { cls := .none, data := .fields ps }
  | .met f x => h.get? a = some (PySem.W.methodObj (.ref f) (.ref x))
  | .ext φ => φ h ∧ (∃ o, h.get? a = some o) ∧ ∀ h1 h2 : Heap, φ h1 → (∀ o, h1.get? a = some o → h2.get? a = some o) → φ h2
/-- the abstract heap is held -/
def HOk (H : Hp) (h : Heap) : Prop := ∀ a o, H a = some o → ObjOk P w H h a o
end

section
variable {P : Program} {w : World} {H H' : Hp} {h h' : Heap} {a : Addr} {o : HO}
theorem ObjOk.lt (x : ObjOk P w H h a o) : a < h.objs.size := by
  cases o with
  | lst xs => obtain ⟨_, _, _, _, e⟩ := x; exact Heap.lt_size e
  | tup xs => obtain ⟨_, _, _, p⟩ := x; exact p.lt
  | dK kvs => obtain ⟨_, _, _, _, o, _, _, e, _⟩ := x; exact Heap.lt_size e
  | dT kvs => obtain ⟨_, _, _, _, o, _, _, e, _⟩ := x; exact Heap.lt_size e
  | set S n => obtain ⟨o, _, _, _, e, _⟩ := x; exact Heap.lt_size e
  | ins C dx fs => obtain ⟨_, _, _, e, _⟩ := x; exact Heap.lt_size e
  | own y => obtain ⟨_, e⟩ := x; exact Heap.lt_size e
  | xd fs => obtain ⟨_, ⟨_, _, _, e, _⟩, _⟩ := x; exact Heap.lt_size e
  | rng lo hi => obtain ⟨_, _, _, e⟩ := x; exact Heap.lt_size e
  | frz ob u => obtain ⟨e, _⟩ := x; exact Heap.lt_size e
  | tbl ps => exact Heap.lt_size (show h.get? a = some _ from x)
  | met f y => exact Heap.lt_size (show h.get? a = some _ from x)
  | ext φ => obtain ⟨_, ⟨_, e⟩, _⟩ := x; exact Heap.lt_size e
theorem Paired.mapP {α β : Type} {F G : α → β → Prop} : ∀ {l₁ : List α} {l₂ : List β}, Paired F l₁ l₂ → (∀ a b, F a b → G a b) → Paired G l₁ l₂
  | _, _, .nil, _ => .nil
  | _, _, .cons r t, f => .cons (f _ _ r) (Paired.mapP t f)
/-- what an object's description leans on: its own object, its own dict, the tuples -/
theorem ObjOk.stay (x : ObjOk P w H h a o) (k : ∀ b u, (b = a ∨ H b = some (.own a)) → h.get? b = some u → h'.get? b = some u)
    (ho : ∀ b, H b = some (.own a) → H' b = some (.own a)) (ht : ∀ b xs, H b = some (.tup xs) → H' b = some (.tup xs)) : ObjOk P w H' h' a o := by
  induction o with
  | lst xs => obtain ⟨z, its, n, r, e⟩ := x; exact ⟨z, its, n, r, k _ _ (.inl rfl) e⟩
  | tup xs => obtain ⟨z, its, r, ob, e, c⟩ := x; exact ⟨z, its, r, ob, k _ _ (.inl rfl) e, c⟩
  | dK kvs => obtain ⟨z, y, vs, r, ob, es, ep, e, c⟩ := x; exact ⟨z, y, vs, r, ob, es, ep, k _ _ (.inl rfl) e, c⟩
  | dT kvs =>
    obtain ⟨z, y, xs, r, ob, es, ep, e, c⟩ := x
    exact ⟨z, y, xs, Paired.mapP r fun p q z => ⟨z.1, ht _ _ z.2.1, z.2.2⟩, ob, es, ep, k _ _ (.inl rfl) e, c⟩
  | set S n => obtain ⟨ob, es, ep, t, e, c⟩ := x; exact ⟨ob, es, ep, t, k _ _ (.inl rfl) e, c⟩
  | ins C dx fs =>
    obtain ⟨d, z, ne, e, mA, ⟨od, es, ep, e2, c⟩, r⟩ := x
    exact ⟨ho _ d, z, ne, k _ _ (.inl rfl) e, mA, ⟨od, es, ep, k _ _ (.inr d) e2, c⟩, r⟩
  | own y => obtain ⟨ob, e⟩ := x; exact ⟨ob, k _ _ (.inl rfl) e⟩
  | xd fs => obtain ⟨mA, ⟨od, es, ep, e, c⟩, r⟩ := x; exact ⟨mA, ⟨od, es, ep, k _ _ (.inl rfl) e, c⟩, r⟩
  | rng lo hi => obtain ⟨t, u, v, e⟩ := x; exact ⟨t, u, v, k _ _ (.inl rfl) e⟩
  | frz ob u ih => obtain ⟨e, q⟩ := x; exact ⟨k _ _ (.inl rfl) e, ih q⟩
  | tbl ps =>
    have e : h.get? a = some { cls := .none, data := .fields ps } := x
    show h'.get? a = some { cls := .none, data := .fields ps }
    exact k a _ (.inl rfl) e
  | met f y =>
    have e : h.get? a = some (PySem.W.methodObj (.ref f) (.ref y)) := x
    show h'.get? a = some (PySem.W.methodObj (.ref f) (.ref y))
    exact k a _ (.inl rfl) e
  | ext φ => obtain ⟨p, ⟨o, e⟩, st⟩ := x; exact ⟨st _ _ p fun o q => k _ _ (.inl rfl) q, ⟨o, k _ _ (.inl rfl) e⟩, st⟩
theorem HOk.lt (x : HOk P w H h) (e : H a = some o) : a < h.objs.size := (x a o e).lt
theorem HOk.fresh (x : HOk P w H h) (e : h.objs.size ≤ a) : H a = none := by
  cases q : H a with
  | none => rfl
  | some u => exact absurd (Nat.lt_of_lt_of_le (x.lt q) e) (Nat.lt_irrefl _)
/-- every object of the heap is kept -/
theorem HOk.kept (x : HOk P w H h) (k : ∀ b u, h.get? b = some u → h'.get? b = some u) : HOk P w H h' := fun a o e =>
  (x a o e).stay (fun b u _ q => k b u q) (fun _ q => q) fun _ _ q => q
/-- a new object is laid and tracked -/
theorem HOk.laid (x : HOk P w H h) (k : ∀ b u, h.get? b = some u → h'.get? b = some u) (hp : h.objs.size ≤ a) (new : ObjOk P w (upd H a o) h' a o) : HOk P w (upd H a o) h' := fun b u e => by
  have hn := x.fresh hp
  by_cases hb : b = a
  · subst hb; rw [upd_same] at e; cases e; exact new
  · rw [upd_ne hb] at e
    exact (x b u e).stay (fun c v _ q => k c v q) (fun c q => by rw [upd_ne (ne_of_none q hn)]; exact q) fun c xs q => by rw [upd_ne (ne_of_none q hn)]; exact q
end

/-- what may be read as u: it is u, or a known u -/
def Rd (H : Hp) (a : Addr) (u : HO) : Prop := H a = some u ∨ ∃ o, H a = some (.frz o u)
theorem Rd.of {H : Hp} {a : Addr} {u : HO} (h : H a = some u) : Rd H a u := .inl h
theorem Rd.ok {P : Program} {w : World} {H : Hp} {h : Heap} {a : Addr} {u : HO} (r : Rd H a u) (x : HOk P w H h) : ObjOk P w H h a u := by
  rcases r with r | ⟨o, r⟩
  · exact x a u r
  · obtain ⟨_, q⟩ := x a _ r
    exact q
/-- what may be written -/
def Mut : Option HO → Prop
  | some (.lst _) => True
  | some (.dK _) => True
  | some (.dT _) => True
  | some (.set _ _) => True
  | some (.ins _ _ _) => True
  | some (.ext _) => True
  | _ => False
section
variable {P : Program} {w : World} {H : Hp} {h h' : Heap} {x e : Addr} {o' : HO}
/-- the object at e is changed: x itself, or the dict of the instance x -/
theorem HOk.write (ok : HOk P w H h) (mu : Mut (H x)) (he : e = x ∨ H e = some (.own x)) (k : ∀ b u, b ≠ e → h.get? b = some u → h'.get? b = some u) (heo : ∃ u, h'.get? e = some u)
    (new : ObjOk P w (upd H x o') h' x o') : HOk P w (upd H x o') h' := fun b u q => by
  have nown : ∀ c y, H c = some (.own y) → c ≠ x := fun c y r z => by subst z; rw [r] at mu; exact mu
  have ntup : ∀ c xs, H c = some (.tup xs) → c ≠ x := fun c xs r z => by subst z; rw [r] at mu; exact mu
  by_cases hb : b = x
  · subst hb; rw [upd_same] at q; cases q; exact new
  · rw [upd_ne hb] at q
    by_cases hbe : b = e
    · have q' : H b = some (.own x) := by
        rcases he with z | z
        · exact absurd (hbe.trans z) hb
        · rw [hbe]; exact z
      rw [q] at q'; cases q'
      obtain ⟨v, hv⟩ := heo
      exact ⟨v, by rw [hbe]; exact hv⟩
    · refine (ok b u q).stay (fun c v hc r => k c v ?_ r) (fun c r => by rw [upd_ne (nown c b r)]; exact r) fun c xs r => by rw [upd_ne (ntup c xs r)]; exact r
      rcases hc with rfl | hc
      · exact hbe
      · rintro rfl
        rcases he with z | z
        · exact nown c b hc z
        · rw [hc] at z; cases z; exact hb rfl
end

/-! ### kept unless tracked; of the frames at fs (the callers') the slots may change (an exception that passes writes there); of the records at ex (iterators) nothing is said -/
structure Un (fs ex : List Addr) (H H' : Hp) (h h' : Heap) : Prop where
  keep : ∀ b o, h.get? b = some o → H b = none → b ∉ fs → b ∉ ex → h'.get? b = some o
  slot : ∀ b o, h.get? b = some o → H b = none → b ∈ fs → b ∉ ex → ∃ sl, h'.get? b = some { o with slots := sl }
  free : ∀ b o, h.get? b = some o → H b = none → b ∉ ex → H' b = none
  there : ∀ b o, h.get? b = some o → b ∉ ex → ∃ o', h'.get? b = some o'
  tups : ∀ b xs, H b = some (.tup xs) → H' b = some (.tup xs)
  frzs : ∀ b o u, H b = some (.frz o u) → H' b = some (.frz o u)
  tbls : ∀ b ps, H b = some (.tbl ps) → ∃ more, H' b = some (.tbl (ps ++ more))
section
variable {fs fs' ex ex' : List Addr} {H H1 H2 : Hp} {h h1 h2 h' : Heap} {a x e : Addr} {o : HO}
theorem Un.any (u : Un fs ex H H1 h h1) {b : Addr} {ob : Obj} (q : h.get? b = some ob) (n : H b = none) (hx : b ∉ ex) : ∃ sl, h1.get? b = some { ob with slots := sl } := by
  by_cases hb : b ∈ fs
  · exact u.slot b ob q n hb hx
  · exact ⟨ob.slots, u.keep b ob q n hb hx⟩
theorem Un.trans (a : Un fs ex H H1 h h1) (b : Un fs ex H1 H2 h1 h2) : Un fs ex H H2 h h2 where
  keep := fun c ob q n hc hx => b.keep c ob (a.keep c ob q n hc hx) (a.free c ob q n hx) hc hx
  slot := fun c ob q n hc hx => by
    obtain ⟨sl, e1⟩ := a.slot c ob q n hc hx
    obtain ⟨sl', e2⟩ := b.slot c _ e1 (a.free c ob q n hx) hc hx
    exact ⟨sl', e2⟩
  free := fun c ob q n hx => by
    obtain ⟨o', e1⟩ := a.there c ob q hx
    exact b.free c o' e1 (a.free c ob q n hx) hx
  there := fun c ob q hx => by
    obtain ⟨o', e1⟩ := a.there c ob q hx
    exact b.there c o' e1 hx
  tups := fun c xs q => b.tups c xs (a.tups c xs q)
  frzs := fun c ob xs q => b.frzs c ob xs (a.frzs c ob xs q)
  tbls := fun c ps q => by
    obtain ⟨m1, e1⟩ := a.tbls c ps q
    obtain ⟨m2, e2⟩ := b.tbls c _ e1
    exact ⟨m1 ++ m2, by rw [e2, Array.append_assoc]⟩
theorem Un.kept (k : ∀ b u, h.get? b = some u → h'.get? b = some u) : Un fs ex H H h h' :=
  ⟨fun b ob q _ _ _ => k b ob q, fun b ob q _ _ _ => ⟨ob.slots, k b ob q⟩, fun _ _ _ n _ => n, fun b ob q _ => ⟨ob, k b ob q⟩, fun _ _ q => q, fun _ _ _ q => q, fun _ ps q => ⟨#[], by rw [q]; simp⟩⟩
theorem Un.refl : Un fs ex H H h h := Un.kept fun _ _ q => q
theorem Un.laid (k : ∀ b u, h.get? b = some u → h'.get? b = some u) (hp : h.objs.size ≤ a) (hn : H a = none) : Un fs ex H (upd H a o) h h' where
  keep := fun b u q _ _ _ => k b u q
  slot := fun b u q _ _ _ => ⟨u.slots, k b u q⟩
  free := fun b u q n _ => by rw [upd_ne (Nat.ne_of_lt (Nat.lt_of_lt_of_le (Heap.lt_size q) hp))]; exact n
  there := fun b u q _ => ⟨u, k b u q⟩
  tups := fun b xs q => by rw [upd_ne (ne_of_none q hn)]; exact q
  frzs := fun b u xs q => by rw [upd_ne (ne_of_none q hn)]; exact q
  tbls := fun b ps q => ⟨#[], by rw [upd_ne (ne_of_none q hn), q]; simp⟩
theorem Un.write (mu : Mut (H x)) (he : e = x ∨ H e = some (.own x)) (k : ∀ b u, b ≠ e → h.get? b = some u → h'.get? b = some u) (heo : ∃ u, h'.get? e = some u) : Un fs ex H (upd H x o) h h' := by
  have hx : ∀ b, H b = none → b ≠ x := fun b n z => by subst z; rw [n] at mu; exact mu
  have hb : ∀ b, H b = none → b ≠ e := fun b n z => by
    subst z
    rcases he with r | r
    · exact hx b n r
    · rw [n] at r; cases r
  have hm : ∀ b u, H b = some u → ¬ Mut (some u) → b ≠ x := fun b u q nm z => by subst z; rw [q] at mu; exact nm mu
  refine ⟨fun b u q n _ _ => k b u (hb b n) q, fun b u q n _ _ => ⟨u.slots, k b u (hb b n) q⟩, fun b u q n _ => by rw [upd_ne (hx b n)]; exact n, fun b u q _ => ?_,
    fun b xs q => by rw [upd_ne (hm b _ q fun z => z)]; exact q, fun b u xs q => by rw [upd_ne (hm b _ q fun z => z)]; exact q, fun b ps q => ⟨#[], by rw [upd_ne (hm b _ q fun z => z), q]; simp⟩⟩
  by_cases hbe : b = e
  · subst hbe; exact heo
  · exact ⟨u, k b u hbe q⟩
end

/-! ### the heap without what is tracked -/
def trk (h : Heap) (H : Hp) : List Addr := (List.range h.objs.size).filter fun a => (H a).isSome
def hidT (h : Heap) (H : Hp) : Heap := PySem.W.hideAll h (trk h H)
theorem hidT_size (h : Heap) (H : Hp) : (hidT h H).objs.size = h.objs.size := PySem.W.hideAll_size _ _
theorem hidT_get {h : Heap} {H : Hp} {b : Addr} {o : Obj} (e : h.get? b = some o) (n : H b = none) : (hidT h H).get? b = some o :=
  PySem.W.hideAll_get _ e fun hm => by
    have q : (H b).isSome = true := (List.mem_filter.mp hm).2
    rw [n] at q; simp at q
theorem of_hidT {h : Heap} {H : Hp} {b : Addr} {o : Obj} (e : (hidT h H).get? b = some o) : h.get? b = some o ∧ H b = none := by
  have e' : h.get? b = some o := PySem.W.of_hideAll (trk h H) e
  refine ⟨e', ?_⟩
  cases q : H b with
  | none => rfl
  | some x =>
    have hm : b ∈ trk h H := List.mem_filter.mpr ⟨List.mem_range.mpr (Heap.lt_size e'), by simp [q]⟩
    have z : (hidT h H).get? b = none := PySem.W.hideAll_none (trk h H) hm
    rw [z] at e; cases e

/-! ### OpenK's ledger, filled with every new object but one -/
end L2

namespace L2
open PySem PySem.Spec PyProof.Rows

/-- the module's facts, over the base: the heap at the law's entry without what is tracked there -/
structure Mod (K : PySem.W.Frag) (mg : Str → Option Value) (base : Heap) : Prop where
  kin : K.In base
  glob : base.Ns mainGlobals mg
  blt : ∃ mb, base.Ns builtinsNs mb ∧ ∀ x : Str, x ≠ "__name__" → mb x = bootBuiltins x
  nolimit : base.NoLimit

/-- the context: a def's body (or a comprehension's block) running. base: fixed through the whole law; s₀, H₀: the entry; outer: the frames whose slots others may change (a def's callers); stack: all frames that run;
   ex: iterators that were made ahead of the entry and are walked here (a comprehension's); fn: the names whose cells were made at the entry (a def: all; a comprehension's block: its own); calm: not within an except suite; pn: pins that every state bears; xe: what is wanted of an exception that leaves the code -/
structure Cx where
  prog : Program
  w : World
  K : PySem.W.Frag
  mg : Str → Option Value
  base : Heap
  A : Around
  N : List Str
  s₀ : Shared
  H₀ : Hp
  env : Env
  outer : List Env
  stack : List Env
  ex : List Addr
  fn : Str → Bool
  calm : Bool
  pn : List (Addr × Obj)
  xe : Value → Shared → Prop
/-- the callers' frames -/
def frs (l : List Env) : List Addr := l.filterMap (·.frame)
abbrev Cx.fs (X : Cx) : List Addr := frs X.outer

def Vis (sc : Scope) (x : Str) : Prop := sc.names.lookup x = some .local ∨ sc.names.lookup x = some .cell ∨ sc.names.lookup x = some .free
def Loc (sc : Scope) (x : Str) : Prop := sc.names.lookup x = some .local ∨ sc.names.lookup x = some .cell
def Look (env : Env) (h : Heap) (m : Str → Option Value) (x : Str) (u : Value) : Prop :=
  (env.kindOf x = some .local ∧ m x = some u) ∨ ((env.kindOf x = some .cell ∨ env.kindOf x = some .free) ∧ ∃ c, env.cells.lookup x = some c ∧ h.IsCell c (some u))

structure Cx.Ok (X : Cx) : Prop where
  mod : Mod X.K X.mg X.base
  kind : X.env.scope.kind = .function
  glob : X.env.globals = mainGlobals
  blt : X.env.builtins = builtinsNs
  above : X.s₀.heap.objs.size ≤ X.env.locals
  inj : ∀ x y c, X.env.cells.lookup x = some c → X.env.cells.lookup y = some c → x = y
  has : ∀ x, (X.env.kindOf x = some .cell ∨ X.env.kindOf x = some .free) → ∃ c, X.env.cells.lookup x = some c
  cab : ∀ x c, X.fn x = true → X.env.cells.lookup x = some c → X.s₀.heap.objs.size ≤ c
  hd : X.calm = true → X.A.handled = none
  frames : X.A.frames = some X.stack
  stk : X.stack = X.outer ∨ (X.stack = X.env :: X.outer ∧ X.env.frame = some X.env.locals)
  exf : ∀ b ∈ X.ex, b ≠ X.env.locals ∧ ∀ x c, X.env.cells.lookup x = some c → c ≠ b
  bs : ∀ b o, X.base.get? b = some o → X.s₀.heap.get? b = some o ∧ X.H₀ b = none
  bsz : X.base.objs.size ≤ X.s₀.heap.objs.size
  noex : ∀ b o, X.base.get? b = some o → b ∉ X.ex
  exfs : ∀ b ∈ X.ex, b ∉ X.fs
  funs : X.s₀.heap.FunFrames X.base X.outer
  frf : ∀ b ∈ X.fs, X.H₀ b = none

structure Inv (X : Cx) (pins : List (Addr × Obj)) (σ : List (Option V)) (H : Hp) (s : Shared) : Prop where
  ok : X.Ok
  os : s.os = X.s₀.os
  bare : AllBare s.gens
  base : Un X.fs X.ex X.H₀ H X.s₀.heap s.heap
  loc : ∃ m, s.heap.Ns X.env.locals m ∧ ∀ (i : Nat) (x : Str) (v : V), X.N[i]? = some x → σ[i]? = some (some v) → Vis X.env.scope x → ∃ u, RelV v u ∧ Look X.env s.heap m x u
  cell : ∀ x c, X.env.cells.lookup x = some c → ∃ v, s.heap.IsCell c v
  free : H X.env.locals = none
  freeC : ∀ x c, X.env.cells.lookup x = some c → H c = none
  pin : ∀ p ∈ X.pn ++ pins, s.heap.get? p.1 = some p.2 ∧ H p.1 = none ∧ p.1 ≠ X.env.locals ∧ p.1 ∉ X.fs ∧ ∀ v, p.2.data ≠ .cell v
  hok : HOk X.prog X.w H s.heap
  len : σ.length = X.N.length
  tk : 0 < s.toks

section
variable {X : Cx} {pins : List (Addr × Obj)} {σ : List (Option V)} {H H' : Hp} {s : Shared} {h' : Heap}

theorem Cx.Ok.nofr (ok : X.Ok) {b : Addr} {o : Obj} (e : X.base.get? b = some o) : b ∉ X.fs := fun hb => by
  have := (ok.funs.mem hb).1
  rw [e] at this; cases this
theorem Inv.bs (I : Inv X pins σ H s) : ∀ b o, X.base.get? b = some o → s.heap.get? b = some o ∧ H b = none := fun b o e =>
  ⟨I.base.keep b o (I.ok.bs b o e).1 (I.ok.bs b o e).2 (I.ok.nofr e) (I.ok.noex b o e), I.base.free b o (I.ok.bs b o e).1 (I.ok.bs b o e).2 (I.ok.noex b o e)⟩
theorem Inv.bk (I : Inv X pins σ H s) : ∀ b o, X.base.get? b = some o → s.heap.get? b = some o := fun b o e => (I.bs b o e).1
theorem Inv.mod (I : Inv X pins σ H s) : Mod X.K X.mg X.base := I.ok.mod
theorem Inv.kIn (I : Inv X pins σ H s) : X.K.In s.heap := I.ok.mod.kin.keeps I.bk
theorem Inv.lt (I : Inv X pins σ H s) : X.env.locals < s.heap.objs.size := let ⟨_, hn, _⟩ := I.loc; hn.lt
theorem Inv.sz (I : Inv X pins σ H s) : X.s₀.heap.objs.size ≤ s.heap.objs.size := Nat.le_trans I.ok.above (Nat.le_of_lt I.lt)
theorem Inv.nofs (I : Inv X pins σ H s) {a : Addr} (h : s.heap.objs.size ≤ a) : a ∉ X.fs := fun hb => by
  obtain ⟨_, o, ho, _⟩ := I.ok.funs.mem hb
  exact absurd (Nat.lt_of_lt_of_le (Heap.lt_size ho) (Nat.le_trans I.sz h)) (Nat.lt_irrefl _)
theorem Inv.cne (I : Inv X pins σ H s) : ∀ x c, X.env.cells.lookup x = some c → c ≠ X.env.locals := fun x c e z => by
  obtain ⟨v, o, ho, hd⟩ := I.cell x c e
  obtain ⟨m, ⟨o', es, ep, ho', hd', _⟩, _⟩ := I.loc
  rw [z, ho'] at ho; cases ho; rw [hd'] at hd; cases hd
theorem Inv.funs (I : Inv X pins σ H s) : s.heap.FunFrames X.base X.outer := by
  have all : ∀ (l : List Env), (∀ b ∈ frs l, b ∈ X.fs) → X.s₀.heap.FunFrames X.base l → s.heap.FunFrames X.base l := by
    intro l
    induction l with
    | nil => intro _ _; trivial
    | cons env r ih =>
      intro hs hl
      obtain ⟨hk, ⟨L, o, hf, hn, ho, hd⟩, hr⟩ := hl
      have hL : L ∈ X.fs := hs L (by unfold frs; rw [List.filterMap_cons, hf]; exact List.mem_cons_self)
      obtain ⟨sl, e⟩ := I.base.slot L o ho (I.ok.frf L hL) hL fun z => I.ok.exfs L z hL
      exact ⟨hk, ⟨L, _, hf, hn, e, hd⟩, ih (fun b hb => hs b (by unfold frs; rw [List.filterMap_cons, hf]; exact List.mem_cons_of_mem _ hb)) hr⟩
  exact all X.outer (fun _ hb => hb) I.ok.funs

/-- the frames that run, for a call -/
theorem Inv.stack (I : Inv X pins σ H s) : s.heap.FunFrames X.base X.stack := by
  rcases I.ok.stk with e | ⟨e, hf⟩
  · rw [e]; exact I.funs
  · rw [e]
    obtain ⟨m, hn, _⟩ := I.loc
    refine .cons (by rw [I.ok.kind]; decide) hf hn ?_ I.funs
    exact Heap.get?_none_of_le (Nat.le_trans I.ok.bsz I.ok.above)
theorem Inv.stkSub (I : Inv X pins σ H s) : ∀ b ∈ frs X.stack, b ∈ X.env.locals :: X.fs := fun b hb => by
  rcases I.ok.stk with e | ⟨e, hf⟩
  · rw [e] at hb; exact List.mem_cons_of_mem _ hb
  · rw [e] at hb
    unfold frs at hb
    rw [List.filterMap_cons, hf] at hb
    exact hb
theorem Inv.stkFree (I : Inv X pins σ H s) : ∀ b ∈ frs X.stack, H b = none := fun b hb => by
  rcases List.mem_cons.mp (I.stkSub b hb) with e | hb
  · rw [e]; exact I.free
  · obtain ⟨_, o, ho, _⟩ := I.ok.funs.mem hb
    exact I.base.free b o ho (I.ok.frf b hb) fun z => I.ok.exfs b z hb

/-- THE STEP: the untracked objects but the frame and the records at ch are kept (the callers' frames up to slots), the frame's map is kept, the new abstract heap is held -/
theorem Inv.step {g' : Array GenState} {t' : Nat} {d' : Drawn} {ch : List Addr} (I : Inv X pins σ H s)
    (hch : ∀ b ∈ ch, (b ∈ X.ex ∨ X.s₀.heap.objs.size ≤ b) ∧ b ≠ X.env.locals ∧ (∀ x c, X.env.cells.lookup x = some c → c ≠ b) ∧ ∀ p ∈ X.pn ++ pins, p.1 ≠ b)
    (keep : ∀ b o, b ≠ X.env.locals → b ∉ X.fs → b ∉ ch → s.heap.get? b = some o → H b = none → h'.get? b = some o)
    (slot : ∀ b o, b ≠ X.env.locals → b ∈ X.fs → b ∉ ch → s.heap.get? b = some o → H b = none → ∃ sl, h'.get? b = some { o with slots := sl }) (free : ∀ b o, b ∉ ch → s.heap.get? b = some o → H b = none → H' b = none)
    (there : ∀ b o, b ∉ ch → s.heap.get? b = some o → ∃ o', h'.get? b = some o')
    (tups : ∀ b xs, H b = some (.tup xs) → H' b = some (.tup xs)) (frzs : ∀ b o u, H b = some (.frz o u) → H' b = some (.frz o u)) (tbls : ∀ b ps, H b = some (.tbl ps) → ∃ more, H' b = some (.tbl (ps ++ more)))
    (ns : ∀ m, s.heap.Ns X.env.locals m → h'.Ns X.env.locals m) (hok : HOk X.prog X.w H' h') (hg : AllBare g') (ht : 0 < t' := by ((try dsimp only); first | assumption | exact Inv.tk (by assumption) | exact Nat.succ_pos _ | exact Nat.lt_of_lt_of_le (Inv.tk (by assumption)) (by assumption) | exact Nat.add_pos_left (Inv.tk (by assumption)) _ | omega)) :
    Inv X pins σ H' { s with heap := h', gens := g', drawn := d', toks := t' } := by
  have neL : ∀ b o, X.s₀.heap.get? b = some o → b ≠ X.env.locals := fun b o e => Nat.ne_of_lt (Nat.lt_of_lt_of_le (Heap.lt_size e) I.ok.above)
  have neC : ∀ b o, X.s₀.heap.get? b = some o → b ∉ X.ex → b ∉ ch := fun b o e hx hb => by
    rcases (hch b hb).1 with z | z
    · exact hx z
    · exact absurd (Nat.lt_of_lt_of_le (Heap.lt_size e) z) (Nat.lt_irrefl _)
  have cellK : ∀ x c, X.env.cells.lookup x = some c → ∀ v, s.heap.IsCell c v → h'.IsCell c v := fun x c e v ⟨o, ho, hd⟩ => by
    have nch : c ∉ ch := fun z => (hch c z).2.2.1 x c e rfl
    by_cases hc : c ∈ X.fs
    · obtain ⟨sl, q⟩ := slot c o (I.cne x c e) hc nch ho (I.freeC x c e)
      exact ⟨_, q, hd⟩
    · exact ⟨o, keep c o (I.cne x c e) hc nch ho (I.freeC x c e), hd⟩
  refine ⟨I.ok, I.os, hg, ⟨fun b o e n hb hx => ?_, fun b o e n hb hx => ?_, fun b o e n hx => ?_, fun b o e hx => ?_, fun b xs e => tups b xs (I.base.tups b xs e), fun b o xs e => frzs b o xs (I.base.frzs b o xs e), fun b ps e => ?_⟩, ?_, fun x c e => ?_, ?_, fun x c e => ?_, fun p hp => ?_, hok, I.len, ht⟩
  · exact keep b o (neL b o e) hb (neC b o e hx) (I.base.keep b o e n hb hx) (I.base.free b o e n hx)
  · obtain ⟨sl, e1⟩ := I.base.slot b o e n hb hx
    obtain ⟨sl', e2⟩ := slot b _ (neL b o e) hb (neC b o e hx) e1 (I.base.free b o e n hx)
    exact ⟨sl', e2⟩
  · obtain ⟨o', e1⟩ := I.base.there b o e hx
    exact free b o' (neC b o e hx) e1 (I.base.free b o e n hx)
  · obtain ⟨o', e1⟩ := I.base.there b o e hx
    exact there b o' (neC b o e hx) e1
  · obtain ⟨m1, e1⟩ := I.base.tbls b ps e
    obtain ⟨m2, e2⟩ := tbls b _ e1
    exact ⟨m1 ++ m2, by rw [e2, Array.append_assoc]⟩
  · obtain ⟨m, hn, hl⟩ := I.loc
    refine ⟨m, ns m hn, fun i x v e1 e2 e3 => ?_⟩
    obtain ⟨u, r, l⟩ := hl i x v e1 e2 e3
    refine ⟨u, r, ?_⟩
    rcases l with l | ⟨k, c, e, z⟩
    · exact .inl l
    · exact .inr ⟨k, c, e, cellK x c e _ z⟩
  · obtain ⟨v, z⟩ := I.cell x c e
    exact ⟨v, cellK x c e v z⟩
  · obtain ⟨m, ⟨o, _, _, ho, _⟩, _⟩ := I.loc
    exact free _ o (fun z => (hch _ z).2.1 rfl) ho I.free
  · obtain ⟨v, o, ho, hd⟩ := I.cell x c e
    exact free c o (fun z => (hch c z).2.2.1 x c e rfl) ho (I.freeC x c e)
  · obtain ⟨e, n, ne, nf, d⟩ := I.pin p hp
    have nch : p.1 ∉ ch := fun z => (hch p.1 z).2.2.2 p hp rfl
    exact ⟨keep p.1 p.2 ne nf nch e n, free p.1 p.2 nch e n, ne, nf, d⟩
/-- .. where the frame's own object is kept too -/
theorem Inv.un {t' : Nat} (I : Inv X pins σ H s) (u : Un X.fs [] H H' s.heap h') (hok : HOk X.prog X.w H' h') (ht : 0 < t' := by ((try dsimp only); first | assumption | exact Inv.tk (by assumption) | exact Nat.succ_pos _ | exact Nat.lt_of_lt_of_le (Inv.tk (by assumption)) (by assumption) | exact Nat.add_pos_left (Inv.tk (by assumption)) _ | omega)) : Inv X pins σ H' { s with heap := h', toks := t' } := by
  obtain ⟨m, ⟨o, es, ep, ho, r⟩, _⟩ := id I.loc
  obtain ⟨sl, hL⟩ := u.any ho I.free (by simp)
  exact I.step (g' := s.gens) (d' := s.drawn) (ch := []) (fun _ z => nomatch z) (fun b o _ hb _ e n => u.keep b o e n hb (by simp)) (fun b o _ hb _ e n => u.slot b o e n hb (by simp)) (fun b o _ e n => u.free b o e n (by simp)) (fun b o _ e => u.there b o e (by simp)) u.tups u.frzs u.tbls (fun m' hm => by
    obtain ⟨o', es', ep', ho', r'⟩ := hm
    rw [ho] at ho'; cases ho'
    exact ⟨_, es', ep', hL, r'⟩) hok I.bare
/-- behind a call (or a comprehension's block): the slots of this frame may have changed too, the records at ch may have turned -/
theorem Inv.call {g' : Array GenState} {t' : Nat} {d' : Drawn} {ch : List Addr} (I : Inv X pins σ H s) (u : Un (frs X.stack) ch H H' s.heap h') (hok : HOk X.prog X.w H' h') (hg : AllBare g')
    (hch : ∀ b ∈ ch, (b ∈ X.ex ∨ X.s₀.heap.objs.size ≤ b) ∧ b ≠ X.env.locals ∧ (∀ x c, X.env.cells.lookup x = some c → c ≠ b) ∧ ∀ p ∈ X.pn ++ pins, p.1 ≠ b) (ht : 0 < t' := by ((try dsimp only); first | assumption | exact Inv.tk (by assumption) | exact Nat.succ_pos _ | exact Nat.lt_of_lt_of_le (Inv.tk (by assumption)) (by assumption) | exact Nat.add_pos_left (Inv.tk (by assumption)) _ | omega)) :
    Inv X pins σ H' { s with heap := h', gens := g', drawn := d', toks := t' } := by
  obtain ⟨m, ⟨o, es, ep, ho, r⟩, _⟩ := id I.loc
  obtain ⟨sl, hL⟩ := u.any ho I.free fun z => (hch _ z).2.1 rfl
  exact I.step (ch := ch) hch (fun b o hL hb hc e n => u.keep b o e n (fun z => (List.mem_cons.mp (I.stkSub b z)).elim hL hb) hc) (fun b o _ _ hc e n => u.any e n hc) (fun b o hc e n => u.free b o e n hc) (fun b o hc e => u.there b o e hc) u.tups u.frzs u.tbls (fun m' hm => by
    obtain ⟨o', es', ep', ho', r'⟩ := hm
    rw [ho] at ho'; cases ho'
    exact ⟨_, es', ep', hL, r'⟩) hok hg
/-- an untracked record of ours (an iterator) has turned -/
theorem Inv.turned {t' : Nat} {it : Addr} (I : Inv X pins σ H s) (k : ∀ b o, b ≠ it → s.heap.get? b = some o → h'.get? b = some o) (hn : H it = none) (hL : it ≠ X.env.locals)
    (h1 : it ∈ X.ex ∨ X.s₀.heap.objs.size ≤ it) (h2 : ∀ x c, X.env.cells.lookup x = some c → c ≠ it) (h3 : ∀ p ∈ X.pn ++ pins, p.1 ≠ it) (ht : 0 < t' := by ((try dsimp only); first | assumption | exact Inv.tk (by assumption) | exact Nat.succ_pos _ | exact Nat.lt_of_lt_of_le (Inv.tk (by assumption)) (by assumption) | exact Nat.add_pos_left (Inv.tk (by assumption)) _ | omega)) : Inv X pins σ H { s with heap := h', toks := t' } := by
  have nit : ∀ b u, H b = some u → b ≠ it := fun b u e z => by rw [z, hn] at e; cases e
  refine I.step (g' := s.gens) (d' := s.drawn) (ch := [it]) (fun b hb => ?_) (fun b o _ _ hc e _ => k b o (fun z => hc (by simp [z])) e) (fun b o _ _ hc e _ => ⟨o.slots, k b o (fun z => hc (by simp [z])) e⟩) (fun _ _ _ _ n => n)
    (fun b o hc e => ⟨o, k b o (fun z => hc (by simp [z])) e⟩) (fun _ _ e => e) (fun _ _ _ e => e) (fun b ps e => ⟨#[], by rw [e]; simp⟩) (fun m hm => ?_) (fun b u e => ?_) I.bare
  · have e : b = it := by simpa using hb
    subst e
    exact ⟨h1, hL, h2, h3⟩
  · obtain ⟨o, es, ep, ho, r⟩ := hm
    exact ⟨o, es, ep, k _ o (Ne.symm hL) ho, r⟩
  · refine (I.hok b u e).stay (fun c v hc q => k c v ?_ q) (fun _ q => q) fun _ _ q => q
    rcases hc with z | z
    · rw [z]; exact nit b u e
    · exact nit c _ z
theorem Inv.tok (I : Inv X pins σ H s) (t : Nat) (ht : 0 < t := by ((try dsimp only); first | assumption | exact Inv.tk (by assumption) | exact Nat.succ_pos _ | exact Nat.lt_of_lt_of_le (Inv.tk (by assumption)) (by assumption) | exact Nat.add_pos_left (Inv.tk (by assumption)) _ | omega)) : Inv X pins σ H { s with toks := t } := I.un (h' := s.heap) (t' := t) Un.refl I.hok
/-- all objects kept -/
theorem Inv.kept {t' : Nat} (I : Inv X pins σ H s) (k : ∀ b u, s.heap.get? b = some u → h'.get? b = some u) (ht : 0 < t' := by ((try dsimp only); first | assumption | exact Inv.tk (by assumption) | exact Nat.succ_pos _ | exact Nat.lt_of_lt_of_le (Inv.tk (by assumption)) (by assumption) | exact Nat.add_pos_left (Inv.tk (by assumption)) _ | omega)) : Inv X pins σ H { s with heap := h', toks := t' } := I.un (Un.kept k) (I.hok.kept k)
/-- a new object laid and tracked -/
theorem Inv.laid {a : Addr} {o : HO} {t' : Nat} (I : Inv X pins σ H s) (k : ∀ b u, s.heap.get? b = some u → h'.get? b = some u) (hp : s.heap.objs.size ≤ a) (new : ObjOk X.prog X.w (upd H a o) h' a o) (ht : 0 < t' := by ((try dsimp only); first | assumption | exact Inv.tk (by assumption) | exact Nat.succ_pos _ | exact Nat.lt_of_lt_of_le (Inv.tk (by assumption)) (by assumption) | exact Nat.add_pos_left (Inv.tk (by assumption)) _ | omega)) :
    Inv X pins σ (upd H a o) { s with heap := h', toks := t' } := I.un (Un.laid k hp (I.hok.fresh hp)) (I.hok.laid k hp new)
/-- an object written -/
theorem Inv.write {x e : Addr} {o : HO} {t' : Nat} (I : Inv X pins σ H s) (mu : Mut (H x)) (he : e = x ∨ H e = some (.own x)) (k : ∀ b u, b ≠ e → s.heap.get? b = some u → h'.get? b = some u) (heo : ∃ u, h'.get? e = some u)
    (new : ObjOk X.prog X.w (upd H x o) h' x o) (ht : 0 < t' := by ((try dsimp only); first | assumption | exact Inv.tk (by assumption) | exact Nat.succ_pos _ | exact Nat.lt_of_lt_of_le (Inv.tk (by assumption)) (by assumption) | exact Nat.add_pos_left (Inv.tk (by assumption)) _ | omega)) : Inv X pins σ (upd H x o) { s with heap := h', toks := t' } := I.un (Un.write mu he k heo) (I.hok.write mu he k heo new)
theorem Inv.pins_of {pins' : List (Addr × Obj)} (I : Inv X pins σ H s) (h : ∀ p ∈ pins', s.heap.get? p.1 = some p.2 ∧ H p.1 = none ∧ p.1 ≠ X.env.locals ∧ p.1 ∉ X.fs ∧ ∀ v, p.2.data ≠ .cell v) : Inv X pins' σ H s :=
  ⟨I.ok, I.os, I.bare, I.base, I.loc, I.cell, I.free, I.freeC, fun p hp => (List.mem_append.mp hp).elim (fun z => I.pin p (List.mem_append_left _ z)) (h p), I.hok, I.len, I.tk⟩

theorem nodup_ix {N : List Str} (hN : N.Nodup) {i j : Nat} {x : Str} (a : N[i]? = some x) (b : N[j]? = some x) : i = j := by
  obtain ⟨h1, e1⟩ := List.getElem?_eq_some_iff.mp a
  obtain ⟨h2, e2⟩ := List.getElem?_eq_some_iff.mp b
  exact (List.getElem_inj hN).mp (e1.trans e2.symm)

/-- a name is stored; what changed -/
theorem store_ok2 {M : Model} {A : Around} {E : Value → Shared → Prop} {i : Nat} {x : Str} {v : V} {u : Value} {Q : Unit → Shared → Prop} (I : Inv X pins σ H s) (hN : X.N.Nodup) (hi : X.N[i]? = some x) (hx : Loc X.env.scope x) (r : RelV v u)
    (h : ∀ s', Inv X pins (σ.set i (some v)) H s' → (∃ a, Heap.SameBut a s.heap s'.heap ∧ (a = X.env.locals ∨ X.env.cells.lookup x = some a)) → Q () s') (hf : X.fn x = true ∨ X.env.scope.names.lookup x = some .local := by first | exact .inl rfl | exact .inr rfl | assumption) : wpAny M A (storeName X.env x u) Q E s := by
  obtain ⟨m, hn, hl⟩ := id I.loc
  have hcls : (X.env.scope.kind == .class || (X.env.scope.kind == .module && X.env.locals != X.env.globals)) = false := by rw [I.ok.kind]; rfl
  have hiσ : i < σ.length := by rw [I.len]; exact (List.getElem?_eq_some_iff.mp hi).1
  have cne := I.cne
  have tracked : ∀ {a : Addr} {h' : Heap}, (∃ o, s.heap.get? a = some o ∧ H a = none) → Heap.SameBut a s.heap h' → HOk X.prog X.w H h' := fun {a h'} ha hs b ob e => by
    obtain ⟨_, _, hfree⟩ := ha
    refine (I.hok b ob e).stay (fun c w' hc q => (hs.2 c ?_).trans q) (fun _ q => q) fun _ _ q => q
    rintro rfl
    rcases hc with rfl | hc
    · rw [hfree] at e; cases e
    · rw [hfree] at hc; cases hc
  rcases hx with hk | hk
  · refine wpAny_storeName_local hk hn (fun h' hn' hs => ?_) hcls
    obtain ⟨oL, _, _, hoL, _⟩ := id hn
    refine h _ ⟨I.ok, I.os, I.bare, ⟨fun b o e n hb hx => ?_, fun b o e n hb hx => ?_, I.base.free, fun b o e hx => ?_, I.base.tups, I.base.frzs, I.base.tbls⟩, ⟨_, hn', fun j y v' e1 e2 e3 => ?_⟩, fun y c e => ?_, I.free, I.freeC, fun p hp => ?_, tracked ⟨oL, hoL, I.free⟩ hs, by simpa using I.len, by first | exact I.tk | exact Nat.succ_pos _⟩ ⟨_, hs, .inl rfl⟩
    · exact (hs.2 b (Nat.ne_of_lt (Nat.lt_of_lt_of_le (Heap.lt_size e) I.ok.above))).trans (I.base.keep b o e n hb hx)
    · obtain ⟨sl, e1⟩ := I.base.slot b o e n hb hx
      exact ⟨sl, (hs.2 b (Nat.ne_of_lt (Nat.lt_of_lt_of_le (Heap.lt_size e) I.ok.above))).trans e1⟩
    · obtain ⟨o', e1⟩ := I.base.there b o e hx
      exact ⟨o', (hs.2 b (Nat.ne_of_lt (Nat.lt_of_lt_of_le (Heap.lt_size e) I.ok.above))).trans e1⟩
    · by_cases hj : j = i
      · subst hj
        rw [hi] at e1; cases e1
        rw [List.getElem?_set_self hiσ] at e2
        cases e2
        exact ⟨u, r, .inl ⟨hk, by simp⟩⟩
      · rw [List.getElem?_set_ne (Ne.symm hj)] at e2
        obtain ⟨u', r', q⟩ := hl j y v' e1 e2 e3
        refine ⟨u', r', ?_⟩
        rcases q with ⟨k, e⟩ | ⟨k, c, e, z⟩
        · refine .inl ⟨k, ?_⟩
          have : y ≠ x := fun e => hj (nodup_ix hN e1 (e ▸ hi))
          simp [this, e]
        · exact .inr ⟨k, c, e, z.sameBut hs (cne y c e)⟩
    · obtain ⟨w', z⟩ := I.cell y c e
      exact ⟨w', z.sameBut hs (cne y c e)⟩
    · obtain ⟨e, n, ne, nf, d⟩ := I.pin p hp
      exact ⟨(hs.2 p.1 ne).trans e, n, ne, nf, d⟩
  · have hfn : X.fn x = true := by
      rcases hf with z | z
      · exact z
      · rw [z] at hk; cases hk
    obtain ⟨c, hc⟩ := I.ok.has x (.inl hk)
    obtain ⟨w', z⟩ := I.cell x c hc
    refine wpAny_storeName_cell I.ok.kind hk hc z (fun h' hc' hs => ?_)
    obtain ⟨oc, hoc, hocd⟩ := id z
    refine h { s with heap := h' } ⟨I.ok, I.os, I.bare, ⟨fun b o e n hb hx => ?_, fun b o e n hb hx => ?_, I.base.free, fun b o e hx => ?_, I.base.tups, I.base.frzs, I.base.tbls⟩, ⟨m, hn.sameBut hs (Ne.symm (cne x c hc)), fun j y v' e1 e2 e3 => ?_⟩, fun y c' e => ?_, I.free, I.freeC, fun p hp => ?_, tracked ⟨oc, hoc, I.freeC x c hc⟩ hs, by simpa using I.len, by first | exact I.tk | exact Nat.succ_pos _⟩ ⟨c, hs, .inr hc⟩
    · exact (hs.2 b (Nat.ne_of_lt (Nat.lt_of_lt_of_le (Heap.lt_size e) (I.ok.cab x c hfn hc)))).trans (I.base.keep b o e n hb hx)
    · obtain ⟨sl, e1⟩ := I.base.slot b o e n hb hx
      exact ⟨sl, (hs.2 b (Nat.ne_of_lt (Nat.lt_of_lt_of_le (Heap.lt_size e) (I.ok.cab x c hfn hc)))).trans e1⟩
    · obtain ⟨o', e1⟩ := I.base.there b o e hx
      exact ⟨o', (hs.2 b (Nat.ne_of_lt (Nat.lt_of_lt_of_le (Heap.lt_size e) (I.ok.cab x c hfn hc)))).trans e1⟩
    · by_cases hj : j = i
      · subst hj
        rw [hi] at e1; cases e1
        rw [List.getElem?_set_self hiσ] at e2
        cases e2
        exact ⟨u, r, .inr ⟨.inl hk, c, hc, hc'⟩⟩
      · rw [List.getElem?_set_ne (Ne.symm hj)] at e2
        obtain ⟨u', r', q⟩ := hl j y v' e1 e2 e3
        refine ⟨u', r', ?_⟩
        rcases q with q | ⟨k, c', e, z'⟩
        · exact .inl q
        · refine .inr ⟨k, c', e, z'.sameBut hs ?_⟩
          rintro rfl
          exact hj (nodup_ix hN e1 (I.ok.inj _ _ _ e hc ▸ hi))
    · by_cases hcc : c' = c
      · subst hcc; exact ⟨_, hc'⟩
      · obtain ⟨w2, z2⟩ := I.cell y c' e
        exact ⟨w2, z2.sameBut hs hcc⟩
    · obtain ⟨e, n, ne, nf, d⟩ := I.pin p hp
      refine ⟨(hs.2 p.1 ?_).trans e, n, ne, nf, d⟩
      intro q
      rw [q, hoc] at e
      have q' : oc = p.2 := Option.some.inj e
      exact d w' (by rw [← q']; exact hocd)
theorem store_ok {M : Model} {A : Around} {E : Value → Shared → Prop} {i : Nat} {x : Str} {v : V} {u : Value} {Q : Unit → Shared → Prop} (I : Inv X pins σ H s) (hN : X.N.Nodup) (hi : X.N[i]? = some x) (hx : Loc X.env.scope x) (r : RelV v u)
    (h : ∀ s', Inv X pins (σ.set i (some v)) H s' → Q () s') (hf : X.fn x = true ∨ X.env.scope.names.lookup x = some .local := by first | exact .inl rfl | exact .inr rfl | assumption) : wpAny M A (storeName X.env x u) Q E s :=
  store_ok2 I hN hi hx r (fun s' I' _ => h s' I') hf
/-- behind a call or a block, the state as it is -/
theorem Inv.call' {s' : Shared} {ch : List Addr} (I : Inv X pins σ H s) (ho : s'.os = s.os) (u : Un (frs X.stack) ch H H' s.heap s'.heap) (hok : HOk X.prog X.w H' s'.heap) (hg : AllBare s'.gens)
    (hch : ∀ b ∈ ch, (b ∈ X.ex ∨ X.s₀.heap.objs.size ≤ b) ∧ b ≠ X.env.locals ∧ (∀ x c, X.env.cells.lookup x = some c → c ≠ b) ∧ ∀ p ∈ X.pn ++ pins, p.1 ≠ b) (ht : 0 < s'.toks := by ((try dsimp only); first | assumption | exact Inv.tk (by assumption) | exact Nat.succ_pos _ | exact Nat.lt_of_lt_of_le (Inv.tk (by assumption)) (by assumption) | exact Nat.add_pos_left (Inv.tk (by assumption)) _ | omega)) : Inv X pins σ H' s' := by
  obtain ⟨h', g', d', t', o'⟩ := s'
  have e : o' = s.os := ho
  subst e
  exact I.call (g' := g') (t' := t') (d' := d') u hok hg hch
end

/-! ### the judgements -/
/-- an exception: its class, its own dict's address (where it has one), the abstract heap behind it -/
abbrev XK := Value → Option Addr → Hp → Prop
abbrev St := List (Option V)
abbrev VK := V → Hp → Prop
/-- an expression's reading; a test's; an argument list's -/
abbrev TE := St → Hp → VK → Prop
abbrev TT := St → Hp → (Bool → Hp → Prop) → Prop
abbrev TA := St → Hp → (List V → Hp → Prop) → Prop
/-- what is wanted behind a statement -/
structure Ends where
  nx : St → Hp → Prop
  rt : VK
  bk : St → Hp → Prop := fun _ _ => False
  ct : St → Hp → Prop := fun _ _ => False
abbrev TS := Ends → St → Hp → Prop

def EP (X : Cx) (pins : List (Addr × Obj)) (σ : St) (Q : VK) (u : Value) (s' : Shared) : Prop := ∃ v H', Inv X pins σ H' s' ∧ RelV v u ∧ Q v H'
def TP (X : Cx) (pins : List (Addr × Obj)) (σ : St) (Q : Bool → Hp → Prop) (b : Bool) (s' : Shared) : Prop := ∃ H', Inv X pins σ H' s' ∧ Q b H'
def AP (X : Cx) (pins : List (Addr × Obj)) (σ : St) (Q : List V → Hp → Prop) (us : List Value) (s' : Shared) : Prop := ∃ vs H', Inv X pins σ H' s' ∧ Vals vs us ∧ Q vs H'
def SP (X : Cx) (pins : List (Addr × Obj)) (D : Ends) (f : Flow) (s' : Shared) : Prop :=
  match f with
  | .next => ∃ σ' H', Inv X pins σ' H' s' ∧ D.nx σ' H'
  | .brk => ∃ σ' H', Inv X pins σ' H' s' ∧ D.bk σ' H'
  | .cont => ∃ σ' H', Inv X pins σ' H' s' ∧ D.ct σ' H'
  | .ret u => ∃ v σ' H', Inv X pins σ' H' s' ∧ RelV v u ∧ D.rt v H'

def PE (X : Cx) (e : Expr) (t : TE) : Prop :=
  ∀ (pins : List (Addr × Obj)) (s : Shared) (σ : St) (H : Hp) (Q : VK), Inv X pins σ H s → t σ H Q → wpAny (model X.prog X.w) X.A (eval e X.env) (EP X pins σ Q) X.xe s
def PT (X : Cx) (e : Expr) (t : TT) : Prop :=
  ∀ (pins : List (Addr × Obj)) (s : Shared) (σ : St) (H : Hp) (Q : Bool → Hp → Prop), Inv X pins σ H s → t σ H Q → wpAny (model X.prog X.w) X.A (isTrue e X.env (eval e X.env)) (TP X pins σ Q) X.xe s
/-- a test whatever its 'whole' is (and, or) -/
def PW (X : Cx) (e : Expr) (t : TT) : Prop :=
  ∀ (whole : Sem Value) (pins : List (Addr × Obj)) (s : Shared) (σ : St) (H : Hp) (Q : Bool → Hp → Prop), Inv X pins σ H s → t σ H Q → wpAny (model X.prog X.w) X.A (isTrue e X.env whole) (TP X pins σ Q) X.xe s
theorem PW.pt {X : Cx} {e : Expr} {t : TT} (h : PW X e t) : PT X e t := h _
/-- an argument list (no star), from the left -/
def PA (X : Cx) (es : List Expr) (t : TA) : Prop :=
  ∀ (pos : Pos) (pins : List (Addr × Obj)) (s : Shared) (σ : St) (H : Hp) (Q : List V → Hp → Prop), Inv X pins σ H s → t σ H Q → wpAny (model X.prog X.w) X.A (spliced (backTo pos (starEach es X.env))) (AP X pins σ Q) X.xe s
def PS (X : Cx) (st : Stmt) (t : TS) : Prop :=
  ∀ (pins : List (Addr × Obj)) (s : Shared) (σ : St) (H : Hp) (D : Ends), Inv X pins σ H s → t D σ H → wpAny (model X.prog X.w) X.A (exec st X.env) (SP X pins D) X.xe s
def PSs (X : Cx) (st : List Stmt) (t : TS) : Prop :=
  ∀ (pins : List (Addr × Obj)) (s : Shared) (σ : St) (H : Hp) (D : Ends), Inv X pins σ H s → t D σ H → wpAny (model X.prog X.w) X.A (execs st X.env) (SP X pins D) X.xe s
/-- weaken the end -/
theorem thn {α : Type} {t : Sem α} {Q Q' : α → Shared → Prop} {M : Model} {A : Around} {E : Value → Shared → Prop} {s : Shared} (h : wpAny M A t Q E s) (hQ : ∀ a s, Q a s → Q' a s) : wpAny M A t Q' E s := wpAny_mono h hQ fun _ _ x => x
end L2

namespace L2
open PySem PySem.Spec PyProof.Rows
section
variable {X : Cx}

/-- two expressions in a row -/
theorem bin {a b : Expr} {ta tb : TE} (ha : PE X a ta) (hb : PE X b tb) {pins : List (Addr × Obj)} {s : Shared} {σ : St} {H : Hp} {R : V → V → Hp → Prop} (I : Inv X pins σ H s) (h : ta σ H fun x H1 => tb σ H1 fun y H2 => R x y H2)
    {α : Type} {Q : α → Shared → Prop} {f : Value → Value → Sem α}
    (hf : ∀ v u s2 x y H2, Inv X pins σ H2 s2 → RelV x v → RelV y u → R x y H2 → wpAny (model X.prog X.w) X.A (f v u) Q X.xe s2) :
    wpAny (model X.prog X.w) X.A (eval a X.env) (fun v s₁ => wpAny (model X.prog X.w) X.A (eval b X.env) (fun u s₂ => wpAny (model X.prog X.w) X.A (f v u) Q X.xe s₂) X.xe s₁) X.xe s := by
  refine thn (ha pins s σ H _ I h) fun v s1 ⟨x, H1, I1, r1, q1⟩ => ?_
  refine thn (hb pins s1 σ H1 _ I1 q1) fun u s2 ⟨y, H2, I2, r2, q2⟩ => ?_
  exact hf v u s2 x y H2 I2 r1 r2 q2

/-! ### names and constants -/
def tVar (i : Nat) : TE := fun σ H Q => ∃ v, σ[i]? = some (some v) ∧ Q v H
def tC (v : V) : TE := fun _ H Q => Q v H
theorem pe_var {i : Nat} {x : Str} {pos : Pos} (hN : X.N[i]? = some x) (hv : Vis X.env.scope x) (hd : (x == ("__debug__" : Str)) = false := by decide) (hcd : (x == ("__classdict__" : Str)) = false := by decide) : PE X (.Name x pos) (tVar i) := by
  intro pins s σ H Q I h
  obtain ⟨v, e, h⟩ := h
  obtain ⟨m, hn, hl⟩ := I.loc
  obtain ⟨u, r, l⟩ := hl i x v hN e hv
  have fin : EP X pins σ Q u s := ⟨v, H, I, r, h⟩
  rcases l with ⟨hk, hm⟩ | ⟨hk, c, hc, hcell⟩
  · exact wpAny_Name (wpAny_loadName_local I.ok.kind hk hn hm fin) hd
  · rcases hk with hk | hk
    · exact wpAny_Name (wpAny_loadName_cell I.ok.kind hk hc hcell fin) hd
    · exact wpAny_Name (wpAny_loadName_free I.ok.kind hk hc hcell fin hcd) hd
theorem pe_int {i j pos} : PE X (.Constant (.int i) j pos) (tC (.int i)) := fun _ _ _ H _ I h => wpAny_Constant_int ⟨.int i, H, I.tok _, ⟨_, rfl⟩, h⟩
theorem pe_bl {b j pos} : PE X (.Constant (.bool b) j pos) (tC (.bl b)) := fun _ _ _ H _ I h => Constant_bool ⟨.bl b, H, I, rfl, h⟩
theorem pe_non {j pos} : PE X (.Constant .none j pos) (tC .non) := fun _ _ _ H _ I h => Constant_none ⟨.non, H, I, rfl, h⟩
theorem pe_str {x j pos} : PE X (.Constant (.str x) j pos) (tC (.str x)) := fun _ _ _ H _ I h => Calls.Constant_str ⟨.str x, H, I.tok _, ⟨_, rfl⟩, h⟩

/-- a global name of the def -/
def Gl (X : Cx) (x : Str) : Prop := X.env.kindOf x = some .globalImplicit
theorem ld_glob {E : Value → Shared → Prop} {pins : List (Addr × Obj)} {s : Shared} {σ : St} {H : Hp} {x : Str} {u : Value} {pos : Pos} {Q : Value → Shared → Prop} (I : Inv X pins σ H s) (hg : Gl X x) (hm : X.mg x = some u) (h : Q u s)
    (hd : (x == ("__debug__" : Str)) = false := by decide) : wpAny (model X.prog X.w) X.A (eval (.Name x pos) X.env) Q E s :=
  Calls.Name_function_global I.ok.kind hg (Calls.loadGlobal_global (by rw [I.ok.glob]; exact I.mod.glob.keeps I.bk) hm h) hd
theorem ld_blt {E : Value → Shared → Prop} {pins : List (Addr × Obj)} {s : Shared} {σ : St} {H : Hp} {x : Str} {u : Value} {pos : Pos} {Q : Value → Shared → Prop} (I : Inv X pins σ H s) (hg : Gl X x) (hm : X.mg x = none) (hv : bootBuiltins x = some u) (h : Q u s)
    (hn : x ≠ "__name__" := by decide) (hd : (x == ("__debug__" : Str)) = false := by decide) : wpAny (model X.prog X.w) X.A (eval (.Name x pos) X.env) Q E s := by
  obtain ⟨mb, h1, h2⟩ := I.mod.blt
  exact Calls.Name_function_global I.ok.kind hg (Calls.loadGlobal_builtin (by rw [I.ok.glob]; exact I.mod.glob.keeps I.bk) hm (by rw [I.ok.blt]; exact h1.keeps I.bk) ((h2 x hn).trans hv) h) hd
/-- a module's constant, a class, a function, as a value -/
theorem pe_glob {x : Str} {v : V} {u : Value} {pos : Pos} (hg : Gl X x) (hm : X.mg x = some u) (r : RelV v u) (hd : (x == ("__debug__" : Str)) = false := by decide) : PE X (.Name x pos) (tC v) :=
  fun _ _ _ H _ I h => ld_glob I hg hm ⟨v, H, I, r, h⟩ hd
theorem pe_bltn {x : Str} {v : V} {u : Value} {pos : Pos} (hg : Gl X x) (hm : X.mg x = none) (hv : bootBuiltins x = some u) (r : RelV v u) (hn : x ≠ "__name__" := by decide) (hd : (x == ("__debug__" : Str)) = false := by decide) : PE X (.Name x pos) (tC v) :=
  fun _ _ _ H _ I h => ld_blt I hg hm hv ⟨v, H, I, r, h⟩ hn hd

/-! ### arithmetic -/
variable {a b : Expr} {ta tb : TE} {pos : Pos}
/-! ### comparisons -/
def PC (X : Cx) (op : CmpOp) (a b : Expr) (t : TE) : Prop :=
  ∀ (pins : List (Addr × Obj)) (s : Shared) (σ : St) (H : Hp) (Q : VK), Inv X pins σ H s → t σ H Q →
    wpAny (model X.prog X.w) X.A (eval a X.env) (fun v s₁ => wpAny (model X.prog X.w) X.A (eval b X.env) (fun u s₂ => wpAny (model X.prog X.w) X.A (compareOp op v u) (EP X pins σ Q) X.xe s₂) X.xe s₁) X.xe s
/-- a comparison as a value, as a test -/
def tB (t : TE) : TT := fun σ H Q => t σ H fun x H1 => ∃ c, x = .bl c ∧ Q c H1
theorem pe_cmp {op : CmpOp} {t : TE} (h : PC X op a b t) (h1 : behindInMarks op b = false := by first | exact nobehind _ (by decide) (by decide) | rfl) : PE X (.Compare a [op] [b] pos) t := fun pins s σ H Q I hw => wpAny_Compare1 (h pins s σ H Q I hw) h1
theorem pt_cmp {op : CmpOp} {t : TE} (h : PC X op a b t) (h1 : behindInMarks op b = false := by first | exact nobehind _ (by decide) (by decide) | rfl) : PT X (.Compare a [op] [b] pos) (tB t) := by
  intro pins s σ H Q I hw
  refine wpAny_isTrue_Compare1 (thn (h pins s σ H _ I hw) fun v s1 h1 => thn h1 fun u s2 h2 => thn h2 fun c s3 ⟨x, H1, I1, r1, q1⟩ => ?_) h1
  obtain ⟨d, rfl, q⟩ := q1
  cases r1
  exact wpAny_truthy_bool ⟨H1, I1, q⟩
/-- an expression whose value is a bool, as a test -/
theorem pt_val {e : Expr} {t : TE} (h : PE X e t) (he : ∀ whole, isTrue e X.env whole = (do let v ← whole; standAt e.pos; holding [v] (truthy v)) := by intro _; rfl) : PT X e (tB t) := by
  intro pins s σ H Q I hw
  refine isTrue_plain (thn (h pins s σ H _ I hw) fun v s1 ⟨x, H1, I1, r1, q1⟩ => ?_) (he _)
  obtain ⟨d, rfl, q⟩ := q1
  cases r1
  exact wpAny_truthy_bool ⟨H1, I1, q⟩

/-! ### and, or, not -/
variable {tA tB' : TT} {rest : List Expr}
def tAnd (t u : TT) : TT := fun σ H Q => t σ H fun c H1 => if c = true then u σ H1 Q else Q false H1
def tOr (t u : TT) : TT := fun σ H Q => t σ H fun c H1 => if c = true then Q true H1 else u σ H1 Q
def tNot (t : TT) : TT := fun σ H Q => t σ H fun c H1 => Q (!c) H1
theorem pw_and1 (ha : PT X a tA) : PW X (.BoolOp .And [a] pos) tA := by
  intro wh pins s σ H Q I h
  refine isTrue_and (thn (ha pins s σ H Q I h) fun c s1 e => ?_)
  cases c with
  | true => exact isTrue_and_nil e
  | false => exact e
theorem pw_or1 (ha : PT X a tA) : PW X (.BoolOp .Or [a] pos) tA := by
  intro wh pins s σ H Q I h
  refine isTrue_or (thn (ha pins s σ H Q I h) fun c s1 e => ?_)
  cases c with
  | false => exact isTrue_or_nil e
  | true => exact e
theorem pw_and (ha : PT X a tA) (hb : PW X (.BoolOp .And (b :: rest) pos) tB') : PW X (.BoolOp .And (a :: b :: rest) pos) (tAnd tA tB') := by
  intro wh pins s σ H Q I h
  refine isTrue_and (thn (ha pins s σ H _ I h) fun c s1 ⟨H1, I1, q1⟩ => ?_)
  cases c with
  | true => exact hb wh pins s1 σ H1 Q I1 q1
  | false => exact ⟨H1, I1, q1⟩
theorem pw_or (ha : PT X a tA) (hb : PW X (.BoolOp .Or (b :: rest) pos) tB') : PW X (.BoolOp .Or (a :: b :: rest) pos) (tOr tA tB') := by
  intro wh pins s σ H Q I h
  refine isTrue_or (thn (ha pins s σ H _ I h) fun c s1 ⟨H1, I1, q1⟩ => ?_)
  cases c with
  | true => exact ⟨H1, I1, q1⟩
  | false => exact hb wh pins s1 σ H1 Q I1 q1
theorem pt_not (ha : PT X a tA) : PT X (.UnaryOp .Not a pos) (tNot tA) := by
  intro pins s σ H Q I h
  exact isTrue_not (ha pins s σ H (fun c H1 => Q (!c) H1) I h)
/-- .. as values (bools) -/
def tAndV (ta tb : TE) : TE := fun σ H Q => ta σ H fun x H1 => ∃ c, x = .bl c ∧ if c = true then tb σ H1 Q else Q (.bl false) H1
theorem pe_one {op} {t : TE} (h : PE X a t) : PE X (.BoolOp op [a] pos) t := fun pins s σ H Q I hw => BoolOp_one (h pins s σ H Q I hw)
theorem pe_and (ha : PE X a ta) (hb : PE X (.BoolOp .And (b :: rest) pos) tb) : PE X (.BoolOp .And (a :: b :: rest) pos) (tAndV ta tb) := by
  intro pins s σ H Q I h
  refine BoolOp_and (thn (ha pins s σ H _ I h) fun v s1 ⟨x, H1, I1, r1, q1⟩ => ?_)
  obtain ⟨c, rfl, q1⟩ := q1
  cases r1
  refine wpAny_truthy_bool ?_
  cases c with
  | true => exact hb pins s1 σ H1 Q I1 q1
  | false => exact ⟨.bl false, H1, I1, rfl, q1⟩
end
end L2

namespace L2
open PySem PySem.Spec PyProof.Rows

/-! ### a list, a tuple that is read: tracked, frozen, or an object of the module -/
def SqL (K : PySem.W.Frag) (H : Hp) (a : Addr) (xs : List V) : Prop :=
  Rd H a (.lst xs) ∨
    ∃ (o : Obj) (its : Array Value) (n : Nat), K.lookup a = some o ∧ o.cls = .type "list" ∧ o.dict = none ∧ o.data = .seq its n ∧ its.size ≤ sizeLine ∧ Vals xs its.toList
def SqT (K : PySem.W.Frag) (H : Hp) (a : Addr) (xs : List V) : Prop :=
  Rd H a (.tup xs) ∨
    ∃ (o : Obj) (its : Array Value) (n : Nat), K.lookup a = some o ∧ o.cls = .type "tuple" ∧ o.data = .seq its n ∧ its.size ≤ sizeLine ∧ Vals xs its.toList
def absV : Value → Option V
  | .none => some .non
  | .bool b => some (.bl b)
  | .int i _ => some (.int i)
  | .str x _ => some (.str x)
  | .bytes b _ => some (.byt b)
  | .float b _ => some (.flt b)
  | .ref a => some (.ref a)
  | .type n => some (.ty n)
  | _ => none
theorem RelV.abs {x : V} {u : Value} (r : RelV x u) : absV u = some x := by
  cases x with
  | non => cases r; rfl
  | bl _ => cases r; rfl
  | int _ => obtain ⟨t, rfl⟩ := r; rfl
  | str _ => obtain ⟨t, rfl⟩ := r; rfl
  | byt _ => obtain ⟨t, rfl⟩ := r; rfl
  | flt _ => obtain ⟨t, rfl⟩ := r; rfl
  | ref _ => cases r; rfl
  | ty _ => cases r; rfl
theorem RelV.inj {x y : V} {u : Value} (r : RelV x u) (q : RelV y u) : x = y := Option.some.inj (r.abs.symm.trans q.abs)
theorem Vals.inj : ∀ {xs ys : List V} {us : List Value}, Vals xs us → Vals ys us → xs = ys
  | _, _, _, .nil, .nil => rfl
  | _, _, _, .cons r t, .cons r' t' => by rw [r.inj r', Vals.inj t t']
section
variable {X : Cx} {pins : List (Addr × Obj)} {σ : St} {H : Hp} {s : Shared} {a : Addr} {xs ys : List V}
theorem SqL.of {K : PySem.W.Frag} (h : H a = some (.lst xs)) : SqL K H a xs := .inl (.inl h)
theorem SqT.of {K : PySem.W.Frag} (h : H a = some (.tup xs)) : SqT K H a xs := .inl (.inl h)
theorem Inv.list (I : Inv X pins σ H s) (h : SqL X.K H a xs) : ∃ its : List Value, Vals xs its ∧ PlainL s.heap a its.toArray ∧ xs.length ≤ sizeLine := by
  rcases h with h | ⟨o, its, n, hk, hc, hd, hs, hz, r⟩
  · obtain ⟨z, its, n, r, e⟩ := h.ok I.hok
    exact ⟨its, r, ⟨_, n, e, rfl, rfl, rfl⟩, z⟩
  · refine ⟨its.toList, r, ⟨o, n, I.kIn a o hk, hc, hd, by simpa using hs⟩, ?_⟩
    have e := r.length
    simp only [Array.length_toList] at e
    omega
theorem Inv.tuple (I : Inv X pins σ H s) (h : SqT X.K H a xs) : ∃ its : List Value, Vals xs its ∧ IsTup s.heap a its.toArray ∧ xs.length ≤ sizeLine := by
  rcases h with h | ⟨o, its, n, hk, hc, hs, hz, r⟩
  · obtain ⟨z, its, r, p⟩ := h.ok I.hok
    exact ⟨its, r, p, z⟩
  · refine ⟨its.toList, r, ⟨o, I.kIn a o hk, hc, n, by simpa using hs⟩, ?_⟩
    have e := r.length
    simp only [Array.length_toList] at e
    omega
theorem Inv.list_inj (I : Inv X pins σ H s) (h : SqL X.K H a xs) (h' : SqL X.K H a ys) : xs = ys := by
  obtain ⟨its, r, ⟨o, n, e, _, _, d⟩, _⟩ := I.list h
  obtain ⟨its', r', ⟨o', n', e', _, _, d'⟩, _⟩ := I.list h'
  rw [e] at e'; cases e'
  rw [d] at d'
  injection d' with d1 _
  have : its = its' := by simpa using congrArg Array.toList d1
  subst this
  exact r.inj r'
theorem Inv.tuple_inj (I : Inv X pins σ H s) (h : SqT X.K H a xs) (h' : SqT X.K H a ys) : xs = ys := by
  obtain ⟨its, r, ⟨o, e, _, n, d⟩, _⟩ := I.tuple h
  obtain ⟨its', r', ⟨o', e', _, n', d'⟩, _⟩ := I.tuple h'
  rw [e] at e'; cases e'
  rw [d] at d'
  injection d' with d1 _
  have : its = its' := by simpa using congrArg Array.toList d1
  subst this
  exact r.inj r'
end

/-! ### another wish about exceptions -/
abbrev Cx.wish (X : Cx) (E : Value → Shared → Prop) : Cx := { X with xe := E }
/-- no exception leaves -/
abbrev Cx.nox (X : Cx) : Cx := X.wish fun _ _ => False
theorem Cx.Ok.wish {X : Cx} (ok : X.Ok) (E : Value → Shared → Prop) : (X.wish E).Ok :=
  ⟨ok.mod, ok.kind, ok.glob, ok.blt, ok.above, ok.inj, ok.has, ok.cab, ok.hd, ok.frames, ok.stk, ok.exf, ok.bs, ok.bsz, ok.noex, ok.exfs, ok.funs, ok.frf⟩
theorem Cx.Ok.unwish {X : Cx} {E : Value → Shared → Prop} (ok : (X.wish E).Ok) : X.Ok :=
  ⟨ok.mod, ok.kind, ok.glob, ok.blt, ok.above, ok.inj, ok.has, ok.cab, ok.hd, ok.frames, ok.stk, ok.exf, ok.bs, ok.bsz, ok.noex, ok.exfs, ok.funs, ok.frf⟩
section
variable {X : Cx} {pins : List (Addr × Obj)} {σ : St} {H : Hp} {s : Shared} {E : Value → Shared → Prop}
theorem Inv.wish (I : Inv X pins σ H s) (E : Value → Shared → Prop) : Inv (X.wish E) pins σ H s := ⟨I.ok.wish E, I.os, I.bare, I.base, I.loc, I.cell, I.free, I.freeC, I.pin, I.hok, I.len, I.tk⟩
theorem Inv.unwish (I : Inv (X.wish E) pins σ H s) : Inv X pins σ H s := ⟨I.ok.unwish, I.os, I.bare, I.base, I.loc, I.cell, I.free, I.freeC, I.pin, I.hok, I.len, I.tk⟩
theorem SP.unwish {D : Ends} {f : Flow} {s' : Shared} (h : SP (X.wish E) pins D f s') : SP X pins D f s' := by
  cases f with
  | next => obtain ⟨σ', H', I, q⟩ := h; exact ⟨σ', H', I.unwish, q⟩
  | brk => obtain ⟨σ', H', I, q⟩ := h; exact ⟨σ', H', I.unwish, q⟩
  | cont => obtain ⟨σ', H', I, q⟩ := h; exact ⟨σ', H', I.unwish, q⟩
  | ret u => obtain ⟨v, σ', H', I, r, q⟩ := h; exact ⟨v, σ', H', I.unwish, r, q⟩
theorem PSs.nox {st : List Stmt} {t : TS} (h : PSs X.nox st t) : PSs X st t := fun pins s σ H D I hw =>
  wpAny_mono (h pins s σ H D (I.wish _) hw) (fun _ _ q => q.unwish) fun _ _ z => False.elim z
end

/-! ### blocks and small statements -/
section
variable {X : Cx} {st : Stmt} {rest : List Stmt} {t u : TS} {e : Expr} {te : TE} {pos : Pos}
def tNext : TS := fun D σ H => D.nx σ H
def tSeq (t u : TS) : TS := fun D σ H => t { D with nx := u D } σ H
theorem pss_nil : PSs X [] tNext := fun _ _ σ H _ I h => wpAny_execs_nil ⟨σ, H, I, h⟩
theorem pss_cons (h1 : PS X st t) (h2 : PSs X rest u) : PSs X (st :: rest) (tSeq t u) := by
  intro pins s σ H D I h
  refine wpAny_execs_cons (thn (h1 pins s σ H { D with nx := u D } I h) fun f s1 q => ?_)
  cases f with
  | next =>
    obtain ⟨σ', H', I', q⟩ := q
    exact h2 pins s1 σ' H' D I' q
  | ret v => exact q
  | brk => exact q
  | cont => exact q
theorem pss_one (h1 : PS X st t) : PSs X [st] t := by
  intro pins s σ H D I h
  refine wpAny_execs_cons (thn (h1 pins s σ H D I h) fun f s1 q => ?_)
  cases f with
  | next => exact wpAny_execs_nil q
  | ret v => exact q
  | brk => exact q
  | cont => exact q
/-- in a def's body nothing is shown -/
theorem Inv.quiet {pins : List (Addr × Obj)} {σ : St} {H : Hp} {s : Shared} (I : Inv X pins σ H s) : interactive X.env = false := by simp [interactive, I.ok.kind]
/-- an expression whose value is dropped -/
def tDrop (te : TE) : TS := fun D σ H => te σ H fun _ H1 => D.nx σ H1
theorem ps_expr (he : PE X e te) (hs : swapsWith e none pos.line X.env = pure false := by rfl) : PS X (.Expr e pos) (tDrop te) := by
  intro pins s σ H D I h
  exact wpAny_Expr_any (thn (he pins s σ H _ I h) fun v s1 ⟨x, H1, I1, r1, q1⟩ => ⟨σ, H1, I1, q1⟩) I.quiet hs
def tRet (te : TE) : TS := fun D σ H => te σ H D.rt
theorem ps_ret (he : PE X e te) : PS X (.Return (some e) pos) (tRet te) := by
  intro pins s σ H D I h
  exact wpAny_Return_some (thn (he pins s σ H _ I h) fun v s1 ⟨x, H1, I1, r1, q1⟩ => ⟨x, σ, H1, I1, r1, q1⟩)
def tIfS (c : TT) (t u : TS) : TS := fun D σ H => c σ H fun b H1 => if b = true then t D σ H1 else u D σ H1
theorem ps_if {c : Expr} {a b : List Stmt} {tc : TT} (hc : PT X c tc) (ha : PSs X a t) (hb : PSs X b u) : PS X (.If c a b pos) (tIfS tc t u) := by
  intro pins s σ H D I h
  refine wpAny_If (thn (hc pins s σ H _ I h) fun d s1 ⟨H1, I1, q1⟩ => ?_)
  cases d with
  | true => exact ha pins s1 σ H1 D I1 q1
  | false => exact hb pins s1 σ H1 D I1 q1
end

/-! ### targets -/
abbrev TG := V → St → Hp → (St → Hp → Prop) → Prop
abbrev TGs := List V → St → Hp → (St → Hp → Prop) → Prop
def PG (X : Cx) (target : Expr) (t : TG) : Prop :=
  ∀ (pins : List (Addr × Obj)) (s : Shared) (σ : St) (H : Hp) (v : V) (u : Value) (Q : St → Hp → Prop), Inv X pins σ H s → RelV v u → t v σ H Q →
    wpAny (model X.prog X.w) X.A (assign target X.env u) (fun _ s' => ∃ σ' H', Inv X pins σ' H' s' ∧ Q σ' H') X.xe s
/-- several targets, one after another -/
def PGs (X : Cx) (ts : List Expr) (t : TGs) : Prop :=
  ∀ (pins : List (Addr × Obj)) (s : Shared) (σ : St) (H : Hp) (vs : List V) (us : List Value) (Q : St → Hp → Prop), Inv X pins σ H s → Vals vs us → t vs σ H Q →
    wpAny (model X.prog X.w) X.A (assignInOrder ((assignEach ts X.env).map (·.2)) us) (fun _ s' => ∃ σ' H', Inv X pins σ' H' s' ∧ Q σ' H') X.xe s
/-- o[i] = v, by values -/
abbrev TSet := V → V → V → Hp → (Hp → Prop) → Prop
def PSet (X : Cx) (t : TSet) : Prop :=
  ∀ (pins : List (Addr × Obj)) (s : Shared) (σ : St) (H : Hp) (o i v : V) (ov iv u : Value) (Q : Hp → Prop), Inv X pins σ H s → RelV o ov → RelV i iv → RelV v u → t o i v H Q →
    wpAny (model X.prog X.w) X.A (setItem ov iv u) (fun _ s' => ∃ H', Inv X pins σ H' s' ∧ Q H') X.xe s
/-- a op= b, by values -/
abbrev TIp := V → V → Hp → VK → Prop
def PIp (X : Cx) (op : Operator) (t : TIp) : Prop :=
  ∀ (pins : List (Addr × Obj)) (s : Shared) (σ : St) (H : Hp) (x y : V) (v u : Value) (Q : VK), Inv X pins σ H s → RelV x v → RelV y u → t x y H Q →
    wpAny (model X.prog X.w) X.A (inplaceOp op v u) (EP X pins σ Q) X.xe s
section
variable {X : Cx} {pos : Pos}
def gName (i : Nat) : TG := fun v σ H Q => Q (σ.set i (some v)) H
theorem pg_name {i : Nat} {x : Str} (hN : X.N.Nodup) (hi : X.N[i]? = some x) (hx : Loc X.env.scope x) (hf : X.fn x = true ∨ X.env.scope.names.lookup x = some .local := by first | exact .inl rfl | exact .inr rfl | assumption) : PG X (.Name x pos) (gName i) := by
  intro pins s σ H v u Q I r h
  exact wpAny_assign_Name (store_ok I hN hi hx r (fun s' I' => ⟨_, H, I', h⟩) hf)
def gNil : TGs := fun vs σ H Q => vs = [] ∧ Q σ H
def gCons (t : TG) (u : TGs) : TGs := fun vs σ H Q => ∃ v r, vs = v :: r ∧ t v σ H fun σ' H' => u r σ' H' Q
theorem pgs_nil : PGs X [] gNil := by
  intro pins s σ H vs us Q I r h
  obtain ⟨e, h⟩ := h
  subst e
  cases r
  exact assignInOrder_nil ⟨σ, H, I, h⟩
theorem pgs_cons {e : Expr} {es : List Expr} {t : TG} {u : TGs} (h1 : PG X e t) (h2 : PGs X es u)
    (hs : (assignEach (e :: es) X.env).map (·.2) = assign e X.env :: (assignEach es X.env).map (·.2) := by rfl) : PGs X (e :: es) (gCons t u) := by
  intro pins s σ H vs us Q I r h
  obtain ⟨v, vr, e1, h⟩ := h
  subst e1
  cases r with
  | cons r rr =>
    rw [hs]
    refine assignInOrder_cons (thn (h1 pins s σ H _ _ _ I r h) fun _ s1 ⟨σ1, H1, I1, q1⟩ => ?_)
    exact h2 pins s1 σ1 H1 _ _ Q I1 rr q1
/-- (a, b, ..) = a tuple of that length -/
def gTup (K : PySem.W.Frag) (n : Nat) (t : TGs) : TG := fun v σ H Q => ∃ a xs, v = .ref a ∧ SqT K H a xs ∧ xs.length = n ∧ t xs σ H Q
theorem pg_tup {es : List Expr} {k : Nat} {t : TGs} {n : Nat} (hc : X.calm = true) (h : PGs X es t)
    (hn : (assignEach es X.env).length = n := by rfl) (hst : (assignEach es X.env).findIdx? (·.1) = none := by rfl) : PG X (.Tuple es k pos) (gTup X.K n t) := by
  intro pins s σ H v u Q I r hw
  obtain ⟨a, xs, e1, hq, hl, hw⟩ := hw
  subst e1
  cases r
  obtain ⟨its, rv, ht, hz⟩ := I.tuple hq
  refine assign_Tuple_tuple (I.ok.hd hc) ht (by simp [hn, ← hl, rv.length]) hst fun h' hx => ?_
  have I1 : Inv X pins σ H { s with heap := h' } := I.kept (t' := s.toks) fun b o e => hx b o (Nat.ne_of_lt (Heap.lt_size e)) e
  exact h pins _ σ H xs _ Q I1 (by simpa using rv) hw
/-- o[i] = .. -/
def gSub (to ti : TE) (t : TSet) : TG := fun v σ H Q => to σ H fun o H1 => ti σ H1 fun i H2 => t o i v H2 fun H3 => Q σ H3
theorem pg_sub {o i : Expr} {to ti : TE} {t : TSet} (ho : PE X o to) (hi : PE X i ti) (hs : PSet X t)
    (ha : ∀ v, assign (.Subscript o i pos) X.env v = (do
      let ov ← holding [v] (eval o X.env)
      let iv ← holding [v, ov] (eval i X.env)
      standAt pos
      holding [v, ov, iv] (setItem ov iv v)
      release [v, ov, iv] []) := by intro _; rfl) : PG X (.Subscript o i pos) (gSub to ti t) := by
  intro pins s σ H v u Q I r h
  rw [ha]
  refine wpAny_bind (wpAny_holding (thn (ho pins s σ H _ I h) fun ov s1 ⟨x, H1, I1, r1, q1⟩ => ?_))
  refine wpAny_bind (wpAny_holding (thn (hi pins s1 σ H1 _ I1 q1) fun iv s2 ⟨y, H2, I2, r2, q2⟩ => ?_))
  refine wpAny_bind (wpAny_standAt (wpAny_bind (wpAny_holding (thn (hs pins s2 σ H2 x y v ov iv u _ I2 r1 r2 r q2) fun _ s3 ⟨H3, I3, q3⟩ => ?_))))
  exact wpAny_release ⟨σ, H3, I3, q3⟩
/-- target = value -/
def tAsg (te : TE) (g : TG) : TS := fun D σ H => te σ H fun x H1 => g x σ H1 D.nx
theorem ps_asg {tg e : Expr} {te : TE} {g : TG} (he : PE X e te) (hg : PG X tg g) (hs : swapsWithSole [tg] e pos.line X.env = pure false := by rfl) (hw : swappedStores [tg] e X.env = pure none := by rfl)
    (h1 : (assignEach [tg] X.env).map (·.2) = [assign tg X.env] := by rfl) : PS X (.Assign [tg] e pos) (tAsg te g) := by
  intro pins s σ H D I h
  refine wpAny_Assign_stores (thn (he pins s σ H _ I h) fun v s1 ⟨x, H1, I1, r1, q1⟩ => ?_) hs hw
  rw [h1]
  exact thn (hg pins s1 σ H1 x v _ I1 r1 q1) fun _ s2 q => q
/-- name = value -/
theorem ps_set {i : Nat} {x : Str} {e : Expr} {te : TE} {pos' : Pos} (hN : X.N.Nodup) (hi : X.N[i]? = some x) (hx : Loc X.env.scope x) (he : PE X e te) (hs : swapsWith e (some (.Name x pos')) pos.line X.env = pure false := by rfl) (hf : X.fn x = true ∨ X.env.scope.names.lookup x = some .local := by first | exact .inl rfl | exact .inr rfl | assumption) :
    PS X (.Assign [.Name x pos'] e pos) (tAsg te (gName i)) := by
  intro pins s σ H D I h
  refine wpAny_Assign_Name (thn (he pins s σ H _ I h) fun v s1 ⟨y, H1, I1, r1, q1⟩ => ?_) hs
  exact store_ok I1 hN hi hx r1 (fun s2 I2 => ⟨_, H1, I2, q1⟩) hf
/-- name op= e -/
def tAug (i : Nat) (te : TE) (ti : TIp) : TS := fun D σ H => ∃ x, σ[i]? = some (some x) ∧ te σ H fun y H1 => ti x y H1 fun z H2 => D.nx (σ.set i (some z)) H2
theorem ps_aug {i : Nat} {x : Str} {e : Expr} {te : TE} {op : Operator} {ti : TIp} {pos' : Pos} (hN : X.N.Nodup) (hi : X.N[i]? = some x) (hx : Loc X.env.scope x) (he : PE X e te) (ho : PIp X op ti) (hf : X.fn x = true ∨ X.env.scope.names.lookup x = some .local := by first | exact .inl rfl | exact .inr rfl | assumption) :
    PS X (.AugAssign (.Name x pos') op e pos) (tAug i te ti) := by
  intro pins s σ H D I h
  obtain ⟨v, e1, h⟩ := h
  obtain ⟨m, hn, hl⟩ := I.loc
  have vis : Vis X.env.scope x := by rcases hx with k | k; exact .inl k; exact .inr (.inl k)
  obtain ⟨u, r, l⟩ := hl i x v hi e1 vis
  refine wpAny_AugAssign_Name ?_
  have go : wpAny (model X.prog X.w) X.A (eval e X.env) (fun w s₂ => wpAny (model X.prog X.w) X.A (inplaceOp op u w) (fun r s₃ => wpAny (model X.prog X.w) X.A (storeName X.env x r) (fun _ => SP X pins D .next) X.xe s₃) X.xe s₂) X.xe s := by
    refine thn (he pins s σ H _ I h) fun w s1 ⟨y, H1, I1, r1, q1⟩ => ?_
    refine thn (ho pins s1 σ H1 v y u w _ I1 r r1 q1) fun z s2 ⟨zv, H2, I2, r2, q2⟩ => ?_
    exact store_ok I2 hN hi hx r2 (fun s3 I3 => ⟨_, H2, I3, q2⟩) hf
  rcases l with ⟨hk, hm⟩ | ⟨hk, c, hc, hcell⟩
  · exact wpAny_loadName_local I.ok.kind hk hn hm go
  · rcases hk with hk | hk
    · exact wpAny_loadName_cell I.ok.kind hk hc hcell go
    · rcases hx with k | k
      · have : X.env.scope.names.lookup x = some .free := hk
        rw [k] at this; cases this
      · have : X.env.scope.names.lookup x = some .free := hk
        rw [k] at this; cases this
/-- ints -/
def ipI (f : Int → Int → Int) : TIp := fun x y H Q => ∃ i j, x = .int i ∧ y = .int j ∧ Q (.int (f i j)) H
theorem ip_add : PIp X .Add (ipI fun i j => i + j) := by
  intro pins s σ H x y v u Q I r1 r2 h
  obtain ⟨i, j, e1, e2, q⟩ := h
  subst e1; subst e2
  obtain ⟨t, rfl⟩ := r1
  obtain ⟨t', rfl⟩ := r2
  exact iadd_int ⟨.int _, H, I.tok _, ⟨_, rfl⟩, q⟩
end

/-! ### while -/
section
variable {X : Cx} {pos : Pos}
/-- the invariant W with its measure -/
def tWhile (c : TT) (tb : TS) : TS := fun D σ H => ∃ W : Nat → St → Hp → Prop, (∃ m, W m σ H) ∧ ∀ m σ H, W m σ H →
  c σ H fun b H1 => if b = true then ∃ N : St → Hp → Prop, (∀ σ' H', N σ' H' → ∃ m', m' < m ∧ W m' σ' H') ∧ tb { D with nx := N, ct := N, bk := D.nx } σ H1 else D.nx σ H1
theorem ps_while {c : Expr} {body : List Stmt} {tc : TT} {tb : TS} (hp : PassesOwn (model X.prog X.w) X.A X.env X.xe) (hc : PT X c tc) (hb : PSs X body tb) : PS X (.While c body [] pos) (tWhile tc tb) := by
  intro pins s σ H D I h
  obtain ⟨W, ⟨m0, w0⟩, turn⟩ := h
  refine wpAny_While (codeAny_whileLoop (fun n s' => ∃ σ' H', Inv X pins σ' H' s' ∧ W n σ' H') ?_ m0 ⟨σ, H, I, w0⟩)
  rintro n s1 ⟨σ1, H1, I1, w1⟩
  refine wpAny_passesOwn hp (thn (hc pins s1 σ1 H1 _ I1 (turn n σ1 H1 w1)) fun b s2 ⟨H2, I2, q2⟩ => ?_)
  cases b with
  | true =>
    obtain ⟨N, hN, q2⟩ := q2
    rw [if_pos rfl]
    refine wpAny_passesOwn hp (thn (hb pins s2 σ1 H2 _ I2 q2) fun f s3 q3 => ?_)
    cases f with
    | next =>
      obtain ⟨σ3, H3, I3, n3⟩ := q3
      obtain ⟨m', hm, w3⟩ := hN σ3 H3 n3
      exact ⟨m', hm, σ3, H3, I3, w3⟩
    | cont =>
      obtain ⟨σ3, H3, I3, n3⟩ := q3
      obtain ⟨m', hm, w3⟩ := hN σ3 H3 n3
      exact ⟨m', hm, σ3, H3, I3, w3⟩
    | brk => exact q3
    | ret v => exact q3
  | false =>
    rw [if_neg Bool.false_ne_true]
    exact wpAny_execs_nil ⟨σ1, H2, I2, q2⟩
end

/-! ### what a loop or a comprehension walks -/
/-- at turn i: it yields x (the heap may grow), or it stops -/
structure It where
  go : Nat → Hp → Prop
  yld : Nat → Hp → V → Hp → Prop
  stop : Nat → Hp → Prop
/-- the iterator's own objects may turn: they are not the frame's, not pinned, younger than the entry (or a comprehension's own) -/
def FpOk (X : Cx) (pins : List (Addr × Obj)) (H : Hp) (b : Addr) : Prop :=
  H b = none ∧ b ≠ X.env.locals ∧ b ∉ X.fs ∧ (b ∈ X.ex ∨ X.s₀.heap.objs.size ≤ b) ∧ (∀ x c, X.env.cells.lookup x = some c → c ≠ b) ∧ ∀ p ∈ X.pn ++ pins, p.1 ≠ b
theorem Inv.fpOk {X : Cx} {pins : List (Addr × Obj)} {σ : St} {H H' : Hp} {s : Shared} {b : Addr} (I : Inv X pins σ H s) (hb : s.heap.objs.size ≤ b) (hn : H' b = none) : FpOk X pins H' b := by
  refine ⟨hn, Nat.ne_of_gt (Nat.lt_of_lt_of_le I.lt hb), I.nofs hb, .inr (Nat.le_trans I.sz hb), fun x c e z => ?_, fun p hp z => ?_⟩
  · obtain ⟨v, q⟩ := I.cell x c e
    exact absurd (Nat.lt_of_lt_of_le q.lt (by rw [z]; exact hb)) (Nat.lt_irrefl _)
  · exact absurd (Nat.lt_of_lt_of_le (Heap.lt_size (I.pin p hp).1) (by rw [z]; exact hb)) (Nat.lt_irrefl _)
structure Turn (P : Program) (w : World) (K : PySem.W.Frag) (tg : Expr) (J : It) (fp : List Addr) (it : Addr) (tn : Nat → Heap → Prop) : Prop where
  mem : it ∈ fp
  obj : ∀ i h, tn i h → ∀ b ∈ fp, ∃ o, h.get? b = some o ∧ ∀ v, o.data ≠ .cell v
  keep : ∀ i h h', tn i h → (∀ b ∈ fp, ∀ o, h.get? b = some o → h'.get? b = some o) → tn i h'
  item : ∀ (X : Cx), X.prog = P → X.w = w → X.K = K → X.calm = true → ∀ (i : Nat) (pins : List (Addr × Obj)) (s : Shared) (σ : St) (H : Hp) (E : Value → Shared → Prop), Inv X pins σ H s → (∀ b ∈ fp, FpOk X pins H b) → tn i s.heap → J.go i H →
    wpAny (model P w) X.A (pyNext (.ref it)) (fun r s1 => ∃ u, r = some u ∧
      wpAny (model P w) X.A (letOwnedTupleGo tg (.ref it) u) (fun _ s2 => ∃ x H', Inv X pins σ H' s2 ∧ RelV x u ∧ J.yld i H x H' ∧ tn (i + 1) s2.heap ∧ ∀ b ∈ fp, H' b = none) E s1) E s
  done : ∀ (X : Cx), X.prog = P → X.w = w → X.K = K → X.calm = true → ∀ (i : Nat) (pins : List (Addr × Obj)) (s : Shared) (σ : St) (H : Hp) (E : Value → Shared → Prop), Inv X pins σ H s → (∀ b ∈ fp, FpOk X pins H b) → tn i s.heap → J.stop i H →
    wpAny (model P w) X.A (pyNext (.ref it)) (fun r s1 => r = none ∧ Inv X pins σ H s1) E s
  self : ∀ (A : Around) (i : Nat) (s : Shared) (Q : Value → Shared → Prop) (E : Value → Shared → Prop), tn i s.heap → Q (.ref it) s → wpAny (model P w) A (pyIter (.ref it)) Q E s
abbrev TI := St → Hp → (It → Hp → Prop) → Prop
/-- an iterator has come -/
def PIE (X : Cx) (pins : List (Addr × Obj)) (σ : St) (tg : Expr) (R : It → Hp → Prop) (itv : Value) (s2 : Shared) : Prop :=
  ∃ (it : Addr) (fp : List Addr) (tn : Nat → Heap → Prop) (J : It) (H' : Hp), itv = .ref it ∧ Inv X pins σ H' s2 ∧ Turn X.prog X.w X.K tg J fp it tn ∧ tn 0 s2.heap ∧ (∀ b ∈ fp, FpOk X pins H' b) ∧ R J H'
def PI (X : Cx) (tg iter : Expr) (wi : TI) : Prop :=
  ∀ (pins : List (Addr × Obj)) (s : Shared) (σ : St) (H : Hp) (R : It → Hp → Prop), Inv X pins σ H s → wi σ H R →
    wpAny (model X.prog X.w) X.A (eval iter X.env) (fun v s1 => wpAny (model X.prog X.w) X.A (pyIter v) (PIE X pins σ tg R) X.xe s1) X.xe s

/-- the step ahead of the store is nothing for an iterator that keeps no tuple -/
theorem go_of {M : Model} {A : Around} {E : Value → Shared → Prop} {s : Shared} {tg : Expr} {it : Addr} {u : Value} {o : Obj} {n : String} {vs : Array Value} {Q : Unit → Shared → Prop} (ho : s.heap.get? it = some o) (hc : o.cls = .type n) (hd : o.data = .fields vs)
    (hn : ["enumerate", "zip", "dict_itemiterator", "dict_reverseitemiterator", "odict_iterator", "itertools.zip_longest", "itertools.pairwise"].contains n = false) (hQ : Q () s) : wpAny M A (letOwnedTupleGo tg (.ref it) u) Q E s := by
  unfold letOwnedTupleGo
  cases tg <;> first
    | exact wpAny_pure hQ
    | (cases u <;> first
        | exact wpAny_pure hQ
        | (refine wpAny_bind (wpAny_load ho ?_)
           rw [hc, hd]
           show wpAny M A (if (["enumerate", "zip", "dict_itemiterator", "dict_reverseitemiterator", "odict_iterator", "itertools.zip_longest", "itertools.pairwise"].contains n && vs[0]? == some (rawInt _)) = true then _ else _) Q E s
           rw [if_neg (by intro h; rw [hn, Bool.false_and] at h; cases h)]
           exact wpAny_pure hQ))

/-- the list at a, as it stands at each turn (a loop may append to it) -/
def Itl (K : PySem.W.Frag) (a : Addr) : It :=
  ⟨fun i H => ∃ xs x, SqL K H a xs ∧ xs[i]? = some x, fun i H x H' => H' = H ∧ ∀ xs, SqL K H a xs → xs[i]? = some x, fun i H => ∃ xs, SqL K H a xs ∧ xs.length ≤ i⟩
def Itt (K : PySem.W.Frag) (a : Addr) : It :=
  ⟨fun i H => ∃ xs x, SqT K H a xs ∧ xs[i]? = some x, fun i H x H' => H' = H ∧ ∀ xs, SqT K H a xs → xs[i]? = some x, fun i H => ∃ xs, SqT K H a xs ∧ xs.length ≤ i⟩
/-- lo, lo + 1, .. (n of them) -/
def Itr (lo : Int) (n : Nat) : It := ⟨fun i _ => i < n, fun i H x H' => H' = H ∧ x = .int (lo + i), fun i _ => n ≤ i⟩
theorem turn_list {P : Program} {w : World} {K : PySem.W.Frag} {tg : Expr} (a it : Addr) : Turn P w K tg (Itl K a) [it] it (fun i h => h.IsListIter it a i) where
  mem := by simp
  obj := fun i h st b hb => by
    have e : b = it := by simpa using hb
    subst e
    obtain ⟨o, e, c, d⟩ := st
    exact ⟨o, e, fun v z => by rw [d] at z; cases z⟩
  keep := fun i h h' st k => st.at fun o e => k it (by simp) o e
  item := by
    intro X hP hw hK hc i pins s σ H E I hf st hg
    subst hP hw hK
    obtain ⟨xs, x, hq, hx⟩ := hg
    obtain ⟨its, rv, p, hz⟩ := I.list hq
    obtain ⟨u, hu, ru⟩ := rv.get hx
    obtain ⟨f0, f1, f2, f3, f4, f5⟩ := hf it (by simp)
    refine wpAny_pyNext_list_item st p.isList (x := u) (by simpa using hu) fun h' st' sb => ?_
    have I1 : Inv X pins σ H { s with heap := h' } := I.turned (t' := s.toks) (fun b o hb e => (sb.2 b hb).trans e) f0 f1 f3 f4 f5
    obtain ⟨o, e, c, d⟩ := id st'
    exact ⟨u, rfl, go_of (s := { s with heap := h' }) e c d (by decide) ⟨x, H, I1, ru, ⟨rfl, fun ys hy => by rw [I.list_inj hy hq]; exact hx⟩, st', fun b hb => (hf b hb).1⟩⟩
  done := by
    intro X hP hw hK hc i pins s σ H E I hf st hg
    subst hP hw hK
    obtain ⟨xs, hq, hx⟩ := hg
    obtain ⟨its, rv, p, hz⟩ := I.list hq
    obtain ⟨f0, f1, f2, f3, f4, f5⟩ := hf it (by simp)
    have hl := rv.length
    exact wpAny_pyNext_list_end (I.ok.hd hc) st p.isList (by simp; omega) fun h' eb => ⟨rfl, I.turned (t' := s.toks) (fun b o hb e => eb b o hb e) f0 f1 f3 f4 f5⟩
  self := fun _ _ _ _ _ st h => wpAny_pyIter_listiter st h
theorem turn_tuple {P : Program} {w : World} {K : PySem.W.Frag} {tg : Expr} (a it : Addr) : Turn P w K tg (Itt K a) [it] it (fun i h => h.IsTupleIter it a i) where
  mem := by simp
  obj := fun i h st b hb => by
    have e : b = it := by simpa using hb
    subst e
    obtain ⟨o, e, c, d⟩ := st
    exact ⟨o, e, fun v z => by rw [d] at z; cases z⟩
  keep := fun i h h' st k => st.at fun o e => k it (by simp) o e
  item := by
    intro X hP hw hK hc i pins s σ H E I hf st hg
    subst hP hw hK
    obtain ⟨xs, x, hq, hx⟩ := hg
    obtain ⟨its, rv, p, hz⟩ := I.tuple hq
    obtain ⟨u, hu, ru⟩ := rv.get hx
    obtain ⟨f0, f1, f2, f3, f4, f5⟩ := hf it (by simp)
    refine wpAny_pyNext_tuple_item st (show s.heap.IsTuple a its.toArray from p) (x := u) (by simpa using hu) fun h' st' sb => ?_
    have I1 : Inv X pins σ H { s with heap := h' } := I.turned (t' := s.toks) (fun b o hb e => (sb.2 b hb).trans e) f0 f1 f3 f4 f5
    obtain ⟨o, e, c, d⟩ := id st'
    exact ⟨u, rfl, go_of (s := { s with heap := h' }) e c d (by decide) ⟨x, H, I1, ru, ⟨rfl, fun ys hy => by rw [I.tuple_inj hy hq]; exact hx⟩, st', fun b hb => (hf b hb).1⟩⟩
  done := by
    intro X hP hw hK hc i pins s σ H E I hf st hg
    subst hP hw hK
    obtain ⟨xs, hq, hx⟩ := hg
    obtain ⟨its, rv, p, hz⟩ := I.tuple hq
    obtain ⟨f0, f1, f2, f3, f4, f5⟩ := hf it (by simp)
    have hl := rv.length
    exact wpAny_pyNext_tuple_end (I.ok.hd hc) st (show s.heap.IsTuple a its.toArray from p) (by simp; omega) fun h' eb => ⟨rfl, I.turned (t' := s.toks) (fun b o hb e => eb b o hb e) f0 f1 f3 f4 f5⟩
  self := fun _ _ _ _ _ st h => wpAny_pyIter_tupleiter st h
theorem turn_range {P : Program} {w : World} {K : PySem.W.Frag} {tg : Expr} (it : Addr) (lo : Int) (n : Nat) : Turn P w K tg (Itr lo n) [it] it (fun i h => IsRangeIter h it (lo + (i : Nat) * 1) ((n : Int) - (i : Nat)) 1) where
  mem := by simp
  obj := fun i h st b hb => by
    have e : b = it := by simpa using hb
    subst e
    exact ⟨_, st, fun v z => by
      have z' : Data.fields _ = Data.cell v := z
      cases z'⟩
  keep := fun i h h' st k => k it (by simp) _ st
  item := by
    intro X hP hw hK hc i pins s σ H E I hf st hg
    subst hP hw hK
    obtain ⟨f0, f1, f2, f3, f4, f5⟩ := hf it (by simp)
    have W := Walks.range (prog := X.prog) (w := X.w) (I.ok.hd hc) it lo 1 n
    refine wpAny_with_toks (n := 1) I.tk (W.item i s _ _ hg st fun v h' tk hv st' kk => ?_)
    intro htk
    obtain ⟨t, rfl⟩ := hv
    have I1 : Inv X pins σ H { s with heap := h', toks := tk } := I.turned (fun b o hb e => kk b o (by simpa using hb) e) f0 f1 f3 f4 f5
    refine ⟨_, rfl, go_of (s := { s with heap := h', toks := tk }) (n := "range_iterator") st' rfl rfl (by decide) ⟨.int (lo + i), H, I1, ⟨t, ?_⟩, ⟨rfl, rfl⟩, st', fun b hb => (hf b hb).1⟩⟩
    rw [Int.mul_one]
  done := by
    intro X hP hw hK hc i pins s σ H E I hf st hg
    subst hP hw hK
    obtain ⟨f0, f1, f2, f3, f4, f5⟩ := hf it (by simp)
    exact wpAny_pyNext_range_end (I.ok.hd hc) st (by have : n ≤ i := hg; omega) fun h' eb => ⟨rfl, I.turned (t' := s.toks) (fun b o hb e => eb b o hb e) f0 f1 f3 f4 f5⟩
  self := fun _ _ _ _ _ st h => wpAny_pyIter_rangeiter st h
end L2

namespace L2
open PySem PySem.Spec PyProof.Rows
section
variable {X : Cx} {tg : Expr}
def iList (K : PySem.W.Frag) (tl : TE) : TI := fun σ H R => tl σ H fun x H1 => ∃ a, x = .ref a ∧ (∃ xs, SqL K H1 a xs) ∧ R (Itl K a) H1
def iTup (K : PySem.W.Frag) (tl : TE) : TI := fun σ H R => tl σ H fun x H1 => ∃ a, x = .ref a ∧ (∃ xs, SqT K H1 a xs) ∧ R (Itt K a) H1
theorem pi_list {l : Expr} {tl : TE} (hl : PE X l tl) : PI X tg l (iList X.K tl) := by
  intro pins s σ H R I h
  refine thn (hl pins s σ H _ I h) fun v s1 ⟨x, H1, I1, r1, q1⟩ => ?_
  obtain ⟨a, e, ⟨xs, hq⟩, q⟩ := q1
  subst e
  cases r1
  obtain ⟨its, rv, p, hz⟩ := I1.list hq
  refine wpAny_pyIter_list p.isList ?_
  refine ⟨s1.heap.objs.size, [s1.heap.objs.size], _, _, H1, rfl, I1.kept (t' := s1.toks) fun b o e => Heap.get?_push_of_some _ e, turn_list a _, ⟨_, Heap.get?_push_size _ rfl, rfl, rfl⟩, fun b hb => ?_, q⟩
  have e : b = s1.heap.objs.size := by simpa using hb
  subst e
  exact I1.fpOk (Nat.le_refl _) (I1.hok.fresh (Nat.le_refl _))
theorem pi_tup {l : Expr} {tl : TE} (hl : PE X l tl) : PI X tg l (iTup X.K tl) := by
  intro pins s σ H R I h
  refine thn (hl pins s σ H _ I h) fun v s1 ⟨x, H1, I1, r1, q1⟩ => ?_
  obtain ⟨a, e, ⟨xs, hq⟩, q⟩ := q1
  subst e
  cases r1
  obtain ⟨its, rv, p, hz⟩ := I1.tuple hq
  refine wpAny_pyIter_tuple (show s1.heap.IsTuple a its.toArray from p) ?_
  refine ⟨s1.heap.objs.size, [s1.heap.objs.size], _, _, H1, rfl, I1.kept (t' := s1.toks) fun b o e => Heap.get?_push_of_some _ e, turn_tuple a _, ⟨_, Heap.get?_push_size _ rfl, rfl, rfl⟩, fun b hb => ?_, q⟩
  have e : b = s1.heap.objs.size := by simpa using hb
  subst e
  exact I1.fpOk (Nat.le_refl _) (I1.hok.fresh (Nat.le_refl _))
/-- a range object just made, walked -/
theorem range_it {pins : List (Addr × Obj)} {σ : St} {H : Hp} {s : Shared} {R : It → Hp → Prop} {E : Value → Shared → Prop} {lo hi : Int} {t u v : Tok} {tk : Nat} (I : Inv X pins σ H s) (h1 : -(2 ^ 62) ≤ lo) (h2 : lo < 2 ^ 62) (h3 : -(2 ^ 62) ≤ hi) (h4 : hi < 2 ^ 62)
    (q : R (Itr lo (hi - lo).toNat) H) (htk : 0 < tk := by ((try dsimp only); first | assumption | exact Inv.tk (by assumption) | exact Nat.succ_pos _ | exact Nat.lt_of_lt_of_le (Inv.tk (by assumption)) (by assumption) | exact Nat.add_pos_left (Inv.tk (by assumption)) _ | omega)) : wpAny (model X.prog X.w) X.A (pyIter (.ref s.heap.objs.size)) (PIE X pins σ tg R) E { s with heap := s.heap.push { cls := .type "range", data := .fields #[.int lo t, .int hi u, .int 1 v] }, toks := tk } := by
  refine wpAny_pyIter_range (IsRange.new ..) (small_one h1 h2 h3 h4) ?_
  have I1 : Inv X pins σ H { s with heap := s.heap.push { cls := .type "range", data := .fields #[.int lo t, .int hi u, .int 1 v] }, toks := tk } := I.kept fun b o e => Heap.get?_push_of_some _ e
  refine ⟨(s.heap.push { cls := .type "range", data := .fields #[.int lo t, .int hi u, .int 1 v] }).objs.size, [(s.heap.push { cls := .type "range", data := .fields #[.int lo t, .int hi u, .int 1 v] }).objs.size], _, _, H, rfl,
    I1.kept (t' := tk) fun b o e => Heap.get?_push_of_some _ e, turn_range _ lo (hi - lo).toNat, ?_, fun b hb => ?_, q⟩
  · have e1 : lo + ((0 : Nat) : Int) * 1 = lo := by simp
    have e2 : (((hi - lo).toNat : Nat) : Int) - ((0 : Nat) : Int) = Builtin.Range.rangeSize lo hi 1 := by rw [rangeSize_one]; split <;> omega
    show IsRangeIter _ _ (lo + ((0 : Nat) : Int) * 1) ((((hi - lo).toNat : Nat) : Int) - ((0 : Nat) : Int)) 1
    rw [e1, e2]
    exact Heap.get?_push_size _ rfl
  · have e : b = (s.heap.push { cls := .type "range", data := .fields #[.int lo t, .int hi u, .int 1 v] }).objs.size := by simpa using hb
    subst e
    exact I1.fpOk (Nat.le_refl _) (I1.hok.fresh (Nat.le_refl _))
def iRng1 (ta : TA) : TI := fun σ H R => ta σ H fun vs H1 => ∃ j : Int, vs = [.int j] ∧ -(2 ^ 62) ≤ j ∧ j < 2 ^ 62 ∧ R (Itr 0 j.toNat) H1
theorem pi_range1 {a : Expr} {ta : TA} {p pos : Pos} (hg : Gl X "range") (hm : X.mg "range" = none) (ha : PA X [a] ta) (hs : starEach [a] X.env = [(false, eval a X.env)] := by rfl) : PI X tg (.Call (.Name "range" p) [a] [] pos) (iRng1 ta) := by
  intro pins s σ H R I h
  refine Call_ (ld_blt I hg hm boot_range (PyProof.Rows.callWith_type1 (thn (ha pos pins s σ H _ I h) fun us s1 ⟨vs, H1, I1, r1, q1⟩ => ?_) hs rfl))
  obtain ⟨j, e, q1, q2, q⟩ := q1
  subst e
  cases r1 with
  | cons r rr =>
    cases rr
    obtain ⟨t, rfl⟩ := r
    exact call_range_1 (range_it I1 (by omega) (by omega) q1 q2 (by simpa using q))
/-! ### for -/
/-- W: the invariant by the turn and a measure; N: what the body is to reach -/
def tFor (wi : TI) (g : TG) (tb : TS) : TS := fun D σ H => wi σ H fun J H1 => ∃ W : Nat → Nat → St → Hp → Prop, (∃ m, W 0 m σ H1) ∧ ∀ i m σ H, W i m σ H →
  (J.stop i H ∧ D.nx σ H) ∨ (J.go i H ∧ ∃ N : St → Hp → Prop, (∀ σ' H', N σ' H' → ∃ m', m' < m ∧ W (i + 1) m' σ' H') ∧ ∀ x H', J.yld i H x H' → g x σ H' fun σ2 H2 => tb { D with nx := N, ct := N, bk := D.nx } σ2 H2)
/-- the records at fp as they stand -/
def pinsAt (fp : List Addr) (h : Heap) : List (Addr × Obj) := fp.filterMap fun b => (h.get? b).map fun o => (b, o)
theorem mem_pinsAt {fp : List Addr} {h : Heap} {b : Addr} {o : Obj} (hb : b ∈ fp) (e : h.get? b = some o) : (b, o) ∈ pinsAt fp h := List.mem_filterMap.mpr ⟨b, hb, by rw [e]; rfl⟩
theorem of_pinsAt {fp : List Addr} {h : Heap} {p : Addr × Obj} (hp : p ∈ pinsAt fp h) : p.1 ∈ fp ∧ h.get? p.1 = some p.2 := by
  obtain ⟨b, hb, e⟩ := List.mem_filterMap.mp hp
  cases q : h.get? b with
  | none => rw [q] at e; cases e
  | some o =>
    rw [q] at e
    have e' : (b, o) = p := Option.some.inj e
    subst e'
    exact ⟨hb, q⟩
theorem Inv.pinned {pins : List (Addr × Obj)} {σ : St} {H : Hp} {s : Shared} {fp : List Addr} (I : Inv X pins σ H s) (hf : ∀ b ∈ fp, FpOk X pins H b) (ho : ∀ b ∈ fp, ∃ o, s.heap.get? b = some o ∧ ∀ v, o.data ≠ .cell v) : Inv X (pins ++ pinsAt fp s.heap) σ H s :=
  I.pins_of fun p hp => (List.mem_append.mp hp).elim (fun z => I.pin p (List.mem_append_right _ z)) fun z => by
    obtain ⟨hb, e⟩ := of_pinsAt z
    obtain ⟨f0, f1, f2, _⟩ := hf p.1 hb
    obtain ⟨o, e', d⟩ := ho p.1 hb
    rw [e] at e'; cases e'
    exact ⟨e, f0, f1, f2, d⟩
theorem Inv.unpinned {pins pl : List (Addr × Obj)} {σ : St} {H : Hp} {s : Shared} (I : Inv X (pins ++ pl) σ H s) : Inv X pins σ H s := I.pins_of fun p hp => I.pin p (List.mem_append_right _ (List.mem_append_left _ hp))
theorem ps_for {iter : Expr} {body : List Stmt} {wi : TI} {g : TG} {tb : TS} {pos : Pos} (hp : PassesOwn (model X.prog X.w) X.A X.env X.xe) (hc : X.calm = true) (hi : PI X tg iter wi) (hg : PG X tg g) (hb : PSs X body tb)
    (hs : ∀ x, foldedSetIterable iter X.env x = pure x := by intro _; rfl) : PS X (.For tg iter body [] pos) (tFor wi g tb) := by
  intro pins s σ H D I h
  refine wpAny_For (thn (hi pins s σ H _ I h) fun v s1 h1 => thn h1 fun itv s2 h2 => ?_) hs
  obtain ⟨it, fp, tn, J, H2, e, I2, T, st2, f2, W, ⟨m0, w0⟩, turn⟩ := h2
  subst e
  -- what stays true of the iterator's objects through the loop
  have stat : ∀ {H' : Hp}, (∀ b ∈ fp, H' b = none) → ∀ b ∈ fp, FpOk X pins H' b := fun hn b hb => ⟨hn b hb, (f2 b hb).2⟩
  refine codeAny_forLoop_any (fun n s' => ∃ i σ' H', Inv X pins σ' H' s' ∧ tn i s'.heap ∧ (∀ b ∈ fp, H' b = none) ∧ W i n σ' H') ?_ m0 ⟨0, σ, H2, I2, st2, fun b hb => (f2 b hb).1, w0⟩
  rintro n s3 ⟨i, σ3, H3, I3, st3, fr3, w3⟩
  rcases turn i n σ3 H3 w3 with ⟨stop, qn⟩ | ⟨go, N, hN, step⟩
  · refine wpAny_passesOwn hp (thn (T.done X rfl rfl rfl hc i pins s3 σ3 H3 X.xe I3 (stat fr3) st3 stop) fun r s4 ⟨hr, I4⟩ => ?_)
    subst hr
    exact wpAny_execs_nil ⟨σ3, H3, I4, qn⟩
  · refine wpAny_passesOwn hp (thn (T.item X rfl rfl rfl hc i pins s3 σ3 H3 X.xe I3 (stat fr3) st3 go) fun r s4 ⟨u, hr, h4⟩ => ?_)
    subst hr
    refine wpAny_passesOwn hp (thn h4 fun _ s5 ⟨x, H5, I5, r5, y5, st5, fr5⟩ => ?_)
    have I5' := I5.pinned (stat fr5) (T.obj _ _ st5)
    refine wpAny_passesOwn hp (thn (hg _ s5 σ3 H5 x u _ I5' r5 (step x H5 y5)) fun _ s6 ⟨σ6, H6, I6, q6⟩ => ?_)
    refine wpAny_passesOwn hp (thn (hb _ s6 σ6 H6 _ I6 q6) fun f s7 q7 => ?_)
    have again : ∀ {σ7 : St} {H7 : Hp}, Inv X (pins ++ pinsAt fp s5.heap) σ7 H7 s7 → N σ7 H7 → ∃ m, m < n ∧ ∃ i σ' H', Inv X pins σ' H' s7 ∧ tn i s7.heap ∧ (∀ b ∈ fp, H' b = none) ∧ W i m σ' H' := fun {σ7 H7} I7 n7 => by
      obtain ⟨m', hm, w7⟩ := hN σ7 H7 n7
      refine ⟨m', hm, i + 1, σ7, H7, I7.unpinned, T.keep _ _ _ st5 fun b hb o e => (I7.pin (b, o) (List.mem_append_right _ (List.mem_append_right _ (mem_pinsAt hb e)))).1, fun b hb => ?_, w7⟩
      obtain ⟨o, e, d⟩ := T.obj _ _ st5 b hb
      exact (I7.pin (b, o) (List.mem_append_right _ (List.mem_append_right _ (mem_pinsAt hb e)))).2.1
    cases f with
    | next => obtain ⟨σ7, H7, I7, n7⟩ := q7; exact again I7 n7
    | cont => obtain ⟨σ7, H7, I7, n7⟩ := q7; exact again I7 n7
    | brk => obtain ⟨σ7, H7, I7, q7⟩ := q7; exact ⟨σ7, H7, I7.unpinned, q7⟩
    | ret v => obtain ⟨x7, σ7, H7, I7, r7, q7⟩ := q7; exact ⟨x7, σ7, H7, I7.unpinned, r7, q7⟩
end

/-! ### the forms one uses -/
/-- over a list that the body leaves as it is -/
theorem for_list {K : PySem.W.Frag} {a : Addr} {xs : List V} {g : TG} {tb : TS} {D : Ends} {σ : St} {H : Hp} (Pv : Nat → St → Hp → Prop) (h0 : Pv 0 σ H) (hl : ∀ i σ H, i ≤ xs.length → Pv i σ H → SqL K H a xs)
    (hs : ∀ i x σ H, xs[i]? = some x → Pv i σ H → g x σ H fun σ2 H2 => tb { D with nx := Pv (i + 1), ct := Pv (i + 1), bk := D.nx } σ2 H2) (hd : ∀ σ H, Pv xs.length σ H → D.nx σ H) :
    ∃ W : Nat → Nat → St → Hp → Prop, (∃ m, W 0 m σ H) ∧ ∀ i m σ H, W i m σ H →
      ((Itl K a).stop i H ∧ D.nx σ H) ∨ ((Itl K a).go i H ∧ ∃ N : St → Hp → Prop, (∀ σ' H', N σ' H' → ∃ m', m' < m ∧ W (i + 1) m' σ' H') ∧ ∀ x H', (Itl K a).yld i H x H' → g x σ H' fun σ2 H2 => tb { D with nx := N, ct := N, bk := D.nx } σ2 H2) := by
  refine ⟨fun i m σ H => m = xs.length - i ∧ i ≤ xs.length ∧ Pv i σ H, ⟨xs.length, by simp, Nat.zero_le _, h0⟩, ?_⟩
  rintro i m σ H ⟨rfl, hi, p⟩
  have q := hl i σ H hi p
  by_cases hlt : i < xs.length
  · refine .inr ⟨⟨xs, xs[i], q, by simp [hlt]⟩, Pv (i + 1), fun σ' H' p' => ⟨xs.length - (i + 1), by omega, rfl, hlt, p'⟩, fun x H' y => ?_⟩
    obtain ⟨e, y⟩ := y
    subst e
    exact hs i x σ _ (y xs q) p
  · have e : i = xs.length := by omega
    subst e
    exact .inl ⟨⟨xs, q, Nat.le_refl _⟩, hd σ H p⟩
theorem for_tup {K : PySem.W.Frag} {a : Addr} {xs : List V} {g : TG} {tb : TS} {D : Ends} {σ : St} {H : Hp} (Pv : Nat → St → Hp → Prop) (h0 : Pv 0 σ H) (hl : ∀ i σ H, i ≤ xs.length → Pv i σ H → SqT K H a xs)
    (hs : ∀ i x σ H, xs[i]? = some x → Pv i σ H → g x σ H fun σ2 H2 => tb { D with nx := Pv (i + 1), ct := Pv (i + 1), bk := D.nx } σ2 H2) (hd : ∀ σ H, Pv xs.length σ H → D.nx σ H) :
    ∃ W : Nat → Nat → St → Hp → Prop, (∃ m, W 0 m σ H) ∧ ∀ i m σ H, W i m σ H →
      ((Itt K a).stop i H ∧ D.nx σ H) ∨ ((Itt K a).go i H ∧ ∃ N : St → Hp → Prop, (∀ σ' H', N σ' H' → ∃ m', m' < m ∧ W (i + 1) m' σ' H') ∧ ∀ x H', (Itt K a).yld i H x H' → g x σ H' fun σ2 H2 => tb { D with nx := N, ct := N, bk := D.nx } σ2 H2) := by
  refine ⟨fun i m σ H => m = xs.length - i ∧ i ≤ xs.length ∧ Pv i σ H, ⟨xs.length, by simp, Nat.zero_le _, h0⟩, ?_⟩
  rintro i m σ H ⟨rfl, hi, p⟩
  have q := hl i σ H hi p
  by_cases hlt : i < xs.length
  · refine .inr ⟨⟨xs, xs[i], q, by simp [hlt]⟩, Pv (i + 1), fun σ' H' p' => ⟨xs.length - (i + 1), by omega, rfl, hlt, p'⟩, fun x H' y => ?_⟩
    obtain ⟨e, y⟩ := y
    subst e
    exact hs i x σ _ (y xs q) p
  · have e : i = xs.length := by omega
    subst e
    exact .inl ⟨⟨xs, q, Nat.le_refl _⟩, hd σ H p⟩
theorem for_range {lo : Int} {n : Nat} {g : TG} {tb : TS} {D : Ends} {σ : St} {H : Hp} (Pv : Nat → St → Hp → Prop) (h0 : Pv 0 σ H)
    (hs : ∀ i σ H, i < n → Pv i σ H → g (.int (lo + i)) σ H fun σ2 H2 => tb { D with nx := Pv (i + 1), ct := Pv (i + 1), bk := D.nx } σ2 H2) (hd : ∀ σ H, Pv n σ H → D.nx σ H) :
    ∃ W : Nat → Nat → St → Hp → Prop, (∃ m, W 0 m σ H) ∧ ∀ i m σ H, W i m σ H →
      ((Itr lo n).stop i H ∧ D.nx σ H) ∨ ((Itr lo n).go i H ∧ ∃ N : St → Hp → Prop, (∀ σ' H', N σ' H' → ∃ m', m' < m ∧ W (i + 1) m' σ' H') ∧ ∀ x H', (Itr lo n).yld i H x H' → g x σ H' fun σ2 H2 => tb { D with nx := N, ct := N, bk := D.nx } σ2 H2) := by
  refine ⟨fun i m σ H => m = n - i ∧ i ≤ n ∧ Pv i σ H, ⟨n, by simp, Nat.zero_le _, h0⟩, ?_⟩
  rintro i m σ H ⟨rfl, hi, p⟩
  by_cases hlt : i < n
  · refine .inr ⟨hlt, Pv (i + 1), fun σ' H' p' => ⟨n - (i + 1), by omega, rfl, hlt, p'⟩, fun x H' y => ?_⟩
    obtain ⟨e, y⟩ := y
    subst e y
    exact hs i σ _ hlt p
  · have e : i = n := by omega
    subst e
    exact .inl ⟨Nat.le_refl _, hd σ H p⟩
end L2

namespace L2
open PySem PySem.Spec PyProof.Rows

abbrev R2 := V → V → Hp → VK → Prop
/-- a two-place operation on values: f is binaryOp op, inplaceOp op or compareOp op -/
def OpR (X : Cx) (f : Value → Value → Sem Value) (r : R2) : Prop :=
  ∀ (pins : List (Addr × Obj)) (s : Shared) (σ : St) (H : Hp) (x y : V) (v u : Value) (Q : VK), Inv X pins σ H s → RelV x v → RelV y u → r x y H Q →
    wpAny (model X.prog X.w) X.A (f v u) (EP X pins σ Q) X.xe s
/-- a one-place operation -/
def UnR (X : Cx) (f : Value → Sem Value) (r : V → Hp → VK → Prop) : Prop :=
  ∀ (pins : List (Addr × Obj)) (s : Shared) (σ : St) (H : Hp) (x : V) (v : Value) (Q : VK), Inv X pins σ H s → RelV x v → r x H Q →
    wpAny (model X.prog X.w) X.A (f v) (EP X pins σ Q) X.xe s
/-- a call of a value that is known (a builtin, a type) with values -/
def CallR (X : Cx) (f : Value) (r : List V → Hp → VK → Prop) : Prop :=
  ∀ (pins : List (Addr × Obj)) (s : Shared) (σ : St) (H : Hp) (xs : List V) (us : List Value) (Q : VK), Inv X pins σ H s → Vals xs us → r xs H Q →
    wpAny (model X.prog X.w) X.A (call f us) (EP X pins σ Q) X.xe s
/-- a value's truth -/
def TruR (X : Cx) (r : V → Hp → (Bool → Hp → Prop) → Prop) : Prop :=
  ∀ (pins : List (Addr × Obj)) (s : Shared) (σ : St) (H : Hp) (x : V) (v : Value) (Q : Bool → Hp → Prop), Inv X pins σ H s → RelV x v → r x H Q →
    wpAny (model X.prog X.w) X.A (truthy v) (TP X pins σ Q) X.xe s

def tOp (r : R2) (ta tb : TE) : TE := fun σ H Q => ta σ H fun x H1 => tb σ H1 fun y H2 => r x y H2 Q
def tUn (r : V → Hp → VK → Prop) (ta : TE) : TE := fun σ H Q => ta σ H fun x H1 => r x H1 Q
/-- ints in, under C, and a value out -/
def rI (C : Int → Int → Prop) (g : Int → Int → V) : R2 := fun x y H Q => ∃ i j, x = .int i ∧ y = .int j ∧ C i j ∧ Q (g i j) H
def rI0 (g : Int → Int → V) : R2 := fun x y H Q => ∃ i j, x = .int i ∧ y = .int j ∧ Q (g i j) H
def rU (g : Int → V) : V → Hp → VK → Prop := fun x H Q => ∃ i, x = .int i ∧ Q (g i) H

section
variable {X : Cx} {a b c : Expr} {ta tb tc : TE} {pos : Pos}

theorem binT (ha : PE X a ta) (hb : PE X b tb) {pins : List (Addr × Obj)} {s : Shared} {σ : St} {H : Hp} {R : V → V → Hp → Prop} (I : Inv X pins σ H s)
    (h : ta σ H fun x H1 => tb σ H1 fun y H2 => R x y H2) {Q : Value → Shared → Prop} {f : Value → Value → Sem Value}
    (hf : ∀ v u s2 x y H2, Inv X pins σ H2 s2 → RelV x v → RelV y u → R x y H2 → wpAny (model X.prog X.w) X.A (f v u) Q X.xe s2) :
    wpAny (model X.prog X.w) X.A (eval a X.env) (fun v s₁ => wpAny (model X.prog X.w) X.A (eval b X.env) (fun u s₂ => wpAny (model X.prog X.w) X.A (f v u) Q X.xe s₂) X.xe s₁) X.xe s := by
  refine thn (ha pins s σ H _ I h) fun v s1 ⟨x, H1, I1, r1, q1⟩ => ?_
  refine thn (hb pins s1 σ H1 _ I1 q1) fun u s2 ⟨y, H2, I2, r2, q2⟩ => ?_
  exact hf v u s2 x y H2 I2 r1 r2 q2

theorem pe_op {op : Operator} {r : R2} (ho : OpR X (binaryOp op) r) (ha : PE X a ta) (hb : PE X b tb) : PE X (.BinOp a op b pos) (tOp r ta tb) := by
  intro pins s σ H Q I h
  exact wpAny_BinOp (binT ha hb I h fun v u s2 x y H2 I2 rx ry q => ho pins s2 σ H2 x y v u Q I2 rx ry q)
theorem pe_un {op : UnaryOp} {r : V → Hp → VK → Prop} (ho : UnR X (unaryOp op) r) (ha : PE X a ta) : PE X (.UnaryOp op a pos) (tUn r ta) := by
  intro pins s σ H Q I h
  exact UnaryOp_ (thn (ha pins s σ H _ I h) fun v s1 ⟨x, H1, I1, r1, q1⟩ => ho pins s1 σ H1 x v Q I1 r1 q1)
/-! ### ints -/
theorem opI {f : Value → Value → Sem Value} {C : Int → Int → Prop} {g : Int → Int → Int}
    (rule : ∀ (i j : Int) (t u : Tok) (s : Shared) (Q : Value → Shared → Prop) (E : Value → Shared → Prop), C i j → Q (.int (g i j) s.toks) { s with toks := s.toks + 1 } → wpAny (model X.prog X.w) X.A (f (.int i t) (.int j u)) Q E s) :
    OpR X f (rI C fun i j => .int (g i j)) := by
  intro pins s σ H x y v u Q I rx ry h
  obtain ⟨i, j, rfl, rfl, hc, q⟩ := h
  obtain ⟨t, rfl⟩ := rx
  obtain ⟨t', rfl⟩ := ry
  exact rule i j t t' s _ _ hc ⟨.int (g i j), H, I.tok _, ⟨_, rfl⟩, q⟩
theorem opI0 {f : Value → Value → Sem Value} {g : Int → Int → Int}
    (rule : ∀ (i j : Int) (t u : Tok) (s : Shared) (Q : Value → Shared → Prop) (E : Value → Shared → Prop), Q (.int (g i j) s.toks) { s with toks := s.toks + 1 } → wpAny (model X.prog X.w) X.A (f (.int i t) (.int j u)) Q E s) :
    OpR X f (rI0 fun i j => .int (g i j)) := by
  intro pins s σ H x y v u Q I rx ry h
  obtain ⟨i, j, rfl, rfl, q⟩ := h
  obtain ⟨t, rfl⟩ := rx
  obtain ⟨t', rfl⟩ := ry
  exact rule i j t t' s _ _ ⟨.int (g i j), H, I.tok _, ⟨_, rfl⟩, q⟩
theorem opB0 {f : Value → Value → Sem Value} {g : Int → Int → Bool}
    (rule : ∀ (i j : Int) (t u : Tok) (s : Shared) (Q : Value → Shared → Prop) (E : Value → Shared → Prop), Q (.bool (g i j)) s → wpAny (model X.prog X.w) X.A (f (.int i t) (.int j u)) Q E s) :
    OpR X f (rI0 fun i j => .bl (g i j)) := by
  intro pins s σ H x y v u Q I rx ry h
  obtain ⟨i, j, rfl, rfl, q⟩ := h
  obtain ⟨t, rfl⟩ := rx
  obtain ⟨t', rfl⟩ := ry
  exact rule i j t t' s _ _ ⟨.bl (g i j), H, I, rfl, q⟩

def CDiv (i j : Int) : Prop := 0 < j ∧ j < 1073741824
def CPow (i j : Int) : Prop := 0 ≤ j ∧ j ≤ 1000000 ∧ i.natAbs < 2 ^ 64
def CMul (i j : Int) : Prop := (-(2 ^ 64) < i ∧ i < 2 ^ 64) ∨ (-(2 ^ 64) < j ∧ j < 2 ^ 64)
theorem CMul.ok {i j : Int} (h : CMul i j) : IntMulOk i j := by
  rcases h with ⟨h1, h2⟩ | ⟨h1, h2⟩
  · exact .of_left (intBits_le_64 h1 h2)
  · exact .of_right (intBits_le_64 h1 h2)
theorem op_add : OpR X (binaryOp .Add) (rI0 fun i j => .int (i + j)) := opI0 fun _ _ _ _ _ _ _ q => add_int q
theorem op_sub : OpR X (binaryOp .Sub) (rI0 fun i j => .int (i - j)) := opI0 fun _ _ _ _ _ _ _ q => sub_int q
theorem op_mul : OpR X (binaryOp .Mult) (rI CMul fun i j => .int (i * j)) := opI fun _ _ _ _ _ _ _ hc q => mul_int q hc.ok
/-- // by a positive divisor -/
theorem op_fdiv : OpR X (binaryOp .FloorDiv) (rI CDiv fun i j => .int (i / j)) := opI fun i j _ _ _ _ _ hc q => by
  have h1 : (0 : Int) < j := hc.1
  have h2 : j < 1073741824 := hc.2
  exact floordiv_int (by omega) (by rw [Int.fdiv_eq_ediv_of_nonneg i (by omega)]; exact q) (.inl (PyProof.noPylong_small (by omega)))
/-- % by a positive divisor of any size -/
theorem op_mod : OpR X (binaryOp .Mod) (rI (fun _ j => 0 < j) fun i j => .int (i % j)) := opI fun i j _ _ _ _ _ hc q => by
  have h1 : (0 : Int) < j := hc
  exact mod_int' (by omega) (by rw [Int.fmod_eq_emod_of_nonneg i (by omega)]; exact q)
theorem op_pow : OpR X (binaryOp .Pow) (rI CPow fun i j => .int (i ^ j.toNat)) := opI fun _ _ _ _ _ _ _ hc q => pow_int_small hc.1 hc.2.1 hc.2.2 q
theorem unI {f : Value → Sem Value} {g : Int → Int}
    (rule : ∀ (i : Int) (t : Tok) (s : Shared) (Q : Value → Shared → Prop) (E : Value → Shared → Prop), Q (.int (g i) s.toks) { s with toks := s.toks + 1 } → wpAny (model X.prog X.w) X.A (f (.int i t)) Q E s) :
    UnR X f (rU fun i => .int (g i)) := by
  intro pins s σ H x v Q I rx h
  obtain ⟨i, rfl, q⟩ := h
  obtain ⟨t, rfl⟩ := rx
  exact rule i t s _ _ ⟨.int (g i), H, I.tok _, ⟨_, rfl⟩, q⟩
theorem un_neg : UnR X (unaryOp .USub) (rU fun i => .int (-i)) := unI fun _ _ _ _ _ q => neg_int q
/-! ### bools among ints: n += (a < b) -/
end

/-! ### comparisons -/
/-- the scalars that == tells apart as data does -/
def scal : V → V → Bool
  | .non, .non => true | .non, .int _ => true | .int _, .non => true | .non, .bl _ => true | .bl _, .non => true | .non, .str _ => true | .str _, .non => true
  | .int _, .int _ => true | .bl _, .bl _ => true | .str _, .str _ => true | .byt _, .byt _ => true
  | .int _, .str _ => true | .str _, .int _ => true | .bl _, .str _ => true | .str _, .bl _ => true
  | _, _ => false
def rEq : R2 := fun x y H Q => scal x y = true ∧ Q (.bl (decide (x = y))) H
def rNe : R2 := fun x y H Q => scal x y = true ∧ Q (.bl (!decide (x = y))) H

theorem dec_int {i j : Int} : decide (V.int i = V.int j) = (i == j) := by
  rw [Bool.eq_iff_iff]
  simp
theorem dec_bl {i j : Bool} : decide (V.bl i = V.bl j) = (i == j) := by
  rw [Bool.eq_iff_iff]
  simp
theorem dec_str {i j : Str} : decide (V.str i = V.str j) = (i == j) := by
  rw [Bool.eq_iff_iff]
  simp
theorem dec_byt {i j : Array UInt8} : decide (V.byt i = V.byt j) = (i.toList == j.toList) := by
  rw [Bool.eq_iff_iff]
  cases i
  cases j
  simp

section
variable {X : Cx} {a b c : Expr} {ta tb tc : TE} {pos : Pos}
theorem fin_bl {pins : List (Addr × Obj)} {σ : St} {H : Hp} {s : Shared} {Q : VK} {k k' : Bool} (I : Inv X pins σ H s) (q : Q (.bl k) H) (e : k = k') : EP X pins σ Q (.bool k') s := by
  subst e
  exact ⟨.bl k, H, I, rfl, q⟩
theorem op_eq : OpR X (compareOp .Eq) rEq := by
  intro pins s σ H x y v u Q I rx ry h
  obtain ⟨hs, q⟩ := h
  cases x with
  | non =>
    cases rx
    cases y with
    | non => cases ry; exact PySem.EqNone.eq_none_none (fin_bl I q (by simp))
    | bl j => cases ry; exact PySem.EqNone.eq_none_bool (fin_bl I q (by simp))
    | int j => obtain ⟨t', rfl⟩ := ry; exact PySem.EqNone.eq_none_int (fin_bl I q (by simp))
    | str j => obtain ⟨t', rfl⟩ := ry; exact PySem.EqNone.eq_none_str (fin_bl I q (by simp))
    | _ => exact absurd (show false = true from hs) Bool.false_ne_true
  | bl i =>
    cases rx
    cases y with
    | non => cases ry; exact PySem.EqNone.eq_bool_none (fin_bl I q (by simp))
    | bl j => cases ry; exact eq_bool (fin_bl I q dec_bl)
    | str j => obtain ⟨t', rfl⟩ := ry; exact PySem.EqMixed.eq_bool_str (fin_bl I q (by simp))
    | _ => exact absurd (show false = true from hs) Bool.false_ne_true
  | int i =>
    obtain ⟨t, rfl⟩ := rx
    cases y with
    | non => cases ry; exact PySem.EqNone.eq_int_none (fin_bl I q (by simp))
    | int j => obtain ⟨t', rfl⟩ := ry; exact eq_int (fin_bl I q dec_int)
    | str j => obtain ⟨t', rfl⟩ := ry; exact PySem.EqMixed.eq_int_str (fin_bl I q (by simp))
    | _ => exact absurd (show false = true from hs) Bool.false_ne_true
  | str i =>
    obtain ⟨t, rfl⟩ := rx
    cases y with
    | non => cases ry; exact PySem.EqNone.eq_str_none (fin_bl I q (by simp))
    | bl j => cases ry; exact PySem.EqMixed.eq_str_bool (fin_bl I q (by simp))
    | int j => obtain ⟨t', rfl⟩ := ry; exact PySem.EqMixed.eq_str_int (fin_bl I q (by simp))
    | str j => obtain ⟨t', rfl⟩ := ry; exact eq_str (fin_bl I q dec_str)
    | _ => exact absurd (show false = true from hs) Bool.false_ne_true
  | byt i =>
    obtain ⟨t, rfl⟩ := rx
    cases y with
    | byt j => obtain ⟨t', rfl⟩ := ry; exact PySem.W.eq_bytes (fin_bl I q dec_byt)
    | _ => exact absurd (show false = true from hs) Bool.false_ne_true
  | _ => cases y <;> exact absurd (show false = true from hs) Bool.false_ne_true
theorem op_ne : OpR X (compareOp .NotEq) rNe := by
  intro pins s σ H x y v u Q I rx ry h
  obtain ⟨hs, q⟩ := h
  cases x with
  | non =>
    cases rx
    cases y with
    | non => cases ry; exact PySem.EqNone.ne_none_none (fin_bl I q (by simp))
    | bl j => cases ry; exact PySem.EqNone.ne_none_bool (fin_bl I q (by simp))
    | int j => obtain ⟨t', rfl⟩ := ry; exact PySem.EqNone.ne_none_int (fin_bl I q (by simp))
    | str j => obtain ⟨t', rfl⟩ := ry; exact PySem.EqNone.ne_none_str (fin_bl I q (by simp))
    | _ => exact absurd (show false = true from hs) Bool.false_ne_true
  | bl i =>
    cases rx
    cases y with
    | non => cases ry; exact PySem.EqNone.ne_bool_none (fin_bl I q (by simp))
    | bl j => cases ry; exact ne_bool (fin_bl I q (congrArg not dec_bl))
    | str j => obtain ⟨t', rfl⟩ := ry; exact PySem.EqMixed.ne_bool_str (fin_bl I q (by simp))
    | _ => exact absurd (show false = true from hs) Bool.false_ne_true
  | int i =>
    obtain ⟨t, rfl⟩ := rx
    cases y with
    | non => cases ry; exact PySem.EqNone.ne_int_none (fin_bl I q (by simp))
    | int j => obtain ⟨t', rfl⟩ := ry; exact ne_int (fin_bl I q (congrArg not dec_int))
    | str j => obtain ⟨t', rfl⟩ := ry; exact PySem.EqMixed.ne_int_str (fin_bl I q (by simp))
    | _ => exact absurd (show false = true from hs) Bool.false_ne_true
  | str i =>
    obtain ⟨t, rfl⟩ := rx
    cases y with
    | non => cases ry; exact PySem.EqNone.ne_str_none (fin_bl I q (by simp))
    | bl j => cases ry; exact PySem.EqMixed.ne_str_bool (fin_bl I q (by simp))
    | int j => obtain ⟨t', rfl⟩ := ry; exact PySem.EqMixed.ne_str_int (fin_bl I q (by simp))
    | str j => obtain ⟨t', rfl⟩ := ry; exact ne_str (fin_bl I q (congrArg not dec_str))
    | _ => exact absurd (show false = true from hs) Bool.false_ne_true
  | byt i =>
    obtain ⟨t, rfl⟩ := rx
    cases y with
    | byt j => obtain ⟨t', rfl⟩ := ry; exact PySem.W.ne_bytes (fin_bl I q (congrArg not dec_byt))
    | _ => exact absurd (show false = true from hs) Bool.false_ne_true
  | _ => cases y <;> exact absurd (show false = true from hs) Bool.false_ne_true

theorem op_lt : OpR X (compareOp .Lt) (rI0 fun i j => .bl (decide (i < j))) := opB0 fun _ _ _ _ _ _ _ q => lt_int q
theorem op_le : OpR X (compareOp .LtE) (rI0 fun i j => .bl (decide (i ≤ j))) := opB0 fun _ _ _ _ _ _ _ q => le_int q
theorem op_gt : OpR X (compareOp .Gt) (rI0 fun i j => .bl (decide (j < i))) := opB0 fun _ _ _ _ _ _ _ q => gt_int q
theorem op_ge : OpR X (compareOp .GtE) (rI0 fun i j => .bl (decide (j ≤ i))) := opB0 fun _ _ _ _ _ _ _ q => ge_int q
theorem op_lt_str : OpR X (compareOp .Lt) (fun x y H Q => ∃ i j, x = .str i ∧ y = .str j ∧ Q (.bl (decide (i.cps.toList < j.cps.toList))) H) := by
  intro pins s σ H x y v u Q I rx ry h
  obtain ⟨i, j, rfl, rfl, q⟩ := h
  obtain ⟨t, rfl⟩ := rx
  obtain ⟨t', rfl⟩ := ry
  exact lt_str (fin_bl I q rfl)
/-- the one string within the other -/
theorem op_in_str : OpR X (compareOp .In) (fun x y H Q => ∃ i j, x = .str i ∧ y = .str j ∧ Q (.bl (!(Builtin.Str.occurrences j i 0 j.length 1).isEmpty)) H) := by
  intro pins s σ H x y v u Q I rx ry h
  obtain ⟨i, j, rfl, rfl, q⟩ := h
  obtain ⟨t, rfl⟩ := rx
  obtain ⟨t', rfl⟩ := ry
  exact in_str (fin_bl I q rfl)

/-- is None, is not None: the right side a value none -/
theorem op_isN : OpR X (compareOp .Is) (fun x y H Q => y = .non ∧ Q (.bl (decide (x = .non))) H) := by
  intro pins s σ H x y v u Q I rx ry h
  obtain ⟨rfl, q⟩ := h
  cases ry
  refine is_none_gen (fin_bl I q ?_)
  cases x <;> first
    | (cases rx; rfl)
    | (obtain ⟨t, rfl⟩ := rx; rfl)
theorem nomark (b : Expr) {op : CmpOp} (h : op ≠ .In := by decide) (h2 : op ≠ .NotIn := by decide) : behindInMarks op b = false := by
  have e1 : (op == CmpOp.In) = false := by cases op <;> first | rfl | exact absurd rfl h
  have e2 : (op == CmpOp.NotIn) = false := by cases op <;> first | rfl | exact absurd rfl h2
  cases b <;> simp [behindInMarks, e1, e2]
/-- a comparison as a value; hm: nomark b, or (for in, not in) by with_unfolding_all rfl -/
theorem pe_cmpR {op : CmpOp} {r : R2} (ho : OpR X (compareOp op) r) (ha : PE X a ta) (hb : PE X b tb) (hm : behindInMarks op b = false) : PE X (.Compare a [op] [b] pos) (tOp r ta tb) := by
  intro pins s σ H Q I h
  exact wpAny_Compare1 (binT ha hb I h fun v u s2 x y H2 I2 rx ry q => ho pins s2 σ H2 x y v u Q I2 rx ry q) hm
/-- a reading of a value as a test -/
def tTest (t : TE) : TT := fun σ H Q => t σ H fun x H' => ∃ k, x = .bl k ∧ Q k H'
theorem pt_cmpR {op : CmpOp} {r : R2} (ho : OpR X (compareOp op) r) (ha : PE X a ta) (hb : PE X b tb) (hm : behindInMarks op b = false) : PT X (.Compare a [op] [b] pos) (tTest (tOp r ta tb)) := by
  intro pins s σ H Q I h
  refine wpAny_isTrue_Compare1 (thn (ha pins s σ H _ I h) fun v s1 ⟨x, H1, I1, r1, q1⟩ => thn (hb pins s1 σ H1 _ I1 q1) fun u s2 ⟨y, H2, I2, r2, q2⟩ =>
    thn (ho pins s2 σ H2 x y v u _ I2 r1 r2 q2) fun c s3 ⟨z, H3, I3, r3, k, e, q3⟩ => ?_) hm
  subst e
  cases r3
  exact wpAny_truthy_bool ⟨H3, I3, q3⟩
/-- a op1 b op2 c -/
def tChain (r r' : R2) (ta tb tc : TE) : TE := fun σ H Q => ta σ H fun x H1 => tb σ H1 fun y H2 => r x y H2 fun z H3 => ∃ k, z = .bl k ∧
  (if k = true then tc σ H3 fun w' H4 => r' y w' H4 Q else Q (.bl false) H3)
theorem pt_chain {op op' : CmpOp} {r r' : R2} (ho : OpR X (compareOp op) r) (ho' : OpR X (compareOp op') r') (ha : PE X a ta) (hb : PE X b tb) (hc : PE X c tc)
    (hm : lastMarks [op, op'] [b, c] = false := by with_unfolding_all rfl) : PT X (.Compare a [op, op'] [b, c] pos) (tTest (tChain r r' ta tb tc)) := by
  intro pins s σ H Q I h
  refine isTrue_chain (thn (ha pins s σ H _ I h) fun v s1 ⟨x, H1, I1, r1, q1⟩ => test_link (thn (hb pins s1 σ H1 _ I1 q1) fun u s2 ⟨y, H2, I2, r2, q2⟩ =>
    thn (ho pins s2 σ H2 x y v u _ I2 r1 r2 q2) fun d s3 ⟨z, H3, I3, r3, k, e, q3⟩ => ?_)) hm
  subst e
  cases r3
  refine wpAny_truthy_bool ?_
  cases k with
  | false =>
    obtain ⟨k', e', q'⟩ := q3
    cases e'
    exact ite_ff ⟨H3, I3, q'⟩
  | true =>
    refine ite_tt (test_last (thn (hc pins s3 σ H3 _ I3 q3) fun w' s4 ⟨z', H4, I4, r4, q4⟩ => thn (ho' pins s4 σ H4 y z' u w' _ I4 r2 r4 q4) fun d' s5 ⟨z2, H5, I5, r5, k2, e2, q5⟩ => ?_))
    subst e2
    cases r5
    exact wpAny_truthy_bool ⟨H5, I5, q5⟩

/-! ### truth -/
/-- a value's truth by the abstract heap -/
def TruV (K : PySem.W.Frag) (x : V) (H : Hp) (k : Bool) : Prop :=
  match x with
  | .non => k = false
  | .bl b => k = b
  | .int i => k = (i != 0)
  | .str y => y.length ≤ sizeLine ∧ k = ((y.length : Int) != 0)
  | .byt y => y.size ≤ sizeLine ∧ k = ((y.size : Int) != 0)
  | .ref p => (∃ xs, SqL K H p xs ∧ k = !xs.isEmpty) ∨ (∃ xs, SqT K H p xs ∧ k = !xs.isEmpty) ∨ ∃ kvs, H p = some (.dK kvs) ∧ k = !kvs.isEmpty
  | _ => False
theorem isEmpty_kv {κ : Type} {kvs : List (κ × V)} {vs : List (κ × Value)} (r : KV kvs vs) : (!vs.isEmpty) = !kvs.isEmpty := by
  cases r <;> rfl
theorem isEmpty_of {xs : List V} {its : List Value} (r : Vals xs its) : (!its.toArray.isEmpty) = !xs.isEmpty := by
  cases r <;> simp
theorem line63 : (sizeLine : Nat) < 2 ^ 63 := by rw [sizeLine_eq]; decide
theorem tru_ok : TruR X (fun x H Q => ∃ k, TruV X.K x H k ∧ Q k H) := by
  intro pins s σ H x v Q I rx h
  obtain ⟨k, e, q⟩ := h
  have hl := line63
  have hs : sizeLine = 16777216 := sizeLine_eq
  cases x with
  | non =>
    cases rx
    have e' : k = false := e
    subst e'
    exact truthy_none ⟨H, I, q⟩
  | bl b =>
    cases rx
    have e' : k = b := e
    subst e'
    exact wpAny_truthy_bool ⟨H, I, q⟩
  | int i =>
    obtain ⟨t, rfl⟩ := rx
    have e' : k = (i != 0) := e
    subst e'
    exact PySem.P.truthy_int ⟨H, I, q⟩
  | str y =>
    obtain ⟨t, rfl⟩ := rx
    obtain ⟨hy, e'⟩ : y.length ≤ sizeLine ∧ k = ((y.length : Int) != 0) := e
    subst e'
    exact PySem.P.truthy_str (by omega) ⟨H, I.tok _, q⟩
  | byt y =>
    obtain ⟨t, rfl⟩ := rx
    obtain ⟨hy, e'⟩ : y.size ≤ sizeLine ∧ k = ((y.size : Int) != 0) := e
    subst e'
    exact PySem.W.truthy_bytes (by omega) ⟨H, I.tok _, q⟩
  | ref p =>
    cases rx
    have e' : (∃ xs, SqL X.K H p xs ∧ k = !xs.isEmpty) ∨ (∃ xs, SqT X.K H p xs ∧ k = !xs.isEmpty) ∨ ∃ kvs, H p = some (.dK kvs) ∧ k = !kvs.isEmpty := e
    rcases e' with ⟨xs, hx, e'⟩ | ⟨xs, hx, e'⟩ | ⟨kvs, hx, e'⟩
    · subst e'
      obtain ⟨its, r, pl, hz⟩ := I.list hx
      have hlen := r.length
      exact wpAny_truthy_list pl.isList (by simp only [List.size_toArray]; omega) ⟨H, I.tok _, by rw [isEmpty_of r]; exact q⟩
    · subst e'
      obtain ⟨its, r, pl, hz⟩ := I.tuple hx
      have hlen := r.length
      exact truthy_tuple pl (by simp only [List.size_toArray]; omega) ⟨H, I.tok _, by rw [isEmpty_of r]; exact q⟩
    · subst e'
      obtain ⟨hz, hS, vs, r, m⟩ : kvs.length ≤ sizeLine ∧ (p == sysModules) = false ∧ ∃ vs, KV kvs vs ∧ s.heap.DictOf (mixKind X.prog X.w) p vs := I.hok p _ hx
      have hlen : kvs.length = vs.length := Paired.length r
      exact wpAny_truthy_dict hS m (by omega) ⟨H, I.tok _, by rw [isEmpty_kv r]; exact q⟩
  | _ => exact (show False from e).elim
/-- any expression whose test is its value's truth (a name, a call, a subscript, a field ..: he by fun _ => rfl) -/
theorem pt_truth (ha : PE X a ta) (he : ∀ whole, isTrue a X.env whole = (do let v ← whole; standAt a.pos; holding [v] (truthy v))) :
    PT X a (fun σ H Q => ta σ H fun x H' => ∃ k, TruV X.K x H' k ∧ Q k H') := by
  intro pins s σ H Q I h
  exact isTrue_plain (thn (ha pins s σ H _ I h) fun v s1 ⟨x, H1, I1, r1, q1⟩ => tru_ok pins s1 σ H1 x v Q I1 r1 q1) (he _)

/-! ### strs and bytes -/
theorem op_add_str : OpR X (binaryOp .Add) (fun x y H Q => ∃ i j, x = .str i ∧ y = .str j ∧ i.length + j.length ≤ sizeLine ∧ Q (.str (i ++ j)) H) := by
  intro pins s σ H x y v u Q I rx ry h
  obtain ⟨i, j, rfl, rfl, hz, q⟩ := h
  obtain ⟨t, rfl⟩ := rx
  obtain ⟨t', rfl⟩ := ry
  exact wpAny_with_toks (n := 1) I.tk (add_str (fun t' tk htk => ⟨.str (i ++ j), H, I.tok _, ⟨_, rfl⟩, q⟩) hz)
/-! ### scalar builtins, by CallR -/
theorem vals1 {x : V} {us : List Value} (r : Vals [x] us) : ∃ u, us = [u] ∧ RelV x u := by
  cases r with
  | cons r1 r2 => cases r2; exact ⟨_, rfl, r1⟩
theorem vals2 {x y : V} {us : List Value} (r : Vals [x, y] us) : ∃ u w', us = [u, w'] ∧ RelV x u ∧ RelV y w' := by
  cases r with
  | cons r1 r2 =>
    cases r2 with
    | cons r3 r4 => cases r4; exact ⟨_, _, rfl, r1, r3⟩
theorem call_abs : CallR X (.builtin "abs") (fun xs H Q => ∃ i, xs = [.int i] ∧ Q (.int (if i < 0 then -i else i)) H) := by
  intro pins s σ H xs us Q I r h
  obtain ⟨i, rfl, q⟩ := h
  obtain ⟨u, rfl, t, rfl⟩ := vals1 r
  exact wpAny_with_toks (n := 1) I.tk (call_abs_int fun u tk htk => ⟨.int (if i < 0 then -i else i), H, I.tok _, ⟨_, rfl⟩, q⟩)
theorem call_int1 : CallR X (.type "int") (fun xs H Q => (∃ i, xs = [.int i] ∧ Q (.int i) H) ∨ ∃ k, xs = [.bl k] ∧ Q (.int (if k then 1 else 0)) H) := by
  intro pins s σ H xs us Q I r h
  rcases h with ⟨i, rfl, q⟩ | ⟨k, rfl, q⟩
  · obtain ⟨u, rfl, t, rfl⟩ := vals1 r
    exact call_int_int ⟨.int i, H, I, ⟨_, rfl⟩, q⟩
  · obtain ⟨u, rfl, r1⟩ := vals1 r
    cases r1
    exact call_int_bool ⟨.int (if k then 1 else 0), H, I.tok _, ⟨_, rfl⟩, q⟩
theorem call_str_int : CallR X (.type "str") (fun xs H Q => ∃ i, xs = [.int i] ∧ i.natAbs.log2 < 1920 ∧ Q (.str (toString i)) H) := by
  intro pins s σ H xs us Q I r h
  obtain ⟨i, rfl, hz, q⟩ := h
  obtain ⟨u, rfl, t, rfl⟩ := vals1 r
  exact PySem.P.str_of_int hz ⟨.str _, H, I.tok _, ⟨_, rfl⟩, q⟩
theorem call_ord : CallR X (.builtin "ord") (fun xs H Q => ∃ x, xs = [.str x] ∧ x.length = 1 ∧ Q (.int (x.cps.getD 0 0 : Nat)) H) := by
  intro pins s σ H xs us Q I r h
  obtain ⟨x, rfl, hz, q⟩ := h
  obtain ⟨u, rfl, t, rfl⟩ := vals1 r
  exact ord_of_one hz ⟨.int _, H, I.tok _, ⟨_, rfl⟩, q⟩
/-- len of a str, a bytes, a list, a tuple -/
def LenV (K : PySem.W.Frag) (x : V) (H : Hp) (n : Nat) : Prop :=
  match x with
  | .str y => y.length ≤ sizeLine ∧ n = y.length
  | .byt y => y.size ≤ sizeLine ∧ n = y.size
  | .ref p => (∃ xs, SqL K H p xs ∧ n = xs.length) ∨ ∃ xs, SqT K H p xs ∧ n = xs.length
  | _ => False
theorem call_len : CallR X (.builtin "len") (fun xs H Q => ∃ x n, xs = [x] ∧ LenV X.K x H n ∧ Q (.int n) H) := by
  intro pins s σ H xs us Q I r h
  obtain ⟨x, n, rfl, e, q⟩ := h
  obtain ⟨u, rfl, rx⟩ := vals1 r
  have hl := line63
  have hs : sizeLine = 16777216 := sizeLine_eq
  cases x with
  | str y =>
    obtain ⟨t, rfl⟩ := rx
    obtain ⟨hy, e'⟩ : y.length ≤ sizeLine ∧ n = y.length := e
    subst e'
    exact len_str (by omega) ⟨.int _, H, I.tok _, ⟨_, rfl⟩, q⟩
  | byt y =>
    obtain ⟨t, rfl⟩ := rx
    obtain ⟨hy, e'⟩ : y.size ≤ sizeLine ∧ n = y.size := e
    subst e'
    exact PySem.W.len_bytes (by omega) ⟨.int _, H, I.tok _, ⟨_, rfl⟩, q⟩
  | ref p =>
    cases rx
    have e' : (∃ xs, SqL X.K H p xs ∧ n = xs.length) ∨ ∃ xs, SqT X.K H p xs ∧ n = xs.length := e
    rcases e' with ⟨xs, hx, e'⟩ | ⟨xs, hx, e'⟩
    · subst e'
      obtain ⟨its, r', pl, hz⟩ := I.list hx
      have hlen := r'.length
      exact Calls.call_len_list pl.isList (by simp only [List.size_toArray]; omega) ⟨.int xs.length, H, I.tok _, ⟨_, by simp only [List.size_toArray]; rw [hlen]⟩, q⟩
    · subst e'
      obtain ⟨its, r', pl, hz⟩ := I.tuple hx
      have hlen := r'.length
      exact len_tuple pl (by simp only [List.size_toArray]; omega) ⟨.int xs.length, H, I.tok _, ⟨_, by simp only [List.size_toArray]; rw [hlen]⟩, q⟩
  | _ => exact (show False from e).elim
end
end L2

namespace L2
open PySem PySem.Spec PyProof.Rows

/-! ### an instance, its attributes a map -/
structure ObjM (h : Heap) (x dx C : Addr) (mA : Str → Option Value) : Prop where
  obj : h.get? x = some (PySem.W.instObj C dx)
  ns : h.Ns1 dx mA
  ne : dx ≠ x

theorem lookIn_ns {h : Heap} {dx : Addr} {mA : Str → Option Value} (n : h.Ns1 dx mA) : ∃ od, h.get? dx = some od ∧ ∀ name, PySem.W.lookIn name od = some (mA name) := by
  obtain ⟨o, es, ep, ho, hd, hk, _, hm⟩ := n
  refine ⟨o, ho, fun name => ?_⟩
  have e := hm name
  unfold nsFind findBy at e
  rw [← Array.find?_toList] at e
  unfold PySem.W.lookIn
  rw [hd]
  dsimp only
  split
  · rename_i y q
    rw [q] at e
    exact congrArg some e
  · rename_i q
    rw [q] at e
    have a : es.toList.any (·.refKey) = false := by
      rw [List.any_eq_false]
      intro y hy
      obtain ⟨z, t, hkey⟩ := hk y (Array.mem_toList_iff.mp hy)
      simp [DictEntry.refKey, hkey]
    have a' : ¬ es.toList.any (·.refKey) = true := by rw [a]; exact Bool.false_ne_true
    rw [if_neg a']
    exact congrArg some e

theorem ObjM.look {h : Heap} {x dx C : Addr} {mA : Str → Option Value} (I : ObjM h x dx C mA) : ∃ od, PySem.W.InstAt h x (PySem.W.instObj C dx) C (some od) ∧ ∀ name, PySem.W.lookIn name od = some (mA name) :=
  let ⟨od, ho, hl⟩ := lookIn_ns I.ns
  ⟨od, ⟨I.obj, rfl, rfl, ho⟩, hl⟩

section
variable {prog : Program} {w : World} {A : Around} {E : Value → Shared → Prop} {s : Shared} {K : PySem.W.Frag} {x dx C f : Addr} {mA : Str → Option Value} {name : Str} {v : Value}

theorem get_map {expr : Bool} {Q : Value → Shared → Prop} (X : K.In s.heap) (I : ObjM s.heap x dx C mA) (hg : PySem.W.plainGet K C name = true) (hh : PySem.W.hasDictIn K C = true)
    (ha : PySem.W.findIn K (.ref C) name = some none) (hv : mA name = some v) (hv' : PySem.W.handedIn v = true) (h : Q v { s with toks := s.toks + 1 }) :
    wpAny (model prog w) A (getAttr (.ref x) name expr) Q E s := by
  obtain ⟨od, J, hl⟩ := I.look
  exact PySem.W.get_value X J (PySem.W.plainGet_of hg).1 (PySem.W.findObj_own hh ha rfl (by rw [hl, hv])) hv' h

theorem get_meth {pl : Sem Bool} {Q : Value × List Value → Shared → Prop} (X : K.In s.heap) (I : ObjM s.heap x dx C mA) (hg : PySem.W.plainGet K C name = true)
    (hf : PySem.W.findIn K (.ref C) name = some (some (.ref f))) (ht : PySem.W.isFn K (.ref f) = true) (hv : mA name = none) (h : Q (.ref f, [.ref x]) s) :
    wpAny (model prog w) A (getMethod (.ref x) name pl) Q E s := by
  obtain ⟨od, J, hl⟩ := I.look
  exact PySem.W.method_fn X J (PySem.W.plainGet_of hg).1 (PySem.W.plainGet_of hg).2 hf (beq_iff_eq.mp ht) (by show (PySem.W.lookIn name od).map (·.isSome) = some false; rw [hl, hv]; rfl) h

theorem set_map {ns : List Str} {Q : Unit → Shared → Prop} (X : K.In s.heap) (I : ObjM s.heap x dx C mA)
    (hs : PySem.W.findIn K (.ref C) "__setattr__" = some (some (.builtin "object.__setattr__"))) (hp : PySem.W.plainOver K C = true) (ht : PySem.W.takerIn K C name = some none) (hh : PySem.W.hasDictIn K C = true)
    (hw : PySem.Within mA ns) (hsz : ns.length ≤ sizeLine)
    (h : ∀ h', ObjM h' x dx C (fun y => if y = name then some v else mA y) → Heap.SameBut dx s.heap h' → Q () { s with heap := h', toks := s.toks + 2 }) :
    wpAny (model prog w) A (setAttr (.ref x) name v) Q E s := by
  obtain ⟨od, J, hl⟩ := I.look
  refine PySem.W.set_plain X J hs (PySem.W.osa_open (s := { s with toks := s.toks + 1 }) (r := none) X J hp ht fun b => ?_)
  obtain ⟨cd, hc, hd'⟩ := PySem.W.any_some hh
  have hx : s.heap.get? x = some ⟨.ref C, some dx, .plain, #[]⟩ := I.obj
  refine wpAny_bind (wpAny_pure (wpAny_bind (wpAny_bind (wpAny_loadPart hx (wpAny_bind (PySem.W.Looks.here (s := { s with toks := s.toks + 1 }) (PySem.W.looks_clsIn X hc) ?_))))))
  rw [hd']
  refine wpAny_pure (a := some dx) (wpAny_bind (wpAny_pure (wpAny_bind ?_)))
  refine wpAny_nsSet1 (s := { s with toks := s.toks + 1 }) I.ns fun h' hn2 hs2 => ?_
  obtain ⟨oD, esD, epD, hoD, hdD, hcD⟩ := hn2.count (PySem.Within.cons name v hw)
  refine wpAny_bind (wpAny_lookBehind hoD (by rw [hdD]; exact pastItsLine_dict (Nat.le_trans hcD (by rw [List.length_cons]; omega))) ?_)
  exact wpAny_pure (h _ ⟨(hs2.2 _ (Ne.symm I.ne)).trans I.obj, hn2, I.ne⟩ hs2)

/-- C(..): the dict at the heap's end, the instance behind it; then its __init__ -/
theorem make_map {R : Result → Shared → Prop} {vs : List Value} {kw : List (Str × Value)} (X : K.In s.heap) (hm : PySem.W.makesIn K C = true)
    (hi : PySem.W.findIn K (.ref C) "__init__" = some (some (.ref f))) (hf : PySem.W.typeIn K (.ref f) = some (.type "function"))
    (h : codeAny (model prog w) (A.under (.builtin "type.__call__" ⟨.ref C :: vs, kw⟩)) (.call (.ref f) ⟨.ref (s.heap.objs.size + 1) :: vs, kw⟩) (PySem.W.InitBack (s.heap.objs.size + 1) R)
      { s with heap := (s.heap.push PySem.W.emptyDict).push (PySem.W.instObj C s.heap.objs.size) }) :
    codeAny (model prog w) A (.call (.ref C) ⟨vs, kw⟩) R s := by
  obtain ⟨hh, g, d, t, os⟩ := s
  exact PySem.W.make_core (PySem.W.makes_of X hm) (PySem.W.looks_findIn X hi) (fun self => PySem.W.bind_fn X self hf) (.inl rfl) h
end

/-! ### the attributes as a list of pairs -/
def putF (f : Str) (v : V) : List (Str × V) → List (Str × V)
  | [] => [(f, v)]
  | (g, x) :: r => if g = f then (g, v) :: r else (g, x) :: putF f v r
theorem lookup_putF (f g : Str) (v : V) : ∀ fs : List (Str × V), (putF f v fs).lookup g = if g = f then some v else fs.lookup g
  | [] => by
    show List.lookup g [(f, v)] = _
    by_cases h : g = f
    · have hb : (g == f) = true := beq_iff_eq.mpr h
      simp only [List.lookup, hb, if_pos h]
    · have hb : (g == f) = false := beq_eq_false_iff_ne.mpr h
      simp only [List.lookup, hb, if_neg h]
  | (k, x) :: r => by
    have ih := lookup_putF f g v r
    rw [show putF f v ((k, x) :: r) = (if k = f then (k, v) :: r else (k, x) :: putF f v r) from rfl]
    by_cases hk : k = f
    · rw [if_pos hk]
      by_cases h : g = k
      · have hb : (g == k) = true := beq_iff_eq.mpr h
        simp only [List.lookup, hb, if_pos (h.trans hk)]
      · have hb : (g == k) = false := beq_eq_false_iff_ne.mpr h
        simp only [List.lookup, hb, if_neg (fun e : g = f => h (e.trans hk.symm))]
    · rw [if_neg hk]
      by_cases h : g = k
      · have hb : (g == k) = true := beq_iff_eq.mpr h
        simp only [List.lookup, hb, if_neg (fun e : g = f => hk (h.symm.trans e))]
      · have hb : (g == k) = false := beq_eq_false_iff_ne.mpr h
        simp only [List.lookup, hb]
        exact ih
theorem keys_putF (f : Str) (v : V) : ∀ fs : List (Str × V), f ∈ (putF f v fs).map (·.1) ∧ ∀ g, g ∈ fs.map (·.1) → g ∈ (putF f v fs).map (·.1)
  | [] => ⟨by simp [putF], fun g h => by simp at h⟩
  | (k, x) :: r => by
    obtain ⟨i1, i2⟩ := keys_putF f v r
    rw [show putF f v ((k, x) :: r) = (if k = f then (k, v) :: r else (k, x) :: putF f v r) from rfl]
    by_cases hk : k = f
    · rw [if_pos hk]
      subst hk
      exact ⟨by simp, fun g h => by simpa using h⟩
    · rw [if_neg hk]
      refine ⟨?_, fun g h => ?_⟩
      · rw [List.map_cons]
        exact List.mem_cons_of_mem _ i1
      · rw [List.map_cons] at h ⊢
        rcases List.mem_cons.mp h with e | e
        · exact List.mem_cons.mpr (.inl e)
        · exact List.mem_cons_of_mem _ (i2 g e)
theorem length_putF (f : Str) (v : V) : ∀ fs : List (Str × V), (putF f v fs).length ≤ fs.length + 1
  | [] => by simp [putF]
  | (k, x) :: r => by
    have ih := length_putF f v r
    rw [show putF f v ((k, x) :: r) = (if k = f then (k, v) :: r else (k, x) :: putF f v r) from rfl]
    by_cases hk : k = f
    · rw [if_pos hk, List.length_cons, List.length_cons]; omega
    · rw [if_neg hk, List.length_cons, List.length_cons]; omega

theorem RelO.some_of {v : V} {o : Option Value} (r : RelO (some v) o) : ∃ u, o = some u ∧ RelV v u := by
  cases o with
  | none => exact (show False from r).elim
  | some u => exact ⟨u, rfl, r⟩
theorem RelO.none_of {o : Option Value} (r : RelO none o) : o = none := by
  cases o with
  | none => rfl
  | some u => exact (show False from r).elim
theorem handed_of {v : V} {u : Value} (r : RelV v u) : PySem.W.handedIn u = true := by
  cases v with
  | non => cases (show u = Value.none from r); rfl
  | bl b => cases (show u = Value.bool b from r); rfl
  | int i => obtain ⟨t, e⟩ := (show ∃ t, u = Value.int i t from r); cases e; rfl
  | str x => obtain ⟨t, e⟩ := (show ∃ t, u = Value.str x t from r); cases e; rfl
  | byt b => obtain ⟨t, e⟩ := (show ∃ t, u = Value.bytes b t from r); cases e; rfl
  | flt b => obtain ⟨t, e⟩ := (show ∃ t, u = Value.float b t from r); cases e; rfl
  | ref a => cases (show u = Value.ref a from r); rfl
  | ty n => cases (show u = Value.type n from r); rfl

section
variable {P : Program} {w : World} {H H' : Hp} {h h' : Heap} {a C dx : Addr} {fs fs' : List (Str × V)}
theorem ins_get (hok : HOk P w H h) (e : H a = some (.ins C dx fs)) : ∃ mA, ObjM h a dx C mA ∧ (∀ f, RelO (fs.lookup f) (mA f)) ∧ PySem.Within mA (fs.map (·.1)) ∧ fs.length ≤ 1000 ∧ H dx = some (.own a) := by
  obtain ⟨d, z, ne, ob, mA, n, r, q⟩ := (show ObjOk P w H h a (.ins C dx fs) from hok a _ e)
  exact ⟨mA, ⟨ob, n, ne⟩, r, q, z, d⟩
end

/-! ### what of the text a class must have -/
structure Cls (K : PySem.W.Frag) (C : Addr) : Prop where
  pg : PySem.W.plainGet K C Str.empty = true
  hd : PySem.W.hasDictIn K C = true
  po : PySem.W.plainOver K C = true
  sa : PySem.W.findIn K (.ref C) "__setattr__" = some (some (.builtin "object.__setattr__"))
theorem Cls.get {K : PySem.W.Frag} {C : Addr} (c : Cls K C) (f : Str) : PySem.W.plainGet K C f = true := c.pg
/-- no class of it has the name -/
def NoAttr (K : PySem.W.Frag) (C : Addr) (f : Str) : Prop := PySem.W.findIn K (.ref C) f = some none
theorem NoAttr.taker {K : PySem.W.Frag} {C : Addr} {f : Str} (n : NoAttr K C f) : PySem.W.takerIn K C f = some none := by
  unfold PySem.W.takerIn
  rw [show PySem.W.findIn K (.ref C) f = some none from n]
  rfl
/-- a method: a plain def of the class or of one above it -/
structure Meth (K : PySem.W.Frag) (C : Addr) (m : Str) (f : Addr) : Prop where
  at_ : PySem.W.findIn K (.ref C) m = some (some (.ref f))
  fn : PySem.W.isFn K (.ref f) = true
  kp : PySem.W.keepIn K (.ref f) = true

section
variable {X : Cx} {pins : List (Addr × Obj)} {σ : St} {H : Hp} {s : Shared} {a C dx : Addr} {fs : List (Str × V)} {f : Str} {v : V} {A : Around} {E : Value → Shared → Prop}

theorem getattr_ok {b : Bool} {Q : Value → Shared → Prop} (I : Inv X pins σ H s) (e : H a = some (.ins C dx fs)) (c : Cls X.K C) (n : NoAttr X.K C f) (l : fs.lookup f = some v)
    (h : ∀ u s', Inv X pins σ H s' → RelV v u → Q u s') : wpAny (model X.prog X.w) A (getAttr (.ref a) f b) Q E s := by
  obtain ⟨mA, O, r, _, _, _⟩ := ins_get I.hok e
  obtain ⟨u, hu, ru⟩ := RelO.some_of (v := v) (o := mA f) (by rw [← l]; exact r f)
  exact get_map I.kIn O (c.get f) c.hd n hu (handed_of ru) (h u _ (I.tok _) ru)

theorem getmeth_ok {m : Str} {g : Addr} {pl : Sem Bool} {Q : Value × List Value → Shared → Prop} (I : Inv X pins σ H s) (e : H a = some (.ins C dx fs)) (c : Cls X.K C) (k : Meth X.K C m g) (l : fs.lookup m = none)
    (h : Q (.ref g, [.ref a]) s) : wpAny (model X.prog X.w) A (getMethod (.ref a) m pl) Q E s := by
  obtain ⟨mA, O, r, _, _, _⟩ := ins_get I.hok e
  have hn : mA m = none := RelO.none_of (by rw [← l]; exact r m)
  exact get_meth I.kIn O (c.get m) k.at_ k.fn hn h

theorem setattr_ok {y : V} {u : Value} {Q : Unit → Shared → Prop} (I : Inv X pins σ H s) (e : H a = some (.ins C dx fs)) (c : Cls X.K C) (n : NoAttr X.K C f) (hl : fs.length < 1000) (ry : RelV y u)
    (h : ∀ s', Inv X pins σ (upd H a (.ins C dx (putF f y fs))) s' → Q () s') : wpAny (model X.prog X.w) A (setAttr (.ref a) f u) Q E s := by
  obtain ⟨mA, O, r, wi, _, ho⟩ := ins_get I.hok e
  have hz : (fs.map (·.1)).length ≤ sizeLine := by rw [List.length_map, sizeLine_eq]; omega
  refine set_map I.kIn O c.sa c.po n.taker c.hd wi hz fun h' O' sb => h _ ?_
  have hd : ∃ o, h'.get? dx = some o := let ⟨o, _, _, e', _⟩ := O'.ns; ⟨o, e'⟩
  refine I.write (x := a) (e := dx) (by rw [e]; exact True.intro) (.inr ho) (fun b q hb z => (sb.2 b hb).trans z) hd ?_
  refine ⟨by rw [upd_ne O.ne]; exact ho, ?_, O.ne, O'.obj, _, O'.ns, fun g => ?_, fun g hg => ?_⟩
  · have := length_putF f y fs; omega
  · show RelO ((putF f y fs).lookup g) (if g = f then some u else mA g)
    rw [lookup_putF]
    by_cases q : g = f
    · rw [if_pos q, if_pos q]; exact ry
    · rw [if_neg q, if_neg q]; exact r g
  · by_cases q : g = f
    · rw [q]; exact (keys_putF f y fs).1
    · refine (keys_putF f y fs).2 g (wi g fun z => hg ?_)
      show (if g = f then some u else mA g) = none
      rw [if_neg q]; exact z

/-- a new instance, tracked, without attributes -/
theorem Inv.made (I : Inv X pins σ H s) : Inv X pins σ (upd (upd H s.heap.objs.size (.own (s.heap.objs.size + 1))) (s.heap.objs.size + 1) (.ins C s.heap.objs.size []))
    { s with heap := (s.heap.push PySem.W.emptyDict).push (PySem.W.instObj C s.heap.objs.size) } := by
  have e1 : (s.heap.push PySem.W.emptyDict).get? s.heap.objs.size = some PySem.W.emptyDict := Heap.get?_push_size s.heap rfl
  have e2 : ((s.heap.push PySem.W.emptyDict).push (PySem.W.instObj C s.heap.objs.size)).get? (s.heap.objs.size + 1) = some (PySem.W.instObj C s.heap.objs.size) := by
    have := Heap.get?_push_size (s.heap.push PySem.W.emptyDict) (o := PySem.W.instObj C s.heap.objs.size) rfl
    rwa [Heap.size_push] at this
  have e3 : (s.heap.push PySem.W.emptyDict).Ns s.heap.objs.size (fun _ => none) := ⟨PySem.W.emptyDict, #[], _, e1, rfl, (fun e he => absurd he (by simp)), fun _ => rfl⟩
  have I1 := I.laid (a := s.heap.objs.size) (o := .own (s.heap.objs.size + 1)) (h' := s.heap.push PySem.W.emptyDict) (t' := s.toks) (fun b u q => Heap.get?_push_of_some _ q) (Nat.le_refl _) ⟨_, e1⟩
  refine I1.laid (a := s.heap.objs.size + 1) (o := .ins C s.heap.objs.size []) (t' := s.toks) (fun b u q => Heap.get?_push_of_some _ q) (Nat.le_of_eq (Heap.size_push _ _)) ?_
  have ne : s.heap.objs.size ≠ s.heap.objs.size + 1 := Nat.ne_of_lt (Nat.lt_succ_self _)
  refine ⟨by rw [upd_ne ne, upd_same], Nat.zero_le _, ne, e2, fun _ => none, (Heap.Ns1.of_empty e3).at fun o q => Heap.get?_push_of_some _ q, fun _ => True.intro, fun y hy => absurd rfl hy⟩

/-- e.f where nothing but the object is asked: through attributeBase (super) and the last hold -/
theorem attr_of {prog : Program} {w : World} {env : Env} {e : Expr} {f : Str} {pos : Pos} {s : Shared} {Q : Value → Shared → Prop} (hb : attributeBase e f env (eval e env) = eval e env)
    (h : wpAny (model prog w) A (eval e env) (fun o s₁ => wpAny (model prog w) A (getAttr o f true) Q E s₁) E s) : wpAny (model prog w) A (eval (.Attribute e f pos) env) Q E s :=
  Attribute_any_ h (by rw [arm_eval_Attribute, hb])
end

/-! ### readings and rules -/
/-- e.f, an attribute of the instance -/
def tFld (K : PySem.W.Frag) (ta : TE) (f : Str) : TE := fun σ H Q => ta σ H fun x H1 => ∃ a C dx fs v, x = .ref a ∧ H1 a = some (.ins C dx fs) ∧ Cls K C ∧ NoAttr K C f ∧ fs.lookup f = some v ∧ Q v H1
/-- e.f = value -/
def sFld (K : PySem.W.Frag) (ta tv : TE) (f : Str) : TS := fun D σ H => tv σ H fun y H1 => ta σ H1 fun x H2 => ∃ a C dx fs, x = .ref a ∧ H2 a = some (.ins C dx fs) ∧ Cls K C ∧ NoAttr K C f ∧ fs.length < 1000 ∧
  D.nx σ (upd H2 a (.ins C dx (putF f y fs)))
section
variable {X : Cx} {o e value : Expr} {f : Str} {pos pos' tpos : Pos} {ta tv : TE}
theorem pe_fld (he : PE X e ta) (hb : attributeBase e f X.env (eval e X.env) = eval e X.env) : PE X (.Attribute e f pos) (tFld X.K ta f) := by
  intro pins s σ H Q I h
  refine attr_of hb (thn (he pins s σ H _ I h) fun u s1 ⟨x, H1, I1, rx, a, C, dx, fs, v, ex, ea, c, n, l, q⟩ => ?_)
  subst ex
  obtain rfl : u = Value.ref a := rx
  exact getattr_ok I1 ea c n l fun u' s2 I2 ru => ⟨v, H1, I2, ru, q⟩
theorem ps_fld (ha : PE X o ta) (hv : PE X value tv) (hs : swapsWith value (some (.Attribute o f pos')) pos.line X.env = pure false) : PS X (.Assign [.Attribute o f pos'] value pos) (sFld X.K ta tv f) := by
  intro pins s σ H D I h
  refine plainObj_wpAny_Assign_Attribute (thn (hv pins s σ H _ I h) fun u s1 ⟨y, H1, I1, ry, q⟩ => thn (ha pins s1 σ H1 _ I1 q) fun ov s2 ⟨x, H2, I2, rx, a, C, dx, fs, ex, ea, c, n, l, q2⟩ => ?_) hs
  subst ex
  obtain rfl : ov = Value.ref a := rx
  exact setattr_ok I2 ea c n l ry fun s3 I3 => ⟨σ, _, I3, q2⟩
/-- what is between an instance and its method: the tree of a method call -/
theorem methcall_of {pl : Sem Bool} {m : Str} {apos : Pos} {args : List Expr} {pins : List (Addr × Obj)} {s : Shared} {σ : St} {H : Hp} {Q : Value → Shared → Prop} {te : TE} (he : PE X e te) (I : Inv X pins σ H s)
    (h : te σ H fun x H1 => ∃ a C dx fs g, x = .ref a ∧ H1 a = some (.ins C dx fs) ∧ Cls X.K C ∧ Meth X.K C m g ∧ fs.lookup m = none ∧
      ∀ s1, Inv X pins σ H1 s1 → wpAny (model X.prog X.w) X.A (callWith pos (.ref g) [.ref a] (backTo pos (starEach args X.env)) (backToKw pos (keywordEach [] X.env))) Q X.xe s1)
    (ht : eval (.Call (.Attribute e m apos) args [] pos) X.env = (do
      let ov ← eval e X.env
      standAt apos.atName
      let (f, first) ← holding [ov] (getMethod ov m pl)
      callWith pos f first (backTo pos (starEach args X.env)) (backToKw pos (keywordEach [] X.env)))) :
    wpAny (model X.prog X.w) X.A (eval (.Call (.Attribute e m apos) args [] pos) X.env) Q X.xe s := by
  refine PySem.W.methodCall_KW (pl := pl) (thn (he pins s σ H _ I h) fun u s1 ⟨x, H1, I1, rx, a, C, dx, fs, g, ex, ea, c, k, l, q⟩ => ?_) ht
  subst ex
  obtain rfl : u = Value.ref a := rx
  exact getmeth_ok I1 ea c k l (q s1 I1)
end

/-! ### isinstance -/
section
variable {X : Cx} {pins : List (Addr × Obj)} {σ : St} {H : Hp} {s : Shared} {A : Around} {E : Value → Shared → Prop} {Q : Value → Shared → Prop} {c : Value} {b : Bool}
/-- the type of a value, as the fragment's deciders take it; for an instance its class -/
inductive TyOf (K : PySem.W.Frag) (H : Hp) : V → Value → Prop where
  | non : TyOf K H .non (.type "NoneType")
  | bl (x : Bool) : TyOf K H (.bl x) (.type "bool")
  | int (i : Int) : TyOf K H (.int i) (.type "int")
  | str (x : Str) : TyOf K H (.str x) (.type "str")
  | flt (x : UInt64) : TyOf K H (.flt x) (.type "float")
  | lst {a : Addr} {xs : List V} (e : H a = some (.lst xs)) : TyOf K H (.ref a) (.type "list")
  | frz {a : Addr} {o : Obj} {xs : List V} (e : H a = some (.frz o (.lst xs))) : TyOf K H (.ref a) (.type "list")
  | tup {a : Addr} {xs : List V} (e : H a = some (.tup xs)) : TyOf K H (.ref a) (.type "tuple")
  | dK {a : Addr} {kvs : List (Key × V)} (e : H a = some (.dK kvs)) : TyOf K H (.ref a) (.type "dict")
  | dT {a : Addr} {kvs : List (List Key × V)} (e : H a = some (.dT kvs)) : TyOf K H (.ref a) (.type "dict")
  | ins {a C dx : Addr} {fs : List (Str × V)} (e : H a = some (.ins C dx fs)) (cl : Cls K C) (ha : PySem.W.findIn K (.ref C) "__class__" = some (some (.builtin "object.__class__")))
      (hn : PySem.W.specialIn K (.builtin "object.__class__") "__get__" = some (some (.builtin "getset_descriptor.__get__"))) (htk : PySem.W.takesIn K (.builtin "object.__class__") = some true)
      (hm : PySem.W.mroIn K C (.type "object") = some true) : TyOf K H (.ref a) (.ref C)
/-- isinstance(x, c) for one class c, a built-in or an own one: kitOne's answer -/
theorem isinst_ok {x : V} {u t : Value} (I : Inv X pins σ H s) (rx : RelV x u) (ty : TyOf X.K H x t) (e : PySem.W.kitOne X.K t c = some b) (h : ∀ tk, Q (.bool b) { s with toks := tk }) :
    wpAny (model X.prog X.w) A (call (.builtin "isinstance") [u, c]) Q E s := by
  cases ty with
  | non => cases (show u = Value.none from rx); exact PySem.W.kia_one PySem.W.kitx_none I.kIn True.intro e (fun z => nomatch z) h
  | bl y => cases (show u = Value.bool y from rx); exact PySem.W.kia_one PySem.W.kitx_bool I.kIn True.intro e (fun z => nomatch z) h
  | int i => obtain ⟨t, q⟩ := (show ∃ t, u = Value.int i t from rx); cases q; exact PySem.W.kia_one PySem.W.kitx_int I.kIn True.intro e (fun z => nomatch z) h
  | str y => obtain ⟨t, q⟩ := (show ∃ t, u = Value.str y t from rx); cases q; exact PySem.W.kia_one PySem.W.kitx_str I.kIn True.intro e (fun z => nomatch z) h
  | flt y => obtain ⟨t, q⟩ := (show ∃ t, u = Value.float y t from rx); cases q; exact PySem.W.kia_one PySem.W.kitx_float I.kIn True.intro e (fun z => nomatch z) h
  | @lst a xs ea =>
    cases (show u = Value.ref a from rx)
    obtain ⟨_, _, n, _, h1⟩ := (show ObjOk X.prog X.w H s.heap a (.lst xs) from I.hok a _ ea)
    exact PySem.W.kia_one PySem.W.kitx_list I.kIn ⟨_, h1, rfl⟩ e (fun z => nomatch z) h
  | @frz a ob xs ea =>
    cases (show u = Value.ref a from rx)
    obtain ⟨_, _, _, n, _, h1⟩ := (show ObjOk X.prog X.w H s.heap a (.frz ob (.lst xs)) from I.hok a _ ea)
    exact PySem.W.kia_one PySem.W.kitx_list I.kIn ⟨_, h1, rfl⟩ e (fun z => nomatch z) h
  | @tup a xs ea =>
    cases (show u = Value.ref a from rx)
    obtain ⟨_, _, _, p⟩ := (show ObjOk X.prog X.w H s.heap a (.tup xs) from I.hok a _ ea)
    obtain ⟨o, h1, h2, _⟩ := p
    exact PySem.W.kia_one PySem.W.kitx_tuple I.kIn ⟨o, h1, h2⟩ e (fun z => nomatch z) h
  | @dK a kvs ea =>
    cases (show u = Value.ref a from rx)
    obtain ⟨_, _, vs, _, p⟩ := (show ObjOk X.prog X.w H s.heap a (.dK kvs) from I.hok a _ ea)
    obtain ⟨o, es, ep, h1, h2, _⟩ := p
    exact PySem.W.kia_one PySem.W.kitx_dict I.kIn ⟨o, h1, h2.1⟩ e (fun z => nomatch z) h
  | @dT a kvs ea =>
    cases (show u = Value.ref a from rx)
    obtain ⟨_, _, xs, _, o, es, ep, h1, h2, _⟩ := (show ObjOk X.prog X.w H s.heap a (.dT kvs) from I.hok a _ ea)
    exact PySem.W.kia_one PySem.W.kitx_dict I.kIn ⟨o, h1, h2.1⟩ e (fun z => nomatch z) h
  | @ins a C dx fs ea cl ha hn htk hm =>
    cases (show u = Value.ref a from rx)
    obtain ⟨mA, O, _⟩ := ins_get I.hok ea
    obtain ⟨od, J, _⟩ := O.look
    exact PySem.W.kia_one (PySem.W.kitx_own (cl.get _) cl.hd ha hn htk hm) I.kIn J e (fun z => nomatch z) h
end
end L2

namespace L2
open PySem PySem.Spec PyProof.Rows

/-! ### room -/
structure Room (k : Nat) (A : Around) : Prop where
  hd : A.handled = none
  dp : A.depth + 3 * k + 5 < recursionLimit
  un : A.units + 16 * k + 200 < cLine
theorem Room.mono {j k : Nat} {A : Around} (r : Room k A) (h : j ≤ k) : Room j A := ⟨r.hd, by have := r.dp; omega, by have := r.un; omega⟩
theorem Room.deeper {k : Nat} {A : Around} (r : Room (k + 1) A) (env : Env) : Room k (A.deeper env) :=
  ⟨r.hd, by have := r.dp; show A.depth + 1 + 3 * k + 5 < _; omega, by have := r.un; show A.units + 3 + 16 * k + 200 < _; omega⟩
theorem make_depth {A : Around} {C : Addr} {us : List Value} {kw : List (Str × Value)} : (A.under (.builtin "type.__call__" ⟨.ref C :: us, kw⟩)).depth = A.depth + 1 := by
  first | rfl | simp [Around.under, Code.weight, Code.isCreation, Code.isGuard, Code.isCaller, Code.frames, Code.isFrame, guardIds]
theorem make_units {A : Around} {C : Addr} {us : List Value} {kw : List (Str × Value)} : (A.under (.builtin "type.__call__" ⟨.ref C :: us, kw⟩)).units = A.units + 1 := by
  first | rfl | simp [Around.under, Code.cUnits, Code.frames, Code.isFrame]
theorem Room.make {k : Nat} {A : Around} (r : Room (k + 1) A) (C : Addr) (us : List Value) (kw : List (Str × Value)) : Room k (A.under (.builtin "type.__call__" ⟨.ref C :: us, kw⟩)) :=
  ⟨r.hd, by have := r.dp; rw [make_depth]; omega, by have := r.un; rw [make_units]; omega⟩
theorem Room.depth {k : Nat} {A : Around} (r : Room k A) : A.depth < recursionLimit := by have := r.dp; omega
theorem Room.units {k : Nat} {A : Around} (r : Room k A) : A.units + 64 < cLine := by have := r.un; omega
/-! ### argument lists and displays -/
def tNil : TA := fun _ H Q => Q [] H
def tCons (ta : TE) (tr : TA) : TA := fun σ H Q => ta σ H fun x H1 => tr σ H1 fun xs H2 => Q (x :: xs) H2
section
variable {X : Cx} {e : Expr} {es : List Expr} {te : TE} {t : TA} {pos : Pos}
theorem pa_nil : PA X [] tNil := fun _ _ _ _ H Q I h => Calls.spliced_nil ⟨[], H, I, .nil, h⟩
theorem pa_cons (ha : PE X e te) (hr : PA X es t) (hs : starEach (e :: es) X.env = (false, eval e X.env) :: starEach es X.env := by rfl) : PA X (e :: es) (tCons te t) := by
  intro pos pins s σ H Q I h
  rw [hs]
  show wpAny _ _ (spliced ((false, eval e X.env) :: backTo pos (starEach es X.env))) _ _ s
  refine Calls.spliced_cons (thn (ha pins s σ H _ I h) fun u s1 ⟨x, H1, I1, r1, q1⟩ => ?_)
  exact thn (hr pos pins s1 σ H1 _ I1 q1) fun us s2 ⟨xs, H2, I2, r2, q2⟩ => ⟨x :: xs, H2, I2, .cons r1 r2, q2⟩

/-- a tuple, a list of written items -/
def tTup (t : TA) : TE := fun σ H Q => t σ H fun xs H1 => xs.length ≤ sizeLine ∧ ∀ p, H1 p = none → Q (.ref p) (upd H1 p (.tup xs))
def tLst (t : TA) : TE := fun σ H Q => t σ H fun xs H1 => xs.length ≤ sizeLine ∧ ∀ p, H1 p = none → Q (.ref p) (upd H1 p (.lst xs))
theorem pe_tup {x1} (h : PA X es t) : PE X (.Tuple es x1 pos) (tTup t) := by
  intro pins s σ H Q I hq
  refine wpAny_Tuple_spliced (thn (h pos pins s σ H _ I hq) fun us s1 ⟨xs, H1, I1, r, z, q⟩ => ⟨by rw [← r.length]; exact z, ?_⟩)
  have hf : H1 s1.heap.objs.size = none := I1.hok.fresh (Nat.le_refl _)
  refine ⟨.ref s1.heap.objs.size, upd H1 s1.heap.objs.size (.tup xs), I1.laid (t' := s1.toks) (fun b u e => Heap.get?_push_of_some _ e) (Nat.le_refl _) ?_, rfl, q _ hf⟩
  exact ⟨z, us, r, ⟨_, Heap.get?_push_size _ rfl, rfl, _, rfl⟩⟩
theorem pe_lst (h : PA X es t) : PE X (.List es pos) (tLst t) := by
  intro pins s σ H Q I hq
  refine wpAny_List_spliced (thn (h pos pins s σ H _ I hq) fun us s1 ⟨xs, H1, I1, r, z, q⟩ => ⟨by rw [← r.length]; exact z, ?_⟩)
  have hf : H1 s1.heap.objs.size = none := I1.hok.fresh (Nat.le_refl _)
  refine ⟨.ref s1.heap.objs.size, upd H1 s1.heap.objs.size (.lst xs), I1.laid (t' := s1.toks) (fun b u e => Heap.get?_push_of_some _ e) (Nat.le_refl _) ?_, rfl, q _ hf⟩
  exact ⟨z, us, 0, r, Heap.get?_push_size _ rfl⟩
end

/-! ### what a def promises -/
/-- a def's promise: the bound arguments in the parameters' order, the heap, the wanted end, the wanted exception -/
abbrev Sp := List V → Hp → VK → XK → Prop
/-- how an exception lies behind a call (file 08 gives it): the callers' frames, abstract heap and state ahead of the call, the wish, the exception, the state -/
abbrev CXT := List Env → Hp → Shared → XK → Value → Shared → Prop

/-- the state at a call -/
structure Env0 (P : Program) (w : World) (K : PySem.W.Frag) (mg : Str → Option Value) (base : Heap) (A : Around) (outer : List Env) (s : Shared) (H : Hp) : Prop where
  frames : A.frames = some outer
  mod : Mod K mg base
  bs : ∀ b o, base.get? b = some o → s.heap.get? b = some o ∧ H b = none
  bsz : base.objs.size ≤ s.heap.objs.size
  funs : s.heap.FunFrames base outer
  frf : ∀ b ∈ frs outer, H b = none
  hok : HOk P w H s.heap
  bare : AllBare s.gens
/-- a call's end -/
def CE (outer : List Env) (P : Program) (w : World) (H : Hp) (s : Shared) (Q : VK) (u : Value) (s' : Shared) : Prop :=
  ∃ v H', s'.os = s.os ∧ AllBare s'.gens ∧ 0 < s'.toks ∧ Un (frs outer) [] H H' s.heap s'.heap ∧ HOk P w H' s'.heap ∧ RelV v u ∧ Q v H'
def CR (CX : CXT) (outer : List Env) (P : Program) (w : World) (H : Hp) (s : Shared) (Q : VK) (E : XK) (r : Result) (s' : Shared) : Prop :=
  match r with
  | .ok (.ret u) => CE outer P w H s Q u s'
  | .ok _ => False
  | .error e => CX outer H s E e s'
structure FnOk (P : Program) (w : World) (K : PySem.W.Frag) (mg : Str → Option Value) (base : Heap) (CX : CXT) (k : Nat) (f : Addr) (fd : FuncData) (ps : List Str) (sp : Sp) : Prop where
  len : ∀ vs H Q E, sp vs H Q E → vs.length = ps.length
  run : ∀ (A : Around) (outer : List Env) (s : Shared) (H : Hp) (args : Args) (us : List Value) (vs : List V) (Q : VK) (E : XK), Room k A → Env0 P w K mg base A outer s H → BindsTo s fd args (ps.zip us) → Vals vs us → sp vs H Q E → (0 < s.toks ∨ ∃ x r, ps = x :: r ∧ fd.scope.names.lookup x = some .local) →
    codeAny (model P w) A (.call (.ref f) args) (CR CX outer P w H s Q E) s
theorem Env0.make {P : Program} {w : World} {K : PySem.W.Frag} {mg : Str → Option Value} {base : Heap} {A : Around} {outer : List Env} {s : Shared} {H : Hp} (e : Env0 P w K mg base A outer s H) (C : Addr) (us : List Value) (kw : List (Str × Value)) :
    Env0 P w K mg base (A.under (.builtin "type.__call__" ⟨.ref C :: us, kw⟩)) outer s H := ⟨by first | exact e.frames | (simpa [Around.under, Code.envs, Code.isFrame, pushEnvs] using e.frames), e.mod, e.bs, e.bsz, e.funs, e.frf, e.hok, e.bare⟩
section
variable {X : Cx} {pins : List (Addr × Obj)} {σ : St} {H : Hp} {s s' : Shared}
/-- from a body: what a callee wants -/
theorem Inv.env0 (I : Inv X pins σ H s) : Env0 X.prog X.w X.K X.mg X.base X.A X.stack s H :=
  ⟨I.ok.frames, I.ok.mod, I.bs, Nat.le_trans I.ok.bsz I.sz, I.stack, I.stkFree, I.hok, I.bare⟩
/-- behind a call -/
theorem Inv.after {Q : VK} {u : Value} (I : Inv X pins σ H s) (h : CE X.stack X.prog X.w H s Q u s') : EP X pins σ Q u s' := by
  obtain ⟨v, H', os, bare, htk, un, hok, r, q⟩ := h
  obtain ⟨hh, g, d, t, os'⟩ := s'
  obtain rfl : os' = s.os := os
  exact ⟨v, H', I.call (h' := hh) (g' := g) (d' := d) (t' := t) (ch := []) un hok bare (fun b z => absurd z (by simp)), r, q⟩
end

/-! ### calls -/
/-- f(..): the written arguments, then the defaults dvs; E: what is wanted of an exception -/
def tCall (sp : Sp) (dvs : List V) (E : XK) (t : TA) : TE := fun σ H Q => t σ H fun vs H1 => sp (vs ++ dvs) H1 Q E
/-- o.m(..) of an instance of the class at C -/
def tMeth (C : Addr) (m : Str) (sp : Sp) (dvs : List V) (E : XK) (ta : TE) (t : TA) : TE := fun σ H Q => ta σ H fun x H1 => ∃ a dx fs, x = .ref a ∧ H1 a = some (.ins C dx fs) ∧ fs.lookup m = none ∧
  t σ H1 fun vs H2 => sp (x :: (vs ++ dvs)) H2 Q E
/-- C(..): a new instance and its dict, then __init__ -/
def tMake (C : Addr) (sp : Sp) (dvs : List V) (E : XK) (t : TA) : TE := fun σ H Q => t σ H fun vs H1 => ∀ x dx, H1 x = none → H1 dx = none → dx ≠ x →
  sp (.ref x :: (vs ++ dvs)) (upd (upd H1 dx (.own x)) x (.ins C dx [])) (fun v H2 => v = .non ∧ Q (.ref x) H2) E

/-- how the parameters are bound: us the positional arguments, kw the keywords' values by name, ds the defaults that fill up -/
def Binds (K : PySem.W.Frag) (fd : FuncData) (ps : List Str) (ds : List Value) : Prop :=
  ∀ (s : Shared) (us : List Value), K.In s.heap → (us ++ ds).length = ps.length → BindsTo s fd ⟨us, []⟩ (ps.zip (us ++ ds))
/-- every parameter is given -/
theorem Binds.all {K : PySem.W.Frag} {fd : FuncData} {ps : List Str} (h : ∀ us : List Value, us.length = ps.length → bindArgs fd ⟨us, []⟩ = pure (ps.zip us)) : Binds K fd ps [] := fun s us _ hl => by
  rw [List.append_nil] at hl ⊢
  exact .of_eq (h us hl)

/-- an exception of a callee reaches what this body wants of exceptions -/
def Passes (CX : CXT) (X : Cx) (E : XK) : Prop := ∀ (pins : List (Addr × Obj)) (σ : St) (H : Hp) (s : Shared) (e : Value) (s' : Shared), Inv X pins σ H s → CX X.stack H s E e s' → X.xe e s'

section
variable {X : Cx} {CX : CXT} {k : Nat} {f C : Addr} {fd : FuncData} {ps : List Str} {sp : Sp} {dvs : List V} {ds : List Value} {E : XK} {x m : Str} {p pos apos : Pos} {e o : Expr} {es : List Expr} {ta : TE} {t : TA}

/-- the callee runs -/
theorem run_fn {pins : List (Addr × Obj)} {σ : St} {H : Hp} {s : Shared} {Q : VK} {us : List Value} {vs : List V} (F : FnOk X.prog X.w X.K X.mg X.base CX k f fd ps sp) (hr : Room k X.A) (hb : Binds X.K fd ps ds) (hd : Vals dvs ds) (hx : Passes CX X E)
    (I : Inv X pins σ H s) (r : Vals vs us) (h : sp (vs ++ dvs) H Q E) : wpAny (model X.prog X.w) X.A (call (.ref f) us) (EP X pins σ Q) X.xe s := by
  have r2 : Vals (vs ++ dvs) (us ++ ds) := r.append hd
  have hl : (us ++ ds).length = ps.length := by rw [← r2.length]; exact F.len _ _ _ _ h
  refine wpAny_call (codeAny_mono (F.run X.A X.stack s H ⟨us, []⟩ (us ++ ds) (vs ++ dvs) Q E hr I.env0 (hb s us I.kIn hl) r2 h (.inl I.tk)) fun r s' hq => ?_)
  cases r with
  | error e => exact hx pins σ H s e s' I hq
  | ok fl =>
    cases fl with
    | ret u => exact I.after hq
    | next => exact False.elim hq
    | brk => exact False.elim hq
    | cont => exact False.elim hq

theorem pe_call (F : FnOk X.prog X.w X.K X.mg X.base CX k f fd ps sp) (hr : Room k X.A) (hg : Gl X x) (hm : X.mg x = some (.ref f)) (hk : PySem.W.keepIn X.K (.ref f) = true) (hb : Binds X.K fd ps ds) (hd : Vals dvs ds) (hx : Passes CX X E)
    (ha : PA X (e :: es) t) (hdb : (x == ("__debug__" : Str)) = false := by decide) (he : starEach (e :: es) X.env = (false, eval e X.env) :: starEach es X.env := by rfl) (hpl : (backTo pos (starEach es X.env)).any (·.1) = false := by rfl) :
    PE X (.Call (.Name x p) (e :: es) [] pos) (tCall sp dvs E t) := by
  intro pins s σ H Q I h
  refine wpAny_Call_Name_kw (ld_glob I hg hm ?_ hdb)
  refine PySem.W.callWith_K (h₀ := X.base) I.ok.mod.kin hk (thn (ha pos pins s σ H _ I h) fun us s1 ⟨vs, H1, I1, r, q⟩ => ⟨I1.kIn, ?_⟩) he hpl
  exact run_fn F hr hb hd hx I1 r q
theorem pe_call0 (F : FnOk X.prog X.w X.K X.mg X.base CX k f fd ps sp) (hr : Room k X.A) (hg : Gl X x) (hm : X.mg x = some (.ref f)) (hk : PySem.W.keepIn X.K (.ref f) = true) (hb : Binds X.K fd ps ds) (hd : Vals dvs ds) (hx : Passes CX X E)
    (hdb : (x == ("__debug__" : Str)) = false := by decide) : PE X (.Call (.Name x p) [] [] pos) (tCall sp dvs E tNil) := by
  intro pins s σ H Q I h
  refine wpAny_Call_Name_kw (ld_glob I hg hm ?_ hdb)
  exact PySem.W.callWith_K0 I.kIn hk (run_fn (us := []) F hr hb hd hx I .nil h)

/-- o.m(e, ..) -/
theorem pe_meth {pl : Sem Bool} (he : PE X o ta) (c : Cls X.K C) (hm : Meth X.K C m f) (F : FnOk X.prog X.w X.K X.mg X.base CX k f fd ps sp) (hr : Room k X.A) (hb : Binds X.K fd ps ds) (hd : Vals dvs ds) (hx : Passes CX X E) (ha : PA X (e :: es) t)
    (hst : starEach (e :: es) X.env = (false, eval e X.env) :: starEach es X.env := by rfl) (hpl : (backTo pos (starEach es X.env)).any (·.1) = false := by rfl)
    (ht : eval (.Call (.Attribute o m apos) (e :: es) [] pos) X.env = (do
      let ov ← eval o X.env
      standAt apos.atName
      let (f, first) ← holding [ov] (getMethod ov m pl)
      callWith pos f first (backTo pos (starEach (e :: es) X.env)) (backToKw pos (keywordEach [] X.env))) := by rfl) :
    PE X (.Call (.Attribute o m apos) (e :: es) [] pos) (tMeth C m sp dvs E ta t) := by
  intro pins s σ H Q I h
  refine PySem.W.methodCall_KW (pl := pl) (thn (he pins s σ H _ I h) fun u s1 ⟨x, H1, I1, rx, a, dx, fs, ex, ea, l, q⟩ => ?_) ht
  subst ex
  obtain rfl : u = Value.ref a := rx
  refine getmeth_ok I1 ea c hm l ?_
  refine PySem.W.callWith_K (first := [.ref a]) (h₀ := X.base) I.ok.mod.kin hm.kp (thn (ha pos pins s1 σ H1 _ I1 q) fun us s2 ⟨vs, H2, I2, r, q2⟩ => ⟨I2.kIn, ?_⟩) hst hpl
  exact run_fn (us := .ref a :: us) (vs := .ref a :: vs) F hr hb hd hx I2 (.cons rfl r) q2
/-- o.m() -/
theorem pe_meth0 {pl : Sem Bool} (he : PE X o ta) (c : Cls X.K C) (hm : Meth X.K C m f) (F : FnOk X.prog X.w X.K X.mg X.base CX k f fd ps sp) (hr : Room k X.A) (hb : Binds X.K fd ps ds) (hd : Vals dvs ds) (hx : Passes CX X E)
    (ht : eval (.Call (.Attribute o m apos) [] [] pos) X.env = (do
      let ov ← eval o X.env
      standAt apos.atName
      let (f, first) ← holding [ov] (getMethod ov m pl)
      callWith pos f first (backTo pos (starEach [] X.env)) (backToKw pos (keywordEach [] X.env))) := by rfl) :
    PE X (.Call (.Attribute o m apos) [] [] pos) (tMeth C m sp dvs E ta tNil) := by
  intro pins s σ H Q I h
  refine PySem.W.methodCall_KW (pl := pl) (thn (he pins s σ H _ I h) fun u s1 ⟨x, H1, I1, rx, a, dx, fs, ex, ea, l, q⟩ => ?_) ht
  subst ex
  obtain rfl : u = Value.ref a := rx
  refine getmeth_ok I1 ea c hm l ?_
  exact PySem.W.callWith_K0 (first := [.ref a]) I1.kIn hm.kp (run_fn (us := [.ref a]) (vs := [.ref a]) F hr hb hd hx I1 (.cons rfl .nil) q)

/-- what a class must have to be made -/
structure Mk (K : PySem.W.Frag) (C f : Addr) : Prop where
  makes : PySem.W.makesIn K C = true
  init : PySem.W.findIn K (.ref C) "__init__" = some (some (.ref f))
  fn : PySem.W.isFn K (.ref f) = true
  kp : PySem.W.keepIn K (.ref C) = true

theorem run_make {pins : List (Addr × Obj)} {σ : St} {H : Hp} {s : Shared} {Q : VK} {us : List Value} {vs : List V} (M : Mk X.K C f) (F : FnOk X.prog X.w X.K X.mg X.base CX k f fd ps sp) (hr : Room (k + 1) X.A) (hb : Binds X.K fd ps ds) (hd : Vals dvs ds)
    (hx : Passes CX X E) (I : Inv X pins σ H s) (r : Vals vs us)
    (h : ∀ x dx, H x = none → H dx = none → dx ≠ x → sp (.ref x :: (vs ++ dvs)) (upd (upd H dx (.own x)) x (.ins C dx [])) (fun v H2 => v = .non ∧ Q (.ref x) H2) E) :
    wpAny (model X.prog X.w) X.A (call (.ref C) us) (EP X pins σ Q) X.xe s := by
  have hq := h (s.heap.objs.size + 1) s.heap.objs.size (I.hok.fresh (Nat.le_succ _)) (I.hok.fresh (Nat.le_refl _)) (Nat.ne_of_lt (Nat.lt_succ_self _))
  have I2 := Inv.made (C := C) I
  have r2 : Vals (V.ref (s.heap.objs.size + 1) :: (vs ++ dvs)) (Value.ref (s.heap.objs.size + 1) :: (us ++ ds)) := .cons rfl (r.append hd)
  have hl : (Value.ref (s.heap.objs.size + 1) :: us ++ ds).length = ps.length := by
    have e := r2.length
    rw [F.len _ _ _ _ hq] at e
    exact e.symm
  refine wpAny_call (make_map (f := f) I.kIn M.makes M.init (beq_iff_eq.mp M.fn) (codeAny_mono (F.run _ X.stack _ _ ⟨Value.ref (s.heap.objs.size + 1) :: us, []⟩ (Value.ref (s.heap.objs.size + 1) :: (us ++ ds)) _ _ E (hr.make C us [])
    (I2.env0.make C us []) (hb _ (Value.ref (s.heap.objs.size + 1) :: us) I2.kIn hl) r2 hq (.inl I2.tk)) fun r s' hq' => ?_))
  cases r with
  | error e => exact hx pins σ _ _ e s' I2 hq'
  | ok fl =>
    cases fl with
    | ret u =>
      obtain ⟨v, H', I3, rv, ev, q3⟩ := I2.after hq'
      subst ev
      exact ⟨rv, ⟨V.ref (s.heap.objs.size + 1), H', I3, rfl, q3⟩⟩
    | next => exact False.elim hq'
    | brk => exact False.elim hq'
    | cont => exact False.elim hq'
theorem pe_make (M : Mk X.K C f) (F : FnOk X.prog X.w X.K X.mg X.base CX k f fd ps sp) (hr : Room (k + 1) X.A) (hg : Gl X x) (hm : X.mg x = some (.ref C)) (hb : Binds X.K fd ps ds) (hd : Vals dvs ds) (hx : Passes CX X E)
    (ha : PA X (e :: es) t) (hdb : (x == ("__debug__" : Str)) = false := by decide) (he : starEach (e :: es) X.env = (false, eval e X.env) :: starEach es X.env := by rfl) (hpl : (backTo pos (starEach es X.env)).any (·.1) = false := by rfl) :
    PE X (.Call (.Name x p) (e :: es) [] pos) (tMake C sp dvs E t) := by
  intro pins s σ H Q I h
  refine wpAny_Call_Name_kw (ld_glob I hg hm ?_ hdb)
  refine PySem.W.callWith_K (h₀ := X.base) I.ok.mod.kin M.kp (thn (ha pos pins s σ H _ I h) fun us s1 ⟨vs, H1, I1, r, q⟩ => ⟨I1.kIn, ?_⟩) he hpl
  exact run_make M F hr hb hd hx I1 r q
end

/-! ### keywords -/
/-- the values of the keywords, from the left -/
def PK (X : Cx) (kws : List Keyword) (t : TA) : Prop :=
  ∀ (pos : Pos) (pins : List (Addr × Obj)) (s : Shared) (σ : St) (H : Hp) (Q : List V → Hp → Prop), Inv X pins σ H s → t σ H Q → wpAny (model X.prog X.w) X.A (evalAll ((backToKw pos (keywordEach kws X.env)).map (·.2))) (AP X pins σ Q) X.xe s
section
variable {X : Cx} {CX : CXT} {k : Nat} {f C : Addr} {fd : FuncData} {ps ks : List Str} {sp : Sp} {E : XK} {x m : Str} {p pos apos kpos : Pos} {e o : Expr} {es : List Expr} {kws : List Keyword} {te ta : TE} {t tk : TA} {nm : Option Str}
theorem pk_nil : PK X [] tNil := fun _ _ _ _ H Q I h => wpAny_evalAll_nil ⟨[], H, I, .nil, h⟩
theorem pk_cons (ha : PE X e te) (hr : PK X kws t) : PK X (⟨nm, e, kpos⟩ :: kws) (tCons te t) := by
  intro pos pins s σ H Q I h
  show wpAny _ _ (evalAll ((do let v ← eval e X.env; standAt pos; pure v) :: (backToKw pos (keywordEach kws X.env)).map (·.2))) _ _ s
  refine wpAny_evalAll_cons (wpAny_bind (thn (ha pins s σ H _ I h) fun u s1 ⟨x, H1, I1, r1, q1⟩ => wpAny_bind (wpAny_standAt (wpAny_pure ?_))))
  exact thn (hr pos pins s1 σ H1 _ I1 q1) fun us s2 ⟨xs, H2, I2, r2, q2⟩ => ⟨x :: xs, H2, I2, .cons r1 r2, q2⟩

variable {g : List Value → List Value → List Value} {gV : List V → List V → List V}
end

/-! ### a def's body keeps its promise -/
/-- names: the parameters first -/
structure FnScope (N P : List Str) (sc : Scope) : Prop where
  kind : sc.kind = .function
  co : sc.isCoroutine = false
  gen : sc.isGenerator = false
  nd : N.Nodup
  pre : N.take P.length = P
  par : ∀ x ∈ P, sc.names.lookup x = some .local ∨ sc.names.lookup x = some .cell
  nofree : ∀ y ∈ sc.names, y.2 ≠ .free

theorem bindL_out {kindOf : Str → Option NameKind} {x : Str} : ∀ {binds : List (Str × Value)} {m : Str → Option Value}, (∀ v, (x, v) ∉ binds) → bindL kindOf binds m x = m x
  | [], _, _ => rfl
  | (n, v) :: r, m, h => by
    unfold bindL
    rw [bindL_out fun w hw => h w (List.mem_cons_of_mem _ hw)]
    split
    · have : x ≠ n := by rintro rfl; exact h v List.mem_cons_self
      simp [this]
    · rfl
theorem bindC_out {kindOf : Str → Option NameKind} {x : Str} : ∀ {binds : List (Str × Value)} {m : Str → Option Value}, (∀ v, (x, v) ∉ binds) → bindC kindOf binds m x = m x
  | [], _, _ => rfl
  | (n, v) :: r, m, h => by
    unfold bindC
    rw [bindC_out fun w hw => h w (List.mem_cons_of_mem _ hw)]
    split
    · rfl
    · have : x ≠ n := by rintro rfl; exact h v List.mem_cons_self
      simp [this]
theorem bindL_get {kindOf : Str → Option NameKind} {x : Str} {v : Value} : ∀ {P : List Str} {vs : List Value} {i : Nat} {m : Str → Option Value}, P.Nodup → P[i]? = some x → vs[i]? = some v → kindOf x = some .local →
    bindL kindOf (P.zip vs) m x = some v
  | [], _, _, _, _, h, _, _ => by simp at h
  | _ :: _, [], _, _, _, _, h, _ => by simp at h
  | p :: P, w :: vs, 0, m, nd, h1, h2, hk => by
    simp at h1 h2; subst h1; subst h2
    show bindL kindOf ((p, w) :: P.zip vs) m p = _
    unfold bindL
    rw [bindL_out fun v hv => (List.nodup_cons.mp nd).1 (List.of_mem_zip hv).1, if_pos hk]
    simp
  | p :: P, w :: vs, i + 1, m, nd, h1, h2, hk => by
    show bindL kindOf ((p, w) :: P.zip vs) m x = _
    unfold bindL
    exact bindL_get (i := i) (List.nodup_cons.mp nd).2 (by simpa using h1) (by simpa using h2) hk
theorem bindC_get {kindOf : Str → Option NameKind} {x : Str} {v : Value} : ∀ {P : List Str} {vs : List Value} {i : Nat} {m : Str → Option Value}, P.Nodup → P[i]? = some x → vs[i]? = some v → kindOf x ≠ some .local →
    bindC kindOf (P.zip vs) m x = some v
  | [], _, _, _, _, h, _, _ => by simp at h
  | _ :: _, [], _, _, _, _, h, _ => by simp at h
  | p :: P, w :: vs, 0, m, nd, h1, h2, hk => by
    simp at h1 h2; subst h1; subst h2
    show bindC kindOf ((p, w) :: P.zip vs) m p = _
    unfold bindC
    rw [bindC_out fun v hv => (List.nodup_cons.mp nd).1 (List.of_mem_zip hv).1, if_neg hk]
    simp
  | p :: P, w :: vs, i + 1, m, nd, h1, h2, hk => by
    show bindC kindOf ((p, w) :: P.zip vs) m x = _
    unfold bindC
    exact bindC_get (i := i) (List.nodup_cons.mp nd).2 (by simpa using h1) (by simpa using h2) hk

/-- the names' values at the entry -/
def start (N : List Str) (vs : List V) : St := vs.map some ++ List.replicate (N.length - vs.length) none

/-- the context of a def's body, at its entry; an exception leaves the frame, then lies as CX says -/
def cxOf (CX : CXT) (P : Program) (w : World) (K : PySem.W.Frag) (mg : Str → Option Value) (base : Heap) (N : List Str) (qual : Str) (scope : Scope) (f : Addr) (cd : Value) (A : Around) (outer : List Env) (s : Shared) (H : Hp) (E : XK) : Cx where
  prog := P
  w := w
  K := K
  mg := mg
  base := base
  A := A.deeper (envOfC qual scope s.heap.objs.size f cd)
  N := N
  s₀ := s
  H₀ := H
  env := envOfC qual scope s.heap.objs.size f cd
  outer := outer
  stack := envOfC qual scope s.heap.objs.size f cd :: outer
  ex := []
  calm := true
  fn := fun _ => true
  pn := []
  xe := fun e s' => wpAny (model P w) (A.deeper (envOfC qual scope s.heap.objs.size f cd)) (leaving (envOfC qual scope s.heap.objs.size f cd) e) (fun _ s'' => CX outer H s E e s'') (fun e' s'' => CX outer H s E e' s'') s'

theorem cell_has {sc : Scope} {n : Nat} {x : Str} (h : sc.names.lookup x = some .cell) : ∃ c, (cellsFrom n sc.names []).lookup x = some c := by
  have q := PySem.W.cellsFrom_some sc.names n [] (.inl h)
  exact Option.isSome_iff_exists.mp q

theorem inv_start {CX : CXT} {P : Program} {w : World} {K : PySem.W.Frag} {mg : Str → Option Value} {base : Heap} {N ps : List Str} {qual : Str} {scope : Scope} {f : Addr} {cd : Value} {A : Around} {outer : List Env} {s s1 : Shared} {H : Hp} {E : XK} {us : List Value} {vs : List V}
    (S : FnScope N ps scope) (hd : A.handled = none) (e0 : Env0 P w K mg base A outer s H) (hl : vs.length = ps.length) (r : Vals vs us)
    (x : InCallC s s.heap.objs.size (bindL (envOfC qual scope s.heap.objs.size f cd).kindOf (ps.zip us) fun _ => none) (cellsFrom (s.heap.objs.size + 1) scope.names []) (bindC (envOfC qual scope s.heap.objs.size f cd).kindOf (ps.zip us) fun _ => none) s1) (ht1 : 0 < s1.toks) :
    Inv (cxOf CX P w K mg base N qual scope f cd A outer s H E) [] (start N vs) H s1 := by
  have hpl : ps.length ≤ N.length := by have := congrArg List.length S.pre; rw [List.length_take] at this; omega
  obtain ⟨h1, tk, rfl, hk⟩ := x.done
  have noA : ∀ b : Addr, b ∉ (cxOf CX P w K mg base N qual scope f cd A outer s H E).ex := fun b z => absurd (show b ∈ ([] : List Addr) from z) (by simp)
  refine ⟨⟨e0.mod, S.kind, rfl, rfl, Nat.le_refl _, fun y z c h1 h2 => ?_, fun y hy => ?_, fun y c _ h => ?_, fun _ => hd, Around.frames_deeper e0.frames, .inr ⟨rfl, rfl⟩, fun b z => absurd z (noA b), e0.bs, e0.bsz, fun b _ _ => noA b, fun b z => absurd z (noA b), e0.funs, e0.frf⟩,
    rfl, e0.bare, Un.kept hk, ⟨_, x.toInCall.ns, fun i y v h1 h2 h3 => ?_⟩, fun y c h => ⟨_, x.cell y c h⟩, e0.hok.fresh (Nat.le_refl _), fun y c h => ?_, fun p hp => absurd (show p ∈ ([] : List (Addr × Obj)) from hp) (by simp), e0.hok.kept hk, ?_, ht1⟩
  · exact name_of_addr x.apart (PySem.mem_of_lookup h1) (PySem.mem_of_lookup h2)
  · have hy : scope.names.lookup y = some .cell ∨ scope.names.lookup y = some .free := hy
    rcases hy with hy | hy
    · exact cell_has hy
    · exact absurd rfl (S.nofree _ (PySem.mem_of_lookup hy))
  · exact Nat.le_of_lt (x.above y c (PySem.mem_of_lookup h))
  · have hi : i < vs.length := by
      unfold start at h2
      by_cases hi : i < vs.length
      · exact hi
      · rw [List.getElem?_append_right (by simpa using hi)] at h2
        rw [List.getElem?_replicate] at h2
        split at h2 <;> cases h2
    have ha : vs[i]? = some v := by
      unfold start at h2
      rw [List.getElem?_append_left (by simpa using hi), List.getElem?_map] at h2
      cases e : vs[i]? with
      | none => rw [e] at h2; cases h2
      | some a => rw [e] at h2; cases h2; rfl
    obtain ⟨u, hu, rv⟩ := r.get ha
    have hp : ps[i]? = some y := by
      rw [← S.pre, List.getElem?_take_of_lt (by omega)]; exact h1
    have ndP : ps.Nodup := by rw [← S.pre]; exact S.nd.sublist (List.take_sublist _ _)
    refine ⟨u, rv, ?_⟩
    rcases S.par y (List.mem_of_getElem? hp) with k | k
    · exact .inl ⟨k, bindL_get ndP hp hu k⟩
    · obtain ⟨c, e⟩ := cell_has (n := s.heap.objs.size + 1) k
      refine .inr ⟨.inl k, c, e, ?_⟩
      have q := x.cell y c e
      rw [bindC_get ndP hp hu (by show scope.names.lookup y ≠ _; rw [k]; decide)] at q
      exact q
  · exact e0.hok.fresh (Nat.le_of_lt (x.above y c (PySem.mem_of_lookup h)))
  · unfold start
    show _ = N.length
    rw [List.length_append, List.length_map, List.length_replicate]
    omega

theorem bindParams1 {M : Model} {A : Around} {E : Value → Shared → Prop} {s₀ s : Shared} {m cm : Str → Option Value} {env : Env} (f : Str × Value → PUnit → Sem (ForInStep PUnit)) (hf : ∀ n v u, f (n, v) u = (do storeName env n v; pure (.yield ⟨⟩))) (hfn : env.scope.kind = .function)
    (n : Str) (v : Value) (r : List (Str × Value)) (Q : PUnit → Shared → Prop) (x : InCallC s₀ env.locals m env.cells cm s) (hl : env.kindOf n = some .local)
    (hrs : ∀ x ∈ r, env.kindOf x.1 = some .local ∨ (env.kindOf x.1 = some .cell ∧ (env.cells.lookup x.1).isSome = true))
    (h : ∀ s', InCallC s₀ env.locals (bindL env.kindOf ((n, v) :: r) m) env.cells (bindC env.kindOf ((n, v) :: r) cm) s' → 0 < s'.toks → Q ⟨⟩ s') : wpAny M A (forIn ((n, v) :: r) ⟨⟩ f) Q E s := by
  rw [List.forIn_cons, hf]
  refine wpAny_bind (wpAny_bind (wpAny_storeName_local hl x.toInCall.ns (fun h' hn' hs' => wpAny_pure ?_) (by rw [hfn]; rfl)))
  have x1 : InCallC s₀ env.locals (fun y => if y = n then some v else m y) env.cells cm { s with heap := h', toks := s.toks + 1 } := by
    refine ⟨⟨?_, hn', fun b o e => ?_, x.toInCall.fresh⟩, fun k c hc => ?_, x.apart, x.above⟩
    · obtain ⟨h₁, tk, rfl⟩ := x.toInCall.same
      exact ⟨h', _, rfl⟩
    · have := x.toInCall.keep b o e; exact hs'.extBut b o (Nat.ne_of_lt (Nat.lt_of_lt_of_le (Heap.lt_size e) x.toInCall.fresh)) (x.toInCall.keep b o e)
    · exact (x.cell k c hc).sameBut hs' (Nat.ne_of_gt (x.above k c (mem_of_lookup hc)))
  refine wpAny_with_toks (n := 1) (Nat.succ_le_succ (Nat.zero_le _)) (wpAny_bindParams f hf hfn r _ _ _ _ x1 hrs fun s' y h1 => h s' ?_ h1)
  unfold bindL bindC
  rw [if_pos hl, if_pos hl]
  exact y
theorem newEnv_tk {M : Model} {A : Around} {E : Value → Shared → Prop} {s : Shared} {scope : Scope} {globals : Addr} {binds : List (Str × Value)} {qual : Str} {func : Option Addr} {code : Value} {builtins : Addr} {Q : Env → Shared → Prop}
    (hfn : scope.kind = .function)
    (hks : ∀ x ∈ binds, scope.names.lookup x.1 = some .local ∨ (scope.names.lookup x.1 = some .cell ∧ ((cellsFrom (s.heap.objs.size + 1) scope.names []).lookup x.1).isSome = true))
    (htk : 0 < s.toks ∨ ∃ n v r, binds = (n, v) :: r ∧ scope.names.lookup n = some .local)
    (hq : ∀ en, en = newEnv scope s.heap.objs.size globals (cellsFrom (s.heap.objs.size + 1) scope.names []) qual func code none builtins →
      ∀ s', InCallC s en.locals (bindL en.kindOf binds fun _ => none) en.cells (bindC en.kindOf binds fun _ => none) s' → 0 < s'.toks → Q en s') :
    wpAny M A (newFunctionEnv scope globals [] binds qual func code none builtins) Q E s := by
  rcases htk with htk | ⟨n, v, r, rfl, hl⟩
  · exact wpAny_with_toks (n := 1) htk (wpAny_newFunctionEnv_cells hfn hks fun env he s' x h1 => hq env he s' x h1)
  · simp only [newFunctionEnv, Option.isSome_none, Bool.false_eq_true, if_false]; refine wpAny_bind (wpAny_alloc ?_); refine wpAny_bind (wpAny_layCells _ (fun name kind cells => by cases hkc : kind == NameKind.cell <;> simp [hkc]) _ _ _ _ ?_)
    have okc := cellsFrom_ok scope.names (s.heap.push { cls := .type "frame", data := .dict #[] }) (s.heap.objs.size + 1) [] ⟨fun _ _ hm => (nomatch hm), List.Pairwise.nil⟩ (by rw [Heap.size_push]; exact Nat.le_refl _); rw [Heap.size_push] at okc; rw [show ({ s with heap := s.heap.push { cls := .type "frame", data := .dict #[] } } : Shared).heap.objs.size = s.heap.objs.size + 1 from Heap.size_push ..]
    exact wpAny_bind (bindParams1 (s₀ := s) (env := newEnv scope s.heap.objs.size globals (cellsFrom (s.heap.objs.size + 1) scope.names []) qual func code none builtins)
      _ (fun _ _ _ => rfl) hfn n v r _
      ⟨⟨⟨_, _, by rfl⟩, (Heap.Ns.new s.heap (.type "frame")).keeps (pushCells_keeps _ _), fun b o e => pushCells_keeps _ _ b o (Heap.get?_push_of_some _ e), Nat.le_refl _⟩,
        fun m c hc => (okc.empty m c (mem_of_lookup hc)).1, okc.apart, fun n c hm => (okc.empty n c hm).2⟩
      hl (fun y hy => hks y (List.mem_cons_of_mem _ hy)) fun s' x h1 => wpAny_pure (hq _ rfl s' x h1))

/-- THE RULE: a def (or a method) of the text, by its body. The body's reading t is chosen for each entry; it is run at the parameters' values -/
theorem fn_of {CX : CXT} {P : Program} {w : World} {K : PySem.W.Frag} {mg : Str → Option Value} {base : Heap} {k : Nat} {f : Addr} {name qual : Str} {params : Arguments} {body : List Stmt} {scope : Scope} {dV kV doc pm cdv ct oc : Value} {an od : Option Addr}
    {osl : Array (Option Value)} {N ps : List Str} {sp : Sp} (lk : K.lookup f = some ⟨oc, od, .func (PySem.W.fnOf name qual params body scope dV kV doc pm an cdv ct), osl⟩) (hcd : PySem.W.codeIn K cdv qual = true) (S : FnScope N ps scope)
    (len : ∀ vs H Q E, sp vs H Q E → vs.length = ps.length)
    (hbody : ∀ (A : Around) (outer : List Env) (s : Shared) (H : Hp) (vs : List V) (Q : VK) (E : XK), Room k (A.deeper (envOfC qual scope s.heap.objs.size f cdv)) → sp vs H Q E →
      ∃ t, PSs (cxOf CX P w K mg base N qual scope f cdv A outer s H E) body t ∧ t { nx := fun _ H' => Q .non H', rt := Q } (start N vs) H) :
    FnOk P w K mg base CX (k + 1) f (PySem.W.fnOf name qual params body scope dV kV doc pm an cdv ct) ps sp := by
  refine ⟨len, fun A outer s H args us vs Q E hr e0 hb r hsp htk => ?_⟩
  have hl := len _ _ _ _ hsp
  have KX : K.In s.heap := e0.mod.kin.keeps fun b o e => (e0.bs b o e).1
  have lim : s.heap.NoLimit := e0.mod.nolimit.keeps fun b o e => (e0.bs b o e).1
  have hkind : ∀ y ∈ ps.zip us, scope.names.lookup y.1 = some .local ∨ (scope.names.lookup y.1 = some .cell ∧ ((cellsFrom (s.heap.objs.size + 1) scope.names []).lookup y.1).isSome = true) := fun ⟨n, v⟩ hy => by
    rcases S.par n (List.of_mem_zip hy).1 with q | q
    · exact .inl q
    · exact .inr ⟨q, PySem.W.cellsFrom_some _ _ _ (.inl q)⟩
  have htk' : 0 < s.toks ∨ ∃ n v r, ps.zip us = (n, v) :: r ∧ scope.names.lookup n = some .local := by
    rcases htk with h | ⟨y, q, e, hy⟩
    · exact .inl h
    · have : us.length = ps.length := by rw [← r.length]; exact hl
      subst e
      match us, this with
      | u :: us', _ => exact .inr ⟨y, u, q.zip us', rfl, hy⟩
  refine codeAny_call_function hr.depth (KX _ _ lk) rfl S.co S.gen rfl (PySem.W.codeRec_of KX hcd) (hb _ _ _ _ ?_)
  refine newEnv_tk S.kind hkind htk' fun env he s1 x ht1 => ?_
  subst he
  refine ⟨lim.keeps x.toInCall.keep, codeAny_func ?_⟩
  obtain ⟨t, ht, hq⟩ := hbody A outer s H vs Q E (hr.deeper _) hsp
  have I : Inv (cxOf CX P w K mg base N qual scope f cdv A outer s H E) [] (start N vs) H s1 := inv_start S hr.hd e0 hl r x ht1
  refine wpAny_mono (ht [] s1 (start N vs) H _ I hq) (fun fl s' hs => ?_) fun e s' hs => hs
  have fin : ∀ {σ' : St} {H' : Hp} {v : V} {u : Value}, Inv (cxOf CX P w K mg base N qual scope f cdv A outer s H E) [] σ' H' s' → RelV v u → Q v H' → CE outer P w H s Q u s' :=
    fun {σ' H' v u} J rv q => ⟨v, H', J.os, J.bare, J.tk, J.base, J.hok, rv, q⟩
  cases fl with
  | ret u =>
    obtain ⟨v, σ', H', J, rv, q⟩ := hs
    exact fin J rv q
  | next =>
    obtain ⟨σ', H', J, q⟩ := hs
    exact fin (v := V.non) (u := Value.none) J rfl q
  | brk =>
    obtain ⟨_, _, _, q⟩ := hs
    exact False.elim q
  | cont =>
    obtain ⟨_, _, _, q⟩ := hs
    exact False.elim q
end L2

namespace L2
open PySem PySem.Spec PyProof.Rows
section
variable {X : Cx} {x : Str} {p pos : Pos} {e : Expr} {es : List Expr} {t : TA} {id T : String} {r : List V → Hp → VK → Prop}

def tCB (r : List V → Hp → VK → Prop) (t : TA) : TE := fun σ H Q => t σ H fun vs H1 => r vs H1 Q
/-- f(e, ..), f a built-in function -/
theorem pe_callB (hc : CallR X (.builtin id) r) (hg : Gl X x) (hm : X.mg x = none) (hv : bootBuiltins x = some (.builtin id)) (ha : PA X (e :: es) t) (hn : x ≠ "__name__" := by decide) (hdb : (x == ("__debug__" : Str)) = false := by decide)
    (he : starEach (e :: es) X.env = (false, eval e X.env) :: starEach es X.env := by rfl) (hpl : (backTo pos (starEach es X.env)).any (·.1) = false := by rfl) : PE X (.Call (.Name x p) (e :: es) [] pos) (tCB r t) := by
  intro pins s σ H Q I h
  refine wpAny_Call_Name_kw (ld_blt I hg hm hv ?_ hn hdb)
  exact PyProof.Rows.callWith_builtin1 (thn (ha pos pins s σ H _ I h) fun us s1 ⟨vs, H1, I1, r1, q1⟩ => hc pins s1 σ H1 vs us Q I1 r1 q1) he hpl
/-- T(e, ..), T a built-in type -/
theorem pe_callTy (hc : CallR X (.type T) r) (hg : Gl X x) (hm : X.mg x = none) (hv : bootBuiltins x = some (.type T)) (ha : PA X (e :: es) t) (hn : x ≠ "__name__" := by decide) (hdb : (x == ("__debug__" : Str)) = false := by decide)
    (he : starEach (e :: es) X.env = (false, eval e X.env) :: starEach es X.env := by rfl) (hpl : (backTo pos (starEach es X.env)).any (·.1) = false := by rfl) : PE X (.Call (.Name x p) (e :: es) [] pos) (tCB r t) := by
  intro pins s σ H Q I h
  refine wpAny_Call_Name_kw (ld_blt I hg hm hv ?_ hn hdb)
  exact PyProof.Rows.callWith_type1 (thn (ha pos pins s σ H _ I h) fun us s1 ⟨vs, H1, I1, r1, q1⟩ => hc pins s1 σ H1 vs us Q I1 r1 q1) he hpl
end
end L2

namespace HT
open PySem PyProof.Rows

section
open PySem.SeqAt
open PySem.AutoSeq1 (wpAny_loadPart')
open PySem.MeetsSeq PySem.MeetsSeq2 PySem.MeetsSeq3

end

section
variable {prog : Program} {w : World} {A : Around} {E : Value → Shared → Prop} {s : Shared}

/-- t + u, t not empty -/
theorem cat_tup {t b : Addr} {vs ws : List Value} {Q : Value → Shared → Prop} (ht : IsTup s.heap t vs.toArray) (hb : IsTup s.heap b ws.toArray) (hv : vs ≠ [])
    (h1 : ws = [] → Q (.ref t) s) (h2 : ws ≠ [] → Q (.ref s.heap.objs.size) { s with heap := s.heap.push { cls := .type "tuple", data := .seq (vs ++ ws).toArray } })
    (hsz : vs.length + ws.length ≤ sizeLine) : wpAny (model prog w) A (binaryOp .Add (.ref t) (.ref b)) Q E s := by
  obtain ⟨⟨cls, dd, data, sl⟩, ho, hc, n, hd⟩ := id ht
  obtain ⟨⟨cls2, dd2, data2, sl2⟩, ho2, hc2, n2, hd2⟩ := id hb
  simp only at hc hd hc2 hd2
  subst hc hd hc2 hd2
  have e : vs.toArray ++ ws.toArray = (vs ++ ws).toArray := by simp
  by_cases hw : ws = []
  · exact concat_meets ⟨_, ho, rfl⟩ ⟨_, ho2, rfl⟩ noFill_tuple_add seq_tuple_add PySem.F.slot_tuple_add PySem.F.entry_tuple_add (PySem.F.args_tuple_add_2 _ _)
      (tuple_addW1 t b vs.toArray ws.toArray n n2 dd dd2 sl sl2 (by simpa using hv) (by simp [hw])) ⟨ho, ho2, h1 hw⟩
  · refine concat_meets ⟨_, ho, rfl⟩ ⟨_, ho2, rfl⟩ noFill_tuple_add seq_tuple_add PySem.F.slot_tuple_add PySem.F.entry_tuple_add (PySem.F.args_tuple_add_2 _ _)
      (tuple_addW2 t b vs.toArray ws.toArray n n2 dd dd2 sl sl2 (by simpa using hv) (by simpa using hw) (by rw [List.size_toArray, List.size_toArray]; exact hsz)) ⟨ho, ho2, ?_⟩
    rw [e]
    exact h2 hw

/-! ### t[a:b], not the whole -/
/-- a slice's bound as a place among n (d where it is left out) -/
def sIx (n d : Nat) : Option Int → Nat
  | none => d
  | some v => if v < 0 then (v + (n : Int)).toNat else min v.toNat n
end
end HT

namespace L2
open PySem PySem.Spec PyProof.Rows

/-! ### the parts of a slice -/
abbrev TO := St → Hp → (Option Int → Hp → Prop) → Prop
/-- a slice's part (left out, or an int) -/
def PO (X : Cx) (e : Option Expr) (t : TO) : Prop :=
  ∀ (pins : List (Addr × Obj)) (s : Shared) (σ : St) (H : Hp) (Q : Option Int → Hp → Prop), Inv X pins σ H s → t σ H Q →
    wpAny (model X.prog X.w) X.A (evalPart e X.env) (fun u s' => ∃ o H', Inv X pins σ H' s' ∧ IsPart u o ∧ Q o H') X.xe s
def tNoPart : TO := fun _ H Q => Q none H
def tPart (t : TE) : TO := fun σ H Q => t σ H fun x H1 => ∃ i, x = .int i ∧ Q (some i) H1

theorem intsAre_of {ns : List Int} : ∀ {us : List Value}, Vals (ns.map V.int) us → IntsAre us ns := by
  induction ns with
  | nil => intro us r; rw [List.map_nil] at r; cases r; exact .nil
  | cons n ns ih =>
    intro us r
    rw [List.map_cons] at r
    cases r with
    | cons r1 r2 =>
      obtain ⟨t, e⟩ := r1
      subst e
      exact .cons n t (ih r2)

section
variable {X : Cx} {e : Expr} {te : TE} {lo hi : Option Expr} {tl th : TO} {pos p2 : Pos}

theorem po_none : PO X none tNoPart := by
  intro pins s σ H Q I h
  rw [evalPart_none]
  exact wpAny_pure ⟨none, H, I, .none, h⟩
theorem po_some (h : PE X e te) : PO X (some e) (tPart te) := by
  intro pins s σ H Q I hw
  rw [evalPart_some]
  refine thn (h pins s σ H _ I hw) fun u s1 ⟨x, H1, I1, r1, q1⟩ => ?_
  obtain ⟨i, rfl, q⟩ := q1
  obtain ⟨t, rfl⟩ := r1
  exact ⟨some i, H1, I1, .int i t, q⟩

/-- what a slice of a value is, by values: the slice object stands at sl -/
def SlR (X : Cx) (r : V → Option Int → Option Int → Hp → VK → Prop) : Prop :=
  ∀ (pins : List (Addr × Obj)) (s : Shared) (σ : St) (H : Hp) (x : V) (v vl vu : Value) (lo hi : Option Int) (sl : Addr) (Q : VK), Inv X pins σ H s → RelV x v → s.heap.IsSliceOf sl vl vu .none → IsPart vl lo → IsPart vu hi → r x lo hi H Q →
    ∃ T id, typeLookup (.type T) "__getitem__" = pure (some (.builtin id)) ∧ s.TypeIs v T ∧ wpAny (model X.prog X.w) X.A (getItem v (.ref sl)) (EP X pins σ Q) X.xe s
def tSl (r : V → Option Int → Option Int → Hp → VK → Prop) (te : TE) (tl th : TO) : TE := fun σ H Q => te σ H fun x H1 => tl σ H1 fun l H2 => th σ H2 fun u H3 => r x l u H3 Q
/-- a[lo:hi], any a -/
theorem pe_slice {r : V → Option Int → Option Int → Hp → VK → Prop} (hr : SlR X r) (he : PE X e te) (hl : PO X lo tl) (hu : PO X hi th) : PE X (.Subscript e (.Slice lo hi none p2) pos) (tSl r te tl th) := by
  intro pins s σ H Q I h
  refine Subscript_ (thn (he pins s σ H _ I h) fun v s1 ⟨x, H1, I1, r1, q1⟩ => ?_)
  refine wpAny_Slice (thn (hl pins s1 σ H1 _ I1 q1) fun vl s2 ⟨l, H2, I2, pl, q2⟩ => thn (hu pins s2 σ H2 _ I2 q2) fun vu s3 ⟨u, H3, I3, pu, q3⟩ => ?_)
  rw [evalPart_none]
  refine wpAny_pure ?_
  have I4 : Inv X pins σ H3 { s3 with heap := s3.heap.push { cls := .type "slice", data := .fields #[vl, vu, .none] } } := I3.kept (t' := s3.toks) fun b ob q => Heap.get?_push_of_some _ q
  obtain ⟨T, id, hT, ht, hg⟩ := hr pins { s3 with heap := s3.heap.push { cls := .type "slice", data := .fields #[vl, vu, .none] } } σ H3 x v vl vu l u s3.heap.objs.size Q I4 r1 (Heap.IsSliceOf.new ..) pl pu q3
  show wpAny (model X.prog X.w) X.A (subscriptTail e (.Slice lo hi none p2) v (.ref s3.heap.objs.size)) (EP X pins σ Q) X.xe { s3 with heap := s3.heap.push { cls := .type "slice", data := .fields #[vl, vu, .none] } }
  exact tail_any (ops := [.ref s3.heap.objs.size, v]) ht hT hg (by with_unfolding_all rfl)

/-- the items of xs[lo:hi] -/
def cutV (xs : List V) (lo hi : Option Int) : List V := (xs.drop (HT.sIx xs.length 0 lo)).take (HT.sIx xs.length xs.length hi - HT.sIx xs.length 0 lo)
theorem cutV_length (xs : List V) (lo hi : Option Int) : (cutV xs lo hi).length ≤ xs.length := by
  unfold cutV
  rw [List.length_take, List.length_drop]
  omega
/-! ### t < u, t + u -/
/-- t + u, t not empty: u empty gives t itself -/
def rCatT (K : PySem.W.Frag) : R2 := fun x y H Q => ∃ a b xs ys, x = .ref a ∧ y = .ref b ∧ SqT K H a xs ∧ SqT K H b ys ∧ xs ≠ [] ∧ xs.length + ys.length ≤ sizeLine ∧
  (ys = [] → Q (.ref a) H) ∧ (ys ≠ [] → ∀ p, H p = none → Q (.ref p) (upd H p (.tup (xs ++ ys))))
theorem Vals.nil_iff {xs : List V} {us : List Value} (r : Vals xs us) : us = [] ↔ xs = [] := by
  cases r with
  | nil => simp
  | cons _ _ => simp
theorem op_catT : OpR X (binaryOp .Add) (rCatT X.K) := by
  intro pins s σ H x y v u Q I rx ry h
  obtain ⟨a, b, xs, ys, rfl, rfl, ha, hb, hx, hz, q1, q2⟩ := h
  cases rx
  cases ry
  obtain ⟨its, r1, p1, _⟩ := I.tuple ha
  obtain ⟨its2, r2, p2, _⟩ := I.tuple hb
  refine HT.cat_tup p1 p2 (fun z => hx (r1.nil_iff.mp z)) (fun z => ⟨.ref a, H, I, rfl, q1 (r2.nil_iff.mp z)⟩) (fun z => ?_) (by rw [← r1.length, ← r2.length]; exact hz)
  refine ⟨.ref s.heap.objs.size, _, I.laid (t' := s.toks) (o := .tup (xs ++ ys)) (fun b ob q => Heap.get?_push_of_some _ q) (Nat.le_refl _) ?_, rfl, q2 (fun w => z (r2.nil_iff.mpr w)) _ (I.hok.fresh (Nat.le_refl _))⟩
  exact ⟨by rw [List.length_append]; exact hz, _, r1.append r2, IsTup.new _ _⟩
end
end L2

namespace L2
open PySem PySem.Spec PyProof.Rows

/-! ### places -/
/-- the place that an index of any sign means -/
def ixN (n : Nat) (i : Int) : Option Nat := if 0 ≤ i then (if i < n then some i.toNat else none) else if -(n : Int) ≤ i then some (i + n).toNat else none
def atI {α : Type} (xs : List α) (i : Int) : Option α := (ixN xs.length i).bind fun j => xs[j]?
theorem ixN_seq {n : Nat} {i : Int} {j : Nat} (h : ixN n i = some j) : seqIndex? i n = some j ∧ j < n ∧ -(n : Int) ≤ i ∧ i < n := by
  unfold ixN at h
  by_cases h0 : 0 ≤ i
  · rw [if_pos h0] at h
    by_cases h1 : i < n
    · rw [if_pos h1] at h
      have e : i.toNat = j := Option.some.inj h
      exact ⟨by rw [seqIndex_of h0 h1, e], by omega, by omega, h1⟩
    · rw [if_neg h1] at h; cases h
  · rw [if_neg h0] at h
    by_cases h1 : -(n : Int) ≤ i
    · rw [if_pos h1] at h
      have e : (i + n).toNat = j := Option.some.inj h
      exact ⟨by rw [seqIndex_neg (by omega) h1, e], by omega, h1, by omega⟩
    · rw [if_neg h1] at h; cases h
theorem atI_get {α : Type} {xs : List α} {i : Int} {v : α} (h : atI xs i = some v) : ∃ j, seqIndex? i xs.length = some j ∧ xs[j]? = some v ∧ j < xs.length ∧ -(xs.length : Int) ≤ i ∧ i < xs.length := by
  unfold atI at h
  cases e : ixN xs.length i with
  | none => rw [e] at h; cases h
  | some j =>
    rw [e] at h
    obtain ⟨h1, h2, h3, h4⟩ := ixN_seq e
    exact ⟨j, h1, h, h2, h3, h4⟩
theorem atI_nat {α : Type} {xs : List α} {j : Nat} {v : α} (h : xs[j]? = some v) : atI xs (j : Int) = some v := by
  have hj : j < xs.length := (List.getElem?_eq_some_iff.mp h).1
  have e : ixN xs.length (j : Int) = some j := by
    unfold ixN
    rw [if_pos (by omega), if_pos (by omega)]; simp
  unfold atI; rw [e]; exact h
/-! ### what may be subscripted -/
/-- what stands as an index of a plain subscript -/
def PlainIx (b : Expr) : Prop := ∀ o i, subscripted b false o i = operate [o, i] (getItem o i)
/-- a subscript by values -/
def IxR (X : Cx) (r : R2) : Prop :=
  ∀ (value slice : Expr) (pins : List (Addr × Obj)) (s : Shared) (σ : St) (H : Hp) (x y : V) (v u : Value) (Q : VK), Inv X pins σ H s → RelV x v → RelV y u → r x y H Q →
    subscripted slice false v u = operate [v, u] (getItem v u) → wpAny (model X.prog X.w) X.A (subscriptTail value slice v u) (EP X pins σ Q) X.xe s
/-- a call of a builtin's method by values: the receiver, the arguments -/
def MtR (X : Cx) (id : String) (r : V → List V → Hp → VK → Prop) : Prop :=
  ∀ (pins : List (Addr × Obj)) (s : Shared) (σ : St) (H : Hp) (x : V) (xs : List V) (v : Value) (us : List Value) (Q : VK), Inv X pins σ H s → RelV x v → Vals xs us → r x xs H Q →
    wpAny (model X.prog X.w) X.A (call (.builtin id) (v :: us)) (EP X pins σ Q) X.xe s
section
variable {X : Cx} {a b : Expr} {ta tb : TE} {pos : Pos}
theorem IxR.or {r r' : R2} (h : IxR X r) (h' : IxR X r') : IxR X (fun x y H Q => r x y H Q ∨ r' x y H Q) := by
  intro value slice pins s σ H x y v u Q I rx ry q hs
  rcases q with q | q
  · exact h value slice pins s σ H x y v u Q I rx ry q hs
  · exact h' value slice pins s σ H x y v u Q I rx ry q hs
/-- a[b] -/
theorem pe_ix {r : R2} (hr : IxR X r) (ha : PE X a ta) (hb : PE X b tb) (hs : PlainIx b) : PE X (.Subscript a b pos) (tOp r ta tb) := by
  intro pins s σ H Q I h
  exact Subscript_ (binT ha hb I h fun v u s2 x y H2 I2 rx ry q => hr a b pins s2 σ H2 x y v u Q I2 rx ry q (hs _ _))

def rIxL (K : PySem.W.Frag) : R2 := fun x y H Q => ∃ p xs i v, x = .ref p ∧ y = .int i ∧ SqL K H p xs ∧ atI xs i = some v ∧ Q v H
def rIxT (K : PySem.W.Frag) : R2 := fun x y H Q => ∃ p xs i v, x = .ref p ∧ y = .int i ∧ SqT K H p xs ∧ atI xs i = some v ∧ Q v H
def rIxS : R2 := fun x y H Q => ∃ z i c, x = .str z ∧ y = .int i ∧ z.length ≤ sizeLine ∧ atI z.cps.toList i = some c ∧ Q (.str ⟨#[c]⟩) H
theorem ix_list : IxR X (rIxL X.K) := by
  intro value slice pins s σ H x y v u Q I rx ry h hs
  obtain ⟨p, xs, i, z, rfl, rfl, hq, he, q⟩ := h
  cases rx
  obtain ⟨t, rfl⟩ := ry
  obtain ⟨its, r, pl, hz⟩ := I.list hq
  obtain ⟨j, h1, h2, h3, h4, h5⟩ := atI_get he
  obtain ⟨w, ew, rw'⟩ := r.get h2
  have hl := r.length
  have hn := line63
  have fin : EP X pins σ Q w s := ⟨z, H, I, rw', q⟩
  by_cases h0 : 0 ≤ i
  · have hj : i.toNat = j := by
      rw [seqIndex_of h0 h5] at h1
      exact Option.some.inj h1
    exact item_listR pl.isList h0 (by omega) (by rw [hj]; simpa using ew) fin hs
  · have hj : (i + (its.toArray.size : Int)).toNat = j := by
      rw [seqIndex_neg (by omega) h4] at h1
      rw [List.size_toArray, ← hl]
      exact Option.some.inj h1
    exact subscriptTail_builtinR (x := w) pl.isList.typeIs slot_list_getitem.lookup
      (wpAny_getItem_list_neg (Q := fun r s' => r = w ∧ EP X pins σ Q r s') pl.isList (by omega) (by rw [List.size_toArray] <;> omega) (by omega) (by rw [hj]; simpa using ew) ⟨rfl, fin⟩) hs
theorem ix_tup : IxR X (rIxT X.K) := by
  intro value slice pins s σ H x y v u Q I rx ry h hs
  obtain ⟨p, xs, i, z, rfl, rfl, hq, he, q⟩ := h
  cases rx
  obtain ⟨t, rfl⟩ := ry
  obtain ⟨its, r, pl, hz⟩ := I.tuple hq
  obtain ⟨j, h1, h2, h3, h4, h5⟩ := atI_get he
  obtain ⟨w, ew, rw'⟩ := r.get h2
  have hl := r.length
  have hn := line63
  have fin : EP X pins σ Q w s := ⟨z, H, I, rw', q⟩
  exact subscriptTail_builtinR (x := w) pl.typeIs slot_tuple_getitem.lookup
    (getItem_tuple (j := j) (Q := fun r s' => r = w ∧ EP X pins σ Q r s') pl (by omega) (by omega) (by rw [List.size_toArray, ← hl]; exact h1) (by simpa using ew) ⟨rfl, fin⟩) hs
theorem ix_str : IxR X rIxS := by
  intro value slice pins s σ H x y v u Q I rx ry h hs
  obtain ⟨z, i, c, rfl, rfl, hz, he, q⟩ := h
  obtain ⟨t, rfl⟩ := rx
  obtain ⟨t', rfl⟩ := ry
  obtain ⟨j, h1, h2, h3, h4, h5⟩ := atI_get he
  have hl : z.cps.toList.length = z.length := by simp [Str.length]
  rw [hl] at h1 h4 h5
  have hn := line63
  exact tail_any (typeIs_str s z t) slot_str_getitem.lookup (getItem_str (c := c) (by
    have e1 : decide (i < -(2 ^ 63 : Int)) = false := decide_eq_false (by omega)
    have e2 : decide (i ≥ 2 ^ 63) = false := decide_eq_false (by omega)
    rw [e1, e2, Bool.or_false]) (by rw [h1]; simpa using h2) ⟨.str ⟨#[c]⟩, H, I.tok _, ⟨_, rfl⟩, q⟩) hs
/-- list, tuple or str -/
def rIx (K : PySem.W.Frag) : R2 := fun x y H Q => rIxL K x y H Q ∨ rIxT K x y H Q ∨ rIxS x y H Q
theorem ix_seq : IxR X (rIx X.K) := ix_list.or (ix_tup.or ix_str)

/-! ### xs[i] = v, any sign -/
/-- the list's object behind a store -/
theorem mapSeq_set (its : List Value) (n j : Nat) (u : Value) : Obj.mapSeq (·.setIfInBounds j u) { cls := .type "list", data := .seq its.toArray n } = { cls := .type "list", data := .seq (its.set j u).toArray n } := by
  simp [Obj.mapSeq]
theorem Inv.lst {pins : List (Addr × Obj)} {σ : St} {H : Hp} {s : Shared} {p : Addr} {xs : List V} (I : Inv X pins σ H s) (h : H p = some (.lst xs)) :
    ∃ (its : List Value) (n : Nat), Vals xs its ∧ s.heap.get? p = some { cls := .type "list", data := .seq its.toArray n } ∧ xs.length ≤ sizeLine := by
  obtain ⟨z, its, n, r, e⟩ := I.hok p _ h
  exact ⟨its, n, r, e, z⟩
/-- the list at p is written by an update of its object -/
theorem Inv.lstUpd {pins : List (Addr × Obj)} {σ : St} {H : Hp} {s : Shared} {p : Addr} {xs ys : List V} {its its' : List Value} {n n' : Nat} {f : Obj → Obj} (I : Inv X pins σ H s) (h : H p = some (.lst xs))
    (ho : s.heap.get? p = some { cls := .type "list", data := .seq its.toArray n }) (hf : f { cls := .type "list", data := .seq its.toArray n } = { cls := .type "list", data := .seq its'.toArray n' }) (r : Vals ys its') (hz : ys.length ≤ sizeLine) (t : Nat) (ht : 0 < t := by ((try dsimp only); first | assumption | exact Inv.tk (by assumption) | exact Nat.succ_pos _ | exact Nat.lt_of_lt_of_le (Inv.tk (by assumption)) (by assumption) | exact Nat.add_pos_left (Inv.tk (by assumption)) _ | omega)) :
    Inv X pins σ (upd H p (.lst ys)) { s with heap := s.heap.update p f, toks := t } := by
  have e : (s.heap.update p f).get? p = some { cls := .type "list", data := .seq its'.toArray n' } := by
    rw [Heap.get?_update_self f ho (by rw [hf] <;> rfl), hf]
  refine I.write (x := p) (e := p) (by rw [h]; trivial) (.inl rfl) (fun b u hb q => (Heap.get?_update_other _ _ (Ne.symm hb)).trans q) ⟨_, e⟩ ?_
  exact ⟨hz, its', n', r, e⟩
def rSetL : V → V → V → Hp → (Hp → Prop) → Prop := fun o i v H Q => ∃ p xs k j, o = .ref p ∧ i = .int k ∧ H p = some (.lst xs) ∧ ixN xs.length k = some j ∧ Q (upd H p (.lst (xs.set j v)))
theorem set_list : PSet X rSetL := by
  intro pins s σ H o i v ov iv u Q I ro ri rv h
  obtain ⟨p, xs, k, j, rfl, rfl, hp, hj, q⟩ := h
  cases ro
  obtain ⟨t, rfl⟩ := ri
  obtain ⟨its, n, r, ho, hz⟩ := I.lst hp
  obtain ⟨h1, h2, h3, h4⟩ := ixN_seq hj
  have hl := r.length
  have hn := line63
  have I' : Inv X pins σ (upd H p (.lst (xs.set j v))) { s with heap := s.heap.update p (Obj.mapSeq (·.setIfInBounds j u)) } :=
    I.lstUpd hp ho (mapSeq_set its n j u) (r.set rv j) (by rw [List.length_set]; exact hz) s.toks
  by_cases h0 : 0 ≤ k
  · have hk : k.toNat = j := by
      rw [seqIndex_of h0 h4] at h1
      exact Option.some.inj h1
    exact PySem.W.ki_setAt ho h0 (by omega) (by rw [List.size_toArray, ← hl]; exact h4) (by rw [hk]; exact ⟨_, I', q⟩)
  · have hk : (k + (its.toArray.size : Int)).toNat = j := by
      rw [seqIndex_neg (by omega) h3] at h1
      rw [List.size_toArray, ← hl]
      exact Option.some.inj h1
    exact PySem.W.ki_setBack ho (by omega) (by rw [List.size_toArray, ← hl]; exact h3) (by omega) (by rw [hk]; exact ⟨_, I', q⟩)

/-! ### slices -/
theorem slice_bounds (lo hi : Option Int) (n : Nat) : (sliceBounds lo hi none n).1 = ((HT.sIx n 0 lo : Nat) : Int) ∧ (sliceBounds lo hi none n).2.1 = ((HT.sIx n n hi : Nat) : Int) ∧ (sliceBounds lo hi none n).2.2 = 1 := by
  refine ⟨?_, ?_, rfl⟩
  · cases lo with
    | none => simp [sliceBounds, HT.sIx]
    | some i =>
      simp only [sliceBounds, HT.sIx, Option.getD_none, show (1 : Int) > 0 by decide, if_true]
      by_cases h : i < 0
      · simp only [h, if_true] <;> omega
      · simp only [h, if_false] <;> omega
  · cases hi with
    | none => simp [sliceBounds, HT.sIx]
    | some i =>
      simp only [sliceBounds, HT.sIx, Option.getD_none, show (1 : Int) > 0 by decide, if_true]
      by_cases h : i < 0
      · simp only [h, if_true] <;> omega
      · simp only [h, if_false] <;> omega
theorem slicePick_cut (its : List Value) (lo hi : Option Int) : slicePick its.toArray lo hi none = ((its.drop (HT.sIx its.length 0 lo)).take (HT.sIx its.length its.length hi - HT.sIx its.length 0 lo)).toArray := by
  obtain ⟨h1, h2, h3⟩ := slice_bounds lo hi its.toArray.size
  unfold slicePick
  rw [h1, h2, h3]
  simp only [sliceRange_one, pick_run, List.size_toArray] <;> rfl
/-- xs[lo:hi] of a list: a new list -/
def rSlL (K : PySem.W.Frag) : V → Option Int → Option Int → Hp → VK → Prop := fun x lo hi H Q => ∃ a xs, x = .ref a ∧ SqL K H a xs ∧ ∀ p, H p = none → Q (.ref p) (upd H p (.lst (cutV xs lo hi)))
theorem sl_list : SlR X (rSlL X.K) := by
  intro pins s σ H x v vl vu lo hi sl Q I rx hs pl pu h
  obtain ⟨a, xs, rfl, hx, q⟩ := h
  cases rx
  obtain ⟨its, r, ht, hz⟩ := I.list hx
  have hlen := r.length
  refine ⟨"list", _, slot_list_getitem.lookup, ht.isList.typeIs, ?_⟩
  refine wpAny_getItem_list_slice ht.isList hs pl pu .none (by simp) ?_ (by rw [List.size_toArray] <;> omega)
  rw [slicePick_cut, ← hlen]
  refine ⟨.ref s.heap.objs.size, _, I.laid (t' := s.toks) (o := .lst (cutV xs lo hi)) (fun b ob q => Heap.get?_push_of_some _ q) (Nat.le_refl _) ?_, rfl, q _ (I.hok.fresh (Nat.le_refl _))⟩
  exact ⟨Nat.le_trans (cutV_length xs lo hi) hz, _, 0, (r.drop (HT.sIx xs.length 0 lo)).take (HT.sIx xs.length xs.length hi - HT.sIx xs.length 0 lo), Heap.get?_push_size _ rfl⟩

/-! ### in, not in: flat items -/
def flatV : V → Bool
  | .non => true
  | .bl _ => true
  | .int _ => true
  | .str _ => true
  | _ => false
/-- == of flat values -/
def eqV : V → V → Bool
  | .non, .non => true
  | .bl a, .bl b => a == b
  | .bl a, .int b => (if a then 1 else 0) == b
  | .int a, .bl b => a == (if b then 1 else 0)
  | .int a, .int b => a == b
  | .str a, .str b => a == b
  | _, _ => false
theorem eqAt_V {A : Around} {s : Shared} {y x : V} {u v : Value} (ry : RelV y u) (rx : RelV x v) (fy : flatV y = true) (fx : flatV x = true) : SeqAt.EqAt A s u v (eqV y x) := by
  cases y with
  | non =>
    cases ry
    cases x with
    | non => cases rx; exact SeqAt.EqAt.same _
    | bl b => cases rx; exact SeqAt.EqAt.none_bool b
    | int b => obtain ⟨t, rfl⟩ := rx; exact SeqAt.EqAt.none_int b t
    | str b => obtain ⟨t, rfl⟩ := rx; exact SeqAt.EqAt.none_str b t
    | _ => exact absurd (show false = true from fx) Bool.false_ne_true
  | bl a =>
    cases ry
    cases x with
    | non => cases rx; exact SeqAt.EqAt.bool_none a
    | bl b => cases rx; exact SeqAt.EqAt.bool_bool a b
    | int b => obtain ⟨t, rfl⟩ := rx; exact SeqAt.EqAt.bool_int a b t
    | str b => obtain ⟨t, rfl⟩ := rx; exact SeqAt.EqAt.bool_str a b t
    | _ => exact absurd (show false = true from fx) Bool.false_ne_true
  | int a =>
    obtain ⟨t', rfl⟩ := ry
    cases x with
    | non => cases rx; exact SeqAt.EqAt.int_none a t'
    | bl b => cases rx; exact SeqAt.EqAt.int_bool a t' b
    | int b => obtain ⟨t, rfl⟩ := rx; exact SeqAt.EqAt.int_int a t' b t
    | str b => obtain ⟨t, rfl⟩ := rx; exact SeqAt.EqAt.int_str a t' b t
    | _ => exact absurd (show false = true from fx) Bool.false_ne_true
  | str a =>
    obtain ⟨t', rfl⟩ := ry
    cases x with
    | non => cases rx; exact SeqAt.EqAt.str_none a t'
    | bl b => cases rx; exact SeqAt.EqAt.str_bool a t' b
    | int b => obtain ⟨t, rfl⟩ := rx; exact SeqAt.EqAt.str_int a t' b t
    | str b => obtain ⟨t, rfl⟩ := rx; exact SeqAt.EqAt.str_str a t' b t
    | _ => exact absurd (show false = true from fx) Bool.false_ne_true
  | _ => exact absurd (show false = true from fy) Bool.false_ne_true
/-- the items' answers, read off the values (a value's own answer does not lean on its token) -/
def eqU (x : V) (u : Value) : Bool := match u with
  | .none => eqV .non x
  | .bool b => eqV (.bl b) x
  | .int i _ => eqV (.int i) x
  | .str z _ => eqV (.str z) x
  | _ => false
theorem eqU_of {x y : V} {u : Value} (r : RelV y u) (f : flatV y = true) : eqU x u = eqV y x := by
  cases y with
  | non => cases r; rfl
  | bl b => cases r; rfl
  | int i => obtain ⟨t, rfl⟩ := r; rfl
  | str z => obtain ⟨t, rfl⟩ := r; rfl
  | _ => exact absurd (show false = true from f) Bool.false_ne_true
theorem any_eqU {x : V} : ∀ {xs : List V} {us : List Value}, Vals xs us → xs.all flatV = true → us.any (eqU x) = xs.any fun y => eqV y x
  | _, _, .nil, _ => rfl
  | y :: xs, u :: us, .cons r t, f => by
    rw [List.all_cons, Bool.and_eq_true] at f
    rw [List.any_cons, List.any_cons, eqU_of r f.1, any_eqU t f.2]
theorem mem_eqAt {A : Around} {s : Shared} {x : V} {v : Value} (rx : RelV x v) (fx : flatV x = true) : ∀ {xs : List V} {us : List Value}, Vals xs us → xs.all flatV = true → ∀ u ∈ us, SeqAt.EqAt A s u v (eqU x u)
  | _, _, .nil, _ => fun u hu => by cases hu
  | y :: xs, u :: us, .cons r t, f => fun u' hu => by
    rw [List.all_cons, Bool.and_eq_true] at f
    rcases List.mem_cons.mp hu with rfl | hu
    · rw [eqU_of r f.1]; exact eqAt_V r rx f.1 fx
    · exact mem_eqAt rx fx t f.2 u' hu
def inV (x : V) (xs : List V) : Bool := xs.any fun y => eqV y x
/-- x in a list or tuple of flat items -/
def rIn (K : PySem.W.Frag) (neg : Bool) : R2 := fun x y H Q => ∃ p xs, y = .ref p ∧ (SqL K H p xs ∨ SqT K H p xs) ∧ flatV x = true ∧ xs.all flatV = true ∧ Q (.bl (if neg then !inV x xs else inV x xs)) H
theorem op_in_seq : OpR X (compareOp .In) (rIn X.K false) := by
  intro pins s σ H x y v u Q I rx ry h
  obtain ⟨p, xs, rfl, hq, fx, fs, q⟩ := h
  cases ry
  rcases hq with hq | hq
  · obtain ⟨its, r, pl, hz⟩ := I.list hq
    refine SeqAt.in_listAt (eqU x) pl.isList (fun w hw => mem_eqAt rx fx r fs w (by simpa using hw)) ⟨.bl _, H, I, rfl, ?_⟩
    rw [show its.toArray.any (eqU x) = its.any (eqU x) by simp, any_eqU r fs]
    exact q
  · obtain ⟨its, r, pl, hz⟩ := I.tuple hq
    refine SeqAt.in_tupleAt (eqU x) pl (fun w hw => mem_eqAt rx fx r fs w (by simpa using hw)) ⟨.bl _, H, I, rfl, ?_⟩
    rw [show its.toArray.any (eqU x) = its.any (eqU x) by simp, any_eqU r fs]
    exact q
theorem op_notIn_seq : OpR X (compareOp .NotIn) (rIn X.K true) := by
  intro pins s σ H x y v u Q I rx ry h
  obtain ⟨p, xs, rfl, hq, fx, fs, q⟩ := h
  cases ry
  rcases hq with hq | hq
  · obtain ⟨its, r, pl, hz⟩ := I.list hq
    refine SeqAt.notIn_listAt (eqU x) pl.isList (fun w hw => mem_eqAt rx fx r fs w (by simpa using hw)) ⟨.bl _, H, I, rfl, ?_⟩
    rw [show its.toArray.any (eqU x) = its.any (eqU x) by simp, any_eqU r fs]
    exact q
  · obtain ⟨its, r, pl, hz⟩ := I.tuple hq
    refine SeqAt.notIn_tupleAt (eqU x) pl (fun w hw => mem_eqAt rx fx r fs w (by simpa using hw)) ⟨.bl _, H, I, rfl, ?_⟩
    rw [show its.toArray.any (eqU x) = its.any (eqU x) by simp, any_eqU r fs]
    exact q
theorem op_notIn_str : OpR X (compareOp .NotIn) (fun x y H Q => ∃ i j, x = .str i ∧ y = .str j ∧ Q (.bl (!(!(Builtin.Str.occurrences j i 0 j.length 1).isEmpty))) H) := by
  intro pins s σ H x y v u Q I rx ry h
  obtain ⟨i, j, rfl, rfl, q⟩ := h
  obtain ⟨t, rfl⟩ := rx
  obtain ⟨t', rfl⟩ := ry
  exact notIn_str ⟨.bl _, H, I, rfl, q⟩

/-! ### len, list(x), tuple(x) of any list or tuple that is read -/
theorem call_len_seq : CallR X (.builtin "len") (fun xs H Q => ∃ p ys, xs = [.ref p] ∧ (SqL X.K H p ys ∨ SqT X.K H p ys) ∧ Q (.int ys.length) H) := by
  intro pins s σ H xs us Q I r h
  obtain ⟨p, ys, rfl, hq, q⟩ := h
  obtain ⟨u, rfl, rx⟩ := vals1 r
  cases rx
  have hn := line63
  rcases hq with hq | hq
  · obtain ⟨its, r', pl, hz⟩ := I.list hq
    have hlen := r'.length
    exact Calls.call_len_list pl.isList (by simp only [List.size_toArray] <;> omega) ⟨.int ys.length, H, I.tok _, ⟨s.toks + 1, by rw [List.size_toArray, hlen]⟩, q⟩
  · obtain ⟨its, r', pl, hz⟩ := I.tuple hq
    have hlen := r'.length
    exact len_tuple pl (by simp only [List.size_toArray] <;> omega) ⟨.int ys.length, H, I.tok _, ⟨s.toks + 1, by rw [List.size_toArray, hlen]⟩, q⟩
theorem call_len_str : CallR X (.builtin "len") (fun xs H Q => ∃ z, xs = [.str z] ∧ z.length ≤ sizeLine ∧ Q (.int z.length) H) := by
  intro pins s σ H xs us Q I r h
  obtain ⟨z, rfl, hz, q⟩ := h
  obtain ⟨u, rfl, t, rfl⟩ := vals1 r
  have hn := line63
  exact len_str (by omega) ⟨.int z.length, H, I.tok _, ⟨_, rfl⟩, q⟩
theorem call_list_of : CallR X (.type "list") (fun xs H Q => ∃ p ys, xs = [.ref p] ∧ (SqL X.K H p ys ∨ SqT X.K H p ys) ∧ ∀ l, H l = none → Q (.ref l) (upd H l (.lst ys))) := by
  intro pins s σ H xs us Q I r h
  obtain ⟨p, ys, rfl, hq, q⟩ := h
  obtain ⟨u, rfl, rx⟩ := vals1 r
  cases rx
  have fin : ∀ (its : List Value), Vals ys its → ys.length ≤ sizeLine → ∀ (h' : Heap) (c' : Nat), (∀ b o', s.heap.get? b = some o' → h'.get? b = some o') →
      h'.get? s.heap.objs.size = some { cls := .type "list", dict := none, data := .seq its.toArray c', slots := #[] } → EP X pins σ Q (.ref s.heap.objs.size) { s with heap := h' } := fun its r' hz h' c' kp e =>
    ⟨.ref s.heap.objs.size, _, I.laid (t' := s.toks) kp (Nat.le_refl _) (show ObjOk X.prog X.w _ h' _ (.lst ys) from ⟨hz, its, c', r', e⟩), rfl, q _ (I.hok.fresh (Nat.le_refl _))⟩
  rcases hq with hq | hq
  · obtain ⟨its, r', pl, hz⟩ := I.list hq
    have hlen := r'.length
    obtain ⟨o, ho, hc, n, hd⟩ := pl.isList
    exact call_list_seq p (.inl rfl) ho hc hd (fun h' c' kp e => fin its r' hz h' c' kp e) (by simp only [List.size_toArray] <;> omega)
  · obtain ⟨its, r', pl, hz⟩ := I.tuple hq
    have hlen := r'.length
    obtain ⟨o, ho, hc, n, hd⟩ := pl
    exact call_list_seq p (.inr rfl) ho hc hd (fun h' c' kp e => fin its r' hz h' c' kp e) (by simp only [List.size_toArray] <;> omega)
theorem call_tuple_of : CallR X (.type "tuple") (fun xs H Q => ∃ p ys, xs = [.ref p] ∧ ((SqL X.K H p ys ∧ ∀ l, H l = none → Q (.ref l) (upd H l (.tup ys))) ∨ (SqT X.K H p ys ∧ Q (.ref p) H))) := by
  intro pins s σ H xs us Q I r h
  obtain ⟨p, ys, rfl, h⟩ := h
  obtain ⟨u, rfl, rx⟩ := vals1 r
  cases rx
  rcases h with ⟨hq, q⟩ | ⟨hq, q⟩
  · obtain ⟨its, r', pl, hz⟩ := I.list hq
    have hlen := r'.length
    refine call_tuple_list pl.isList (fun h' kp => ?_) (by simp only [List.size_toArray] <;> omega)
    have I1 : Inv X pins σ H { s with heap := h' } := I.kept (t' := s.toks) kp
    have I2 : Inv X pins σ (upd H h'.objs.size (.tup ys)) { s with heap := h'.push { cls := .type "tuple", data := .seq its.toArray } } :=
      I1.laid (t' := s.toks) (fun b o e => Heap.get?_push_of_some _ e) (Nat.le_refl _) (show ObjOk X.prog X.w _ _ _ (.tup ys) from ⟨hz, its, r', IsTup.new _ _⟩)
    exact ⟨.ref h'.objs.size, _, I2, rfl, q _ (I1.hok.fresh (Nat.le_refl _))⟩
  · obtain ⟨its, r', pl, hz⟩ := I.tuple hq
    exact call_tuple_same pl ⟨.ref p, H, I, rfl, q⟩

/-! ### the call of a builtin's method: o.m(..) -/
/-- the value is of that builtin type -/
def tyV (K : PySem.W.Frag) (T : String) (x : V) (H : Hp) : Prop := match x with
  | .str _ => T = "str"
  | .int _ => T = "int"
  | .ref p => (T = "list" ∧ ∃ xs, SqL K H p xs) ∨ (T = "tuple" ∧ ∃ o, K.lookup p = some o ∧ o.cls = .type "tuple" ∧ o.dict = none) ∨
      (T = "dict" ∧ ((∃ kvs, H p = some (.dK kvs)) ∨ ∃ kvs, H p = some (.dT kvs))) ∨ (T = "set" ∧ ∃ S n, H p = some (.set S n))
  | _ => False
theorem tyV_is {pins : List (Addr × Obj)} {σ : St} {H : Hp} {s : Shared} {T : String} {x : V} {v : Value} (I : Inv X pins σ H s) (r : RelV x v) (ty : tyV X.K T x H) :
    s.TypeIs v T ∧ ∀ a, v = .ref a → ∃ ob, s.heap.get? a = some ob ∧ ob.dict = none := by
  cases x with
  | str z =>
    obtain ⟨t, rfl⟩ := r
    cases (show T = "str" from ty)
    exact ⟨typeIs_str s z t, fun _ e => nomatch e⟩
  | int i =>
    obtain ⟨t, rfl⟩ := r
    cases (show T = "int" from ty)
    exact ⟨typeIs_int s i t, fun _ e => nomatch e⟩
  | ref p =>
    cases r
    rcases ty with ⟨rfl, xs, hq⟩ | ⟨rfl, o, hk, hc, hd⟩ | ⟨rfl, hk⟩ | ⟨rfl, S, n, hk⟩
    · obtain ⟨its, _, pl, _⟩ := I.list hq
      refine ⟨pl.isList.typeIs, fun a e => ?_⟩
      cases e
      obtain ⟨o, n, e, c, hd, _⟩ := pl
      exact ⟨o, e, hd⟩
    · refine ⟨⟨o, I.kIn p o hk, hc⟩, fun a e => ?_⟩
      cases e
      exact ⟨o, I.kIn _ o hk, hd⟩
    · have z : ∃ o, s.heap.get? p = some o ∧ o.ExactDict := by
        rcases hk with ⟨kvs, hk⟩ | ⟨kvs, hk⟩
        · obtain ⟨_, _, _, _, o, _, _, e, ex, _⟩ := I.hok p _ hk
          exact ⟨o, e, ex⟩
        · obtain ⟨_, _, _, _, o, _, _, e, ex, _⟩ := I.hok p _ hk
          exact ⟨o, e, ex⟩
      obtain ⟨o, e, ex⟩ := z
      refine ⟨⟨o, e, ex.1⟩, fun a e2 => ?_⟩
      cases e2
      exact ⟨o, e, ex.2.1⟩
    · obtain ⟨o, _, _, _, e, ex, _⟩ := I.hok p _ hk
      refine ⟨⟨o, e, ex.1⟩, fun a e2 => ?_⟩
      cases e2
      exact ⟨o, e, ex.2.1⟩
  | _ => exact False.elim ty
def tBM0 (K : PySem.W.Frag) (T : String) (r : V → List V → Hp → VK → Prop) (to : TE) : TE := fun σ H Q => to σ H fun x H1 => tyV K T x H1 ∧ r x [] H1 Q
def tBM (K : PySem.W.Frag) (T : String) (r : V → List V → Hp → VK → Prop) (to : TE) (t : TA) : TE := fun σ H Q => to σ H fun x H1 => tyV K T x H1 ∧ t σ H1 fun xs H2 => r x xs H2 Q
variable {o e : Expr} {es : List Expr} {to : TE} {t : TA} {name : Str} {apos cpos : Pos} {T id : String} {r : V → List V → Hp → VK → Prop}
theorem pe_bm0 (pa : PlainAttrs T) (slot : Slot T name id) (hty : typeOf (.builtin id) = pure (.type "method_descriptor")) (hm : MtR X id r) (ho : PE X o to)
    (hbase : attributeBase o name X.env (eval o X.env) = eval o X.env := by rfl) (hline : (apos.endLine == cpos.line) = true := by rfl) : PE X (.Call (.Attribute o name apos) [] [] cpos) (tBM0 X.K T r to) := by
  intro pins s σ H Q I h
  refine wpAny_Call_method0_late hbase hline (thn (ho pins s σ H _ I h) fun v s1 ⟨x, H1, I1, r1, ty, q1⟩ => ?_)
  obtain ⟨h1, h2⟩ := tyV_is I1 r1 ty
  exact ⟨T, id, pa, slot, hty, h1, h2, Calls.callWith_builtin rfl (PySem.evalArgs_none (hm pins s1 σ H1 x [] v [] Q I1 r1 .nil q1))⟩
theorem pe_bm (pa : PlainAttrs T) (slot : Slot T name id) (hty : typeOf (.builtin id) = pure (.type "method_descriptor")) (hm : MtR X id r) (ho : PE X o to) (ha : PA X (e :: es) t)
    (hbase : attributeBase o name X.env (eval o X.env) = eval o X.env := by rfl)
    (hfew : ((backTo cpos (starEach (e :: es) X.env)).all (fun x => !x.1) && (backToKw cpos (keywordEach [] X.env)).all (fun x => x.1.isSome)
      && decide ((e :: es).length + ([] : List Keyword).length + (if ([] : List Keyword).isEmpty then 0 else 1) < 30)) = true := by rfl)
    (hline : (apos.endLine == cpos.line) = true := by rfl) (hs : starEach (e :: es) X.env = (false, eval e X.env) :: starEach es X.env := by rfl) (hplain : (backTo cpos (starEach es X.env)).any (·.1) = false := by rfl) :
    PE X (.Call (.Attribute o name apos) (e :: es) [] cpos) (tBM X.K T r to t) := by
  intro pins s σ H Q I h
  refine wpAny_Call_method_late hbase hfew hline rfl (thn (ho pins s σ H _ I h) fun v s1 ⟨x, H1, I1, r1, ty, q1⟩ => ?_)
  obtain ⟨h1, h2⟩ := tyV_is I1 r1 ty
  refine ⟨T, id, pa, slot, hty, h1, h2, ?_⟩
  have hA := ha cpos pins s1 σ H1 _ I1 q1
  rw [hs] at hA ⊢
  refine Calls.callWith_builtin (by show (false || (backTo cpos (starEach es X.env)).any (·.1)) = false; rw [hplain] <;> rfl) (Calls.evalArgs_plain ?_)
  exact thn hA fun us s2 ⟨vs, H2, I2, r2, q2⟩ => hm pins s2 σ H2 x vs v us Q I2 r1 r2 q2
/- xs.append(e), list.index on a module's tuple .. are MtR facts of 06m -/
end
end L2

namespace L2
open PySem PySem.Spec PyProof.Rows

def MtM (X : Cx) (id : String) (r : V → List V → Hp → VK → Prop) : Prop :=
  ∀ (pins : List (Addr × Obj)) (s : Shared) (σ : St) (H : Hp) (x : V) (xs : List V) (v : Value) (us : List Value) (Q : VK), Inv X pins σ H s → RelV x v → Vals xs us → r x xs H Q →
    wpAny (model X.prog X.w) X.A (call (.builtin id) (v :: us)) (EP X pins σ Q) X.xe s

/-! ### lists of values -/
theorem Vals.one : ∀ {x : V} {us : List Value}, Vals [x] us → ∃ u, us = [u] ∧ RelV x u
  | _, _, .cons r .nil => ⟨_, rfl, r⟩
theorem Vals.zero : ∀ {us : List Value}, Vals [] us → us = []
  | _, .nil => rfl
theorem Vals.dropLast {xs : List V} {us : List Value} (h : Vals xs us) : Vals xs.dropLast us.dropLast := by
  induction h with
  | nil => exact .nil
  | cons r t ih =>
    cases t with
    | nil => exact .nil
    | cons q t' => exact .cons r ih
theorem erase_last {α : Type} (l : List α) : l.eraseIdx (l.length - 1) = l.dropLast := by
  induction l with
  | nil => rfl
  | cons a r ih =>
    cases r with
    | nil => rfl
    | cons b r =>
      have e : (a :: b :: r).length - 1 = ((b :: r).length - 1) + 1 := by
        have h1 : (a :: b :: r).length = r.length + 2 := rfl
        have h2 : (b :: r).length = r.length + 1 := rfl
        omega
      rw [e, List.eraseIdx_cons_succ, ih]
      all_goals rfl
section
variable {X : Cx} {pins : List (Addr × Obj)} {σ : St} {H : Hp} {s : Shared} {l b : Addr} {xs ys zs : List V}

/-! ### the two steps: a tracked list is rewritten, a new list is laid -/
theorem Inv.lset {its its' : List Value} {n : Nat} {f : Array Value → Array Value} {t' : Nat} (I : Inv X pins σ H s) (hH : H l = some (.lst xs))
    (e : s.heap.get? l = some { cls := .type "list", data := .seq its.toArray n }) (hf : f its.toArray = its'.toArray) (hv : Vals ys its') (hz : ys.length ≤ sizeLine) (ht : 0 < t' := by ((try dsimp only); first | assumption | exact Inv.tk (by assumption) | exact Nat.succ_pos _ | exact Nat.lt_of_lt_of_le (Inv.tk (by assumption)) (by assumption) | exact Nat.add_pos_left (Inv.tk (by assumption)) _ | omega)) :
    Inv X pins σ (upd H l (.lst ys)) { s with heap := s.heap.update l (Obj.mapSeq f), toks := t' } := by
  have q := PySem.IsL.update e f
  rw [hf] at q
  refine I.write (x := l) (e := l) (by rw [hH]; exact trivial) (.inl rfl) (fun b' u hb hu => (Heap.get?_update_other s.heap (Obj.mapSeq f) (Ne.symm hb)).trans hu) ⟨_, q⟩ ?_
  exact ⟨hz, its', _, hv, q⟩
theorem Inv.lnew {its : List Value} {t' : Nat} (I : Inv X pins σ H s) (hv : Vals ys its) (hz : ys.length ≤ sizeLine) (ht : 0 < t' := by ((try dsimp only); first | assumption | exact Inv.tk (by assumption) | exact Nat.succ_pos _ | exact Nat.lt_of_lt_of_le (Inv.tk (by assumption)) (by assumption) | exact Nat.add_pos_left (Inv.tk (by assumption)) _ | omega)) :
    Inv X pins σ (upd H s.heap.objs.size (.lst ys)) { s with heap := s.heap.push { cls := .type "list", data := .seq its.toArray }, toks := t' } :=
  I.laid (fun _ _ q => Heap.get?_push_of_some _ q) (Nat.le_refl _) ⟨hz, its, 0, hv, Heap.get?_push_size _ rfl⟩
theorem Inv.fresh (I : Inv X pins σ H s) : H s.heap.objs.size = none := I.hok.fresh (Nat.le_refl _)
theorem Inv.lstM (I : Inv X pins σ H s) (hH : H l = some (.lst xs)) : xs.length ≤ sizeLine ∧ ∃ (its : List Value) (n : Nat), Vals xs its ∧ xs.length = its.length ∧ s.heap.get? l = some { cls := .type "list", data := .seq its.toArray n } := by
  obtain ⟨z, its, n, r, e⟩ := I.hok l _ hH
  exact ⟨z, its, n, r, r.length, e⟩

theorem notLongL {n : Nat} (h : n ≤ sizeLine) : Builtin.List.listTooLong n = false := by
  unfold Builtin.List.listTooLong
  exact decide_eq_false (by omega)
end

section
variable {X : Cx}

/-! ### methods -/
def rAppend : V → List V → Hp → VK → Prop := fun x vs H Q => ∃ l xs y, x = .ref l ∧ vs = [y] ∧ H l = some (.lst xs) ∧ xs.length < sizeLine ∧ Q .non (upd H l (.lst (xs ++ [y])))
theorem mt_append : MtM X "list.append" rAppend := by
  intro pins s σ H x vs v us Q I rx rv h
  obtain ⟨l, xs, y, rfl, rfl, hH, hz, q⟩ := h
  cases rx
  obtain ⟨u, rfl, ru⟩ := rv.one
  obtain ⟨z, its, n, r, hl, e⟩ := I.lstM hH
  refine call_meets F.slot_list_append ⟨_, e, rfl⟩ F.entry_list_append (F.args_list_append_2 _ _) (PySem.list_append l its.toArray n u (by rw [List.size_toArray]; omega)) ⟨e, ?_⟩
  refine ⟨.non, _, I.lset (its' := its ++ [u]) hH e (by simp) (r.append (.cons ru .nil)) ?_, rfl, q⟩
  rw [List.length_append, List.length_singleton]
  omega

def rExtend : V → List V → Hp → VK → Prop := fun x vs H Q => ∃ l b xs zs, x = .ref l ∧ vs = [.ref b] ∧ H l = some (.lst xs) ∧ H b = some (.lst zs) ∧ xs.length + zs.length ≤ sizeLine ∧ Q .non (upd H l (.lst (xs ++ zs)))
theorem mt_extend : MtM X "list.extend" rExtend := by
  intro pins s σ H x vs v us Q I rx rv h
  obtain ⟨l, b, xs, zs, rfl, rfl, hH, hB, hz, q⟩ := h
  cases rx
  obtain ⟨u, rfl, ru⟩ := rv.one
  cases ru
  obtain ⟨z, its, n, r, hl, e⟩ := I.lstM hH
  obtain ⟨z2, its2, n2, r2, hl2, e2⟩ := I.lstM hB
  have hsz : its.toArray.size + its2.toArray.size ≤ sizeLine := by rw [List.size_toArray, List.size_toArray]; omega
  have hlong : ¬ (!its.toArray.isEmpty && Builtin.List.listTooLong (its.toArray.size + its2.toArray.size)) = true := by
    rw [notLongL hsz, Bool.and_false]
    exact Bool.false_ne_true
  refine call_meets F.slot_list_extend ⟨_, e, rfl⟩ F.entry_list_extend (F.args_list_extend_2 _ _)
    (AutoSeq1.list_extend_list_list_0 l its.toArray n b its2.toArray n2 hlong (by rw [List.size_toArray]; omega) (by omega)) ⟨e, e2, ?_⟩
  refine ⟨.non, _, I.lset (its' := its ++ its2) hH e (by simp) (r.append r2) ?_, rfl, q⟩
  rw [List.length_append]
  omega

def rPop : V → List V → Hp → VK → Prop := fun x vs H Q => ∃ l xs y, x = .ref l ∧ vs = [] ∧ H l = some (.lst xs) ∧ xs[xs.length - 1]? = some y ∧ Q y (upd H l (.lst xs.dropLast))
theorem mt_pop : MtM X "list.pop" rPop := by
  intro pins s σ H x vs v us Q I rx rv h
  obtain ⟨l, xs, y, rfl, rfl, hH, hy, q⟩ := h
  cases rx
  have hus := rv.zero
  subst hus
  obtain ⟨z, its, n, r, hl, e⟩ := I.lstM hH
  obtain ⟨u, hu, ru⟩ := r.get hy
  have hy' : its.toArray[its.toArray.size - 1]? = some u := by
    show its.toArray[its.length - 1]? = some u
    rw [← Array.getElem?_toList, ← hl]
    exact hu
  refine call_meets F.slot_list_pop ⟨_, e, rfl⟩ F.entry_list_pop (F.args_list_pop_1 _) (MeetsSeq.list_pop_last l its.toArray n u hy' (by rw [List.size_toArray]; omega)) ⟨e, ?_⟩
  refine ⟨y, _, I.lset (its' := its.dropLast) hH e ?_ r.dropLast ?_, ru, q⟩
  · show its.toArray.eraseIdxIfInBounds (its.toArray.size - 1) = its.dropLast.toArray
    rw [List.size_toArray, List.eraseIdxIfInBounds_toArray, erase_last]
  · rw [List.length_dropLast]
    omega

/-! ### list + list, list += list, list * int -/
def rCat : R2 := fun x y H Q => ∃ l b xs zs, x = .ref l ∧ y = .ref b ∧ H l = some (.lst xs) ∧ H b = some (.lst zs) ∧ xs.length + zs.length ≤ sizeLine ∧ ∀ p, H p = none → Q (.ref p) (upd H p (.lst (xs ++ zs)))
theorem op_cat : OpR X (binaryOp .Add) rCat := by
  intro pins s σ H x y v u Q I rx ry h
  obtain ⟨l, b, xs, zs, rfl, rfl, hH, hB, hz, q⟩ := h
  cases rx
  cases ry
  obtain ⟨z, its, n, r, hl, e⟩ := I.lstM hH
  obtain ⟨z2, its2, n2, r2, hl2, e2⟩ := I.lstM hB
  refine PySem.P.add_list e e2 ?_ (by rw [List.size_toArray, List.size_toArray]; omega)
  have ea : its.toArray ++ its2.toArray = (its ++ its2).toArray := by simp
  rw [ea]
  exact ⟨.ref _, _, I.lnew (t' := s.toks) (r.append r2) (by rw [List.length_append]; omega), rfl, q _ I.fresh⟩
/-! ### del xs[i] -/
end

/-! ### xs[a:b] = ys -/
section
variable {prog : Program} {w : World} {A : Around} {E : Value → Shared → Prop} {s : Shared}
set_option maxRecDepth 100000 in
end

section
variable {X : Cx}
end
end L2

namespace L2
open PySem PySem.Spec PyProof.Rows

/-! ### lists of pairs as tables -/
section
variable {κ : Type} [DecidableEq κ]
def valV (kvs : List (κ × V)) (k : κ) : Option V := (kvs.find? fun kv => decide (kv.1 = k)).map (·.2)
/-- in its place, or at the end -/
def putK (kvs : List (κ × V)) (k : κ) (v : V) : List (κ × V) :=
  if (kvs.any fun kv => decide (kv.1 = k)) = true then kvs.map (fun kv => if kv.1 = k then (kv.1, v) else kv) else kvs ++ [(k, v)]
def dropK (kvs : List (κ × V)) (k : κ) : List (κ × V) := kvs.filter fun kv => decide (kv.1 ≠ k)

theorem valV_pos {p : κ × V} {r : List (κ × V)} {k : κ} (e : p.1 = k) : valV (p :: r) k = some p.2 := by simp [valV, List.find?_cons, e]
theorem valV_neg {p : κ × V} {r : List (κ × V)} {k : κ} (e : ¬ p.1 = k) : valV (p :: r) k = valV r k := by simp [valV, List.find?_cons, e]
theorem valV_any (k : κ) : ∀ kvs : List (κ × V), (kvs.any fun kv => decide (kv.1 = k)) = (valV kvs k).isSome
  | [] => rfl
  | p :: r => by
    rw [List.any_cons]
    by_cases e : p.1 = k
    · simp only [valV_pos e, decide_eq_true e, Bool.true_or, Option.isSome_some]
    · rw [valV_neg e, decide_eq_false e, Bool.false_or]; exact valV_any k r
theorem length_putK (kvs : List (κ × V)) (k : κ) (v : V) : (putK kvs k v).length ≤ kvs.length + 1 := by
  unfold putK
  split
  · rw [List.length_map]; omega
  · rw [List.length_append, List.length_cons, List.length_nil]; omega
theorem putK_new {kvs : List (κ × V)} {k : κ} (v : V) (h : valV kvs k = none) : putK kvs k v = kvs ++ [(k, v)] := by
  unfold putK
  rw [valV_any, h]
  exact if_neg (by decide)

theorem RelO.isSome_eq {o : Option V} {u : Option Value} (r : RelO o u) : o.isSome = u.isSome := by
  cases o with
  | none => cases u with
    | none => rfl
    | some _ => exact (show False from r).elim
  | some _ => cases u with
    | none => exact (show False from r).elim
    | some _ => rfl
theorem RelO.getD {o : Option V} {u : Option Value} {d : V} {d' : Value} (r : RelO o u) (rd : RelV d d') : RelV (o.getD d) (u.getD d') := by
  cases o with
  | none => cases u with
    | none => exact rd
    | some _ => exact (show False from r).elim
  | some _ => cases u with
    | none => exact (show False from r).elim
    | some _ => exact r

/-- raw tables of the same keys -/
theorem KV.val {kvs : List (κ × V)} {vs : List (κ × Value)} (r : KV kvs vs) (k : κ) : RelO (valV kvs k) (valueAt vs k) := by
  unfold KV at r
  induction r with
  | nil => exact True.intro
  | @cons p q ps qs h t ih =>
    obtain ⟨h1, h2⟩ := h
    by_cases e : p.1 = k
    · have e' : q.1 = k := h1.symm.trans e
      have b : valueAt (q :: qs) k = some q.2 := by simp [valueAt, List.find?_cons, e']
      rw [valV_pos e, b]; exact h2
    · have e' : ¬ q.1 = k := fun z => e (h1.trans z)
      have b : valueAt (q :: qs) k = valueAt qs k := by simp [valueAt, List.find?_cons, e']
      rw [valV_neg e, b]; exact ih
theorem KV.any {kvs : List (κ × V)} {vs : List (κ × Value)} (r : KV kvs vs) (k : κ) : (kvs.any fun kv => decide (kv.1 = k)) = vs.any fun kv => decide (kv.1 = k) := by
  unfold KV at r
  induction r with
  | nil => rfl
  | cons h t ih => rw [List.any_cons, List.any_cons, ih, h.1]
theorem KV.repl {kvs : List (κ × V)} {vs : List (κ × Value)} (r : KV kvs vs) (k : κ) {y : V} {u : Value} (ry : RelV y u) :
    KV (kvs.map fun kv => if kv.1 = k then (kv.1, y) else kv) (vs.map fun kv => if kv.1 = k then (kv.1, u) else kv) := by
  unfold KV at r ⊢
  induction r with
  | nil => exact .nil
  | @cons p q ps qs h t ih =>
    rw [List.map_cons, List.map_cons]
    refine .cons ?_ ih
    obtain ⟨h1, h2⟩ := h
    by_cases e : p.1 = k
    · rw [if_pos e, if_pos (h1.symm.trans e)]; exact ⟨h1, ry⟩
    · rw [if_neg e, if_neg (fun z => e (h1.trans z))]; exact ⟨h1, h2⟩
theorem KV.put {kvs : List (κ × V)} {vs : List (κ × Value)} (r : KV kvs vs) (k : κ) {y : V} {u : Value} (ry : RelV y u) : KV (putK kvs k y) (stored vs k u) := by
  unfold putK stored
  rw [r.any k]
  by_cases e : (vs.any fun kv => decide (kv.1 = k)) = true
  · rw [if_pos e, if_pos e]; exact r.repl k ry
  · rw [if_neg e, if_neg e]; exact Paired.snoc r ⟨rfl, ry⟩
theorem KV.drop {kvs : List (κ × V)} {vs : List (κ × Value)} (r : KV kvs vs) (k : κ) : KV (dropK kvs k) (without vs k) := by
  unfold KV at r ⊢
  unfold dropK without
  induction r with
  | nil => exact .nil
  | @cons p q ps qs h t ih =>
    obtain ⟨h1, h2⟩ := h
    rw [List.filter_cons, List.filter_cons]
    by_cases e : p.1 = k
    · have a : ¬ decide (p.1 ≠ k) = true := by simp [e]
      have b : ¬ decide (q.1 ≠ k) = true := by simp [h1.symm.trans e]
      rw [if_neg a, if_neg b]; exact ih
    · have e' : ¬ q.1 = k := fun z => e (h1.trans z)
      have a : decide (p.1 ≠ k) = true := by simp [e]
      have b : decide (q.1 ≠ k) = true := by simp [e']
      rw [if_pos a, if_pos b]; exact .cons ⟨h1, h2⟩ ih
theorem KV.keys {kvs : List (κ × V)} {vs : List (κ × Value)} (r : KV kvs vs) : kvs.map (·.1) = vs.map (·.1) := by
  unfold KV at r
  induction r with
  | nil => rfl
  | cons h t ih => rw [List.map_cons, List.map_cons, ih, h.1]
theorem KV.length {kvs : List (κ × V)} {vs : List (κ × Value)} (r : KV kvs vs) : kvs.length = vs.length := Paired.length r
theorem dropK_le (kvs : List (κ × V)) (k : κ) : (dropK kvs k).length ≤ kvs.length := List.length_filter_le _ _
end


/-! ### a tracked dict, its keys ints and texts or tuples of these -/
theorem kV_is {P : Program} {w : World} {k : Key} {u : Value} (r : RelV (kV k) u) : (mixKind P w).is k u = true := by
  cases k with
  | inl i => obtain ⟨t, e⟩ := (show ∃ t, u = Value.int i t from r); subst e; exact mixKind_int P w i t
  | inr x => obtain ⟨t, e⟩ := (show ∃ t, u = Value.str x t from r); subst e; exact mixKind_str P w x t
theorem items_are {P : Program} {w : World} : ∀ {ks : List Key} {us : List Value}, Vals (ks.map kV) us → ItemsAre (mixKind P w) ks us
  | [], _, r => by rw [List.map_nil] at r; cases r; exact .nil
  | k :: ks, _, r => by
    rw [List.map_cons] at r
    cases r with
    | cons h t => exact .cons (kV_is h) (items_are t)

/-- raw entries of a dict with tuple keys -/
abbrev KT (H : Hp) : List (List Key × V) → List (List Key × Addr × Value) → Prop := Paired fun p q => p.1 = q.1 ∧ H q.2.1 = some (.tup (p.1.map kV)) ∧ RelV p.2 q.2.2
theorem KT.val {H : Hp} {kvs : List (List Key × V)} {xs : List (List Key × Addr × Value)} (r : KT H kvs xs) (k : List Key) : RelO (valV kvs k) ((atKey xs k).map (·.2)) := by
  induction r with
  | nil => exact True.intro
  | @cons p q ps qs h t ih =>
    obtain ⟨h1, _, h2⟩ := h
    by_cases e : p.1 = k
    · have e' : q.1 = k := h1.symm.trans e
      have b : atKey (q :: qs) k = some q.2 := by simp [atKey, List.find?_cons, e']
      rw [valV_pos e, b]; exact h2
    · have e' : ¬ q.1 = k := fun z => e (h1.trans z)
      have b : atKey (q :: qs) k = atKey qs k := by simp [atKey, List.find?_cons, e']
      rw [valV_neg e, b]; exact ih
theorem KT.repl {H : Hp} {kvs : List (List Key × V)} {xs : List (List Key × Addr × Value)} (r : KT H kvs xs) (k : List Key) {y : V} {u : Value} (ry : RelV y u) :
    KT H (kvs.map fun kv => if kv.1 = k then (kv.1, y) else kv) (xs.map (putAt k u)) := by
  induction r with
  | nil => exact .nil
  | @cons p q ps qs h t ih =>
    rw [List.map_cons, List.map_cons]
    refine .cons ?_ ih
    obtain ⟨h1, h2, h3⟩ := h
    unfold putAt
    by_cases e : p.1 = k
    · rw [if_pos e, if_pos (h1.symm.trans e)]; exact ⟨h1, h2, ry⟩
    · rw [if_neg e, if_neg (fun z => e (h1.trans z))]; exact ⟨h1, h2, h3⟩
theorem KT.put {H : Hp} {kvs : List (List Key × V)} {xs : List (List Key × Addr × Value)} (r : KT H kvs xs) (k : List Key) {b : Addr} {y : V} {u : Value} (hb : H b = some (.tup (k.map kV))) (ry : RelV y u) :
    KT H (putK kvs k y) (storedH xs k b u) := by
  have e : (kvs.any fun kv => decide (kv.1 = k)) = (atKey xs k).isSome := by
    rw [valV_any, (r.val k).isSome_eq, Option.isSome_map]
  unfold putK storedH
  rw [e]
  by_cases q : (atKey xs k).isSome = true
  · rw [if_pos q, if_pos q]; exact r.repl k ry
  · rw [if_neg q, if_neg q]; exact Paired.snoc r ⟨rfl, hb, ry⟩
theorem KT.keeps {H H' : Hp} {kvs : List (List Key × V)} {xs : List (List Key × Addr × Value)} (r : KT H kvs xs) (ht : ∀ b ys, H b = some (.tup ys) → H' b = some (.tup ys)) : KT H' kvs xs :=
  Paired.mapP r fun _ _ z => ⟨z.1, ht _ _ z.2.1, z.2.2⟩

section
variable {P : Program} {w : World} {H : Hp} {h : Heap} {a : Addr}
theorem rd_of {u : HO} (ok : HOk P w H h) (e : Rd H a u) : ObjOk P w H h a u := e.ok ok
theorem dk_rd {kvs : List (Key × V)} (ok : HOk P w H h) (e : Rd H a (.dK kvs)) : kvs.length ≤ sizeLine ∧ (a == sysModules) = false ∧ ∃ vs, KV kvs vs ∧ h.DictOf (mixKind P w) a vs :=
  show ObjOk P w H h a (.dK kvs) from rd_of ok e
theorem dk_of {kvs : List (Key × V)} (ok : HOk P w H h) (e : H a = some (.dK kvs)) : kvs.length ≤ sizeLine ∧ (a == sysModules) = false ∧ ∃ vs, KV kvs vs ∧ h.DictOf (mixKind P w) a vs := dk_rd ok (.inl e)
/-- a tracked tuple of ints and texts is a key -/
theorem key_of {ks : List Key} (ok : HOk P w H h) (e : H a = some (.tup (ks.map kV))) : (tupleKind (mixKind P w)).is h ks a := by
  obtain ⟨_, its, r, o, h1, h2, n, h3⟩ := (show ObjOk P w H h a (.tup (ks.map kV)) from ok a _ e)
  exact ⟨o, its.toArray, n, h1, h2, h3, by simpa using items_are r⟩
theorem dt_rd {kvs : List (List Key × V)} (ok : HOk P w H h) (e : Rd H a (.dT kvs)) : kvs.length ≤ sizeLine ∧ (a == sysModules) = false ∧
    ∃ xs, KT H kvs xs ∧ h.DictOfH (tupleKind (mixKind P w)) a xs := by
  obtain ⟨z, y, xs, r, o, es, ep, h1, h2, h3, h4, h5⟩ := (show ObjOk P w H h a (.dT kvs) from rd_of ok e)
  refine ⟨z, y, xs, r, o, es, ep, h1, h2, h3, h4, fun x hx => ?_, h5⟩
  have all : ∀ {l : List (List Key × V)} {m : List (List Key × Addr × Value)}, KT H l m → ∀ x ∈ m, (tupleKind (mixKind P w)).is h x.1 x.2.1 := by
    intro l m q
    induction q with
    | nil => intro x hx; exact nomatch hx
    | @cons p q ps qs hq t ih =>
      intro x hx
      rcases List.mem_cons.mp hx with e | hx
      · subst e
        exact key_of ok (by rw [← hq.1]; exact hq.2.1)
      · exact ih x hx
  exact all r x hx
theorem dt_of {kvs : List (List Key × V)} (ok : HOk P w H h) (e : H a = some (.dT kvs)) : kvs.length ≤ sizeLine ∧ (a == sysModules) = false ∧
    ∃ xs, KT H kvs xs ∧ h.DictOfH (tupleKind (mixKind P w)) a xs := dt_rd ok (.inl e)
end

/-- what the dict at a holds at the key y -/
def DGet (H : Hp) (a : Addr) (y : V) (r : Option V) : Prop :=
  (∃ kvs k, Rd H a (.dK kvs) ∧ y = kV k ∧ r = valV kvs k) ∨ ∃ kvs k b, Rd H a (.dT kvs) ∧ y = .ref b ∧ H b = some (.tup (k.map kV)) ∧ r = valV kvs k
/-- the heap behind a[y] = v -/
def DPut (H : Hp) (a : Addr) (y v : V) (H' : Hp) : Prop :=
  (∃ kvs k, H a = some (.dK kvs) ∧ y = kV k ∧ kvs.length < sizeLine ∧ H' = upd H a (.dK (putK kvs k v))) ∨
  ∃ kvs k b, H a = some (.dT kvs) ∧ y = .ref b ∧ H b = some (.tup (k.map kV)) ∧ kvs.length < sizeLine ∧ H' = upd H a (.dT (putK kvs k v))
theorem DGet.k {H : Hp} {a : Addr} {kvs : List (Key × V)} {k : Key} (e : H a = some (.dK kvs)) : DGet H a (kV k) (valV kvs k) := .inl ⟨kvs, k, .inl e, rfl, rfl⟩
theorem DPut.k {H : Hp} {a : Addr} {kvs : List (Key × V)} {k : Key} {v : V} (e : H a = some (.dK kvs)) (hl : kvs.length < sizeLine) : DPut H a (kV k) v (upd H a (.dK (putK kvs k v))) := .inl ⟨kvs, k, e, rfl, hl, rfl⟩
section
variable {X : Cx} {pins : List (Addr × Obj)} {σ : St} {H : Hp} {s : Shared} {a : Addr} {y v : V} {u r : Value} {o : Option V} {A : Around} {E : Value → Shared → Prop}

theorem Inv.big (I : Inv X pins σ H s) : sysModules < s.heap.objs.size := by
  have h : mainGlobals < s.heap.objs.size := (I.mod.glob.keeps I.bk).lt
  exact Nat.lt_trans (by decide) h

/-- d[y], there -/
theorem d_getItem {Q : Value → Shared → Prop} (hu : A.units + 1 < cLine) (I : Inv X pins σ H s) (g : DGet H a y (some v)) (ry : RelV y u) (h : ∀ w' s', Inv X pins σ H s' → RelV v w' → Q w' s') :
    wpAny (model X.prog X.w) A (getItem (.ref a) u) Q E s := by
  rcases g with ⟨kvs, k, e, ey, l⟩ | ⟨kvs, k, b, e, ey, eb, l⟩
  · subst ey
    obtain ⟨z, hd, vs, rel, dd⟩ := dk_rd I.hok e
    obtain ⟨w', hw, rw'⟩ := RelO.some_of (v := v) (o := valueAt vs k) (by rw [l]; exact rel.val k)
    exact wpAny_getItem_of (kV_is ry) dd.mapOf hw (h w' _ (I.tok _) rw')
  · subst ey
    cases (show u = Value.ref b from ry)
    obtain ⟨z, hd, xs, rel, dd⟩ := dt_rd I.hok e
    obtain ⟨w', hw, rw'⟩ := RelO.some_of (v := v) (o := (atKey xs k).map (·.2)) (by rw [l]; exact rel.val k)
    obtain ⟨p, hp, hp2⟩ := Option.map_eq_some_iff.mp hw
    refine wpAny_getItem_heap (tupleKind_room_in1 hu) (key_of I.hok eb) dd hp ?_
    rw [hp2]
    exact h w' _ (I.tok _) rw'
/-- y in d -/
theorem d_in {Q : Value → Shared → Prop} (hu : A.units + 1 < cLine) (I : Inv X pins σ H s) (g : DGet H a y o) (ry : RelV y u) (h : ∀ s', Inv X pins σ H s' → Q (.bool o.isSome) s') :
    wpAny (model X.prog X.w) A (compareOp .In u (.ref a)) Q E s := by
  rcases g with ⟨kvs, k, e, ey, l⟩ | ⟨kvs, k, b, e, ey, eb, l⟩
  · subst ey
    obtain ⟨z, hd, vs, rel, dd⟩ := dk_rd I.hok e
    refine wpAny_in_of (kV_is ry) hd dd.mapOf ?_
    rw [← (rel.val k).isSome_eq, ← l]
    exact h _ (I.tok _)
  · subst ey
    cases (show u = Value.ref b from ry)
    obtain ⟨z, hd, xs, rel, dd⟩ := dt_rd I.hok e
    refine wpAny_in_heap (tupleKind_room_in1 hu) (key_of I.hok eb) hd dd ?_
    have q := (rel.val k).isSome_eq
    rw [Option.isSome_map] at q
    rw [← q, ← l]
    exact h _ (I.tok _)
theorem d_notIn {Q : Value → Shared → Prop} (hu : A.units + 1 < cLine) (I : Inv X pins σ H s) (g : DGet H a y o) (ry : RelV y u) (h : ∀ s', Inv X pins σ H s' → Q (.bool (!o.isSome)) s') :
    wpAny (model X.prog X.w) A (compareOp .NotIn u (.ref a)) Q E s := by
  rcases g with ⟨kvs, k, e, ey, l⟩ | ⟨kvs, k, b, e, ey, eb, l⟩
  · subst ey
    obtain ⟨z, hd, vs, rel, dd⟩ := dk_rd I.hok e
    refine wpAny_notIn_of (kV_is ry) hd dd.mapOf ?_
    rw [← (rel.val k).isSome_eq, ← l]
    exact h _ (I.tok _)
  · subst ey
    cases (show u = Value.ref b from ry)
    obtain ⟨z, hd, xs, rel, dd⟩ := dt_rd I.hok e
    refine wpAny_notIn_heap (tupleKind_room_in1 hu) (key_of I.hok eb) hd dd ?_
    have q := (rel.val k).isSome_eq
    rw [Option.isSome_map] at q
    rw [← q, ← l]
    exact h _ (I.tok _)
/-- a dict's object is replaced -/
theorem d_write {h' : Heap} {t' : Nat} {ob : HO} (I : Inv X pins σ H s) (mu : Mut (H a)) (hs : Heap.SameBut a s.heap h') (he : ∃ q, h'.get? a = some q) (new : ObjOk X.prog X.w (upd H a ob) h' a ob) (ht : 0 < t' := by ((try dsimp only); first | assumption | exact Inv.tk (by assumption) | exact Nat.succ_pos _ | exact Nat.lt_of_lt_of_le (Inv.tk (by assumption)) (by assumption) | exact Nat.add_pos_left (Inv.tk (by assumption)) _ | omega)) :
    Inv X pins σ (upd H a ob) { s with heap := h', toks := t' } :=
  I.write (x := a) (e := a) mu (.inl rfl) (fun b q hb z => (hs.2 b hb).trans z) he new
theorem dk_new {P : Program} {w : World} {H' : Hp} {h' : Heap} {kvs : List (Key × V)} {vs : List (Key × Value)} (z : kvs.length ≤ sizeLine) (hd : (a == sysModules) = false) (rel : KV kvs vs) (dd : h'.DictOf (mixKind P w) a vs) :
    ObjOk P w H' h' a (.dK kvs) := ⟨z, hd, vs, rel, dd⟩
/-- d[y] = v -/
theorem d_setItem {H' : Hp} {Q : Unit → Shared → Prop} (hu : A.units + 1 < cLine) (I : Inv X pins σ H s) (g : DPut H a y v H') (ry : RelV y u) (rv : RelV v r) (h : ∀ s', Inv X pins σ H' s' → Q () s') :
    wpAny (model X.prog X.w) A (setItem (.ref a) u r) Q E s := by
  rcases g with ⟨kvs, k, e, ey, l, eH⟩ | ⟨kvs, k, b, e, ey, eb, l, eH⟩
  · subst ey eH
    obtain ⟨z, hd, vs, rel, dd⟩ := dk_of I.hok e
    have hz : vs.length ≤ sizeLine := by rw [← rel.length]; exact z
    have hl : (putK kvs k v).length ≤ sizeLine := by have := length_putK kvs k v; omega
    refine wpAny_setItem_pairs (hsz := hz) (kV_is ry) dd fun h' dd' hs => h _ ?_
    have he : ∃ q, h'.get? a = some q := let ⟨q, _, _, hq, _⟩ := dd'; ⟨q, hq⟩
    exact d_write I (by rw [e]; exact True.intro) hs he (dk_new hl hd (rel.put k rv) dd')
  · subst ey eH
    cases (show u = Value.ref b from ry)
    obtain ⟨z, hd, xs, rel, dd⟩ := dt_of I.hok e
    have hz : xs.length ≤ sizeLine := by rw [← Paired.length rel]; exact z
    have hl : (putK kvs k v).length ≤ sizeLine := by have := length_putK kvs k v; omega
    refine wpAny_setItem_heap (hsz := hz) (tupleKind_room_in1 hu) (key_of I.hok eb) dd fun h' dd' hs => h _ ?_
    obtain ⟨q, es, ep, hq, h2, h3, h4, _, h5⟩ := dd'
    refine d_write I (by rw [e]; exact True.intro) hs ⟨q, hq⟩ ⟨hl, hd, _, (rel.put k eb rv).keeps fun c ys ec => ?_, q, es, ep, hq, h2, h3, h4, h5⟩
    rw [upd_ne (ne_of ec e (fun z => nomatch z))]
    exact ec
end

section
variable {X : Cx} {pins : List (Addr × Obj)} {σ : St} {H : Hp} {s : Shared} {a : Addr} {kvs : List (Key × V)} {k : Key} {u : Value} {A : Around} {E : Value → Shared → Prop}
/-- del d[k] -/
theorem d_delItem {Q : Unit → Shared → Prop} (I : Inv X pins σ H s) (e : H a = some (.dK kvs)) (ry : RelV (kV k) u) (l : (valV kvs k).isSome = true) (h : ∀ s', Inv X pins σ (upd H a (.dK (dropK kvs k))) s' → Q () s') :
    wpAny (model X.prog X.w) A (delItem (.ref a) u) Q E s := by
  obtain ⟨z, hd, vs, rel, dd⟩ := dk_of I.hok e
  refine wpAny_delItem_slot dd.typeIs (by decide) PySem.F.slot_dict_delitem
    (call_meetsIn PySem.F.slot_dict_delitem dd.typeIs PySem.F.entry_dict_delitem (PySem.F.args_dict_delitem_2 _ _) (meets_dict_delitem_pairs (mixKind X.prog X.w) a (kV_is ry)) ⟨vs, dd, by rw [← rel.length]; exact z, by rw [← (rel.val k).isSome_eq]; exact l, fun h' dd' hs => h _ ?_⟩)
  have he : ∃ q, h'.get? a = some q := let ⟨q, _, _, hq, _⟩ := dd'; ⟨q, hq⟩
  exact d_write I (by rw [e]; exact True.intro) hs he (dk_new (Nat.le_trans (dropK_le kvs k) z) hd (rel.drop k) dd')
/-- d.pop(k[, x]), there -/
theorem d_pop {v : V} {more : List Value} {Q : Value → Shared → Prop} (I : Inv X pins σ H s) (e : H a = some (.dK kvs)) (ry : RelV (kV k) u) (l : valV kvs k = some v) (hm : more = [] ∨ ∃ x, more = [x])
    (h : ∀ w' s', Inv X pins σ (upd H a (.dK (dropK kvs k))) s' → RelV v w' → Q w' s') : wpAny (model X.prog X.w) A (call (.builtin "dict.pop") (.ref a :: u :: more)) Q E s := by
  obtain ⟨z, hd, vs, rel, dd⟩ := dk_of I.hok e
  obtain ⟨w', hw, rw'⟩ := RelO.some_of (v := v) (o := valueAt vs k) (by rw [← l]; exact rel.val k)
  have hp : (keyPart u).isSome = true := by
    cases k with
    | inl i => obtain ⟨t, q⟩ := (show ∃ t, u = Value.int i t from ry); subst q; rfl
    | inr x => obtain ⟨t, q⟩ := (show ∃ t, u = Value.str x t from ry); subst q; rfl
  have ha : argsOk "dict.pop" ⟨.ref a :: u :: more, []⟩ := by
    rcases hm with q | ⟨x, q⟩
    · subst q; exact PySem.F.args_dict_pop_2 _ _
    · subst q; exact PySem.F.args_dict_pop_3 _ _ _
  refine call_meetsIn PySem.F.slot_dict_pop dd.typeIs PySem.F.entry_dict_pop ha (meets_dict_pop_there (mixKind X.prog X.w) a (kV_is ry) more hm hp)
    ⟨vs, w', dd, by rw [← rel.length]; exact z, hw, fun h' dd' hs => h w' _ ?_ rw'⟩
  have he : ∃ q, h'.get? a = some q := let ⟨q, _, _, hq, _⟩ := dd'; ⟨q, hq⟩
  exact d_write I (by rw [e]; exact True.intro) hs he (dk_new (Nat.le_trans (dropK_le kvs k) z) hd (rel.drop k) dd')
/-- len(d) -/
theorem d_len {Q : Value → Shared → Prop} (I : Inv X pins σ H s) (e : Rd H a (.dK kvs)) (h : ∀ t s', Inv X pins σ H s' → Q (.int kvs.length t) s') : wpAny (model X.prog X.w) A (call (.builtin "len") [.ref a]) Q E s := by
  obtain ⟨z, hd, vs, rel, dd⟩ := dk_rd I.hok e
  refine call_len_dict hd dd (by rw [← rel.length]; rw [sizeLine_eq] at z; omega) ?_
  rw [← rel.length]
  exact h _ _ (I.tok _)
end


/-! ### readings and rules -/
/-- the element of a subscription, not a slice -/
def NoSl (i : Expr) : Prop := ∀ ov iv, subscripted i false ov iv = operate [ov, iv] (getItem ov iv)
theorem subD_of {prog : Program} {w : World} {A : Around} {E : Value → Shared → Prop} {s : Shared} {env : Env} {value slice : Expr} {pos : Pos} {T id : String} {Q : Value → Shared → Prop}
    (hl : typeLookup (.type T) "__getitem__" = pure (some (.builtin id))) (hs : NoSl slice)
    (h : wpAny (model prog w) A (eval value env) (fun o s₁ => wpAny (model prog w) A (eval slice env) (fun i s₂ => s₂.TypeIs o T ∧ wpAny (model prog w) A (getItem o i) Q E s₂) E s₁) E s) :
    wpAny (model prog w) A (eval (.Subscript value slice pos) env) Q E s := by
  refine Subscript_ (wpAny_mono h (fun o s₁ h₁ => wpAny_mono h₁ (fun i s₂ h₂ => ?_) fun _ _ x => x) fun _ _ x => x)
  obtain ⟨hT, h₂⟩ := h₂
  unfold subscriptTail
  refine wpAny_bind ?_
  rw [getitemInPython_of_ne hT.not_modules]
  refine wpAny_bind (wpAny_specialOf hT hl ?_)
  have fin : wpAny (model prog w) A (subscripted slice false o i) (fun r s₃ => wpAny (model prog w) A (letTemporaryGo value o r >>= fun _ => pure r) Q E s₃) E s₂ := by
    rw [hs o i]
    exact wpAny_operating (wpAny_mono h₂ (fun r s₃ h₃ => wpAny_bind (wpAny_letTemporaryGo (wpAny_pure h₃))) fun _ _ x => x)
  first
    | exact wpAny_pure (wpAny_bind fin)
    | exact wpAny_bind (wpAny_pure (wpAny_bind fin))
    | exact wpAny_bind fin

theorem dict_typeIs {X : Cx} {pins : List (Addr × Obj)} {σ : St} {H : Hp} {s : Shared} {a : Addr} {y : V} {o : Option V} (I : Inv X pins σ H s) (g : DGet H a y o) : s.TypeIs (.ref a) "dict" := by
  rcases g with ⟨kvs, k, e, _, _⟩ | ⟨kvs, k, b, e, _, _, _⟩
  · obtain ⟨_, _, vs, _, dd⟩ := dk_rd I.hok e
    exact dd.typeIs
  · obtain ⟨_, _, xs, _, dd⟩ := dt_rd I.hok e
    exact dd.typeIs
theorem dict_noDict {X : Cx} {pins : List (Addr × Obj)} {σ : St} {H : Hp} {s : Shared} {a : Addr} {y : V} {o : Option V} (I : Inv X pins σ H s) (g : DGet H a y o) :
    ∀ b, Value.ref a = .ref b → ∃ ob, s.heap.get? b = some ob ∧ ob.dict = none := fun b q => by
  cases q
  rcases g with ⟨kvs, k, e, _, _⟩ | ⟨kvs, k, b, e, _, _, _⟩
  · obtain ⟨_, _, vs, _, ob, _, _, h1, h2, _⟩ := dk_rd I.hok e
    exact ⟨ob, h1, h2.2.1⟩
  · obtain ⟨_, _, xs, _, ob, _, _, h1, h2, _⟩ := dt_rd I.hok e
    exact ⟨ob, h1, h2.2.1⟩

/-- d[y] -/
def tDGet (td ty : TE) : TE := fun σ H Q => td σ H fun x H1 => ty σ H1 fun y H2 => ∃ a v, x = .ref a ∧ DGet H2 a y (some v) ∧ Q v H2
/-- y in d, y not in d -/
def tDIn (ty td : TE) : TE := fun σ H Q => ty σ H fun y H1 => td σ H1 fun x H2 => ∃ a o, x = .ref a ∧ DGet H2 a y o ∧ Q (.bl o.isSome) H2
def tDNotIn (ty td : TE) : TE := fun σ H Q => ty σ H fun y H1 => td σ H1 fun x H2 => ∃ a o, x = .ref a ∧ DGet H2 a y o ∧ Q (.bl (!o.isSome)) H2
/-- d[y] = v -/
def sDPut (td ty tv : TE) : TS := fun D σ H => tv σ H fun v H1 => td σ H1 fun x H2 => ty σ H2 fun y H3 => ∃ a H4, x = .ref a ∧ DPut H3 a y v H4 ∧ D.nx σ H4
section
variable {X : Cx} {o i e value : Expr} {pos pos' tpos : Pos} {td ty tv : TE}
theorem pe_dget (hu : X.A.units + 1 < cLine) (ho : PE X o td) (hi : PE X i ty) (hs : NoSl i) : PE X (.Subscript o i pos) (tDGet td ty) := by
  intro pins s σ H Q I h
  refine subD_of PySem.F.slot_dict_getitem.lookup hs (thn (ho pins s σ H _ I h) fun u s1 ⟨x, H1, I1, rx, q1⟩ => thn (hi pins s1 σ H1 _ I1 q1) fun iv s2 ⟨y, H2, I2, ry, a, v, ex, g, q2⟩ => ?_)
  subst ex
  obtain rfl : u = Value.ref a := rx
  exact ⟨dict_typeIs I2 g, d_getItem hu I2 g ry fun w' s3 I3 rw' => ⟨v, H2, I3, rw', q2⟩⟩
theorem pc_din (hu : X.A.units + 1 < cLine) (hi : PE X i ty) (ho : PE X o td) : PC X .In i o (tDIn ty td) := by
  intro pins s σ H Q I h
  refine thn (hi pins s σ H _ I h) fun iv s1 ⟨y, H1, I1, ry, q1⟩ => thn (ho pins s1 σ H1 _ I1 q1) fun u s2 ⟨x, H2, I2, rx, a, ov, ex, g, q2⟩ => ?_
  subst ex
  obtain rfl : u = Value.ref a := rx
  exact d_in hu I2 g ry fun s3 I3 => ⟨.bl ov.isSome, H2, I3, rfl, q2⟩
theorem pc_dnotin (hu : X.A.units + 1 < cLine) (hi : PE X i ty) (ho : PE X o td) : PC X .NotIn i o (tDNotIn ty td) := by
  intro pins s σ H Q I h
  refine thn (hi pins s σ H _ I h) fun iv s1 ⟨y, H1, I1, ry, q1⟩ => thn (ho pins s1 σ H1 _ I1 q1) fun u s2 ⟨x, H2, I2, rx, a, ov, ex, g, q2⟩ => ?_
  subst ex
  obtain rfl : u = Value.ref a := rx
  exact d_notIn hu I2 g ry fun s3 I3 => ⟨.bl (!ov.isSome), H2, I3, rfl, q2⟩
theorem ps_dput (hu : X.A.units + 1 < cLine) (ho : PE X o td) (hi : PE X i ty) (hv : PE X value tv) (hs : swapsWith value (some (.Subscript o i pos')) pos.line X.env = pure false) :
    PS X (.Assign [.Subscript o i pos'] value pos) (sDPut td ty tv) := by
  intro pins s σ H D I h
  refine wpAny_Assign_Subscript (thn (hv pins s σ H _ I h) fun r s1 ⟨v, H1, I1, rv, q1⟩ => thn (ho pins s1 σ H1 _ I1 q1) fun u s2 ⟨x, H2, I2, rx, q2⟩ => thn (hi pins s2 σ H2 _ I2 q2) fun iv s3 ⟨y, H3, I3, ry, a, H4, ex, g, q3⟩ => ?_) hs
  subst ex
  obtain rfl : u = Value.ref a := rx
  exact d_setItem hu I3 g ry rv fun s4 I4 => ⟨σ, H4, I4, q3⟩
end


/-! ### displays -/
theorem dk_empty {P : Program} {w : World} {H : Hp} (h : Heap) (hb : sysModules < h.objs.size) : ObjOk P w H (h.push { cls := .type "dict", data := .dict #[] }) h.objs.size (.dK []) :=
  ⟨Nat.zero_le _, beq_eq_false_iff_ne.mpr (Ne.symm (Nat.ne_of_lt hb)), [], .nil, Heap.DictOf.new h⟩
/-- {}, to be a dict of the kind that is wanted -/
def tDNewK : TE := fun _ H Q => ∀ p, H p = none → Q (.ref p) (upd H p (.dK []))
section
variable {X : Cx} {pos : Pos}
theorem pe_dnewK : PE X (.Dict [] [] pos) tDNewK := fun pins s σ H Q I h =>
  wpAny_Dict_empty ⟨.ref s.heap.objs.size, _, I.laid (a := s.heap.objs.size) (o := .dK []) (t' := s.toks) (fun _ _ q => Heap.get?_push_of_some _ q) (Nat.le_refl _) (dk_empty s.heap I.big), rfl, h _ (I.hok.fresh (Nat.le_refl _))⟩
end

/-! ### methods -/
/-- a method call o.m(e) of a built-in, with one argument: what must be seen of the text -/
structure M1 (X : Cx) (o : Expr) (m : Str) (apos : Pos) (e : Expr) (cpos : Pos) : Prop where
  base : attributeBase o m X.env (eval o X.env) = eval o X.env
  few : ((backTo cpos (starEach [e] X.env)).all (fun x => !x.1) && (backToKw cpos (keywordEach [] X.env)).all (fun x => x.1.isSome)
    && decide (([e] : List Expr).length + ([] : List Keyword).length + (if ([] : List Keyword).isEmpty then 0 else 1) < 30)) = true
  line : (apos.endLine == cpos.line) = true
  trees : backTo cpos (starEach [e] X.env) = [(false, eval e X.env)]
/-- a is a dict, whatever its keys -/
def IsD (H : Hp) (a : Addr) : Prop := (∃ kvs, Rd H a (.dK kvs)) ∨ ∃ kvs, Rd H a (.dT kvs)
theorem isD_at {X : Cx} {pins : List (Addr × Obj)} {σ : St} {H : Hp} {s : Shared} {a : Addr} (I : Inv X pins σ H s) (d : IsD H a) :
    s.TypeIs (.ref a) "dict" ∧ (∀ b, Value.ref a = .ref b → ∃ ob, s.heap.get? b = some ob ∧ ob.dict = none) ∧ (a == sysModules) = false := by
  rcases d with ⟨kvs, e⟩ | ⟨kvs, e⟩
  · obtain ⟨_, hd, vs, _, dd⟩ := dk_rd I.hok e
    refine ⟨dd.typeIs, fun b q => ?_, hd⟩
    cases q
    obtain ⟨ob, _, _, h1, h2, _⟩ := dd
    exact ⟨ob, h1, h2.2.1⟩
  · obtain ⟨_, hd, xs, _, dd⟩ := dt_rd I.hok e
    refine ⟨dd.typeIs, fun b q => ?_, hd⟩
    cases q
    obtain ⟨ob, _, _, h1, h2, _⟩ := dd
    exact ⟨ob, h1, h2.2.1⟩

section
variable {X : Cx} {pins : List (Addr × Obj)} {σ : St} {H : Hp} {s : Shared} {a : Addr} {y d : V} {u r : Value} {o : Option V} {A : Around} {E : Value → Shared → Prop}
/-- d.get(y) -/
theorem d_get1 {Q : Value → Shared → Prop} (hu : A.units + 1 < cLine) (I : Inv X pins σ H s) (g : DGet H a y o) (ry : RelV y u) (h : ∀ w' s', Inv X pins σ H s' → RelV (o.getD .non) w' → Q w' s') :
    wpAny (model X.prog X.w) A (call (.builtin "dict.get") [.ref a, u]) Q E s := by
  rcases g with ⟨kvs, k, e, ey, l⟩ | ⟨kvs, k, b, e, ey, eb, l⟩
  · subst ey
    obtain ⟨z, hd, vs, rel, dd⟩ := dk_rd I.hok e
    refine call_meetsIn PySem.F.slot_dict_get dd.typeIs PySem.F.entry_dict_get (PySem.F.args_dict_get_2 _ _) (meets_dict_get (mixKind X.prog X.w) a (kV_is ry) hd) ⟨_, dd.mapOf, h _ _ (I.tok _) ?_⟩
    rw [l]
    exact (rel.val k).getD rfl
  · subst ey
    cases (show u = Value.ref b from ry)
    obtain ⟨z, hd, xs, rel, dd⟩ := dt_rd I.hok e
    refine call_meetsIn PySem.F.slot_dict_get dd.typeIs PySem.F.entry_dict_get (PySem.F.args_dict_get_2 _ _) (meetsH_dict_get (tupleKind (mixKind X.prog X.w)) a b hd) ⟨tupleKind_room_in1 hu, k, xs, key_of I.hok eb, dd, h _ _ (I.tok _) ?_⟩
    rw [l]
    exact (rel.val k).getD rfl
end

def tDGet1 (td ty : TE) : TE := fun σ H Q => td σ H fun x H1 => ∃ a, x = .ref a ∧ IsD H1 a ∧ ty σ H1 fun y H2 => ∃ o, DGet H2 a y o ∧ Q (o.getD .non) H2
/-- d.pop(k): there; d.pop(k, x): there or not -/
def tDPop1 (td ty : TE) : TE := fun σ H Q => td σ H fun x H1 => ∃ a, x = .ref a ∧ IsD H1 a ∧ ty σ H1 fun y H2 => ∃ kvs k v, H2 a = some (.dK kvs) ∧ y = kV k ∧ valV kvs k = some v ∧ Q v (upd H2 a (.dK (dropK kvs k)))
section
variable {X : Cx} {o e f : Expr} {apos cpos : Pos} {td ty tx : TE}
theorem pe_dget1 (hu : X.A.units + 1 < cLine) (ho : PE X o td) (he : PE X e ty) (m : M1 X o "get" apos e cpos) : PE X (.Call (.Attribute o "get" apos) [e] [] cpos) (tDGet1 td ty) := by
  intro pins s σ H Q I h
  refine wpAny_Call_method m.base m.few m.line PySem.F.plainAttrs_dict PySem.F.slot_dict_get PySem.F.type_dict_get (thn (ho pins s σ H _ I h) fun u s1 ⟨x, H1, I1, rx, a, ex, d, q1⟩ => ?_)
  subst ex
  obtain rfl : u = Value.ref a := rx
  obtain ⟨t1, t2, _⟩ := isD_at I1 d
  refine ⟨t1, t2, ?_⟩
  rw [m.trees]
  refine Calls.callWith_builtin rfl (Calls.evalArgs_plain (Calls.spliced_cons (thn (he pins s1 σ H1 _ I1 q1) fun iv s2 ⟨y, H2, I2, ry, ov, g, q2⟩ => Calls.spliced_nil ?_)))
  exact d_get1 hu I2 g ry fun w' s3 I3 rw' => ⟨_, H2, I3, rw', q2⟩
theorem pe_dpop1 (ho : PE X o td) (he : PE X e ty) (m : M1 X o "pop" apos e cpos) : PE X (.Call (.Attribute o "pop" apos) [e] [] cpos) (tDPop1 td ty) := by
  intro pins s σ H Q I h
  refine wpAny_Call_method m.base m.few m.line PySem.F.plainAttrs_dict PySem.F.slot_dict_pop PySem.F.type_dict_pop (thn (ho pins s σ H _ I h) fun u s1 ⟨x, H1, I1, rx, a, ex, d, q1⟩ => ?_)
  subst ex
  obtain rfl : u = Value.ref a := rx
  obtain ⟨t1, t2, _⟩ := isD_at I1 d
  refine ⟨t1, t2, ?_⟩
  rw [m.trees]
  refine Calls.callWith_builtin rfl (Calls.evalArgs_plain (Calls.spliced_cons (thn (he pins s1 σ H1 _ I1 q1) fun iv s2 ⟨y, H2, I2, ry, kvs, k, v, ea, ey, l, q2⟩ => Calls.spliced_nil ?_)))
  subst ey
  exact d_pop I2 ea ry l (.inl rfl) fun w' s3 I3 rw' => ⟨v, _, I3, rw', q2⟩
end

/-! ### dict(d): a copy -/
section
variable {X : Cx} {pins : List (Addr × Obj)} {σ : St} {H : Hp} {s : Shared} {a : Addr} {kvs : List (Key × V)} {A : Around} {E : Value → Shared → Prop}
end


section
variable {X : Cx} {pins : List (Addr × Obj)} {σ : St} {H : Hp} {s : Shared} {a : Addr} {y : V} {u : Value} {A : Around} {E : Value → Shared → Prop}
end
end L2

namespace Att
open PySem PySem.W PySem.Calls PyProof.Rows

/-! ### the script -/
theorem ints_of_wellAll {P : Params} {h : Heap} : ∀ (ns : List Int) (vs : List Value), WellAll P h vs (ns.map WData.int) → IntsAre vs ns := by
  intro ns
  induction ns with
  | nil =>
    intro vs w
    rw [List.map_nil] at w
    cases w
    exact .nil
  | cons n ns ih =>
    intro vs w
    rw [List.map_cons] at w
    cases w with
    | cons a b =>
      cases a
      exact .cons _ _ (ih _ b)

theorem script_of {l : OpenLaw} {n : Nat} (hn : l.most = some n) {P : Params} {h : Heap} {args : List WData} {vals : List Value}
    (hpre : l.row.toRowW.claim.pre args = true) (hwl : WellAll P h vals args) :
    ∃ a vs ns, vals = [Value.ref a] ∧ args = [WData.list (ns.map WData.int)] ∧ h.get? a = some { cls := .type "list", data := .seq vs.toArray } ∧ IntsAre vs ns ∧ ns.length ≤ n := by
  have hsh : WShape.hasAll [] args [.list .int] = true := (pre_splitW hpre).1
  have hc : l.pre.holds [] { args := args } = true := (pre_splitW hpre).2
  obtain ⟨d, r, rfl, h1, h2⟩ := hasAllW_cons hsh
  obtain rfl := hasAllW_nil h2
  obtain ⟨xs, rfl, h3⟩ := hasW_list h1
  obtain ⟨ns, rfl⟩ := items_int h3
  have hlen : ns.length ≤ n := by
    unfold OpenLaw.pre at hc
    have h4 : (WTm.not (.lt (.lit (.int (n : Int))) (.len (.arg 0)))).holds [] { args := [.list (ns.map .int)] } = true := by
      have h4 := (holds_andW hc).1
      rw [hn] at h4
      exact h4
    have h5 := condW_of h4 (w_not (w_lt w_lit (w_len_list (w_arg rfl))))
    rw [List.length_map] at h5
    refine Nat.le_of_not_lt fun q => ?_
    have q' : (n : Int) < ((ns.length : Nat) : Int) := by omega
    first
      | (rw [decide_eq_true q'] at h5; exact absurd h5 (by decide))
      | (simp at h5; omega)
  cases hwl with
  | cons w1 w2 =>
    cases w2
    cases w1 with
    | list ho hall => exact ⟨_, _, ns, rfl, rfl, ho, ints_of_wellAll ns _ hall, hlen⟩

theorem post_true (l : OpenLaw) (args : List WData) : l.row.toRowW.claim.post args (.bool true) args = true :=
  postW_of (r := l.row.toRowW) (X := (true == true))
    (show WShape.has [] (.bool true) .bool = true by first | rfl | decide | simp [WShape.has, WShape.arms, WShape.armsAll])
    (show (WTm.eq .res (.lit (.bool true))).value [] { args := args, res := some (.bool true), after := args } = some (.bool (true == true)) from w_eq_bool (w_res rfl) w_lit) rfl

/-! ### the attachment: holds_open's last premise (the goal 'hc' behind k_head) from a wpAny of the law's body -/
/-- the same from a codeAny of the CALL (for a layer whose function contracts speak of calls) -/
theorem attach_call {l : OpenLaw} {n : Nat} {q : Program} {loose : List Str} {XP : (Str → Option Value) → Heap → Prop} {YP : World → Heap → Prop} {d : DefRec}
    (hn : l.most = some n) (hdf : d.params.defaults = [])
    (call : ∀ (w : World) (s₀ s₁ : Shared) (mg mb : Str → Option Value) (fa : Addr) (o : Obj) (pm cd doc : Value) (a : Addr) (vs : List Value) (ns : List Int),
      Ground q loose [] XP w s₀ mg mb s₁.heap → YP w s₁.heap →
      s₁.heap.get? fa = some o → o.data = .func (docDef d.name d.params d.body d.scope pm cd doc) → s₁.heap.CodeRec cd d.name → mg d.name = some (.ref fa) →
      s₁.heap.get? a = some { cls := .type "list", data := .seq vs.toArray } → IntsAre vs ns → ns.length ≤ n → s₁.gens = #[] →
      codeAny (model l.prog w) callerA (.call (.ref fa) ⟨[.ref a], []⟩) (fun r s' => r = .ok (.ret (.bool true)) ∧ OldK s₁.heap s'.heap ∧ s'.os = s₁.os ∧ AllBare s'.gens) s₁) :
    WalkO q loose XP YP l.row.toRowW d [] (fun f vs => PySem.call f vs) := by
  intro w s₀ s₁ mg mb G Y fa o pm cd doc dV kV ho hd hcd hD hmg hg args vals as hpre hlay hrd hwl hlo
  obtain rfl : dV = .none := Dflts.none hD hdf
  obtain rfl : kV = .none := Dflts.noKw hD
  obtain ⟨a, vs, ns, rfl, rfl, hobj, hints, hlen⟩ := script_of hn hpre hwl
  refine enter_call (codeAny_mono (call w s₀ s₁ mg mb fa o pm cd doc a vs ns G Y ho (fd_plain hd) hcd hmg hobj hints hlen hg) fun r s' hq => ?_)
  obtain ⟨rfl, h2, h3, h4⟩ := hq
  exact ⟨.inl ⟨.bool true, .bool true, [], rfl, fun _ => rfl, .bool true, post_true l _, fun _ => ⟨List.Pairwise.nil, fun _ hm => (nomatch hm)⟩⟩, h2, h3, h4⟩

/-! ### rules over ANY heap (no ledger) from facts about the written part K: the library's own take a ledger (News) for what they write -/
section
variable {prog : Program} {w : World} {A : Around} {E : Value → Shared → Prop} {s : Shared} {K : Frag}

/-! the whole heap as the ledger: makes every rule that writes through a ledger a rule over any heap -/
end
end Att

namespace L2
open PySem PySem.Spec PyProof.Rows

theorem vals_ints : ∀ {vs : List Value} {ns : List Int}, IntsAre vs ns → Vals (ns.map V.int) vs
  | _, _, .nil => .nil
  | _, _, .cons n t h => .cons ⟨t, rfl⟩ (vals_ints h)

/-- nothing is tracked but the script, known to the object (or it is an object of the module) -/
def Only (H : Hp) : Prop := ∀ b, H b = none ∨ ∃ o xs, H b = some (.frz o (.lst xs))

/-- THE HEAD: the law's promise, at the heap behind the top. F, the promise of the law's def, may use that base is part of the heap (so K.In base, base.Ns mainGlobals mg stand in Mod) -/
theorem law_call {P : Program} {w : World} {K : PySem.W.Frag} {mg mb : Str → Option Value} {CX : CXT} {k : Nat} {fa a : Addr} {fd : FuncData} {x : Str} {sp : Sp} {s₁ : Shared} {vs : List Value} {ns : List Int}
    (KX : K.In s₁.heap) (hns : s₁.heap.Ns mainGlobals mg) (hb : s₁.heap.Ns builtinsNs mb) (hbb : ∀ x : Str, x ≠ "__name__" → mb x = bootBuiltins x) (hlim : s₁.heap.NoLimit) (hg : s₁.gens = #[])
    (ha : s₁.heap.get? a = some { cls := .type "list", data := .seq vs.toArray }) (hi : IntsAre vs ns) (hl : ns.length ≤ sizeLine) (hr : Room k callerA)
    (F : ∀ base : Heap, K.In base → base.Ns mainGlobals mg → FnOk P w K mg base CX k fa fd [x] sp) (hbind : ∀ (s : Shared) (u : Value), BindsTo s fd ⟨[u], []⟩ [(x, u)])
    (hloc : fd.scope.names.lookup x = some .local) (hsp : ∀ H : Hp, Only H → SqL K H a (ns.map V.int) → sp [.ref a] H (fun v _ => v = .bl true) fun _ _ _ => False)
    (hCX : ∀ H e s', CX [] H s₁ (fun _ _ _ => False) e s' → False) :
    codeAny (model P w) callerA (.call (.ref fa) ⟨[.ref a], []⟩) (fun r s' => r = .ok (.ret (.bool true)) ∧ OldK s₁.heap s'.heap ∧ s'.os = s₁.os ∧ AllBare s'.gens) s₁ := by
  have rv := vals_ints hi
  have lenV := hi.length
  -- from an abstract heap in which nothing but the script may be tracked
  have core : ∀ H : Hp, Only H → SqL K H a (ns.map V.int) → HOk P w H s₁.heap → (∀ b, H b ≠ none → b = a) → (H a ≠ none → K.lookup a = none) →
      codeAny (model P w) callerA (.call (.ref fa) ⟨[.ref a], []⟩) (fun r s' => r = .ok (.ret (.bool true)) ∧ OldK s₁.heap s'.heap ∧ s'.os = s₁.os ∧ AllBare s'.gens) s₁ := by
    intro H hO hS hok hA hK
    have base_of : ∀ {b : Addr} {o : Obj}, s₁.heap.get? b = some o → H b = none → (hidT s₁.heap H).get? b = some o := fun e n => hidT_get e n
    have noA : ∀ {b : Addr} {o : Obj} {es : Array DictEntry} {ep : Nat}, s₁.heap.get? b = some o → o.data = .dict es ep → H b = none := fun {b o es ep} e d => by
      cases q : H b with
      | none => rfl
      | some u =>
        have e' : b = a := hA b (by rw [q]; simp)
        subst e'
        rw [ha] at e; cases e
        have d' : Data.seq vs.toArray _ = Data.dict es ep := d
        cases d'
    have nsK : ∀ {b : Addr} {m : Str → Option Value}, s₁.heap.Ns b m → (hidT s₁.heap H).Ns b m := fun {b m} ⟨o, es, ep, e, d, r⟩ => ⟨o, es, ep, base_of e (noA e d), d, r⟩
    have hKb : K.In (hidT s₁.heap H) := fun b o e => base_of (KX b o e) (by
      cases q : H b with
      | none => rfl
      | some u =>
        have e' : b = a := hA b (by rw [q]; simp)
        subst e'
        rw [hK (by rw [q]; simp)] at e; cases e)
    have hM : Mod K mg (hidT s₁.heap H) := ⟨hKb, nsK hns, ⟨mb, nsK hb, hbb⟩, let ⟨mc, h1, h2⟩ := hlim; ⟨mc, nsK h1, h2⟩⟩
    have e0 : Env0 P w K mg (hidT s₁.heap H) callerA [] s₁ H := ⟨rfl, hM, fun b o e => of_hidT e, Nat.le_of_eq (hidT_size _ _), trivial, fun b hb => absurd (show b ∈ ([] : List Addr) from hb) (by simp), hok, .of_eq hg⟩
    refine codeAny_mono ((F _ hKb (nsK hns)).run callerA [] s₁ H ⟨[.ref a], []⟩ [.ref a] [.ref a] _ _ hr e0 (hbind s₁ (.ref a)) (.cons rfl .nil) (hsp H hO hS) (.inr ⟨_, _, rfl, hloc⟩)) fun r s' h => ?_
    cases r with
    | error e => exact (hCX H e s' h).elim
    | ok fl =>
      cases fl with
      | next => exact False.elim h
      | brk => exact False.elim h
      | cont => exact False.elim h
      | ret u =>
        obtain ⟨v, H', os, bare, htk, un, hok', r', q⟩ := h
        have q' : v = .bl true := q
        subst q'
        obtain rfl : u = Value.bool true := r'
        refine ⟨rfl, OldK.of_keep fun b o e => ?_, os, bare⟩
        cases q : H b with
        | none => exact un.keep b o e q (by intro z; exact absurd (show b ∈ ([] : List Addr) from z) (by simp)) (by simp)
        | some u =>
          rcases hO b with z | ⟨ob, xs, z⟩
          · rw [q] at z; cases z
          · have z2 := un.frzs b ob _ z
            obtain ⟨e1, _⟩ := hok b _ z
            obtain ⟨e2, _⟩ := hok' b _ z2
            rw [e] at e1; cases e1
            exact e2
  cases hk : K.lookup a with
  | some o =>
    -- the script is one of the module's own objects
    have e := KX a o hk
    rw [ha] at e
    cases e
    refine core (fun _ => none) (fun _ => .inl rfl) (.inr ⟨_, vs.toArray, _, hk, rfl, rfl, rfl, by rw [List.size_toArray, lenV]; exact hl, by simpa using rv⟩) (fun b u z => by have z' : (none : Option HO) = some u := z; cases z') (fun b z => absurd rfl z) fun z => absurd rfl z
  | none =>
    refine core (fun b => if b = a then some (.frz { cls := .type "list", data := .seq vs.toArray } (.lst (ns.map V.int))) else none) (fun b => ?_) (.inl (.inr ⟨{ cls := .type "list", data := .seq vs.toArray }, if_pos rfl⟩)) (fun b u z => ?_) (fun b z => ?_) fun _ => hk
    · by_cases hb : b = a
      · exact .inr ⟨_, _, if_pos hb⟩
      · exact .inl (if_neg hb)
    · by_cases hb : b = a
      · have z' := (if_pos hb).symm.trans z
        cases z'
        subst hb
        exact ⟨ha, by rw [List.length_map]; exact hl, vs, _, rv, ha⟩
      · have z' := (if_neg hb).symm.trans z
        cases z'
    · by_cases hb : b = a
      · exact hb
      · exact absurd (if_neg hb) z
end L2

namespace L2
open PySem PySem.Spec PyProof.Rows

abbrev KOf {K : PySem.W.Frag} {h : Heap} (_ : K.In h) : PySem.W.Frag := K

/-- the goal that k_head leaves (case hc), from the law's promise. F gives the function object fd (K's own) once, then the promise over every base -/
theorem walk_of {l : PySem.W.OpenLaw} {n k : Nat} {q : Program} {loose : List Str} {XP : (Str → Option Value) → Heap → Prop} {YP : World → Heap → Prop} {d : DefRec} {K : Params → PySem.W.Frag} {CX : World → CXT} {sp : World → Sp} {x : Str}
    (hn : l.most = some n) (hn2 : n ≤ sizeLine) (hdf : d.params.defaults = []) (hr : Room k callerA)
    (hY : ∀ (w : World) (h : Heap), YP w h → (K w.params).In h)
    (F : ∀ (w : World) (mg : Str → Option Value) (fa : Addr) (h : Heap), (K w.params).In h → h.Ns mainGlobals mg → mg d.name = some (.ref fa) →
      ∃ fd : FuncData, (∀ (s : Shared) (u : Value), BindsTo s fd ⟨[u], []⟩ [(x, u)]) ∧ fd.scope.names.lookup x = some .local ∧
        ∀ base : Heap, (K w.params).In base → base.Ns mainGlobals mg → FnOk l.prog w (K w.params) mg base (CX w) k fa fd [x] (sp w))
    (hsp : ∀ (w : World) (H : Hp) (a : Addr) (ns : List Int), ns.length ≤ n → Only H → SqL (K w.params) H a (ns.map V.int) → sp w [.ref a] H (fun v _ => v = .bl true) fun _ _ _ => False)
    (hCX : ∀ (w : World) (H : Hp) (s : Shared) (e : Value) (s' : Shared), CX w [] H s (fun _ _ _ => False) e s' → False) :
    PySem.W.WalkO q loose XP YP l.row.toRowW d [] (fun f vs => PySem.call f vs) := by
  refine Att.attach_call hn hdf fun w s₀ s₁ mg mb fa o pm cd doc a vs ns G Y ho hd hcd hmg hobj hints hlen hg => ?_
  have KX := hY w _ Y
  obtain ⟨fd, hb, hloc, hF⟩ := F w mg fa _ KX G.T.g hmg
  exact law_call KX G.T.g G.T.b G.T.builtins G.T.nolimit hg hobj hints (Nat.le_trans hlen hn2) hr hF hb hloc (fun H hO hS => hsp w H a ns hlen hO hS) fun H e s' => hCX w H s₁ e s'
/-- the same where the promise hangs on the written part alone: (sp := My.sp_law), no hole under a binder -/
theorem walk_ofK {l : PySem.W.OpenLaw} {n k : Nat} {q : Program} {loose : List Str} {XP : (Str → Option Value) → Heap → Prop} {YP : World → Heap → Prop} {d : DefRec} {K : Params → PySem.W.Frag} {CX : CXT} {sp : PySem.W.Frag → Sp} {x : Str}
    (hn : l.most = some n) (hn2 : n ≤ sizeLine) (hdf : d.params.defaults = []) (hr : Room k callerA)
    (hY : ∀ (w : World) (h : Heap), YP w h → (K w.params).In h)
    (F : ∀ (w : World) (mg : Str → Option Value) (fa : Addr) (h : Heap), (K w.params).In h → h.Ns mainGlobals mg → mg d.name = some (.ref fa) →
      ∃ fd : FuncData, (∀ (s : Shared) (u : Value), BindsTo s fd ⟨[u], []⟩ [(x, u)]) ∧ fd.scope.names.lookup x = some .local ∧
        ∀ base : Heap, (K w.params).In base → base.Ns mainGlobals mg → FnOk l.prog w (K w.params) mg base CX k fa fd [x] (sp (K w.params)))
    (hsp : ∀ (K : PySem.W.Frag) (H : Hp) (a : Addr) (ns : List Int), ns.length ≤ n → Only H → SqL K H a (ns.map V.int) → sp K [.ref a] H (fun v _ => v = .bl true) fun _ _ _ => False)
    (hCX : ∀ (H : Hp) (s : Shared) (e : Value) (s' : Shared), CX [] H s (fun _ _ _ => False) e s' → False) :
    PySem.W.WalkO q loose XP YP l.row.toRowW d [] (fun f vs => PySem.call f vs) :=
  walk_of (K := K) (CX := fun _ => CX) (sp := fun w => sp (K w.params)) hn hn2 hdf hr hY F (fun w H a ns h1 h2 h3 => hsp (K w.params) H a ns h1 h2 h3) fun _ H s e s' => hCX H s e s'
end L2

/- THE LAST THEOREM (shape; LID, My.* are yours):
   My.Adr: a structure of the addresses that your layer names (classes, functions); My.Txt K t: a structure (Prop) of the equations over K;
   My.txt_mk : {K} {implicit addresses ..} (e1 : nsIn K mainGlobals "law" = some (some (.ref f))) (e2 : K.lookup f = some ⟨oc, od, .func (fnOf "law" "law" params body scope dV kV doc pm an cdv ct), sl⟩) (e3 : codeIn K cdv "law" = true) .. : ∃ t, My.Txt K t

set_option maxRecDepth 100000 in
set_option maxHeartbeats 0 in
theorem PySem.Challenge.cw_LID_holds : PySem.Challenge.rw_LID.Holds := by
  w_on; o_law; k_head; (case hw => w_witness2)
  k_fill
  refine L2.walk_of (l := PySem.Challenge.rw_LID) (n := 63) (k := 40) (x := "script") (CX := fun w => ..) (sp := fun _ => My.sp_law) rfl (by decide) rfl ⟨rfl, by decide, by decide⟩ (fun w h Y => PySem.W.kIn_of Y) ?F ?S ?C
  case F =>
    intro w mg fa h KX G hmg
    have T : ∃ t, My.Txt (L2.KOf KX) t := by
      dsimp only [L2.KOf]                          -- K must stand as «<heap const> w.params» for k_is
      refine' My.txt_mk ?e1 ?e2 ?e3 ..
      (case e1 => PySem.W.k_is)                    -- in the order: a name -> its address -> its object -> its parts
      (case e2 => PySem.W.k_is)
      ..
    obtain ⟨t, T⟩ := T
    have e0 := hmg.symm.trans (PySem.W.mg_of KX G T.law)
    cases e0                                       -- fa is the law's own address
    exact ⟨_, fun s u => .of_eq rfl, fun base kb nb => My.law_fn T kb nb⟩     -- if «.of_eq rfl» comes too early: refine' ⟨_, ?b, fun base kb nb => My.law_fn T kb nb⟩; exact fun s u => .of_eq rfl
  case S => exact fun w H a ns hl hO hS => ..
  case C => exact ..
(the tactic k_is has no namespace: write k_is) -/

/-! SHORT WORDS over the layer: a def of the text, its body, what a loop and a test want. -/
namespace L2
open PySem PySem.Spec PyProof.Rows

/-! ### the text by places -/
/-- the j-th statement of a class's body -/
def inClass (s : Stmt) (j : Nat) : Stmt := match s with
  | .ClassDef _ _ _ body _ _ _ _ _ _ _ => body.getD j (.Pass ⟨0, 0, 0, 0⟩)
  | _ => .Pass ⟨0, 0, 0, 0⟩
def defArgs (s : Stmt) : Arguments := match s with
  | .FunctionDef _ a _ _ _ _ _ _ _ _ => a
  | _ => { posonlyargs := [], args := [], vararg := none, kwonlyargs := [], kw_defaults := [], kwarg := none, defaults := [] }
def defBody (s : Stmt) : List Stmt := match s with
  | .FunctionDef _ _ b _ _ _ _ _ _ _ => b
  | _ => []
def defScope (s : Stmt) : Scope := match s with
  | .FunctionDef _ _ _ _ _ _ sc _ _ _ => sc
  | _ => { kind := .function, names := [], isGenerator := false, isCoroutine := false }

/-! ### no exception leaves a def -/
abbrev CX0 : CXT := fun _ _ _ _ _ _ => False
abbrev E0 : XK := fun _ _ _ => False
theorem pass0 {X : Cx} : Passes CX0 X E0 := fun _ _ _ _ _ _ _ h => h.elim

/-! ### a def (or method) of the text as it stands behind the top -/
structure Fun (K : PySem.W.Frag) (x qual : Str) (st : Stmt) (f : Addr) (fd : FuncData) : Prop where
  ex : ∃ (oc : Value) (od : Option Addr) (kV doc pm : Value) (an : Option Addr) (cdv ct : Value) (osl : Array (Option Value)),
    fd = PySem.W.fnOf x qual (defArgs st) (defBody st) (defScope st) .none kV doc pm an cdv ct ∧ K.lookup f = some ⟨oc, od, .func fd, osl⟩ ∧ PySem.W.codeIn K cdv qual = true
  kp : PySem.W.keepIn K (.ref f) = true
section
variable {P : Program} {w : World} {K : PySem.W.Frag} {mg : Str → Option Value} {base : Heap}
/-- THE RULE for a def: its body as a term of rules, and the reading of that term -/
theorem Fun.ok {x qual : Str} {st : Stmt} {f : Addr} {fd : FuncData} {N ps : List Str} {k : Nat} {sp : Sp} (F : Fun K x qual st f fd) (S : FnScope N ps (defScope st)) (len : ∀ vs H Q E, sp vs H Q E → vs.length = ps.length)
    (hbody : ∀ (cdv : Value) (A : Around) (outer : List Env) (s : Shared) (H : Hp) (vs : List V) (Q : VK) (E : XK), Room k (A.deeper (envOfC qual (defScope st) s.heap.objs.size f cdv)) → sp vs H Q E →
      ∃ t, PSs (cxOf CX0 P w K mg base N qual (defScope st) f cdv A outer s H E).nox (defBody st) t ∧ t { nx := fun _ H' => Q .non H', rt := Q } (start N vs) H) : FnOk P w K mg base CX0 (k + 1) f fd ps sp := by
  obtain ⟨oc, od, kV, doc, pm, an, cdv, ct, osl, rfl, lk, hcd⟩ := F.ex
  refine fn_of lk hcd S len fun A outer s H vs Q E hr hsp => ?_
  obtain ⟨t, h, q⟩ := hbody cdv A outer s H vs Q E hr hsp
  exact ⟨t, h.nox, q⟩
/-- how its arguments bind (no defaults): h is «fun _ _ _ _ _ _ us hl => match us, hl with | [_, _], _ => rfl», one _ a parameter -/
theorem Fun.binds {x qual : Str} {st : Stmt} {f : Addr} {fd : FuncData} {ps : List Str} (F : Fun K x qual st f fd)
    (h : ∀ (kV doc pm : Value) (an : Option Addr) (cdv ct : Value) (us : List Value), us.length = ps.length → bindArgs (PySem.W.fnOf x qual (defArgs st) (defBody st) (defScope st) .none kV doc pm an cdv ct) ⟨us, []⟩ = pure (ps.zip us)) : Binds K fd ps [] := by
  obtain ⟨oc, od, kV, doc, pm, an, cdv, ct, osl, rfl, lk, hcd⟩ := F.ex
  exact .all (h kV doc pm an cdv ct)
theorem fun_mk {x qual : Str} {st : Stmt} {f : Addr} {oc : Value} {od an : Option Addr} {osl : Array (Option Value)} {kV doc pm cdv ct : Value} (l : K.lookup f = some ⟨oc, od, .func (PySem.W.fnOf x qual (defArgs st) (defBody st) (defScope st) .none kV doc pm an cdv ct), osl⟩)
    (c : PySem.W.codeIn K cdv qual = true) (k : PySem.W.keepIn K (.ref f) = true) : Fun K x qual st f (PySem.W.fnOf x qual (defArgs st) (defBody st) (defScope st) .none kV doc pm an cdv ct) := ⟨⟨oc, od, kV, doc, pm, an, cdv, ct, osl, rfl, l, c⟩, k⟩
end
theorem hu_of {A : Around} {k : Nat} (hr : Room k A) : A.units + 1 < cLine := Nat.lt_of_le_of_lt (Nat.add_le_add_left (by decide : 1 ≤ 64) _) hr.units
theorem small1000 {n : Nat} (h : n ≤ 1000) : n < sizeLine := Nat.lt_of_le_of_lt h (by decide)

/-! ### expressions in short: the name that stands in the i-th slot -/
section
variable {X : Cx}
theorem pv (i : Nat) {x : Str} {pos : Pos} (hN : X.N[i]? = some x := by rfl) (hv : Vis X.env.scope x := by first | exact Or.inl rfl | exact Or.inr (Or.inl rfl) | exact Or.inr (Or.inr rfl)) (hd : (x == ("__debug__" : Str)) = false := by decide)
    (hcd : (x == ("__classdict__" : Str)) = false := by decide) : PE X (.Name x pos) (tVar i) := pe_var hN hv hd hcd
/-- len of a dict -/
theorem call_lenD : CallR X (.builtin "len") (fun xs H Q => ∃ a kvs, xs = [V.ref a] ∧ H a = some (.dK kvs) ∧ Q (.int kvs.length) H) := by
  intro pins s σ H xs us Q I r h
  obtain ⟨a, kvs, rfl, ha, q⟩ := h
  obtain ⟨u, rfl, ru⟩ := vals1 r
  cases ru
  exact d_len I (.inl ha) fun t s' I' => ⟨.int kvs.length, H, I', ⟨t, rfl⟩, q⟩
end

/-! ### tests -/
theorem iteF {A B : Prop} (h : B) : if false = true then A else B := by
  rw [if_neg Bool.false_ne_true]
  exact h
theorem iteT {A B : Prop} (h : A) : if true = true then A else B := by
  rw [if_pos rfl]
  exact h
theorem ite2 {c A B : Prop} [Decidable c] (h1 : c → A) (h2 : ¬ c → B) : if c then A else B := by
  by_cases h : c
  · rw [if_pos h]
    exact h1 h
  · rw [if_neg h]
    exact h2 h
/-! ### heaps -/
/-- all that was tracked is as it was -/
def Same (H H' : Hp) : Prop := ∀ b o, H b = some o → H' b = some o
theorem Same.refl (H : Hp) : Same H H := fun _ _ h => h
theorem Same.trans {H H1 H2 : Hp} (a : Same H H1) (b : Same H1 H2) : Same H H2 := fun c o h => b c o (a c o h)
theorem Same.free {H H' : Hp} (e : Same H H') {l : Addr} (h : H' l = Option.none) : H l = Option.none := by
  cases q : H l with
  | none => rfl
  | some o =>
    rw [e l o q] at h
    cases h
theorem Same.seq {K : PySem.W.Frag} {H H' : Hp} {a : Addr} {xs : List V} (e : Same H H') (h : SqL K H a xs) : SqL K H' a xs := by
  rcases h with (h | ⟨o, h⟩) | h
  · exact .inl (.inl (e _ _ h))
  · exact .inl (.inr ⟨o, e _ _ h⟩)
  · exact .inr h

/-! ### a dict's pairs: keys that differ -/
section
variable {κ : Type} [DecidableEq κ]
end
end L2

namespace L2
open PySem
/-! ### plain data: what a value says, tuples within tuples; a list and a dict by their kind alone -/
inductive D where
  | non | bl (b : Bool) | int (i : Int) | str (z : Str) | lst | dct | tup (xs : List D)
def okSign (c : Nat) : Bool := decide (32 ≤ c) && decide (c ≤ 126) && decide (c ≠ 37)
def okText (z : Str) : Bool := decide (z.length ≤ 300) && z.cps.toList.all okSign
mutual
def good : D → Bool
  | .str z => okText z
  | .tup xs => decide (xs.length ≤ 40) && goodL xs
  | _ => false
def goodL : List D → Bool
  | [] => true
  | x :: r => good x && goodL r
end
mutual
def sz : D → Nat
  | .str z => z.length + 1
  | .tup xs => 1 + szL xs
  | _ => 0
def szL : List D → Nat
  | [] => 0
  | x :: r => sz x + szL r
end
mutual
def dp : D → Nat
  | .str _ => 1
  | .tup xs => 1 + dpL xs
  | _ => 0
def dpL : List D → Nat
  | [] => 0
  | x :: r => max (dp x) (dpL r)
end
mutual
def nd : D → Nat
  | .tup xs => 1 + ndL xs
  | _ => 1
def ndL : List D → Nat
  | [] => 0
  | x :: r => nd x + ndL r
end
def isT (d : D) : Bool := good d && decide (sz d ≤ 600) && decide (dp d ≤ 12)
theorem szL_append : ∀ (xs ys : List D), szL (xs ++ ys) = szL xs + szL ys
  | [], ys => by simp [szL]
  | x :: r, ys => by simp only [List.cons_append, szL, szL_append r ys]; omega
theorem ndL_append : ∀ (xs ys : List D), ndL (xs ++ ys) = ndL xs + ndL ys
  | [], ys => by simp [ndL]
  | x :: r, ys => by simp only [List.cons_append, ndL, ndL_append r ys]; omega
theorem dpL_append : ∀ (xs ys : List D), dpL (xs ++ ys) = max (dpL xs) (dpL ys)
  | [], ys => by simp [dpL]
  | x :: r, ys => by simp only [List.cons_append, dpL, dpL_append r ys]; omega
theorem goodL_all : ∀ (xs : List D), goodL xs = xs.all good
  | [] => rfl
  | x :: r => by simp only [goodL, List.all_cons, goodL_all r]
theorem dpL_le {k : Nat} : ∀ (xs : List D), dpL xs ≤ k ↔ ∀ x ∈ xs, dp x ≤ k
  | [] => by simp [dpL]
  | x :: r => by
    have ih := dpL_le (k := k) r
    have e : dpL (x :: r) = max (dp x) (dpL r) := by simp only [dpL]
    rw [e]
    constructor
    · intro h y hy
      rcases List.mem_cons.mp hy with rfl | hy
      · omega
      · exact ih.mp (by omega) y hy
    · intro h
      have h1 := h x List.mem_cons_self
      have h2 := ih.mpr fun y hy => h y (List.mem_cons_of_mem _ hy)
      omega
theorem dp_pos {d : D} (h : good d = true) : 1 ≤ dp d := by
  cases d <;> simp_all [good, dp]
/-! is_tree's stack of parts with their depths -/
def wOk (w : List (D × Nat)) : Bool := w.all fun p => good p.1 && decide (p.2 + dp p.1 ≤ 13)
def wSz (w : List (D × Nat)) : Nat := szL (w.map (·.1))
def G (w : List (D × Nat)) (n : Nat) : Bool := wOk w && decide (n + wSz w ≤ 600)
theorem G_start (d : D) : G [(d, 1)] 0 = isT d := by
  simp only [G, wOk, wSz, isT, List.all_cons, List.all_nil, List.map_cons, List.map_nil, szL, Bool.and_true, Nat.zero_add, Nat.add_zero]
  have e : decide (1 + dp d ≤ 13) = decide (dp d ≤ 12) := by
    rw [decide_eq_decide]; omega
  rw [e]
  cases good d <;> cases decide (sz d ≤ 600) <;> cases decide (dp d ≤ 12) <;> rfl
theorem G_nil {n : Nat} (h : n ≤ 600) : G [] n = true := by simp [G, wOk, wSz, szL, h]
theorem G_snoc (w : List (D × Nat)) (d : D) (k n : Nat) : G (w ++ [(d, k)]) n = (wOk w && (good d && decide (k + dp d ≤ 13)) && decide (n + (wSz w + sz d) ≤ 600)) := by
  simp only [G, wOk, wSz, List.all_append, List.all_cons, List.all_nil, Bool.and_true, List.map_append, List.map_cons, List.map_nil, szL_append, szL, Nat.add_zero]
  rfl
theorem G_bad {w : List (D × Nat)} {d : D} {k n : Nat} (h : good d = false) : G (w ++ [(d, k)]) n = false := by
  rw [G_snoc, h]; simp
theorem G_deep {w : List (D × Nat)} {d : D} {k n : Nat} (h : 12 < k) : G (w ++ [(d, k)]) n = false := by
  rw [G_snoc]
  cases hg : good d with
  | false => simp
  | true =>
    have := dp_pos hg
    have e : decide (k + dp d ≤ 13) = false := decide_eq_false (by omega)
    rw [e]; simp
theorem G_big {w : List (D × Nat)} {d : D} {k n : Nat} (h : 600 < n + sz d) : G (w ++ [(d, k)]) n = false := by
  rw [G_snoc]
  have e : decide (n + (wSz w + sz d) ≤ 600) = false := decide_eq_false (by omega)
  rw [e]; simp
theorem G_big1 {w : List (D × Nat)} {xs : List D} {k n : Nat} (h : 600 < n + 1) : G (w ++ [(.tup xs, k)]) n = false := G_big (by simp only [sz]; omega)
theorem wOk_map (xs : List D) (k : Nat) : wOk (xs.map fun x => (x, k + 1)) = (goodL xs && xs.all fun x => decide (k + 1 + dp x ≤ 13)) := by
  induction xs with
  | nil => rfl
  | cons x r ih =>
    simp only [List.map_cons, wOk, List.all_cons, goodL] at ih ⊢
    rw [ih]
    cases good x <;> cases decide (k + 1 + dp x ≤ 13) <;> cases goodL r <;> simp
theorem wSz_map (xs : List D) (k : Nat) : wSz (xs.map fun x => (x, k + 1)) = szL xs := by
  unfold wSz
  rw [List.map_map]
  congr 1
  induction xs with
  | nil => rfl
  | cons x r ih => simp only [List.map_cons, ih]; rfl
theorem G_tup {w : List (D × Nat)} {xs : List D} {k n : Nat} (hl : xs.length ≤ 40) (hk : k ≤ 12) : G (w ++ [(.tup xs, k)]) n = G (w ++ xs.map fun x => (x, k + 1)) (n + 1) := by
  rw [G_snoc]
  unfold G
  have e1 : wOk (w ++ xs.map fun x => (x, k + 1)) = (wOk w && wOk (xs.map fun x => (x, k + 1))) := by unfold wOk; rw [List.all_append]
  have e2 : wSz (w ++ xs.map fun x => (x, k + 1)) = wSz w + szL xs := by
    have := wSz_map xs k
    unfold wSz at this ⊢
    rw [List.map_append, szL_append, this]
  have e3 : decide (k + dp (.tup xs) ≤ 13) = xs.all fun x => decide (k + 1 + dp x ≤ 13) := by
    have q := dpL_le (k := 12 - k) xs
    have e0 : dp (.tup xs) = 1 + dpL xs := by simp only [dp]
    rw [e0, Bool.eq_iff_iff]
    constructor
    · intro h
      have h := of_decide_eq_true h
      refine List.all_eq_true.mpr fun x hx => decide_eq_true ?_
      have h2 := q.mp (by omega) x hx
      omega
    · intro h
      refine decide_eq_true ?_
      have h2 := q.mpr fun x hx => by
        have h3 := of_decide_eq_true (List.all_eq_true.mp h x hx)
        omega
      omega
  rw [e1, e2, e3, wOk_map]
  have e4 : good (.tup xs) = goodL xs := by simp only [good, decide_eq_true hl, Bool.true_and]
  have e5 : decide (n + (wSz w + sz (.tup xs)) ≤ 600) = decide (n + 1 + (wSz w + szL xs) ≤ 600) := by
    rw [decide_eq_decide]; simp only [sz]; omega
  rw [e4, e5]
theorem G_str {w : List (D × Nat)} {z : Str} {k n : Nat} (ht : okText z = true) (hk : k ≤ 12) : G (w ++ [(.str z, k)]) n = G w (n + (1 + z.length)) := by
  rw [G_snoc]
  unfold G
  have e4 : good (.str z) = true := by simp only [good, ht]
  have e3 : decide (k + dp (.str z) ≤ 13) = true := decide_eq_true (by simp only [dp]; omega)
  have e5 : decide (n + (wSz w + sz (.str z)) ≤ 600) = decide (n + (1 + z.length) + wSz w ≤ 600) := by
    rw [decide_eq_decide]; simp only [sz]; omega
  rw [e4, e3, e5]; simp
/-! tree_depth's levels -/
end L2

set_option maxHeartbeats 4000000
namespace AwZ
open PySem PyProof.Rows
open PySem.AutoSeq1 (wpAny_loadPart')
section
variable {prog : Program} {w : World} {A : Around} {E : Value → Shared → Prop} {s : Shared}
/-! a tuple's iterator drawn on by zip and enumerate -/
/-! zip of a tuple and a list -/
end
section
variable {prog : Program} {w : World} {A : Around} {E : Value → Shared → Prop} {s : Shared}
end
end AwZ

namespace AwZ
open PySem PyProof.Rows
open PySem.AutoSeq1 (wpAny_loadPart')
section
variable {prog : Program} {w : World} {A : Around} {E : Value → Shared → Prop} {s : Shared}
/-! enumerate over a tuple, counted from c -/
/-! a type called with keywords -/
end
end AwZ

/-! MORE RULES over the hand layer: texts, comprehensions, all, is, isinstance. -/
namespace L2
open PySem PySem.Spec PyProof.Rows

/-! ### a text walked sign by sign -/
def Its (x : Str) : It := ⟨fun i _ => i < x.cps.size, fun i H v H' => H' = H ∧ ∃ c, x.cps[i]? = some c ∧ v = .str ⟨#[c]⟩, fun i _ => i = x.cps.size⟩
theorem turn_str {P : Program} {w : World} {K : PySem.W.Frag} {tg : Expr} {x : Str} {t : Tok} {it : Addr} (ty : String) (hty : ty = "str_ascii_iterator" ∨ ty = "str_iterator") :
    Turn P w K tg (Its x) [it] it (fun i h => h.IsStrIter it ty x t i) where
  mem := by simp
  obj := fun i h st b hb => by
    have e : b = it := by simpa using hb
    subst e
    obtain ⟨o, e, c, d⟩ := st
    exact ⟨o, e, fun v z => by rw [d] at z; cases z⟩
  keep := fun i h h' st k => by
    obtain ⟨o, e, r⟩ := st
    exact ⟨o, k it (by simp) o e, r⟩
  item := by
    intro X hP hw hK hc i pins s σ H E I hf st hg
    subst hP hw hK
    obtain ⟨f0, f1, f2, f3, f4, f5⟩ := hf it (by simp)
    have W : Walks X.prog X.w X.A it [it] [it] x.cps.size (SignAt x) (fun i h => h.IsStrIter it ty x t i) := by
      rcases hty with rfl | rfl
      · exact Walks.strAscii (I.ok.hd hc) it x t
      · exact Walks.strWide (I.ok.hd hc) it x t
    refine wpAny_with_toks (n := 1) I.tk (W.item i s _ _ hg st fun v h' tk hv st' kk => ?_)
    intro htk
    obtain ⟨c, u, hx, rfl⟩ := hv
    have I1 : Inv X pins σ H { s with heap := h', toks := tk } := I.turned (fun b o hb e => kk b o (by simpa using hb) e) f0 f1 f3 f4 f5
    obtain ⟨o, e, c', d⟩ := id st'
    refine ⟨_, rfl, go_of (s := { s with heap := h', toks := tk }) e c' d (by rcases hty with rfl | rfl <;> decide) ⟨.str ⟨#[c]⟩, H, I1, ⟨u, rfl⟩, ⟨rfl, c, hx, rfl⟩, st', fun b hb => (hf b hb).1⟩⟩
  done := by
    intro X hP hw hK hc i pins s σ H E I hf st hg
    subst hP hw hK
    have hg' : i = x.cps.size := hg
    subst hg'
    obtain ⟨f0, f1, f2, f3, f4, f5⟩ := hf it (by simp)
    have W : Walks X.prog X.w X.A it [it] [it] x.cps.size (SignAt x) (fun i h => h.IsStrIter it ty x t i) := by
      rcases hty with rfl | rfl
      · exact Walks.strAscii (I.ok.hd hc) it x t
      · exact Walks.strWide (I.ok.hd hc) it x t
    exact wpAny_with_toks (n := 1) I.tk (W.done s _ _ st fun h' tk kk htk => ⟨rfl, I.turned (fun b o hb e => kk b o (by simpa using hb) e) f0 f1 f3 f4 f5⟩)
  self := fun _ _ _ _ _ st h => by
    rcases hty with rfl | rfl
    · exact wpAny_pyIter_striter_ascii st h
    · exact wpAny_pyIter_striter_wide st h
section
variable {X : Cx} {tg : Expr}
def iStr (tl : TE) : TI := fun σ H R => tl σ H fun x H1 => ∃ z, x = .str z ∧ R (Its z) H1
theorem pi_str {l : Expr} {tl : TE} (hl : PE X l tl) : PI X tg l (iStr tl) := by
  intro pins s σ H R I h
  refine thn (hl pins s σ H _ I h) fun v s1 ⟨x, H1, I1, r1, q1⟩ => ?_
  obtain ⟨z, e, q⟩ := q1
  subst e
  obtain ⟨t, rfl⟩ := r1
  have fp : ∀ (o : Obj), ∀ b ∈ [s1.heap.objs.size], FpOk X pins H1 b := fun o b hb => by
    have e : b = s1.heap.objs.size := by simpa using hb
    subst e
    exact I1.fpOk (Nat.le_refl _) (I1.hok.fresh (Nat.le_refl _))
  cases ha : z.cps.all (· < 128)
  · refine wpAny_pyIter_wide ha ?_
    exact ⟨s1.heap.objs.size, [s1.heap.objs.size], _, _, H1, rfl, I1.kept (t' := s1.toks) fun b o e => Heap.get?_push_of_some _ e, turn_str "str_iterator" (.inr rfl), ⟨_, Heap.get?_push_size _ rfl, rfl, rfl⟩, fp default, q⟩
  · refine wpAny_pyIter_ascii ha ?_
    exact ⟨s1.heap.objs.size, [s1.heap.objs.size], _, _, H1, rfl, I1.kept (t' := s1.toks) fun b o e => Heap.get?_push_of_some _ e, turn_str "str_ascii_iterator" (.inl rfl), ⟨_, Heap.get?_push_size _ rfl, rfl, rfl⟩, fp default, q⟩

/-! ### a slice of a text -/
def rSlS : V → Option Int → Option Int → Hp → VK → Prop := fun x lo hi H Q => ∃ z, x = .str z ∧ z.length ≤ sizeLine ∧ Q (.str (Txt.slice z lo hi)) H
def tokOf : Value → Option (Int × Tok)
  | .int i t => some (i, t)
  | _ => none
theorem sl_str : SlR X rSlS := by
  intro pins s σ H x v vl vu lo hi sl Q I rx hs pl pu h
  obtain ⟨z, rfl, hz, q⟩ := h
  obtain ⟨t, rfl⟩ := rx
  refine ⟨"str", _, F.slot_str_getitem.lookup, typeIs_str _ _ _, ?_⟩
  have hl : vl = partValue (tokOf vl) ∧ lo = (tokOf vl).map (·.1) := by cases pl <;> exact ⟨rfl, rfl⟩
  have hu : vu = partValue (tokOf vu) ∧ hi = (tokOf vu).map (·.1) := by cases pu <;> exact ⟨rfl, rfl⟩
  obtain ⟨o, e1, e2, e3⟩ := hs
  refine wpAny_with_toks (n := 1) I.tk ?_
  refine wpAny_getItem_str_slice (l := tokOf vl) (u := tokOf vu) (st := none) ⟨o, e1, e2, by rw [e3, ← hl.1, ← hu.1]; rfl⟩ rfl ?_
  refine post_val_or_str ⟨?_, fun t' k => ?_⟩
  · exact Nat.le_trans (Txt.slice_le z _ _) hz
  · intro htk
    exact ⟨.str (Txt.slice z lo hi), H, I.tok k, ⟨t', by rw [hl.2, hu.2]; rfl⟩, q⟩

/-! ### is, is not: a bool on the right -/
/-! ### isinstance(x, c): by the types' own table -/
theorem call_isinst {K : PySem.W.Frag} (hK : X.K = K) : CallR X (.builtin "isinstance") (fun xs H Q => ∃ x T t b, xs = [x, .ty T] ∧ TyOf K H x t ∧ PySem.W.kitOne K t (.type T) = some b ∧ Q (.bl b) H) := by
  intro pins s σ H xs us Q I r h
  obtain ⟨x, T, t, b, rfl, ty, e, q⟩ := h
  obtain ⟨u, u', rfl, ru, ru'⟩ := vals2 r
  cases ru'
  subst hK
  exact wpAny_with_toks (n := 1) I.tk (isinst_ok I ru ty e fun tk htk => ⟨.bl b, H, I.tok tk, rfl, q⟩)

/-! ### all, any of a list of bools -/
theorem all_range : ∀ bs : List Bool, (List.range bs.length).all (fun i => bs.getD i true) = bs.all id
  | [] => rfl
  | b :: r => by
    rw [List.length_cons, List.range_succ_eq_map, List.all_cons, List.all_map, List.all_cons]
    have e : (List.range r.length).all ((fun i => (b :: r).getD i true) ∘ Nat.succ) = (List.range r.length).all fun i => r.getD i true := by
      congr 1
    rw [e, all_range r]
    rfl
theorem call_allL (hc : X.calm = true) : CallR X (.builtin "all") (fun xs H Q => ∃ (p : Addr) (bs : List Bool), xs = [.ref p] ∧ SqL X.K H p (bs.map V.bl) ∧ Q (.bl (bs.all id)) H) := by
  intro pins s σ H xs us Q I r h
  obtain ⟨p, bs, rfl, hp, q⟩ := h
  obtain ⟨u, rfl, ru⟩ := vals1 r
  cases ru
  obtain ⟨its, rv, pl, hz⟩ := I.list hp
  have hlt : p < s.heap.objs.size := by obtain ⟨o, n, e, _⟩ := pl; exact Heap.lt_size e
  refine wpAny_with_toks (n := 1) I.tk ?_
  refine call_all_walk (wpAny_pyIter_list pl.isList ?_)
  have up : ∀ b o, s.heap.get? b = some o → (s.heap.push { cls := .type "list_iterator", data := .fields #[.ref p, .int 0 0] }).get? b = some o := fun b o e => Heap.get?_push_of_some _ e
  have hl : its.length = bs.length := by have := rv.length; simpa using this.symm
  refine ⟨s.heap.objs.size, _, _, _, _, _, fun i => bs.getD i true, rfl, Walks.list (show X.A.in1.handled = none from I.ok.hd hc) s.heap.objs.size p (Nat.ne_of_lt hlt) its.toArray, ⟨⟨_, Heap.get?_push_size _ rfl, rfl, rfl⟩, pl.isList.push _⟩, ?_, ?_⟩
  · intro i v s' Q' E' hv hQ
    have hv' : its[i]? = some v := by simpa using hv
    have hi : i < its.length := (List.getElem?_eq_some_iff.mp hv').1
    obtain ⟨u, e1, e2⟩ := rv.get (i := i) (x := .bl (bs[i]'(by omega))) (by simp [show i < bs.length by omega])
    rw [hv'] at e1
    cases e1
    cases e2
    have : bs.getD i true = bs[i]'(by omega) := by simp [List.getD, show i < bs.length by omega]
    have hQ2 : Q' (bs.getD i true) s' := hQ
    rw [this] at hQ2
    exact wpAny_truthy_bool hQ2
  · intro h' tk kk htk
    have hall : (List.range its.toArray.size).all (fun i => bs.getD i true) = bs.all id := by
      rw [List.size_toArray, hl]
      exact all_range bs
    rw [hall]
    have I1 := I.kept (t' := s.toks) (h' := s.heap.push { cls := .type "list_iterator", data := .fields #[.ref p, .int 0 0] }) up
    have fpo := I.fpOk (Nat.le_refl _) (I.hok.fresh (Nat.le_refl s.heap.objs.size))
    obtain ⟨f0, f1, f2, f3, f4, f5⟩ := fpo
    exact ⟨.bl (bs.all id), H, I1.turned (it := s.heap.objs.size) (fun b o hb e => kk b o (by simpa using hb) e) f0 f1 f3 f4 f5, rfl, q⟩
end
end L2
namespace L2
open PySem PySem.Spec PyProof.Rows
section
variable {X : Cx}
/-- a text so many times -/
theorem op_repS : OpR X (binaryOp .Mult) (fun x y H Q => ∃ z k, x = .str z ∧ y = .int k ∧ MulOk z k ∧ Q (.str (Txt.mul z k)) H) := by
  intro pins s σ H x y v u Q I rx ry h
  obtain ⟨z, k, rfl, rfl, hok, q⟩ := h
  obtain ⟨t, rfl⟩ := rx
  obtain ⟨t', rfl⟩ := ry
  exact wpAny_with_toks (n := 1) I.tk (SB.mul hok fun t' k' htk => ⟨.str (Txt.mul z k), H, I.tok k', ⟨t', rfl⟩, q⟩)
/-- the file's constants -/
theorem pe_gI {x : Str} {i : Int} {pos : Pos} (hg : Gl X x) (hm : ∃ t, X.mg x = some (.int i t)) (hd : (x == ("__debug__" : Str)) = false := by decide) : PE X (.Name x pos) (tC (.int i)) := by
  obtain ⟨t, hm⟩ := hm
  exact pe_glob hg hm ⟨t, rfl⟩ hd
theorem pe_gS {x z : Str} {pos : Pos} (hg : Gl X x) (hm : ∃ t, X.mg x = some (.str z t)) (hd : (x == ("__debug__" : Str)) = false := by decide) : PE X (.Name x pos) (tC (.str z)) := by
  obtain ⟨t, hm⟩ := hm
  exact pe_glob hg hm ⟨t, rfl⟩ hd
theorem pe_gR {x : Str} {a : Addr} {pos : Pos} (hg : Gl X x) (hm : X.mg x = some (.ref a)) (hd : (x == ("__debug__" : Str)) = false := by decide) : PE X (.Name x pos) (tC (.ref a)) := pe_glob hg hm rfl hd
end
/-! ### heaps -/
theorem same_new {H : Hp} {p : Addr} (h : H p = none) (o : HO) : Same H (upd H p o) := fun b u q => by rw [upd_ne (ne_of_none q h)]; exact q
/-- all but p as it was -/
def Kept (p : Addr) (H H' : Hp) : Prop := ∀ b o, H b = some o → b ≠ p → H' b = some o
theorem Kept.trans {p : Addr} {H H1 H2 : Hp} (a : Kept p H H1) (b : Kept p H1 H2) : Kept p H H2 := fun c o h n => b c o (a c o h n) n
theorem Same.kept {p : Addr} {H H' : Hp} (e : Same H H') : Kept p H H' := fun b o h _ => e b o h
theorem Kept.upd (p : Addr) (H : Hp) (o : HO) : Kept p H (L2.upd H p o) := fun b u h n => by rw [upd_ne n]; exact h
/-- where p was new, all is as it was -/
theorem Kept.same {p : Addr} {H H1 H' : Hp} (k : Kept p H1 H') (s : Same H H1) (n : H p = none) : Same H H' := fun b o h => k b o (s b o h) (ne_of_none h n)
theorem atI_some {α : Type} {xs : List α} {i : Int} (h0 : 0 ≤ i) (h1 : i < xs.length) : ∃ c, atI xs i = some c := by
  obtain ⟨n, rfl⟩ : ∃ n : Nat, i = (n : Int) := ⟨i.toNat, by omega⟩
  have hn : n < xs.length := by omega
  exact ⟨xs[n], atI_nat (List.getElem?_eq_getElem hn)⟩
end L2

namespace L2
open PySem PySem.Spec PyProof.Rows

/-! ### list comprehensions: one for, at most one if -/
/-- the cells of the free names -/
def clOf (cells : List (Str × Addr)) : List (Str × NameKind) → List (Str × Addr) → List (Str × Addr)
  | [], cs => cs
  | (n, k) :: r, cs => clOf cells r (if k == .free then (match cells.lookup n with | some a => (n, a) :: cs | none => cs) else cs)
theorem clOf_sub {cells : List (Str × Addr)} : ∀ {names : List (Str × NameKind)} {cs : List (Str × Addr)}, (∀ y c, cs.lookup y = some c → cells.lookup y = some c) → ∀ y c, (clOf cells names cs).lookup y = some c → cells.lookup y = some c
  | [], _, h => h
  | (n, k) :: r, cs, h => by
    unfold clOf
    refine clOf_sub fun y c e => ?_
    split at e
    · split at e
      · rename_i a ha
        rw [List.lookup_cons] at e
        split at e
        · rename_i hy
          have hy' : y = n := beq_iff_eq.mp hy
          subst hy'
          cases e
          exact ha
        · exact h y c e
      · exact h y c e
    · exact h y c e
theorem clOf_keep {cells : List (Str × Addr)} : ∀ {names : List (Str × NameKind)} {cs : List (Str × Addr)} {y : Str}, (∃ c, cs.lookup y = some c) → ∃ c, (clOf cells names cs).lookup y = some c
  | [], _, _, h => h
  | (n, k) :: r, cs, y, h => by
    unfold clOf
    refine clOf_keep ?_
    split
    · split
      · rw [List.lookup_cons]
        split
        · exact ⟨_, rfl⟩
        · exact h
      · exact h
    · exact h
theorem clOf_has {cells : List (Str × Addr)} : ∀ {names : List (Str × NameKind)} {cs : List (Str × Addr)} {y : Str}, (y, NameKind.free) ∈ names → (∃ c, cells.lookup y = some c) → ∃ c, (clOf cells names cs).lookup y = some c
  | [], _, _, h, _ => nomatch h
  | (n, k) :: r, cs, y, h, hc => by
    unfold clOf
    rcases List.mem_cons.mp h with e | h
    · cases e
      refine clOf_keep ?_
      obtain ⟨c, hc⟩ := hc
      rw [if_pos (by rfl), hc]
      exact ⟨c, by simp [List.lookup_cons]⟩
    · exact clOf_has h hc
theorem closure_go {env : Env} : ∀ {names : List (Str × NameKind)} {cs : List (Str × Addr)}, (∀ y, (y, NameKind.free) ∈ names → ∃ c, env.cells.lookup y = some c) →
    (forIn names cs fun x r => (do
      if x.2 == .free then
        let a ← cellOf env x.1
        pure (ForInStep.yield ((x.1, a) :: r))
      else pure (ForInStep.yield r) : Sem (ForInStep (List (Str × Addr))))) = (pure (clOf env.cells names cs) : Sem (List (Str × Addr)))
  | [], cs, _ => rfl
  | (n, k) :: r, cs, h => by
    rw [List.forIn_cons]
    have hr : ∀ y, (y, NameKind.free) ∈ r → ∃ c, env.cells.lookup y = some c := fun y hy => h y (List.mem_cons_of_mem _ hy)
    unfold clOf
    by_cases hk : (k == NameKind.free) = true
    · have hk' : k = .free := by simpa using hk
      subst hk'
      obtain ⟨c, hc⟩ := h n List.mem_cons_self
      have e : cellOf env n = pure c := by unfold cellOf; rw [hc]
      simp only [hk, if_true, e, hc, pure_bind]
      exact closure_go hr
    · simp only [if_neg hk, pure_bind]
      exact closure_go hr
theorem closure_ok {scope : Scope} {env : Env} (h : ∀ y, (y, NameKind.free) ∈ scope.names → ∃ c, env.cells.lookup y = some c) : closureFor scope env = pure (clOf env.cells scope.names []) := by
  unfold closureFor
  have q := closure_go (cs := []) h
  show (forIn scope.names ([] : List (Str × Addr)) (fun x r => (do
      if x.2 == .free then
        let a ← cellOf env x.1
        pure (ForInStep.yield ((x.1, a) :: r))
      else pure (ForInStep.yield r) : Sem (ForInStep (List (Str × Addr))))) >>= fun cs => pure cs) = _
  rw [q, pure_bind]

theorem relabel_cell {env : Env} (hf : env.scope.kind = .function) : ∀ {names : List (Str × NameKind)} {x : Str}, names.lookup x = some .free → env.kindOf x = some .cell →
    (names.map fun (n, k) => if (k == NameKind.free && env.scope.kind == .function && env.kindOf n == some .cell) then (n, NameKind.cell) else (n, k)).lookup x = some .cell
  | [], _, h, _ => by simp at h
  | (n, k) :: r, x, h, hc => by
    have ih := @relabel_cell env hf r x
    show List.lookup x ((if (k == NameKind.free && env.scope.kind == .function && env.kindOf n == some .cell) = true then (n, NameKind.cell) else (n, k)) :: _) = _
    cases hx : x == n with
    | true =>
      simp only [List.lookup_cons, hx] at h
      cases h
      have hx' : x = n := beq_iff_eq.mp hx
      subst hx'
      rw [if_pos (by rw [hf, hc]; rfl)]
      simp [List.lookup_cons]
    | false =>
      simp only [List.lookup_cons, hx] at h
      by_cases hc' : (k == NameKind.free && env.scope.kind == .function && env.kindOf n == some .cell) = true
      · rw [if_pos hc']; simp only [List.lookup_cons, hx]; exact ih h hc
      · rw [if_neg hc']; simp only [List.lookup_cons, hx]; exact ih h hc
theorem relabel_was {env : Env} : ∀ {names : List (Str × NameKind)} {x : Str}, (∀ y ∈ names, y.2 ≠ .cell) →
    ((names.map fun (n, k) => if (k == NameKind.free && env.scope.kind == .function && env.kindOf n == some .cell) then (n, NameKind.cell) else (n, k)).lookup x = some .cell ∨
     (names.map fun (n, k) => if (k == NameKind.free && env.scope.kind == .function && env.kindOf n == some .cell) then (n, NameKind.cell) else (n, k)).lookup x = some .free) → (x, NameKind.free) ∈ names
  | [], _, _, h => by simp at h
  | (n, k) :: r, x, hn, h => by
    have ih := @relabel_was env r x (fun y hy => hn y (List.mem_cons_of_mem _ hy))
    have g : List.lookup x ((if (k == NameKind.free && env.scope.kind == .function && env.kindOf n == some .cell) = true then (n, NameKind.cell) else (n, k)) :: (r.map fun (n, k) => if (k == NameKind.free && env.scope.kind == .function && env.kindOf n == some .cell) then (n, NameKind.cell) else (n, k))) = some .cell ∨
      List.lookup x ((if (k == NameKind.free && env.scope.kind == .function && env.kindOf n == some .cell) = true then (n, NameKind.cell) else (n, k)) :: (r.map fun (n, k) => if (k == NameKind.free && env.scope.kind == .function && env.kindOf n == some .cell) then (n, NameKind.cell) else (n, k))) = some .free := h
    have hnk : k ≠ .cell := hn (n, k) List.mem_cons_self
    by_cases hc : (k == NameKind.free && env.scope.kind == .function && env.kindOf n == some .cell) = true
    · rw [if_pos hc] at g
      have hk : k = .free := by
        rw [Bool.and_eq_true, Bool.and_eq_true] at hc
        simpa using hc.1.1
      subst hk
      cases hx : x == n with
      | true =>
        have hx' : x = n := beq_iff_eq.mp hx
        subst hx'
        exact List.mem_cons_self
      | false =>
        simp only [List.lookup_cons, hx] at g
        exact List.mem_cons_of_mem _ (ih g)
    · rw [if_neg hc] at g
      cases hx : x == n with
      | true =>
        have hx' : x = n := beq_iff_eq.mp hx
        subst hx'
        simp only [List.lookup_cons, hx] at g
        rcases g with g | g
        · exact absurd (Option.some.inj g) hnk
        · rw [show k = NameKind.free from Option.some.inj g]
          exact List.mem_cons_self
      | false =>
        simp only [List.lookup_cons, hx] at g
        exact List.mem_cons_of_mem _ (ih g)

/-- the block's context -/
abbrev blk (X : Cx) (scope : Scope) (Nb : List Str) (cl : List (Str × Addr)) (C : Addr) (s₀ : Shared) (H₀ : Hp) (fp : List Addr) (pn : List (Addr × Obj)) : Cx :=
  { X with N := Nb, s₀ := s₀, H₀ := H₀, env := compEnvC scope cl C X.env, outer := X.stack, ex := fp, fn := fun _ => false, pn := pn, xe := fun _ _ => False }

/-- the names of a block: nt of its own, then those of the def that it reads (at fr) -/
structure LcS (X : Cx) (scope : Scope) (Nb : List Str) (nt : Nat) (fr : List Nat) : Prop where
  kind : scope.kind = .function
  cell : ∀ y ∈ scope.names, y.2 ≠ .cell
  names : ∀ y ∈ scope.names, y.2 = .local → scope.names.lookup y.1 = some .local
  free : ∀ y ∈ scope.names, y.2 = .free → X.env.kindOf y.1 = some .cell
  len : Nb.length = nt + fr.length
  fr : ∀ (k j : Nat) (x : Str), fr[k]? = some j → Nb[nt + k]? = some x → X.N[j]? = some x ∧ scope.names.lookup x = some .free

def sigB (nt : Nat) (fr : List Nat) (σ : St) : St := List.replicate nt none ++ fr.map fun j => (σ[j]?).join

theorem HOk.sameBut {P : Program} {w : World} {H : Hp} {h h' : Heap} {C : Addr} (ok : HOk P w H h) (hn : H C = none) (hs : Heap.SameBut C h h') : HOk P w H h' := fun b ob e => by
  refine (ok b ob e).stay (fun c w' hc q => (hs.2 c ?_).trans q) (fun _ q => q) fun _ _ q => q
  rintro rfl
  rcases hc with rfl | hc
  · rw [hn] at e; cases e
  · rw [hn] at hc; cases hc

section
variable {pr : Program} {wo : World} {ar : Around} {RR : Result → Shared → Prop} {st : Shared}
/-- what is wanted of an exception within the block -/
abbrev nb (pr : Program) (wo : World) (ar : Around) (en : Env) (RR : Result → Shared → Prop) : Value → Shared → Prop := notedBy (model pr wo) ar en fun x t => RR (.error x) t
/-- the tests, one after another -/
abbrev tsts (en : Env) (cs : List Expr) : Sem Bool := forIn cs true fun c b => if b = true then do let y ← isTrue c en (eval c en); pure (ForInStep.yield y) else pure (ForInStep.yield b)
/-- the block's loop by a word and a measure, whatever the target is -/
theorem compLoop_by {el tg itx : Expr} {cs : List Expr} {sc : Scope} {ps : Pos} {itv acc : Value} {en : Env} (J : Nat → Shared → Prop)
    (turn : ∀ k t, J k t → wpAny (model pr wo) ar (pyNext itv) (fun r t1 => match r with
      | none => RR (.ok .next) t1
      | some v => wpAny (model pr wo) ar (letOwnedTupleGo tg itv v) (fun _ t2 => wpAny (model pr wo) ar (assign tg en v) (fun _ t3 => wpAny (model pr wo) ar (tsts en cs) (fun b t4 =>
          if b = true then wpAny (model pr wo) ar (eval el en) (fun x t5 => wpAny (model pr wo) ar (call (.builtin "list.append") [acc, x]) (fun _ t6 => ∃ m, m < k ∧ J m t6) (nb pr wo ar en RR) t5) (nb pr wo ar en RR) t4
          else ∃ m, m < k ∧ J m t4) (nb pr wo ar en RR) t3) (nb pr wo ar en RR) t2) (nb pr wo ar en RR) t1) (nb pr wo ar en RR) t)
    (k : Nat) (h0 : J k st) : codeAny (model pr wo) ar (.compLoop (.ListComp el [⟨tg, itx, cs, 0⟩] sc ps) 0 itv acc en) RR st := by
  refine codeAny_loop rfl J (fun k t hJ => ?_) k h0
  show wpAny _ ar ((compTurn (.ListComp el [⟨tg, itx, cs, 0⟩] sc ps) 0 itv acc en).onRaise fun x => do noteFrame x en; theTreesLotGoes x) _ _ t
  rw [compTurn_list]
  refine wpAny_noted (wpAny_bind (wpAny_standAt (wpAny_bind (thn (turn k t hJ) fun r t1 q1 => ?_))))
  cases r with
  | none => exact wpAny_pure q1
  | some v =>
    refine wpAny_bind (thn q1 fun _ t2 q2 => wpAny_bind (thn q2 fun _ t3 q3 => wpAny_bind (thn q3 fun b t4 q4 => ?_)))
    cases b with
    | false => exact wpAny_pure ⟨rfl, q4⟩
    | true => exact wpAny_bind (wpAny_bind (thn q4 fun x t5 q5 => wpAny_bind (thn q5 fun _ t6 q6 => wpAny_pure (wpAny_pure ⟨rfl, q6⟩))))
end

/-- the tests of a comprehension -/
def PIfs (X : Cx) (ifs : List Expr) (t : TT) : Prop :=
  ∀ (pins : List (Addr × Obj)) (s : Shared) (σ : St) (H : Hp) (Q : Bool → Hp → Prop), Inv X pins σ H s → t σ H Q → wpAny (model X.prog X.w) X.A (tsts X.env ifs) (TP X pins σ Q) X.xe s
def tYes : TT := fun _ H Q => Q true H
theorem pif_nil {X : Cx} : PIfs X [] tYes := fun _ _ _ H _ I h => wpAny_tests_nil ⟨H, I, h⟩
theorem pif_one {X : Cx} {c : Expr} {t : TT} (h : PT X c t) : PIfs X [c] t := fun pins s σ H Q I hw => wpAny_tests_one (h pins s σ H Q I hw)

/-- what a comprehension is worth: D its list, n its turns, W what holds ahead of a turn -/
def lcGo (D : Addr) (J : It) (g : TG) (tc : TT) (te : TE) (σb : St) (H1 : Hp) (Q : VK) : Prop :=
  ∃ (n : Nat) (W : Nat → St → List V → Hp → Prop), n ≤ sizeLine ∧ W 0 σb [] (upd H1 D (.lst [])) ∧
    (∀ i σ ys H, i < n → W i σ ys H → H D = some (.lst ys) → ys.length ≤ i → J.go i H ∧ ∀ x H', J.yld i H x H' → g x σ H' fun σ2 H2 => tc σ2 H2 fun b H3 =>
      if b = true then te σ2 H3 fun y H4 => H4 D = some (.lst ys) ∧ W (i + 1) σ2 (ys ++ [y]) (upd H4 D (.lst (ys ++ [y]))) else H3 D = some (.lst ys) ∧ W (i + 1) σ2 ys H3) ∧
    ∀ σ ys H, W n σ ys H → H D = some (.lst ys) → J.stop n H ∧ Q (.ref D) H
def tLC (nt : Nat) (fr : List Nat) (wi : TI) (g : TG) (tc : TT) (te : TE) : TE := fun σ H Q => wi σ H fun J H1 => ∀ D, H1 D = none → lcGo D J g tc te (sigB nt fr σ) H1 Q

section
variable {X : Cx} {scope : Scope} {Nb : List Str} {nt : Nat} {fr : List Nat}
/-- the block begins -/
theorem inv_blk {pins : List (Addr × Obj)} {σ : St} {H : Hp} {s : Shared} {fp : List Addr} {C : Addr} {h4 : Heap} {tk : Nat} (S : LcS X scope Nb nt fr) (I : Inv X pins σ H s) (hC : C = s.heap.objs.size)
    (hns : h4.Ns C fun _ => none) (old : ∀ b o, s.heap.get? b = some o → h4.get? b = some o) (hf : ∀ b ∈ fp, FpOk X pins H b) (ho : ∀ b ∈ fp, ∃ o, s.heap.get? b = some o) (ht : 0 < tk := by ((try dsimp only); first | assumption | exact Inv.tk (by assumption) | exact Nat.succ_pos _ | exact Nat.lt_of_lt_of_le (Inv.tk (by assumption)) (by assumption) | exact Nat.add_pos_left (Inv.tk (by assumption)) _ | omega)) :
    Inv (blk X scope Nb (clOf X.env.cells scope.names []) C s H fp (X.pn ++ pins)) [] (sigB nt fr σ) H { s with heap := h4, toks := tk } := by
  subst hC
  have sub : ∀ y c, (clOf X.env.cells scope.names []).lookup y = some c → X.env.cells.lookup y = some c := clOf_sub fun y c e => by simp at e
  have frees : ∀ y, (y, NameKind.free) ∈ scope.names → X.env.kindOf y = some .cell := fun y hy => S.free _ hy rfl
  have neC : ∀ b o, s.heap.get? b = some o → b ≠ s.heap.objs.size := fun b o e z => by rw [z] at e; exact absurd (Heap.lt_size e) (Nat.lt_irrefl _)
  have notStk : ∀ b, b ≠ X.env.locals → b ∉ X.fs → b ∉ frs X.stack := fun b h1 h2 z => (List.mem_cons.mp (I.stkSub b z)).elim h1 h2
  refine ⟨⟨I.ok.mod, S.kind, I.ok.glob, I.ok.blt, Nat.le_refl _, fun x y c h1 h2 => I.ok.inj x y c (sub x c h1) (sub y c h2), fun x hx => ?_, fun x c z => (by cases z), I.ok.hd, I.ok.frames, .inl rfl, fun b hb => ?_, I.bs, Nat.le_trans I.ok.bsz I.sz, fun b o e hb => ?_, fun b hb => ?_, I.stack, I.stkFree⟩,
    rfl, I.bare, Un.kept old, ⟨_, hns, fun i x v e1 e2 e3 => ?_⟩, fun x c e => ?_, I.hok.fresh (Nat.le_refl _), fun x c e => I.freeC x c (sub x c e), fun p hp => ?_, I.hok.kept old, ?_, ht⟩
  · have hm := relabel_was (env := X.env) S.cell hx
    exact clOf_has hm (I.ok.has x (.inl (frees x hm)))
  · obtain ⟨o, e⟩ := ho b hb
    exact ⟨neC b o e, fun x c e' => (hf b hb).2.2.2.2.1 x c (sub x c e')⟩
  · rcases (hf b hb).2.2.2.1 with z | z
    · exact I.ok.noex b o e z
    · exact absurd (Nat.lt_of_lt_of_le (Heap.lt_size e) (Nat.le_trans I.ok.bsz z)) (Nat.lt_irrefl _)
  · exact notStk b (hf b hb).2.1 (hf b hb).2.2.1
  · -- the names that the block reads
    have hi : nt ≤ i := by
      rcases Nat.lt_or_ge i nt with z | z
      · unfold sigB at e2
        rw [List.getElem?_append_left (by simpa using z), List.getElem?_replicate] at e2
        split at e2 <;> cases e2
      · exact z
    obtain ⟨k, rfl⟩ : ∃ k, i = nt + k := ⟨i - nt, by omega⟩
    unfold sigB at e2
    rw [List.getElem?_append_right (by simp)] at e2
    simp only [List.length_replicate, Nat.add_sub_cancel_left, List.getElem?_map] at e2
    cases ej : fr[k]? with
    | none => rw [ej] at e2; cases e2
    | some j =>
      rw [ej] at e2
      have e2' : (σ[j]?).join = some v := Option.some.inj e2
      have e2'' : σ[j]? = some (some v) := by
        cases q : σ[j]? with
        | none => rw [q] at e2'; cases e2'
        | some z => rw [q] at e2'; exact congrArg some e2'
      obtain ⟨n1, n2⟩ := S.fr k j x ej e1
      have kx : X.env.kindOf x = some .cell := frees x (PySem.mem_of_lookup n2)
      obtain ⟨m, hn, hl⟩ := I.loc
      obtain ⟨u, r, l⟩ := hl j x v n1 e2'' (.inr (.inl kx))
      refine ⟨u, r, .inr ⟨.inl (relabel_cell I.ok.kind n2 kx), ?_⟩⟩
      rcases l with ⟨z, _⟩ | ⟨_, c, ec, hcell⟩
      · rw [kx] at z; cases z
      · obtain ⟨c', ec'⟩ := clOf_has (cells := X.env.cells) (cs := []) (PySem.mem_of_lookup n2) ⟨c, ec⟩
        have := sub x c' ec'
        rw [ec] at this
        cases this
        obtain ⟨o, q, d⟩ := hcell
        exact ⟨c, ec', o, old c o q, d⟩
  · obtain ⟨v, o, q, d⟩ := I.cell x c (sub x c e)
    exact ⟨v, o, old c o q, d⟩
  · have hp' : p ∈ X.pn ++ pins := by simpa using hp
    obtain ⟨e, n, ne, nf, d⟩ := I.pin p hp'
    exact ⟨old _ _ e, n, neC _ _ e, notStk _ ne nf, d⟩
  · show (sigB nt fr σ).length = Nb.length
    unfold sigB
    rw [S.len]
    simp

theorem lc_core {tg iter elt : Expr} {ifs : List Expr} {wi : TI} {g : TG} {tc : TT} {te : TE} {pos : Pos} {R : Value → Addr → Result → Shared → Prop} {pins : List (Addr × Obj)} {s : Shared} {σ : St} {H : Hp} {Q : VK} (S : LcS X scope Nb nt fr) (hcalm : X.calm = true) (hi : PI X tg iter wi)
    (hg : ∀ cl C s₀ H₀ fp pn, PG (blk X scope Nb cl C s₀ H₀ fp pn) tg g) (hc : ∀ cl C s₀ H₀ fp pn, PIfs (blk X scope Nb cl C s₀ H₀ fp pn) ifs tc) (he : ∀ cl C s₀ H₀ fp pn, PE (blk X scope Nb cl C s₀ H₀ fp pn) elt te)
    (I : Inv X pins σ H s) (h : tLC nt fr wi g tc te σ H Q)
    (hR : ∀ (D C : Addr) (H' : Hp) (s1 : Shared) (m : Str → Option Value), Inv X pins σ H' s1 → s1.heap.Ns C m → FpOk X pins H' C → Q (.ref D) H' → R (.ref D) C (.ok .next) s1) :
    wpAny (model X.prog X.w) X.A (eval iter X.env) (fun x s₁ => wpAny (model X.prog X.w) X.A (pyIter x) (fun it s₂ => wpAny (model X.prog X.w) X.A (newList []) (fun acc s₃ =>
      wpAny (model X.prog X.w) X.A (newFunctionEnv scope X.env.globals (clOf X.env.cells scope.names []) [] X.env.qual none .none (some X.env)) (fun cenv s₄ =>
        codeAny (model X.prog X.w) X.A (.compStart (.ListComp elt [⟨tg, iter, ifs, 0⟩] scope pos) 0 it acc { cenv with scope := relabel scope X.env }) (R acc cenv.locals) s₄) X.xe s₃) X.xe s₂) X.xe s₁) X.xe s := by
  refine thn (hi pins s σ H _ I h) fun v s1 h1 => thn h1 fun itv s2 h2 => ?_
  obtain ⟨it, fp, tn, J, H2, e, I2, T, st2, f2, q2⟩ := h2
  subst e
  have hDn : H2 s2.heap.objs.size = none := I2.hok.fresh (Nat.le_refl _)
  obtain ⟨n, W, hn, w0, step, fin⟩ := q2 _ hDn
  generalize hD : s2.heap.objs.size = D at *
  refine wpAny_newObj_type ?_
  rw [hD]
  have I3 : Inv X pins σ (upd H2 D (.lst [])) { s2 with heap := s2.heap.push { cls := .type "list", data := .seq ([] : List Value).toArray } } := by
    have := I2.lnew (ys := []) (its := []) (t' := s2.toks) .nil (Nat.zero_le _)
    rw [hD] at this
    exact this
  refine wpAny_newFunctionEnv S.cell (by intro y hy; simp at hy) (fun h4 hns4 sb4 => ?_) S.kind
  dsimp only at hns4 sb4 ⊢
  generalize hH3 : s2.heap.push { cls := .type "list", dict := none, data := .seq ([] : List Value).toArray } = h3 at hns4 sb4 I3 ⊢
  have hC : h3.objs.size = D + 1 := by rw [← hH3, Heap.size_push, hD]
  have old4 : ∀ b o, h3.get? b = some o → h4.get? b = some o := fun b o e => sb4.extBut b o (Nat.ne_of_lt (Heap.lt_size e)) (Heap.get?_push_of_some _ e)
  have old3 : ∀ b o, s2.heap.get? b = some o → h3.get? b = some o := fun b o e => by rw [← hH3]; exact Heap.get?_push_of_some _ e
  have fpo : ∀ b ∈ fp, ∃ o, s2.heap.get? b = some o := fun b hb => let ⟨o, e, _⟩ := T.obj _ _ st2 b hb; ⟨o, e⟩
  have fpD : ∀ b ∈ fp, b ≠ D := fun b hb z => by
    obtain ⟨o, e⟩ := fpo b hb
    have q := Heap.lt_size e
    rw [z, hD] at q
    exact Nat.lt_irrefl _ q
  have f3 : ∀ b ∈ fp, FpOk X pins (upd H2 D (.lst [])) b := fun b hb => ⟨by rw [upd_ne (fpD b hb)]; exact (f2 b hb).1, (f2 b hb).2⟩
  have IB := inv_blk (C := h3.objs.size) (h4 := h4) (tk := s2.toks + ([] : List (Str × Value)).length) (fp := fp) S I3 rfl hns4 old4 f3 fun b hb => let ⟨o, e⟩ := fpo b hb; ⟨o, old3 b o e⟩
  generalize hXb : blk X scope Nb (clOf X.env.cells scope.names []) h3.objs.size { s2 with heap := h3 } (upd H2 D (.lst [])) fp (X.pn ++ pins) = Xb at IB
  have gB := hg (clOf X.env.cells scope.names []) h3.objs.size { s2 with heap := h3 } (upd H2 D (.lst [])) fp (X.pn ++ pins)
  have cB := hc (clOf X.env.cells scope.names []) h3.objs.size { s2 with heap := h3 } (upd H2 D (.lst [])) fp (X.pn ++ pins)
  have eB := he (clOf X.env.cells scope.names []) h3.objs.size { s2 with heap := h3 } (upd H2 D (.lst [])) fp (X.pn ++ pins)
  rw [hXb] at gB cB eB
  have xP : Xb.prog = X.prog := by rw [← hXb]
  have xW : Xb.w = X.w := by rw [← hXb]
  have xK : Xb.K = X.K := by rw [← hXb]
  have xA : Xb.A = X.A := by rw [← hXb]
  have xC : Xb.calm = true := by rw [← hXb]; exact hcalm
  have xE : Xb.env = compEnvC scope (clOf X.env.cells scope.names []) h3.objs.size X.env := by rw [← hXb]
  have xX : Xb.xe = fun _ _ => False := by rw [← hXb]
  have stat : ∀ {H' : Hp}, (∀ b ∈ fp, H' b = none) → ∀ b ∈ fp, FpOk Xb [] H' b := fun hn b hb => by
    obtain ⟨g1, g2, g3, g4, g5, g6⟩ := f2 b hb
    obtain ⟨o, e⟩ := fpo b hb
    subst hXb
    refine ⟨hn b hb, fun z => ?_, fun z => (List.mem_cons.mp (I2.stkSub b z)).elim g2 g3, .inl hb, fun x c ec => g5 x c (clOf_sub (fun y c e => by simp at e) x c ec), fun p hp => g6 p (by simpa using hp)⟩
    have hlt := Heap.lt_size (old3 b o e)
    have z' : b = h3.objs.size := z
    rw [z'] at hlt
    exact Nat.lt_irrefl _ hlt
  -- the loop
  have loop : ∀ s5 : Shared, s5 = { s2 with heap := h4, toks := s2.toks + ([] : List (Str × Value)).length } →
      codeAny (model X.prog X.w) X.A (.compLoop (.ListComp elt [⟨tg, iter, ifs, 0⟩] scope pos) 0 (.ref it) (.ref D) (compEnvC scope (clOf X.env.cells scope.names []) h3.objs.size X.env))
        (R (.ref D) h3.objs.size) s5 := by
    rintro s5 rfl
    refine compLoop_by (fun k s' => ∃ i σ' ys H', Inv Xb [] σ' H' s' ∧ tn i s'.heap ∧ (∀ b ∈ fp, H' b = none) ∧ H' D = some (.lst ys) ∧ i ≤ n ∧ k = n - i ∧ ys.length ≤ i ∧ W i σ' ys H') ?_ n
      ⟨0, sigB nt fr σ, [], _, IB, T.keep _ _ _ st2 fun b hb o e => old4 b o (old3 b o e), fun b hb => (f3 b hb).1, upd_same, Nat.zero_le _, rfl, Nat.le_refl _, w0⟩
    rintro k s' ⟨i, σ', ys, H', I', st', fr', hD', hin, rfl, hyl, w'⟩
    rcases Nat.lt_or_ge i n with hlt | hge
    · obtain ⟨go, next⟩ := step i σ' ys H' hlt w' hD' hyl
      have ti := T.item Xb xP xW xK xC i [] s' σ' H' (fun _ _ => False) I' (stat fr') st' go
      rw [xA] at ti
      refine wpAny_mono ti (fun r s1 h1 => ?_) fun _ _ z => z.elim
      obtain ⟨u, rfl, h1⟩ := h1
      refine wpAny_mono h1 (fun _ s2' h2' => ?_) fun _ _ z => z.elim
      obtain ⟨x, H5, I5, r5, y5, st5, fr5⟩ := h2'
      have I5' := I5.pinned (stat fr5) (T.obj _ _ st5)
      have ga := gB _ s2' σ' H5 x u _ I5' r5 (next x H5 y5)
      rw [xP, xW, xA, xE, xX] at ga
      refine wpAny_mono ga (fun _ s3 h3' => ?_) fun _ _ z => z.elim
      obtain ⟨σ6, H6, I6, q6⟩ := h3'
      have ca := cB _ s3 σ6 H6 _ I6 q6
      rw [xP, xW, xA, xE, xX] at ca
      refine wpAny_mono ca (fun ok s4 h4' => ?_) fun _ _ z => z.elim
      obtain ⟨H7, I7, q7⟩ := h4'
      have back : ∀ {σ8 : St} {H8 : Hp} {s8 : Shared}, Inv Xb ([] ++ pinsAt fp s2'.heap) σ8 H8 s8 → Inv Xb [] σ8 H8 s8 ∧ tn (i + 1) s8.heap ∧ ∀ b ∈ fp, H8 b = none := fun {σ8 H8 s8} I8 => by
        refine ⟨I8.unpinned, T.keep _ _ _ st5 fun b hb o e => (I8.pin (b, o) (List.mem_append_right _ (List.mem_append_right _ (mem_pinsAt hb e)))).1, fun b hb => ?_⟩
        obtain ⟨o, e, d⟩ := T.obj _ _ st5 b hb
        exact (I8.pin (b, o) (List.mem_append_right _ (List.mem_append_right _ (mem_pinsAt hb e)))).2.1
      cases ok with
      | false =>
        rw [if_neg Bool.false_ne_true] at q7 ⊢
        obtain ⟨b1, b2, b3⟩ := back I7
        exact ⟨n - (i + 1), by omega, i + 1, σ6, ys, H7, b1, b2, b3, q7.1, hlt, rfl, by omega, q7.2⟩
      | true =>
        rw [if_pos rfl] at q7 ⊢
        have ea := eB _ s4 σ6 H7 _ I7 q7
        rw [xP, xW, xA, xE, xX] at ea
        refine wpAny_mono ea (fun y s5 h5 => ?_) fun _ _ z => z.elim
        obtain ⟨yv, H8, I8, r8, hD8, q8⟩ := h5
        have ma := mt_append (X := Xb) _ s5 σ6 H8 (.ref D) [yv] (.ref D) [y] (fun _ H9 => H9 = upd H8 D (.lst (ys ++ [yv]))) I8 rfl (.cons r8 .nil) ⟨D, ys, yv, rfl, rfl, hD8, by omega, rfl⟩
        rw [xP, xW, xA, xX] at ma
        refine wpAny_mono ma (fun _ s6 h6 => ?_) fun _ _ z => z.elim
        obtain ⟨_, H9, I9, _, rfl⟩ := h6
        obtain ⟨b1, b2, b3⟩ := back I9
        exact ⟨n - (i + 1), by omega, i + 1, σ6, ys ++ [yv], _, b1, b2, b3, upd_same, hlt, rfl, by rw [List.length_append, List.length_singleton]; omega, q8⟩
    · have hin' : i = n := Nat.le_antisymm hin hge
      subst hin'
      obtain ⟨stop, hq⟩ := fin σ' ys H' w' hD'
      have td := T.done Xb xP xW xK xC i [] s' σ' H' (fun _ _ => False) I' (stat fr') st' stop
      rw [xA] at td
      refine wpAny_mono td (fun r s1 h1 => ?_) fun _ _ z => z.elim
      obtain ⟨rfl, I6⟩ := h1
      obtain ⟨m, hm, _⟩ := id I6.loc
      rw [xE] at hm
      have frC : H' h3.objs.size = none := by have := I6.free; rw [xE] at this; exact this
      have u6 : Un (frs X.stack) fp (upd H2 D (.lst [])) H' h3 s1.heap := by have := I6.base; subst hXb; exact this
      have u2 : Un (frs X.stack) fp H2 (upd H2 D (.lst [])) s2.heap h3 := Un.laid (fun b o e => old3 b o e) (by rw [hD]; exact Nat.le_refl _) hDn
      have hos : s1.os = s2.os := by have := I6.os; subst hXb; exact this
      have hok : HOk X.prog X.w H' s1.heap := by
        have := I6.hok
        subst hXb; exact this
      refine hR D h3.objs.size H' s1 m (I2.call' (s' := s1) (ch := fp) hos (u2.trans u6) hok I6.bare fun b hb => ?_) hm (I2.fpOk (by omega) frC) hq
      obtain ⟨g1, g2, g3, g4, g5, g6⟩ := f2 b hb
      exact ⟨g4, g2, g5, g6⟩
  exact codeAny_compStart_list (loop _ rfl) (T.self _ 0 _ _ _ (T.keep _ _ _ st2 fun b hb o e => old4 b o (old3 b o e)) (loop _ rfl))

theorem pe_lc {tg iter elt : Expr} {ifs : List Expr} {wi : TI} {g : TG} {tc : TT} {te : TE} {pos : Pos} (S : LcS X scope Nb nt fr) (hcalm : X.calm = true) (hi : PI X tg iter wi)
    (hg : ∀ cl C s₀ H₀ fp pn, PG (blk X scope Nb cl C s₀ H₀ fp pn) tg g) (hc : ∀ cl C s₀ H₀ fp pn, PIfs (blk X scope Nb cl C s₀ H₀ fp pn) ifs tc) (he : ∀ cl C s₀ H₀ fp pn, PE (blk X scope Nb cl C s₀ H₀ fp pn) elt te)
    (hs : ∀ x, foldedSetIterable iter X.env x = pure x := by intro _; rfl) : PE X (.ListComp elt [⟨tg, iter, ifs, 0⟩] scope pos) (tLC nt fr wi g tc te) := by
  intro pins s σ H Q I h
  have hclos : closureFor scope X.env = pure (clOf X.env.cells scope.names []) := closure_ok fun y hy => I.ok.has y (.inl (S.free _ hy rfl))
  rw [eval_ListComp]
  refine wpAny_comprehension_free (use := none) rfl hs hclos S.kind S.names ?_
  refine lc_core (R := fun acc C => compPost (model X.prog X.w) X.A X.xe none (EP X pins σ Q) acc C) S hcalm hi hg hc he I h fun D C H' s1 m I1 hm fc q => ?_
  obtain ⟨f0, f1, f2, f3, f4, f5⟩ := fc
  exact ⟨m, hm, fun h' hs' => ⟨.ref D, H', I1.turned (t' := s1.toks) (it := C) (fun b o hb e => (hs'.2 b hb).trans e) f0 f1 f3 f4 f5, rfl, q⟩⟩
/-- name = [.. for ..]: the store comes ahead of the block's end -/
theorem ps_setLC {i : Nat} {y : Str} {tg iter elt : Expr} {ifs : List Expr} {wi : TI} {g : TG} {tc : TT} {te : TE} {pos spos py : Pos} (hN : X.N.Nodup) (hi' : X.N[i]? = some y) (hy : Loc X.env.scope y) (S : LcS X scope Nb nt fr) (hcalm : X.calm = true) (hi : PI X tg iter wi)
    (hg : ∀ cl C s₀ H₀ fp pn, PG (blk X scope Nb cl C s₀ H₀ fp pn) tg g) (hc : ∀ cl C s₀ H₀ fp pn, PIfs (blk X scope Nb cl C s₀ H₀ fp pn) ifs tc) (he : ∀ cl C s₀ H₀ fp pn, PE (blk X scope Nb cl C s₀ H₀ fp pn) elt te)
    (hs : ∀ x, foldedSetIterable iter X.env x = pure x := by intro _; rfl) (hsw : swapsWith (.ListComp elt [⟨tg, iter, ifs, 0⟩] scope pos) (some (.Name y py)) spos.line X.env = pure true := by rfl)
    (hf : X.fn y = true ∨ X.env.scope.names.lookup y = some .local := by first | exact .inl rfl | exact .inr rfl | assumption) :
    PS X (.Assign [.Name y py] (.ListComp elt [⟨tg, iter, ifs, 0⟩] scope pos) spos) (tAsg (tLC nt fr wi g tc te) (gName i)) := by
  intro pins s σ H D I h
  have hclos : closureFor scope X.env = pure (clOf X.env.cells scope.names []) := closure_ok fun y hy => I.ok.has y (.inl (S.free _ hy rfl))
  rw [exec_Assign_Name_used _ _ _ _ hsw]
  refine wpAny_bind (wpAny_standAt (wpAny_bind ?_))
  show wpAny _ X.A (do let _ ← comprehension (.ListComp elt [⟨tg, iter, ifs, 0⟩] scope pos) scope X.env _ (newList []) false (eval iter X.env) (some (assign (.Name y py) X.env))) _ _ s
  refine wpAny_bind (wpAny_mono (wpAny_comprehension_free (use := some (assign (.Name y py) X.env)) (Q := fun _ s' => SP X pins D .next s') rfl hs hclos S.kind S.names ?_) (fun _ s' hq => wpAny_pure (wpAny_pure hq)) fun _ _ e => e)
  refine lc_core (R := fun acc C => compPost (model X.prog X.w) X.A X.xe (some (assign (.Name y py) X.env)) (fun _ s' => SP X pins D .next s') acc C) S hcalm hi hg hc he I h fun A C H' s1 m I1 hm fc q => ?_
  obtain ⟨f0, f1, f2, f3, f4, f5⟩ := fc
  show wpAny _ X.A (assign (.Name y py) X.env (.ref A)) _ _ s1
  refine wpAny_assign_Name (store_ok2 (v := .ref A) I1 hN hi' hy (show RelV (.ref A) (.ref A) from rfl) (fun s' I' ⟨a, sb, ha⟩ => ?_) hf)
  have hCa : C ≠ a := by
    rcases ha with rfl | ha
    · exact f1
    · exact fun z => f4 y a ha z.symm
  refine ⟨m, hm.sameBut sb hCa, fun h' hs' => ⟨_, H', I'.turned (t' := s'.toks) (it := C) (fun b o hb e => (hs'.2 b hb).trans e) f0 f1 f3 f4 f5, q⟩⟩
end
end L2

namespace L2
open PySem PySem.Spec PyProof.Rows
/-- a block with one name of its own, that reads none of the def's -/
theorem lcs0 {X : Cx} {sc : Scope} {x : Str} (hk : sc.kind = .function := by rfl) (hc : ∀ y ∈ sc.names, y.2 ≠ .cell := by decide +kernel) (hn : ∀ y ∈ sc.names, y.2 = .local → sc.names.lookup y.1 = some .local := by decide +kernel)
    (hf : ∀ y ∈ sc.names, y.2 ≠ .free := by decide +kernel) : LcS X sc [x] 1 [] := ⟨hk, hc, hn, fun y hy e => absurd e (hf y hy), rfl, fun k j x h => by simp at h⟩
/-- a block that reads names of the def (fsc its scope, Nf its names) -/
theorem lcsN {X : Cx} {sc : Scope} {Nb : List Str} {nt : Nat} {fr : List Nat} (fsc : Scope) (Nf : List Str) (hX : X.env.scope = fsc := by rfl) (hN : X.N = Nf := by rfl) (hk : sc.kind = .function := by rfl) (hc : ∀ y ∈ sc.names, y.2 ≠ .cell := by decide +kernel)
    (hn : ∀ y ∈ sc.names, y.2 = .local → sc.names.lookup y.1 = some .local := by decide +kernel) (hf : ∀ y ∈ sc.names, y.2 = .free → fsc.names.lookup y.1 = some .cell := by decide +kernel) (hl : Nb.length = nt + fr.length := by rfl)
    (hz : ((fr.zip (Nb.drop nt)).all fun p => decide (Nf[p.1]? = some p.2) && decide (sc.names.lookup p.2 = some .free)) = true := by decide +kernel) : LcS X sc Nb nt fr := by
  subst hX hN
  refine ⟨hk, hc, hn, hf, hl, fun k j x h1 h2 => ?_⟩
  have hm : (fr.zip (Nb.drop nt))[k]? = some (j, x) := by
    rw [List.getElem?_zip_eq_some]
    exact ⟨h1, by rw [List.getElem?_drop]; exact h2⟩
  have q := List.all_eq_true.mp hz _ (List.mem_of_getElem? hm)
  rw [Bool.and_eq_true] at q
  exact ⟨of_decide_eq_true q.1, of_decide_eq_true q.2⟩
/-- a comprehension over a text, its element a plain value of the sign -/
theorem lc_str {z : Str} {D : Addr} {H1 : Hp} {te : TE} {tl : St} {Q : VK} (f : Nat → V) (hz : z.length ≤ sizeLine) (hD : H1 D = none)
    (hte : ∀ (i c : Nat) H (R : VK), z.cps[i]? = some c → Same H1 H → R (f c) H → te (some (.str ⟨#[c]⟩) :: tl) H R)
    (hQ : ∀ H', Same H1 H' → H' D = some (.lst (z.cps.toList.map f)) → Q (.ref D) H') : lcGo D (Its z) (gName 0) tYes te (none :: tl) H1 Q := by
  refine ⟨z.cps.size, fun i σ ys H => (∃ w, σ = w :: tl) ∧ ys = (z.cps.toList.take i).map f ∧ Same H1 H, hz, ⟨⟨none, rfl⟩, rfl, same_new hD _⟩, ?_, ?_⟩
  · rintro i σ ys H hi ⟨⟨w, rfl⟩, rfl, sm⟩ hl hy
    refine ⟨hi, ?_⟩
    rintro x H' ⟨rfl, c, hc, rfl⟩
    dsimp only [gName, tYes, List.set]
    rw [if_pos rfl]
    refine hte i c H' _ hc sm ⟨hl, ⟨some (.str ⟨#[c]⟩), rfl⟩, ?_, ?_⟩
    · rw [List.take_add_one, show z.cps.toList[i]? = some c by simpa using hc]
      simp
    · intro b o e
      rw [upd_ne (ne_of_none e hD)]
      exact sm b o e
  · rintro σ ys H ⟨_, rfl, sm⟩ hl
    refine ⟨rfl, hQ H sm ?_⟩
    rw [hl, List.take_of_length_le (by simp)]
end L2

namespace L2
open PySem PySem.Spec PyProof.Rows
mutual
def Is (H : Hp) : D → V → Prop
  | .non, v => v = .non
  | .bl b, v => v = .bl b
  | .int i, v => v = .int i
  | .str z, v => v = .str z ∧ z.length ≤ sizeLine
  | .lst, v => ∃ a xs, v = .ref a ∧ H a = some (.lst xs)
  | .dct, v => ∃ a kvs, v = .ref a ∧ H a = some (.dK kvs)
  | .tup xs, v => ∃ a vs, v = .ref a ∧ H a = some (.tup vs) ∧ IsL H xs vs
def IsL (H : Hp) : List D → List V → Prop
  | [], vs => vs = []
  | x :: xs, vs => ∃ v r, vs = v :: r ∧ Is H x v ∧ IsL H xs r
end
/-- all tuples as they were; lists stay lists, dicts dicts -/
structure Tk (H H' : Hp) : Prop where
  tup : ∀ b xs, H b = some (.tup xs) → H' b = some (.tup xs)
  lst : ∀ b xs, H b = some (.lst xs) → ∃ ys, H' b = some (.lst ys)
  dct : ∀ b xs, H b = some (.dK xs) → ∃ ys, H' b = some (.dK ys)
theorem Same.tk {H H' : Hp} (s : Same H H') : Tk H H' := ⟨fun b xs e => s b _ e, fun b xs e => ⟨xs, s b _ e⟩, fun b xs e => ⟨xs, s b _ e⟩⟩
theorem Tk.trans {H H1 H2 : Hp} (a : Tk H H1) (b : Tk H1 H2) : Tk H H2 := ⟨fun c xs e => b.tup c xs (a.tup c xs e), fun c xs e => let ⟨ys, e1⟩ := a.lst c xs e; b.lst c ys e1, fun c xs e => let ⟨ys, e1⟩ := a.dct c xs e; b.dct c ys e1⟩
/-- p is a list ahead and behind -/
theorem Kept.tk {p : Addr} {H H' : Hp} {xs ys : List V} (k : Kept p H H') (h : H p = some (.lst xs)) (h' : H' p = some (.lst ys)) : Tk H H' := by
  refine ⟨fun b zs e => k b _ e fun z => ?_, fun b zs e => ?_, fun b zs e => ⟨zs, k b _ e fun z => ?_⟩⟩
  · rw [z, h] at e; cases e
  · by_cases z : b = p
    · exact ⟨ys, z ▸ h'⟩
    · exact ⟨zs, k b _ e z⟩
  · rw [z, h] at e; cases e
mutual
theorem Is.mono {H H' : Hp} (t : Tk H H') : ∀ {d : D} {v : V}, Is H d v → Is H' d v
  | .non, _, h => h
  | .bl _, _, h => h
  | .int _, _, h => h
  | .str _, _, h => h
  | .lst, _, h => by
    obtain ⟨a, vs, e, ha⟩ := h
    obtain ⟨ys, q⟩ := t.lst a vs ha
    exact ⟨a, ys, e, q⟩
  | .dct, _, h => by
    obtain ⟨a, vs, e, ha⟩ := h
    obtain ⟨ys, q⟩ := t.dct a vs ha
    exact ⟨a, ys, e, q⟩
  | .tup xs, _, h => by
    obtain ⟨a, vs, e, ha, hl⟩ := h
    exact ⟨a, vs, e, t.tup a vs ha, IsL.mono t hl⟩
theorem IsL.mono {H H' : Hp} (t : Tk H H') : ∀ {ds : List D} {vs : List V}, IsL H ds vs → IsL H' ds vs
  | [], _, h => h
  | _ :: _, _, h => by
    obtain ⟨v, r, e, h1, h2⟩ := h
    exact ⟨v, r, e, Is.mono t h1, IsL.mono t h2⟩
end
theorem IsL.length {H : Hp} : ∀ {ds : List D} {vs : List V}, IsL H ds vs → vs.length = ds.length
  | [], _, h => by cases (show _ = [] from h); rfl
  | _ :: _, _, h => by
    obtain ⟨v, r, rfl, _, h2⟩ := h
    rw [List.length_cons, List.length_cons, IsL.length h2]
theorem IsL.get {H : Hp} : ∀ {ds : List D} {vs : List V} {i : Nat} {d : D}, IsL H ds vs → ds[i]? = some d → ∃ v, vs[i]? = some v ∧ Is H d v
  | [], _, _, _, _, e => by simp at e
  | x :: _, _, 0, d, h, e => by
    obtain ⟨v, r, rfl, h1, _⟩ := h
    have : x = d := by simpa using e
    exact ⟨v, rfl, this ▸ h1⟩
  | _ :: _, _, i + 1, d, h, e => by
    obtain ⟨v, r, rfl, _, h2⟩ := h
    obtain ⟨u, e1, e2⟩ := IsL.get (i := i) (d := d) h2 (by simpa using e)
    exact ⟨u, by simpa using e1, e2⟩
theorem IsL.append {H : Hp} : ∀ {ds es : List D} {vs us : List V}, IsL H ds vs → IsL H es us → IsL H (ds ++ es) (vs ++ us)
  | [], _, _, _, h, k => by cases (show _ = [] from h); exact k
  | _ :: _, _, _, _, h, k => by
    obtain ⟨v, r, rfl, h1, h2⟩ := h
    exact ⟨v, _, rfl, h1, IsL.append h2 k⟩
theorem IsL.one {H : Hp} {d : D} {v : V} (h : Is H d v) : IsL H [d] [v] := ⟨v, [], rfl, h, rfl⟩
/-- a new tuple of such -/
theorem Is.new {H : Hp} {ds : List D} {vs : List V} {p : Addr} (h : IsL H ds vs) (hp : H p = none) : Is (upd H p (.tup vs)) (.tup ds) (.ref p) :=
  ⟨p, vs, rfl, upd_same, h.mono (same_new hp _).tk⟩
/-- the type of such a value -/
def tyD : D → Value
  | .non => .type "NoneType"
  | .bl _ => .type "bool"
  | .int _ => .type "int"
  | .str _ => .type "str"
  | .lst => .type "list"
  | .dct => .type "dict"
  | .tup _ => .type "tuple"
theorem Is.ty {K : PySem.W.Frag} {H : Hp} {d : D} {v : V} (h : Is H d v) : TyOf K H v (tyD d) := by
  cases d with
  | non => cases (show v = .non from h); exact .non
  | bl b => cases (show v = .bl b from h); exact .bl b
  | int i => cases (show v = .int i from h); exact .int i
  | str z =>
    obtain ⟨rfl, _⟩ := h
    exact .str z
  | lst =>
    obtain ⟨a, vs, rfl, ha⟩ := h
    exact .lst ha
  | dct =>
    obtain ⟨a, vs, rfl, ha⟩ := h
    exact .dK ha
  | tup xs =>
    obtain ⟨a, vs, rfl, ha, _⟩ := h
    exact .tup ha
end L2

namespace PySem.AwM
open PySem.AutoSeq1 PySem.MeetsSeq PySem.MeetsSeq3
end PySem.AwM
namespace PySem.AwM
open PySem
/-! max(xs, default=d) of a list of ints -/
def bestOf (val : Nat → Int) : Nat → Int
  | 0 => val 0
  | k + 1 => if val (k + 1) > bestOf val k then val (k + 1) else bestOf val k
section
variable {pg : Program} {wd : World} {ar : Around} {RR : Result → Shared → Prop} {it : Addr} {fs ws : List Addr} {n : Nat} {PP : Nat → Value → Prop} {SS : Nat → Heap → Prop}
theorem maxD_loop (W : Walks pg wd ar.in1 it fs ws n PP SS) (val : Nat → Int) (hv : ∀ i v, PP i v → ∃ t, v = .int (val i) t) (L : Addr) (hL : L ∉ fs) (kw : List (Str × Value)) (r : Nat) :
    ∀ (j : Nat) (t : Shared) (tb : Tok) (c : Nat), n - (j + 1) = r → j + 1 ≤ n → SS (j + 1) t.heap → t.heap.get? L = some { cls := .type "list", dict := none, data := .seq #[.int (bestOf val j) tb, .int (bestOf val j) tb] c, slots := #[] } →
    (∀ h' tk tb', (∀ b o, b ∉ ws → b ≠ L → t.heap.get? b = some o → h'.get? b = some o) → RR (.ok (.ret (.int (bestOf val (n - 1)) tb'))) { t with heap := h', toks := tk }) → codeAny (model pg wd) ar (.builtin "max.loop" ⟨[.ref it, .none, .ref L], kw⟩) RR t := by
  have hw : L ∉ ws := fun z => hL (W.sub _ z)
  have hnm : (toString "max" ++ toString ".loop" : String) = "max.loop" := by decide
  induction r with
  | zero =>
    intro j t tb c hr hj hs hl hR
    have hjn : n = j + 1 := by omega
    subst hjn
    refine codeAny_builtin F.entry_max_loop ?_; rw [Around.under_plainId F.plain_max_loop _]
    refine wpAny_bind (m := seqItems? (.ref L)) (wpAny_seqItems hl rfl ?_)
    refine wpAny_bind (m := tryCatch (pyNext (.ref it)) _) (wpAny_tryCatch (W.done t _ _ hs fun h' tk kk => ?_))
    have hl' := kk L _ hw hl
    refine wpAny_bind (m := updateSeq L fun _ => #[]) (wpAny_updateSeq hl' rfl (wpAny_bind (wpAny_letGo (wpAny_pure ?_))))
    exact hR _ tk tb fun b o hb hbl e => (Heap.get?_update_other _ _ fun z => hbl z.symm).trans (kk b o hb e)
  | succ r ih =>
    intro j t tb c hr hj hs hl hR
    have hjn : j + 1 < n := by omega
    refine codeAny_builtin F.entry_max_loop ?_; rw [Around.under_plainId F.plain_max_loop _]
    refine wpAny_bind (m := seqItems? (.ref L)) (wpAny_seqItems hl rfl ?_)
    refine wpAny_bind (m := tryCatch (pyNext (.ref it)) _) (wpAny_tryCatch (W.item (j + 1) t _ _ hjn hs fun v h' tk hP hs' kk => ?_))
    obtain ⟨tv, rfl⟩ := hv _ _ hP
    have hl' := kk L _ hw hl
    show wpAny _ ar.in1 (tryCatch (holding [.int (val (j + 1)) tv, .int (val (j + 1)) tv] (richCompare .Gt (.int (val (j + 1)) tv) (.int (bestOf val j) tb) >>= _)) _ >>= _) _ _ _
    have cmp := CmpOf.ints_gt (prog := pg) (w := wd) (A := ar.in1) (P := fun i v => v = .int (if i = 0 then val (j + 1) else bestOf val j) (if i = 0 then tv else tb)) (fun i => if i = 0 then val (j + 1) else bestOf val j) fun i v e => ⟨_, e⟩
    refine wpAny_bind (wpAny_tryCatch (wpAny_holding (wpAny_bind (cmp 0 1 _ _ _ _ _ rfl rfl (wpAny_bind (wpAny_holding (wpAny_truthy_bool (wpAny_bind (wpAny_letGo (wpAny_pure ?_))))))))))
    show wpAny _ ar.in1 (if decide (val (j + 1) > bestOf val j) = true then _ else _) _ _ _
    by_cases hg : val (j + 1) > bestOf val j
    · have eb : bestOf val (j + 1) = val (j + 1) := by unfold bestOf; rw [if_pos hg]
      rw [decide_eq_true hg]
      simp only [if_true]
      refine wpAny_bind (wpAny_updateSeq hl' rfl (wpAny_bind (wpAny_letGo ?_)))
      rw [hnm]
      refine wpAny_pure ⟨plainId_quiet F.plain_max_loop _, ih (j + 1) _ tv _ (by omega) hjn (W.frame _ _ _ hs' fun b hbf o e => ?_) (by rw [eb]; exact Heap.get?_update_self _ hl' rfl) fun h2 tk2 tb2 k2 => ?_⟩
      · exact (Heap.get?_update_other _ _ fun z => hL (by rw [z]; exact hbf)).trans e
      · exact hR h2 tk2 tb2 fun b o hbw hbl e => k2 b o hbw hbl ((Heap.get?_update_other _ _ fun z => hbl z.symm).trans (kk b o hbw e))
    · have eb : bestOf val (j + 1) = bestOf val j := by rw [bestOf, if_neg hg]
      rw [decide_eq_false hg]
      simp only [Bool.false_eq_true, if_false]
      refine wpAny_bind (wpAny_letGo ?_)
      rw [hnm]
      refine wpAny_pure ⟨plainId_quiet F.plain_max_loop _, ih (j + 1) _ tb c (by omega) hjn hs' (by rw [eb]; exact hl') fun h2 tk2 tb2 k2 => hR h2 tk2 tb2 fun b o hbw hbl e => k2 b o hbw hbl (kk b o hbw e)⟩
theorem maxD_first (W : Walks pg wd ar.in1 it fs ws n PP SS) (val : Nat → Int) (hv : ∀ i v, PP i v → ∃ t, v = .int (val i) t) (L : Addr) (hL : L ∉ fs) (dv : Value) {t : Shared} {c : Nat} (hs : SS 0 t.heap)
    (hl : t.heap.get? L = some { cls := .type "list", dict := none, data := .seq #[] c, slots := #[] })
    (hR0 : n = 0 → ∀ h' tk, (∀ b o, b ∉ ws → b ≠ L → t.heap.get? b = some o → h'.get? b = some o) → RR (.ok (.ret dv)) { t with heap := h', toks := tk })
    (hR : 0 < n → ∀ h' tk tb', (∀ b o, b ∉ ws → b ≠ L → t.heap.get? b = some o → h'.get? b = some o) → RR (.ok (.ret (.int (bestOf val (n - 1)) tb'))) { t with heap := h', toks := tk }) :
    codeAny (model pg wd) ar (.builtin "max.loop" ⟨[.ref it, .none, .ref L], [("default", dv)]⟩) RR t := by
  have hw : L ∉ ws := fun z => hL (W.sub _ z)
  have hnm : (toString "max" ++ toString ".loop" : String) = "max.loop" := by decide
  refine codeAny_builtin F.entry_max_loop ?_; rw [Around.under_plainId F.plain_max_loop _]
  refine wpAny_bind (m := seqItems? (.ref L)) (wpAny_seqItems hl rfl ?_)
  by_cases h0 : n = 0
  · subst h0
    refine wpAny_bind (m := tryCatch (pyNext (.ref it)) _) (wpAny_tryCatch (W.done t _ _ hs fun h' tk kk => ?_))
    exact wpAny_bind (wpAny_rule (wpAny_pure (hR0 rfl h' tk fun b o hb _ e => kk b o hb e)))
  · have hn : 0 < n := by omega
    refine wpAny_bind (m := tryCatch (pyNext (.ref it)) _) (wpAny_tryCatch (W.item 0 t _ _ hn hs fun v h' tk hP hs' kk => ?_))
    obtain ⟨tv, rfl⟩ := hv _ _ hP
    have hl' := kk L _ hw hl
    refine wpAny_bind (m := updateSeq L fun _ => #[.int (val 0) tv, .int (val 0) tv]) (wpAny_updateSeq hl' rfl ?_)
    rw [hnm]
    refine wpAny_pure ⟨plainId_quiet F.plain_max_loop _, maxD_loop W val hv L hL _ _ 0 _ tv _ rfl hn (W.frame _ _ _ hs' fun b hbf o e => ?_) (Heap.get?_update_self _ hl' rfl) fun h2 tk2 tb2 k2 => ?_⟩
    · exact (Heap.get?_update_other _ _ fun z => hL (by rw [z]; exact hbf)).trans e
    · exact hR hn h2 tk2 tb2 fun b o hbw hbl e => k2 b o hbw hbl ((Heap.get?_update_other _ _ fun z => hbl z.symm).trans (kk b o hbw e))
end
end PySem.AwM
namespace PySem.AwM
open PyProof.Rows
theorem args_maxD (a d : Value) : argsOk "max" ⟨[a], [("default", d)]⟩ := by unfold argsOk; kernel_rfl
/-- a built-in function with keywords that goes on by a loop of its own -/
theorem fn_tree_kw {pg : Program} {wd : World} {ar : Around} {EE : Value → Shared → Prop} {t : Shared} {nm : String} {bb : Builtin} {xs : List Value} {kw : List (Str × Value)} {QQ : Value → Shared → Prop} (h1 : builtinKind nm = none) (h2 : plainId nm = true)
    (h3 : entryFor table nm = some bb) (h4 : argsOk nm ⟨xs, kw⟩)
    (h5 : wpAny (model pg wd) ar.in1 (bb ⟨xs, kw⟩) (fun fin t' => match fin with
      | .done f => (match (Except.ok f : Result) with | .ok (.ret v) => QQ v t' | .ok _ => False | .error e => EE e t')
      | .again c => c.quiet = true ∧ codeAny (model pg wd) ar c (fun r t2 => match r with | .ok (.ret v) => QQ v t2 | .ok _ => False | .error e => EE e t2) t') EE t) :
    wpAny (model pg wd) ar (call (.builtin nm) xs kw) QQ EE t := by
  refine wpAny_call (codeAny_call_builtin h2 h3 ?_)
  simp only [checkBuiltinCall, h1]
  cases hs : Manifest.signature? nm with
  | none => exact wpAny_pure h5
  | some sg =>
    have q : Bind.checkArgs nm sg ⟨xs, kw⟩ = pure () := by simpa only [argsOk, hs] using h4
    simp only [q]
    exact wpAny_pure h5
theorem ints_len {vs : List Value} {ns : List Int} (h : IntsAre vs ns) : vs.length = ns.length := by
  induction h with
  | nil => rfl
  | cons a b hr ih => simp [ih]
theorem ints_get {vs : List Value} {ns : List Int} (h : IntsAre vs ns) : ∀ {i : Nat} {v : Value}, vs[i]? = some v → ∃ t, v = .int (ns.getD i 0) t := by
  induction h with
  | nil => intro i v e; simp at e
  | cons a b hr ih =>
    intro i v e
    cases i with
    | zero => simp at e; subst e; exact ⟨_, rfl⟩
    | succ i =>
      obtain ⟨t, q⟩ := ih (i := i) (v := v) (by simpa using e)
      exact ⟨t, by simpa using q⟩
theorem call_maxD {pg : Program} {wd : World} {ar : Around} {EE : Value → Shared → Prop} {t : Shared} {l : Addr} {vs : List Value} {ns : List Int} {dv : Value} {QQ : Value → Shared → Prop} (hh : ar.handled = none) (hl : t.heap.IsList l vs.toArray) (hi : IntsAre vs ns)
    (hQ0 : ns = [] → ∀ h' tk, (∀ b o, t.heap.get? b = some o → h'.get? b = some o) → QQ dv { t with heap := h', toks := tk })
    (hQ : ns ≠ [] → ∀ h' tk tb, (∀ b o, t.heap.get? b = some o → h'.get? b = some o) → QQ (.int (bestOf (fun i => ns.getD i 0) (ns.length - 1)) tb) { t with heap := h', toks := tk }) :
    wpAny (model pg wd) ar (call (.builtin "max") [.ref l] [("default", dv)]) QQ EE t := by
  have hnm : (toString "max" ++ toString ".loop" : String) = "max.loop" := by decide
  refine fn_tree_kw F.kind_max F.plain_max F.entry_max (args_maxD _ _) ?_
  show wpAny _ ar.in1 (Builtin.Builtins.bindParams "max" ["key", "default"] 0 ⟨[], [("default", dv)]⟩ >>= _) _ _ t
  refine wpAny_bind (wpAny_of_eq (show Builtin.Builtins.bindParams "max" ["key", "default"] 0 ⟨[], [("default", dv)]⟩ = pure [none, some dv] from rfl) ?_)
  refine wpAny_bind (wpAny_pure ?_)
  have hlt : l < t.heap.objs.size := by obtain ⟨_, e, _⟩ := hl; exact Heap.lt_size e
  refine wpAny_bind (wpAny_pyIter_list hl ?_)
  refine wpAny_bind (wpAny_newObj_type ?_)
  rw [hnm]
  have hsz : vs.toArray.size = ns.length := by rw [List.size_toArray]; exact ints_len hi
  have W := Walks.list (prog := pg) (w := wd) (A := ar.in1) hh t.heap.objs.size l (Nat.ne_of_lt hlt) vs.toArray
  have hnew : ∀ b o, t.heap.get? b = some o → ((t.heap.push { cls := .type "list_iterator", data := .fields #[.ref l, .int 0 0] }).push { cls := .type "list", data := .seq ([] : List Value).toArray }).get? b = some o := fun b o e => Heap.get?_push_of_some _ (Heap.get?_push_of_some _ e)
  have hne : (t.heap.push { cls := .type "list_iterator", data := .fields #[.ref l, .int 0 0] }).objs.size ∉ [t.heap.objs.size, l] := by
    rw [Heap.size_push]
    intro hm
    rcases List.mem_cons.mp hm with e | hm
    · exact absurd (show t.heap.objs.size + 1 = t.heap.objs.size from e) (by omega)
    · exact absurd (show t.heap.objs.size + 1 = (l : Nat) from List.mem_singleton.mp hm) (fun z => absurd hlt (Nat.not_lt.mpr (by rw [← z]; exact Nat.le_succ _)))
  have kept : ∀ h' : Heap, (∀ b o, b ∉ [t.heap.objs.size] → b ≠ (t.heap.push { cls := .type "list_iterator", data := .fields #[.ref l, .int 0 0] }).objs.size → ((t.heap.push { cls := .type "list_iterator", data := .fields #[.ref l, .int 0 0] }).push { cls := .type "list", data := .seq ([] : List Value).toArray }).get? b = some o → h'.get? b = some o) → ∀ b o, t.heap.get? b = some o → h'.get? b = some o := fun h' k b o e => by
    have hb := Heap.lt_size e
    refine k b o (fun hm => ?_) ?_ (hnew b o e)
    · exact absurd (List.mem_singleton.mp hm) (Nat.ne_of_lt hb)
    · rw [Heap.size_push]; exact Nat.ne_of_lt (Nat.lt_succ_of_lt hb)
  refine wpAny_pure ⟨plainId_quiet F.plain_max_loop _, maxD_first W (fun i => ns.getD i 0) (fun i v e => ints_get hi (by simpa using e)) _ hne dv ⟨⟨_, Heap.get?_push_of_some _ (Heap.get?_push_size _ rfl), rfl, rfl⟩, (hl.push _).push _⟩ (Heap.get?_push_size _ rfl) (fun h0 h' tk k => ?_) fun h0 h' tk tb k => ?_⟩
  · exact hQ0 (List.eq_nil_of_length_eq_zero (by rw [← hsz]; exact h0)) h' tk (kept h' k)
  · rw [hsz]
    exact hQ (fun z => by rw [z] at hsz; rw [hsz] at h0; exact Nat.lt_irrefl _ h0) h' tk tb (kept h' k)
end PySem.AwM

namespace L2
open PySem PySem.Spec PyProof.Rows
section
variable {X : Cx}
theorem op_gt_str : OpR X (compareOp .Gt) (fun x y H Q => ∃ i j, x = .str i ∧ y = .str j ∧ Q (.bl (decide (j.cps.toList < i.cps.toList))) H) := by
  intro pins s σ H x y v u Q I rx ry h
  obtain ⟨i, j, rfl, rfl, q⟩ := h
  obtain ⟨t, rfl⟩ := rx
  obtain ⟨t', rfl⟩ := ry
  exact PySem.P.gt_str (fin_bl I q rfl)
/-- sum of a list of ints -/
theorem call_sumL (hc : X.calm = true) : CallR X (.builtin "sum") (fun xs H Q => ∃ (p : Addr) (ns : List Int), xs = [.ref p] ∧ SqL X.K H p (ns.map V.int) ∧ Q (.int ns.sum) H) := by
  intro pins s σ H xs us Q I r h
  obtain ⟨p, ns, rfl, hp, q⟩ := h
  obtain ⟨u, rfl, ru⟩ := vals1 r
  cases ru
  obtain ⟨its, rv, pl, hz⟩ := I.list hp
  have hi : IntsAre its ns := intsAre_of rv
  obtain ⟨ys, hy⟩ := hi.allInts.items
  have hl' : s.heap.IsList p (intItems ys) := hy ▸ pl.isList
  refine wpAny_with_toks (n := 1) I.tk (sum_intListG (I.ok.hd hc) hl' fun h' tk t' hk => ?_)
  intro htk
  have e1 : ns = ys.toList.map (·.1) := by
    have q1 := hi.numsOf
    rw [← nums_intItems, ← hy]
    exact (show numsOf its.toArray.toList = ns from q1).symm
  have e2 : preSum (numAt ys) ys.size = ns.sum := by
    rw [preSum_eq, List.take_of_length_le (by simp), e1]
  rw [e2]
  exact ⟨.int ns.sum, H, I.kept hk, ⟨t', rfl⟩, q⟩
/-- max(xs, default=d) of a list of ints -/
def maxOr (d : Int) (ns : List Int) : Int := if ns = [] then d else AwM.bestOf (fun i => ns.getD i 0) (ns.length - 1)
def tMaxD (K : PySem.W.Frag) (te td : TE) : TE := fun σ H Q => te σ H fun x H1 => td σ H1 fun y H2 => ∃ (p : Addr) (ns : List Int) (d : Int), x = .ref p ∧ y = .int d ∧ SqL K H2 p (ns.map V.int) ∧ Q (.int (maxOr d ns)) H2
theorem pe_maxD {e de : Expr} {te td : TE} {p pos kp : Pos} (hc : X.calm = true) (hg : Gl X "max") (hm : X.mg "max" = none) (he : PE X e te) (hd : PE X de td)
    (hs : starEach [e] X.env = [(false, eval e X.env)] := by rfl) : PE X (.Call (.Name "max" p) [e] [⟨some "default", de, kp⟩] pos) (tMaxD X.K te td) := by
  intro pins s σ H Q I h
  refine wpAny_Call_Name_kw (ld_blt I hg hm boot_max ?_)
  have ha : PA X [e] (tCons te tNil) := pa_cons he pa_nil hs
  have hk : PK X [⟨some "default", de, kp⟩] (tCons td tNil) := pk_cons hd pk_nil
  refine callWith_kw (thn (ha pos pins s σ H (fun vs H1 => match vs with | [x] => td σ H1 fun y H2 => ∃ (p : Addr) (ns : List Int) (d : Int), x = .ref p ∧ y = .int d ∧ SqL X.K H2 p (ns.map V.int) ∧ Q (.int (maxOr d ns)) H2 | _ => False) I h) fun us s1 ⟨vs, H1, I1, r1, q1⟩ => ?_)
    (by show backTo pos (starEach [e] X.env) = _; rw [hs]; rfl) (by show (backTo pos (starEach [e] X.env)).any (·.1) = false; rw [hs]; rfl)
  match vs, r1, q1 with
  | [x], r1, q1 =>
    refine thn (hk pos pins s1 σ H1 (fun zs H2 => match zs with | [y] => ∃ (p : Addr) (ns : List Int) (d : Int), x = .ref p ∧ y = .int d ∧ SqL X.K H2 p (ns.map V.int) ∧ Q (.int (maxOr d ns)) H2 | _ => False) I1 q1) fun ws s2 ⟨zs, H2, I2, r2, q2⟩ => ?_
    match zs, r2, q2 with
    | [y], r2, q2 =>
      obtain ⟨l, ns, d, rfl, rfl, hp, q⟩ := q2
      obtain ⟨u, rfl, ru⟩ := vals1 r1
      cases ru
      obtain ⟨u2, rfl, t2, rfl⟩ := vals1 r2
      obtain ⟨its, rv, pl, hz⟩ := I2.list hp
      have hi : IntsAre its ns := intsAre_of rv
      show wpAny _ X.A (call (.builtin "max") [.ref l] [("default", .int d t2)]) _ _ s2
      refine wpAny_with_toks (n := 1) I2.tk (AwM.call_maxD (I2.ok.hd hc) pl.isList hi (fun h0 h' tk k => ?_) fun h0 h' tk tb k => ?_)
      · intro htk
        exact ⟨.int d, H2, I2.kept k, ⟨t2, rfl⟩, by have e : maxOr d ns = d := if_pos h0; rw [e] at q; exact q⟩
      · intro htk
        exact ⟨.int (maxOr d ns), H2, I2.kept k, ⟨tb, by have e : maxOr d ns = AwM.bestOf (fun i => ns.getD i 0) (ns.length - 1) := if_neg h0; rw [e]⟩, q⟩
/-! ### tuples -/
end
end L2
namespace L2
open PySem PySem.Spec PyProof.Rows
section
variable {X : Cx}
/-- t + u, whatever they are -/
def rCatG (K : PySem.W.Frag) : R2 := fun x y H Q => ∃ a b xs ys, x = .ref a ∧ y = .ref b ∧ SqT K H a xs ∧ SqT K H b ys ∧ xs.length + ys.length ≤ sizeLine ∧
  (xs = [] → Q (.ref b) H) ∧ (xs ≠ [] → ys = [] → Q (.ref a) H) ∧ (xs ≠ [] → ys ≠ [] → ∀ p, H p = none → Q (.ref p) (upd H p (.tup (xs ++ ys))))
theorem op_catG : OpR X (binaryOp .Add) (rCatG X.K) := by
  intro pins s σ H x y v u Q I rx ry h
  obtain ⟨a, b, xs, ys, rfl, rfl, ha, hb, hz, q0, q1, q2⟩ := h
  by_cases hx : xs = []
  · cases rx
    cases ry
    obtain ⟨its, r1, p1, _⟩ := I.tuple ha
    obtain ⟨its2, r2, p2, _⟩ := I.tuple hb
    subst hx
    cases r1
    obtain ⟨⟨c1, d1, t1, l1⟩, o1, e1, n1, f1⟩ := id p1
    obtain ⟨⟨c2, d2, t2, l2⟩, o2, e2, n2, f2⟩ := id p2
    simp only at e1 f1 e2 f2
    subst e1 f1 e2 f2
    exact concat_meets p1.typeIs p2.typeIs noFill_tuple_add seq_tuple_add PySem.F.slot_tuple_add PySem.F.entry_tuple_add (PySem.F.args_tuple_add_2 _ _) (tuple_addW0 a b _ _ n1 n2 d1 d2 l1 l2 rfl) ⟨o1, o2, ⟨.ref b, H, I, rfl, q0 rfl⟩⟩
  · exact op_catT pins s σ H (.ref a) (.ref b) v u Q I rx ry ⟨a, b, xs, ys, rfl, rfl, ha, hb, hx, hz, q1 hx, q2 hx⟩
end
end L2

namespace L2
open PySem PySem.Spec PyProof.Rows
theorem Tk.updL {H : Hp} {p : Addr} {xs ys : List V} (h : H p = some (.lst xs)) : Tk H (upd H p (.lst ys)) := by
  refine ⟨fun b zs e => ?_, fun b zs e => ?_, fun b zs e => ⟨zs, ?_⟩⟩
  · rw [upd_ne (fun z => by rw [z, h] at e; cases e)]; exact e
  · by_cases z : b = p
    · exact ⟨ys, by rw [z]; exact upd_same⟩
    · exact ⟨zs, by rw [upd_ne z]; exact e⟩
  · rw [upd_ne (fun z => by rw [z, h] at e; cases e)]; exact e
/-- the turns of a comprehension over data, its element data; all that was stays -/
theorem lc_data {J : It} {A : Addr} {H1 : Hp} {te : TE} {tl : St} {Q : VK} {ds : List D} (f : D → D) (hn : ds.length ≤ sizeLine) (hA : H1 A = none)
    (hgo : ∀ i H, Same H1 H → i < ds.length → J.go i H) (hy : ∀ i H x H' d, Same H1 H → ds[i]? = some d → J.yld i H x H' → H' = H ∧ Is H d x) (hstop : ∀ H, Same H1 H → J.stop ds.length H)
    (hte : ∀ d x H (R : VK), d ∈ ds → Same H1 H → Is H d x → (∀ y H', Same H H' → Is H' (f d) y → R y H') → te (some x :: tl) H R)
    (hQ : ∀ H' ys, Same H1 H' → H' A = some (.lst ys) → IsL H' (ds.map f) ys → Q (.ref A) H') : lcGo A J (gName 0) tYes te (none :: tl) H1 Q := by
  refine ⟨ds.length, fun i σ ys H => (∃ w, σ = w :: tl) ∧ IsL H ((ds.take i).map f) ys ∧ Same H1 H, hn, ⟨⟨none, rfl⟩, rfl, same_new hA _⟩, ?_, ?_⟩
  · rintro i σ ys H hi ⟨⟨w, rfl⟩, hl, sm⟩ hA' hyl
    refine ⟨hgo i H sm hi, fun x H' y => ?_⟩
    obtain ⟨rfl, hx⟩ := hy i H x H' ds[i] sm (List.getElem?_eq_getElem hi) y
    dsimp only [gName, tYes, List.set]
    rw [if_pos rfl]
    refine hte ds[i] x H' _ (List.getElem_mem hi) sm hx fun y' H4 s4 hy' => ⟨s4 _ _ hA', ⟨some x, rfl⟩, ?_, fun b o e => ?_⟩
    · have t : Tk H4 (upd H4 A (.lst (ys ++ [y']))) := Tk.updL (s4 _ _ hA')
      have e : (ds.take (i + 1)).map f = (ds.take i).map f ++ [f ds[i]] := by
        rw [List.take_add_one, List.getElem?_eq_getElem hi, List.map_append]
        rfl
      rw [e]
      exact ((hl.mono s4.tk).mono t).append (IsL.one (hy'.mono t))
    · rw [upd_ne (ne_of_none e hA)]
      exact s4 b o (sm b o e)
  · rintro σ ys H ⟨_, hl, sm⟩ hA'
    refine ⟨hstop H sm, hQ H ys sm hA' ?_⟩
    rw [List.take_of_length_le (Nat.le_refl _)] at hl
    exact hl
theorem lc_tupS {K : PySem.W.Frag} {a A : Addr} {H1 : Hp} {te : TE} {tl : St} {Q : VK} {ds : List D} {vs : List V} (f : D → D) (ha : H1 a = some (.tup vs)) (hl : IsL H1 ds vs) (hn : ds.length ≤ sizeLine) (hA : H1 A = none)
    (hte : ∀ d x H (R : VK), d ∈ ds → Same H1 H → Is H d x → (∀ y H', Same H H' → Is H' (f d) y → R y H') → te (some x :: tl) H R)
    (hQ : ∀ H' ys, Same H1 H' → H' A = some (.lst ys) → IsL H' (ds.map f) ys → Q (.ref A) H') : lcGo A (Itt K a) (gName 0) tYes te (none :: tl) H1 Q := by
  have ln := hl.length
  refine lc_data f hn hA (fun i H sm hi => ⟨vs, vs[i]'(by omega), SqT.of (sm _ _ ha), List.getElem?_eq_getElem _⟩) (fun i H x H' d sm hd y => ?_) (fun H sm => ⟨vs, SqT.of (sm _ _ ha), by omega⟩) hte hQ
  obtain ⟨rfl, y⟩ := y
  obtain ⟨v, e1, e2⟩ := hl.get hd
  have e3 := y vs (SqT.of (sm _ _ ha))
  rw [e1] at e3
  cases e3
  exact ⟨rfl, e2.mono sm.tk⟩
theorem lc_lstS {K : PySem.W.Frag} {a A : Addr} {H1 : Hp} {te : TE} {tl : St} {Q : VK} {ds : List D} {vs : List V} (f : D → D) (ha : H1 a = some (.lst vs)) (hl : IsL H1 ds vs) (hn : ds.length ≤ sizeLine) (hA : H1 A = none)
    (hte : ∀ d x H (R : VK), d ∈ ds → Same H1 H → Is H d x → (∀ y H', Same H H' → Is H' (f d) y → R y H') → te (some x :: tl) H R)
    (hQ : ∀ H' ys, Same H1 H' → H' A = some (.lst ys) → IsL H' (ds.map f) ys → Q (.ref A) H') : lcGo A (Itl K a) (gName 0) tYes te (none :: tl) H1 Q := by
  have ln := hl.length
  refine lc_data f hn hA (fun i H sm hi => ⟨vs, vs[i]'(by omega), SqL.of (sm _ _ ha), List.getElem?_eq_getElem _⟩) (fun i H x H' d sm hd y => ?_) (fun H sm => ⟨vs, SqL.of (sm _ _ ha), by omega⟩) hte hQ
  obtain ⟨rfl, y⟩ := y
  obtain ⟨v, e1, e2⟩ := hl.get hd
  have e3 := y vs (SqL.of (sm _ _ ha))
  rw [e1] at e3
  cases e3
  exact ⟨rfl, e2.mono sm.tk⟩
theorem IsL.bls {H : Hp} : ∀ {bs : List Bool} {vs : List V}, IsL H (bs.map D.bl) vs → vs = bs.map V.bl
  | [], _, h => h
  | _ :: _, _, h => by
    obtain ⟨v, r, rfl, h1, h2⟩ := h
    rw [IsL.bls h2, show v = _ from h1]; rfl
theorem IsL.ints {H : Hp} : ∀ {ns : List Int} {vs : List V}, IsL H (ns.map D.int) vs → vs = ns.map V.int
  | [], _, h => h
  | _ :: _, _, h => by
    obtain ⟨v, r, rfl, h1, h2⟩ := h
    rw [IsL.ints h2, show v = _ from h1]; rfl
/-- an item of a tuple of data -/
theorem ix_is {K : PySem.W.Frag} {H : Hp} {ds : List D} {v : V} {i : Int} {d : D} {Q : VK} (h : Is H (.tup ds) v) (hi : atI ds i = some d) (q : ∀ x, Is H d x → Q x H) : rIxT K v (.int i) H Q := by
  obtain ⟨a, vs, rfl, ha, hl⟩ := h
  obtain ⟨j, h1, h2, h3, h4, h5⟩ := atI_get hi
  obtain ⟨x, e1, e2⟩ := hl.get h2
  refine ⟨a, vs, i, x, rfl, rfl, SqT.of ha, ?_, q x e2⟩
  have ln := hl.length
  unfold atI at hi ⊢
  rw [ln]
  cases e : ixN ds.length i with
  | none => rw [e] at hi; cases hi
  | some k =>
    rw [e] at hi
    obtain ⟨g1, _⟩ := ixN_seq e
    rw [h1] at g1
    cases g1
    exact e1
theorem bestOf_le (val : Nat → Int) : ∀ k i, i ≤ k → val i ≤ AwM.bestOf val k
  | 0, i, h => by
    have : i = 0 := by omega
    subst this
    exact Int.le_refl _
  | k + 1, i, h => by
    unfold AwM.bestOf
    rcases Nat.lt_or_ge i (k + 1) with z | z
    · have := bestOf_le val k i (by omega)
      split <;> omega
    · have : i = k + 1 := by omega
      subst this
      split <;> omega
theorem bestOf_is (val : Nat → Int) : ∀ k, ∃ i, i ≤ k ∧ AwM.bestOf val k = val i
  | 0 => ⟨0, Nat.le_refl _, rfl⟩
  | k + 1 => by
    unfold AwM.bestOf
    split
    · exact ⟨k + 1, Nat.le_refl _, rfl⟩
    · obtain ⟨i, h1, h2⟩ := bestOf_is val k
      exact ⟨i, by omega, h2⟩
theorem maxOr_is {m : Int} {ns : List Int} (hne : ns ≠ []) (h1 : ∀ x ∈ ns, x ≤ m) (h2 : m ∈ ns) (d : Int) : maxOr d ns = m := by
  unfold maxOr
  rw [if_neg hne]
  have hl : 0 < ns.length := List.length_pos_iff.mpr hne
  obtain ⟨i, hi, e⟩ := bestOf_is (fun i => ns.getD i 0) (ns.length - 1)
  have hi' : i < ns.length := by omega
  have e1 : ns.getD i 0 = ns[i] := by simp [List.getD, hi']
  rw [e1] at e
  have a := h1 _ (List.getElem_mem hi')
  obtain ⟨j, hj, ej⟩ := List.getElem_of_mem h2
  have b := bestOf_le (fun i => ns.getD i 0) (ns.length - 1) j (by omega)
  have e2 : ns.getD j 0 = ns[j] := by simp [List.getD, hj]
  rw [e2, ej] at b
  omega
theorem maxOr_dp (ds : List D) : maxOr 0 (ds.map fun d => (dp d : Int)) = (dpL ds : Int) := by
  cases ds with
  | nil => simp [maxOr, dpL]
  | cons x r =>
    refine maxOr_is (by simp) (fun y hy => ?_) ?_ 0
    · obtain ⟨d, hd, rfl⟩ := List.mem_map.mp hy
      have := (dpL_le (k := dpL (x :: r)) (x :: r)).mp (Nat.le_refl _) d hd
      omega
    · have : ∀ ds : List D, ds ≠ [] → ∃ d ∈ ds, dp d = dpL ds := by
        intro ds
        induction ds with
        | nil => intro h; exact absurd rfl h
        | cons y q ih =>
          intro _
          have e : dpL (y :: q) = max (dp y) (dpL q) := by simp only [dpL]
          rcases Nat.lt_or_ge (dp y) (dpL q) with z | z
          · have hq : q ≠ [] := by rintro rfl; simp [dpL] at z
            obtain ⟨d, hd, e'⟩ := ih hq
            exact ⟨d, List.mem_cons_of_mem _ hd, by omega⟩
          · exact ⟨y, List.mem_cons_self, by omega⟩
      obtain ⟨d, hd, e⟩ := this (x :: r) (by simp)
      exact List.mem_map.mpr ⟨d, hd, by rw [e]⟩
theorem sum_sz (ds : List D) : (ds.map fun d => (sz d : Int)).sum = (szL ds : Int) := by
  induction ds with
  | nil => simp [szL]
  | cons x r ih =>
    rw [List.map_cons, List.sum_cons, ih]
    have e : szL (x :: r) = sz x + szL r := by simp only [szL]
    rw [e]
    omega
/-! ### texts -/
def inS (i j : Str) : Bool := !(Builtin.Str.occurrences j i 0 j.length 1).isEmpty
theorem inS_one (j : Str) (c : Nat) : inS ⟨#[c]⟩ j = decide (c ∈ j.cps.toList) := StrLaws.found_one j c
theorem mulOk_of {z : Str} {n : Int} (h0 : 0 ≤ n) (h1 : n ≤ 10000) (hz : z.length ≤ 1000) : MulOk z n := by
  have hs : sizeLine = 16777216 := sizeLine_eq
  refine ⟨by rw [decide_eq_false (by omega), decide_eq_false (by omega)]; rfl, fun hn _ => ?_, fun hn _ => ?_⟩
  · have : (1000 : Int) ≤ (2 ^ 63 - 1) / n := by
      have h3 : (1000 : Int) * n ≤ 2 ^ 63 - 1 := by omega
      exact (Int.le_ediv_iff_mul_le (by omega)).mpr h3
    omega
  · unfold Builtin.Str.tooLong
    refine decide_eq_false ?_
    have : z.length * n.toNat ≤ 1000 * 10000 := Nat.mul_le_mul hz (by omega)
    omega
theorem joined_size0 (xs : Array Nat) : ∀ (k : Nat) (acc : Array Nat), ((List.replicate k xs).foldl (· ++ ·) acc).size = acc.size + k * xs.size
  | 0, acc => by simp
  | k + 1, acc => by rw [List.replicate_succ, List.foldl_cons, joined_size0 xs k, Array.size_append, Nat.succ_mul]; omega
theorem joined_size (xs : Array Nat) (k : Nat) : ((List.replicate k xs).foldl (· ++ ·) #[]).size = k * xs.size := by
  rw [joined_size0]; simp
theorem mul_len {z : Str} {n : Int} (hz : z.length ≤ 1) (h1 : n ≤ 10000) : (Txt.mul z n).length ≤ 10000 := by
  unfold Txt.mul
  split
  · show 0 ≤ 10000; decide
  · split
    · omega
    · show ((List.replicate n.toNat z.cps).foldl (· ++ ·) #[]).size ≤ 10000
      rw [joined_size]
      have : n.toNat * z.cps.size ≤ 10000 * 1 := Nat.mul_le_mul (by omega) hz
      omega
end L2
namespace L2
open PySem PySem.Spec PyProof.Rows
/-- for over a text -/
theorem for_str {z : Str} {g : TG} {tb : TS} {E : Ends} {σ : St} {H : Hp} (Pv : Nat → St → Hp → Prop) (h0 : Pv 0 σ H)
    (hs : ∀ (i c : Nat) σ H, z.cps[i]? = some c → Pv i σ H → g (.str ⟨#[c]⟩) σ H fun σ2 H2 => tb { E with nx := Pv (i + 1), ct := Pv (i + 1), bk := E.nx } σ2 H2) (hd : ∀ σ H, Pv z.cps.size σ H → E.nx σ H) :
    ∃ W : Nat → Nat → St → Hp → Prop, (∃ m, W 0 m σ H) ∧ ∀ i m σ H, W i m σ H →
      ((Its z).stop i H ∧ E.nx σ H) ∨ ((Its z).go i H ∧ ∃ N : St → Hp → Prop, (∀ σ' H', N σ' H' → ∃ m', m' < m ∧ W (i + 1) m' σ' H') ∧ ∀ x H', (Its z).yld i H x H' → g x σ H' fun σ2 H2 => tb { E with nx := N, ct := N, bk := E.nx } σ2 H2) := by
  refine ⟨fun i m σ H => m = z.cps.size - i ∧ i ≤ z.cps.size ∧ Pv i σ H, ⟨z.cps.size, by simp, Nat.zero_le _, h0⟩, ?_⟩
  rintro i m σ H ⟨rfl, hi, p⟩
  by_cases hlt : i < z.cps.size
  · refine .inr ⟨hlt, Pv (i + 1), fun σ' H' p' => ⟨z.cps.size - (i + 1), by omega, rfl, hlt, p'⟩, fun x H' y => ?_⟩
    obtain ⟨rfl, c, hc, rfl⟩ := y
    exact hs i c σ _ hc p
  · have e : i = z.cps.size := by omega
    exact .inl ⟨e, hd σ H (e ▸ p)⟩
theorem IsL.unsnoc {H : Hp} : ∀ {ds : List D} {d : D} {vs : List V}, IsL H (ds ++ [d]) vs → ∃ us x, vs = us ++ [x] ∧ IsL H ds us ∧ Is H d x
  | [], d, _, h => by
    obtain ⟨v, r, rfl, h1, h2⟩ := h
    cases (show r = [] from h2)
    exact ⟨[], v, rfl, rfl, h1⟩
  | e :: r, d, _, h => by
    obtain ⟨v, q, rfl, h1, h2⟩ := h
    obtain ⟨us, x, rfl, h3, h4⟩ := IsL.unsnoc h2
    exact ⟨v :: us, x, rfl, ⟨v, us, rfl, h1, h3⟩, h4⟩
def isStr : D → Bool
  | .str _ => true
  | _ => false
def isTup : D → Bool
  | .tup _ => true
  | _ => false
section
variable {K : PySem.W.Frag}
theorem kit_no {T U : String} {b : Bool} (h : (Value.type T == Value.type U) = false) (hm : PySem.W.kitMeta U = true) (hs : (fastBuiltinMro T).map (·.contains (Value.type U)) = some b) : PySem.W.kitOne K (.type T) (.type U) = some b := by
  unfold PySem.W.kitOne
  rw [if_neg (by rw [h]; exact Bool.false_ne_true)]
  show (if PySem.W.kitMeta U = true then PySem.W.subIn K (.type T) (.type U) else none) = some b
  rw [if_pos hm]
  exact hs
theorem kit_self {T : String} (h : (Value.type T == Value.type T) = true) : PySem.W.kitOne K (.type T) (.type T) = some true := by
  unfold PySem.W.kitOne
  rw [if_pos h]
theorem kit_str (d : D) : PySem.W.kitOne K (tyD d) (.type "str") = some (isStr d) := by
  cases d with
  | str z => exact kit_self (by decide)
  | _ => exact kit_no (b := false) (by decide) (by decide +kernel) (by decide +kernel)
theorem kit_tup (d : D) : PySem.W.kitOne K (tyD d) (.type "tuple") = some (isTup d) := by
  cases d with
  | tup z => exact kit_self (by decide)
  | _ => exact kit_no (b := false) (by decide) (by decide +kernel) (by decide +kernel)
end
theorem lt_one (c k : Nat) : decide ((⟨#[c]⟩ : Str).cps.toList < [k]) = decide (c < k) := by
  rw [decide_eq_decide]
  simp [List.cons_lt_cons_iff]
theorem one_gt (c k : Nat) : decide ([k] < (⟨#[c]⟩ : Str).cps.toList) = decide (k < c) := by
  rw [decide_eq_decide]
  simp [List.cons_lt_cons_iff]
end L2
namespace L2
open PySem PySem.Spec PyProof.Rows
/-- within a comprehension's block: the written part by its own name -/
theorem ix_tupK {X : Cx} {K : PySem.W.Frag} (h : X.K = K) : IxR X (rIxT K) := by subst h; exact ix_tup
end L2
namespace L2
open PySem PySem.Spec PyProof.Rows
/-- over a tuple; its length has its bound -/
def iTupB (K : PySem.W.Frag) (tl : TE) : TI := fun σ H R => tl σ H fun x H1 => ∃ a xs, x = .ref a ∧ SqT K H1 a xs ∧ (xs.length ≤ sizeLine → R (Itt K a) H1)
theorem pi_tupB {X : Cx} {tg l : Expr} {tl : TE} (hl : PE X l tl) : PI X tg l (iTupB X.K tl) := by
  intro pins s σ H R I h
  refine thn (hl pins s σ H _ I h) fun v s1 ⟨x, H1, I1, r1, q1⟩ => ?_
  obtain ⟨a, xs, e, hq, q⟩ := q1
  subst e
  cases r1
  obtain ⟨its, rv, p, hz⟩ := I1.tuple hq
  refine wpAny_pyIter_tuple (show s1.heap.IsTuple a its.toArray from p) ?_
  refine ⟨s1.heap.objs.size, [s1.heap.objs.size], _, _, H1, rfl, I1.kept (t' := s1.toks) fun b o e => Heap.get?_push_of_some _ e, turn_tuple a _, ⟨_, Heap.get?_push_size _ rfl, rfl, rfl⟩, fun b hb => ?_, q hz⟩
  have e : b = s1.heap.objs.size := by simpa using hb
  subst e
  exact I1.fpOk (Nat.le_refl _) (I1.hok.fresh (Nat.le_refl _))
end L2
namespace L2
open PySem PySem.Spec PyProof.Rows
/-- len of a list or tuple; it has its bound -/
theorem call_lenB {X : Cx} : CallR X (.builtin "len") (fun xs H Q => ∃ p ys, xs = [.ref p] ∧ (SqL X.K H p ys ∨ SqT X.K H p ys) ∧ (ys.length ≤ sizeLine → Q (.int ys.length) H)) := by
  intro pins s σ H xs us Q I r h
  obtain ⟨p, ys, e, hq, q⟩ := h
  have hz : ys.length ≤ sizeLine := by
    rcases hq with hq | hq
    · exact (I.list hq).choose_spec.2.2
    · exact (I.tuple hq).choose_spec.2.2
  exact call_len_seq pins s σ H xs us Q I r ⟨p, ys, e, hq, q hz⟩
end L2

namespace L2
open PySem PySem.Spec PyProof.Rows Builtin Builtin.Str
/-! ### a text cut at a sign -/
end L2

namespace L2
open PySem PySem.Spec PyProof.Rows Builtin Builtin.Str
section
variable {X : Cx}
end
end L2

namespace L2
open PySem PySem.Spec PyProof.Rows Builtin Builtin.Str
section
variable {X : Cx}
end
end L2

namespace L2
open PySem PySem.Spec PyProof.Rows
end L2
namespace L2
open PySem PySem.Spec PyProof.Rows
end L2
namespace L2
open PySem PySem.Spec PyProof.Rows
section
variable {X : Cx}
/-! ### a dict of the module, its keys texts -/
end
end L2

namespace L2
open PySem PySem.Spec PyProof.Rows
section
variable {X : Cx} {K : PySem.W.Frag}
/-! within a comprehension's block: the written part by its own name -/
end
end L2
namespace L2
open PySem PySem.Spec PyProof.Rows
theorem inV_str (z : Str) (l : List Str) : inV (.str z) (l.map V.str) = decide (z ∈ l) := by
  unfold inV
  rw [List.any_map, Bool.eq_iff_iff, List.any_eq_true, decide_eq_true_eq]
  constructor
  · rintro ⟨x, hx, e⟩
    have e' : (x == z) = true := e
    rw [beq_iff_eq] at e'
    exact e' ▸ hx
  · intro h
    exact ⟨z, h, by show (z == z) = true; exact beq_self_eq_true z⟩
end L2

namespace L2
open PySem PySem.Spec PyProof.Rows
/-! ### lines of rules: a word and its parts -/
/-! signs of a joined text -/
/-! numbers of lines -/
end L2

namespace L2
open PySem PySem.Spec PyProof.Rows
/-! ### exceptions of the program's own classes, that come of ValueError -/
def VE : List Value := [.type "ValueError", .type "Exception", .type "BaseException", .type "object"]
/-- an exception lies behind a call: B, all that stood where it was raised, but for the frames -/
def CX1 (P : Program) (w : World) : CXT := fun outer H s E e s' => ∃ (ea C : Addr) (a0 : Value) (H' : Hp) (B : Heap), e = .ref ea ∧ s'.os = s.os ∧ AllBare s'.gens ∧ 0 < s'.toks ∧ Un (frs outer) [] H H' s.heap s'.heap ∧ HOk P w H' B ∧
  Heap.FlyingW B outer ea (.ref C) a0 s'.heap ∧ (∀ b o, s.heap.get? b = some o → b ∉ frs outer → ∃ o', B.get? b = some o') ∧ E (.ref ea) (some C) H'
/-- the class, as it stands in the written part -/
theorem cls_in {K : PySem.W.Frag} {h : Heap} {C : Addr} {bmB : List Value} {newId : String} (X : K.In h) (q : PySem.W.excIn K C bmB newId = true) :
    ∃ bm N nm qn bs hdct sn sub ab col dd k0 k1 k2 k3 k5 mN, h.get? C = some (excClassObj nm qn C N bs bm hdct sn sub ab col dd k0 k1 k2 k3 k5 newId) ∧ h.Ns N mN ∧ mN "__init__" = none ∧ OwnTail h bmB bm := by
  unfold PySem.W.excIn at q
  split at q
  · rename_i dd cd sl ho
    split at q
    · rename_i C' bm k0 k1 k2 k3 n k5 hm hs
      simp only [Bool.and_eq_true, beq_iff_eq, Bool.not_eq_true'] at q
      obtain ⟨⟨⟨⟨⟨rfl, rfl⟩, hdel⟩, ht⟩, hok⟩, hni⟩ := q
      obtain ⟨nm, bs, mro, ns, qn, hd, sn, sub, ab, col, del⟩ := cd
      dsimp only at hm hdel hok hni
      subst hm hdel
      obtain ⟨l⟩ := sl
      simp only at hs
      subst hs
      exact ⟨bm, ns, nm, qn, bs, hd, sn, sub, ab, col, dd, k0, k1, k2, k3, k5, _, X _ _ ho, .of_isNs (PySem.W.isNs_of_in X hok), PySem.W.nsMap_none_of_in X hok hni, PySem.W.tail_of_in X ht⟩
    · cases q
  · cases q
theorem funs_gone {h base B : Heap} : ∀ {l : List Env}, h.FunFrames base l → (∀ b ∈ frs l, B.get? b = none) → h.FunFrames B l
  | [], _, _ => trivial
  | env :: r, ⟨hk, ⟨L, o, hf, hn, ho, hd⟩, hr⟩, hB => by
    have e : frs (env :: r) = L :: frs r := by unfold frs; rw [List.filterMap_cons, hf]
    rw [e] at hB
    exact ⟨hk, ⟨L, o, hf, hB L List.mem_cons_self, ho, hd⟩, funs_gone hr fun b hb => hB b (List.mem_cons_of_mem _ hb)⟩
/-- raise C(e): what is wanted of the exception -/
def tRaise (E : XK) (C : Addr) (ta : TE) : TS := fun _ σ H => tCons ta tNil σ H fun vs H1 => vs.length = 1 ∧ ∀ e, E (.ref e) (some C) H1
theorem ps_raise {P : Program} {w : World} {K : PySem.W.Frag} {mg : Str → Option Value} {base : Heap} {N : List Str} {qual : Str} {scope : Scope} {f : Addr} {cd : Value} {A : Around} {outer : List Env} {s₀ : Shared} {H₀ : Hp} {E : XK}
    {x : Str} {C : Addr} {np cpos pos : Pos} {arg : Expr} {ta : TE} (hx : PySem.W.excIn K C VE "ValueError.__new__" = true) (hg : Gl (cxOf (CX1 P w) P w K mg base N qual scope f cd A outer s₀ H₀ E) x) (hm : mg x = some (.ref C))
    (ha : PE (cxOf (CX1 P w) P w K mg base N qual scope f cd A outer s₀ H₀ E) arg ta) (hd : (x == ("__debug__" : Str)) = false := by decide)
    (hs : starEach [arg] (envOfC qual scope s₀.heap.objs.size f cd) = [(false, eval arg (envOfC qual scope s₀.heap.objs.size f cd))] := by rfl) :
    PS (cxOf (CX1 P w) P w K mg base N qual scope f cd A outer s₀ H₀ E) (.Raise (some (.Call (.Name x np) [arg] [] cpos)) none pos) (tRaise E C ta) := by
  intro pins s σ H D I h
  obtain ⟨bm, Nn, nm, q, bs, hdct, sn, sub, ab, col, dd, k0, k1, k2, k3, k5, mN, hC, hN, hni, T⟩ := cls_in I.mod.kin hx
  have hT : bm.contains (.type "BaseException") = true := T.hasType (by decide)
  refine wpAny_Raise_call_subT (C := C) (nm := nm) (q := q) (N := Nn) (bs := bs) (bm := bm) (hdct := hdct) (sn := sn) (sub := sub) (ab := ab) (col := col) (dd := dd) (k0 := k0) (k1 := k1) (k2 := k2) (k3 := k3) (k5 := k5)
    (mN := mN) F.excBase_ValueError hT (I.ok.hd rfl) (by show (backTo cpos (starEach [arg] (envOfC qual scope s₀.heap.objs.size f cd))).any (·.1) = false; rw [hs]; rfl) hni (ld_glob I hg hm ⟨rfl, ?_⟩ hd)
  have hPA : PA (cxOf (CX1 P w) P w K mg base N qual scope f cd A outer s₀ H₀ E) [arg] (tCons ta tNil) := pa_cons ha pa_nil hs
  have hp := hPA cpos pins s σ H (fun vs H1 => vs.length = 1 ∧ ∀ e, E (.ref e) (some C) H1) I h
  show wpAny _ _ (evalArgs (.ref C) true (backTo cpos (starEach [arg] (envOfC qual scope s₀.heap.objs.size f cd))) []) _ _ s
  have hs' : starEach [arg] (cxOf (CX1 P w) P w K mg base N qual scope f cd A outer s₀ H₀ E).env = [(false, eval arg (envOfC qual scope s₀.heap.objs.size f cd))] := hs
  rw [hs'] at hp
  rw [hs]
  refine Calls.evalArgs_plain (wpAny_mono hp (fun vs s₂ h₂ => ?_) fun _ _ y => y)
  obtain ⟨ws, H2, I2, r2, q2⟩ := h₂
  obtain ⟨hl, q2⟩ := q2
  have bk := I2.bk
  have hvl : vs.length ≤ sizeLine := by rw [← r2.length, hl]; decide
  refine ⟨rfl, hvl, bk _ _ hC, hN.keeps bk, T.keeps bk, fun h' e hmade => ?_⟩
  show wpAny (model P w) (A.deeper (envOfC qual scope s₀.heap.objs.size f cd)) (leaving (envOfC qual scope s₀.heap.objs.size f cd) (.ref e)) (fun _ s'' => CX1 P w outer H₀ s₀ E (.ref e) s'') (fun e' s'' => CX1 P w outer H₀ s₀ E e' s'') _
  have hfr : (A.deeper (envOfC qual scope s₀.heap.objs.size f cd)).frames = some (envOfC qual scope s₀.heap.objs.size f cd :: outer) := I2.ok.frames
  have hst : s₂.heap.FunFrames base (envOfC qual scope s₀.heap.objs.size f cd :: outer) := I2.stack
  have hfree : ∀ b ∈ frs (envOfC qual scope s₀.heap.objs.size f cd :: outer), H2 b = none := I2.stkFree
  have hfe : frs (envOfC qual scope s₀.heap.objs.size f cd :: outer) = s₀.heap.objs.size :: frs outer := rfl
  have habove : s₀.heap.objs.size ≤ s₀.heap.objs.size := I2.ok.above
  have hbase : Un (frs outer) [] H₀ H2 s₀.heap s₂.heap := I2.base
  refine wpAny_leaves_madeW (base := TI.gone s₂.heap (frs (envOfC qual scope s₀.heap.objs.size f cd :: outer))) (h := s₂.heap) (L := s₀.heap.objs.size) hfr rfl (fun b o e => (TI.gone_some e).2) (funs_gone hst fun b hb => TI.gone_none hb) hmade fun h'' t hfly htup _ hup => ?_
  have stays : ∀ b o, b ∉ frs (envOfC qual scope s₀.heap.objs.size f cd :: outer) → s₂.heap.get? b = some o → h''.get? b = some o := fun b o hb e => hfly.1 b o (by rw [TI.gone_get hb]; exact e)
  have slots : ∀ b o, s₂.heap.get? b = some o → (∀ vs, o.data ≠ .fields vs) → ∃ sl, h''.get? b = some { o with slots := sl } := fun b o e hn => hup b o (hmade.keeps b o e) hn
  have nd : ∀ b ∈ frs outer, ∀ o, s₂.heap.get? b = some o → ∀ vs, o.data ≠ .fields vs := fun b hb o e => by
    obtain ⟨_, o', e', hn⟩ := hst.mem (show b ∈ (envOfC qual scope s₀.heap.objs.size f cd :: outer).filterMap (·.frame) from by rw [show (envOfC qual scope s₀.heap.objs.size f cd :: outer).filterMap (·.frame) = frs (envOfC qual scope s₀.heap.objs.size f cd :: outer) from rfl, hfe]; exact List.mem_cons_of_mem _ hb)
    rw [e] at e'
    cases e'
    exact hn
  have notin : ∀ b o, s₀.heap.get? b = some o → b ∉ frs outer → b ∉ frs (envOfC qual scope s₀.heap.objs.size f cd :: outer) := fun b o e hb hm => by
    rw [hfe] at hm
    rcases List.mem_cons.mp hm with rfl | hm
    · exact absurd (Heap.lt_size e) (Nat.lt_irrefl _)
    · exact hb hm
  refine ⟨e, C, .ref t, H2, _, rfl, I2.os, I2.bare, (by first | exact I2.tk | exact Nat.lt_of_lt_of_le I2.tk (Nat.le_add_right _ _) | ((try dsimp only); first | assumption | exact Inv.tk (by assumption) | exact Nat.succ_pos _ | exact Nat.lt_of_lt_of_le (Inv.tk (by assumption)) (by assumption) | exact Nat.add_pos_left (Inv.tk (by assumption)) _ | omega)), ⟨?_, ?_, hbase.free, ?_, hbase.tups, hbase.frzs, hbase.tbls⟩, ?_, hfly, ?_, q2 e⟩
  · intro b o e1 hn hb hx
    exact stays b o (notin b o e1 hb) (hbase.keep b o e1 hn hb hx)
  · intro b o e1 hn hb hx
    obtain ⟨sl, e2⟩ := hbase.slot b o e1 hn hb hx
    obtain ⟨sl2, e3⟩ := slots b _ e2 (nd b hb _ e2)
    exact ⟨sl2, e3⟩
  · intro b o e1 hx
    obtain ⟨o', e2⟩ := hbase.there b o e1 hx
    by_cases hb : b ∈ frs outer
    · obtain ⟨sl2, e3⟩ := slots b _ e2 (nd b hb _ e2)
      exact ⟨_, e3⟩
    · exact ⟨o', stays b o' (notin b o e1 hb) e2⟩
  · intro b u hb
    refine (I2.hok b u hb).stay (fun c v hc q => ?_) (fun _ q => q) fun _ _ q => q
    rw [TI.gone_get]
    · exact q
    · intro hm
      have hn := hfree c hm
      rcases hc with z | z
      · rw [z, hb] at hn; cases hn
      · rw [z] at hn; cases hn
  · intro b o e1 hb
    obtain ⟨o', e2⟩ := hbase.there b o e1 (by simp)
    exact ⟨o', by rw [TI.gone_get (notin b o e1 hb)]; exact e2⟩
end L2

namespace L2
open PySem PySem.Spec PyProof.Rows
/-! ### try: a call that may raise; except C: a suite -/
abbrev Cx.marked (X : Cx) (ee : Addr) (xe : Value → Shared → Prop) : Cx := { X with A := X.A.mark (some (.ref ee)), calm := false, xe := xe }
section
variable {X : Cx} {pins : List (Addr × Obj)} {σ : St} {H : Hp} {s : Shared} {ee : Addr} {xe : Value → Shared → Prop}
theorem Cx.Ok.marked (ok : X.Ok) : (X.marked ee xe).Ok :=
  ⟨ok.mod, ok.kind, ok.glob, ok.blt, ok.above, ok.inj, ok.has, ok.cab, (fun z => absurd z Bool.false_ne_true), ok.frames, ok.stk, ok.exf, ok.bs, ok.bsz, ok.noex, ok.exfs, ok.funs, ok.frf⟩
theorem Inv.marked (I : Inv X pins σ H s) : Inv (X.marked ee xe) pins σ H s := ⟨I.ok.marked, I.os, I.bare, I.base, I.loc, I.cell, I.free, I.freeC, I.pin, I.hok, I.len, I.tk⟩
theorem Inv.unmarked (ok : X.Ok) (I : Inv (X.marked ee xe) pins σ H s) : Inv X pins σ H s := ⟨ok, I.os, I.bare, I.base, I.loc, I.cell, I.free, I.freeC, I.pin, I.hok, I.len, I.tk⟩
theorem SP.unmarked (ok : X.Ok) {D : Ends} {f : Flow} {s' : Shared} (h : SP (X.marked ee xe) pins D f s') : SP X pins D f s' := by
  cases f with
  | next => obtain ⟨σ', H', I, q⟩ := h; exact ⟨σ', H', I.unmarked ok, q⟩
  | brk => obtain ⟨σ', H', I, q⟩ := h; exact ⟨σ', H', I.unmarked ok, q⟩
  | cont => obtain ⟨σ', H', I, q⟩ := h; exact ⟨σ', H', I.unmarked ok, q⟩
  | ret u => obtain ⟨v, σ', H', I, r, q⟩ := h; exact ⟨v, σ', H', I.unmarked ok, r, q⟩
/-- an exception has come out of a call -/
def Cat (X : Cx) (pins : List (Addr × Obj)) (σ : St) (E : XK) (e : Value) (s' : Shared) : Prop := ∃ H1 s1, Inv X pins σ H1 s1 ∧ CX1 X.prog X.w X.stack H1 s1 E e s'
theorem call_cat {k : Nat} {f : Addr} {fd : FuncData} {ps : List Str} {sp : Sp} {x : Str} {p pos : Pos} {e : Expr} {es : List Expr} {t : TA} {Q : VK} {E : XK} (F : FnOk X.prog X.w X.K X.mg X.base (CX1 X.prog X.w) k f fd ps sp) (hr : Room k X.A) (hg : Gl X x) (hm : X.mg x = some (.ref f))
    (hk : PySem.W.keepIn X.K (.ref f) = true) (hb : Binds X.K fd ps []) (ha : PA X.nox (e :: es) t) (I : Inv X pins σ H s) (h : t σ H fun vs H1 => sp vs H1 Q E) (hdb : (x == ("__debug__" : Str)) = false)
    (he : starEach (e :: es) X.env = (false, eval e X.env) :: starEach es X.env) (hpl : (backTo pos (starEach es X.env)).any (·.1) = false) :
    wpAny (model X.prog X.w) X.A (eval (.Call (.Name x p) (e :: es) [] pos) X.env) (EP X pins σ Q) (Cat X pins σ E) s := by
  refine wpAny_Call_Name_kw (ld_glob I hg hm ?_ hdb)
  refine PySem.W.callWith_K (h₀ := X.base) I.ok.mod.kin hk (wpAny_mono (ha pos pins s σ H _ (I.wish _) h) (fun us s1 h1 => ?_) fun _ _ z => z.elim) he hpl
  obtain ⟨vs, H1, I1', r, q⟩ := h1
  have I1 : Inv X pins σ H1 s1 := I1'.unwish
  refine ⟨I1.kIn, ?_⟩
  have hl : us.length = ps.length := by rw [← r.length]; exact F.len _ _ _ _ q
  have hb' := hb s1 us I1.kIn (by rw [List.append_nil]; exact hl)
  rw [List.append_nil] at hb'
  refine wpAny_call (codeAny_mono (F.run X.A X.stack s1 H1 ⟨us, []⟩ us vs Q E hr I1.env0 hb' r q (.inl I1.tk)) fun r s' hq => ?_)
  cases r with
  | error e => exact ⟨H1, s1, I1, hq⟩
  | ok fl =>
    cases fl with
    | ret u => exact I1.after hq
    | next => exact False.elim hq
    | brk => exact False.elim hq
    | cont => exact False.elim hq
end
/-- a def whose exceptions lie so -/
theorem Fun.okX {P : Program} {w : World} {K : PySem.W.Frag} {mg : Str → Option Value} {base : Heap} {x qual : Str} {st : Stmt} {f : Addr} {fd : FuncData} {N ps : List Str} {k : Nat} {sp : Sp} (F : Fun K x qual st f fd) (S : FnScope N ps (defScope st)) (len : ∀ vs H Q E, sp vs H Q E → vs.length = ps.length)
    (hbody : ∀ (cdv : Value) (A : Around) (outer : List Env) (s : Shared) (H : Hp) (vs : List V) (Q : VK) (E : XK), Room k (A.deeper (envOfC qual (defScope st) s.heap.objs.size f cdv)) → sp vs H Q E →
      ∃ t, PSs (cxOf (CX1 P w) P w K mg base N qual (defScope st) f cdv A outer s H E) (defBody st) t ∧ t { nx := fun _ H' => Q .non H', rt := Q } (start N vs) H) : FnOk P w K mg base (CX1 P w) (k + 1) f fd ps sp := by
  obtain ⟨oc, od, kV, doc, pm, an, cdv, ct, osl, rfl, lk, hcd⟩ := F.ex
  exact fn_of lk hcd S len fun A outer s H vs Q E hr hsp => hbody cdv A outer s H vs Q E hr hsp
end L2

namespace PySem.AwM
open PySem.AutoSeq1 PySem.MeetsSeq PySem.MeetsSeq3
end PySem.AwM
namespace L2
open PySem PySem.Spec PyProof.Rows
section
variable {X : Cx}
end
end L2
namespace HT
open PySem PyProof.Rows
section
variable {prog : Program} {w : World} {A : Around} {E : Value → Shared → Prop} {s : Shared}
end
end HT
namespace L2
open PySem PySem.Spec PyProof.Rows
section
variable {X : Cx}
end
end L2

namespace L2
open PySem PySem.Spec PyProof.Rows
/-! ### any text read as a line -/
/-! pieces joined are the text -/
end L2


namespace L2
open PySem PySem.Spec PyProof.Rows
/-! ### except C as e: the exception is a thing of its own from then on -/
def ExcO (a C : Addr) : HO := .ext fun h => ∃ o, h.get? a = some o ∧ o.cls = .ref C ∧ PySem.W.notCls o = true
theorem ExcO.ok {P : Program} {w : World} {H : Hp} {h : Heap} {a C : Addr} {o : Obj} (e : h.get? a = some o) (c : o.cls = .ref C) (n : PySem.W.notCls o = true) : ObjOk P w H h a (ExcO a C) :=
  ⟨⟨o, e, c, n⟩, ⟨o, e⟩, fun _ _ ⟨o, e, c, n⟩ k => ⟨o, k o e, c, n⟩⟩
theorem ObjOk.here {P : Program} {w : World} {H : Hp} {h : Heap} {a : Addr} {o : HO} (x : ObjOk P w H h a o) : ∃ u, h.get? a = some u := by
  cases o with
  | lst xs => obtain ⟨_, _, _, _, e⟩ := x; exact ⟨_, e⟩
  | tup xs => obtain ⟨_, _, _, u, e, _⟩ := x; exact ⟨_, e⟩
  | dK kvs => obtain ⟨_, _, _, _, u, _, _, e, _⟩ := x; exact ⟨_, e⟩
  | dT kvs => obtain ⟨_, _, _, _, u, _, _, e, _⟩ := x; exact ⟨_, e⟩
  | set S n => obtain ⟨u, _, _, _, e, _⟩ := x; exact ⟨_, e⟩
  | ins C dx fs => obtain ⟨_, _, _, e, _⟩ := x; exact ⟨_, e⟩
  | own y => exact x
  | xd fs => obtain ⟨_, ⟨_, _, _, e, _⟩, _⟩ := x; exact ⟨_, e⟩
  | rng lo hi => obtain ⟨_, _, _, e⟩ := x; exact ⟨_, e⟩
  | frz ob u => obtain ⟨e, _⟩ := x; exact ⟨_, e⟩
  | tbl ps => exact ⟨_, show h.get? a = some _ from x⟩
  | met f y => exact ⟨_, show h.get? a = some _ from x⟩
  | ext φ => obtain ⟨_, q, _⟩ := x; exact q
/-- what is wanted behind a suite whose name goes -/
def Ends.less (D : Ends) (i : Nat) : Ends := { nx := fun σ H => D.nx (σ.set i none) H, rt := D.rt, bk := fun σ H => D.bk (σ.set i none) H, ct := fun σ H => D.ct (σ.set i none) H }
section
variable {X : Cx} {pins : List (Addr × Obj)} {σ : St} {H : Hp} {s : Shared}
/-- the name of a handler goes -/
theorem name_goes {M : Model} {A : Around} {E : Value → Shared → Prop} {i : Nat} {x : Str} {pos : Pos} {Q : Unit → Shared → Prop} (I : Inv X pins σ H s) (hN : X.N.Nodup) (hi : X.N[i]? = some x) (hx : X.env.scope.names.lookup x = some .local)
    (h : ∀ s', Inv X pins (σ.set i none) H s' → Q () s') : wpAny M A (do bindName X.env x .none; unbindBehindTheSuite X.env x pos) Q E s := by
  have hk : X.env.kindOf x = some .local := hx
  have hcls : (X.env.scope.kind == .class || (X.env.scope.kind == .module && X.env.locals != X.env.globals)) = false := by rw [I.ok.kind]; rfl
  have hiσ : i < σ.length := by rw [I.len]; exact (List.getElem?_eq_some_iff.mp hi).1
  refine wpAny_bind (wpAny_bindName (store_ok (v := .non) I hN hi (.inl hx) rfl (fun s1 I1 => ?_) (.inr hx)))
  obtain ⟨m, hn, hl⟩ := id I1.loc
  have hsome : (m x).isSome = true := by
    obtain ⟨u, ru, q⟩ := hl i x .non hi (by rw [List.getElem?_set_self hiσ]) (.inl hx)
    rcases q with ⟨_, e⟩ | ⟨k, _⟩
    · rw [e]; rfl
    · rw [hk] at k
      rcases k with k | k <;> cases k
  unfold unbindBehindTheSuite
  refine wpAny_onRaise ?_
  unfold unbindName
  refine wpAny_bind (wpAny_point (wpAny_bind ?_))
  unfold deleteName
  simp only [hk, hcls]
  rw [if_neg (by decide)]
  refine wpAny_bind (wpAny_nsDel_keeps hn fun h2 v hn2 hs2 => ?_)
  rw [hsome]
  simp only [if_true, Bool.not_true, Bool.false_eq_true, if_false]
  have cne := I1.cne
  have ok2 : HOk X.prog X.w H h2 := HOk.sameBut I1.hok I1.free hs2
  have I2 : Inv X pins (σ.set i none) H { s1 with heap := h2 } := by
    refine ⟨I1.ok, I1.os, I1.bare, ⟨fun b o e n hb hx => ?_, fun b o e n hb hx => ?_, I1.base.free, fun b o e hx => ?_, I1.base.tups, I1.base.frzs, I1.base.tbls⟩, ⟨_, hn2, fun j y v' e1 e2 e3 => ?_⟩, fun y c e => ?_, I1.free, I1.freeC, fun p hp => ?_, ok2, by rw [List.length_set]; exact I.len, I1.tk⟩
    · exact (hs2.2 b (Nat.ne_of_lt (Nat.lt_of_lt_of_le (Heap.lt_size e) I1.ok.above))).trans (I1.base.keep b o e n hb hx)
    · obtain ⟨sl, e1⟩ := I1.base.slot b o e n hb hx
      exact ⟨sl, (hs2.2 b (Nat.ne_of_lt (Nat.lt_of_lt_of_le (Heap.lt_size e) I1.ok.above))).trans e1⟩
    · obtain ⟨o', e1⟩ := I1.base.there b o e hx
      exact ⟨o', (hs2.2 b (Nat.ne_of_lt (Nat.lt_of_lt_of_le (Heap.lt_size e) I1.ok.above))).trans e1⟩
    · by_cases hj : j = i
      · subst hj
        rw [List.getElem?_set_self hiσ] at e2
        cases e2
      · rw [List.getElem?_set_ne (Ne.symm hj)] at e2
        obtain ⟨u', r', q⟩ := hl j y v' e1 (by rw [List.getElem?_set_ne (Ne.symm hj)]; exact e2) e3
        refine ⟨u', r', ?_⟩
        rcases q with ⟨k, e⟩ | ⟨k, c, e, z⟩
        · refine .inl ⟨k, ?_⟩
          have hne : y ≠ x := fun e => hj (nodup_ix hN e1 (e ▸ hi))
          simp [hne, e]
        · exact .inr ⟨k, c, e, z.sameBut hs2 (cne y c e)⟩
    · obtain ⟨w', z⟩ := I1.cell y c e
      exact ⟨w', z.sameBut hs2 (cne y c e)⟩
    · obtain ⟨e, n, ne, nf, d⟩ := I1.pin p hp
      exact ⟨(hs2.2 p.1 ne).trans e, n, ne, nf, d⟩
  exact wpAny_pure (wpAny_point (h _ I2))
/-- an exception is caught and named -/
theorem catch_as {D : Ends} {e : Value} {s' : Shared} {c n : Str} {i : Nat} {np hpos : Pos} {C' : Addr} {b₀ : Stmt} {suite : List Stmt} {ts : TS}
    (hcx : Cat X pins σ (fun v C H2 => ∃ Cc, C = some Cc ∧ PySem.W.exmOne X.K (.ref Cc) (.ref C') = some true ∧ ∀ ea, v = .ref ea → H2 ea = none → ts (D.less i) (σ.set i (some (.ref ea))) (upd H2 ea (ExcO ea Cc))) e s') (hown : X.stack = X.env :: X.outer ∧ X.env.frame = some X.env.locals)
    (hg : Gl X c) (hm : X.mg c = some (.ref C')) (hN : X.N.Nodup) (hi : X.N[i]? = some n) (hn : X.env.scope.names.lookup n = some .local) (hs : ∀ ee xe, PSs (X.marked ee xe) (b₀ :: suite) ts) (hdb : (c == ("__debug__" : Str)) = false) :
    wpAny (model X.prog X.w) X.A (noteFrame e X.env) (fun _ s2 => wpAny (model X.prog X.w) X.A (setFlight e none) (fun _ s3 => wpAny (model X.prog X.w) X.A (handleBy e X.env [.ExceptHandler (some (.Name c np)) (some n) (b₀ :: suite) hpos]) (SP X pins D) X.xe s3) X.xe s2) X.xe s' := by
  obtain ⟨H1, s1, I, ea, Cc, a0, H', B, rfl, hos, hbare, htk, hun, hokB, hfly, hold, C2, hC, hx, hts⟩ := hcx
  cases hC
  -- the exception is no thing of before
  have hea : H' ea = none := by
    cases q : H' ea with
    | none => rfl
    | some u =>
      obtain ⟨o, z⟩ := (hokB ea u q).here
      rw [hfly.2.1] at z
      cases z
  have hts := hts ea rfl hea
  have nd : ∀ b ∈ frs X.stack, ∀ o, s'.heap.get? b = some o → ∀ vs, o.data ≠ .fields vs := fun b hb o e => by
    obtain ⟨_, o', e', hn⟩ := hfly.2.2.1.mem (show b ∈ X.stack.filterMap (·.frame) from hb)
    rw [e] at e'
    cases e'
    exact hn
  have heas : ∀ o, s1.heap.get? ea = some o → False := fun o z => by
    by_cases hb : ea ∈ frs X.stack
    · obtain ⟨_, _, _, oe, vs, _, _, _, he, _, hd, _⟩ := hfly
      exact nd ea hb oe he vs hd
    · obtain ⟨o', q⟩ := hold ea o z hb
      rw [hfly.2.1] at q
      cases q
  have step : ∀ hk, B.StaysIn hk → s'.heap.UpToSlots hk → (∃ o, hk.get? ea = some o ∧ o.cls = .ref Cc ∧ PySem.W.notCls o = true) → Inv X pins σ (upd H' ea (ExcO ea Cc)) { s' with heap := hk } := by
    intro hk hB hU ⟨oe, he, hc, hnc⟩
    have inB : ∀ b o o', B.get? b = some o' → s'.heap.get? b = some o → hk.get? b = some o := fun b o o' e1 e2 => by
      have := hfly.1 b o' e1
      rw [e2] at this
      cases this
      exact hB b o e1
    have hbe : ∀ b o, s1.heap.get? b = some o → b ≠ ea := fun b o e z => heas o (z ▸ e)
    have hok2 : HOk X.prog X.w (upd H' ea (ExcO ea Cc)) hk := fun b u e => by
      by_cases z : b = ea
      · subst z
        rw [upd_same] at e
        cases e
        exact ExcO.ok he hc hnc
      · rw [upd_ne z] at e
        have keepH : ∀ c u, H' c = some u → upd H' ea (ExcO ea Cc) c = some u := fun c u q => by rw [upd_ne (ne_of_none q hea)]; exact q
        exact (hokB b u e).stay (fun c v _ q => hB c v q) (fun c q => keepH c _ q) fun c xs q => keepH c _ q
    have hT : ∀ b u, H' b = some u → upd H' ea (ExcO ea Cc) b = some u := fun b u q => by rw [upd_ne (ne_of_none q hea)]; exact q
    refine I.call' (s' := { s' with heap := hk }) (ch := []) hos ⟨?_, ?_, ?_, ?_, fun b xs q => hT b _ (hun.tups b xs q), fun b o u q => hT b _ (hun.frzs b o u q), fun b ps q => ?_⟩ hok2 hbare (fun b z => by simp at z)
    · intro b o e1 hn hb hx'
      obtain ⟨o', e2⟩ := hold b o e1 hb
      exact inB b o o' e2 (hun.keep b o e1 hn hb hx')
    · intro b o e1 hn hb hx'
      obtain ⟨sl, e2⟩ := hun.slot b o e1 hn hb hx'
      obtain ⟨sl2, e3⟩ := hU b _ e2 (nd b hb _ e2)
      exact ⟨sl2, e3⟩
    · intro b o e1 hn hx'
      rw [upd_ne (hbe b o e1)]
      exact hun.free b o e1 hn hx'
    · intro b o e1 hx'
      by_cases hb : b ∈ frs X.stack
      · obtain ⟨o', e2⟩ := hun.there b o e1 hx'
        obtain ⟨sl2, e3⟩ := hU b _ e2 (nd b hb _ e2)
        exact ⟨_, e3⟩
      · obtain ⟨o', e2⟩ := hold b o e1 hb
        exact ⟨o', hB b o' e2⟩
    · obtain ⟨more, q2⟩ := hun.tbls b ps q
      exact ⟨more, hT b _ q2⟩
  have isE : ∀ {l : List Env} {hk : Heap}, Heap.FlyingW B l ea (.ref Cc) a0 hk → ∃ o, hk.get? ea = some o ∧ o.cls = .ref Cc ∧ PySem.W.notCls o = true := fun f => by
    obtain ⟨_, _, _, oe, vs, _, _, _, he, hc, hd, _⟩ := f
    exact ⟨oe, he, hc.1, by unfold PySem.W.notCls; rw [hd]⟩
  rw [hown.1] at hfly
  have hfr : X.A.frames = some (X.env :: X.outer) := by rw [I.ok.frames, hown.1]
  refine wpAny_looks_onW (base := B) hfr hown.2 hfly fun h1 hheld hup1 => ?_
  refine wpAny_landsW hheld fun h2 hfly2 hup2 => ?_
  have I2 := step h2 hfly2.1 (hup1.trans hup2) (isE hfly2)
  refine wpAny_handleBy_cons (codeAny_handlers_test ?_) (by intro q; cases q)
  refine ld_glob (X := X.marked ea X.xe) I2.marked hg hm ?_ hdb
  obtain ⟨oe, he, hcls⟩ := hfly2.there
  have LT : PySem.W.Looks (model X.prog X.w) h2 (typeOf (.ref ea)) (.ref Cc) := hcls ▸ (PySem.W.Looks.ld he).andThen .now
  refine PySem.W.exm_one I2.kIn LT hx _ _ _ _ (fun b o e => e) ?_
  refine codeAny_handlers_suite_as (lands_againW hfly2 fun h3 hfly3 hup3 => ?_)
  have I3 := step h3 hfly3.1 ((hup1.trans hup2).trans hup3) (isE hfly3)
  refine store_ok (v := .ref ea) I3 hN hi (.inl hn) rfl (fun s4 I4 => ?_) (.inr hn)
  refine wpAny_mono (hs ea _ pins _ _ _ (D.less i) I4.marked hts) (fun f s5 h5 => ?_) fun _ _ z => z
  have h5 := h5.unmarked I.ok
  cases f with
  | next => obtain ⟨σ', H5, I5, q⟩ := h5; exact name_goes I5 hN hi hn fun s6 I6 => ⟨_, H5, I6, q⟩
  | brk => obtain ⟨σ', H5, I5, q⟩ := h5; exact name_goes I5 hN hi hn fun s6 I6 => ⟨_, H5, I6, q⟩
  | cont => obtain ⟨σ', H5, I5, q⟩ := h5; exact name_goes I5 hN hi hn fun s6 I6 => ⟨_, H5, I6, q⟩
  | ret u => obtain ⟨v, σ', H5, I5, r, q⟩ := h5; exact name_goes I5 hN hi hn fun s6 I6 => ⟨v, _, H5, I6, r, q⟩
end
end L2

/-! ### what class an exception has -/
namespace PySem.AwV
open PySem PySem.Calls PyProof.Rows Builtin Builtin.ObjectAttr Builtin.Getset_descriptor PySem.W
structure ExcCls (K : Frag) (C : Addr) : Prop where
  ga : findIn K (.ref C) "__getattribute__" = some (some (.builtin "BaseException.__getattribute__"))
  gt : findIn K (.ref C) "__getattr__" = some none
  cl : findIn K (.ref C) "__class__" = some (some (.builtin "object.__class__"))
  sp : specialIn K (.builtin "object.__class__") "__get__" = some (some (.builtin "getset_descriptor.__get__"))
  tk : takesIn K (.builtin "object.__class__") = some true
  ob : mroIn K C (.type "object") = some true
  be : mroIn K C (.type "BaseException") = some true
def ExcAt (x C : Addr) (h : Heap) : Prop := ∃ o, h.get? x = some o ∧ o.cls = .ref C ∧ notCls o = true
section
variable {prog : Program} {w : World} {A : Around} {E : Value → Shared → Prop} {s : Shared} {K : Frag} {x C : Addr}
theorem exc_type {M : Model} {h : Heap} (I : ExcAt x C h) : Looks M h (typeOf (.ref x)) (.ref C) := by
  obtain ⟨o, e, c, _⟩ := I
  exact c ▸ (Looks.ld e).andThen .now
theorem exc_find {M : Model} {h : Heap} (X : K.In h) (Z : ExcCls K C) : Looks M h (find (.ref x) (.ref C) "__class__") (.bind (.builtin "getset_descriptor.__get__") (.builtin "object.__class__")) := by
  refine (looks_findIn (M := M) X Z.cl).andThen (Looks.andThen (a := some (.builtin "getset_descriptor.__get__")) (show Looks M h (getOf (some _)) _ from looks_specialIn X Z.sp) ?_)
  have L3 := looks_takesIn (M := M) X Z.tk
  exact (show Looks M h (dataDescriptor? (some _) (some _)) (some (_, _)) from
    L3.andThen .now).andThen (Looks.tag .now)
theorem exc_get {tp : Value} {R : Result → Shared → Prop} (X : K.In s.heap) (I : ExcAt x C s.heap) (Z : ExcCls K C) (h : R (.ok (.ret (.ref C))) s) :
    codeAny (model prog w) A (.call (.builtin "getset_descriptor.__get__") ⟨[.builtin "object.__class__", .ref x, tp], []⟩) R s := by
  obtain ⟨hh, g, dr, t, os⟩ := s
  have L0 := exc_type (M := model prog w) I
  have L1 := looks_mroIn (M := model prog w) X Z.ob
  have ck := KF.slot_gs.check (model prog w) A
  refine codeAny_call_builtin KF.slot_gs.plain KF.entry_gs
    (KF.slot_gs.check _ _ _ _ _ _ _ _ KF.type_class (KF.args_gs _ _ _) ?_)
  unfold Builtin.«getset_descriptor.__get__»
  unfold descrGet
  rw [dga_obj]
  refine wpAny_bind (wpAny_pure ?_)
  unfold descrGetter descrCheckInstance
  unfold descrNameAndClass isInstance
  simp only [KF.owner_class]
  repeat lk
  refine ⟨Code.quiet_builtin _ (by decide +kernel),
    codeAny_builtin KF.entry_class ?_⟩
  unfold Builtin.«object.__class__» shownTypeOf
  repeat lk
  exact h
theorem exc_check {rest : List Value} {Q : Unit → Shared → Prop} (X : K.In s.heap) (I : ExcAt x C s.heap) (Z : ExcCls K C) (ha : argsOk "BaseException.__getattribute__" ⟨.ref x :: rest, []⟩) (h : Q () s) :
    wpAny (model prog w) A (checkBuiltinCall "BaseException.__getattribute__" ⟨.ref x :: rest, []⟩) Q E s := by
  have hsplit : splitId "BaseException.__getattribute__" = some ("BaseException", "__getattribute__") := by decide +kernel
  have hk : builtinKind "BaseException.__getattribute__" = some .slot := by
    simp only [builtinKind, hsplit]
    decide +kernel
  have LI : Looks (model prog w) s.heap (isInstance (.ref x) (.type "BaseException")) true := (exc_type I).andThen (looks_mroIn X Z.be)
  simp only [checkBuiltinCall, hk, hsplit]
  refine wpAny_bind (LI A _ E s (fun _ _ e => e) ?_)
  simp only [Bool.not_true, Bool.false_eq_true, if_false]
  cases hsig : Manifest.signature? "BaseException.__getattribute__" with
  | none => exact wpAny_pure h
  | some sig =>
    simp only [argsOk, hsig] at ha
    have h2 : Bind.checkArgs "BaseException.__getattribute__" sig ⟨.ref x :: rest, []⟩ = pure () := ha
    exact (show wpAny (model prog w) A (Bind.checkArgs _ sig _) Q E s from by
      rw [h2]; exact wpAny_pure h)
theorem exc_entry {tk : Tok} {Q : Fin → Shared → Prop} (X : K.In s.heap) (I : ExcAt x C s.heap) (Z : ExcCls K C) (h : Q (.done (.ret (.ref C))) s) :
    wpAny (model prog w) A (Builtin.«object.__getattribute__» ⟨[.ref x, .str "__class__" tk], []⟩) Q E s := by
  have I' := I
  have X' := X
  obtain ⟨hh, g, dr, t, os⟩ := s
  have L0 := exc_type (M := model prog w) I
  have L1 := exc_find (M := model prog w) (x := x) X Z
  refine wpAny_bind (wpAny_pure (wpAny_bind (wpAny_pure (wpAny_bind (L0.at (wpAny_bind (L1.at ?_)))))))
  show wpAny (model prog w) A (holding [.builtin "object.__class__"] (call (.builtin "getset_descriptor.__get__") [.builtin "object.__class__", .ref x, .ref C]) >>= ret) Q E _
  refine wpAny_bind (wpAny_holding (wpAny_call (exc_get X' I' Z ?_)))
  exact wpAny_pure h
/-- its class, asked of itself -/
theorem exc_class {Q : Option Value → Shared → Prop} (X : K.In s.heap) (I : ExcAt x C s.heap) (Z : ExcCls K C) (h : Q (some (.ref C)) { s with toks := s.toks + 1 }) :
    wpAny (model prog w) A (getAttr? (.ref x) "__class__") Q E s := by
  have I' := I
  have X' := X
  obtain ⟨hh, g, dr, t, os⟩ := s
  have L0 := exc_type (M := model prog w) I
  have L1 := looks_findIn (M := model prog w) X Z.ga
  have L2 := looks_findIn (M := model prog w) X Z.gt
  have f3 := F.excAttr_ValueError.ga.bind (.ref x)
  unfold getAttr? getAttrBy?
  refine wpAny_bind (wpAny_mkText (wpAny_bind (wpAny_attempt ?_)))
  unfold getAttrBy
  refine wpAny_holding (wpAny_bind (L0.at (wpAny_bind (L1.at ?_))))
  show wpAny (model prog w) A (getAttrByItsOwn (.ref x) _ (.ref C) (.builtin "BaseException.__getattribute__") false false) _ _ _
  unfold getAttrByItsOwn
  refine wpAny_bind ((show Looks (model prog w) hh (hookBefore (.ref C)) none from L2).at ?_)
  refine wpAny_bind (wpAny_attempt (wpAny_holding ?_))
  show wpAny (model prog w) A (boundAndCalled (.builtin "BaseException.__getattribute__") (.ref x) _) _ _ _
  unfold boundAndCalled
  rw [f3]
  refine wpAny_bind (wpAny_pure (wpAny_call (codeAny_call_builtin F.excAttr_ValueError.ga.plain F.entry_bexc_ga (exc_check X' I' Z (F.args_bexc_ga _ _) (exc_entry X' I' Z ?_)))))
  show wpAny (model prog w) A (handedOut (.ref C)) _ _ _
  rw [handedOut_of (show handedIn (.ref C) = true from rfl)]
  exact wpAny_pure (wpAny_pure h)
theorem exc_kit (Z : ExcCls K C) : KitX K (.ref x) (.ref C) (ExcAt x C) where
  ty := fun _ _ _ I => exc_type I
  it := fun M h X _ => by
    obtain ⟨cd, hc, _⟩ := Option.bind_eq_some_iff.mp Z.ob
    unfold clsIn at hc
    split at hc
    · rename_i ho
      intro A' Q' E' s' k q
      unfold isType loadHead
      exact wpAny_bind (wpAny_loadPart (k _ _ (X _ _ ho))
        (wpAny_pure q))
    · cases hc
  ne := fun h tp dd its n sl X htp => by
    obtain ⟨cd, hc, _⟩ := Option.bind_eq_some_iff.mp Z.ob
    refine Bool.eq_false_iff.mpr fun q => ?_
    have e : C = tp := Value.ref.inj (beq_iff_eq.mp q)
    subst e
    unfold clsIn at hc
    split at hc
    · rename_i ho
      have z := (X _ _ ho).symm.trans htp
      cases z
    · cases hc
  ca := fun X I q => exc_class X I Z q
end
end PySem.AwV
namespace L2
open PySem PySem.Spec PyProof.Rows
theorem boot_VE : bootBuiltins "ValueError" = some (.type "ValueError") := by decide +kernel
/-- the type of a value, or the class of an exception -/
inductive TyX (K : PySem.W.Frag) (H : Hp) : V → Value → Prop where
  | ty {x : V} {t : Value} (h : TyOf K H x t) : TyX K H x t
  | exc {a C : Addr} (h : H a = some (ExcO a C)) (Z : AwV.ExcCls K C) : TyX K H (.ref a) (.ref C)
section
variable {X : Cx} {pins : List (Addr × Obj)} {σ : St} {H : Hp} {s : Shared}
/-- a class that is handed to isinstance -/
inductive ClsV : V → Value → Prop where
  | ty (T : String) : ClsV (.ty T) (.type T)
  | own (C : Addr) : ClsV (.ref C) (.ref C)
theorem isinst_x {x : V} {u t c : Value} {b : Bool} {A : Around} {E : Value → Shared → Prop} {Q : Value → Shared → Prop} (I : Inv X pins σ H s) (rx : RelV x u) (ty : TyX X.K H x t) (e : PySem.W.kitOne X.K t c = some b) (h : ∀ tk, Q (.bool b) { s with toks := tk }) :
    wpAny (model X.prog X.w) A (call (.builtin "isinstance") [u, c]) Q E s := by
  cases ty with
  | ty z => exact isinst_ok I rx z e h
  | @exc a C ea Z =>
    cases (show u = Value.ref a from rx)
    obtain ⟨p, _, _⟩ := (show ObjOk X.prog X.w H s.heap a (ExcO a C) from I.hok a _ ea)
    exact PySem.W.kia_one (AwV.exc_kit Z) I.kIn p e (fun z => nomatch z) h
theorem call_isinstX {K : PySem.W.Frag} (hK : X.K = K) : CallR X (.builtin "isinstance") (fun xs H Q => ∃ x y c t b, xs = [x, y] ∧ ClsV y c ∧ TyX K H x t ∧ PySem.W.kitOne K t c = some b ∧ Q (.bl b) H) := by
  intro pins s σ H xs us Q I r h
  obtain ⟨x, y, c, t, b, rfl, hc, ty, e, q⟩ := h
  obtain ⟨u, u', rfl, ru, ru'⟩ := vals2 r
  subst hK
  have e' : u' = c := by cases hc <;> exact ru'
  subst e'
  exact wpAny_with_toks (n := 1) I.tk (isinst_x I ru ty e fun tk htk => ⟨.bl b, H, I.tok tk, rfl, q⟩)
theorem vals_refs : ∀ {cs : List Addr} {its : List Value}, Vals (cs.map V.ref) its → its = cs.map Value.ref
  | [], _, h => by cases h; rfl
  | c :: cs, _, h => by
    cases h with
    | cons r1 r2 =>
      rw [vals_refs r2, show _ = Value.ref c from r1]
      rfl
/-- isinstance(x, (C, ..)), x an exception -/
theorem call_isinstT {K : PySem.W.Frag} (hK : X.K = K) : CallR X (.builtin "isinstance") (fun xs H Q => ∃ (a C p : Addr) (cs : List Addr) (b : Bool), xs = [.ref a, .ref p] ∧ H a = some (ExcO a C) ∧ H p = some (.tup (cs.map V.ref)) ∧ AwV.ExcCls K C ∧ PySem.W.kitAny K (.ref C) (cs.map Value.ref) = some b ∧ Q (.bl b) H) := by
  intro pins s σ H xs us Q I r h
  obtain ⟨a, C, p, cs, b, rfl, ea, hp, Z, e, q⟩ := h
  obtain ⟨u, u', rfl, ru, ru'⟩ := vals2 r
  subst hK
  cases ru
  cases ru'
  obtain ⟨_, its, rv, o, ho, hc, n, hd⟩ := (show ObjOk X.prog X.w H s.heap p (.tup (cs.map V.ref)) from I.hok p _ hp)
  cases vals_refs rv
  obtain ⟨ocls, odict, odata, osl⟩ := o
  simp only at hc hd
  subst hc hd
  obtain ⟨pe, _, _⟩ := (show ObjOk X.prog X.w H s.heap a (ExcO a C) from I.hok a _ ea)
  exact wpAny_with_toks (n := 1) I.tk (PySem.W.kia_tup (AwV.exc_kit Z) I.kIn pe ho e (fun z => nomatch z) fun tk htk => ⟨.bl b, H, I.tok tk, rfl, q⟩)
end
end L2


namespace L2
open PySem PySem.Spec PyProof.Rows
section
variable {X : Cx}
theorem strs_of_vals : ∀ {ls : List Str} {its : List Value}, Vals (ls.map V.str) its → StrsAre its ls
  | [], _, h => by cases h; exact .nil
  | z :: ls, _, h => by
    cases h with
    | cons r1 r2 =>
      obtain ⟨t, e⟩ := r1
      rw [e]
      exact .cons z t (strs_of_vals r2)
theorem vals_of_strs : ∀ {ls : List Str} {its : List Value}, StrsAre its ls → Vals (ls.map V.str) its
  | _, _, .nil => .nil
  | _, _, .cons x t h => .cons ⟨t, rfl⟩ (vals_of_strs h)
theorem vals_ext : ∀ {xs : List V} {us : List Value}, xs.length = us.length → (∀ (j : Nat) (x : V) (v : Value), xs[j]? = some x → us[j]? = some v → RelV x v) → Vals xs us
  | [], [], _, _ => .nil
  | x :: xs, u :: us, hl, h => .cons (h 0 x u rfl rfl) (vals_ext (by simpa using hl) fun j y v h1 h2 => h (j + 1) y v (by simpa using h1) (by simpa using h2))
  | [], _ :: _, hl, _ => by simp at hl
  | _ :: _, [], hl, _ => by simp at hl
/-- sorted(l), l a list of texts -/
theorem call_sortedS : CallR X (.builtin "sorted") (fun xs H Q => ∃ (p : Addr) (ls : List Str), xs = [.ref p] ∧ SqL X.K H p (ls.map V.str) ∧ ls.length < 64 ∧ ∀ (ms : List Str) (q : Addr), ms.Perm ls → sortedS ms = true → H q = none → Q (.ref q) (upd H q (.lst (ms.map V.str)))) := by
  intro pins s σ H xs us Q I r h
  obtain ⟨p, ls, rfl, hp, h64, q⟩ := h
  obtain ⟨u, rfl, ru⟩ := vals1 r
  cases ru
  obtain ⟨its, rv, pl, hz⟩ := I.list hp
  have hS := strs_of_vals rv
  have hl : its.length = ls.length := by have := rv.length; simpa using this.symm
  refine sorted_strs pl.isList hS (by omega) fun out ms a1 a2 a3 => ?_
  obtain ⟨e, he⟩ := sortedAll_at s.heap its out
  have hml : ms.length = ls.length := a2.length_eq
  refine ⟨.ref (s.heap.objs.size + 1), _, I.laid (t' := s.toks) (o := .lst (ms.map V.str)) (fun b u w => sortedAll_old w) (Nat.le_succ _) ⟨?_, out.toList, e, vals_of_strs a1, he⟩, rfl, q ms _ a2 a3 (I.hok.fresh (Nat.le_succ _))⟩
  rw [List.length_map, hml, sizeLine_eq]
  omega
/-- sorted(d), d a dict whose keys are texts -/
theorem call_sortedD (hc : X.calm = true) : CallR X (.builtin "sorted") (fun xs H Q => ∃ (d : Addr) (kvs : List (Key × V)) (ls : List Str), xs = [.ref d] ∧ H d = some (.dK kvs) ∧ kvs.map (·.1) = ls.map Sum.inr ∧ ls.length < 64 ∧ ∀ (ms : List Str) (q : Addr), ms.Perm ls → sortedS ms = true → H q = none → Q (.ref q) (upd H q (.lst (ms.map V.str)))) := by
  intro pins s σ H xs us Q I r h
  obtain ⟨d, kvs, ls, rfl, hd, hk, h64, q⟩ := h
  obtain ⟨u, rfl, ru⟩ := vals1 r
  cases ru
  obtain ⟨hz, lo, vs, rkv, dd⟩ := dk_of I.hok hd
  obtain ⟨o, es, ep, ho⟩ := id dd
  have hat : s.heap.DictAt (mixKind X.prog X.w) d vs ep := ⟨o, es, ho⟩
  have hvl : vs.length = ls.length := by
    have h1 := congrArg List.length hk
    rw [List.length_map, List.length_map] at h1
    rw [← rkv.length, h1]
  refine wpAny_with_toks (n := 1) I.tk ?_
  refine PySem.Calls.call_function_entry kind_sorted plain_sorted entry_sorted (args_sorted1 _) ?_
  unfold Builtin.«sorted»
  refine wpAny_bind (m := checkCount "sorted" 1 1 _) (wpAny_pure ?_)
  refine wpAny_bind (PySem.W.kdu_collect (A := X.A.in1) (PySem.W.kdl_dict lo) (I.ok.hd hc) hat (by rw [hvl, sizeLine_eq]; omega) fun h' tk acc hkp hacc => ?_)
  have hS : StrsAre acc.toList ls := by
    refine strs_of_vals (vals_ext (by rw [List.length_map, Array.length_toList]; exact hvl.symm.trans hacc.1.symm) fun j x v hx hv => ?_)
    rw [List.getElem?_map] at hx
    cases hlj : ls[j]? with
    | none => rw [hlj] at hx; cases hx
    | some z =>
      rw [hlj] at hx
      cases hx
      obtain ⟨k, y, e1, e2⟩ := hacc.2 j v (by rw [← Array.getElem?_toList]; exact hv)
      have e3 : (kvs.map (·.1))[j]? = some k := by
        rw [rkv.keys, List.getElem?_map, e1]
        rfl
      rw [hk, List.getElem?_map, hlj] at e3
      cases e3
      rcases keyIs_shape (show keyIs (Sum.inr z) v = true from e2) with ⟨i, t, e4, e5⟩ | ⟨z', t, e4, e5⟩
      · cases e4
      · cases e4
        exact ⟨t, e5⟩
  have hal : acc.toList.length = ls.length := by rw [Array.length_toList, hacc.1, hvl]
  refine wpAny_bind (wpAny_newList ?_ (by rw [hal, sizeLine_eq]; omega))
  have hoL : (h'.push (seqObj "list" acc.toList.toArray 0)).get? h'.objs.size = some (seqObj "list" acc.toList.toArray 0) := Heap.get?_push_size _ rfl
  refine wpAny_bind (wpAny_holding (wpAny_call_entry slot_list_sort ⟨_, hoL, rfl⟩ entry_list_sort (list_sort_treeK strKind_oneLt hoL hS.keysOf (fun v₁ v₂ rest e => keyKind_strs (by rw [← e]; exact hS)) (by omega) fun st' a1 a2 => ⟨_, rfl, ?_⟩) (args_list_sort _)))
  refine wpAny_pure ⟨_, rfl, ?_⟩
  obtain ⟨ms, b1, b2, b3⟩ := sorted_out_str hS a1 a2
  obtain ⟨e, he⟩ := sortedHeap_at (out := (arrOf st').map (·.2)) hoL
  have hml : ms.length = ls.length := b2.length_eq
  intro htk
  have I' : Inv X pins σ H { s with heap := h', toks := tk } := I.kept hkp
  refine ⟨.ref h'.objs.size, _, I'.laid (t' := tk) (o := .lst (ms.map V.str)) (fun b u w => ?_) (Nat.le_refl _) ⟨?_, _, e, vals_of_strs b1, he⟩, rfl, q ms _ b2 b3 (I'.hok.fresh (Nat.le_refl _))⟩
  · have hb := Heap.lt_size w
    rw [sortedHeap_old (Nat.ne_of_lt hb) (by rw [size_push']; exact Nat.lt_succ_of_lt hb)]
    exact Heap.get?_push_of_some _ w
  · rw [List.length_map, hml, sizeLine_eq]
    omega
/-! ### the keys of a dict that is not written any more -/
theorem kV_rel {k : Key} {v : Value} (h : keyIs k v = true) : RelV (kV k) v := by
  rcases keyIs_shape h with ⟨i, t, rfl, rfl⟩ | ⟨z, t, rfl, rfl⟩
  · exact ⟨t, rfl⟩
  · exact ⟨t, rfl⟩
end
end L2

namespace PySem.AwK
open PySem Builtin Builtin.ObjectAttr
theorem lk_keys : typeLookup (.type "list") "keys" = pure none := by rw [typeLookup_type, builtinLookup_eq_fast]; kernel_rfl
section
variable {prog : Program} {w : World} {A : Around} {E : Value → Shared → Prop} {s : Shared}
theorem sub_attr : isSubtype (.type "AttributeError") (.type "AttributeError") = pure true := by rw [isSubtype_type]; kernel_rfl
theorem raise_attr {α : Type} {o : Value} {name msg : Str} {Q : α → Shared → Prop} (hh : A.handled = none) (hm : msg.length ≤ sizeLine)
    (hq : ∀ h' tk' e, (∀ b ob, s.heap.get? b = some ob → h'.get? b = some ob) → (∃ oe, h'.get? e = some oe ∧ oe.cls = .type "AttributeError") → E (.ref e) { s with heap := h', toks := tk' }) :
    wpAny (model prog w) A (raiseAttrError o name msg : Sem α) Q E s := by
  unfold raiseAttrError
  refine wpAny_bind (wpAny_mkStr (wpAny_bind ?_) hm)
  unfold newExc newTuple
  refine wpAny_bind (wpAny_newObj_type ?_ (by show (1 : Nat) ≤ sizeLine; rw [sizeLine_eq]; decide))
  refine wpAny_bind (m := firstArgMember _ _) (wpAny_of_eq (a := Value.none) (by kernel_rfl) ?_)
  obtain ⟨h1, hh1⟩ : ∃ h1, h1 = s.heap.push { cls := .type "tuple", data := .seq #[Value.str msg s.toks] } := ⟨_, rfl⟩
  have k1 : ∀ b ob, s.heap.get? b = some ob → h1.get? b = some ob := fun b ob e => by rw [hh1]; exact Heap.get?_push_of_some _ e
  show wpAny (model prog w) A (newObj (.type "AttributeError") (.fields #[.ref s.heap.objs.size, .none, .none, .none, .bool false, .none, unsetMember, unsetMember])) _ E { s with heap := s.heap.push { cls := .type "tuple", data := .seq #[Value.str msg s.toks] }, toks := s.toks + 1 }
  rw [← hh1]
  refine wpAny_newObj_type ?_ (by unfold sizeOk; first | trivial | (rw [sizeLine_eq]; simp) | decide)
  obtain ⟨h2, hh2⟩ : ∃ h2, h2 = h1.push { cls := .type "AttributeError", data := .fields #[.ref s.heap.objs.size, .none, .none, .none, .bool false, .none, unsetMember, unsetMember] } := ⟨_, rfl⟩
  have k2 : ∀ b ob, h1.get? b = some ob → h2.get? b = some ob := fun b ob e => by rw [hh2]; exact Heap.get?_push_of_some _ e
  have e2 : h2.get? h1.objs.size = some { cls := .type "AttributeError", data := .fields #[.ref s.heap.objs.size, .none, .none, .none, .bool false, .none, unsetMember, unsetMember] } := by rw [hh2]; exact Heap.get?_push_size _ rfl
  show wpAny (model prog w) A (do let x ← mkText name; noteAttr (.ref h1.objs.size) o x; raiseNew (.ref h1.objs.size)) Q E { s with heap := h1.push { cls := .type "AttributeError", data := .fields #[.ref s.heap.objs.size, .none, .none, .none, .bool false, .none, unsetMember, unsetMember] }, toks := s.toks + 1 }
  rw [← hh2]
  have ne : ∀ b ob, h1.get? b = some ob → b ≠ h1.objs.size := fun b ob e => Nat.ne_of_lt (Heap.lt_size e)
  generalize h1.objs.size = e at e2 ne ⊢
  refine wpAny_bind (wpAny_mkText (wpAny_bind ?_))
  have hT : ∀ g d t os, (⟨h2, g, d, t, os⟩ : Shared).TypeIs (.ref e) "AttributeError" := fun _ _ _ _ => ⟨_, e2, rfl⟩
  unfold noteAttr lacksNameAndObj
  refine wpAny_bind (wpAny_bind (wpAny_isInstance (hT _ _ _ _) sub_attr ?_))
  simp only [Bool.not_true, Bool.false_eq_true, if_false]
  refine wpAny_bind (wpAny_load e2 ?_)
  dsimp only
  rw [if_neg (by simp [unsetMember, rawInt]), if_neg (by simp [unsetMember, doubtfulMember, rawInt])]
  refine wpAny_pure ?_
  rw [if_pos rfl]
  refine wpAny_bind (wpAny_rule (wpAny_bind (wpAny_typeOf (hT _ _ _ _) ?_)))
  show wpAny (model prog w) A (layMembers e 6 #[Value.str name (s.toks + 1), o]) _ E _
  unfold layMembers
  refine wpAny_bind (wpAny_load e2 ?_)
  dsimp only
  refine wpAny_update e2 ?_
  have e3 := Heap.get?_update_self (Obj.mapFields fun vs => vs.extract 0 6 ++ #[Value.str name (s.toks + 1), o]) e2 rfl
  have k3 : ∀ b ob, b ≠ e → h2.get? b = some ob → (h2.update e (Obj.mapFields fun vs => vs.extract 0 6 ++ #[Value.str name (s.toks + 1), o])).get? b = some ob := fun b ob hb q => (Heap.get?_update_other _ _ (Ne.symm hb)).trans q
  exact wpAny_raiseNew_none hh (hq _ _ e (fun b ob q => k3 b ob (ne b ob (k1 b ob q)) (k2 b ob (k1 b ob q))) ⟨_, e3, rfl⟩)
end
section
variable {prog : Program} {w : World} {A : Around} {E : Value → Shared → Prop} {h : Heap} {g : Array GenState} {d : Drawn} {t : Nat} {os : OsState} {a : Addr} {its : Array Value} {n : Nat} {sl : Array (Option Value)}
theorem nk_entry {tk : Tok} {Q : Fin → Shared → Prop} (hh : A.handled = none) (hx : h.get? a = some { cls := .type "list", dict := none, data := .seq its n, slots := sl })
    (hq : ∀ h' tk' e, (∀ b ob, h.get? b = some ob → h'.get? b = some ob) → (∃ oe, h'.get? e = some oe ∧ oe.cls = .type "AttributeError") → E (.ref e) ⟨h', g, d, tk', os⟩) :
    wpAny (model prog w) A (Builtin.«object.__getattribute__» ⟨[.ref a, .str "keys" tk], []⟩) Q E ⟨h, g, d, t, os⟩ := by
  have hT : (⟨h, g, d, t, os⟩ : Shared).TypeIs (.ref a) "list" := ⟨_, hx, rfl⟩
  have f4 := lk_keys
  repeat (any_goals (first | assumption | wp_step))
  exact raise_attr hh (by rw [sizeLine_eq]; decide +kernel) hq
theorem nk_call {tk : Tok} {R : Result → Shared → Prop} (hh : A.handled = none) (hx : h.get? a = some { cls := .type "list", dict := none, data := .seq its n, slots := sl })
    (hq : ∀ h' tk' e, (∀ b ob, h.get? b = some ob → h'.get? b = some ob) → (∃ oe, h'.get? e = some oe ∧ oe.cls = .type "AttributeError") → R (.error (.ref e)) ⟨h', g, d, tk', os⟩) :
    codeAny (model prog w) A (.call (.builtin "list.__getattribute__") ⟨[.ref a, .str "keys" tk], []⟩) R ⟨h, g, d, t, os⟩ :=
  codeAny_call_builtin F.slot_list_getattribute.plain F.entry_list_ga (F.slot_list_getattribute.check _ _ _ _ _ _ _ _ (show (⟨h, g, d, t, os⟩ : Shared).TypeIs (.ref a) "list" from ⟨_, hx, rfl⟩) (F.args_list_getattribute_2 _ _) (nk_entry hh hx hq))
theorem no_keys {Q : Option Value → Shared → Prop} (hh : A.handled = none) (hx : h.get? a = some { cls := .type "list", dict := none, data := .seq its n, slots := sl })
    (hq : ∀ h' tk', (∀ b ob, h.get? b = some ob → h'.get? b = some ob) → Q none ⟨h', g, d, tk', os⟩) : wpAny (model prog w) A (getAttr? (.ref a) "keys") Q E ⟨h, g, d, t, os⟩ := by
  have hT : ∀ t, (⟨h, g, d, t, os⟩ : Shared).TypeIs (.ref a) "list" := fun t => ⟨_, hx, rfl⟩
  unfold getAttr? getAttrBy?
  refine wpAny_bind (wpAny_mkText (wpAny_bind (wpAny_attempt ?_)))
  unfold getAttrBy
  refine wpAny_holding (wpAny_bind (wpAny_typeOf (hT _) ?_))
  rw [F.slot_list_getattribute.lookup]
  refine wpAny_bind (wpAny_pure ?_)
  show wpAny (model prog w) A (getAttrByItsOwn (.ref a) _ (.type "list") (.builtin "list.__getattribute__") false false) _ _ _
  unfold getAttrByItsOwn
  refine wpAny_bind (m := hookBefore _) (wpAny_pure ?_)
  refine wpAny_bind (wpAny_attempt (wpAny_holding ?_))
  show wpAny (model prog w) A (boundAndCalled (.builtin "list.__getattribute__") (.ref a) _) _ _ _
  unfold boundAndCalled
  rw [F.slot_list_getattribute.bind]
  refine wpAny_bind (wpAny_pure (wpAny_call (nk_call hh hx fun h' tk' e k ⟨oe, e1, e2⟩ => ?_)))
  have hE : ∀ t, (⟨h', g, d, t, os⟩ : Shared).TypeIs (.ref e) "AttributeError" := fun t => ⟨_, e1, e2⟩
  show wpAny (model prog w) A (getattributeRaised (.ref a) _ (.type "list") (.ref e) none false false) _ _ ⟨h', g, d, tk', os⟩
  unfold getattributeRaised
  refine wpAny_bind (wpAny_isInstance (hE _) sub_attr ?_)
  rw [if_pos rfl]
  have lg : hookBehind (.type "list") none = pure none := by
    show typeLookup (.type "list") "__getattr__" = pure none
    rw [typeLookup_type, builtinLookup_eq_fast]
    kernel_rfl
  rw [lg]
  refine wpAny_bind (wpAny_pure ?_)
  show wpAny (model prog w) A (attributeErrorLeaves (.ref a) _ (.ref e) false false) _ _ _
  unfold attributeErrorLeaves
  refine wpAny_throw ?_
  refine wpAny_bind (wpAny_isInstance (hE _) sub_attr ?_)
  rw [if_pos rfl]
  exact wpAny_pure (hq h' tk' k)
end
/-! ### dict(l), l a list of pairs -/
theorem entry_loop : entryFor table "dict.update.loop" = some Builtin.«dict.update.loop» := entryFor_of_fast (by kernel_rfl)
theorem plain_loop : plainId "dict.update.loop" = true := by decide +kernel
section
variable {prog : Program} {w : World} {A : Around} {E : Value → Shared → Prop} {K : Type} [DecidableEq K] {knd : KeyKind prog w K}
/-- the pairs, from the i-th on -/
def addAll (cur : List (K × Value)) : List (K × Value) → List (K × Value)
  | [] => cur
  | p :: r => addAll (stored cur p.1 p.2) r
structure PairAt (h : Heap) (d it : Addr) (v : Value) (p : K × Value) : Prop where
  at_ : ∃ (t : Addr) (o : Obj) (k : Value) (n : Nat), v = .ref t ∧ t ≠ d ∧ t ≠ it ∧ h.get? t = some o ∧ o.cls = .type "tuple" ∧ o.data = .seq #[k, p.2] n ∧ knd.is p.1 k = true
theorem pairs_loop (hh : A.handled = none) {d it l : Addr} {items : Array Value} {ps : List (K × Value)} {R : Result → Shared → Prop} (hdl : d ≠ l) (hil : it ≠ l) (hdi : d ≠ it) (hn : items.size = ps.length) (hz : 2 * ps.length ≤ sizeLine) (res : Value) :
    ∀ (m i : Nat) (s : Shared) (cur : List (K × Value)), i + m = ps.length → s.heap.IsListIter it l i → s.heap.IsList l items → s.heap.DictOf knd d cur → cur.length ≤ i →
    (∀ (j : Nat) (v : Value) (p : K × Value), items[j]? = some v → ps[j]? = some p → PairAt (knd := knd) s.heap d it v p) →
    (∀ h' tk', h'.DictOf knd d (addAll cur (ps.drop i)) → (∀ b o, b ≠ d → b ≠ it → s.heap.get? b = some o → h'.get? b = some o) → R (.ok (.ret res)) { s with heap := h', toks := tk' }) →
    codeAny (model prog w) A (.builtin "dict.update.loop" ⟨[.ref d, .ref it, rawInt i, res], []⟩) R s := by
  intro m
  induction m with
  | zero =>
    intro i s cur hm hit hl hd hc hp hR
    refine codeAny_builtin entry_loop ?_
    rw [Around.under_plainId plain_loop _]
    show wpAny _ A.in1 (pyNext (.ref it) >>= _) _ _ s
    refine wpAny_bind (wpAny_pyNext_list_end (A := A.in1) hh hit hl (by rw [Array.getElem?_eq_none (by omega)]) fun h' eb => ?_)
    have hd' : h'.DictOf knd d cur := by
      obtain ⟨o, es, ep, ho, r⟩ := hd
      exact ⟨o, es, ep, eb d o hdi ho, r⟩
    have := hR h' s.toks (by rw [List.drop_eq_nil_of_le (by omega)]; exact hd') fun b o hb1 hb2 e => eb b o hb2 e
    show wpAny (model prog w) A.in1 (Dict.addKeywords d [] >>= fun _ => ret res) _ _ _
    refine wpAny_bind (m := Dict.addKeywords d []) (wpAny_pure ?_)
    exact wpAny_pure this
  | succ m ih =>
    intro i s cur hm hit hl hd hc hp hR
    refine codeAny_builtin entry_loop ?_
    rw [Around.under_plainId plain_loop _]
    have hi : i < items.size := by omega
    have hip : i < ps.length := by omega
    have hx : items[i]? = some items[i] := Array.getElem?_eq_getElem hi
    have hpx : ps[i]? = some ps[i] := List.getElem?_eq_getElem hip
    obtain ⟨t, o, k, n, ev, htd, hti, ho, hc1, hd1, hk⟩ := (hp i _ _ hx hpx).at_
    rw [ev] at hx
    show wpAny _ A.in1 (pyNext (.ref it) >>= _) _ _ s
    refine wpAny_bind (wpAny_pyNext_list_item (A := A.in1) hit hl hx fun h1 hit1 sb1 => ?_)
    have ho1 : h1.get? t = some o := (sb1.2 t hti).trans ho
    have hT : (({ s with heap := h1 } : Shared)).TypeIs (.ref t) "tuple" := ⟨_, ho1, hc1⟩
    have hd1' : h1.DictOf knd d cur := hd.sameBut sb1 hdi
    dsimp only
    refine wpAny_bind (wpAny_holding (wpAny_bind (wpAny_tryCatch ?_)))
    unfold Dict.pairItems
    refine wpAny_bind (wpAny_typeOf hT ?_)
    rw [if_pos (by decide)]
    refine wpAny_bind ?_
    unfold seqItems?
    refine wpAny_bind (wpAny_load ho1 ?_)
    rw [hd1]
    refine wpAny_pure (wpAny_pure ?_)
    show wpAny (model prog w) A.in1 (holding [k, ps[i].2] (dictSet d k ps[i].2)) _ _ _
    refine wpAny_holding (wpAny_dictSet_pairs hk hd1' (fun h2 hd2 sb2 => ?_) (by omega))
    have hit2 : h2.IsListIter it l (i + 1) := by
      obtain ⟨oi, e, c⟩ := hit1
      exact ⟨oi, (sb2.2 it (Ne.symm hdi)).trans e, c⟩
    have keep : ∀ b ob, b ≠ d → b ≠ it → s.heap.get? b = some ob → h2.get? b = some ob := fun b ob hb1 hb2 e => (sb2.2 b hb1).trans ((sb1.2 b hb2).trans e)
    have hl2 : h2.IsList l items := by
      obtain ⟨ol, e, c⟩ := hl
      exact ⟨ol, keep l ol (Ne.symm hdl) (Ne.symm hil) e, c⟩
    refine wpAny_pure ⟨plainId_quiet plain_loop _, ?_⟩
    have hlen : (stored cur ps[i].1 ps[i].2).length ≤ i + 1 := by
      unfold stored
      split
      · rw [List.length_map]; omega
      · rw [List.length_append]; show cur.length + 1 ≤ i + 1; omega
    refine ih (i + 1) _ _ (by omega) hit2 hl2 hd2 hlen (fun j v p h1 h2 => ?_) fun h' tk' hd' kp => ?_
    · obtain ⟨t', o', k', n', e1, e2, e3, e4, e5⟩ := (hp j v p h1 h2).at_
      exact ⟨⟨t', o', k', n', e1, e2, e3, keep t' o' e2 e3 e4, e5⟩⟩
    · refine hR h' tk' ?_ fun b ob hb1 hb2 e => kp b ob hb1 hb2 (keep b ob hb1 hb2 e)
      rw [List.drop_eq_getElem_cons hip]
      exact hd'
theorem dict_pairs (hh : A.handled = none) {s : Shared} {l : Addr} {items : Array Value} {n : Nat} {sl : Array (Option Value)} {ps : List (K × Value)} {Q : Value → Shared → Prop} (hl : s.heap.get? l = some { cls := .type "list", dict := none, data := .seq items n, slots := sl }) (hn : items.size = ps.length) (hz : 2 * ps.length ≤ sizeLine)
    (hp : ∀ (j : Nat) (v : Value) (p : K × Value), items[j]? = some v → ps[j]? = some p → ∃ (t : Addr) (o : Obj) (k : Value) (n : Nat), v = .ref t ∧ s.heap.get? t = some o ∧ o.cls = .type "tuple" ∧ o.data = .seq #[k, p.2] n ∧ knd.is p.1 k = true)
    (hQ : ∀ h' tk', h'.DictOf knd s.heap.objs.size (addAll [] ps) → (∀ b o, s.heap.get? b = some o → h'.get? b = some o) → Q (.ref s.heap.objs.size) { s with heap := h', toks := tk' }) :
    wpAny (model prog w) A (call (.type "dict") [.ref l]) Q E s := by
  refine callType_codes (Q₁ := fun obj s₁ => obj = .ref s.heap.objs.size ∧ s₁ = { s with heap := s.heap.push { cls := .type "dict", data := .dict #[] } }) F.kt_called_dict (F.kt_typeCall_dict_1 _) F.entry_dict_init (kt_code_dict_new _ ⟨rfl, rfl⟩) ?_
  rintro obj s₁ ⟨rfl, rfl⟩
  have hnew : (s.heap.push { cls := .type "dict", data := .dict #[] }).DictOf knd s.heap.objs.size [] := Heap.DictOf.new s.heap
  refine ⟨hnew.typeIs, F.args_dict_init_2 _ _, ?_⟩
  unfold Builtin.«dict.__init__»
  refine wpAny_bind ?_
  unfold Builtin.Dict.selfAndRest
  refine wpAny_bind (wpAny_notOrdered_dict hnew.typeIs ?_)
  refine (show wpAny _ _ (pure (s.heap.objs.size, [Value.ref l])) _ _ _ from ?_)
  refine wpAny_pure ?_
  refine (show wpAny _ _ (Builtin.Dict.updateFrom "dict.__init__" s.heap.objs.size (.ref l) [] .none) _ _ _ from ?_)
  unfold Builtin.Dict.updateFrom
  have hl1 : (s.heap.push { cls := .type "dict", data := .dict #[] }).get? l = some { cls := .type "list", dict := none, data := .seq items n, slots := sl } := Heap.get?_push_of_some _ hl
  refine wpAny_bind (wpAny_typeOf (T := "list") ⟨_, hl1, rfl⟩ ?_)
  rw [if_pos (by decide)]
  refine wpAny_bind (no_keys (A := A.in1.in1) hh hl1 fun h2 tk2 k2 => ?_)
  rw [if_pos (show (none : Option Value).isNone = true from rfl)]
  have hlt : l < s.heap.objs.size := Heap.lt_size hl
  have hl2 : h2.IsList l items := ⟨_, k2 _ _ hl1, rfl, n, rfl⟩
  refine wpAny_bind (wpAny_rule (wpAny_bind (wpAny_pyIter_list hl2 ?_)))
  have hd2 : h2.DictOf knd s.heap.objs.size [] := by
    obtain ⟨o, es, ep, ho, r⟩ := hnew
    exact ⟨o, es, ep, k2 _ _ ho, r⟩
  have hdlt : s.heap.objs.size < h2.objs.size := by
    obtain ⟨o, es, ep, ho, r⟩ := hd2
    exact Heap.lt_size ho
  have k1 : ∀ b o, s.heap.get? b = some o → h2.get? b = some o := fun b o e => k2 b o (Heap.get?_push_of_some _ e)
  have k3 : ∀ b o, h2.get? b = some o → (h2.push { cls := .type "list_iterator", data := .fields #[.ref l, .int 0 0] }).get? b = some o := fun b o e => Heap.get?_push_of_some _ e
  have hl3 : (h2.push { cls := .type "list_iterator", data := .fields #[.ref l, .int 0 0] }).IsList l items := ⟨_, k3 _ _ (k2 _ _ hl1), rfl, n, rfl⟩
  have hd3 : (h2.push { cls := .type "list_iterator", data := .fields #[.ref l, .int 0 0] }).DictOf knd s.heap.objs.size [] := hd2.push _
  refine wpAny_pure ⟨plainId_quiet plain_loop _, pairs_loop (A := A.in1) hh (d := s.heap.objs.size) (it := h2.objs.size) (l := l) (items := items) (ps := ps) (Nat.ne_of_gt hlt) (Nat.ne_of_gt (Nat.lt_trans hlt hdlt)) (Nat.ne_of_lt hdlt) hn hz .none ps.length 0 _ [] (by omega) ⟨_, Heap.get?_push_size _ rfl, rfl, rfl⟩ hl3 hd3 (Nat.le_refl _) (fun j v p h1 h2' => ?_) fun h' tk' hd' kp => ?_⟩
  · obtain ⟨t, o, k, n', e1, e2, e3, e4, e5⟩ := hp j v p h1 h2'
    have ht := Heap.lt_size e2
    exact ⟨⟨t, o, k, n', e1, Nat.ne_of_lt ht, Nat.ne_of_lt (Nat.lt_trans ht hdlt), k3 _ _ (k1 _ _ e2), e3, e4, e5⟩⟩
  · refine ⟨rfl, hQ h' tk' hd' fun b o e => ?_⟩
    have hb := Heap.lt_size e
    exact kp b o (Nat.ne_of_lt hb) (Nat.ne_of_lt (Nat.lt_trans hb hdlt)) (k3 _ _ (k1 _ _ e))
end
end PySem.AwK

namespace L2
open PySem PySem.Spec PyProof.Rows
section
variable {X : Cx}
def inrK (ps : List (Str × V)) : List (Key × V) := ps.map fun p => (Sum.inr p.1, p.2)
theorem inrK_keys (ps : List (Str × V)) : (inrK ps).map (·.1) = (ps.map (·.1)).map Sum.inr := by
  unfold inrK
  rw [List.map_map, List.map_map]
  rfl
theorem stored_new {kvs : List (Key × Value)} {k : Key} {v : Value} (h : k ∉ kvs.map (·.1)) : stored kvs k v = kvs ++ [(k, v)] := by
  unfold stored
  rw [if_neg]
  intro q
  obtain ⟨p, hp, e⟩ := List.any_eq_true.mp q
  exact h (List.mem_map.mpr ⟨p, hp, of_decide_eq_true e⟩)
theorem addAll_new : ∀ {ps cur : List (Key × Value)}, ((cur ++ ps).map (·.1)).Nodup → AwK.addAll cur ps = cur ++ ps
  | [], cur, _ => (List.append_nil cur).symm
  | p :: r, cur, h => by
    unfold AwK.addAll
    have hk : p.1 ∉ cur.map (·.1) := by
      rw [List.map_append, List.map_cons] at h
      intro q
      exact (List.nodup_append.mp h).2.2 _ q _ List.mem_cons_self rfl
    rw [stored_new hk, addAll_new (by rw [List.append_assoc]; exact h), List.append_assoc]
    rfl
theorem pairs_are {P : Program} {w : World} {H : Hp} {h : Heap} (ok : HOk P w H h) : ∀ {ts : List Addr} {ps : List (Str × V)}, ts.length = ps.length → (∀ (i : Nat) (t : Addr) (p : Str × V), ts[i]? = some t → ps[i]? = some p → H t = some (.tup [.str p.1, p.2])) →
    ∃ pv : List (Key × Value), KV (inrK ps) pv ∧ ∀ (j : Nat) (v : Value) (p : Key × Value), (ts.map Value.ref)[j]? = some v → pv[j]? = some p → ∃ (t : Addr) (o : Obj) (k : Value) (n : Nat), v = .ref t ∧ h.get? t = some o ∧ o.cls = .type "tuple" ∧ o.data = .seq #[k, p.2] n ∧ (mixKind P w).is p.1 k = true
  | [], [], _, _ => ⟨[], .nil, fun j v p e => by simp at e⟩
  | t :: ts, p :: ps, hl, hp => by
    obtain ⟨pv, h1, h2⟩ := pairs_are ok (ts := ts) (ps := ps) (by simpa using hl) fun i t' p' e1 e2 => hp (i + 1) t' p' (by simpa using e1) (by simpa using e2)
    obtain ⟨_, its, rv, o, ho, hc, n, hd⟩ := (show ObjOk P w H h t (.tup [.str p.1, p.2]) from ok t _ (hp 0 t p rfl rfl))
    cases rv with
    | cons r1 rv =>
    cases rv with
    | cons r2 rv =>
    cases rv with
    | nil =>
    obtain ⟨tk, rfl⟩ := r1
    rename_i u
    refine ⟨(Sum.inr p.1, u) :: pv, .cons ⟨rfl, r2⟩ h1, fun j v q e1 e2 => ?_⟩
    cases j with
    | zero =>
      simp only [List.map_cons, List.getElem?_cons_zero, Option.some.injEq] at e1 e2
      subst e1 e2
      exact ⟨t, o, _, n, rfl, ho, hc, hd, mixKind_str _ _ _ _⟩
    | succ j => exact h2 j v q (by simpa using e1) (by simpa using e2)
  | [], _ :: _, hl, _ => by simp at hl
  | _ :: _, [], hl, _ => by simp at hl
def PairsL (H : Hp) (l : Addr) (ps : List (Str × V)) : Prop := ∃ ts : List Addr, H l = some (.lst (ts.map V.ref)) ∧ ts.length = ps.length ∧ ∀ (i : Nat) (t : Addr) (p : Str × V), ts[i]? = some t → ps[i]? = some p → H t = some (.tup [.str p.1, p.2])
theorem dict_of {pins : List (Addr × Obj)} {σ : St} {H : Hp} {s : Shared} {l : Addr} {ps : List (Str × V)} {Q : Value → Shared → Prop} (hc : X.calm = true) (I : Inv X pins σ H s) (hl : PairsL H l ps) (hn : (ps.map (·.1)).Nodup) (hz : ps.length ≤ 1000)
    (h : ∀ h' tk' pv, 0 < tk' → (∀ b o, s.heap.get? b = some o → h'.get? b = some o) → KV (inrK ps) pv → h'.DictOf (mixKind X.prog X.w) s.heap.objs.size pv → Q (.ref s.heap.objs.size) { s with heap := h', toks := tk' }) :
    wpAny (model X.prog X.w) X.A (call (.type "dict") [.ref l]) Q X.xe s := by
  obtain ⟨ts, e1, e2, e3⟩ := hl
  obtain ⟨_, its, n, rv, ho⟩ := (show ObjOk X.prog X.w H s.heap l (.lst (ts.map V.ref)) from I.hok l _ e1)
  cases vals_refs rv
  obtain ⟨pv, r, hp⟩ := pairs_are I.hok e2 e3
  have hpl : pv.length = ps.length := by
    rw [← r.length]
    unfold inrK
    rw [List.length_map]
  have hnd : (pv.map (·.1)).Nodup := by
    rw [← r.keys, inrK_keys]
    exact List.Pairwise.map _ (fun a b hab e => hab (Sum.inr.inj e)) hn
  refine wpAny_with_toks (n := 1) I.tk ?_
  refine AwK.dict_pairs (knd := mixKind X.prog X.w) (I.ok.hd hc) (ps := pv) ho (by rw [List.size_toArray, List.length_map]; omega) (by rw [sizeLine_eq]; omega) (fun j v p h1 h2 => hp j v p (by simpa using h1) h2) fun h' tk' hd' kp => ?_
  rw [addAll_new (by simpa using hnd), List.nil_append] at hd'
  exact fun htk => h h' tk' pv htk kp r hd'
/-- dict(l), l a list of pairs of a text and something -/
theorem call_dictP (hc : X.calm = true) : CallR X (.type "dict") (fun xs H Q => ∃ (l : Addr) (ps : List (Str × V)), xs = [.ref l] ∧ PairsL H l ps ∧ (ps.map (·.1)).Nodup ∧ ps.length ≤ 1000 ∧ ∀ q, H q = none → Q (.ref q) (upd H q (.dK (inrK ps)))) := by
  intro pins s σ H xs us Q I r h
  obtain ⟨l, ps, rfl, hl, hn, hz, q⟩ := h
  obtain ⟨u, rfl, ru⟩ := vals1 r
  cases ru
  refine dict_of hc I hl hn hz fun h' tk' pv htk kp rel dd => ?_
  have hlo : (s.heap.objs.size == sysModules) = false := by
    rw [beq_eq_false_iff_ne]
    exact Nat.ne_of_gt I.big
  have hz' : (inrK ps).length ≤ sizeLine := by unfold inrK; rw [List.length_map, sizeLine_eq]; omega
  exact ⟨.ref s.heap.objs.size, _, I.laid kp (Nat.le_refl _) (dk_new hz' hlo rel dd), rfl, q _ I.fresh⟩
/-- .. that is not written any more -/
theorem call_dictF (hc : X.calm = true) : CallR X (.type "dict") (fun xs H Q => ∃ (l : Addr) (ps : List (Str × V)), xs = [.ref l] ∧ PairsL H l ps ∧ (ps.map (·.1)).Nodup ∧ ps.length ≤ 1000 ∧ ∀ q o, H q = none → Q (.ref q) (upd H q (.frz o (.dK (inrK ps))))) := by
  intro pins s σ H xs us Q I r h
  obtain ⟨l, ps, rfl, hl, hn, hz, q⟩ := h
  obtain ⟨u, rfl, ru⟩ := vals1 r
  cases ru
  refine dict_of hc I hl hn hz fun h' tk' pv htk kp rel dd => ?_
  have hlo : (s.heap.objs.size == sysModules) = false := by
    rw [beq_eq_false_iff_ne]
    exact Nat.ne_of_gt I.big
  have hz' : (inrK ps).length ≤ sizeLine := by unfold inrK; rw [List.length_map, sizeLine_eq]; omega
  obtain ⟨o, es, ep, ho, rr⟩ := id dd
  exact ⟨.ref s.heap.objs.size, _, I.laid (o := .frz o (.dK (inrK ps))) kp (Nat.le_refl _) ⟨ho, dk_new hz' hlo rel dd⟩, rfl, q _ o I.fresh⟩
end
end L2

namespace AwQ
open PySem PySem.SeqAt
open PySem.AutoSeq1 (wpAny_loadPart')
open PySem.MeetsSeq PySem.MeetsSeq2 PySem.MeetsSeq3
end AwQ

namespace L2
open PySem PySem.Spec PyProof.Rows
/-! ### deep data of texts, ints and tuples: == and < -/
mutual
def puD : D → Bool
  | .str _ => true
  | .int _ => true
  | .tup xs => puL xs
  | _ => false
def puL : List D → Bool
  | [] => true
  | x :: r => puD x && puL r
end
mutual
def eqD : D → D → Bool
  | .str a, .str b => a == b
  | .int a, .int b => a == b
  | .tup xs, .tup ys => eqL xs ys
  | _, _ => false
def eqL : List D → List D → Bool
  | [], [] => true
  | x :: r, y :: q => eqD x y && eqL r q
  | _, _ => false
end
mutual
theorem eqD_iff : ∀ {d e : D}, puD d = true → (eqD d e = true ↔ d = e)
  | .str a, e, _ => by cases e <;> simp [eqD]
  | .int a, e, _ => by cases e <;> simp [eqD]
  | .tup xs, .tup ys, h => by
    have := eqL_iff (xs := xs) (ys := ys) (by simpa [puD] using h)
    simp only [eqD, this, D.tup.injEq]
  | .tup xs, .non, _ => by simp [eqD]
  | .tup xs, .bl _, _ => by simp [eqD]
  | .tup xs, .int _, _ => by simp [eqD]
  | .tup xs, .str _, _ => by simp [eqD]
  | .tup xs, .lst, _ => by simp [eqD]
  | .tup xs, .dct, _ => by simp [eqD]
  | .non, _, h => by simp [puD] at h
  | .bl _, _, h => by simp [puD] at h
  | .lst, _, h => by simp [puD] at h
  | .dct, _, h => by simp [puD] at h
theorem eqL_iff : ∀ {xs ys : List D}, puL xs = true → (eqL xs ys = true ↔ xs = ys)
  | [], [], _ => by simp [eqL]
  | [], _ :: _, _ => by simp [eqL]
  | _ :: _, [], _ => by simp [eqL]
  | x :: r, y :: q, h => by
    have h' : puD x = true ∧ puL r = true := by simpa [puL] using h
    simp only [eqL, Bool.and_eq_true, eqD_iff h'.1, eqL_iff h'.2, List.cons.injEq]
end
mutual
/-- one place, one datum -/
theorem Is.det {H : Hp} : ∀ {d e : D} {v : V}, puD d = true → puD e = true → Is H d v → Is H e v → d = e
  | .str a, e, v, _, he, h1, h2 => by
    obtain ⟨rfl, _⟩ := (show v = .str a ∧ _ from h1)
    cases e with
    | str b => obtain ⟨q, _⟩ := (show V.str a = V.str b ∧ _ from h2); cases q; rfl
    | int b => cases (show V.str a = V.int b from h2)
    | tup ys => obtain ⟨p, us, q, _⟩ := (show ∃ p us, V.str a = V.ref p ∧ _ from h2); cases q
    | _ => simp [puD] at he
  | .int a, e, v, _, he, h1, h2 => by
    cases (show v = .int a from h1)
    cases e with
    | str b => obtain ⟨q, _⟩ := (show V.int a = V.str b ∧ _ from h2); cases q
    | int b => cases (show V.int a = V.int b from h2); rfl
    | tup ys => obtain ⟨p, us, q, _⟩ := (show ∃ p us, V.int a = V.ref p ∧ _ from h2); cases q
    | _ => simp [puD] at he
  | .tup xs, e, v, hd, he, h1, h2 => by
    obtain ⟨p, vs, rfl, hp, hl⟩ := (show ∃ p vs, v = V.ref p ∧ H p = some (.tup vs) ∧ IsL H xs vs from h1)
    cases e with
    | str b => obtain ⟨q, _⟩ := (show V.ref p = V.str b ∧ _ from h2); cases q
    | int b => cases (show V.ref p = V.int b from h2)
    | tup ys =>
      obtain ⟨p', us, q, hp', hl'⟩ := (show ∃ p' us, V.ref p = V.ref p' ∧ H p' = some (.tup us) ∧ IsL H ys us from h2)
      cases q
      rw [hp] at hp'
      cases hp'
      rw [IsL.det (by simpa [puD] using hd) (by simpa [puD] using he) hl hl']
    | _ => simp [puD] at he
  | .non, _, _, hd, _, _, _ => by simp [puD] at hd
  | .bl _, _, _, hd, _, _, _ => by simp [puD] at hd
  | .lst, _, _, hd, _, _, _ => by simp [puD] at hd
  | .dct, _, _, hd, _, _, _ => by simp [puD] at hd
theorem IsL.det {H : Hp} : ∀ {xs ys : List D} {vs : List V}, puL xs = true → puL ys = true → IsL H xs vs → IsL H ys vs → xs = ys
  | [], [], _, _, _, _, _ => rfl
  | [], _ :: _, _, _, _, h1, h2 => by
    cases (show _ = [] from h1)
    obtain ⟨v, r, q, _⟩ := (show ∃ v r, [] = v :: r ∧ _ from h2)
    cases q
  | _ :: _, [], _, _, _, h1, h2 => by
    cases (show _ = [] from h2)
    obtain ⟨v, r, q, _⟩ := (show ∃ v r, [] = v :: r ∧ _ from h1)
    cases q
  | x :: xs, y :: ys, _, hd, he, h1, h2 => by
    obtain ⟨v, r, rfl, a1, a2⟩ := h1
    obtain ⟨v', r', q, b1, b2⟩ := h2
    cases q
    have hd' : puD x = true ∧ puL xs = true := by simpa [puL] using hd
    have he' : puD y = true ∧ puL ys = true := by simpa [puL] using he
    rw [Is.det hd'.1 he'.1 a1 b1, IsL.det hd'.2 he'.2 a2 b2]
end
theorem eqL_all : ∀ (xs ys : List D), eqL xs ys = ((List.range (min xs.length ys.length)).all (fun j => eqD (xs.getD j .non) (ys.getD j .non)) && xs.length == ys.length)
  | [], [] => by simp [eqL]
  | [], _ :: _ => by simp [eqL]
  | _ :: _, [] => by simp [eqL]
  | x :: r, y :: q => by
    have ih := eqL_all r q
    rw [List.length_cons, List.length_cons, show min (r.length + 1) (q.length + 1) = min r.length q.length + 1 by omega, List.range_succ_eq_map, List.all_cons, List.all_map]
    have e : (List.range (min r.length q.length)).all ((fun j => eqD ((x :: r).getD j .non) ((y :: q).getD j .non)) ∘ Nat.succ) = (List.range (min r.length q.length)).all fun j => eqD (r.getD j .non) (q.getD j .non) := by congr 1
    rw [e]
    have e2 : (r.length + 1 == q.length + 1) = (r.length == q.length) := by rw [Bool.eq_iff_iff]; simp
    rw [e2, Bool.and_assoc, ← ih]
    rfl
end L2

set_option maxHeartbeats 400000
namespace L2
open PySem PySem.Spec PyProof.Rows
section
variable {X : Cx} {pins : List (Addr × Obj)} {σ : St} {H : Hp} {s : Shared}
theorem eqAt_str (I : Inv X pins σ H s) {z : Str} {t : Tok} {e : D} {u : V} {b : Value} {A : Around} (he : puD e = true) (h2 : Is H e u) (r2 : RelV u b) (hu : A.units < cLine) : SeqAt.EqAt A s (.str z t) b (eqD (.str z) e) := by
  cases e with
  | str y =>
    obtain ⟨rfl, _⟩ := (show u = .str y ∧ _ from h2)
    obtain ⟨t2, rfl⟩ := r2
    exact SeqAt.EqAt.str_str _ _ _ _
  | int y =>
    cases (show u = .int y from h2)
    obtain ⟨t2, rfl⟩ := r2
    exact SeqAt.EqAt.str_int _ _ _ _
  | tup ys =>
    obtain ⟨p, us, rfl, hp, hl⟩ := (show ∃ p us, u = V.ref p ∧ H p = some (.tup us) ∧ IsL H ys us from h2)
    cases r2
    obtain ⟨its, _, q, _⟩ := I.tuple (.inl (.of hp))
    exact SeqAt.EqAt.str_tuple _ _ q hu
  | _ => simp [puD] at he
theorem eqAt_int (I : Inv X pins σ H s) {z : Int} {t : Tok} {e : D} {u : V} {b : Value} {A : Around} (he : puD e = true) (h2 : Is H e u) (r2 : RelV u b) (hu : A.units < cLine) : SeqAt.EqAt A s (.int z t) b (eqD (.int z) e) := by
  cases e with
  | str y =>
    obtain ⟨rfl, _⟩ := (show u = .str y ∧ _ from h2)
    obtain ⟨t2, rfl⟩ := r2
    exact SeqAt.EqAt.int_str _ _ _ _
  | int y =>
    cases (show u = .int y from h2)
    obtain ⟨t2, rfl⟩ := r2
    exact SeqAt.EqAt.int_int _ _ _ _
  | tup ys =>
    obtain ⟨p, us, rfl, hp, hl⟩ := (show ∃ p us, u = V.ref p ∧ H p = some (.tup us) ∧ IsL H ys us from h2)
    cases r2
    obtain ⟨its, _, q, _⟩ := I.tuple (.inl (.of hp))
    exact SeqAt.EqAt.int_tuple _ _ q hu
  | _ => simp [puD] at he
theorem puL_get : ∀ {xs : List D} {j : Nat} {x : D}, puL xs = true → xs[j]? = some x → puD x = true
  | [], _, _, _, e => by simp at e
  | y :: r, 0, x, h, e => by
    have h' : puD y = true ∧ puL r = true := by simpa [puL] using h
    have : y = x := by simpa using e
    exact this ▸ h'.1
  | y :: r, j + 1, x, h, e => by
    have h' : puD y = true ∧ puL r = true := by simpa [puL] using h
    exact puL_get h'.2 (by simpa using e)
theorem eqAt_tup (I : Inv X pins σ H s) {xs : List D} {e : D} {v u : V} {a b : Value} {A : Around} (hd : puD (.tup xs) = true) (he : puD e = true) (h1 : Is H (.tup xs) v) (h2 : Is H e u) (r1 : RelV v a) (r2 : RelV u b) (hu : A.units < cLine)
    (ih : ∀ x ∈ xs, ∀ (e : D) (v u : V) (a b : Value), puD x = true → puD e = true → Is H x v → Is H e u → RelV v a → RelV u b → SeqAt.EqAt A.in1 s a b (eqD x e)) : SeqAt.EqAt A s a b (eqD (.tup xs) e) := by
  obtain ⟨p, vs, rfl, hp, hl⟩ := (show ∃ p vs, v = V.ref p ∧ H p = some (.tup vs) ∧ IsL H xs vs from h1)
  cases r1
  obtain ⟨its, rv, q, _⟩ := I.tuple (.inl (.of hp))
  cases e with
  | str y =>
    obtain ⟨rfl, _⟩ := (show u = .str y ∧ _ from h2)
    obtain ⟨t2, rfl⟩ := r2
    exact SeqAt.EqAt.tuple_str _ _ q hu
  | int y =>
    cases (show u = .int y from h2)
    obtain ⟨t2, rfl⟩ := r2
    exact SeqAt.EqAt.tuple_int _ _ q hu
  | tup ys =>
    by_cases hv : V.ref p = u
    · have := Is.det (e := .tup ys) hd he h1 (hv ▸ h2)
      subst hv
      cases r2
      rw [← this, (eqD_iff hd).mpr rfl]
      exact SeqAt.EqAt.same _
    · obtain ⟨p', us, rfl, hp', hl'⟩ := (show ∃ p' us, u = V.ref p' ∧ H p' = some (.tup us) ∧ IsL H ys us from h2)
      cases r2
      obtain ⟨its', rv', q', _⟩ := I.tuple (.inl (.of hp'))
      have l1 : its.length = xs.length := by rw [← rv.length, hl.length]
      have l2 : its'.length = ys.length := by rw [← rv'.length, hl'.length]
      have hd' : puL xs = true := by simpa [puD] using hd
      have he' : puL ys = true := by simpa [puD] using he
      have key := SeqAt.RcAt.tuples (e := fun j => eqD (xs.getD j .non) (ys.getD j .non)) q q' hu fun j a1 a2 => by
        have j1 : j < xs.length := by rw [← l1]; simpa using a1
        have j2 : j < ys.length := by rw [← l2]; simpa using a2
        obtain ⟨v1, e1, i1⟩ := hl.get (i := j) (d := xs[j]) (by simp [j1])
        obtain ⟨v2, e2, i2⟩ := hl'.get (i := j) (d := ys[j]) (by simp [j2])
        obtain ⟨b1, f1, g1⟩ := rv.get e1
        obtain ⟨b2, f2, g2⟩ := rv'.get e2
        have k1 : its.toArray[j] = b1 := by
          have := f1
          rw [List.getElem?_eq_getElem (by rw [l1]; exact j1)] at this
          simpa using this
        have k2 : its'.toArray[j] = b2 := by
          have := f2
          rw [List.getElem?_eq_getElem (by rw [l2]; exact j2)] at this
          simpa using this
        have d1 : xs.getD j .non = xs[j] := by simp [List.getD, j1]
        have d2 : ys.getD j .non = ys[j] := by simp [List.getD, j2]
        show SeqAt.EqAt _ s _ _ (eqD (xs.getD j .non) (ys.getD j .non))
        rw [k1, k2, d1, d2]
        exact ih _ (List.getElem_mem j1) _ _ _ _ _ (puL_get (j := j) hd' (by simp [j1])) (puL_get (j := j) he' (by simp [j2])) i1 i2 g1 g2
      have e1 : eqD (.tup xs) (.tup ys) = ((List.range (min its.toArray.size its'.toArray.size)).all (fun j => eqD (xs.getD j .non) (ys.getD j .non)) && its.toArray.size == its'.toArray.size) := by
        rw [List.size_toArray, List.size_toArray, l1, l2, ← eqL_all]
        simp only [eqD]
      rw [e1]
      exact SeqAt.EqAt.of_refs (fun z => hv (by rw [z])) key
  | _ => simp [puD] at he
theorem eqAt_D (I : Inv X pins σ H s) : ∀ (n : Nat) (d e : D) (v u : V) (a b : Value) (A : Around), dp d ≤ n → puD d = true → puD e = true → Is H d v → Is H e u → RelV v a → RelV u b → A.units + n < cLine → SeqAt.EqAt A s a b (eqD d e) := by
  intro n
  induction n with
  | zero =>
    intro d e v u a b A hn hd he h1 h2 r1 r2 hu
    cases d with
    | int z =>
      cases (show v = .int z from h1)
      obtain ⟨t, rfl⟩ := r1
      exact eqAt_int I he h2 r2 hu
    | str z => simp [dp] at hn
    | tup xs => simp [dp] at hn
    | _ => simp [puD] at hd
  | succ n ih =>
    intro d e v u a b A hn hd he h1 h2 r1 r2 hu
    have hu0 : A.units < cLine := Nat.lt_of_le_of_lt (Nat.le_add_right _ _) hu
    cases d with
    | int z =>
      cases (show v = .int z from h1)
      obtain ⟨t, rfl⟩ := r1
      exact eqAt_int I he h2 r2 hu0
    | str z =>
      obtain ⟨rfl, _⟩ := (show v = .str z ∧ _ from h1)
      obtain ⟨t, rfl⟩ := r1
      exact eqAt_str I he h2 r2 hu0
    | tup xs =>
      have hm : dpL xs ≤ n := by
        have : dp (.tup xs) = 1 + dpL xs := by simp only [dp]
        omega
      exact eqAt_tup I hd he h1 h2 r1 r2 hu0 fun x hx e v u a b k1 k2 k3 k4 k5 k6 => ih x e v u a b A.in1 ((dpL_le xs).mp hm x hx) k1 k2 k3 k4 k5 k6 (by rw [Around.in1_units]; omega)
    | _ => simp [puD] at hd
end
end L2

namespace L2
open PySem PySem.Spec PyProof.Rows
section
variable {X : Cx} {pins : List (Addr × Obj)} {σ : St} {H : Hp} {s : Shared}
end
section
variable {X : Cx}
end
end L2

namespace L2
open PySem PySem.Spec PyProof.Rows
section
variable {X : Cx}
/-- texts and tuples alone, at the top -/
def trD : D → Bool
  | .str _ => true
  | .tup xs => puL xs
  | _ => false
theorem parts_eq {pins : List (Addr × Obj)} {σ : St} {H : Hp} {s : Shared} (I : Inv X pins σ H s) {A : Around} {n : Nat} {xs ys : List D} {vs us : List V} {its its' : List Value} (hn : dpL xs ≤ n) (hd : puL xs = true) (he : puL ys = true) (hl : IsL H xs vs) (hl' : IsL H ys us) (rv : Vals vs its) (rv' : Vals us its') (hu : A.units + n < cLine) :
    ∀ j (a1 : j < its.toArray.size) (a2 : j < its'.toArray.size), SeqAt.EqAt A s its.toArray[j] its'.toArray[j] (eqD (xs.getD j .non) (ys.getD j .non)) := fun j a1 a2 => by
  have l1 : its.length = xs.length := by rw [← rv.length, hl.length]
  have l2 : its'.length = ys.length := by rw [← rv'.length, hl'.length]
  have j1 : j < xs.length := by rw [← l1]; simpa using a1
  have j2 : j < ys.length := by rw [← l2]; simpa using a2
  obtain ⟨v1, e1, i1⟩ := hl.get (i := j) (d := xs[j]) (by simp [j1])
  obtain ⟨v2, e2, i2⟩ := hl'.get (i := j) (d := ys[j]) (by simp [j2])
  obtain ⟨b1, f1, g1⟩ := rv.get e1
  obtain ⟨b2, f2, g2⟩ := rv'.get e2
  have k1 : its.toArray[j] = b1 := by
    have := f1
    rw [List.getElem?_eq_getElem (by rw [l1]; exact j1)] at this
    simpa using this
  have k2 : its'.toArray[j] = b2 := by
    have := f2
    rw [List.getElem?_eq_getElem (by rw [l2]; exact j2)] at this
    simpa using this
  have d1 : xs.getD j .non = xs[j] := by simp [List.getD, j1]
  have d2 : ys.getD j .non = ys[j] := by simp [List.getD, j2]
  rw [k1, k2, d1, d2]
  exact eqAt_D I n _ _ _ _ _ _ A ((dpL_le xs).mp hn _ (List.getElem_mem j1)) (puL_get (j := j) hd (by simp [j1])) (puL_get (j := j) he (by simp [j2])) i1 i2 g1 g2 hu
/-- both of them at once: eq is ==, ne is != -/
theorem rc_D {pins : List (Addr × Obj)} {σ : St} {H : Hp} {s : Shared} (I : Inv X pins σ H s) {A : Around} {d e : D} {x y : V} {v u : Value} (h1 : Is H d x) (h2 : Is H e y) (p1 : trD d = true) (p2 : trD e = true) (hn : dp d ≤ 60) (rx : RelV x v) (ry : RelV y u) (hu : A.units + 64 < cLine) :
    SeqAt.RcAt A s v u (eqD d e) ∧ SeqAt.RcNeAt A s v u (!eqD d e) := by
  have hu0 : A.units < cLine := by omega
  cases d with
  | str z =>
    obtain ⟨rfl, _⟩ := (show x = .str z ∧ _ from h1)
    obtain ⟨t, rfl⟩ := rx
    cases e with
    | str w =>
      obtain ⟨rfl, _⟩ := (show y = .str w ∧ _ from h2)
      obtain ⟨t2, rfl⟩ := ry
      exact ⟨SeqAt.RcAt.str_str _ _ _ _, SeqAt.RcNeAt.str_str _ _ _ _⟩
    | tup ys =>
      obtain ⟨p, us, rfl, hp, hl⟩ := (show ∃ p us, y = V.ref p ∧ H p = some (.tup us) ∧ IsL H ys us from h2)
      cases ry
      obtain ⟨its, _, q, _⟩ := I.tuple (.inl (.of hp))
      exact ⟨SeqAt.RcAt.str_tuple _ _ q hu0, SeqAt.RcNeAt.str_tuple _ _ q hu0⟩
    | _ => simp [trD] at p2
  | tup xs =>
    obtain ⟨p, vs, rfl, hp, hl⟩ := (show ∃ p vs, x = V.ref p ∧ H p = some (.tup vs) ∧ IsL H xs vs from h1)
    cases rx
    obtain ⟨its, rv, q, _⟩ := I.tuple (.inl (.of hp))
    cases e with
    | str w =>
      obtain ⟨rfl, _⟩ := (show y = .str w ∧ _ from h2)
      obtain ⟨t2, rfl⟩ := ry
      exact ⟨SeqAt.RcAt.tuple_str _ _ q hu0, SeqAt.RcNeAt.tuple_str _ _ q hu0⟩
    | tup ys =>
      obtain ⟨p', us, rfl, hp', hl'⟩ := (show ∃ p' us, y = V.ref p' ∧ H p' = some (.tup us) ∧ IsL H ys us from h2)
      cases ry
      obtain ⟨its', rv', q', _⟩ := I.tuple (.inl (.of hp'))
      have hm : dpL xs ≤ 60 := by
        have : dp (.tup xs) = 1 + dpL xs := by simp only [dp]
        omega
      have l1 : its.length = xs.length := by rw [← rv.length, hl.length]
      have l2 : its'.length = ys.length := by rw [← rv'.length, hl'.length]
      have pe := parts_eq I (A := A.in1) hm (by simpa [trD] using p1) (by simpa [trD] using p2) hl hl' rv rv' (by rw [Around.in1_units]; omega)
      have e1 : eqD (.tup xs) (.tup ys) = ((List.range (min its.toArray.size its'.toArray.size)).all (fun j => eqD (xs.getD j .non) (ys.getD j .non)) && its.toArray.size == its'.toArray.size) := by
        rw [List.size_toArray, List.size_toArray, l1, l2, ← eqL_all]
        simp only [eqD]
      rw [e1]
      exact ⟨SeqAt.RcAt.tuples q q' hu0 pe, SeqAt.RcNeAt.tuples q q' hu0 pe⟩
    | _ => simp [trD] at p2
  | _ => simp [trD] at p1
/-- d == e, d != e, deep -/
def rCmpD (g : Bool → Bool) : V → V → Hp → VK → Prop := fun x y H Q => ∃ d e : D, Is H d x ∧ Is H e y ∧ trD d = true ∧ trD e = true ∧ dp d ≤ 60 ∧ Q (.bl (g (eqD d e))) H
theorem op_eqD (hu : X.A.units + 64 < cLine) : OpR X (compareOp .Eq) (rCmpD id) := by
  intro pins s σ H x y v u Q I rx ry h
  obtain ⟨d, e, h1, h2, p1, p2, hn, q⟩ := h
  exact (rc_D I h1 h2 p1 p2 hn rx ry hu).1 X.prog X.w X.xe _ ⟨.bl _, H, I, rfl, q⟩
theorem op_neD (hu : X.A.units + 64 < cLine) : OpR X (compareOp .NotEq) (rCmpD not) := by
  intro pins s σ H x y v u Q I rx ry h
  obtain ⟨d, e, h1, h2, p1, p2, hn, q⟩ := h
  exact (rc_D I h1 h2 p1 p2 hn rx ry hu).2 X.prog X.w X.xe _ ⟨.bl _, H, I, rfl, q⟩
end
end L2

namespace L2
open PySem PySem.Spec PyProof.Rows
section
variable {X : Cx}
/-- l.count(b), l a list of bools -/
def rCount (K : PySem.W.Frag) : V → List V → Hp → VK → Prop := fun x vs H Q => ∃ (p : Addr) (bs : List Bool) (b : Bool), x = .ref p ∧ vs = [.bl b] ∧ SqL K H p (bs.map V.bl) ∧ Q (.int (bs.countP fun c => c == b : Nat)) H
theorem countP_bl {b : Bool} {e : Value → Bool} (he : ∀ c, e (.bool c) = (c == b)) : ∀ {bs : List Bool} {its : List Value}, Vals (bs.map V.bl) its → its.countP e = bs.countP fun c => c == b
  | [], _, .nil => rfl
  | c :: r, _, .cons h t => by
    cases h
    rw [List.countP_cons, List.countP_cons, countP_bl he t, he]
theorem mem_bl : ∀ {bs : List Bool} {its : List Value}, Vals (bs.map V.bl) its → ∀ y ∈ its, ∃ c, y = .bool c
  | [], _, .nil, _, h => nomatch h
  | c :: r, _, .cons h t, y, hy => by
    cases h
    rcases List.mem_cons.mp hy with rfl | hy
    · exact ⟨_, rfl⟩
    · exact mem_bl t y hy
theorem mt_count : MtM X "list.count" (rCount X.K) := by
  intro pins s σ H x vs v us Q I rx rv h
  obtain ⟨p, bs, b, rfl, rfl, hp, q⟩ := h
  cases rx
  obtain ⟨u, rfl, ru⟩ := rv.one
  cases ru
  obtain ⟨its, r, pl, hl⟩ := I.list hp
  obtain ⟨⟨cls, dd, data, sl⟩, ho, hc, n, hd⟩ := id pl.isList
  simp only at hc hd
  subst hc hd
  refine call_meets F.slot_list_count ⟨_, ho, rfl⟩ F.entry_list_count (F.args_list_count_2 _ _) (SeqAt.list_countAt p its.toArray n dd sl (.bool b) fun y => match y with | .bool c => c == b | _ => false) ⟨ho, fun y hy => ?_, ?_⟩
  · obtain ⟨c, rfl⟩ := mem_bl r y (by simpa using hy)
    exact SeqAt.EqAt.bool_bool c b
  · refine ⟨.int (bs.countP fun c => c == b : Nat), H, I.tok _, ⟨s.toks, ?_⟩, q⟩
    rw [countP_bl (b := b) (fun _ => rfl) r]
end
end L2

namespace L2
open PySem PySem.Spec PyProof.Rows
/-- len of a text, list or tuple; it has its bound -/
theorem call_lenZ {X : Cx} : CallR X (.builtin "len") (fun xs H Q => (∃ z : Str, xs = [.str z] ∧ z.length ≤ sizeLine ∧ Q (.int z.length) H) ∨ ∃ p ys, xs = [.ref p] ∧ (SqL X.K H p ys ∨ SqT X.K H p ys) ∧ (ys.length ≤ sizeLine → Q (.int ys.length) H)) := by
  intro pins s σ H xs us Q I r h
  rcases h with ⟨z, e, hz, q⟩ | h
  · exact call_len pins s σ H xs us Q I r ⟨_, z.length, e, ⟨hz, rfl⟩, q⟩
  · exact call_lenB pins s σ H xs us Q I r h
end L2

namespace L2
open PySem PySem.Spec PyProof.Rows
end L2

namespace L2
open PySem PySem.Spec PyProof.Rows
/-- what a call raises goes on through the frame that called -/
theorem pass1 {P : Program} {w : World} {K : PySem.W.Frag} {mg : Str → Option Value} {base : Heap} {N : List Str} {qual : Str} {scope : Scope} {f : Addr} {cd : Value} {A : Around} {outer : List Env} {s₀ : Shared} {H₀ : Hp} {E : XK} :
    Passes (CX1 P w) (cxOf (CX1 P w) P w K mg base N qual scope f cd A outer s₀ H₀ E) E := by
  intro pins σ H s e s' I h
  obtain ⟨ea, C, a0, H', B, rfl, hos, hbare, htk, hun, hokB, hfly, hold, hE⟩ := h
  show wpAny (model P w) (A.deeper (envOfC qual scope s₀.heap.objs.size f cd)) (leaving (envOfC qual scope s₀.heap.objs.size f cd) (.ref ea)) (fun _ s'' => CX1 P w outer H₀ s₀ E (.ref ea) s'') (fun e' s'' => CX1 P w outer H₀ s₀ E e' s'') _
  have hfr : (A.deeper (envOfC qual scope s₀.heap.objs.size f cd)).frames = some (envOfC qual scope s₀.heap.objs.size f cd :: outer) := I.ok.frames
  have hfe : frs (envOfC qual scope s₀.heap.objs.size f cd :: outer) = s₀.heap.objs.size :: frs outer := rfl
  have hbase : Un (frs outer) [] H₀ H s₀.heap s.heap := I.base
  have hun' : Un (frs (envOfC qual scope s₀.heap.objs.size f cd :: outer)) [] H H' s.heap s'.heap := hun
  have hfly' : Heap.FlyingW B (envOfC qual scope s₀.heap.objs.size f cd :: outer) ea (.ref C) a0 s'.heap := hfly
  have hold' : ∀ b o, s.heap.get? b = some o → b ∉ frs (envOfC qual scope s₀.heap.objs.size f cd :: outer) → ∃ o', B.get? b = some o' := hold
  have hst := hfly'.2.2.1
  have notin : ∀ b o, s₀.heap.get? b = some o → b ∉ frs outer → b ∉ frs (envOfC qual scope s₀.heap.objs.size f cd :: outer) := fun b o e hb hm => by
    rw [hfe] at hm
    rcases List.mem_cons.mp hm with rfl | hm
    · exact absurd (Heap.lt_size e) (Nat.lt_irrefl _)
    · exact hb hm
  have nd : ∀ b ∈ frs outer, ∀ o, s'.heap.get? b = some o → ∀ vs, o.data ≠ .fields vs := fun b hb o e => by
    obtain ⟨_, o', e', hn⟩ := hst.mem (show b ∈ (envOfC qual scope s₀.heap.objs.size f cd :: outer).filterMap (·.frame) from by rw [show (envOfC qual scope s₀.heap.objs.size f cd :: outer).filterMap (·.frame) = frs (envOfC qual scope s₀.heap.objs.size f cd :: outer) from rfl, hfe]; exact List.mem_cons_of_mem _ hb)
    rw [e] at e'
    cases e'
    exact hn
  refine wpAny_leaves_onW (base := B) (L := s₀.heap.objs.size) hfr rfl hfly' fun h'' hf2 hup => ?_
  have inB : ∀ b o o', B.get? b = some o' → s'.heap.get? b = some o → h''.get? b = some o := fun b o o' e1 e2 => by
    have := hfly'.1 b o' e1
    rw [e2] at this
    cases this
    exact hf2.1 b o e1
  refine ⟨ea, C, a0, H', B, rfl, hos.trans I.os, hbare, htk, ⟨?_, ?_, ?_, ?_, ?_, ?_, ?_⟩, hokB, hf2, ?_, hE⟩
  · intro b o e1 hn hb hx
    have e2 := hbase.keep b o e1 hn hb hx
    have hn2 := hbase.free b o e1 hn hx
    have hb2 := notin b o e1 hb
    have e3 := hun'.keep b o e2 hn2 hb2 hx
    obtain ⟨o', e4⟩ := hold' b o e2 hb2
    exact inB b o o' e4 e3
  · intro b o e1 hn hb hx
    obtain ⟨sl, e2⟩ := hbase.slot b o e1 hn hb hx
    have hn2 := hbase.free b o e1 hn hx
    obtain ⟨sl2, e3⟩ := hun'.slot b _ e2 hn2 (by rw [hfe]; exact List.mem_cons_of_mem _ hb) hx
    obtain ⟨sl3, e4⟩ := hup b _ e3 (nd b hb _ e3)
    exact ⟨sl3, e4⟩
  · intro b o e1 hn hx
    obtain ⟨o', e2⟩ := hbase.there b o e1 hx
    exact hun'.free b o' e2 (hbase.free b o e1 hn hx) hx
  · intro b o e1 hx
    obtain ⟨o', e2⟩ := hbase.there b o e1 hx
    by_cases hb : b ∈ frs outer
    · obtain ⟨o2, e3⟩ := hun'.there b o' e2 hx
      obtain ⟨sl3, e4⟩ := hup b _ e3 (nd b hb _ e3)
      exact ⟨_, e4⟩
    · obtain ⟨o2, e3⟩ := hold' b o' e2 (notin b o e1 hb)
      exact ⟨o2, hf2.1 b o2 e3⟩
  · exact fun b xs e => hun'.tups b xs (hbase.tups b xs e)
  · exact fun b o u e => hun'.frzs b o u (hbase.frzs b o u e)
  · intro b ps e
    obtain ⟨m1, e1⟩ := hbase.tbls b ps e
    obtain ⟨m2, e2⟩ := hun'.tbls b _ e1
    exact ⟨m1 ++ m2, by rw [← Array.append_assoc]; exact e2⟩
  · intro b o e1 hb
    obtain ⟨o', e2⟩ := hbase.there b o e1 (by simp)
    exact hold' b o' e2 (notin b o e1 hb)
end L2

namespace L2
open PySem PySem.Spec PyProof.Rows
/-- a call that may raise, where it does not -/
theorem passF {X : Cx} : Passes (CX1 X.prog X.w) X E0 := fun _ _ _ _ _ _ _ h => by
  obtain ⟨_, _, _, _, _, _, _, _, _, _, _, _, _, z⟩ := h
  exact False.elim z
end L2

namespace L2
open PySem PyProof.Rows
theorem Tk.updD {H : Hp} {p : Addr} {xs ys : List (Key × V)} (h : H p = some (.dK xs)) : Tk H (upd H p (.dK ys)) := by
  refine ⟨fun b zs e => ?_, fun b zs e => ⟨zs, ?_⟩, fun b zs e => ?_⟩
  · rw [upd_ne (fun z => by rw [z, h] at e; cases e)]; exact e
  · rw [upd_ne (fun z => by rw [z, h] at e; cases e)]; exact e
  · by_cases z : b = p
    · exact ⟨ys, by rw [z]; exact upd_same⟩
    · exact ⟨zs, by rw [upd_ne z]; exact e⟩
theorem Tk.updI {H : Hp} {p C dx C' dx' : Addr} {xs ys : List (Str × V)} (h : H p = some (.ins C dx xs)) : Tk H (upd H p (.ins C' dx' ys)) :=
  ⟨fun b zs e => by rw [upd_ne (fun z => by rw [z, h] at e; cases e)]; exact e, fun b zs e => ⟨zs, by rw [upd_ne (fun z => by rw [z, h] at e; cases e)]; exact e⟩, fun b zs e => ⟨zs, by rw [upd_ne (fun z => by rw [z, h] at e; cases e)]; exact e⟩⟩
section
variable {X : Cx}
end
/-- a comprehension over a list of texts, by an own invariant -/
theorem lc_strs {K : PySem.W.Frag} {a A : Addr} {H1 : Hp} {te : TE} {tl : St} {Q : VK} {ls : List Str} (C : Nat → List V → Hp → Prop) (ha : H1 a = some (.lst (ls.map V.str))) (hn : ls.length ≤ sizeLine) (hA : H1 A = none) (h0 : C 0 [] (upd H1 A (.lst [])))
    (hte : ∀ i z ys H, ls[i]? = some z → C i ys H → H A = some (.lst ys) → H a = some (.lst (ls.map V.str)) → ys.length ≤ i → ∀ R : VK, (∀ y H4, H4 A = some (.lst ys) → H4 a = some (.lst (ls.map V.str)) → C (i + 1) (ys ++ [y]) (upd H4 A (.lst (ys ++ [y]))) → R y H4) → te (some (.str z) :: tl) H R)
    (hQ : ∀ ys H, C ls.length ys H → H A = some (.lst ys) → Q (.ref A) H) : lcGo A (Itl K a) (gName 0) tYes te (none :: tl) H1 Q := by
  have hne : a ≠ A := ne_of_none ha hA
  refine ⟨ls.length, fun i σ ys H => (∃ w, σ = w :: tl) ∧ C i ys H ∧ H a = some (.lst (ls.map V.str)), hn, ⟨⟨none, rfl⟩, h0, by rw [upd_ne hne]; exact ha⟩, ?_, ?_⟩
  · rintro i σ ys H hi ⟨⟨w, rfl⟩, hc, hl⟩ hA' hy
    have e0 : (ls.map V.str)[i]? = some (V.str ls[i]) := by rw [List.getElem?_map, List.getElem?_eq_getElem hi]; rfl
    refine ⟨⟨_, _, SqL.of hl, e0⟩, ?_⟩
    rintro x H' ⟨rfl, hx⟩
    have e := hx _ (SqL.of hl)
    rw [e0] at e
    cases e
    dsimp only [gName, tYes, List.set]
    rw [if_pos rfl]
    exact hte i ls[i] ys H' (List.getElem?_eq_getElem hi) hc hA' hl hy _ fun y H4 h4 h5 c4 => ⟨h4, ⟨_, rfl⟩, c4, by rw [upd_ne hne]; exact h5⟩
  · rintro σ ys H ⟨_, hc, hl⟩ hA'
    exact ⟨⟨_, SqL.of hl, by simp⟩, hQ ys H hc hA'⟩
end L2

namespace L2
open PySem PyProof.Rows
section
variable {X : Cx} {K : PySem.W.Frag} {o e : Expr} {es : List Expr} {to : TE} {t : TA} {name : Str} {apos cpos : Pos} {T id : String} {r : V → List V → Hp → VK → Prop}
end
end L2

namespace L2
open PySem PyProof.Rows
section
variable {X : Cx}
/-- list(d), d a dict -/
theorem call_listD (hc : X.calm = true) : CallR X (.type "list") (fun xs H Q => ∃ (d : Addr) (kvs : List (Key × V)), xs = [.ref d] ∧ Rd H d (.dK kvs) ∧ ∀ l, H l = none → Q (.ref l) (upd H l (.lst (kvs.map fun p => kV p.1)))) := by
  intro pins s σ H xs us Q I r h
  obtain ⟨d, kvs, rfl, hd, q⟩ := h
  obtain ⟨u, rfl, ru⟩ := vals1 r
  cases ru
  obtain ⟨hz, lo, vs, rkv, dd⟩ := dk_rd I.hok hd
  obtain ⟨o, es, ep, ho⟩ := id dd
  have hat : s.heap.DictAt (mixKind X.prog X.w) d vs ep := ⟨o, es, ho⟩
  refine wpAny_with_toks (n := 1) I.tk ?_
  refine PySem.W.kdl_call (PySem.W.kdl_dict lo) (I.ok.hd hc) hat (by rw [← rkv.length]; exact hz) fun h' tk acc c hkp hS hacc => ?_
  intro htk
  refine ⟨.ref s.heap.objs.size, _, I.laid (t' := tk) (o := .lst (kvs.map fun p => kV p.1)) hkp (Nat.le_refl _) ⟨by rw [List.length_map]; exact hz, acc.toList, c, ?_, by rw [Array.toArray_toList]; exact hS⟩, rfl, q _ (I.hok.fresh (Nat.le_refl _))⟩
  refine vals_ext (by rw [List.length_map, rkv.length, Array.length_toList]; exact hacc.1.symm) fun j x v hx hv => ?_
  obtain ⟨k, y, e1, e2⟩ := hacc.2 j v (by rw [← Array.getElem?_toList]; exact hv)
  have e3 : (kvs.map (·.1))[j]? = some k := by
    rw [rkv.keys, List.getElem?_map, e1]
    rfl
  have e4 : (kvs.map fun p => kV p.1) = (kvs.map (·.1)).map kV := by rw [List.map_map]; rfl
  rw [e4, List.getElem?_map, e3] at hx
  cases hx
  exact kV_rel e2
/-- many new objects at once -/
theorem Inv.laidM {pins : List (Addr × Obj)} {σ : St} {H H' : Hp} {s : Shared} {h' : Heap} {t' : Nat} (I : Inv X pins σ H s) (k : ∀ b u, s.heap.get? b = some u → h'.get? b = some u) (sm : Same H H')
    (hf : ∀ b o, H b = none → H' b = some o → s.heap.objs.size ≤ b ∧ ObjOk X.prog X.w H' h' b o) (ht : 0 < t') : Inv X pins σ H' { s with heap := h', toks := t' } := by
  refine I.un ⟨fun b u q _ _ _ => k b u q, fun b u q _ _ _ => ⟨u.slots, k b u q⟩, fun b u q n _ => ?_, fun b u q _ => ⟨u, k b u q⟩, fun b xs q => sm _ _ q, fun b u xs q => sm _ _ q, fun b ps q => ⟨#[], by rw [sm _ _ q]; simp⟩⟩ (fun b u e => ?_) ht
  · cases e : H' b with
    | none => rfl
    | some o =>
      exact absurd (Heap.lt_size q) (Nat.not_lt.mpr (hf b o n e).1)
  · cases q : H b with
    | none => exact (hf b u q e).2
    | some o =>
      rw [sm _ _ q] at e
      cases e
      exact (I.hok b _ q).stay (fun c v _ z => k c v z) (fun c z => sm _ _ z) fun c xs z => sm _ _ z
end
section
variable {prog : Program} {w : World} {A : Around} {E : Value → Shared → Prop} {s : Shared}
theorem tuple_by {r : Addr} {T : String} {Q : Value → Shared → Prop} {G : List Value → Shared → Prop} (hTm : T = "dict_items" ∨ T = "list_reverseiterator") (hTI : s.TypeIs (.ref r) T)
    (hcol : ∀ (R : List Value → Shared → Prop) (E' : Value → Shared → Prop), (∀ vs s', G vs s' → R vs s') → wpAny (model prog w) A.in1.in1 (collect (.ref r)) R E' s)
    (hQ : ∀ vs s', G vs s' → vs.length ≤ sizeLine ∧ Q (.ref s'.heap.objs.size) { s' with heap := s'.heap.push { cls := .type "tuple", data := .seq vs.toArray } }) :
    wpAny (model prog w) A (call (.type "tuple") [.ref r]) Q E s := by
  have new : codeAny (model prog w) A.in1 (.call (.builtin "tuple.__new__") ⟨[.type "tuple", .ref r], []⟩) (wants (fun obj s₁ => s₁.TypeIs obj "tuple" ∧ Q obj s₁) E) s := by
    refine codeAny_of_tree ?_
    show wpAny _ A.in1.in1 (do checkBuiltinCall "tuple.__new__" ⟨[.type "tuple", .ref r], []⟩; again (.builtin "tuple.__new__" ⟨[.type "tuple", .ref r], []⟩)) _ _ s
    refine wpAny_bind (wpAny_of_eq (PySem.F.newCall_tuple_1 _) (wpAny_pure ⟨plainId_quiet PySem.F.plain_tuple_new _, codeAny_builtin PySem.F.entry_tuple_new ?_⟩))
    rw [Around.under_plainId PySem.F.plain_tuple_new _]
    have hsub := sub_tuple_self
    have hinit := init_tuple_lookup
    have hmh := madeHere_tuple
    rcases hTm with rfl | rfl
    all_goals
      wp_walk using wpAny_typeOf hTI, hcol
      intro vs s' hg
      obtain ⟨hl, hq⟩ := hQ vs s' hg
      show wpAny _ _ (Builtin.Tuple.tupleExact vs.toArray >>= fun v => ret v) _ _ _
      unfold Builtin.Tuple.tupleExact
      refine wpAny_bind (wpAny_newObj_type ?_ (by show vs.toArray.size ≤ sizeLine; simpa using hl))
      refine wpAny_pure ?_
      exact ⟨⟨_, Heap.get?_push_size _ rfl, rfl⟩, hq⟩
  refine callType_codes (Q₁ := fun obj s₁ => s₁.TypeIs obj "tuple" ∧ Q obj s₁) PySem.F.called_tuple (PySem.F.typeCall_tuple_1 _) PySem.F.entry_object_init new fun obj s₁ h₁ => ?_
  exact ⟨h₁.1, PySem.F.args_object_init_2 obj _, object_init_meets PySem.F.called_tuple.init.lookup PySem.F.called_tuple.made (by decide) prog w A.in1 _ s₁ ⟨h₁.1, rfl, h₁.2⟩⟩
end
end L2

namespace L2
open PySem PyProof.Rows
/-- new tuples, tracked -/
def addT (ps : List (Addr × List V)) (H : Hp) : Hp := ps.foldl (fun h p => upd h p.1 (.tup p.2)) H
theorem addT_free : ∀ (ps : List (Addr × List V)) (H : Hp) (b : Addr), b ∉ ps.map (·.1) → addT ps H b = H b
  | [], _, _, _ => rfl
  | p :: r, H, b, h => by
    show addT r (upd H p.1 (.tup p.2)) b = _
    rw [addT_free r _ b (fun m => h (List.mem_cons_of_mem _ m)), upd_ne (fun e => h (by rw [e]; exact List.mem_cons_self ..))]
theorem addT_at : ∀ (ps : List (Addr × List V)) (H : Hp) (p : Addr × List V), (ps.map (·.1)).Nodup → p ∈ ps → addT ps H p.1 = some (.tup p.2)
  | [], _, _, _, h => nomatch h
  | q :: r, H, p, hn, h => by
    have hn' := List.nodup_cons.mp hn
    show addT r (upd H q.1 (.tup q.2)) p.1 = _
    rcases List.mem_cons.mp h with rfl | h
    · rw [addT_free r _ _ hn'.1, upd_same]
    · exact addT_at r _ p hn'.2 h
/-- what comes of a dict's pairs: a row of new tuples -/
def ItemsAt (H : Hp) (kvs : List (Key × V)) (ts : List Addr) : Prop := ts.length = kvs.length ∧ ∀ (j : Nat) (t : Addr) (p : Key × V), ts[j]? = some t → kvs[j]? = some p → H t = some (.tup [kV p.1, p.2])
/-- tuple(d.items()), list(d.items()) -/
def tItems (mk : List V → HO) (to : TE) : TE := fun σ H Q => to σ H fun x H1 => ∃ (d : Addr) (kvs : List (Key × V)), x = .ref d ∧ Rd H1 d (.dK kvs) ∧ ∀ (t : Addr) (ts : List Addr) (H2 : Hp), Same H1 H2 → H1 t = none → H2 t = some (mk (ts.map V.ref)) → ItemsAt H2 kvs ts → Q (.ref t) H2
theorem mem_zip_fst {α β : Type} : ∀ {as : List α} {bs : List β}, as.length = bs.length → (as.zip bs).map (·.1) = as
  | [], [], _ => rfl
  | a :: as, b :: bs, h => by
    rw [List.zip_cons_cons, List.map_cons, mem_zip_fst (by simpa using h)]
theorem paired_at {α β : Type} {F : α → β → Prop} : ∀ {l₁ : List α} {l₂ : List β}, Paired F l₁ l₂ → ∀ {j : Nat} {a : α} {b : β}, l₁[j]? = some a → l₂[j]? = some b → F a b
  | _, _, .nil, j, a, b, h, _ => by simp at h
  | _, _, .cons f r, 0, a, b, h1, h2 => by
    cases h1
    cases h2
    exact f
  | _, _, .cons f r, j + 1, a, b, h1, h2 => paired_at r (j := j) (by simpa using h1) (by simpa using h2)
section
variable {X : Cx} {pins : List (Addr × Obj)} {σ : St} {H : Hp} {s : Shared}
theorem items_laid {r t : Addr} {kvs : List (Key × V)} {vs : List (Key × Value)} {as : List Addr} {h1 h2 : Heap} {tk : Nat} {o : HO} (I : Inv X pins σ H s) (rkv : KV kvs vs) (k2 : ∀ b u, s.heap.get? b = some u → h2.get? b = some u) (hl : as.length = vs.length) (hz : s.heap.objs.size ≤ r)
    (hG : PySem.W.KdxG (mixKind X.prog X.w) vs r h1 as) (k12 : ∀ a ∈ as, ∀ u, h1.get? a = some u → h2.get? a = some u) (ht : s.heap.objs.size ≤ t) (hta : t ∉ as) (hu : ∃ u, o = u) (htk : 0 < tk)
    (new : ∀ H', Same H H' → ItemsAt H' kvs as → ObjOk X.prog X.w H' h2 t o) :
    ∃ H', Inv X pins σ H' { s with heap := h2, toks := tk } ∧ Same H H' ∧ H t = none ∧ H' t = some o ∧ ItemsAt H' kvs as := by
  have hn : as.Nodup := hG.rise.imp fun h => Nat.ne_of_lt h
  have hf : ∀ a ∈ as, H a = none := fun a ha => I.hok.fresh (Nat.le_trans hz (Nat.le_of_lt (hG.above a ha)))
  have htn : H t = none := I.hok.fresh ht
  have hkl : kvs.length = vs.length := rkv.length
  let ps : List (Addr × List V) := as.zip (kvs.map fun p => [kV p.1, p.2])
  have ef : ps.map (·.1) = as := mem_zip_fst (by rw [List.length_map]; omega)
  have sm0 : Same H (addT ps H) := fun b u e => by
    rw [addT_free ps H b (by rw [ef]; exact fun m => by rw [hf b m] at e; cases e)]
    exact e
  have sm : Same H (upd (addT ps H) t o) := fun b u e => by
    rw [upd_ne (ne_of_none e htn)]
    exact sm0 _ _ e
  have it : ItemsAt (upd (addT ps H) t o) kvs as := by
    refine ⟨by omega, fun j a p h3 h4 => ?_⟩
    have ma := List.mem_of_getElem? h3
    rw [upd_ne (fun e => hta (by rw [← e]; exact ma))]
    refine addT_at ps H (a, [kV p.1, p.2]) (by rw [ef]; exact hn) ?_
    refine List.mem_of_getElem? (i := j) ?_
    show (as.zip (kvs.map fun p => [kV p.1, p.2]))[j]? = _
    rw [List.getElem?_zip_eq_some]
    exact ⟨h3, by rw [List.getElem?_map, h4]; rfl⟩
  refine ⟨upd (addT ps H) t o, I.laidM k2 sm (fun b u e1 e2 => ?_) htk, sm, htn, upd_same, it⟩
  by_cases hb : b = t
  · subst hb
    rw [upd_same] at e2
    cases e2
    exact ⟨ht, new _ sm it⟩
  · rw [upd_ne hb] at e2
    have mb : b ∈ as := by
      refine Classical.byContradiction fun m => ?_
      rw [addT_free ps H b (by rw [ef]; exact m), e1] at e2
      cases e2
    refine ⟨Nat.le_trans hz (Nat.le_of_lt (hG.above b mb)), ?_⟩
    obtain ⟨j, hj⟩ := List.mem_iff_getElem?.mp mb
    obtain ⟨key, kk, x, f1, f2, f3⟩ := hG.pairs j b hj
    have hjl : j < kvs.length := by
      have := (List.getElem?_eq_some_iff.mp f1).1
      omega
    have e5 := it.2 j b kvs[j] hj (List.getElem?_eq_getElem hjl)
    rw [upd_ne hb, e2] at e5
    cases e5
    have q1 : kvs[j].1 = kk := by
      have : (kvs.map (·.1))[j]? = some kk := by rw [rkv.keys, List.getElem?_map, f1]; rfl
      rw [List.getElem?_map, List.getElem?_eq_getElem hjl] at this
      exact Option.some.inj this
    have q2 : RelV kvs[j].2 x := by
      exact (paired_at rkv (List.getElem?_eq_getElem hjl) f1).2
    refine ⟨by show 2 ≤ sizeLine; decide, [key, x], .cons (by rw [q1]; exact kV_rel f2) (.cons q2 .nil), ⟨_, k12 b mb _ f3, rfl, _, rfl⟩⟩
/-- d.items() where d is a dict: its view lies behind the heap -/
theorem eval_items {o : Expr} {to : TE} {apos cpos : Pos} {R : Value → Shared → Prop} {Q : VK} (ho : PE X o to) (I : Inv X pins σ H s) (hbase : attributeBase o "items" X.env (eval o X.env) = eval o X.env) (hline : (apos.endLine == cpos.line) = true)
    (h : to σ H Q)
    (k : ∀ (s1 : Shared) (H1 : Hp) (x : V), Inv X pins σ H1 s1 → Q x H1 → ∃ (d : Addr) (kvs : List (Key × V)), x = .ref d ∧ Rd H1 d (.dK kvs) ∧ R (.ref s1.heap.objs.size) { s1 with heap := s1.heap.push { cls := .type "dict_items", data := .fields #[.ref d] } }) :
    wpAny (model X.prog X.w) X.A (eval (.Call (.Attribute o "items" apos) [] [] cpos) X.env) R X.xe s := by
  refine wpAny_Call_method0_late hbase hline (thn (ho pins s σ H _ I h) fun v s1 ⟨x, H1, I1, r1, q⟩ => ?_)
  obtain ⟨d, kvs, ex, hd, q2⟩ := k s1 H1 x I1 q
  subst ex
  cases r1
  obtain ⟨hz, lo, vs, rkv, dd⟩ := dk_rd I1.hok hd
  have hno : ∀ a, Value.ref d = .ref a → ∃ ob, s1.heap.get? a = some ob ∧ ob.dict = none := dict_noDict I1 (y := kV (Sum.inl 0)) (.inl ⟨kvs, Sum.inl 0, hd, rfl, rfl⟩)
  exact ⟨"dict", "dict.items", PySem.F.plainAttrs_dict, PySem.F.slot_dict_items, PySem.F.type_dict_items, dd.typeIs, hno, Calls.callWith_builtin rfl (PySem.evalArgs_none (call_meetsIn PySem.F.slot_dict_items dd.typeIs PySem.F.entry_dict_items (PySem.F.args_dict_items_1 _) (meets_dict_items (mixKind X.prog X.w) d lo) ⟨⟨vs, dd⟩, q2⟩))⟩
theorem pe_tupItems {x : Str} {o : Expr} {to : TE} {p pos apos cpos : Pos} (hc : X.calm = true) (hg : Gl X x) (hm : X.mg x = none) (hv : bootBuiltins x = some (.type "tuple")) (ho : PE X o to) (hn : x ≠ "__name__" := by decide) (hdb : (x == ("__debug__" : Str)) = false := by decide)
    (hbase : attributeBase o "items" X.env (eval o X.env) = eval o X.env := by rfl) (hline : (apos.endLine == cpos.line) = true := by rfl)
    (he : starEach [.Call (.Attribute o "items" apos) [] [] cpos] X.env = (false, eval (.Call (.Attribute o "items" apos) [] [] cpos) X.env) :: starEach [] X.env := by rfl) (hpl : (backTo pos (starEach [] X.env)).any (·.1) = false := by rfl) :
    PE X (.Call (.Name x p) [.Call (.Attribute o "items" apos) [] [] cpos] [] pos) (tItems .tup to) := by
  intro pins s σ H Q I h
  refine wpAny_Call_Name_kw (ld_blt I hg hm hv ?_ hn hdb)
  refine PyProof.Rows.callWith_type1 ?_ he hpl
  rw [he]
  show wpAny _ _ (spliced ((false, eval (.Call (.Attribute o "items" apos) [] [] cpos) X.env) :: backTo pos (starEach [] X.env))) _ _ s
  refine Calls.spliced_cons (eval_items ho I hbase hline h ?_)
  rintro s1 H1 x I1 ⟨d, kvs, rfl, hd, q⟩
  refine ⟨d, kvs, rfl, hd, Calls.spliced_nil ?_⟩
  obtain ⟨hz, lo, vs, rkv, dd⟩ := dk_rd I1.hok hd
  obtain ⟨o, es, ep, ho⟩ := id dd
  have hat : s1.heap.DictAt (mixKind X.prog X.w) d vs ep := ⟨o, es, ho⟩
  have hview : (s1.heap.push { cls := .type "dict_items", data := .fields #[.ref d] }).IsItemsView s1.heap.objs.size d := ⟨_, Heap.get?_push_size _ rfl, rfl, rfl⟩
  refine wpAny_with_toks (n := 1) I1.tk ?_
  refine tuple_by (G := fun us s' => ∃ (h' : Heap) (tk : Nat) (as : List Addr), us = as.map Value.ref ∧ s' = { s1 with heap := h', toks := tk } ∧ (∀ b o, (s1.heap.push { cls := .type "dict_items", data := .fields #[.ref d] }).get? b = some o → h'.get? b = some o) ∧ as.length = vs.length ∧ PySem.W.KdxG (mixKind X.prog X.w) vs (s1.heap.push { cls := .type "dict_items", data := .fields #[.ref d] }).objs.size h' as)
    (.inl rfl) hview.typeIs (fun R E' k => PySem.W.kdx_collect (s := { s1 with heap := s1.heap.push { cls := .type "dict_items", data := .fields #[.ref d] } }) (knd := mixKind X.prog X.w) (kvs := vs) (ep := ep) (A := X.A.in1.in1) (I1.ok.hd hc) hview (hat.push _) (by rw [← rkv.length]; exact hz) fun h' tk as k1 k2 k3 => k _ _ ⟨h', tk, as, rfl, rfl, k1, k2, k3⟩) ?_
  rintro us s' ⟨h', tk, as, rfl, rfl, k1, k2, k3⟩
  have hkl := rkv.length
  refine ⟨by rw [List.length_map]; omega, fun htk => ?_⟩
  have hsz : s1.heap.objs.size ≤ (s1.heap.push { cls := .type "dict_items", data := .fields #[.ref d] }).objs.size := by rw [Heap.size_push]; exact Nat.le_succ _
  have k0 : ∀ b u, s1.heap.get? b = some u → h'.get? b = some u := fun b u e => k1 b u (Heap.get?_push_of_some _ e)
  have hlt : ∀ a ∈ as, a < h'.objs.size := fun a ha => k3.there ha
  have hsz2 : s1.heap.objs.size ≤ h'.objs.size := by
    have := Heap.lt_size (k1 _ _ (Heap.get?_push_size s1.heap (o := { cls := .type "dict_items", data := .fields #[.ref d] }) rfl))
    exact Nat.le_of_lt this
  have key : ∀ l : List Addr, Vals (l.map V.ref) (l.map Value.ref) := by
    intro l
    induction l with
    | nil => exact .nil
    | cons a r ih => exact .cons rfl ih
  obtain ⟨H2, I2, sm, tn, ht2, it⟩ := items_laid (h2 := h'.push { cls := .type "tuple", data := .seq (as.map Value.ref).toArray }) (t := h'.objs.size) (o := .tup (as.map V.ref)) (tk := tk) I1 rkv (fun b u e => Heap.get?_push_of_some _ (k0 b u e)) k2 hsz k3 (fun a _ u e => Heap.get?_push_of_some _ e) hsz2 (fun m => Nat.lt_irrefl _ (hlt _ m)) ⟨_, rfl⟩ htk (fun H' _ _ => ⟨by rw [List.length_map]; omega, as.map Value.ref, key as, ⟨_, Heap.get?_push_size _ rfl, rfl, _, rfl⟩⟩)
  exact ⟨.ref h'.objs.size, H2, I2, rfl, q _ as H2 sm tn ht2 it⟩
end
end L2

namespace L2
open PySem PyProof.Rows
section
variable {prog : Program} {w : World} {A : Around} {E : Value → Shared → Prop} {s : Shared}
end
section
variable {X : Cx}
end
end L2

namespace L2
open PySem PyProof.Rows
def okHd : D → Bool
  | .non => true
  | d => trD d
section
variable {X : Cx}
/-- d == a text -/
def rEqM : V → V → Hp → VK → Prop := fun x y H Q => ∃ (d : D) (z : Str), Is H d x ∧ y = .str z ∧ z.length ≤ 1000 ∧ okHd d = true ∧ dp d ≤ 60 ∧ Q (.bl (eqD d (.str z))) H
theorem op_eqM (hu : X.A.units + 64 < cLine) : OpR X (compareOp .Eq) rEqM := by
  intro pins s σ H x y v u Q I rx ry h
  obtain ⟨d, z, hd, rfl, hz, hk, hp, q⟩ := h
  cases d with
  | non =>
    cases (show x = .non from hd)
    exact op_eq pins s σ H .non (.str z) v u Q I rx ry ⟨rfl, by simpa [eqD] using q⟩
  | str a => exact op_eqD hu pins s σ H x _ v u Q I rx ry ⟨_, .str z, hd, ⟨rfl, by rw [sizeLine_eq]; omega⟩, hk, rfl, hp, q⟩
  | tup a => exact op_eqD hu pins s σ H x _ v u Q I rx ry ⟨_, .str z, hd, ⟨rfl, by rw [sizeLine_eq]; omega⟩, hk, rfl, hp, q⟩
  | _ => simp [okHd, trD] at hk
/-- d in a row or list of texts -/
def rInM (K : PySem.W.Frag) : V → V → Hp → VK → Prop := fun x y H Q => ∃ (d : D) (p : Addr) (ls : List Str), Is H d x ∧ y = .ref p ∧ (SqL K H p (ls.map V.str) ∨ SqT K H p (ls.map V.str)) ∧ (∀ z ∈ ls, z.length ≤ 1000) ∧ okHd d = true ∧ dp d ≤ 60 ∧ Q (.bl (ls.any fun z => eqD d (.str z))) H
theorem flat_ss (us : List Str) : (us.map V.str).all flatV = true := by
  rw [List.all_map, List.all_eq_true]
  exact fun _ _ => rfl
theorem op_inM (hu : X.A.units + 64 < cLine) : OpR X (compareOp .In) (rInM X.K) := by
  intro pins s σ H x y v u Q I rx ry h
  obtain ⟨d, p, ls, hd, rfl, hs, hls, hk, hp, q⟩ := h
  cases d with
  | non =>
    cases (show x = .non from hd)
    refine op_in_seq pins s σ H .non _ v u Q I rx ry ⟨p, _, rfl, hs, rfl, flat_ss _, ?_⟩
    have e : inV .non (ls.map V.str) = ls.any fun z => eqD .non (.str z) := by
      unfold inV
      rw [List.any_map]
      rfl
    rw [if_neg Bool.false_ne_true, e]
    exact q
  | str a =>
    obtain ⟨rfl, _⟩ := hd
    refine op_in_seq pins s σ H _ _ v u Q I rx ry ⟨p, _, rfl, hs, rfl, flat_ss _, ?_⟩
    have e : inV (.str a) (ls.map V.str) = ls.any fun z => eqD (.str a) (.str z) := by
      unfold inV
      rw [List.any_map]
      refine congrArg (fun f => ls.any f) (funext fun z => ?_)
      show (z == a) = (a == z)
      rw [Bool.eq_iff_iff, beq_iff_eq, beq_iff_eq]
      exact eq_comm
    rw [if_neg Bool.false_ne_true, e]
    exact q
  | tup xs =>
    have e : (ls.any fun z => eqD (.tup xs) (.str z)) = false := by
      rw [List.any_eq_false]
      intro z _
      simp [eqD]
    rw [e] at q
    obtain ⟨pa, vs, rfl, ha, hl⟩ := hd
    cases rx
    cases ry
    obtain ⟨itx, rvx, plx, _⟩ := I.tuple (.inl (.of ha))
    have hu0 : X.A.units < cLine := by omega
    have key : ∀ {its : List Value}, Vals (ls.map V.str) its → ∀ w ∈ its, ∀ A : Around, A.units + 1 < cLine → SeqAt.EqAt A s w (.ref pa) false := by
      intro its r w hw A hA
      obtain ⟨j, hj⟩ := List.mem_iff_getElem?.mp hw
      have hjl : j < ls.length := by
        have := (List.getElem?_eq_some_iff.mp hj).1
        have := r.length
        rw [List.length_map] at this
        omega
      obtain ⟨u', e1, e2⟩ := r.get (i := j) (x := V.str ls[j]) (by rw [List.getElem?_map, List.getElem?_eq_getElem hjl]; rfl)
      rw [hj] at e1
      cases e1
      have := eqAt_D I 1 (.str ls[j]) (.tup xs) (.str ls[j]) (.ref pa) _ (.ref pa) A (by simp [dp]) rfl (by simpa [okHd, trD, puD] using hk) ⟨rfl, by have := hls _ (List.getElem_mem hjl); rw [sizeLine_eq]; omega⟩ ⟨pa, vs, rfl, ha, hl⟩ e2 rfl (by omega)
      simpa [eqD] using this
    rcases hs with hs | hs
    · obtain ⟨its, r, pl, hz⟩ := I.list hs
      refine SeqAt.in_listAt (fun _ => false) pl.isList (fun w hw => key r w (by simpa using hw) _ ?_) ⟨.bl _, H, I, rfl, ?_⟩
      · first | omega | (rw [Around.in1_units]; omega) | (rw [Around.in1_units, Around.in1_units]; omega) | (rw [Around.in1_units, Around.in1_units, Around.in1_units]; omega)
      · rw [show its.toArray.any (fun _ => false) = false by rw [List.any_toArray]; exact List.any_eq_false.mpr fun _ _ => Bool.false_ne_true]
        exact q
    · obtain ⟨its, r, pl, hz⟩ := I.tuple hs
      refine SeqAt.in_tupleAt (fun _ => false) pl (fun w hw => key r w (by simpa using hw) _ ?_) ⟨.bl _, H, I, rfl, ?_⟩
      · first | omega | (rw [Around.in1_units]; omega) | (rw [Around.in1_units, Around.in1_units]; omega) | (rw [Around.in1_units, Around.in1_units, Around.in1_units]; omega)
      · rw [show its.toArray.any (fun _ => false) = false by rw [List.any_toArray]; exact List.any_eq_false.mpr fun _ _ => Bool.false_ne_true]
        exact q
  | _ => simp [okHd, trD] at hk
end
end L2

namespace L2
open PySem PyProof.Rows
section
variable {X : Cx} {pins : List (Addr × Obj)} {σ : St} {H : Hp} {s : Shared}
/-- d in a list of data -/
def rInL (K : PySem.W.Frag) : V → V → Hp → VK → Prop := fun x y H Q => ∃ (d : D) (p : Addr) (ds : List D) (us : List V), Is H d x ∧ y = .ref p ∧ SqL K H p us ∧ IsL H ds us ∧ puD d = true ∧ dp d ≤ 60 ∧ (∀ e ∈ ds, puD e = true ∧ dp e ≤ 60) ∧ Q (.bl (ds.any fun e => eqD e d)) H
theorem isL_at {H : Hp} : ∀ {ds : List D} {us : List V} {j : Nat} {u : V}, IsL H ds us → us[j]? = some u → ∃ d, ds[j]? = some d ∧ Is H d u
  | [], us, j, u, h, e => by cases (show us = [] from h); simp at e
  | d :: r, us, j, u, h, e => by
    obtain ⟨v, q, rfl, h1, h2⟩ := h
    cases j with
    | zero => cases e; exact ⟨d, rfl, h1⟩
    | succ j => exact isL_at (ds := r) h2 (by simpa using e)
theorem rel_det {H : Hp} {d e : D} {u u' : V} {w : Value} (h1 : Is H d u) (p1 : puD d = true) (r1 : RelV u w) (h2 : Is H e u') (p2 : puD e = true) (r2 : RelV u' w) : u = u' := by
  have shape : ∀ {d : D} {u : V}, Is H d u → puD d = true → RelV u w → (∃ z t, u = .str z ∧ w = .str z t) ∨ (∃ i t, u = .int i ∧ w = .int i t) ∨ ∃ p, u = .ref p ∧ w = .ref p := by
    intro d u h p r
    cases d with
    | str z =>
      obtain ⟨rfl, _⟩ := h
      obtain ⟨t, rfl⟩ := r
      exact .inl ⟨z, t, rfl, rfl⟩
    | int i =>
      cases (show u = .int i from h)
      obtain ⟨t, rfl⟩ := r
      exact .inr (.inl ⟨i, t, rfl, rfl⟩)
    | tup xs =>
      obtain ⟨q, us, rfl, _⟩ := h
      cases r
      exact .inr (.inr ⟨q, rfl, rfl⟩)
    | _ => simp [puD] at p
  rcases shape h1 p1 r1 with ⟨z, t, rfl, e1⟩ | ⟨i, t, rfl, e1⟩ | ⟨q, rfl, e1⟩ <;> rcases shape h2 p2 r2 with ⟨z', t', rfl, e2⟩ | ⟨i', t', rfl, e2⟩ | ⟨q', rfl, e2⟩ <;> rw [e1] at e2 <;> cases e2 <;> rfl
theorem op_inL (hu : X.A.units + 64 < cLine) : OpR X (compareOp .In) (rInL X.K) := by
  intro pins s σ H x y v u Q I rx ry h
  obtain ⟨d, p, ds, us, hd, rfl, hp, hl, pd, nd, hall, q⟩ := h
  cases ry
  obtain ⟨its, r, pl, hz⟩ := I.list hp
  have lr := r.length
  have ll := hl.length
  -- what is there at a value
  have key : ∀ (j : Nat) (w : Value), its[j]? = some w → ∃ e u, ds[j]? = some e ∧ Is H e u ∧ RelV u w := by
    intro j w hj
    have hjl : j < us.length := by
      have := (List.getElem?_eq_some_iff.mp hj).1
      omega
    obtain ⟨u', e1, e2⟩ := r.get (i := j) (List.getElem?_eq_getElem hjl)
    rw [hj] at e1
    cases e1
    obtain ⟨e, he, hi⟩ := isL_at hl (List.getElem?_eq_getElem hjl)
    exact ⟨e, _, he, hi, e2⟩
  let f : Value → Bool := fun w => open Classical in if h : ∃ e u, puD e = true ∧ Is H e u ∧ RelV u w then eqD (Classical.choose h) d else false
  have hf : ∀ (w : Value) (e : D) (u : V), puD e = true → Is H e u → RelV u w → f w = eqD e d := fun w e u he hi hr => by
    have h : ∃ e u, puD e = true ∧ Is H e u ∧ RelV u w := ⟨e, u, he, hi, hr⟩
    have e0 : f w = eqD (Classical.choose h) d := dif_pos h
    obtain ⟨u2, c1, c2, c3⟩ := Classical.choose_spec h
    have eu := rel_det hi he hr c2 c1 c3
    subst eu
    rw [e0, Is.det c1 he c2 hi]
  have eany : its.toArray.any f = ds.any fun e => eqD e d := by
    have em : its.map f = ds.map fun e => eqD e d := by
      apply List.ext_getElem?
      intro j
      rw [List.getElem?_map, List.getElem?_map]
      cases hj : its[j]? with
      | none =>
        have : ds[j]? = none := List.getElem?_eq_none (by have := List.getElem?_eq_none_iff.mp hj; omega)
        rw [this]
        rfl
      | some w =>
        obtain ⟨e, u, e1, e2, e3⟩ := key j w hj
        rw [e1]
        exact congrArg some (hf w e u (hall e (List.mem_of_getElem? e1)).1 e2 e3)
    have e1 : its.toArray.any f = (its.map f).any id := by
      rw [List.any_map, List.any_toArray]
      rfl
    rw [e1, em, List.any_map]
    rfl
  refine SeqAt.in_listAt f pl.isList (fun w hw => ?_) ⟨.bl _, H, I, rfl, by rw [eany]; exact q⟩
  obtain ⟨j, hj⟩ := List.mem_iff_getElem?.mp (show w ∈ its by simpa using hw)
  obtain ⟨e, u, e1, e2, e3⟩ := key j w hj
  have he := hall e (List.mem_of_getElem? e1)
  rw [hf w e u he.1 e2 e3]
  exact eqAt_D I 60 e d u x w v X.A.in1 he.2 he.1 pd e2 hd e3 rx (by rw [Around.in1_units]; omega)
/-- the place of the first True -/
def rIndex (K : PySem.W.Frag) : V → List V → Hp → VK → Prop := fun x vs H Q => ∃ (p : Addr) (bs : List Bool) (j : Nat), x = .ref p ∧ vs = [.bl true] ∧ SqL K H p (bs.map V.bl) ∧ bs[j]? = some true ∧ (∀ m, m < j → bs[m]? = some false) ∧ bs.length ≤ 1000 ∧ Q (.int (j : Int)) H
theorem bls_of : ∀ {bs : List Bool} {its : List Value}, Vals (bs.map V.bl) its → its = bs.map Value.bool
  | [], _, h => by cases h; rfl
  | b :: r, _, h => by
    cases h with
    | cons h1 h2 =>
      cases h1
      rw [bls_of h2]
      rfl
theorem mt_index : MtM X "list.index" (rIndex X.K) := by
  intro pins s σ H x vs v us Q I rx rv h
  obtain ⟨p, bs, j, rfl, rfl, hp, hj, hm, hz, q⟩ := h
  cases rx
  obtain ⟨u, rfl, ru⟩ := rv.one
  cases ru
  obtain ⟨its, r, pl, hl⟩ := I.list hp
  cases bls_of r
  obtain ⟨⟨cls, dd, data, sl⟩, ho, hc, n, hd⟩ := id pl.isList
  simp only at hc hd
  subst hc hd
  have hjl : j < bs.length := (List.getElem?_eq_some_iff.mp hj).1
  have at_ : ∀ m (hm : m < (bs.map Value.bool).toArray.size), (bs.map Value.bool).toArray[m] = .bool (bs[m]'(by simpa using hm)) := fun m hm => by simp
  refine call_meets F.slot_list_index ⟨_, ho, rfl⟩ F.entry_list_index (F.args_list_index_2 _ _) (SeqAt.list_indexAt p (bs.map Value.bool).toArray n dd sl (.bool true) (fun y => match y with | .bool c => c == true | _ => false) j (by simpa using hjl) (by have := hjl; omega) ?_ ?_) ⟨ho, fun y hy => ?_, ?_⟩
  · rw [at_]
    have := (List.getElem?_eq_some_iff.mp hj).2
    rw [this]
    rfl
  · intro m hm1 hm2
    rw [at_]
    have := (List.getElem?_eq_some_iff.mp (hm m hm2)).2
    rw [this]
    rfl
  · obtain ⟨c, _, rfl⟩ := List.mem_map.mp (show y ∈ bs.map Value.bool by simpa using hy)
    exact SeqAt.EqAt.bool_bool c true
  · exact ⟨.int (j : Int), H, I.tok _, ⟨s.toks, rfl⟩, q⟩
end
end L2

namespace L2
open PySem PyProof.Rows
/-- o.append(f(..)) where f may raise -/
def tAppC (K : PySem.W.Frag) (to : TE) (t : TA) (sp : Sp) (E : XK) (σ : St) (H : Hp) (Q : VK) : Prop := to σ H fun x H1 => tyV K "list" x H1 ∧ t σ H1 fun vs H2 => sp vs H2 (fun v H3 => rAppend x [v] H3 Q) E
section
variable {X : Cx} {pins : List (Addr × Obj)} {σ : St} {H : Hp} {s : Shared}
theorem app_cat {k : Nat} {f : Addr} {fd : FuncData} {ps : List Str} {sp : Sp} {x : Str} {p cpos apos pos : Pos} {o e : Expr} {es : List Expr} {to : TE} {t : TA} {Q : VK} {E : XK} (ho : PE X.nox o to) (F : FnOk X.prog X.w X.K X.mg X.base (CX1 X.prog X.w) k f fd ps sp) (hr : Room k X.A) (hg : Gl X x) (hm : X.mg x = some (.ref f))
    (hk : PySem.W.keepIn X.K (.ref f) = true) (hb : Binds X.K fd ps []) (ha : PA X.nox (e :: es) t) (I : Inv X pins σ H s) (h : tAppC X.K to t sp E σ H Q) (hdb : (x == ("__debug__" : Str)) = false)
    (he : starEach (e :: es) X.env = (false, eval e X.env) :: starEach es X.env) (hpl : (backTo cpos (starEach es X.env)).any (·.1) = false)
    (hbase : attributeBase o "append" X.env (eval o X.env) = eval o X.env)
    (hfew : ((backTo pos (starEach [.Call (.Name x p) (e :: es) [] cpos] X.env)).all (fun x => !x.1) && (backToKw pos (keywordEach [] X.env)).all (fun x => x.1.isSome)
      && decide (([.Call (.Name x p) (e :: es) [] cpos] : List Expr).length + ([] : List Keyword).length + (if ([] : List Keyword).isEmpty then 0 else 1) < 30)) = true)
    (hline : (apos.endLine == pos.line) = true) (hs : starEach [.Call (.Name x p) (e :: es) [] cpos] X.env = (false, eval (.Call (.Name x p) (e :: es) [] cpos) X.env) :: starEach [] X.env) (hplain : (backTo pos (starEach [] X.env)).any (·.1) = false) :
    wpAny (model X.prog X.w) X.A (eval (.Call (.Attribute o "append" apos) [.Call (.Name x p) (e :: es) [] cpos] [] pos) X.env) (EP X pins σ Q) (Cat X pins σ E) s := by
  refine wpAny_Call_method_late hbase hfew hline rfl (wpAny_mono (ho pins s σ H _ (I.wish _) h) (fun v s1 h1 => ?_) fun _ _ z => z.elim)
  obtain ⟨x1, H1, I1', r1, ty, q1⟩ := h1
  have I1 : Inv X pins σ H1 s1 := I1'.unwish
  obtain ⟨h1, h2⟩ := tyV_is I1 r1 ty
  refine ⟨"list", "list.append", PySem.F.plainAttrs_list, PySem.F.slot_list_append, PySem.F.type_list_append, h1, h2, ?_⟩
  rw [hs]
  refine Calls.callWith_builtin (by show (false || (backTo pos (starEach [] X.env)).any (·.1)) = false; rw [hplain] <;> rfl) (Calls.evalArgs_plain ?_)
  show wpAny _ _ (spliced ((false, eval (.Call (.Name x p) (e :: es) [] cpos) X.env) :: backTo pos (starEach [] X.env))) _ _ s1
  refine Calls.spliced_cons (wpAny_mono (call_cat F hr hg hm hk hb ha I1 q1 hdb he hpl) (fun u s2 h3 => Calls.spliced_nil ?_) fun _ _ z => z)
  obtain ⟨y, H2, I2, r2, q2⟩ := h3
  have := mt_append (X := X.nox) pins s2 σ H2 x1 [y] v [u] Q (I2.wish _) r1 (.cons r2 .nil) q2
  exact wpAny_mono this (fun w s3 ⟨z, H3, I3, r3, q3⟩ => ⟨z, H3, I3.unwish, r3, q3⟩) fun _ _ z => z.elim
/-- try: if c: o.append(f(..)) else: o.append(f'(..)); except C as n: suite -/
def tTryIA (K : PySem.W.Frag) (tc : TT) (to1 : TE) (t1 : TA) (sp1 : Sp) (to2 : TE) (t2 : TA) (sp2 : Sp) (i : Nat) (C' : Addr) (ts : TS) : TS := fun D σ H => tc σ H fun c H1 =>
  if c = true then tAppC K to1 t1 sp1 (fun v C H2 => ∃ Cc, C = some Cc ∧ PySem.W.exmOne K (.ref Cc) (.ref C') = some true ∧ ∀ ea, v = .ref ea → H2 ea = none → ts (D.less i) (σ.set i (some (.ref ea))) (upd H2 ea (ExcO ea Cc))) σ H1 (fun _ H2 => D.nx σ H2)
  else tAppC K to2 t2 sp2 (fun v C H2 => ∃ Cc, C = some Cc ∧ PySem.W.exmOne K (.ref Cc) (.ref C') = some true ∧ ∀ ea, v = .ref ea → H2 ea = none → ts (D.less i) (σ.set i (some (.ref ea))) (upd H2 ea (ExcO ea Cc))) σ H1 (fun _ H2 => D.nx σ H2)
theorem ps_tryIA {i k1 k2 : Nat} {f1 f2 : Addr} {fd1 fd2 : FuncData} {ps1 ps2 : List Str} {sp1 sp2 : Sp} {x1 x2 c n : Str} {p1 cpos1 apos1 pos1 epos1 p2 cpos2 apos2 pos2 epos2 ipos np hpos pos : Pos} {o1 e1 o2 e2 cond : Expr} {es1 es2 : List Expr} {tc : TT} {to1 to2 : TE} {t1 t2 : TA} {C' : Addr} {b₀ : Stmt} {suite : List Stmt} {ts : TS}
    (hN : X.N.Nodup) (hi : X.N[i]? = some n) (hn : X.env.scope.names.lookup n = some .local) (hc : PT X.nox cond tc)
    (ho1 : PE X.nox o1 to1) (F1 : FnOk X.prog X.w X.K X.mg X.base (CX1 X.prog X.w) k1 f1 fd1 ps1 sp1) (hr1 : Room k1 X.A) (hg1 : Gl X x1) (hm1 : X.mg x1 = some (.ref f1)) (hk1 : PySem.W.keepIn X.K (.ref f1) = true) (hb1 : Binds X.K fd1 ps1 []) (ha1 : PA X.nox (e1 :: es1) t1)
    (ho2 : PE X.nox o2 to2) (F2 : FnOk X.prog X.w X.K X.mg X.base (CX1 X.prog X.w) k2 f2 fd2 ps2 sp2) (hr2 : Room k2 X.A) (hg2 : Gl X x2) (hm2 : X.mg x2 = some (.ref f2)) (hk2 : PySem.W.keepIn X.K (.ref f2) = true) (hb2 : Binds X.K fd2 ps2 []) (ha2 : PA X.nox (e2 :: es2) t2)
    (hown : X.stack = X.env :: X.outer ∧ X.env.frame = some X.env.locals) (hgc : Gl X c) (hmc : X.mg c = some (.ref C')) (hs : ∀ ee xe, PSs (X.marked ee xe) (b₀ :: suite) ts)
    (hdb1 : (x1 == ("__debug__" : Str)) = false := by decide) (hdb2 : (x2 == ("__debug__" : Str)) = false := by decide) (hdc : (c == ("__debug__" : Str)) = false := by decide)
    (he1 : starEach (e1 :: es1) X.env = (false, eval e1 X.env) :: starEach es1 X.env := by rfl) (hpl1 : (backTo cpos1 (starEach es1 X.env)).any (·.1) = false := by rfl)
    (hbase1 : attributeBase o1 "append" X.env (eval o1 X.env) = eval o1 X.env := by rfl)
    (hfew1 : ((backTo pos1 (starEach [.Call (.Name x1 p1) (e1 :: es1) [] cpos1] X.env)).all (fun x => !x.1) && (backToKw pos1 (keywordEach [] X.env)).all (fun x => x.1.isSome)
      && decide (([.Call (.Name x1 p1) (e1 :: es1) [] cpos1] : List Expr).length + ([] : List Keyword).length + (if ([] : List Keyword).isEmpty then 0 else 1) < 30)) = true := by rfl)
    (hline1 : (apos1.endLine == pos1.line) = true := by rfl) (hs1 : starEach [.Call (.Name x1 p1) (e1 :: es1) [] cpos1] X.env = (false, eval (.Call (.Name x1 p1) (e1 :: es1) [] cpos1) X.env) :: starEach [] X.env := by rfl) (hplain1 : (backTo pos1 (starEach [] X.env)).any (·.1) = false := by rfl)
    (hsw1 : swapsWith (.Call (.Attribute o1 "append" apos1) [.Call (.Name x1 p1) (e1 :: es1) [] cpos1] [] pos1) none epos1.line X.env = pure false := by rfl)
    (he2 : starEach (e2 :: es2) X.env = (false, eval e2 X.env) :: starEach es2 X.env := by rfl) (hpl2 : (backTo cpos2 (starEach es2 X.env)).any (·.1) = false := by rfl)
    (hbase2 : attributeBase o2 "append" X.env (eval o2 X.env) = eval o2 X.env := by rfl)
    (hfew2 : ((backTo pos2 (starEach [.Call (.Name x2 p2) (e2 :: es2) [] cpos2] X.env)).all (fun x => !x.1) && (backToKw pos2 (keywordEach [] X.env)).all (fun x => x.1.isSome)
      && decide (([.Call (.Name x2 p2) (e2 :: es2) [] cpos2] : List Expr).length + ([] : List Keyword).length + (if ([] : List Keyword).isEmpty then 0 else 1) < 30)) = true := by rfl)
    (hline2 : (apos2.endLine == pos2.line) = true := by rfl) (hs2 : starEach [.Call (.Name x2 p2) (e2 :: es2) [] cpos2] X.env = (false, eval (.Call (.Name x2 p2) (e2 :: es2) [] cpos2) X.env) :: starEach [] X.env := by rfl) (hplain2 : (backTo pos2 (starEach [] X.env)).any (·.1) = false := by rfl)
    (hsw2 : swapsWith (.Call (.Attribute o2 "append" apos2) [.Call (.Name x2 p2) (e2 :: es2) [] cpos2] [] pos2) none epos2.line X.env = pure false := by rfl) :
    PS X (.Try [.If cond [.Expr (.Call (.Attribute o1 "append" apos1) [.Call (.Name x1 p1) (e1 :: es1) [] cpos1] [] pos1) epos1] [.Expr (.Call (.Attribute o2 "append" apos2) [.Call (.Name x2 p2) (e2 :: es2) [] cpos2] [] pos2) epos2] ipos]
      [.ExceptHandler (some (.Name c np)) (some n) (b₀ :: suite) hpos] [] [] pos) (tTryIA X.K tc to1 t1 sp1 to2 t2 sp2 i C' ts) := by
  intro pins s σ H D I h
  refine wpAny_Try_except (wpAny_execs_cons ?_)
  have flow : ∀ (fl : Flow) (s1 : Shared), SP X pins D fl s1 → match fl with | .next => wpAny (model X.prog X.w) X.A (execs [] X.env) (SP X pins D) (Cat X pins σ (fun v C H2 => ∃ Cc, C = some Cc ∧ PySem.W.exmOne X.K (.ref Cc) (.ref C') = some true ∧ ∀ ea, v = .ref ea → H2 ea = none → ts (D.less i) (σ.set i (some (.ref ea))) (upd H2 ea (ExcO ea Cc)))) s1 | _ => True := fun fl s1 q => by
    cases fl with
    | next => exact wpAny_execs_nil q
    | _ => trivial
  refine wpAny_mono (Q := SP X pins D) (E := Cat X pins σ (fun v C H2 => ∃ Cc, C = some Cc ∧ PySem.W.exmOne X.K (.ref Cc) (.ref C') = some true ∧ ∀ ea, v = .ref ea → H2 ea = none → ts (D.less i) (σ.set i (some (.ref ea))) (upd H2 ea (ExcO ea Cc)))) (wpAny_If (wpAny_mono (hc pins s σ H _ (I.wish _) h) (fun d s1 h1 => ?_) fun _ _ z => z.elim)) (fun fl s1 q => ?_) fun e' s1 q => catch_as q hown hgc hmc hN hi hn hs hdc
  · obtain ⟨H1, I1', q1⟩ := h1
    have I1 : Inv X pins σ H1 s1 := I1'.unwish
    cases d with
    | true =>
      refine wpAny_execs_cons (wpAny_mono (wpAny_Expr_any (Q := SP X pins D) (wpAny_mono (app_cat ho1 F1 hr1 hg1 hm1 hk1 hb1 ha1 I1 q1 hdb1 he1 hpl1 hbase1 hfew1 hline1 hs1 hplain1) (fun v s2 ⟨y, H2, I2, r2, q2⟩ => ⟨σ, H2, I2, q2⟩) fun _ _ z => z) I1.quiet hsw1) (fun fl s2 q => ?_) fun _ _ z => z)
      cases fl with
      | next => exact wpAny_execs_nil q
      | ret v => exact q
      | brk => exact q
      | cont => exact q
    | false =>
      refine wpAny_execs_cons (wpAny_mono (wpAny_Expr_any (Q := SP X pins D) (wpAny_mono (app_cat ho2 F2 hr2 hg2 hm2 hk2 hb2 ha2 I1 q1 hdb2 he2 hpl2 hbase2 hfew2 hline2 hs2 hplain2) (fun v s2 ⟨y, H2, I2, r2, q2⟩ => ⟨σ, H2, I2, q2⟩) fun _ _ z => z) I1.quiet hsw2) (fun fl s2 q => ?_) fun _ _ z => z)
      cases fl with
      | next => exact wpAny_execs_nil q
      | ret v => exact q
      | brk => exact q
      | cont => exact q
  · cases fl with
    | next => exact wpAny_execs_nil (wpAny_execs_nil q)
    | ret v => exact q
    | brk => exact q
    | cont => exact q
end
end L2

namespace K18
open PySem L2 PyProof.Rows
def top (i : Nat) : Stmt := PySem.Challenge.pw_askwright_k18_projects_changed.main.body.getD i (.Pass ⟨0, 0, 0, 0⟩)
abbrev s_is_text : Stmt := top 23
abbrev s_is_tree : Stmt := top 24
abbrev s_is_name : Stmt := top 25
abbrev s_is_pair : Stmt := top 27
abbrev s_is_source : Stmt := top 30
abbrev s_Project_init : Stmt := inClass (top 31) 0
abbrev s_Project_sources : Stmt := inClass (top 31) 1
abbrev s_Project_source_of : Stmt := inClass (top 31) 2
abbrev s_with_source : Stmt := top 32
abbrev s_without : Stmt := top 33
abbrev s_law_pot : Stmt := top 35
abbrev s_law_take : Stmt := top 36
abbrev s_law_cell_at : Stmt := top 37
abbrev s_law_signs : Stmt := top 38
abbrev s_law_text : Stmt := top 39
abbrev s_law_tree : Stmt := top 40
abbrev s_law_measure : Stmt := top 41
abbrev s_law_is_tree : Stmt := top 42
abbrev s_law_good_tree : Stmt := top 43
abbrev s_law_names : Stmt := top 44
abbrev s_law_source : Stmt := top 45
abbrev s_law_pairs : Stmt := top 46
abbrev s_law_same_as : Stmt := top 47
abbrev s_law_deed : Stmt := top 48
abbrev s_law_due : Stmt := top 49
abbrev s_law_done : Stmt := top 50
abbrev s_law : Stmt := top 51
structure Ad where
  f_is_text : Addr
  d_is_text : FuncData
  f_is_tree : Addr
  d_is_tree : FuncData
  f_is_name : Addr
  d_is_name : FuncData
  f_is_pair : Addr
  d_is_pair : FuncData
  f_is_source : Addr
  d_is_source : FuncData
  f_Project_init : Addr
  d_Project_init : FuncData
  f_Project_sources : Addr
  d_Project_sources : FuncData
  f_Project_source_of : Addr
  d_Project_source_of : FuncData
  f_with_source : Addr
  d_with_source : FuncData
  f_without : Addr
  d_without : FuncData
  f_law_pot : Addr
  d_law_pot : FuncData
  f_law_take : Addr
  d_law_take : FuncData
  f_law_cell_at : Addr
  d_law_cell_at : FuncData
  f_law_signs : Addr
  d_law_signs : FuncData
  f_law_text : Addr
  d_law_text : FuncData
  f_law_tree : Addr
  d_law_tree : FuncData
  f_law_measure : Addr
  d_law_measure : FuncData
  f_law_is_tree : Addr
  d_law_is_tree : FuncData
  f_law_good_tree : Addr
  d_law_good_tree : FuncData
  f_law_names : Addr
  d_law_names : FuncData
  f_law_source : Addr
  d_law_source : FuncData
  f_law_pairs : Addr
  d_law_pairs : FuncData
  f_law_same_as : Addr
  d_law_same_as : FuncData
  f_law_deed : Addr
  d_law_deed : FuncData
  f_law_due : Addr
  d_law_due : FuncData
  f_law_done : Addr
  d_law_done : FuncData
  f_law : Addr
  d_law : FuncData
  c_Project : Addr
structure Tx (K : PySem.W.Frag) (mg : Str → Option Value) (a : Ad) : Prop where
  F_is_text : Fun K "is_text" "is_text" s_is_text a.f_is_text a.d_is_text
  b_is_text : Binds K a.d_is_text ["value"] []
  m_is_text : mg "is_text" = some (.ref a.f_is_text)
  F_is_tree : Fun K "is_tree" "is_tree" s_is_tree a.f_is_tree a.d_is_tree
  b_is_tree : Binds K a.d_is_tree ["value"] []
  m_is_tree : mg "is_tree" = some (.ref a.f_is_tree)
  F_is_name : Fun K "is_name" "is_name" s_is_name a.f_is_name a.d_is_name
  b_is_name : Binds K a.d_is_name ["value"] []
  m_is_name : mg "is_name" = some (.ref a.f_is_name)
  F_is_pair : Fun K "is_pair" "is_pair" s_is_pair a.f_is_pair a.d_is_pair
  b_is_pair : Binds K a.d_is_pair ["value"] []
  m_is_pair : mg "is_pair" = some (.ref a.f_is_pair)
  F_is_source : Fun K "is_source" "is_source" s_is_source a.f_is_source a.d_is_source
  b_is_source : Binds K a.d_is_source ["value"] []
  m_is_source : mg "is_source" = some (.ref a.f_is_source)
  F_Project_init : Fun K "__init__" "Project.__init__" s_Project_init a.f_Project_init a.d_Project_init
  b_Project_init : Binds K a.d_Project_init ["self", "sources"] []
  h_Project_init : Meth K a.c_Project "__init__" a.f_Project_init
  F_Project_sources : Fun K "sources" "Project.sources" s_Project_sources a.f_Project_sources a.d_Project_sources
  b_Project_sources : Binds K a.d_Project_sources ["self"] []
  h_Project_sources : Meth K a.c_Project "sources" a.f_Project_sources
  F_Project_source_of : Fun K "source_of" "Project.source_of" s_Project_source_of a.f_Project_source_of a.d_Project_source_of
  b_Project_source_of : Binds K a.d_Project_source_of ["self", "name"] []
  h_Project_source_of : Meth K a.c_Project "source_of" a.f_Project_source_of
  F_with_source : Fun K "with_source" "with_source" s_with_source a.f_with_source a.d_with_source
  b_with_source : Binds K a.d_with_source ["project", "name", "source"] []
  m_with_source : mg "with_source" = some (.ref a.f_with_source)
  F_without : Fun K "without" "without" s_without a.f_without a.d_without
  b_without : Binds K a.d_without ["project", "name"] []
  m_without : mg "without" = some (.ref a.f_without)
  F_law_pot : Fun K "_law_pot" "_law_pot" s_law_pot a.f_law_pot a.d_law_pot
  b_law_pot : Binds K a.d_law_pot ["cell", "salt"] []
  m_law_pot : mg "_law_pot" = some (.ref a.f_law_pot)
  F_law_take : Fun K "_law_take" "_law_take" s_law_take a.f_law_take a.d_law_take
  b_law_take : Binds K a.d_law_take ["pot", "many"] []
  m_law_take : mg "_law_take" = some (.ref a.f_law_take)
  F_law_cell_at : Fun K "_law_cell_at" "_law_cell_at" s_law_cell_at a.f_law_cell_at a.d_law_cell_at
  b_law_cell_at : Binds K a.d_law_cell_at ["script", "k"] []
  m_law_cell_at : mg "_law_cell_at" = some (.ref a.f_law_cell_at)
  F_law_signs : Fun K "_law_signs" "_law_signs" s_law_signs a.f_law_signs a.d_law_signs
  b_law_signs : Binds K a.d_law_signs [] []
  m_law_signs : mg "_law_signs" = some (.ref a.f_law_signs)
  F_law_text : Fun K "_law_text" "_law_text" s_law_text a.f_law_text a.d_law_text
  b_law_text : Binds K a.d_law_text ["pot"] []
  m_law_text : mg "_law_text" = some (.ref a.f_law_text)
  F_law_tree : Fun K "_law_tree" "_law_tree" s_law_tree a.f_law_tree a.d_law_tree
  b_law_tree : Binds K a.d_law_tree ["pot", "deep"] []
  m_law_tree : mg "_law_tree" = some (.ref a.f_law_tree)
  F_law_measure : Fun K "_law_measure" "_law_measure" s_law_measure a.f_law_measure a.d_law_measure
  b_law_measure : Binds K a.d_law_measure ["value"] []
  m_law_measure : mg "_law_measure" = some (.ref a.f_law_measure)
  F_law_is_tree : Fun K "_law_is_tree" "_law_is_tree" s_law_is_tree a.f_law_is_tree a.d_law_is_tree
  b_law_is_tree : Binds K a.d_law_is_tree ["value"] []
  m_law_is_tree : mg "_law_is_tree" = some (.ref a.f_law_is_tree)
  F_law_good_tree : Fun K "_law_good_tree" "_law_good_tree" s_law_good_tree a.f_law_good_tree a.d_law_good_tree
  b_law_good_tree : Binds K a.d_law_good_tree ["pot"] []
  m_law_good_tree : mg "_law_good_tree" = some (.ref a.f_law_good_tree)
  F_law_names : Fun K "_law_names" "_law_names" s_law_names a.f_law_names a.d_law_names
  b_law_names : Binds K a.d_law_names ["pot", "many"] []
  m_law_names : mg "_law_names" = some (.ref a.f_law_names)
  F_law_source : Fun K "_law_source" "_law_source" s_law_source a.f_law_source a.d_law_source
  b_law_source : Binds K a.d_law_source ["pot", "names"] []
  m_law_source : mg "_law_source" = some (.ref a.f_law_source)
  F_law_pairs : Fun K "_law_pairs" "_law_pairs" s_law_pairs a.f_law_pairs a.d_law_pairs
  b_law_pairs : Binds K a.d_law_pairs ["script"] []
  m_law_pairs : mg "_law_pairs" = some (.ref a.f_law_pairs)
  F_law_same_as : Fun K "_law_same_as" "_law_same_as" s_law_same_as a.f_law_same_as a.d_law_same_as
  b_law_same_as : Binds K a.d_law_same_as ["project", "table"] []
  m_law_same_as : mg "_law_same_as" = some (.ref a.f_law_same_as)
  F_law_deed : Fun K "_law_deed" "_law_deed" s_law_deed a.f_law_deed a.d_law_deed
  b_law_deed : Binds K a.d_law_deed ["pot", "table"] []
  m_law_deed : mg "_law_deed" = some (.ref a.f_law_deed)
  F_law_due : Fun K "_law_due" "_law_due" s_law_due a.f_law_due a.d_law_due
  b_law_due : Binds K a.d_law_due ["deed", "table"] []
  m_law_due : mg "_law_due" = some (.ref a.f_law_due)
  F_law_done : Fun K "_law_done" "_law_done" s_law_done a.f_law_done a.d_law_done
  b_law_done : Binds K a.d_law_done ["deed", "project", "made"] []
  m_law_done : mg "_law_done" = some (.ref a.f_law_done)
  F_law : Fun K "law" "law" s_law a.f_law a.d_law
  b_law : Binds K a.d_law ["script"] []
  m_law : mg "law" = some (.ref a.f_law)
  C_Project : Cls K a.c_Project
  M_Project : Mk K a.c_Project a.f_Project_init
  m_Project : mg "Project" = some (.ref a.c_Project)
  n_Project_by_name : NoAttr K a.c_Project "by_name"
  e_law : ∀ (s : Shared) (u : Value), BindsTo s a.d_law ⟨[u], []⟩ [("script", u)]
  m_MOST_SIGNS : ∃ t, mg "MOST_SIGNS" = some (.int 300 t)
  m_MOST_PARTS : ∃ t, mg "MOST_PARTS" = some (.int 40 t)
  m_MOST_SIZE : ∃ t, mg "MOST_SIZE" = some (.int 600 t)
  m_MOST_DEPTH : ∃ t, mg "MOST_DEPTH" = some (.int 12 t)
  m_MOST_NAME_SIGNS : ∃ t, mg "MOST_NAME_SIGNS" = some (.int 24 t)
  m_LETTERS : ∃ t, mg "LETTERS" = some (.str "abcdefghijklmnopqrstuvwxyz" t)
  m_NAME_SIGNS : ∃ t, mg "NAME_SIGNS" = some (.str "abcdefghijklmnopqrstuvwxyz0123456789./" t)
  m_PERCENT : ∃ t, mg "PERCENT" = some (.int 37 t)
  m_MOST_NAMES : ∃ t, mg "MOST_NAMES" = some (.int 60 t)
  z_ord : mg "ord" = none
  z_len : mg "len" = none
  z_isinstance : mg "isinstance" = none
  z_str : mg "str" = none
  z_tuple : mg "tuple" = none
  z_all : mg "all" = none
  z_dict : mg "dict" = none
  z_sorted : mg "sorted" = none
  z_abs : mg "abs" = none
  z_range : mg "range" = none
  z_max : mg "max" = none
  z_sum : mg "sum" = none
  z_list : mg "list" = none
  z_int : mg "int" = none
  z_ValueError : mg "ValueError" = none
theorem sc_is_text : FnScope ["value", "sign"] ["value"] (defScope s_is_text) := ⟨rfl, rfl, rfl, by decide +kernel, rfl, by decide +kernel, by decide +kernel⟩
theorem sc_is_tree : FnScope ["value", "size", "waiting", "pair", "part", "depth"] ["value"] (defScope s_is_tree) := ⟨rfl, rfl, rfl, by decide +kernel, rfl, by decide +kernel, by decide +kernel⟩
theorem sc_is_name : FnScope ["value"] ["value"] (defScope s_is_name) := ⟨rfl, rfl, rfl, by decide +kernel, rfl, by decide +kernel, by decide +kernel⟩
theorem sc_is_pair : FnScope ["value"] ["value"] (defScope s_is_pair) := ⟨rfl, rfl, rfl, by decide +kernel, rfl, by decide +kernel, by decide +kernel⟩
theorem sc_is_source : FnScope ["value"] ["value"] (defScope s_is_source) := ⟨rfl, rfl, rfl, by decide +kernel, rfl, by decide +kernel, by decide +kernel⟩
theorem sc_Project_init : FnScope ["self", "sources", "by_name", "name", "source"] ["self", "sources"] (defScope s_Project_init) := ⟨rfl, rfl, rfl, by decide +kernel, rfl, by decide +kernel, by decide +kernel⟩
theorem sc_Project_sources : FnScope ["self"] ["self"] (defScope s_Project_sources) := ⟨rfl, rfl, rfl, by decide +kernel, rfl, by decide +kernel, by decide +kernel⟩
theorem sc_Project_source_of : FnScope ["self", "name"] ["self", "name"] (defScope s_Project_source_of) := ⟨rfl, rfl, rfl, by decide +kernel, rfl, by decide +kernel, by decide +kernel⟩
theorem sc_with_source : FnScope ["project", "name", "source", "others"] ["project", "name", "source"] (defScope s_with_source) := ⟨rfl, rfl, rfl, by decide +kernel, rfl, by decide +kernel, by decide +kernel⟩
theorem sc_without : FnScope ["project", "name"] ["project", "name"] (defScope s_without) := ⟨rfl, rfl, rfl, by decide +kernel, rfl, by decide +kernel, by decide +kernel⟩
theorem sc_law_pot : FnScope ["cell", "salt"] ["cell", "salt"] (defScope s_law_pot) := ⟨rfl, rfl, rfl, by decide +kernel, rfl, by decide +kernel, by decide +kernel⟩
theorem sc_law_take : FnScope ["pot", "many", "digit"] ["pot", "many"] (defScope s_law_take) := ⟨rfl, rfl, rfl, by decide +kernel, rfl, by decide +kernel, by decide +kernel⟩
theorem sc_law_cell_at : FnScope ["script", "k"] ["script", "k"] (defScope s_law_cell_at) := ⟨rfl, rfl, rfl, by decide +kernel, rfl, by decide +kernel, by decide +kernel⟩
theorem sc_law_signs : FnScope ["some"] [] (defScope s_law_signs) := ⟨rfl, rfl, rfl, by decide +kernel, rfl, by decide +kernel, by decide +kernel⟩
theorem sc_law_text : FnScope ["pot", "signs", "text", "k"] ["pot"] (defScope s_law_text) := ⟨rfl, rfl, rfl, by decide +kernel, rfl, by decide +kernel, by decide +kernel⟩
theorem sc_law_tree : FnScope ["pot", "deep", "kind", "tree", "k"] ["pot", "deep"] (defScope s_law_tree) := ⟨rfl, rfl, rfl, by decide +kernel, rfl, by decide +kernel, by decide +kernel⟩
theorem sc_law_measure : FnScope ["value", "signs", "parts", "good"] ["value"] (defScope s_law_measure) := ⟨rfl, rfl, rfl, by decide +kernel, rfl, by decide +kernel, by decide +kernel⟩
theorem sc_law_is_tree : FnScope ["value", "good", "size", "deep"] ["value"] (defScope s_law_is_tree) := ⟨rfl, rfl, rfl, by decide +kernel, rfl, by decide +kernel, by decide +kernel⟩
theorem sc_law_good_tree : FnScope ["pot", "tree"] ["pot"] (defScope s_law_good_tree) := ⟨rfl, rfl, rfl, by decide +kernel, rfl, by decide +kernel, by decide +kernel⟩
theorem sc_law_names : FnScope ["pot", "many", "names", "k", "name", "j"] ["pot", "many"] (defScope s_law_names) := ⟨rfl, rfl, rfl, by decide +kernel, rfl, by decide +kernel, by decide +kernel⟩
theorem sc_law_source : FnScope ["pot", "names", "kind"] ["pot", "names"] (defScope s_law_source) := ⟨rfl, rfl, rfl, by decide +kernel, rfl, by decide +kernel, by decide +kernel⟩
theorem sc_law_pairs : FnScope ["script", "first", "many", "pot", "names", "pairs", "k", "own"] ["script"] (defScope s_law_pairs) := ⟨rfl, rfl, rfl, by decide +kernel, rfl, by decide +kernel, by decide +kernel⟩
theorem sc_law_same_as : FnScope ["project", "table", "names", "due"] ["project", "table"] (defScope s_law_same_as) := ⟨rfl, rfl, rfl, by decide +kernel, rfl, by decide +kernel, by decide +kernel⟩
theorem sc_law_deed : FnScope ["pot", "table", "names", "name", "source"] ["pot", "table"] (defScope s_law_deed) := ⟨rfl, rfl, rfl, by decide +kernel, rfl, by decide +kernel, by decide +kernel⟩
theorem sc_law_due : FnScope ["deed", "table", "word", "name", "source"] ["deed", "table"] (defScope s_law_due) := ⟨rfl, rfl, rfl, by decide +kernel, rfl, by decide +kernel, by decide +kernel⟩
theorem sc_law_done : FnScope ["deed", "project", "made", "word", "name", "source", "error", "e", "marks"] ["deed", "project", "made"] (defScope s_law_done) := ⟨rfl, rfl, rfl, by decide +kernel, rfl, by decide +kernel, by decide +kernel⟩
theorem sc_law : FnScope ["script", "pairs", "project", "table", "cell", "deed", "due", "made"] ["script"] (defScope s_law) := ⟨rfl, rfl, rfl, by decide +kernel, rfl, by decide +kernel, by decide +kernel⟩
/-- the classes of the refusals -/
structure Ga where
  (bn bt ng wr xBadAnswer xBadKeep xBadRule xBadText xBadTree xClash xNoAsk xNoDeed : Addr)
structure Fx (K : PySem.W.Frag) (mg : Str → Option Value) (g : Ga) : Prop where
  m_BadName : mg "BadName" = some (.ref g.bn)
  x_BadName : PySem.W.excIn K g.bn VE "ValueError.__new__" = true
  m_BadThing : mg "BadThing" = some (.ref g.bt)
  x_BadThing : PySem.W.excIn K g.bt VE "ValueError.__new__" = true
  m_NoThing : mg "NoThing" = some (.ref g.ng)
  x_NoThing : PySem.W.excIn K g.ng VE "ValueError.__new__" = true
  m_WrightError : mg "WrightError" = some (.ref g.wr)
  e_BadName : PySem.W.exmOne K (.ref g.bn) (.ref g.wr) = some true
  e_BadThing : PySem.W.exmOne K (.ref g.bt) (.ref g.wr) = some true
  e_NoThing : PySem.W.exmOne K (.ref g.ng) (.ref g.wr) = some true
  m_BadAnswer : mg "BadAnswer" = some (.ref g.xBadAnswer)
  m_BadKeep : mg "BadKeep" = some (.ref g.xBadKeep)
  m_BadRule : mg "BadRule" = some (.ref g.xBadRule)
  m_BadText : mg "BadText" = some (.ref g.xBadText)
  m_BadTree : mg "BadTree" = some (.ref g.xBadTree)
  m_Clash : mg "Clash" = some (.ref g.xClash)
  m_NoAsk : mg "NoAsk" = some (.ref g.xNoAsk)
  m_NoDeed : mg "NoDeed" = some (.ref g.xNoDeed)
  xcN : AwV.ExcCls K g.bn
  veN : PySem.W.kitOne K (.ref g.bn) (.type "ValueError") = some true
  t1N : PySem.W.kitAny K (.ref g.bn) ([g.xBadAnswer, g.xBadKeep, g.xBadRule, g.xBadText, g.xBadTree].map Value.ref) = some false
  t2N : PySem.W.kitAny K (.ref g.bn) ([g.xClash, g.xNoAsk, g.xNoDeed].map Value.ref) = some false
  xcT : AwV.ExcCls K g.bt
  veT : PySem.W.kitOne K (.ref g.bt) (.type "ValueError") = some true
  t1T : PySem.W.kitAny K (.ref g.bt) ([g.xBadAnswer, g.xBadKeep, g.xBadRule, g.xBadText, g.xBadTree].map Value.ref) = some false
  t2T : PySem.W.kitAny K (.ref g.bt) ([g.xClash, g.xNoAsk, g.xNoDeed].map Value.ref) = some false
  xcG : AwV.ExcCls K g.ng
  veG : PySem.W.kitOne K (.ref g.ng) (.type "ValueError") = some true
  t1G : PySem.W.kitAny K (.ref g.ng) ([g.xBadAnswer, g.xBadKeep, g.xBadRule, g.xBadText, g.xBadTree].map Value.ref) = some false
  t2G : PySem.W.kitAny K (.ref g.ng) ([g.xClash, g.xNoAsk, g.xNoDeed].map Value.ref) = some false
  kNT : PySem.W.kitOne K (.ref g.bn) (.ref g.bt) = some false
  kNG : PySem.W.kitOne K (.ref g.bn) (.ref g.ng) = some false
  kTN : PySem.W.kitOne K (.ref g.bt) (.ref g.bn) = some false
  kTG : PySem.W.kitOne K (.ref g.bt) (.ref g.ng) = some false
  kGN : PySem.W.kitOne K (.ref g.ng) (.ref g.bn) = some false
  kGT : PySem.W.kitOne K (.ref g.ng) (.ref g.bt) = some false
/-! ### what the defs promise -/
def SGN : Str := ((("abcdefghijklmnopqrstuvwxyzABCDEFGHIJKLMNOPQRSTUVWXYZ0123456789" ++ " !#$&'()*+,-./:;<=>?\x40[]^_") ++ "`{|}~") ++ "\"") ++ "\\"
def PotAt (H : Hp) (p : Addr) : Prop := ∃ x y : Int, H p = some (.lst [.int x, .int y]) ∧ 0 ≤ x ∧ 0 ≤ y ∧ y < 2147483648
theorem PotAt.same {H H' : Hp} {p : Addr} (h : PotAt H p) (s : Same H H') : PotAt H' p := by
  obtain ⟨x, y, e, r⟩ := h
  exact ⟨x, y, s _ _ e, r⟩
theorem PotAt.free {H : Hp} {p l : Addr} (h : PotAt H p) (n : H l = none) : p ≠ l := by
  obtain ⟨x, y, e, r⟩ := h
  exact ne_of_none e n
theorem PotAt.tk {H H' : Hp} {p : Addr} (h : PotAt H p) (h' : PotAt H' p) (k : Kept p H H') : Tk H H' := by
  obtain ⟨x, y, e, _⟩ := h
  obtain ⟨x', y', e', _⟩ := h'
  exact k.tk e e'
def sp_take : Sp := fun vs H Q _ => ∃ (p : Addr) (many : Int), vs = [.ref p, .int many] ∧ PotAt H p ∧ 0 < many ∧ many < 1073741824 ∧ ∀ (d : Int) (H' : Hp), 0 ≤ d → d < many → PotAt H' p → Kept p H H' → Q (.int d) H'
def sp_pot : Sp := fun vs H Q _ => ∃ (c t : Int), vs = [.int c, .int t] ∧ 0 ≤ t ∧ t < 1000 ∧ ∀ (p : Addr) (H' : Hp), H p = none → Same H H' → PotAt H' p → Q (.ref p) H'
def sp_signs : Sp := fun vs H Q _ => vs = [] ∧ Q (.str SGN) H
def okAll (z : Str) : Bool := z.cps.toList.all okSign
theorem okAll_app {z y : Str} (h : okAll z = true) (k : okAll y = true) : okAll (z ++ y) = true := by
  unfold okAll at *
  show (z.cps ++ y.cps).toList.all okSign = true
  rw [Array.toList_append, List.all_append, h, k]; rfl
theorem joined_all (xs : Array Nat) (hx : xs.toList.all okSign = true) : ∀ (k : Nat) (acc : Array Nat), acc.toList.all okSign = true → ((List.replicate k xs).foldl (· ++ ·) acc).toList.all okSign = true
  | 0, acc, h => h
  | k + 1, acc, h => by
    rw [List.replicate_succ, List.foldl_cons]
    exact joined_all xs hx k _ (by rw [Array.toList_append, List.all_append, h, hx]; rfl)
theorem okAll_mul {z : Str} {n : Int} (h : okAll z = true) : okAll (Txt.mul z n) = true := by
  unfold Txt.mul
  split
  · rfl
  · split
    · exact h
    · exact joined_all _ h _ _ rfl
theorem atI_mem {α : Type} {xs : List α} {i : Int} {c : α} (h : atI xs i = some c) : c ∈ xs := by
  unfold atI at h
  obtain ⟨j, _, e⟩ := Option.bind_eq_some_iff.mp h
  exact List.mem_of_getElem? e
def sp_text : Sp := fun vs H Q _ => ∃ p, vs = [.ref p] ∧ PotAt H p ∧ ∀ (z : Str) (H' : Hp), z.length ≤ 20000 → okAll z = true → PotAt H' p → Kept p H H' → Q (.str z) H'
theorem small {n : Nat} (h : n ≤ 1000) : n ≤ sizeLine := Nat.le_of_lt (small1000 h)
theorem fits {n : Nat} (h : n ≤ 16000000) : n ≤ sizeLine := by rw [sizeLine_eq]; omega
theorem app_len (z y : Str) : (z ++ y : Str).length = z.length + y.length := by
  show (z.cps ++ y.cps).size = z.cps.size + y.cps.size
  exact Array.size_append
theorem sgn_len : SGN.length = 94 := by decide +kernel
theorem sgn_all : SGN.cps.toList.all okSign = true := by decide +kernel
section
variable {P : Program} {w : World} {K : PySem.W.Frag} {mg : Str → Option Value} {base : Heap} {a : Ad}
theorem ok_take (T : Tx K mg a) : FnOk P w K mg base CX0 1 a.f_law_take a.d_law_take ["pot", "many"] sp_take := by
  refine T.F_law_take.ok sc_law_take (fun vs H Q E h => ?_) (fun cdv A outer s H vs Q E hr h => ?_)
  · obtain ⟨p, many, rfl, _⟩ := h
    rfl
  obtain ⟨p, many, rfl, ⟨x, y, hp, hx, hy, hy2⟩, hm, hm2, k⟩ := h
  refine ⟨_, (@pss_cons _ _ _ _ _ (@ps_if _ _ _ _ _ _ _ _ (@pt_cmpR _ _ _ _ _ _ _ _ (@op_gt _) (@pe_ix _ _ _ _ _ _ _ (@ix_list _) (pv 0) (@pe_int _ _ _ _) (fun _ _ => rfl)) (@pe_int _ _ _ _) (nomark _)) (@pss_cons _ _ _ _ _ (@ps_set _ _ (2) _ _ _ _ sc_law_take.nd rfl (Or.inl rfl) (@pe_op _ _ _ _ _ _ _ _ (@op_mod _) (@pe_ix _ _ _ _ _ _ _ (@ix_list _) (pv 0) (@pe_int _ _ _ _) (fun _ _ => rfl)) (pv 1)) (by first|rfl|exact .inl rfl|exact .inr rfl|exact .inr (.inl rfl)|decide +kernel|(intro _;rfl)) (by first|rfl|exact .inl rfl|exact .inr rfl|exact .inr (.inl rfl)|decide +kernel|(intro _;rfl))) (@pss_cons _ _ _ _ _ (@ps_asg _ _ _ _ _ _ (@pe_op _ _ _ _ _ _ _ _ (@op_fdiv _) (@pe_ix _ _ _ _ _ _ _ (@ix_list _) (pv 0) (@pe_int _ _ _ _) (fun _ _ => rfl)) (pv 1)) (@pg_sub _ _ _ _ _ _ _ (pv 0) (@pe_int _ _ _ _) (@set_list _) (by first|rfl|exact .inl rfl|exact .inr rfl|exact .inr (.inl rfl)|decide +kernel|(intro _;rfl))) (by first|rfl|exact .inl rfl|exact .inr rfl|exact .inr (.inl rfl)|decide +kernel|(intro _;rfl)) (by first|rfl|exact .inl rfl|exact .inr rfl|exact .inr (.inl rfl)|decide +kernel|(intro _;rfl)) (by first|rfl|exact .inl rfl|exact .inr rfl|exact .inr (.inl rfl)|decide +kernel|(intro _;rfl))) (@pss_one _ _ _ (@ps_ret _ _ _ _ (pv 2))))) (@pss_nil _)) (@pss_cons _ _ _ _ _ (@ps_asg _ _ _ _ _ _ (@pe_op _ _ _ _ _ _ _ _ (@op_mod _) (@pe_op _ _ _ _ _ _ _ _ (@op_add _) (@pe_op _ _ _ _ _ _ _ _ (@op_mul _) (@pe_ix _ _ _ _ _ _ _ (@ix_list _) (pv 0) (@pe_int _ _ _ _) (fun _ _ => rfl)) (@pe_ix _ _ _ _ _ _ _ (@ix_list _) (pv 0) (@pe_int _ _ _ _) (fun _ _ => rfl))) (@pe_int _ _ _ _)) (@pe_int _ _ _ _)) (@pg_sub _ _ _ _ _ _ _ (pv 0) (@pe_int _ _ _ _) (@set_list _) (by first|rfl|exact .inl rfl|exact .inr rfl|exact .inr (.inl rfl)|decide +kernel|(intro _;rfl))) (by first|rfl|exact .inl rfl|exact .inr rfl|exact .inr (.inl rfl)|decide +kernel|(intro _;rfl)) (by first|rfl|exact .inl rfl|exact .inr rfl|exact .inr (.inl rfl)|decide +kernel|(intro _;rfl)) (by first|rfl|exact .inl rfl|exact .inr rfl|exact .inr (.inl rfl)|decide +kernel|(intro _;rfl))) (@pss_one _ _ _ (@ps_ret _ _ _ _ (@pe_op _ _ _ _ _ _ _ _ (@op_mod _) (@pe_op _ _ _ _ _ _ _ _ (@op_fdiv _) (@pe_op _ _ _ _ _ _ _ _ (@op_mod _) (@pe_op _ _ _ _ _ _ _ _ (@op_mul _) (@pe_ix _ _ _ _ _ _ _ (@ix_list _) (pv 0) (@pe_int _ _ _ _) (fun _ _ => rfl)) (@pe_int _ _ _ _)) (@pe_int _ _ _ _)) (@pe_int _ _ _ _)) (pv 1)))))), ?_⟩
  refine ⟨_, rfl, p, _, _, _, rfl, rfl, SqL.of hp, rfl, _, _, rfl, rfl, _, rfl, ?_⟩
  refine ite2 (fun c => ?_) (fun c => ?_)
  · refine ⟨_, rfl, p, _, _, _, rfl, rfl, SqL.of hp, rfl, _, rfl, _, _, rfl, rfl, hm, ?_⟩
    refine ⟨_, rfl, p, _, _, _, rfl, rfl, SqL.of hp, rfl, _, rfl, _, _, rfl, rfl, ⟨hm, hm2⟩, _, rfl, p, _, _, _, rfl, rfl, hp, rfl, ?_⟩
    refine ⟨_, rfl, ?_⟩
    exact k _ _ (Int.emod_nonneg _ (by omega)) (Int.emod_lt_of_pos _ hm) ⟨x / many, y, upd_same, Int.ediv_nonneg hx (by omega), hy, hy2⟩ (Kept.upd _ _ _)
  · have hmul : CMul y y := .inl ⟨by omega, by omega⟩
    refine ⟨_, rfl, p, _, _, _, rfl, rfl, SqL.of hp, rfl, _, rfl, p, _, _, _, rfl, rfl, SqL.of hp, rfl, _, _, rfl, rfl, hmul, _, _, rfl, rfl, _, _, rfl, rfl, (by show (0 : Int) < 2147483629; decide), _, rfl, p, _, _, _, rfl, rfl, hp, rfl, ?_⟩
    have hq : 0 ≤ (y * y + 104729) % 2147483629 ∧ (y * y + 104729) % 2147483629 < 2147483629 := ⟨Int.emod_nonneg _ (by decide), Int.emod_lt_of_pos _ (by decide)⟩
    have hmul2 : CMul ((y * y + 104729) % 2147483629) 48271 := .inr ⟨by decide, by decide⟩
    refine ⟨_, rfl, p, _, _, _, rfl, rfl, SqL.of upd_same, rfl, _, _, rfl, rfl, hmul2, _, _, rfl, rfl, (by show (0 : Int) < 2147483647; decide), _, _, rfl, rfl, ⟨by decide, by decide⟩, _, rfl, _, _, rfl, rfl, hm, ?_⟩
    exact k _ _ (Int.emod_nonneg _ (by omega)) (Int.emod_lt_of_pos _ hm) ⟨x, (y * y + 104729) % 2147483629, upd_same, hx, hq.1, Int.lt_trans hq.2 (by decide)⟩ (Kept.upd _ _ _)
theorem ok_pot (T : Tx K mg a) : FnOk P w K mg base CX0 1 a.f_law_pot a.d_law_pot ["cell", "salt"] sp_pot := by
  refine T.F_law_pot.ok sc_law_pot (fun vs H Q E h => ?_) (fun cdv A outer s H vs Q E hr h => ?_)
  · obtain ⟨c, t, rfl, _⟩ := h
    rfl
  obtain ⟨c, t, rfl, h0, h1, k⟩ := h
  refine ⟨_, (@pss_cons _ _ _ _ _ (@ps_if _ _ _ _ _ _ _ _ (@pt_cmpR _ _ _ _ _ _ _ _ (@op_ge _) (@pe_callB _ _ _ _ _ _ _ _ _ (@call_abs _) (by rfl) T.z_abs boot_abs (@pa_cons _ _ _ _ _ (pv 0) (@pa_nil _) (by first|rfl|exact .inl rfl|exact .inr rfl|exact .inr (.inl rfl)|decide +kernel|(intro _;rfl))) (by first|rfl|exact .inl rfl|exact .inr rfl|exact .inr (.inl rfl)|decide +kernel|(intro _;rfl)) (by first|rfl|exact .inl rfl|exact .inr rfl|exact .inr (.inl rfl)|decide +kernel|(intro _;rfl)) (by first|rfl|exact .inl rfl|exact .inr rfl|exact .inr (.inl rfl)|decide +kernel|(intro _;rfl)) (by first|rfl|exact .inl rfl|exact .inr rfl|exact .inr (.inl rfl)|decide +kernel|(intro _;rfl))) (@pe_op _ _ _ _ _ _ _ _ (@op_pow _) (@pe_int _ _ _ _) (@pe_int _ _ _ _)) (nomark _)) (@pss_one _ _ _ (@ps_ret _ _ _ _ (@pe_lst _ _ _ _ (@pa_cons _ _ _ _ _ (@pe_callB _ _ _ _ _ _ _ _ _ (@call_abs _) (by rfl) T.z_abs boot_abs (@pa_cons _ _ _ _ _ (pv 0) (@pa_nil _) (by first|rfl|exact .inl rfl|exact .inr rfl|exact .inr (.inl rfl)|decide +kernel|(intro _;rfl))) (by first|rfl|exact .inl rfl|exact .inr rfl|exact .inr (.inl rfl)|decide +kernel|(intro _;rfl)) (by first|rfl|exact .inl rfl|exact .inr rfl|exact .inr (.inl rfl)|decide +kernel|(intro _;rfl)) (by first|rfl|exact .inl rfl|exact .inr rfl|exact .inr (.inl rfl)|decide +kernel|(intro _;rfl)) (by first|rfl|exact .inl rfl|exact .inr rfl|exact .inr (.inl rfl)|decide +kernel|(intro _;rfl))) (@pa_cons _ _ _ _ _ (pv 1) (@pa_nil _) (by first|rfl|exact .inl rfl|exact .inr rfl|exact .inr (.inl rfl)|decide +kernel|(intro _;rfl))) (by first|rfl|exact .inl rfl|exact .inr rfl|exact .inr (.inl rfl)|decide +kernel|(intro _;rfl)))))) (@pss_nil _)) (@pss_one _ _ _ (@ps_ret _ _ _ _ (@pe_lst _ _ _ _ (@pa_cons _ _ _ _ _ (@pe_int _ _ _ _) (@pa_cons _ _ _ _ _ (@pe_op _ _ _ _ _ _ _ _ (@op_mod _) (@pe_op _ _ _ _ _ _ _ _ (@op_mul _) (@pe_op _ _ _ _ _ _ _ _ (@op_add _) (@pe_op _ _ _ _ _ _ _ _ (@op_add _) (@pe_op _ _ _ _ _ _ _ _ (@op_mod _) (pv 0) (@pe_int _ _ _ _)) (@pe_op _ _ _ _ _ _ _ _ (@op_mul _) (@pe_int _ _ _ _) (pv 1))) (@pe_int _ _ _ _)) (@pe_int _ _ _ _)) (@pe_int _ _ _ _)) (@pa_nil _) (by first|rfl|exact .inl rfl|exact .inr rfl|exact .inr (.inl rfl)|decide +kernel|(intro _;rfl))) (by first|rfl|exact .inl rfl|exact .inr rfl|exact .inr (.inl rfl)|decide +kernel|(intro _;rfl))))))), ?_⟩
  refine ⟨_, rfl, _, rfl, _, _, rfl, rfl, ⟨by decide, by decide, by decide⟩, _, _, rfl, rfl, _, rfl, ?_⟩
  refine ite2 (fun _ => ?_) (fun _ => ?_)
  · refine ⟨_, rfl, _, rfl, _, rfl, (by show 2 ≤ sizeLine; decide), fun p hp => ?_⟩
    refine k p _ hp (same_new hp _) ⟨_, _, upd_same, ?_, h0, by omega⟩
    split <;> omega
  · refine ⟨_, rfl, _, _, rfl, rfl, (by show (0 : Int) < 2147483647; decide), _, rfl, _, _, rfl, rfl, (.inl ⟨by decide, by decide⟩), _, _, rfl, rfl, _, _, rfl, rfl, _, _, rfl, rfl, (.inr ⟨by decide, by decide⟩), _, _, rfl, rfl, (by show (0 : Int) < 2147483647; decide), (by show 2 ≤ sizeLine; decide), fun p hp => ?_⟩
    refine k p _ hp (same_new hp _) ⟨_, _, upd_same, by decide, Int.emod_nonneg _ (by decide), ?_⟩
    exact Int.lt_trans (Int.emod_lt_of_pos _ (by decide)) (by decide)
theorem ok_signs (T : Tx K mg a) : FnOk P w K mg base CX0 1 a.f_law_signs a.d_law_signs [] sp_signs := by
  refine T.F_law_signs.ok sc_law_signs (fun vs H Q E h => ?_) (fun cdv A outer s H vs Q E hr h => ?_)
  · obtain ⟨rfl, _⟩ := h
    rfl
  obtain ⟨rfl, k⟩ := h
  refine ⟨_, (@pss_cons _ _ _ _ _ (@ps_set _ _ (0) _ _ _ _ sc_law_signs.nd rfl (Or.inl rfl) (@pe_str _ _ _ _) (by first|rfl|exact .inl rfl|exact .inr rfl|exact .inr (.inl rfl)|decide +kernel|(intro _;rfl)) (by first|rfl|exact .inl rfl|exact .inr rfl|exact .inr (.inl rfl)|decide +kernel|(intro _;rfl))) (@pss_one _ _ _ (@ps_ret _ _ _ _ (@pe_op _ _ _ _ _ _ _ _ (@op_add_str _) (@pe_op _ _ _ _ _ _ _ _ (@op_add_str _) (@pe_op _ _ _ _ _ _ _ _ (@op_add_str _) (@pe_op _ _ _ _ _ _ _ _ (@op_add_str _) (pv 0) (@pe_str _ _ _ _)) (@pe_str _ _ _ _)) (@pe_str _ _ _ _)) (@pe_str _ _ _ _))))), ?_⟩
  refine ⟨_, rfl, _, _, rfl, rfl, by decide +kernel, _, _, rfl, rfl, by decide +kernel, _, _, rfl, rfl, by decide +kernel, _, _, rfl, rfl, by decide +kernel, ?_⟩
  exact k
theorem ok_text (T : Tx K mg a) : FnOk P w K mg base CX0 2 a.f_law_text a.d_law_text ["pot"] sp_text := by
  have G_law_take : FnOk P w K mg base CX0 1 a.f_law_take a.d_law_take ["pot", "many"] sp_take := ok_take T
  have G_law_signs : FnOk P w K mg base CX0 1 a.f_law_signs a.d_law_signs [] sp_signs := ok_signs T
  refine T.F_law_text.ok sc_law_text (fun vs H Q E h => ?_) (fun cdv A outer s H vs Q E hr h => ?_)
  · obtain ⟨p, rfl, _⟩ := h
    rfl
  obtain ⟨p, rfl, P0, k⟩ := h
  have hs := sgn_len
  refine ⟨_, (@pss_cons _ _ _ _ _ (@ps_set _ _ (1) _ _ _ _ sc_law_text.nd rfl (Or.inl rfl) (@pe_call0 _ _ _ _ _ _ _ _ _ _ _ _ _ G_law_signs (hr.mono (by first | decide | omega)) (by rfl) T.m_law_signs T.F_law_signs.kp T.b_law_signs .nil pass0 (by first|rfl|exact .inl rfl|exact .inr rfl|exact .inr (.inl rfl)|decide +kernel|(intro _;rfl))) (by first|rfl|exact .inl rfl|exact .inr rfl|exact .inr (.inl rfl)|decide +kernel|(intro _;rfl)) (by first|rfl|exact .inl rfl|exact .inr rfl|exact .inr (.inl rfl)|decide +kernel|(intro _;rfl))) (@pss_cons _ _ _ _ _ (@ps_set _ _ (2) _ _ _ _ sc_law_text.nd rfl (Or.inl rfl) (@pe_str _ _ _ _) (by first|rfl|exact .inl rfl|exact .inr rfl|exact .inr (.inl rfl)|decide +kernel|(intro _;rfl)) (by first|rfl|exact .inl rfl|exact .inr rfl|exact .inr (.inl rfl)|decide +kernel|(intro _;rfl))) (@pss_cons _ _ _ _ _ (@ps_for _ _ _ _ _ _ _ _ PassesOwn.never rfl (@pi_range1 _ _ _ _ _ _ (by rfl) T.z_range (@pa_cons _ _ _ _ _ (@pe_call _ _ _ _ _ _ _ _ _ _ _ _ _ _ _ _ G_law_take (hr.mono (by first | decide | omega)) (by rfl) T.m_law_take T.F_law_take.kp T.b_law_take .nil pass0 (@pa_cons _ _ _ _ _ (pv 0) (@pa_cons _ _ _ _ _ (@pe_int _ _ _ _) (@pa_nil _) (by first|rfl|exact .inl rfl|exact .inr rfl|exact .inr (.inl rfl)|decide +kernel|(intro _;rfl))) (by first|rfl|exact .inl rfl|exact .inr rfl|exact .inr (.inl rfl)|decide +kernel|(intro _;rfl))) (by first|rfl|exact .inl rfl|exact .inr rfl|exact .inr (.inl rfl)|decide +kernel|(intro _;rfl)) (by first|rfl|exact .inl rfl|exact .inr rfl|exact .inr (.inl rfl)|decide +kernel|(intro _;rfl)) (by first|rfl|exact .inl rfl|exact .inr rfl|exact .inr (.inl rfl)|decide +kernel|(intro _;rfl))) (@pa_nil _) (by first|rfl|exact .inl rfl|exact .inr rfl|exact .inr (.inl rfl)|decide +kernel|(intro _;rfl))) (by first|rfl|exact .inl rfl|exact .inr rfl|exact .inr (.inl rfl)|decide +kernel|(intro _;rfl))) (@pg_name _ _ (3) _ sc_law_text.nd rfl (Or.inl rfl) (by first|rfl|exact .inl rfl|exact .inr rfl|exact .inr (.inl rfl)|decide +kernel|(intro _;rfl))) (@pss_one _ _ _ (@ps_set _ _ (2) _ _ _ _ sc_law_text.nd rfl (Or.inl rfl) (@pe_op _ _ _ _ _ _ _ _ (@op_add_str _) (pv 2) (@pe_ix _ _ _ _ _ _ _ (@ix_str _) (pv 1) (@pe_call _ _ _ _ _ _ _ _ _ _ _ _ _ _ _ _ G_law_take (hr.mono (by first | decide | omega)) (by rfl) T.m_law_take T.F_law_take.kp T.b_law_take .nil pass0 (@pa_cons _ _ _ _ _ (pv 0) (@pa_cons _ _ _ _ _ (@pe_callB _ _ _ _ _ _ _ _ _ (@call_len_str _) (by rfl) T.z_len PySem.boot_len (@pa_cons _ _ _ _ _ (pv 1) (@pa_nil _) (by first|rfl|exact .inl rfl|exact .inr rfl|exact .inr (.inl rfl)|decide +kernel|(intro _;rfl))) (by first|rfl|exact .inl rfl|exact .inr rfl|exact .inr (.inl rfl)|decide +kernel|(intro _;rfl)) (by first|rfl|exact .inl rfl|exact .inr rfl|exact .inr (.inl rfl)|decide +kernel|(intro _;rfl)) (by first|rfl|exact .inl rfl|exact .inr rfl|exact .inr (.inl rfl)|decide +kernel|(intro _;rfl)) (by first|rfl|exact .inl rfl|exact .inr rfl|exact .inr (.inl rfl)|decide +kernel|(intro _;rfl))) (@pa_nil _) (by first|rfl|exact .inl rfl|exact .inr rfl|exact .inr (.inl rfl)|decide +kernel|(intro _;rfl))) (by first|rfl|exact .inl rfl|exact .inr rfl|exact .inr (.inl rfl)|decide +kernel|(intro _;rfl))) (by first|rfl|exact .inl rfl|exact .inr rfl|exact .inr (.inl rfl)|decide +kernel|(intro _;rfl)) (by first|rfl|exact .inl rfl|exact .inr rfl|exact .inr (.inl rfl)|decide +kernel|(intro _;rfl)) (by first|rfl|exact .inl rfl|exact .inr rfl|exact .inr (.inl rfl)|decide +kernel|(intro _;rfl))) (fun _ _ => rfl))) (by first|rfl|exact .inl rfl|exact .inr rfl|exact .inr (.inl rfl)|decide +kernel|(intro _;rfl)) (by first|rfl|exact .inl rfl|exact .inr rfl|exact .inr (.inl rfl)|decide +kernel|(intro _;rfl)))) (by first|rfl|exact .inl rfl|exact .inr rfl|exact .inr (.inl rfl)|decide +kernel|(intro _;rfl))) (@pss_cons _ _ _ _ _ (@ps_if _ _ _ _ _ _ _ _ (@pt_cmpR _ _ _ _ _ _ _ _ (@op_eq _) (@pe_call _ _ _ _ _ _ _ _ _ _ _ _ _ _ _ _ G_law_take (hr.mono (by first | decide | omega)) (by rfl) T.m_law_take T.F_law_take.kp T.b_law_take .nil pass0 (@pa_cons _ _ _ _ _ (pv 0) (@pa_cons _ _ _ _ _ (@pe_int _ _ _ _) (@pa_nil _) (by first|rfl|exact .inl rfl|exact .inr rfl|exact .inr (.inl rfl)|decide +kernel|(intro _;rfl))) (by first|rfl|exact .inl rfl|exact .inr rfl|exact .inr (.inl rfl)|decide +kernel|(intro _;rfl))) (by first|rfl|exact .inl rfl|exact .inr rfl|exact .inr (.inl rfl)|decide +kernel|(intro _;rfl)) (by first|rfl|exact .inl rfl|exact .inr rfl|exact .inr (.inl rfl)|decide +kernel|(intro _;rfl)) (by first|rfl|exact .inl rfl|exact .inr rfl|exact .inr (.inl rfl)|decide +kernel|(intro _;rfl))) (@pe_int _ _ _ _) (nomark _)) (@pss_one _ _ _ (@ps_set _ _ (2) _ _ _ _ sc_law_text.nd rfl (Or.inl rfl) (@pe_op _ _ _ _ _ _ _ _ (@op_add_str _) (pv 2) (@pe_op _ _ _ _ _ _ _ _ (@op_repS _) (@pe_str _ _ _ _) (@pe_op _ _ _ _ _ _ _ _ (@op_sub _) (@pe_op _ _ _ _ _ _ _ _ (@op_add _) (@pe_int _ _ _ _) (@pe_call _ _ _ _ _ _ _ _ _ _ _ _ _ _ _ _ G_law_take (hr.mono (by first | decide | omega)) (by rfl) T.m_law_take T.F_law_take.kp T.b_law_take .nil pass0 (@pa_cons _ _ _ _ _ (pv 0) (@pa_cons _ _ _ _ _ (@pe_int _ _ _ _) (@pa_nil _) (by first|rfl|exact .inl rfl|exact .inr rfl|exact .inr (.inl rfl)|decide +kernel|(intro _;rfl))) (by first|rfl|exact .inl rfl|exact .inr rfl|exact .inr (.inl rfl)|decide +kernel|(intro _;rfl))) (by first|rfl|exact .inl rfl|exact .inr rfl|exact .inr (.inl rfl)|decide +kernel|(intro _;rfl)) (by first|rfl|exact .inl rfl|exact .inr rfl|exact .inr (.inl rfl)|decide +kernel|(intro _;rfl)) (by first|rfl|exact .inl rfl|exact .inr rfl|exact .inr (.inl rfl)|decide +kernel|(intro _;rfl)))) (@pe_callB _ _ _ _ _ _ _ _ _ (@call_len_str _) (by rfl) T.z_len PySem.boot_len (@pa_cons _ _ _ _ _ (pv 2) (@pa_nil _) (by first|rfl|exact .inl rfl|exact .inr rfl|exact .inr (.inl rfl)|decide +kernel|(intro _;rfl))) (by first|rfl|exact .inl rfl|exact .inr rfl|exact .inr (.inl rfl)|decide +kernel|(intro _;rfl)) (by first|rfl|exact .inl rfl|exact .inr rfl|exact .inr (.inl rfl)|decide +kernel|(intro _;rfl)) (by first|rfl|exact .inl rfl|exact .inr rfl|exact .inr (.inl rfl)|decide +kernel|(intro _;rfl)) (by first|rfl|exact .inl rfl|exact .inr rfl|exact .inr (.inl rfl)|decide +kernel|(intro _;rfl)))))) (by first|rfl|exact .inl rfl|exact .inr rfl|exact .inr (.inl rfl)|decide +kernel|(intro _;rfl)) (by first|rfl|exact .inl rfl|exact .inr rfl|exact .inr (.inl rfl)|decide +kernel|(intro _;rfl)))) (@pss_nil _)) (@pss_one _ _ _ (@ps_ret _ _ _ _ (pv 2))))))), ?_⟩
  refine ⟨rfl, _, rfl, p, 5, rfl, P0, by decide, by decide, fun d1 H1 a1 b1 P1 K1 => ⟨d1, rfl, by omega, by omega, ?_⟩⟩
  refine for_range (n := d1.toNat) (fun i σ H' => ∃ (z : Str) (kv : Option V), σ = [some (.ref p), some (.str SGN), some (.str z), kv] ∧ z.length ≤ i ∧ okAll z = true ∧ PotAt H' p ∧ Kept p H H') ⟨_, none, rfl, Nat.le_refl _, rfl, P1, K1⟩ ?_ ?_
  · rintro i σ H' hi ⟨z, kv, rfl, hz, hok, P', K'⟩
    refine ⟨_, rfl, _, rfl, _, rfl, _, rfl, _, rfl, small (by omega), p, _, rfl, P', by omega, by omega, fun d H5 a5 b5 P5 K5 => ?_⟩
    obtain ⟨c, hc⟩ := atI_some (xs := SGN.cps.toList) (i := d) a5 (by simpa [Str.length] using b5)
    refine ⟨_, _, c, rfl, rfl, small (by omega), hc, _, _, rfl, rfl, ?_, ?_⟩
    · exact small (by show z.length + 1 ≤ 1000; omega)
    · exact ⟨_, _, rfl, by rw [app_len]; show z.length + 1 ≤ i + 1; omega, okAll_app hok (by show ([c].all okSign) = true; rw [List.all_cons, List.all_nil, List.all_eq_true.mp sgn_all c (atI_mem hc)]; rfl), P5, K'.trans K5⟩
  · rintro σ H' ⟨z, kv, rfl, hz, hok, P', K'⟩
    refine ⟨_, rfl, p, 24, rfl, P', by decide, by decide, fun d H5 a5 b5 P5 K5 => ⟨rfl, _, rfl, ?_⟩⟩
    refine ite2 (fun _ => ?_) (fun _ => ?_)
    · refine ⟨_, rfl, _, rfl, p, 4, rfl, P5, by decide, by decide, fun d7 H7 a7 b7 P7 K7 => ?_⟩
      have hm : MulOk "z" (298 + d7 - (z.length : Int)) := mulOk_of (by omega) (by omega) (by decide)
      have hl := mul_len (z := "z") (n := 298 + d7 - (z.length : Int)) (by decide) (by omega)
      refine ⟨_, _, rfl, rfl, _, rfl, z, rfl, small (by omega), _, _, rfl, rfl, _, _, rfl, rfl, hm, _, _, rfl, rfl, fits (by omega), ?_⟩
      refine ⟨_, rfl, k _ _ ?_ (okAll_app hok (okAll_mul rfl)) P7 ((K'.trans K5).trans K7)⟩
      rw [app_len]
      omega
    · exact ⟨_, rfl, k z _ (by omega) hok P5 (K'.trans K5)⟩
end
end K18

namespace K18
open PySem L2 PyProof.Rows
mutual
def lw : D → Bool
  | .str z => okAll z
  | .tup xs => lwL xs
  | _ => false
def lwL : List D → Bool
  | [] => true
  | x :: r => lw x && lwL r
end
theorem lwL_append : ∀ (xs ys : List D), lwL (xs ++ ys) = (lwL xs && lwL ys)
  | [], _ => by simp [lwL]
  | x :: r, ys => by simp only [List.cons_append, lwL, lwL_append r ys, Bool.and_assoc]
theorem okText_long {z : Str} (h : 300 < z.length) : okText z = false := by
  unfold okText
  rw [decide_eq_false (by omega)]
  rfl
/-- some data, not too deep -/
def sp_tree (n : Nat) : Sp := fun vs H Q _ => ∃ (p : Addr) (k : Nat), vs = [.ref p, .int (k : Int)] ∧ k < n ∧ PotAt H p ∧ ∀ (v : V) (d : D) (H' : Hp), Is H' d v → lw d = true → dp d ≤ 1 + 12 * k → PotAt H' p → Kept p H H' → Q v H'
def mea (d : D) : D := .tup [.bl (good d), .int (sz d : Int), .int (dp d : Int)]
def sp_measure (n : Nat) : Sp := fun vs H Q _ => ∃ (v : V) (d : D), vs = [v] ∧ Is H d v ∧ dp d < n ∧ ∀ (u : V) (H' : Hp), Same H H' → Is H' (mea d) u → Q u H'
def sp_lis_tree : Sp := fun vs H Q _ => ∃ (v : V) (d : D), vs = [v] ∧ Is H d v ∧ dp d ≤ 150 ∧ ∀ H', Same H H' → Q (.bl (isT d)) H'
def comp0 : D → D
  | .tup (x :: _) => x
  | d => d
def comp1 : D → D
  | .tup (_ :: x :: _) => x
  | d => d
def comp2 : D → D
  | .tup (_ :: _ :: x :: _) => x
  | d => d
theorem sgn_ok (c : Nat) : inS ⟨#[c]⟩ SGN = okSign c := by
  rw [inS_one]
  by_cases h : c < 128
  · have key : ∀ c, c < 128 → decide (c ∈ SGN.cps.toList) = okSign c := by decide +kernel
    exact key c h
  · have h1 : okSign c = false := by
      unfold okSign
      rw [decide_eq_false (p := c ≤ 126) (by omega), Bool.and_false]
      rfl
    have key : ∀ x ∈ SGN.cps.toList, x < 128 := by decide +kernel
    rw [h1]
    exact decide_eq_false fun m => h (key c m)
theorem dp_row {d : D} {xs : List D} (h : d ∈ xs) : dp d < dp (.tup xs) := by
  have := (dpL_le (k := dpL xs) xs).mp (Nat.le_refl _) d h
  simp only [dp]
  omega
theorem all_map_good (xs : List D) : (xs.map good).all id = goodL xs := by
  rw [goodL_all, List.all_map]
  rfl
section
variable {P : Program} {w : World} {K : PySem.W.Frag} {mg : Str → Option Value} {base : Heap} {a : Ad}
theorem tree_none {f : Addr} {fd : FuncData} {l : Nat} : FnOk P w K mg base CX0 l f fd ["pot", "deep"] (sp_tree 0) := by
  have no : ∀ vs H Q E, ¬ sp_tree 0 vs H Q E := fun vs H Q E h => by
    obtain ⟨p, k, _, h1, _⟩ := h
    omega
  exact ⟨fun vs H Q E h => absurd h (no vs H Q E), fun A outer s H args us vs Q E _ _ _ _ h => absurd h (no vs H Q E)⟩
theorem ok_tree1 (T : Tx K mg a) {n : Nat} (G_law_tree : FnOk P w K mg base CX0 (n + 2) a.f_law_tree a.d_law_tree ["pot", "deep"] (sp_tree n)) : FnOk P w K mg base CX0 (n + 3) a.f_law_tree a.d_law_tree ["pot", "deep"] (sp_tree (n + 1)) := by
  have G_law_take : FnOk P w K mg base CX0 1 a.f_law_take a.d_law_take ["pot", "many"] sp_take := ok_take T
  have G_law_text : FnOk P w K mg base CX0 2 a.f_law_text a.d_law_text ["pot"] sp_text := ok_text T
  refine T.F_law_tree.ok sc_law_tree (fun vs H Q E h => ?_) (fun cdv A outer s H vs Q E hr h => ?_)
  · obtain ⟨p, j, rfl, _⟩ := h
    rfl
  obtain ⟨p, j, rfl, hj, P0, k⟩ := h
  refine ⟨_, (@pss_cons _ _ _ _ _ (@ps_set _ _ (2) _ _ _ _ sc_law_tree.nd rfl (Or.inl rfl) (@pe_call _ _ _ _ _ _ _ _ _ _ _ _ _ _ _ _ G_law_take (hr.mono (by first | decide | omega)) (by rfl) T.m_law_take T.F_law_take.kp T.b_law_take .nil pass0 (@pa_cons _ _ _ _ _ (pv 0) (@pa_cons _ _ _ _ _ (@pe_int _ _ _ _) (@pa_nil _) (by first|rfl|exact .inl rfl|exact .inr rfl|exact .inr (.inl rfl)|decide +kernel|(intro _;rfl))) (by first|rfl|exact .inl rfl|exact .inr rfl|exact .inr (.inl rfl)|decide +kernel|(intro _;rfl))) (by first|rfl|exact .inl rfl|exact .inr rfl|exact .inr (.inl rfl)|decide +kernel|(intro _;rfl)) (by first|rfl|exact .inl rfl|exact .inr rfl|exact .inr (.inl rfl)|decide +kernel|(intro _;rfl)) (by first|rfl|exact .inl rfl|exact .inr rfl|exact .inr (.inl rfl)|decide +kernel|(intro _;rfl))) (by first|rfl|exact .inl rfl|exact .inr rfl|exact .inr (.inl rfl)|decide +kernel|(intro _;rfl)) (by first|rfl|exact .inl rfl|exact .inr rfl|exact .inr (.inl rfl)|decide +kernel|(intro _;rfl))) (@pss_cons _ _ _ _ _ (@ps_if _ _ _ _ _ _ _ _ (@pw_or _ _ _ _ _ _ _ (@pt_cmpR _ _ _ _ _ _ _ _ (@op_eq _) (pv 1) (@pe_int _ _ _ _) (nomark _)) (@pw_or1 _ _ _ _ (@pt_cmpR _ _ _ _ _ _ _ _ (@op_lt _) (pv 2) (@pe_int _ _ _ _) (nomark _)))).pt (@pss_one _ _ _ (@ps_ret _ _ _ _ (@pe_call _ _ _ _ _ _ _ _ _ _ _ _ _ _ _ _ G_law_text (hr.mono (by first | decide | omega)) (by rfl) T.m_law_text T.F_law_text.kp T.b_law_text .nil pass0 (@pa_cons _ _ _ _ _ (pv 0) (@pa_nil _) (by first|rfl|exact .inl rfl|exact .inr rfl|exact .inr (.inl rfl)|decide +kernel|(intro _;rfl))) (by first|rfl|exact .inl rfl|exact .inr rfl|exact .inr (.inl rfl)|decide +kernel|(intro _;rfl)) (by first|rfl|exact .inl rfl|exact .inr rfl|exact .inr (.inl rfl)|decide +kernel|(intro _;rfl)) (by first|rfl|exact .inl rfl|exact .inr rfl|exact .inr (.inl rfl)|decide +kernel|(intro _;rfl))))) (@pss_nil _)) (@pss_cons _ _ _ _ _ (@ps_if _ _ _ _ _ _ _ _ (@pt_cmpR _ _ _ _ _ _ _ _ (@op_eq _) (pv 2) (@pe_int _ _ _ _) (nomark _)) (@pss_cons _ _ _ _ _ (@ps_set _ _ (3) _ _ _ _ sc_law_tree.nd rfl (Or.inl rfl) (@pe_call _ _ _ _ _ _ _ _ _ _ _ _ _ _ _ _ G_law_tree (hr.mono (by first | decide | omega)) (by rfl) T.m_law_tree T.F_law_tree.kp T.b_law_tree .nil pass0 (@pa_cons _ _ _ _ _ (pv 0) (@pa_cons _ _ _ _ _ (@pe_op _ _ _ _ _ _ _ _ (@op_sub _) (pv 1) (@pe_int _ _ _ _)) (@pa_nil _) (by first|rfl|exact .inl rfl|exact .inr rfl|exact .inr (.inl rfl)|decide +kernel|(intro _;rfl))) (by first|rfl|exact .inl rfl|exact .inr rfl|exact .inr (.inl rfl)|decide +kernel|(intro _;rfl))) (by first|rfl|exact .inl rfl|exact .inr rfl|exact .inr (.inl rfl)|decide +kernel|(intro _;rfl)) (by first|rfl|exact .inl rfl|exact .inr rfl|exact .inr (.inl rfl)|decide +kernel|(intro _;rfl)) (by first|rfl|exact .inl rfl|exact .inr rfl|exact .inr (.inl rfl)|decide +kernel|(intro _;rfl))) (by first|rfl|exact .inl rfl|exact .inr rfl|exact .inr (.inl rfl)|decide +kernel|(intro _;rfl)) (by first|rfl|exact .inl rfl|exact .inr rfl|exact .inr (.inl rfl)|decide +kernel|(intro _;rfl))) (@pss_cons _ _ _ _ _ (@ps_for _ _ _ _ _ _ _ _ PassesOwn.never rfl (@pi_range1 _ _ _ _ _ _ (by rfl) T.z_range (@pa_cons _ _ _ _ _ (@pe_call _ _ _ _ _ _ _ _ _ _ _ _ _ _ _ _ G_law_take (hr.mono (by first | decide | omega)) (by rfl) T.m_law_take T.F_law_take.kp T.b_law_take .nil pass0 (@pa_cons _ _ _ _ _ (pv 0) (@pa_cons _ _ _ _ _ (@pe_int _ _ _ _) (@pa_nil _) (by first|rfl|exact .inl rfl|exact .inr rfl|exact .inr (.inl rfl)|decide +kernel|(intro _;rfl))) (by first|rfl|exact .inl rfl|exact .inr rfl|exact .inr (.inl rfl)|decide +kernel|(intro _;rfl))) (by first|rfl|exact .inl rfl|exact .inr rfl|exact .inr (.inl rfl)|decide +kernel|(intro _;rfl)) (by first|rfl|exact .inl rfl|exact .inr rfl|exact .inr (.inl rfl)|decide +kernel|(intro _;rfl)) (by first|rfl|exact .inl rfl|exact .inr rfl|exact .inr (.inl rfl)|decide +kernel|(intro _;rfl))) (@pa_nil _) (by first|rfl|exact .inl rfl|exact .inr rfl|exact .inr (.inl rfl)|decide +kernel|(intro _;rfl))) (by first|rfl|exact .inl rfl|exact .inr rfl|exact .inr (.inl rfl)|decide +kernel|(intro _;rfl))) (@pg_name _ _ (4) _ sc_law_tree.nd rfl (Or.inl rfl) (by first|rfl|exact .inl rfl|exact .inr rfl|exact .inr (.inl rfl)|decide +kernel|(intro _;rfl))) (@pss_one _ _ _ (@ps_set _ _ (3) _ _ _ _ sc_law_tree.nd rfl (Or.inl rfl) (@pe_tup _ _ _ _ _ (@pa_cons _ _ _ _ _ (pv 3) (@pa_nil _) (by first|rfl|exact .inl rfl|exact .inr rfl|exact .inr (.inl rfl)|decide +kernel|(intro _;rfl)))) (by first|rfl|exact .inl rfl|exact .inr rfl|exact .inr (.inl rfl)|decide +kernel|(intro _;rfl)) (by first|rfl|exact .inl rfl|exact .inr rfl|exact .inr (.inl rfl)|decide +kernel|(intro _;rfl)))) (by first|rfl|exact .inl rfl|exact .inr rfl|exact .inr (.inl rfl)|decide +kernel|(intro _;rfl))) (@pss_one _ _ _ (@ps_ret _ _ _ _ (pv 3))))) (@pss_nil _)) (@pss_one _ _ _ (@ps_ret _ _ _ _ (@pe_callTy _ _ _ _ _ _ _ _ _ (@call_tuple_of _) (by rfl) T.z_tuple boot_tuple (@pa_cons _ _ _ _ _ (@pe_lc _ _ (["k", "pot", "deep"]) (1) ([0, 1]) _ _ _ _ _ _ _ _ _ (lcsN (defScope s_law_tree) ["pot", "deep", "kind", "tree", "k"]) rfl (@pi_range1 _ _ _ _ _ _ (by rfl) T.z_range (@pa_cons _ _ _ _ _ (@pe_call _ _ _ _ _ _ _ _ _ _ _ _ _ _ _ _ G_law_take (hr.mono (by first | decide | omega)) (by rfl) T.m_law_take T.F_law_take.kp T.b_law_take .nil pass0 (@pa_cons _ _ _ _ _ (pv 0) (@pa_cons _ _ _ _ _ (@pe_int _ _ _ _) (@pa_nil _) (by first|rfl|exact .inl rfl|exact .inr rfl|exact .inr (.inl rfl)|decide +kernel|(intro _;rfl))) (by first|rfl|exact .inl rfl|exact .inr rfl|exact .inr (.inl rfl)|decide +kernel|(intro _;rfl))) (by first|rfl|exact .inl rfl|exact .inr rfl|exact .inr (.inl rfl)|decide +kernel|(intro _;rfl)) (by first|rfl|exact .inl rfl|exact .inr rfl|exact .inr (.inl rfl)|decide +kernel|(intro _;rfl)) (by first|rfl|exact .inl rfl|exact .inr rfl|exact .inr (.inl rfl)|decide +kernel|(intro _;rfl))) (@pa_nil _) (by first|rfl|exact .inl rfl|exact .inr rfl|exact .inr (.inl rfl)|decide +kernel|(intro _;rfl))) (by first|rfl|exact .inl rfl|exact .inr rfl|exact .inr (.inl rfl)|decide +kernel|(intro _;rfl))) (fun _ _ _ _ _ _ => (@pg_name _ _ (0) _ (show List.Nodup (["k", "pot", "deep"] : List Str) by decide +kernel) rfl (Or.inl rfl) (by first|rfl|exact .inl rfl|exact .inr rfl|exact .inr (.inl rfl)|decide +kernel|(intro _;rfl)))) (fun _ _ _ _ _ _ => @pif_nil _) (fun _ _ _ _ _ _ => (@pe_call _ _ _ _ _ _ _ _ _ _ _ _ _ _ _ _ G_law_tree (hr.mono (by first | decide | omega)) (by rfl) T.m_law_tree T.F_law_tree.kp T.b_law_tree .nil pass0 (@pa_cons _ _ _ _ _ (pv 1) (@pa_cons _ _ _ _ _ (@pe_op _ _ _ _ _ _ _ _ (@op_sub _) (pv 2) (@pe_int _ _ _ _)) (@pa_nil _) (by first|rfl|exact .inl rfl|exact .inr rfl|exact .inr (.inl rfl)|decide +kernel|(intro _;rfl))) (by first|rfl|exact .inl rfl|exact .inr rfl|exact .inr (.inl rfl)|decide +kernel|(intro _;rfl))) (by first|rfl|exact .inl rfl|exact .inr rfl|exact .inr (.inl rfl)|decide +kernel|(intro _;rfl)) (by first|rfl|exact .inl rfl|exact .inr rfl|exact .inr (.inl rfl)|decide +kernel|(intro _;rfl)) (by first|rfl|exact .inl rfl|exact .inr rfl|exact .inr (.inl rfl)|decide +kernel|(intro _;rfl)))) (by first|rfl|exact .inl rfl|exact .inr rfl|exact .inr (.inl rfl)|decide +kernel|(intro _;rfl))) (@pa_nil _) (by first|rfl|exact .inl rfl|exact .inr rfl|exact .inr (.inl rfl)|decide +kernel|(intro _;rfl))) (by first|rfl|exact .inl rfl|exact .inr rfl|exact .inr (.inl rfl)|decide +kernel|(intro _;rfl)) (by first|rfl|exact .inl rfl|exact .inr rfl|exact .inr (.inl rfl)|decide +kernel|(intro _;rfl)) (by first|rfl|exact .inl rfl|exact .inr rfl|exact .inr (.inl rfl)|decide +kernel|(intro _;rfl)) (by first|rfl|exact .inl rfl|exact .inr rfl|exact .inr (.inl rfl)|decide +kernel|(intro _;rfl)))))))), ?_⟩
  refine ⟨_, rfl, p, 7, rfl, P0, by decide, by decide, fun kind H1 a1 b1 P1 K1 => ?_⟩
  have txtcase : ∀ (hk : True), ∃ v, [some (V.ref p), some (V.int (j : Int)), some (V.int kind), none, none][0]? = some (some v) ∧ sp_text ([v] ++ []) H1 Q E0 := fun _ =>
    ⟨_, rfl, p, rfl, P1, fun z H2 hz hok P2 K2 => k (.str z) (.str z) H2 ⟨rfl, fits (by omega)⟩ (by simpa only [lw] using hok) (by simp only [dp]; omega) P2 (K1.trans K2)⟩
  refine ⟨_, rfl, rfl, _, rfl, ?_⟩
  refine ite2 (fun _ => iteT (txtcase trivial)) (fun c => ?_)
  have hj0 : (j : Int) ≠ 0 := fun z => c (decide_eq_true (by rw [z]))
  obtain ⟨i, rfl⟩ : ∃ i, j = i + 1 := ⟨j - 1, by omega⟩
  have ej : ((i + 1 : Nat) : Int) - 1 = (i : Int) := by omega
  refine ⟨_, rfl, _, _, rfl, rfl, _, rfl, ?_⟩
  refine ite2 (fun _ => txtcase trivial) (fun _ => ?_)
  refine ⟨_, rfl, rfl, _, rfl, ?_⟩
  refine ite2 (fun _ => ?_) (fun _ => ?_)
  · -- a chain of rows round a tree
    refine ⟨_, rfl, _, rfl, _, _, rfl, rfl, p, i, by rw [← ej]; rfl, by omega, P1, fun v d H2 hv hlw hd P2 K2 => ?_⟩
    refine ⟨_, rfl, p, 13, rfl, P2, by decide, by decide, fun m H3 a3 b3 P3 K3 => ⟨m, rfl, by omega, by omega, ?_⟩⟩
    have hv3 : Is H3 d v := hv.mono (P2.tk P3 K3)
    refine for_range (n := m.toNat) (fun t σ H' => ∃ (u : V) (e : D) (kv : Option V), σ = [some (.ref p), some (.int ((i + 1 : Nat) : Int)), some (.int kind), some u, kv] ∧ Is H' e u ∧ lw e = true ∧ dp e ≤ 1 + 12 * i + t ∧ PotAt H' p ∧ Kept p H H') ⟨v, d, none, rfl, hv3, hlw, by omega, P3, (K1.trans K2).trans K3⟩ ?_ ?_
    · rintro t σ H' ht ⟨u, e, kv, rfl, hu, hel, he, P', K'⟩
      refine ⟨_, rfl, (by show 1 ≤ sizeLine; decide), fun q hq => ?_⟩
      refine ⟨_, .tup [e], _, rfl, Is.new (IsL.one hu) hq, by simp [lw, lwL, hel], ?_, P'.same (same_new hq _), K'.trans (same_new hq _).kept⟩
      simp only [dp, dpL]
      omega
    · rintro σ H' ⟨u, e, kv, rfl, hu, hel, he, P', K'⟩
      exact ⟨_, rfl, k u e H' hu hel (by omega) P' K'⟩
  · -- a row
    refine ⟨_, rfl, p, 4, rfl, P1, by decide, by decide, fun m H2 a2 b2 P2 K2 => ⟨m, rfl, by omega, by omega, fun L hL => ?_⟩⟩
    have hpL : p ≠ L := P2.free hL
    have PL : PotAt (upd H2 L (.lst [])) p := P2.same (same_new hL _)
    refine ⟨m.toNat, fun t σ ys H' => (∃ x, σ = x :: [some (.ref p), some (.int ((i + 1 : Nat) : Int))]) ∧ (∃ ds : List D, IsL H' ds ys ∧ ds.length = t ∧ lwL ds = true ∧ dpL ds ≤ 1 + 12 * i) ∧ PotAt H' p ∧ Kept p H2 H', fits (by omega), ⟨⟨none, rfl⟩, ⟨[], rfl, rfl, rfl, by simp [dpL]⟩, PL, (same_new hL _).kept⟩, ?_, ?_⟩
    · rintro t σ ys H' ht ⟨⟨x, rfl⟩, ⟨ds, hds, hl, hdl, hdp⟩, P', K'⟩ hL' hyl
      refine ⟨ht, ?_⟩
      rintro x' H'' ⟨rfl, rfl⟩
      dsimp only [gName, tYes, List.set]
      rw [if_pos rfl]
      refine ⟨_, rfl, _, rfl, _, _, rfl, rfl, p, i, by rw [← ej]; rfl, by omega, P', fun v d H4 hv hlw hd P4 K4 => ?_⟩
      have hL4 : H4 L = some (.lst ys) := K4 L _ hL' (Ne.symm hpL)
      have t4 := P'.tk P4 K4
      have t5 : Tk H4 (upd H4 L (.lst (ys ++ [v]))) := Tk.updL hL4
      refine ⟨hL4, ⟨_, rfl⟩, ⟨ds ++ [d], ((hds.mono t4).mono t5).append (IsL.one (hv.mono t5)), by simp [hl], by rw [lwL_append, hdl]; simp [lwL, hlw], ?_⟩, ?_, ?_⟩
      · rw [dpL_append]
        simp only [dpL]
        omega
      · obtain ⟨x1, y1, e1, r1⟩ := P4
        exact ⟨x1, y1, by rw [upd_ne hpL]; exact e1, r1⟩
      · intro b o e hb
        rw [upd_ne (ne_of_none e hL)]
        exact K4 b o (K' b o e hb) hb
    · rintro σ ys H' ⟨_, ⟨ds, hds, hl, hdl, hdp⟩, P', K'⟩ hL'
      refine ⟨Nat.le_refl _, L, ys, rfl, .inl ⟨SqL.of hL', fun t ht => ?_⟩⟩
      refine k (.ref t) (.tup ds) _ (Is.new hds ht) (by simpa only [lw] using hdl) ?_ (P'.same (same_new ht _)) ((K1.trans K2).trans (K'.trans (same_new ht _).kept))
      simp only [dp]
      omega
theorem ok_tree (T : Tx K mg a) : ∀ n : Nat, FnOk P w K mg base CX0 (n + 2) a.f_law_tree a.d_law_tree ["pot", "deep"] (sp_tree n)
  | 0 => tree_none
  | n + 1 => ok_tree1 T (ok_tree T n)
theorem measure_none {f : Addr} {fd : FuncData} {l : Nat} : FnOk P w K mg base CX0 l f fd ["value"] (sp_measure 0) := by
  have no : ∀ vs H Q E, ¬ sp_measure 0 vs H Q E := fun vs H Q E h => by
    obtain ⟨v, d, _, _, h1, _⟩ := h
    omega
  exact ⟨fun vs H Q E h => absurd h (no vs H Q E), fun A outer s H args us vs Q E _ _ _ _ h => absurd h (no vs H Q E)⟩
theorem ok_measure1 (T : Tx K mg a) {n : Nat} (G_law_measure : FnOk P w K mg base CX0 (n + 1) a.f_law_measure a.d_law_measure ["value"] (sp_measure n)) : FnOk P w K mg base CX0 (n + 2) a.f_law_measure a.d_law_measure ["value"] (sp_measure (n + 1)) := by
  have G_law_signs : FnOk P w K mg base CX0 1 a.f_law_signs a.d_law_signs [] sp_signs := ok_signs T
  refine T.F_law_measure.ok sc_law_measure (fun vs H Q E h => ?_) (fun cdv A outer s H vs Q E hr h => ?_)
  · obtain ⟨v, d, rfl, _⟩ := h
    rfl
  obtain ⟨v, d, rfl, hv, hd, k⟩ := h
  refine ⟨_, (@pss_cons _ _ _ _ _ (@ps_if _ _ _ _ _ _ _ _ (@pt_val _ _ _ (@pe_callB _ _ _ _ _ _ _ _ _ (@call_isinst _ _ rfl) (by rfl) T.z_isinstance boot_isinstance (@pa_cons _ _ _ _ _ (pv 0) (@pa_cons _ _ _ _ _ (@pe_bltn _ _ (.ty "str") _ _ (by rfl) T.z_str boot_str rfl (by first|rfl|exact .inl rfl|exact .inr rfl|exact .inr (.inl rfl)|decide +kernel|(intro _;rfl)) (by first|rfl|exact .inl rfl|exact .inr rfl|exact .inr (.inl rfl)|decide +kernel|(intro _;rfl))) (@pa_nil _) (by first|rfl|exact .inl rfl|exact .inr rfl|exact .inr (.inl rfl)|decide +kernel|(intro _;rfl))) (by first|rfl|exact .inl rfl|exact .inr rfl|exact .inr (.inl rfl)|decide +kernel|(intro _;rfl))) (by first|rfl|exact .inl rfl|exact .inr rfl|exact .inr (.inl rfl)|decide +kernel|(intro _;rfl)) (by first|rfl|exact .inl rfl|exact .inr rfl|exact .inr (.inl rfl)|decide +kernel|(intro _;rfl)) (by first|rfl|exact .inl rfl|exact .inr rfl|exact .inr (.inl rfl)|decide +kernel|(intro _;rfl)) (by first|rfl|exact .inl rfl|exact .inr rfl|exact .inr (.inl rfl)|decide +kernel|(intro _;rfl))) (by first|rfl|exact .inl rfl|exact .inr rfl|exact .inr (.inl rfl)|decide +kernel|(intro _;rfl))) (@pss_cons _ _ _ _ _ (@ps_set _ _ (1) _ _ _ _ sc_law_measure.nd rfl (Or.inr rfl) (@pe_call0 _ _ _ _ _ _ _ _ _ _ _ _ _ G_law_signs (hr.mono (by first | decide | omega)) (by rfl) T.m_law_signs T.F_law_signs.kp T.b_law_signs .nil pass0 (by first|rfl|exact .inl rfl|exact .inr rfl|exact .inr (.inl rfl)|decide +kernel|(intro _;rfl))) (by first|rfl|exact .inl rfl|exact .inr rfl|exact .inr (.inl rfl)|decide +kernel|(intro _;rfl)) (by first|rfl|exact .inl rfl|exact .inr rfl|exact .inr (.inl rfl)|decide +kernel|(intro _;rfl))) (@pss_one _ _ _ (@ps_ret _ _ _ _ (@pe_tup _ _ _ _ _ (@pa_cons _ _ _ _ _ (@pe_and _ _ _ _ _ _ _ (@pe_cmpR _ _ _ _ _ _ _ _ (@op_le _) (@pe_callB _ _ _ _ _ _ _ _ _ (@call_len _) (by rfl) T.z_len PySem.boot_len (@pa_cons _ _ _ _ _ (pv 0) (@pa_nil _) (by first|rfl|exact .inl rfl|exact .inr rfl|exact .inr (.inl rfl)|decide +kernel|(intro _;rfl))) (by first|rfl|exact .inl rfl|exact .inr rfl|exact .inr (.inl rfl)|decide +kernel|(intro _;rfl)) (by first|rfl|exact .inl rfl|exact .inr rfl|exact .inr (.inl rfl)|decide +kernel|(intro _;rfl)) (by first|rfl|exact .inl rfl|exact .inr rfl|exact .inr (.inl rfl)|decide +kernel|(intro _;rfl)) (by first|rfl|exact .inl rfl|exact .inr rfl|exact .inr (.inl rfl)|decide +kernel|(intro _;rfl))) (@pe_int _ _ _ _) (nomark _)) (@pe_one _ _ _ _ _ (@pe_callB _ _ _ _ _ _ _ _ _ (@call_allL _ rfl) (by rfl) T.z_all boot_all (@pa_cons _ _ _ _ _ (@pe_lc _ _ (["sign", "signs"]) (1) ([1]) _ _ _ _ _ _ _ _ _ (lcsN (defScope s_law_measure) ["value", "signs", "parts", "good"]) rfl (@pi_str _ _ _ _ (pv 0)) (fun _ _ _ _ _ _ => (@pg_name _ _ (0) _ (show List.Nodup (["sign", "signs"] : List Str) by decide +kernel) rfl (Or.inl rfl) (by first|rfl|exact .inl rfl|exact .inr rfl|exact .inr (.inl rfl)|decide +kernel|(intro _;rfl)))) (fun _ _ _ _ _ _ => @pif_nil _) (fun _ _ _ _ _ _ => (@pe_cmpR _ _ _ _ _ _ _ _ (@op_in_str _) (pv 0) (pv 1) (by with_unfolding_all rfl))) (by first|rfl|exact .inl rfl|exact .inr rfl|exact .inr (.inl rfl)|decide +kernel|(intro _;rfl))) (@pa_nil _) (by first|rfl|exact .inl rfl|exact .inr rfl|exact .inr (.inl rfl)|decide +kernel|(intro _;rfl))) (by first|rfl|exact .inl rfl|exact .inr rfl|exact .inr (.inl rfl)|decide +kernel|(intro _;rfl)) (by first|rfl|exact .inl rfl|exact .inr rfl|exact .inr (.inl rfl)|decide +kernel|(intro _;rfl)) (by first|rfl|exact .inl rfl|exact .inr rfl|exact .inr (.inl rfl)|decide +kernel|(intro _;rfl)) (by first|rfl|exact .inl rfl|exact .inr rfl|exact .inr (.inl rfl)|decide +kernel|(intro _;rfl))))) (@pa_cons _ _ _ _ _ (@pe_op _ _ _ _ _ _ _ _ (@op_add _) (@pe_callB _ _ _ _ _ _ _ _ _ (@call_len _) (by rfl) T.z_len PySem.boot_len (@pa_cons _ _ _ _ _ (pv 0) (@pa_nil _) (by first|rfl|exact .inl rfl|exact .inr rfl|exact .inr (.inl rfl)|decide +kernel|(intro _;rfl))) (by first|rfl|exact .inl rfl|exact .inr rfl|exact .inr (.inl rfl)|decide +kernel|(intro _;rfl)) (by first|rfl|exact .inl rfl|exact .inr rfl|exact .inr (.inl rfl)|decide +kernel|(intro _;rfl)) (by first|rfl|exact .inl rfl|exact .inr rfl|exact .inr (.inl rfl)|decide +kernel|(intro _;rfl)) (by first|rfl|exact .inl rfl|exact .inr rfl|exact .inr (.inl rfl)|decide +kernel|(intro _;rfl))) (@pe_int _ _ _ _)) (@pa_cons _ _ _ _ _ (@pe_int _ _ _ _) (@pa_nil _) (by first|rfl|exact .inl rfl|exact .inr rfl|exact .inr (.inl rfl)|decide +kernel|(intro _;rfl))) (by first|rfl|exact .inl rfl|exact .inr rfl|exact .inr (.inl rfl)|decide +kernel|(intro _;rfl))) (by first|rfl|exact .inl rfl|exact .inr rfl|exact .inr (.inl rfl)|decide +kernel|(intro _;rfl))))))) (@pss_nil _)) (@pss_cons _ _ _ _ _ (@ps_if _ _ _ _ _ _ _ _ (@pt_not _ _ _ _ (@pt_val _ _ _ (@pe_callB _ _ _ _ _ _ _ _ _ (@call_isinst _ _ rfl) (by rfl) T.z_isinstance boot_isinstance (@pa_cons _ _ _ _ _ (pv 0) (@pa_cons _ _ _ _ _ (@pe_bltn _ _ (.ty "tuple") _ _ (by rfl) T.z_tuple boot_tuple rfl (by first|rfl|exact .inl rfl|exact .inr rfl|exact .inr (.inl rfl)|decide +kernel|(intro _;rfl)) (by first|rfl|exact .inl rfl|exact .inr rfl|exact .inr (.inl rfl)|decide +kernel|(intro _;rfl))) (@pa_nil _) (by first|rfl|exact .inl rfl|exact .inr rfl|exact .inr (.inl rfl)|decide +kernel|(intro _;rfl))) (by first|rfl|exact .inl rfl|exact .inr rfl|exact .inr (.inl rfl)|decide +kernel|(intro _;rfl))) (by first|rfl|exact .inl rfl|exact .inr rfl|exact .inr (.inl rfl)|decide +kernel|(intro _;rfl)) (by first|rfl|exact .inl rfl|exact .inr rfl|exact .inr (.inl rfl)|decide +kernel|(intro _;rfl)) (by first|rfl|exact .inl rfl|exact .inr rfl|exact .inr (.inl rfl)|decide +kernel|(intro _;rfl)) (by first|rfl|exact .inl rfl|exact .inr rfl|exact .inr (.inl rfl)|decide +kernel|(intro _;rfl))) (by first|rfl|exact .inl rfl|exact .inr rfl|exact .inr (.inl rfl)|decide +kernel|(intro _;rfl)))) (@pss_one _ _ _ (@ps_ret _ _ _ _ (@pe_tup _ _ _ _ _ (@pa_cons _ _ _ _ _ (@pe_bl _ _ _ _) (@pa_cons _ _ _ _ _ (@pe_int _ _ _ _) (@pa_cons _ _ _ _ _ (@pe_int _ _ _ _) (@pa_nil _) (by first|rfl|exact .inl rfl|exact .inr rfl|exact .inr (.inl rfl)|decide +kernel|(intro _;rfl))) (by first|rfl|exact .inl rfl|exact .inr rfl|exact .inr (.inl rfl)|decide +kernel|(intro _;rfl))) (by first|rfl|exact .inl rfl|exact .inr rfl|exact .inr (.inl rfl)|decide +kernel|(intro _;rfl)))))) (@pss_nil _)) (@pss_cons _ _ _ _ _ (@ps_setLC _ _ (["part"]) (1) ([]) (2) _ _ _ _ _ _ _ _ _ _ _ _ sc_law_measure.nd rfl (Or.inl rfl) (lcs0) rfl (@pi_tupB _ _ _ _ (pv 0)) (fun _ _ _ _ _ _ => (@pg_name _ _ (0) _ (show List.Nodup (["part"] : List Str) by decide +kernel) rfl (Or.inl rfl) (by first|rfl|exact .inl rfl|exact .inr rfl|exact .inr (.inl rfl)|decide +kernel|(intro _;rfl)))) (fun _ _ _ _ _ _ => @pif_nil _) (fun _ _ _ _ _ _ => (@pe_call _ _ _ _ _ _ _ _ _ _ _ _ _ _ _ _ G_law_measure (hr.mono (by first | decide | omega)) (by rfl) T.m_law_measure T.F_law_measure.kp T.b_law_measure .nil pass0 (@pa_cons _ _ _ _ _ (pv 0) (@pa_nil _) (by first|rfl|exact .inl rfl|exact .inr rfl|exact .inr (.inl rfl)|decide +kernel|(intro _;rfl))) (by first|rfl|exact .inl rfl|exact .inr rfl|exact .inr (.inl rfl)|decide +kernel|(intro _;rfl)) (by first|rfl|exact .inl rfl|exact .inr rfl|exact .inr (.inl rfl)|decide +kernel|(intro _;rfl)) (by first|rfl|exact .inl rfl|exact .inr rfl|exact .inr (.inl rfl)|decide +kernel|(intro _;rfl)))) (by first|rfl|exact .inl rfl|exact .inr rfl|exact .inr (.inl rfl)|decide +kernel|(intro _;rfl)) (by first|rfl|exact .inl rfl|exact .inr rfl|exact .inr (.inl rfl)|decide +kernel|(intro _;rfl)) (by first|rfl|exact .inl rfl|exact .inr rfl|exact .inr (.inl rfl)|decide +kernel|(intro _;rfl))) (@pss_cons _ _ _ _ _ (@ps_set _ _ (3) _ _ _ _ sc_law_measure.nd rfl (Or.inl rfl) (@pe_and _ _ _ _ _ _ _ (@pe_cmpR _ _ _ _ _ _ _ _ (@op_le _) (@pe_callB _ _ _ _ _ _ _ _ _ (@call_len _) (by rfl) T.z_len PySem.boot_len (@pa_cons _ _ _ _ _ (pv 0) (@pa_nil _) (by first|rfl|exact .inl rfl|exact .inr rfl|exact .inr (.inl rfl)|decide +kernel|(intro _;rfl))) (by first|rfl|exact .inl rfl|exact .inr rfl|exact .inr (.inl rfl)|decide +kernel|(intro _;rfl)) (by first|rfl|exact .inl rfl|exact .inr rfl|exact .inr (.inl rfl)|decide +kernel|(intro _;rfl)) (by first|rfl|exact .inl rfl|exact .inr rfl|exact .inr (.inl rfl)|decide +kernel|(intro _;rfl)) (by first|rfl|exact .inl rfl|exact .inr rfl|exact .inr (.inl rfl)|decide +kernel|(intro _;rfl))) (@pe_int _ _ _ _) (nomark _)) (@pe_one _ _ _ _ _ (@pe_callB _ _ _ _ _ _ _ _ _ (@call_allL _ rfl) (by rfl) T.z_all boot_all (@pa_cons _ _ _ _ _ (@pe_lc _ _ (["part"]) (1) ([]) _ _ _ _ _ _ _ _ _ (lcs0) rfl (@pi_list _ _ _ _ (pv 2)) (fun _ _ _ _ _ _ => (@pg_name _ _ (0) _ (show List.Nodup (["part"] : List Str) by decide +kernel) rfl (Or.inl rfl) (by first|rfl|exact .inl rfl|exact .inr rfl|exact .inr (.inl rfl)|decide +kernel|(intro _;rfl)))) (fun _ _ _ _ _ _ => @pif_nil _) (fun _ _ _ _ _ _ => (@pe_ix _ _ _ _ _ _ _ (@ix_tupK _ (K) rfl) (pv 0) (@pe_int _ _ _ _) (fun _ _ => rfl))) (by first|rfl|exact .inl rfl|exact .inr rfl|exact .inr (.inl rfl)|decide +kernel|(intro _;rfl))) (@pa_nil _) (by first|rfl|exact .inl rfl|exact .inr rfl|exact .inr (.inl rfl)|decide +kernel|(intro _;rfl))) (by first|rfl|exact .inl rfl|exact .inr rfl|exact .inr (.inl rfl)|decide +kernel|(intro _;rfl)) (by first|rfl|exact .inl rfl|exact .inr rfl|exact .inr (.inl rfl)|decide +kernel|(intro _;rfl)) (by first|rfl|exact .inl rfl|exact .inr rfl|exact .inr (.inl rfl)|decide +kernel|(intro _;rfl)) (by first|rfl|exact .inl rfl|exact .inr rfl|exact .inr (.inl rfl)|decide +kernel|(intro _;rfl))))) (by first|rfl|exact .inl rfl|exact .inr rfl|exact .inr (.inl rfl)|decide +kernel|(intro _;rfl)) (by first|rfl|exact .inl rfl|exact .inr rfl|exact .inr (.inl rfl)|decide +kernel|(intro _;rfl))) (@pss_one _ _ _ (@ps_ret _ _ _ _ (@pe_tup _ _ _ _ _ (@pa_cons _ _ _ _ _ (pv 3) (@pa_cons _ _ _ _ _ (@pe_op _ _ _ _ _ _ _ _ (@op_add _) (@pe_int _ _ _ _) (@pe_callB _ _ _ _ _ _ _ _ _ (@call_sumL _ rfl) (by rfl) T.z_sum boot_sum (@pa_cons _ _ _ _ _ (@pe_lc _ _ (["part"]) (1) ([]) _ _ _ _ _ _ _ _ _ (lcs0) rfl (@pi_list _ _ _ _ (pv 2)) (fun _ _ _ _ _ _ => (@pg_name _ _ (0) _ (show List.Nodup (["part"] : List Str) by decide +kernel) rfl (Or.inl rfl) (by first|rfl|exact .inl rfl|exact .inr rfl|exact .inr (.inl rfl)|decide +kernel|(intro _;rfl)))) (fun _ _ _ _ _ _ => @pif_nil _) (fun _ _ _ _ _ _ => (@pe_ix _ _ _ _ _ _ _ (@ix_tupK _ (K) rfl) (pv 0) (@pe_int _ _ _ _) (fun _ _ => rfl))) (by first|rfl|exact .inl rfl|exact .inr rfl|exact .inr (.inl rfl)|decide +kernel|(intro _;rfl))) (@pa_nil _) (by first|rfl|exact .inl rfl|exact .inr rfl|exact .inr (.inl rfl)|decide +kernel|(intro _;rfl))) (by first|rfl|exact .inl rfl|exact .inr rfl|exact .inr (.inl rfl)|decide +kernel|(intro _;rfl)) (by first|rfl|exact .inl rfl|exact .inr rfl|exact .inr (.inl rfl)|decide +kernel|(intro _;rfl)) (by first|rfl|exact .inl rfl|exact .inr rfl|exact .inr (.inl rfl)|decide +kernel|(intro _;rfl)) (by first|rfl|exact .inl rfl|exact .inr rfl|exact .inr (.inl rfl)|decide +kernel|(intro _;rfl)))) (@pa_cons _ _ _ _ _ (@pe_op _ _ _ _ _ _ _ _ (@op_add _) (@pe_int _ _ _ _) (@pe_maxD _ _ _ _ _ _ _ _ rfl (by rfl) T.z_max (@pe_lc _ _ (["part"]) (1) ([]) _ _ _ _ _ _ _ _ _ (lcs0) rfl (@pi_list _ _ _ _ (pv 2)) (fun _ _ _ _ _ _ => (@pg_name _ _ (0) _ (show List.Nodup (["part"] : List Str) by decide +kernel) rfl (Or.inl rfl) (by first|rfl|exact .inl rfl|exact .inr rfl|exact .inr (.inl rfl)|decide +kernel|(intro _;rfl)))) (fun _ _ _ _ _ _ => @pif_nil _) (fun _ _ _ _ _ _ => (@pe_ix _ _ _ _ _ _ _ (@ix_tupK _ (K) rfl) (pv 0) (@pe_int _ _ _ _) (fun _ _ => rfl))) (by first|rfl|exact .inl rfl|exact .inr rfl|exact .inr (.inl rfl)|decide +kernel|(intro _;rfl))) (@pe_int _ _ _ _) (by first|rfl|exact .inl rfl|exact .inr rfl|exact .inr (.inl rfl)|decide +kernel|(intro _;rfl)))) (@pa_nil _) (by first|rfl|exact .inl rfl|exact .inr rfl|exact .inr (.inl rfl)|decide +kernel|(intro _;rfl))) (by first|rfl|exact .inl rfl|exact .inr rfl|exact .inr (.inl rfl)|decide +kernel|(intro _;rfl))) (by first|rfl|exact .inl rfl|exact .inr rfl|exact .inr (.inl rfl)|decide +kernel|(intro _;rfl)))))))))), ?_⟩
  refine ⟨_, rfl, v, "str", tyD d, isStr d, rfl, hv.ty, kit_str d, _, rfl, ?_⟩
  have other : isStr d = false → isTup d = false → good d = false ∧ sz d = 0 ∧ dp d = 0 := by
    intro h1 h2
    cases d <;> simp_all [isStr, isTup, good, sz, dp]
  have fin : ∀ (p : Addr) (H' : Hp) (g : Bool) (m n : Int), Same H H' → H' p = none → g = good d → m = (sz d : Int) → n = (dp d : Int) → Q (.ref p) (upd H' p (.tup [.bl g, .int m, .int n])) := fun p H' g m n sm hp e1 e2 e3 => by
    subst e1 e2 e3
    exact k _ _ (sm.trans (same_new hp _)) (Is.new (ds := [.bl (good d), .int (sz d : Int), .int (dp d : Int)]) ⟨_, _, rfl, rfl, _, _, rfl, rfl, _, _, rfl, rfl, rfl⟩ hp)
  cases hs : isStr d with
  | true =>
    refine iteT ?_
    cases d with
    | str z =>
      obtain ⟨rfl, hz⟩ := hv
      refine ⟨rfl, _, rfl, _, z.length, rfl, ⟨hz, rfl⟩, _, _, rfl, rfl, _, rfl, ?_⟩
      have rest : ∀ (b : Bool) (H' : Hp), Same H H' → b = okText z → ∃ v, [some (V.str z), some (V.str SGN), none, none][0]? = some (some v) ∧ ∃ x n, [v] = [x] ∧ LenV K x H' n ∧ ∃ i j, V.int (n : Int) = V.int i ∧ V.int 1 = V.int j ∧ [V.bl b, V.int (i + j), V.int 1].length ≤ sizeLine ∧ ∀ p, H' p = none → Q (.ref p) (upd H' p (.tup [V.bl b, V.int (i + j), V.int 1])) := fun b H' sm e =>
        ⟨_, rfl, _, z.length, rfl, ⟨hz, rfl⟩, _, _, rfl, rfl, (by show 3 ≤ sizeLine; decide), fun p hp => fin p H' b _ _ sm hp (by rw [e]; simp only [good]) (by simp only [sz]; omega) (by simp only [dp]; rfl)⟩
      refine ite2 (fun c => ?_) (fun c => ?_)
      · have c' : (z.length : Int) ≤ 300 := of_decide_eq_true c
        refine ⟨_, rfl, z, rfl, fun A0 hA0 => ?_⟩
        refine lc_str (tl := [some (.str SGN)]) (fun c => .bl (inS ⟨#[c]⟩ SGN)) hz hA0 (fun i c H' R hc sm r => ⟨_, rfl, _, rfl, _, _, rfl, rfl, r⟩) fun H' sm hl => ?_
        refine ⟨A0, z.cps.toList.map fun c => inS ⟨#[c]⟩ SGN, rfl, SqL.of (by rw [hl, List.map_map]; rfl), ?_⟩
        refine rest _ H' sm ?_
        unfold okText
        rw [decide_eq_true (by omega), Bool.true_and, List.all_map]
        congr 1
        funext c
        exact sgn_ok c
      · have c' : ¬ (z.length : Int) ≤ 300 := fun q => c (decide_eq_true q)
        exact rest false H (Same.refl _) (by rw [okText_long (by omega)])
    | _ => simp [isStr] at hs
  | false =>
    refine iteF ?_
    refine ⟨_, rfl, v, "tuple", tyD d, isTup d, rfl, hv.ty, kit_tup d, _, rfl, ?_⟩
    cases ht : isTup d with
    | false =>
      obtain ⟨o1, o2, o3⟩ := other hs ht
      refine iteT ⟨(by show 3 ≤ sizeLine; decide), fun p hp => fin p H false 0 0 (Same.refl _) hp o1.symm (by rw [o2]; rfl) (by rw [o3]; rfl)⟩
    | true =>
      refine iteF ?_
      cases d with
      | tup xs =>
        obtain ⟨a0, vs, rfl, ha0, hvs⟩ := hv
        have lv := hvs.length
        have e1 : dp (.tup xs) = 1 + dpL xs := by simp only [dp]
        have e2 : sz (.tup xs) = 1 + szL xs := by simp only [sz]
        have e3 : good (.tup xs) = (decide (xs.length ≤ 40) && goodL xs) := by simp only [good]
        refine ⟨_, rfl, a0, vs, rfl, SqT.of ha0, fun hvl A0 hA0 => ?_⟩
        have hxl : xs.length ≤ sizeLine := by omega
        refine lc_tupS (tl := []) mea ha0 hvs hxl hA0 (fun d0 x0 H3 R hd0 s3 i3 r => ?_) fun H1 ys s1 l1 i1 => ?_
        · refine ⟨_, rfl, x0, d0, rfl, i3, ?_, fun u H4 s4 h4 => r u H4 s4 h4⟩
          have := dp_row hd0
          omega
        have hml : (xs.map mea).length ≤ sizeLine := by rw [List.length_map]; exact hxl
        have part : ∀ (f : D → D) (i : Int) (hf : ∀ d, atI [D.bl (good d), D.int (sz d : Int), D.int (dp d : Int)] i = some (f (mea d))) (H3 : Hp) (R : VK) (d0 : D) (x0 : V), d0 ∈ xs.map mea → Is H3 d0 x0 → (∀ y H', Same H3 H' → Is H' (f d0) y → R y H') → rIxT K x0 (.int i) H3 R := fun f i hf H3 R d0 x0 hm hx r => by
          obtain ⟨d1, _, rfl⟩ := List.mem_map.mp hm
          exact ix_is (i := i) hx (hf d1) fun y hy => r y H3 (Same.refl _) hy
        refine ⟨_, rfl, _, vs.length, rfl, .inr ⟨vs, SqT.of (s1 _ _ ha0), rfl⟩, _, _, rfl, rfl, _, rfl, ?_⟩
        refine ite2 (fun c => ?_) (fun c => ?_)
        · have c' : (vs.length : Int) ≤ 40 := of_decide_eq_true c
          refine ⟨_, rfl, A0, rfl, ⟨_, SqL.of l1⟩, fun A1 hA1 => ?_⟩
          refine lc_lstS (tl := []) comp0 l1 i1 hml hA1 (fun d0 x0 H3 R hd0 s3 i3 r => ⟨_, rfl, part comp0 0 (fun _ => rfl) H3 R d0 x0 hd0 i3 r⟩) fun H2 ys2 s2 l2 i2 => ?_
          have ey : ys2 = (xs.map good).map V.bl := IsL.bls (by rw [List.map_map] at i2 ⊢; exact i2)
          refine ⟨A1, xs.map good, rfl, SqL.of (by rw [l2, ey]), ?_⟩
          have hb : (xs.map good).all id = good (.tup xs) := by rw [e3, all_map_good, decide_eq_true (by omega), Bool.true_and]
          refine ⟨_, rfl, _, rfl, A0, rfl, ⟨_, SqL.of (s2 _ _ l1)⟩, fun A2 hA2 => ?_⟩
          refine lc_lstS (tl := []) comp1 (s2 _ _ l1) (i1.mono s2.tk) hml hA2 (fun d0 x0 H3 R hd0 s3 i3 r => ⟨_, rfl, part comp1 1 (fun _ => rfl) H3 R d0 x0 hd0 i3 r⟩) fun H5 ys5 s5 l5 i5 => ?_
          have ey5 : ys5 = (xs.map fun d => (sz d : Int)).map V.int := IsL.ints (by rw [List.map_map] at i5 ⊢; exact i5)
          refine ⟨A2, xs.map fun d => (sz d : Int), rfl, SqL.of (by rw [l5, ey5]), _, _, rfl, rfl, ?_⟩
          refine ⟨_, rfl, A0, rfl, ⟨_, SqL.of (s5 _ _ (s2 _ _ l1))⟩, fun A3 hA3 => ?_⟩
          refine lc_lstS (tl := []) comp2 (s5 _ _ (s2 _ _ l1)) (i1.mono (s2.trans s5).tk) hml hA3 (fun d0 x0 H3 R hd0 s3 i3 r => ⟨_, rfl, part comp2 2 (fun _ => rfl) H3 R d0 x0 hd0 i3 r⟩) fun H6 ys6 s6 l6 i6 => ?_
          have ey6 : ys6 = (xs.map fun d => (dp d : Int)).map V.int := IsL.ints (by rw [List.map_map] at i6 ⊢; exact i6)
          refine ⟨A3, xs.map fun d => (dp d : Int), 0, rfl, rfl, SqL.of (by rw [l6, ey6]), _, _, rfl, rfl, (by show 3 ≤ sizeLine; decide), fun p hp => ?_⟩
          exact fin p H6 _ _ _ (s1.trans (s2.trans (s5.trans s6))) hp hb (by rw [sum_sz, e2]; omega) (by rw [maxOr_dp, e1]; omega)
        · have c' : ¬ (vs.length : Int) ≤ 40 := fun q => c (decide_eq_true q)
          have hb : false = good (.tup xs) := by rw [e3, decide_eq_false (by omega), Bool.false_and]
          have s2 : Same H1 H1 := Same.refl _
          refine ⟨_, rfl, _, rfl, A0, rfl, ⟨_, SqL.of (s2 _ _ l1)⟩, fun A2 hA2 => ?_⟩
          refine lc_lstS (tl := []) comp1 (s2 _ _ l1) (i1.mono s2.tk) hml hA2 (fun d0 x0 H3 R hd0 s3 i3 r => ⟨_, rfl, part comp1 1 (fun _ => rfl) H3 R d0 x0 hd0 i3 r⟩) fun H5 ys5 s5 l5 i5 => ?_
          have ey5 : ys5 = (xs.map fun d => (sz d : Int)).map V.int := IsL.ints (by rw [List.map_map] at i5 ⊢; exact i5)
          refine ⟨A2, xs.map fun d => (sz d : Int), rfl, SqL.of (by rw [l5, ey5]), _, _, rfl, rfl, ?_⟩
          refine ⟨_, rfl, A0, rfl, ⟨_, SqL.of (s5 _ _ (s2 _ _ l1))⟩, fun A3 hA3 => ?_⟩
          refine lc_lstS (tl := []) comp2 (s5 _ _ (s2 _ _ l1)) (i1.mono (s2.trans s5).tk) hml hA3 (fun d0 x0 H3 R hd0 s3 i3 r => ⟨_, rfl, part comp2 2 (fun _ => rfl) H3 R d0 x0 hd0 i3 r⟩) fun H6 ys6 s6 l6 i6 => ?_
          have ey6 : ys6 = (xs.map fun d => (dp d : Int)).map V.int := IsL.ints (by rw [List.map_map] at i6 ⊢; exact i6)
          refine ⟨A3, xs.map fun d => (dp d : Int), 0, rfl, rfl, SqL.of (by rw [l6, ey6]), _, _, rfl, rfl, (by show 3 ≤ sizeLine; decide), fun p hp => ?_⟩
          exact fin p H6 _ _ _ (s1.trans (s2.trans (s5.trans s6))) hp hb (by rw [sum_sz, e2]; omega) (by rw [maxOr_dp, e1]; omega)
      | _ => simp [isTup] at ht
theorem ok_measure (T : Tx K mg a) : ∀ n : Nat, FnOk P w K mg base CX0 (n + 1) a.f_law_measure a.d_law_measure ["value"] (sp_measure n)
  | 0 => measure_none
  | n + 1 => ok_measure1 T (ok_measure T n)
theorem ok_lis_tree (T : Tx K mg a) : FnOk P w K mg base CX0 153 a.f_law_is_tree a.d_law_is_tree ["value"] sp_lis_tree := by
  have G_law_measure : FnOk P w K mg base CX0 152 a.f_law_measure a.d_law_measure ["value"] (sp_measure 151) := ok_measure T 151
  refine T.F_law_is_tree.ok sc_law_is_tree (fun vs H Q E h => ?_) (fun cdv A outer s H vs Q E hr h => ?_)
  · obtain ⟨v, d, rfl, _⟩ := h
    rfl
  obtain ⟨v, d, rfl, hv, hd, k⟩ := h
  refine ⟨_, (@pss_cons _ _ _ _ _ (@ps_asg _ _ _ _ _ _ (@pe_call _ _ _ _ _ _ _ _ _ _ _ _ _ _ _ _ G_law_measure (hr.mono (by first | decide | omega)) (by rfl) T.m_law_measure T.F_law_measure.kp T.b_law_measure .nil pass0 (@pa_cons _ _ _ _ _ (pv 0) (@pa_nil _) (by first|rfl|exact .inl rfl|exact .inr rfl|exact .inr (.inl rfl)|decide +kernel|(intro _;rfl))) (by first|rfl|exact .inl rfl|exact .inr rfl|exact .inr (.inl rfl)|decide +kernel|(intro _;rfl)) (by first|rfl|exact .inl rfl|exact .inr rfl|exact .inr (.inl rfl)|decide +kernel|(intro _;rfl)) (by first|rfl|exact .inl rfl|exact .inr rfl|exact .inr (.inl rfl)|decide +kernel|(intro _;rfl))) (@pg_tup _ _ _ _ _ _ rfl (pgs_cons (@pg_name _ _ (1) _ sc_law_is_tree.nd rfl (Or.inl rfl) (by first|rfl|exact .inl rfl|exact .inr rfl|exact .inr (.inl rfl)|decide +kernel|(intro _;rfl))) (pgs_cons (@pg_name _ _ (2) _ sc_law_is_tree.nd rfl (Or.inl rfl) (by first|rfl|exact .inl rfl|exact .inr rfl|exact .inr (.inl rfl)|decide +kernel|(intro _;rfl))) (pgs_cons (@pg_name _ _ (3) _ sc_law_is_tree.nd rfl (Or.inl rfl) (by first|rfl|exact .inl rfl|exact .inr rfl|exact .inr (.inl rfl)|decide +kernel|(intro _;rfl))) pgs_nil))) (by first|rfl|exact .inl rfl|exact .inr rfl|exact .inr (.inl rfl)|decide +kernel|(intro _;rfl)) (by first|rfl|exact .inl rfl|exact .inr rfl|exact .inr (.inl rfl)|decide +kernel|(intro _;rfl))) (by first|rfl|exact .inl rfl|exact .inr rfl|exact .inr (.inl rfl)|decide +kernel|(intro _;rfl)) (by first|rfl|exact .inl rfl|exact .inr rfl|exact .inr (.inl rfl)|decide +kernel|(intro _;rfl)) (by first|rfl|exact .inl rfl|exact .inr rfl|exact .inr (.inl rfl)|decide +kernel|(intro _;rfl))) (@pss_one _ _ _ (@ps_ret _ _ _ _ (@pe_and _ _ _ _ _ _ _ (pv 1) (@pe_and _ _ _ _ _ _ _ (@pe_cmpR _ _ _ _ _ _ _ _ (@op_le _) (pv 2) (@pe_int _ _ _ _) (nomark _)) (@pe_one _ _ _ _ _ (@pe_cmpR _ _ _ _ _ _ _ _ (@op_le _) (pv 3) (@pe_int _ _ _ _) (nomark _)))))))), ?_⟩
  refine ⟨_, rfl, v, d, rfl, hv, by omega, fun u H1 s1 hu => ?_⟩
  obtain ⟨p, us, rfl, hp, x1, r1, rfl, e1, x2, r2, rfl, e2, x3, r3, rfl, e3, e4⟩ := hu
  cases (show x1 = _ from e1)
  cases (show x2 = _ from e2)
  cases (show x3 = _ from e3)
  cases (show r3 = [] from e4)
  refine ⟨p, _, rfl, SqT.of hp, rfl, _, _, rfl, _, _, rfl, _, _, rfl, rfl, ?_⟩
  refine ⟨_, rfl, _, rfl, ?_⟩
  have q := k H1 s1
  unfold isT at q
  cases hg : good d with
  | false =>
    rw [hg] at q
    exact iteF q
  | true =>
    rw [hg] at q
    refine iteT ⟨_, rfl, _, _, rfl, rfl, _, rfl, ?_⟩
    refine ite2 (fun c => ⟨_, rfl, _, _, rfl, rfl, ?_⟩) (fun c => ?_)
    · have c' : (sz d : Int) ≤ 600 := of_decide_eq_true c
      have e : decide ((dp d : Int) ≤ 12) = decide (dp d ≤ 12) := by rw [decide_eq_decide]; omega
      rw [decide_eq_true (p := sz d ≤ 600) (by omega)] at q
      show Q (.bl (decide ((dp d : Int) ≤ 12))) H1
      rw [e]
      exact q
    · have c' : ¬ (sz d : Int) ≤ 600 := fun z => c (decide_eq_true z)
      rw [decide_eq_false (p := sz d ≤ 600) (by omega)] at q
      exact q
end
end K18

namespace K18
open PySem L2 PyProof.Rows
theorem lwL_mem : ∀ {xs : List D} {x : D}, lwL xs = true → x ∈ xs → lw x = true
  | [], _, _, h => nomatch h
  | y :: r, x, h, hx => by
    have h' : lw y = true ∧ lwL r = true := by simpa [lwL] using h
    rcases List.mem_cons.mp hx with rfl | hx
    · exact h'.1
    · exact lwL_mem h'.2 hx
theorem len_cps (z : Str) : z.length = z.cps.toList.length := by show z.cps.size = _; simp
theorem isT_short {z : Str} (h : okAll z = true) (hl : z.length ≤ 300) : isT (.str z) = true := by
  have hg : okText z = true := by
    unfold okText
    rw [decide_eq_true hl, Bool.true_and]
    exact h
  have e1 : sz (.str z) ≤ 600 := by simp only [sz]; omega
  have e2 : dp (.str z) ≤ 12 := by simp only [dp]; omega
  have e3 : good (.str z) = true := by simp only [good]; exact hg
  unfold isT
  rw [e3, decide_eq_true e1, decide_eq_true e2]
  rfl
theorem isT_nil : isT (.tup []) = true := by decide +kernel
theorem isT_dp {d : D} (h : isT d = true) : dp d ≤ 12 := by
  unfold isT at h
  simp only [Bool.and_eq_true, decide_eq_true_eq] at h
  exact h.2
def mz (d : D) : Nat := 2 * dp d + if isT d = true then 0 else 1
def sp_good : Sp := fun vs H Q _ => ∃ p, vs = [.ref p] ∧ PotAt H p ∧ ∀ (v : V) (d : D) (H' : Hp), Is H' d v → lw d = true → isT d = true → PotAt H' p → Kept p H H' → Q v H'
section
variable {P : Program} {w : World} {K : PySem.W.Frag} {mg : Str → Option Value} {base : Heap} {a : Ad}
theorem ok_good (T : Tx K mg a) : FnOk P w K mg base CX0 154 a.f_law_good_tree a.d_law_good_tree ["pot"] sp_good := by
  have G_law_take : FnOk P w K mg base CX0 1 a.f_law_take a.d_law_take ["pot", "many"] sp_take := ok_take T
  have G_law_tree : FnOk P w K mg base CX0 6 a.f_law_tree a.d_law_tree ["pot", "deep"] (sp_tree 4) := ok_tree T 4
  have G_law_is_tree : FnOk P w K mg base CX0 153 a.f_law_is_tree a.d_law_is_tree ["value"] sp_lis_tree := ok_lis_tree T
  refine T.F_law_good_tree.ok sc_law_good_tree (fun vs H Q E h => ?_) (fun cdv A outer s H vs Q E hr h => ?_)
  · obtain ⟨p, rfl, _⟩ := h
    rfl
  obtain ⟨p, rfl, P0, k⟩ := h
  have hs := sizeLine_eq
  refine ⟨_, (@pss_cons _ _ _ _ _ (@ps_set _ _ (1) _ _ _ _ sc_law_good_tree.nd rfl (Or.inl rfl) (@pe_call _ _ _ _ _ _ _ _ _ _ _ _ _ _ _ _ G_law_tree (hr.mono (by first | decide | omega)) (by rfl) T.m_law_tree T.F_law_tree.kp T.b_law_tree .nil pass0 (@pa_cons _ _ _ _ _ (pv 0) (@pa_cons _ _ _ _ _ (@pe_int _ _ _ _) (@pa_nil _) (by first|rfl|exact .inl rfl|exact .inr rfl|exact .inr (.inl rfl)|decide +kernel|(intro _;rfl))) (by first|rfl|exact .inl rfl|exact .inr rfl|exact .inr (.inl rfl)|decide +kernel|(intro _;rfl))) (by first|rfl|exact .inl rfl|exact .inr rfl|exact .inr (.inl rfl)|decide +kernel|(intro _;rfl)) (by first|rfl|exact .inl rfl|exact .inr rfl|exact .inr (.inl rfl)|decide +kernel|(intro _;rfl)) (by first|rfl|exact .inl rfl|exact .inr rfl|exact .inr (.inl rfl)|decide +kernel|(intro _;rfl))) (by first|rfl|exact .inl rfl|exact .inr rfl|exact .inr (.inl rfl)|decide +kernel|(intro _;rfl)) (by first|rfl|exact .inl rfl|exact .inr rfl|exact .inr (.inl rfl)|decide +kernel|(intro _;rfl))) (@pss_cons _ _ _ _ _ (@ps_while _ _ _ _ _ _ PassesOwn.never (@pt_not _ _ _ _ (@pt_val _ _ _ (@pe_call _ _ _ _ _ _ _ _ _ _ _ _ _ _ _ _ G_law_is_tree (hr.mono (by first | decide | omega)) (by rfl) T.m_law_is_tree T.F_law_is_tree.kp T.b_law_is_tree .nil pass0 (@pa_cons _ _ _ _ _ (pv 1) (@pa_nil _) (by first|rfl|exact .inl rfl|exact .inr rfl|exact .inr (.inl rfl)|decide +kernel|(intro _;rfl))) (by first|rfl|exact .inl rfl|exact .inr rfl|exact .inr (.inl rfl)|decide +kernel|(intro _;rfl)) (by first|rfl|exact .inl rfl|exact .inr rfl|exact .inr (.inl rfl)|decide +kernel|(intro _;rfl)) (by first|rfl|exact .inl rfl|exact .inr rfl|exact .inr (.inl rfl)|decide +kernel|(intro _;rfl))) (by first|rfl|exact .inl rfl|exact .inr rfl|exact .inr (.inl rfl)|decide +kernel|(intro _;rfl)))) (@pss_one _ _ _ (@ps_set _ _ (1) _ _ _ _ sc_law_good_tree.nd rfl (Or.inl rfl) (@pe_ix _ _ _ _ _ _ _ (@ix_seq _) (pv 1) (@pe_call _ _ _ _ _ _ _ _ _ _ _ _ _ _ _ _ G_law_take (hr.mono (by first | decide | omega)) (by rfl) T.m_law_take T.F_law_take.kp T.b_law_take .nil pass0 (@pa_cons _ _ _ _ _ (pv 0) (@pa_cons _ _ _ _ _ (@pe_callB _ _ _ _ _ _ _ _ _ (@call_lenZ _) (by rfl) T.z_len PySem.boot_len (@pa_cons _ _ _ _ _ (pv 1) (@pa_nil _) (by first|rfl|exact .inl rfl|exact .inr rfl|exact .inr (.inl rfl)|decide +kernel|(intro _;rfl))) (by first|rfl|exact .inl rfl|exact .inr rfl|exact .inr (.inl rfl)|decide +kernel|(intro _;rfl)) (by first|rfl|exact .inl rfl|exact .inr rfl|exact .inr (.inl rfl)|decide +kernel|(intro _;rfl)) (by first|rfl|exact .inl rfl|exact .inr rfl|exact .inr (.inl rfl)|decide +kernel|(intro _;rfl)) (by first|rfl|exact .inl rfl|exact .inr rfl|exact .inr (.inl rfl)|decide +kernel|(intro _;rfl))) (@pa_nil _) (by first|rfl|exact .inl rfl|exact .inr rfl|exact .inr (.inl rfl)|decide +kernel|(intro _;rfl))) (by first|rfl|exact .inl rfl|exact .inr rfl|exact .inr (.inl rfl)|decide +kernel|(intro _;rfl))) (by first|rfl|exact .inl rfl|exact .inr rfl|exact .inr (.inl rfl)|decide +kernel|(intro _;rfl)) (by first|rfl|exact .inl rfl|exact .inr rfl|exact .inr (.inl rfl)|decide +kernel|(intro _;rfl)) (by first|rfl|exact .inl rfl|exact .inr rfl|exact .inr (.inl rfl)|decide +kernel|(intro _;rfl))) (fun _ _ => rfl)) (by first|rfl|exact .inl rfl|exact .inr rfl|exact .inr (.inl rfl)|decide +kernel|(intro _;rfl)) (by first|rfl|exact .inl rfl|exact .inr rfl|exact .inr (.inl rfl)|decide +kernel|(intro _;rfl))))) (@pss_one _ _ _ (@ps_ret _ _ _ _ (pv 1))))), ?_⟩
  refine ⟨_, rfl, p, 3, rfl, by omega, P0, fun v d H1 hv hlw hd P1 K1 => ?_⟩
  refine ⟨fun m σ H' => ∃ (v : V) (d : D), σ = [some (.ref p), some v] ∧ Is H' d v ∧ lw d = true ∧ dp d ≤ 37 ∧ PotAt H' p ∧ Kept p H H' ∧ m = mz d, ⟨_, v, d, rfl, hv, hlw, by omega, P1, K1, rfl⟩, ?_⟩
  rintro m σ H' ⟨v, d, rfl, hv, hlw, hd, P', K', rfl⟩
  refine ⟨_, rfl, v, d, rfl, hv, by omega, fun H2 s2 => ⟨_, rfl, ?_⟩⟩
  have P2 := P'.same s2
  have K2 : Kept p H H2 := K'.trans s2.kept
  have hv2 := hv.mono s2.tk
  cases hT : isT d with
  | true => exact iteF ⟨_, rfl, k v d H2 hv2 hlw hT P2 K2⟩
  | false =>
    have em : mz d = 2 * dp d + 1 := by unfold mz; rw [hT]; rfl
    refine iteT ⟨fun σ' H' => ∃ (v : V) (e : D), σ' = [some (.ref p), some v] ∧ Is H' e v ∧ lw e = true ∧ dp e ≤ 37 ∧ PotAt H' p ∧ Kept p H H' ∧ mz e < mz d, ?_, ?_⟩
    · rintro σ' H3 ⟨v3, e, rfl, h3, l3, d3, P3, K3, lt⟩
      exact ⟨_, lt, v3, e, rfl, h3, l3, d3, P3, K3, rfl⟩
    · cases d with
      | str z =>
        obtain ⟨rfl, hz⟩ := id hv2
        have hok : okAll z = true := by simpa only [lw] using hlw
        have hlen : 300 < z.length := by
          rcases Nat.lt_or_ge 300 z.length with h | h
          · exact h
          · rw [isT_short hok h] at hT
            cases hT
        refine ⟨_, rfl, _, rfl, _, rfl, .inl ⟨z, rfl, hz, p, _, rfl, P2, by omega, by omega, fun i H3 a3 b3 P3 K3 => ?_⟩⟩
        obtain ⟨c, hc⟩ := atI_some (xs := z.cps.toList) (i := i) a3 (by rw [← len_cps]; exact b3)
        have hcs : okSign c = true := List.all_eq_true.mp hok c (atI_mem hc)
        have hoc : okAll ⟨#[c]⟩ = true := by show ([c].all okSign) = true; rw [List.all_cons, List.all_nil, hcs]; rfl
        refine .inr (.inr ⟨z, i, c, rfl, rfl, hz, hc, ⟨_, .str ⟨#[c]⟩, rfl, ⟨rfl, fits (by show 1 ≤ _; omega)⟩, by simpa only [lw] using hoc, by simp only [dp]; omega, P3, K2.trans K3, ?_⟩⟩)
        have e1 : mz (.str ⟨#[c]⟩) = 2 := by
          unfold mz
          rw [isT_short hoc (by show 1 ≤ 300; omega)]
          simp only [dp]
          rfl
        rw [e1, em]
        simp only [dp]
        omega
      | tup xs =>
        obtain ⟨a0, vs, rfl, ha0, hvs⟩ := id hv2
        have lv := hvs.length
        have hne : xs ≠ [] := by
          rintro rfl
          rw [isT_nil] at hT
          cases hT
        have hpos : 0 < xs.length := List.length_pos_iff.mpr hne
        have hll : lwL xs = true := by simpa only [lw] using hlw
        refine ⟨_, rfl, _, rfl, _, rfl, .inr ⟨a0, vs, rfl, .inr (SqT.of ha0), fun hb => ⟨p, _, rfl, P2, by omega, by omega, fun i H3 a3 b3 P3 K3 => ?_⟩⟩⟩
        obtain ⟨e, he⟩ := atI_some (xs := xs) (i := i) a3 (by omega)
        have me : e ∈ xs := atI_mem he
        have de := dp_row me
        refine .inr (.inl (ix_is (hv2.mono (P2.tk P3 K3)) he fun x hx => ⟨x, e, rfl, hx, lwL_mem hll me, by omega, P3, K2.trans K3, ?_⟩))
        rw [em]
        unfold mz
        split <;> omega
      | _ => simp [lw] at hlw
end
end K18

namespace K18
open PySem L2 PyProof.Rows
def isTx : D → Bool
  | .str z => okText z
  | _ => false
def sp_is_text : Sp := fun vs H Q _ => ∃ v d, vs = [v] ∧ Is H d v ∧ Q (.bl (isTx d)) H
def sp_is_tree : Sp := fun vs H Q _ => ∃ v d, vs = [v] ∧ Is H d v ∧ ∀ H', Same H H' → Q (.bl (isT d)) H'
def pr (p : D × Nat) : D := .tup [p.1, .int (p.2 : Int)]
theorem okText_bad {z : Str} {i c : Nat} (h : z.cps[i]? = some c) (hc : okSign c = false) : okText z = false := by
  unfold okText
  have hm : c ∈ z.cps.toList := by
    have : z.cps.toList[i]? = some c := by simpa using h
    exact List.mem_of_getElem? this
  have : z.cps.toList.all okSign = false := by
    rw [List.all_eq_false]
    exact ⟨c, hm, by rw [hc]; exact Bool.false_ne_true⟩
  rw [this, Bool.and_false]
section
variable {P : Program} {w : World} {K : PySem.W.Frag} {mg : Str → Option Value} {base : Heap} {a : Ad}
theorem ok_is_text (T : Tx K mg a) : FnOk P w K mg base CX0 1 a.f_is_text a.d_is_text ["value"] sp_is_text := by
  refine T.F_is_text.ok sc_is_text (fun vs H Q E h => ?_) (fun cdv A outer s H vs Q E hr h => ?_)
  · obtain ⟨v, d, rfl, _⟩ := h
    rfl
  obtain ⟨v, d, rfl, hv, k⟩ := h
  refine ⟨_, (@pss_cons _ _ _ _ _ (@ps_if _ _ _ _ _ _ _ _ (@pw_or _ _ _ _ _ _ _ (@pt_not _ _ _ _ (@pt_val _ _ _ (@pe_callB _ _ _ _ _ _ _ _ _ (@call_isinst _ _ rfl) (by rfl) T.z_isinstance boot_isinstance (@pa_cons _ _ _ _ _ (pv 0) (@pa_cons _ _ _ _ _ (@pe_bltn _ _ (.ty "str") _ _ (by rfl) T.z_str boot_str rfl (by first|rfl|exact .inl rfl|exact .inr rfl|exact .inr (.inl rfl)|decide +kernel|(intro _;rfl)) (by first|rfl|exact .inl rfl|exact .inr rfl|exact .inr (.inl rfl)|decide +kernel|(intro _;rfl))) (@pa_nil _) (by first|rfl|exact .inl rfl|exact .inr rfl|exact .inr (.inl rfl)|decide +kernel|(intro _;rfl))) (by first|rfl|exact .inl rfl|exact .inr rfl|exact .inr (.inl rfl)|decide +kernel|(intro _;rfl))) (by first|rfl|exact .inl rfl|exact .inr rfl|exact .inr (.inl rfl)|decide +kernel|(intro _;rfl)) (by first|rfl|exact .inl rfl|exact .inr rfl|exact .inr (.inl rfl)|decide +kernel|(intro _;rfl)) (by first|rfl|exact .inl rfl|exact .inr rfl|exact .inr (.inl rfl)|decide +kernel|(intro _;rfl)) (by first|rfl|exact .inl rfl|exact .inr rfl|exact .inr (.inl rfl)|decide +kernel|(intro _;rfl))) (by first|rfl|exact .inl rfl|exact .inr rfl|exact .inr (.inl rfl)|decide +kernel|(intro _;rfl)))) (@pw_or1 _ _ _ _ (@pt_cmpR _ _ _ _ _ _ _ _ (@op_gt _) (@pe_callB _ _ _ _ _ _ _ _ _ (@call_len_str _) (by rfl) T.z_len PySem.boot_len (@pa_cons _ _ _ _ _ (pv 0) (@pa_nil _) (by first|rfl|exact .inl rfl|exact .inr rfl|exact .inr (.inl rfl)|decide +kernel|(intro _;rfl))) (by first|rfl|exact .inl rfl|exact .inr rfl|exact .inr (.inl rfl)|decide +kernel|(intro _;rfl)) (by first|rfl|exact .inl rfl|exact .inr rfl|exact .inr (.inl rfl)|decide +kernel|(intro _;rfl)) (by first|rfl|exact .inl rfl|exact .inr rfl|exact .inr (.inl rfl)|decide +kernel|(intro _;rfl)) (by first|rfl|exact .inl rfl|exact .inr rfl|exact .inr (.inl rfl)|decide +kernel|(intro _;rfl))) (@pe_gI _ _ _ _ (by rfl) T.m_MOST_SIGNS (by first|rfl|exact .inl rfl|exact .inr rfl|exact .inr (.inl rfl)|decide +kernel|(intro _;rfl))) (nomark _)))).pt (@pss_one _ _ _ (@ps_ret _ _ _ _ (@pe_bl _ _ _ _))) (@pss_nil _)) (@pss_cons _ _ _ _ _ (@ps_for _ _ _ _ _ _ _ _ PassesOwn.never rfl (@pi_str _ _ _ _ (pv 0)) (@pg_name _ _ (1) _ sc_is_text.nd rfl (Or.inl rfl) (by first|rfl|exact .inl rfl|exact .inr rfl|exact .inr (.inl rfl)|decide +kernel|(intro _;rfl))) (@pss_one _ _ _ (@ps_if _ _ _ _ _ _ _ _ (@pw_or _ _ _ _ _ _ _ (@pt_cmpR _ _ _ _ _ _ _ _ (@op_lt_str _) (pv 1) (@pe_str _ _ _ _) (nomark _)) (@pw_or _ _ _ _ _ _ _ (@pt_cmpR _ _ _ _ _ _ _ _ (@op_gt_str _) (pv 1) (@pe_str _ _ _ _) (nomark _)) (@pw_or1 _ _ _ _ (@pt_cmpR _ _ _ _ _ _ _ _ (@op_eq _) (@pe_callB _ _ _ _ _ _ _ _ _ (@call_ord _) (by rfl) T.z_ord boot_ord (@pa_cons _ _ _ _ _ (pv 1) (@pa_nil _) (by first|rfl|exact .inl rfl|exact .inr rfl|exact .inr (.inl rfl)|decide +kernel|(intro _;rfl))) (by first|rfl|exact .inl rfl|exact .inr rfl|exact .inr (.inl rfl)|decide +kernel|(intro _;rfl)) (by first|rfl|exact .inl rfl|exact .inr rfl|exact .inr (.inl rfl)|decide +kernel|(intro _;rfl)) (by first|rfl|exact .inl rfl|exact .inr rfl|exact .inr (.inl rfl)|decide +kernel|(intro _;rfl)) (by first|rfl|exact .inl rfl|exact .inr rfl|exact .inr (.inl rfl)|decide +kernel|(intro _;rfl))) (@pe_gI _ _ _ _ (by rfl) T.m_PERCENT (by first|rfl|exact .inl rfl|exact .inr rfl|exact .inr (.inl rfl)|decide +kernel|(intro _;rfl))) (nomark _))))).pt (@pss_one _ _ _ (@ps_ret _ _ _ _ (@pe_bl _ _ _ _))) (@pss_nil _))) (by first|rfl|exact .inl rfl|exact .inr rfl|exact .inr (.inl rfl)|decide +kernel|(intro _;rfl))) (@pss_one _ _ _ (@ps_ret _ _ _ _ (@pe_bl _ _ _ _))))), ?_⟩
  refine ⟨_, rfl, v, "str", tyD d, isStr d, rfl, hv.ty, kit_str d, _, rfl, ?_⟩
  cases d with
  | str z =>
    obtain ⟨rfl, hz⟩ := hv
    refine iteF ?_
    refine ⟨_, rfl, z, rfl, hz, _, _, rfl, rfl, _, rfl, ?_⟩
    refine ite2 (fun c => ?_) (fun c => ?_)
    · have c' : (300 : Int) < (z.length : Int) := of_decide_eq_true c
      have e : isTx (.str z) = false := okText_long (by omega)
      rw [e] at k
      exact k
    · have c' : ¬ (300 : Int) < (z.length : Int) := fun q => c (decide_eq_true q)
      refine ⟨_, rfl, z, rfl, ?_⟩
      refine for_str (fun i σ H' => (∃ x, σ = [some (.str z), x]) ∧ H' = H ∧ (z.cps.toList.take i).all okSign = true) ⟨⟨_, rfl⟩, rfl, rfl⟩ ?_ ?_
      · rintro i c σ H' hc ⟨⟨x, rfl⟩, rfl, hall⟩
        have bad : okSign c = false → Q (.bl false) H' := fun e => by
          have e' : isTx (.str z) = false := okText_bad hc e
          rw [e'] at k
          exact k
        refine ⟨_, rfl, _, _, rfl, rfl, _, rfl, ?_⟩
        rw [show decide ((⟨#[c]⟩ : Str).cps.toList < (" " : Str).cps.toList) = decide (c < 32) from lt_one c 32]
        refine ite2 (fun c1 => ?_) (fun c1 => ?_)
        · refine iteT (bad ?_)
          have := of_decide_eq_true c1
          unfold okSign
          rw [decide_eq_false (by omega)]
          rfl
        · have c1' : ¬ c < 32 := fun q => c1 (decide_eq_true q)
          refine ⟨_, rfl, _, _, rfl, rfl, _, rfl, ?_⟩
          rw [show decide (("~" : Str).cps.toList < (⟨#[c]⟩ : Str).cps.toList) = decide (126 < c) from one_gt c 126]
          refine ite2 (fun c2 => ?_) (fun c2 => ?_)
          · refine iteT (bad ?_)
            have := of_decide_eq_true c2
            unfold okSign
            rw [decide_eq_false (p := c ≤ 126) (by omega), Bool.and_false]
            rfl
          · have c2' : ¬ 126 < c := fun q => c2 (decide_eq_true q)
            refine ⟨_, rfl, _, rfl, rfl, rfl, _, rfl, ?_⟩
            refine ite2 (fun c3 => ?_) (fun c3 => ?_)
            · have c3' : c = 37 := by
                have := of_decide_eq_true c3
                have := V.int.inj this
                exact Int.ofNat.inj this
              exact bad (by subst c3'; rfl)
            · have c3' : c ≠ 37 := fun q => c3 (decide_eq_true (by rw [q]; rfl))
              refine ⟨⟨_, rfl⟩, rfl, ?_⟩
              rw [List.take_add_one, show z.cps.toList[i]? = some c by simpa using hc, List.all_append, hall]
              show (true && (okSign c && true)) = true
              unfold okSign
              rw [decide_eq_true (by omega), decide_eq_true (p := c ≤ 126) (by omega), decide_eq_true c3']
              rfl
      · rintro σ H' ⟨⟨x, rfl⟩, rfl, hall⟩
        have e : isTx (.str z) = true := by
          show okText z = true
          unfold okText
          rw [List.take_of_length_le (by simp)] at hall
          rw [hall, decide_eq_true (by omega)]
          rfl
        rw [e] at k
        exact k
  | _ => exact iteT (iteT k)
end
end K18

namespace K18
open PySem L2 PyProof.Rows
theorem map_snoc {α β : Type} (f : α → β) (xs : List α) (x : α) : (xs ++ [x]).map f = xs.map f ++ [f x] := by simp
theorem last_at {α : Type} (us : List α) (x : α) : (us ++ [x])[(us ++ [x]).length - 1]? = some x := by simp
theorem drop_last {α : Type} (us : List α) (x : α) : (us ++ [x]).dropLast = us := by simp
/-- what is_tree's loop knows -/
def Wt (v : V) (d : D) (H : Hp) (L : Addr) (m : Nat) (σ : L2.St) (H' : Hp) : Prop :=
  ∃ (n : Nat) (w : List (D × Nat)) (ws : List V) (x3 x4 x5 : Option V), σ = [some v, some (.int n), some (.ref L), x3, x4, x5] ∧ Same H H' ∧ H' L = some (.lst ws) ∧ IsL H' (w.map pr) ws ∧ G w n = isT d ∧ n ≤ 600 ∧ w.length ≤ 1 + 40 * n ∧ m = ndL (w.map (·.1))
section
variable {P : Program} {w : World} {K : PySem.W.Frag} {mg : Str → Option Value} {base : Heap} {a : Ad}
theorem ok_is_tree (T : Tx K mg a) : FnOk P w K mg base CX0 2 a.f_is_tree a.d_is_tree ["value"] sp_is_tree := by
  have G_is_text : FnOk P w K mg base CX0 1 a.f_is_text a.d_is_text ["value"] sp_is_text := ok_is_text T
  refine T.F_is_tree.ok sc_is_tree (fun vs H Q E h => ?_) (fun cdv A outer s H vs Q E hr h => ?_)
  · obtain ⟨v, d, rfl, _⟩ := h
    rfl
  obtain ⟨v, d, rfl, hv, k⟩ := h
  refine ⟨_, (@pss_cons _ _ _ _ _ (@ps_set _ _ (1) _ _ _ _ sc_is_tree.nd rfl (Or.inl rfl) (@pe_int _ _ _ _) (by first|rfl|exact .inl rfl|exact .inr rfl|exact .inr (.inl rfl)|decide +kernel|(intro _;rfl)) (by first|rfl|exact .inl rfl|exact .inr rfl|exact .inr (.inl rfl)|decide +kernel|(intro _;rfl))) (@pss_cons _ _ _ _ _ (@ps_set _ _ (2) _ _ _ _ sc_is_tree.nd rfl (Or.inl rfl) (@pe_lst _ _ _ _ (@pa_cons _ _ _ _ _ (@pe_tup _ _ _ _ _ (@pa_cons _ _ _ _ _ (pv 0) (@pa_cons _ _ _ _ _ (@pe_int _ _ _ _) (@pa_nil _) (by first|rfl|exact .inl rfl|exact .inr rfl|exact .inr (.inl rfl)|decide +kernel|(intro _;rfl))) (by first|rfl|exact .inl rfl|exact .inr rfl|exact .inr (.inl rfl)|decide +kernel|(intro _;rfl)))) (@pa_nil _) (by first|rfl|exact .inl rfl|exact .inr rfl|exact .inr (.inl rfl)|decide +kernel|(intro _;rfl)))) (by first|rfl|exact .inl rfl|exact .inr rfl|exact .inr (.inl rfl)|decide +kernel|(intro _;rfl)) (by first|rfl|exact .inl rfl|exact .inr rfl|exact .inr (.inl rfl)|decide +kernel|(intro _;rfl))) (@pss_cons _ _ _ _ _ (@ps_while _ _ _ _ _ _ PassesOwn.never (@pt_truth _ _ _ (pv 2) (fun _ => rfl)) (@pss_cons _ _ _ _ _ (@ps_set _ _ (3) _ _ _ _ sc_is_tree.nd rfl (Or.inl rfl) (@pe_bm0 _ _ _ _ _ _ _ _ _ PySem.F.plainAttrs_list PySem.F.slot_list_pop PySem.F.type_list_pop (@mt_pop _) (pv 2) (by first|rfl|exact .inl rfl|exact .inr rfl|exact .inr (.inl rfl)|decide +kernel|(intro _;rfl)) (by first|rfl|exact .inl rfl|exact .inr rfl|exact .inr (.inl rfl)|decide +kernel|(intro _;rfl))) (by first|rfl|exact .inl rfl|exact .inr rfl|exact .inr (.inl rfl)|decide +kernel|(intro _;rfl)) (by first|rfl|exact .inl rfl|exact .inr rfl|exact .inr (.inl rfl)|decide +kernel|(intro _;rfl))) (@pss_cons _ _ _ _ _ (@ps_set _ _ (4) _ _ _ _ sc_is_tree.nd rfl (Or.inl rfl) (@pe_ix _ _ _ _ _ _ _ (@ix_tup _) (pv 3) (@pe_int _ _ _ _) (fun _ _ => rfl)) (by first|rfl|exact .inl rfl|exact .inr rfl|exact .inr (.inl rfl)|decide +kernel|(intro _;rfl)) (by first|rfl|exact .inl rfl|exact .inr rfl|exact .inr (.inl rfl)|decide +kernel|(intro _;rfl))) (@pss_cons _ _ _ _ _ (@ps_set _ _ (5) _ _ _ _ sc_is_tree.nd rfl (Or.inr rfl) (@pe_ix _ _ _ _ _ _ _ (@ix_tup _) (pv 3) (@pe_int _ _ _ _) (fun _ _ => rfl)) (by first|rfl|exact .inl rfl|exact .inr rfl|exact .inr (.inl rfl)|decide +kernel|(intro _;rfl)) (by first|rfl|exact .inl rfl|exact .inr rfl|exact .inr (.inl rfl)|decide +kernel|(intro _;rfl))) (@pss_cons _ _ _ _ _ (@ps_if _ _ _ _ _ _ _ _ (@pw_and _ _ _ _ _ _ _ (@pt_val _ _ _ (@pe_callB _ _ _ _ _ _ _ _ _ (@call_isinst _ _ rfl) (by rfl) T.z_isinstance boot_isinstance (@pa_cons _ _ _ _ _ (pv 4) (@pa_cons _ _ _ _ _ (@pe_bltn _ _ (.ty "tuple") _ _ (by rfl) T.z_tuple boot_tuple rfl (by first|rfl|exact .inl rfl|exact .inr rfl|exact .inr (.inl rfl)|decide +kernel|(intro _;rfl)) (by first|rfl|exact .inl rfl|exact .inr rfl|exact .inr (.inl rfl)|decide +kernel|(intro _;rfl))) (@pa_nil _) (by first|rfl|exact .inl rfl|exact .inr rfl|exact .inr (.inl rfl)|decide +kernel|(intro _;rfl))) (by first|rfl|exact .inl rfl|exact .inr rfl|exact .inr (.inl rfl)|decide +kernel|(intro _;rfl))) (by first|rfl|exact .inl rfl|exact .inr rfl|exact .inr (.inl rfl)|decide +kernel|(intro _;rfl)) (by first|rfl|exact .inl rfl|exact .inr rfl|exact .inr (.inl rfl)|decide +kernel|(intro _;rfl)) (by first|rfl|exact .inl rfl|exact .inr rfl|exact .inr (.inl rfl)|decide +kernel|(intro _;rfl)) (by first|rfl|exact .inl rfl|exact .inr rfl|exact .inr (.inl rfl)|decide +kernel|(intro _;rfl))) (by first|rfl|exact .inl rfl|exact .inr rfl|exact .inr (.inl rfl)|decide +kernel|(intro _;rfl))) (@pw_and1 _ _ _ _ (@pt_cmpR _ _ _ _ _ _ _ _ (@op_le _) (@pe_callB _ _ _ _ _ _ _ _ _ (@call_len _) (by rfl) T.z_len PySem.boot_len (@pa_cons _ _ _ _ _ (pv 4) (@pa_nil _) (by first|rfl|exact .inl rfl|exact .inr rfl|exact .inr (.inl rfl)|decide +kernel|(intro _;rfl))) (by first|rfl|exact .inl rfl|exact .inr rfl|exact .inr (.inl rfl)|decide +kernel|(intro _;rfl)) (by first|rfl|exact .inl rfl|exact .inr rfl|exact .inr (.inl rfl)|decide +kernel|(intro _;rfl)) (by first|rfl|exact .inl rfl|exact .inr rfl|exact .inr (.inl rfl)|decide +kernel|(intro _;rfl)) (by first|rfl|exact .inl rfl|exact .inr rfl|exact .inr (.inl rfl)|decide +kernel|(intro _;rfl))) (@pe_gI _ _ _ _ (by rfl) T.m_MOST_PARTS (by first|rfl|exact .inl rfl|exact .inr rfl|exact .inr (.inl rfl)|decide +kernel|(intro _;rfl))) (nomark _)))).pt (@pss_cons _ _ _ _ _ (@ps_aug _ _ (1) _ _ _ _ _ _ sc_is_tree.nd rfl (Or.inl rfl) (@pe_int _ _ _ _) ip_add (by first|rfl|exact .inl rfl|exact .inr rfl|exact .inr (.inl rfl)|decide +kernel|(intro _;rfl))) (@pss_one _ _ _ (@ps_expr _ _ _ _ (@pe_bm _ _ _ _ _ _ _ _ _ _ _ _ PySem.F.plainAttrs_list PySem.F.slot_list_extend PySem.F.type_list_extend (@mt_extend _) (pv 2) (@pa_cons _ _ _ _ _ (@pe_lc _ _ (["below", "depth"]) (1) ([5]) _ _ _ _ _ _ _ _ _ (lcsN (defScope s_is_tree) ["value", "size", "waiting", "pair", "part", "depth"]) rfl (@pi_tupB _ _ _ _ (pv 4)) (fun _ _ _ _ _ _ => (@pg_name _ _ (0) _ (show List.Nodup (["below", "depth"] : List Str) by decide +kernel) rfl (Or.inl rfl) (by first|rfl|exact .inl rfl|exact .inr rfl|exact .inr (.inl rfl)|decide +kernel|(intro _;rfl)))) (fun _ _ _ _ _ _ => @pif_nil _) (fun _ _ _ _ _ _ => (@pe_tup _ _ _ _ _ (@pa_cons _ _ _ _ _ (pv 0) (@pa_cons _ _ _ _ _ (@pe_op _ _ _ _ _ _ _ _ (@op_add _) (pv 1) (@pe_int _ _ _ _)) (@pa_nil _) (by first|rfl|exact .inl rfl|exact .inr rfl|exact .inr (.inl rfl)|decide +kernel|(intro _;rfl))) (by first|rfl|exact .inl rfl|exact .inr rfl|exact .inr (.inl rfl)|decide +kernel|(intro _;rfl))))) (by first|rfl|exact .inl rfl|exact .inr rfl|exact .inr (.inl rfl)|decide +kernel|(intro _;rfl))) (@pa_nil _) (by first|rfl|exact .inl rfl|exact .inr rfl|exact .inr (.inl rfl)|decide +kernel|(intro _;rfl))) (by first|rfl|exact .inl rfl|exact .inr rfl|exact .inr (.inl rfl)|decide +kernel|(intro _;rfl)) (by first|rfl|exact .inl rfl|exact .inr rfl|exact .inr (.inl rfl)|decide +kernel|(intro _;rfl)) (by first|rfl|exact .inl rfl|exact .inr rfl|exact .inr (.inl rfl)|decide +kernel|(intro _;rfl)) (by first|rfl|exact .inl rfl|exact .inr rfl|exact .inr (.inl rfl)|decide +kernel|(intro _;rfl)) (by first|rfl|exact .inl rfl|exact .inr rfl|exact .inr (.inl rfl)|decide +kernel|(intro _;rfl))) (by first|rfl|exact .inl rfl|exact .inr rfl|exact .inr (.inl rfl)|decide +kernel|(intro _;rfl))))) (@pss_one _ _ _ (@ps_if _ _ _ _ _ _ _ _ (@pt_val _ _ _ (@pe_call _ _ _ _ _ _ _ _ _ _ _ _ _ _ _ _ G_is_text (hr.mono (by first | decide | omega)) (by rfl) T.m_is_text T.F_is_text.kp T.b_is_text .nil pass0 (@pa_cons _ _ _ _ _ (pv 4) (@pa_nil _) (by first|rfl|exact .inl rfl|exact .inr rfl|exact .inr (.inl rfl)|decide +kernel|(intro _;rfl))) (by first|rfl|exact .inl rfl|exact .inr rfl|exact .inr (.inl rfl)|decide +kernel|(intro _;rfl)) (by first|rfl|exact .inl rfl|exact .inr rfl|exact .inr (.inl rfl)|decide +kernel|(intro _;rfl)) (by first|rfl|exact .inl rfl|exact .inr rfl|exact .inr (.inl rfl)|decide +kernel|(intro _;rfl))) (by first|rfl|exact .inl rfl|exact .inr rfl|exact .inr (.inl rfl)|decide +kernel|(intro _;rfl))) (@pss_one _ _ _ (@ps_aug _ _ (1) _ _ _ _ _ _ sc_is_tree.nd rfl (Or.inl rfl) (@pe_op _ _ _ _ _ _ _ _ (@op_add _) (@pe_int _ _ _ _) (@pe_callB _ _ _ _ _ _ _ _ _ (@call_len _) (by rfl) T.z_len PySem.boot_len (@pa_cons _ _ _ _ _ (pv 4) (@pa_nil _) (by first|rfl|exact .inl rfl|exact .inr rfl|exact .inr (.inl rfl)|decide +kernel|(intro _;rfl))) (by first|rfl|exact .inl rfl|exact .inr rfl|exact .inr (.inl rfl)|decide +kernel|(intro _;rfl)) (by first|rfl|exact .inl rfl|exact .inr rfl|exact .inr (.inl rfl)|decide +kernel|(intro _;rfl)) (by first|rfl|exact .inl rfl|exact .inr rfl|exact .inr (.inl rfl)|decide +kernel|(intro _;rfl)) (by first|rfl|exact .inl rfl|exact .inr rfl|exact .inr (.inl rfl)|decide +kernel|(intro _;rfl)))) ip_add (by first|rfl|exact .inl rfl|exact .inr rfl|exact .inr (.inl rfl)|decide +kernel|(intro _;rfl)))) (@pss_one _ _ _ (@ps_ret _ _ _ _ (@pe_bl _ _ _ _)))))) (@pss_one _ _ _ (@ps_if _ _ _ _ _ _ _ _ (@pw_or _ _ _ _ _ _ _ (@pt_cmpR _ _ _ _ _ _ _ _ (@op_gt _) (pv 5) (@pe_gI _ _ _ _ (by rfl) T.m_MOST_DEPTH (by first|rfl|exact .inl rfl|exact .inr rfl|exact .inr (.inl rfl)|decide +kernel|(intro _;rfl))) (nomark _)) (@pw_or1 _ _ _ _ (@pt_cmpR _ _ _ _ _ _ _ _ (@op_gt _) (pv 1) (@pe_gI _ _ _ _ (by rfl) T.m_MOST_SIZE (by first|rfl|exact .inl rfl|exact .inr rfl|exact .inr (.inl rfl)|decide +kernel|(intro _;rfl))) (nomark _)))).pt (@pss_one _ _ _ (@ps_ret _ _ _ _ (@pe_bl _ _ _ _))) (@pss_nil _)))))))) (@pss_one _ _ _ (@ps_ret _ _ _ _ (@pe_bl _ _ _ _)))))), ?_⟩
  have no : ∀ {H' : Hp} {w : List (D × Nat)} {n : Nat}, Same H H' → G w n = isT d → G w n = false → Q (.bl false) H' := fun {H' w n} sm e1 e2 => by
    have q := k H' sm
    rw [← e1, e2] at q
    exact q
  refine ⟨_, rfl, (by show 2 ≤ sizeLine; decide), fun t1 h1 => ⟨(by show 1 ≤ sizeLine; decide), fun L hL => ?_⟩⟩
  have s1 : Same H (upd H t1 (.tup [v, .int 1])) := same_new h1 _
  have s2 : Same H (upd (upd H t1 (.tup [v, .int 1])) L (.lst [.ref t1])) := s1.trans (same_new hL _)
  have hLH : H L = none := s1.free hL
  have i1 : Is (upd H t1 (.tup [v, .int 1])) (pr (d, 1)) (.ref t1) := Is.new (ds := [d, .int 1]) ⟨v, _, rfl, hv, _, _, rfl, rfl, rfl⟩ h1
  refine ⟨Wt v d H L, ⟨_, 0, [(d, 1)], [.ref t1], none, none, none, rfl, s2, upd_same, IsL.one (i1.mono (same_new hL _).tk), G_start d, by omega, by simp, rfl⟩, ?_⟩
  rintro m σ H' ⟨n, w, ws, x3, x4, x5, rfl, sm, hl, hw, hG, hn, hwl, rfl⟩
  refine ⟨_, rfl, !ws.isEmpty, .inl ⟨ws, SqL.of hl, rfl⟩, ?_⟩
  rcases List.eq_nil_or_concat w with rfl | ⟨w', ⟨e, j⟩, rfl⟩
  · cases (show ws = [] from hw)
    refine iteF ?_
    have q := k H' sm
    rw [← hG, G_nil hn] at q
    exact q
  · rw [List.concat_eq_append] at *
    rw [map_snoc] at hw
    obtain ⟨us, x, rfl, hu, hx⟩ := hw.unsnoc
    have ne : (!(us ++ [x]).isEmpty) = true := by simp
    rw [ne]
    refine iteT ⟨fun σ' H'' => ∃ m', m' < ndL ((w' ++ [(e, j)]).map (·.1)) ∧ Wt v d H L m' σ' H'', fun _ _ h => h, ?_⟩
    have hm : ndL ((w' ++ [(e, j)]).map (·.1)) = ndL (w'.map (·.1)) + nd e := by
      rw [map_snoc, ndL_append]; simp [ndL]
    have hwl' : w'.length ≤ 40 * n := by
      rw [List.length_append, List.length_singleton] at hwl; omega
    have lu := hu.length
    rw [List.length_map] at lu
    -- pair = waiting.pop()
    refine ⟨_, rfl, .inl ⟨rfl, _, SqL.of hl⟩, L, _, x, rfl, rfl, hl, last_at us x, ?_⟩
    rw [drop_last]
    have t2 : Tk H' (upd H' L (.lst us)) := Tk.updL hl
    have sm2 : Same H (upd H' L (.lst us)) := fun b o z => by rw [upd_ne (ne_of_none z hLH)]; exact sm b o z
    have hx2 : Is (upd H' L (.lst us)) (.tup [e, .int (j : Int)]) x := hx.mono t2
    have hu2 : IsL (upd H' L (.lst us)) (w'.map pr) us := hu.mono t2
    have hl2 : upd H' L (.lst us) L = some (.lst us) := upd_same
    generalize upd H' L (.lst us) = H2 at t2 sm2 hx2 hu2 hl2 ⊢
    clear t2 hl hx hu sm
    -- part, depth
    refine ⟨_, rfl, ix_is (i := 0) hx2 rfl fun y hy => ?_⟩
    refine ⟨_, rfl, ix_is (i := 1) hx2 rfl fun y1 hy1 => ?_⟩
    cases (show y1 = .int (j : Int) from hy1)
    -- behind the branch: depth > 12 or size > 600
    have tail : ∀ (n' : Nat) (w2 : List (D × Nat)) (ws2 : List V) (H3 : Hp), Same H H3 → H3 L = some (.lst ws2) → IsL H3 (w2.map pr) ws2 → (j ≤ 12 → n' ≤ 600 → G w2 n' = isT d) → (12 < j ∨ 600 < n' → isT d = false) → w2.length ≤ 1 + 40 * n' → ndL (w2.map (·.1)) < ndL ((w' ++ [(e, j)]).map (·.1)) →
        ∃ v_1, [some v, some (V.int (n' : Int)), some (V.ref L), some x, some y, some (V.int (j : Int))][5]? = some (some v_1) ∧ ∃ i i_1, v_1 = V.int i ∧ V.int 12 = V.int i_1 ∧ ∃ k, V.bl (decide (i_1 < i)) = V.bl k ∧
          if k = true then if true = true then Q (.bl false) H3 else ∃ m', m' < ndL ((w' ++ [(e, j)]).map (·.1)) ∧ Wt v d H L m' [some v, some (V.int (n' : Int)), some (V.ref L), some x, some y, some (V.int (j : Int))] H3
          else ∃ v_2, [some v, some (V.int (n' : Int)), some (V.ref L), some x, some y, some (V.int (j : Int))][1]? = some (some v_2) ∧ ∃ i i_1, v_2 = V.int i ∧ V.int 600 = V.int i_1 ∧ ∃ k, V.bl (decide (i_1 < i)) = V.bl k ∧
            if k = true then Q (.bl false) H3 else ∃ m', m' < ndL ((w' ++ [(e, j)]).map (·.1)) ∧ Wt v d H L m' [some v, some (V.int (n' : Int)), some (V.ref L), some x, some y, some (V.int (j : Int))] H3 := by
      intro n' w2 ws2 H3 s3 l3 i3 g3 b3 len3 m3
      have bad : isT d = false → Q (.bl false) H3 := fun e => by
        have q := k H3 s3
        rw [e] at q
        exact q
      refine ⟨_, rfl, _, _, rfl, rfl, _, rfl, ?_⟩
      refine ite2 (fun c => iteT (bad (b3 (.inl ?_)))) (fun c => ⟨_, rfl, _, _, rfl, rfl, _, rfl, ?_⟩)
      · have := of_decide_eq_true c; omega
      · have c' : ¬ (12 : Int) < (j : Int) := fun q => c (decide_eq_true q)
        refine ite2 (fun c2 => bad (b3 (.inr ?_))) (fun c2 => ?_)
        · have := of_decide_eq_true c2; omega
        · have c2' : ¬ (600 : Int) < (n' : Int) := fun q => c2 (decide_eq_true q)
          exact ⟨_, m3, n', w2, ws2, _, _, _, rfl, s3, l3, i3, g3 (by omega) (by omega), by omega, len3, rfl⟩
    refine ⟨_, rfl, y, "tuple", tyD e, isTup e, rfl, hy.ty, kit_tup e, _, rfl, ?_⟩
    cases e with
    | tup xs =>
      refine iteT ?_
      obtain ⟨a0, vs, rfl, ha0, hvs⟩ := hy
      have lv := hvs.length
      refine ⟨_, rfl, _, vs.length, rfl, .inr ⟨vs, SqT.of ha0, rfl⟩, _, _, rfl, rfl, _, rfl, ?_⟩
      refine ite2 (fun c => ?_) (fun c => ?_)
      · have c' : (vs.length : Int) ≤ 40 := of_decide_eq_true c
        refine ⟨_, rfl, _, _, rfl, rfl, ?_⟩
        refine ⟨_, rfl, .inl ⟨rfl, _, SqL.of hl2⟩, _, rfl, a0, vs, rfl, SqT.of ha0, fun hvl A0 hA0 => ?_⟩
        refine lc_tupS (tl := [some (.int (j : Int))]) (fun d0 => .tup [d0, .int ((j + 1 : Nat) : Int)]) ha0 hvs (fits (by omega)) hA0 (fun d0 x0 H3 R _ s3 i3 r => ?_) fun H3 ys s3 l3 i3 => ?_
        · refine ⟨_, rfl, _, rfl, _, _, rfl, rfl, (by show 2 ≤ sizeLine; decide), fun p hp => ?_⟩
          exact r _ _ (same_new hp _) (Is.new (ds := [d0, .int ((j + 1 : Nat) : Int)]) ⟨x0, _, rfl, i3, _, _, rfl, rfl, rfl⟩ hp)
        · have ly := i3.length
          rw [List.length_map] at ly
          have eA : A0 ≠ L := fun z => by rw [z, hl2] at hA0; cases hA0
          refine ⟨L, A0, us, ys, rfl, rfl, s3 _ _ hl2, l3, fits (by omega), ?_⟩
          have t4 : Tk H3 (upd H3 L (.lst (us ++ ys))) := Tk.updL (s3 _ _ hl2)
          have em : (w' ++ xs.map fun d0 => (d0, j + 1)).map pr = w'.map pr ++ xs.map fun d0 => .tup [d0, .int ((j + 1 : Nat) : Int)] := by
            rw [List.map_append, List.map_map]; rfl
          have ef : (w' ++ xs.map fun d0 => (d0, j + 1)).map (·.1) = w'.map (·.1) ++ xs := by
            rw [List.map_append, List.map_map]
            congr 1
            exact List.map_id xs
          refine tail (n + 1) (w' ++ xs.map fun d0 => (d0, j + 1)) (us ++ ys) _ (fun b o z => by rw [upd_ne (ne_of_none z hLH)]; exact s3 b o (sm2 b o z)) upd_same (by rw [em]; exact ((hu2.mono s3.tk).mono t4).append (i3.mono t4)) (fun h1 h2 => ?_) (fun h => ?_) ?_ ?_
          · rw [← hG, G_tup (by omega) h1]
          · rw [← hG]
            rcases h with h | h
            · exact G_deep h
            · exact G_big1 h
          · rw [List.length_append, List.length_map]; omega
          · rw [ef, hm, ndL_append]
            simp only [nd]
            omega
      · have c' : ¬ (vs.length : Int) ≤ 40 := fun q => c (decide_eq_true q)
        refine ⟨_, rfl, _, .tup xs, rfl, (show Is _ (.tup xs) (.ref a0) from ⟨a0, vs, rfl, ha0, hvs⟩), _, rfl, ?_⟩
        refine iteF ?_
        refine no sm2 hG (G_bad ?_)
        simp only [good]
        rw [decide_eq_false (by omega)]
        rfl
    | str z =>
      refine iteF ?_
      obtain ⟨rfl, hz⟩ := hy
      refine ⟨_, rfl, _, .str z, rfl, ⟨rfl, hz⟩, _, rfl, ?_⟩
      cases ht : okText z with
      | false =>
        have e1 : isTx (.str z) = false := ht
        rw [e1]
        refine iteF ?_
        refine no sm2 hG (G_bad ?_)
        simp only [good]
        exact ht
      | true =>
        have e1 : isTx (.str z) = true := ht
        rw [e1]
        refine iteT ?_
        refine ⟨_, rfl, _, rfl, _, z.length, rfl, ⟨hz, rfl⟩, _, _, rfl, rfl, _, _, rfl, rfl, ?_⟩
        have en : (n : Int) + (1 + (z.length : Int)) = ((n + (1 + z.length) : Nat) : Int) := by omega
        show ∃ v_1, [some v, some (V.int ((n : Int) + (1 + (z.length : Int)))), some (V.ref L), some x, some (V.str z), some (V.int (j : Int))][5]? = some (some v_1) ∧ _
        rw [en]
        refine tail (n + (1 + z.length)) w' us _ sm2 hl2 hu2 (fun h1 h2 => ?_) (fun h => ?_) (by omega) (by rw [hm]; simp only [nd]; omega)
        · rw [← hG, G_str ht h1]
        · rw [← hG]
          rcases h with h | h
          · exact G_deep h
          · refine G_big ?_
            simp only [sz]
            omega
    | _ =>
      refine iteF ?_
      refine ⟨_, rfl, _, _, rfl, hy, _, rfl, ?_⟩
      exact iteF (no sm2 hG (G_bad rfl))
end
end K18

namespace K18
open PySem L2 PyProof.Rows
def LET : Str := "abcdefghijklmnopqrstuvwxyz"
def NSG : Str := "abcdefghijklmnopqrstuvwxyz0123456789./"
def nm (z : Str) : Bool := decide (1 ≤ (z.length : Int)) && decide ((z.length : Int) ≤ 24) && inS ⟨#[z.cps.getD 0 0]⟩ LET && (z.cps.toList.map fun c => inS ⟨#[c]⟩ NSG).all id
def isNm : D → Bool
  | .str z => nm z
  | _ => false
def sp_name : Sp := fun vs H Q _ => ∃ v d, vs = [v] ∧ Is H d v ∧ ∀ H', Same H H' → Q (.bl (isNm d)) H'
section
variable {P : Program} {w : World} {K : PySem.W.Frag} {mg : Str → Option Value} {base : Heap} {a : Ad}
theorem first_at {z : Str} (h : 1 ≤ z.length) : atI z.cps.toList 0 = some (z.cps.getD 0 0) := by
  have h' : 0 < z.cps.size := h
  have q : z.cps.toList[0]? = some (z.cps.getD 0 0) := by simp [Array.getD, h']
  exact atI_nat q
theorem allMap (z : Str) : (z.cps.toList.map fun c => V.bl (inS ⟨#[c]⟩ NSG)) = (z.cps.toList.map fun c => inS ⟨#[c]⟩ NSG).map V.bl := by
  rw [List.map_map]
  rfl
theorem nm_len {z : Str} (h : ¬ (1 ≤ (z.length : Int) ∧ (z.length : Int) ≤ 24)) : nm z = false := by
  unfold nm
  by_cases h1 : 1 ≤ (z.length : Int)
  · have h2 : ¬ (z.length : Int) ≤ 24 := fun q => h ⟨h1, q⟩
    rw [decide_eq_false h2]
    simp
  · rw [decide_eq_false h1]
    simp
theorem nm_first {z : Str} (h : inS ⟨#[z.cps.getD 0 0]⟩ LET = false) : nm z = false := by
  unfold nm
  rw [h]
  simp
theorem nm_rest {z : Str} (h1 : 1 ≤ (z.length : Int)) (h2 : (z.length : Int) ≤ 24) (h : inS ⟨#[z.cps.getD 0 0]⟩ LET = true) : nm z = (z.cps.toList.map fun c => inS ⟨#[c]⟩ NSG).all id := by
  unfold nm
  rw [h, decide_eq_true h1, decide_eq_true h2]
  simp
theorem ok_name (T : Tx K mg a) : FnOk P w K mg base CX0 1 a.f_is_name a.d_is_name ["value"] sp_name := by
  refine T.F_is_name.ok sc_is_name (fun vs H Q E h => ?_) (fun cdv A outer s H vs Q E hr h => ?_)
  · obtain ⟨x, d, rfl, _⟩ := h
    rfl
  obtain ⟨x, d, rfl, hv, k⟩ := h
  refine ⟨_, (@pss_cons _ _ _ _ _ (@ps_if _ _ _ _ _ _ _ _ (@pw_or _ _ _ _ _ _ _ (@pt_not _ _ _ _ (@pt_val _ _ _ (@pe_callB _ _ _ _ _ _ _ _ _ (@call_isinst _ _ rfl) (by rfl) T.z_isinstance boot_isinstance (@pa_cons _ _ _ _ _ (pv 0) (@pa_cons _ _ _ _ _ (@pe_bltn _ _ (.ty "str") _ _ (by rfl) T.z_str boot_str rfl (by first|rfl|exact .inl rfl|exact .inr rfl|exact .inr (.inl rfl)|decide +kernel|(intro _;rfl)) (by first|rfl|exact .inl rfl|exact .inr rfl|exact .inr (.inl rfl)|decide +kernel|(intro _;rfl))) (@pa_nil _) (by first|rfl|exact .inl rfl|exact .inr rfl|exact .inr (.inl rfl)|decide +kernel|(intro _;rfl))) (by first|rfl|exact .inl rfl|exact .inr rfl|exact .inr (.inl rfl)|decide +kernel|(intro _;rfl))) (by first|rfl|exact .inl rfl|exact .inr rfl|exact .inr (.inl rfl)|decide +kernel|(intro _;rfl)) (by first|rfl|exact .inl rfl|exact .inr rfl|exact .inr (.inl rfl)|decide +kernel|(intro _;rfl)) (by first|rfl|exact .inl rfl|exact .inr rfl|exact .inr (.inl rfl)|decide +kernel|(intro _;rfl)) (by first|rfl|exact .inl rfl|exact .inr rfl|exact .inr (.inl rfl)|decide +kernel|(intro _;rfl))) (by first|rfl|exact .inl rfl|exact .inr rfl|exact .inr (.inl rfl)|decide +kernel|(intro _;rfl)))) (@pw_or1 _ _ _ _ (@pt_not _ _ _ _ (@pt_chain _ _ _ _ _ _ _ _ _ _ _ _ (@op_le _) (@op_le _) (@pe_int _ _ _ _) (@pe_callB _ _ _ _ _ _ _ _ _ (@call_len_str _) (by rfl) T.z_len PySem.boot_len (@pa_cons _ _ _ _ _ (pv 0) (@pa_nil _) (by first|rfl|exact .inl rfl|exact .inr rfl|exact .inr (.inl rfl)|decide +kernel|(intro _;rfl))) (by first|rfl|exact .inl rfl|exact .inr rfl|exact .inr (.inl rfl)|decide +kernel|(intro _;rfl)) (by first|rfl|exact .inl rfl|exact .inr rfl|exact .inr (.inl rfl)|decide +kernel|(intro _;rfl)) (by first|rfl|exact .inl rfl|exact .inr rfl|exact .inr (.inl rfl)|decide +kernel|(intro _;rfl)) (by first|rfl|exact .inl rfl|exact .inr rfl|exact .inr (.inl rfl)|decide +kernel|(intro _;rfl))) (@pe_gI _ _ _ _ (by rfl) T.m_MOST_NAME_SIGNS (by first|rfl|exact .inl rfl|exact .inr rfl|exact .inr (.inl rfl)|decide +kernel|(intro _;rfl))) (by first|rfl|exact .inl rfl|exact .inr rfl|exact .inr (.inl rfl)|decide +kernel|(intro _;rfl)))))).pt (@pss_one _ _ _ (@ps_ret _ _ _ _ (@pe_bl _ _ _ _))) (@pss_nil _)) (@pss_cons _ _ _ _ _ (@ps_if _ _ _ _ _ _ _ _ (@pt_cmpR _ _ _ _ _ _ _ _ (@op_notIn_str _) (@pe_ix _ _ _ _ _ _ _ (@ix_str _) (pv 0) (@pe_int _ _ _ _) (fun _ _ => rfl)) (@pe_gS _ _ _ _ (by rfl) T.m_LETTERS (by first|rfl|exact .inl rfl|exact .inr rfl|exact .inr (.inl rfl)|decide +kernel|(intro _;rfl))) (by with_unfolding_all rfl)) (@pss_one _ _ _ (@ps_ret _ _ _ _ (@pe_bl _ _ _ _))) (@pss_nil _)) (@pss_one _ _ _ (@ps_ret _ _ _ _ (@pe_callB _ _ _ _ _ _ _ _ _ (@call_allL _ rfl) (by rfl) T.z_all boot_all (@pa_cons _ _ _ _ _ (@pe_lc _ _ (["sign"]) (1) ([]) _ _ _ _ _ _ _ _ _ (lcs0) rfl (@pi_str _ _ _ _ (pv 0)) (fun _ _ _ _ _ _ => (@pg_name _ _ (0) _ (show List.Nodup (["sign"] : List Str) by decide +kernel) rfl (Or.inl rfl) (by first|rfl|exact .inl rfl|exact .inr rfl|exact .inr (.inl rfl)|decide +kernel|(intro _;rfl)))) (fun _ _ _ _ _ _ => @pif_nil _) (fun _ _ _ _ _ _ => (@pe_cmpR _ _ _ _ _ _ _ _ (@op_in_str _) (pv 0) (@pe_gS _ _ _ _ (by rfl) T.m_NAME_SIGNS (by first|rfl|exact .inl rfl|exact .inr rfl|exact .inr (.inl rfl)|decide +kernel|(intro _;rfl))) (by with_unfolding_all rfl))) (by first|rfl|exact .inl rfl|exact .inr rfl|exact .inr (.inl rfl)|decide +kernel|(intro _;rfl))) (@pa_nil _) (by first|rfl|exact .inl rfl|exact .inr rfl|exact .inr (.inl rfl)|decide +kernel|(intro _;rfl))) (by first|rfl|exact .inl rfl|exact .inr rfl|exact .inr (.inl rfl)|decide +kernel|(intro _;rfl)) (by first|rfl|exact .inl rfl|exact .inr rfl|exact .inr (.inl rfl)|decide +kernel|(intro _;rfl)) (by first|rfl|exact .inl rfl|exact .inr rfl|exact .inr (.inl rfl)|decide +kernel|(intro _;rfl)) (by first|rfl|exact .inl rfl|exact .inr rfl|exact .inr (.inl rfl)|decide +kernel|(intro _;rfl))))))), ?_⟩
  refine ⟨_, rfl, x, "str", tyD d, isStr d, rfl, hv.ty, kit_str d, _, rfl, ?_⟩
  cases hd : isStr d with
  | false =>
    refine iteT (iteT ?_)
    have := k H (Same.refl H)
    have e : isNm d = false := by cases d <;> first | rfl | simp [isStr] at hd
    rw [e] at this
    exact this
  | true =>
    obtain ⟨z, rfl⟩ : ∃ z, d = .str z := by cases d <;> simp [isStr] at hd; exact ⟨_, rfl⟩
    obtain ⟨rfl, hz⟩ := hv
    have k : ∀ H', Same H H' → Q (.bl (nm z)) H' := k
    refine iteF ?_
    refine ⟨_, rfl, z, rfl, hz, _, _, rfl, rfl, _, rfl, ?_⟩
    have stop : nm z = false → Q (.bl false) H := fun e => by
      have := k H (Same.refl H)
      rw [e] at this
      exact this
    refine ite2 (fun c1 => ?_) (fun c1 => ?_)
    · have c1' : 1 ≤ (z.length : Int) := of_decide_eq_true c1
      refine ⟨_, _, rfl, rfl, _, rfl, ?_⟩
      by_cases c2 : (z.length : Int) ≤ 24
      · rw [decide_eq_true c2]
        refine iteF ?_
        refine ⟨_, rfl, _, _, _, rfl, rfl, hz, first_at (by omega), _, _, rfl, rfl, _, rfl, ?_⟩
        cases e : inS ⟨#[z.cps.getD 0 0]⟩ LET with
        | false =>
          have e' : (!(Builtin.Str.occurrences ("abcdefghijklmnopqrstuvwxyz" : Str) ⟨#[z.cps.getD 0 0]⟩ 0 ("abcdefghijklmnopqrstuvwxyz" : Str).length 1).isEmpty) = false := e
          rw [e']
          refine iteT ?_
          exact stop (nm_first e)
        | true =>
          have e' : (!(Builtin.Str.occurrences ("abcdefghijklmnopqrstuvwxyz" : Str) ⟨#[z.cps.getD 0 0]⟩ 0 ("abcdefghijklmnopqrstuvwxyz" : Str).length 1).isEmpty) = true := e
          rw [e']
          refine iteF ?_
          refine ⟨_, rfl, z, rfl, fun D hD => ?_⟩
          refine lc_str (fun c => .bl (inS ⟨#[c]⟩ NSG)) (hz) hD (fun i c H' R hc sm r => ⟨_, rfl, _, _, rfl, rfl, r⟩) fun H' sm hl => ?_
          refine ⟨D, z.cps.toList.map fun c => inS ⟨#[c]⟩ NSG, rfl, SqL.of (by rw [hl, allMap]), ?_⟩
          have := k H' sm
          rw [nm_rest c1' c2 e] at this
          exact this
      · rw [decide_eq_false c2]
        refine iteT ?_
        exact stop (nm_len fun q => c2 q.2)
    · refine ⟨_, rfl, ?_⟩
      refine iteT ?_
      exact stop (nm_len fun q => c1 (decide_eq_true q.1))
end
end K18

namespace K18
open PySem L2 PyProof.Rows
def isP : D → Bool
  | .tup xs => decide (xs.length = 2)
  | _ => false
def isSrc : D → Bool
  | .tup [k, d] => if eqD k (.str "made") = true then isNm d else (eqD k (.str "leaf") || eqD k (.str "rule")) && isT d
  | _ => false
/-- what may stand at the head of a pair -/
def okS : D → Bool
  | .tup [k, _] => okHd k && decide (dp k ≤ 60)
  | _ => true
def sp_pair : Sp := fun vs H Q _ => ∃ v d, vs = [v] ∧ Is H d v ∧ Q (.bl (isP d)) H
def sp_source : Sp := fun vs H Q _ => ∃ v d, vs = [v] ∧ Is H d v ∧ okS d = true ∧ ∀ H', Same H H' → Q (.bl (isSrc d)) H'
def sp_cell (K : PySem.W.Frag) : Sp := fun vs H Q _ => ∃ (q : Addr) (ns : List Int) (k : Int), vs = [.ref q, .int k] ∧ 0 ≤ k ∧ SqL K H q (ns.map V.int) ∧ ∀ i : Int, Q (.int i) H
theorem iteB {b : Bool} {A B : Prop} (hb : b = true) (h : A) : if b = true then A else B := by rw [if_pos hb]; exact h
theorem iteN {b : Bool} {A B : Prop} (hb : b = false) (h : B) : if b = true then A else B := by rw [if_neg (by rw [hb]; exact Bool.false_ne_true)]; exact h
section
variable {P : Program} {w : World} {K : PySem.W.Frag} {mg : Str → Option Value} {base : Heap} {a : Ad}
theorem ok_pair (T : Tx K mg a) : FnOk P w K mg base CX0 1 a.f_is_pair a.d_is_pair ["value"] sp_pair := by
  refine T.F_is_pair.ok sc_is_pair (fun vs H Q E h => ?_) (fun cdv A outer s H vs Q E hr h => ?_)
  · obtain ⟨v, d, rfl, _⟩ := h
    rfl
  obtain ⟨v, d, rfl, hv, k⟩ := h
  refine ⟨_, (@pss_one _ _ _ (@ps_ret _ _ _ _ (@pe_and _ _ _ _ _ _ _ (@pe_callB _ _ _ _ _ _ _ _ _ (@call_isinst _ _ rfl) (by rfl) T.z_isinstance boot_isinstance (@pa_cons _ _ _ _ _ (pv 0) (@pa_cons _ _ _ _ _ (@pe_bltn _ _ (.ty "tuple") _ _ (by rfl) T.z_tuple boot_tuple rfl (by first|rfl|exact .inl rfl|exact .inr rfl|exact .inr (.inl rfl)|decide +kernel|(intro _;rfl)) (by first|rfl|exact .inl rfl|exact .inr rfl|exact .inr (.inl rfl)|decide +kernel|(intro _;rfl))) (@pa_nil _) (by first|rfl|exact .inl rfl|exact .inr rfl|exact .inr (.inl rfl)|decide +kernel|(intro _;rfl))) (by first|rfl|exact .inl rfl|exact .inr rfl|exact .inr (.inl rfl)|decide +kernel|(intro _;rfl))) (by first|rfl|exact .inl rfl|exact .inr rfl|exact .inr (.inl rfl)|decide +kernel|(intro _;rfl)) (by first|rfl|exact .inl rfl|exact .inr rfl|exact .inr (.inl rfl)|decide +kernel|(intro _;rfl)) (by first|rfl|exact .inl rfl|exact .inr rfl|exact .inr (.inl rfl)|decide +kernel|(intro _;rfl)) (by first|rfl|exact .inl rfl|exact .inr rfl|exact .inr (.inl rfl)|decide +kernel|(intro _;rfl))) (@pe_one _ _ _ _ _ (@pe_cmpR _ _ _ _ _ _ _ _ (@op_eq _) (@pe_callB _ _ _ _ _ _ _ _ _ (@call_lenZ _) (by rfl) T.z_len PySem.boot_len (@pa_cons _ _ _ _ _ (pv 0) (@pa_nil _) (by first|rfl|exact .inl rfl|exact .inr rfl|exact .inr (.inl rfl)|decide +kernel|(intro _;rfl))) (by first|rfl|exact .inl rfl|exact .inr rfl|exact .inr (.inl rfl)|decide +kernel|(intro _;rfl)) (by first|rfl|exact .inl rfl|exact .inr rfl|exact .inr (.inl rfl)|decide +kernel|(intro _;rfl)) (by first|rfl|exact .inl rfl|exact .inr rfl|exact .inr (.inl rfl)|decide +kernel|(intro _;rfl)) (by first|rfl|exact .inl rfl|exact .inr rfl|exact .inr (.inl rfl)|decide +kernel|(intro _;rfl))) (@pe_int _ _ _ _) (nomark _)))))), ?_⟩
  refine ⟨_, rfl, v, "tuple", tyD d, isTup d, rfl, hv.ty, kit_tup d, _, rfl, ?_⟩
  cases ht : isTup d with
  | false =>
    refine iteF ?_
    have e : isP d = false := by cases d <;> first | rfl | simp [isTup] at ht
    rw [e] at k
    exact k
  | true =>
    obtain ⟨xs, rfl⟩ : ∃ xs, d = .tup xs := by cases d <;> simp [isTup] at ht; exact ⟨_, rfl⟩
    obtain ⟨p, us, rfl, hp, hus⟩ := hv
    have lu := hus.length
    refine iteT ⟨_, rfl, .inr ⟨p, us, rfl, .inr (SqT.of hp), fun _ => ⟨rfl, ?_⟩⟩⟩
    have e : decide (V.int (us.length : Int) = V.int 2) = isP (.tup xs) := by
      simp only [isP, decide_eq_decide]
      constructor
      · intro h
        have := V.int.inj h
        omega
      · intro h
        rw [lu, h]
        rfl
    rw [← e] at k
    exact k
theorem ok_source (T : Tx K mg a) : FnOk P w K mg base CX0 3 a.f_is_source a.d_is_source ["value"] sp_source := by
  have G_is_pair : FnOk P w K mg base CX0 1 a.f_is_pair a.d_is_pair ["value"] sp_pair := ok_pair T
  have G_is_name : FnOk P w K mg base CX0 1 a.f_is_name a.d_is_name ["value"] sp_name := ok_name T
  have G_is_tree : FnOk P w K mg base CX0 2 a.f_is_tree a.d_is_tree ["value"] sp_is_tree := ok_is_tree T
  refine T.F_is_source.ok sc_is_source (fun vs H Q E h => ?_) (fun cdv A outer s H vs Q E hr h => ?_)
  · obtain ⟨v, d, rfl, _⟩ := h
    rfl
  obtain ⟨v, d, rfl, hv, hok, k⟩ := h
  refine ⟨_, (@pss_cons _ _ _ _ _ (@ps_if _ _ _ _ _ _ _ _ (@pt_not _ _ _ _ (@pt_val _ _ _ (@pe_call _ _ _ _ _ _ _ _ _ _ _ _ _ _ _ _ G_is_pair (hr.mono (by first | decide | omega)) (by rfl) T.m_is_pair T.F_is_pair.kp T.b_is_pair .nil pass0 (@pa_cons _ _ _ _ _ (pv 0) (@pa_nil _) (by first|rfl|exact .inl rfl|exact .inr rfl|exact .inr (.inl rfl)|decide +kernel|(intro _;rfl))) (by first|rfl|exact .inl rfl|exact .inr rfl|exact .inr (.inl rfl)|decide +kernel|(intro _;rfl)) (by first|rfl|exact .inl rfl|exact .inr rfl|exact .inr (.inl rfl)|decide +kernel|(intro _;rfl)) (by first|rfl|exact .inl rfl|exact .inr rfl|exact .inr (.inl rfl)|decide +kernel|(intro _;rfl))) (by first|rfl|exact .inl rfl|exact .inr rfl|exact .inr (.inl rfl)|decide +kernel|(intro _;rfl)))) (@pss_one _ _ _ (@ps_ret _ _ _ _ (@pe_bl _ _ _ _))) (@pss_nil _)) (@pss_cons _ _ _ _ _ (@ps_if _ _ _ _ _ _ _ _ (@pt_cmpR _ _ _ _ _ _ _ _ (@op_eqM _ hr.units) (@pe_ix _ _ _ _ _ _ _ (@ix_tup _) (pv 0) (@pe_int _ _ _ _) (fun _ _ => rfl)) (@pe_str _ _ _ _) (nomark _)) (@pss_one _ _ _ (@ps_ret _ _ _ _ (@pe_call _ _ _ _ _ _ _ _ _ _ _ _ _ _ _ _ G_is_name (hr.mono (by first | decide | omega)) (by rfl) T.m_is_name T.F_is_name.kp T.b_is_name .nil pass0 (@pa_cons _ _ _ _ _ (@pe_ix _ _ _ _ _ _ _ (@ix_tup _) (pv 0) (@pe_int _ _ _ _) (fun _ _ => rfl)) (@pa_nil _) (by first|rfl|exact .inl rfl|exact .inr rfl|exact .inr (.inl rfl)|decide +kernel|(intro _;rfl))) (by first|rfl|exact .inl rfl|exact .inr rfl|exact .inr (.inl rfl)|decide +kernel|(intro _;rfl)) (by first|rfl|exact .inl rfl|exact .inr rfl|exact .inr (.inl rfl)|decide +kernel|(intro _;rfl)) (by first|rfl|exact .inl rfl|exact .inr rfl|exact .inr (.inl rfl)|decide +kernel|(intro _;rfl))))) (@pss_nil _)) (@pss_one _ _ _ (@ps_ret _ _ _ _ (@pe_and _ _ _ _ _ _ _ (@pe_cmpR _ _ _ _ _ _ _ _ (@op_inM _ hr.units) (@pe_ix _ _ _ _ _ _ _ (@ix_tup _) (pv 0) (@pe_int _ _ _ _) (fun _ _ => rfl)) (@pe_tup _ _ _ _ _ (@pa_cons _ _ _ _ _ (@pe_str _ _ _ _) (@pa_cons _ _ _ _ _ (@pe_str _ _ _ _) (@pa_nil _) (by first|rfl|exact .inl rfl|exact .inr rfl|exact .inr (.inl rfl)|decide +kernel|(intro _;rfl))) (by first|rfl|exact .inl rfl|exact .inr rfl|exact .inr (.inl rfl)|decide +kernel|(intro _;rfl)))) (by with_unfolding_all rfl)) (@pe_one _ _ _ _ _ (@pe_call _ _ _ _ _ _ _ _ _ _ _ _ _ _ _ _ G_is_tree (hr.mono (by first | decide | omega)) (by rfl) T.m_is_tree T.F_is_tree.kp T.b_is_tree .nil pass0 (@pa_cons _ _ _ _ _ (@pe_ix _ _ _ _ _ _ _ (@ix_tup _) (pv 0) (@pe_int _ _ _ _) (fun _ _ => rfl)) (@pa_nil _) (by first|rfl|exact .inl rfl|exact .inr rfl|exact .inr (.inl rfl)|decide +kernel|(intro _;rfl))) (by first|rfl|exact .inl rfl|exact .inr rfl|exact .inr (.inl rfl)|decide +kernel|(intro _;rfl)) (by first|rfl|exact .inl rfl|exact .inr rfl|exact .inr (.inl rfl)|decide +kernel|(intro _;rfl)) (by first|rfl|exact .inl rfl|exact .inr rfl|exact .inr (.inl rfl)|decide +kernel|(intro _;rfl))))))))), ?_⟩
  refine ⟨_, rfl, v, _, rfl, hv, _, rfl, ?_⟩
  cases hP : isP d with
  | false =>
    refine iteT ?_
    have e : isSrc d = false := by
      cases d with
      | tup xs =>
        match xs, hP with
        | [], _ => rfl
        | [_], _ => rfl
        | [_, _], h => simp [isP] at h
        | _ :: _ :: _ :: _, _ => rfl
      | _ => rfl
    have := k H (Same.refl _)
    rw [e] at this
    exact this
  | true =>
    refine iteF ?_
    obtain ⟨z, e, rfl⟩ : ∃ z e, d = .tup [z, e] := by
      cases d with
      | tup xs =>
        match xs, hP with
        | [], h => simp [isP] at h
        | [_], h => simp [isP] at h
        | [x, y], _ => exact ⟨x, y, rfl⟩
        | _ :: _ :: _ :: _, h => simp [isP] at h
      | _ => simp [isP] at hP
    obtain ⟨p, us, rfl, hp, x1, r1, rfl, h1, x2, r2, rfl, h2, h3⟩ := id hv
    cases (show r2 = [] from h3)
    have hok' : okHd z = true ∧ dp z ≤ 60 := by simpa [okS] using hok
    refine ⟨_, rfl, p, _, _, _, rfl, rfl, SqT.of hp, rfl, z, "made", h1, rfl, by decide, hok'.1, hok'.2, _, rfl, ?_⟩
    cases c : eqD z (.str "made") with
    | true =>
      refine iteT ⟨_, rfl, p, _, _, _, rfl, rfl, SqT.of hp, rfl, x2, e, rfl, h2, fun H' s' => ?_⟩
      have := k H' s'
      simp only [isSrc, c, if_true] at this
      exact this
    | false =>
      refine iteF ⟨_, rfl, p, _, _, _, rfl, rfl, SqT.of hp, rfl, (by show 2 ≤ sizeLine; decide), fun q hq => ?_⟩
      have s1 : Same H (upd H q (.tup [.str "leaf", .str "rule"])) := same_new hq _
      refine ⟨z, q, ["leaf", "rule"], h1.mono s1.tk, rfl, .inr (SqT.of upd_same), by decide +kernel, hok'.1, hok'.2, _, rfl, ?_⟩
      have e2 : (["leaf", "rule"] : List Str).any (fun y => eqD z (.str y)) = (eqD z (.str "leaf") || eqD z (.str "rule")) := by simp
      rw [e2]
      cases c2 : (eqD z (.str "leaf") || eqD z (.str "rule")) with
      | true =>
        refine iteT ⟨_, rfl, p, _, _, _, rfl, rfl, SqT.of (s1 _ _ hp), rfl, x2, e, rfl, h2.mono s1.tk, fun H' s' => ?_⟩
        have := k H' (s1.trans s')
        simp only [isSrc, c, c2, Bool.true_and, Bool.false_eq_true, if_false] at this
        exact this
      | false =>
        refine iteF ?_
        have := k _ s1
        simp only [isSrc, c, c2, Bool.false_and, Bool.false_eq_true, if_false] at this
        exact this
theorem ok_cell (T : Tx K mg a) : FnOk P w K mg base CX0 1 a.f_law_cell_at a.d_law_cell_at ["script", "k"] (sp_cell K) := by
  refine T.F_law_cell_at.ok sc_law_cell_at (fun vs H Q E h => ?_) (fun cdv A outer s H vs Q E hr h => ?_)
  · obtain ⟨q, ns, j, rfl, _⟩ := h
    rfl
  obtain ⟨q, ns, j, rfl, h0, hq, k⟩ := h
  refine ⟨_, (@pss_cons _ _ _ _ _ (@ps_if _ _ _ _ _ _ _ _ (@pt_cmpR _ _ _ _ _ _ _ _ (@op_lt _) (pv 1) (@pe_callB _ _ _ _ _ _ _ _ _ (@call_len_seq _) (by rfl) T.z_len PySem.boot_len (@pa_cons _ _ _ _ _ (pv 0) (@pa_nil _) (by first|rfl|exact .inl rfl|exact .inr rfl|exact .inr (.inl rfl)|decide +kernel|(intro _;rfl))) (by first|rfl|exact .inl rfl|exact .inr rfl|exact .inr (.inl rfl)|decide +kernel|(intro _;rfl)) (by first|rfl|exact .inl rfl|exact .inr rfl|exact .inr (.inl rfl)|decide +kernel|(intro _;rfl)) (by first|rfl|exact .inl rfl|exact .inr rfl|exact .inr (.inl rfl)|decide +kernel|(intro _;rfl)) (by first|rfl|exact .inl rfl|exact .inr rfl|exact .inr (.inl rfl)|decide +kernel|(intro _;rfl))) (nomark _)) (@pss_one _ _ _ (@ps_ret _ _ _ _ (@pe_ix _ _ _ _ _ _ _ (@ix_list _) (pv 0) (pv 1) (fun _ _ => rfl)))) (@pss_nil _)) (@pss_one _ _ _ (@ps_ret _ _ _ _ (@pe_int _ _ _ _)))), ?_⟩
  refine ⟨_, rfl, _, rfl, q, _, rfl, .inl hq, _, _, rfl, rfl, _, rfl, ?_⟩
  refine ite2 (fun c => ?_) (fun c => ?_)
  · have c' : j < ((ns.map V.int).length : Int) := of_decide_eq_true c
    obtain ⟨v, hv⟩ := atI_some h0 c'
    obtain ⟨i, _, rfl⟩ := List.mem_map.mp (atI_mem hv)
    exact ⟨_, rfl, _, rfl, q, _, _, _, rfl, rfl, hq, hv, k _⟩
  · exact k 0
end
end K18

namespace K18
open PySem L2 PyProof.Rows PySem.Builtin PySem.Builtin.Str
/-! ### texts cut -/
theorem str_ext {z y : Str} (h : z.cps.toList = y.cps.toList) : z = y := by
  cases z; cases y; simp only [Str.mk.injEq] at *; exact Array.toList_inj.mp h
theorem sLast (z : Str) : ∃ m, (Txt.slice z (some (-24)) none).cps.toList = z.cps.toList.drop m ∧ z.length - m ≤ 24 ∧ (1 ≤ z.length → m < z.length) := by
  rcases Nat.lt_or_ge z.length 24 with h | h
  · refine ⟨0, ?_, by omega, fun h => h⟩
    have e : Txt.slice z (some (-24)) none = Txt.slice z (some 0) none := by
      unfold Txt.slice
      have : strSliceIndices (some (-24)) none 1 z.length = strSliceIndices (some 0) none 1 z.length := by
        have a : max (0 : Int) (min (-24 + (z.length : Int)) z.length) = 0 := by omega
        have b : max (0 : Int) (min 0 (z.length : Int)) = 0 := by omega
        simp [strSliceIndices, a, b]
      rw [this]
    have e2 : Txt.slice z (some 0) none = ⟨((z.cps.toList.drop (0 : Int).toNat).take ((z.cps.toList.length : Int) - (0 : Int)).toNat).toArray⟩ := StrLaws.sliceText_from ⟨by omega, by omega⟩
    rw [e, e2]
    show ((z.cps.toList.drop 0).take _).toArray.toList = _
    rw [List.take_of_length_le (by rw [List.length_drop]; omega)]
  · refine ⟨z.length - 24, ?_, by omega, fun _ => by omega⟩
    have e := StrLaws.sliceText_from_neg (x := z) (i := -24) (by omega) (by omega)
    have e' : Txt.slice z (some (-24)) none = ⟨((z.cps.toList.drop (-24 + (z.length : Int)).toNat).take ((z.cps.toList.length : Int) - (-24 + z.length)).toNat).toArray⟩ := e
    rw [e']
    have e3 : (-24 + (z.length : Int)).toNat = z.length - 24 := by omega
    rw [e3]
    show ((z.cps.toList.drop (z.length - 24)).take _).toArray.toList = _
    rw [List.take_of_length_le (by rw [List.length_drop, ← len_cps]; omega)]
theorem joined_rep (c : Nat) : ∀ (k : Nat) (acc : Array Nat), ((List.replicate k #[c]).foldl (· ++ ·) acc).toList = acc.toList ++ List.replicate k c
  | 0, acc => by simp
  | k + 1, acc => by
    rw [List.replicate_succ, List.foldl_cons, joined_rep c k, List.replicate_succ]
    simp
theorem mul_one (c : Nat) (n : Int) : (Txt.mul ⟨#[c]⟩ n).cps.toList = List.replicate n.toNat c := by
  unfold Txt.mul
  split
  · rename_i h
    rw [show n.toNat = 0 by omega]
    rfl
  · split
    · rename_i h1 h
      have h2 : n = 1 ∨ (⟨#[c]⟩ : Str).length = 0 := by simpa using h
      have h3 : n = 1 := h2.elim id fun z => by cases z
      rw [h3]
      rfl
    · have := joined_rep c n.toNat #[]
      simpa using this
/-! ### names -/
def okN (z : Str) : Bool := (z.cps.toList.map fun c => inS ⟨#[c]⟩ NSG).all id
theorem okN_app {z y : Str} (h : okN z = true) (k : okN y = true) : okN (z ++ y) = true := by
  unfold okN at *
  show ((z.cps ++ y.cps).toList.map _).all id = true
  rw [Array.toList_append, List.map_append, List.all_append, h, k]
  rfl
theorem okN_one {c : Nat} (h : c ∈ NSG.cps.toList) : okN ⟨#[c]⟩ = true := by
  show ([c].map fun c => inS ⟨#[c]⟩ NSG).all id = true
  rw [List.map_cons, List.map_nil, inS_one, decide_eq_true h]
  rfl
theorem okN_drop {z y : Str} {m : Nat} (h : okN z = true) (e : y.cps.toList = z.cps.toList.drop m) : okN y = true := by
  unfold okN at *
  rw [e, List.all_eq_true]
  intro b hb
  obtain ⟨c, hc, rfl⟩ := List.mem_map.mp hb
  exact List.all_eq_true.mp h _ (List.mem_map.mpr ⟨c, List.mem_of_mem_drop hc, rfl⟩)
theorem okN_rep (n : Int) : okN (Txt.mul "y" n) = true := by
  have e : (("y" : Str)) = ⟨#[121]⟩ := by decide +kernel
  unfold okN
  rw [e, mul_one, List.all_eq_true]
  intro b hb
  obtain ⟨c, hc, rfl⟩ := List.mem_map.mp hb
  rw [(List.mem_replicate.mp hc).2, inS_one]
  decide +kernel
theorem rep_len (n : Int) : (Txt.mul "y" n).length = n.toNat := by
  have e : (("y" : Str)) = ⟨#[121]⟩ := by decide +kernel
  rw [len_cps, e, mul_one, List.length_replicate]
def strI (i : Int) : Str := toString i
theorem strI_ok : ∀ k : Nat, k < 61 → okN (strI (k : Int)) = true ∧ (strI (k : Int)).length ≤ 2 := by decide +kernel
theorem nm_of {z : Str} (h : okN z = true) (h1 : 1 ≤ z.length) (h2 : z.length ≤ 24) (h3 : inS ⟨#[z.cps.getD 0 0]⟩ LET = true) : nm z = true := by
  rw [nm_rest (by omega) (by omega) h3]
  exact h
theorem nm_le {z : Str} (h : nm z = true) : 1 ≤ z.length ∧ z.length ≤ 24 := by
  by_cases c : 1 ≤ (z.length : Int) ∧ (z.length : Int) ≤ 24
  · omega
  · rw [nm_len c] at h
    cases h
theorem sub5 {c : Nat} (h : inS ⟨#[c]⟩ "abcyz" = true) : inS ⟨#[c]⟩ LET = true := by
  rw [inS_one] at *
  have m := of_decide_eq_true h
  have key : ∀ c ∈ ("abcyz" : Str).cps.toList, c ∈ LET.cps.toList := by decide +kernel
  exact decide_eq_true (key c m)
def Nms (zs : List Str) : Prop := (∀ z ∈ zs, nm z = true) ∧ zs.Nodup
def sp_names : Sp := fun vs H Q _ => ∃ (p : Addr) (n : Nat), vs = [.ref p, .int (n : Int)] ∧ PotAt H p ∧ n ≤ 60 ∧ ∀ (L : Addr) (zs : List Str) (H' : Hp), H L = none → H' L = some (.lst (zs.map V.str)) → Nms zs → zs.length ≤ n → PotAt H' p → Kept p H H' → Q (.ref L) H'
section
variable {P : Program} {w : World} {K : PySem.W.Frag} {mg : Str → Option Value} {base : Heap} {a : Ad}
theorem ok_names (T : Tx K mg a) : FnOk P w K mg base CX0 2 a.f_law_names a.d_law_names ["pot", "many"] sp_names := by
  have G_law_take : FnOk P w K mg base CX0 1 a.f_law_take a.d_law_take ["pot", "many"] sp_take := ok_take T
  refine T.F_law_names.ok sc_law_names (fun vs H Q E h => ?_) (fun cdv A outer s H vs Q E hr h => ?_)
  · obtain ⟨p, n, rfl, _⟩ := h
    rfl
  obtain ⟨p, n, rfl, P0, hn, k⟩ := h
  have hs := sizeLine_eq
  refine ⟨_, (@pss_cons _ _ _ _ _ (@ps_set _ _ (2) _ _ _ _ sc_law_names.nd rfl (Or.inl rfl) (@pe_lst _ _ _ _ (@pa_nil _)) (by first|rfl|exact .inl rfl|exact .inr rfl|exact .inr (.inl rfl)|decide +kernel|(intro _;rfl)) (by first|rfl|exact .inl rfl|exact .inr rfl|exact .inr (.inl rfl)|decide +kernel|(intro _;rfl))) (@pss_cons _ _ _ _ _ (@ps_for _ _ _ _ _ _ _ _ PassesOwn.never rfl (@pi_range1 _ _ _ _ _ _ (by rfl) T.z_range (@pa_cons _ _ _ _ _ (pv 1) (@pa_nil _) (by first|rfl|exact .inl rfl|exact .inr rfl|exact .inr (.inl rfl)|decide +kernel|(intro _;rfl))) (by first|rfl|exact .inl rfl|exact .inr rfl|exact .inr (.inl rfl)|decide +kernel|(intro _;rfl))) (@pg_name _ _ (3) _ sc_law_names.nd rfl (Or.inl rfl) (by first|rfl|exact .inl rfl|exact .inr rfl|exact .inr (.inl rfl)|decide +kernel|(intro _;rfl))) (@pss_cons _ _ _ _ _ (@ps_set _ _ (4) _ _ _ _ sc_law_names.nd rfl (Or.inl rfl) (@pe_ix _ _ _ _ _ _ _ (@ix_str _) (@pe_str _ _ _ _) (@pe_call _ _ _ _ _ _ _ _ _ _ _ _ _ _ _ _ G_law_take (hr.mono (by first | decide | omega)) (by rfl) T.m_law_take T.F_law_take.kp T.b_law_take .nil pass0 (@pa_cons _ _ _ _ _ (pv 0) (@pa_cons _ _ _ _ _ (@pe_int _ _ _ _) (@pa_nil _) (by first|rfl|exact .inl rfl|exact .inr rfl|exact .inr (.inl rfl)|decide +kernel|(intro _;rfl))) (by first|rfl|exact .inl rfl|exact .inr rfl|exact .inr (.inl rfl)|decide +kernel|(intro _;rfl))) (by first|rfl|exact .inl rfl|exact .inr rfl|exact .inr (.inl rfl)|decide +kernel|(intro _;rfl)) (by first|rfl|exact .inl rfl|exact .inr rfl|exact .inr (.inl rfl)|decide +kernel|(intro _;rfl)) (by first|rfl|exact .inl rfl|exact .inr rfl|exact .inr (.inl rfl)|decide +kernel|(intro _;rfl))) (fun _ _ => rfl)) (by first|rfl|exact .inl rfl|exact .inr rfl|exact .inr (.inl rfl)|decide +kernel|(intro _;rfl)) (by first|rfl|exact .inl rfl|exact .inr rfl|exact .inr (.inl rfl)|decide +kernel|(intro _;rfl))) (@pss_cons _ _ _ _ _ (@ps_for _ _ _ _ _ _ _ _ PassesOwn.never rfl (@pi_range1 _ _ _ _ _ _ (by rfl) T.z_range (@pa_cons _ _ _ _ _ (@pe_call _ _ _ _ _ _ _ _ _ _ _ _ _ _ _ _ G_law_take (hr.mono (by first | decide | omega)) (by rfl) T.m_law_take T.F_law_take.kp T.b_law_take .nil pass0 (@pa_cons _ _ _ _ _ (pv 0) (@pa_cons _ _ _ _ _ (@pe_int _ _ _ _) (@pa_nil _) (by first|rfl|exact .inl rfl|exact .inr rfl|exact .inr (.inl rfl)|decide +kernel|(intro _;rfl))) (by first|rfl|exact .inl rfl|exact .inr rfl|exact .inr (.inl rfl)|decide +kernel|(intro _;rfl))) (by first|rfl|exact .inl rfl|exact .inr rfl|exact .inr (.inl rfl)|decide +kernel|(intro _;rfl)) (by first|rfl|exact .inl rfl|exact .inr rfl|exact .inr (.inl rfl)|decide +kernel|(intro _;rfl)) (by first|rfl|exact .inl rfl|exact .inr rfl|exact .inr (.inl rfl)|decide +kernel|(intro _;rfl))) (@pa_nil _) (by first|rfl|exact .inl rfl|exact .inr rfl|exact .inr (.inl rfl)|decide +kernel|(intro _;rfl))) (by first|rfl|exact .inl rfl|exact .inr rfl|exact .inr (.inl rfl)|decide +kernel|(intro _;rfl))) (@pg_name _ _ (5) _ sc_law_names.nd rfl (Or.inl rfl) (by first|rfl|exact .inl rfl|exact .inr rfl|exact .inr (.inl rfl)|decide +kernel|(intro _;rfl))) (@pss_one _ _ _ (@ps_set _ _ (4) _ _ _ _ sc_law_names.nd rfl (Or.inl rfl) (@pe_op _ _ _ _ _ _ _ _ (@op_add_str _) (pv 4) (@pe_ix _ _ _ _ _ _ _ (@ix_str _) (@pe_str _ _ _ _) (@pe_call _ _ _ _ _ _ _ _ _ _ _ _ _ _ _ _ G_law_take (hr.mono (by first | decide | omega)) (by rfl) T.m_law_take T.F_law_take.kp T.b_law_take .nil pass0 (@pa_cons _ _ _ _ _ (pv 0) (@pa_cons _ _ _ _ _ (@pe_int _ _ _ _) (@pa_nil _) (by first|rfl|exact .inl rfl|exact .inr rfl|exact .inr (.inl rfl)|decide +kernel|(intro _;rfl))) (by first|rfl|exact .inl rfl|exact .inr rfl|exact .inr (.inl rfl)|decide +kernel|(intro _;rfl))) (by first|rfl|exact .inl rfl|exact .inr rfl|exact .inr (.inl rfl)|decide +kernel|(intro _;rfl)) (by first|rfl|exact .inl rfl|exact .inr rfl|exact .inr (.inl rfl)|decide +kernel|(intro _;rfl)) (by first|rfl|exact .inl rfl|exact .inr rfl|exact .inr (.inl rfl)|decide +kernel|(intro _;rfl))) (fun _ _ => rfl))) (by first|rfl|exact .inl rfl|exact .inr rfl|exact .inr (.inl rfl)|decide +kernel|(intro _;rfl)) (by first|rfl|exact .inl rfl|exact .inr rfl|exact .inr (.inl rfl)|decide +kernel|(intro _;rfl)))) (by first|rfl|exact .inl rfl|exact .inr rfl|exact .inr (.inl rfl)|decide +kernel|(intro _;rfl))) (@pss_cons _ _ _ _ _ (@ps_if _ _ _ _ _ _ _ _ (@pt_cmpR _ _ _ _ _ _ _ _ (@op_eq _) (@pe_call _ _ _ _ _ _ _ _ _ _ _ _ _ _ _ _ G_law_take (hr.mono (by first | decide | omega)) (by rfl) T.m_law_take T.F_law_take.kp T.b_law_take .nil pass0 (@pa_cons _ _ _ _ _ (pv 0) (@pa_cons _ _ _ _ _ (@pe_int _ _ _ _) (@pa_nil _) (by first|rfl|exact .inl rfl|exact .inr rfl|exact .inr (.inl rfl)|decide +kernel|(intro _;rfl))) (by first|rfl|exact .inl rfl|exact .inr rfl|exact .inr (.inl rfl)|decide +kernel|(intro _;rfl))) (by first|rfl|exact .inl rfl|exact .inr rfl|exact .inr (.inl rfl)|decide +kernel|(intro _;rfl)) (by first|rfl|exact .inl rfl|exact .inr rfl|exact .inr (.inl rfl)|decide +kernel|(intro _;rfl)) (by first|rfl|exact .inl rfl|exact .inr rfl|exact .inr (.inl rfl)|decide +kernel|(intro _;rfl))) (@pe_int _ _ _ _) (nomark _)) (@pss_one _ _ _ (@ps_set _ _ (4) _ _ _ _ sc_law_names.nd rfl (Or.inl rfl) (@pe_op _ _ _ _ _ _ _ _ (@op_add_str _) (pv 4) (@pe_op _ _ _ _ _ _ _ _ (@op_repS _) (@pe_str _ _ _ _) (@pe_op _ _ _ _ _ _ _ _ (@op_sub _) (@pe_int _ _ _ _) (@pe_callB _ _ _ _ _ _ _ _ _ (@call_len_str _) (by rfl) T.z_len PySem.boot_len (@pa_cons _ _ _ _ _ (pv 4) (@pa_nil _) (by first|rfl|exact .inl rfl|exact .inr rfl|exact .inr (.inl rfl)|decide +kernel|(intro _;rfl))) (by first|rfl|exact .inl rfl|exact .inr rfl|exact .inr (.inl rfl)|decide +kernel|(intro _;rfl)) (by first|rfl|exact .inl rfl|exact .inr rfl|exact .inr (.inl rfl)|decide +kernel|(intro _;rfl)) (by first|rfl|exact .inl rfl|exact .inr rfl|exact .inr (.inl rfl)|decide +kernel|(intro _;rfl)) (by first|rfl|exact .inl rfl|exact .inr rfl|exact .inr (.inl rfl)|decide +kernel|(intro _;rfl)))))) (by first|rfl|exact .inl rfl|exact .inr rfl|exact .inr (.inl rfl)|decide +kernel|(intro _;rfl)) (by first|rfl|exact .inl rfl|exact .inr rfl|exact .inr (.inl rfl)|decide +kernel|(intro _;rfl)))) (@pss_nil _)) (@pss_cons _ _ _ _ _ (@ps_if _ _ _ _ _ _ _ _ (@pt_cmpR _ _ _ _ _ _ _ _ (@op_in_seq _) (pv 4) (pv 2) (by with_unfolding_all rfl)) (@pss_one _ _ _ (@ps_set _ _ (4) _ _ _ _ sc_law_names.nd rfl (Or.inl rfl) (@pe_slice _ _ _ _ _ _ _ _ _ _ (@sl_str _) (@pe_op _ _ _ _ _ _ _ _ (@op_add_str _) (@pe_op _ _ _ _ _ _ _ _ (@op_add_str _) (pv 4) (@pe_str _ _ _ _)) (@pe_callTy _ _ _ _ _ _ _ _ _ (@call_str_int _) (by rfl) T.z_str boot_str (@pa_cons _ _ _ _ _ (pv 3) (@pa_nil _) (by first|rfl|exact .inl rfl|exact .inr rfl|exact .inr (.inl rfl)|decide +kernel|(intro _;rfl))) (by first|rfl|exact .inl rfl|exact .inr rfl|exact .inr (.inl rfl)|decide +kernel|(intro _;rfl)) (by first|rfl|exact .inl rfl|exact .inr rfl|exact .inr (.inl rfl)|decide +kernel|(intro _;rfl)) (by first|rfl|exact .inl rfl|exact .inr rfl|exact .inr (.inl rfl)|decide +kernel|(intro _;rfl)) (by first|rfl|exact .inl rfl|exact .inr rfl|exact .inr (.inl rfl)|decide +kernel|(intro _;rfl)))) (@po_some _ _ _ (@pe_un _ _ _ _ _ _ un_neg (@pe_int _ _ _ _))) (@po_none _)) (by first|rfl|exact .inl rfl|exact .inr rfl|exact .inr (.inl rfl)|decide +kernel|(intro _;rfl)) (by first|rfl|exact .inl rfl|exact .inr rfl|exact .inr (.inl rfl)|decide +kernel|(intro _;rfl)))) (@pss_nil _)) (@pss_one _ _ _ (@ps_if _ _ _ _ _ _ _ _ (@pw_and _ _ _ _ _ _ _ (@pt_cmpR _ _ _ _ _ _ _ _ (@op_in_str _) (@pe_ix _ _ _ _ _ _ _ (@ix_str _) (pv 4) (@pe_int _ _ _ _) (fun _ _ => rfl)) (@pe_str _ _ _ _) (by with_unfolding_all rfl)) (@pw_and1 _ _ _ _ (@pt_cmpR _ _ _ _ _ _ _ _ (@op_notIn_seq _) (pv 4) (pv 2) (by with_unfolding_all rfl)))).pt (@pss_one _ _ _ (@ps_expr _ _ _ _ (@pe_bm _ _ _ _ _ _ _ _ _ _ _ _ PySem.F.plainAttrs_list PySem.F.slot_list_append PySem.F.type_list_append (@mt_append _) (pv 2) (@pa_cons _ _ _ _ _ (pv 4) (@pa_nil _) (by first|rfl|exact .inl rfl|exact .inr rfl|exact .inr (.inl rfl)|decide +kernel|(intro _;rfl))) (by first|rfl|exact .inl rfl|exact .inr rfl|exact .inr (.inl rfl)|decide +kernel|(intro _;rfl)) (by first|rfl|exact .inl rfl|exact .inr rfl|exact .inr (.inl rfl)|decide +kernel|(intro _;rfl)) (by first|rfl|exact .inl rfl|exact .inr rfl|exact .inr (.inl rfl)|decide +kernel|(intro _;rfl)) (by first|rfl|exact .inl rfl|exact .inr rfl|exact .inr (.inl rfl)|decide +kernel|(intro _;rfl)) (by first|rfl|exact .inl rfl|exact .inr rfl|exact .inr (.inl rfl)|decide +kernel|(intro _;rfl))) (by first|rfl|exact .inl rfl|exact .inr rfl|exact .inr (.inl rfl)|decide +kernel|(intro _;rfl)))) (@pss_nil _))))))) (by first|rfl|exact .inl rfl|exact .inr rfl|exact .inr (.inl rfl)|decide +kernel|(intro _;rfl))) (@pss_one _ _ _ (@ps_ret _ _ _ _ (pv 2))))), ?_⟩
  refine ⟨(by show 0 ≤ sizeLine; omega), fun L hL => ?_⟩
  have npL : p ≠ L := P0.free hL
  have s1 : Same H (upd H L (.lst [])) := same_new hL _
  refine ⟨_, rfl, (n : Int), rfl, by omega, by omega, ?_⟩
  refine for_range (n := (n : Int).toNat) (fun i σ H' => ∃ (zs : List Str) (kv nv jv : Option V), σ = [some (.ref p), some (.int (n : Int)), some (.ref L), kv, nv, jv] ∧ H' L = some (.lst (zs.map V.str)) ∧ Nms zs ∧ zs.length ≤ i ∧ PotAt H' p ∧ Kept p H H') ⟨[], none, none, none, rfl, upd_same, ⟨(fun z h => nomatch h), List.nodup_nil⟩, Nat.le_refl _, P0.same s1, s1.kept⟩ ?_ ?_
  · rintro i σ H' hi ⟨zs, kv, nv, jv, rfl, hl, hN, hz, P', K'⟩
    rw [Int.toNat_natCast] at hi
    -- the first sign
    refine ⟨_, rfl, p, 3, rfl, P', by decide, by decide, fun d1 H1 a1 b1 P1 K1 => ?_⟩
    obtain ⟨c1, hc1⟩ := atI_some (xs := ("abz" : Str).cps.toList) (i := d1) a1 (by show d1 < 3; omega)
    have m1 : c1 ∈ NSG.cps.toList := by
      have key : ∀ c ∈ ("abz" : Str).cps.toList, c ∈ NSG.cps.toList := by decide +kernel
      exact key c1 (atI_mem hc1)
    refine ⟨_, _, c1, rfl, rfl, by decide, hc1, ?_⟩
    -- up to three more
    refine ⟨_, rfl, p, 4, rfl, P1, by decide, by decide, fun d2 H2 a2 b2 P2 K2 => ⟨d2, rfl, by omega, by omega, ?_⟩⟩
    refine for_range (n := d2.toNat) (fun j σ H'' => ∃ (z : Str) (jv : Option V), σ = [some (.ref p), some (.int (n : Int)), some (.ref L), some (.int (0 + (i : Int))), some (.str z), jv] ∧ okN z = true ∧ 1 ≤ z.length ∧ z.length ≤ 1 + j ∧ PotAt H'' p ∧ Kept p H' H'') ⟨⟨#[c1]⟩, jv, rfl, okN_one m1, Nat.le_refl 1, Nat.le_refl 1, P2, K1.trans K2⟩ ?_ ?_
    · rintro j σ H3 hj ⟨z, jv3, rfl, hok, z1, z2, P3, K3⟩
      refine ⟨_, rfl, _, rfl, p, 5, rfl, P3, by decide, by decide, fun d4 H4 a4 b4 P4 K4 => ?_⟩
      obtain ⟨c4, hc4⟩ := atI_some (xs := ("ab1./" : Str).cps.toList) (i := d4) a4 (by show d4 < 5; omega)
      have m4 : c4 ∈ NSG.cps.toList := by
        have key : ∀ c ∈ ("ab1./" : Str).cps.toList, c ∈ NSG.cps.toList := by decide +kernel
        exact key c4 (atI_mem hc4)
      refine ⟨_, _, c4, rfl, rfl, by decide, hc4, _, _, rfl, rfl, fits (by show z.length + 1 ≤ _; omega), ?_⟩
      exact ⟨_, _, rfl, okN_app hok (okN_one m4), by rw [app_len]; omega, by rw [app_len]; show z.length + 1 ≤ _; omega, P4, K3.trans K4⟩
    · rintro σ H3 ⟨z, jv3, rfl, hok, z1, z2, P3, K3⟩
      have z4 : z.length ≤ 4 := by omega
      refine ⟨_, rfl, p, 12, rfl, P3, by decide, by decide, fun d5 H5 a5 b5 P5 K5 => ⟨rfl, _, rfl, ?_⟩⟩
      have hl5 : H5 L = some (.lst (zs.map V.str)) := K5 _ _ (K3 _ _ hl npL.symm) npL.symm
      have K5' : Kept p H H5 := (K'.trans K3).trans K5
      have fls : ∀ us : List Str, (us.map V.str).all flatV = true := fun us => by
        rw [List.all_map, List.all_eq_true]
        exact fun _ _ => rfl
      have hm : MulOk "y" (24 - (z.length : Int)) := mulOk_of (by omega) (by omega) (by decide)
      have hr2 := rep_len (24 - (z.length : Int))
      refine ite2 (fun c => ⟨_, rfl, _, rfl, z, rfl, fits (by omega), _, _, rfl, rfl, _, _, rfl, rfl, hm, _, _, rfl, rfl, fits (by omega), ?_⟩) (fun c => ?_)
      have F1 : okN (z ++ Txt.mul "y" (24 - (z.length : Int))) = true ∧ 1 ≤ (z ++ Txt.mul "y" (24 - (z.length : Int))).length ∧ (z ++ Txt.mul "y" (24 - (z.length : Int))).length ≤ 24 := ⟨okN_app hok (okN_rep _), by rw [app_len]; omega, by rw [app_len]; omega⟩
      generalize (z ++ Txt.mul "y" (24 - (z.length : Int))) = y at F1 ⊢
      rotate_left
      have F1 : okN z = true ∧ 1 ≤ z.length ∧ z.length ≤ 24 := ⟨hok, z1, by omega⟩
      generalize z = y at F1 ⊢
      rotate_left
      all_goals
        obtain ⟨y0, y1, y2⟩ := F1
        refine ⟨_, rfl, _, rfl, L, _, rfl, .inl (SqL.of hl5), rfl, fls _, _, rfl, ?_⟩
        have hki := strI_ok i (by omega)
        have e0 : strI (0 + (i : Int)) = strI (i : Int) := by rw [Int.zero_add]
        have hlen : ((y ++ "c") ++ strI (0 + (i : Int)) : Str).length = y.length + 1 + (strI (i : Int)).length := by
          rw [app_len, app_len, e0]
          rfl
        have sd1 : (0 + (i : Int)).natAbs.log2 < 1920 := by
          rw [Int.zero_add, Int.natAbs_natCast]
          exact Nat.lt_of_le_of_lt (Nat.log2_le_self i) (by omega)
        have sd2 : (y ++ "c").length + (strI (0 + (i : Int))).length ≤ sizeLine := by
          rw [e0, app_len]
          show y.length + 1 + _ ≤ _
          omega
        have sd3 : ((y ++ "c") ++ strI (0 + (i : Int)) : Str).length ≤ sizeLine := by
          rw [hlen]
          exact fits (by omega)
        obtain ⟨m, e1, e2, e3⟩ := sLast ((y ++ "c") ++ strI (0 + (i : Int)))
        have h3 := e3 (by omega)
        have el : (Txt.slice ((y ++ "c") ++ strI (0 + (i : Int))) (some (-24)) none).length = ((y ++ "c") ++ strI (0 + (i : Int)) : Str).length - m := by
          rw [len_cps, e1, List.length_drop, ← len_cps]
        have F3 : okN (Txt.slice ((y ++ "c") ++ strI (0 + (i : Int))) (some (-24)) none) = true ∧ 1 ≤ (Txt.slice ((y ++ "c") ++ strI (0 + (i : Int))) (some (-24)) none).length ∧ (Txt.slice ((y ++ "c") ++ strI (0 + (i : Int))) (some (-24)) none).length ≤ 24 :=
          ⟨okN_drop (okN_app (okN_app y0 (okN_one (by decide +kernel))) (by rw [e0]; exact hki.1)) e1, by omega, by omega⟩
        refine ite2 (fun c2 => ⟨_, rfl, _, _, rfl, rfl, fits (by show y.length + 1 ≤ _; omega), _, rfl, _, rfl, sd1, _, _, rfl, rfl, sd2, _, rfl, _, rfl, _, rfl, sd3, ?_⟩) (fun c2 => ?_)
        unfold strI at F3
        generalize Txt.slice ((y ++ "c") ++ ((toString (0 + (i : Int)) : String) : Str)) (some (-24)) none = x at F3 ⊢
        rotate_left
        have F3 : okN y = true ∧ 1 ≤ y.length ∧ y.length ≤ 24 := ⟨y0, y1, y2⟩
        generalize y = x at F3 ⊢
        rotate_left
        all_goals
          obtain ⟨x0, x1, x2⟩ := F3
          refine ⟨_, rfl, _, _, _, rfl, rfl, fits (by omega), first_at x1, _, _, rfl, rfl, _, rfl, ?_⟩
          refine ite2 (fun c => ?_) (fun c => ?_)
          · refine ⟨_, rfl, _, rfl, L, _, rfl, .inl (SqL.of hl5), rfl, fls _, _, rfl, ?_⟩
            refine ite2 (fun c2 => ?_) (fun c2 => ?_)
            · have c2' : x ∉ zs := by
                have : (!inV (V.str x) (zs.map V.str)) = true := c2
                rw [inV_str, Bool.not_eq_true', decide_eq_false_iff_not] at this
                exact this
              refine ⟨_, rfl, .inl ⟨rfl, _, SqL.of hl5⟩, _, rfl, L, _, _, rfl, rfl, hl5, by rw [List.length_map]; omega, ?_⟩
              refine ⟨zs ++ [x], _, _, _, rfl, by rw [upd_same, List.map_append]; rfl, ⟨fun z h => ?_, ?_⟩, by rw [List.length_append]; show zs.length + 1 ≤ _; omega, ?_, ?_⟩
              · rcases List.mem_append.mp h with h | h
                · exact hN.1 z h
                · rw [List.mem_singleton.mp h]
                  exact nm_of x0 x1 x2 (sub5 c)
              · rw [List.nodup_append]
                refine ⟨hN.2, List.nodup_cons.mpr ⟨List.not_mem_nil, List.nodup_nil⟩, fun u hu v hv e => ?_⟩
                rw [List.mem_singleton.mp hv] at e
                rw [e] at hu
                exact c2' hu
              · obtain ⟨q1, q2, q3, q4⟩ := P5
                exact ⟨q1, q2, by rw [upd_ne npL]; exact q3, q4⟩
              · exact fun b o e nb => by rw [upd_ne (ne_of_none e hL)]; exact K5' b o e nb
            · exact ⟨zs, _, _, _, rfl, hl5, hN, by omega, P5, K5'⟩
          · exact ⟨zs, _, _, _, rfl, hl5, hN, by omega, P5, K5'⟩
  · rintro σ H' ⟨zs, kv, nv, jv, rfl, hl, hN, hz, P', K'⟩
    rw [Int.toNat_natCast] at hz
    exact ⟨_, rfl, k L zs H' hL hl hN hz P' K'⟩
end
end K18

namespace K18
open PySem L2 PyProof.Rows
mutual
theorem lw_pu : ∀ {d : D}, lw d = true → puD d = true
  | .str z, _ => by simp [puD]
  | .tup xs, h => by
    have := lwL_pu (xs := xs) (by simpa [lw] using h)
    simpa [puD] using this
  | .non, h => by simp [lw] at h
  | .bl _, h => by simp [lw] at h
  | .int _, h => by simp [lw] at h
  | .lst, h => by simp [lw] at h
  | .dct, h => by simp [lw] at h
theorem lwL_pu : ∀ {xs : List D}, lwL xs = true → puL xs = true
  | [], _ => by simp [puL]
  | x :: r, h => by
    have h' : lw x = true ∧ lwL r = true := by simpa [lwL] using h
    simp [puL, lw_pu h'.1, lwL_pu h'.2]
end
theorem lw_tr {d : D} (h : lw d = true) : trD d = true := by
  cases d with
  | str z => rfl
  | tup xs =>
    have := lwL_pu (xs := xs) (by simpa [lw] using h)
    simpa [trD] using this
  | _ => simp [lw] at h
def SrcOk (d : D) : Prop := (∃ k e, d = .tup [.str k, e]) ∧ isSrc d = true ∧ lw d = true
def prD (p : Str × D) : D := .tup [.str p.1, p.2]
def PrOk (ps : List (Str × D)) : Prop := Nms (ps.map (·.1)) ∧ ∀ p ∈ ps, SrcOk p.2
theorem okN_all {z : Str} (h : okN z = true) : okAll z = true := by
  unfold okAll
  rw [List.all_eq_true]
  intro c hc
  have := List.all_eq_true.mp h _ (List.mem_map.mpr ⟨c, hc, rfl⟩)
  rw [id, inS_one] at this
  have key : ∀ c ∈ NSG.cps.toList, okSign c = true := by decide +kernel
  exact key c (of_decide_eq_true this)
theorem nm_okN {z : Str} (h : nm z = true) : okN z = true := by
  have hl := nm_le h
  cases h3 : inS ⟨#[z.cps.getD 0 0]⟩ LET with
  | false => rw [nm_first h3] at h; cases h
  | true =>
    rw [nm_rest (by omega) (by omega) h3] at h
    exact h
theorem src_made {z : Str} (h : nm z = true) : SrcOk (.tup [.str "made", .str z]) := by
  refine ⟨⟨_, _, rfl⟩, ?_, ?_⟩
  · show (if eqD (.str "made") (.str "made") = true then nm z else (eqD (.str "made") (.str "leaf") || eqD (.str "made") (.str "rule")) && isT (.str z)) = true
    rw [if_pos (by decide +kernel)]
    exact h
  · have : okAll "made" = true := by decide +kernel
    simp only [lw, lwL, this, okN_all (nm_okN h)]
    rfl
theorem src_leaf {k : Str} {d : D} (hk : k = "leaf" ∨ k = "rule") (h : isT d = true) (hl : lw d = true) : SrcOk (.tup [.str k, d]) := by
  refine ⟨⟨_, _, rfl⟩, ?_, ?_⟩
  · show (if eqD (.str k) (.str "made") = true then isNm d else (eqD (.str k) (.str "leaf") || eqD (.str k) (.str "rule")) && isT d) = true
    have e1 : eqD (.str k) (.str "made") = false := by rcases hk with rfl | rfl <;> decide +kernel
    have e2 : (eqD (.str k) (.str "leaf") || eqD (.str k) (.str "rule")) = true := by rcases hk with rfl | rfl <;> decide +kernel
    rw [e1, e2, h]
    rfl
  · have : okAll k = true := by
      rcases hk with rfl | rfl <;> decide +kernel
    simp only [lw, lwL, this, hl]
    rfl
theorem src_okS {d : D} (h : SrcOk d) : okS d = true := by
  obtain ⟨⟨k, e, rfl⟩, _⟩ := h
  simp [okS, okHd, trD, dp]
theorem src_dp {d : D} (h : SrcOk d) : dp d ≤ 13 := by
  obtain ⟨⟨k, e, rfl⟩, h1, h2⟩ := h
  have he : dp e ≤ 12 := by
    have h1' : (if eqD (.str k) (.str "made") = true then isNm e else (eqD (.str k) (.str "leaf") || eqD (.str k) (.str "rule")) && isT e) = true := h1
    split at h1'
    · cases e <;> simp [isNm] at h1' <;> simp [dp]
    · rw [Bool.and_eq_true] at h1'
      exact isT_dp h1'.2
  simp only [dp, dpL]
  omega
def sp_lsource : Sp := fun vs H Q _ => ∃ (p L : Addr) (zs : List Str), vs = [.ref p, .ref L] ∧ PotAt H p ∧ H L = some (.lst (zs.map V.str)) ∧ p ≠ L ∧ (∀ z ∈ zs, nm z = true) ∧ zs.length ≤ 100 ∧
  ∀ (v : V) (d : D) (H' : Hp), Is H' d v → SrcOk d → PotAt H' p → Kept p H H' → Q v H'
def sp_lpairs (K : PySem.W.Frag) : Sp := fun vs H Q _ => ∃ (q : Addr) (ns : List Int), vs = [.ref q] ∧ SqL K H q (ns.map V.int) ∧
  ∀ (L : Addr) (ps : List (Str × D)) (us : List V) (H' : Hp), H L = none → Same H H' → H' L = some (.lst us) → IsL H' (ps.map prD) us → PrOk ps → ps.length ≤ 60 → Q (.ref L) H'
theorem strI' {H : Hp} {z : Str} (h : z.length ≤ 16000000) : Is H (.str z) (.str z) := ⟨rfl, fits h⟩
theorem cut_ints (ns : List Int) (lo hi : Option Int) : ∃ ms : List Int, cutV (ns.map V.int) lo hi = ms.map V.int ∧ ms.length ≤ ns.length := by
  unfold cutV
  rw [← List.map_drop, ← List.map_take]
  refine ⟨_, rfl, ?_⟩
  rw [List.length_take, List.length_drop]
  omega
section
variable {P : Program} {w : World} {K : PySem.W.Frag} {mg : Str → Option Value} {base : Heap} {a : Ad}
theorem ok_lsource (T : Tx K mg a) : FnOk P w K mg base CX0 155 a.f_law_source a.d_law_source ["pot", "names"] sp_lsource := by
  have G_law_take : FnOk P w K mg base CX0 1 a.f_law_take a.d_law_take ["pot", "many"] sp_take := ok_take T
  have G_law_good_tree : FnOk P w K mg base CX0 154 a.f_law_good_tree a.d_law_good_tree ["pot"] sp_good := ok_good T
  refine T.F_law_source.ok sc_law_source (fun vs H Q E h => ?_) (fun cdv A outer s H vs Q E hr h => ?_)
  · obtain ⟨p, L, zs, rfl, _⟩ := h
    rfl
  obtain ⟨p, L, zs, rfl, P0, hL, npL, hN, hn, k⟩ := h
  have hs := sizeLine_eq
  refine ⟨_, (@pss_cons _ _ _ _ _ (@ps_set _ _ (2) _ _ _ _ sc_law_source.nd rfl (Or.inl rfl) (@pe_call _ _ _ _ _ _ _ _ _ _ _ _ _ _ _ _ G_law_take (hr.mono (by first | decide | omega)) (by rfl) T.m_law_take T.F_law_take.kp T.b_law_take .nil pass0 (@pa_cons _ _ _ _ _ (pv 0) (@pa_cons _ _ _ _ _ (@pe_int _ _ _ _) (@pa_nil _) (by first|rfl|exact .inl rfl|exact .inr rfl|exact .inr (.inl rfl)|decide +kernel|(intro _;rfl))) (by first|rfl|exact .inl rfl|exact .inr rfl|exact .inr (.inl rfl)|decide +kernel|(intro _;rfl))) (by first|rfl|exact .inl rfl|exact .inr rfl|exact .inr (.inl rfl)|decide +kernel|(intro _;rfl)) (by first|rfl|exact .inl rfl|exact .inr rfl|exact .inr (.inl rfl)|decide +kernel|(intro _;rfl)) (by first|rfl|exact .inl rfl|exact .inr rfl|exact .inr (.inl rfl)|decide +kernel|(intro _;rfl))) (by first|rfl|exact .inl rfl|exact .inr rfl|exact .inr (.inl rfl)|decide +kernel|(intro _;rfl)) (by first|rfl|exact .inl rfl|exact .inr rfl|exact .inr (.inl rfl)|decide +kernel|(intro _;rfl))) (@pss_cons _ _ _ _ _ (@ps_if _ _ _ _ _ _ _ _ (@pt_cmpR _ _ _ _ _ _ _ _ (@op_eq _) (pv 2) (@pe_int _ _ _ _) (nomark _)) (@pss_one _ _ _ (@ps_ret _ _ _ _ (@pe_tup _ _ _ _ _ (@pa_cons _ _ _ _ _ (@pe_str _ _ _ _) (@pa_cons _ _ _ _ _ (@pe_ix _ _ _ _ _ _ _ (@ix_list _) (@pe_op _ _ _ _ _ _ _ _ (@op_cat _) (pv 1) (@pe_lst _ _ _ _ (@pa_cons _ _ _ _ _ (@pe_str _ _ _ _) (@pa_nil _) (by first|rfl|exact .inl rfl|exact .inr rfl|exact .inr (.inl rfl)|decide +kernel|(intro _;rfl))))) (@pe_call _ _ _ _ _ _ _ _ _ _ _ _ _ _ _ _ G_law_take (hr.mono (by first | decide | omega)) (by rfl) T.m_law_take T.F_law_take.kp T.b_law_take .nil pass0 (@pa_cons _ _ _ _ _ (pv 0) (@pa_cons _ _ _ _ _ (@pe_op _ _ _ _ _ _ _ _ (@op_add _) (@pe_callB _ _ _ _ _ _ _ _ _ (@call_len_seq _) (by rfl) T.z_len PySem.boot_len (@pa_cons _ _ _ _ _ (pv 1) (@pa_nil _) (by first|rfl|exact .inl rfl|exact .inr rfl|exact .inr (.inl rfl)|decide +kernel|(intro _;rfl))) (by first|rfl|exact .inl rfl|exact .inr rfl|exact .inr (.inl rfl)|decide +kernel|(intro _;rfl)) (by first|rfl|exact .inl rfl|exact .inr rfl|exact .inr (.inl rfl)|decide +kernel|(intro _;rfl)) (by first|rfl|exact .inl rfl|exact .inr rfl|exact .inr (.inl rfl)|decide +kernel|(intro _;rfl)) (by first|rfl|exact .inl rfl|exact .inr rfl|exact .inr (.inl rfl)|decide +kernel|(intro _;rfl))) (@pe_int _ _ _ _)) (@pa_nil _) (by first|rfl|exact .inl rfl|exact .inr rfl|exact .inr (.inl rfl)|decide +kernel|(intro _;rfl))) (by first|rfl|exact .inl rfl|exact .inr rfl|exact .inr (.inl rfl)|decide +kernel|(intro _;rfl))) (by first|rfl|exact .inl rfl|exact .inr rfl|exact .inr (.inl rfl)|decide +kernel|(intro _;rfl)) (by first|rfl|exact .inl rfl|exact .inr rfl|exact .inr (.inl rfl)|decide +kernel|(intro _;rfl)) (by first|rfl|exact .inl rfl|exact .inr rfl|exact .inr (.inl rfl)|decide +kernel|(intro _;rfl))) (fun _ _ => rfl)) (@pa_nil _) (by first|rfl|exact .inl rfl|exact .inr rfl|exact .inr (.inl rfl)|decide +kernel|(intro _;rfl))) (by first|rfl|exact .inl rfl|exact .inr rfl|exact .inr (.inl rfl)|decide +kernel|(intro _;rfl)))))) (@pss_nil _)) (@pss_cons _ _ _ _ _ (@ps_if _ _ _ _ _ _ _ _ (@pt_cmpR _ _ _ _ _ _ _ _ (@op_eq _) (pv 2) (@pe_int _ _ _ _) (nomark _)) (@pss_one _ _ _ (@ps_ret _ _ _ _ (@pe_tup _ _ _ _ _ (@pa_cons _ _ _ _ _ (@pe_str _ _ _ _) (@pa_cons _ _ _ _ _ (@pe_tup _ _ _ _ _ (@pa_cons _ _ _ _ _ (@pe_str _ _ _ _) (@pa_cons _ _ _ _ _ (@pe_str _ _ _ _) (@pa_nil _) (by first|rfl|exact .inl rfl|exact .inr rfl|exact .inr (.inl rfl)|decide +kernel|(intro _;rfl))) (by first|rfl|exact .inl rfl|exact .inr rfl|exact .inr (.inl rfl)|decide +kernel|(intro _;rfl)))) (@pa_nil _) (by first|rfl|exact .inl rfl|exact .inr rfl|exact .inr (.inl rfl)|decide +kernel|(intro _;rfl))) (by first|rfl|exact .inl rfl|exact .inr rfl|exact .inr (.inl rfl)|decide +kernel|(intro _;rfl)))))) (@pss_nil _)) (@pss_one _ _ _ (@ps_ret _ _ _ _ (@pe_tup _ _ _ _ _ (@pa_cons _ _ _ _ _ (@pe_ix _ _ _ _ _ _ _ (@ix_list _) (@pe_lst _ _ _ _ (@pa_cons _ _ _ _ _ (@pe_str _ _ _ _) (@pa_cons _ _ _ _ _ (@pe_str _ _ _ _) (@pa_nil _) (by first|rfl|exact .inl rfl|exact .inr rfl|exact .inr (.inl rfl)|decide +kernel|(intro _;rfl))) (by first|rfl|exact .inl rfl|exact .inr rfl|exact .inr (.inl rfl)|decide +kernel|(intro _;rfl)))) (@pe_op _ _ _ _ _ _ _ _ (@op_sub _) (pv 2) (@pe_int _ _ _ _)) (fun _ _ => rfl)) (@pa_cons _ _ _ _ _ (@pe_call _ _ _ _ _ _ _ _ _ _ _ _ _ _ _ _ G_law_good_tree (hr.mono (by first | decide | omega)) (by rfl) T.m_law_good_tree T.F_law_good_tree.kp T.b_law_good_tree .nil pass0 (@pa_cons _ _ _ _ _ (pv 0) (@pa_nil _) (by first|rfl|exact .inl rfl|exact .inr rfl|exact .inr (.inl rfl)|decide +kernel|(intro _;rfl))) (by first|rfl|exact .inl rfl|exact .inr rfl|exact .inr (.inl rfl)|decide +kernel|(intro _;rfl)) (by first|rfl|exact .inl rfl|exact .inr rfl|exact .inr (.inl rfl)|decide +kernel|(intro _;rfl)) (by first|rfl|exact .inl rfl|exact .inr rfl|exact .inr (.inl rfl)|decide +kernel|(intro _;rfl))) (@pa_nil _) (by first|rfl|exact .inl rfl|exact .inr rfl|exact .inr (.inl rfl)|decide +kernel|(intro _;rfl))) (by first|rfl|exact .inl rfl|exact .inr rfl|exact .inr (.inl rfl)|decide +kernel|(intro _;rfl))))))))), ?_⟩
  refine ⟨_, rfl, p, 4, rfl, P0, by decide, by decide, fun d H1 a1 b1 P1 K1 => ?_⟩
  have hL1 : H1 L = some (.lst (zs.map V.str)) := K1 _ _ hL npL.symm
  refine ⟨_, rfl, rfl, _, rfl, ?_⟩
  refine ite2 (fun c => ?_) (fun c => ?_)
  · -- made of a name
    refine ⟨_, rfl, (by show 1 ≤ sizeLine; omega), fun q hq => ?_⟩
    have s2 : Same H1 (upd H1 q (.lst [.str "q"])) := same_new hq _
    refine ⟨L, q, _, _, rfl, rfl, s2 _ _ hL1, upd_same, by rw [List.length_map]; show zs.length + 1 ≤ _; omega, fun r hr2 => ?_⟩
    have s3 := s2.trans (same_new hr2 (.lst (zs.map V.str ++ [.str "q"])))
    refine ⟨_, rfl, _, rfl, L, _, rfl, .inl (SqL.of (s3 _ _ hL1)), _, _, rfl, rfl, p, _, rfl, P1.same s3, by omega, by rw [List.length_map]; omega, fun j H4 a4 b4 P4 K4 => ?_⟩
    rw [List.length_map] at b4
    have nrp : r ≠ p := fun e => by
      obtain ⟨x, y, e1, _⟩ := P1.same s2
      rw [← e, hr2] at e1
      cases e1
    have hr4 := K4 _ _ (upd_same : (upd (upd H1 q (.lst [.str "q"])) r (.lst (zs.map V.str ++ [.str "q"]))) r = _) nrp
    have em : zs.map V.str ++ [V.str "q"] = (zs ++ [("q" : Str)]).map V.str := by simp
    rw [em] at hr4
    obtain ⟨c4, hc4⟩ := atI_some (xs := (zs ++ [("q" : Str)]).map V.str) (i := j) a4 (by rw [List.length_map, List.length_append]; show j < ((zs.length + 1 : Nat) : Int); omega)
    obtain ⟨z, hz, rfl⟩ := List.mem_map.mp (atI_mem hc4)
    have hnm : nm z = true := by
      rcases List.mem_append.mp hz with h | h
      · exact hN z h
      · rw [List.mem_singleton.mp h]
        decide +kernel
    have hzl := nm_le hnm
    refine ⟨r, _, _, _, rfl, rfl, SqL.of hr4, hc4, (by show 2 ≤ sizeLine; omega), fun t ht => ?_⟩
    exact k _ (.tup [.str "made", .str z]) _ (Is.new ⟨_, _, rfl, strI' (by decide), _, _, rfl, strI' (by omega), rfl⟩ ht) (src_made hnm) (P4.same (same_new ht _)) (((K1.trans s3.kept).trans K4).trans (same_new ht _).kept)
  · refine ⟨_, rfl, rfl, _, rfl, ?_⟩
    refine ite2 (fun c => ?_) (fun c2 => ?_)
    · refine ⟨(by show 2 ≤ sizeLine; omega), fun t ht => ⟨(by show 2 ≤ sizeLine; omega), fun u hu => ?_⟩⟩
      have s2 : Same H1 (upd H1 t (.tup [.str "self a", .str "say a"])) := same_new ht _
      have s3 := s2.trans (same_new hu (.tup [.str "rule", .ref t]))
      refine k _ (.tup [.str "rule", .tup [.str "self a", .str "say a"]]) _ (Is.new ⟨_, _, rfl, strI' (by decide), _, _, rfl, Is.new ⟨_, _, rfl, strI' (by decide), _, _, rfl, strI' (by decide), rfl⟩ ht, rfl⟩ hu) (src_leaf (.inr rfl) (by decide +kernel) (by decide +kernel)) (P1.same s3) (K1.trans s3.kept)
    · have d2 : 2 ≤ d := by
        have h0 : ¬ d = 0 := fun e => c (decide_eq_true (by rw [e]))
        have h1 : ¬ d = 1 := fun e => c2 (decide_eq_true (by rw [e]))
        omega
      refine ⟨(by show 2 ≤ sizeLine; omega), fun q hq => ?_⟩
      have s2 : Same H1 (upd H1 q (.lst [.str "leaf", .str "rule"])) := same_new hq _
      have hk : ∃ z : Str, atI [V.str "leaf", V.str "rule"] (d - 2) = some (.str z) ∧ (z = "leaf" ∨ z = "rule") := by
        have : d = 2 ∨ d = 3 := by omega
        rcases this with rfl | rfl
        · exact ⟨"leaf", rfl, .inl rfl⟩
        · exact ⟨"rule", rfl, .inr rfl⟩
      obtain ⟨z, hz, hz2⟩ := hk
      refine ⟨_, rfl, _, _, rfl, rfl, q, _, _, _, rfl, rfl, SqL.of upd_same, hz, _, rfl, p, rfl, P1.same s2, fun v e H3 hv hlw hT P3 K3 => ⟨(by show 2 ≤ sizeLine; omega), fun t ht => ?_⟩⟩
      have hzl : z.length ≤ 16000000 := by rcases hz2 with rfl | rfl <;> decide
      exact k _ (.tup [.str z, e]) _ (Is.new ⟨_, _, rfl, strI' hzl, _, _, rfl, hv, rfl⟩ ht) (src_leaf hz2 hT hlw) (P3.same (same_new ht _)) (((K1.trans s2.kept).trans K3).trans (same_new ht _).kept)
end
end K18

namespace K18
open PySem L2 PyProof.Rows
section
variable {P : Program} {w : World} {K : PySem.W.Frag} {mg : Str → Option Value} {base : Heap} {a : Ad}
theorem ok_lpairs (T : Tx K mg a) : FnOk P w K mg base CX0 156 a.f_law_pairs a.d_law_pairs ["script"] (sp_lpairs K) := by
  have G_law_cell_at : FnOk P w K mg base CX0 1 a.f_law_cell_at a.d_law_cell_at ["script", "k"] (sp_cell K) := ok_cell T
  have G_law_pot : FnOk P w K mg base CX0 1 a.f_law_pot a.d_law_pot ["cell", "salt"] sp_pot := ok_pot T
  have G_law_names : FnOk P w K mg base CX0 2 a.f_law_names a.d_law_names ["pot", "many"] sp_names := ok_names T
  have G_law_source : FnOk P w K mg base CX0 155 a.f_law_source a.d_law_source ["pot", "names"] sp_lsource := ok_lsource T
  refine T.F_law_pairs.ok sc_law_pairs (fun vs H Q E h => ?_) (fun cdv A outer s H vs Q E hr h => ?_)
  · obtain ⟨q, ns, rfl, _⟩ := h
    rfl
  obtain ⟨q, ns, rfl, hq, k⟩ := h
  have hs := sizeLine_eq
  refine ⟨_, (@pss_cons _ _ _ _ _ (@ps_set _ _ (1) _ _ _ _ sc_law_pairs.nd rfl (Or.inl rfl) (@pe_call _ _ _ _ _ _ _ _ _ _ _ _ _ _ _ _ G_law_cell_at (hr.mono (by first | decide | omega)) (by rfl) T.m_law_cell_at T.F_law_cell_at.kp T.b_law_cell_at .nil pass0 (@pa_cons _ _ _ _ _ (pv 0) (@pa_cons _ _ _ _ _ (@pe_int _ _ _ _) (@pa_nil _) (by first|rfl|exact .inl rfl|exact .inr rfl|exact .inr (.inl rfl)|decide +kernel|(intro _;rfl))) (by first|rfl|exact .inl rfl|exact .inr rfl|exact .inr (.inl rfl)|decide +kernel|(intro _;rfl))) (by first|rfl|exact .inl rfl|exact .inr rfl|exact .inr (.inl rfl)|decide +kernel|(intro _;rfl)) (by first|rfl|exact .inl rfl|exact .inr rfl|exact .inr (.inl rfl)|decide +kernel|(intro _;rfl)) (by first|rfl|exact .inl rfl|exact .inr rfl|exact .inr (.inl rfl)|decide +kernel|(intro _;rfl))) (by first|rfl|exact .inl rfl|exact .inr rfl|exact .inr (.inl rfl)|decide +kernel|(intro _;rfl)) (by first|rfl|exact .inl rfl|exact .inr rfl|exact .inr (.inl rfl)|decide +kernel|(intro _;rfl))) (@pss_cons _ _ _ _ _ (@ps_set _ _ (2) _ _ _ _ sc_law_pairs.nd rfl (Or.inl rfl) (@pe_op _ _ _ _ _ _ _ _ (@op_mod _) (pv 1) (@pe_int _ _ _ _)) (by first|rfl|exact .inl rfl|exact .inr rfl|exact .inr (.inl rfl)|decide +kernel|(intro _;rfl)) (by first|rfl|exact .inl rfl|exact .inr rfl|exact .inr (.inl rfl)|decide +kernel|(intro _;rfl))) (@pss_cons _ _ _ _ _ (@ps_if _ _ _ _ _ _ _ _ (@pt_cmpR _ _ _ _ _ _ _ _ (@op_eq _) (@pe_op _ _ _ _ _ _ _ _ (@op_mod _) (@pe_op _ _ _ _ _ _ _ _ (@op_fdiv _) (pv 1) (@pe_int _ _ _ _)) (@pe_int _ _ _ _)) (@pe_int _ _ _ _) (nomark _)) (@pss_one _ _ _ (@ps_set _ _ (2) _ _ _ _ sc_law_pairs.nd rfl (Or.inl rfl) (@pe_op _ _ _ _ _ _ _ _ (@op_add _) (@pe_int _ _ _ _) (@pe_op _ _ _ _ _ _ _ _ (@op_mod _) (@pe_op _ _ _ _ _ _ _ _ (@op_fdiv _) (pv 1) (@pe_int _ _ _ _)) (@pe_int _ _ _ _))) (by first|rfl|exact .inl rfl|exact .inr rfl|exact .inr (.inl rfl)|decide +kernel|(intro _;rfl)) (by first|rfl|exact .inl rfl|exact .inr rfl|exact .inr (.inl rfl)|decide +kernel|(intro _;rfl)))) (@pss_nil _)) (@pss_cons _ _ _ _ _ (@ps_set _ _ (3) _ _ _ _ sc_law_pairs.nd rfl (Or.inl rfl) (@pe_call _ _ _ _ _ _ _ _ _ _ _ _ _ _ _ _ G_law_pot (hr.mono (by first | decide | omega)) (by rfl) T.m_law_pot T.F_law_pot.kp T.b_law_pot .nil pass0 (@pa_cons _ _ _ _ _ (@pe_op _ _ _ _ _ _ _ _ (@op_add _) (@pe_call _ _ _ _ _ _ _ _ _ _ _ _ _ _ _ _ G_law_cell_at (hr.mono (by first | decide | omega)) (by rfl) T.m_law_cell_at T.F_law_cell_at.kp T.b_law_cell_at .nil pass0 (@pa_cons _ _ _ _ _ (pv 0) (@pa_cons _ _ _ _ _ (@pe_int _ _ _ _) (@pa_nil _) (by first|rfl|exact .inl rfl|exact .inr rfl|exact .inr (.inl rfl)|decide +kernel|(intro _;rfl))) (by first|rfl|exact .inl rfl|exact .inr rfl|exact .inr (.inl rfl)|decide +kernel|(intro _;rfl))) (by first|rfl|exact .inl rfl|exact .inr rfl|exact .inr (.inl rfl)|decide +kernel|(intro _;rfl)) (by first|rfl|exact .inl rfl|exact .inr rfl|exact .inr (.inl rfl)|decide +kernel|(intro _;rfl)) (by first|rfl|exact .inl rfl|exact .inr rfl|exact .inr (.inl rfl)|decide +kernel|(intro _;rfl))) (@pe_callB _ _ _ _ _ _ _ _ _ (@call_sumL _ rfl) (by rfl) T.z_sum boot_sum (@pa_cons _ _ _ _ _ (@pe_slice _ _ _ _ _ _ _ _ _ _ (@sl_list _) (pv 0) (@po_some _ _ _ (@pe_int _ _ _ _)) (@po_none _)) (@pa_nil _) (by first|rfl|exact .inl rfl|exact .inr rfl|exact .inr (.inl rfl)|decide +kernel|(intro _;rfl))) (by first|rfl|exact .inl rfl|exact .inr rfl|exact .inr (.inl rfl)|decide +kernel|(intro _;rfl)) (by first|rfl|exact .inl rfl|exact .inr rfl|exact .inr (.inl rfl)|decide +kernel|(intro _;rfl)) (by first|rfl|exact .inl rfl|exact .inr rfl|exact .inr (.inl rfl)|decide +kernel|(intro _;rfl)) (by first|rfl|exact .inl rfl|exact .inr rfl|exact .inr (.inl rfl)|decide +kernel|(intro _;rfl)))) (@pa_cons _ _ _ _ _ (@pe_int _ _ _ _) (@pa_nil _) (by first|rfl|exact .inl rfl|exact .inr rfl|exact .inr (.inl rfl)|decide +kernel|(intro _;rfl))) (by first|rfl|exact .inl rfl|exact .inr rfl|exact .inr (.inl rfl)|decide +kernel|(intro _;rfl))) (by first|rfl|exact .inl rfl|exact .inr rfl|exact .inr (.inl rfl)|decide +kernel|(intro _;rfl)) (by first|rfl|exact .inl rfl|exact .inr rfl|exact .inr (.inl rfl)|decide +kernel|(intro _;rfl)) (by first|rfl|exact .inl rfl|exact .inr rfl|exact .inr (.inl rfl)|decide +kernel|(intro _;rfl))) (by first|rfl|exact .inl rfl|exact .inr rfl|exact .inr (.inl rfl)|decide +kernel|(intro _;rfl)) (by first|rfl|exact .inl rfl|exact .inr rfl|exact .inr (.inl rfl)|decide +kernel|(intro _;rfl))) (@pss_cons _ _ _ _ _ (@ps_set _ _ (4) _ _ _ _ sc_law_pairs.nd rfl (Or.inl rfl) (@pe_call _ _ _ _ _ _ _ _ _ _ _ _ _ _ _ _ G_law_names (hr.mono (by first | decide | omega)) (by rfl) T.m_law_names T.F_law_names.kp T.b_law_names .nil pass0 (@pa_cons _ _ _ _ _ (pv 3) (@pa_cons _ _ _ _ _ (pv 2) (@pa_nil _) (by first|rfl|exact .inl rfl|exact .inr rfl|exact .inr (.inl rfl)|decide +kernel|(intro _;rfl))) (by first|rfl|exact .inl rfl|exact .inr rfl|exact .inr (.inl rfl)|decide +kernel|(intro _;rfl))) (by first|rfl|exact .inl rfl|exact .inr rfl|exact .inr (.inl rfl)|decide +kernel|(intro _;rfl)) (by first|rfl|exact .inl rfl|exact .inr rfl|exact .inr (.inl rfl)|decide +kernel|(intro _;rfl)) (by first|rfl|exact .inl rfl|exact .inr rfl|exact .inr (.inl rfl)|decide +kernel|(intro _;rfl))) (by first|rfl|exact .inl rfl|exact .inr rfl|exact .inr (.inl rfl)|decide +kernel|(intro _;rfl)) (by first|rfl|exact .inl rfl|exact .inr rfl|exact .inr (.inl rfl)|decide +kernel|(intro _;rfl))) (@pss_cons _ _ _ _ _ (@ps_set _ _ (5) _ _ _ _ sc_law_pairs.nd rfl (Or.inl rfl) (@pe_lst _ _ _ _ (@pa_nil _)) (by first|rfl|exact .inl rfl|exact .inr rfl|exact .inr (.inl rfl)|decide +kernel|(intro _;rfl)) (by first|rfl|exact .inl rfl|exact .inr rfl|exact .inr (.inl rfl)|decide +kernel|(intro _;rfl))) (@pss_cons _ _ _ _ _ (@ps_for _ _ _ _ _ _ _ _ PassesOwn.never rfl (@pi_range1 _ _ _ _ _ _ (by rfl) T.z_range (@pa_cons _ _ _ _ _ (@pe_callB _ _ _ _ _ _ _ _ _ (@call_len_seq _) (by rfl) T.z_len PySem.boot_len (@pa_cons _ _ _ _ _ (pv 4) (@pa_nil _) (by first|rfl|exact .inl rfl|exact .inr rfl|exact .inr (.inl rfl)|decide +kernel|(intro _;rfl))) (by first|rfl|exact .inl rfl|exact .inr rfl|exact .inr (.inl rfl)|decide +kernel|(intro _;rfl)) (by first|rfl|exact .inl rfl|exact .inr rfl|exact .inr (.inl rfl)|decide +kernel|(intro _;rfl)) (by first|rfl|exact .inl rfl|exact .inr rfl|exact .inr (.inl rfl)|decide +kernel|(intro _;rfl)) (by first|rfl|exact .inl rfl|exact .inr rfl|exact .inr (.inl rfl)|decide +kernel|(intro _;rfl))) (@pa_nil _) (by first|rfl|exact .inl rfl|exact .inr rfl|exact .inr (.inl rfl)|decide +kernel|(intro _;rfl))) (by first|rfl|exact .inl rfl|exact .inr rfl|exact .inr (.inl rfl)|decide +kernel|(intro _;rfl))) (@pg_name _ _ (6) _ sc_law_pairs.nd rfl (Or.inl rfl) (by first|rfl|exact .inl rfl|exact .inr rfl|exact .inr (.inl rfl)|decide +kernel|(intro _;rfl))) (@pss_cons _ _ _ _ _ (@ps_set _ _ (7) _ _ _ _ sc_law_pairs.nd rfl (Or.inl rfl) (@pe_call _ _ _ _ _ _ _ _ _ _ _ _ _ _ _ _ G_law_pot (hr.mono (by first | decide | omega)) (by rfl) T.m_law_pot T.F_law_pot.kp T.b_law_pot .nil pass0 (@pa_cons _ _ _ _ _ (@pe_call _ _ _ _ _ _ _ _ _ _ _ _ _ _ _ _ G_law_cell_at (hr.mono (by first | decide | omega)) (by rfl) T.m_law_cell_at T.F_law_cell_at.kp T.b_law_cell_at .nil pass0 (@pa_cons _ _ _ _ _ (pv 0) (@pa_cons _ _ _ _ _ (@pe_op _ _ _ _ _ _ _ _ (@op_add _) (@pe_int _ _ _ _) (@pe_op _ _ _ _ _ _ _ _ (@op_mod _) (pv 6) (@pe_int _ _ _ _))) (@pa_nil _) (by first|rfl|exact .inl rfl|exact .inr rfl|exact .inr (.inl rfl)|decide +kernel|(intro _;rfl))) (by first|rfl|exact .inl rfl|exact .inr rfl|exact .inr (.inl rfl)|decide +kernel|(intro _;rfl))) (by first|rfl|exact .inl rfl|exact .inr rfl|exact .inr (.inl rfl)|decide +kernel|(intro _;rfl)) (by first|rfl|exact .inl rfl|exact .inr rfl|exact .inr (.inl rfl)|decide +kernel|(intro _;rfl)) (by first|rfl|exact .inl rfl|exact .inr rfl|exact .inr (.inl rfl)|decide +kernel|(intro _;rfl))) (@pa_cons _ _ _ _ _ (@pe_op _ _ _ _ _ _ _ _ (@op_add _) (@pe_int _ _ _ _) (pv 6)) (@pa_nil _) (by first|rfl|exact .inl rfl|exact .inr rfl|exact .inr (.inl rfl)|decide +kernel|(intro _;rfl))) (by first|rfl|exact .inl rfl|exact .inr rfl|exact .inr (.inl rfl)|decide +kernel|(intro _;rfl))) (by first|rfl|exact .inl rfl|exact .inr rfl|exact .inr (.inl rfl)|decide +kernel|(intro _;rfl)) (by first|rfl|exact .inl rfl|exact .inr rfl|exact .inr (.inl rfl)|decide +kernel|(intro _;rfl)) (by first|rfl|exact .inl rfl|exact .inr rfl|exact .inr (.inl rfl)|decide +kernel|(intro _;rfl))) (by first|rfl|exact .inl rfl|exact .inr rfl|exact .inr (.inl rfl)|decide +kernel|(intro _;rfl)) (by first|rfl|exact .inl rfl|exact .inr rfl|exact .inr (.inl rfl)|decide +kernel|(intro _;rfl))) (@pss_one _ _ _ (@ps_expr _ _ _ _ (@pe_bm _ _ _ _ _ _ _ _ _ _ _ _ PySem.F.plainAttrs_list PySem.F.slot_list_append PySem.F.type_list_append (@mt_append _) (pv 5) (@pa_cons _ _ _ _ _ (@pe_tup _ _ _ _ _ (@pa_cons _ _ _ _ _ (@pe_ix _ _ _ _ _ _ _ (@ix_list _) (pv 4) (pv 6) (fun _ _ => rfl)) (@pa_cons _ _ _ _ _ (@pe_call _ _ _ _ _ _ _ _ _ _ _ _ _ _ _ _ G_law_source (hr.mono (by first | decide | omega)) (by rfl) T.m_law_source T.F_law_source.kp T.b_law_source .nil pass0 (@pa_cons _ _ _ _ _ (pv 7) (@pa_cons _ _ _ _ _ (pv 4) (@pa_nil _) (by first|rfl|exact .inl rfl|exact .inr rfl|exact .inr (.inl rfl)|decide +kernel|(intro _;rfl))) (by first|rfl|exact .inl rfl|exact .inr rfl|exact .inr (.inl rfl)|decide +kernel|(intro _;rfl))) (by first|rfl|exact .inl rfl|exact .inr rfl|exact .inr (.inl rfl)|decide +kernel|(intro _;rfl)) (by first|rfl|exact .inl rfl|exact .inr rfl|exact .inr (.inl rfl)|decide +kernel|(intro _;rfl)) (by first|rfl|exact .inl rfl|exact .inr rfl|exact .inr (.inl rfl)|decide +kernel|(intro _;rfl))) (@pa_nil _) (by first|rfl|exact .inl rfl|exact .inr rfl|exact .inr (.inl rfl)|decide +kernel|(intro _;rfl))) (by first|rfl|exact .inl rfl|exact .inr rfl|exact .inr (.inl rfl)|decide +kernel|(intro _;rfl)))) (@pa_nil _) (by first|rfl|exact .inl rfl|exact .inr rfl|exact .inr (.inl rfl)|decide +kernel|(intro _;rfl))) (by first|rfl|exact .inl rfl|exact .inr rfl|exact .inr (.inl rfl)|decide +kernel|(intro _;rfl)) (by first|rfl|exact .inl rfl|exact .inr rfl|exact .inr (.inl rfl)|decide +kernel|(intro _;rfl)) (by first|rfl|exact .inl rfl|exact .inr rfl|exact .inr (.inl rfl)|decide +kernel|(intro _;rfl)) (by first|rfl|exact .inl rfl|exact .inr rfl|exact .inr (.inl rfl)|decide +kernel|(intro _;rfl)) (by first|rfl|exact .inl rfl|exact .inr rfl|exact .inr (.inl rfl)|decide +kernel|(intro _;rfl))) (by first|rfl|exact .inl rfl|exact .inr rfl|exact .inr (.inl rfl)|decide +kernel|(intro _;rfl))))) (by first|rfl|exact .inl rfl|exact .inr rfl|exact .inr (.inl rfl)|decide +kernel|(intro _;rfl))) (@pss_one _ _ _ (@ps_ret _ _ _ _ (pv 5)))))))))), ?_⟩
  refine ⟨_, rfl, q, ns, 0, rfl, by decide, hq, fun first => ?_⟩
  refine ⟨_, rfl, _, _, rfl, rfl, (by show (0 : Int) < 9; decide), ?_⟩
  refine ⟨_, rfl, _, _, rfl, rfl, ⟨by decide, by decide⟩, _, _, rfl, rfl, (by show (0 : Int) < 8; decide), rfl, _, rfl, ?_⟩
  have m1 : 0 ≤ first % 9 ∧ first % 9 < 9 := ⟨Int.emod_nonneg _ (by decide), Int.emod_lt_of_pos _ (by decide)⟩
  have m2 : 0 ≤ first / 72 % 41 ∧ first / 72 % 41 < 41 := ⟨Int.emod_nonneg _ (by decide), Int.emod_lt_of_pos _ (by decide)⟩
  refine ite2 (fun c => ⟨_, rfl, _, _, rfl, rfl, ⟨by decide, by decide⟩, _, _, rfl, rfl, (by show (0 : Int) < 41; decide), _, _, rfl, rfl, ?_⟩) (fun c => ?_)
  obtain ⟨n, hn, hn6⟩ : ∃ n : Nat, 20 + first / 72 % 41 = (n : Int) ∧ n ≤ 60 := ⟨(20 + first / 72 % 41).toNat, by omega, by omega⟩
  rotate_left
  obtain ⟨n, hn, hn6⟩ : ∃ n : Nat, first % 9 = (n : Int) ∧ n ≤ 60 := ⟨(first % 9).toNat, by omega, by omega⟩
  rotate_left
  all_goals
    obtain ⟨ms, em, hml⟩ := cut_ints ns (some 9) none
    refine ⟨_, rfl, q, ns, 1, rfl, by decide, hq, fun c1 => ⟨_, rfl, _, rfl, q, _, rfl, hq, fun C hC => ?_⟩⟩
    have sC : Same H (upd H C (.lst (cutV (ns.map V.int) (some 9) none))) := same_new hC _
    refine ⟨C, ms, rfl, SqL.of (by rw [← em]; exact upd_same), _, _, rfl, rfl, _, _, rfl, by omega, by omega, fun p H1 hp s1 P1 => ?_⟩
    have hp0 : H p = none := sC.free hp
    refine ⟨_, rfl, _, rfl, p, n, (by show [V.ref p, V.int _] = [V.ref p, V.int _]; rw [hn]), P1, hn6, fun NL zs H2 hNL hNl hN hzl P2 K2 => ?_⟩
    have s2 : Same H H2 := K2.same (sC.trans s1) hp0
    have hNL0 : H NL = none := (sC.trans s1).free hNL
    refine ⟨(by show 0 ≤ sizeLine; omega), fun L hL => ?_⟩
    have s3 : Same H (upd H2 L (.lst [])) := s2.trans (same_new hL _)
    have nNL : NL ≠ L := ne_of_none hNl hL
    have hL0 : H L = none := s2.free hL
    refine ⟨_, rfl, NL, _, rfl, .inl (SqL.of ((same_new hL _) _ _ hNl)), _, rfl, by omega, by rw [List.length_map]; omega, ?_⟩
    refine for_range (n := ((zs.map V.str).length : Int).toNat) (fun i σ H' => ∃ (ps : List (Str × D)) (us : List V) (mv kv ov : Option V), σ = [some (.ref q), some (.int first), mv, some (.ref p), some (.ref NL), some (.ref L), kv, ov] ∧ Same H H' ∧ H' NL = some (.lst (zs.map V.str)) ∧ H' L = some (.lst us) ∧ L2.IsL H' (ps.map prD) us ∧ ps.map (·.1) = zs.take i ∧ ∀ x ∈ ps, SrcOk x.2)
      ⟨[], [], _, none, none, rfl, s3, (same_new hL _) _ _ hNl, upd_same, rfl, rfl, fun x h => nomatch h⟩ ?_ ?_
    · rintro i σ H' hi ⟨ps, us, mv, kv, ov, rfl, sm, hn', hl', hus, hps, hok⟩
      rw [Int.toNat_natCast, List.length_map] at hi
      refine ⟨_, rfl, _, rfl, _, _, rfl, rfl, (by show (0 : Int) < 7; decide), _, _, rfl, rfl, q, ns, _, rfl, ?_, sm.seq hq, fun c2 => ⟨_, rfl, _, _, rfl, rfl, c2, _, rfl, by omega, by omega, fun o H4 ho s4 P4 => ?_⟩⟩
      · have : 0 ≤ (0 + (i : Int)) % 7 := Int.emod_nonneg _ (by decide)
        omega
      have ho0 : H o = none := sm.free ho
      have noN : o ≠ NL := fun e => by rw [e, hn'] at ho; cases ho
      have noL : o ≠ L := fun e => by rw [e, hl'] at ho; cases ho
      have ei : atI (zs.map V.str) (0 + (i : Int)) = some (V.str zs[i]) := by
        rw [Int.zero_add]
        exact atI_nat (by rw [List.getElem?_map, List.getElem?_eq_getElem hi]; rfl)
      refine ⟨_, rfl, .inl ⟨rfl, _, SqL.of (s4 _ _ hl')⟩, _, rfl, _, rfl, NL, _, _, _, rfl, rfl, SqL.of (s4 _ _ hn'), ei, _, rfl, _, rfl, o, NL, zs, rfl, P4, s4 _ _ hn', noN, hN.1, by omega, fun v d H5 hv hsrc P5 K5 => ⟨(by show 2 ≤ sizeLine; omega), fun t ht => ?_⟩⟩
      have s5 : Same H H5 := K5.same (sm.trans s4) ho0
      have hl5 : H5 L = some (.lst us) := K5 _ _ (s4 _ _ hl') noL.symm
      have hn5 : H5 NL = some (.lst (zs.map V.str)) := K5 _ _ (s4 _ _ hn') noN.symm
      have tk5 : Tk H' H5 := s4.tk.trans (P4.tk P5 K5)
      have lus := hus.length
      have lps : ps.length = i := by
        have := congrArg List.length hps
        rw [List.length_map, List.length_take] at this
        omega
      have st := same_new ht (.tup [V.str zs[i], v])
      refine ⟨L, us, _, rfl, rfl, st _ _ hl5, by rw [lus, List.length_map]; omega, ?_⟩
      have hz := nm_le (hN.1 _ (List.getElem_mem hi))
      have tkL : Tk (upd H5 t (.tup [V.str zs[i], v])) (upd (upd H5 t (.tup [V.str zs[i], v])) L (.lst (us ++ [.ref t]))) := Tk.updL (st _ _ hl5)
      have hnew : Is (upd H5 t (.tup [V.str zs[i], v])) (prD (zs[i], d)) (.ref t) := Is.new ⟨_, _, rfl, strI' (z := zs[i]) (by omega), _, _, rfl, hv, rfl⟩ ht
      refine ⟨ps ++ [(zs[i], d)], us ++ [.ref t], _, _, _, rfl, ?_, ?_, upd_same, ?_, ?_, ?_⟩
      · intro b ob e
        rw [upd_ne (ne_of_none e hL0)]
        exact (s5.trans st) _ _ e
      · rw [upd_ne nNL]
        exact st _ _ hn5
      · rw [List.map_append]
        exact (((hus.mono tk5).mono st.tk).mono tkL).append (L2.IsL.one (hnew.mono tkL))
      · rw [List.map_append, hps, List.take_add_one, List.getElem?_eq_getElem hi]
        rfl
      · intro x hx
        rcases List.mem_append.mp hx with h | h
        · exact hok x h
        · rw [List.mem_singleton.mp h]
          exact hsrc
    · rintro σ H' ⟨ps, us, mv, kv, ov, rfl, sm, hn', hl', hus, hps, hok⟩
      rw [Int.toNat_natCast, List.length_map, List.take_length] at hps
      have lps : ps.length = zs.length := by
        have := congrArg List.length hps
        rwa [List.length_map] at this
      exact ⟨_, rfl, k L ps us H' hL0 sm hl' hus ⟨by rw [hps]; exact hN, hok⟩ (by omega)⟩
end
end K18

namespace K18
open PySem L2 PyProof.Rows
/-! ### one row in order -/
theorem ge_trans : ∀ a b c : List Nat, Spec.ltCps b a = false → Spec.ltCps c b = false → Spec.ltCps c a = false
  | [], _, [], _, _ => rfl
  | [], _, _ :: _, _, _ => rfl
  | x :: a, [], _, h, _ => by simp [Spec.ltCps] at h
  | x :: a, y :: b, [], _, h => by simp [Spec.ltCps] at h
  | x :: a, y :: b, z :: c, h1, h2 => by
    simp only [Spec.ltCps, Bool.or_eq_false_iff, Bool.and_eq_false_iff, decide_eq_false_iff_not, beq_eq_false_iff_ne, ne_eq] at *
    refine ⟨by omega, ?_⟩
    by_cases e : z = x
    · refine .inr (ge_trans a b c ?_ ?_)
      · rcases h1.2 with h | h
        · omega
        · exact h
      · rcases h2.2 with h | h
        · omega
        · exact h
    · exact .inl e
theorem ge_anti : ∀ a b : List Nat, Spec.ltCps a b = false → Spec.ltCps b a = false → a = b
  | [], [], _, _ => rfl
  | [], _ :: _, h, _ => by simp [Spec.ltCps] at h
  | _ :: _, [], _, h => by simp [Spec.ltCps] at h
  | x :: a, y :: b, h1, h2 => by
    simp only [Spec.ltCps, Bool.or_eq_false_iff, Bool.and_eq_false_iff, decide_eq_false_iff_not, beq_eq_false_iff_ne, ne_eq] at *
    have e : x = y := by omega
    subst e
    rw [ge_anti a b (by rcases h1.2 with h | h; exact absurd rfl h; exact h) (by rcases h2.2 with h | h; exact absurd rfl h; exact h)]
theorem rising_pw : ∀ (l : List Str) (p : Str), risingS p l = true → (p :: l).Pairwise (fun a b => Spec.ltCps b.cps.toList a.cps.toList = false)
  | [], p, _ => List.pairwise_singleton ..
  | x :: r, p, h => by
    have h' : (!Spec.ltCps x.cps.toList p.cps.toList && risingS x r) = true := h
    rw [Bool.and_eq_true, Bool.not_eq_true'] at h'
    have ih := rising_pw r x h'.2
    refine List.pairwise_cons.mpr ⟨fun b hb => ?_, ih⟩
    rcases List.mem_cons.mp hb with rfl | hb
    · exact h'.1
    · exact ge_trans _ _ _ h'.1 (List.rel_of_pairwise_cons ih hb)
theorem sorted_pw {l : List Str} (h : sortedS l = true) : l.Pairwise (fun a b => Spec.ltCps b.cps.toList a.cps.toList = false) := by
  cases l with
  | nil => exact List.Pairwise.nil
  | cons x r => exact rising_pw r x h
theorem sorted_one {l m : List Str} (h1 : sortedS l = true) (h2 : sortedS m = true) (h : l.Perm m) : l = m :=
  List.Perm.eq_of_pairwise (fun a b _ _ x y => str_ext (ge_anti _ _ y x)) (sorted_pw h1) (sorted_pw h2) h
/-! ### the table of a project -/
def datOf (ps : List (Str × D)) (z : Str) : D := ((ps.find? fun p => decide (p.1 = z)).map (·.2)).getD .non
def valOf (vs : List (Str × V)) (z : Str) : V := (valV (inrK vs) (Sum.inr z)).getD .non
theorem inrK_cons (p : Str × V) (r : List (Str × V)) : inrK (p :: r) = (Sum.inr p.1, p.2) :: inrK r := rfl
theorem look2 {H : Hp} {z : Str} : ∀ {ps : List (Str × D)} {vs : List (Str × V)}, vs.map (·.1) = ps.map (·.1) → IsL H (ps.map (·.2)) (vs.map (·.2)) → z ∈ ps.map (·.1) → valV (inrK vs) (Sum.inr z) = some (valOf vs z) ∧ Is H (datOf ps z) (valOf vs z)
  | [], _, _, _, h => nomatch h
  | p :: ps, [], e, _, _ => by simp at e
  | p :: ps, v :: vs, e, hi, hz => by
    simp only [List.map_cons, List.cons.injEq] at e
    obtain ⟨u, r, e2, h1, h2⟩ := hi
    simp only [List.map_cons, List.cons.injEq] at e2
    obtain ⟨rfl, rfl⟩ := e2
    by_cases c : p.1 = z
    · have c2 : v.1 = z := e.1.trans c
      have e3 : valV (inrK (v :: vs)) (Sum.inr z) = some v.2 := by
        rw [inrK_cons]
        exact valV_pos (by rw [c2])
      have e4 : datOf (p :: ps) z = p.2 := by simp [datOf, List.find?_cons, c]
      unfold valOf
      rw [e3, e4]
      exact ⟨rfl, h1⟩
    · have c2 : ¬ v.1 = z := fun q => c (e.1.symm.trans q)
      have e3 : valV (inrK (v :: vs)) (Sum.inr z) = valV (inrK vs) (Sum.inr z) := by
        rw [inrK_cons]
        exact valV_neg (fun q => c2 (Sum.inr.inj q))
      have e4 : datOf (p :: ps) z = datOf ps z := by simp [datOf, List.find?_cons, c]
      have hz' : z ∈ ps.map (·.1) := by
        rcases List.mem_cons.mp hz with h | h
        · exact absurd h.symm c
        · exact h
      have ih := look2 e.2 h2 hz'
      unfold valOf at *
      rw [e3, e4]
      exact ih
theorem look0 {z : Str} : ∀ {vs : List (Str × V)}, z ∉ vs.map (·.1) → valV (inrK vs) (Sum.inr z) = none
  | [], _ => rfl
  | v :: vs, h => by
    rw [inrK_cons, valV_neg (fun q => h (by rw [← Sum.inr.inj q]; exact List.mem_cons_self ..))]
    exact look0 fun m => h (List.mem_cons_of_mem _ m)
theorem re_map : ∀ {ps : List (Str × D)}, (ps.map (·.1)).Nodup → (ps.map (·.1)).map (fun z => (z, datOf ps z)) = ps
  | [], _ => rfl
  | p :: ps, h => by
    have h' := List.nodup_cons.mp h
    have e1 : datOf (p :: ps) p.1 = p.2 := by simp [datOf, List.find?_cons]
    rw [List.map_cons, List.map_cons, e1]
    congr 1
    refine Eq.trans (List.map_congr_left fun z hz => ?_) (re_map h'.2)
    have : ¬ p.1 = z := fun q => h'.1 (by show p.1 ∈ _; rw [q]; exact hz)
    simp [datOf, List.find?_cons, this]
def tabOf (ps : List (Str × D)) (ms : List Str) : List (Str × D) := ms.map fun z => (z, datOf ps z)
theorem tab_keys (ps : List (Str × D)) (ms : List Str) : (tabOf ps ms).map (·.1) = ms := by
  unfold tabOf
  rw [List.map_map]
  exact (List.map_congr_left fun _ _ => rfl).trans (List.map_id ms)
theorem tab_perm {ps : List (Str × D)} {ms : List Str} (hn : (ps.map (·.1)).Nodup) (h : ms.Perm (ps.map (·.1))) : (tabOf ps ms).Perm ps := by
  have := h.map fun z => (z, datOf ps z)
  rw [re_map hn] at this
  exact this
/-- an object of the class with this table -/
def ProjAt (C : Addr) (H : Hp) (x : Addr) (qs : List (Str × D)) : Prop := ∃ (dx d : Addr) (o : Obj) (vs : List (Str × V)), H x = some (.ins C dx [("by_name", .ref d)]) ∧ H d = some (.frz o (.dK (inrK vs))) ∧ vs.map (·.1) = qs.map (·.1) ∧ L2.IsL H (qs.map (·.2)) (vs.map (·.2))
theorem ProjAt.same {C : Addr} {H H' : Hp} {x : Addr} {qs : List (Str × D)} (h : ProjAt C H x qs) (s : Same H H') : ProjAt C H' x qs := by
  obtain ⟨dx, d, o, vs, h1, h2, h3, h4⟩ := h
  exact ⟨dx, d, o, vs, s _ _ h1, s _ _ h2, h3, h4.mono s.tk⟩
def TabOk (qs : List (Str × D)) : Prop := PrOk qs ∧ sortedS (qs.map (·.1)) = true ∧ qs.length ≤ 60
theorem Nms.perm {l m : List Str} (h : Nms m) (p : l.Perm m) : Nms l := ⟨fun z hz => h.1 z (p.mem_iff.mp hz), (p.nodup_iff).mpr h.2⟩
/-! ### a table -/
theorem dat_of {ps : List (Str × D)} {z : Str} {d : D} (hn : (ps.map (·.1)).Nodup) (h : (z, d) ∈ ps) : datOf ps z = d := by
  induction ps with
  | nil => cases h
  | cons p r ih =>
    have hn' := List.nodup_cons.mp hn
    rcases List.mem_cons.mp h with h | h
    · subst h
      simp [datOf, List.find?_cons]
    · have : ¬ p.1 = z := fun q => hn'.1 (by show p.1 ∈ _; rw [q]; exact List.mem_map.mpr ⟨_, h, rfl⟩)
      have ih' := ih hn'.2 h
      simpa [datOf, List.find?_cons, this] using ih'
theorem dat_mem {ps : List (Str × D)} {z : Str} (hn : (ps.map (·.1)).Nodup) (h : z ∈ ps.map (·.1)) : (z, datOf ps z) ∈ ps := by
  obtain ⟨p, hp, rfl⟩ := List.mem_map.mp h
  rw [dat_of hn (show (p.1, p.2) ∈ ps from hp)]
  exact hp
theorem dat_perm {qs ps : List (Str × D)} {z : Str} (hn : (ps.map (·.1)).Nodup) (hp : qs.Perm ps) (h : z ∈ ps.map (·.1)) : datOf qs z = datOf ps z := by
  have hq : (qs.map (·.1)).Nodup := ((hp.map _).nodup_iff).mpr hn
  exact dat_of hq (hp.mem_iff.mpr (dat_mem hn h))
theorem tab_eq {qs ps : List (Str × D)} (hn : (ps.map (·.1)).Nodup) (hp : qs.Perm ps) : tabOf ps (qs.map (·.1)) = qs := by
  have hq : (qs.map (·.1)).Nodup := ((hp.map _).nodup_iff).mpr hn
  refine Eq.trans ?_ (re_map hq)
  unfold tabOf
  refine List.map_congr_left fun z hz => ?_
  rw [dat_perm hn hp ((hp.map _).mem_iff.mp hz)]
/-- a dict with these pairs -/
def DatAt (H : Hp) (d : Addr) (ps : List (Str × D)) : Prop := ∃ vs : List (Str × V), Rd H d (.dK (inrK vs)) ∧ vs.map (·.1) = ps.map (·.1) ∧ L2.IsL H (ps.map (·.2)) (vs.map (·.2))
theorem rd_same {H H' : Hp} {d : Addr} {u : HO} (h : Rd H d u) (s : Same H H') : Rd H' d u := by
  rcases h with h | ⟨o, h⟩
  · exact .inl (s _ _ h)
  · exact .inr ⟨o, s _ _ h⟩
/-- the pairs of a list -/
theorem pairs_at {H : Hp} : ∀ {ps : List (Str × D)} {us : List V}, L2.IsL H (ps.map prD) us → ∃ (ts : List Addr) (vs : List (Str × V)), us = ts.map V.ref ∧ ts.length = vs.length ∧ (∀ (i : Nat) (t : Addr) (p : Str × V), ts[i]? = some t → vs[i]? = some p → H t = some (.tup [.str p.1, p.2])) ∧ vs.map (·.1) = ps.map (·.1) ∧ L2.IsL H (ps.map (·.2)) (vs.map (·.2))
  | [], us, h => ⟨[], [], h, rfl, fun i t p h => by simp at h, rfl, rfl⟩
  | p :: r, us, h => by
    obtain ⟨v, q, rfl, hv, h2⟩ := h
    obtain ⟨t, ws, rfl, ht, x1, r1, rfl, ⟨rfl, hz⟩, x2, r2, rfl, h4, h5⟩ := hv
    cases (show r2 = [] from h5)
    obtain ⟨ts, vs, rfl, e1, e2, e3, e4⟩ := pairs_at h2
    refine ⟨t :: ts, (p.1, x2) :: vs, rfl, by simp [e1], fun i t' p' h6 h7 => ?_, by simp [e3], ⟨_, _, rfl, h4, e4⟩⟩
    cases i with
    | zero =>
      cases h6
      cases h7
      exact ht
    | succ i => exact e2 i t' p' (by simpa using h6) (by simpa using h7)
theorem prD_lw {l : List (Str × D)} (hN : ∀ p ∈ l, nm p.1 = true) (hS : ∀ p ∈ l, SrcOk p.2) : lw (.tup (l.map prD)) = true ∧ dp (.tup (l.map prD)) ≤ 16 := by
  have key : ∀ l : List (Str × D), (∀ p ∈ l, nm p.1 = true) → (∀ p ∈ l, SrcOk p.2) → lwL (l.map prD) = true ∧ dpL (l.map prD) ≤ 14 := by
    intro l
    induction l with
    | nil => exact fun _ _ => ⟨rfl, by simp [dpL]⟩
    | cons p r ih =>
      intro h1 h2
      obtain ⟨i1, i2⟩ := ih (fun q hq => h1 q (List.mem_cons_of_mem _ hq)) fun q hq => h2 q (List.mem_cons_of_mem _ hq)
      have g1 := okN_all (nm_okN (h1 p (List.mem_cons_self ..)))
      have g2 := h2 p (List.mem_cons_self ..)
      have g3 := src_dp g2
      refine ⟨?_, ?_⟩
      · rw [List.map_cons]
        simp only [lwL, prD, lw, g1, g2.2.2, i1]
        rfl
      · rw [List.map_cons]
        simp only [dpL, prD, dp]
        omega
  obtain ⟨h1, h2⟩ := key l hN hS
  exact ⟨by simpa only [lw] using h1, by simp only [dp]; omega⟩
/-! ### what is told of a project -/
def ODDS : List D := [.tup [.str "leaf", .int 7], .tup [.str "made", .str "1a"], .tup [.str "Rule", .str "a"], .tup []]
theorem odd_no : ∀ d ∈ ODDS, isSrc d = false := by
  intro d hd
  simp only [ODDS, List.mem_cons, List.not_mem_nil, or_false] at hd
  rcases hd with rfl | rfl | rfl | rfl <;> decide +kernel
theorem odd_pu : ∀ d ∈ ODDS, puD d = true ∧ dp d ≤ 60 ∧ okS d = true := by
  intro d hd
  simp only [ODDS, List.mem_cons, List.not_mem_nil, or_false] at hd
  rcases hd with rfl | rfl | rfl | rfl <;> decide +kernel
def ToldOk (ps : List (Str × D)) : Prop := ∀ p ∈ ps, p.1.length ≤ 100 ∧ (SrcOk p.2 ∨ p.2 ∈ ODDS)
def dueG (met : List Str) : List (Str × D) → Str
  | [] => "none"
  | p :: r => if nm p.1 = true then (if isSrc p.2 = true ∧ p.1 ∉ met ∧ met.length ≠ 60 then dueG (met ++ [p.1]) r else "thing") else "name"
theorem told_pu {d : D} (h : SrcOk d ∨ d ∈ ODDS) : puD d = true ∧ dp d ≤ 60 ∧ okS d = true := by
  rcases h with h | h
  · exact ⟨lw_pu h.2.2, by have := src_dp h; omega, src_okS h⟩
  · exact odd_pu d h
theorem told_src {d : D} (h : SrcOk d ∨ d ∈ ODDS) (hs : isSrc d = true) : SrcOk d := by
  rcases h with h | h
  · exact h
  · rw [odd_no d h] at hs
    cases hs
theorem told_in {d : D} (h : SrcOk d ∨ d ∈ ODDS) : (ODDS.any fun e => eqD e d) = !isSrc d := by
  rcases h with h | h
  · rw [h.2.1]
    show _ = false
    rw [List.any_eq_false]
    intro e he c
    have := (eqD_iff (odd_pu e he).1).mp c
    rw [this] at he
    have := odd_no d he
    rw [h.2.1] at this
    cases this
  · rw [odd_no d h]
    show _ = true
    rw [List.any_eq_true]
    exact ⟨d, h, (eqD_iff (odd_pu d h).1).mpr rfl⟩
end K18

namespace K18
open PySem L2 PyProof.Rows
theorem inrK_snoc (vs : List (Str × V)) (z : Str) (v : V) : inrK (vs ++ [(z, v)]) = inrK vs ++ [(Sum.inr z, v)] := by
  unfold inrK
  rw [List.map_append]
  rfl
theorem mapG {α β : Type} (f : α → β) {l : List α} {i : Nat} (h : i < l.length) : (l.map f)[i]? = some (f l[i]) := by
  rw [List.getElem?_map, List.getElem?_eq_getElem h]
  rfl
theorem take1 {α : Type} {l : List α} {i : Nat} (h : i < l.length) : l.take (i + 1) = l.take i ++ [l[i]] := by
  rw [List.take_add_one, List.getElem?_eq_getElem h]
  rfl
theorem TabOk.of {ps : List (Str × D)} {ms : List Str} (h : PrOk ps) (hl : ps.length ≤ 60) (hperm : ms.Perm (ps.map (·.1))) (hs : sortedS ms = true) : TabOk (tabOf ps ms) := by
  have lms := hperm.length_eq
  rw [List.length_map] at lms
  refine ⟨⟨?_, fun p hp => h.2 p ((tab_perm h.1.2 hperm).mem_iff.mp hp)⟩, by rw [tab_keys]; exact hs, by unfold tabOf; rw [List.length_map]; omega⟩
  rw [tab_keys]
  exact h.1.perm hperm
def sp_initX (C bn bt : Addr) : Sp := fun vs H Q E => ∃ (x dx t : Addr) (ps : List (Str × D)) (us : List V), vs = [.ref x, .ref t] ∧ H x = some (.ins C dx []) ∧ H t = some (.tup us) ∧ L2.IsL H (ps.map prD) us ∧ ToldOk ps ∧
  (∀ (qs : List (Str × D)) (H' : Hp), (∀ b o, H b = some o → b ≠ x → H' b = some o) → ProjAt C H' x qs → TabOk qs → qs.Perm ps → dueG [] ps = "none" → Q .non H') ∧
  (∀ (e : Addr) (H' : Hp), Same H H' → dueG [] ps = "name" → E (.ref e) (some bn) H') ∧ (∀ (e : Addr) (H' : Hp), Same H H' → dueG [] ps = "thing" → E (.ref e) (some bt) H')
section
variable {P : Program} {w : World} {K : PySem.W.Frag} {mg : Str → Option Value} {base : Heap} {a : Ad} {g : Ga}
theorem ok_init (T : Tx K mg a) (C : Fx K mg g) : FnOk P w K mg base (CX1 P w) 4 a.f_Project_init a.d_Project_init ["self", "sources"] (sp_initX a.c_Project g.bn g.bt) := by
  have G_is_name : FnOk P w K mg base CX0 1 a.f_is_name a.d_is_name ["value"] sp_name := ok_name T
  have G_is_source : FnOk P w K mg base CX0 3 a.f_is_source a.d_is_source ["value"] sp_source := ok_source T
  refine T.F_Project_init.okX sc_Project_init (fun vs H Q E h => ?_) (fun cdv A outer s H vs Q E hr h => ?_)
  · obtain ⟨x, dx, t, ps, us, rfl, _⟩ := h
    rfl
  obtain ⟨x, dx, t, ps, us, rfl, hx, ht, hus, hok, k, kN, kT⟩ := h
  have hs := sizeLine_eq
  refine ⟨_, (@pss_cons _ _ _ _ _ (@ps_set _ _ (2) _ _ _ _ sc_Project_init.nd rfl (Or.inr rfl) (@pe_dnewK _ _) (by first|rfl|exact .inl rfl|exact .inr rfl|exact .inr (.inl rfl)|decide +kernel|(intro _;rfl)) (by first|rfl|exact .inl rfl|exact .inr rfl|exact .inr (.inl rfl)|decide +kernel|(intro _;rfl))) (@pss_cons _ _ _ _ _ (@ps_for _ _ _ _ _ _ _ _ PassesOwn.leaving rfl (@pi_tup _ _ _ _ (pv 1)) (@pg_tup _ _ _ _ _ _ rfl (pgs_cons (@pg_name _ _ (3) _ sc_Project_init.nd rfl (Or.inl rfl) (by first|rfl|exact .inl rfl|exact .inr rfl|exact .inr (.inl rfl)|decide +kernel|(intro _;rfl))) (pgs_cons (@pg_name _ _ (4) _ sc_Project_init.nd rfl (Or.inl rfl) (by first|rfl|exact .inl rfl|exact .inr rfl|exact .inr (.inl rfl)|decide +kernel|(intro _;rfl))) pgs_nil)) (by first|rfl|exact .inl rfl|exact .inr rfl|exact .inr (.inl rfl)|decide +kernel|(intro _;rfl)) (by first|rfl|exact .inl rfl|exact .inr rfl|exact .inr (.inl rfl)|decide +kernel|(intro _;rfl))) (@pss_cons _ _ _ _ _ (@ps_if _ _ _ _ _ _ _ _ (@pt_not _ _ _ _ (@pt_val _ _ _ (@pe_call _ _ _ _ _ _ _ _ _ _ _ _ _ _ _ _ G_is_name (hr.mono (by first | decide | omega)) (by rfl) T.m_is_name T.F_is_name.kp T.b_is_name .nil pass0 (@pa_cons _ _ _ _ _ (pv 3) (@pa_nil _) (by first|rfl|exact .inl rfl|exact .inr rfl|exact .inr (.inl rfl)|decide +kernel|(intro _;rfl))) (by first|rfl|exact .inl rfl|exact .inr rfl|exact .inr (.inl rfl)|decide +kernel|(intro _;rfl)) (by first|rfl|exact .inl rfl|exact .inr rfl|exact .inr (.inl rfl)|decide +kernel|(intro _;rfl)) (by first|rfl|exact .inl rfl|exact .inr rfl|exact .inr (.inl rfl)|decide +kernel|(intro _;rfl))) (by first|rfl|exact .inl rfl|exact .inr rfl|exact .inr (.inl rfl)|decide +kernel|(intro _;rfl)))) (@pss_one _ _ _ (@ps_raise _ _ _ _ _ _ _ _ _ _ _ _ _ _ _ _ _ _ _ _ _ _ C.x_BadName (by rfl) C.m_BadName (@pe_str _ _ _ _) (by first|rfl|exact .inl rfl|exact .inr rfl|exact .inr (.inl rfl)|decide +kernel|(intro _;rfl)) (by first|rfl|exact .inl rfl|exact .inr rfl|exact .inr (.inl rfl)|decide +kernel|(intro _;rfl)))) (@pss_nil _)) (@pss_cons _ _ _ _ _ (@ps_if _ _ _ _ _ _ _ _ (@pt_not _ _ _ _ (@pt_val _ _ _ (@pe_call _ _ _ _ _ _ _ _ _ _ _ _ _ _ _ _ G_is_source (hr.mono (by first | decide | omega)) (by rfl) T.m_is_source T.F_is_source.kp T.b_is_source .nil pass0 (@pa_cons _ _ _ _ _ (pv 4) (@pa_nil _) (by first|rfl|exact .inl rfl|exact .inr rfl|exact .inr (.inl rfl)|decide +kernel|(intro _;rfl))) (by first|rfl|exact .inl rfl|exact .inr rfl|exact .inr (.inl rfl)|decide +kernel|(intro _;rfl)) (by first|rfl|exact .inl rfl|exact .inr rfl|exact .inr (.inl rfl)|decide +kernel|(intro _;rfl)) (by first|rfl|exact .inl rfl|exact .inr rfl|exact .inr (.inl rfl)|decide +kernel|(intro _;rfl))) (by first|rfl|exact .inl rfl|exact .inr rfl|exact .inr (.inl rfl)|decide +kernel|(intro _;rfl)))) (@pss_one _ _ _ (@ps_raise _ _ _ _ _ _ _ _ _ _ _ _ _ _ _ _ _ _ _ _ _ _ C.x_BadThing (by rfl) C.m_BadThing (@pe_str _ _ _ _) (by first|rfl|exact .inl rfl|exact .inr rfl|exact .inr (.inl rfl)|decide +kernel|(intro _;rfl)) (by first|rfl|exact .inl rfl|exact .inr rfl|exact .inr (.inl rfl)|decide +kernel|(intro _;rfl)))) (@pss_nil _)) (@pss_cons _ _ _ _ _ (@ps_if _ _ _ _ _ _ _ _ (@pt_cmp _ _ _ _ _ _ (@pc_din _ _ _ _ _ (hu_of hr) (pv 3) (pv 2)) (by first|rfl|exact .inl rfl|exact .inr rfl|exact .inr (.inl rfl)|decide +kernel|(intro _;rfl))) (@pss_one _ _ _ (@ps_raise _ _ _ _ _ _ _ _ _ _ _ _ _ _ _ _ _ _ _ _ _ _ C.x_BadThing (by rfl) C.m_BadThing (@pe_str _ _ _ _) (by first|rfl|exact .inl rfl|exact .inr rfl|exact .inr (.inl rfl)|decide +kernel|(intro _;rfl)) (by first|rfl|exact .inl rfl|exact .inr rfl|exact .inr (.inl rfl)|decide +kernel|(intro _;rfl)))) (@pss_nil _)) (@pss_cons _ _ _ _ _ (@ps_if _ _ _ _ _ _ _ _ (@pt_cmpR _ _ _ _ _ _ _ _ (@op_eq _) (@pe_callB _ _ _ _ _ _ _ _ _ (@call_lenD _) (by rfl) T.z_len PySem.boot_len (@pa_cons _ _ _ _ _ (pv 2) (@pa_nil _) (by first|rfl|exact .inl rfl|exact .inr rfl|exact .inr (.inl rfl)|decide +kernel|(intro _;rfl))) (by first|rfl|exact .inl rfl|exact .inr rfl|exact .inr (.inl rfl)|decide +kernel|(intro _;rfl)) (by first|rfl|exact .inl rfl|exact .inr rfl|exact .inr (.inl rfl)|decide +kernel|(intro _;rfl)) (by first|rfl|exact .inl rfl|exact .inr rfl|exact .inr (.inl rfl)|decide +kernel|(intro _;rfl)) (by first|rfl|exact .inl rfl|exact .inr rfl|exact .inr (.inl rfl)|decide +kernel|(intro _;rfl))) (@pe_gI _ _ _ _ (by rfl) T.m_MOST_NAMES (by first|rfl|exact .inl rfl|exact .inr rfl|exact .inr (.inl rfl)|decide +kernel|(intro _;rfl))) (nomark _)) (@pss_one _ _ _ (@ps_raise _ _ _ _ _ _ _ _ _ _ _ _ _ _ _ _ _ _ _ _ _ _ C.x_BadThing (by rfl) C.m_BadThing (@pe_str _ _ _ _) (by first|rfl|exact .inl rfl|exact .inr rfl|exact .inr (.inl rfl)|decide +kernel|(intro _;rfl)) (by first|rfl|exact .inl rfl|exact .inr rfl|exact .inr (.inl rfl)|decide +kernel|(intro _;rfl)))) (@pss_nil _)) (@pss_one _ _ _ (@ps_dput _ _ _ _ _ _ _ _ _ (hu_of hr) (pv 2) (pv 3) (pv 4) rfl)))))) (by first|rfl|exact .inl rfl|exact .inr rfl|exact .inr (.inl rfl)|decide +kernel|(intro _;rfl))) (@pss_one _ _ _ (@ps_fld _ _ _ _ _ _ _ _ (pv 0) (@pe_callTy _ _ _ _ _ _ _ _ _ (@call_dictF _ rfl) (by rfl) T.z_dict boot_dict (@pa_cons _ _ _ _ _ (@pe_lc _ _ (["name", "by_name"]) (1) ([2]) _ _ _ _ _ _ _ _ _ (lcsN (defScope s_Project_init) ["self", "sources", "by_name", "name", "source"]) rfl (@pi_list _ _ _ _ (@pe_callB _ _ _ _ _ _ _ _ _ (@call_sortedD _ rfl) (by rfl) T.z_sorted boot_sorted (@pa_cons _ _ _ _ _ (pv 2) (@pa_nil _) (by first|rfl|exact .inl rfl|exact .inr rfl|exact .inr (.inl rfl)|decide +kernel|(intro _;rfl))) (by first|rfl|exact .inl rfl|exact .inr rfl|exact .inr (.inl rfl)|decide +kernel|(intro _;rfl)) (by first|rfl|exact .inl rfl|exact .inr rfl|exact .inr (.inl rfl)|decide +kernel|(intro _;rfl)) (by first|rfl|exact .inl rfl|exact .inr rfl|exact .inr (.inl rfl)|decide +kernel|(intro _;rfl)) (by first|rfl|exact .inl rfl|exact .inr rfl|exact .inr (.inl rfl)|decide +kernel|(intro _;rfl)))) (fun _ _ _ _ _ _ => (@pg_name _ _ (0) _ (show List.Nodup (["name", "by_name"] : List Str) by decide +kernel) rfl (Or.inl rfl) (by first|rfl|exact .inl rfl|exact .inr rfl|exact .inr (.inl rfl)|decide +kernel|(intro _;rfl)))) (fun _ _ _ _ _ _ => @pif_nil _) (fun _ _ _ _ _ _ => (@pe_tup _ _ _ _ _ (@pa_cons _ _ _ _ _ (pv 0) (@pa_cons _ _ _ _ _ (@pe_dget _ _ _ _ _ _ (hu_of hr) (pv 1) (pv 0) (fun _ _ => rfl)) (@pa_nil _) (by first|rfl|exact .inl rfl|exact .inr rfl|exact .inr (.inl rfl)|decide +kernel|(intro _;rfl))) (by first|rfl|exact .inl rfl|exact .inr rfl|exact .inr (.inl rfl)|decide +kernel|(intro _;rfl))))) (by first|rfl|exact .inl rfl|exact .inr rfl|exact .inr (.inl rfl)|decide +kernel|(intro _;rfl))) (@pa_nil _) (by first|rfl|exact .inl rfl|exact .inr rfl|exact .inr (.inl rfl)|decide +kernel|(intro _;rfl))) (by first|rfl|exact .inl rfl|exact .inr rfl|exact .inr (.inl rfl)|decide +kernel|(intro _;rfl)) (by first|rfl|exact .inl rfl|exact .inr rfl|exact .inr (.inl rfl)|decide +kernel|(intro _;rfl)) (by first|rfl|exact .inl rfl|exact .inr rfl|exact .inr (.inl rfl)|decide +kernel|(intro _;rfl)) (by first|rfl|exact .inl rfl|exact .inr rfl|exact .inr (.inl rfl)|decide +kernel|(intro _;rfl))) rfl)))), ?_⟩
  intro d hd
  have s1 : Same H (upd H d (.dK [])) := same_new hd _
  have ndx : d ≠ x := fun e => by rw [e, hx] at hd; cases hd
  have lus := hus.length
  rw [List.length_map] at lus
  refine ⟨_, rfl, t, rfl, ⟨_, SqT.of (s1 _ _ ht)⟩, for_tup (K := K) (a := t) (xs := us) (fun i σ H' => ∃ (vs : List (Str × V)) (nv sv : Option V), σ = [some (.ref x), some (.ref t), some (.ref d), nv, sv] ∧ Same H H' ∧ H' d = some (.dK (inrK vs)) ∧ vs.map (·.1) = (ps.take i).map (·.1) ∧ L2.IsL H' ((ps.take i).map (·.2)) (vs.map (·.2)) ∧ PrOk (ps.take i) ∧ (ps.take i).length ≤ 60 ∧ dueG ((ps.take i).map (·.1)) (ps.drop i) = dueG [] ps)
    ⟨[], none, none, rfl, s1, upd_same, rfl, rfl, ⟨⟨(fun z h => nomatch h), List.nodup_nil⟩, fun p h => nomatch h⟩, Nat.zero_le _, rfl⟩ (fun i σ H' _ ⟨_, _, _, _, sm, _⟩ => SqT.of (sm _ _ ht)) ?_ ?_⟩
  · rintro i y σ H' hi ⟨vs, nv, sv, rfl, sm, hd', hk, hv, hpr, h60, hdu⟩
    have hil : i < us.length := (List.getElem?_eq_some_iff.mp hi).1
    have hip : i < ps.length := by omega
    obtain ⟨v, e1, e2⟩ := hus.get (mapG prD hip)
    rw [hi] at e1
    cases e1
    obtain ⟨hz100, hsd⟩ := hok _ (List.getElem_mem hip)
    obtain ⟨_, _, hokS⟩ := told_pu hsd
    have hstep : dueG ((ps.take i).map (·.1)) (ps.drop i) = if nm ps[i].1 = true then (if isSrc ps[i].2 = true ∧ ps[i].1 ∉ (ps.take i).map (·.1) ∧ ((ps.take i).map (·.1)).length ≠ 60 then dueG ((ps.take i).map (·.1) ++ [ps[i].1]) (ps.drop (i + 1)) else "thing") else "name" := by
      rw [List.drop_eq_getElem_cons hip]
      rfl
    rw [hstep] at hdu
    have lvs : vs.length = i := by
      have := congrArg List.length hk
      rw [List.length_map, List.length_map, List.length_take] at this
      omega
    have lti : (ps.take i).length = i := by rw [List.length_take]; omega
    obtain ⟨p, ws, rfl, hp, w1, r1, rfl, ⟨rfl, hz⟩, w2, r2, rfl, h2, h3⟩ := e2
    cases (show r2 = [] from h3)
    have hp' := sm _ _ hp
    refine ⟨p, _, rfl, SqT.of hp', rfl, _, _, rfl, _, _, rfl, rfl, ?_⟩
    refine ⟨_, rfl, _, .str ps[i].1, rfl, ⟨rfl, hz⟩, fun H3 s3 => ⟨_, rfl, ?_⟩⟩
    cases hnm : nm ps[i].1 with
    | false =>
      rw [if_neg (by rw [hnm]; exact Bool.false_ne_true)] at hdu
      exact iteB (by simp [isNm, hnm]) ⟨rfl, fun e => kN e H3 (sm.trans s3) hdu.symm⟩
    | true =>
    rw [if_pos hnm] at hdu
    refine iteN (by simp [isNm, hnm]) ?_
    have h23 : Is H3 ps[i].2 w2 := h2.mono (sm.trans s3).tk
    refine ⟨_, rfl, w2, ps[i].2, rfl, h23, hokS, fun H4 s4 => ⟨_, rfl, ?_⟩⟩
    have s34 := s3.trans s4
    have hd4 := s34 _ _ hd'
    cases hsr : isSrc ps[i].2 with
    | false =>
      rw [if_neg (fun c => by rw [hsr] at c; cases c.1)] at hdu
      exact iteB rfl ⟨rfl, fun e => kT e H4 (sm.trans s34) hdu.symm⟩
    | true =>
    refine iteN rfl ?_
    have hsrc := told_src hsd hsr
    by_cases nk : ps[i].1 ∈ vs.map (·.1)
    · have nk' := nk
      rw [hk] at nk'
      rw [if_neg (fun c => c.2.1 nk')] at hdu
      have ev := (look2 hk hv nk').1
      exact ⟨_, rfl, _, rfl, d, _, rfl, DGet.k (k := Sum.inr ps[i].1) hd4, _, rfl, iteB (by rw [ev]; rfl) ⟨rfl, fun e => kT e H4 (sm.trans s34) hdu.symm⟩⟩
    have nk' := nk
    rw [hk] at nk'
    have ev := look0 nk
    refine ⟨_, rfl, _, rfl, d, _, rfl, DGet.k (k := Sum.inr ps[i].1) hd4, _, rfl, iteN (by rw [ev]; rfl) ?_⟩
    have elen : (inrK vs).length = i := by
      unfold inrK
      rw [List.length_map]
      exact lvs
    refine ⟨_, rfl, d, _, rfl, hd4, rfl, _, rfl, ?_⟩
    by_cases c60 : i = 60
    · rw [if_neg (fun c => c.2.2 (by rw [List.length_map, lti]; exact c60))] at hdu
      exact iteB (decide_eq_true (by rw [elen, c60]; rfl)) ⟨rfl, fun e => kT e H4 (sm.trans s34) hdu.symm⟩
    · rw [if_pos ⟨hsr, nk', by rw [List.length_map, lti]; exact c60⟩] at hdu
      refine iteN (decide_eq_false fun q => c60 ?_) ?_
      · have := V.int.inj q
        rw [elen] at this
        omega
      have hlt : (inrK vs).length < sizeLine := by omega
      refine ⟨_, rfl, _, rfl, _, rfl, d, _, rfl, DPut.k (k := Sum.inr ps[i].1) hd4 hlt, ?_⟩
      have tk : Tk H4 (upd H4 d (.dK (putK (inrK vs) (Sum.inr ps[i].1) w2))) := Tk.updD hd4
      refine ⟨vs ++ [(ps[i].1, w2)], _, _, rfl, ?_, ?_, ?_, ?_, ?_, ?_, ?_⟩
      · intro b o e
        rw [upd_ne (ne_of_none e hd)]
        exact (sm.trans s34) _ _ e
      · rw [upd_same, putK_new _ ev, inrK_snoc]
      · rw [take1 hip, List.map_append, List.map_append, hk]
        rfl
      · rw [take1 hip, List.map_append, List.map_append]
        exact (((hv.mono s34.tk).mono tk)).append (L2.IsL.one ((h23.mono s4.tk).mono tk))
      · rw [take1 hip]
        refine ⟨⟨fun z hz => ?_, ?_⟩, fun p hp => ?_⟩
        · rw [List.map_append] at hz
          rcases List.mem_append.mp hz with h | h
          · exact hpr.1.1 z h
          · rw [List.mem_singleton.mp h]
            exact hnm
        · rw [List.map_append, List.nodup_append]
          refine ⟨hpr.1.2, List.nodup_cons.mpr ⟨List.not_mem_nil, List.nodup_nil⟩, fun u hu v hv e => ?_⟩
          have e2 : u = ps[i].1 := e.trans (List.mem_singleton.mp hv)
          rw [e2] at hu
          exact nk' hu
        · rcases List.mem_append.mp hp with h | h
          · exact hpr.2 p h
          · rw [List.mem_singleton.mp h]
            exact hsrc
      · rw [List.length_take]
        omega
      · rw [take1 hip, List.map_append]
        exact hdu
  · rintro σ H1 ⟨vs, nv, sv, rfl, sm, hd', hk, hv, hpr, hps, hdu⟩
    rw [lus, List.take_length] at hk hv hpr hps hdu
    rw [List.drop_length] at hdu
    have hok := hpr
    have lvs : vs.length = ps.length := by
      have := congrArg List.length hk
      rwa [List.length_map, List.length_map] at this
    have ekeys : (inrK vs).map (·.1) = (ps.map (·.1)).map Sum.inr := by rw [inrK_keys, hk]
    refine ⟨_, rfl, d, inrK vs, ps.map (·.1), rfl, hd', ekeys, by rw [List.length_map]; omega, fun ms q hperm hsort hq => ⟨q, rfl, ⟨_, SqL.of upd_same⟩, fun A0 hA0 => ?_⟩⟩
    have s2 : Same H1 (upd H1 q (.lst (ms.map V.str))) := same_new hq _
    have lms : ms.length = ps.length := by
      have := hperm.length_eq
      rwa [List.length_map] at this
    refine lc_strs (K := K) (tl := [some (.ref d)]) (fun i ys H' => ∃ ts : List Addr, ys = ts.map V.ref ∧ ts.length = i ∧ Same H1 H' ∧ H' A0 = some (.lst ys) ∧ ∀ (j : Nat) (t : Addr) (z : Str), ts[j]? = some t → ms[j]? = some z → H' t = some (.tup [.str z, valOf vs z])) upd_same (by omega) hA0
      ⟨[], rfl, rfl, s2.trans (same_new hA0 _), upd_same, fun j t z h => by simp at h⟩ ?_ ?_
    · rintro i z ys H' hz ⟨ts, rfl, lts, s3, hA, hts⟩ _ _ _ R r
      have hzm : z ∈ ps.map (·.1) := hperm.mem_iff.mp (List.mem_of_getElem? hz)
      have lk := look2 hk hv hzm
      refine ⟨_, rfl, _, rfl, _, rfl, d, valOf vs z, rfl, ?_, (by show 2 ≤ sizeLine; omega), fun t2 ht2 => ?_⟩
      · have := DGet.k (k := Sum.inr z) (s3 _ _ hd')
        rw [lk.1] at this
        exact this
      · have s4 := same_new ht2 (.tup [V.str z, valOf vs z])
        have ntA : t2 ≠ A0 := fun e => by rw [e, hA] at ht2; cases ht2
        refine r _ _ (s4 _ _ hA) (s4 _ _ (by assumption)) ⟨ts ++ [t2], by rw [List.map_append]; rfl, by rw [List.length_append, lts]; rfl, ?_, upd_same, ?_⟩
        · intro b o e
          have nb : b ≠ A0 := ne_of_none (s2 _ _ e) hA0
          rw [upd_ne nb]
          exact s4 _ _ (s3 _ _ e)
        · intro j t z' h1 h2
          rcases Nat.lt_or_ge j i with hj | hj
          · rw [List.getElem?_append_left (by omega)] at h1
            have := hts j t z' h1 h2
            have nb : t ≠ A0 := fun e => by rw [e, hA] at this; cases this
            rw [upd_ne nb]
            exact s4 _ _ this
          · have hj2 : j = i := by
              have := (List.getElem?_eq_some_iff.mp h1).1
              rw [List.length_append] at this
              have : j < ts.length + 1 := this
              omega
            subst hj2
            rw [hz] at h2
            cases h2
            rw [List.getElem?_append_right (by omega), lts, Nat.sub_self] at h1
            cases h1
            rw [upd_ne ntA]
            exact upd_same
    · rintro ys H2 ⟨ts, rfl, lts, s3, hA, hts⟩ _
      have hnd := hok.1.2
      have hmn : ms.Nodup := hperm.nodup_iff.mpr hnd
      have evk : (ms.map fun z => (z, valOf vs z)).map (·.1) = ms := by
        rw [List.map_map]
        exact (List.map_congr_left fun _ _ => rfl).trans (List.map_id ms)
      refine ⟨A0, ms.map fun z => (z, valOf vs z), rfl, ⟨ts, hA, by rw [List.length_map]; exact lts, fun j t p h1 h2 => ?_⟩, by rw [evk]; exact hmn, by rw [List.length_map]; omega, fun q2 o hq2 => ?_⟩
      · rw [List.getElem?_map] at h2
        cases h3 : ms[j]? with
        | none => rw [h3] at h2; cases h2
        | some z =>
          rw [h3] at h2
          cases h2
          exact hts j t z h1 h3
      · have s4 := same_new hq2 (.frz o (.dK (inrK (ms.map fun z => (z, valOf vs z)))))
        have hx1 : H1 x = some (.ins a.c_Project dx []) := sm _ _ hx
        have hx4 := s4 _ _ (s3 _ _ hx1)
        have nq : q2 ≠ x := fun e => by rw [e, s3 _ _ hx1] at hq2; cases hq2
        refine ⟨_, rfl, x, a.c_Project, dx, [], rfl, hx4, T.C_Project, T.n_Project_by_name, (by show 0 < 1000; decide), ?_⟩
        refine k (tabOf ps ms) _ ?_ ⟨dx, q2, o, ms.map fun z => (z, valOf vs z), upd_same, by rw [upd_ne nq]; exact upd_same, by rw [evk, tab_keys], ?_⟩ (TabOk.of hok hps hperm hsort) (tab_perm hnd hperm) hdu.symm
        · intro b ob e nb
          rw [upd_ne nb]
          exact s4 _ _ (s3 _ _ (sm _ _ e))
        · have tk : Tk H1 (upd (upd H2 q2 (.frz o (.dK (inrK (ms.map fun z => (z, valOf vs z)))))) x (.ins a.c_Project dx (putF "by_name" (.ref q2) []))) := (s3.trans s4).tk.trans (Tk.updI hx4)
          have key : ∀ l : List Str, (∀ z ∈ l, z ∈ ps.map (·.1)) → L2.IsL H1 ((tabOf ps l).map (·.2)) ((l.map fun z => (z, valOf vs z)).map (·.2)) := by
            intro l
            induction l with
            | nil => exact fun _ => rfl
            | cons z r ih => exact fun h => ⟨_, _, rfl, (look2 hk hv (h z (List.mem_cons_self ..))).2, ih fun y hy => h y (List.mem_cons_of_mem _ hy)⟩
          exact (key ms fun z hz => hperm.mem_iff.mp hz).mono tk
end
end K18

namespace K18
open PySem L2 PyProof.Rows
theorem fld_by {v : V} : List.lookup ("by_name" : Str) [(("by_name" : Str), v)] = some v := by simp [List.lookup]
theorem no_sources {v : V} : List.lookup ("sources" : Str) [(("by_name" : Str), v)] = none := by
  have : (("sources" : Str) == "by_name") = false := by decide +kernel
  simp [List.lookup, this]
theorem no_source_of {v : V} : List.lookup ("source_of" : Str) [(("by_name" : Str), v)] = none := by
  have : (("source_of" : Str) == "by_name") = false := by decide +kernel
  simp [List.lookup, this]
def sp_sources (C : Addr) : Sp := fun vs H Q _ => ∃ (x : Addr) (qs : List (Str × D)), vs = [.ref x] ∧ ProjAt C H x qs ∧ TabOk qs ∧ ∀ (v : V) (H' : Hp), Same H H' → Is H' (.tup (qs.map prD)) v → Q v H'
def sp_sourceof (C : Addr) : Sp := fun vs H Q _ => ∃ (x : Addr) (z : Str) (qs : List (Str × D)), vs = [.ref x, .str z] ∧ ProjAt C H x qs ∧ ∀ v : V, (z ∈ qs.map (·.1) → Is H (datOf qs z) v) → (z ∉ qs.map (·.1) → v = .non) → Q v H
theorem prs_is {H : Hp} {qs : List (Str × D)} {vs : List (Str × V)} {ts : List Addr} (hk : vs.map (·.1) = qs.map (·.1)) (hi : L2.IsL H (qs.map (·.2)) (vs.map (·.2))) (hl : ts.length = vs.length) (hz : ∀ p ∈ qs, p.1.length ≤ 100)
    (ht : ∀ (j : Nat) (t : Addr) (p : Str × V), ts[j]? = some t → vs[j]? = some p → H t = some (.tup [.str p.1, p.2])) : L2.IsL H (qs.map prD) (ts.map V.ref) := by
  induction qs generalizing vs ts with
  | nil =>
    have : vs = [] := by simpa using hk
    subst this
    have : ts = [] := by simpa using hl
    subst this
    rfl
  | cons q qs ih =>
    cases vs with
    | nil => simp at hk
    | cons v vs =>
      cases ts with
      | nil => simp at hl
      | cons t ts =>
        simp only [List.map_cons, List.cons.injEq] at hk
        obtain ⟨u, r, e2, h1, h2⟩ := hi
        simp only [List.map_cons, List.cons.injEq] at e2
        obtain ⟨rfl, rfl⟩ := e2
        have e0 := ht 0 t v rfl rfl
        have hq := hz q (List.mem_cons_self ..)
        refine ⟨_, _, rfl, ⟨t, _, rfl, e0, ⟨_, _, rfl, ⟨by rw [hk.1], fits (by omega)⟩, _, _, rfl, h1, rfl⟩⟩, ih hk.2 h2 (by simpa using hl) (fun p hp => hz p (List.mem_cons_of_mem _ hp)) fun j t' p h3 h4 => ht (j + 1) t' p (by simpa using h3) (by simpa using h4)⟩
section
variable {P : Program} {w : World} {K : PySem.W.Frag} {mg : Str → Option Value} {base : Heap} {a : Ad}
theorem ok_sources (T : Tx K mg a) : FnOk P w K mg base CX0 1 a.f_Project_sources a.d_Project_sources ["self"] (sp_sources a.c_Project) := by
  refine T.F_Project_sources.ok sc_Project_sources (fun vs H Q E h => ?_) (fun cdv A outer s H vs Q E hr h => ?_)
  · obtain ⟨x, qs, rfl, _⟩ := h
    rfl
  obtain ⟨x, qs, rfl, ⟨dx, d, o, vs, hx, hd, hk, hv⟩, hT, k⟩ := h
  refine ⟨_, (@pss_one _ _ _ (@ps_ret _ _ _ _ (@pe_tupItems _ _ _ _ _ _ _ _ rfl (by rfl) T.z_tuple boot_tuple (@pe_fld _ _ _ _ _ (pv 0) rfl) (by first|rfl|exact .inl rfl|exact .inr rfl|exact .inr (.inl rfl)|decide +kernel|(intro _;rfl)) (by first|rfl|exact .inl rfl|exact .inr rfl|exact .inr (.inl rfl)|decide +kernel|(intro _;rfl)) (by first|rfl|exact .inl rfl|exact .inr rfl|exact .inr (.inl rfl)|decide +kernel|(intro _;rfl)) (by first|rfl|exact .inl rfl|exact .inr rfl|exact .inr (.inl rfl)|decide +kernel|(intro _;rfl)) (by first|rfl|exact .inl rfl|exact .inr rfl|exact .inr (.inl rfl)|decide +kernel|(intro _;rfl)) (by first|rfl|exact .inl rfl|exact .inr rfl|exact .inr (.inl rfl)|decide +kernel|(intro _;rfl))))), ?_⟩
  refine ⟨_, rfl, x, a.c_Project, dx, _, _, rfl, hx, T.C_Project, T.n_Project_by_name, fld_by, d, inrK vs, rfl, .inr ⟨o, hd⟩, fun t ts H2 s2 _ ht hit => ?_⟩
  refine k _ H2 s2 ⟨t, _, rfl, ht, prs_is hk (hv.mono s2.tk) ?_ (fun p hp => ?_) fun j t' p h1 h2 => ?_⟩
  · have := hit.1
    unfold inrK at this
    rwa [List.length_map] at this
  · have := nm_le (hT.1.1.1 p.1 (List.mem_map.mpr ⟨p, hp, rfl⟩))
    omega
  · have := hit.2 j t' (Sum.inr p.1, p.2) h1 (by unfold inrK; rw [List.getElem?_map, h2]; rfl)
    exact this
theorem ok_sourceof (T : Tx K mg a) : FnOk P w K mg base CX0 1 a.f_Project_source_of a.d_Project_source_of ["self", "name"] (sp_sourceof a.c_Project) := by
  refine T.F_Project_source_of.ok sc_Project_source_of (fun vs H Q E h => ?_) (fun cdv A outer s H vs Q E hr h => ?_)
  · obtain ⟨x, z, qs, rfl, _⟩ := h
    rfl
  obtain ⟨x, z, qs, rfl, ⟨dx, d, o, vs, hx, hd, hk, hv⟩, k⟩ := h
  refine ⟨_, (@pss_one _ _ _ (@ps_ret _ _ _ _ (@pe_dget1 _ _ _ _ _ _ _ (hu_of hr) (@pe_fld _ _ _ _ _ (pv 0) rfl) (pv 1) ⟨rfl, rfl, rfl, rfl⟩))), ?_⟩
  refine ⟨_, rfl, x, a.c_Project, dx, _, _, rfl, hx, T.C_Project, T.n_Project_by_name, fld_by, d, rfl, .inl ⟨_, .inr ⟨o, hd⟩⟩, _, rfl, _, .inl ⟨_, Sum.inr z, .inr ⟨o, hd⟩, rfl, rfl⟩, ?_⟩
  refine k _ (fun c => ?_) fun c => ?_
  · exact (look2 hk hv c).2
  · rw [look0 (by rw [hk]; exact c)]
    rfl
end
end K18

namespace K18
open PySem L2 PyProof.Rows
theorem lc_prs {K : PySem.W.Frag} {q A0 d : Addr} {H1 : Hp} {Q : VK} {ms : List Str} {ps : List (Str × D)} {vs : List (Str × V)} (hq : H1 q = some (.lst (ms.map V.str))) (rd : Rd H1 d (.dK (inrK vs))) (hk : vs.map (·.1) = ps.map (·.1)) (hv : L2.IsL H1 (ps.map (·.2)) (vs.map (·.2))) (hm : ∀ z ∈ ms, z ∈ ps.map (·.1)) (hl : ms.length ≤ 1000) (hA0 : H1 A0 = none)
    (k : ∀ (ts : List Addr) (H2 : Hp), Same H1 H2 → H2 A0 = some (.lst (ts.map V.ref)) → ts.length = ms.length → (∀ (j : Nat) (t : Addr) (z : Str), ts[j]? = some t → ms[j]? = some z → H2 t = some (.tup [.str z, valOf vs z])) → Q (.ref A0) H2) :
    lcGo A0 (Itl K q) (gName 0) tYes (tTup (tCons (tVar 0) (tCons (tDGet (tVar 1) (tVar 0)) tNil))) [none, some (.ref d)] H1 Q := by
  have hs := sizeLine_eq
  refine lc_strs (K := K) (tl := [some (.ref d)]) (fun i ys H' => ∃ ts : List Addr, ys = ts.map V.ref ∧ ts.length = i ∧ Same H1 H' ∧ H' A0 = some (.lst ys) ∧ ∀ (j : Nat) (t : Addr) (z : Str), ts[j]? = some t → ms[j]? = some z → H' t = some (.tup [.str z, valOf vs z])) hq (by omega) hA0
    ⟨[], rfl, rfl, same_new hA0 _, upd_same, fun j t z h => by simp at h⟩ ?_ ?_
  · rintro i z ys H' hz ⟨ts, rfl, lts, s3, hA, hts⟩ _ _ _ R r
    have hzm := hm z (List.mem_of_getElem? hz)
    have lk := look2 hk hv hzm
    refine ⟨_, rfl, _, rfl, _, rfl, d, valOf vs z, rfl, ?_, (by show 2 ≤ sizeLine; omega), fun t2 ht2 => ?_⟩
    · exact .inl ⟨inrK vs, Sum.inr z, rd_same rd s3, rfl, lk.1.symm⟩
    · have s4 := same_new ht2 (.tup [V.str z, valOf vs z])
      have ntA : t2 ≠ A0 := fun e => by rw [e, hA] at ht2; cases ht2
      refine r _ _ (s4 _ _ hA) (s4 _ _ (by assumption)) ⟨ts ++ [t2], by rw [List.map_append]; rfl, by rw [List.length_append, lts]; rfl, ?_, upd_same, ?_⟩
      · intro b o e
        rw [upd_ne (ne_of_none e hA0)]
        exact s4 _ _ (s3 _ _ e)
      · intro j t z' h1 h2
        rcases Nat.lt_or_ge j i with hj | hj
        · rw [List.getElem?_append_left (by omega)] at h1
          have := hts j t z' h1 h2
          have nb : t ≠ A0 := fun e => by rw [e, hA] at this; cases this
          rw [upd_ne nb]
          exact s4 _ _ this
        · have hj2 : j = i := by
            have := (List.getElem?_eq_some_iff.mp h1).1
            rw [List.length_append] at this
            have : j < ts.length + 1 := this
            omega
          subst hj2
          rw [hz] at h2
          cases h2
          rw [List.getElem?_append_right (by omega), lts, Nat.sub_self] at h1
          cases h1
          rw [upd_ne ntA]
          exact upd_same
  · rintro ys H2 ⟨ts, rfl, lts, s3, hA, hts⟩ _
    exact k ts H2 s3 hA lts hts
theorem keysV (vs : List (Str × V)) : ((inrK vs).map fun p => kV p.1) = (vs.map (·.1)).map V.str := by
  unfold inrK
  rw [List.map_map, List.map_map]
  rfl
def sp_same (C : Addr) : Sp := fun vs H Q _ => ∃ (x d : Addr) (qs ps : List (Str × D)), vs = [.ref x, .ref d] ∧ ProjAt C H x qs ∧ TabOk qs ∧ DatAt H d ps ∧ qs.Perm ps ∧ ∀ H', Same H H' → Q (.bl true) H'
section
variable {P : Program} {w : World} {K : PySem.W.Frag} {mg : Str → Option Value} {base : Heap} {a : Ad}
theorem ok_same (T : Tx K mg a) : FnOk P w K mg base CX0 2 a.f_law_same_as a.d_law_same_as ["project", "table"] (sp_same a.c_Project) := by
  have G_Project_sources : FnOk P w K mg base CX0 1 a.f_Project_sources a.d_Project_sources ["self"] (sp_sources a.c_Project) := ok_sources T
  have G_Project_source_of : FnOk P w K mg base CX0 1 a.f_Project_source_of a.d_Project_source_of ["self", "name"] (sp_sourceof a.c_Project) := ok_sourceof T
  refine T.F_law_same_as.ok sc_law_same_as (fun vs H Q E h => ?_) (fun cdv A outer s H vs Q E hr h => ?_)
  · obtain ⟨x, d, qs, ps, rfl, _⟩ := h
    rfl
  obtain ⟨x, d, qs, ps, rfl, hP, hT, ⟨vs, rd, hk, hv⟩, hperm, k⟩ := h
  have hs := sizeLine_eq
  have hlen := hperm.length_eq
  have h60 := hT.2.2
  have hN : Nms (ps.map (·.1)) := hT.1.1.perm (hperm.map _).symm
  refine ⟨_, (@pss_cons _ _ _ _ _ (@ps_set _ _ (2) _ _ _ _ sc_law_same_as.nd rfl (Or.inl rfl) (@pe_callB _ _ _ _ _ _ _ _ _ (@call_sortedS _) (by rfl) T.z_sorted boot_sorted (@pa_cons _ _ _ _ _ (@pe_callTy _ _ _ _ _ _ _ _ _ (@call_listD _ rfl) (by rfl) T.z_list boot_list (@pa_cons _ _ _ _ _ (pv 1) (@pa_nil _) (by first|rfl|exact .inl rfl|exact .inr rfl|exact .inr (.inl rfl)|decide +kernel|(intro _;rfl))) (by first|rfl|exact .inl rfl|exact .inr rfl|exact .inr (.inl rfl)|decide +kernel|(intro _;rfl)) (by first|rfl|exact .inl rfl|exact .inr rfl|exact .inr (.inl rfl)|decide +kernel|(intro _;rfl)) (by first|rfl|exact .inl rfl|exact .inr rfl|exact .inr (.inl rfl)|decide +kernel|(intro _;rfl)) (by first|rfl|exact .inl rfl|exact .inr rfl|exact .inr (.inl rfl)|decide +kernel|(intro _;rfl))) (@pa_nil _) (by first|rfl|exact .inl rfl|exact .inr rfl|exact .inr (.inl rfl)|decide +kernel|(intro _;rfl))) (by first|rfl|exact .inl rfl|exact .inr rfl|exact .inr (.inl rfl)|decide +kernel|(intro _;rfl)) (by first|rfl|exact .inl rfl|exact .inr rfl|exact .inr (.inl rfl)|decide +kernel|(intro _;rfl)) (by first|rfl|exact .inl rfl|exact .inr rfl|exact .inr (.inl rfl)|decide +kernel|(intro _;rfl)) (by first|rfl|exact .inl rfl|exact .inr rfl|exact .inr (.inl rfl)|decide +kernel|(intro _;rfl))) (by first|rfl|exact .inl rfl|exact .inr rfl|exact .inr (.inl rfl)|decide +kernel|(intro _;rfl)) (by first|rfl|exact .inl rfl|exact .inr rfl|exact .inr (.inl rfl)|decide +kernel|(intro _;rfl))) (@pss_cons _ _ _ _ _ (@ps_set _ _ (3) _ _ _ _ sc_law_same_as.nd rfl (Or.inl rfl) (@pe_callTy _ _ _ _ _ _ _ _ _ (@call_tuple_of _) (by rfl) T.z_tuple boot_tuple (@pa_cons _ _ _ _ _ (@pe_lc _ _ (["name", "table"]) (1) ([1]) _ _ _ _ _ _ _ _ _ (lcsN (defScope s_law_same_as) ["project", "table", "names", "due"]) rfl (@pi_list _ _ _ _ (pv 2)) (fun _ _ _ _ _ _ => (@pg_name _ _ (0) _ (show List.Nodup (["name", "table"] : List Str) by decide +kernel) rfl (Or.inl rfl) (by first|rfl|exact .inl rfl|exact .inr rfl|exact .inr (.inl rfl)|decide +kernel|(intro _;rfl)))) (fun _ _ _ _ _ _ => @pif_nil _) (fun _ _ _ _ _ _ => (@pe_tup _ _ _ _ _ (@pa_cons _ _ _ _ _ (pv 0) (@pa_cons _ _ _ _ _ (@pe_dget _ _ _ _ _ _ (hu_of hr) (pv 1) (pv 0) (fun _ _ => rfl)) (@pa_nil _) (by first|rfl|exact .inl rfl|exact .inr rfl|exact .inr (.inl rfl)|decide +kernel|(intro _;rfl))) (by first|rfl|exact .inl rfl|exact .inr rfl|exact .inr (.inl rfl)|decide +kernel|(intro _;rfl))))) (by first|rfl|exact .inl rfl|exact .inr rfl|exact .inr (.inl rfl)|decide +kernel|(intro _;rfl))) (@pa_nil _) (by first|rfl|exact .inl rfl|exact .inr rfl|exact .inr (.inl rfl)|decide +kernel|(intro _;rfl))) (by first|rfl|exact .inl rfl|exact .inr rfl|exact .inr (.inl rfl)|decide +kernel|(intro _;rfl)) (by first|rfl|exact .inl rfl|exact .inr rfl|exact .inr (.inl rfl)|decide +kernel|(intro _;rfl)) (by first|rfl|exact .inl rfl|exact .inr rfl|exact .inr (.inl rfl)|decide +kernel|(intro _;rfl)) (by first|rfl|exact .inl rfl|exact .inr rfl|exact .inr (.inl rfl)|decide +kernel|(intro _;rfl))) (by first|rfl|exact .inl rfl|exact .inr rfl|exact .inr (.inl rfl)|decide +kernel|(intro _;rfl)) (by first|rfl|exact .inl rfl|exact .inr rfl|exact .inr (.inl rfl)|decide +kernel|(intro _;rfl))) (@pss_cons _ _ _ _ _ (@ps_if _ _ _ _ _ _ _ _ (@pw_or _ _ _ _ _ _ _ (@pt_cmpR _ _ _ _ _ _ _ _ (@op_neD _ hr.units) (@pe_meth0 _ _ _ _ _ _ _ _ _ _ _ _ _ _ _ _ _ (pv 0) T.C_Project T.h_Project_sources G_Project_sources (hr.mono (by first | decide | omega)) T.b_Project_sources .nil pass0 (by first|rfl|exact .inl rfl|exact .inr rfl|exact .inr (.inl rfl)|decide +kernel|(intro _;rfl))) (pv 3) (nomark _)) (@pw_or1 _ _ _ _ (@pt_not _ _ _ _ (@pt_val _ _ _ (@pe_callB _ _ _ _ _ _ _ _ _ (@call_isinst _ _ rfl) (by rfl) T.z_isinstance boot_isinstance (@pa_cons _ _ _ _ _ (@pe_meth0 _ _ _ _ _ _ _ _ _ _ _ _ _ _ _ _ _ (pv 0) T.C_Project T.h_Project_sources G_Project_sources (hr.mono (by first | decide | omega)) T.b_Project_sources .nil pass0 (by first|rfl|exact .inl rfl|exact .inr rfl|exact .inr (.inl rfl)|decide +kernel|(intro _;rfl))) (@pa_cons _ _ _ _ _ (@pe_bltn _ _ (.ty "tuple") _ _ (by rfl) T.z_tuple boot_tuple rfl (by first|rfl|exact .inl rfl|exact .inr rfl|exact .inr (.inl rfl)|decide +kernel|(intro _;rfl)) (by first|rfl|exact .inl rfl|exact .inr rfl|exact .inr (.inl rfl)|decide +kernel|(intro _;rfl))) (@pa_nil _) (by first|rfl|exact .inl rfl|exact .inr rfl|exact .inr (.inl rfl)|decide +kernel|(intro _;rfl))) (by first|rfl|exact .inl rfl|exact .inr rfl|exact .inr (.inl rfl)|decide +kernel|(intro _;rfl))) (by first|rfl|exact .inl rfl|exact .inr rfl|exact .inr (.inl rfl)|decide +kernel|(intro _;rfl)) (by first|rfl|exact .inl rfl|exact .inr rfl|exact .inr (.inl rfl)|decide +kernel|(intro _;rfl)) (by first|rfl|exact .inl rfl|exact .inr rfl|exact .inr (.inl rfl)|decide +kernel|(intro _;rfl)) (by first|rfl|exact .inl rfl|exact .inr rfl|exact .inr (.inl rfl)|decide +kernel|(intro _;rfl))) (by first|rfl|exact .inl rfl|exact .inr rfl|exact .inr (.inl rfl)|decide +kernel|(intro _;rfl)))))).pt (@pss_one _ _ _ (@ps_ret _ _ _ _ (@pe_bl _ _ _ _))) (@pss_nil _)) (@pss_one _ _ _ (@ps_ret _ _ _ _ (@pe_callB _ _ _ _ _ _ _ _ _ (@call_allL _ rfl) (by rfl) T.z_all boot_all (@pa_cons _ _ _ _ _ (@pe_lc _ _ (["name", "table", "project"]) (1) ([1, 0]) _ _ _ _ _ _ _ _ _ (lcsN (defScope s_law_same_as) ["project", "table", "names", "due"]) rfl (@pi_list _ _ _ _ (pv 2)) (fun _ _ _ _ _ _ => (@pg_name _ _ (0) _ (show List.Nodup (["name", "table", "project"] : List Str) by decide +kernel) rfl (Or.inl rfl) (by first|rfl|exact .inl rfl|exact .inr rfl|exact .inr (.inl rfl)|decide +kernel|(intro _;rfl)))) (fun _ _ _ _ _ _ => @pif_nil _) (fun _ _ _ _ _ _ => (@pe_cmpR _ _ _ _ _ _ _ _ (@op_eqD _ hr.units) (@pe_meth _ _ _ _ _ _ _ _ _ _ _ _ _ _ _ _ _ _ _ _ (pv 2) T.C_Project T.h_Project_source_of G_Project_source_of (hr.mono (by first | decide | omega)) T.b_Project_source_of .nil pass0 (@pa_cons _ _ _ _ _ (pv 0) (@pa_nil _) (by first|rfl|exact .inl rfl|exact .inr rfl|exact .inr (.inl rfl)|decide +kernel|(intro _;rfl))) (by first|rfl|exact .inl rfl|exact .inr rfl|exact .inr (.inl rfl)|decide +kernel|(intro _;rfl)) (by first|rfl|exact .inl rfl|exact .inr rfl|exact .inr (.inl rfl)|decide +kernel|(intro _;rfl)) (by first|rfl|exact .inl rfl|exact .inr rfl|exact .inr (.inl rfl)|decide +kernel|(intro _;rfl))) (@pe_dget _ _ _ _ _ _ (hu_of hr) (pv 1) (pv 0) (fun _ _ => rfl)) (nomark _))) (by first|rfl|exact .inl rfl|exact .inr rfl|exact .inr (.inl rfl)|decide +kernel|(intro _;rfl))) (@pa_nil _) (by first|rfl|exact .inl rfl|exact .inr rfl|exact .inr (.inl rfl)|decide +kernel|(intro _;rfl))) (by first|rfl|exact .inl rfl|exact .inr rfl|exact .inr (.inl rfl)|decide +kernel|(intro _;rfl)) (by first|rfl|exact .inl rfl|exact .inr rfl|exact .inr (.inl rfl)|decide +kernel|(intro _;rfl)) (by first|rfl|exact .inl rfl|exact .inr rfl|exact .inr (.inl rfl)|decide +kernel|(intro _;rfl)) (by first|rfl|exact .inl rfl|exact .inr rfl|exact .inr (.inl rfl)|decide +kernel|(intro _;rfl)))))))), ?_⟩
  refine ⟨_, rfl, d, inrK vs, rfl, rd, fun l hl => ⟨l, ps.map (·.1), rfl, SqL.of (by rw [upd_same, keysV, hk]), by rw [List.length_map]; omega, fun ms q hpm hsort hq => ?_⟩⟩
  have s1 := (same_new hl (.lst ((inrK vs).map fun p => kV p.1))).trans (same_new hq (.lst (ms.map V.str)))
  have lms := hpm.length_eq
  rw [List.length_map] at lms
  have hmem : ∀ z ∈ ms, z ∈ ps.map (·.1) := fun z hz => hpm.mem_iff.mp hz
  have ems : ms = qs.map (·.1) := sorted_one hsort hT.2.1 (hpm.trans (hperm.map _).symm)
  refine ⟨_, rfl, q, rfl, ⟨_, SqL.of upd_same⟩, fun A0 hA0 => ?_⟩
  refine lc_prs upd_same (rd_same rd s1) hk (hv.mono s1.tk) hmem (by omega) hA0 fun ts H2 s2 hA lts hts => ?_
  refine ⟨A0, ts.map V.ref, rfl, .inl ⟨SqL.of hA, fun D0 hD0 => ?_⟩⟩
  have s3 := s2.trans (same_new hD0 (.tup (ts.map V.ref)))
  have s13 := s1.trans s3
  -- due
  have hdue : Is (upd H2 D0 (.tup (ts.map V.ref))) (.tup (qs.map prD)) (.ref D0) := by
    refine ⟨D0, _, rfl, upd_same, ?_⟩
    have e : tabOf ps ms = qs := by rw [ems]; exact tab_eq hN.2 hperm
    have key : ∀ l : List Str, (∀ z ∈ l, z ∈ ps.map (·.1)) → L2.IsL H ((tabOf ps l).map (·.2)) ((l.map fun z => (z, valOf vs z)).map (·.2)) := by
      intro l
      induction l with
      | nil => exact fun _ => rfl
      | cons z r ih => exact fun h => ⟨_, _, rfl, (look2 hk hv (h z (List.mem_cons_self ..))).2, ih fun y hy => h y (List.mem_cons_of_mem _ hy)⟩
    have h1 := (key ms hmem).mono s13.tk
    rw [e] at h1
    refine prs_is (vs := ms.map fun z => (z, valOf vs z)) ?_ h1 (by rw [List.length_map]; exact lts) (fun p hp => ?_) fun j t p h2 h3 => ?_
    · rw [List.map_map, ← ems]
      exact (List.map_congr_left fun _ _ => rfl).trans (List.map_id ms)
    · have := nm_le (hT.1.1.1 p.1 (List.mem_map.mpr ⟨p, hp, rfl⟩))
      omega
    · rw [List.getElem?_map] at h3
      cases h4 : ms[j]? with
      | none => rw [h4] at h3; cases h3
      | some z =>
        rw [h4] at h3
        cases h3
        exact (same_new hD0 _) _ _ (hts j t z h2 h4)
  obtain ⟨lwq, dpq⟩ := prD_lw (l := qs) (fun p hp => hT.1.1.1 p.1 (List.mem_map.mpr ⟨p, hp, rfl⟩)) hT.1.2
  have hP3 := hP.same s13
  obtain ⟨dx, dd, o, ws, hx, hrest⟩ := id hP3
  refine ⟨_, rfl, x, dx, _, rfl, hx, no_sources, x, qs, rfl, hP3, hT, fun v H4 s4 hv4 => ⟨_, rfl, _, _, hv4, hdue.mono s4.tk, lw_tr lwq, lw_tr lwq, by omega, _, rfl, ?_⟩⟩
  rw [(eqD_iff (lw_pu lwq)).mpr rfl]
  refine iteF ?_
  have hP4 := hP3.same s4
  refine ⟨_, rfl, x, dx, _, rfl, s4 _ _ hx, no_sources, x, qs, rfl, hP4, hT, fun v5 H5 s5 hv5 => ⟨v5, "tuple", _, true, rfl, hv5.ty, kit_tup _, _, rfl, iteF ?_⟩⟩
  have s15 := (s13.trans s4).trans s5
  have hP5 := hP4.same s5
  have hq5 : H5 q = some (.lst (ms.map V.str)) := s5 _ _ (s4 _ _ (s3 _ _ upd_same))
  refine ⟨_, rfl, q, rfl, ⟨_, SqL.of hq5⟩, fun B0 hB0 => ?_⟩
  refine lc_strs (K := K) (tl := [some (.ref d), some (.ref x)]) (fun i ys H' => ys = (List.replicate i true).map V.bl ∧ Same H5 H') hq5 (by omega) hB0 ⟨rfl, same_new hB0 _⟩ ?_ ?_
  · rintro i z ys H' hz ⟨rfl, s6⟩ hB1 hq1 _ R r
    have hzm := hmem z (List.mem_of_getElem? hz)
    have hzq : z ∈ qs.map (·.1) := (hperm.map _).mem_iff.mpr hzm
    have lk := look2 hk hv hzm
    have hsd : SrcOk (datOf ps z) := hT.1.2 _ (hperm.mem_iff.mpr (dat_mem hN.2 hzm))
    have hdp := src_dp hsd
    refine ⟨_, rfl, x, dx, _, rfl, s6 _ _ (s5 _ _ (s4 _ _ hx)), no_source_of, _, rfl, x, z, qs, rfl, hP5.same s6, fun v h1 _ => ?_⟩
    have h1' := h1 hzq
    rw [dat_perm hN.2 hperm hzm] at h1'
    refine ⟨_, rfl, _, rfl, d, valOf vs z, rfl, .inl ⟨inrK vs, Sum.inr z, rd_same rd (s15.trans s6), rfl, lk.1.symm⟩, _, _, h1', lk.2.mono (s15.trans s6).tk, lw_tr hsd.2.2, lw_tr hsd.2.2, by omega, ?_⟩
    have e9 : eqD (datOf ps z) (datOf ps z) = true := (eqD_iff (lw_pu hsd.2.2)).mpr rfl
    rw [e9]
    refine r _ _ hB1 hq1 ⟨?_, fun b ob e => ?_⟩
    · rw [List.replicate_succ', List.map_append]
      rfl
    · rw [upd_ne (ne_of_none e hB0)]
      exact s6 _ _ e
  · rintro ys H6 ⟨rfl, s6⟩ hB1
    refine ⟨B0, List.replicate ms.length true, rfl, SqL.of hB1, ?_⟩
    rw [show (List.replicate ms.length true).all id = true by rw [List.all_eq_true]; exact fun b hb => (List.mem_replicate.mp hb).2]
    exact k H6 (s15.trans s6)
end
end K18

namespace K18
open PySem L2 PyProof.Rows
/-- the parts of a row that pass a test -/
theorem lc_tupF {K : PySem.W.Frag} {b A : Addr} {H1 : Hp} {tc : TT} {te : TE} {tl : L2.St} {Q : VK} {ds : List D} {vs : List V} (p : D → Bool) (ha : H1 b = some (.tup vs)) (hl : L2.IsL H1 ds vs) (hn : ds.length ≤ sizeLine) (hA : H1 A = none)
    (htc : ∀ d x H (R : Bool → Hp → Prop), d ∈ ds → Same H1 H → Is H d x → R (p d) H → tc (some x :: tl) H R)
    (hte : ∀ x H (R : VK), R x H → te (some x :: tl) H R)
    (hQ : ∀ H' ys, Same H1 H' → H' A = some (.lst ys) → L2.IsL H' (ds.filter p) ys → Q (.ref A) H') : lcGo A (Itt K b) (gName 0) tc te (none :: tl) H1 Q := by
  have ln := hl.length
  refine ⟨ds.length, fun i σ ys H => (∃ w, σ = w :: tl) ∧ L2.IsL H ((ds.take i).filter p) ys ∧ Same H1 H, hn, ⟨⟨none, rfl⟩, rfl, same_new hA _⟩, ?_, ?_⟩
  · rintro i σ ys H hi ⟨⟨w, rfl⟩, hys, sm⟩ hA' hyl
    have hiv : i < vs.length := by omega
    refine ⟨⟨vs, vs[i], SqT.of (sm _ _ ha), List.getElem?_eq_getElem hiv⟩, ?_⟩
    rintro x H' ⟨rfl, hx⟩
    have e := hx vs (SqT.of (sm _ _ ha))
    obtain ⟨v, e1, e2⟩ := hl.get (List.getElem?_eq_getElem hi)
    rw [e] at e1
    cases e1
    have et : ds.take (i + 1) = ds.take i ++ [ds[i]] := by rw [List.take_add_one, List.getElem?_eq_getElem hi]; rfl
    dsimp only [gName, List.set]
    refine htc ds[i] x H' _ (List.getElem_mem hi) sm (e2.mono sm.tk) ?_
    cases hp : p ds[i] with
    | true =>
      refine iteT (hte x H' _ ⟨hA', ⟨_, rfl⟩, ?_, fun c o e => ?_⟩)
      · rw [et, List.filter_append]
        have : [ds[i]].filter p = [ds[i]] := by simp [hp]
        rw [this]
        have t : Tk H' (upd H' A (.lst (ys ++ [x]))) := Tk.updL hA'
        exact (hys.mono t).append (L2.IsL.one ((e2.mono sm.tk).mono t))
      · rw [upd_ne (ne_of_none e hA)]
        exact sm _ _ e
    | false =>
      refine iteF ⟨hA', ⟨_, rfl⟩, ?_, sm⟩
      rw [et, List.filter_append]
      have : [ds[i]].filter p = [] := by simp [hp]
      rw [this, List.append_nil]
      exact hys
  · rintro σ ys H ⟨_, hys, sm⟩ hA'
    rw [List.take_length] at hys
    exact ⟨⟨vs, SqT.of (sm _ _ ha), by omega⟩, hQ H ys sm hA' hys⟩
theorem cat1 {K : PySem.W.Frag} {H : Hp} {a : Addr} {xs : List V} {x : V} {Q : VK} (ha : H a = some (.tup xs)) (hs : xs.length + 1 ≤ sizeLine) (k : ∀ p H', Same H H' → H' p = some (.tup (xs ++ [x])) → Q (.ref p) H') :
    [x].length ≤ sizeLine ∧ ∀ q, H q = none → rCatG K (.ref a) (.ref q) (upd H q (.tup [x])) Q := by
  refine ⟨by show 1 ≤ sizeLine; omega, fun q hq => ?_⟩
  have s1 : Same H (upd H q (.tup [x])) := same_new hq _
  refine ⟨a, q, xs, [x], rfl, rfl, SqT.of (s1 _ _ ha), SqT.of upd_same, hs, fun e => ?_, (fun _ e => by cases e), fun _ _ p hp => ?_⟩
  · refine k q _ s1 ?_
    rw [e]
    exact upd_same
  · exact k p _ (s1.trans (same_new hp _)) upd_same
/-! ### a name put or taken out -/
def flt (qs : List (Str × D)) (z : Str) : List (Str × D) := qs.filter fun p => decide (p.1 ≠ z)
def keyD : D → Str
  | .tup (.str z :: _) => z
  | _ => ""
theorem flt_prD (qs : List (Str × D)) (z : Str) : (qs.map prD).filter (fun d => decide (keyD d ≠ z)) = (flt qs z).map prD := by
  unfold flt
  rw [List.filter_map]
  rfl
theorem flt_not (qs : List (Str × D)) (z : Str) : z ∉ (flt qs z).map (·.1) := fun h => by
  obtain ⟨p, hp, rfl⟩ := List.mem_map.mp h
  have := (List.mem_filter.mp hp).2
  simp at this
theorem flt_ok {qs : List (Str × D)} (h : PrOk qs) (z : Str) : PrOk (flt qs z) := by
  refine ⟨⟨fun y hy => ?_, ?_⟩, fun p hp => h.2 p (List.mem_filter.mp hp).1⟩
  · obtain ⟨p, hp, rfl⟩ := List.mem_map.mp hy
    exact h.1.1 _ (List.mem_map.mpr ⟨p, (List.mem_filter.mp hp).1, rfl⟩)
  · exact h.1.2.sublist (List.filter_sublist.map _)
theorem flt_len (qs : List (Str × D)) (z : Str) : (flt qs z).length ≤ qs.length := List.length_filter_le ..
theorem PrOk.told {ps : List (Str × D)} (h : PrOk ps) : ToldOk ps := fun p hp => ⟨by have := nm_le (h.1.1 p.1 (List.mem_map.mpr ⟨p, hp, rfl⟩)); omega, .inl (h.2 p hp)⟩
theorem due_app : ∀ (ps r : List (Str × D)) (met : List Str), (∀ z ∈ ps.map (·.1), nm z = true) → (met ++ ps.map (·.1)).Nodup → (∀ p ∈ ps, SrcOk p.2) → met.length + ps.length ≤ 60 → dueG met (ps ++ r) = dueG (met ++ ps.map (·.1)) r
  | [], r, met, _, _, _, _ => by simp
  | p :: ps, r, met, h1, h2, h3, h4 => by
    have hlen : (p :: ps).length = ps.length + 1 := rfl
    show (if nm p.1 = true then (if isSrc p.2 = true ∧ p.1 ∉ met ∧ met.length ≠ 60 then dueG (met ++ [p.1]) (ps ++ r) else "thing") else "name") = _
    have hnm : nm p.1 = true := h1 _ (List.mem_cons_self ..)
    have hnot : p.1 ∉ met := fun m => by
      rw [List.nodup_append] at h2
      exact h2.2.2 _ m _ (List.mem_cons_self ..) rfl
    rw [if_pos hnm, if_pos ⟨(h3 p (List.mem_cons_self ..)).2.1, hnot, by omega⟩]
    rw [due_app ps r (met ++ [p.1]) (fun z hz => h1 z (List.mem_cons_of_mem _ hz)) (by rw [List.append_assoc]; exact h2) (fun q hq => h3 q (List.mem_cons_of_mem _ hq)) (by rw [List.length_append]; show met.length + 1 + ps.length ≤ 60; omega)]
    rw [List.append_assoc]
    rfl
theorem due_put {qs : List (Str × D)} (h : PrOk qs) (hl : qs.length ≤ 60) (z : Str) (e : D) : dueG [] (flt qs z ++ [(z, e)]) = if nm z = true then (if isSrc e = true ∧ (flt qs z).length ≠ 60 then ("none" : Str) else "thing") else "name" := by
  have hf := flt_ok h z
  have := flt_len qs z
  rw [due_app (flt qs z) [(z, e)] [] hf.1.1 (by simpa using hf.1.2) hf.2 (by show 0 + _ ≤ 60; omega)]
  show (if nm z = true then (if isSrc e = true ∧ z ∉ ([] : List Str) ++ (flt qs z).map (·.1) ∧ (([] : List Str) ++ (flt qs z).map (·.1)).length ≠ 60 then ("none" : Str) else "thing") else "name") = _
  have hn := flt_not qs z
  simp only [List.nil_append, List.length_map, hn, not_false_eq_true, true_and]
theorem due_pr {ps : List (Str × D)} (h : PrOk ps) (hl : ps.length ≤ 60) : dueG [] ps = "none" := by
  have := due_app ps [] [] h.1.1 (by simpa using h.1.2) h.2 (by show 0 + ps.length ≤ 60; omega)
  rw [List.append_nil] at this
  rw [this]
  rfl
def sp_with (C bn bt : Addr) : Sp := fun vs H Q E => ∃ (x : Addr) (z : Str) (v : V) (e : D) (qs : List (Str × D)), vs = [.ref x, .str z, v] ∧ ProjAt C H x qs ∧ TabOk qs ∧ Is H e v ∧ z.length ≤ 100 ∧ (SrcOk e ∨ e ∈ ODDS) ∧
  (∀ (y : Addr) (rs : List (Str × D)) (H' : Hp), Same H H' → ProjAt C H' y rs → TabOk rs → rs.Perm (flt qs z ++ [(z, e)]) → dueG [] (flt qs z ++ [(z, e)]) = "none" → Q (.ref y) H') ∧
  (∀ (ea : Addr) (H' : Hp), Same H H' → dueG [] (flt qs z ++ [(z, e)]) = "name" → E (.ref ea) (some bn) H') ∧ (∀ (ea : Addr) (H' : Hp), Same H H' → dueG [] (flt qs z ++ [(z, e)]) = "thing" → E (.ref ea) (some bt) H')
def sp_without (C ng : Addr) : Sp := fun vs H Q E => ∃ (x : Addr) (z : Str) (qs : List (Str × D)), vs = [.ref x, .str z] ∧ ProjAt C H x qs ∧ TabOk qs ∧
  (∀ (y : Addr) (rs : List (Str × D)) (H' : Hp), Same H H' → ProjAt C H' y rs → TabOk rs → rs.Perm (flt qs z) → z ∈ qs.map (·.1) → Q (.ref y) H') ∧ (∀ (ea : Addr) (H' : Hp), Same H H' → z ∉ qs.map (·.1) → E (.ref ea) (some ng) H')
theorem pair_is {H : Hp} {p : Str × D} {x : V} (h : Is H (prD p) x) : ∃ b v, x = .ref b ∧ H b = some (.tup [.str p.1, v]) ∧ Is H p.2 v := by
  obtain ⟨b, ws, rfl, hb, w1, r1, rfl, ⟨rfl, _⟩, w2, r2, rfl, h2, h3⟩ := h
  cases (show r2 = [] from h3)
  exact ⟨b, w2, rfl, hb, h2⟩
theorem src_non {H : Hp} {d : D} {v : V} (h : SrcOk d) (hi : Is H d v) : v ≠ .non := by
  obtain ⟨⟨k, e, rfl⟩, _⟩ := h
  obtain ⟨b, ws, rfl, _⟩ := hi
  exact fun z => by cases z
section
variable {P : Program} {w : World} {K : PySem.W.Frag} {mg : Str → Option Value} {base : Heap} {a : Ad} {g : Ga}
theorem ok_with (T : Tx K mg a) (C : Fx K mg g) : FnOk P w K mg base (CX1 P w) 6 a.f_with_source a.d_with_source ["project", "name", "source"] (sp_with a.c_Project g.bn g.bt) := by
  have G_Project_init : FnOk P w K mg base (CX1 P w) 4 a.f_Project_init a.d_Project_init ["self", "sources"] (sp_initX a.c_Project g.bn g.bt) := ok_init T C
  have G_Project_sources : FnOk P w K mg base CX0 1 a.f_Project_sources a.d_Project_sources ["self"] (sp_sources a.c_Project) := ok_sources T
  refine T.F_with_source.okX sc_with_source (fun vs H Q E h => ?_) (fun cdv A outer s H vs Q E hr h => ?_)
  · obtain ⟨x, z, v, e, qs, rfl, _⟩ := h
    rfl
  obtain ⟨x, z, v, e, qs, rfl, hP, hT, hv, hz, he, k, kN, kT⟩ := h
  have hs := sizeLine_eq
  have h60 := hT.2.2
  obtain ⟨dx, dd, o, ws, hx, hrest⟩ := id hP
  refine ⟨_, (@pss_cons _ _ _ _ _ (@ps_setLC _ _ (["pair", "name"]) (1) ([1]) (3) _ _ _ _ _ _ _ _ _ _ _ _ sc_with_source.nd rfl (Or.inl rfl) (lcsN (defScope s_with_source) ["project", "name", "source", "others"]) rfl (@pi_tupB _ _ _ _ (@pe_meth0 _ _ _ _ _ _ _ _ _ _ _ _ _ _ _ _ _ (pv 0) T.C_Project T.h_Project_sources G_Project_sources (hr.mono (by first | decide | omega)) T.b_Project_sources .nil pass0 (by first|rfl|exact .inl rfl|exact .inr rfl|exact .inr (.inl rfl)|decide +kernel|(intro _;rfl)))) (fun _ _ _ _ _ _ => (@pg_name _ _ (0) _ (show List.Nodup (["pair", "name"] : List Str) by decide +kernel) rfl (Or.inl rfl) (by first|rfl|exact .inl rfl|exact .inr rfl|exact .inr (.inl rfl)|decide +kernel|(intro _;rfl)))) (fun _ _ _ _ _ _ => (@pif_one _ _ _ (@pt_cmpR _ _ _ _ _ _ _ _ (@op_ne _) (@pe_ix _ _ _ _ _ _ _ (@ix_tupK _ (K) rfl) (pv 0) (@pe_int _ _ _ _) (fun _ _ => rfl)) (pv 1) (nomark _)))) (fun _ _ _ _ _ _ => (pv 0)) (by first|rfl|exact .inl rfl|exact .inr rfl|exact .inr (.inl rfl)|decide +kernel|(intro _;rfl)) (by first|rfl|exact .inl rfl|exact .inr rfl|exact .inr (.inl rfl)|decide +kernel|(intro _;rfl)) (by first|rfl|exact .inl rfl|exact .inr rfl|exact .inr (.inl rfl)|decide +kernel|(intro _;rfl))) (@pss_one _ _ _ (@ps_ret _ _ _ _ (@pe_make _ _ _ _ _ _ _ _ _ _ _ _ _ _ _ _ _ T.M_Project G_Project_init (hr.mono (by first | decide | omega)) (by rfl) T.m_Project T.b_Project_init .nil pass1 (@pa_cons _ _ _ _ _ (@pe_op _ _ _ _ _ _ _ _ (@op_catG _) (@pe_callTy _ _ _ _ _ _ _ _ _ (@call_tuple_of _) (by rfl) T.z_tuple boot_tuple (@pa_cons _ _ _ _ _ (pv 3) (@pa_nil _) (by first|rfl|exact .inl rfl|exact .inr rfl|exact .inr (.inl rfl)|decide +kernel|(intro _;rfl))) (by first|rfl|exact .inl rfl|exact .inr rfl|exact .inr (.inl rfl)|decide +kernel|(intro _;rfl)) (by first|rfl|exact .inl rfl|exact .inr rfl|exact .inr (.inl rfl)|decide +kernel|(intro _;rfl)) (by first|rfl|exact .inl rfl|exact .inr rfl|exact .inr (.inl rfl)|decide +kernel|(intro _;rfl)) (by first|rfl|exact .inl rfl|exact .inr rfl|exact .inr (.inl rfl)|decide +kernel|(intro _;rfl))) (@pe_tup _ _ _ _ _ (@pa_cons _ _ _ _ _ (@pe_tup _ _ _ _ _ (@pa_cons _ _ _ _ _ (pv 1) (@pa_cons _ _ _ _ _ (pv 2) (@pa_nil _) (by first|rfl|exact .inl rfl|exact .inr rfl|exact .inr (.inl rfl)|decide +kernel|(intro _;rfl))) (by first|rfl|exact .inl rfl|exact .inr rfl|exact .inr (.inl rfl)|decide +kernel|(intro _;rfl)))) (@pa_nil _) (by first|rfl|exact .inl rfl|exact .inr rfl|exact .inr (.inl rfl)|decide +kernel|(intro _;rfl))))) (@pa_nil _) (by first|rfl|exact .inl rfl|exact .inr rfl|exact .inr (.inl rfl)|decide +kernel|(intro _;rfl))) (by first|rfl|exact .inl rfl|exact .inr rfl|exact .inr (.inl rfl)|decide +kernel|(intro _;rfl)) (by first|rfl|exact .inl rfl|exact .inr rfl|exact .inr (.inl rfl)|decide +kernel|(intro _;rfl)) (by first|rfl|exact .inl rfl|exact .inr rfl|exact .inr (.inl rfl)|decide +kernel|(intro _;rfl)))))), ?_⟩
  refine ⟨_, rfl, x, dx, _, rfl, hx, no_sources, x, qs, rfl, hP, hT, fun v1 H1 s1 hv1 => ?_⟩
  obtain ⟨b1, us1, rfl, hb1, hus1⟩ := hv1
  have lus := hus1.length
  rw [List.length_map] at lus
  refine ⟨b1, us1, rfl, SqT.of hb1, fun _ A0 hA0 => ?_⟩
  refine lc_tupF (tl := [some (.str z)]) (fun d => decide (keyD d ≠ z)) hb1 hus1 (by rw [List.length_map]; omega) hA0 (fun d x1 H2 R hd s2 i2 r => ?_) (fun x1 H2 R r => ⟨_, rfl, r⟩) fun H2 ys s2 hA iy => ?_
  · obtain ⟨p, hp, rfl⟩ := List.mem_map.mp hd
    obtain ⟨b2, w2, rfl, hb2, _⟩ := pair_is i2
    refine ⟨_, rfl, b2, _, _, _, rfl, rfl, SqT.of hb2, rfl, _, rfl, rfl, _, rfl, ?_⟩
    have : (!decide (V.str p.1 = V.str z)) = decide (keyD (prD p) ≠ z) := by
      show (!decide (V.str p.1 = V.str z)) = decide (p.1 ≠ z)
      by_cases c : p.1 = z
      · rw [c]; simp
      · rw [decide_eq_false (fun q => c (V.str.inj q)), decide_eq_true c]; rfl
    rw [this]
    exact r
  rw [flt_prD] at iy
  have lys := iy.length
  rw [List.length_map] at lys
  have lfl := flt_len qs z
  have s12 := s1.trans s2
  refine ⟨_, rfl, A0, ys, rfl, .inl ⟨SqL.of hA, fun t1 h1 => ?_⟩⟩
  have n1 := same_new h1 (.tup ys)
  refine ⟨_, rfl, _, rfl, (by show 2 ≤ sizeLine; omega), fun t2 h2 => ?_⟩
  have n2 := same_new h2 (.tup [V.str z, v])
  have i2 : Is (upd (upd H2 t1 (.tup ys)) t2 (.tup [V.str z, v])) (prD (z, e)) (.ref t2) := Is.new ⟨_, _, rfl, strI' (z := z) (by omega), _, _, rfl, hv.mono (s12.trans n1).tk, rfl⟩ h2
  refine cat1 (K := K) (n2 _ _ upd_same) (by omega) fun p3 H3 s3 hp3 => ?_
  have n12 := (n1.trans n2).trans s3
  have iall : L2.IsL H3 ((flt qs z ++ [(z, e)]).map prD) (ys ++ [V.ref t2]) := by
    rw [List.map_append]
    exact (iy.mono n12.tk).append (L2.IsL.one (i2.mono s3.tk))
  intro y dy ny ndy ney
  have m2 : Same H3 (upd (upd H3 dy (.own y)) y (.ins a.c_Project dy [])) := fun b ob e => by
    rw [upd_ne (ne_of_none e ny), upd_ne (ne_of_none e ndy)]
    exact e
  have s13 := s12.trans n12
  refine ⟨y, dy, p3, flt qs z ++ [(z, e)], _, rfl, upd_same, m2 _ _ hp3, iall.mono m2.tk, fun x hx => ?_, fun rs H4 keep hP4 hT4 hperm hdu => ⟨rfl, ?_⟩, fun ea H4 s4 hdu => kN ea H4 ((s13.trans m2).trans s4) hdu, fun ea H4 s4 hdu => kT ea H4 ((s13.trans m2).trans s4) hdu⟩
  · rcases List.mem_append.mp hx with h | h
    · exact (flt_ok hT.1 z).told x h
    · rw [List.mem_singleton.mp h]
      exact ⟨hz, he⟩
  · have s4 : Same H3 H4 := fun b ob e => keep b ob (m2 _ _ e) (ne_of_none e ny)
    exact k y rs H4 (s13.trans s4) hP4 hT4 hperm hdu
theorem ok_without (T : Tx K mg a) (C : Fx K mg g) : FnOk P w K mg base (CX1 P w) 6 a.f_without a.d_without ["project", "name"] (sp_without a.c_Project g.ng) := by
  have G_Project_init : FnOk P w K mg base (CX1 P w) 4 a.f_Project_init a.d_Project_init ["self", "sources"] (sp_initX a.c_Project g.bn g.bt) := ok_init T C
  have G_Project_sources : FnOk P w K mg base CX0 1 a.f_Project_sources a.d_Project_sources ["self"] (sp_sources a.c_Project) := ok_sources T
  have G_Project_source_of : FnOk P w K mg base CX0 1 a.f_Project_source_of a.d_Project_source_of ["self", "name"] (sp_sourceof a.c_Project) := ok_sourceof T
  refine T.F_without.okX sc_without (fun vs H Q E h => ?_) (fun cdv A outer s H vs Q E hr h => ?_)
  · obtain ⟨x, z, qs, rfl, _⟩ := h
    rfl
  obtain ⟨x, z, qs, rfl, hP, hT, k, kG⟩ := h
  have hs := sizeLine_eq
  have h60 := hT.2.2
  obtain ⟨dx, dd, o, ws, hx, hrest⟩ := id hP
  refine ⟨_, (@pss_cons _ _ _ _ _ (@ps_if _ _ _ _ _ _ _ _ (@pt_cmpR _ _ _ _ _ _ _ _ (@op_isN _) (@pe_meth _ _ _ _ _ _ _ _ _ _ _ _ _ _ _ _ _ _ _ _ (pv 0) T.C_Project T.h_Project_source_of G_Project_source_of (hr.mono (by first | decide | omega)) T.b_Project_source_of .nil pass0 (@pa_cons _ _ _ _ _ (pv 1) (@pa_nil _) (by first|rfl|exact .inl rfl|exact .inr rfl|exact .inr (.inl rfl)|decide +kernel|(intro _;rfl))) (by first|rfl|exact .inl rfl|exact .inr rfl|exact .inr (.inl rfl)|decide +kernel|(intro _;rfl)) (by first|rfl|exact .inl rfl|exact .inr rfl|exact .inr (.inl rfl)|decide +kernel|(intro _;rfl)) (by first|rfl|exact .inl rfl|exact .inr rfl|exact .inr (.inl rfl)|decide +kernel|(intro _;rfl))) (@pe_non _ _ _) (nomark _)) (@pss_one _ _ _ (@ps_raise _ _ _ _ _ _ _ _ _ _ _ _ _ _ _ _ _ _ _ _ _ _ C.x_NoThing (by rfl) C.m_NoThing (@pe_str _ _ _ _) (by first|rfl|exact .inl rfl|exact .inr rfl|exact .inr (.inl rfl)|decide +kernel|(intro _;rfl)) (by first|rfl|exact .inl rfl|exact .inr rfl|exact .inr (.inl rfl)|decide +kernel|(intro _;rfl)))) (@pss_nil _)) (@pss_one _ _ _ (@ps_ret _ _ _ _ (@pe_make _ _ _ _ _ _ _ _ _ _ _ _ _ _ _ _ _ T.M_Project G_Project_init (hr.mono (by first | decide | omega)) (by rfl) T.m_Project T.b_Project_init .nil pass1 (@pa_cons _ _ _ _ _ (@pe_callTy _ _ _ _ _ _ _ _ _ (@call_tuple_of _) (by rfl) T.z_tuple boot_tuple (@pa_cons _ _ _ _ _ (@pe_lc _ _ (["pair", "name"]) (1) ([1]) _ _ _ _ _ _ _ _ _ (lcsN (defScope s_without) ["project", "name"]) rfl (@pi_tupB _ _ _ _ (@pe_meth0 _ _ _ _ _ _ _ _ _ _ _ _ _ _ _ _ _ (pv 0) T.C_Project T.h_Project_sources G_Project_sources (hr.mono (by first | decide | omega)) T.b_Project_sources .nil pass0 (by first|rfl|exact .inl rfl|exact .inr rfl|exact .inr (.inl rfl)|decide +kernel|(intro _;rfl)))) (fun _ _ _ _ _ _ => (@pg_name _ _ (0) _ (show List.Nodup (["pair", "name"] : List Str) by decide +kernel) rfl (Or.inl rfl) (by first|rfl|exact .inl rfl|exact .inr rfl|exact .inr (.inl rfl)|decide +kernel|(intro _;rfl)))) (fun _ _ _ _ _ _ => (@pif_one _ _ _ (@pt_cmpR _ _ _ _ _ _ _ _ (@op_ne _) (@pe_ix _ _ _ _ _ _ _ (@ix_tupK _ (K) rfl) (pv 0) (@pe_int _ _ _ _) (fun _ _ => rfl)) (pv 1) (nomark _)))) (fun _ _ _ _ _ _ => (pv 0)) (by first|rfl|exact .inl rfl|exact .inr rfl|exact .inr (.inl rfl)|decide +kernel|(intro _;rfl))) (@pa_nil _) (by first|rfl|exact .inl rfl|exact .inr rfl|exact .inr (.inl rfl)|decide +kernel|(intro _;rfl))) (by first|rfl|exact .inl rfl|exact .inr rfl|exact .inr (.inl rfl)|decide +kernel|(intro _;rfl)) (by first|rfl|exact .inl rfl|exact .inr rfl|exact .inr (.inl rfl)|decide +kernel|(intro _;rfl)) (by first|rfl|exact .inl rfl|exact .inr rfl|exact .inr (.inl rfl)|decide +kernel|(intro _;rfl)) (by first|rfl|exact .inl rfl|exact .inr rfl|exact .inr (.inl rfl)|decide +kernel|(intro _;rfl))) (@pa_nil _) (by first|rfl|exact .inl rfl|exact .inr rfl|exact .inr (.inl rfl)|decide +kernel|(intro _;rfl))) (by first|rfl|exact .inl rfl|exact .inr rfl|exact .inr (.inl rfl)|decide +kernel|(intro _;rfl)) (by first|rfl|exact .inl rfl|exact .inr rfl|exact .inr (.inl rfl)|decide +kernel|(intro _;rfl)) (by first|rfl|exact .inl rfl|exact .inr rfl|exact .inr (.inl rfl)|decide +kernel|(intro _;rfl)))))), ?_⟩
  refine ⟨_, rfl, x, dx, _, rfl, hx, no_source_of, _, rfl, x, z, qs, rfl, hP, fun v0 g1 g2 => ⟨rfl, _, rfl, ?_⟩⟩
  by_cases c : z ∈ qs.map (·.1)
  · have hv0 : v0 ≠ .non := src_non (hT.1.2 _ (dat_mem hT.1.1.2 c)) (g1 c)
    refine iteN (decide_eq_false hv0) ?_
    refine ⟨_, rfl, x, dx, _, rfl, hx, no_sources, x, qs, rfl, hP, hT, fun v1 H1 s1 hv1 => ?_⟩
    obtain ⟨b1, us1, rfl, hb1, hus1⟩ := hv1
    have lus := hus1.length
    rw [List.length_map] at lus
    refine ⟨b1, us1, rfl, SqT.of hb1, fun _ A0 hA0 => ?_⟩
    refine lc_tupF (tl := [some (.str z)]) (fun d => decide (keyD d ≠ z)) hb1 hus1 (by rw [List.length_map]; omega) hA0 (fun d x1 H2 R hd s2 i2 r => ?_) (fun x1 H2 R r => ⟨_, rfl, r⟩) fun H2 ys s2 hA iy => ?_
    · obtain ⟨p, hp, rfl⟩ := List.mem_map.mp hd
      obtain ⟨b2, w2, rfl, hb2, _⟩ := pair_is i2
      refine ⟨_, rfl, b2, _, _, _, rfl, rfl, SqT.of hb2, rfl, _, rfl, rfl, _, rfl, ?_⟩
      have : (!decide (V.str p.1 = V.str z)) = decide (keyD (prD p) ≠ z) := by
        show (!decide (V.str p.1 = V.str z)) = decide (p.1 ≠ z)
        by_cases c : p.1 = z
        · rw [c]; simp
        · rw [decide_eq_false (fun q => c (V.str.inj q)), decide_eq_true c]; rfl
      rw [this]
      exact r
    rw [flt_prD] at iy
    have lfl := flt_len qs z
    have s12 := s1.trans s2
    refine ⟨A0, ys, rfl, .inl ⟨SqL.of hA, fun t1 h1 => ?_⟩⟩
    have n1 := same_new h1 (.tup ys)
    intro y dy ny ndy ney
    have m2 : Same (upd H2 t1 (.tup ys)) (upd (upd (upd H2 t1 (.tup ys)) dy (.own y)) y (.ins a.c_Project dy [])) := fun b ob e => by
      rw [upd_ne (ne_of_none e ny), upd_ne (ne_of_none e ndy)]
      exact e
    have hd0 := due_pr (flt_ok hT.1 z) (by omega)
    refine ⟨y, dy, t1, flt qs z, ys, rfl, upd_same, m2 _ _ upd_same, iy.mono (n1.trans m2).tk, (flt_ok hT.1 z).told, fun rs H4 keep hP4 hT4 hperm hdu => ⟨rfl, ?_⟩, fun ea H4 s4 hdu => ?_, fun ea H4 s4 hdu => ?_⟩
    · have s4 : Same H2 H4 := fun b ob e => keep b ob ((n1.trans m2) _ _ e) (ne_of_none (n1 _ _ e) ny)
      exact k y rs H4 (s12.trans s4) hP4 hT4 hperm c
    · rw [hd0] at hdu
      exact absurd hdu (by decide +kernel)
    · rw [hd0] at hdu
      exact absurd hdu (by decide +kernel)
  · have hv0 := g2 c
    exact iteB (decide_eq_true hv0) ⟨rfl, fun ea => kG ea H (Same.refl _) c⟩
end
end K18

namespace K18
open PySem L2 PyProof.Rows
def BADN : List Str := ["", "A", "1a", "a b", Txt.mul "c" 25]
theorem bad_nm : ∀ z ∈ BADN, nm z = false ∧ z.length ≤ 100 := by decide +kernel
def NmOk (z : Str) : Prop := nm z = true ∨ z ∈ BADN
theorem NmOk.len {z : Str} (h : NmOk z) : z.length ≤ 100 := by
  rcases h with h | h
  · have := nm_le h; omega
  · exact (bad_nm z h).2
theorem NmOk.bad {z : Str} (h : NmOk z) : decide (z ∈ BADN) = !nm z := by
  rcases h with h | h
  · rw [h, decide_eq_false fun m => by rw [(bad_nm z m).1] at h; cases h]; rfl
  · rw [(bad_nm z h).1, decide_eq_true h]; rfl
def WdOk (w : Str) : Prop := w = "put" ∨ w = "out"
def dD (w z : Str) (e : D) : D := .tup [.str w, .str z, e]
def dueK (w z : Str) (e : D) (ps : List (Str × D)) : Str :=
  if w = "out" then (if z ∈ ps.map (·.1) then "none" else "thing gone") else if nm z = false then "name" else if isSrc e = false ∨ (z ∉ ps.map (·.1) ∧ ps.length = 60) then "thing" else "none"
def TblAt (H : Hp) (d : Addr) (ps : List (Str × D)) : Prop := ∃ vs : List (Str × V), H d = some (.dK (inrK vs)) ∧ vs.map (·.1) = ps.map (·.1) ∧ L2.IsL H (ps.map (·.2)) (vs.map (·.2))
theorem TblAt.same {H H' : Hp} {d : Addr} {ps : List (Str × D)} (h : TblAt H d ps) (s : Same H H') : TblAt H' d ps := by
  obtain ⟨vs, h1, h2, h3⟩ := h
  exact ⟨vs, s _ _ h1, h2, h3.mono s.tk⟩
theorem TblAt.dat {H : Hp} {d : Addr} {ps : List (Str × D)} (h : TblAt H d ps) : DatAt H d ps := by
  obtain ⟨vs, h1, h2, h3⟩ := h
  exact ⟨vs, .inl h1, h2, h3⟩
theorem has_key {H : Hp} {qs : List (Str × D)} {vs : List (Str × V)} (hk : vs.map (·.1) = qs.map (·.1)) (hi : L2.IsL H (qs.map (·.2)) (vs.map (·.2))) (z : Str) : (valV (inrK vs) (Sum.inr z)).isSome = decide (z ∈ qs.map (·.1)) := by
  by_cases c : z ∈ qs.map (·.1)
  · rw [(look2 hk hi c).1, decide_eq_true c]
    rfl
  · rw [look0 (by rw [hk]; exact c), decide_eq_false c]
    rfl
theorem flats (us : List Str) : (us.map V.str).all flatV = true := by
  rw [List.all_map, List.all_eq_true]
  exact fun _ _ => rfl
theorem nk_ok : ∀ k : Nat, k < 61 → nm ("n" ++ strI (k : Int)) = true := by decide +kernel
theorem st1 {H : Hp} {a : Str} (ha : a.length ≤ 1000) : L2.IsL H [.str a] [.str a] := ⟨_, _, rfl, strI' (by omega), rfl⟩
theorem st2 {H : Hp} {a b : Str} (ha : a.length ≤ 1000) (hb : b.length ≤ 1000) : L2.IsL H [.str a, .str b] [.str a, .str b] := ⟨_, _, rfl, strI' (by omega), st1 hb⟩
theorem atI_inv {α : Type} {xs : List α} {n : Nat} {x : α} (h : atI xs (n : Int) = some x) (hn : n < xs.length) : xs[n]? = some x := by
  have e := atI_nat (List.getElem?_eq_getElem hn)
  rw [h] at e
  rw [List.getElem?_eq_getElem hn]
  exact e.symm
def sp_due : Sp := fun vs H Q _ => ∃ (v : V) (d : Addr) (w z : Str) (e : D) (ps : List (Str × D)), vs = [v, .ref d] ∧ Is H (dD w z e) v ∧ WdOk w ∧ NmOk z ∧ (SrcOk e ∨ e ∈ ODDS) ∧ TblAt H d ps ∧ ps.length ≤ 60 ∧ ∀ H', Same H H' → Q (.str (dueK w z e ps)) H'
def sp_deed : Sp := fun vs H Q _ => ∃ (p d : Addr) (ps : List (Str × D)), vs = [.ref p, .ref d] ∧ PotAt H p ∧ TblAt H d ps ∧ PrOk ps ∧ ps.length ≤ 60 ∧ p ≠ d ∧
  ∀ (w z : Str) (e : D) (v : V) (H' : Hp), WdOk w → NmOk z → (SrcOk e ∨ e ∈ ODDS) → Is H' (dD w z e) v → Kept p H H' → Q v H'
section
variable {P : Program} {w : World} {K : PySem.W.Frag} {mg : Str → Option Value} {base : Heap} {a : Ad} {g : Ga}
theorem ok_due (T : Tx K mg a) : FnOk P w K mg base CX0 1 a.f_law_due a.d_law_due ["deed", "table"] sp_due := by
  refine T.F_law_due.ok sc_law_due (fun vs H Q E h => ?_) (fun cdv A outer s H vs Q E hr h => ?_)
  · obtain ⟨v, d, wd, z, e, ps, rfl, _⟩ := h
    rfl
  obtain ⟨v, d, wd, z, e, ps, rfl, hv, hw, hz, he, ⟨vs, hd, hk, hvs⟩, h60, k⟩ := h
  have hs := sizeLine_eq
  have hzl := hz.len
  have lvs : vs.length = ps.length := by
    have := congrArg List.length hk
    rwa [List.length_map, List.length_map] at this
  obtain ⟨b, us, rfl, hb, x1, r1, rfl, ⟨rfl, _⟩, x2, r2, rfl, ⟨rfl, _⟩, x3, r3, rfl, h3, h4⟩ := hv
  cases (show r3 = [] from h4)
  refine ⟨_, (@pss_cons _ _ _ _ _ (@ps_asg _ _ _ _ _ _ (pv 0) (@pg_tup _ _ _ _ _ _ rfl (pgs_cons (@pg_name _ _ (2) _ sc_law_due.nd rfl (Or.inl rfl) (by first|rfl|exact .inl rfl|exact .inr rfl|exact .inr (.inl rfl)|decide +kernel|(intro _;rfl))) (pgs_cons (@pg_name _ _ (3) _ sc_law_due.nd rfl (Or.inl rfl) (by first|rfl|exact .inl rfl|exact .inr rfl|exact .inr (.inl rfl)|decide +kernel|(intro _;rfl))) (pgs_cons (@pg_name _ _ (4) _ sc_law_due.nd rfl (Or.inl rfl) (by first|rfl|exact .inl rfl|exact .inr rfl|exact .inr (.inl rfl)|decide +kernel|(intro _;rfl))) pgs_nil))) (by first|rfl|exact .inl rfl|exact .inr rfl|exact .inr (.inl rfl)|decide +kernel|(intro _;rfl)) (by first|rfl|exact .inl rfl|exact .inr rfl|exact .inr (.inl rfl)|decide +kernel|(intro _;rfl))) (by first|rfl|exact .inl rfl|exact .inr rfl|exact .inr (.inl rfl)|decide +kernel|(intro _;rfl)) (by first|rfl|exact .inl rfl|exact .inr rfl|exact .inr (.inl rfl)|decide +kernel|(intro _;rfl)) (by first|rfl|exact .inl rfl|exact .inr rfl|exact .inr (.inl rfl)|decide +kernel|(intro _;rfl))) (@pss_cons _ _ _ _ _ (@ps_if _ _ _ _ _ _ _ _ (@pt_cmpR _ _ _ _ _ _ _ _ (@op_eq _) (pv 2) (@pe_str _ _ _ _) (nomark _)) (@pss_one _ _ _ (@ps_ret _ _ _ _ (@pe_ix _ _ _ _ _ _ _ (@ix_list _) (@pe_lst _ _ _ _ (@pa_cons _ _ _ _ _ (@pe_str _ _ _ _) (@pa_cons _ _ _ _ _ (@pe_str _ _ _ _) (@pa_nil _) (by first|rfl|exact .inl rfl|exact .inr rfl|exact .inr (.inl rfl)|decide +kernel|(intro _;rfl))) (by first|rfl|exact .inl rfl|exact .inr rfl|exact .inr (.inl rfl)|decide +kernel|(intro _;rfl)))) (@pe_callTy _ _ _ _ _ _ _ _ _ (@call_int1 _) (by rfl) T.z_int boot_int (@pa_cons _ _ _ _ _ (@pe_cmp _ _ _ _ _ _ (@pc_din _ _ _ _ _ (hu_of hr) (pv 3) (pv 1)) (by first|rfl|exact .inl rfl|exact .inr rfl|exact .inr (.inl rfl)|decide +kernel|(intro _;rfl))) (@pa_nil _) (by first|rfl|exact .inl rfl|exact .inr rfl|exact .inr (.inl rfl)|decide +kernel|(intro _;rfl))) (by first|rfl|exact .inl rfl|exact .inr rfl|exact .inr (.inl rfl)|decide +kernel|(intro _;rfl)) (by first|rfl|exact .inl rfl|exact .inr rfl|exact .inr (.inl rfl)|decide +kernel|(intro _;rfl)) (by first|rfl|exact .inl rfl|exact .inr rfl|exact .inr (.inl rfl)|decide +kernel|(intro _;rfl)) (by first|rfl|exact .inl rfl|exact .inr rfl|exact .inr (.inl rfl)|decide +kernel|(intro _;rfl))) (fun _ _ => rfl)))) (@pss_nil _)) (@pss_cons _ _ _ _ _ (@ps_if _ _ _ _ _ _ _ _ (@pt_cmpR _ _ _ _ _ _ _ _ (@op_in_seq _) (pv 3) (@pe_lst _ _ _ _ (@pa_cons _ _ _ _ _ (@pe_str _ _ _ _) (@pa_cons _ _ _ _ _ (@pe_str _ _ _ _) (@pa_cons _ _ _ _ _ (@pe_str _ _ _ _) (@pa_cons _ _ _ _ _ (@pe_str _ _ _ _) (@pa_cons _ _ _ _ _ (@pe_op _ _ _ _ _ _ _ _ (@op_repS _) (@pe_str _ _ _ _) (@pe_int _ _ _ _)) (@pa_nil _) (by first|rfl|exact .inl rfl|exact .inr rfl|exact .inr (.inl rfl)|decide +kernel|(intro _;rfl))) (by first|rfl|exact .inl rfl|exact .inr rfl|exact .inr (.inl rfl)|decide +kernel|(intro _;rfl))) (by first|rfl|exact .inl rfl|exact .inr rfl|exact .inr (.inl rfl)|decide +kernel|(intro _;rfl))) (by first|rfl|exact .inl rfl|exact .inr rfl|exact .inr (.inl rfl)|decide +kernel|(intro _;rfl))) (by first|rfl|exact .inl rfl|exact .inr rfl|exact .inr (.inl rfl)|decide +kernel|(intro _;rfl)))) (by with_unfolding_all rfl)) (@pss_one _ _ _ (@ps_ret _ _ _ _ (@pe_str _ _ _ _))) (@pss_nil _)) (@pss_cons _ _ _ _ _ (@ps_if _ _ _ _ _ _ _ _ (@pw_or _ _ _ _ _ _ _ (@pt_cmpR _ _ _ _ _ _ _ _ (@op_inL _ hr.units) (pv 4) (@pe_lst _ _ _ _ (@pa_cons _ _ _ _ _ (@pe_tup _ _ _ _ _ (@pa_cons _ _ _ _ _ (@pe_str _ _ _ _) (@pa_cons _ _ _ _ _ (@pe_int _ _ _ _) (@pa_nil _) (by first|rfl|exact .inl rfl|exact .inr rfl|exact .inr (.inl rfl)|decide +kernel|(intro _;rfl))) (by first|rfl|exact .inl rfl|exact .inr rfl|exact .inr (.inl rfl)|decide +kernel|(intro _;rfl)))) (@pa_cons _ _ _ _ _ (@pe_tup _ _ _ _ _ (@pa_cons _ _ _ _ _ (@pe_str _ _ _ _) (@pa_cons _ _ _ _ _ (@pe_str _ _ _ _) (@pa_nil _) (by first|rfl|exact .inl rfl|exact .inr rfl|exact .inr (.inl rfl)|decide +kernel|(intro _;rfl))) (by first|rfl|exact .inl rfl|exact .inr rfl|exact .inr (.inl rfl)|decide +kernel|(intro _;rfl)))) (@pa_cons _ _ _ _ _ (@pe_tup _ _ _ _ _ (@pa_cons _ _ _ _ _ (@pe_str _ _ _ _) (@pa_cons _ _ _ _ _ (@pe_str _ _ _ _) (@pa_nil _) (by first|rfl|exact .inl rfl|exact .inr rfl|exact .inr (.inl rfl)|decide +kernel|(intro _;rfl))) (by first|rfl|exact .inl rfl|exact .inr rfl|exact .inr (.inl rfl)|decide +kernel|(intro _;rfl)))) (@pa_cons _ _ _ _ _ (@pe_tup _ _ _ _ _ (@pa_nil _)) (@pa_nil _) (by first|rfl|exact .inl rfl|exact .inr rfl|exact .inr (.inl rfl)|decide +kernel|(intro _;rfl))) (by first|rfl|exact .inl rfl|exact .inr rfl|exact .inr (.inl rfl)|decide +kernel|(intro _;rfl))) (by first|rfl|exact .inl rfl|exact .inr rfl|exact .inr (.inl rfl)|decide +kernel|(intro _;rfl))) (by first|rfl|exact .inl rfl|exact .inr rfl|exact .inr (.inl rfl)|decide +kernel|(intro _;rfl)))) (by with_unfolding_all rfl)) (@pw_or1 _ _ _ _ (@pw_and _ _ _ _ _ _ _ (@pt_cmp _ _ _ _ _ _ (@pc_dnotin _ _ _ _ _ (hu_of hr) (pv 3) (pv 1)) (by first|rfl|exact .inl rfl|exact .inr rfl|exact .inr (.inl rfl)|decide +kernel|(intro _;rfl))) (@pw_and1 _ _ _ _ (@pt_cmpR _ _ _ _ _ _ _ _ (@op_eq _) (@pe_callB _ _ _ _ _ _ _ _ _ (@call_lenD _) (by rfl) T.z_len PySem.boot_len (@pa_cons _ _ _ _ _ (pv 1) (@pa_nil _) (by first|rfl|exact .inl rfl|exact .inr rfl|exact .inr (.inl rfl)|decide +kernel|(intro _;rfl))) (by first|rfl|exact .inl rfl|exact .inr rfl|exact .inr (.inl rfl)|decide +kernel|(intro _;rfl)) (by first|rfl|exact .inl rfl|exact .inr rfl|exact .inr (.inl rfl)|decide +kernel|(intro _;rfl)) (by first|rfl|exact .inl rfl|exact .inr rfl|exact .inr (.inl rfl)|decide +kernel|(intro _;rfl)) (by first|rfl|exact .inl rfl|exact .inr rfl|exact .inr (.inl rfl)|decide +kernel|(intro _;rfl))) (@pe_int _ _ _ _) (nomark _)))).pt)).pt (@pss_one _ _ _ (@ps_ret _ _ _ _ (@pe_str _ _ _ _))) (@pss_nil _)) (@pss_one _ _ _ (@ps_ret _ _ _ _ (@pe_str _ _ _ _))))))), ?_⟩
  refine ⟨_, rfl, b, _, rfl, SqT.of hb, rfl, _, _, rfl, _, _, rfl, _, _, rfl, rfl, ?_⟩
  refine ⟨_, rfl, rfl, _, rfl, ?_⟩
  rcases hw with rfl | rfl
  · -- put
    have ed : ∀ ps, dueK "put" z e ps = if nm z = false then ("name" : Str) else if isSrc e = false ∨ (z ∉ ps.map (·.1) ∧ ps.length = 60) then "thing" else "none" := fun ps => by
      unfold dueK
      rw [if_neg (by decide +kernel)]
    rw [ed] at k
    refine iteN (by decide +kernel) ?_
    refine ⟨_, rfl, _, _, rfl, rfl, mulOk_of (by decide) (by decide) (by decide), (by show 5 ≤ sizeLine; omega), fun q hq => ?_⟩
    have s1 := same_new hq (.lst (BADN.map V.str))
    refine ⟨q, BADN.map V.str, rfl, .inl (SqL.of upd_same), rfl, flats _, _, rfl, ?_⟩
    have e1 : (if false = true then !inV (V.str z) (BADN.map V.str) else inV (V.str z) (BADN.map V.str)) = !nm z := by
      rw [if_neg Bool.false_ne_true, inV_str, hz.bad]
    rw [e1]
    cases hn : nm z with
    | false =>
      rw [if_pos hn] at k
      exact iteT (k _ s1)
    | true =>
      rw [if_neg (by rw [hn]; decide)] at k
      refine iteF ?_
      refine ⟨_, rfl, (by show 2 ≤ sizeLine; omega), fun t1 g1 => ⟨(by show 2 ≤ sizeLine; omega), fun t2 g2 => ⟨(by show 2 ≤ sizeLine; omega), fun t3 g3 => ⟨(by show 0 ≤ sizeLine; omega), fun t4 g4 => ⟨(by show 4 ≤ sizeLine; omega), fun q2 g5 => ?_⟩⟩⟩⟩⟩
      have n1 := same_new g1 (.tup [V.str "leaf", V.int 7])
      have i1 : Is (upd (upd H q (.lst (BADN.map V.str))) t1 (.tup [V.str "leaf", V.int 7])) (.tup [.str "leaf", .int 7]) (.ref t1) := Is.new (show L2.IsL _ [.str "leaf", .int 7] _ from ⟨_, _, rfl, strI' (by decide), _, _, rfl, rfl, rfl⟩) g1
      have n2 := same_new g2 (.tup [V.str "made", V.str "1a"])
      have i2 := Is.new (ds := [.str "made", .str "1a"]) (st2 (by decide) (by decide)) g2
      have n3 := same_new g3 (.tup [V.str "Rule", V.str "a"])
      have i3 := Is.new (ds := [.str "Rule", .str "a"]) (st2 (by decide) (by decide)) g3
      have n4 := same_new g4 (.tup [])
      have i4 := Is.new (ds := []) (show L2.IsL _ [] [] from rfl) g4
      have n5 := same_new g5 (.lst [V.ref t1, V.ref t2, V.ref t3, V.ref t4])
      have s15 := ((((s1.trans n1).trans n2).trans n3).trans n4).trans n5
      have iall := (show L2.IsL _ ODDS [V.ref t1, V.ref t2, V.ref t3, V.ref t4] from ⟨_, _, rfl, i1.mono ((n2.trans n3).trans n4).tk, _, _, rfl, i2.mono (n3.trans n4).tk, _, _, rfl, i3.mono n4.tk, _, _, rfl, i4, rfl⟩).mono n5.tk
      obtain ⟨hpu, hdp, _⟩ := told_pu he
      refine ⟨e, q2, ODDS, _, h3.mono s15.tk, rfl, SqL.of upd_same, iall, hpu, hdp, fun e' he' => ⟨(odd_pu e' he').1, (odd_pu e' he').2.1⟩, _, rfl, ?_⟩
      rw [told_in he]
      have kq := k _ s15
      cases hsr : isSrc e with
      | false =>
        rw [if_pos (.inl hsr)] at kq
        exact iteT (iteT kq)
      | true =>
        refine iteF ⟨_, rfl, _, rfl, d, _, rfl, DGet.k (k := Sum.inr z) (s15 _ _ hd), _, rfl, ?_⟩
        rw [has_key hk hvs]
        by_cases c : z ∈ ps.map (·.1)
        · rw [if_neg (fun q => by rcases q with q | q; rw [hsr] at q; cases q; exact q.1 c)] at kq
          rw [decide_eq_true c]
          exact iteF (iteF kq)
        · rw [decide_eq_false c]
          refine iteT ⟨_, rfl, d, _, rfl, s15 _ _ hd, rfl, _, rfl, ?_⟩
          have el : (inrK vs).length = ps.length := by unfold inrK; rw [List.length_map]; exact lvs
          by_cases c60 : ps.length = 60
          · rw [if_pos (.inr ⟨c, c60⟩)] at kq
            exact iteB (decide_eq_true (by rw [el, c60]; rfl)) kq
          · rw [if_neg (fun q => by rcases q with q | q; rw [hsr] at q; cases q; exact c60 q.2)] at kq
            exact iteN (decide_eq_false fun q => c60 (by have := V.int.inj q; omega)) kq
  · -- out
    have ed : ∀ ps, dueK "out" z e ps = if z ∈ ps.map (·.1) then ("none" : Str) else "thing gone" := fun ps => by
      unfold dueK
      rw [if_pos rfl]
    rw [ed] at k
    refine iteB (decide_eq_true rfl) ?_
    refine ⟨(by show 2 ≤ sizeLine; omega), fun q hq => ?_⟩
    have s1 := same_new hq (.lst [V.str "thing gone", V.str "none"])
    refine ⟨_, rfl, _, rfl, d, _, rfl, DGet.k (k := Sum.inr z) (s1 _ _ hd), .inr ⟨_, rfl, ?_⟩⟩
    rw [has_key hk hvs]
    have kq := k _ s1
    by_cases c : z ∈ ps.map (·.1)
    · rw [if_pos c] at kq
      rw [decide_eq_true c]
      exact ⟨q, _, _, _, rfl, rfl, SqL.of upd_same, rfl, kq⟩
    · rw [if_neg c] at kq
      rw [decide_eq_false c]
      exact ⟨q, _, _, _, rfl, rfl, SqL.of upd_same, rfl, kq⟩
end
end K18

namespace K18
open PySem L2 PyProof.Rows
theorem keysV' (vs : List (Str × V)) : ((inrK vs).map fun p => kV p.1) = (vs.map (·.1)).map V.str := keysV vs
section
variable {P : Program} {w : World} {K : PySem.W.Frag} {mg : Str → Option Value} {base : Heap} {a : Ad} {g : Ga}
theorem ok_deed (T : Tx K mg a) : FnOk P w K mg base CX0 156 a.f_law_deed a.d_law_deed ["pot", "table"] sp_deed := by
  have G_law_take : FnOk P w K mg base CX0 1 a.f_law_take a.d_law_take ["pot", "many"] sp_take := ok_take T
  have G_law_source : FnOk P w K mg base CX0 155 a.f_law_source a.d_law_source ["pot", "names"] sp_lsource := ok_lsource T
  refine T.F_law_deed.ok sc_law_deed (fun vs H Q E h => ?_) (fun cdv A outer s H vs Q E hr h => ?_)
  · obtain ⟨p, d, ps, rfl, _⟩ := h
    rfl
  obtain ⟨p, d, ps, rfl, P0, ⟨vs, hd, hk, hvs⟩, hok, h60, npd, k⟩ := h
  have hs := sizeLine_eq
  have lvs : vs.length = ps.length := by
    have := congrArg List.length hk
    rwa [List.length_map, List.length_map] at this
  have el : (inrK vs).length = ps.length := by unfold inrK; rw [List.length_map]; exact lvs
  refine ⟨_, (@pss_cons _ _ _ _ _ (@ps_set _ _ (2) _ _ _ _ sc_law_deed.nd rfl (Or.inl rfl) (@pe_op _ _ _ _ _ _ _ _ (@op_cat _) (@pe_callB _ _ _ _ _ _ _ _ _ (@call_sortedS _) (by rfl) T.z_sorted boot_sorted (@pa_cons _ _ _ _ _ (@pe_callTy _ _ _ _ _ _ _ _ _ (@call_listD _ rfl) (by rfl) T.z_list boot_list (@pa_cons _ _ _ _ _ (pv 1) (@pa_nil _) (by first|rfl|exact .inl rfl|exact .inr rfl|exact .inr (.inl rfl)|decide +kernel|(intro _;rfl))) (by first|rfl|exact .inl rfl|exact .inr rfl|exact .inr (.inl rfl)|decide +kernel|(intro _;rfl)) (by first|rfl|exact .inl rfl|exact .inr rfl|exact .inr (.inl rfl)|decide +kernel|(intro _;rfl)) (by first|rfl|exact .inl rfl|exact .inr rfl|exact .inr (.inl rfl)|decide +kernel|(intro _;rfl)) (by first|rfl|exact .inl rfl|exact .inr rfl|exact .inr (.inl rfl)|decide +kernel|(intro _;rfl))) (@pa_nil _) (by first|rfl|exact .inl rfl|exact .inr rfl|exact .inr (.inl rfl)|decide +kernel|(intro _;rfl))) (by first|rfl|exact .inl rfl|exact .inr rfl|exact .inr (.inl rfl)|decide +kernel|(intro _;rfl)) (by first|rfl|exact .inl rfl|exact .inr rfl|exact .inr (.inl rfl)|decide +kernel|(intro _;rfl)) (by first|rfl|exact .inl rfl|exact .inr rfl|exact .inr (.inl rfl)|decide +kernel|(intro _;rfl)) (by first|rfl|exact .inl rfl|exact .inr rfl|exact .inr (.inl rfl)|decide +kernel|(intro _;rfl))) (@pe_lst _ _ _ _ (@pa_cons _ _ _ _ _ (@pe_op _ _ _ _ _ _ _ _ (@op_add_str _) (@pe_str _ _ _ _) (@pe_callTy _ _ _ _ _ _ _ _ _ (@call_str_int _) (by rfl) T.z_str boot_str (@pa_cons _ _ _ _ _ (@pe_callB _ _ _ _ _ _ _ _ _ (@call_lenD _) (by rfl) T.z_len PySem.boot_len (@pa_cons _ _ _ _ _ (pv 1) (@pa_nil _) (by first|rfl|exact .inl rfl|exact .inr rfl|exact .inr (.inl rfl)|decide +kernel|(intro _;rfl))) (by first|rfl|exact .inl rfl|exact .inr rfl|exact .inr (.inl rfl)|decide +kernel|(intro _;rfl)) (by first|rfl|exact .inl rfl|exact .inr rfl|exact .inr (.inl rfl)|decide +kernel|(intro _;rfl)) (by first|rfl|exact .inl rfl|exact .inr rfl|exact .inr (.inl rfl)|decide +kernel|(intro _;rfl)) (by first|rfl|exact .inl rfl|exact .inr rfl|exact .inr (.inl rfl)|decide +kernel|(intro _;rfl))) (@pa_nil _) (by first|rfl|exact .inl rfl|exact .inr rfl|exact .inr (.inl rfl)|decide +kernel|(intro _;rfl))) (by first|rfl|exact .inl rfl|exact .inr rfl|exact .inr (.inl rfl)|decide +kernel|(intro _;rfl)) (by first|rfl|exact .inl rfl|exact .inr rfl|exact .inr (.inl rfl)|decide +kernel|(intro _;rfl)) (by first|rfl|exact .inl rfl|exact .inr rfl|exact .inr (.inl rfl)|decide +kernel|(intro _;rfl)) (by first|rfl|exact .inl rfl|exact .inr rfl|exact .inr (.inl rfl)|decide +kernel|(intro _;rfl)))) (@pa_cons _ _ _ _ _ (@pe_str _ _ _ _) (@pa_nil _) (by first|rfl|exact .inl rfl|exact .inr rfl|exact .inr (.inl rfl)|decide +kernel|(intro _;rfl))) (by first|rfl|exact .inl rfl|exact .inr rfl|exact .inr (.inl rfl)|decide +kernel|(intro _;rfl))))) (by first|rfl|exact .inl rfl|exact .inr rfl|exact .inr (.inl rfl)|decide +kernel|(intro _;rfl)) (by first|rfl|exact .inl rfl|exact .inr rfl|exact .inr (.inl rfl)|decide +kernel|(intro _;rfl))) (@pss_cons _ _ _ _ _ (@ps_set _ _ (3) _ _ _ _ sc_law_deed.nd rfl (Or.inl rfl) (@pe_ix _ _ _ _ _ _ _ (@ix_list _) (pv 2) (@pe_call _ _ _ _ _ _ _ _ _ _ _ _ _ _ _ _ G_law_take (hr.mono (by first | decide | omega)) (by rfl) T.m_law_take T.F_law_take.kp T.b_law_take .nil pass0 (@pa_cons _ _ _ _ _ (pv 0) (@pa_cons _ _ _ _ _ (@pe_callB _ _ _ _ _ _ _ _ _ (@call_len_seq _) (by rfl) T.z_len PySem.boot_len (@pa_cons _ _ _ _ _ (pv 2) (@pa_nil _) (by first|rfl|exact .inl rfl|exact .inr rfl|exact .inr (.inl rfl)|decide +kernel|(intro _;rfl))) (by first|rfl|exact .inl rfl|exact .inr rfl|exact .inr (.inl rfl)|decide +kernel|(intro _;rfl)) (by first|rfl|exact .inl rfl|exact .inr rfl|exact .inr (.inl rfl)|decide +kernel|(intro _;rfl)) (by first|rfl|exact .inl rfl|exact .inr rfl|exact .inr (.inl rfl)|decide +kernel|(intro _;rfl)) (by first|rfl|exact .inl rfl|exact .inr rfl|exact .inr (.inl rfl)|decide +kernel|(intro _;rfl))) (@pa_nil _) (by first|rfl|exact .inl rfl|exact .inr rfl|exact .inr (.inl rfl)|decide +kernel|(intro _;rfl))) (by first|rfl|exact .inl rfl|exact .inr rfl|exact .inr (.inl rfl)|decide +kernel|(intro _;rfl))) (by first|rfl|exact .inl rfl|exact .inr rfl|exact .inr (.inl rfl)|decide +kernel|(intro _;rfl)) (by first|rfl|exact .inl rfl|exact .inr rfl|exact .inr (.inl rfl)|decide +kernel|(intro _;rfl)) (by first|rfl|exact .inl rfl|exact .inr rfl|exact .inr (.inl rfl)|decide +kernel|(intro _;rfl))) (fun _ _ => rfl)) (by first|rfl|exact .inl rfl|exact .inr rfl|exact .inr (.inl rfl)|decide +kernel|(intro _;rfl)) (by first|rfl|exact .inl rfl|exact .inr rfl|exact .inr (.inl rfl)|decide +kernel|(intro _;rfl))) (@pss_cons _ _ _ _ _ (@ps_if _ _ _ _ _ _ _ _ (@pt_cmpR _ _ _ _ _ _ _ _ (@op_eq _) (@pe_call _ _ _ _ _ _ _ _ _ _ _ _ _ _ _ _ G_law_take (hr.mono (by first | decide | omega)) (by rfl) T.m_law_take T.F_law_take.kp T.b_law_take .nil pass0 (@pa_cons _ _ _ _ _ (pv 0) (@pa_cons _ _ _ _ _ (@pe_int _ _ _ _) (@pa_nil _) (by first|rfl|exact .inl rfl|exact .inr rfl|exact .inr (.inl rfl)|decide +kernel|(intro _;rfl))) (by first|rfl|exact .inl rfl|exact .inr rfl|exact .inr (.inl rfl)|decide +kernel|(intro _;rfl))) (by first|rfl|exact .inl rfl|exact .inr rfl|exact .inr (.inl rfl)|decide +kernel|(intro _;rfl)) (by first|rfl|exact .inl rfl|exact .inr rfl|exact .inr (.inl rfl)|decide +kernel|(intro _;rfl)) (by first|rfl|exact .inl rfl|exact .inr rfl|exact .inr (.inl rfl)|decide +kernel|(intro _;rfl))) (@pe_int _ _ _ _) (nomark _)) (@pss_one _ _ _ (@ps_set _ _ (3) _ _ _ _ sc_law_deed.nd rfl (Or.inl rfl) (@pe_ix _ _ _ _ _ _ _ (@ix_list _) (@pe_lst _ _ _ _ (@pa_cons _ _ _ _ _ (@pe_str _ _ _ _) (@pa_cons _ _ _ _ _ (@pe_str _ _ _ _) (@pa_cons _ _ _ _ _ (@pe_str _ _ _ _) (@pa_cons _ _ _ _ _ (@pe_str _ _ _ _) (@pa_cons _ _ _ _ _ (@pe_op _ _ _ _ _ _ _ _ (@op_repS _) (@pe_str _ _ _ _) (@pe_int _ _ _ _)) (@pa_nil _) (by first|rfl|exact .inl rfl|exact .inr rfl|exact .inr (.inl rfl)|decide +kernel|(intro _;rfl))) (by first|rfl|exact .inl rfl|exact .inr rfl|exact .inr (.inl rfl)|decide +kernel|(intro _;rfl))) (by first|rfl|exact .inl rfl|exact .inr rfl|exact .inr (.inl rfl)|decide +kernel|(intro _;rfl))) (by first|rfl|exact .inl rfl|exact .inr rfl|exact .inr (.inl rfl)|decide +kernel|(intro _;rfl))) (by first|rfl|exact .inl rfl|exact .inr rfl|exact .inr (.inl rfl)|decide +kernel|(intro _;rfl)))) (@pe_call _ _ _ _ _ _ _ _ _ _ _ _ _ _ _ _ G_law_take (hr.mono (by first | decide | omega)) (by rfl) T.m_law_take T.F_law_take.kp T.b_law_take .nil pass0 (@pa_cons _ _ _ _ _ (pv 0) (@pa_cons _ _ _ _ _ (@pe_int _ _ _ _) (@pa_nil _) (by first|rfl|exact .inl rfl|exact .inr rfl|exact .inr (.inl rfl)|decide +kernel|(intro _;rfl))) (by first|rfl|exact .inl rfl|exact .inr rfl|exact .inr (.inl rfl)|decide +kernel|(intro _;rfl))) (by first|rfl|exact .inl rfl|exact .inr rfl|exact .inr (.inl rfl)|decide +kernel|(intro _;rfl)) (by first|rfl|exact .inl rfl|exact .inr rfl|exact .inr (.inl rfl)|decide +kernel|(intro _;rfl)) (by first|rfl|exact .inl rfl|exact .inr rfl|exact .inr (.inl rfl)|decide +kernel|(intro _;rfl))) (fun _ _ => rfl)) (by first|rfl|exact .inl rfl|exact .inr rfl|exact .inr (.inl rfl)|decide +kernel|(intro _;rfl)) (by first|rfl|exact .inl rfl|exact .inr rfl|exact .inr (.inl rfl)|decide +kernel|(intro _;rfl)))) (@pss_nil _)) (@pss_cons _ _ _ _ _ (@ps_set _ _ (4) _ _ _ _ sc_law_deed.nd rfl (Or.inl rfl) (@pe_call _ _ _ _ _ _ _ _ _ _ _ _ _ _ _ _ G_law_source (hr.mono (by first | decide | omega)) (by rfl) T.m_law_source T.F_law_source.kp T.b_law_source .nil pass0 (@pa_cons _ _ _ _ _ (pv 0) (@pa_cons _ _ _ _ _ (pv 2) (@pa_nil _) (by first|rfl|exact .inl rfl|exact .inr rfl|exact .inr (.inl rfl)|decide +kernel|(intro _;rfl))) (by first|rfl|exact .inl rfl|exact .inr rfl|exact .inr (.inl rfl)|decide +kernel|(intro _;rfl))) (by first|rfl|exact .inl rfl|exact .inr rfl|exact .inr (.inl rfl)|decide +kernel|(intro _;rfl)) (by first|rfl|exact .inl rfl|exact .inr rfl|exact .inr (.inl rfl)|decide +kernel|(intro _;rfl)) (by first|rfl|exact .inl rfl|exact .inr rfl|exact .inr (.inl rfl)|decide +kernel|(intro _;rfl))) (by first|rfl|exact .inl rfl|exact .inr rfl|exact .inr (.inl rfl)|decide +kernel|(intro _;rfl)) (by first|rfl|exact .inl rfl|exact .inr rfl|exact .inr (.inl rfl)|decide +kernel|(intro _;rfl))) (@pss_cons _ _ _ _ _ (@ps_if _ _ _ _ _ _ _ _ (@pt_cmpR _ _ _ _ _ _ _ _ (@op_eq _) (@pe_call _ _ _ _ _ _ _ _ _ _ _ _ _ _ _ _ G_law_take (hr.mono (by first | decide | omega)) (by rfl) T.m_law_take T.F_law_take.kp T.b_law_take .nil pass0 (@pa_cons _ _ _ _ _ (pv 0) (@pa_cons _ _ _ _ _ (@pe_int _ _ _ _) (@pa_nil _) (by first|rfl|exact .inl rfl|exact .inr rfl|exact .inr (.inl rfl)|decide +kernel|(intro _;rfl))) (by first|rfl|exact .inl rfl|exact .inr rfl|exact .inr (.inl rfl)|decide +kernel|(intro _;rfl))) (by first|rfl|exact .inl rfl|exact .inr rfl|exact .inr (.inl rfl)|decide +kernel|(intro _;rfl)) (by first|rfl|exact .inl rfl|exact .inr rfl|exact .inr (.inl rfl)|decide +kernel|(intro _;rfl)) (by first|rfl|exact .inl rfl|exact .inr rfl|exact .inr (.inl rfl)|decide +kernel|(intro _;rfl))) (@pe_int _ _ _ _) (nomark _)) (@pss_one _ _ _ (@ps_set _ _ (4) _ _ _ _ sc_law_deed.nd rfl (Or.inl rfl) (@pe_ix _ _ _ _ _ _ _ (@ix_list _) (@pe_lst _ _ _ _ (@pa_cons _ _ _ _ _ (@pe_tup _ _ _ _ _ (@pa_cons _ _ _ _ _ (@pe_str _ _ _ _) (@pa_cons _ _ _ _ _ (@pe_int _ _ _ _) (@pa_nil _) (by first|rfl|exact .inl rfl|exact .inr rfl|exact .inr (.inl rfl)|decide +kernel|(intro _;rfl))) (by first|rfl|exact .inl rfl|exact .inr rfl|exact .inr (.inl rfl)|decide +kernel|(intro _;rfl)))) (@pa_cons _ _ _ _ _ (@pe_tup _ _ _ _ _ (@pa_cons _ _ _ _ _ (@pe_str _ _ _ _) (@pa_cons _ _ _ _ _ (@pe_str _ _ _ _) (@pa_nil _) (by first|rfl|exact .inl rfl|exact .inr rfl|exact .inr (.inl rfl)|decide +kernel|(intro _;rfl))) (by first|rfl|exact .inl rfl|exact .inr rfl|exact .inr (.inl rfl)|decide +kernel|(intro _;rfl)))) (@pa_cons _ _ _ _ _ (@pe_tup _ _ _ _ _ (@pa_cons _ _ _ _ _ (@pe_str _ _ _ _) (@pa_cons _ _ _ _ _ (@pe_str _ _ _ _) (@pa_nil _) (by first|rfl|exact .inl rfl|exact .inr rfl|exact .inr (.inl rfl)|decide +kernel|(intro _;rfl))) (by first|rfl|exact .inl rfl|exact .inr rfl|exact .inr (.inl rfl)|decide +kernel|(intro _;rfl)))) (@pa_cons _ _ _ _ _ (@pe_tup _ _ _ _ _ (@pa_nil _)) (@pa_nil _) (by first|rfl|exact .inl rfl|exact .inr rfl|exact .inr (.inl rfl)|decide +kernel|(intro _;rfl))) (by first|rfl|exact .inl rfl|exact .inr rfl|exact .inr (.inl rfl)|decide +kernel|(intro _;rfl))) (by first|rfl|exact .inl rfl|exact .inr rfl|exact .inr (.inl rfl)|decide +kernel|(intro _;rfl))) (by first|rfl|exact .inl rfl|exact .inr rfl|exact .inr (.inl rfl)|decide +kernel|(intro _;rfl)))) (@pe_call _ _ _ _ _ _ _ _ _ _ _ _ _ _ _ _ G_law_take (hr.mono (by first | decide | omega)) (by rfl) T.m_law_take T.F_law_take.kp T.b_law_take .nil pass0 (@pa_cons _ _ _ _ _ (pv 0) (@pa_cons _ _ _ _ _ (@pe_int _ _ _ _) (@pa_nil _) (by first|rfl|exact .inl rfl|exact .inr rfl|exact .inr (.inl rfl)|decide +kernel|(intro _;rfl))) (by first|rfl|exact .inl rfl|exact .inr rfl|exact .inr (.inl rfl)|decide +kernel|(intro _;rfl))) (by first|rfl|exact .inl rfl|exact .inr rfl|exact .inr (.inl rfl)|decide +kernel|(intro _;rfl)) (by first|rfl|exact .inl rfl|exact .inr rfl|exact .inr (.inl rfl)|decide +kernel|(intro _;rfl)) (by first|rfl|exact .inl rfl|exact .inr rfl|exact .inr (.inl rfl)|decide +kernel|(intro _;rfl))) (fun _ _ => rfl)) (by first|rfl|exact .inl rfl|exact .inr rfl|exact .inr (.inl rfl)|decide +kernel|(intro _;rfl)) (by first|rfl|exact .inl rfl|exact .inr rfl|exact .inr (.inl rfl)|decide +kernel|(intro _;rfl)))) (@pss_nil _)) (@pss_one _ _ _ (@ps_ret _ _ _ _ (@pe_tup _ _ _ _ _ (@pa_cons _ _ _ _ _ (@pe_ix _ _ _ _ _ _ _ (@ix_list _) (@pe_lst _ _ _ _ (@pa_cons _ _ _ _ _ (@pe_str _ _ _ _) (@pa_cons _ _ _ _ _ (@pe_str _ _ _ _) (@pa_cons _ _ _ _ _ (@pe_str _ _ _ _) (@pa_nil _) (by first|rfl|exact .inl rfl|exact .inr rfl|exact .inr (.inl rfl)|decide +kernel|(intro _;rfl))) (by first|rfl|exact .inl rfl|exact .inr rfl|exact .inr (.inl rfl)|decide +kernel|(intro _;rfl))) (by first|rfl|exact .inl rfl|exact .inr rfl|exact .inr (.inl rfl)|decide +kernel|(intro _;rfl)))) (@pe_call _ _ _ _ _ _ _ _ _ _ _ _ _ _ _ _ G_law_take (hr.mono (by first | decide | omega)) (by rfl) T.m_law_take T.F_law_take.kp T.b_law_take .nil pass0 (@pa_cons _ _ _ _ _ (pv 0) (@pa_cons _ _ _ _ _ (@pe_int _ _ _ _) (@pa_nil _) (by first|rfl|exact .inl rfl|exact .inr rfl|exact .inr (.inl rfl)|decide +kernel|(intro _;rfl))) (by first|rfl|exact .inl rfl|exact .inr rfl|exact .inr (.inl rfl)|decide +kernel|(intro _;rfl))) (by first|rfl|exact .inl rfl|exact .inr rfl|exact .inr (.inl rfl)|decide +kernel|(intro _;rfl)) (by first|rfl|exact .inl rfl|exact .inr rfl|exact .inr (.inl rfl)|decide +kernel|(intro _;rfl)) (by first|rfl|exact .inl rfl|exact .inr rfl|exact .inr (.inl rfl)|decide +kernel|(intro _;rfl))) (fun _ _ => rfl)) (@pa_cons _ _ _ _ _ (pv 3) (@pa_cons _ _ _ _ _ (pv 4) (@pa_nil _) (by first|rfl|exact .inl rfl|exact .inr rfl|exact .inr (.inl rfl)|decide +kernel|(intro _;rfl))) (by first|rfl|exact .inl rfl|exact .inr rfl|exact .inr (.inl rfl)|decide +kernel|(intro _;rfl))) (by first|rfl|exact .inl rfl|exact .inr rfl|exact .inr (.inl rfl)|decide +kernel|(intro _;rfl))))))))))), ?_⟩
  refine ⟨_, rfl, d, inrK vs, rfl, .inl hd, fun l hl => ⟨l, ps.map (·.1), rfl, SqL.of (by rw [upd_same, keysV', hk]), by rw [List.length_map]; omega, fun ms q hpm hsort hq => ?_⟩⟩
  have s1 := (same_new hl (.lst ((inrK vs).map fun p => kV p.1))).trans (same_new hq (.lst (ms.map V.str)))
  have lms := hpm.length_eq
  rw [List.length_map] at lms
  have hki := nk_ok ps.length (by omega)
  have hkl := nm_le hki
  have sd1 : (((inrK vs).length : Nat) : Int).natAbs.log2 < 1920 := by
    rw [Int.natAbs_natCast, el]
    exact Nat.lt_of_le_of_lt (Nat.log2_le_self _) (by omega)
  have sd2 : ("n" : Str).length + (strI (((inrK vs).length : Nat) : Int)).length ≤ sizeLine := by
    rw [app_len] at hkl
    rw [el]
    omega
  refine ⟨_, rfl, d, inrK vs, rfl, s1 _ _ hd, _, rfl, sd1, _, _, rfl, rfl, sd2, (by show 2 ≤ sizeLine; omega), fun B hB => ?_⟩
  have n2 := same_new hB (.lst (["n" ++ strI (((inrK vs).length : Nat) : Int), "q/1"].map V.str))
  refine ⟨q, B, _, _, rfl, rfl, n2 _ _ upd_same, upd_same, by rw [List.length_map]; show ms.length + 2 ≤ _; omega, fun R hR => ?_⟩
  have e0 : ms.map V.str ++ [V.str ("n" ++ strI (((inrK vs).length : Nat) : Int)), V.str "q/1"] = (ms ++ ["n" ++ strI (((inrK vs).length : Nat) : Int), "q/1"]).map V.str := by simp
  have hnames : ∀ z ∈ ms ++ ["n" ++ strI (((inrK vs).length : Nat) : Int), "q/1"], nm z = true := fun z hz => by
    rcases List.mem_append.mp hz with h | h
    · exact hok.1.1 z (hpm.mem_iff.mp h)
    · rcases List.mem_cons.mp h with rfl | h
      · rw [el]
        exact hki
      · rw [List.mem_singleton.mp h]
        decide +kernel
  have lnm : (ms ++ ["n" ++ strI (((inrK vs).length : Nat) : Int), "q/1"]).length = ms.length + 2 := by rw [List.length_append]; rfl
  have n3 := same_new hR (.lst (ms.map V.str ++ [V.str ("n" ++ strI (((inrK vs).length : Nat) : Int)), V.str "q/1"]))
  have s13 := (s1.trans n2).trans n3
  have hR3 : upd (upd (upd (upd H l (.lst ((inrK vs).map fun p => kV p.1))) q (.lst (ms.map V.str))) B (.lst (["n" ++ strI (((inrK vs).length : Nat) : Int), "q/1"].map V.str))) R (.lst (ms.map V.str ++ [V.str ("n" ++ strI (((inrK vs).length : Nat) : Int)), V.str "q/1"])) R = some (.lst ((ms ++ ["n" ++ strI (((inrK vs).length : Nat) : Int), "q/1"]).map V.str)) := by rw [upd_same, e0]
  have npR : p ≠ R := ((P0.same s1).same n2).free hR
  have hP3 := P0.same s13
  generalize hzs : ms ++ ["n" ++ strI (((inrK vs).length : Nat) : Int), "q/1"] = zs at hR3 hnames lnm
  -- the name
  refine ⟨_, rfl, _, rfl, _, rfl, R, _, rfl, .inl (SqL.of hR3), p, _, rfl, hP3, by rw [List.length_map]; omega, by rw [List.length_map]; omega, fun j1 H1 a1 b1 P1 K1 => ?_⟩
  have hR1 := K1 _ _ hR3 npR.symm
  obtain ⟨v1, hv1⟩ := atI_some (xs := zs.map V.str) (i := j1) a1 b1
  obtain ⟨z1, hz1, rfl⟩ := List.mem_map.mp (atI_mem hv1)
  refine ⟨R, _, _, _, rfl, rfl, SqL.of hR1, hv1, ?_⟩
  have K01 : Kept p H H1 := s13.kept.trans K1
  have ok1 : NmOk z1 := .inl (hnames z1 hz1)
  refine ⟨_, rfl, p, 8, rfl, P1, by decide, by decide, fun j2 H2 a2 b2 P2 K2 => ⟨rfl, _, rfl, ?_⟩⟩
  have hR2 := K2 _ _ hR1 npR.symm
  have K02 := K01.trans K2
  refine ite2 (fun c => ⟨_, _, rfl, rfl, mulOk_of (by decide) (by decide) (by decide), (by show 5 ≤ sizeLine; omega), fun q5 h5 => ⟨_, rfl, p, 5, rfl, P2.same (same_new h5 _), by decide, by decide, fun j5 H5 a5 b5 P5 K5 => ?_⟩⟩) (fun c => ?_)
  have m5 := same_new h5 (.lst (BADN.map V.str))
  have npq : p ≠ q5 := P2.free h5
  have hq5 := K5 _ _ (upd_same : upd H2 q5 (.lst (BADN.map V.str)) q5 = _) npq.symm
  obtain ⟨v5, hv5⟩ := atI_some (xs := BADN.map V.str) (i := j5) a5 (by show j5 < 5; omega)
  obtain ⟨z5, hz5, rfl⟩ := List.mem_map.mp (atI_mem hv5)
  refine ⟨q5, _, _, _, rfl, rfl, SqL.of hq5, hv5, ?_⟩
  have okX : NmOk z5 := .inr hz5
  obtain ⟨zz, ezz⟩ : ∃ zz, zz = z5 := ⟨_, rfl⟩
  rw [← ezz] at okX ⊢
  have PX := P5
  have hRX := K5 _ _ (m5 _ _ hR2) npR.symm
  have KX : Kept p H _ := (K02.trans m5.kept).trans K5
  rotate_left
  have okX := ok1
  obtain ⟨zz, ezz⟩ : ∃ zz, zz = z1 := ⟨_, rfl⟩
  rw [← ezz] at okX ⊢
  have PX := P2
  have hRX := hR2
  have KX : Kept p H _ := K02
  rotate_left
  all_goals
    -- the source
    refine ⟨_, rfl, _, rfl, p, R, zs, rfl, PX, hRX, npR, hnames, by omega, fun v6 e6 H6 i6 hs6 P6 K6 => ?_⟩
    have K06 := KX.trans K6
    refine ⟨_, rfl, p, 6, rfl, P6, by decide, by decide, fun j7 H7 a7 b7 P7 K7 => ⟨rfl, _, rfl, ?_⟩⟩
    have K07 := K06.trans K7
    have tk7 := P6.tk P7 K7
    refine ite2 (fun c => ⟨(by show 2 ≤ sizeLine; omega), fun t1 g1 => ⟨(by show 2 ≤ sizeLine; omega), fun t2 g2 => ⟨(by show 2 ≤ sizeLine; omega), fun t3 g3 => ⟨(by show 0 ≤ sizeLine; omega), fun t4 g4 => ⟨(by show 4 ≤ sizeLine; omega), fun q2 g5 => ?_⟩⟩⟩⟩⟩) (fun c => ?_)
    have o1 := same_new g1 (.tup [V.str "leaf", V.int 7])
    have i1 : Is (upd H7 t1 (.tup [V.str "leaf", V.int 7])) (.tup [.str "leaf", .int 7]) (.ref t1) := Is.new (show L2.IsL _ [.str "leaf", .int 7] _ from ⟨_, _, rfl, strI' (by decide), _, _, rfl, rfl, rfl⟩) g1
    have o2 := same_new g2 (.tup [V.str "made", V.str "1a"])
    have i2 := Is.new (ds := [.str "made", .str "1a"]) (st2 (by decide) (by decide)) g2
    have o3 := same_new g3 (.tup [V.str "Rule", V.str "a"])
    have i3 := Is.new (ds := [.str "Rule", .str "a"]) (st2 (by decide) (by decide)) g3
    have o4 := same_new g4 (.tup [])
    have i4 := Is.new (ds := []) (show L2.IsL _ [] [] from rfl) g4
    have o5 := same_new g5 (.lst [V.ref t1, V.ref t2, V.ref t3, V.ref t4])
    have o15 := (((o1.trans o2).trans o3).trans o4).trans o5
    have iall := (show L2.IsL _ ODDS [V.ref t1, V.ref t2, V.ref t3, V.ref t4] from ⟨_, _, rfl, i1.mono ((o2.trans o3).trans o4).tk, _, _, rfl, i2.mono (o3.trans o4).tk, _, _, rfl, i3.mono o4.tk, _, _, rfl, i4, rfl⟩).mono o5.tk
    have npq2 : p ≠ q2 := ((((P7.same o1).same o2).same o3).same o4).free g5
    refine ⟨_, rfl, p, 4, rfl, P7.same o15, by decide, by decide, fun j8 H8 a8 b8 P8 K8 => ?_⟩
    have hq8 := K8 _ _ (upd_same : upd (upd (upd (upd (upd H7 t1 (.tup [V.str "leaf", V.int 7])) t2 (.tup [V.str "made", V.str "1a"])) t3 (.tup [V.str "Rule", V.str "a"])) t4 (.tup [])) q2 (.lst [V.ref t1, V.ref t2, V.ref t3, V.ref t4]) q2 = _) npq2.symm
    have iall8 := iall.mono ((P7.same o15).tk P8 K8)
    obtain ⟨e8, he8⟩ := atI_some (xs := ODDS) (i := j8) a8 (by show j8 < 4; omega)
    obtain ⟨n8, rfl⟩ : ∃ n : Nat, j8 = (n : Int) := ⟨j8.toNat, by omega⟩
    obtain ⟨v8, f1, f2⟩ := iall8.get (atI_inv he8 (by show n8 < 4; omega))
    refine ⟨q2, _, _, v8, rfl, rfl, SqL.of hq8, atI_nat f1, ?_⟩
    have okE : SrcOk e8 ∨ e8 ∈ ODDS := .inr (atI_mem he8)
    obtain ⟨ee, eee⟩ : ∃ ee, ee = e8 := ⟨_, rfl⟩
    obtain ⟨vv, evv⟩ : ∃ vv, vv = v8 := ⟨_, rfl⟩
    rw [← eee] at okE f2
    rw [← evv] at f2 ⊢
    have iE := f2
    have PY := P8
    have KY : Kept p H _ := (K07.trans o15.kept).trans K8
    rotate_left
    have okE : SrcOk e6 ∨ e6 ∈ ODDS := .inl hs6
    obtain ⟨ee, eee⟩ : ∃ ee, ee = e6 := ⟨_, rfl⟩
    obtain ⟨vv, evv⟩ : ∃ vv, vv = v6 := ⟨_, rfl⟩
    have iE := i6.mono tk7
    rw [← eee] at okE iE
    rw [← evv] at iE ⊢
    have PY := P7
    have KY : Kept p H _ := K07
    rotate_left
    all_goals
      refine ⟨(by show 3 ≤ sizeLine; omega), fun q9 h9 => ?_⟩
      have m9 := same_new h9 (.lst [V.str "put", V.str "put", V.str "out"])
      have npq9 : p ≠ q9 := PY.free h9
      refine ⟨_, rfl, p, 3, rfl, PY.same m9, by decide, by decide, fun jz Hz az bz Pz Kz => ?_⟩
      have hq9 := Kz _ _ upd_same npq9.symm
      have hw : ∃ wd : Str, atI [V.str "put", V.str "put", V.str "out"] jz = some (.str wd) ∧ WdOk wd := by
        have : jz = 0 ∨ jz = 1 ∨ jz = 2 := by omega
        rcases this with rfl | rfl | rfl
        · exact ⟨"put", rfl, .inl rfl⟩
        · exact ⟨"put", rfl, .inl rfl⟩
        · exact ⟨"out", rfl, .inr rfl⟩
      obtain ⟨wd, hwd, okW⟩ := hw
      refine ⟨q9, _, _, _, rfl, rfl, SqL.of hq9, hwd, _, rfl, _, rfl, (by show 3 ≤ sizeLine; omega), fun tt htt => ?_⟩
      have lw1 : wd.length ≤ 100 := by rcases okW with rfl | rfl <;> decide
      have lz1 := okX.len
      have mt := same_new htt (.tup [V.str wd, V.str zz, vv])
      have iz := (iE.mono m9.tk).mono ((PY.same m9).tk Pz Kz)
      exact k wd zz ee _ _ okW okX okE (Is.new (show L2.IsL _ [.str wd, .str zz, ee] _ from ⟨_, _, rfl, strI' (by omega), _, _, rfl, strI' (by omega), _, _, rfl, iz, rfl⟩) htt) (((KY.trans m9.kept).trans Kz).trans mt.kept)
end
end K18

namespace K18
open PySem L2 PyProof.Rows
theorem flt_id {qs : List (Str × D)} {z : Str} (h : z ∉ qs.map (·.1)) : flt qs z = qs := by
  unfold flt
  rw [List.filter_eq_self]
  intro p hp
  exact decide_eq_true fun e => h (by rw [← e]; exact List.mem_map.mpr ⟨p, hp, rfl⟩)
theorem flt_lt {qs : List (Str × D)} {z : Str} (h : z ∈ qs.map (·.1)) : (flt qs z).length < qs.length := by
  obtain ⟨p, hp, rfl⟩ := List.mem_map.mp h
  unfold flt
  refine Nat.lt_of_le_of_ne (List.length_filter_le ..) fun e => ?_
  have := List.length_filter_eq_length_iff.mp e p hp
  simp at this
theorem due_eq {qs : List (Str × D)} (h : PrOk qs) (hl : qs.length ≤ 60) (z : Str) (e : D) : dueG [] (flt qs z ++ [(z, e)]) = dueK "put" z e qs := by
  rw [due_put h hl]
  unfold dueK
  rw [if_neg (show ¬ (("put" : Str) = "out") by decide +kernel)]
  cases hn : nm z with
  | false => simp
  | true =>
    cases hsr : isSrc e with
    | false => simp
    | true =>
      by_cases c : z ∈ qs.map (·.1)
      · have := flt_lt c
        have h1 : (flt qs z).length ≠ 60 := by omega
        rw [if_pos rfl, if_pos ⟨rfl, h1⟩, if_neg (by decide), if_neg (fun q => q.elim (fun q => by cases q) fun q => q.1 c)]
      · rw [flt_id c]
        by_cases c60 : qs.length = 60
        · rw [if_pos rfl, if_neg (fun q => q.2 c60), if_neg (by decide), if_pos (.inr ⟨c, c60⟩)]
        · rw [if_pos rfl, if_pos ⟨rfl, c60⟩, if_neg (by decide), if_neg (fun q => q.elim (fun q => by cases q) fun q => c60 q.2)]
theorem due_out (z : Str) (e : D) (qs : List (Str × D)) : dueK "out" z e qs = if z ∈ qs.map (·.1) then ("none" : Str) else "thing gone" := by
  unfold dueK
  rw [if_pos rfl]
theorem ProjAt.updM {C : Addr} {H : Hp} {x M : Addr} {qs : List (Str × D)} {xs ys : List V} (h : ProjAt C H x qs) (hM : H M = some (.lst xs)) : ProjAt C (upd H M (.lst ys)) x qs := by
  obtain ⟨dx, d, o, vs, h1, h2, h3, h4⟩ := h
  exact ⟨dx, d, o, vs, by rw [upd_ne (fun e => by rw [e, hM] at h1; cases h1)]; exact h1, by rw [upd_ne (fun e => by rw [e, hM] at h2; cases h2)]; exact h2, h3, h4.mono (Tk.updL hM)⟩
def sp_done (C : Addr) : Sp := fun vs H Q _ => ∃ (v : V) (x M : Addr) (w z : Str) (e : D) (qs : List (Str × D)), vs = [v, .ref x, .ref M] ∧ Is H (dD w z e) v ∧ WdOk w ∧ NmOk z ∧ (SrcOk e ∨ e ∈ ODDS) ∧ ProjAt C H x qs ∧ TabOk qs ∧ H M = some (.lst []) ∧
  (∀ (y : Addr) (rs : List (Str × D)) (H' : Hp), (∀ b o, H b = some o → b ≠ M → H' b = some o) → H' M = some (.lst [.ref y]) → ProjAt C H' y rs → TabOk rs → dueK w z e qs = "none" → (w = "out" → rs.Perm (flt qs z)) → (w = "put" → rs.Perm (flt qs z ++ [(z, e)])) → Q (.str "none") H') ∧
  (∀ H' : Hp, Same H H' → dueK w z e qs ≠ "none" → Q (.str (dueK w z e qs)) H')
section
variable {P : Program} {w : World} {K : PySem.W.Frag} {mg : Str → Option Value} {base : Heap} {a : Ad} {g : Ga}
theorem ok_done (T : Tx K mg a) (C : Fx K mg g) : FnOk P w K mg base CX0 7 a.f_law_done a.d_law_done ["deed", "project", "made"] (sp_done a.c_Project) := by
  have G_without : FnOk P w K mg base (CX1 P w) 6 a.f_without a.d_without ["project", "name"] (sp_without a.c_Project g.ng) := ok_without T C
  have G_with_source : FnOk P w K mg base (CX1 P w) 6 a.f_with_source a.d_with_source ["project", "name", "source"] (sp_with a.c_Project g.bn g.bt) := ok_with T C
  refine T.F_law_done.ok sc_law_done (fun vs H Q E h => ?_) (fun cdv A outer s H vs Q E hr h => ?_)
  · obtain ⟨v, x, M, wd, z, e, qs, rfl, _⟩ := h
    rfl
  obtain ⟨v, x, M, wd, z, e, qs, rfl, hv, hw, hz, he, hP, hT, hM, k, kX⟩ := h
  have hs := sizeLine_eq
  have hzl := hz.len
  have h60 := hT.2.2
  have kselfN : PySem.W.kitOne K (.ref g.bn) (.ref g.bn) = some true := by
    unfold PySem.W.kitOne
    rw [if_pos (by simp)]
  have kselfT : PySem.W.kitOne K (.ref g.bt) (.ref g.bt) = some true := by
    unfold PySem.W.kitOne
    rw [if_pos (by simp)]
  have kselfG : PySem.W.kitOne K (.ref g.ng) (.ref g.ng) = some true := by
    unfold PySem.W.kitOne
    rw [if_pos (by simp)]
  obtain ⟨b, us, rfl, hb, x1, r1, rfl, ⟨rfl, _⟩, x2, r2, rfl, ⟨rfl, _⟩, x3, r3, rfl, h3, h4⟩ := hv
  cases (show r3 = [] from h4)
  refine ⟨_, (@pss_cons _ _ _ _ _ (@ps_asg _ _ _ _ _ _ (pv 0) (@pg_tup _ _ _ _ _ _ rfl (pgs_cons (@pg_name _ _ (3) _ sc_law_done.nd rfl (Or.inl rfl) (by first|rfl|exact .inl rfl|exact .inr rfl|exact .inr (.inl rfl)|decide +kernel|(intro _;rfl))) (pgs_cons (@pg_name _ _ (4) _ sc_law_done.nd rfl (Or.inl rfl) (by first|rfl|exact .inl rfl|exact .inr rfl|exact .inr (.inl rfl)|decide +kernel|(intro _;rfl))) (pgs_cons (@pg_name _ _ (5) _ sc_law_done.nd rfl (Or.inl rfl) (by first|rfl|exact .inl rfl|exact .inr rfl|exact .inr (.inl rfl)|decide +kernel|(intro _;rfl))) pgs_nil))) (by first|rfl|exact .inl rfl|exact .inr rfl|exact .inr (.inl rfl)|decide +kernel|(intro _;rfl)) (by first|rfl|exact .inl rfl|exact .inr rfl|exact .inr (.inl rfl)|decide +kernel|(intro _;rfl))) (by first|rfl|exact .inl rfl|exact .inr rfl|exact .inr (.inl rfl)|decide +kernel|(intro _;rfl)) (by first|rfl|exact .inl rfl|exact .inr rfl|exact .inr (.inl rfl)|decide +kernel|(intro _;rfl)) (by first|rfl|exact .inl rfl|exact .inr rfl|exact .inr (.inl rfl)|decide +kernel|(intro _;rfl))) (@pss_cons _ _ _ _ _ (@ps_set _ _ (6) _ _ _ _ sc_law_done.nd rfl (Or.inl rfl) (@pe_non _ _ _) (by first|rfl|exact .inl rfl|exact .inr rfl|exact .inr (.inl rfl)|decide +kernel|(intro _;rfl)) (by first|rfl|exact .inl rfl|exact .inr rfl|exact .inr (.inl rfl)|decide +kernel|(intro _;rfl))) (@pss_cons _ _ _ _ _ (@ps_tryIA _ (7) _ _ _ _ _ _ _ _ _ _ _ _ _ _ _ _ _ _ _ _ _ _ _ _ _ _ _ _ _ _ _ _ _ _ _ _ _ _ _ _ _ _ _ _ sc_law_done.nd rfl rfl (@pt_cmpR _ _ _ _ _ _ _ _ (@op_eq _) (pv 3) (@pe_str _ _ _ _) (nomark _)) (pv 2) G_without (hr.mono (by first | decide | omega)) (by rfl) T.m_without T.F_without.kp T.b_without (@pa_cons _ _ _ _ _ (pv 1) (@pa_cons _ _ _ _ _ (pv 4) (@pa_nil _) (by first|rfl|exact .inl rfl|exact .inr rfl|exact .inr (.inl rfl)|decide +kernel|(intro _;rfl))) (by first|rfl|exact .inl rfl|exact .inr rfl|exact .inr (.inl rfl)|decide +kernel|(intro _;rfl))) (pv 2) G_with_source (hr.mono (by first | decide | omega)) (by rfl) T.m_with_source T.F_with_source.kp T.b_with_source (@pa_cons _ _ _ _ _ (pv 1) (@pa_cons _ _ _ _ _ (pv 4) (@pa_cons _ _ _ _ _ (pv 5) (@pa_nil _) (by first|rfl|exact .inl rfl|exact .inr rfl|exact .inr (.inl rfl)|decide +kernel|(intro _;rfl))) (by first|rfl|exact .inl rfl|exact .inr rfl|exact .inr (.inl rfl)|decide +kernel|(intro _;rfl))) (by first|rfl|exact .inl rfl|exact .inr rfl|exact .inr (.inl rfl)|decide +kernel|(intro _;rfl))) ⟨rfl, rfl⟩ (by rfl) C.m_WrightError (fun _ _ => (@pss_one _ _ _ (@ps_set _ _ (6) _ _ _ _ sc_law_done.nd rfl (Or.inl rfl) (pv 7) (by first|rfl|exact .inl rfl|exact .inr rfl|exact .inr (.inl rfl)|decide +kernel|(intro _;rfl)) (by first|rfl|exact .inl rfl|exact .inr rfl|exact .inr (.inl rfl)|decide +kernel|(intro _;rfl))))) (by first|rfl|exact .inl rfl|exact .inr rfl|exact .inr (.inl rfl)|decide +kernel|(intro _;rfl)) (by first|rfl|exact .inl rfl|exact .inr rfl|exact .inr (.inl rfl)|decide +kernel|(intro _;rfl)) (by first|rfl|exact .inl rfl|exact .inr rfl|exact .inr (.inl rfl)|decide +kernel|(intro _;rfl)) (by first|rfl|exact .inl rfl|exact .inr rfl|exact .inr (.inl rfl)|decide +kernel|(intro _;rfl)) (by first|rfl|exact .inl rfl|exact .inr rfl|exact .inr (.inl rfl)|decide +kernel|(intro _;rfl)) (by first|rfl|exact .inl rfl|exact .inr rfl|exact .inr (.inl rfl)|decide +kernel|(intro _;rfl)) (by first|rfl|exact .inl rfl|exact .inr rfl|exact .inr (.inl rfl)|decide +kernel|(intro _;rfl)) (by first|rfl|exact .inl rfl|exact .inr rfl|exact .inr (.inl rfl)|decide +kernel|(intro _;rfl)) (by first|rfl|exact .inl rfl|exact .inr rfl|exact .inr (.inl rfl)|decide +kernel|(intro _;rfl)) (by first|rfl|exact .inl rfl|exact .inr rfl|exact .inr (.inl rfl)|decide +kernel|(intro _;rfl)) (by first|rfl|exact .inl rfl|exact .inr rfl|exact .inr (.inl rfl)|decide +kernel|(intro _;rfl)) (by first|rfl|exact .inl rfl|exact .inr rfl|exact .inr (.inl rfl)|decide +kernel|(intro _;rfl)) (by first|rfl|exact .inl rfl|exact .inr rfl|exact .inr (.inl rfl)|decide +kernel|(intro _;rfl)) (by first|rfl|exact .inl rfl|exact .inr rfl|exact .inr (.inl rfl)|decide +kernel|(intro _;rfl)) (by first|rfl|exact .inl rfl|exact .inr rfl|exact .inr (.inl rfl)|decide +kernel|(intro _;rfl)) (by first|rfl|exact .inl rfl|exact .inr rfl|exact .inr (.inl rfl)|decide +kernel|(intro _;rfl)) (by first|rfl|exact .inl rfl|exact .inr rfl|exact .inr (.inl rfl)|decide +kernel|(intro _;rfl)) (by first|rfl|exact .inl rfl|exact .inr rfl|exact .inr (.inl rfl)|decide +kernel|(intro _;rfl)) (by first|rfl|exact .inl rfl|exact .inr rfl|exact .inr (.inl rfl)|decide +kernel|(intro _;rfl))) (@pss_cons _ _ _ _ _ (@ps_if _ _ _ _ _ _ _ _ (@pt_cmpR _ _ _ _ _ _ _ _ (@op_isN _) (pv 6) (@pe_non _ _ _) (nomark _)) (@pss_one _ _ _ (@ps_ret _ _ _ _ (@pe_str _ _ _ _))) (@pss_nil _)) (@pss_cons _ _ _ _ _ (@ps_if _ _ _ _ _ _ _ _ (@pt_val _ _ _ (@pe_callB _ _ _ _ _ _ _ _ _ (@call_isinstT _ _ rfl) (by rfl) T.z_isinstance boot_isinstance (@pa_cons _ _ _ _ _ (pv 6) (@pa_cons _ _ _ _ _ (@pe_tup _ _ _ _ _ (@pa_cons _ _ _ _ _ (@pe_gR _ _ _ _ (by rfl) C.m_BadAnswer (by first|rfl|exact .inl rfl|exact .inr rfl|exact .inr (.inl rfl)|decide +kernel|(intro _;rfl))) (@pa_cons _ _ _ _ _ (@pe_gR _ _ _ _ (by rfl) C.m_BadKeep (by first|rfl|exact .inl rfl|exact .inr rfl|exact .inr (.inl rfl)|decide +kernel|(intro _;rfl))) (@pa_cons _ _ _ _ _ (@pe_gR _ _ _ _ (by rfl) C.m_BadRule (by first|rfl|exact .inl rfl|exact .inr rfl|exact .inr (.inl rfl)|decide +kernel|(intro _;rfl))) (@pa_cons _ _ _ _ _ (@pe_gR _ _ _ _ (by rfl) C.m_BadText (by first|rfl|exact .inl rfl|exact .inr rfl|exact .inr (.inl rfl)|decide +kernel|(intro _;rfl))) (@pa_cons _ _ _ _ _ (@pe_gR _ _ _ _ (by rfl) C.m_BadTree (by first|rfl|exact .inl rfl|exact .inr rfl|exact .inr (.inl rfl)|decide +kernel|(intro _;rfl))) (@pa_nil _) (by first|rfl|exact .inl rfl|exact .inr rfl|exact .inr (.inl rfl)|decide +kernel|(intro _;rfl))) (by first|rfl|exact .inl rfl|exact .inr rfl|exact .inr (.inl rfl)|decide +kernel|(intro _;rfl))) (by first|rfl|exact .inl rfl|exact .inr rfl|exact .inr (.inl rfl)|decide +kernel|(intro _;rfl))) (by first|rfl|exact .inl rfl|exact .inr rfl|exact .inr (.inl rfl)|decide +kernel|(intro _;rfl))) (by first|rfl|exact .inl rfl|exact .inr rfl|exact .inr (.inl rfl)|decide +kernel|(intro _;rfl)))) (@pa_nil _) (by first|rfl|exact .inl rfl|exact .inr rfl|exact .inr (.inl rfl)|decide +kernel|(intro _;rfl))) (by first|rfl|exact .inl rfl|exact .inr rfl|exact .inr (.inl rfl)|decide +kernel|(intro _;rfl))) (by first|rfl|exact .inl rfl|exact .inr rfl|exact .inr (.inl rfl)|decide +kernel|(intro _;rfl)) (by first|rfl|exact .inl rfl|exact .inr rfl|exact .inr (.inl rfl)|decide +kernel|(intro _;rfl)) (by first|rfl|exact .inl rfl|exact .inr rfl|exact .inr (.inl rfl)|decide +kernel|(intro _;rfl)) (by first|rfl|exact .inl rfl|exact .inr rfl|exact .inr (.inl rfl)|decide +kernel|(intro _;rfl))) (by first|rfl|exact .inl rfl|exact .inr rfl|exact .inr (.inl rfl)|decide +kernel|(intro _;rfl))) (@pss_one _ _ _ (@ps_ret _ _ _ _ (@pe_str _ _ _ _))) (@pss_nil _)) (@pss_cons _ _ _ _ _ (@ps_if _ _ _ _ _ _ _ _ (@pw_or _ _ _ _ _ _ _ (@pt_not _ _ _ _ (@pt_val _ _ _ (@pe_callB _ _ _ _ _ _ _ _ _ (@call_isinstX _ _ rfl) (by rfl) T.z_isinstance boot_isinstance (@pa_cons _ _ _ _ _ (pv 6) (@pa_cons _ _ _ _ _ (@pe_bltn _ _ (.ty "ValueError") _ _ (by rfl) T.z_ValueError boot_VE rfl (by first|rfl|exact .inl rfl|exact .inr rfl|exact .inr (.inl rfl)|decide +kernel|(intro _;rfl)) (by first|rfl|exact .inl rfl|exact .inr rfl|exact .inr (.inl rfl)|decide +kernel|(intro _;rfl))) (@pa_nil _) (by first|rfl|exact .inl rfl|exact .inr rfl|exact .inr (.inl rfl)|decide +kernel|(intro _;rfl))) (by first|rfl|exact .inl rfl|exact .inr rfl|exact .inr (.inl rfl)|decide +kernel|(intro _;rfl))) (by first|rfl|exact .inl rfl|exact .inr rfl|exact .inr (.inl rfl)|decide +kernel|(intro _;rfl)) (by first|rfl|exact .inl rfl|exact .inr rfl|exact .inr (.inl rfl)|decide +kernel|(intro _;rfl)) (by first|rfl|exact .inl rfl|exact .inr rfl|exact .inr (.inl rfl)|decide +kernel|(intro _;rfl)) (by first|rfl|exact .inl rfl|exact .inr rfl|exact .inr (.inl rfl)|decide +kernel|(intro _;rfl))) (by first|rfl|exact .inl rfl|exact .inr rfl|exact .inr (.inl rfl)|decide +kernel|(intro _;rfl)))) (@pw_or1 _ _ _ _ (@pt_val _ _ _ (@pe_callB _ _ _ _ _ _ _ _ _ (@call_isinstT _ _ rfl) (by rfl) T.z_isinstance boot_isinstance (@pa_cons _ _ _ _ _ (pv 6) (@pa_cons _ _ _ _ _ (@pe_tup _ _ _ _ _ (@pa_cons _ _ _ _ _ (@pe_gR _ _ _ _ (by rfl) C.m_Clash (by first|rfl|exact .inl rfl|exact .inr rfl|exact .inr (.inl rfl)|decide +kernel|(intro _;rfl))) (@pa_cons _ _ _ _ _ (@pe_gR _ _ _ _ (by rfl) C.m_NoAsk (by first|rfl|exact .inl rfl|exact .inr rfl|exact .inr (.inl rfl)|decide +kernel|(intro _;rfl))) (@pa_cons _ _ _ _ _ (@pe_gR _ _ _ _ (by rfl) C.m_NoDeed (by first|rfl|exact .inl rfl|exact .inr rfl|exact .inr (.inl rfl)|decide +kernel|(intro _;rfl))) (@pa_nil _) (by first|rfl|exact .inl rfl|exact .inr rfl|exact .inr (.inl rfl)|decide +kernel|(intro _;rfl))) (by first|rfl|exact .inl rfl|exact .inr rfl|exact .inr (.inl rfl)|decide +kernel|(intro _;rfl))) (by first|rfl|exact .inl rfl|exact .inr rfl|exact .inr (.inl rfl)|decide +kernel|(intro _;rfl)))) (@pa_nil _) (by first|rfl|exact .inl rfl|exact .inr rfl|exact .inr (.inl rfl)|decide +kernel|(intro _;rfl))) (by first|rfl|exact .inl rfl|exact .inr rfl|exact .inr (.inl rfl)|decide +kernel|(intro _;rfl))) (by first|rfl|exact .inl rfl|exact .inr rfl|exact .inr (.inl rfl)|decide +kernel|(intro _;rfl)) (by first|rfl|exact .inl rfl|exact .inr rfl|exact .inr (.inl rfl)|decide +kernel|(intro _;rfl)) (by first|rfl|exact .inl rfl|exact .inr rfl|exact .inr (.inl rfl)|decide +kernel|(intro _;rfl)) (by first|rfl|exact .inl rfl|exact .inr rfl|exact .inr (.inl rfl)|decide +kernel|(intro _;rfl))) (by first|rfl|exact .inl rfl|exact .inr rfl|exact .inr (.inl rfl)|decide +kernel|(intro _;rfl))))).pt (@pss_one _ _ _ (@ps_ret _ _ _ _ (@pe_str _ _ _ _))) (@pss_nil _)) (@pss_cons _ _ _ _ _ (@ps_set _ _ (8) _ _ _ _ sc_law_done.nd rfl (Or.inl rfl) (@pe_lst _ _ _ _ (@pa_cons _ _ _ _ _ (@pe_callB _ _ _ _ _ _ _ _ _ (@call_isinstX _ _ rfl) (by rfl) T.z_isinstance boot_isinstance (@pa_cons _ _ _ _ _ (pv 6) (@pa_cons _ _ _ _ _ (@pe_gR _ _ _ _ (by rfl) C.m_BadName (by first|rfl|exact .inl rfl|exact .inr rfl|exact .inr (.inl rfl)|decide +kernel|(intro _;rfl))) (@pa_nil _) (by first|rfl|exact .inl rfl|exact .inr rfl|exact .inr (.inl rfl)|decide +kernel|(intro _;rfl))) (by first|rfl|exact .inl rfl|exact .inr rfl|exact .inr (.inl rfl)|decide +kernel|(intro _;rfl))) (by first|rfl|exact .inl rfl|exact .inr rfl|exact .inr (.inl rfl)|decide +kernel|(intro _;rfl)) (by first|rfl|exact .inl rfl|exact .inr rfl|exact .inr (.inl rfl)|decide +kernel|(intro _;rfl)) (by first|rfl|exact .inl rfl|exact .inr rfl|exact .inr (.inl rfl)|decide +kernel|(intro _;rfl)) (by first|rfl|exact .inl rfl|exact .inr rfl|exact .inr (.inl rfl)|decide +kernel|(intro _;rfl))) (@pa_cons _ _ _ _ _ (@pe_callB _ _ _ _ _ _ _ _ _ (@call_isinstX _ _ rfl) (by rfl) T.z_isinstance boot_isinstance (@pa_cons _ _ _ _ _ (pv 6) (@pa_cons _ _ _ _ _ (@pe_gR _ _ _ _ (by rfl) C.m_BadThing (by first|rfl|exact .inl rfl|exact .inr rfl|exact .inr (.inl rfl)|decide +kernel|(intro _;rfl))) (@pa_nil _) (by first|rfl|exact .inl rfl|exact .inr rfl|exact .inr (.inl rfl)|decide +kernel|(intro _;rfl))) (by first|rfl|exact .inl rfl|exact .inr rfl|exact .inr (.inl rfl)|decide +kernel|(intro _;rfl))) (by first|rfl|exact .inl rfl|exact .inr rfl|exact .inr (.inl rfl)|decide +kernel|(intro _;rfl)) (by first|rfl|exact .inl rfl|exact .inr rfl|exact .inr (.inl rfl)|decide +kernel|(intro _;rfl)) (by first|rfl|exact .inl rfl|exact .inr rfl|exact .inr (.inl rfl)|decide +kernel|(intro _;rfl)) (by first|rfl|exact .inl rfl|exact .inr rfl|exact .inr (.inl rfl)|decide +kernel|(intro _;rfl))) (@pa_cons _ _ _ _ _ (@pe_callB _ _ _ _ _ _ _ _ _ (@call_isinstX _ _ rfl) (by rfl) T.z_isinstance boot_isinstance (@pa_cons _ _ _ _ _ (pv 6) (@pa_cons _ _ _ _ _ (@pe_gR _ _ _ _ (by rfl) C.m_NoThing (by first|rfl|exact .inl rfl|exact .inr rfl|exact .inr (.inl rfl)|decide +kernel|(intro _;rfl))) (@pa_nil _) (by first|rfl|exact .inl rfl|exact .inr rfl|exact .inr (.inl rfl)|decide +kernel|(intro _;rfl))) (by first|rfl|exact .inl rfl|exact .inr rfl|exact .inr (.inl rfl)|decide +kernel|(intro _;rfl))) (by first|rfl|exact .inl rfl|exact .inr rfl|exact .inr (.inl rfl)|decide +kernel|(intro _;rfl)) (by first|rfl|exact .inl rfl|exact .inr rfl|exact .inr (.inl rfl)|decide +kernel|(intro _;rfl)) (by first|rfl|exact .inl rfl|exact .inr rfl|exact .inr (.inl rfl)|decide +kernel|(intro _;rfl)) (by first|rfl|exact .inl rfl|exact .inr rfl|exact .inr (.inl rfl)|decide +kernel|(intro _;rfl))) (@pa_nil _) (by first|rfl|exact .inl rfl|exact .inr rfl|exact .inr (.inl rfl)|decide +kernel|(intro _;rfl))) (by first|rfl|exact .inl rfl|exact .inr rfl|exact .inr (.inl rfl)|decide +kernel|(intro _;rfl))) (by first|rfl|exact .inl rfl|exact .inr rfl|exact .inr (.inl rfl)|decide +kernel|(intro _;rfl)))) (by first|rfl|exact .inl rfl|exact .inr rfl|exact .inr (.inl rfl)|decide +kernel|(intro _;rfl)) (by first|rfl|exact .inl rfl|exact .inr rfl|exact .inr (.inl rfl)|decide +kernel|(intro _;rfl))) (@pss_cons _ _ _ _ _ (@ps_if _ _ _ _ _ _ _ _ (@pt_cmpR _ _ _ _ _ _ _ _ (@op_ne _) (@pe_bm _ _ _ _ _ _ _ _ _ _ _ _ PySem.F.plainAttrs_list PySem.F.slot_list_count PySem.F.type_list_count (@mt_count _) (pv 8) (@pa_cons _ _ _ _ _ (@pe_bl _ _ _ _) (@pa_nil _) (by first|rfl|exact .inl rfl|exact .inr rfl|exact .inr (.inl rfl)|decide +kernel|(intro _;rfl))) (by first|rfl|exact .inl rfl|exact .inr rfl|exact .inr (.inl rfl)|decide +kernel|(intro _;rfl)) (by first|rfl|exact .inl rfl|exact .inr rfl|exact .inr (.inl rfl)|decide +kernel|(intro _;rfl)) (by first|rfl|exact .inl rfl|exact .inr rfl|exact .inr (.inl rfl)|decide +kernel|(intro _;rfl)) (by first|rfl|exact .inl rfl|exact .inr rfl|exact .inr (.inl rfl)|decide +kernel|(intro _;rfl)) (by first|rfl|exact .inl rfl|exact .inr rfl|exact .inr (.inl rfl)|decide +kernel|(intro _;rfl))) (@pe_int _ _ _ _) (nomark _)) (@pss_one _ _ _ (@ps_ret _ _ _ _ (@pe_str _ _ _ _))) (@pss_nil _)) (@pss_one _ _ _ (@ps_ret _ _ _ _ (@pe_ix _ _ _ _ _ _ _ (@ix_list _) (@pe_lst _ _ _ _ (@pa_cons _ _ _ _ _ (@pe_str _ _ _ _) (@pa_cons _ _ _ _ _ (@pe_str _ _ _ _) (@pa_cons _ _ _ _ _ (@pe_str _ _ _ _) (@pa_nil _) (by first|rfl|exact .inl rfl|exact .inr rfl|exact .inr (.inl rfl)|decide +kernel|(intro _;rfl))) (by first|rfl|exact .inl rfl|exact .inr rfl|exact .inr (.inl rfl)|decide +kernel|(intro _;rfl))) (by first|rfl|exact .inl rfl|exact .inr rfl|exact .inr (.inl rfl)|decide +kernel|(intro _;rfl)))) (@pe_bm _ _ _ _ _ _ _ _ _ _ _ _ PySem.F.plainAttrs_list PySem.F.slot_list_index PySem.F.type_list_index (@mt_index _) (pv 8) (@pa_cons _ _ _ _ _ (@pe_bl _ _ _ _) (@pa_nil _) (by first|rfl|exact .inl rfl|exact .inr rfl|exact .inr (.inl rfl)|decide +kernel|(intro _;rfl))) (by first|rfl|exact .inl rfl|exact .inr rfl|exact .inr (.inl rfl)|decide +kernel|(intro _;rfl)) (by first|rfl|exact .inl rfl|exact .inr rfl|exact .inr (.inl rfl)|decide +kernel|(intro _;rfl)) (by first|rfl|exact .inl rfl|exact .inr rfl|exact .inr (.inl rfl)|decide +kernel|(intro _;rfl)) (by first|rfl|exact .inl rfl|exact .inr rfl|exact .inr (.inl rfl)|decide +kernel|(intro _;rfl)) (by first|rfl|exact .inl rfl|exact .inr rfl|exact .inr (.inl rfl)|decide +kernel|(intro _;rfl))) (fun _ _ => rfl)))))))))))), ?_⟩
  refine ⟨_, rfl, b, _, rfl, SqT.of hb, rfl, _, _, rfl, _, _, rfl, _, _, rfl, rfl, ?_⟩
  refine ⟨_, rfl, rfl, _, rfl, ?_⟩
  have appd : ∀ (y : Addr) (H1 : Hp), Same H H1 → H1 M = some (.lst []) := fun y H1 s1 => s1 _ _ hM
  rcases hw with rfl | rfl
  · -- put
    have ed := due_eq hT.1 h60 z e
    refine iteN (by decide +kernel) ?_
    refine ⟨_, rfl, .inl ⟨rfl, _, SqL.of hM⟩, _, rfl, _, rfl, _, rfl, x, z, x3, e, qs, rfl, hP, hT, h3, hzl, he, fun y rs H1 s1 hP1 hT1 hperm hdu => ?_, fun e0 H1 s1 hdu => ⟨g.bn, rfl, C.e_BadName, fun ea he hea => ?_⟩, fun e0 H1 s1 hdu => ⟨g.bt, rfl, C.e_BadThing, fun ea he hea => ?_⟩⟩
    · rw [ed] at hdu
      refine ⟨M, [], _, rfl, rfl, s1 _ _ hM, (by show 0 < sizeLine; omega), ?_⟩
      refine ⟨_, rfl, rfl, _, rfl, iteB (decide_eq_true rfl) ?_⟩
      have hP2 : ProjAt a.c_Project (upd H1 M (.lst ([] ++ [V.ref y]))) y rs := hP1.updM (s1 _ _ hM)
      exact k y rs _ (fun c o ec nc => by rw [upd_ne nc]; exact s1 _ _ ec) upd_same hP2 hT1 hdu (fun q => absurd q (by decide +kernel)) fun _ => hperm
    · rw [ed] at hdu
      cases he
      have e1 : (upd H1 e0 (ExcO e0 g.bn)) e0 = some (ExcO e0 g.bn) := upd_same
      have s2 : Same H (upd H1 e0 (ExcO e0 g.bn)) := s1.trans (same_new hea _)
      obtain ⟨H2, eH2⟩ : ∃ G, G = upd H1 e0 (ExcO e0 g.bn) := ⟨_, rfl⟩
      rw [← eH2] at e1 s2 ⊢
      refine ⟨_, rfl, ?_⟩
      refine ⟨_, rfl, rfl, _, rfl, iteN (decide_eq_false fun z => by cases z) ?_⟩
      refine ⟨_, rfl, (by show 5 ≤ sizeLine; omega), fun t3 g3 => ?_⟩
      have s3 := same_new g3 (.tup [.ref g.xBadAnswer, .ref g.xBadKeep, .ref g.xBadRule, .ref g.xBadText, .ref g.xBadTree])
      refine ⟨e0, g.bn, t3, [g.xBadAnswer, g.xBadKeep, g.xBadRule, g.xBadText, g.xBadTree], false, rfl, s3 _ _ e1, upd_same, C.xcN, C.t1N, _, rfl, iteF ?_⟩
      have e4 := s3 _ _ e1
      refine ⟨_, rfl, .ref e0, .ty "ValueError", .type "ValueError", .ref g.bn, true, rfl, .ty _, .exc e4 C.xcN, C.veN, _, rfl, iteF ?_⟩
      refine ⟨_, rfl, (by show 3 ≤ sizeLine; omega), fun t5 g5 => ?_⟩
      have s5 := same_new g5 (.tup [.ref g.xClash, .ref g.xNoAsk, .ref g.xNoDeed])
      refine ⟨e0, g.bn, t5, [g.xClash, g.xNoAsk, g.xNoDeed], false, rfl, s5 _ _ e4, upd_same, C.xcN, C.t2N, _, rfl, iteF ?_⟩
      have e6 := s5 _ _ e4
      refine ⟨_, rfl, .ref e0, .ref g.bn, .ref g.bn, .ref g.bn, true, rfl, .own _, .exc e6 C.xcN, kselfN, _, rfl, .ref e0, .ref g.bt, .ref g.bt, .ref g.bn, false, rfl, .own _, .exc e6 C.xcN, C.kNT, _, rfl, .ref e0, .ref g.ng, .ref g.ng, .ref g.bn, false, rfl, .own _, .exc e6 C.xcN, C.kNG, (by show 3 ≤ sizeLine; omega), fun m hm => ?_⟩
      have s7 := same_new hm (.lst ([true, false, false].map V.bl))
      refine ⟨_, rfl, .inl ⟨rfl, _, SqL.of upd_same⟩, m, [true, false, false], true, rfl, rfl, SqL.of upd_same, rfl, _, rfl, iteN rfl ?_⟩
      refine ⟨(by show 3 ≤ sizeLine; omega), fun q hq => ?_⟩
      have s8 := same_new hq (.lst [V.str "name", V.str "thing", V.str "thing gone"])
      refine ⟨_, rfl, .inl ⟨rfl, _, SqL.of (s8 _ _ upd_same)⟩, m, [true, false, false], 0, rfl, rfl, SqL.of (s8 _ _ upd_same), rfl, (fun j hj => absurd hj (Nat.not_lt_zero _)), (by decide), q, _, _, _, rfl, rfl, SqL.of upd_same, rfl, ?_⟩
      have := kX _ ((((s2.trans s3).trans s5).trans s7).trans s8) (by rw [hdu]; decide +kernel)
      rw [hdu] at this
      exact this
    · rw [ed] at hdu
      cases he
      have e1 : (upd H1 e0 (ExcO e0 g.bt)) e0 = some (ExcO e0 g.bt) := upd_same
      have s2 : Same H (upd H1 e0 (ExcO e0 g.bt)) := s1.trans (same_new hea _)
      obtain ⟨H2, eH2⟩ : ∃ G, G = upd H1 e0 (ExcO e0 g.bt) := ⟨_, rfl⟩
      rw [← eH2] at e1 s2 ⊢
      refine ⟨_, rfl, ?_⟩
      refine ⟨_, rfl, rfl, _, rfl, iteN (decide_eq_false fun z => by cases z) ?_⟩
      refine ⟨_, rfl, (by show 5 ≤ sizeLine; omega), fun t3 g3 => ?_⟩
      have s3 := same_new g3 (.tup [.ref g.xBadAnswer, .ref g.xBadKeep, .ref g.xBadRule, .ref g.xBadText, .ref g.xBadTree])
      refine ⟨e0, g.bt, t3, [g.xBadAnswer, g.xBadKeep, g.xBadRule, g.xBadText, g.xBadTree], false, rfl, s3 _ _ e1, upd_same, C.xcT, C.t1T, _, rfl, iteF ?_⟩
      have e4 := s3 _ _ e1
      refine ⟨_, rfl, .ref e0, .ty "ValueError", .type "ValueError", .ref g.bt, true, rfl, .ty _, .exc e4 C.xcT, C.veT, _, rfl, iteF ?_⟩
      refine ⟨_, rfl, (by show 3 ≤ sizeLine; omega), fun t5 g5 => ?_⟩
      have s5 := same_new g5 (.tup [.ref g.xClash, .ref g.xNoAsk, .ref g.xNoDeed])
      refine ⟨e0, g.bt, t5, [g.xClash, g.xNoAsk, g.xNoDeed], false, rfl, s5 _ _ e4, upd_same, C.xcT, C.t2T, _, rfl, iteF ?_⟩
      have e6 := s5 _ _ e4
      refine ⟨_, rfl, .ref e0, .ref g.bn, .ref g.bn, .ref g.bt, false, rfl, .own _, .exc e6 C.xcT, C.kTN, _, rfl, .ref e0, .ref g.bt, .ref g.bt, .ref g.bt, true, rfl, .own _, .exc e6 C.xcT, kselfT, _, rfl, .ref e0, .ref g.ng, .ref g.ng, .ref g.bt, false, rfl, .own _, .exc e6 C.xcT, C.kTG, (by show 3 ≤ sizeLine; omega), fun m hm => ?_⟩
      have s7 := same_new hm (.lst ([false, true, false].map V.bl))
      refine ⟨_, rfl, .inl ⟨rfl, _, SqL.of upd_same⟩, m, [false, true, false], true, rfl, rfl, SqL.of upd_same, rfl, _, rfl, iteN rfl ?_⟩
      refine ⟨(by show 3 ≤ sizeLine; omega), fun q hq => ?_⟩
      have s8 := same_new hq (.lst [V.str "name", V.str "thing", V.str "thing gone"])
      refine ⟨_, rfl, .inl ⟨rfl, _, SqL.of (s8 _ _ upd_same)⟩, m, [false, true, false], 1, rfl, rfl, SqL.of (s8 _ _ upd_same), rfl, (fun j hj => by obtain rfl : j = 0 := (by omega); rfl), (by decide), q, _, _, _, rfl, rfl, SqL.of upd_same, rfl, ?_⟩
      have := kX _ ((((s2.trans s3).trans s5).trans s7).trans s8) (by rw [hdu]; decide +kernel)
      rw [hdu] at this
      exact this
  · -- out
    have ed := due_out z e qs
    refine iteB (decide_eq_true rfl) ?_
    refine ⟨_, rfl, .inl ⟨rfl, _, SqL.of hM⟩, _, rfl, _, rfl, x, z, qs, rfl, hP, hT, fun y rs H1 s1 hP1 hT1 hperm c => ?_, fun e0 H1 s1 c => ⟨g.ng, rfl, C.e_NoThing, fun ea he hea => ?_⟩⟩
    · rw [if_pos c] at ed
      refine ⟨M, [], _, rfl, rfl, s1 _ _ hM, (by show 0 < sizeLine; omega), ?_⟩
      refine ⟨_, rfl, rfl, _, rfl, iteB (decide_eq_true rfl) ?_⟩
      have hP2 : ProjAt a.c_Project (upd H1 M (.lst ([] ++ [V.ref y]))) y rs := hP1.updM (s1 _ _ hM)
      exact k y rs _ (fun c o ec nc => by rw [upd_ne nc]; exact s1 _ _ ec) upd_same hP2 hT1 ed (fun _ => hperm) fun q => absurd q (by decide +kernel)
    · rw [if_neg c] at ed
      cases he
      have e1 : (upd H1 e0 (ExcO e0 g.ng)) e0 = some (ExcO e0 g.ng) := upd_same
      have s2 : Same H (upd H1 e0 (ExcO e0 g.ng)) := s1.trans (same_new hea _)
      obtain ⟨H2, eH2⟩ : ∃ G, G = upd H1 e0 (ExcO e0 g.ng) := ⟨_, rfl⟩
      rw [← eH2] at e1 s2 ⊢
      refine ⟨_, rfl, ?_⟩
      refine ⟨_, rfl, rfl, _, rfl, iteN (decide_eq_false fun z => by cases z) ?_⟩
      refine ⟨_, rfl, (by show 5 ≤ sizeLine; omega), fun t3 g3 => ?_⟩
      have s3 := same_new g3 (.tup [.ref g.xBadAnswer, .ref g.xBadKeep, .ref g.xBadRule, .ref g.xBadText, .ref g.xBadTree])
      refine ⟨e0, g.ng, t3, [g.xBadAnswer, g.xBadKeep, g.xBadRule, g.xBadText, g.xBadTree], false, rfl, s3 _ _ e1, upd_same, C.xcG, C.t1G, _, rfl, iteF ?_⟩
      have e4 := s3 _ _ e1
      refine ⟨_, rfl, .ref e0, .ty "ValueError", .type "ValueError", .ref g.ng, true, rfl, .ty _, .exc e4 C.xcG, C.veG, _, rfl, iteF ?_⟩
      refine ⟨_, rfl, (by show 3 ≤ sizeLine; omega), fun t5 g5 => ?_⟩
      have s5 := same_new g5 (.tup [.ref g.xClash, .ref g.xNoAsk, .ref g.xNoDeed])
      refine ⟨e0, g.ng, t5, [g.xClash, g.xNoAsk, g.xNoDeed], false, rfl, s5 _ _ e4, upd_same, C.xcG, C.t2G, _, rfl, iteF ?_⟩
      have e6 := s5 _ _ e4
      refine ⟨_, rfl, .ref e0, .ref g.bn, .ref g.bn, .ref g.ng, false, rfl, .own _, .exc e6 C.xcG, C.kGN, _, rfl, .ref e0, .ref g.bt, .ref g.bt, .ref g.ng, false, rfl, .own _, .exc e6 C.xcG, C.kGT, _, rfl, .ref e0, .ref g.ng, .ref g.ng, .ref g.ng, true, rfl, .own _, .exc e6 C.xcG, kselfG, (by show 3 ≤ sizeLine; omega), fun m hm => ?_⟩
      have s7 := same_new hm (.lst ([false, false, true].map V.bl))
      refine ⟨_, rfl, .inl ⟨rfl, _, SqL.of upd_same⟩, m, [false, false, true], true, rfl, rfl, SqL.of upd_same, rfl, _, rfl, iteN rfl ?_⟩
      refine ⟨(by show 3 ≤ sizeLine; omega), fun q hq => ?_⟩
      have s8 := same_new hq (.lst [V.str "name", V.str "thing", V.str "thing gone"])
      refine ⟨_, rfl, .inl ⟨rfl, _, SqL.of (s8 _ _ upd_same)⟩, m, [false, false, true], 2, rfl, rfl, SqL.of (s8 _ _ upd_same), rfl, (fun j hj => by rcases (show j = 0 ∨ j = 1 by omega) with rfl | rfl <;> rfl), (by decide), q, _, _, _, rfl, rfl, SqL.of upd_same, rfl, ?_⟩
      have := kX _ ((((s2.trans s3).trans s5).trans s7).trans s8) (by rw [ed]; decide +kernel)
      rw [ed] at this
      exact this
end
end K18

namespace K18
open PySem L2 PyProof.Rows
theorem PrOk.perm {l m : List (Str × D)} (h : PrOk m) (p : l.Perm m) : PrOk l := ⟨h.1.perm (p.map _), fun x hx => h.2 x (p.mem_iff.mp hx)⟩
theorem dueK_perm {w z : Str} {e : D} {qs ps : List (Str × D)} (h : qs.Perm ps) : dueK w z e ps = dueK w z e qs := by
  unfold dueK
  have h1 : (z ∈ ps.map (·.1)) = (z ∈ qs.map (·.1)) := propext (h.map _).mem_iff.symm
  rw [h.length_eq]
  simp only [h1]
/-! ### the table changed -/
def fltV (vs : List (Str × V)) (z : Str) : List (Str × V) := vs.filter fun p => decide (p.1 ≠ z)
theorem drop_inr (vs : List (Str × V)) (z : Str) : dropK (inrK vs) (Sum.inr z) = inrK (fltV vs z) := by
  unfold dropK inrK fltV
  rw [List.filter_map]
  refine congrArg (List.map _) (List.filter_congr fun p _ => ?_)
  simp
theorem flt_tbl {H : Hp} {z : Str} : ∀ {ps : List (Str × D)} {vs : List (Str × V)}, vs.map (·.1) = ps.map (·.1) → L2.IsL H (ps.map (·.2)) (vs.map (·.2)) → (fltV vs z).map (·.1) = (flt ps z).map (·.1) ∧ L2.IsL H ((flt ps z).map (·.2)) ((fltV vs z).map (·.2))
  | [], [], _, _ => ⟨rfl, rfl⟩
  | [], _ :: _, e, _ => by simp at e
  | _ :: _, [], e, _ => by simp at e
  | p :: ps, v :: vs, e, h => by
    simp only [List.map_cons, List.cons.injEq] at e
    obtain ⟨u, r, e2, h1, h2⟩ := h
    simp only [List.map_cons, List.cons.injEq] at e2
    obtain ⟨rfl, rfl⟩ := e2
    obtain ⟨i1, i2⟩ := flt_tbl (z := z) e.2 h2
    unfold fltV flt at *
    rw [List.filter_cons, List.filter_cons]
    by_cases c : p.1 = z
    · rw [if_neg (by rw [e.1]; simpa using c), if_neg (by simpa using c)]
      exact ⟨i1, i2⟩
    · rw [if_pos (by rw [e.1]; simpa using c), if_pos (by simpa using c)]
      exact ⟨by rw [List.map_cons, List.map_cons, i1, e.1], ⟨_, _, rfl, h1, i2⟩⟩
def setP {β : Type} (ps : List (Str × β)) (z : Str) (e : β) : List (Str × β) := ps.map fun p => if p.1 = z then (p.1, e) else p
def putP {β : Type} (ps : List (Str × β)) (z : Str) (e : β) : List (Str × β) := if z ∈ ps.map (·.1) then setP ps z e else ps ++ [(z, e)]
theorem put_inr (vs : List (Str × V)) (z : Str) (v : V) : putK (inrK vs) (Sum.inr z) v = inrK (putP vs z v) := by
  unfold putP
  by_cases c : z ∈ vs.map (·.1)
  · rw [if_pos c]
    unfold putK
    rw [if_pos]
    · unfold inrK setP
      rw [List.map_map, List.map_map]
      refine List.map_congr_left fun p _ => ?_
      by_cases h : p.1 = z
      · simp [h]
      · simp [h]
    · unfold inrK
      rw [List.any_map, List.any_eq_true]
      obtain ⟨p, hp, e⟩ := List.mem_map.mp c
      exact ⟨p, hp, by simp [e]⟩
  · rw [if_neg c, putK_new _ (look0 c)]
    unfold inrK
    rw [List.map_append]
    rfl
theorem set_tbl {H : Hp} {z : Str} {de : D} {u : V} (hu : Is H de u) : ∀ {ps : List (Str × D)} {vs : List (Str × V)}, vs.map (·.1) = ps.map (·.1) → L2.IsL H (ps.map (·.2)) (vs.map (·.2)) → (setP vs z u).map (·.1) = (setP ps z de).map (·.1) ∧ L2.IsL H ((setP ps z de).map (·.2)) ((setP vs z u).map (·.2))
  | [], [], _, _ => ⟨rfl, rfl⟩
  | [], _ :: _, e, _ => by simp at e
  | _ :: _, [], e, _ => by simp at e
  | p :: ps, v :: vs, e, h => by
    simp only [List.map_cons, List.cons.injEq] at e
    obtain ⟨u', r, e2, h1, h2⟩ := h
    simp only [List.map_cons, List.cons.injEq] at e2
    obtain ⟨rfl, rfl⟩ := e2
    obtain ⟨i1, i2⟩ := set_tbl (z := z) hu e.2 h2
    rw [show setP (p :: ps) z de = (if p.1 = z then (p.1, de) else p) :: setP ps z de from rfl, show setP (v :: vs) z u = (if v.1 = z then (v.1, u) else v) :: setP vs z u from rfl]
    by_cases c : p.1 = z
    · rw [if_pos c, if_pos (e.1.trans c)]
      refine ⟨?_, ⟨_, _, rfl, hu, i2⟩⟩
      rw [List.map_cons, List.map_cons, i1]
      exact congrArg (· :: _) e.1
    · rw [if_neg c, if_neg (fun q => c (e.1.symm.trans q))]
      refine ⟨?_, ⟨_, _, rfl, h1, i2⟩⟩
      rw [List.map_cons, List.map_cons, i1]
      exact congrArg (· :: _) e.1
theorem put_tbl {H : Hp} {z : Str} {e : D} {u : V} (hu : Is H e u) {ps : List (Str × D)} {vs : List (Str × V)} (hk : vs.map (·.1) = ps.map (·.1)) (hv : L2.IsL H (ps.map (·.2)) (vs.map (·.2))) : (putP vs z u).map (·.1) = (putP ps z e).map (·.1) ∧ L2.IsL H ((putP ps z e).map (·.2)) ((putP vs z u).map (·.2)) := by
  unfold putP
  by_cases c : z ∈ ps.map (·.1)
  · rw [if_pos c, if_pos (by rw [hk]; exact c)]
    exact set_tbl hu hk hv
  · rw [if_neg c, if_neg (by rw [hk]; exact c)]
    refine ⟨by rw [List.map_append, List.map_append, hk]; rfl, ?_⟩
    rw [List.map_append, List.map_append]
    exact hv.append (L2.IsL.one hu)
theorem set_not {ps : List (Str × D)} {z : Str} {e : D} (h : z ∉ ps.map (·.1)) : setP ps z e = ps := by
  unfold setP
  refine (List.map_congr_left fun p hp => ?_).trans (List.map_id ps)
  rw [if_neg fun q => h (by rw [← q]; exact List.mem_map.mpr ⟨p, hp, rfl⟩)]
  rfl
theorem set_perm : ∀ {ps : List (Str × D)} {z : Str} {e : D}, (ps.map (·.1)).Nodup → z ∈ ps.map (·.1) → (setP ps z e).Perm (flt ps z ++ [(z, e)])
  | [], _, _, _, h => nomatch h
  | p :: ps, z, e, hn, h => by
    have hn' := List.nodup_cons.mp hn
    by_cases c : p.1 = z
    · have hz : z ∉ ps.map (·.1) := by rw [← c]; exact hn'.1
      have e1 : setP (p :: ps) z e = (z, e) :: ps := by
        show (if p.1 = z then (p.1, e) else p) :: setP ps z e = _
        rw [if_pos c, set_not hz, c]
      have e2 : flt (p :: ps) z = ps := by
        unfold flt
        rw [List.filter_cons, if_neg (by simpa using c)]
        exact flt_id hz
      rw [e1, e2]
      exact (List.perm_append_singleton (z, e) ps).symm
    · have hz : z ∈ ps.map (·.1) := by
        rcases List.mem_cons.mp h with h | h
        · exact absurd h.symm c
        · exact h
      have e1 : setP (p :: ps) z e = p :: setP ps z e := by
        show (if p.1 = z then (p.1, e) else p) :: setP ps z e = _
        rw [if_neg c]
      have e2 : flt (p :: ps) z = p :: flt ps z := by
        unfold flt
        rw [List.filter_cons, if_pos (by simpa using c)]
      rw [e1, e2]
      exact (set_perm hn'.2 hz).cons p
theorem put_perm {ps : List (Str × D)} {z : Str} {e : D} (hn : (ps.map (·.1)).Nodup) : (putP ps z e).Perm (flt ps z ++ [(z, e)]) := by
  unfold putP
  by_cases c : z ∈ ps.map (·.1)
  · rw [if_pos c]
    exact set_perm hn c
  · rw [if_neg c, flt_id c]
theorem flt_perm {qs ps : List (Str × D)} (h : qs.Perm ps) (z : Str) : (flt qs z).Perm (flt ps z) := h.filter _
theorem TblAt.up {H : Hp} {d : Addr} {ps : List (Str × D)} {vs ws : List (Str × V)} (hd : H d = some (.dK (inrK vs))) (h1 : ws.map (·.1) = ps.map (·.1)) (h2 : L2.IsL H (ps.map (·.2)) (ws.map (·.2))) : TblAt (upd H d (.dK (inrK ws))) d ps :=
  ⟨ws, upd_same, h1, h2.mono (Tk.updD hd)⟩
theorem ProjAt.updD {C : Addr} {H : Hp} {x d : Addr} {qs : List (Str × D)} {ks ls : List (Key × V)} (h : ProjAt C H x qs) (hd : H d = some (.dK ks)) : ProjAt C (upd H d (.dK ls)) x qs := by
  obtain ⟨dx, d', o, vs, h1, h2, h3, h4⟩ := h
  exact ⟨dx, d', o, vs, by rw [upd_ne (fun e => by rw [e, hd] at h1; cases h1)]; exact h1, by rw [upd_ne (fun e => by rw [e, hd] at h2; cases h2)]; exact h2, h3, h4.mono (Tk.updD hd)⟩
def sp_law (K : PySem.W.Frag) : Sp := fun vs H Q _ => ∃ (a : Addr) (ns : List Int), vs = [.ref a] ∧ SqL K H a (ns.map V.int) ∧ ns.length ≤ 63 ∧ ∀ H', Q (.bl true) H'
end K18

namespace K18
open PySem L2 PyProof.Rows
/-- what stands ahead of a turn -/
structure Now (C : Addr) (H : Hp) (x d L X : Addr) (qs ps ps0 : List (Str × D)) (us cs : List V) : Prop where
  pr : ProjAt C H x qs
  ok : TabOk qs
  tb : TblAt H d ps
  pm : qs.Perm ps
  hL : H L = some (.lst us)
  us : L2.IsL H (ps0.map prD) us
  hX : H X = some (.lst cs)
theorem Now.same {C : Addr} {H H' : Hp} {x d L X : Addr} {qs ps ps0 : List (Str × D)} {us cs : List V} (h : Now C H x d L X qs ps ps0 us cs) (s : Same H H') : Now C H' x d L X qs ps ps0 us cs :=
  ⟨h.pr.same s, h.ok, h.tb.same s, h.pm, s _ _ h.hL, h.us.mono s.tk, s _ _ h.hX⟩
section
variable {P : Program} {w : World} {K : PySem.W.Frag} {mg : Str → Option Value} {base : Heap} {a : Ad} {g : Ga}
theorem ok_law (T : Tx K mg a) (C : Fx K mg g) : FnOk P w K mg base CX0 157 a.f_law a.d_law ["script"] (sp_law K) := by
  have G_law_pairs : FnOk P w K mg base CX0 156 a.f_law_pairs a.d_law_pairs ["script"] (sp_lpairs K) := ok_lpairs T
  have G_Project_init : FnOk P w K mg base (CX1 P w) 4 a.f_Project_init a.d_Project_init ["self", "sources"] (sp_initX a.c_Project g.bn g.bt) := ok_init T C
  have G_law_same_as : FnOk P w K mg base CX0 2 a.f_law_same_as a.d_law_same_as ["project", "table"] (sp_same a.c_Project) := ok_same T
  have G_law_deed : FnOk P w K mg base CX0 156 a.f_law_deed a.d_law_deed ["pot", "table"] sp_deed := ok_deed T
  have G_law_due : FnOk P w K mg base CX0 1 a.f_law_due a.d_law_due ["deed", "table"] sp_due := ok_due T
  have G_law_done : FnOk P w K mg base CX0 7 a.f_law_done a.d_law_done ["deed", "project", "made"] (sp_done a.c_Project) := ok_done T C
  have G_law_pot : FnOk P w K mg base CX0 1 a.f_law_pot a.d_law_pot ["cell", "salt"] sp_pot := ok_pot T
  refine T.F_law.ok sc_law (fun vs H Q E h => ?_) (fun cdv A outer s H vs Q E hr h => ?_)
  · obtain ⟨q, ns, rfl, _⟩ := h
    rfl
  obtain ⟨q, ns, rfl, hq, hns, k⟩ := h
  have hs := sizeLine_eq
  refine ⟨_, (@pss_cons _ _ _ _ _ (@ps_set _ _ (1) _ _ _ _ sc_law.nd rfl (Or.inl rfl) (@pe_call _ _ _ _ _ _ _ _ _ _ _ _ _ _ _ _ G_law_pairs (hr.mono (by first | decide | omega)) (by rfl) T.m_law_pairs T.F_law_pairs.kp T.b_law_pairs .nil pass0 (@pa_cons _ _ _ _ _ (pv 0) (@pa_nil _) (by first|rfl|exact .inl rfl|exact .inr rfl|exact .inr (.inl rfl)|decide +kernel|(intro _;rfl))) (by first|rfl|exact .inl rfl|exact .inr rfl|exact .inr (.inl rfl)|decide +kernel|(intro _;rfl)) (by first|rfl|exact .inl rfl|exact .inr rfl|exact .inr (.inl rfl)|decide +kernel|(intro _;rfl)) (by first|rfl|exact .inl rfl|exact .inr rfl|exact .inr (.inl rfl)|decide +kernel|(intro _;rfl))) (by first|rfl|exact .inl rfl|exact .inr rfl|exact .inr (.inl rfl)|decide +kernel|(intro _;rfl)) (by first|rfl|exact .inl rfl|exact .inr rfl|exact .inr (.inl rfl)|decide +kernel|(intro _;rfl))) (@pss_cons _ _ _ _ _ (@ps_set _ _ (2) _ _ _ _ sc_law.nd rfl (Or.inl rfl) (@pe_make _ _ _ _ _ _ _ _ _ _ _ _ _ _ _ _ _ T.M_Project G_Project_init (hr.mono (by first | decide | omega)) (by rfl) T.m_Project T.b_Project_init .nil passF (@pa_cons _ _ _ _ _ (@pe_callTy _ _ _ _ _ _ _ _ _ (@call_tuple_of _) (by rfl) T.z_tuple boot_tuple (@pa_cons _ _ _ _ _ (pv 1) (@pa_nil _) (by first|rfl|exact .inl rfl|exact .inr rfl|exact .inr (.inl rfl)|decide +kernel|(intro _;rfl))) (by first|rfl|exact .inl rfl|exact .inr rfl|exact .inr (.inl rfl)|decide +kernel|(intro _;rfl)) (by first|rfl|exact .inl rfl|exact .inr rfl|exact .inr (.inl rfl)|decide +kernel|(intro _;rfl)) (by first|rfl|exact .inl rfl|exact .inr rfl|exact .inr (.inl rfl)|decide +kernel|(intro _;rfl)) (by first|rfl|exact .inl rfl|exact .inr rfl|exact .inr (.inl rfl)|decide +kernel|(intro _;rfl))) (@pa_nil _) (by first|rfl|exact .inl rfl|exact .inr rfl|exact .inr (.inl rfl)|decide +kernel|(intro _;rfl))) (by first|rfl|exact .inl rfl|exact .inr rfl|exact .inr (.inl rfl)|decide +kernel|(intro _;rfl)) (by first|rfl|exact .inl rfl|exact .inr rfl|exact .inr (.inl rfl)|decide +kernel|(intro _;rfl)) (by first|rfl|exact .inl rfl|exact .inr rfl|exact .inr (.inl rfl)|decide +kernel|(intro _;rfl))) (by first|rfl|exact .inl rfl|exact .inr rfl|exact .inr (.inl rfl)|decide +kernel|(intro _;rfl)) (by first|rfl|exact .inl rfl|exact .inr rfl|exact .inr (.inl rfl)|decide +kernel|(intro _;rfl))) (@pss_cons _ _ _ _ _ (@ps_set _ _ (3) _ _ _ _ sc_law.nd rfl (Or.inl rfl) (@pe_callTy _ _ _ _ _ _ _ _ _ (@call_dictP _ rfl) (by rfl) T.z_dict boot_dict (@pa_cons _ _ _ _ _ (pv 1) (@pa_nil _) (by first|rfl|exact .inl rfl|exact .inr rfl|exact .inr (.inl rfl)|decide +kernel|(intro _;rfl))) (by first|rfl|exact .inl rfl|exact .inr rfl|exact .inr (.inl rfl)|decide +kernel|(intro _;rfl)) (by first|rfl|exact .inl rfl|exact .inr rfl|exact .inr (.inl rfl)|decide +kernel|(intro _;rfl)) (by first|rfl|exact .inl rfl|exact .inr rfl|exact .inr (.inl rfl)|decide +kernel|(intro _;rfl)) (by first|rfl|exact .inl rfl|exact .inr rfl|exact .inr (.inl rfl)|decide +kernel|(intro _;rfl))) (by first|rfl|exact .inl rfl|exact .inr rfl|exact .inr (.inl rfl)|decide +kernel|(intro _;rfl)) (by first|rfl|exact .inl rfl|exact .inr rfl|exact .inr (.inl rfl)|decide +kernel|(intro _;rfl))) (@pss_cons _ _ _ _ _ (@ps_for _ _ _ _ _ _ _ _ PassesOwn.never rfl (@pi_list _ _ _ _ (@pe_op _ _ _ _ _ _ _ _ (@op_cat _) (@pe_lst _ _ _ _ (@pa_cons _ _ _ _ _ (@pe_callB _ _ _ _ _ _ _ _ _ (@call_len_seq _) (by rfl) T.z_len PySem.boot_len (@pa_cons _ _ _ _ _ (pv 0) (@pa_nil _) (by first|rfl|exact .inl rfl|exact .inr rfl|exact .inr (.inl rfl)|decide +kernel|(intro _;rfl))) (by first|rfl|exact .inl rfl|exact .inr rfl|exact .inr (.inl rfl)|decide +kernel|(intro _;rfl)) (by first|rfl|exact .inl rfl|exact .inr rfl|exact .inr (.inl rfl)|decide +kernel|(intro _;rfl)) (by first|rfl|exact .inl rfl|exact .inr rfl|exact .inr (.inl rfl)|decide +kernel|(intro _;rfl)) (by first|rfl|exact .inl rfl|exact .inr rfl|exact .inr (.inl rfl)|decide +kernel|(intro _;rfl))) (@pa_nil _) (by first|rfl|exact .inl rfl|exact .inr rfl|exact .inr (.inl rfl)|decide +kernel|(intro _;rfl)))) (@pe_callTy _ _ _ _ _ _ _ _ _ (@call_list_of _) (by rfl) T.z_list boot_list (@pa_cons _ _ _ _ _ (@pe_slice _ _ _ _ _ _ _ _ _ _ (@sl_list _) (pv 0) (@po_none _) (@po_some _ _ _ (@pe_int _ _ _ _))) (@pa_nil _) (by first|rfl|exact .inl rfl|exact .inr rfl|exact .inr (.inl rfl)|decide +kernel|(intro _;rfl))) (by first|rfl|exact .inl rfl|exact .inr rfl|exact .inr (.inl rfl)|decide +kernel|(intro _;rfl)) (by first|rfl|exact .inl rfl|exact .inr rfl|exact .inr (.inl rfl)|decide +kernel|(intro _;rfl)) (by first|rfl|exact .inl rfl|exact .inr rfl|exact .inr (.inl rfl)|decide +kernel|(intro _;rfl)) (by first|rfl|exact .inl rfl|exact .inr rfl|exact .inr (.inl rfl)|decide +kernel|(intro _;rfl))))) (@pg_name _ _ (4) _ sc_law.nd rfl (Or.inl rfl) (by first|rfl|exact .inl rfl|exact .inr rfl|exact .inr (.inl rfl)|decide +kernel|(intro _;rfl))) (@pss_cons _ _ _ _ _ (@ps_set _ _ (5) _ _ _ _ sc_law.nd rfl (Or.inl rfl) (@pe_call _ _ _ _ _ _ _ _ _ _ _ _ _ _ _ _ G_law_deed (hr.mono (by first | decide | omega)) (by rfl) T.m_law_deed T.F_law_deed.kp T.b_law_deed .nil pass0 (@pa_cons _ _ _ _ _ (@pe_call _ _ _ _ _ _ _ _ _ _ _ _ _ _ _ _ G_law_pot (hr.mono (by first | decide | omega)) (by rfl) T.m_law_pot T.F_law_pot.kp T.b_law_pot .nil pass0 (@pa_cons _ _ _ _ _ (pv 4) (@pa_cons _ _ _ _ _ (@pe_int _ _ _ _) (@pa_nil _) (by first|rfl|exact .inl rfl|exact .inr rfl|exact .inr (.inl rfl)|decide +kernel|(intro _;rfl))) (by first|rfl|exact .inl rfl|exact .inr rfl|exact .inr (.inl rfl)|decide +kernel|(intro _;rfl))) (by first|rfl|exact .inl rfl|exact .inr rfl|exact .inr (.inl rfl)|decide +kernel|(intro _;rfl)) (by first|rfl|exact .inl rfl|exact .inr rfl|exact .inr (.inl rfl)|decide +kernel|(intro _;rfl)) (by first|rfl|exact .inl rfl|exact .inr rfl|exact .inr (.inl rfl)|decide +kernel|(intro _;rfl))) (@pa_cons _ _ _ _ _ (pv 3) (@pa_nil _) (by first|rfl|exact .inl rfl|exact .inr rfl|exact .inr (.inl rfl)|decide +kernel|(intro _;rfl))) (by first|rfl|exact .inl rfl|exact .inr rfl|exact .inr (.inl rfl)|decide +kernel|(intro _;rfl))) (by first|rfl|exact .inl rfl|exact .inr rfl|exact .inr (.inl rfl)|decide +kernel|(intro _;rfl)) (by first|rfl|exact .inl rfl|exact .inr rfl|exact .inr (.inl rfl)|decide +kernel|(intro _;rfl)) (by first|rfl|exact .inl rfl|exact .inr rfl|exact .inr (.inl rfl)|decide +kernel|(intro _;rfl))) (by first|rfl|exact .inl rfl|exact .inr rfl|exact .inr (.inl rfl)|decide +kernel|(intro _;rfl)) (by first|rfl|exact .inl rfl|exact .inr rfl|exact .inr (.inl rfl)|decide +kernel|(intro _;rfl))) (@pss_cons _ _ _ _ _ (@ps_set _ _ (6) _ _ _ _ sc_law.nd rfl (Or.inl rfl) (@pe_call _ _ _ _ _ _ _ _ _ _ _ _ _ _ _ _ G_law_due (hr.mono (by first | decide | omega)) (by rfl) T.m_law_due T.F_law_due.kp T.b_law_due .nil pass0 (@pa_cons _ _ _ _ _ (pv 5) (@pa_cons _ _ _ _ _ (pv 3) (@pa_nil _) (by first|rfl|exact .inl rfl|exact .inr rfl|exact .inr (.inl rfl)|decide +kernel|(intro _;rfl))) (by first|rfl|exact .inl rfl|exact .inr rfl|exact .inr (.inl rfl)|decide +kernel|(intro _;rfl))) (by first|rfl|exact .inl rfl|exact .inr rfl|exact .inr (.inl rfl)|decide +kernel|(intro _;rfl)) (by first|rfl|exact .inl rfl|exact .inr rfl|exact .inr (.inl rfl)|decide +kernel|(intro _;rfl)) (by first|rfl|exact .inl rfl|exact .inr rfl|exact .inr (.inl rfl)|decide +kernel|(intro _;rfl))) (by first|rfl|exact .inl rfl|exact .inr rfl|exact .inr (.inl rfl)|decide +kernel|(intro _;rfl)) (by first|rfl|exact .inl rfl|exact .inr rfl|exact .inr (.inl rfl)|decide +kernel|(intro _;rfl))) (@pss_cons _ _ _ _ _ (@ps_set _ _ (7) _ _ _ _ sc_law.nd rfl (Or.inl rfl) (@pe_lst _ _ _ _ (@pa_nil _)) (by first|rfl|exact .inl rfl|exact .inr rfl|exact .inr (.inl rfl)|decide +kernel|(intro _;rfl)) (by first|rfl|exact .inl rfl|exact .inr rfl|exact .inr (.inl rfl)|decide +kernel|(intro _;rfl))) (@pss_cons _ _ _ _ _ (@ps_if _ _ _ _ _ _ _ _ (@pw_or _ _ _ _ _ _ _ (@pt_cmpR _ _ _ _ _ _ _ _ (@op_ne _) (@pe_call _ _ _ _ _ _ _ _ _ _ _ _ _ _ _ _ G_law_done (hr.mono (by first | decide | omega)) (by rfl) T.m_law_done T.F_law_done.kp T.b_law_done .nil pass0 (@pa_cons _ _ _ _ _ (pv 5) (@pa_cons _ _ _ _ _ (pv 2) (@pa_cons _ _ _ _ _ (pv 7) (@pa_nil _) (by first|rfl|exact .inl rfl|exact .inr rfl|exact .inr (.inl rfl)|decide +kernel|(intro _;rfl))) (by first|rfl|exact .inl rfl|exact .inr rfl|exact .inr (.inl rfl)|decide +kernel|(intro _;rfl))) (by first|rfl|exact .inl rfl|exact .inr rfl|exact .inr (.inl rfl)|decide +kernel|(intro _;rfl))) (by first|rfl|exact .inl rfl|exact .inr rfl|exact .inr (.inl rfl)|decide +kernel|(intro _;rfl)) (by first|rfl|exact .inl rfl|exact .inr rfl|exact .inr (.inl rfl)|decide +kernel|(intro _;rfl)) (by first|rfl|exact .inl rfl|exact .inr rfl|exact .inr (.inl rfl)|decide +kernel|(intro _;rfl))) (pv 6) (nomark _)) (@pw_or1 _ _ _ _ (@pt_not _ _ _ _ (@pt_val _ _ _ (@pe_call _ _ _ _ _ _ _ _ _ _ _ _ _ _ _ _ G_law_same_as (hr.mono (by first | decide | omega)) (by rfl) T.m_law_same_as T.F_law_same_as.kp T.b_law_same_as .nil pass0 (@pa_cons _ _ _ _ _ (pv 2) (@pa_cons _ _ _ _ _ (pv 3) (@pa_nil _) (by first|rfl|exact .inl rfl|exact .inr rfl|exact .inr (.inl rfl)|decide +kernel|(intro _;rfl))) (by first|rfl|exact .inl rfl|exact .inr rfl|exact .inr (.inl rfl)|decide +kernel|(intro _;rfl))) (by first|rfl|exact .inl rfl|exact .inr rfl|exact .inr (.inl rfl)|decide +kernel|(intro _;rfl)) (by first|rfl|exact .inl rfl|exact .inr rfl|exact .inr (.inl rfl)|decide +kernel|(intro _;rfl)) (by first|rfl|exact .inl rfl|exact .inr rfl|exact .inr (.inl rfl)|decide +kernel|(intro _;rfl))) (by first|rfl|exact .inl rfl|exact .inr rfl|exact .inr (.inl rfl)|decide +kernel|(intro _;rfl)))))).pt (@pss_one _ _ _ (@ps_ret _ _ _ _ (@pe_bl _ _ _ _))) (@pss_nil _)) (@pss_cons _ _ _ _ _ (@ps_if _ _ _ _ _ _ _ _ (@pt_cmpR _ _ _ _ _ _ _ _ (@op_eq _) (pv 6) (@pe_str _ _ _ _) (nomark _)) (@pss_cons _ _ _ _ _ (@ps_if _ _ _ _ _ _ _ _ (@pt_cmpR _ _ _ _ _ _ _ _ (@op_eq _) (@pe_ix _ _ _ _ _ _ _ (@ix_tup _) (pv 5) (@pe_int _ _ _ _) (fun _ _ => rfl)) (@pe_str _ _ _ _) (nomark _)) (@pss_one _ _ _ (@ps_expr _ _ _ _ (@pe_dpop1 _ _ _ _ _ _ _ (pv 3) (@pe_ix _ _ _ _ _ _ _ (@ix_tup _) (pv 5) (@pe_int _ _ _ _) (fun _ _ => rfl)) ⟨rfl, rfl, rfl, rfl⟩) (by first|rfl|exact .inl rfl|exact .inr rfl|exact .inr (.inl rfl)|decide +kernel|(intro _;rfl)))) (@pss_one _ _ _ (@ps_dput _ _ _ _ _ _ _ _ _ (hu_of hr) (pv 3) (@pe_ix _ _ _ _ _ _ _ (@ix_tup _) (pv 5) (@pe_int _ _ _ _) (fun _ _ => rfl)) (@pe_ix _ _ _ _ _ _ _ (@ix_tup _) (pv 5) (@pe_int _ _ _ _) (fun _ _ => rfl)) rfl))) (@pss_one _ _ _ (@ps_set _ _ (2) _ _ _ _ sc_law.nd rfl (Or.inl rfl) (@pe_ix _ _ _ _ _ _ _ (@ix_list _) (pv 7) (@pe_int _ _ _ _) (fun _ _ => rfl)) (by first|rfl|exact .inl rfl|exact .inr rfl|exact .inr (.inl rfl)|decide +kernel|(intro _;rfl)) (by first|rfl|exact .inl rfl|exact .inr rfl|exact .inr (.inl rfl)|decide +kernel|(intro _;rfl))))) (@pss_nil _)) (@pss_one _ _ _ (@ps_if _ _ _ _ _ _ _ _ (@pt_not _ _ _ _ (@pt_val _ _ _ (@pe_call _ _ _ _ _ _ _ _ _ _ _ _ _ _ _ _ G_law_same_as (hr.mono (by first | decide | omega)) (by rfl) T.m_law_same_as T.F_law_same_as.kp T.b_law_same_as .nil pass0 (@pa_cons _ _ _ _ _ (pv 2) (@pa_cons _ _ _ _ _ (pv 3) (@pa_nil _) (by first|rfl|exact .inl rfl|exact .inr rfl|exact .inr (.inl rfl)|decide +kernel|(intro _;rfl))) (by first|rfl|exact .inl rfl|exact .inr rfl|exact .inr (.inl rfl)|decide +kernel|(intro _;rfl))) (by first|rfl|exact .inl rfl|exact .inr rfl|exact .inr (.inl rfl)|decide +kernel|(intro _;rfl)) (by first|rfl|exact .inl rfl|exact .inr rfl|exact .inr (.inl rfl)|decide +kernel|(intro _;rfl)) (by first|rfl|exact .inl rfl|exact .inr rfl|exact .inr (.inl rfl)|decide +kernel|(intro _;rfl))) (by first|rfl|exact .inl rfl|exact .inr rfl|exact .inr (.inl rfl)|decide +kernel|(intro _;rfl)))) (@pss_one _ _ _ (@ps_ret _ _ _ _ (@pe_bl _ _ _ _))) (@pss_nil _)))))))) (by first|rfl|exact .inl rfl|exact .inr rfl|exact .inr (.inl rfl)|decide +kernel|(intro _;rfl))) (@pss_one _ _ _ (@ps_ret _ _ _ _ (@pe_call _ _ _ _ _ _ _ _ _ _ _ _ _ _ _ _ G_law_same_as (hr.mono (by first | decide | omega)) (by rfl) T.m_law_same_as T.F_law_same_as.kp T.b_law_same_as .nil pass0 (@pa_cons _ _ _ _ _ (@pe_make _ _ _ _ _ _ _ _ _ _ _ _ _ _ _ _ _ T.M_Project G_Project_init (hr.mono (by first | decide | omega)) (by rfl) T.m_Project T.b_Project_init .nil passF (@pa_cons _ _ _ _ _ (@pe_callTy _ _ _ _ _ _ _ _ _ (@call_tuple_of _) (by rfl) T.z_tuple boot_tuple (@pa_cons _ _ _ _ _ (pv 1) (@pa_nil _) (by first|rfl|exact .inl rfl|exact .inr rfl|exact .inr (.inl rfl)|decide +kernel|(intro _;rfl))) (by first|rfl|exact .inl rfl|exact .inr rfl|exact .inr (.inl rfl)|decide +kernel|(intro _;rfl)) (by first|rfl|exact .inl rfl|exact .inr rfl|exact .inr (.inl rfl)|decide +kernel|(intro _;rfl)) (by first|rfl|exact .inl rfl|exact .inr rfl|exact .inr (.inl rfl)|decide +kernel|(intro _;rfl)) (by first|rfl|exact .inl rfl|exact .inr rfl|exact .inr (.inl rfl)|decide +kernel|(intro _;rfl))) (@pa_nil _) (by first|rfl|exact .inl rfl|exact .inr rfl|exact .inr (.inl rfl)|decide +kernel|(intro _;rfl))) (by first|rfl|exact .inl rfl|exact .inr rfl|exact .inr (.inl rfl)|decide +kernel|(intro _;rfl)) (by first|rfl|exact .inl rfl|exact .inr rfl|exact .inr (.inl rfl)|decide +kernel|(intro _;rfl)) (by first|rfl|exact .inl rfl|exact .inr rfl|exact .inr (.inl rfl)|decide +kernel|(intro _;rfl))) (@pa_cons _ _ _ _ _ (@pe_callTy _ _ _ _ _ _ _ _ _ (@call_dictP _ rfl) (by rfl) T.z_dict boot_dict (@pa_cons _ _ _ _ _ (pv 1) (@pa_nil _) (by first|rfl|exact .inl rfl|exact .inr rfl|exact .inr (.inl rfl)|decide +kernel|(intro _;rfl))) (by first|rfl|exact .inl rfl|exact .inr rfl|exact .inr (.inl rfl)|decide +kernel|(intro _;rfl)) (by first|rfl|exact .inl rfl|exact .inr rfl|exact .inr (.inl rfl)|decide +kernel|(intro _;rfl)) (by first|rfl|exact .inl rfl|exact .inr rfl|exact .inr (.inl rfl)|decide +kernel|(intro _;rfl)) (by first|rfl|exact .inl rfl|exact .inr rfl|exact .inr (.inl rfl)|decide +kernel|(intro _;rfl))) (@pa_nil _) (by first|rfl|exact .inl rfl|exact .inr rfl|exact .inr (.inl rfl)|decide +kernel|(intro _;rfl))) (by first|rfl|exact .inl rfl|exact .inr rfl|exact .inr (.inl rfl)|decide +kernel|(intro _;rfl))) (by first|rfl|exact .inl rfl|exact .inr rfl|exact .inr (.inl rfl)|decide +kernel|(intro _;rfl)) (by first|rfl|exact .inl rfl|exact .inr rfl|exact .inr (.inl rfl)|decide +kernel|(intro _;rfl)) (by first|rfl|exact .inl rfl|exact .inr rfl|exact .inr (.inl rfl)|decide +kernel|(intro _;rfl))))))))), ?_⟩
  refine ⟨_, rfl, q, ns, rfl, hq, fun L ps us H1 hL0 s1 hL hus hok hps => ?_⟩
  have hd0 := due_pr hok hps
  have nameNo : dueG [] ps = "name" → False := fun h => by rw [hd0] at h; exact absurd h (by decide +kernel)
  have thingNo : dueG [] ps = "thing" → False := fun h => by rw [hd0] at h; exact absurd h (by decide +kernel)
  -- the project
  refine ⟨_, rfl, L, us, rfl, .inl ⟨SqL.of hL, fun t ht => ?_⟩⟩
  have m1 := same_new ht (.tup us)
  intro x dx nx ndx nex
  have m2 : Same (upd H1 t (.tup us)) (upd (upd (upd H1 t (.tup us)) dx (.own x)) x (.ins a.c_Project dx [])) := fun b ob e => by
    rw [upd_ne (ne_of_none e nx), upd_ne (ne_of_none e ndx)]
    exact e
  refine ⟨x, dx, t, ps, us, rfl, upd_same, m2 _ _ upd_same, hus.mono (m1.trans m2).tk, hok.told, fun qs G2 keep hP hT hperm _ => ⟨rfl, ?_⟩, fun e H' _ h => (nameNo h).elim, fun e H' _ h => (thingNo h).elim⟩
  have s2 : Same H1 G2 := fun b ob e => keep b ob ((m1.trans m2) _ _ e) (ne_of_none (m1 _ _ e) nx)
  clear keep m1 m2 nx ndx nex ht
  have hL2 := s2 _ _ hL
  have hus2 := hus.mono s2.tk
  -- the table
  obtain ⟨ts, vs, eus, lts, hts, hk, hv⟩ := pairs_at hus2
  have lvs : vs.length = ps.length := by
    have := congrArg List.length hk
    rwa [List.length_map, List.length_map] at this
  refine ⟨_, rfl, L, vs, rfl, ⟨ts, by rw [hL2, eus], lts, hts⟩, by rw [hk]; exact hok.1.2, by omega, fun D0 hD0 => ?_⟩
  have s3 := same_new hD0 (.dK (inrK vs))
  have hTb : TblAt (upd G2 D0 (.dK (inrK vs))) D0 ps := ⟨vs, upd_same, hk, hv.mono s3.tk⟩
  obtain ⟨G3, eG3⟩ : ∃ G, G = upd G2 D0 (.dK (inrK vs)) := ⟨_, rfl⟩
  rw [← eG3] at s3 hTb ⊢
  have hq3 : SqL K G3 q (ns.map V.int) := ((s1.trans s2).trans s3).seq hq
  -- the cells
  obtain ⟨ms, em, hml⟩ := cut_ints ns none (some 40)
  refine ⟨_, rfl, q, _, rfl, .inl hq3, (by show 1 ≤ sizeLine; omega), fun X1 hX1 => ?_⟩
  have n1 := same_new hX1 (.lst ([((ns.map V.int).length : Int)].map V.int))
  refine ⟨_, rfl, _, rfl, q, _, rfl, n1.seq hq3, fun X2 hX2 => ?_⟩
  rw [em]
  have n2 := same_new hX2 (.lst (ms.map V.int))
  refine ⟨X2, ms.map V.int, rfl, .inl (SqL.of upd_same), fun X3 hX3 => ?_⟩
  have n3 := same_new hX3 (.lst (ms.map V.int))
  refine ⟨X1, X3, _, _, rfl, rfl, n3 _ _ (n2 _ _ upd_same), upd_same, by rw [List.length_map, List.length_map]; show 1 + ms.length ≤ _; omega, fun X4 hX4 => ?_⟩
  have n4 := same_new hX4 (.lst (([((ns.map V.int).length : Int)] ++ ms).map V.int))
  have s47 := ((n1.trans n2).trans n3).trans n4
  have now0 : Now a.c_Project (upd (upd (upd (upd G3 X1 (.lst ([((ns.map V.int).length : Int)].map V.int))) X2 (.lst (ms.map V.int))) X3 (.lst (ms.map V.int))) X4 (.lst (([((ns.map V.int).length : Int)] ++ ms).map V.int))) x D0 L X4 qs ps ps us (([((ns.map V.int).length : Int)] ++ ms).map V.int) :=
    ⟨(hP.same s3).same s47, hT, hTb.same s47, hperm, s47 _ _ (s3 _ _ hL2), (hus2.mono s3.tk).mono s47.tk, upd_same⟩
  refine ⟨X4, rfl, ⟨_, SqL.of upd_same⟩, for_list (K := K) (a := X4) (xs := ([((ns.map V.int).length : Int)] ++ ms).map V.int) (fun i σ H' => ∃ (x : Addr) (qs ps' : List (Str × D)) (cv dv uv mv : Option V), σ = [some (.ref q), some (.ref L), some (.ref x), some (.ref D0), cv, dv, uv, mv] ∧ Now a.c_Project H' x D0 L X4 qs ps' ps us (([((ns.map V.int).length : Int)] ++ ms).map V.int))
    ⟨x, qs, ps, _, _, _, _, rfl, now0⟩ (fun i σ H' _ ⟨_, _, _, _, _, _, _, _, h⟩ => SqL.of h.hX) ?_ ?_⟩
  · rintro i y σ H' hi ⟨x, qs, ps', cv, dv, uv, mv, rfl, N⟩
    obtain ⟨c, _, rfl⟩ := List.mem_map.mp (List.mem_of_getElem? hi)
    have hok' : PrOk ps' := N.ok.1.perm N.pm.symm
    have h60 : ps'.length ≤ 60 := by rw [← N.pm.length_eq]; exact N.ok.2.2
    refine ⟨_, rfl, c, 9, rfl, by decide, by decide, fun p Hp hp sp Pp => ?_⟩
    have npD : p ≠ D0 := fun e => by
      obtain ⟨vs', h1, _⟩ := N.tb
      rw [e, h1] at hp
      cases hp
    refine ⟨_, rfl, p, D0, ps', rfl, Pp, N.tb.same sp, hok', h60, npD, fun wd z e v H5 okW okZ okE iv K5 => ?_⟩
    have s5 : Same H' H5 := K5.same sp hp
    have N5 := N.same s5
    refine ⟨_, rfl, _, rfl, v, D0, wd, z, e, ps', rfl, iv, okW, okZ, okE, N5.tb, h60, fun H6 s6 => ?_⟩
    have N6 := N5.same s6
    have iv6 := iv.mono s6.tk
    refine ⟨(by show 0 ≤ sizeLine; omega), fun M hM => ?_⟩
    have s7 := same_new hM (.lst [])
    have N7 := N6.same s7
    have iv7 := iv6.mono s7.tk
    have edu := dueK_perm (w := wd) (z := z) (e := e) N.pm
    refine ⟨_, rfl, _, rfl, _, rfl, v, x, M, wd, z, e, qs, rfl, iv7, okW, okZ, okE, N7.pr, N7.ok, upd_same, fun y rs H8 keep hM8 hP8 hT8 hdk ho hpu => ?_, fun H8 s8 hne => ?_⟩
    · -- it is done
      have s8 : Same H6 H8 := fun b ob eb => keep b ob (s7 _ _ eb) (ne_of_none eb hM)
      have N8 := N6.same s8
      have iv8 := iv6.mono s8.tk
      refine ⟨_, rfl, rfl, _, rfl, iteN (by rw [edu, hdk, decide_eq_true rfl]; rfl) ?_⟩
      refine ⟨_, rfl, _, rfl, x, D0, qs, ps', rfl, N8.pr, N8.ok, N8.tb.dat, N8.pm, fun H9 s9 => ⟨_, rfl, iteF ?_⟩⟩
      have N9 := N8.same s9
      have hP9 := hP8.same s9
      have hM9 := s9 _ _ hM8
      obtain ⟨b, bs, rfl, hb, x1, r1, rfl, ⟨rfl, _⟩, x2, r2, rfl, ⟨rfl, _⟩, x3, r3, rfl, h3, h4⟩ := iv8.mono s9.tk
      cases (show r3 = [] from h4)
      refine ⟨_, rfl, rfl, _, rfl, iteB (by rw [edu, hdk]; exact decide_eq_true rfl) ?_⟩
      refine ⟨_, rfl, b, _, _, _, rfl, rfl, SqT.of hb, rfl, rfl, _, rfl, ?_⟩
      obtain ⟨ws, hd9, hk9, hv9⟩ := N9.tb
      have nMD : M ≠ D0 := fun e => by rw [e, hd9] at hM9; cases hM9
      rcases okW with rfl | rfl
      · -- put
        refine iteN (by decide +kernel) ?_
        have hlt : (inrK ws).length < sizeLine := by
          unfold inrK
          rw [List.length_map]
          have := congrArg List.length hk9
          rw [List.length_map, List.length_map] at this
          omega
        refine ⟨_, rfl, b, _, _, _, rfl, rfl, SqT.of hb, rfl, _, rfl, _, rfl, b, _, _, _, rfl, rfl, SqT.of hb, rfl, D0, _, rfl, DPut.k (k := Sum.inr z) hd9 hlt, ?_⟩
        rw [put_inr]
        obtain ⟨j1, j2⟩ := put_tbl (z := z) h3 hk9 hv9
        have tkD : Tk H9 (upd H9 D0 (.dK (inrK (putP ws z x3)))) := Tk.updD hd9
        have hperm9 : rs.Perm (putP ps' z e) := (hpu rfl).trans (((flt_perm N.pm z).append_right _).trans (put_perm hok'.1.2).symm)
        have N10 : Now a.c_Project (upd H9 D0 (.dK (inrK (putP ws z x3)))) y D0 L X4 rs (putP ps' z e) ps us (([((ns.map V.int).length : Int)] ++ ms).map V.int) :=
          ⟨hP9.updD hd9, hT8, TblAt.up hd9 j1 j2, hperm9, by rw [upd_ne (fun e => by have := N9.hL; rw [e, hd9] at this; cases this)]; exact N9.hL, N9.us.mono tkD, by rw [upd_ne (fun e => by have := N9.hX; rw [e, hd9] at this; cases this)]; exact N9.hX⟩
        refine ⟨_, rfl, M, _, _, _, rfl, rfl, SqL.of (by rw [upd_ne nMD]; exact hM9), rfl, ?_⟩
        refine ⟨_, rfl, _, rfl, y, D0, rs, putP ps' z e, rfl, N10.pr, N10.ok, N10.tb.dat, N10.pm, fun H11 s11 => ⟨_, rfl, iteF ⟨y, rs, putP ps' z e, _, _, _, _, rfl, N10.same s11⟩⟩⟩
      · -- out
        refine iteB (decide_eq_true rfl) ?_
        have hzk : z ∈ ps'.map (·.1) := by
          rw [due_out] at hdk
          by_cases c : z ∈ qs.map (·.1)
          · exact (N.pm.map _).mem_iff.mp c
          · rw [if_neg c] at hdk
            exact absurd hdk (by decide +kernel)
        have lk := look2 hk9 hv9 hzk
        refine ⟨_, rfl, D0, rfl, .inl ⟨_, .inl hd9⟩, _, rfl, b, _, _, _, rfl, rfl, SqT.of hb, rfl, inrK ws, Sum.inr z, _, hd9, rfl, lk.1, ?_⟩
        rw [drop_inr]
        obtain ⟨j1, j2⟩ := flt_tbl (z := z) hk9 hv9
        have tkD : Tk H9 (upd H9 D0 (.dK (inrK (fltV ws z)))) := Tk.updD hd9
        have hperm9 : rs.Perm (flt ps' z) := (ho rfl).trans (flt_perm N.pm z)
        have N10 : Now a.c_Project (upd H9 D0 (.dK (inrK (fltV ws z)))) y D0 L X4 rs (flt ps' z) ps us (([((ns.map V.int).length : Int)] ++ ms).map V.int) :=
          ⟨hP9.updD hd9, hT8, TblAt.up hd9 j1 j2, hperm9, by rw [upd_ne (fun e => by have := N9.hL; rw [e, hd9] at this; cases this)]; exact N9.hL, N9.us.mono tkD, by rw [upd_ne (fun e => by have := N9.hX; rw [e, hd9] at this; cases this)]; exact N9.hX⟩
        refine ⟨_, rfl, M, _, _, _, rfl, rfl, SqL.of (by rw [upd_ne nMD]; exact hM9), rfl, ?_⟩
        refine ⟨_, rfl, _, rfl, y, D0, rs, flt ps' z, rfl, N10.pr, N10.ok, N10.tb.dat, N10.pm, fun H11 s11 => ⟨_, rfl, iteF ⟨y, rs, flt ps' z, _, _, _, _, rfl, N10.same s11⟩⟩⟩
    · -- it is refused
      have N8 := N7.same s8
      refine ⟨_, rfl, rfl, _, rfl, iteN (by rw [edu, decide_eq_true rfl]; rfl) ?_⟩
      refine ⟨_, rfl, _, rfl, x, D0, qs, ps', rfl, N8.pr, N8.ok, N8.tb.dat, N8.pm, fun H9 s9 => ⟨_, rfl, iteF ?_⟩⟩
      have N9 := N8.same s9
      refine ⟨_, rfl, rfl, _, rfl, iteN (decide_eq_false fun c => hne (by rw [← edu]; exact V.str.inj c)) ?_⟩
      refine ⟨_, rfl, _, rfl, x, D0, qs, ps', rfl, N9.pr, N9.ok, N9.tb.dat, N9.pm, fun H11 s11 => ⟨_, rfl, iteF ⟨x, qs, ps', _, _, _, _, rfl, N9.same s11⟩⟩⟩
  · rintro σ H' ⟨x, qs, ps', cv, dv, uv, mv, rfl, N⟩
    refine ⟨_, rfl, L, us, rfl, .inl ⟨SqL.of N.hL, fun t ht => ?_⟩⟩
    have m1 := same_new ht (.tup us)
    intro x9 dx nx ndx nex
    have m2 : Same (upd H' t (.tup us)) (upd (upd (upd H' t (.tup us)) dx (.own x9)) x9 (.ins a.c_Project dx [])) := fun b ob e => by
      rw [upd_ne (ne_of_none e nx), upd_ne (ne_of_none e ndx)]
      exact e
    refine ⟨x9, dx, t, ps, us, rfl, upd_same, m2 _ _ upd_same, N.us.mono (m1.trans m2).tk, hok.told, fun qs9 G9 keep hP9 hT9 hperm9 _ => ⟨rfl, ?_⟩, fun e H' _ h => (nameNo h).elim, fun e H' _ h => (thingNo h).elim⟩
    have s9 : Same H' G9 := fun b ob e => keep b ob ((m1.trans m2) _ _ e) (ne_of_none (m1 _ _ e) nx)
    have hL9 := s9 _ _ N.hL
    have hus9 := N.us.mono s9.tk
    obtain ⟨ts, vs, eus, lts, hts, hk, hv⟩ := pairs_at hus9
    refine ⟨_, rfl, L, vs, rfl, ⟨ts, by rw [hL9, eus], lts, hts⟩, by rw [hk]; exact hok.1.2, by have := congrArg List.length hk; rw [List.length_map, List.length_map] at this; omega, fun D9 hD9 => ?_⟩
    have s10 := same_new hD9 (.dK (inrK vs))
    exact ⟨x9, D9, qs9, ps, rfl, hP9.same s10, hT9, ⟨vs, .inl upd_same, hk, hv.mono s10.tk⟩, hperm9, fun G11 s11 => k G11⟩
end
end K18

namespace K18
open PySem L2 PyProof.Rows
theorem tx_mk {K : PySem.W.Frag} {h : Heap} {mg : Str → Option Value} (X : K.In h) (G : h.Ns mainGlobals mg) {f1 : Addr} {od1 an1 : Option Addr} {sl1 : Array (Option Value)} {oc1 kV1 dc1 pm1 cd1 ct1 : Value} {f2 : Addr} {od2 an2 : Option Addr} {sl2 : Array (Option Value)} {oc2 kV2 dc2 pm2 cd2 ct2 : Value} {f3 : Addr} {od3 an3 : Option Addr} {sl3 : Array (Option Value)} {oc3 kV3 dc3 pm3 cd3 ct3 : Value} {f4 : Addr} {od4 an4 : Option Addr} {sl4 : Array (Option Value)} {oc4 kV4 dc4 pm4 cd4 ct4 : Value} {f5 : Addr} {od5 an5 : Option Addr} {sl5 : Array (Option Value)} {oc5 kV5 dc5 pm5 cd5 ct5 : Value} {f6 : Addr} {od6 an6 : Option Addr} {sl6 : Array (Option Value)} {oc6 kV6 dc6 pm6 cd6 ct6 : Value} {f7 : Addr} {od7 an7 : Option Addr} {sl7 : Array (Option Value)} {oc7 kV7 dc7 pm7 cd7 ct7 : Value} {f8 : Addr} {od8 an8 : Option Addr} {sl8 : Array (Option Value)} {oc8 kV8 dc8 pm8 cd8 ct8 : Value} {f9 : Addr} {od9 an9 : Option Addr} {sl9 : Array (Option Value)} {oc9 kV9 dc9 pm9 cd9 ct9 : Value} {f10 : Addr} {od10 an10 : Option Addr} {sl10 : Array (Option Value)} {oc10 kV10 dc10 pm10 cd10 ct10 : Value} {f11 : Addr} {od11 an11 : Option Addr} {sl11 : Array (Option Value)} {oc11 kV11 dc11 pm11 cd11 ct11 : Value} {f12 : Addr} {od12 an12 : Option Addr} {sl12 : Array (Option Value)} {oc12 kV12 dc12 pm12 cd12 ct12 : Value} {f13 : Addr} {od13 an13 : Option Addr} {sl13 : Array (Option Value)} {oc13 kV13 dc13 pm13 cd13 ct13 : Value} {f14 : Addr} {od14 an14 : Option Addr} {sl14 : Array (Option Value)} {oc14 kV14 dc14 pm14 cd14 ct14 : Value} {f15 : Addr} {od15 an15 : Option Addr} {sl15 : Array (Option Value)} {oc15 kV15 dc15 pm15 cd15 ct15 : Value} {f16 : Addr} {od16 an16 : Option Addr} {sl16 : Array (Option Value)} {oc16 kV16 dc16 pm16 cd16 ct16 : Value} {f17 : Addr} {od17 an17 : Option Addr} {sl17 : Array (Option Value)} {oc17 kV17 dc17 pm17 cd17 ct17 : Value} {f18 : Addr} {od18 an18 : Option Addr} {sl18 : Array (Option Value)} {oc18 kV18 dc18 pm18 cd18 ct18 : Value} {f19 : Addr} {od19 an19 : Option Addr} {sl19 : Array (Option Value)} {oc19 kV19 dc19 pm19 cd19 ct19 : Value} {f20 : Addr} {od20 an20 : Option Addr} {sl20 : Array (Option Value)} {oc20 kV20 dc20 pm20 cd20 ct20 : Value} {f21 : Addr} {od21 an21 : Option Addr} {sl21 : Array (Option Value)} {oc21 kV21 dc21 pm21 cd21 ct21 : Value} {f22 : Addr} {od22 an22 : Option Addr} {sl22 : Array (Option Value)} {oc22 kV22 dc22 pm22 cd22 ct22 : Value} {f23 : Addr} {od23 an23 : Option Addr} {sl23 : Array (Option Value)} {oc23 kV23 dc23 pm23 cd23 ct23 : Value} {f24 : Addr} {od24 an24 : Option Addr} {sl24 : Array (Option Value)} {oc24 kV24 dc24 pm24 cd24 ct24 : Value} {f25 : Addr} {od25 an25 : Option Addr} {sl25 : Array (Option Value)} {oc25 kV25 dc25 pm25 cd25 ct25 : Value} {f26 : Addr} {od26 an26 : Option Addr} {sl26 : Array (Option Value)} {oc26 kV26 dc26 pm26 cd26 ct26 : Value} {f27 : Addr} {od27 an27 : Option Addr} {sl27 : Array (Option Value)} {oc27 kV27 dc27 pm27 cd27 ct27 : Value} {CProject : Addr} {t1 : Tok} {t2 : Tok} {t3 : Tok} {t4 : Tok} {t5 : Tok} {t6 : Tok} {t7 : Tok} {t8 : Tok} {t9 : Tok}
    (a1 : PySem.W.nsIn K mainGlobals "is_text" = some (some (.ref f1))) (l1 : K.lookup f1 = some ⟨oc1, od1, .func (PySem.W.fnOf "is_text" "is_text" (defArgs s_is_text) (defBody s_is_text) (defScope s_is_text) .none kV1 dc1 pm1 an1 cd1 ct1), sl1⟩) (c1 : PySem.W.codeIn K cd1 "is_text" = true) (k1 : PySem.W.keepIn K (.ref f1) = true)
    (a2 : PySem.W.nsIn K mainGlobals "is_tree" = some (some (.ref f2))) (l2 : K.lookup f2 = some ⟨oc2, od2, .func (PySem.W.fnOf "is_tree" "is_tree" (defArgs s_is_tree) (defBody s_is_tree) (defScope s_is_tree) .none kV2 dc2 pm2 an2 cd2 ct2), sl2⟩) (c2 : PySem.W.codeIn K cd2 "is_tree" = true) (k2 : PySem.W.keepIn K (.ref f2) = true)
    (a3 : PySem.W.nsIn K mainGlobals "is_name" = some (some (.ref f3))) (l3 : K.lookup f3 = some ⟨oc3, od3, .func (PySem.W.fnOf "is_name" "is_name" (defArgs s_is_name) (defBody s_is_name) (defScope s_is_name) .none kV3 dc3 pm3 an3 cd3 ct3), sl3⟩) (c3 : PySem.W.codeIn K cd3 "is_name" = true) (k3 : PySem.W.keepIn K (.ref f3) = true)
    (a4 : PySem.W.nsIn K mainGlobals "is_pair" = some (some (.ref f4))) (l4 : K.lookup f4 = some ⟨oc4, od4, .func (PySem.W.fnOf "is_pair" "is_pair" (defArgs s_is_pair) (defBody s_is_pair) (defScope s_is_pair) .none kV4 dc4 pm4 an4 cd4 ct4), sl4⟩) (c4 : PySem.W.codeIn K cd4 "is_pair" = true) (k4 : PySem.W.keepIn K (.ref f4) = true)
    (a5 : PySem.W.nsIn K mainGlobals "is_source" = some (some (.ref f5))) (l5 : K.lookup f5 = some ⟨oc5, od5, .func (PySem.W.fnOf "is_source" "is_source" (defArgs s_is_source) (defBody s_is_source) (defScope s_is_source) .none kV5 dc5 pm5 an5 cd5 ct5), sl5⟩) (c5 : PySem.W.codeIn K cd5 "is_source" = true) (k5 : PySem.W.keepIn K (.ref f5) = true)
    (a6 : PySem.W.findIn K (.ref CProject) "__init__" = some (some (.ref f6))) (i6 : PySem.W.isFn K (.ref f6) = true) (l6 : K.lookup f6 = some ⟨oc6, od6, .func (PySem.W.fnOf "__init__" "Project.__init__" (defArgs s_Project_init) (defBody s_Project_init) (defScope s_Project_init) .none kV6 dc6 pm6 an6 cd6 ct6), sl6⟩) (c6 : PySem.W.codeIn K cd6 "Project.__init__" = true) (k6 : PySem.W.keepIn K (.ref f6) = true)
    (a7 : PySem.W.findIn K (.ref CProject) "sources" = some (some (.ref f7))) (i7 : PySem.W.isFn K (.ref f7) = true) (l7 : K.lookup f7 = some ⟨oc7, od7, .func (PySem.W.fnOf "sources" "Project.sources" (defArgs s_Project_sources) (defBody s_Project_sources) (defScope s_Project_sources) .none kV7 dc7 pm7 an7 cd7 ct7), sl7⟩) (c7 : PySem.W.codeIn K cd7 "Project.sources" = true) (k7 : PySem.W.keepIn K (.ref f7) = true)
    (a8 : PySem.W.findIn K (.ref CProject) "source_of" = some (some (.ref f8))) (i8 : PySem.W.isFn K (.ref f8) = true) (l8 : K.lookup f8 = some ⟨oc8, od8, .func (PySem.W.fnOf "source_of" "Project.source_of" (defArgs s_Project_source_of) (defBody s_Project_source_of) (defScope s_Project_source_of) .none kV8 dc8 pm8 an8 cd8 ct8), sl8⟩) (c8 : PySem.W.codeIn K cd8 "Project.source_of" = true) (k8 : PySem.W.keepIn K (.ref f8) = true)
    (a9 : PySem.W.nsIn K mainGlobals "with_source" = some (some (.ref f9))) (l9 : K.lookup f9 = some ⟨oc9, od9, .func (PySem.W.fnOf "with_source" "with_source" (defArgs s_with_source) (defBody s_with_source) (defScope s_with_source) .none kV9 dc9 pm9 an9 cd9 ct9), sl9⟩) (c9 : PySem.W.codeIn K cd9 "with_source" = true) (k9 : PySem.W.keepIn K (.ref f9) = true)
    (a10 : PySem.W.nsIn K mainGlobals "without" = some (some (.ref f10))) (l10 : K.lookup f10 = some ⟨oc10, od10, .func (PySem.W.fnOf "without" "without" (defArgs s_without) (defBody s_without) (defScope s_without) .none kV10 dc10 pm10 an10 cd10 ct10), sl10⟩) (c10 : PySem.W.codeIn K cd10 "without" = true) (k10 : PySem.W.keepIn K (.ref f10) = true)
    (a11 : PySem.W.nsIn K mainGlobals "_law_pot" = some (some (.ref f11))) (l11 : K.lookup f11 = some ⟨oc11, od11, .func (PySem.W.fnOf "_law_pot" "_law_pot" (defArgs s_law_pot) (defBody s_law_pot) (defScope s_law_pot) .none kV11 dc11 pm11 an11 cd11 ct11), sl11⟩) (c11 : PySem.W.codeIn K cd11 "_law_pot" = true) (k11 : PySem.W.keepIn K (.ref f11) = true)
    (a12 : PySem.W.nsIn K mainGlobals "_law_take" = some (some (.ref f12))) (l12 : K.lookup f12 = some ⟨oc12, od12, .func (PySem.W.fnOf "_law_take" "_law_take" (defArgs s_law_take) (defBody s_law_take) (defScope s_law_take) .none kV12 dc12 pm12 an12 cd12 ct12), sl12⟩) (c12 : PySem.W.codeIn K cd12 "_law_take" = true) (k12 : PySem.W.keepIn K (.ref f12) = true)
    (a13 : PySem.W.nsIn K mainGlobals "_law_cell_at" = some (some (.ref f13))) (l13 : K.lookup f13 = some ⟨oc13, od13, .func (PySem.W.fnOf "_law_cell_at" "_law_cell_at" (defArgs s_law_cell_at) (defBody s_law_cell_at) (defScope s_law_cell_at) .none kV13 dc13 pm13 an13 cd13 ct13), sl13⟩) (c13 : PySem.W.codeIn K cd13 "_law_cell_at" = true) (k13 : PySem.W.keepIn K (.ref f13) = true)
    (a14 : PySem.W.nsIn K mainGlobals "_law_signs" = some (some (.ref f14))) (l14 : K.lookup f14 = some ⟨oc14, od14, .func (PySem.W.fnOf "_law_signs" "_law_signs" (defArgs s_law_signs) (defBody s_law_signs) (defScope s_law_signs) .none kV14 dc14 pm14 an14 cd14 ct14), sl14⟩) (c14 : PySem.W.codeIn K cd14 "_law_signs" = true) (k14 : PySem.W.keepIn K (.ref f14) = true)
    (a15 : PySem.W.nsIn K mainGlobals "_law_text" = some (some (.ref f15))) (l15 : K.lookup f15 = some ⟨oc15, od15, .func (PySem.W.fnOf "_law_text" "_law_text" (defArgs s_law_text) (defBody s_law_text) (defScope s_law_text) .none kV15 dc15 pm15 an15 cd15 ct15), sl15⟩) (c15 : PySem.W.codeIn K cd15 "_law_text" = true) (k15 : PySem.W.keepIn K (.ref f15) = true)
    (a16 : PySem.W.nsIn K mainGlobals "_law_tree" = some (some (.ref f16))) (l16 : K.lookup f16 = some ⟨oc16, od16, .func (PySem.W.fnOf "_law_tree" "_law_tree" (defArgs s_law_tree) (defBody s_law_tree) (defScope s_law_tree) .none kV16 dc16 pm16 an16 cd16 ct16), sl16⟩) (c16 : PySem.W.codeIn K cd16 "_law_tree" = true) (k16 : PySem.W.keepIn K (.ref f16) = true)
    (a17 : PySem.W.nsIn K mainGlobals "_law_measure" = some (some (.ref f17))) (l17 : K.lookup f17 = some ⟨oc17, od17, .func (PySem.W.fnOf "_law_measure" "_law_measure" (defArgs s_law_measure) (defBody s_law_measure) (defScope s_law_measure) .none kV17 dc17 pm17 an17 cd17 ct17), sl17⟩) (c17 : PySem.W.codeIn K cd17 "_law_measure" = true) (k17 : PySem.W.keepIn K (.ref f17) = true)
    (a18 : PySem.W.nsIn K mainGlobals "_law_is_tree" = some (some (.ref f18))) (l18 : K.lookup f18 = some ⟨oc18, od18, .func (PySem.W.fnOf "_law_is_tree" "_law_is_tree" (defArgs s_law_is_tree) (defBody s_law_is_tree) (defScope s_law_is_tree) .none kV18 dc18 pm18 an18 cd18 ct18), sl18⟩) (c18 : PySem.W.codeIn K cd18 "_law_is_tree" = true) (k18 : PySem.W.keepIn K (.ref f18) = true)
    (a19 : PySem.W.nsIn K mainGlobals "_law_good_tree" = some (some (.ref f19))) (l19 : K.lookup f19 = some ⟨oc19, od19, .func (PySem.W.fnOf "_law_good_tree" "_law_good_tree" (defArgs s_law_good_tree) (defBody s_law_good_tree) (defScope s_law_good_tree) .none kV19 dc19 pm19 an19 cd19 ct19), sl19⟩) (c19 : PySem.W.codeIn K cd19 "_law_good_tree" = true) (k19 : PySem.W.keepIn K (.ref f19) = true)
    (a20 : PySem.W.nsIn K mainGlobals "_law_names" = some (some (.ref f20))) (l20 : K.lookup f20 = some ⟨oc20, od20, .func (PySem.W.fnOf "_law_names" "_law_names" (defArgs s_law_names) (defBody s_law_names) (defScope s_law_names) .none kV20 dc20 pm20 an20 cd20 ct20), sl20⟩) (c20 : PySem.W.codeIn K cd20 "_law_names" = true) (k20 : PySem.W.keepIn K (.ref f20) = true)
    (a21 : PySem.W.nsIn K mainGlobals "_law_source" = some (some (.ref f21))) (l21 : K.lookup f21 = some ⟨oc21, od21, .func (PySem.W.fnOf "_law_source" "_law_source" (defArgs s_law_source) (defBody s_law_source) (defScope s_law_source) .none kV21 dc21 pm21 an21 cd21 ct21), sl21⟩) (c21 : PySem.W.codeIn K cd21 "_law_source" = true) (k21 : PySem.W.keepIn K (.ref f21) = true)
    (a22 : PySem.W.nsIn K mainGlobals "_law_pairs" = some (some (.ref f22))) (l22 : K.lookup f22 = some ⟨oc22, od22, .func (PySem.W.fnOf "_law_pairs" "_law_pairs" (defArgs s_law_pairs) (defBody s_law_pairs) (defScope s_law_pairs) .none kV22 dc22 pm22 an22 cd22 ct22), sl22⟩) (c22 : PySem.W.codeIn K cd22 "_law_pairs" = true) (k22 : PySem.W.keepIn K (.ref f22) = true)
    (a23 : PySem.W.nsIn K mainGlobals "_law_same_as" = some (some (.ref f23))) (l23 : K.lookup f23 = some ⟨oc23, od23, .func (PySem.W.fnOf "_law_same_as" "_law_same_as" (defArgs s_law_same_as) (defBody s_law_same_as) (defScope s_law_same_as) .none kV23 dc23 pm23 an23 cd23 ct23), sl23⟩) (c23 : PySem.W.codeIn K cd23 "_law_same_as" = true) (k23 : PySem.W.keepIn K (.ref f23) = true)
    (a24 : PySem.W.nsIn K mainGlobals "_law_deed" = some (some (.ref f24))) (l24 : K.lookup f24 = some ⟨oc24, od24, .func (PySem.W.fnOf "_law_deed" "_law_deed" (defArgs s_law_deed) (defBody s_law_deed) (defScope s_law_deed) .none kV24 dc24 pm24 an24 cd24 ct24), sl24⟩) (c24 : PySem.W.codeIn K cd24 "_law_deed" = true) (k24 : PySem.W.keepIn K (.ref f24) = true)
    (a25 : PySem.W.nsIn K mainGlobals "_law_due" = some (some (.ref f25))) (l25 : K.lookup f25 = some ⟨oc25, od25, .func (PySem.W.fnOf "_law_due" "_law_due" (defArgs s_law_due) (defBody s_law_due) (defScope s_law_due) .none kV25 dc25 pm25 an25 cd25 ct25), sl25⟩) (c25 : PySem.W.codeIn K cd25 "_law_due" = true) (k25 : PySem.W.keepIn K (.ref f25) = true)
    (a26 : PySem.W.nsIn K mainGlobals "_law_done" = some (some (.ref f26))) (l26 : K.lookup f26 = some ⟨oc26, od26, .func (PySem.W.fnOf "_law_done" "_law_done" (defArgs s_law_done) (defBody s_law_done) (defScope s_law_done) .none kV26 dc26 pm26 an26 cd26 ct26), sl26⟩) (c26 : PySem.W.codeIn K cd26 "_law_done" = true) (k26 : PySem.W.keepIn K (.ref f26) = true)
    (a27 : PySem.W.nsIn K mainGlobals "law" = some (some (.ref f27))) (l27 : K.lookup f27 = some ⟨oc27, od27, .func (PySem.W.fnOf "law" "law" (defArgs s_law) (defBody s_law) (defScope s_law) .none kV27 dc27 pm27 an27 cd27 ct27), sl27⟩) (c27 : PySem.W.codeIn K cd27 "law" = true) (k27 : PySem.W.keepIn K (.ref f27) = true)
    (AProject : PySem.W.nsIn K mainGlobals "Project" = some (some (.ref CProject))) (pgProject : PySem.W.plainGet K CProject Str.empty = true) (hdProject : PySem.W.hasDictIn K CProject = true) (poProject : PySem.W.plainOver K CProject = true) (saProject : PySem.W.findIn K (.ref CProject) "__setattr__" = some (some (.builtin "object.__setattr__"))) (mkProject : PySem.W.makesIn K CProject = true) (kcProject : PySem.W.keepIn K (.ref CProject) = true)
    (nnProjectby_name : PySem.W.findIn K (.ref CProject) "by_name" = some none)
    (g1 : PySem.W.nsIn K mainGlobals "MOST_SIGNS" = some (some (.int 300 t1)))
    (g2 : PySem.W.nsIn K mainGlobals "MOST_PARTS" = some (some (.int 40 t2)))
    (g3 : PySem.W.nsIn K mainGlobals "MOST_SIZE" = some (some (.int 600 t3)))
    (g4 : PySem.W.nsIn K mainGlobals "MOST_DEPTH" = some (some (.int 12 t4)))
    (g5 : PySem.W.nsIn K mainGlobals "MOST_NAME_SIGNS" = some (some (.int 24 t5)))
    (g6 : PySem.W.nsIn K mainGlobals "LETTERS" = some (some (.str "abcdefghijklmnopqrstuvwxyz" t6)))
    (g7 : PySem.W.nsIn K mainGlobals "NAME_SIGNS" = some (some (.str "abcdefghijklmnopqrstuvwxyz0123456789./" t7)))
    (g8 : PySem.W.nsIn K mainGlobals "PERCENT" = some (some (.int 37 t8)))
    (g9 : PySem.W.nsIn K mainGlobals "MOST_NAMES" = some (some (.int 60 t9)))
    (z1 : PySem.W.nsIn K mainGlobals "ord" = some none)
    (z2 : PySem.W.nsIn K mainGlobals "len" = some none)
    (z3 : PySem.W.nsIn K mainGlobals "isinstance" = some none)
    (z4 : PySem.W.nsIn K mainGlobals "str" = some none)
    (z5 : PySem.W.nsIn K mainGlobals "tuple" = some none)
    (z6 : PySem.W.nsIn K mainGlobals "all" = some none)
    (z7 : PySem.W.nsIn K mainGlobals "dict" = some none)
    (z8 : PySem.W.nsIn K mainGlobals "sorted" = some none)
    (z9 : PySem.W.nsIn K mainGlobals "abs" = some none)
    (z10 : PySem.W.nsIn K mainGlobals "range" = some none)
    (z11 : PySem.W.nsIn K mainGlobals "max" = some none)
    (z12 : PySem.W.nsIn K mainGlobals "sum" = some none)
    (z13 : PySem.W.nsIn K mainGlobals "list" = some none)
    (z14 : PySem.W.nsIn K mainGlobals "int" = some none)
    (z15 : PySem.W.nsIn K mainGlobals "ValueError" = some none) : ∃ a, Tx K mg a := by
  have F1 := fun_mk (st := s_is_text) l1 c1 k1
  have b1 := F1.binds (ps := ["value"]) fun _ _ _ _ _ _ us hl => match us, hl with | [_], _ => rfl
  have F2 := fun_mk (st := s_is_tree) l2 c2 k2
  have b2 := F2.binds (ps := ["value"]) fun _ _ _ _ _ _ us hl => match us, hl with | [_], _ => rfl
  have F3 := fun_mk (st := s_is_name) l3 c3 k3
  have b3 := F3.binds (ps := ["value"]) fun _ _ _ _ _ _ us hl => match us, hl with | [_], _ => rfl
  have F4 := fun_mk (st := s_is_pair) l4 c4 k4
  have b4 := F4.binds (ps := ["value"]) fun _ _ _ _ _ _ us hl => match us, hl with | [_], _ => rfl
  have F5 := fun_mk (st := s_is_source) l5 c5 k5
  have b5 := F5.binds (ps := ["value"]) fun _ _ _ _ _ _ us hl => match us, hl with | [_], _ => rfl
  have F6 := fun_mk (st := s_Project_init) l6 c6 k6
  have b6 := F6.binds (ps := ["self", "sources"]) fun _ _ _ _ _ _ us hl => match us, hl with | [_, _], _ => rfl
  have F7 := fun_mk (st := s_Project_sources) l7 c7 k7
  have b7 := F7.binds (ps := ["self"]) fun _ _ _ _ _ _ us hl => match us, hl with | [_], _ => rfl
  have F8 := fun_mk (st := s_Project_source_of) l8 c8 k8
  have b8 := F8.binds (ps := ["self", "name"]) fun _ _ _ _ _ _ us hl => match us, hl with | [_, _], _ => rfl
  have F9 := fun_mk (st := s_with_source) l9 c9 k9
  have b9 := F9.binds (ps := ["project", "name", "source"]) fun _ _ _ _ _ _ us hl => match us, hl with | [_, _, _], _ => rfl
  have F10 := fun_mk (st := s_without) l10 c10 k10
  have b10 := F10.binds (ps := ["project", "name"]) fun _ _ _ _ _ _ us hl => match us, hl with | [_, _], _ => rfl
  have F11 := fun_mk (st := s_law_pot) l11 c11 k11
  have b11 := F11.binds (ps := ["cell", "salt"]) fun _ _ _ _ _ _ us hl => match us, hl with | [_, _], _ => rfl
  have F12 := fun_mk (st := s_law_take) l12 c12 k12
  have b12 := F12.binds (ps := ["pot", "many"]) fun _ _ _ _ _ _ us hl => match us, hl with | [_, _], _ => rfl
  have F13 := fun_mk (st := s_law_cell_at) l13 c13 k13
  have b13 := F13.binds (ps := ["script", "k"]) fun _ _ _ _ _ _ us hl => match us, hl with | [_, _], _ => rfl
  have F14 := fun_mk (st := s_law_signs) l14 c14 k14
  have b14 := F14.binds (ps := []) fun _ _ _ _ _ _ us hl => match us, hl with | [], _ => rfl
  have F15 := fun_mk (st := s_law_text) l15 c15 k15
  have b15 := F15.binds (ps := ["pot"]) fun _ _ _ _ _ _ us hl => match us, hl with | [_], _ => rfl
  have F16 := fun_mk (st := s_law_tree) l16 c16 k16
  have b16 := F16.binds (ps := ["pot", "deep"]) fun _ _ _ _ _ _ us hl => match us, hl with | [_, _], _ => rfl
  have F17 := fun_mk (st := s_law_measure) l17 c17 k17
  have b17 := F17.binds (ps := ["value"]) fun _ _ _ _ _ _ us hl => match us, hl with | [_], _ => rfl
  have F18 := fun_mk (st := s_law_is_tree) l18 c18 k18
  have b18 := F18.binds (ps := ["value"]) fun _ _ _ _ _ _ us hl => match us, hl with | [_], _ => rfl
  have F19 := fun_mk (st := s_law_good_tree) l19 c19 k19
  have b19 := F19.binds (ps := ["pot"]) fun _ _ _ _ _ _ us hl => match us, hl with | [_], _ => rfl
  have F20 := fun_mk (st := s_law_names) l20 c20 k20
  have b20 := F20.binds (ps := ["pot", "many"]) fun _ _ _ _ _ _ us hl => match us, hl with | [_, _], _ => rfl
  have F21 := fun_mk (st := s_law_source) l21 c21 k21
  have b21 := F21.binds (ps := ["pot", "names"]) fun _ _ _ _ _ _ us hl => match us, hl with | [_, _], _ => rfl
  have F22 := fun_mk (st := s_law_pairs) l22 c22 k22
  have b22 := F22.binds (ps := ["script"]) fun _ _ _ _ _ _ us hl => match us, hl with | [_], _ => rfl
  have F23 := fun_mk (st := s_law_same_as) l23 c23 k23
  have b23 := F23.binds (ps := ["project", "table"]) fun _ _ _ _ _ _ us hl => match us, hl with | [_, _], _ => rfl
  have F24 := fun_mk (st := s_law_deed) l24 c24 k24
  have b24 := F24.binds (ps := ["pot", "table"]) fun _ _ _ _ _ _ us hl => match us, hl with | [_, _], _ => rfl
  have F25 := fun_mk (st := s_law_due) l25 c25 k25
  have b25 := F25.binds (ps := ["deed", "table"]) fun _ _ _ _ _ _ us hl => match us, hl with | [_, _], _ => rfl
  have F26 := fun_mk (st := s_law_done) l26 c26 k26
  have b26 := F26.binds (ps := ["deed", "project", "made"]) fun _ _ _ _ _ _ us hl => match us, hl with | [_, _, _], _ => rfl
  have F27 := fun_mk (st := s_law) l27 c27 k27
  have b27 := F27.binds (ps := ["script"]) fun _ _ _ _ _ _ us hl => match us, hl with | [_], _ => rfl
  exact ⟨⟨f1, _, f2, _, f3, _, f4, _, f5, _, f6, _, f7, _, f8, _, f9, _, f10, _, f11, _, f12, _, f13, _, f14, _, f15, _, f16, _, f17, _, f18, _, f19, _, f20, _, f21, _, f22, _, f23, _, f24, _, f25, _, f26, _, f27, _, CProject⟩, ⟨F1, b1, PySem.W.mg_of X G a1, F2, b2, PySem.W.mg_of X G a2, F3, b3, PySem.W.mg_of X G a3, F4, b4, PySem.W.mg_of X G a4, F5, b5, PySem.W.mg_of X G a5, F6, b6, ⟨a6, i6, k6⟩, F7, b7, ⟨a7, i7, k7⟩, F8, b8, ⟨a8, i8, k8⟩, F9, b9, PySem.W.mg_of X G a9, F10, b10, PySem.W.mg_of X G a10, F11, b11, PySem.W.mg_of X G a11, F12, b12, PySem.W.mg_of X G a12, F13, b13, PySem.W.mg_of X G a13, F14, b14, PySem.W.mg_of X G a14, F15, b15, PySem.W.mg_of X G a15, F16, b16, PySem.W.mg_of X G a16, F17, b17, PySem.W.mg_of X G a17, F18, b18, PySem.W.mg_of X G a18, F19, b19, PySem.W.mg_of X G a19, F20, b20, PySem.W.mg_of X G a20, F21, b21, PySem.W.mg_of X G a21, F22, b22, PySem.W.mg_of X G a22, F23, b23, PySem.W.mg_of X G a23, F24, b24, PySem.W.mg_of X G a24, F25, b25, PySem.W.mg_of X G a25, F26, b26, PySem.W.mg_of X G a26, F27, b27, PySem.W.mg_of X G a27, ⟨pgProject, hdProject, poProject, saProject⟩, ⟨mkProject, a6, i6, kcProject⟩, PySem.W.mg_of X G AProject, nnProjectby_name, fun s u => .of_eq rfl, ⟨_, PySem.W.mg_of X G g1⟩, ⟨_, PySem.W.mg_of X G g2⟩, ⟨_, PySem.W.mg_of X G g3⟩, ⟨_, PySem.W.mg_of X G g4⟩, ⟨_, PySem.W.mg_of X G g5⟩, ⟨_, PySem.W.mg_of X G g6⟩, ⟨_, PySem.W.mg_of X G g7⟩, ⟨_, PySem.W.mg_of X G g8⟩, ⟨_, PySem.W.mg_of X G g9⟩, PySem.W.mg_none_of X G z1, PySem.W.mg_none_of X G z2, PySem.W.mg_none_of X G z3, PySem.W.mg_none_of X G z4, PySem.W.mg_none_of X G z5, PySem.W.mg_none_of X G z6, PySem.W.mg_none_of X G z7, PySem.W.mg_none_of X G z8, PySem.W.mg_none_of X G z9, PySem.W.mg_none_of X G z10, PySem.W.mg_none_of X G z11, PySem.W.mg_none_of X G z12, PySem.W.mg_none_of X G z13, PySem.W.mg_none_of X G z14, PySem.W.mg_none_of X G z15⟩⟩
theorem fx_mk {K : PySem.W.Frag} {h : Heap} {mg : Str → Option Value} (X : K.In h) (G : h.Ns mainGlobals mg) {aN aT aG aW xBadAnswer xBadKeep xBadRule xBadText xBadTree xClash xNoAsk xNoDeed : Addr}
    (gN : PySem.W.nsIn K mainGlobals "BadName" = some (some (.ref aN)))
    (gT : PySem.W.nsIn K mainGlobals "BadThing" = some (some (.ref aT)))
    (gG : PySem.W.nsIn K mainGlobals "NoThing" = some (some (.ref aG)))
    (gW : PySem.W.nsIn K mainGlobals "WrightError" = some (some (.ref aW)))
    (bN : PySem.W.excIn K aN VE "ValueError.__new__" = true)
    (bT : PySem.W.excIn K aT VE "ValueError.__new__" = true)
    (bG : PySem.W.excIn K aG VE "ValueError.__new__" = true)
    (eN : PySem.W.exmOne K (.ref aN) (.ref aW) = some true)
    (eT : PySem.W.exmOne K (.ref aT) (.ref aW) = some true)
    (eG : PySem.W.exmOne K (.ref aG) (.ref aW) = some true)
    (eBadAnswer : PySem.W.nsIn K mainGlobals "BadAnswer" = some (some (.ref xBadAnswer)))
    (eBadKeep : PySem.W.nsIn K mainGlobals "BadKeep" = some (some (.ref xBadKeep)))
    (eBadRule : PySem.W.nsIn K mainGlobals "BadRule" = some (some (.ref xBadRule)))
    (eBadText : PySem.W.nsIn K mainGlobals "BadText" = some (some (.ref xBadText)))
    (eBadTree : PySem.W.nsIn K mainGlobals "BadTree" = some (some (.ref xBadTree)))
    (eClash : PySem.W.nsIn K mainGlobals "Clash" = some (some (.ref xClash)))
    (eNoAsk : PySem.W.nsIn K mainGlobals "NoAsk" = some (some (.ref xNoAsk)))
    (eNoDeed : PySem.W.nsIn K mainGlobals "NoDeed" = some (some (.ref xNoDeed)))
    (c1N : PySem.W.findIn K (.ref aN) "__getattribute__" = some (some (.builtin "BaseException.__getattribute__")))
    (c2N : PySem.W.findIn K (.ref aN) "__getattr__" = some none)
    (c3N : PySem.W.findIn K (.ref aN) "__class__" = some (some (.builtin "object.__class__")))
    (c6N : PySem.W.mroIn K aN (.type "object") = some true)
    (c7N : PySem.W.mroIn K aN (.type "BaseException") = some true)
    (c8N : PySem.W.kitOne K (.ref aN) (.type "ValueError") = some true)
    (c9N : PySem.W.kitAny K (.ref aN) [.ref xBadAnswer, .ref xBadKeep, .ref xBadRule, .ref xBadText, .ref xBadTree] = some false)
    (d9N : PySem.W.kitAny K (.ref aN) [.ref xClash, .ref xNoAsk, .ref xNoDeed] = some false)
    (c1T : PySem.W.findIn K (.ref aT) "__getattribute__" = some (some (.builtin "BaseException.__getattribute__")))
    (c2T : PySem.W.findIn K (.ref aT) "__getattr__" = some none)
    (c3T : PySem.W.findIn K (.ref aT) "__class__" = some (some (.builtin "object.__class__")))
    (c6T : PySem.W.mroIn K aT (.type "object") = some true)
    (c7T : PySem.W.mroIn K aT (.type "BaseException") = some true)
    (c8T : PySem.W.kitOne K (.ref aT) (.type "ValueError") = some true)
    (c9T : PySem.W.kitAny K (.ref aT) [.ref xBadAnswer, .ref xBadKeep, .ref xBadRule, .ref xBadText, .ref xBadTree] = some false)
    (d9T : PySem.W.kitAny K (.ref aT) [.ref xClash, .ref xNoAsk, .ref xNoDeed] = some false)
    (c1G : PySem.W.findIn K (.ref aG) "__getattribute__" = some (some (.builtin "BaseException.__getattribute__")))
    (c2G : PySem.W.findIn K (.ref aG) "__getattr__" = some none)
    (c3G : PySem.W.findIn K (.ref aG) "__class__" = some (some (.builtin "object.__class__")))
    (c6G : PySem.W.mroIn K aG (.type "object") = some true)
    (c7G : PySem.W.mroIn K aG (.type "BaseException") = some true)
    (c8G : PySem.W.kitOne K (.ref aG) (.type "ValueError") = some true)
    (c9G : PySem.W.kitAny K (.ref aG) [.ref xBadAnswer, .ref xBadKeep, .ref xBadRule, .ref xBadText, .ref xBadTree] = some false)
    (d9G : PySem.W.kitAny K (.ref aG) [.ref xClash, .ref xNoAsk, .ref xNoDeed] = some false)
    (c4 : PySem.W.specialIn K (.builtin "object.__class__") "__get__" = some (some (.builtin "getset_descriptor.__get__")))
    (c5 : PySem.W.takesIn K (.builtin "object.__class__") = some true)
    (kNT : PySem.W.kitOne K (.ref aN) (.ref aT) = some false)
    (kNG : PySem.W.kitOne K (.ref aN) (.ref aG) = some false)
    (kTN : PySem.W.kitOne K (.ref aT) (.ref aN) = some false)
    (kTG : PySem.W.kitOne K (.ref aT) (.ref aG) = some false)
    (kGN : PySem.W.kitOne K (.ref aG) (.ref aN) = some false)
    (kGT : PySem.W.kitOne K (.ref aG) (.ref aT) = some false) : ∃ g, Fx K mg g :=
  ⟨⟨aN, aT, aG, aW, xBadAnswer, xBadKeep, xBadRule, xBadText, xBadTree, xClash, xNoAsk, xNoDeed⟩, ⟨PySem.W.mg_of X G gN, bN, PySem.W.mg_of X G gT, bT, PySem.W.mg_of X G gG, bG, PySem.W.mg_of X G gW, eN, eT, eG, PySem.W.mg_of X G eBadAnswer, PySem.W.mg_of X G eBadKeep, PySem.W.mg_of X G eBadRule, PySem.W.mg_of X G eBadText, PySem.W.mg_of X G eBadTree, PySem.W.mg_of X G eClash, PySem.W.mg_of X G eNoAsk, PySem.W.mg_of X G eNoDeed, ⟨c1N, c2N, c3N, c4, c5, c6N, c7N⟩, c8N, c9N, d9N, ⟨c1T, c2T, c3T, c4, c5, c6T, c7T⟩, c8T, c9T, d9T, ⟨c1G, c2G, c3G, c4, c5, c6G, c7G⟩, c8G, c9G, d9G, kNT, kNG, kTN, kTG, kGN, kGT⟩⟩
end K18
open PySem PySem.W PyProof.Rows
set_option maxRecDepth 100000 in
set_option maxHeartbeats 0 in
theorem PySem.Challenge.cw_askwright_k18_projects_changed_holds : PySem.Challenge.rw_askwright_k18_projects_changed.Holds := by
  w_on; o_law; k_head; (case hw => w_witness2)
  k_fill
  refine L2.walk_ofK (l := PySem.Challenge.rw_askwright_k18_projects_changed) (n := 63) (k := 157) (x := "script") (CX := L2.CX0) (sp := K18.sp_law) rfl (by decide) rfl ⟨rfl, by decide, by decide⟩ (fun w h Y => PySem.W.kIn_of Y) ?F ?S ?C
  case F =>
    intro w mg fa h KX G hmg
    have T : ∃ a, K18.Tx (L2.KOf KX) mg a := by
      dsimp only [L2.KOf]
      refine' K18.tx_mk KX G (AProject := ?AProject) (a1 := ?a1) (l1 := ?l1) (c1 := ?c1) (k1 := ?k1) (a2 := ?a2) (l2 := ?l2) (c2 := ?c2) (k2 := ?k2) (a3 := ?a3) (l3 := ?l3) (c3 := ?c3) (k3 := ?k3) (a4 := ?a4) (l4 := ?l4) (c4 := ?c4) (k4 := ?k4) (a5 := ?a5) (l5 := ?l5) (c5 := ?c5) (k5 := ?k5) (a6 := ?a6) (i6 := ?i6) (l6 := ?l6) (c6 := ?c6) (k6 := ?k6) (a7 := ?a7) (i7 := ?i7) (l7 := ?l7) (c7 := ?c7) (k7 := ?k7) (a8 := ?a8) (i8 := ?i8) (l8 := ?l8) (c8 := ?c8) (k8 := ?k8) (a9 := ?a9) (l9 := ?l9) (c9 := ?c9) (k9 := ?k9) (a10 := ?a10) (l10 := ?l10) (c10 := ?c10) (k10 := ?k10) (a11 := ?a11) (l11 := ?l11) (c11 := ?c11) (k11 := ?k11) (a12 := ?a12) (l12 := ?l12) (c12 := ?c12) (k12 := ?k12) (a13 := ?a13) (l13 := ?l13) (c13 := ?c13) (k13 := ?k13) (a14 := ?a14) (l14 := ?l14) (c14 := ?c14) (k14 := ?k14) (a15 := ?a15) (l15 := ?l15) (c15 := ?c15) (k15 := ?k15) (a16 := ?a16) (l16 := ?l16) (c16 := ?c16) (k16 := ?k16) (a17 := ?a17) (l17 := ?l17) (c17 := ?c17) (k17 := ?k17) (a18 := ?a18) (l18 := ?l18) (c18 := ?c18) (k18 := ?k18) (a19 := ?a19) (l19 := ?l19) (c19 := ?c19) (k19 := ?k19) (a20 := ?a20) (l20 := ?l20) (c20 := ?c20) (k20 := ?k20) (a21 := ?a21) (l21 := ?l21) (c21 := ?c21) (k21 := ?k21) (a22 := ?a22) (l22 := ?l22) (c22 := ?c22) (k22 := ?k22) (a23 := ?a23) (l23 := ?l23) (c23 := ?c23) (k23 := ?k23) (a24 := ?a24) (l24 := ?l24) (c24 := ?c24) (k24 := ?k24) (a25 := ?a25) (l25 := ?l25) (c25 := ?c25) (k25 := ?k25) (a26 := ?a26) (l26 := ?l26) (c26 := ?c26) (k26 := ?k26) (a27 := ?a27) (l27 := ?l27) (c27 := ?c27) (k27 := ?k27) (pgProject := ?pgProject) (hdProject := ?hdProject) (poProject := ?poProject) (saProject := ?saProject) (mkProject := ?mkProject) (kcProject := ?kcProject) (nnProjectby_name := ?nnProjectby_name) (g1 := ?g1) (g2 := ?g2) (g3 := ?g3) (g4 := ?g4) (g5 := ?g5) (g6 := ?g6) (g7 := ?g7) (g8 := ?g8) (g9 := ?g9) (z1 := ?z1) (z2 := ?z2) (z3 := ?z3) (z4 := ?z4) (z5 := ?z5) (z6 := ?z6) (z7 := ?z7) (z8 := ?z8) (z9 := ?z9) (z10 := ?z10) (z11 := ?z11) (z12 := ?z12) (z13 := ?z13) (z14 := ?z14) (z15 := ?z15)
      (case AProject => k_is); (case a1 => k_is); (case l1 => k_is); (case c1 => k_is); (case k1 => k_is); (case a2 => k_is); (case l2 => k_is); (case c2 => k_is); (case k2 => k_is); (case a3 => k_is); (case l3 => k_is); (case c3 => k_is); (case k3 => k_is); (case a4 => k_is); (case l4 => k_is); (case c4 => k_is); (case k4 => k_is); (case a5 => k_is); (case l5 => k_is); (case c5 => k_is); (case k5 => k_is); (case a6 => k_is); (case i6 => k_is); (case l6 => k_is); (case c6 => k_is); (case k6 => k_is); (case a7 => k_is); (case i7 => k_is); (case l7 => k_is); (case c7 => k_is); (case k7 => k_is); (case a8 => k_is); (case i8 => k_is); (case l8 => k_is); (case c8 => k_is); (case k8 => k_is); (case a9 => k_is); (case l9 => k_is); (case c9 => k_is); (case k9 => k_is); (case a10 => k_is); (case l10 => k_is); (case c10 => k_is); (case k10 => k_is); (case a11 => k_is); (case l11 => k_is); (case c11 => k_is); (case k11 => k_is); (case a12 => k_is); (case l12 => k_is); (case c12 => k_is); (case k12 => k_is); (case a13 => k_is); (case l13 => k_is); (case c13 => k_is); (case k13 => k_is); (case a14 => k_is); (case l14 => k_is); (case c14 => k_is); (case k14 => k_is); (case a15 => k_is); (case l15 => k_is); (case c15 => k_is); (case k15 => k_is); (case a16 => k_is); (case l16 => k_is); (case c16 => k_is); (case k16 => k_is); (case a17 => k_is); (case l17 => k_is); (case c17 => k_is); (case k17 => k_is); (case a18 => k_is); (case l18 => k_is); (case c18 => k_is); (case k18 => k_is); (case a19 => k_is); (case l19 => k_is); (case c19 => k_is); (case k19 => k_is); (case a20 => k_is); (case l20 => k_is); (case c20 => k_is); (case k20 => k_is); (case a21 => k_is); (case l21 => k_is); (case c21 => k_is); (case k21 => k_is); (case a22 => k_is); (case l22 => k_is); (case c22 => k_is); (case k22 => k_is); (case a23 => k_is); (case l23 => k_is); (case c23 => k_is); (case k23 => k_is); (case a24 => k_is); (case l24 => k_is); (case c24 => k_is); (case k24 => k_is); (case a25 => k_is); (case l25 => k_is); (case c25 => k_is); (case k25 => k_is); (case a26 => k_is); (case l26 => k_is); (case c26 => k_is); (case k26 => k_is); (case a27 => k_is); (case l27 => k_is); (case c27 => k_is); (case k27 => k_is); (case pgProject => k_is); (case hdProject => k_is); (case poProject => k_is); (case saProject => k_is); (case mkProject => k_is); (case kcProject => k_is); (case nnProjectby_name => k_is); (case g1 => k_is); (case g2 => k_is); (case g3 => k_is); (case g4 => k_is); (case g5 => k_is); (case g6 => k_is); (case g7 => k_is); (case g8 => k_is); (case g9 => k_is); (case z1 => k_is); (case z2 => k_is); (case z3 => k_is); (case z4 => k_is); (case z5 => k_is); (case z6 => k_is); (case z7 => k_is); (case z8 => k_is); (case z9 => k_is); (case z10 => k_is); (case z11 => k_is); (case z12 => k_is); (case z13 => k_is); (case z14 => k_is); (case z15 => k_is)
    have C : ∃ g, K18.Fx (L2.KOf KX) mg g := by
      dsimp only [L2.KOf]
      refine' K18.fx_mk KX G (gN := ?gN) (gT := ?gT) (gG := ?gG) (gW := ?gW) (bN := ?bN) (bT := ?bT) (bG := ?bG) (eN := ?eN) (eT := ?eT) (eG := ?eG) (eBadAnswer := ?eBadAnswer) (eBadKeep := ?eBadKeep) (eBadRule := ?eBadRule) (eBadText := ?eBadText) (eBadTree := ?eBadTree) (eClash := ?eClash) (eNoAsk := ?eNoAsk) (eNoDeed := ?eNoDeed) (c1N := ?c1N) (c2N := ?c2N) (c3N := ?c3N) (c6N := ?c6N) (c7N := ?c7N) (c8N := ?c8N) (c9N := ?c9N) (d9N := ?d9N) (c1T := ?c1T) (c2T := ?c2T) (c3T := ?c3T) (c6T := ?c6T) (c7T := ?c7T) (c8T := ?c8T) (c9T := ?c9T) (d9T := ?d9T) (c1G := ?c1G) (c2G := ?c2G) (c3G := ?c3G) (c6G := ?c6G) (c7G := ?c7G) (c8G := ?c8G) (c9G := ?c9G) (d9G := ?d9G) (c4 := ?c4) (c5 := ?c5) (kNT := ?kNT) (kNG := ?kNG) (kTN := ?kTN) (kTG := ?kTG) (kGN := ?kGN) (kGT := ?kGT)
      (case gN => k_is); (case gT => k_is); (case gG => k_is); (case gW => k_is); (case bN => k_exc); (case bT => k_exc); (case bG => k_exc); (case eN => kts_exm); (case eT => kts_exm); (case eG => kts_exm); (case eBadAnswer => k_is); (case eBadKeep => k_is); (case eBadRule => k_is); (case eBadText => k_is); (case eBadTree => k_is); (case eClash => k_is); (case eNoAsk => k_is); (case eNoDeed => k_is); (case c1N => k_is); (case c2N => k_is); (case c3N => k_is); (case c6N => k_is); (case c7N => k_is); (case c8N => kit_is); (case c9N => kit_is); (case d9N => kit_is); (case c1T => k_is); (case c2T => k_is); (case c3T => k_is); (case c6T => k_is); (case c7T => k_is); (case c8T => kit_is); (case c9T => kit_is); (case d9T => kit_is); (case c1G => k_is); (case c2G => k_is); (case c3G => k_is); (case c6G => k_is); (case c7G => k_is); (case c8G => kit_is); (case c9G => kit_is); (case d9G => kit_is); (case c4 => k_is); (case c5 => k_is); (case kNT => kit_is); (case kNG => kit_is); (case kTN => kit_is); (case kTG => kit_is); (case kGN => kit_is); (case kGT => kit_is)
    obtain ⟨a, T⟩ := T
    obtain ⟨g, C⟩ := C
    have e0 := hmg.symm.trans T.m_law
    cases e0
    exact ⟨_, T.e_law, (by obtain ⟨_, _, _, _, _, _, _, _, _, e, _⟩ := T.F_law.ex; rw [e]; rfl), fun base kb nb => K18.ok_law T C⟩
  case S => exact fun w H a ns hl hO hS => ⟨a, ns, rfl, hS, hl, fun _ => rfl⟩
  case C => exact fun _ _ _ _ z => z
#print axioms PySem.Challenge.cw_askwright_k18_projects_changed_holds
