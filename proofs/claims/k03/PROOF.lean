import PyProof.Rows.All
import Wide.All
import OpenK.AllK
import Wide.FinOn
import Lean
import PyProof.EqAt
import PyProof.EqKinds
import PyProof.TupleCall
import PySem.Str
import PyProof.ZipIter
import PyProof.Draws
import PyProof.StrLawsChain
import PyProof.StrLawsTight
import KE.KIntText
import OpenK.KTop
import PyProof.StationsW
import PyProof.ExcClass2
import PyProof.ExcBaseAll.ValueError
import PyProof.Rows.Catch
import OpenK.KOwn
import KE.KTryMore
import KE.FramesApart
import PyProof.RulesAs
import PyProof.NsDelKeeps
import PyProof.ExcArgs
import PyProof.NeKinds
import PyProof.StrCalls6
import PyProof.FString
import KE.KUnpack
import KE.RegKTryMore
import PySem.Challenge.RW_askwright_k03_trees_written_and_read
set_option Elab.async false
set_option linter.all false
set_option maxRecDepth 100000
/-! THE HAND LAYER, for ints, bools, texts, own classes, LISTS and tuples (index, slices, in, append, pop ..), calls, loops. Paste it whole ahead of your own text; what your proof does not reach may be deleted. -/
namespace L2
open PySem PySem.Spec PyProof.Rows

/-- a key: an int or a str -/
abbrev Key := Sum Int Str
def keyIs : Key → Value → Bool
  | .inl k, v => Value.isInt k v
  | .inr x, v => Value.isStrOf x v
def keyH (w : World) : Key → Int
  | .inl k => hashInt k
  | .inr x => hashStr w x
theorem keyIs_shape : ∀ {k : Key} {v : Value}, keyIs k v = true → (∃ i t, k = Sum.inl i ∧ v = Value.int i t) ∨ (∃ x t, k = Sum.inr x ∧ v = Value.str x t)
  | .inl i, v, h => by
    obtain ⟨t, e⟩ := Value.isInt_shape (k := i) (v := v) h
    exact .inl ⟨i, t, rfl, e⟩
  | .inr x, v, h => by
    obtain ⟨t, e⟩ := Value.isStrOf_shape (x := x) (v := v) h
    exact .inr ⟨x, t, rfl, e⟩
theorem key_ll (a b : Int) : decide ((Sum.inl a : Key) = Sum.inl b) = (a == b) := by
  by_cases e : a = b
  · subst e; simp
  · have h : ¬ (Sum.inl a : Key) = Sum.inl b := fun q => e (Sum.inl.inj q)
    rw [decide_eq_false h]
    exact (beq_eq_false_iff_ne.mpr e).symm
theorem key_rr (a b : Str) : decide ((Sum.inr a : Key) = Sum.inr b) = decide (a = b) := by
  by_cases e : a = b
  · subst e; simp
  · have h : ¬ (Sum.inr a : Key) = Sum.inr b := fun q => e (Sum.inr.inj q)
    rw [decide_eq_false h, decide_eq_false e]
theorem key_lr (a : Int) (b : Str) : decide ((Sum.inl a : Key) = Sum.inr b) = false := decide_eq_false (fun q => nomatch q)
theorem key_rl (a : Str) (b : Int) : decide ((Sum.inr a : Key) = Sum.inl b) = false := decide_eq_false (fun q => nomatch q)

def mixKind (prog : Program) (w : World) : PySem.KeyKind prog w Key where
  is := keyIs
  hash := keyH w
  inj := fun v a b ha hb => by
    rcases keyIs_shape ha with ⟨i, t, rfl, rfl⟩ | ⟨x, t, rfl, rfl⟩
    · rcases keyIs_shape hb with ⟨j, u, rfl, e⟩ | ⟨y, u, rfl, e⟩
      · injection e with e1 _; rw [e1]
      · exact nomatch e
    · rcases keyIs_shape hb with ⟨j, u, rfl, e⟩ | ⟨y, u, rfl, e⟩
      · exact nomatch e
      · injection e with e1 _; rw [e1]
  byValue := fun k v h => by
    rcases keyIs_shape h with ⟨i, t, rfl, rfl⟩ | ⟨x, t, rfl, rfl⟩ <;> rfl
  pyHash := fun hv h => by
    rcases keyIs_shape hv with ⟨i, t, rfl, rfl⟩ | ⟨x, t, rfl, rfl⟩
    · exact wpAny_pyHash_int h
    · exact wpAny_pyHash_str h
  eqBool := fun hu hv h => by
    rcases keyIs_shape hu with ⟨i, t, rfl, rfl⟩ | ⟨x, t, rfl, rfl⟩
    · rcases keyIs_shape hv with ⟨j, u, rfl, rfl⟩ | ⟨y, u, rfl, rfl⟩
      · rw [key_ll] at h; exact wpAny_eqBool_int h
      · rw [key_lr] at h; exact SeqAt.EqAt.int_str i t y u _ _ _ _ h
    · rcases keyIs_shape hv with ⟨j, u, rfl, rfl⟩ | ⟨y, u, rfl, rfl⟩
      · rw [key_rl] at h; exact SeqAt.EqAt.str_int x t j u _ _ _ _ h
      · rw [key_rr] at h; exact wpAny_eqBool_str h
  «strs» := fun k x t v h => by
    rcases keyIs_shape h with ⟨i, u, rfl, e⟩ | ⟨y, u, rfl, e⟩
    · exact nomatch e
    · injection e with e1 _
      subst e1
      cases v <;> rfl

end L2

namespace L2
open PySem PySem.Spec PyProof.Rows

/-- a value, without the heap -/
inductive V where
  | non | bl (b : Bool) | int (i : Int) | str (x : Str) | byt (b : Array UInt8) | flt (b : UInt64) | ref (a : Addr) | ty (n : String)
  deriving DecidableEq

def RelV : V → Value → Prop
  | .non, u => u = Value.none
  | .bl b, u => u = Value.bool b
  | .int i, u => ∃ t, u = Value.int i t
  | .str x, u => ∃ t, u = Value.str x t
  | .byt b, u => ∃ t, u = Value.bytes b t
  | .flt b, u => ∃ t, u = Value.float b t
  | .ref a, u => u = Value.ref a
  | .ty n, u => u = Value.type n

abbrev Vals : List V → List Value → Prop := Paired RelV
theorem Vals.length {xs : List V} {us : List Value} (r : Vals xs us) : xs.length = us.length := Paired.length r
theorem Vals.get : ∀ {xs : List V} {us : List Value} {i : Nat} {x : V}, Vals xs us → xs[i]? = some x → ∃ u, us[i]? = some u ∧ RelV x u
  | _, _, _, _, .nil, e => by simp at e
  | _, _, 0, _, .cons r _, e => by simp at e; subst e; exact ⟨_, rfl, r⟩
  | _, _, i + 1, x, .cons _ t, e => by
    obtain ⟨u, h1, h2⟩ := Vals.get (i := i) (x := x) t (by simpa using e)
    exact ⟨u, by simpa using h1, h2⟩
theorem Vals.set {x : V} {u : Value} (r : RelV x u) : ∀ {xs : List V} {us : List Value} (i : Nat), Vals xs us → Vals (xs.set i x) (us.set i u)
  | _, _, _, .nil => .nil
  | _, _, 0, .cons _ t => .cons r t
  | _, _, i + 1, .cons q t => .cons q (Vals.set r i t)
theorem Vals.append : ∀ {xs ys : List V} {us ws : List Value}, Vals xs us → Vals ys ws → Vals (xs ++ ys) (us ++ ws)
  | _, _, _, _, .nil, s => s
  | _, _, _, _, .cons r t, s => .cons r (Vals.append t s)
theorem Vals.take : ∀ {xs : List V} {us : List Value} (n : Nat), Vals xs us → Vals (xs.take n) (us.take n)
  | _, _, 0, _ => .nil
  | _, _, _ + 1, .nil => .nil
  | _, _, n + 1, .cons r t => .cons r (Vals.take n t)
theorem Vals.drop : ∀ {xs : List V} {us : List Value} (n : Nat), Vals xs us → Vals (xs.drop n) (us.drop n)
  | _, _, 0, r => r
  | _, _, _ + 1, .nil => .nil
  | _, _, n + 1, .cons _ t => Vals.drop n t
def RelO : Option V → Option Value → Prop
  | some v, some u => RelV v u
  | none, none => True
  | _, _ => False
def KV {κ : Type} : List (κ × V) → List (κ × Value) → Prop := Paired fun (p : κ × V) (q : κ × Value) => p.1 = q.1 ∧ RelV p.2 q.2

/-- a key of a dict (00_mix): an int or a text -/
def kV : Key → V
  | .inl i => .int i
  | .inr x => .str x

/-- what stands at a tracked address -/
inductive HO where
  /-- a list -/
  | lst (xs : List V)
  /-- a tuple (never changes) -/
  | tup (xs : List V)
  /-- a dict whose keys are ints and texts; one whose keys are tuples of ints and texts (the empty one is both) -/
  | dK (kvs : List (Key × V)) | dT (kvs : List (List Key × V))
  /-- a set of ints: its members, its size -/
  | set (S : Int → Bool) (n : Nat)
  /-- an instance of the class at C, its dict at dx, its attributes -/
  | ins (C dx : Addr) (fs : List (Str × V))
  /-- the dict of the instance at x -/
  | own (x : Addr)
  /-- the dict of an exception -/
  | xd (fs : List (Str × V))
  /-- a bound method, f of x -/
  | met (f x : Addr)
  /-- a range object lo, lo + 1, .. below hi -/
  | rng (lo hi : Int)
  /-- a thing that is known to the object (the script; a dict while a loop walks it): read, never written while it is so -/
  | frz (o : Obj) (u : HO)
  /-- a code object's table -/
  | tbl (ps : Array Value)
  /-- any other thing, by what is true of its one object (a def of one's own: SetO a S n := HO.ext fun h => ..) -/
  | ext (φ : Heap → Prop)

abbrev Hp := Addr → Option HO
def upd (H : Hp) (a : Addr) (o : HO) : Hp := fun b => if b = a then some o else H b
theorem upd_same {H : Hp} {a : Addr} {o : HO} : upd H a o a = some o := by unfold upd; rw [if_pos rfl]
theorem upd_ne {H : Hp} {a b : Addr} {o : HO} (h : b ≠ a) : upd H a o b = H b := by unfold upd; rw [if_neg h]
theorem ne_of_none {H : Hp} {a b : Addr} {o : HO} (h : H a = some o) (h' : H b = none) : a ≠ b := by
  intro e; subst e; rw [h] at h'; cases h'

section
variable (P : Program) (w : World)
def ObjOk (H : Hp) (h : Heap) (a : Addr) : HO → Prop
  | .lst xs => xs.length ≤ sizeLine ∧ ∃ (its : List Value) (n : Nat), Vals xs its ∧ h.get? a = some { cls := .type "list", data := .seq its.toArray n }
  | .tup xs => xs.length ≤ sizeLine ∧ ∃ its : List Value, Vals xs its ∧ IsTup h a its.toArray
  | .dK kvs => kvs.length ≤ sizeLine ∧ (a == sysModules) = false ∧ ∃ vs, KV kvs vs ∧ h.DictOf (mixKind P w) a vs
  | .dT kvs => kvs.length ≤ sizeLine ∧ (a == sysModules) = false ∧ ∃ xs : List (List Key × Addr × Value),
      Paired (fun (p : List Key × V) (q : List Key × Addr × Value) => p.1 = q.1 ∧ H q.2.1 = some (.tup (p.1.map kV)) ∧ RelV p.2 q.2.2) kvs xs ∧
      ∃ o es ep, h.get? a = some o ∧ o.ExactDict ∧ o.data = .dict es ep ∧ es.toList = xs.map (entryOfKey (tupleKind (mixKind P w))) ∧ (xs.map (·.1)).Nodup
  | .set S n => h.SetOf (intKind P w) a S n
  | .ins C dx fs => H dx = some (.own a) ∧ fs.length ≤ 1000 ∧ dx ≠ a ∧ h.get? a = some (PySem.W.instObj C dx) ∧
      ∃ mA, h.Ns1 dx mA ∧ (∀ f, RelO (fs.lookup f) (mA f)) ∧ PySem.Within mA (fs.map (·.1))
  | .own _ => ∃ o, h.get? a = some o
  | .xd fs => ∃ mA, h.Ns1 a mA ∧ ∀ f, RelO (fs.lookup f) (mA f)
  | .rng lo hi => ∃ t u v, h.get? a = some { cls := .type "range", data := .fields #[.int lo t, .int hi u, .int 1 v] }
  | .frz o u => h.get? a = some o ∧ ObjOk H h a u
  | .tbl ps => h.get? a = some { cls := .none, data := .fields ps }
  | .met f x => h.get? a = some (PySem.W.methodObj (.ref f) (.ref x))
  | .ext φ => φ h ∧ (∃ o, h.get? a = some o) ∧ ∀ h1 h2 : Heap, φ h1 → (∀ o, h1.get? a = some o → h2.get? a = some o) → φ h2
/-- the abstract heap is held -/
def HOk (H : Hp) (h : Heap) : Prop := ∀ a o, H a = some o → ObjOk P w H h a o
end

section
variable {P : Program} {w : World} {H H' : Hp} {h h' : Heap} {a : Addr} {o : HO}
theorem ObjOk.lt (x : ObjOk P w H h a o) : a < h.objs.size := by
  cases o with
  | lst xs => obtain ⟨_, _, _, _, e⟩ := x; exact Heap.lt_size e
  | tup xs => obtain ⟨_, _, _, p⟩ := x; exact p.lt
  | dK kvs => obtain ⟨_, _, _, _, o, _, _, e, _⟩ := x; exact Heap.lt_size e
  | dT kvs => obtain ⟨_, _, _, _, o, _, _, e, _⟩ := x; exact Heap.lt_size e
  | set S n => obtain ⟨o, _, _, _, e, _⟩ := x; exact Heap.lt_size e
  | ins C dx fs => obtain ⟨_, _, _, e, _⟩ := x; exact Heap.lt_size e
  | own y => obtain ⟨_, e⟩ := x; exact Heap.lt_size e
  | xd fs => obtain ⟨_, ⟨_, _, _, e, _⟩, _⟩ := x; exact Heap.lt_size e
  | rng lo hi => obtain ⟨_, _, _, e⟩ := x; exact Heap.lt_size e
  | frz ob u => obtain ⟨e, _⟩ := x; exact Heap.lt_size e
  | tbl ps => exact Heap.lt_size (show h.get? a = some _ from x)
  | met f y => exact Heap.lt_size (show h.get? a = some _ from x)
  | ext φ => obtain ⟨_, ⟨_, e⟩, _⟩ := x; exact Heap.lt_size e
theorem Paired.mapP {α β : Type} {F G : α → β → Prop} : ∀ {l₁ : List α} {l₂ : List β}, Paired F l₁ l₂ → (∀ a b, F a b → G a b) → Paired G l₁ l₂
  | _, _, .nil, _ => .nil
  | _, _, .cons r t, f => .cons (f _ _ r) (Paired.mapP t f)
/-- what an object's description leans on: its own object, its own dict, the tuples -/
theorem ObjOk.stay (x : ObjOk P w H h a o) (k : ∀ b u, (b = a ∨ H b = some (.own a)) → h.get? b = some u → h'.get? b = some u)
    (ho : ∀ b, H b = some (.own a) → H' b = some (.own a)) (ht : ∀ b xs, H b = some (.tup xs) → H' b = some (.tup xs)) : ObjOk P w H' h' a o := by
  induction o with
  | lst xs => obtain ⟨z, its, n, r, e⟩ := x; exact ⟨z, its, n, r, k _ _ (.inl rfl) e⟩
  | tup xs => obtain ⟨z, its, r, ob, e, c⟩ := x; exact ⟨z, its, r, ob, k _ _ (.inl rfl) e, c⟩
  | dK kvs => obtain ⟨z, y, vs, r, ob, es, ep, e, c⟩ := x; exact ⟨z, y, vs, r, ob, es, ep, k _ _ (.inl rfl) e, c⟩
  | dT kvs =>
    obtain ⟨z, y, xs, r, ob, es, ep, e, c⟩ := x
    exact ⟨z, y, xs, Paired.mapP r fun p q z => ⟨z.1, ht _ _ z.2.1, z.2.2⟩, ob, es, ep, k _ _ (.inl rfl) e, c⟩
  | set S n => obtain ⟨ob, es, ep, t, e, c⟩ := x; exact ⟨ob, es, ep, t, k _ _ (.inl rfl) e, c⟩
  | ins C dx fs =>
    obtain ⟨d, z, ne, e, mA, ⟨od, es, ep, e2, c⟩, r⟩ := x
    exact ⟨ho _ d, z, ne, k _ _ (.inl rfl) e, mA, ⟨od, es, ep, k _ _ (.inr d) e2, c⟩, r⟩
  | own y => obtain ⟨ob, e⟩ := x; exact ⟨ob, k _ _ (.inl rfl) e⟩
  | xd fs => obtain ⟨mA, ⟨od, es, ep, e, c⟩, r⟩ := x; exact ⟨mA, ⟨od, es, ep, k _ _ (.inl rfl) e, c⟩, r⟩
  | rng lo hi => obtain ⟨t, u, v, e⟩ := x; exact ⟨t, u, v, k _ _ (.inl rfl) e⟩
  | frz ob u ih => obtain ⟨e, q⟩ := x; exact ⟨k _ _ (.inl rfl) e, ih q⟩
  | tbl ps =>
    have e : h.get? a = some { cls := .none, data := .fields ps } := x
    show h'.get? a = some { cls := .none, data := .fields ps }
    exact k a _ (.inl rfl) e
  | met f y =>
    have e : h.get? a = some (PySem.W.methodObj (.ref f) (.ref y)) := x
    show h'.get? a = some (PySem.W.methodObj (.ref f) (.ref y))
    exact k a _ (.inl rfl) e
  | ext φ => obtain ⟨p, ⟨o, e⟩, st⟩ := x; exact ⟨st _ _ p fun o q => k _ _ (.inl rfl) q, ⟨o, k _ _ (.inl rfl) e⟩, st⟩
theorem HOk.lt (x : HOk P w H h) (e : H a = some o) : a < h.objs.size := (x a o e).lt
theorem HOk.fresh (x : HOk P w H h) (e : h.objs.size ≤ a) : H a = none := by
  cases q : H a with
  | none => rfl
  | some u => exact absurd (Nat.lt_of_lt_of_le (x.lt q) e) (Nat.lt_irrefl _)
/-- every object of the heap is kept -/
theorem HOk.kept (x : HOk P w H h) (k : ∀ b u, h.get? b = some u → h'.get? b = some u) : HOk P w H h' := fun a o e =>
  (x a o e).stay (fun b u _ q => k b u q) (fun _ q => q) fun _ _ q => q
/-- a new object is laid and tracked -/
theorem HOk.laid (x : HOk P w H h) (k : ∀ b u, h.get? b = some u → h'.get? b = some u) (hp : h.objs.size ≤ a) (new : ObjOk P w (upd H a o) h' a o) : HOk P w (upd H a o) h' := fun b u e => by
  have hn := x.fresh hp
  by_cases hb : b = a
  · subst hb; rw [upd_same] at e; cases e; exact new
  · rw [upd_ne hb] at e
    exact (x b u e).stay (fun c v _ q => k c v q) (fun c q => by rw [upd_ne (ne_of_none q hn)]; exact q) fun c xs q => by rw [upd_ne (ne_of_none q hn)]; exact q
end

/-- what may be read as u: it is u, or a known u -/
def Rd (H : Hp) (a : Addr) (u : HO) : Prop := H a = some u ∨ ∃ o, H a = some (.frz o u)
theorem Rd.of {H : Hp} {a : Addr} {u : HO} (h : H a = some u) : Rd H a u := .inl h
theorem Rd.ok {P : Program} {w : World} {H : Hp} {h : Heap} {a : Addr} {u : HO} (r : Rd H a u) (x : HOk P w H h) : ObjOk P w H h a u := by
  rcases r with r | ⟨o, r⟩
  · exact x a u r
  · obtain ⟨_, q⟩ := x a _ r
    exact q
/-- what may be written -/
def Mut : Option HO → Prop
  | some (.lst _) => True
  | some (.dK _) => True
  | some (.dT _) => True
  | some (.set _ _) => True
  | some (.ins _ _ _) => True
  | some (.ext _) => True
  | _ => False
section
variable {P : Program} {w : World} {H : Hp} {h h' : Heap} {x e : Addr} {o' : HO}
/-- the object at e is changed: x itself, or the dict of the instance x -/
theorem HOk.write (ok : HOk P w H h) (mu : Mut (H x)) (he : e = x ∨ H e = some (.own x)) (k : ∀ b u, b ≠ e → h.get? b = some u → h'.get? b = some u) (heo : ∃ u, h'.get? e = some u)
    (new : ObjOk P w (upd H x o') h' x o') : HOk P w (upd H x o') h' := fun b u q => by
  have nown : ∀ c y, H c = some (.own y) → c ≠ x := fun c y r z => by subst z; rw [r] at mu; exact mu
  have ntup : ∀ c xs, H c = some (.tup xs) → c ≠ x := fun c xs r z => by subst z; rw [r] at mu; exact mu
  by_cases hb : b = x
  · subst hb; rw [upd_same] at q; cases q; exact new
  · rw [upd_ne hb] at q
    by_cases hbe : b = e
    · have q' : H b = some (.own x) := by
        rcases he with z | z
        · exact absurd (hbe.trans z) hb
        · rw [hbe]; exact z
      rw [q] at q'; cases q'
      obtain ⟨v, hv⟩ := heo
      exact ⟨v, by rw [hbe]; exact hv⟩
    · refine (ok b u q).stay (fun c v hc r => k c v ?_ r) (fun c r => by rw [upd_ne (nown c b r)]; exact r) fun c xs r => by rw [upd_ne (ntup c xs r)]; exact r
      rcases hc with rfl | hc
      · exact hbe
      · rintro rfl
        rcases he with z | z
        · exact nown c b hc z
        · rw [hc] at z; cases z; exact hb rfl
end

/-! ### kept unless tracked; of the frames at fs (the callers') the slots may change (an exception that passes writes there); of the records at ex (iterators) nothing is said -/
structure Un (fs ex : List Addr) (H H' : Hp) (h h' : Heap) : Prop where
  keep : ∀ b o, h.get? b = some o → H b = none → b ∉ fs → b ∉ ex → h'.get? b = some o
  slot : ∀ b o, h.get? b = some o → H b = none → b ∈ fs → b ∉ ex → ∃ sl, h'.get? b = some { o with slots := sl }
  free : ∀ b o, h.get? b = some o → H b = none → b ∉ ex → H' b = none
  there : ∀ b o, h.get? b = some o → b ∉ ex → ∃ o', h'.get? b = some o'
  tups : ∀ b xs, H b = some (.tup xs) → H' b = some (.tup xs)
  frzs : ∀ b o u, H b = some (.frz o u) → H' b = some (.frz o u)
  tbls : ∀ b ps, H b = some (.tbl ps) → ∃ more, H' b = some (.tbl (ps ++ more))
section
variable {fs fs' ex ex' : List Addr} {H H1 H2 : Hp} {h h1 h2 h' : Heap} {a x e : Addr} {o : HO}
theorem Un.any (u : Un fs ex H H1 h h1) {b : Addr} {ob : Obj} (q : h.get? b = some ob) (n : H b = none) (hx : b ∉ ex) : ∃ sl, h1.get? b = some { ob with slots := sl } := by
  by_cases hb : b ∈ fs
  · exact u.slot b ob q n hb hx
  · exact ⟨ob.slots, u.keep b ob q n hb hx⟩
theorem Un.trans (a : Un fs ex H H1 h h1) (b : Un fs ex H1 H2 h1 h2) : Un fs ex H H2 h h2 where
  keep := fun c ob q n hc hx => b.keep c ob (a.keep c ob q n hc hx) (a.free c ob q n hx) hc hx
  slot := fun c ob q n hc hx => by
    obtain ⟨sl, e1⟩ := a.slot c ob q n hc hx
    obtain ⟨sl', e2⟩ := b.slot c _ e1 (a.free c ob q n hx) hc hx
    exact ⟨sl', e2⟩
  free := fun c ob q n hx => by
    obtain ⟨o', e1⟩ := a.there c ob q hx
    exact b.free c o' e1 (a.free c ob q n hx) hx
  there := fun c ob q hx => by
    obtain ⟨o', e1⟩ := a.there c ob q hx
    exact b.there c o' e1 hx
  tups := fun c xs q => b.tups c xs (a.tups c xs q)
  frzs := fun c ob xs q => b.frzs c ob xs (a.frzs c ob xs q)
  tbls := fun c ps q => by
    obtain ⟨m1, e1⟩ := a.tbls c ps q
    obtain ⟨m2, e2⟩ := b.tbls c _ e1
    exact ⟨m1 ++ m2, by rw [e2, Array.append_assoc]⟩
theorem Un.kept (k : ∀ b u, h.get? b = some u → h'.get? b = some u) : Un fs ex H H h h' :=
  ⟨fun b ob q _ _ _ => k b ob q, fun b ob q _ _ _ => ⟨ob.slots, k b ob q⟩, fun _ _ _ n _ => n, fun b ob q _ => ⟨ob, k b ob q⟩, fun _ _ q => q, fun _ _ _ q => q, fun _ ps q => ⟨#[], by rw [q]; simp⟩⟩
theorem Un.refl : Un fs ex H H h h := Un.kept fun _ _ q => q
theorem Un.laid (k : ∀ b u, h.get? b = some u → h'.get? b = some u) (hp : h.objs.size ≤ a) (hn : H a = none) : Un fs ex H (upd H a o) h h' where
  keep := fun b u q _ _ _ => k b u q
  slot := fun b u q _ _ _ => ⟨u.slots, k b u q⟩
  free := fun b u q n _ => by rw [upd_ne (Nat.ne_of_lt (Nat.lt_of_lt_of_le (Heap.lt_size q) hp))]; exact n
  there := fun b u q _ => ⟨u, k b u q⟩
  tups := fun b xs q => by rw [upd_ne (ne_of_none q hn)]; exact q
  frzs := fun b u xs q => by rw [upd_ne (ne_of_none q hn)]; exact q
  tbls := fun b ps q => ⟨#[], by rw [upd_ne (ne_of_none q hn), q]; simp⟩
theorem Un.write (mu : Mut (H x)) (he : e = x ∨ H e = some (.own x)) (k : ∀ b u, b ≠ e → h.get? b = some u → h'.get? b = some u) (heo : ∃ u, h'.get? e = some u) : Un fs ex H (upd H x o) h h' := by
  have hx : ∀ b, H b = none → b ≠ x := fun b n z => by subst z; rw [n] at mu; exact mu
  have hb : ∀ b, H b = none → b ≠ e := fun b n z => by
    subst z
    rcases he with r | r
    · exact hx b n r
    · rw [n] at r; cases r
  have hm : ∀ b u, H b = some u → ¬ Mut (some u) → b ≠ x := fun b u q nm z => by subst z; rw [q] at mu; exact nm mu
  refine ⟨fun b u q n _ _ => k b u (hb b n) q, fun b u q n _ _ => ⟨u.slots, k b u (hb b n) q⟩, fun b u q n _ => by rw [upd_ne (hx b n)]; exact n, fun b u q _ => ?_,
    fun b xs q => by rw [upd_ne (hm b _ q fun z => z)]; exact q, fun b u xs q => by rw [upd_ne (hm b _ q fun z => z)]; exact q, fun b ps q => ⟨#[], by rw [upd_ne (hm b _ q fun z => z), q]; simp⟩⟩
  by_cases hbe : b = e
  · subst hbe; exact heo
  · exact ⟨u, k b u hbe q⟩
end

/-! ### the heap without what is tracked -/
def trk (h : Heap) (H : Hp) : List Addr := (List.range h.objs.size).filter fun a => (H a).isSome
def hidT (h : Heap) (H : Hp) : Heap := PySem.W.hideAll h (trk h H)
theorem hidT_size (h : Heap) (H : Hp) : (hidT h H).objs.size = h.objs.size := PySem.W.hideAll_size _ _
theorem hidT_get {h : Heap} {H : Hp} {b : Addr} {o : Obj} (e : h.get? b = some o) (n : H b = none) : (hidT h H).get? b = some o :=
  PySem.W.hideAll_get _ e fun hm => by
    have q : (H b).isSome = true := (List.mem_filter.mp hm).2
    rw [n] at q; simp at q
theorem of_hidT {h : Heap} {H : Hp} {b : Addr} {o : Obj} (e : (hidT h H).get? b = some o) : h.get? b = some o ∧ H b = none := by
  have e' : h.get? b = some o := PySem.W.of_hideAll (trk h H) e
  refine ⟨e', ?_⟩
  cases q : H b with
  | none => rfl
  | some x =>
    have hm : b ∈ trk h H := List.mem_filter.mpr ⟨List.mem_range.mpr (Heap.lt_size e'), by simp [q]⟩
    have z : (hidT h H).get? b = none := PySem.W.hideAll_none (trk h H) hm
    rw [z] at e; cases e

/-! ### OpenK's ledger, filled with every new object but one -/
end L2

namespace L2
open PySem PySem.Spec PyProof.Rows

/-- the module's facts, over the base: the heap at the law's entry without what is tracked there -/
structure Mod (K : PySem.W.Frag) (mg : Str → Option Value) (base : Heap) : Prop where
  kin : K.In base
  glob : base.Ns mainGlobals mg
  blt : ∃ mb, base.Ns builtinsNs mb ∧ ∀ x : Str, x ≠ "__name__" → mb x = bootBuiltins x
  nolimit : base.NoLimit

/-- the context: a def's body (or a comprehension's block) running. base: fixed through the whole law; s₀, H₀: the entry; outer: the frames whose slots others may change (a def's callers); stack: all frames that run;
   ex: iterators that were made ahead of the entry and are walked here (a comprehension's); fn: the names whose cells were made at the entry (a def: all; a comprehension's block: its own); calm: not within an except suite; pn: pins that every state bears; xe: what is wanted of an exception that leaves the code -/
structure Cx where
  prog : Program
  w : World
  K : PySem.W.Frag
  mg : Str → Option Value
  base : Heap
  A : Around
  N : List Str
  s₀ : Shared
  H₀ : Hp
  env : Env
  outer : List Env
  stack : List Env
  ex : List Addr
  fn : Str → Bool
  calm : Bool
  pn : List (Addr × Obj)
  xe : Value → Shared → Prop
/-- the callers' frames -/
def frs (l : List Env) : List Addr := l.filterMap (·.frame)
abbrev Cx.fs (X : Cx) : List Addr := frs X.outer

def Vis (sc : Scope) (x : Str) : Prop := sc.names.lookup x = some .local ∨ sc.names.lookup x = some .cell ∨ sc.names.lookup x = some .free
def Loc (sc : Scope) (x : Str) : Prop := sc.names.lookup x = some .local ∨ sc.names.lookup x = some .cell
def Look (env : Env) (h : Heap) (m : Str → Option Value) (x : Str) (u : Value) : Prop :=
  (env.kindOf x = some .local ∧ m x = some u) ∨ ((env.kindOf x = some .cell ∨ env.kindOf x = some .free) ∧ ∃ c, env.cells.lookup x = some c ∧ h.IsCell c (some u))

structure Cx.Ok (X : Cx) : Prop where
  mod : Mod X.K X.mg X.base
  kind : X.env.scope.kind = .function
  glob : X.env.globals = mainGlobals
  blt : X.env.builtins = builtinsNs
  above : X.s₀.heap.objs.size ≤ X.env.locals
  inj : ∀ x y c, X.env.cells.lookup x = some c → X.env.cells.lookup y = some c → x = y
  has : ∀ x, (X.env.kindOf x = some .cell ∨ X.env.kindOf x = some .free) → ∃ c, X.env.cells.lookup x = some c
  cab : ∀ x c, X.fn x = true → X.env.cells.lookup x = some c → X.s₀.heap.objs.size ≤ c
  hd : X.calm = true → X.A.handled = none
  frames : X.A.frames = some X.stack
  stk : X.stack = X.outer ∨ (X.stack = X.env :: X.outer ∧ X.env.frame = some X.env.locals)
  exf : ∀ b ∈ X.ex, b ≠ X.env.locals ∧ ∀ x c, X.env.cells.lookup x = some c → c ≠ b
  bs : ∀ b o, X.base.get? b = some o → X.s₀.heap.get? b = some o ∧ X.H₀ b = none
  bsz : X.base.objs.size ≤ X.s₀.heap.objs.size
  noex : ∀ b o, X.base.get? b = some o → b ∉ X.ex
  exfs : ∀ b ∈ X.ex, b ∉ X.fs
  funs : X.s₀.heap.FunFrames X.base X.outer
  frf : ∀ b ∈ X.fs, X.H₀ b = none

structure Inv (X : Cx) (pins : List (Addr × Obj)) (σ : List (Option V)) (H : Hp) (s : Shared) : Prop where
  ok : X.Ok
  os : s.os = X.s₀.os
  bare : AllBare s.gens
  base : Un X.fs X.ex X.H₀ H X.s₀.heap s.heap
  loc : ∃ m, s.heap.Ns X.env.locals m ∧ ∀ (i : Nat) (x : Str) (v : V), X.N[i]? = some x → σ[i]? = some (some v) → Vis X.env.scope x → ∃ u, RelV v u ∧ Look X.env s.heap m x u
  cell : ∀ x c, X.env.cells.lookup x = some c → ∃ v, s.heap.IsCell c v
  free : H X.env.locals = none
  freeC : ∀ x c, X.env.cells.lookup x = some c → H c = none
  pin : ∀ p ∈ X.pn ++ pins, s.heap.get? p.1 = some p.2 ∧ H p.1 = none ∧ p.1 ≠ X.env.locals ∧ p.1 ∉ X.fs ∧ ∀ v, p.2.data ≠ .cell v
  hok : HOk X.prog X.w H s.heap
  len : σ.length = X.N.length
  tk : 0 < s.toks

section
variable {X : Cx} {pins : List (Addr × Obj)} {σ : List (Option V)} {H H' : Hp} {s : Shared} {h' : Heap}

theorem Cx.Ok.nofr (ok : X.Ok) {b : Addr} {o : Obj} (e : X.base.get? b = some o) : b ∉ X.fs := fun hb => by
  have := (ok.funs.mem hb).1
  rw [e] at this; cases this
theorem Inv.bs (I : Inv X pins σ H s) : ∀ b o, X.base.get? b = some o → s.heap.get? b = some o ∧ H b = none := fun b o e =>
  ⟨I.base.keep b o (I.ok.bs b o e).1 (I.ok.bs b o e).2 (I.ok.nofr e) (I.ok.noex b o e), I.base.free b o (I.ok.bs b o e).1 (I.ok.bs b o e).2 (I.ok.noex b o e)⟩
theorem Inv.bk (I : Inv X pins σ H s) : ∀ b o, X.base.get? b = some o → s.heap.get? b = some o := fun b o e => (I.bs b o e).1
theorem Inv.mod (I : Inv X pins σ H s) : Mod X.K X.mg X.base := I.ok.mod
theorem Inv.kIn (I : Inv X pins σ H s) : X.K.In s.heap := I.ok.mod.kin.keeps I.bk
theorem Inv.lt (I : Inv X pins σ H s) : X.env.locals < s.heap.objs.size := let ⟨_, hn, _⟩ := I.loc; hn.lt
theorem Inv.sz (I : Inv X pins σ H s) : X.s₀.heap.objs.size ≤ s.heap.objs.size := Nat.le_trans I.ok.above (Nat.le_of_lt I.lt)
theorem Inv.nofs (I : Inv X pins σ H s) {a : Addr} (h : s.heap.objs.size ≤ a) : a ∉ X.fs := fun hb => by
  obtain ⟨_, o, ho, _⟩ := I.ok.funs.mem hb
  exact absurd (Nat.lt_of_lt_of_le (Heap.lt_size ho) (Nat.le_trans I.sz h)) (Nat.lt_irrefl _)
theorem Inv.cne (I : Inv X pins σ H s) : ∀ x c, X.env.cells.lookup x = some c → c ≠ X.env.locals := fun x c e z => by
  obtain ⟨v, o, ho, hd⟩ := I.cell x c e
  obtain ⟨m, ⟨o', es, ep, ho', hd', _⟩, _⟩ := I.loc
  rw [z, ho'] at ho; cases ho; rw [hd'] at hd; cases hd
theorem Inv.funs (I : Inv X pins σ H s) : s.heap.FunFrames X.base X.outer := by
  have all : ∀ (l : List Env), (∀ b ∈ frs l, b ∈ X.fs) → X.s₀.heap.FunFrames X.base l → s.heap.FunFrames X.base l := by
    intro l
    induction l with
    | nil => intro _ _; trivial
    | cons env r ih =>
      intro hs hl
      obtain ⟨hk, ⟨L, o, hf, hn, ho, hd⟩, hr⟩ := hl
      have hL : L ∈ X.fs := hs L (by unfold frs; rw [List.filterMap_cons, hf]; exact List.mem_cons_self)
      obtain ⟨sl, e⟩ := I.base.slot L o ho (I.ok.frf L hL) hL fun z => I.ok.exfs L z hL
      exact ⟨hk, ⟨L, _, hf, hn, e, hd⟩, ih (fun b hb => hs b (by unfold frs; rw [List.filterMap_cons, hf]; exact List.mem_cons_of_mem _ hb)) hr⟩
  exact all X.outer (fun _ hb => hb) I.ok.funs

/-- the frames that run, for a call -/
theorem Inv.stack (I : Inv X pins σ H s) : s.heap.FunFrames X.base X.stack := by
  rcases I.ok.stk with e | ⟨e, hf⟩
  · rw [e]; exact I.funs
  · rw [e]
    obtain ⟨m, hn, _⟩ := I.loc
    refine .cons (by rw [I.ok.kind]; decide) hf hn ?_ I.funs
    exact Heap.get?_none_of_le (Nat.le_trans I.ok.bsz I.ok.above)
theorem Inv.stkSub (I : Inv X pins σ H s) : ∀ b ∈ frs X.stack, b ∈ X.env.locals :: X.fs := fun b hb => by
  rcases I.ok.stk with e | ⟨e, hf⟩
  · rw [e] at hb; exact List.mem_cons_of_mem _ hb
  · rw [e] at hb
    unfold frs at hb
    rw [List.filterMap_cons, hf] at hb
    exact hb
theorem Inv.stkFree (I : Inv X pins σ H s) : ∀ b ∈ frs X.stack, H b = none := fun b hb => by
  rcases List.mem_cons.mp (I.stkSub b hb) with e | hb
  · rw [e]; exact I.free
  · obtain ⟨_, o, ho, _⟩ := I.ok.funs.mem hb
    exact I.base.free b o ho (I.ok.frf b hb) fun z => I.ok.exfs b z hb

/-- THE STEP: the untracked objects but the frame and the records at ch are kept (the callers' frames up to slots), the frame's map is kept, the new abstract heap is held -/
theorem Inv.step {g' : Array GenState} {t' : Nat} {d' : Drawn} {ch : List Addr} (I : Inv X pins σ H s)
    (hch : ∀ b ∈ ch, (b ∈ X.ex ∨ X.s₀.heap.objs.size ≤ b) ∧ b ≠ X.env.locals ∧ (∀ x c, X.env.cells.lookup x = some c → c ≠ b) ∧ ∀ p ∈ X.pn ++ pins, p.1 ≠ b)
    (keep : ∀ b o, b ≠ X.env.locals → b ∉ X.fs → b ∉ ch → s.heap.get? b = some o → H b = none → h'.get? b = some o)
    (slot : ∀ b o, b ≠ X.env.locals → b ∈ X.fs → b ∉ ch → s.heap.get? b = some o → H b = none → ∃ sl, h'.get? b = some { o with slots := sl }) (free : ∀ b o, b ∉ ch → s.heap.get? b = some o → H b = none → H' b = none)
    (there : ∀ b o, b ∉ ch → s.heap.get? b = some o → ∃ o', h'.get? b = some o')
    (tups : ∀ b xs, H b = some (.tup xs) → H' b = some (.tup xs)) (frzs : ∀ b o u, H b = some (.frz o u) → H' b = some (.frz o u)) (tbls : ∀ b ps, H b = some (.tbl ps) → ∃ more, H' b = some (.tbl (ps ++ more)))
    (ns : ∀ m, s.heap.Ns X.env.locals m → h'.Ns X.env.locals m) (hok : HOk X.prog X.w H' h') (hg : AllBare g') (ht : 0 < t' := by ((try dsimp only); first | assumption | exact Inv.tk (by assumption) | exact Nat.succ_pos _ | exact Nat.lt_of_lt_of_le (Inv.tk (by assumption)) (by assumption) | exact Nat.add_pos_left (Inv.tk (by assumption)) _ | omega)) :
    Inv X pins σ H' { s with heap := h', gens := g', drawn := d', toks := t' } := by
  have neL : ∀ b o, X.s₀.heap.get? b = some o → b ≠ X.env.locals := fun b o e => Nat.ne_of_lt (Nat.lt_of_lt_of_le (Heap.lt_size e) I.ok.above)
  have neC : ∀ b o, X.s₀.heap.get? b = some o → b ∉ X.ex → b ∉ ch := fun b o e hx hb => by
    rcases (hch b hb).1 with z | z
    · exact hx z
    · exact absurd (Nat.lt_of_lt_of_le (Heap.lt_size e) z) (Nat.lt_irrefl _)
  have cellK : ∀ x c, X.env.cells.lookup x = some c → ∀ v, s.heap.IsCell c v → h'.IsCell c v := fun x c e v ⟨o, ho, hd⟩ => by
    have nch : c ∉ ch := fun z => (hch c z).2.2.1 x c e rfl
    by_cases hc : c ∈ X.fs
    · obtain ⟨sl, q⟩ := slot c o (I.cne x c e) hc nch ho (I.freeC x c e)
      exact ⟨_, q, hd⟩
    · exact ⟨o, keep c o (I.cne x c e) hc nch ho (I.freeC x c e), hd⟩
  refine ⟨I.ok, I.os, hg, ⟨fun b o e n hb hx => ?_, fun b o e n hb hx => ?_, fun b o e n hx => ?_, fun b o e hx => ?_, fun b xs e => tups b xs (I.base.tups b xs e), fun b o xs e => frzs b o xs (I.base.frzs b o xs e), fun b ps e => ?_⟩, ?_, fun x c e => ?_, ?_, fun x c e => ?_, fun p hp => ?_, hok, I.len, ht⟩
  · exact keep b o (neL b o e) hb (neC b o e hx) (I.base.keep b o e n hb hx) (I.base.free b o e n hx)
  · obtain ⟨sl, e1⟩ := I.base.slot b o e n hb hx
    obtain ⟨sl', e2⟩ := slot b _ (neL b o e) hb (neC b o e hx) e1 (I.base.free b o e n hx)
    exact ⟨sl', e2⟩
  · obtain ⟨o', e1⟩ := I.base.there b o e hx
    exact free b o' (neC b o e hx) e1 (I.base.free b o e n hx)
  · obtain ⟨o', e1⟩ := I.base.there b o e hx
    exact there b o' (neC b o e hx) e1
  · obtain ⟨m1, e1⟩ := I.base.tbls b ps e
    obtain ⟨m2, e2⟩ := tbls b _ e1
    exact ⟨m1 ++ m2, by rw [e2, Array.append_assoc]⟩
  · obtain ⟨m, hn, hl⟩ := I.loc
    refine ⟨m, ns m hn, fun i x v e1 e2 e3 => ?_⟩
    obtain ⟨u, r, l⟩ := hl i x v e1 e2 e3
    refine ⟨u, r, ?_⟩
    rcases l with l | ⟨k, c, e, z⟩
    · exact .inl l
    · exact .inr ⟨k, c, e, cellK x c e _ z⟩
  · obtain ⟨v, z⟩ := I.cell x c e
    exact ⟨v, cellK x c e v z⟩
  · obtain ⟨m, ⟨o, _, _, ho, _⟩, _⟩ := I.loc
    exact free _ o (fun z => (hch _ z).2.1 rfl) ho I.free
  · obtain ⟨v, o, ho, hd⟩ := I.cell x c e
    exact free c o (fun z => (hch c z).2.2.1 x c e rfl) ho (I.freeC x c e)
  · obtain ⟨e, n, ne, nf, d⟩ := I.pin p hp
    have nch : p.1 ∉ ch := fun z => (hch p.1 z).2.2.2 p hp rfl
    exact ⟨keep p.1 p.2 ne nf nch e n, free p.1 p.2 nch e n, ne, nf, d⟩
/-- .. where the frame's own object is kept too -/
theorem Inv.un {t' : Nat} (I : Inv X pins σ H s) (u : Un X.fs [] H H' s.heap h') (hok : HOk X.prog X.w H' h') (ht : 0 < t' := by ((try dsimp only); first | assumption | exact Inv.tk (by assumption) | exact Nat.succ_pos _ | exact Nat.lt_of_lt_of_le (Inv.tk (by assumption)) (by assumption) | exact Nat.add_pos_left (Inv.tk (by assumption)) _ | omega)) : Inv X pins σ H' { s with heap := h', toks := t' } := by
  obtain ⟨m, ⟨o, es, ep, ho, r⟩, _⟩ := id I.loc
  obtain ⟨sl, hL⟩ := u.any ho I.free (by simp)
  exact I.step (g' := s.gens) (d' := s.drawn) (ch := []) (fun _ z => nomatch z) (fun b o _ hb _ e n => u.keep b o e n hb (by simp)) (fun b o _ hb _ e n => u.slot b o e n hb (by simp)) (fun b o _ e n => u.free b o e n (by simp)) (fun b o _ e => u.there b o e (by simp)) u.tups u.frzs u.tbls (fun m' hm => by
    obtain ⟨o', es', ep', ho', r'⟩ := hm
    rw [ho] at ho'; cases ho'
    exact ⟨_, es', ep', hL, r'⟩) hok I.bare
/-- behind a call (or a comprehension's block): the slots of this frame may have changed too, the records at ch may have turned -/
theorem Inv.call {g' : Array GenState} {t' : Nat} {d' : Drawn} {ch : List Addr} (I : Inv X pins σ H s) (u : Un (frs X.stack) ch H H' s.heap h') (hok : HOk X.prog X.w H' h') (hg : AllBare g')
    (hch : ∀ b ∈ ch, (b ∈ X.ex ∨ X.s₀.heap.objs.size ≤ b) ∧ b ≠ X.env.locals ∧ (∀ x c, X.env.cells.lookup x = some c → c ≠ b) ∧ ∀ p ∈ X.pn ++ pins, p.1 ≠ b) (ht : 0 < t' := by ((try dsimp only); first | assumption | exact Inv.tk (by assumption) | exact Nat.succ_pos _ | exact Nat.lt_of_lt_of_le (Inv.tk (by assumption)) (by assumption) | exact Nat.add_pos_left (Inv.tk (by assumption)) _ | omega)) :
    Inv X pins σ H' { s with heap := h', gens := g', drawn := d', toks := t' } := by
  obtain ⟨m, ⟨o, es, ep, ho, r⟩, _⟩ := id I.loc
  obtain ⟨sl, hL⟩ := u.any ho I.free fun z => (hch _ z).2.1 rfl
  exact I.step (ch := ch) hch (fun b o hL hb hc e n => u.keep b o e n (fun z => (List.mem_cons.mp (I.stkSub b z)).elim hL hb) hc) (fun b o _ _ hc e n => u.any e n hc) (fun b o hc e n => u.free b o e n hc) (fun b o hc e => u.there b o e hc) u.tups u.frzs u.tbls (fun m' hm => by
    obtain ⟨o', es', ep', ho', r'⟩ := hm
    rw [ho] at ho'; cases ho'
    exact ⟨_, es', ep', hL, r'⟩) hok hg
/-- an untracked record of ours (an iterator) has turned -/
theorem Inv.turned {t' : Nat} {it : Addr} (I : Inv X pins σ H s) (k : ∀ b o, b ≠ it → s.heap.get? b = some o → h'.get? b = some o) (hn : H it = none) (hL : it ≠ X.env.locals)
    (h1 : it ∈ X.ex ∨ X.s₀.heap.objs.size ≤ it) (h2 : ∀ x c, X.env.cells.lookup x = some c → c ≠ it) (h3 : ∀ p ∈ X.pn ++ pins, p.1 ≠ it) (ht : 0 < t' := by ((try dsimp only); first | assumption | exact Inv.tk (by assumption) | exact Nat.succ_pos _ | exact Nat.lt_of_lt_of_le (Inv.tk (by assumption)) (by assumption) | exact Nat.add_pos_left (Inv.tk (by assumption)) _ | omega)) : Inv X pins σ H { s with heap := h', toks := t' } := by
  have nit : ∀ b u, H b = some u → b ≠ it := fun b u e z => by rw [z, hn] at e; cases e
  refine I.step (g' := s.gens) (d' := s.drawn) (ch := [it]) (fun b hb => ?_) (fun b o _ _ hc e _ => k b o (fun z => hc (by simp [z])) e) (fun b o _ _ hc e _ => ⟨o.slots, k b o (fun z => hc (by simp [z])) e⟩) (fun _ _ _ _ n => n)
    (fun b o hc e => ⟨o, k b o (fun z => hc (by simp [z])) e⟩) (fun _ _ e => e) (fun _ _ _ e => e) (fun b ps e => ⟨#[], by rw [e]; simp⟩) (fun m hm => ?_) (fun b u e => ?_) I.bare
  · have e : b = it := by simpa using hb
    subst e
    exact ⟨h1, hL, h2, h3⟩
  · obtain ⟨o, es, ep, ho, r⟩ := hm
    exact ⟨o, es, ep, k _ o (Ne.symm hL) ho, r⟩
  · refine (I.hok b u e).stay (fun c v hc q => k c v ?_ q) (fun _ q => q) fun _ _ q => q
    rcases hc with z | z
    · rw [z]; exact nit b u e
    · exact nit c _ z
theorem Inv.tok (I : Inv X pins σ H s) (t : Nat) (ht : 0 < t := by ((try dsimp only); first | assumption | exact Inv.tk (by assumption) | exact Nat.succ_pos _ | exact Nat.lt_of_lt_of_le (Inv.tk (by assumption)) (by assumption) | exact Nat.add_pos_left (Inv.tk (by assumption)) _ | omega)) : Inv X pins σ H { s with toks := t } := I.un (h' := s.heap) (t' := t) Un.refl I.hok
/-- all objects kept -/
theorem Inv.kept {t' : Nat} (I : Inv X pins σ H s) (k : ∀ b u, s.heap.get? b = some u → h'.get? b = some u) (ht : 0 < t' := by ((try dsimp only); first | assumption | exact Inv.tk (by assumption) | exact Nat.succ_pos _ | exact Nat.lt_of_lt_of_le (Inv.tk (by assumption)) (by assumption) | exact Nat.add_pos_left (Inv.tk (by assumption)) _ | omega)) : Inv X pins σ H { s with heap := h', toks := t' } := I.un (Un.kept k) (I.hok.kept k)
/-- a new object laid and tracked -/
theorem Inv.laid {a : Addr} {o : HO} {t' : Nat} (I : Inv X pins σ H s) (k : ∀ b u, s.heap.get? b = some u → h'.get? b = some u) (hp : s.heap.objs.size ≤ a) (new : ObjOk X.prog X.w (upd H a o) h' a o) (ht : 0 < t' := by ((try dsimp only); first | assumption | exact Inv.tk (by assumption) | exact Nat.succ_pos _ | exact Nat.lt_of_lt_of_le (Inv.tk (by assumption)) (by assumption) | exact Nat.add_pos_left (Inv.tk (by assumption)) _ | omega)) :
    Inv X pins σ (upd H a o) { s with heap := h', toks := t' } := I.un (Un.laid k hp (I.hok.fresh hp)) (I.hok.laid k hp new)
/-- an object written -/
theorem Inv.write {x e : Addr} {o : HO} {t' : Nat} (I : Inv X pins σ H s) (mu : Mut (H x)) (he : e = x ∨ H e = some (.own x)) (k : ∀ b u, b ≠ e → s.heap.get? b = some u → h'.get? b = some u) (heo : ∃ u, h'.get? e = some u)
    (new : ObjOk X.prog X.w (upd H x o) h' x o) (ht : 0 < t' := by ((try dsimp only); first | assumption | exact Inv.tk (by assumption) | exact Nat.succ_pos _ | exact Nat.lt_of_lt_of_le (Inv.tk (by assumption)) (by assumption) | exact Nat.add_pos_left (Inv.tk (by assumption)) _ | omega)) : Inv X pins σ (upd H x o) { s with heap := h', toks := t' } := I.un (Un.write mu he k heo) (I.hok.write mu he k heo new)
theorem Inv.pins_of {pins' : List (Addr × Obj)} (I : Inv X pins σ H s) (h : ∀ p ∈ pins', s.heap.get? p.1 = some p.2 ∧ H p.1 = none ∧ p.1 ≠ X.env.locals ∧ p.1 ∉ X.fs ∧ ∀ v, p.2.data ≠ .cell v) : Inv X pins' σ H s :=
  ⟨I.ok, I.os, I.bare, I.base, I.loc, I.cell, I.free, I.freeC, fun p hp => (List.mem_append.mp hp).elim (fun z => I.pin p (List.mem_append_left _ z)) (h p), I.hok, I.len, I.tk⟩

theorem nodup_ix {N : List Str} (hN : N.Nodup) {i j : Nat} {x : Str} (a : N[i]? = some x) (b : N[j]? = some x) : i = j := by
  obtain ⟨h1, e1⟩ := List.getElem?_eq_some_iff.mp a
  obtain ⟨h2, e2⟩ := List.getElem?_eq_some_iff.mp b
  exact (List.getElem_inj hN).mp (e1.trans e2.symm)

/-- a name is stored; what changed -/
theorem store_ok2 {M : Model} {A : Around} {E : Value → Shared → Prop} {i : Nat} {x : Str} {v : V} {u : Value} {Q : Unit → Shared → Prop} (I : Inv X pins σ H s) (hN : X.N.Nodup) (hi : X.N[i]? = some x) (hx : Loc X.env.scope x) (r : RelV v u)
    (h : ∀ s', Inv X pins (σ.set i (some v)) H s' → (∃ a, Heap.SameBut a s.heap s'.heap ∧ (a = X.env.locals ∨ X.env.cells.lookup x = some a)) → Q () s') (hf : X.fn x = true ∨ X.env.scope.names.lookup x = some .local := by first | exact .inl rfl | exact .inr rfl | assumption) : wpAny M A (storeName X.env x u) Q E s := by
  obtain ⟨m, hn, hl⟩ := id I.loc
  have hcls : (X.env.scope.kind == .class || (X.env.scope.kind == .module && X.env.locals != X.env.globals)) = false := by rw [I.ok.kind]; rfl
  have hiσ : i < σ.length := by rw [I.len]; exact (List.getElem?_eq_some_iff.mp hi).1
  have cne := I.cne
  have tracked : ∀ {a : Addr} {h' : Heap}, (∃ o, s.heap.get? a = some o ∧ H a = none) → Heap.SameBut a s.heap h' → HOk X.prog X.w H h' := fun {a h'} ha hs b ob e => by
    obtain ⟨_, _, hfree⟩ := ha
    refine (I.hok b ob e).stay (fun c w' hc q => (hs.2 c ?_).trans q) (fun _ q => q) fun _ _ q => q
    rintro rfl
    rcases hc with rfl | hc
    · rw [hfree] at e; cases e
    · rw [hfree] at hc; cases hc
  rcases hx with hk | hk
  · refine wpAny_storeName_local hk hn (fun h' hn' hs => ?_) hcls
    obtain ⟨oL, _, _, hoL, _⟩ := id hn
    refine h _ ⟨I.ok, I.os, I.bare, ⟨fun b o e n hb hx => ?_, fun b o e n hb hx => ?_, I.base.free, fun b o e hx => ?_, I.base.tups, I.base.frzs, I.base.tbls⟩, ⟨_, hn', fun j y v' e1 e2 e3 => ?_⟩, fun y c e => ?_, I.free, I.freeC, fun p hp => ?_, tracked ⟨oL, hoL, I.free⟩ hs, by simpa using I.len, by first | exact I.tk | exact Nat.succ_pos _⟩ ⟨_, hs, .inl rfl⟩
    · exact (hs.2 b (Nat.ne_of_lt (Nat.lt_of_lt_of_le (Heap.lt_size e) I.ok.above))).trans (I.base.keep b o e n hb hx)
    · obtain ⟨sl, e1⟩ := I.base.slot b o e n hb hx
      exact ⟨sl, (hs.2 b (Nat.ne_of_lt (Nat.lt_of_lt_of_le (Heap.lt_size e) I.ok.above))).trans e1⟩
    · obtain ⟨o', e1⟩ := I.base.there b o e hx
      exact ⟨o', (hs.2 b (Nat.ne_of_lt (Nat.lt_of_lt_of_le (Heap.lt_size e) I.ok.above))).trans e1⟩
    · by_cases hj : j = i
      · subst hj
        rw [hi] at e1; cases e1
        rw [List.getElem?_set_self hiσ] at e2
        cases e2
        exact ⟨u, r, .inl ⟨hk, by simp⟩⟩
      · rw [List.getElem?_set_ne (Ne.symm hj)] at e2
        obtain ⟨u', r', q⟩ := hl j y v' e1 e2 e3
        refine ⟨u', r', ?_⟩
        rcases q with ⟨k, e⟩ | ⟨k, c, e, z⟩
        · refine .inl ⟨k, ?_⟩
          have : y ≠ x := fun e => hj (nodup_ix hN e1 (e ▸ hi))
          simp [this, e]
        · exact .inr ⟨k, c, e, z.sameBut hs (cne y c e)⟩
    · obtain ⟨w', z⟩ := I.cell y c e
      exact ⟨w', z.sameBut hs (cne y c e)⟩
    · obtain ⟨e, n, ne, nf, d⟩ := I.pin p hp
      exact ⟨(hs.2 p.1 ne).trans e, n, ne, nf, d⟩
  · have hfn : X.fn x = true := by
      rcases hf with z | z
      · exact z
      · rw [z] at hk; cases hk
    obtain ⟨c, hc⟩ := I.ok.has x (.inl hk)
    obtain ⟨w', z⟩ := I.cell x c hc
    refine wpAny_storeName_cell I.ok.kind hk hc z (fun h' hc' hs => ?_)
    obtain ⟨oc, hoc, hocd⟩ := id z
    refine h { s with heap := h' } ⟨I.ok, I.os, I.bare, ⟨fun b o e n hb hx => ?_, fun b o e n hb hx => ?_, I.base.free, fun b o e hx => ?_, I.base.tups, I.base.frzs, I.base.tbls⟩, ⟨m, hn.sameBut hs (Ne.symm (cne x c hc)), fun j y v' e1 e2 e3 => ?_⟩, fun y c' e => ?_, I.free, I.freeC, fun p hp => ?_, tracked ⟨oc, hoc, I.freeC x c hc⟩ hs, by simpa using I.len, by first | exact I.tk | exact Nat.succ_pos _⟩ ⟨c, hs, .inr hc⟩
    · exact (hs.2 b (Nat.ne_of_lt (Nat.lt_of_lt_of_le (Heap.lt_size e) (I.ok.cab x c hfn hc)))).trans (I.base.keep b o e n hb hx)
    · obtain ⟨sl, e1⟩ := I.base.slot b o e n hb hx
      exact ⟨sl, (hs.2 b (Nat.ne_of_lt (Nat.lt_of_lt_of_le (Heap.lt_size e) (I.ok.cab x c hfn hc)))).trans e1⟩
    · obtain ⟨o', e1⟩ := I.base.there b o e hx
      exact ⟨o', (hs.2 b (Nat.ne_of_lt (Nat.lt_of_lt_of_le (Heap.lt_size e) (I.ok.cab x c hfn hc)))).trans e1⟩
    · by_cases hj : j = i
      · subst hj
        rw [hi] at e1; cases e1
        rw [List.getElem?_set_self hiσ] at e2
        cases e2
        exact ⟨u, r, .inr ⟨.inl hk, c, hc, hc'⟩⟩
      · rw [List.getElem?_set_ne (Ne.symm hj)] at e2
        obtain ⟨u', r', q⟩ := hl j y v' e1 e2 e3
        refine ⟨u', r', ?_⟩
        rcases q with q | ⟨k, c', e, z'⟩
        · exact .inl q
        · refine .inr ⟨k, c', e, z'.sameBut hs ?_⟩
          rintro rfl
          exact hj (nodup_ix hN e1 (I.ok.inj _ _ _ e hc ▸ hi))
    · by_cases hcc : c' = c
      · subst hcc; exact ⟨_, hc'⟩
      · obtain ⟨w2, z2⟩ := I.cell y c' e
        exact ⟨w2, z2.sameBut hs hcc⟩
    · obtain ⟨e, n, ne, nf, d⟩ := I.pin p hp
      refine ⟨(hs.2 p.1 ?_).trans e, n, ne, nf, d⟩
      intro q
      rw [q, hoc] at e
      have q' : oc = p.2 := Option.some.inj e
      exact d w' (by rw [← q']; exact hocd)
theorem store_ok {M : Model} {A : Around} {E : Value → Shared → Prop} {i : Nat} {x : Str} {v : V} {u : Value} {Q : Unit → Shared → Prop} (I : Inv X pins σ H s) (hN : X.N.Nodup) (hi : X.N[i]? = some x) (hx : Loc X.env.scope x) (r : RelV v u)
    (h : ∀ s', Inv X pins (σ.set i (some v)) H s' → Q () s') (hf : X.fn x = true ∨ X.env.scope.names.lookup x = some .local := by first | exact .inl rfl | exact .inr rfl | assumption) : wpAny M A (storeName X.env x u) Q E s :=
  store_ok2 I hN hi hx r (fun s' I' _ => h s' I') hf
/-- behind a call or a block, the state as it is -/
theorem Inv.call' {s' : Shared} {ch : List Addr} (I : Inv X pins σ H s) (ho : s'.os = s.os) (u : Un (frs X.stack) ch H H' s.heap s'.heap) (hok : HOk X.prog X.w H' s'.heap) (hg : AllBare s'.gens)
    (hch : ∀ b ∈ ch, (b ∈ X.ex ∨ X.s₀.heap.objs.size ≤ b) ∧ b ≠ X.env.locals ∧ (∀ x c, X.env.cells.lookup x = some c → c ≠ b) ∧ ∀ p ∈ X.pn ++ pins, p.1 ≠ b) (ht : 0 < s'.toks := by ((try dsimp only); first | assumption | exact Inv.tk (by assumption) | exact Nat.succ_pos _ | exact Nat.lt_of_lt_of_le (Inv.tk (by assumption)) (by assumption) | exact Nat.add_pos_left (Inv.tk (by assumption)) _ | omega)) : Inv X pins σ H' s' := by
  obtain ⟨h', g', d', t', o'⟩ := s'
  have e : o' = s.os := ho
  subst e
  exact I.call (g' := g') (t' := t') (d' := d') u hok hg hch
end

/-! ### the judgements -/
/-- an exception: its class, its own dict's address (where it has one), the abstract heap behind it -/
abbrev XK := Value → Option Addr → Hp → Prop
abbrev St := List (Option V)
abbrev VK := V → Hp → Prop
/-- an expression's reading; a test's; an argument list's -/
abbrev TE := St → Hp → VK → Prop
abbrev TT := St → Hp → (Bool → Hp → Prop) → Prop
abbrev TA := St → Hp → (List V → Hp → Prop) → Prop
/-- what is wanted behind a statement -/
structure Ends where
  nx : St → Hp → Prop
  rt : VK
  bk : St → Hp → Prop := fun _ _ => False
  ct : St → Hp → Prop := fun _ _ => False
abbrev TS := Ends → St → Hp → Prop

def EP (X : Cx) (pins : List (Addr × Obj)) (σ : St) (Q : VK) (u : Value) (s' : Shared) : Prop := ∃ v H', Inv X pins σ H' s' ∧ RelV v u ∧ Q v H'
def TP (X : Cx) (pins : List (Addr × Obj)) (σ : St) (Q : Bool → Hp → Prop) (b : Bool) (s' : Shared) : Prop := ∃ H', Inv X pins σ H' s' ∧ Q b H'
def AP (X : Cx) (pins : List (Addr × Obj)) (σ : St) (Q : List V → Hp → Prop) (us : List Value) (s' : Shared) : Prop := ∃ vs H', Inv X pins σ H' s' ∧ Vals vs us ∧ Q vs H'
def SP (X : Cx) (pins : List (Addr × Obj)) (D : Ends) (f : Flow) (s' : Shared) : Prop :=
  match f with
  | .next => ∃ σ' H', Inv X pins σ' H' s' ∧ D.nx σ' H'
  | .brk => ∃ σ' H', Inv X pins σ' H' s' ∧ D.bk σ' H'
  | .cont => ∃ σ' H', Inv X pins σ' H' s' ∧ D.ct σ' H'
  | .ret u => ∃ v σ' H', Inv X pins σ' H' s' ∧ RelV v u ∧ D.rt v H'

def PE (X : Cx) (e : Expr) (t : TE) : Prop :=
  ∀ (pins : List (Addr × Obj)) (s : Shared) (σ : St) (H : Hp) (Q : VK), Inv X pins σ H s → t σ H Q → wpAny (model X.prog X.w) X.A (eval e X.env) (EP X pins σ Q) X.xe s
def PT (X : Cx) (e : Expr) (t : TT) : Prop :=
  ∀ (pins : List (Addr × Obj)) (s : Shared) (σ : St) (H : Hp) (Q : Bool → Hp → Prop), Inv X pins σ H s → t σ H Q → wpAny (model X.prog X.w) X.A (isTrue e X.env (eval e X.env)) (TP X pins σ Q) X.xe s
/-- a test whatever its 'whole' is (and, or) -/
def PW (X : Cx) (e : Expr) (t : TT) : Prop :=
  ∀ (whole : Sem Value) (pins : List (Addr × Obj)) (s : Shared) (σ : St) (H : Hp) (Q : Bool → Hp → Prop), Inv X pins σ H s → t σ H Q → wpAny (model X.prog X.w) X.A (isTrue e X.env whole) (TP X pins σ Q) X.xe s
theorem PW.pt {X : Cx} {e : Expr} {t : TT} (h : PW X e t) : PT X e t := h _
/-- an argument list (no star), from the left -/
def PA (X : Cx) (es : List Expr) (t : TA) : Prop :=
  ∀ (pos : Pos) (pins : List (Addr × Obj)) (s : Shared) (σ : St) (H : Hp) (Q : List V → Hp → Prop), Inv X pins σ H s → t σ H Q → wpAny (model X.prog X.w) X.A (spliced (backTo pos (starEach es X.env))) (AP X pins σ Q) X.xe s
def PS (X : Cx) (st : Stmt) (t : TS) : Prop :=
  ∀ (pins : List (Addr × Obj)) (s : Shared) (σ : St) (H : Hp) (D : Ends), Inv X pins σ H s → t D σ H → wpAny (model X.prog X.w) X.A (exec st X.env) (SP X pins D) X.xe s
def PSs (X : Cx) (st : List Stmt) (t : TS) : Prop :=
  ∀ (pins : List (Addr × Obj)) (s : Shared) (σ : St) (H : Hp) (D : Ends), Inv X pins σ H s → t D σ H → wpAny (model X.prog X.w) X.A (execs st X.env) (SP X pins D) X.xe s
/-- weaken the end -/
theorem thn {α : Type} {t : Sem α} {Q Q' : α → Shared → Prop} {M : Model} {A : Around} {E : Value → Shared → Prop} {s : Shared} (h : wpAny M A t Q E s) (hQ : ∀ a s, Q a s → Q' a s) : wpAny M A t Q' E s := wpAny_mono h hQ fun _ _ x => x
end L2

namespace L2
open PySem PySem.Spec PyProof.Rows
section
variable {X : Cx}

/-- two expressions in a row -/
theorem bin {a b : Expr} {ta tb : TE} (ha : PE X a ta) (hb : PE X b tb) {pins : List (Addr × Obj)} {s : Shared} {σ : St} {H : Hp} {R : V → V → Hp → Prop} (I : Inv X pins σ H s) (h : ta σ H fun x H1 => tb σ H1 fun y H2 => R x y H2)
    {α : Type} {Q : α → Shared → Prop} {f : Value → Value → Sem α}
    (hf : ∀ v u s2 x y H2, Inv X pins σ H2 s2 → RelV x v → RelV y u → R x y H2 → wpAny (model X.prog X.w) X.A (f v u) Q X.xe s2) :
    wpAny (model X.prog X.w) X.A (eval a X.env) (fun v s₁ => wpAny (model X.prog X.w) X.A (eval b X.env) (fun u s₂ => wpAny (model X.prog X.w) X.A (f v u) Q X.xe s₂) X.xe s₁) X.xe s := by
  refine thn (ha pins s σ H _ I h) fun v s1 ⟨x, H1, I1, r1, q1⟩ => ?_
  refine thn (hb pins s1 σ H1 _ I1 q1) fun u s2 ⟨y, H2, I2, r2, q2⟩ => ?_
  exact hf v u s2 x y H2 I2 r1 r2 q2

/-! ### names and constants -/
def tVar (i : Nat) : TE := fun σ H Q => ∃ v, σ[i]? = some (some v) ∧ Q v H
def tC (v : V) : TE := fun _ H Q => Q v H
theorem pe_var {i : Nat} {x : Str} {pos : Pos} (hN : X.N[i]? = some x) (hv : Vis X.env.scope x) (hd : (x == ("__debug__" : Str)) = false := by decide) (hcd : (x == ("__classdict__" : Str)) = false := by decide) : PE X (.Name x pos) (tVar i) := by
  intro pins s σ H Q I h
  obtain ⟨v, e, h⟩ := h
  obtain ⟨m, hn, hl⟩ := I.loc
  obtain ⟨u, r, l⟩ := hl i x v hN e hv
  have fin : EP X pins σ Q u s := ⟨v, H, I, r, h⟩
  rcases l with ⟨hk, hm⟩ | ⟨hk, c, hc, hcell⟩
  · exact wpAny_Name (wpAny_loadName_local I.ok.kind hk hn hm fin) hd
  · rcases hk with hk | hk
    · exact wpAny_Name (wpAny_loadName_cell I.ok.kind hk hc hcell fin) hd
    · exact wpAny_Name (wpAny_loadName_free I.ok.kind hk hc hcell fin hcd) hd
theorem pe_int {i j pos} : PE X (.Constant (.int i) j pos) (tC (.int i)) := fun _ _ _ H _ I h => wpAny_Constant_int ⟨.int i, H, I.tok _, ⟨_, rfl⟩, h⟩
theorem pe_bl {b j pos} : PE X (.Constant (.bool b) j pos) (tC (.bl b)) := fun _ _ _ H _ I h => Constant_bool ⟨.bl b, H, I, rfl, h⟩
theorem pe_non {j pos} : PE X (.Constant .none j pos) (tC .non) := fun _ _ _ H _ I h => Constant_none ⟨.non, H, I, rfl, h⟩
theorem pe_str {x j pos} : PE X (.Constant (.str x) j pos) (tC (.str x)) := fun _ _ _ H _ I h => Calls.Constant_str ⟨.str x, H, I.tok _, ⟨_, rfl⟩, h⟩

/-- a global name of the def -/
def Gl (X : Cx) (x : Str) : Prop := X.env.kindOf x = some .globalImplicit
theorem ld_glob {E : Value → Shared → Prop} {pins : List (Addr × Obj)} {s : Shared} {σ : St} {H : Hp} {x : Str} {u : Value} {pos : Pos} {Q : Value → Shared → Prop} (I : Inv X pins σ H s) (hg : Gl X x) (hm : X.mg x = some u) (h : Q u s)
    (hd : (x == ("__debug__" : Str)) = false := by decide) : wpAny (model X.prog X.w) X.A (eval (.Name x pos) X.env) Q E s :=
  Calls.Name_function_global I.ok.kind hg (Calls.loadGlobal_global (by rw [I.ok.glob]; exact I.mod.glob.keeps I.bk) hm h) hd
theorem ld_blt {E : Value → Shared → Prop} {pins : List (Addr × Obj)} {s : Shared} {σ : St} {H : Hp} {x : Str} {u : Value} {pos : Pos} {Q : Value → Shared → Prop} (I : Inv X pins σ H s) (hg : Gl X x) (hm : X.mg x = none) (hv : bootBuiltins x = some u) (h : Q u s)
    (hn : x ≠ "__name__" := by decide) (hd : (x == ("__debug__" : Str)) = false := by decide) : wpAny (model X.prog X.w) X.A (eval (.Name x pos) X.env) Q E s := by
  obtain ⟨mb, h1, h2⟩ := I.mod.blt
  exact Calls.Name_function_global I.ok.kind hg (Calls.loadGlobal_builtin (by rw [I.ok.glob]; exact I.mod.glob.keeps I.bk) hm (by rw [I.ok.blt]; exact h1.keeps I.bk) ((h2 x hn).trans hv) h) hd
/-- a module's constant, a class, a function, as a value -/
theorem pe_glob {x : Str} {v : V} {u : Value} {pos : Pos} (hg : Gl X x) (hm : X.mg x = some u) (r : RelV v u) (hd : (x == ("__debug__" : Str)) = false := by decide) : PE X (.Name x pos) (tC v) :=
  fun _ _ _ H _ I h => ld_glob I hg hm ⟨v, H, I, r, h⟩ hd
theorem pe_bltn {x : Str} {v : V} {u : Value} {pos : Pos} (hg : Gl X x) (hm : X.mg x = none) (hv : bootBuiltins x = some u) (r : RelV v u) (hn : x ≠ "__name__" := by decide) (hd : (x == ("__debug__" : Str)) = false := by decide) : PE X (.Name x pos) (tC v) :=
  fun _ _ _ H _ I h => ld_blt I hg hm hv ⟨v, H, I, r, h⟩ hn hd

/-! ### arithmetic -/
variable {a b : Expr} {ta tb : TE} {pos : Pos}
/-! ### comparisons -/
def PC (X : Cx) (op : CmpOp) (a b : Expr) (t : TE) : Prop :=
  ∀ (pins : List (Addr × Obj)) (s : Shared) (σ : St) (H : Hp) (Q : VK), Inv X pins σ H s → t σ H Q →
    wpAny (model X.prog X.w) X.A (eval a X.env) (fun v s₁ => wpAny (model X.prog X.w) X.A (eval b X.env) (fun u s₂ => wpAny (model X.prog X.w) X.A (compareOp op v u) (EP X pins σ Q) X.xe s₂) X.xe s₁) X.xe s
/-- a comparison as a value, as a test -/
def tB (t : TE) : TT := fun σ H Q => t σ H fun x H1 => ∃ c, x = .bl c ∧ Q c H1
theorem pt_cmp {op : CmpOp} {t : TE} (h : PC X op a b t) (h1 : behindInMarks op b = false := by first | exact nobehind _ (by decide) (by decide) | rfl) : PT X (.Compare a [op] [b] pos) (tB t) := by
  intro pins s σ H Q I hw
  refine wpAny_isTrue_Compare1 (thn (h pins s σ H _ I hw) fun v s1 h1 => thn h1 fun u s2 h2 => thn h2 fun c s3 ⟨x, H1, I1, r1, q1⟩ => ?_) h1
  obtain ⟨d, rfl, q⟩ := q1
  cases r1
  exact wpAny_truthy_bool ⟨H1, I1, q⟩
/-- an expression whose value is a bool, as a test -/
theorem pt_val {e : Expr} {t : TE} (h : PE X e t) (he : ∀ whole, isTrue e X.env whole = (do let v ← whole; standAt e.pos; holding [v] (truthy v)) := by intro _; rfl) : PT X e (tB t) := by
  intro pins s σ H Q I hw
  refine isTrue_plain (thn (h pins s σ H _ I hw) fun v s1 ⟨x, H1, I1, r1, q1⟩ => ?_) (he _)
  obtain ⟨d, rfl, q⟩ := q1
  cases r1
  exact wpAny_truthy_bool ⟨H1, I1, q⟩

/-! ### and, or, not -/
variable {tA tB' : TT} {rest : List Expr}
def tAnd (t u : TT) : TT := fun σ H Q => t σ H fun c H1 => if c = true then u σ H1 Q else Q false H1
def tOr (t u : TT) : TT := fun σ H Q => t σ H fun c H1 => if c = true then Q true H1 else u σ H1 Q
def tNot (t : TT) : TT := fun σ H Q => t σ H fun c H1 => Q (!c) H1
theorem pw_and1 (ha : PT X a tA) : PW X (.BoolOp .And [a] pos) tA := by
  intro wh pins s σ H Q I h
  refine isTrue_and (thn (ha pins s σ H Q I h) fun c s1 e => ?_)
  cases c with
  | true => exact isTrue_and_nil e
  | false => exact e
theorem pw_or1 (ha : PT X a tA) : PW X (.BoolOp .Or [a] pos) tA := by
  intro wh pins s σ H Q I h
  refine isTrue_or (thn (ha pins s σ H Q I h) fun c s1 e => ?_)
  cases c with
  | false => exact isTrue_or_nil e
  | true => exact e
theorem pw_and (ha : PT X a tA) (hb : PW X (.BoolOp .And (b :: rest) pos) tB') : PW X (.BoolOp .And (a :: b :: rest) pos) (tAnd tA tB') := by
  intro wh pins s σ H Q I h
  refine isTrue_and (thn (ha pins s σ H _ I h) fun c s1 ⟨H1, I1, q1⟩ => ?_)
  cases c with
  | true => exact hb wh pins s1 σ H1 Q I1 q1
  | false => exact ⟨H1, I1, q1⟩
theorem pw_or (ha : PT X a tA) (hb : PW X (.BoolOp .Or (b :: rest) pos) tB') : PW X (.BoolOp .Or (a :: b :: rest) pos) (tOr tA tB') := by
  intro wh pins s σ H Q I h
  refine isTrue_or (thn (ha pins s σ H _ I h) fun c s1 ⟨H1, I1, q1⟩ => ?_)
  cases c with
  | true => exact ⟨H1, I1, q1⟩
  | false => exact hb wh pins s1 σ H1 Q I1 q1
theorem pt_not (ha : PT X a tA) : PT X (.UnaryOp .Not a pos) (tNot tA) := by
  intro pins s σ H Q I h
  exact isTrue_not (ha pins s σ H (fun c H1 => Q (!c) H1) I h)
/-- .. as values (bools) -/
def tAndV (ta tb : TE) : TE := fun σ H Q => ta σ H fun x H1 => ∃ c, x = .bl c ∧ if c = true then tb σ H1 Q else Q (.bl false) H1
def tOrV (ta tb : TE) : TE := fun σ H Q => ta σ H fun x H1 => ∃ c, x = .bl c ∧ if c = true then Q (.bl true) H1 else tb σ H1 Q
def tNotV (ta : TE) : TE := fun σ H Q => ta σ H fun x H1 => ∃ c, x = .bl c ∧ Q (.bl (!c)) H1
theorem pe_one {op} {t : TE} (h : PE X a t) : PE X (.BoolOp op [a] pos) t := fun pins s σ H Q I hw => BoolOp_one (h pins s σ H Q I hw)
theorem pe_and (ha : PE X a ta) (hb : PE X (.BoolOp .And (b :: rest) pos) tb) : PE X (.BoolOp .And (a :: b :: rest) pos) (tAndV ta tb) := by
  intro pins s σ H Q I h
  refine BoolOp_and (thn (ha pins s σ H _ I h) fun v s1 ⟨x, H1, I1, r1, q1⟩ => ?_)
  obtain ⟨c, rfl, q1⟩ := q1
  cases r1
  refine wpAny_truthy_bool ?_
  cases c with
  | true => exact hb pins s1 σ H1 Q I1 q1
  | false => exact ⟨.bl false, H1, I1, rfl, q1⟩
theorem pe_or (ha : PE X a ta) (hb : PE X (.BoolOp .Or (b :: rest) pos) tb) : PE X (.BoolOp .Or (a :: b :: rest) pos) (tOrV ta tb) := by
  intro pins s σ H Q I h
  refine BoolOp_or (thn (ha pins s σ H _ I h) fun v s1 ⟨x, H1, I1, r1, q1⟩ => ?_)
  obtain ⟨c, rfl, q1⟩ := q1
  cases r1
  refine wpAny_truthy_bool ?_
  cases c with
  | false => exact hb pins s1 σ H1 Q I1 q1
  | true => exact ⟨.bl true, H1, I1, rfl, q1⟩
theorem pe_not (ha : PE X a ta) : PE X (.UnaryOp .Not a pos) (tNotV ta) := by
  intro pins s σ H Q I h
  refine UnaryOp_ (thn (ha pins s σ H _ I h) fun v s1 ⟨x, H1, I1, r1, q1⟩ => ?_)
  obtain ⟨c, rfl, q1⟩ := q1
  cases r1
  exact not_of (wpAny_truthy_bool ⟨.bl (!c), H1, I1, rfl, q1⟩)
end
end L2

namespace L2
open PySem PySem.Spec PyProof.Rows

/-! ### a list, a tuple that is read: tracked, frozen, or an object of the module -/
def SqL (K : PySem.W.Frag) (H : Hp) (a : Addr) (xs : List V) : Prop :=
  Rd H a (.lst xs) ∨
    ∃ (o : Obj) (its : Array Value) (n : Nat), K.lookup a = some o ∧ o.cls = .type "list" ∧ o.dict = none ∧ o.data = .seq its n ∧ its.size ≤ sizeLine ∧ Vals xs its.toList
def SqT (K : PySem.W.Frag) (H : Hp) (a : Addr) (xs : List V) : Prop :=
  Rd H a (.tup xs) ∨
    ∃ (o : Obj) (its : Array Value) (n : Nat), K.lookup a = some o ∧ o.cls = .type "tuple" ∧ o.data = .seq its n ∧ its.size ≤ sizeLine ∧ Vals xs its.toList
def absV : Value → Option V
  | .none => some .non
  | .bool b => some (.bl b)
  | .int i _ => some (.int i)
  | .str x _ => some (.str x)
  | .bytes b _ => some (.byt b)
  | .float b _ => some (.flt b)
  | .ref a => some (.ref a)
  | .type n => some (.ty n)
  | _ => none
theorem RelV.abs {x : V} {u : Value} (r : RelV x u) : absV u = some x := by
  cases x with
  | non => cases r; rfl
  | bl _ => cases r; rfl
  | int _ => obtain ⟨t, rfl⟩ := r; rfl
  | str _ => obtain ⟨t, rfl⟩ := r; rfl
  | byt _ => obtain ⟨t, rfl⟩ := r; rfl
  | flt _ => obtain ⟨t, rfl⟩ := r; rfl
  | ref _ => cases r; rfl
  | ty _ => cases r; rfl
theorem RelV.inj {x y : V} {u : Value} (r : RelV x u) (q : RelV y u) : x = y := Option.some.inj (r.abs.symm.trans q.abs)
theorem Vals.inj : ∀ {xs ys : List V} {us : List Value}, Vals xs us → Vals ys us → xs = ys
  | _, _, _, .nil, .nil => rfl
  | _, _, _, .cons r t, .cons r' t' => by rw [r.inj r', Vals.inj t t']
section
variable {X : Cx} {pins : List (Addr × Obj)} {σ : St} {H : Hp} {s : Shared} {a : Addr} {xs ys : List V}
theorem SqL.of {K : PySem.W.Frag} (h : H a = some (.lst xs)) : SqL K H a xs := .inl (.inl h)
theorem SqT.of {K : PySem.W.Frag} (h : H a = some (.tup xs)) : SqT K H a xs := .inl (.inl h)
theorem Inv.list (I : Inv X pins σ H s) (h : SqL X.K H a xs) : ∃ its : List Value, Vals xs its ∧ PlainL s.heap a its.toArray ∧ xs.length ≤ sizeLine := by
  rcases h with h | ⟨o, its, n, hk, hc, hd, hs, hz, r⟩
  · obtain ⟨z, its, n, r, e⟩ := h.ok I.hok
    exact ⟨its, r, ⟨_, n, e, rfl, rfl, rfl⟩, z⟩
  · refine ⟨its.toList, r, ⟨o, n, I.kIn a o hk, hc, hd, by simpa using hs⟩, ?_⟩
    have e := r.length
    simp only [Array.length_toList] at e
    omega
theorem Inv.tuple (I : Inv X pins σ H s) (h : SqT X.K H a xs) : ∃ its : List Value, Vals xs its ∧ IsTup s.heap a its.toArray ∧ xs.length ≤ sizeLine := by
  rcases h with h | ⟨o, its, n, hk, hc, hs, hz, r⟩
  · obtain ⟨z, its, r, p⟩ := h.ok I.hok
    exact ⟨its, r, p, z⟩
  · refine ⟨its.toList, r, ⟨o, I.kIn a o hk, hc, n, by simpa using hs⟩, ?_⟩
    have e := r.length
    simp only [Array.length_toList] at e
    omega
theorem Inv.list_inj (I : Inv X pins σ H s) (h : SqL X.K H a xs) (h' : SqL X.K H a ys) : xs = ys := by
  obtain ⟨its, r, ⟨o, n, e, _, _, d⟩, _⟩ := I.list h
  obtain ⟨its', r', ⟨o', n', e', _, _, d'⟩, _⟩ := I.list h'
  rw [e] at e'; cases e'
  rw [d] at d'
  injection d' with d1 _
  have : its = its' := by simpa using congrArg Array.toList d1
  subst this
  exact r.inj r'
theorem Inv.tuple_inj (I : Inv X pins σ H s) (h : SqT X.K H a xs) (h' : SqT X.K H a ys) : xs = ys := by
  obtain ⟨its, r, ⟨o, e, _, n, d⟩, _⟩ := I.tuple h
  obtain ⟨its', r', ⟨o', e', _, n', d'⟩, _⟩ := I.tuple h'
  rw [e] at e'; cases e'
  rw [d] at d'
  injection d' with d1 _
  have : its = its' := by simpa using congrArg Array.toList d1
  subst this
  exact r.inj r'
end

/-! ### another wish about exceptions -/
abbrev Cx.wish (X : Cx) (E : Value → Shared → Prop) : Cx := { X with xe := E }
/-- no exception leaves -/
abbrev Cx.nox (X : Cx) : Cx := X.wish fun _ _ => False
theorem Cx.Ok.wish {X : Cx} (ok : X.Ok) (E : Value → Shared → Prop) : (X.wish E).Ok :=
  ⟨ok.mod, ok.kind, ok.glob, ok.blt, ok.above, ok.inj, ok.has, ok.cab, ok.hd, ok.frames, ok.stk, ok.exf, ok.bs, ok.bsz, ok.noex, ok.exfs, ok.funs, ok.frf⟩
theorem Cx.Ok.unwish {X : Cx} {E : Value → Shared → Prop} (ok : (X.wish E).Ok) : X.Ok :=
  ⟨ok.mod, ok.kind, ok.glob, ok.blt, ok.above, ok.inj, ok.has, ok.cab, ok.hd, ok.frames, ok.stk, ok.exf, ok.bs, ok.bsz, ok.noex, ok.exfs, ok.funs, ok.frf⟩
section
variable {X : Cx} {pins : List (Addr × Obj)} {σ : St} {H : Hp} {s : Shared} {E : Value → Shared → Prop}
theorem Inv.wish (I : Inv X pins σ H s) (E : Value → Shared → Prop) : Inv (X.wish E) pins σ H s := ⟨I.ok.wish E, I.os, I.bare, I.base, I.loc, I.cell, I.free, I.freeC, I.pin, I.hok, I.len, I.tk⟩
theorem Inv.unwish (I : Inv (X.wish E) pins σ H s) : Inv X pins σ H s := ⟨I.ok.unwish, I.os, I.bare, I.base, I.loc, I.cell, I.free, I.freeC, I.pin, I.hok, I.len, I.tk⟩
theorem SP.unwish {D : Ends} {f : Flow} {s' : Shared} (h : SP (X.wish E) pins D f s') : SP X pins D f s' := by
  cases f with
  | next => obtain ⟨σ', H', I, q⟩ := h; exact ⟨σ', H', I.unwish, q⟩
  | brk => obtain ⟨σ', H', I, q⟩ := h; exact ⟨σ', H', I.unwish, q⟩
  | cont => obtain ⟨σ', H', I, q⟩ := h; exact ⟨σ', H', I.unwish, q⟩
  | ret u => obtain ⟨v, σ', H', I, r, q⟩ := h; exact ⟨v, σ', H', I.unwish, r, q⟩
theorem PSs.nox {st : List Stmt} {t : TS} (h : PSs X.nox st t) : PSs X st t := fun pins s σ H D I hw =>
  wpAny_mono (h pins s σ H D (I.wish _) hw) (fun _ _ q => q.unwish) fun _ _ z => False.elim z
end

/-! ### blocks and small statements -/
section
variable {X : Cx} {st : Stmt} {rest : List Stmt} {t u : TS} {e : Expr} {te : TE} {pos : Pos}
def tNext : TS := fun D σ H => D.nx σ H
def tSeq (t u : TS) : TS := fun D σ H => t { D with nx := u D } σ H
theorem pss_nil : PSs X [] tNext := fun _ _ σ H _ I h => wpAny_execs_nil ⟨σ, H, I, h⟩
theorem pss_cons (h1 : PS X st t) (h2 : PSs X rest u) : PSs X (st :: rest) (tSeq t u) := by
  intro pins s σ H D I h
  refine wpAny_execs_cons (thn (h1 pins s σ H { D with nx := u D } I h) fun f s1 q => ?_)
  cases f with
  | next =>
    obtain ⟨σ', H', I', q⟩ := q
    exact h2 pins s1 σ' H' D I' q
  | ret v => exact q
  | brk => exact q
  | cont => exact q
theorem pss_one (h1 : PS X st t) : PSs X [st] t := by
  intro pins s σ H D I h
  refine wpAny_execs_cons (thn (h1 pins s σ H D I h) fun f s1 q => ?_)
  cases f with
  | next => exact wpAny_execs_nil q
  | ret v => exact q
  | brk => exact q
  | cont => exact q
/-- in a def's body nothing is shown -/
theorem Inv.quiet {pins : List (Addr × Obj)} {σ : St} {H : Hp} {s : Shared} (I : Inv X pins σ H s) : interactive X.env = false := by simp [interactive, I.ok.kind]
/-- an expression whose value is dropped -/
def tDrop (te : TE) : TS := fun D σ H => te σ H fun _ H1 => D.nx σ H1
theorem ps_expr (he : PE X e te) (hs : swapsWith e none pos.line X.env = pure false := by rfl) : PS X (.Expr e pos) (tDrop te) := by
  intro pins s σ H D I h
  exact wpAny_Expr_any (thn (he pins s σ H _ I h) fun v s1 ⟨x, H1, I1, r1, q1⟩ => ⟨σ, H1, I1, q1⟩) I.quiet hs
def tRet (te : TE) : TS := fun D σ H => te σ H D.rt
theorem ps_ret (he : PE X e te) : PS X (.Return (some e) pos) (tRet te) := by
  intro pins s σ H D I h
  exact wpAny_Return_some (thn (he pins s σ H _ I h) fun v s1 ⟨x, H1, I1, r1, q1⟩ => ⟨x, σ, H1, I1, r1, q1⟩)
def tIfS (c : TT) (t u : TS) : TS := fun D σ H => c σ H fun b H1 => if b = true then t D σ H1 else u D σ H1
theorem ps_if {c : Expr} {a b : List Stmt} {tc : TT} (hc : PT X c tc) (ha : PSs X a t) (hb : PSs X b u) : PS X (.If c a b pos) (tIfS tc t u) := by
  intro pins s σ H D I h
  refine wpAny_If (thn (hc pins s σ H _ I h) fun d s1 ⟨H1, I1, q1⟩ => ?_)
  cases d with
  | true => exact ha pins s1 σ H1 D I1 q1
  | false => exact hb pins s1 σ H1 D I1 q1
end

/-! ### targets -/
abbrev TG := V → St → Hp → (St → Hp → Prop) → Prop
abbrev TGs := List V → St → Hp → (St → Hp → Prop) → Prop
def PG (X : Cx) (target : Expr) (t : TG) : Prop :=
  ∀ (pins : List (Addr × Obj)) (s : Shared) (σ : St) (H : Hp) (v : V) (u : Value) (Q : St → Hp → Prop), Inv X pins σ H s → RelV v u → t v σ H Q →
    wpAny (model X.prog X.w) X.A (assign target X.env u) (fun _ s' => ∃ σ' H', Inv X pins σ' H' s' ∧ Q σ' H') X.xe s
/-- several targets, one after another -/
def PGs (X : Cx) (ts : List Expr) (t : TGs) : Prop :=
  ∀ (pins : List (Addr × Obj)) (s : Shared) (σ : St) (H : Hp) (vs : List V) (us : List Value) (Q : St → Hp → Prop), Inv X pins σ H s → Vals vs us → t vs σ H Q →
    wpAny (model X.prog X.w) X.A (assignInOrder ((assignEach ts X.env).map (·.2)) us) (fun _ s' => ∃ σ' H', Inv X pins σ' H' s' ∧ Q σ' H') X.xe s
/-- o[i] = v, by values -/
abbrev TSet := V → V → V → Hp → (Hp → Prop) → Prop
def PSet (X : Cx) (t : TSet) : Prop :=
  ∀ (pins : List (Addr × Obj)) (s : Shared) (σ : St) (H : Hp) (o i v : V) (ov iv u : Value) (Q : Hp → Prop), Inv X pins σ H s → RelV o ov → RelV i iv → RelV v u → t o i v H Q →
    wpAny (model X.prog X.w) X.A (setItem ov iv u) (fun _ s' => ∃ H', Inv X pins σ H' s' ∧ Q H') X.xe s
/-- a op= b, by values -/
abbrev TIp := V → V → Hp → VK → Prop
def PIp (X : Cx) (op : Operator) (t : TIp) : Prop :=
  ∀ (pins : List (Addr × Obj)) (s : Shared) (σ : St) (H : Hp) (x y : V) (v u : Value) (Q : VK), Inv X pins σ H s → RelV x v → RelV y u → t x y H Q →
    wpAny (model X.prog X.w) X.A (inplaceOp op v u) (EP X pins σ Q) X.xe s
section
variable {X : Cx} {pos : Pos}
def gName (i : Nat) : TG := fun v σ H Q => Q (σ.set i (some v)) H
theorem pg_name {i : Nat} {x : Str} (hN : X.N.Nodup) (hi : X.N[i]? = some x) (hx : Loc X.env.scope x) (hf : X.fn x = true ∨ X.env.scope.names.lookup x = some .local := by first | exact .inl rfl | exact .inr rfl | assumption) : PG X (.Name x pos) (gName i) := by
  intro pins s σ H v u Q I r h
  exact wpAny_assign_Name (store_ok I hN hi hx r (fun s' I' => ⟨_, H, I', h⟩) hf)
def gNil : TGs := fun vs σ H Q => vs = [] ∧ Q σ H
def gCons (t : TG) (u : TGs) : TGs := fun vs σ H Q => ∃ v r, vs = v :: r ∧ t v σ H fun σ' H' => u r σ' H' Q
theorem pgs_nil : PGs X [] gNil := by
  intro pins s σ H vs us Q I r h
  obtain ⟨e, h⟩ := h
  subst e
  cases r
  exact assignInOrder_nil ⟨σ, H, I, h⟩
theorem pgs_cons {e : Expr} {es : List Expr} {t : TG} {u : TGs} (h1 : PG X e t) (h2 : PGs X es u)
    (hs : (assignEach (e :: es) X.env).map (·.2) = assign e X.env :: (assignEach es X.env).map (·.2) := by rfl) : PGs X (e :: es) (gCons t u) := by
  intro pins s σ H vs us Q I r h
  obtain ⟨v, vr, e1, h⟩ := h
  subst e1
  cases r with
  | cons r rr =>
    rw [hs]
    refine assignInOrder_cons (thn (h1 pins s σ H _ _ _ I r h) fun _ s1 ⟨σ1, H1, I1, q1⟩ => ?_)
    exact h2 pins s1 σ1 H1 _ _ Q I1 rr q1
/-- (a, b, ..) = a tuple of that length -/
def gTup (K : PySem.W.Frag) (n : Nat) (t : TGs) : TG := fun v σ H Q => ∃ a xs, v = .ref a ∧ SqT K H a xs ∧ xs.length = n ∧ t xs σ H Q
theorem pg_tup {es : List Expr} {k : Nat} {t : TGs} {n : Nat} (hc : X.calm = true) (h : PGs X es t)
    (hn : (assignEach es X.env).length = n := by rfl) (hst : (assignEach es X.env).findIdx? (·.1) = none := by rfl) : PG X (.Tuple es k pos) (gTup X.K n t) := by
  intro pins s σ H v u Q I r hw
  obtain ⟨a, xs, e1, hq, hl, hw⟩ := hw
  subst e1
  cases r
  obtain ⟨its, rv, ht, hz⟩ := I.tuple hq
  refine assign_Tuple_tuple (I.ok.hd hc) ht (by simp [hn, ← hl, rv.length]) hst fun h' hx => ?_
  have I1 : Inv X pins σ H { s with heap := h' } := I.kept (t' := s.toks) fun b o e => hx b o (Nat.ne_of_lt (Heap.lt_size e)) e
  exact h pins _ σ H xs _ Q I1 (by simpa using rv) hw
/-- o[i] = .. -/
def gSub (to ti : TE) (t : TSet) : TG := fun v σ H Q => to σ H fun o H1 => ti σ H1 fun i H2 => t o i v H2 fun H3 => Q σ H3
theorem pg_sub {o i : Expr} {to ti : TE} {t : TSet} (ho : PE X o to) (hi : PE X i ti) (hs : PSet X t)
    (ha : ∀ v, assign (.Subscript o i pos) X.env v = (do
      let ov ← holding [v] (eval o X.env)
      let iv ← holding [v, ov] (eval i X.env)
      standAt pos
      holding [v, ov, iv] (setItem ov iv v)
      release [v, ov, iv] []) := by intro _; rfl) : PG X (.Subscript o i pos) (gSub to ti t) := by
  intro pins s σ H v u Q I r h
  rw [ha]
  refine wpAny_bind (wpAny_holding (thn (ho pins s σ H _ I h) fun ov s1 ⟨x, H1, I1, r1, q1⟩ => ?_))
  refine wpAny_bind (wpAny_holding (thn (hi pins s1 σ H1 _ I1 q1) fun iv s2 ⟨y, H2, I2, r2, q2⟩ => ?_))
  refine wpAny_bind (wpAny_standAt (wpAny_bind (wpAny_holding (thn (hs pins s2 σ H2 x y v ov iv u _ I2 r1 r2 r q2) fun _ s3 ⟨H3, I3, q3⟩ => ?_))))
  exact wpAny_release ⟨σ, H3, I3, q3⟩
/-- target = value -/
def tAsg (te : TE) (g : TG) : TS := fun D σ H => te σ H fun x H1 => g x σ H1 D.nx
theorem ps_asg {tg e : Expr} {te : TE} {g : TG} (he : PE X e te) (hg : PG X tg g) (hs : swapsWithSole [tg] e pos.line X.env = pure false := by rfl) (hw : swappedStores [tg] e X.env = pure none := by rfl)
    (h1 : (assignEach [tg] X.env).map (·.2) = [assign tg X.env] := by rfl) : PS X (.Assign [tg] e pos) (tAsg te g) := by
  intro pins s σ H D I h
  refine wpAny_Assign_stores (thn (he pins s σ H _ I h) fun v s1 ⟨x, H1, I1, r1, q1⟩ => ?_) hs hw
  rw [h1]
  exact thn (hg pins s1 σ H1 x v _ I1 r1 q1) fun _ s2 q => q
/-- name = value -/
theorem ps_set {i : Nat} {x : Str} {e : Expr} {te : TE} {pos' : Pos} (hN : X.N.Nodup) (hi : X.N[i]? = some x) (hx : Loc X.env.scope x) (he : PE X e te) (hs : swapsWith e (some (.Name x pos')) pos.line X.env = pure false := by rfl) (hf : X.fn x = true ∨ X.env.scope.names.lookup x = some .local := by first | exact .inl rfl | exact .inr rfl | assumption) :
    PS X (.Assign [.Name x pos'] e pos) (tAsg te (gName i)) := by
  intro pins s σ H D I h
  refine wpAny_Assign_Name (thn (he pins s σ H _ I h) fun v s1 ⟨y, H1, I1, r1, q1⟩ => ?_) hs
  exact store_ok I1 hN hi hx r1 (fun s2 I2 => ⟨_, H1, I2, q1⟩) hf
/-- name op= e -/
def tAug (i : Nat) (te : TE) (ti : TIp) : TS := fun D σ H => ∃ x, σ[i]? = some (some x) ∧ te σ H fun y H1 => ti x y H1 fun z H2 => D.nx (σ.set i (some z)) H2
theorem ps_aug {i : Nat} {x : Str} {e : Expr} {te : TE} {op : Operator} {ti : TIp} {pos' : Pos} (hN : X.N.Nodup) (hi : X.N[i]? = some x) (hx : Loc X.env.scope x) (he : PE X e te) (ho : PIp X op ti) (hf : X.fn x = true ∨ X.env.scope.names.lookup x = some .local := by first | exact .inl rfl | exact .inr rfl | assumption) :
    PS X (.AugAssign (.Name x pos') op e pos) (tAug i te ti) := by
  intro pins s σ H D I h
  obtain ⟨v, e1, h⟩ := h
  obtain ⟨m, hn, hl⟩ := I.loc
  have vis : Vis X.env.scope x := by rcases hx with k | k; exact .inl k; exact .inr (.inl k)
  obtain ⟨u, r, l⟩ := hl i x v hi e1 vis
  refine wpAny_AugAssign_Name ?_
  have go : wpAny (model X.prog X.w) X.A (eval e X.env) (fun w s₂ => wpAny (model X.prog X.w) X.A (inplaceOp op u w) (fun r s₃ => wpAny (model X.prog X.w) X.A (storeName X.env x r) (fun _ => SP X pins D .next) X.xe s₃) X.xe s₂) X.xe s := by
    refine thn (he pins s σ H _ I h) fun w s1 ⟨y, H1, I1, r1, q1⟩ => ?_
    refine thn (ho pins s1 σ H1 v y u w _ I1 r r1 q1) fun z s2 ⟨zv, H2, I2, r2, q2⟩ => ?_
    exact store_ok I2 hN hi hx r2 (fun s3 I3 => ⟨_, H2, I3, q2⟩) hf
  rcases l with ⟨hk, hm⟩ | ⟨hk, c, hc, hcell⟩
  · exact wpAny_loadName_local I.ok.kind hk hn hm go
  · rcases hk with hk | hk
    · exact wpAny_loadName_cell I.ok.kind hk hc hcell go
    · rcases hx with k | k
      · have : X.env.scope.names.lookup x = some .free := hk
        rw [k] at this; cases this
      · have : X.env.scope.names.lookup x = some .free := hk
        rw [k] at this; cases this
/-- ints -/
def ipI (f : Int → Int → Int) : TIp := fun x y H Q => ∃ i j, x = .int i ∧ y = .int j ∧ Q (.int (f i j)) H
theorem ip_add : PIp X .Add (ipI fun i j => i + j) := by
  intro pins s σ H x y v u Q I r1 r2 h
  obtain ⟨i, j, e1, e2, q⟩ := h
  subst e1; subst e2
  obtain ⟨t, rfl⟩ := r1
  obtain ⟨t', rfl⟩ := r2
  exact iadd_int ⟨.int _, H, I.tok _, ⟨_, rfl⟩, q⟩
end

/-! ### while -/
section
variable {X : Cx} {pos : Pos}
/-- the invariant W with its measure -/
def tWhile (c : TT) (tb : TS) : TS := fun D σ H => ∃ W : Nat → St → Hp → Prop, (∃ m, W m σ H) ∧ ∀ m σ H, W m σ H →
  c σ H fun b H1 => if b = true then ∃ N : St → Hp → Prop, (∀ σ' H', N σ' H' → ∃ m', m' < m ∧ W m' σ' H') ∧ tb { D with nx := N, ct := N, bk := D.nx } σ H1 else D.nx σ H1
theorem ps_while {c : Expr} {body : List Stmt} {tc : TT} {tb : TS} (hp : PassesOwn (model X.prog X.w) X.A X.env X.xe) (hc : PT X c tc) (hb : PSs X body tb) : PS X (.While c body [] pos) (tWhile tc tb) := by
  intro pins s σ H D I h
  obtain ⟨W, ⟨m0, w0⟩, turn⟩ := h
  refine wpAny_While (codeAny_whileLoop (fun n s' => ∃ σ' H', Inv X pins σ' H' s' ∧ W n σ' H') ?_ m0 ⟨σ, H, I, w0⟩)
  rintro n s1 ⟨σ1, H1, I1, w1⟩
  refine wpAny_passesOwn hp (thn (hc pins s1 σ1 H1 _ I1 (turn n σ1 H1 w1)) fun b s2 ⟨H2, I2, q2⟩ => ?_)
  cases b with
  | true =>
    obtain ⟨N, hN, q2⟩ := q2
    rw [if_pos rfl]
    refine wpAny_passesOwn hp (thn (hb pins s2 σ1 H2 _ I2 q2) fun f s3 q3 => ?_)
    cases f with
    | next =>
      obtain ⟨σ3, H3, I3, n3⟩ := q3
      obtain ⟨m', hm, w3⟩ := hN σ3 H3 n3
      exact ⟨m', hm, σ3, H3, I3, w3⟩
    | cont =>
      obtain ⟨σ3, H3, I3, n3⟩ := q3
      obtain ⟨m', hm, w3⟩ := hN σ3 H3 n3
      exact ⟨m', hm, σ3, H3, I3, w3⟩
    | brk => exact q3
    | ret v => exact q3
  | false =>
    rw [if_neg Bool.false_ne_true]
    exact wpAny_execs_nil ⟨σ1, H2, I2, q2⟩
end

/-! ### what a loop or a comprehension walks -/
/-- at turn i: it yields x (the heap may grow), or it stops -/
structure It where
  go : Nat → Hp → Prop
  yld : Nat → Hp → V → Hp → Prop
  stop : Nat → Hp → Prop
/-- the iterator's own objects may turn: they are not the frame's, not pinned, younger than the entry (or a comprehension's own) -/
def FpOk (X : Cx) (pins : List (Addr × Obj)) (H : Hp) (b : Addr) : Prop :=
  H b = none ∧ b ≠ X.env.locals ∧ b ∉ X.fs ∧ (b ∈ X.ex ∨ X.s₀.heap.objs.size ≤ b) ∧ (∀ x c, X.env.cells.lookup x = some c → c ≠ b) ∧ ∀ p ∈ X.pn ++ pins, p.1 ≠ b
theorem Inv.fpOk {X : Cx} {pins : List (Addr × Obj)} {σ : St} {H H' : Hp} {s : Shared} {b : Addr} (I : Inv X pins σ H s) (hb : s.heap.objs.size ≤ b) (hn : H' b = none) : FpOk X pins H' b := by
  refine ⟨hn, Nat.ne_of_gt (Nat.lt_of_lt_of_le I.lt hb), I.nofs hb, .inr (Nat.le_trans I.sz hb), fun x c e z => ?_, fun p hp z => ?_⟩
  · obtain ⟨v, q⟩ := I.cell x c e
    exact absurd (Nat.lt_of_lt_of_le q.lt (by rw [z]; exact hb)) (Nat.lt_irrefl _)
  · exact absurd (Nat.lt_of_lt_of_le (Heap.lt_size (I.pin p hp).1) (by rw [z]; exact hb)) (Nat.lt_irrefl _)
structure Turn (P : Program) (w : World) (K : PySem.W.Frag) (tg : Expr) (J : It) (fp : List Addr) (it : Addr) (tn : Nat → Heap → Prop) : Prop where
  mem : it ∈ fp
  obj : ∀ i h, tn i h → ∀ b ∈ fp, ∃ o, h.get? b = some o ∧ ∀ v, o.data ≠ .cell v
  keep : ∀ i h h', tn i h → (∀ b ∈ fp, ∀ o, h.get? b = some o → h'.get? b = some o) → tn i h'
  item : ∀ (X : Cx), X.prog = P → X.w = w → X.K = K → X.calm = true → ∀ (i : Nat) (pins : List (Addr × Obj)) (s : Shared) (σ : St) (H : Hp) (E : Value → Shared → Prop), Inv X pins σ H s → (∀ b ∈ fp, FpOk X pins H b) → tn i s.heap → J.go i H →
    wpAny (model P w) X.A (pyNext (.ref it)) (fun r s1 => ∃ u, r = some u ∧
      wpAny (model P w) X.A (letOwnedTupleGo tg (.ref it) u) (fun _ s2 => ∃ x H', Inv X pins σ H' s2 ∧ RelV x u ∧ J.yld i H x H' ∧ tn (i + 1) s2.heap ∧ ∀ b ∈ fp, H' b = none) E s1) E s
  done : ∀ (X : Cx), X.prog = P → X.w = w → X.K = K → X.calm = true → ∀ (i : Nat) (pins : List (Addr × Obj)) (s : Shared) (σ : St) (H : Hp) (E : Value → Shared → Prop), Inv X pins σ H s → (∀ b ∈ fp, FpOk X pins H b) → tn i s.heap → J.stop i H →
    wpAny (model P w) X.A (pyNext (.ref it)) (fun r s1 => r = none ∧ Inv X pins σ H s1) E s
  self : ∀ (A : Around) (i : Nat) (s : Shared) (Q : Value → Shared → Prop) (E : Value → Shared → Prop), tn i s.heap → Q (.ref it) s → wpAny (model P w) A (pyIter (.ref it)) Q E s
abbrev TI := St → Hp → (It → Hp → Prop) → Prop
/-- an iterator has come -/
def PIE (X : Cx) (pins : List (Addr × Obj)) (σ : St) (tg : Expr) (R : It → Hp → Prop) (itv : Value) (s2 : Shared) : Prop :=
  ∃ (it : Addr) (fp : List Addr) (tn : Nat → Heap → Prop) (J : It) (H' : Hp), itv = .ref it ∧ Inv X pins σ H' s2 ∧ Turn X.prog X.w X.K tg J fp it tn ∧ tn 0 s2.heap ∧ (∀ b ∈ fp, FpOk X pins H' b) ∧ R J H'
def PI (X : Cx) (tg iter : Expr) (wi : TI) : Prop :=
  ∀ (pins : List (Addr × Obj)) (s : Shared) (σ : St) (H : Hp) (R : It → Hp → Prop), Inv X pins σ H s → wi σ H R →
    wpAny (model X.prog X.w) X.A (eval iter X.env) (fun v s1 => wpAny (model X.prog X.w) X.A (pyIter v) (PIE X pins σ tg R) X.xe s1) X.xe s

/-- the step ahead of the store is nothing for an iterator that keeps no tuple -/
theorem go_of {M : Model} {A : Around} {E : Value → Shared → Prop} {s : Shared} {tg : Expr} {it : Addr} {u : Value} {o : Obj} {n : String} {vs : Array Value} {Q : Unit → Shared → Prop} (ho : s.heap.get? it = some o) (hc : o.cls = .type n) (hd : o.data = .fields vs)
    (hn : ["enumerate", "zip", "dict_itemiterator", "dict_reverseitemiterator", "odict_iterator", "itertools.zip_longest", "itertools.pairwise"].contains n = false) (hQ : Q () s) : wpAny M A (letOwnedTupleGo tg (.ref it) u) Q E s := by
  unfold letOwnedTupleGo
  cases tg <;> first
    | exact wpAny_pure hQ
    | (cases u <;> first
        | exact wpAny_pure hQ
        | (refine wpAny_bind (wpAny_load ho ?_)
           rw [hc, hd]
           show wpAny M A (if (["enumerate", "zip", "dict_itemiterator", "dict_reverseitemiterator", "odict_iterator", "itertools.zip_longest", "itertools.pairwise"].contains n && vs[0]? == some (rawInt _)) = true then _ else _) Q E s
           rw [if_neg (by intro h; rw [hn, Bool.false_and] at h; cases h)]
           exact wpAny_pure hQ))

/-- the list at a, as it stands at each turn (a loop may append to it) -/
def Itl (K : PySem.W.Frag) (a : Addr) : It :=
  ⟨fun i H => ∃ xs x, SqL K H a xs ∧ xs[i]? = some x, fun i H x H' => H' = H ∧ ∀ xs, SqL K H a xs → xs[i]? = some x, fun i H => ∃ xs, SqL K H a xs ∧ xs.length ≤ i⟩
def Itt (K : PySem.W.Frag) (a : Addr) : It :=
  ⟨fun i H => ∃ xs x, SqT K H a xs ∧ xs[i]? = some x, fun i H x H' => H' = H ∧ ∀ xs, SqT K H a xs → xs[i]? = some x, fun i H => ∃ xs, SqT K H a xs ∧ xs.length ≤ i⟩
/-- lo, lo + 1, .. (n of them) -/
def Itr (lo : Int) (n : Nat) : It := ⟨fun i _ => i < n, fun i H x H' => H' = H ∧ x = .int (lo + i), fun i _ => n ≤ i⟩
theorem turn_list {P : Program} {w : World} {K : PySem.W.Frag} {tg : Expr} (a it : Addr) : Turn P w K tg (Itl K a) [it] it (fun i h => h.IsListIter it a i) where
  mem := by simp
  obj := fun i h st b hb => by
    have e : b = it := by simpa using hb
    subst e
    obtain ⟨o, e, c, d⟩ := st
    exact ⟨o, e, fun v z => by rw [d] at z; cases z⟩
  keep := fun i h h' st k => st.at fun o e => k it (by simp) o e
  item := by
    intro X hP hw hK hc i pins s σ H E I hf st hg
    subst hP hw hK
    obtain ⟨xs, x, hq, hx⟩ := hg
    obtain ⟨its, rv, p, hz⟩ := I.list hq
    obtain ⟨u, hu, ru⟩ := rv.get hx
    obtain ⟨f0, f1, f2, f3, f4, f5⟩ := hf it (by simp)
    refine wpAny_pyNext_list_item st p.isList (x := u) (by simpa using hu) fun h' st' sb => ?_
    have I1 : Inv X pins σ H { s with heap := h' } := I.turned (t' := s.toks) (fun b o hb e => (sb.2 b hb).trans e) f0 f1 f3 f4 f5
    obtain ⟨o, e, c, d⟩ := id st'
    exact ⟨u, rfl, go_of (s := { s with heap := h' }) e c d (by decide) ⟨x, H, I1, ru, ⟨rfl, fun ys hy => by rw [I.list_inj hy hq]; exact hx⟩, st', fun b hb => (hf b hb).1⟩⟩
  done := by
    intro X hP hw hK hc i pins s σ H E I hf st hg
    subst hP hw hK
    obtain ⟨xs, hq, hx⟩ := hg
    obtain ⟨its, rv, p, hz⟩ := I.list hq
    obtain ⟨f0, f1, f2, f3, f4, f5⟩ := hf it (by simp)
    have hl := rv.length
    exact wpAny_pyNext_list_end (I.ok.hd hc) st p.isList (by simp; omega) fun h' eb => ⟨rfl, I.turned (t' := s.toks) (fun b o hb e => eb b o hb e) f0 f1 f3 f4 f5⟩
  self := fun _ _ _ _ _ st h => wpAny_pyIter_listiter st h
theorem turn_tuple {P : Program} {w : World} {K : PySem.W.Frag} {tg : Expr} (a it : Addr) : Turn P w K tg (Itt K a) [it] it (fun i h => h.IsTupleIter it a i) where
  mem := by simp
  obj := fun i h st b hb => by
    have e : b = it := by simpa using hb
    subst e
    obtain ⟨o, e, c, d⟩ := st
    exact ⟨o, e, fun v z => by rw [d] at z; cases z⟩
  keep := fun i h h' st k => st.at fun o e => k it (by simp) o e
  item := by
    intro X hP hw hK hc i pins s σ H E I hf st hg
    subst hP hw hK
    obtain ⟨xs, x, hq, hx⟩ := hg
    obtain ⟨its, rv, p, hz⟩ := I.tuple hq
    obtain ⟨u, hu, ru⟩ := rv.get hx
    obtain ⟨f0, f1, f2, f3, f4, f5⟩ := hf it (by simp)
    refine wpAny_pyNext_tuple_item st (show s.heap.IsTuple a its.toArray from p) (x := u) (by simpa using hu) fun h' st' sb => ?_
    have I1 : Inv X pins σ H { s with heap := h' } := I.turned (t' := s.toks) (fun b o hb e => (sb.2 b hb).trans e) f0 f1 f3 f4 f5
    obtain ⟨o, e, c, d⟩ := id st'
    exact ⟨u, rfl, go_of (s := { s with heap := h' }) e c d (by decide) ⟨x, H, I1, ru, ⟨rfl, fun ys hy => by rw [I.tuple_inj hy hq]; exact hx⟩, st', fun b hb => (hf b hb).1⟩⟩
  done := by
    intro X hP hw hK hc i pins s σ H E I hf st hg
    subst hP hw hK
    obtain ⟨xs, hq, hx⟩ := hg
    obtain ⟨its, rv, p, hz⟩ := I.tuple hq
    obtain ⟨f0, f1, f2, f3, f4, f5⟩ := hf it (by simp)
    have hl := rv.length
    exact wpAny_pyNext_tuple_end (I.ok.hd hc) st (show s.heap.IsTuple a its.toArray from p) (by simp; omega) fun h' eb => ⟨rfl, I.turned (t' := s.toks) (fun b o hb e => eb b o hb e) f0 f1 f3 f4 f5⟩
  self := fun _ _ _ _ _ st h => wpAny_pyIter_tupleiter st h
theorem turn_range {P : Program} {w : World} {K : PySem.W.Frag} {tg : Expr} (it : Addr) (lo : Int) (n : Nat) : Turn P w K tg (Itr lo n) [it] it (fun i h => IsRangeIter h it (lo + (i : Nat) * 1) ((n : Int) - (i : Nat)) 1) where
  mem := by simp
  obj := fun i h st b hb => by
    have e : b = it := by simpa using hb
    subst e
    exact ⟨_, st, fun v z => by
      have z' : Data.fields _ = Data.cell v := z
      cases z'⟩
  keep := fun i h h' st k => k it (by simp) _ st
  item := by
    intro X hP hw hK hc i pins s σ H E I hf st hg
    subst hP hw hK
    obtain ⟨f0, f1, f2, f3, f4, f5⟩ := hf it (by simp)
    have W := Walks.range (prog := X.prog) (w := X.w) (I.ok.hd hc) it lo 1 n
    refine wpAny_with_toks (n := 1) I.tk (W.item i s _ _ hg st fun v h' tk hv st' kk => ?_)
    intro htk
    obtain ⟨t, rfl⟩ := hv
    have I1 : Inv X pins σ H { s with heap := h', toks := tk } := I.turned (fun b o hb e => kk b o (by simpa using hb) e) f0 f1 f3 f4 f5
    refine ⟨_, rfl, go_of (s := { s with heap := h', toks := tk }) (n := "range_iterator") st' rfl rfl (by decide) ⟨.int (lo + i), H, I1, ⟨t, ?_⟩, ⟨rfl, rfl⟩, st', fun b hb => (hf b hb).1⟩⟩
    rw [Int.mul_one]
  done := by
    intro X hP hw hK hc i pins s σ H E I hf st hg
    subst hP hw hK
    obtain ⟨f0, f1, f2, f3, f4, f5⟩ := hf it (by simp)
    exact wpAny_pyNext_range_end (I.ok.hd hc) st (by have : n ≤ i := hg; omega) fun h' eb => ⟨rfl, I.turned (t' := s.toks) (fun b o hb e => eb b o hb e) f0 f1 f3 f4 f5⟩
  self := fun _ _ _ _ _ st h => wpAny_pyIter_rangeiter st h
end L2

namespace L2
open PySem PySem.Spec PyProof.Rows
section
variable {X : Cx} {tg : Expr}
def iList (K : PySem.W.Frag) (tl : TE) : TI := fun σ H R => tl σ H fun x H1 => ∃ a, x = .ref a ∧ (∃ xs, SqL K H1 a xs) ∧ R (Itl K a) H1
theorem pi_list {l : Expr} {tl : TE} (hl : PE X l tl) : PI X tg l (iList X.K tl) := by
  intro pins s σ H R I h
  refine thn (hl pins s σ H _ I h) fun v s1 ⟨x, H1, I1, r1, q1⟩ => ?_
  obtain ⟨a, e, ⟨xs, hq⟩, q⟩ := q1
  subst e
  cases r1
  obtain ⟨its, rv, p, hz⟩ := I1.list hq
  refine wpAny_pyIter_list p.isList ?_
  refine ⟨s1.heap.objs.size, [s1.heap.objs.size], _, _, H1, rfl, I1.kept (t' := s1.toks) fun b o e => Heap.get?_push_of_some _ e, turn_list a _, ⟨_, Heap.get?_push_size _ rfl, rfl, rfl⟩, fun b hb => ?_, q⟩
  have e : b = s1.heap.objs.size := by simpa using hb
  subst e
  exact I1.fpOk (Nat.le_refl _) (I1.hok.fresh (Nat.le_refl _))
/-- a range object just made, walked -/
theorem range_it {pins : List (Addr × Obj)} {σ : St} {H : Hp} {s : Shared} {R : It → Hp → Prop} {E : Value → Shared → Prop} {lo hi : Int} {t u v : Tok} {tk : Nat} (I : Inv X pins σ H s) (h1 : -(2 ^ 62) ≤ lo) (h2 : lo < 2 ^ 62) (h3 : -(2 ^ 62) ≤ hi) (h4 : hi < 2 ^ 62)
    (q : R (Itr lo (hi - lo).toNat) H) (htk : 0 < tk := by ((try dsimp only); first | assumption | exact Inv.tk (by assumption) | exact Nat.succ_pos _ | exact Nat.lt_of_lt_of_le (Inv.tk (by assumption)) (by assumption) | exact Nat.add_pos_left (Inv.tk (by assumption)) _ | omega)) : wpAny (model X.prog X.w) X.A (pyIter (.ref s.heap.objs.size)) (PIE X pins σ tg R) E { s with heap := s.heap.push { cls := .type "range", data := .fields #[.int lo t, .int hi u, .int 1 v] }, toks := tk } := by
  refine wpAny_pyIter_range (IsRange.new ..) (small_one h1 h2 h3 h4) ?_
  have I1 : Inv X pins σ H { s with heap := s.heap.push { cls := .type "range", data := .fields #[.int lo t, .int hi u, .int 1 v] }, toks := tk } := I.kept fun b o e => Heap.get?_push_of_some _ e
  refine ⟨(s.heap.push { cls := .type "range", data := .fields #[.int lo t, .int hi u, .int 1 v] }).objs.size, [(s.heap.push { cls := .type "range", data := .fields #[.int lo t, .int hi u, .int 1 v] }).objs.size], _, _, H, rfl,
    I1.kept (t' := tk) fun b o e => Heap.get?_push_of_some _ e, turn_range _ lo (hi - lo).toNat, ?_, fun b hb => ?_, q⟩
  · have e1 : lo + ((0 : Nat) : Int) * 1 = lo := by simp
    have e2 : (((hi - lo).toNat : Nat) : Int) - ((0 : Nat) : Int) = Builtin.Range.rangeSize lo hi 1 := by rw [rangeSize_one]; split <;> omega
    show IsRangeIter _ _ (lo + ((0 : Nat) : Int) * 1) ((((hi - lo).toNat : Nat) : Int) - ((0 : Nat) : Int)) 1
    rw [e1, e2]
    exact Heap.get?_push_size _ rfl
  · have e : b = (s.heap.push { cls := .type "range", data := .fields #[.int lo t, .int hi u, .int 1 v] }).objs.size := by simpa using hb
    subst e
    exact I1.fpOk (Nat.le_refl _) (I1.hok.fresh (Nat.le_refl _))
def iRng1 (ta : TA) : TI := fun σ H R => ta σ H fun vs H1 => ∃ j : Int, vs = [.int j] ∧ -(2 ^ 62) ≤ j ∧ j < 2 ^ 62 ∧ R (Itr 0 j.toNat) H1
theorem pi_range1 {a : Expr} {ta : TA} {p pos : Pos} (hg : Gl X "range") (hm : X.mg "range" = none) (ha : PA X [a] ta) (hs : starEach [a] X.env = [(false, eval a X.env)] := by rfl) : PI X tg (.Call (.Name "range" p) [a] [] pos) (iRng1 ta) := by
  intro pins s σ H R I h
  refine Call_ (ld_blt I hg hm boot_range (PyProof.Rows.callWith_type1 (thn (ha pos pins s σ H _ I h) fun us s1 ⟨vs, H1, I1, r1, q1⟩ => ?_) hs rfl))
  obtain ⟨j, e, q1, q2, q⟩ := q1
  subst e
  cases r1 with
  | cons r rr =>
    cases rr
    obtain ⟨t, rfl⟩ := r
    exact call_range_1 (range_it I1 (by omega) (by omega) q1 q2 (by simpa using q))
/-! ### for -/
/-- W: the invariant by the turn and a measure; N: what the body is to reach -/
def tFor (wi : TI) (g : TG) (tb : TS) : TS := fun D σ H => wi σ H fun J H1 => ∃ W : Nat → Nat → St → Hp → Prop, (∃ m, W 0 m σ H1) ∧ ∀ i m σ H, W i m σ H →
  (J.stop i H ∧ D.nx σ H) ∨ (J.go i H ∧ ∃ N : St → Hp → Prop, (∀ σ' H', N σ' H' → ∃ m', m' < m ∧ W (i + 1) m' σ' H') ∧ ∀ x H', J.yld i H x H' → g x σ H' fun σ2 H2 => tb { D with nx := N, ct := N, bk := D.nx } σ2 H2)
/-- the records at fp as they stand -/
def pinsAt (fp : List Addr) (h : Heap) : List (Addr × Obj) := fp.filterMap fun b => (h.get? b).map fun o => (b, o)
theorem mem_pinsAt {fp : List Addr} {h : Heap} {b : Addr} {o : Obj} (hb : b ∈ fp) (e : h.get? b = some o) : (b, o) ∈ pinsAt fp h := List.mem_filterMap.mpr ⟨b, hb, by rw [e]; rfl⟩
theorem of_pinsAt {fp : List Addr} {h : Heap} {p : Addr × Obj} (hp : p ∈ pinsAt fp h) : p.1 ∈ fp ∧ h.get? p.1 = some p.2 := by
  obtain ⟨b, hb, e⟩ := List.mem_filterMap.mp hp
  cases q : h.get? b with
  | none => rw [q] at e; cases e
  | some o =>
    rw [q] at e
    have e' : (b, o) = p := Option.some.inj e
    subst e'
    exact ⟨hb, q⟩
theorem Inv.pinned {pins : List (Addr × Obj)} {σ : St} {H : Hp} {s : Shared} {fp : List Addr} (I : Inv X pins σ H s) (hf : ∀ b ∈ fp, FpOk X pins H b) (ho : ∀ b ∈ fp, ∃ o, s.heap.get? b = some o ∧ ∀ v, o.data ≠ .cell v) : Inv X (pins ++ pinsAt fp s.heap) σ H s :=
  I.pins_of fun p hp => (List.mem_append.mp hp).elim (fun z => I.pin p (List.mem_append_right _ z)) fun z => by
    obtain ⟨hb, e⟩ := of_pinsAt z
    obtain ⟨f0, f1, f2, _⟩ := hf p.1 hb
    obtain ⟨o, e', d⟩ := ho p.1 hb
    rw [e] at e'; cases e'
    exact ⟨e, f0, f1, f2, d⟩
theorem Inv.unpinned {pins pl : List (Addr × Obj)} {σ : St} {H : Hp} {s : Shared} (I : Inv X (pins ++ pl) σ H s) : Inv X pins σ H s := I.pins_of fun p hp => I.pin p (List.mem_append_right _ (List.mem_append_left _ hp))
theorem ps_for {iter : Expr} {body : List Stmt} {wi : TI} {g : TG} {tb : TS} {pos : Pos} (hp : PassesOwn (model X.prog X.w) X.A X.env X.xe) (hc : X.calm = true) (hi : PI X tg iter wi) (hg : PG X tg g) (hb : PSs X body tb)
    (hs : ∀ x, foldedSetIterable iter X.env x = pure x := by intro _; rfl) : PS X (.For tg iter body [] pos) (tFor wi g tb) := by
  intro pins s σ H D I h
  refine wpAny_For (thn (hi pins s σ H _ I h) fun v s1 h1 => thn h1 fun itv s2 h2 => ?_) hs
  obtain ⟨it, fp, tn, J, H2, e, I2, T, st2, f2, W, ⟨m0, w0⟩, turn⟩ := h2
  subst e
  -- what stays true of the iterator's objects through the loop
  have stat : ∀ {H' : Hp}, (∀ b ∈ fp, H' b = none) → ∀ b ∈ fp, FpOk X pins H' b := fun hn b hb => ⟨hn b hb, (f2 b hb).2⟩
  refine codeAny_forLoop_any (fun n s' => ∃ i σ' H', Inv X pins σ' H' s' ∧ tn i s'.heap ∧ (∀ b ∈ fp, H' b = none) ∧ W i n σ' H') ?_ m0 ⟨0, σ, H2, I2, st2, fun b hb => (f2 b hb).1, w0⟩
  rintro n s3 ⟨i, σ3, H3, I3, st3, fr3, w3⟩
  rcases turn i n σ3 H3 w3 with ⟨stop, qn⟩ | ⟨go, N, hN, step⟩
  · refine wpAny_passesOwn hp (thn (T.done X rfl rfl rfl hc i pins s3 σ3 H3 X.xe I3 (stat fr3) st3 stop) fun r s4 ⟨hr, I4⟩ => ?_)
    subst hr
    exact wpAny_execs_nil ⟨σ3, H3, I4, qn⟩
  · refine wpAny_passesOwn hp (thn (T.item X rfl rfl rfl hc i pins s3 σ3 H3 X.xe I3 (stat fr3) st3 go) fun r s4 ⟨u, hr, h4⟩ => ?_)
    subst hr
    refine wpAny_passesOwn hp (thn h4 fun _ s5 ⟨x, H5, I5, r5, y5, st5, fr5⟩ => ?_)
    have I5' := I5.pinned (stat fr5) (T.obj _ _ st5)
    refine wpAny_passesOwn hp (thn (hg _ s5 σ3 H5 x u _ I5' r5 (step x H5 y5)) fun _ s6 ⟨σ6, H6, I6, q6⟩ => ?_)
    refine wpAny_passesOwn hp (thn (hb _ s6 σ6 H6 _ I6 q6) fun f s7 q7 => ?_)
    have again : ∀ {σ7 : St} {H7 : Hp}, Inv X (pins ++ pinsAt fp s5.heap) σ7 H7 s7 → N σ7 H7 → ∃ m, m < n ∧ ∃ i σ' H', Inv X pins σ' H' s7 ∧ tn i s7.heap ∧ (∀ b ∈ fp, H' b = none) ∧ W i m σ' H' := fun {σ7 H7} I7 n7 => by
      obtain ⟨m', hm, w7⟩ := hN σ7 H7 n7
      refine ⟨m', hm, i + 1, σ7, H7, I7.unpinned, T.keep _ _ _ st5 fun b hb o e => (I7.pin (b, o) (List.mem_append_right _ (List.mem_append_right _ (mem_pinsAt hb e)))).1, fun b hb => ?_, w7⟩
      obtain ⟨o, e, d⟩ := T.obj _ _ st5 b hb
      exact (I7.pin (b, o) (List.mem_append_right _ (List.mem_append_right _ (mem_pinsAt hb e)))).2.1
    cases f with
    | next => obtain ⟨σ7, H7, I7, n7⟩ := q7; exact again I7 n7
    | cont => obtain ⟨σ7, H7, I7, n7⟩ := q7; exact again I7 n7
    | brk => obtain ⟨σ7, H7, I7, q7⟩ := q7; exact ⟨σ7, H7, I7.unpinned, q7⟩
    | ret v => obtain ⟨x7, σ7, H7, I7, r7, q7⟩ := q7; exact ⟨x7, σ7, H7, I7.unpinned, r7, q7⟩
end

/-! ### the forms one uses -/
/-- over a list that the body leaves as it is -/
theorem for_list {K : PySem.W.Frag} {a : Addr} {xs : List V} {g : TG} {tb : TS} {D : Ends} {σ : St} {H : Hp} (Pv : Nat → St → Hp → Prop) (h0 : Pv 0 σ H) (hl : ∀ i σ H, i ≤ xs.length → Pv i σ H → SqL K H a xs)
    (hs : ∀ i x σ H, xs[i]? = some x → Pv i σ H → g x σ H fun σ2 H2 => tb { D with nx := Pv (i + 1), ct := Pv (i + 1), bk := D.nx } σ2 H2) (hd : ∀ σ H, Pv xs.length σ H → D.nx σ H) :
    ∃ W : Nat → Nat → St → Hp → Prop, (∃ m, W 0 m σ H) ∧ ∀ i m σ H, W i m σ H →
      ((Itl K a).stop i H ∧ D.nx σ H) ∨ ((Itl K a).go i H ∧ ∃ N : St → Hp → Prop, (∀ σ' H', N σ' H' → ∃ m', m' < m ∧ W (i + 1) m' σ' H') ∧ ∀ x H', (Itl K a).yld i H x H' → g x σ H' fun σ2 H2 => tb { D with nx := N, ct := N, bk := D.nx } σ2 H2) := by
  refine ⟨fun i m σ H => m = xs.length - i ∧ i ≤ xs.length ∧ Pv i σ H, ⟨xs.length, by simp, Nat.zero_le _, h0⟩, ?_⟩
  rintro i m σ H ⟨rfl, hi, p⟩
  have q := hl i σ H hi p
  by_cases hlt : i < xs.length
  · refine .inr ⟨⟨xs, xs[i], q, by simp [hlt]⟩, Pv (i + 1), fun σ' H' p' => ⟨xs.length - (i + 1), by omega, rfl, hlt, p'⟩, fun x H' y => ?_⟩
    obtain ⟨e, y⟩ := y
    subst e
    exact hs i x σ _ (y xs q) p
  · have e : i = xs.length := by omega
    subst e
    exact .inl ⟨⟨xs, q, Nat.le_refl _⟩, hd σ H p⟩
theorem for_range {lo : Int} {n : Nat} {g : TG} {tb : TS} {D : Ends} {σ : St} {H : Hp} (Pv : Nat → St → Hp → Prop) (h0 : Pv 0 σ H)
    (hs : ∀ i σ H, i < n → Pv i σ H → g (.int (lo + i)) σ H fun σ2 H2 => tb { D with nx := Pv (i + 1), ct := Pv (i + 1), bk := D.nx } σ2 H2) (hd : ∀ σ H, Pv n σ H → D.nx σ H) :
    ∃ W : Nat → Nat → St → Hp → Prop, (∃ m, W 0 m σ H) ∧ ∀ i m σ H, W i m σ H →
      ((Itr lo n).stop i H ∧ D.nx σ H) ∨ ((Itr lo n).go i H ∧ ∃ N : St → Hp → Prop, (∀ σ' H', N σ' H' → ∃ m', m' < m ∧ W (i + 1) m' σ' H') ∧ ∀ x H', (Itr lo n).yld i H x H' → g x σ H' fun σ2 H2 => tb { D with nx := N, ct := N, bk := D.nx } σ2 H2) := by
  refine ⟨fun i m σ H => m = n - i ∧ i ≤ n ∧ Pv i σ H, ⟨n, by simp, Nat.zero_le _, h0⟩, ?_⟩
  rintro i m σ H ⟨rfl, hi, p⟩
  by_cases hlt : i < n
  · refine .inr ⟨hlt, Pv (i + 1), fun σ' H' p' => ⟨n - (i + 1), by omega, rfl, hlt, p'⟩, fun x H' y => ?_⟩
    obtain ⟨e, y⟩ := y
    subst e y
    exact hs i σ _ hlt p
  · have e : i = n := by omega
    subst e
    exact .inl ⟨Nat.le_refl _, hd σ H p⟩
end L2

namespace L2
open PySem PySem.Spec PyProof.Rows

abbrev R2 := V → V → Hp → VK → Prop
/-- a two-place operation on values: f is binaryOp op, inplaceOp op or compareOp op -/
def OpR (X : Cx) (f : Value → Value → Sem Value) (r : R2) : Prop :=
  ∀ (pins : List (Addr × Obj)) (s : Shared) (σ : St) (H : Hp) (x y : V) (v u : Value) (Q : VK), Inv X pins σ H s → RelV x v → RelV y u → r x y H Q →
    wpAny (model X.prog X.w) X.A (f v u) (EP X pins σ Q) X.xe s
/-- a call of a value that is known (a builtin, a type) with values -/
def CallR (X : Cx) (f : Value) (r : List V → Hp → VK → Prop) : Prop :=
  ∀ (pins : List (Addr × Obj)) (s : Shared) (σ : St) (H : Hp) (xs : List V) (us : List Value) (Q : VK), Inv X pins σ H s → Vals xs us → r xs H Q →
    wpAny (model X.prog X.w) X.A (call f us) (EP X pins σ Q) X.xe s
/-- a value's truth -/
def TruR (X : Cx) (r : V → Hp → (Bool → Hp → Prop) → Prop) : Prop :=
  ∀ (pins : List (Addr × Obj)) (s : Shared) (σ : St) (H : Hp) (x : V) (v : Value) (Q : Bool → Hp → Prop), Inv X pins σ H s → RelV x v → r x H Q →
    wpAny (model X.prog X.w) X.A (truthy v) (TP X pins σ Q) X.xe s

def tOp (r : R2) (ta tb : TE) : TE := fun σ H Q => ta σ H fun x H1 => tb σ H1 fun y H2 => r x y H2 Q
/-- ints in, under C, and a value out -/
def rI (C : Int → Int → Prop) (g : Int → Int → V) : R2 := fun x y H Q => ∃ i j, x = .int i ∧ y = .int j ∧ C i j ∧ Q (g i j) H
def rI0 (g : Int → Int → V) : R2 := fun x y H Q => ∃ i j, x = .int i ∧ y = .int j ∧ Q (g i j) H
section
variable {X : Cx} {a b c : Expr} {ta tb tc : TE} {pos : Pos}

theorem binT (ha : PE X a ta) (hb : PE X b tb) {pins : List (Addr × Obj)} {s : Shared} {σ : St} {H : Hp} {R : V → V → Hp → Prop} (I : Inv X pins σ H s)
    (h : ta σ H fun x H1 => tb σ H1 fun y H2 => R x y H2) {Q : Value → Shared → Prop} {f : Value → Value → Sem Value}
    (hf : ∀ v u s2 x y H2, Inv X pins σ H2 s2 → RelV x v → RelV y u → R x y H2 → wpAny (model X.prog X.w) X.A (f v u) Q X.xe s2) :
    wpAny (model X.prog X.w) X.A (eval a X.env) (fun v s₁ => wpAny (model X.prog X.w) X.A (eval b X.env) (fun u s₂ => wpAny (model X.prog X.w) X.A (f v u) Q X.xe s₂) X.xe s₁) X.xe s := by
  refine thn (ha pins s σ H _ I h) fun v s1 ⟨x, H1, I1, r1, q1⟩ => ?_
  refine thn (hb pins s1 σ H1 _ I1 q1) fun u s2 ⟨y, H2, I2, r2, q2⟩ => ?_
  exact hf v u s2 x y H2 I2 r1 r2 q2

theorem pe_op {op : Operator} {r : R2} (ho : OpR X (binaryOp op) r) (ha : PE X a ta) (hb : PE X b tb) : PE X (.BinOp a op b pos) (tOp r ta tb) := by
  intro pins s σ H Q I h
  exact wpAny_BinOp (binT ha hb I h fun v u s2 x y H2 I2 rx ry q => ho pins s2 σ H2 x y v u Q I2 rx ry q)
/-! ### ints -/
theorem opI {f : Value → Value → Sem Value} {C : Int → Int → Prop} {g : Int → Int → Int}
    (rule : ∀ (i j : Int) (t u : Tok) (s : Shared) (Q : Value → Shared → Prop) (E : Value → Shared → Prop), C i j → Q (.int (g i j) s.toks) { s with toks := s.toks + 1 } → wpAny (model X.prog X.w) X.A (f (.int i t) (.int j u)) Q E s) :
    OpR X f (rI C fun i j => .int (g i j)) := by
  intro pins s σ H x y v u Q I rx ry h
  obtain ⟨i, j, rfl, rfl, hc, q⟩ := h
  obtain ⟨t, rfl⟩ := rx
  obtain ⟨t', rfl⟩ := ry
  exact rule i j t t' s _ _ hc ⟨.int (g i j), H, I.tok _, ⟨_, rfl⟩, q⟩
theorem opI0 {f : Value → Value → Sem Value} {g : Int → Int → Int}
    (rule : ∀ (i j : Int) (t u : Tok) (s : Shared) (Q : Value → Shared → Prop) (E : Value → Shared → Prop), Q (.int (g i j) s.toks) { s with toks := s.toks + 1 } → wpAny (model X.prog X.w) X.A (f (.int i t) (.int j u)) Q E s) :
    OpR X f (rI0 fun i j => .int (g i j)) := by
  intro pins s σ H x y v u Q I rx ry h
  obtain ⟨i, j, rfl, rfl, q⟩ := h
  obtain ⟨t, rfl⟩ := rx
  obtain ⟨t', rfl⟩ := ry
  exact rule i j t t' s _ _ ⟨.int (g i j), H, I.tok _, ⟨_, rfl⟩, q⟩
theorem opB0 {f : Value → Value → Sem Value} {g : Int → Int → Bool}
    (rule : ∀ (i j : Int) (t u : Tok) (s : Shared) (Q : Value → Shared → Prop) (E : Value → Shared → Prop), Q (.bool (g i j)) s → wpAny (model X.prog X.w) X.A (f (.int i t) (.int j u)) Q E s) :
    OpR X f (rI0 fun i j => .bl (g i j)) := by
  intro pins s σ H x y v u Q I rx ry h
  obtain ⟨i, j, rfl, rfl, q⟩ := h
  obtain ⟨t, rfl⟩ := rx
  obtain ⟨t', rfl⟩ := ry
  exact rule i j t t' s _ _ ⟨.bl (g i j), H, I, rfl, q⟩

def CDiv (i j : Int) : Prop := 0 < j ∧ j < 1073741824
def CPow (i j : Int) : Prop := 0 ≤ j ∧ j ≤ 1000000 ∧ i.natAbs < 2 ^ 64
def CMul (i j : Int) : Prop := (-(2 ^ 64) < i ∧ i < 2 ^ 64) ∨ (-(2 ^ 64) < j ∧ j < 2 ^ 64)
theorem CMul.ok {i j : Int} (h : CMul i j) : IntMulOk i j := by
  rcases h with ⟨h1, h2⟩ | ⟨h1, h2⟩
  · exact .of_left (intBits_le_64 h1 h2)
  · exact .of_right (intBits_le_64 h1 h2)
theorem op_add : OpR X (binaryOp .Add) (rI0 fun i j => .int (i + j)) := opI0 fun _ _ _ _ _ _ _ q => add_int q
theorem op_sub : OpR X (binaryOp .Sub) (rI0 fun i j => .int (i - j)) := opI0 fun _ _ _ _ _ _ _ q => sub_int q
theorem op_mul : OpR X (binaryOp .Mult) (rI CMul fun i j => .int (i * j)) := opI fun _ _ _ _ _ _ _ hc q => mul_int q hc.ok
/-- // by a positive divisor -/
theorem op_fdiv : OpR X (binaryOp .FloorDiv) (rI CDiv fun i j => .int (i / j)) := opI fun i j _ _ _ _ _ hc q => by
  have h1 : (0 : Int) < j := hc.1
  have h2 : j < 1073741824 := hc.2
  exact floordiv_int (by omega) (by rw [Int.fdiv_eq_ediv_of_nonneg i (by omega)]; exact q) (.inl (PyProof.noPylong_small (by omega)))
/-- % by a positive divisor of any size -/
theorem op_mod : OpR X (binaryOp .Mod) (rI (fun _ j => 0 < j) fun i j => .int (i % j)) := opI fun i j _ _ _ _ _ hc q => by
  have h1 : (0 : Int) < j := hc
  exact mod_int' (by omega) (by rw [Int.fmod_eq_emod_of_nonneg i (by omega)]; exact q)
theorem op_pow : OpR X (binaryOp .Pow) (rI CPow fun i j => .int (i ^ j.toNat)) := opI fun _ _ _ _ _ _ _ hc q => pow_int_small hc.1 hc.2.1 hc.2.2 q
/-! ### bools among ints: n += (a < b) -/
end

/-! ### comparisons -/
/-- the scalars that == tells apart as data does -/
def scal : V → V → Bool
  | .non, .non => true | .non, .int _ => true | .int _, .non => true | .non, .bl _ => true | .bl _, .non => true | .non, .str _ => true | .str _, .non => true
  | .int _, .int _ => true | .bl _, .bl _ => true | .str _, .str _ => true | .byt _, .byt _ => true
  | .int _, .str _ => true | .str _, .int _ => true | .bl _, .str _ => true | .str _, .bl _ => true
  | _, _ => false
def rEq : R2 := fun x y H Q => scal x y = true ∧ Q (.bl (decide (x = y))) H
def rNe : R2 := fun x y H Q => scal x y = true ∧ Q (.bl (!decide (x = y))) H

theorem dec_int {i j : Int} : decide (V.int i = V.int j) = (i == j) := by
  rw [Bool.eq_iff_iff]
  simp
theorem dec_bl {i j : Bool} : decide (V.bl i = V.bl j) = (i == j) := by
  rw [Bool.eq_iff_iff]
  simp
theorem dec_str {i j : Str} : decide (V.str i = V.str j) = (i == j) := by
  rw [Bool.eq_iff_iff]
  simp
theorem dec_byt {i j : Array UInt8} : decide (V.byt i = V.byt j) = (i.toList == j.toList) := by
  rw [Bool.eq_iff_iff]
  cases i
  cases j
  simp

section
variable {X : Cx} {a b c : Expr} {ta tb tc : TE} {pos : Pos}
theorem fin_bl {pins : List (Addr × Obj)} {σ : St} {H : Hp} {s : Shared} {Q : VK} {k k' : Bool} (I : Inv X pins σ H s) (q : Q (.bl k) H) (e : k = k') : EP X pins σ Q (.bool k') s := by
  subst e
  exact ⟨.bl k, H, I, rfl, q⟩
theorem op_eq : OpR X (compareOp .Eq) rEq := by
  intro pins s σ H x y v u Q I rx ry h
  obtain ⟨hs, q⟩ := h
  cases x with
  | non =>
    cases rx
    cases y with
    | non => cases ry; exact PySem.EqNone.eq_none_none (fin_bl I q (by simp))
    | bl j => cases ry; exact PySem.EqNone.eq_none_bool (fin_bl I q (by simp))
    | int j => obtain ⟨t', rfl⟩ := ry; exact PySem.EqNone.eq_none_int (fin_bl I q (by simp))
    | str j => obtain ⟨t', rfl⟩ := ry; exact PySem.EqNone.eq_none_str (fin_bl I q (by simp))
    | _ => exact absurd (show false = true from hs) Bool.false_ne_true
  | bl i =>
    cases rx
    cases y with
    | non => cases ry; exact PySem.EqNone.eq_bool_none (fin_bl I q (by simp))
    | bl j => cases ry; exact eq_bool (fin_bl I q dec_bl)
    | str j => obtain ⟨t', rfl⟩ := ry; exact PySem.EqMixed.eq_bool_str (fin_bl I q (by simp))
    | _ => exact absurd (show false = true from hs) Bool.false_ne_true
  | int i =>
    obtain ⟨t, rfl⟩ := rx
    cases y with
    | non => cases ry; exact PySem.EqNone.eq_int_none (fin_bl I q (by simp))
    | int j => obtain ⟨t', rfl⟩ := ry; exact eq_int (fin_bl I q dec_int)
    | str j => obtain ⟨t', rfl⟩ := ry; exact PySem.EqMixed.eq_int_str (fin_bl I q (by simp))
    | _ => exact absurd (show false = true from hs) Bool.false_ne_true
  | str i =>
    obtain ⟨t, rfl⟩ := rx
    cases y with
    | non => cases ry; exact PySem.EqNone.eq_str_none (fin_bl I q (by simp))
    | bl j => cases ry; exact PySem.EqMixed.eq_str_bool (fin_bl I q (by simp))
    | int j => obtain ⟨t', rfl⟩ := ry; exact PySem.EqMixed.eq_str_int (fin_bl I q (by simp))
    | str j => obtain ⟨t', rfl⟩ := ry; exact eq_str (fin_bl I q dec_str)
    | _ => exact absurd (show false = true from hs) Bool.false_ne_true
  | byt i =>
    obtain ⟨t, rfl⟩ := rx
    cases y with
    | byt j => obtain ⟨t', rfl⟩ := ry; exact PySem.W.eq_bytes (fin_bl I q dec_byt)
    | _ => exact absurd (show false = true from hs) Bool.false_ne_true
  | _ => cases y <;> exact absurd (show false = true from hs) Bool.false_ne_true
theorem op_ne : OpR X (compareOp .NotEq) rNe := by
  intro pins s σ H x y v u Q I rx ry h
  obtain ⟨hs, q⟩ := h
  cases x with
  | non =>
    cases rx
    cases y with
    | non => cases ry; exact PySem.EqNone.ne_none_none (fin_bl I q (by simp))
    | bl j => cases ry; exact PySem.EqNone.ne_none_bool (fin_bl I q (by simp))
    | int j => obtain ⟨t', rfl⟩ := ry; exact PySem.EqNone.ne_none_int (fin_bl I q (by simp))
    | str j => obtain ⟨t', rfl⟩ := ry; exact PySem.EqNone.ne_none_str (fin_bl I q (by simp))
    | _ => exact absurd (show false = true from hs) Bool.false_ne_true
  | bl i =>
    cases rx
    cases y with
    | non => cases ry; exact PySem.EqNone.ne_bool_none (fin_bl I q (by simp))
    | bl j => cases ry; exact ne_bool (fin_bl I q (congrArg not dec_bl))
    | str j => obtain ⟨t', rfl⟩ := ry; exact PySem.EqMixed.ne_bool_str (fin_bl I q (by simp))
    | _ => exact absurd (show false = true from hs) Bool.false_ne_true
  | int i =>
    obtain ⟨t, rfl⟩ := rx
    cases y with
    | non => cases ry; exact PySem.EqNone.ne_int_none (fin_bl I q (by simp))
    | int j => obtain ⟨t', rfl⟩ := ry; exact ne_int (fin_bl I q (congrArg not dec_int))
    | str j => obtain ⟨t', rfl⟩ := ry; exact PySem.EqMixed.ne_int_str (fin_bl I q (by simp))
    | _ => exact absurd (show false = true from hs) Bool.false_ne_true
  | str i =>
    obtain ⟨t, rfl⟩ := rx
    cases y with
    | non => cases ry; exact PySem.EqNone.ne_str_none (fin_bl I q (by simp))
    | bl j => cases ry; exact PySem.EqMixed.ne_str_bool (fin_bl I q (by simp))
    | int j => obtain ⟨t', rfl⟩ := ry; exact PySem.EqMixed.ne_str_int (fin_bl I q (by simp))
    | str j => obtain ⟨t', rfl⟩ := ry; exact ne_str (fin_bl I q (congrArg not dec_str))
    | _ => exact absurd (show false = true from hs) Bool.false_ne_true
  | byt i =>
    obtain ⟨t, rfl⟩ := rx
    cases y with
    | byt j => obtain ⟨t', rfl⟩ := ry; exact PySem.W.ne_bytes (fin_bl I q (congrArg not dec_byt))
    | _ => exact absurd (show false = true from hs) Bool.false_ne_true
  | _ => cases y <;> exact absurd (show false = true from hs) Bool.false_ne_true

theorem op_lt : OpR X (compareOp .Lt) (rI0 fun i j => .bl (decide (i < j))) := opB0 fun _ _ _ _ _ _ _ q => lt_int q
theorem op_le : OpR X (compareOp .LtE) (rI0 fun i j => .bl (decide (i ≤ j))) := opB0 fun _ _ _ _ _ _ _ q => le_int q
theorem op_gt : OpR X (compareOp .Gt) (rI0 fun i j => .bl (decide (j < i))) := opB0 fun _ _ _ _ _ _ _ q => gt_int q
theorem op_ge : OpR X (compareOp .GtE) (rI0 fun i j => .bl (decide (j ≤ i))) := opB0 fun _ _ _ _ _ _ _ q => ge_int q
theorem op_lt_str : OpR X (compareOp .Lt) (fun x y H Q => ∃ i j, x = .str i ∧ y = .str j ∧ Q (.bl (decide (i.cps.toList < j.cps.toList))) H) := by
  intro pins s σ H x y v u Q I rx ry h
  obtain ⟨i, j, rfl, rfl, q⟩ := h
  obtain ⟨t, rfl⟩ := rx
  obtain ⟨t', rfl⟩ := ry
  exact lt_str (fin_bl I q rfl)
/-- the one string within the other -/
theorem op_in_str : OpR X (compareOp .In) (fun x y H Q => ∃ i j, x = .str i ∧ y = .str j ∧ Q (.bl (!(Builtin.Str.occurrences j i 0 j.length 1).isEmpty)) H) := by
  intro pins s σ H x y v u Q I rx ry h
  obtain ⟨i, j, rfl, rfl, q⟩ := h
  obtain ⟨t, rfl⟩ := rx
  obtain ⟨t', rfl⟩ := ry
  exact in_str (fin_bl I q rfl)

/-- is None, is not None: the right side a value none -/
theorem op_isN : OpR X (compareOp .Is) (fun x y H Q => y = .non ∧ Q (.bl (decide (x = .non))) H) := by
  intro pins s σ H x y v u Q I rx ry h
  obtain ⟨rfl, q⟩ := h
  cases ry
  refine is_none_gen (fin_bl I q ?_)
  cases x <;> first
    | (cases rx; rfl)
    | (obtain ⟨t, rfl⟩ := rx; rfl)
theorem op_notN : OpR X (compareOp .IsNot) (fun x y H Q => y = .non ∧ Q (.bl (!decide (x = .non))) H) := by
  intro pins s σ H x y v u Q I rx ry h
  obtain ⟨rfl, q⟩ := h
  cases ry
  refine isnot_none_gen (fin_bl I q ?_)
  cases x <;> first
    | (cases rx; rfl)
    | (obtain ⟨t, rfl⟩ := rx; rfl)

theorem nomark (b : Expr) {op : CmpOp} (h : op ≠ .In := by decide) (h2 : op ≠ .NotIn := by decide) : behindInMarks op b = false := by
  have e1 : (op == CmpOp.In) = false := by cases op <;> first | rfl | exact absurd rfl h
  have e2 : (op == CmpOp.NotIn) = false := by cases op <;> first | rfl | exact absurd rfl h2
  cases b <;> simp [behindInMarks, e1, e2]
/-- a comparison as a value; hm: nomark b, or (for in, not in) by with_unfolding_all rfl -/
theorem pe_cmpR {op : CmpOp} {r : R2} (ho : OpR X (compareOp op) r) (ha : PE X a ta) (hb : PE X b tb) (hm : behindInMarks op b = false) : PE X (.Compare a [op] [b] pos) (tOp r ta tb) := by
  intro pins s σ H Q I h
  exact wpAny_Compare1 (binT ha hb I h fun v u s2 x y H2 I2 rx ry q => ho pins s2 σ H2 x y v u Q I2 rx ry q) hm
/-- a reading of a value as a test -/
def tTest (t : TE) : TT := fun σ H Q => t σ H fun x H' => ∃ k, x = .bl k ∧ Q k H'
theorem pt_cmpR {op : CmpOp} {r : R2} (ho : OpR X (compareOp op) r) (ha : PE X a ta) (hb : PE X b tb) (hm : behindInMarks op b = false) : PT X (.Compare a [op] [b] pos) (tTest (tOp r ta tb)) := by
  intro pins s σ H Q I h
  refine wpAny_isTrue_Compare1 (thn (ha pins s σ H _ I h) fun v s1 ⟨x, H1, I1, r1, q1⟩ => thn (hb pins s1 σ H1 _ I1 q1) fun u s2 ⟨y, H2, I2, r2, q2⟩ =>
    thn (ho pins s2 σ H2 x y v u _ I2 r1 r2 q2) fun c s3 ⟨z, H3, I3, r3, k, e, q3⟩ => ?_) hm
  subst e
  cases r3
  exact wpAny_truthy_bool ⟨H3, I3, q3⟩
/-! ### truth -/
/-- a value's truth by the abstract heap -/
def TruV (K : PySem.W.Frag) (x : V) (H : Hp) (k : Bool) : Prop :=
  match x with
  | .non => k = false
  | .bl b => k = b
  | .int i => k = (i != 0)
  | .str y => y.length ≤ sizeLine ∧ k = ((y.length : Int) != 0)
  | .byt y => y.size ≤ sizeLine ∧ k = ((y.size : Int) != 0)
  | .ref p => (∃ xs, SqL K H p xs ∧ k = !xs.isEmpty) ∨ (∃ xs, SqT K H p xs ∧ k = !xs.isEmpty) ∨ ∃ kvs, H p = some (.dK kvs) ∧ k = !kvs.isEmpty
  | _ => False
theorem isEmpty_kv {κ : Type} {kvs : List (κ × V)} {vs : List (κ × Value)} (r : KV kvs vs) : (!vs.isEmpty) = !kvs.isEmpty := by
  cases r <;> rfl
theorem isEmpty_of {xs : List V} {its : List Value} (r : Vals xs its) : (!its.toArray.isEmpty) = !xs.isEmpty := by
  cases r <;> simp
theorem line63 : (sizeLine : Nat) < 2 ^ 63 := by rw [sizeLine_eq]; decide
theorem tru_ok : TruR X (fun x H Q => ∃ k, TruV X.K x H k ∧ Q k H) := by
  intro pins s σ H x v Q I rx h
  obtain ⟨k, e, q⟩ := h
  have hl := line63
  have hs : sizeLine = 16777216 := sizeLine_eq
  cases x with
  | non =>
    cases rx
    have e' : k = false := e
    subst e'
    exact truthy_none ⟨H, I, q⟩
  | bl b =>
    cases rx
    have e' : k = b := e
    subst e'
    exact wpAny_truthy_bool ⟨H, I, q⟩
  | int i =>
    obtain ⟨t, rfl⟩ := rx
    have e' : k = (i != 0) := e
    subst e'
    exact PySem.P.truthy_int ⟨H, I, q⟩
  | str y =>
    obtain ⟨t, rfl⟩ := rx
    obtain ⟨hy, e'⟩ : y.length ≤ sizeLine ∧ k = ((y.length : Int) != 0) := e
    subst e'
    exact PySem.P.truthy_str (by omega) ⟨H, I.tok _, q⟩
  | byt y =>
    obtain ⟨t, rfl⟩ := rx
    obtain ⟨hy, e'⟩ : y.size ≤ sizeLine ∧ k = ((y.size : Int) != 0) := e
    subst e'
    exact PySem.W.truthy_bytes (by omega) ⟨H, I.tok _, q⟩
  | ref p =>
    cases rx
    have e' : (∃ xs, SqL X.K H p xs ∧ k = !xs.isEmpty) ∨ (∃ xs, SqT X.K H p xs ∧ k = !xs.isEmpty) ∨ ∃ kvs, H p = some (.dK kvs) ∧ k = !kvs.isEmpty := e
    rcases e' with ⟨xs, hx, e'⟩ | ⟨xs, hx, e'⟩ | ⟨kvs, hx, e'⟩
    · subst e'
      obtain ⟨its, r, pl, hz⟩ := I.list hx
      have hlen := r.length
      exact wpAny_truthy_list pl.isList (by simp only [List.size_toArray]; omega) ⟨H, I.tok _, by rw [isEmpty_of r]; exact q⟩
    · subst e'
      obtain ⟨its, r, pl, hz⟩ := I.tuple hx
      have hlen := r.length
      exact truthy_tuple pl (by simp only [List.size_toArray]; omega) ⟨H, I.tok _, by rw [isEmpty_of r]; exact q⟩
    · subst e'
      obtain ⟨hz, hS, vs, r, m⟩ : kvs.length ≤ sizeLine ∧ (p == sysModules) = false ∧ ∃ vs, KV kvs vs ∧ s.heap.DictOf (mixKind X.prog X.w) p vs := I.hok p _ hx
      have hlen : kvs.length = vs.length := Paired.length r
      exact wpAny_truthy_dict hS m (by omega) ⟨H, I.tok _, by rw [isEmpty_kv r]; exact q⟩
  | _ => exact (show False from e).elim
/-- any expression whose test is its value's truth (a name, a call, a subscript, a field ..: he by fun _ => rfl) -/
theorem pt_truth (ha : PE X a ta) (he : ∀ whole, isTrue a X.env whole = (do let v ← whole; standAt a.pos; holding [v] (truthy v))) :
    PT X a (fun σ H Q => ta σ H fun x H' => ∃ k, TruV X.K x H' k ∧ Q k H') := by
  intro pins s σ H Q I h
  exact isTrue_plain (thn (ha pins s σ H _ I h) fun v s1 ⟨x, H1, I1, r1, q1⟩ => tru_ok pins s1 σ H1 x v Q I1 r1 q1) (he _)

/-! ### strs and bytes -/
theorem op_add_str : OpR X (binaryOp .Add) (fun x y H Q => ∃ i j, x = .str i ∧ y = .str j ∧ i.length + j.length ≤ sizeLine ∧ Q (.str (i ++ j)) H) := by
  intro pins s σ H x y v u Q I rx ry h
  obtain ⟨i, j, rfl, rfl, hz, q⟩ := h
  obtain ⟨t, rfl⟩ := rx
  obtain ⟨t', rfl⟩ := ry
  exact wpAny_with_toks (n := 1) I.tk (add_str (fun t' tk htk => ⟨.str (i ++ j), H, I.tok _, ⟨_, rfl⟩, q⟩) hz)
/-! ### scalar builtins, by CallR -/
theorem vals1 {x : V} {us : List Value} (r : Vals [x] us) : ∃ u, us = [u] ∧ RelV x u := by
  cases r with
  | cons r1 r2 => cases r2; exact ⟨_, rfl, r1⟩
theorem vals2 {x y : V} {us : List Value} (r : Vals [x, y] us) : ∃ u w', us = [u, w'] ∧ RelV x u ∧ RelV y w' := by
  cases r with
  | cons r1 r2 =>
    cases r2 with
    | cons r3 r4 => cases r4; exact ⟨_, _, rfl, r1, r3⟩
theorem call_abs : CallR X (.builtin "abs") (fun xs H Q => ∃ i, xs = [.int i] ∧ Q (.int (if i < 0 then -i else i)) H) := by
  intro pins s σ H xs us Q I r h
  obtain ⟨i, rfl, q⟩ := h
  obtain ⟨u, rfl, t, rfl⟩ := vals1 r
  exact wpAny_with_toks (n := 1) I.tk (call_abs_int fun u tk htk => ⟨.int (if i < 0 then -i else i), H, I.tok _, ⟨_, rfl⟩, q⟩)
theorem call_max2 (hc : X.calm = true) : CallR X (.builtin "max") (fun xs H Q => ∃ i j, xs = [.int i, .int j] ∧ Q (.int (if j > i then j else i)) H) := by
  intro pins s σ H xs us Q I r h
  obtain ⟨i, j, rfl, q⟩ := h
  obtain ⟨u, w', rfl, ⟨t, rfl⟩, ⟨t', rfl⟩⟩ := vals2 r
  refine wpAny_with_toks (n := 1) I.tk (max_two_ints (I.ok.hd hc) fun h' tk k htk => ⟨_, H, I.kept k, ?_, q⟩)
  by_cases hj : j > i
  · rw [if_pos hj, if_pos hj]; exact ⟨_, rfl⟩
  · rw [if_neg hj, if_neg hj]; exact ⟨_, rfl⟩
theorem call_int1 : CallR X (.type "int") (fun xs H Q => (∃ i, xs = [.int i] ∧ Q (.int i) H) ∨ ∃ k, xs = [.bl k] ∧ Q (.int (if k then 1 else 0)) H) := by
  intro pins s σ H xs us Q I r h
  rcases h with ⟨i, rfl, q⟩ | ⟨k, rfl, q⟩
  · obtain ⟨u, rfl, t, rfl⟩ := vals1 r
    exact call_int_int ⟨.int i, H, I, ⟨_, rfl⟩, q⟩
  · obtain ⟨u, rfl, r1⟩ := vals1 r
    cases r1
    exact call_int_bool ⟨.int (if k then 1 else 0), H, I.tok _, ⟨_, rfl⟩, q⟩
theorem call_ord : CallR X (.builtin "ord") (fun xs H Q => ∃ x, xs = [.str x] ∧ x.length = 1 ∧ Q (.int (x.cps.getD 0 0 : Nat)) H) := by
  intro pins s σ H xs us Q I r h
  obtain ⟨x, rfl, hz, q⟩ := h
  obtain ⟨u, rfl, t, rfl⟩ := vals1 r
  exact ord_of_one hz ⟨.int _, H, I.tok _, ⟨_, rfl⟩, q⟩
/-- len of a str, a bytes, a list, a tuple -/
def LenV (K : PySem.W.Frag) (x : V) (H : Hp) (n : Nat) : Prop :=
  match x with
  | .str y => y.length ≤ sizeLine ∧ n = y.length
  | .byt y => y.size ≤ sizeLine ∧ n = y.size
  | .ref p => (∃ xs, SqL K H p xs ∧ n = xs.length) ∨ ∃ xs, SqT K H p xs ∧ n = xs.length
  | _ => False
theorem call_len : CallR X (.builtin "len") (fun xs H Q => ∃ x n, xs = [x] ∧ LenV X.K x H n ∧ Q (.int n) H) := by
  intro pins s σ H xs us Q I r h
  obtain ⟨x, n, rfl, e, q⟩ := h
  obtain ⟨u, rfl, rx⟩ := vals1 r
  have hl := line63
  have hs : sizeLine = 16777216 := sizeLine_eq
  cases x with
  | str y =>
    obtain ⟨t, rfl⟩ := rx
    obtain ⟨hy, e'⟩ : y.length ≤ sizeLine ∧ n = y.length := e
    subst e'
    exact len_str (by omega) ⟨.int _, H, I.tok _, ⟨_, rfl⟩, q⟩
  | byt y =>
    obtain ⟨t, rfl⟩ := rx
    obtain ⟨hy, e'⟩ : y.size ≤ sizeLine ∧ n = y.size := e
    subst e'
    exact PySem.W.len_bytes (by omega) ⟨.int _, H, I.tok _, ⟨_, rfl⟩, q⟩
  | ref p =>
    cases rx
    have e' : (∃ xs, SqL X.K H p xs ∧ n = xs.length) ∨ ∃ xs, SqT X.K H p xs ∧ n = xs.length := e
    rcases e' with ⟨xs, hx, e'⟩ | ⟨xs, hx, e'⟩
    · subst e'
      obtain ⟨its, r', pl, hz⟩ := I.list hx
      have hlen := r'.length
      exact Calls.call_len_list pl.isList (by simp only [List.size_toArray]; omega) ⟨.int xs.length, H, I.tok _, ⟨_, by simp only [List.size_toArray]; rw [hlen]⟩, q⟩
    · subst e'
      obtain ⟨its, r', pl, hz⟩ := I.tuple hx
      have hlen := r'.length
      exact len_tuple pl (by simp only [List.size_toArray]; omega) ⟨.int xs.length, H, I.tok _, ⟨_, by simp only [List.size_toArray]; rw [hlen]⟩, q⟩
  | _ => exact (show False from e).elim
end
end L2

namespace L2
open PySem PySem.Spec PyProof.Rows

/-! ### an instance, its attributes a map -/
structure ObjM (h : Heap) (x dx C : Addr) (mA : Str → Option Value) : Prop where
  obj : h.get? x = some (PySem.W.instObj C dx)
  ns : h.Ns1 dx mA
  ne : dx ≠ x

theorem lookIn_ns {h : Heap} {dx : Addr} {mA : Str → Option Value} (n : h.Ns1 dx mA) : ∃ od, h.get? dx = some od ∧ ∀ name, PySem.W.lookIn name od = some (mA name) := by
  obtain ⟨o, es, ep, ho, hd, hk, _, hm⟩ := n
  refine ⟨o, ho, fun name => ?_⟩
  have e := hm name
  unfold nsFind findBy at e
  rw [← Array.find?_toList] at e
  unfold PySem.W.lookIn
  rw [hd]
  dsimp only
  split
  · rename_i y q
    rw [q] at e
    exact congrArg some e
  · rename_i q
    rw [q] at e
    have a : es.toList.any (·.refKey) = false := by
      rw [List.any_eq_false]
      intro y hy
      obtain ⟨z, t, hkey⟩ := hk y (Array.mem_toList_iff.mp hy)
      simp [DictEntry.refKey, hkey]
    have a' : ¬ es.toList.any (·.refKey) = true := by rw [a]; exact Bool.false_ne_true
    rw [if_neg a']
    exact congrArg some e

theorem ObjM.look {h : Heap} {x dx C : Addr} {mA : Str → Option Value} (I : ObjM h x dx C mA) : ∃ od, PySem.W.InstAt h x (PySem.W.instObj C dx) C (some od) ∧ ∀ name, PySem.W.lookIn name od = some (mA name) :=
  let ⟨od, ho, hl⟩ := lookIn_ns I.ns
  ⟨od, ⟨I.obj, rfl, rfl, ho⟩, hl⟩

section
variable {prog : Program} {w : World} {A : Around} {E : Value → Shared → Prop} {s : Shared} {K : PySem.W.Frag} {x dx C f : Addr} {mA : Str → Option Value} {name : Str} {v : Value}

end

/-! ### the attributes as a list of pairs -/
section
variable {P : Program} {w : World} {H H' : Hp} {h h' : Heap} {a C dx : Addr} {fs fs' : List (Str × V)}
theorem ins_get (hok : HOk P w H h) (e : H a = some (.ins C dx fs)) : ∃ mA, ObjM h a dx C mA ∧ (∀ f, RelO (fs.lookup f) (mA f)) ∧ PySem.Within mA (fs.map (·.1)) ∧ fs.length ≤ 1000 ∧ H dx = some (.own a) := by
  obtain ⟨d, z, ne, ob, mA, n, r, q⟩ := (show ObjOk P w H h a (.ins C dx fs) from hok a _ e)
  exact ⟨mA, ⟨ob, n, ne⟩, r, q, z, d⟩
end

/-! ### what of the text a class must have -/
structure Cls (K : PySem.W.Frag) (C : Addr) : Prop where
  pg : PySem.W.plainGet K C Str.empty = true
  hd : PySem.W.hasDictIn K C = true
  po : PySem.W.plainOver K C = true
  sa : PySem.W.findIn K (.ref C) "__setattr__" = some (some (.builtin "object.__setattr__"))
theorem Cls.get {K : PySem.W.Frag} {C : Addr} (c : Cls K C) (f : Str) : PySem.W.plainGet K C f = true := c.pg
section
variable {X : Cx} {pins : List (Addr × Obj)} {σ : St} {H : Hp} {s : Shared} {a C dx : Addr} {fs : List (Str × V)} {f : Str} {v : V} {A : Around} {E : Value → Shared → Prop}

end

/-! ### readings and rules -/
section
variable {X : Cx} {o e value : Expr} {f : Str} {pos pos' tpos : Pos} {ta tv : TE}
end

/-! ### isinstance -/
section
variable {X : Cx} {pins : List (Addr × Obj)} {σ : St} {H : Hp} {s : Shared} {A : Around} {E : Value → Shared → Prop} {Q : Value → Shared → Prop} {c : Value} {b : Bool}
/-- the type of a value, as the fragment's deciders take it; for an instance its class -/
inductive TyOf (K : PySem.W.Frag) (H : Hp) : V → Value → Prop where
  | non : TyOf K H .non (.type "NoneType")
  | bl (x : Bool) : TyOf K H (.bl x) (.type "bool")
  | int (i : Int) : TyOf K H (.int i) (.type "int")
  | str (x : Str) : TyOf K H (.str x) (.type "str")
  | flt (x : UInt64) : TyOf K H (.flt x) (.type "float")
  | lst {a : Addr} {xs : List V} (e : H a = some (.lst xs)) : TyOf K H (.ref a) (.type "list")
  | frz {a : Addr} {o : Obj} {xs : List V} (e : H a = some (.frz o (.lst xs))) : TyOf K H (.ref a) (.type "list")
  | tup {a : Addr} {xs : List V} (e : H a = some (.tup xs)) : TyOf K H (.ref a) (.type "tuple")
  | dK {a : Addr} {kvs : List (Key × V)} (e : H a = some (.dK kvs)) : TyOf K H (.ref a) (.type "dict")
  | dT {a : Addr} {kvs : List (List Key × V)} (e : H a = some (.dT kvs)) : TyOf K H (.ref a) (.type "dict")
  | ins {a C dx : Addr} {fs : List (Str × V)} (e : H a = some (.ins C dx fs)) (cl : Cls K C) (ha : PySem.W.findIn K (.ref C) "__class__" = some (some (.builtin "object.__class__")))
      (hn : PySem.W.specialIn K (.builtin "object.__class__") "__get__" = some (some (.builtin "getset_descriptor.__get__"))) (htk : PySem.W.takesIn K (.builtin "object.__class__") = some true)
      (hm : PySem.W.mroIn K C (.type "object") = some true) : TyOf K H (.ref a) (.ref C)
/-- isinstance(x, c) for one class c, a built-in or an own one: kitOne's answer -/
theorem isinst_ok {x : V} {u t : Value} (I : Inv X pins σ H s) (rx : RelV x u) (ty : TyOf X.K H x t) (e : PySem.W.kitOne X.K t c = some b) (h : ∀ tk, Q (.bool b) { s with toks := tk }) :
    wpAny (model X.prog X.w) A (call (.builtin "isinstance") [u, c]) Q E s := by
  cases ty with
  | non => cases (show u = Value.none from rx); exact PySem.W.kia_one PySem.W.kitx_none I.kIn True.intro e (fun z => nomatch z) h
  | bl y => cases (show u = Value.bool y from rx); exact PySem.W.kia_one PySem.W.kitx_bool I.kIn True.intro e (fun z => nomatch z) h
  | int i => obtain ⟨t, q⟩ := (show ∃ t, u = Value.int i t from rx); cases q; exact PySem.W.kia_one PySem.W.kitx_int I.kIn True.intro e (fun z => nomatch z) h
  | str y => obtain ⟨t, q⟩ := (show ∃ t, u = Value.str y t from rx); cases q; exact PySem.W.kia_one PySem.W.kitx_str I.kIn True.intro e (fun z => nomatch z) h
  | flt y => obtain ⟨t, q⟩ := (show ∃ t, u = Value.float y t from rx); cases q; exact PySem.W.kia_one PySem.W.kitx_float I.kIn True.intro e (fun z => nomatch z) h
  | @lst a xs ea =>
    cases (show u = Value.ref a from rx)
    obtain ⟨_, _, n, _, h1⟩ := (show ObjOk X.prog X.w H s.heap a (.lst xs) from I.hok a _ ea)
    exact PySem.W.kia_one PySem.W.kitx_list I.kIn ⟨_, h1, rfl⟩ e (fun z => nomatch z) h
  | @frz a ob xs ea =>
    cases (show u = Value.ref a from rx)
    obtain ⟨_, _, _, n, _, h1⟩ := (show ObjOk X.prog X.w H s.heap a (.frz ob (.lst xs)) from I.hok a _ ea)
    exact PySem.W.kia_one PySem.W.kitx_list I.kIn ⟨_, h1, rfl⟩ e (fun z => nomatch z) h
  | @tup a xs ea =>
    cases (show u = Value.ref a from rx)
    obtain ⟨_, _, _, p⟩ := (show ObjOk X.prog X.w H s.heap a (.tup xs) from I.hok a _ ea)
    obtain ⟨o, h1, h2, _⟩ := p
    exact PySem.W.kia_one PySem.W.kitx_tuple I.kIn ⟨o, h1, h2⟩ e (fun z => nomatch z) h
  | @dK a kvs ea =>
    cases (show u = Value.ref a from rx)
    obtain ⟨_, _, vs, _, p⟩ := (show ObjOk X.prog X.w H s.heap a (.dK kvs) from I.hok a _ ea)
    obtain ⟨o, es, ep, h1, h2, _⟩ := p
    exact PySem.W.kia_one PySem.W.kitx_dict I.kIn ⟨o, h1, h2.1⟩ e (fun z => nomatch z) h
  | @dT a kvs ea =>
    cases (show u = Value.ref a from rx)
    obtain ⟨_, _, xs, _, o, es, ep, h1, h2, _⟩ := (show ObjOk X.prog X.w H s.heap a (.dT kvs) from I.hok a _ ea)
    exact PySem.W.kia_one PySem.W.kitx_dict I.kIn ⟨o, h1, h2.1⟩ e (fun z => nomatch z) h
  | @ins a C dx fs ea cl ha hn htk hm =>
    cases (show u = Value.ref a from rx)
    obtain ⟨mA, O, _⟩ := ins_get I.hok ea
    obtain ⟨od, J, _⟩ := O.look
    exact PySem.W.kia_one (PySem.W.kitx_own (cl.get _) cl.hd ha hn htk hm) I.kIn J e (fun z => nomatch z) h
end
end L2

namespace L2
open PySem PySem.Spec PyProof.Rows

/-! ### room -/
structure Room (k : Nat) (A : Around) : Prop where
  hd : A.handled = none
  dp : A.depth + 3 * k + 5 < recursionLimit
  un : A.units + 16 * k + 200 < cLine
theorem Room.mono {j k : Nat} {A : Around} (r : Room k A) (h : j ≤ k) : Room j A := ⟨r.hd, by have := r.dp; omega, by have := r.un; omega⟩
theorem Room.deeper {k : Nat} {A : Around} (r : Room (k + 1) A) (env : Env) : Room k (A.deeper env) :=
  ⟨r.hd, by have := r.dp; show A.depth + 1 + 3 * k + 5 < _; omega, by have := r.un; show A.units + 3 + 16 * k + 200 < _; omega⟩
theorem Room.depth {k : Nat} {A : Around} (r : Room k A) : A.depth < recursionLimit := by have := r.dp; omega
theorem Room.units {k : Nat} {A : Around} (r : Room k A) : A.units + 64 < cLine := by have := r.un; omega
theorem Room.units0 {k : Nat} {A : Around} (r : Room k A) : A.units < cLine := by have := r.un; omega

/-! ### argument lists and displays -/
def tNil : TA := fun _ H Q => Q [] H
def tCons (ta : TE) (tr : TA) : TA := fun σ H Q => ta σ H fun x H1 => tr σ H1 fun xs H2 => Q (x :: xs) H2
section
variable {X : Cx} {e : Expr} {es : List Expr} {te : TE} {t : TA} {pos : Pos}
theorem pa_nil : PA X [] tNil := fun _ _ _ _ H Q I h => Calls.spliced_nil ⟨[], H, I, .nil, h⟩
theorem pa_cons (ha : PE X e te) (hr : PA X es t) (hs : starEach (e :: es) X.env = (false, eval e X.env) :: starEach es X.env := by rfl) : PA X (e :: es) (tCons te t) := by
  intro pos pins s σ H Q I h
  rw [hs]
  show wpAny _ _ (spliced ((false, eval e X.env) :: backTo pos (starEach es X.env))) _ _ s
  refine Calls.spliced_cons (thn (ha pins s σ H _ I h) fun u s1 ⟨x, H1, I1, r1, q1⟩ => ?_)
  exact thn (hr pos pins s1 σ H1 _ I1 q1) fun us s2 ⟨xs, H2, I2, r2, q2⟩ => ⟨x :: xs, H2, I2, .cons r1 r2, q2⟩

/-- a tuple, a list of written items -/
def tTup (t : TA) : TE := fun σ H Q => t σ H fun xs H1 => xs.length ≤ sizeLine ∧ ∀ p, H1 p = none → Q (.ref p) (upd H1 p (.tup xs))
def tLst (t : TA) : TE := fun σ H Q => t σ H fun xs H1 => xs.length ≤ sizeLine ∧ ∀ p, H1 p = none → Q (.ref p) (upd H1 p (.lst xs))
theorem pe_tup {x1} (h : PA X es t) : PE X (.Tuple es x1 pos) (tTup t) := by
  intro pins s σ H Q I hq
  refine wpAny_Tuple_spliced (thn (h pos pins s σ H _ I hq) fun us s1 ⟨xs, H1, I1, r, z, q⟩ => ⟨by rw [← r.length]; exact z, ?_⟩)
  have hf : H1 s1.heap.objs.size = none := I1.hok.fresh (Nat.le_refl _)
  refine ⟨.ref s1.heap.objs.size, upd H1 s1.heap.objs.size (.tup xs), I1.laid (t' := s1.toks) (fun b u e => Heap.get?_push_of_some _ e) (Nat.le_refl _) ?_, rfl, q _ hf⟩
  exact ⟨z, us, r, ⟨_, Heap.get?_push_size _ rfl, rfl, _, rfl⟩⟩
theorem pe_lst (h : PA X es t) : PE X (.List es pos) (tLst t) := by
  intro pins s σ H Q I hq
  refine wpAny_List_spliced (thn (h pos pins s σ H _ I hq) fun us s1 ⟨xs, H1, I1, r, z, q⟩ => ⟨by rw [← r.length]; exact z, ?_⟩)
  have hf : H1 s1.heap.objs.size = none := I1.hok.fresh (Nat.le_refl _)
  refine ⟨.ref s1.heap.objs.size, upd H1 s1.heap.objs.size (.lst xs), I1.laid (t' := s1.toks) (fun b u e => Heap.get?_push_of_some _ e) (Nat.le_refl _) ?_, rfl, q _ hf⟩
  exact ⟨z, us, 0, r, Heap.get?_push_size _ rfl⟩
end

/-! ### what a def promises -/
/-- a def's promise: the bound arguments in the parameters' order, the heap, the wanted end, the wanted exception -/
abbrev Sp := List V → Hp → VK → XK → Prop
/-- how an exception lies behind a call (file 08 gives it): the callers' frames, abstract heap and state ahead of the call, the wish, the exception, the state -/
abbrev CXT := List Env → Hp → Shared → XK → Value → Shared → Prop

/-- the state at a call -/
structure Env0 (P : Program) (w : World) (K : PySem.W.Frag) (mg : Str → Option Value) (base : Heap) (A : Around) (outer : List Env) (s : Shared) (H : Hp) : Prop where
  frames : A.frames = some outer
  mod : Mod K mg base
  bs : ∀ b o, base.get? b = some o → s.heap.get? b = some o ∧ H b = none
  bsz : base.objs.size ≤ s.heap.objs.size
  funs : s.heap.FunFrames base outer
  frf : ∀ b ∈ frs outer, H b = none
  hok : HOk P w H s.heap
  bare : AllBare s.gens
/-- a call's end -/
def CE (outer : List Env) (P : Program) (w : World) (H : Hp) (s : Shared) (Q : VK) (u : Value) (s' : Shared) : Prop :=
  ∃ v H', s'.os = s.os ∧ AllBare s'.gens ∧ 0 < s'.toks ∧ Un (frs outer) [] H H' s.heap s'.heap ∧ HOk P w H' s'.heap ∧ RelV v u ∧ Q v H'
def CR (CX : CXT) (outer : List Env) (P : Program) (w : World) (H : Hp) (s : Shared) (Q : VK) (E : XK) (r : Result) (s' : Shared) : Prop :=
  match r with
  | .ok (.ret u) => CE outer P w H s Q u s'
  | .ok _ => False
  | .error e => CX outer H s E e s'
structure FnOk (P : Program) (w : World) (K : PySem.W.Frag) (mg : Str → Option Value) (base : Heap) (CX : CXT) (k : Nat) (f : Addr) (fd : FuncData) (ps : List Str) (sp : Sp) : Prop where
  len : ∀ vs H Q E, sp vs H Q E → vs.length = ps.length
  run : ∀ (A : Around) (outer : List Env) (s : Shared) (H : Hp) (args : Args) (us : List Value) (vs : List V) (Q : VK) (E : XK), Room k A → Env0 P w K mg base A outer s H → BindsTo s fd args (ps.zip us) → Vals vs us → sp vs H Q E → (0 < s.toks ∨ ∃ x r, ps = x :: r ∧ fd.scope.names.lookup x = some .local) →
    codeAny (model P w) A (.call (.ref f) args) (CR CX outer P w H s Q E) s
section
variable {X : Cx} {pins : List (Addr × Obj)} {σ : St} {H : Hp} {s s' : Shared}
/-- from a body: what a callee wants -/
theorem Inv.env0 (I : Inv X pins σ H s) : Env0 X.prog X.w X.K X.mg X.base X.A X.stack s H :=
  ⟨I.ok.frames, I.ok.mod, I.bs, Nat.le_trans I.ok.bsz I.sz, I.stack, I.stkFree, I.hok, I.bare⟩
/-- behind a call -/
theorem Inv.after {Q : VK} {u : Value} (I : Inv X pins σ H s) (h : CE X.stack X.prog X.w H s Q u s') : EP X pins σ Q u s' := by
  obtain ⟨v, H', os, bare, htk, un, hok, r, q⟩ := h
  obtain ⟨hh, g, d, t, os'⟩ := s'
  obtain rfl : os' = s.os := os
  exact ⟨v, H', I.call (h' := hh) (g' := g) (d' := d) (t' := t) (ch := []) un hok bare (fun b z => absurd z (by simp)), r, q⟩
end

/-! ### calls -/
/-- f(..): the written arguments, then the defaults dvs; E: what is wanted of an exception -/
def tCall (sp : Sp) (dvs : List V) (E : XK) (t : TA) : TE := fun σ H Q => t σ H fun vs H1 => sp (vs ++ dvs) H1 Q E
/-- how the parameters are bound: us the positional arguments, kw the keywords' values by name, ds the defaults that fill up -/
def Binds (K : PySem.W.Frag) (fd : FuncData) (ps : List Str) (ds : List Value) : Prop :=
  ∀ (s : Shared) (us : List Value), K.In s.heap → (us ++ ds).length = ps.length → BindsTo s fd ⟨us, []⟩ (ps.zip (us ++ ds))
/-- every parameter is given -/
theorem Binds.all {K : PySem.W.Frag} {fd : FuncData} {ps : List Str} (h : ∀ us : List Value, us.length = ps.length → bindArgs fd ⟨us, []⟩ = pure (ps.zip us)) : Binds K fd ps [] := fun s us _ hl => by
  rw [List.append_nil] at hl ⊢
  exact .of_eq (h us hl)

/-- an exception of a callee reaches what this body wants of exceptions -/
def Passes (CX : CXT) (X : Cx) (E : XK) : Prop := ∀ (pins : List (Addr × Obj)) (σ : St) (H : Hp) (s : Shared) (e : Value) (s' : Shared), Inv X pins σ H s → CX X.stack H s E e s' → X.xe e s'

section
variable {X : Cx} {CX : CXT} {k : Nat} {f C : Addr} {fd : FuncData} {ps : List Str} {sp : Sp} {dvs : List V} {ds : List Value} {E : XK} {x m : Str} {p pos apos : Pos} {e o : Expr} {es : List Expr} {ta : TE} {t : TA}

/-- the callee runs -/
theorem run_fn {pins : List (Addr × Obj)} {σ : St} {H : Hp} {s : Shared} {Q : VK} {us : List Value} {vs : List V} (F : FnOk X.prog X.w X.K X.mg X.base CX k f fd ps sp) (hr : Room k X.A) (hb : Binds X.K fd ps ds) (hd : Vals dvs ds) (hx : Passes CX X E)
    (I : Inv X pins σ H s) (r : Vals vs us) (h : sp (vs ++ dvs) H Q E) : wpAny (model X.prog X.w) X.A (call (.ref f) us) (EP X pins σ Q) X.xe s := by
  have r2 : Vals (vs ++ dvs) (us ++ ds) := r.append hd
  have hl : (us ++ ds).length = ps.length := by rw [← r2.length]; exact F.len _ _ _ _ h
  refine wpAny_call (codeAny_mono (F.run X.A X.stack s H ⟨us, []⟩ (us ++ ds) (vs ++ dvs) Q E hr I.env0 (hb s us I.kIn hl) r2 h (.inl I.tk)) fun r s' hq => ?_)
  cases r with
  | error e => exact hx pins σ H s e s' I hq
  | ok fl =>
    cases fl with
    | ret u => exact I.after hq
    | next => exact False.elim hq
    | brk => exact False.elim hq
    | cont => exact False.elim hq

theorem pe_call (F : FnOk X.prog X.w X.K X.mg X.base CX k f fd ps sp) (hr : Room k X.A) (hg : Gl X x) (hm : X.mg x = some (.ref f)) (hk : PySem.W.keepIn X.K (.ref f) = true) (hb : Binds X.K fd ps ds) (hd : Vals dvs ds) (hx : Passes CX X E)
    (ha : PA X (e :: es) t) (hdb : (x == ("__debug__" : Str)) = false := by decide) (he : starEach (e :: es) X.env = (false, eval e X.env) :: starEach es X.env := by rfl) (hpl : (backTo pos (starEach es X.env)).any (·.1) = false := by rfl) :
    PE X (.Call (.Name x p) (e :: es) [] pos) (tCall sp dvs E t) := by
  intro pins s σ H Q I h
  refine wpAny_Call_Name_kw (ld_glob I hg hm ?_ hdb)
  refine PySem.W.callWith_K (h₀ := X.base) I.ok.mod.kin hk (thn (ha pos pins s σ H _ I h) fun us s1 ⟨vs, H1, I1, r, q⟩ => ⟨I1.kIn, ?_⟩) he hpl
  exact run_fn F hr hb hd hx I1 r q
theorem pe_call0 (F : FnOk X.prog X.w X.K X.mg X.base CX k f fd ps sp) (hr : Room k X.A) (hg : Gl X x) (hm : X.mg x = some (.ref f)) (hk : PySem.W.keepIn X.K (.ref f) = true) (hb : Binds X.K fd ps ds) (hd : Vals dvs ds) (hx : Passes CX X E)
    (hdb : (x == ("__debug__" : Str)) = false := by decide) : PE X (.Call (.Name x p) [] [] pos) (tCall sp dvs E tNil) := by
  intro pins s σ H Q I h
  refine wpAny_Call_Name_kw (ld_glob I hg hm ?_ hdb)
  exact PySem.W.callWith_K0 I.kIn hk (run_fn (us := []) F hr hb hd hx I .nil h)

end

/-! ### keywords -/
/-- the values of the keywords, from the left -/
def PK (X : Cx) (kws : List Keyword) (t : TA) : Prop :=
  ∀ (pos : Pos) (pins : List (Addr × Obj)) (s : Shared) (σ : St) (H : Hp) (Q : List V → Hp → Prop), Inv X pins σ H s → t σ H Q → wpAny (model X.prog X.w) X.A (evalAll ((backToKw pos (keywordEach kws X.env)).map (·.2))) (AP X pins σ Q) X.xe s
section
variable {X : Cx} {CX : CXT} {k : Nat} {f C : Addr} {fd : FuncData} {ps ks : List Str} {sp : Sp} {E : XK} {x m : Str} {p pos apos kpos : Pos} {e o : Expr} {es : List Expr} {kws : List Keyword} {te ta : TE} {t tk : TA} {nm : Option Str}
theorem pk_nil : PK X [] tNil := fun _ _ _ _ H Q I h => wpAny_evalAll_nil ⟨[], H, I, .nil, h⟩
theorem pk_cons (ha : PE X e te) (hr : PK X kws t) : PK X (⟨nm, e, kpos⟩ :: kws) (tCons te t) := by
  intro pos pins s σ H Q I h
  show wpAny _ _ (evalAll ((do let v ← eval e X.env; standAt pos; pure v) :: (backToKw pos (keywordEach kws X.env)).map (·.2))) _ _ s
  refine wpAny_evalAll_cons (wpAny_bind (thn (ha pins s σ H _ I h) fun u s1 ⟨x, H1, I1, r1, q1⟩ => wpAny_bind (wpAny_standAt (wpAny_pure ?_))))
  exact thn (hr pos pins s1 σ H1 _ I1 q1) fun us s2 ⟨xs, H2, I2, r2, q2⟩ => ⟨x :: xs, H2, I2, .cons r1 r2, q2⟩

variable {g : List Value → List Value → List Value} {gV : List V → List V → List V}
end

/-! ### a def's body keeps its promise -/
/-- names: the parameters first -/
structure FnScope (N P : List Str) (sc : Scope) : Prop where
  kind : sc.kind = .function
  co : sc.isCoroutine = false
  gen : sc.isGenerator = false
  nd : N.Nodup
  pre : N.take P.length = P
  par : ∀ x ∈ P, sc.names.lookup x = some .local ∨ sc.names.lookup x = some .cell
  nofree : ∀ y ∈ sc.names, y.2 ≠ .free

theorem bindL_out {kindOf : Str → Option NameKind} {x : Str} : ∀ {binds : List (Str × Value)} {m : Str → Option Value}, (∀ v, (x, v) ∉ binds) → bindL kindOf binds m x = m x
  | [], _, _ => rfl
  | (n, v) :: r, m, h => by
    unfold bindL
    rw [bindL_out fun w hw => h w (List.mem_cons_of_mem _ hw)]
    split
    · have : x ≠ n := by rintro rfl; exact h v List.mem_cons_self
      simp [this]
    · rfl
theorem bindC_out {kindOf : Str → Option NameKind} {x : Str} : ∀ {binds : List (Str × Value)} {m : Str → Option Value}, (∀ v, (x, v) ∉ binds) → bindC kindOf binds m x = m x
  | [], _, _ => rfl
  | (n, v) :: r, m, h => by
    unfold bindC
    rw [bindC_out fun w hw => h w (List.mem_cons_of_mem _ hw)]
    split
    · rfl
    · have : x ≠ n := by rintro rfl; exact h v List.mem_cons_self
      simp [this]
theorem bindL_get {kindOf : Str → Option NameKind} {x : Str} {v : Value} : ∀ {P : List Str} {vs : List Value} {i : Nat} {m : Str → Option Value}, P.Nodup → P[i]? = some x → vs[i]? = some v → kindOf x = some .local →
    bindL kindOf (P.zip vs) m x = some v
  | [], _, _, _, _, h, _, _ => by simp at h
  | _ :: _, [], _, _, _, _, h, _ => by simp at h
  | p :: P, w :: vs, 0, m, nd, h1, h2, hk => by
    simp at h1 h2; subst h1; subst h2
    show bindL kindOf ((p, w) :: P.zip vs) m p = _
    unfold bindL
    rw [bindL_out fun v hv => (List.nodup_cons.mp nd).1 (List.of_mem_zip hv).1, if_pos hk]
    simp
  | p :: P, w :: vs, i + 1, m, nd, h1, h2, hk => by
    show bindL kindOf ((p, w) :: P.zip vs) m x = _
    unfold bindL
    exact bindL_get (i := i) (List.nodup_cons.mp nd).2 (by simpa using h1) (by simpa using h2) hk
theorem bindC_get {kindOf : Str → Option NameKind} {x : Str} {v : Value} : ∀ {P : List Str} {vs : List Value} {i : Nat} {m : Str → Option Value}, P.Nodup → P[i]? = some x → vs[i]? = some v → kindOf x ≠ some .local →
    bindC kindOf (P.zip vs) m x = some v
  | [], _, _, _, _, h, _, _ => by simp at h
  | _ :: _, [], _, _, _, _, h, _ => by simp at h
  | p :: P, w :: vs, 0, m, nd, h1, h2, hk => by
    simp at h1 h2; subst h1; subst h2
    show bindC kindOf ((p, w) :: P.zip vs) m p = _
    unfold bindC
    rw [bindC_out fun v hv => (List.nodup_cons.mp nd).1 (List.of_mem_zip hv).1, if_neg hk]
    simp
  | p :: P, w :: vs, i + 1, m, nd, h1, h2, hk => by
    show bindC kindOf ((p, w) :: P.zip vs) m x = _
    unfold bindC
    exact bindC_get (i := i) (List.nodup_cons.mp nd).2 (by simpa using h1) (by simpa using h2) hk

/-- the names' values at the entry -/
def start (N : List Str) (vs : List V) : St := vs.map some ++ List.replicate (N.length - vs.length) none

/-- the context of a def's body, at its entry; an exception leaves the frame, then lies as CX says -/
def cxOf (CX : CXT) (P : Program) (w : World) (K : PySem.W.Frag) (mg : Str → Option Value) (base : Heap) (N : List Str) (qual : Str) (scope : Scope) (f : Addr) (cd : Value) (A : Around) (outer : List Env) (s : Shared) (H : Hp) (E : XK) : Cx where
  prog := P
  w := w
  K := K
  mg := mg
  base := base
  A := A.deeper (envOfC qual scope s.heap.objs.size f cd)
  N := N
  s₀ := s
  H₀ := H
  env := envOfC qual scope s.heap.objs.size f cd
  outer := outer
  stack := envOfC qual scope s.heap.objs.size f cd :: outer
  ex := []
  calm := true
  fn := fun _ => true
  pn := []
  xe := fun e s' => wpAny (model P w) (A.deeper (envOfC qual scope s.heap.objs.size f cd)) (leaving (envOfC qual scope s.heap.objs.size f cd) e) (fun _ s'' => CX outer H s E e s'') (fun e' s'' => CX outer H s E e' s'') s'

theorem cell_has {sc : Scope} {n : Nat} {x : Str} (h : sc.names.lookup x = some .cell) : ∃ c, (cellsFrom n sc.names []).lookup x = some c := by
  have q := PySem.W.cellsFrom_some sc.names n [] (.inl h)
  exact Option.isSome_iff_exists.mp q

theorem inv_start {CX : CXT} {P : Program} {w : World} {K : PySem.W.Frag} {mg : Str → Option Value} {base : Heap} {N ps : List Str} {qual : Str} {scope : Scope} {f : Addr} {cd : Value} {A : Around} {outer : List Env} {s s1 : Shared} {H : Hp} {E : XK} {us : List Value} {vs : List V}
    (S : FnScope N ps scope) (hd : A.handled = none) (e0 : Env0 P w K mg base A outer s H) (hl : vs.length = ps.length) (r : Vals vs us)
    (x : InCallC s s.heap.objs.size (bindL (envOfC qual scope s.heap.objs.size f cd).kindOf (ps.zip us) fun _ => none) (cellsFrom (s.heap.objs.size + 1) scope.names []) (bindC (envOfC qual scope s.heap.objs.size f cd).kindOf (ps.zip us) fun _ => none) s1) (ht1 : 0 < s1.toks) :
    Inv (cxOf CX P w K mg base N qual scope f cd A outer s H E) [] (start N vs) H s1 := by
  have hpl : ps.length ≤ N.length := by have := congrArg List.length S.pre; rw [List.length_take] at this; omega
  obtain ⟨h1, tk, rfl, hk⟩ := x.done
  have noA : ∀ b : Addr, b ∉ (cxOf CX P w K mg base N qual scope f cd A outer s H E).ex := fun b z => absurd (show b ∈ ([] : List Addr) from z) (by simp)
  refine ⟨⟨e0.mod, S.kind, rfl, rfl, Nat.le_refl _, fun y z c h1 h2 => ?_, fun y hy => ?_, fun y c _ h => ?_, fun _ => hd, Around.frames_deeper e0.frames, .inr ⟨rfl, rfl⟩, fun b z => absurd z (noA b), e0.bs, e0.bsz, fun b _ _ => noA b, fun b z => absurd z (noA b), e0.funs, e0.frf⟩,
    rfl, e0.bare, Un.kept hk, ⟨_, x.toInCall.ns, fun i y v h1 h2 h3 => ?_⟩, fun y c h => ⟨_, x.cell y c h⟩, e0.hok.fresh (Nat.le_refl _), fun y c h => ?_, fun p hp => absurd (show p ∈ ([] : List (Addr × Obj)) from hp) (by simp), e0.hok.kept hk, ?_, ht1⟩
  · exact name_of_addr x.apart (PySem.mem_of_lookup h1) (PySem.mem_of_lookup h2)
  · have hy : scope.names.lookup y = some .cell ∨ scope.names.lookup y = some .free := hy
    rcases hy with hy | hy
    · exact cell_has hy
    · exact absurd rfl (S.nofree _ (PySem.mem_of_lookup hy))
  · exact Nat.le_of_lt (x.above y c (PySem.mem_of_lookup h))
  · have hi : i < vs.length := by
      unfold start at h2
      by_cases hi : i < vs.length
      · exact hi
      · rw [List.getElem?_append_right (by simpa using hi)] at h2
        rw [List.getElem?_replicate] at h2
        split at h2 <;> cases h2
    have ha : vs[i]? = some v := by
      unfold start at h2
      rw [List.getElem?_append_left (by simpa using hi), List.getElem?_map] at h2
      cases e : vs[i]? with
      | none => rw [e] at h2; cases h2
      | some a => rw [e] at h2; cases h2; rfl
    obtain ⟨u, hu, rv⟩ := r.get ha
    have hp : ps[i]? = some y := by
      rw [← S.pre, List.getElem?_take_of_lt (by omega)]; exact h1
    have ndP : ps.Nodup := by rw [← S.pre]; exact S.nd.sublist (List.take_sublist _ _)
    refine ⟨u, rv, ?_⟩
    rcases S.par y (List.mem_of_getElem? hp) with k | k
    · exact .inl ⟨k, bindL_get ndP hp hu k⟩
    · obtain ⟨c, e⟩ := cell_has (n := s.heap.objs.size + 1) k
      refine .inr ⟨.inl k, c, e, ?_⟩
      have q := x.cell y c e
      rw [bindC_get ndP hp hu (by show scope.names.lookup y ≠ _; rw [k]; decide)] at q
      exact q
  · exact e0.hok.fresh (Nat.le_of_lt (x.above y c (PySem.mem_of_lookup h)))
  · unfold start
    show _ = N.length
    rw [List.length_append, List.length_map, List.length_replicate]
    omega

theorem bindParams1 {M : Model} {A : Around} {E : Value → Shared → Prop} {s₀ s : Shared} {m cm : Str → Option Value} {env : Env} (f : Str × Value → PUnit → Sem (ForInStep PUnit)) (hf : ∀ n v u, f (n, v) u = (do storeName env n v; pure (.yield ⟨⟩))) (hfn : env.scope.kind = .function)
    (n : Str) (v : Value) (r : List (Str × Value)) (Q : PUnit → Shared → Prop) (x : InCallC s₀ env.locals m env.cells cm s) (hl : env.kindOf n = some .local)
    (hrs : ∀ x ∈ r, env.kindOf x.1 = some .local ∨ (env.kindOf x.1 = some .cell ∧ (env.cells.lookup x.1).isSome = true))
    (h : ∀ s', InCallC s₀ env.locals (bindL env.kindOf ((n, v) :: r) m) env.cells (bindC env.kindOf ((n, v) :: r) cm) s' → 0 < s'.toks → Q ⟨⟩ s') : wpAny M A (forIn ((n, v) :: r) ⟨⟩ f) Q E s := by
  rw [List.forIn_cons, hf]
  refine wpAny_bind (wpAny_bind (wpAny_storeName_local hl x.toInCall.ns (fun h' hn' hs' => wpAny_pure ?_) (by rw [hfn]; rfl)))
  have x1 : InCallC s₀ env.locals (fun y => if y = n then some v else m y) env.cells cm { s with heap := h', toks := s.toks + 1 } := by
    refine ⟨⟨?_, hn', fun b o e => ?_, x.toInCall.fresh⟩, fun k c hc => ?_, x.apart, x.above⟩
    · obtain ⟨h₁, tk, rfl⟩ := x.toInCall.same
      exact ⟨h', _, rfl⟩
    · have := x.toInCall.keep b o e; exact hs'.extBut b o (Nat.ne_of_lt (Nat.lt_of_lt_of_le (Heap.lt_size e) x.toInCall.fresh)) (x.toInCall.keep b o e)
    · exact (x.cell k c hc).sameBut hs' (Nat.ne_of_gt (x.above k c (mem_of_lookup hc)))
  refine wpAny_with_toks (n := 1) (Nat.succ_le_succ (Nat.zero_le _)) (wpAny_bindParams f hf hfn r _ _ _ _ x1 hrs fun s' y h1 => h s' ?_ h1)
  unfold bindL bindC
  rw [if_pos hl, if_pos hl]
  exact y
theorem newEnv_tk {M : Model} {A : Around} {E : Value → Shared → Prop} {s : Shared} {scope : Scope} {globals : Addr} {binds : List (Str × Value)} {qual : Str} {func : Option Addr} {code : Value} {builtins : Addr} {Q : Env → Shared → Prop}
    (hfn : scope.kind = .function)
    (hks : ∀ x ∈ binds, scope.names.lookup x.1 = some .local ∨ (scope.names.lookup x.1 = some .cell ∧ ((cellsFrom (s.heap.objs.size + 1) scope.names []).lookup x.1).isSome = true))
    (htk : 0 < s.toks ∨ ∃ n v r, binds = (n, v) :: r ∧ scope.names.lookup n = some .local)
    (hq : ∀ en, en = newEnv scope s.heap.objs.size globals (cellsFrom (s.heap.objs.size + 1) scope.names []) qual func code none builtins →
      ∀ s', InCallC s en.locals (bindL en.kindOf binds fun _ => none) en.cells (bindC en.kindOf binds fun _ => none) s' → 0 < s'.toks → Q en s') :
    wpAny M A (newFunctionEnv scope globals [] binds qual func code none builtins) Q E s := by
  rcases htk with htk | ⟨n, v, r, rfl, hl⟩
  · exact wpAny_with_toks (n := 1) htk (wpAny_newFunctionEnv_cells hfn hks fun env he s' x h1 => hq env he s' x h1)
  · simp only [newFunctionEnv, Option.isSome_none, Bool.false_eq_true, if_false]; refine wpAny_bind (wpAny_alloc ?_); refine wpAny_bind (wpAny_layCells _ (fun name kind cells => by cases hkc : kind == NameKind.cell <;> simp [hkc]) _ _ _ _ ?_)
    have okc := cellsFrom_ok scope.names (s.heap.push { cls := .type "frame", data := .dict #[] }) (s.heap.objs.size + 1) [] ⟨fun _ _ hm => (nomatch hm), List.Pairwise.nil⟩ (by rw [Heap.size_push]; exact Nat.le_refl _); rw [Heap.size_push] at okc; rw [show ({ s with heap := s.heap.push { cls := .type "frame", data := .dict #[] } } : Shared).heap.objs.size = s.heap.objs.size + 1 from Heap.size_push ..]
    exact wpAny_bind (bindParams1 (s₀ := s) (env := newEnv scope s.heap.objs.size globals (cellsFrom (s.heap.objs.size + 1) scope.names []) qual func code none builtins)
      _ (fun _ _ _ => rfl) hfn n v r _
      ⟨⟨⟨_, _, by rfl⟩, (Heap.Ns.new s.heap (.type "frame")).keeps (pushCells_keeps _ _), fun b o e => pushCells_keeps _ _ b o (Heap.get?_push_of_some _ e), Nat.le_refl _⟩,
        fun m c hc => (okc.empty m c (mem_of_lookup hc)).1, okc.apart, fun n c hm => (okc.empty n c hm).2⟩
      hl (fun y hy => hks y (List.mem_cons_of_mem _ hy)) fun s' x h1 => wpAny_pure (hq _ rfl s' x h1))

/-- THE RULE: a def (or a method) of the text, by its body. The body's reading t is chosen for each entry; it is run at the parameters' values -/
theorem fn_of {CX : CXT} {P : Program} {w : World} {K : PySem.W.Frag} {mg : Str → Option Value} {base : Heap} {k : Nat} {f : Addr} {name qual : Str} {params : Arguments} {body : List Stmt} {scope : Scope} {dV kV doc pm cdv ct oc : Value} {an od : Option Addr}
    {osl : Array (Option Value)} {N ps : List Str} {sp : Sp} (lk : K.lookup f = some ⟨oc, od, .func (PySem.W.fnOf name qual params body scope dV kV doc pm an cdv ct), osl⟩) (hcd : PySem.W.codeIn K cdv qual = true) (S : FnScope N ps scope)
    (len : ∀ vs H Q E, sp vs H Q E → vs.length = ps.length)
    (hbody : ∀ (A : Around) (outer : List Env) (s : Shared) (H : Hp) (vs : List V) (Q : VK) (E : XK), Room k (A.deeper (envOfC qual scope s.heap.objs.size f cdv)) → sp vs H Q E →
      ∃ t, PSs (cxOf CX P w K mg base N qual scope f cdv A outer s H E) body t ∧ t { nx := fun _ H' => Q .non H', rt := Q } (start N vs) H) :
    FnOk P w K mg base CX (k + 1) f (PySem.W.fnOf name qual params body scope dV kV doc pm an cdv ct) ps sp := by
  refine ⟨len, fun A outer s H args us vs Q E hr e0 hb r hsp htk => ?_⟩
  have hl := len _ _ _ _ hsp
  have KX : K.In s.heap := e0.mod.kin.keeps fun b o e => (e0.bs b o e).1
  have lim : s.heap.NoLimit := e0.mod.nolimit.keeps fun b o e => (e0.bs b o e).1
  have hkind : ∀ y ∈ ps.zip us, scope.names.lookup y.1 = some .local ∨ (scope.names.lookup y.1 = some .cell ∧ ((cellsFrom (s.heap.objs.size + 1) scope.names []).lookup y.1).isSome = true) := fun ⟨n, v⟩ hy => by
    rcases S.par n (List.of_mem_zip hy).1 with q | q
    · exact .inl q
    · exact .inr ⟨q, PySem.W.cellsFrom_some _ _ _ (.inl q)⟩
  have htk' : 0 < s.toks ∨ ∃ n v r, ps.zip us = (n, v) :: r ∧ scope.names.lookup n = some .local := by
    rcases htk with h | ⟨y, q, e, hy⟩
    · exact .inl h
    · have : us.length = ps.length := by rw [← r.length]; exact hl
      subst e
      match us, this with
      | u :: us', _ => exact .inr ⟨y, u, q.zip us', rfl, hy⟩
  refine codeAny_call_function hr.depth (KX _ _ lk) rfl S.co S.gen rfl (PySem.W.codeRec_of KX hcd) (hb _ _ _ _ ?_)
  refine newEnv_tk S.kind hkind htk' fun env he s1 x ht1 => ?_
  subst he
  refine ⟨lim.keeps x.toInCall.keep, codeAny_func ?_⟩
  obtain ⟨t, ht, hq⟩ := hbody A outer s H vs Q E (hr.deeper _) hsp
  have I : Inv (cxOf CX P w K mg base N qual scope f cdv A outer s H E) [] (start N vs) H s1 := inv_start S hr.hd e0 hl r x ht1
  refine wpAny_mono (ht [] s1 (start N vs) H _ I hq) (fun fl s' hs => ?_) fun e s' hs => hs
  have fin : ∀ {σ' : St} {H' : Hp} {v : V} {u : Value}, Inv (cxOf CX P w K mg base N qual scope f cdv A outer s H E) [] σ' H' s' → RelV v u → Q v H' → CE outer P w H s Q u s' :=
    fun {σ' H' v u} J rv q => ⟨v, H', J.os, J.bare, J.tk, J.base, J.hok, rv, q⟩
  cases fl with
  | ret u =>
    obtain ⟨v, σ', H', J, rv, q⟩ := hs
    exact fin J rv q
  | next =>
    obtain ⟨σ', H', J, q⟩ := hs
    exact fin (v := V.non) (u := Value.none) J rfl q
  | brk =>
    obtain ⟨_, _, _, q⟩ := hs
    exact False.elim q
  | cont =>
    obtain ⟨_, _, _, q⟩ := hs
    exact False.elim q
end L2

namespace L2
open PySem PySem.Spec PyProof.Rows
section
variable {X : Cx} {x : Str} {p pos : Pos} {e : Expr} {es : List Expr} {t : TA} {id T : String} {r : List V → Hp → VK → Prop}

def tCB (r : List V → Hp → VK → Prop) (t : TA) : TE := fun σ H Q => t σ H fun vs H1 => r vs H1 Q
/-- f(e, ..), f a built-in function -/
theorem pe_callB (hc : CallR X (.builtin id) r) (hg : Gl X x) (hm : X.mg x = none) (hv : bootBuiltins x = some (.builtin id)) (ha : PA X (e :: es) t) (hn : x ≠ "__name__" := by decide) (hdb : (x == ("__debug__" : Str)) = false := by decide)
    (he : starEach (e :: es) X.env = (false, eval e X.env) :: starEach es X.env := by rfl) (hpl : (backTo pos (starEach es X.env)).any (·.1) = false := by rfl) : PE X (.Call (.Name x p) (e :: es) [] pos) (tCB r t) := by
  intro pins s σ H Q I h
  refine wpAny_Call_Name_kw (ld_blt I hg hm hv ?_ hn hdb)
  exact PyProof.Rows.callWith_builtin1 (thn (ha pos pins s σ H _ I h) fun us s1 ⟨vs, H1, I1, r1, q1⟩ => hc pins s1 σ H1 vs us Q I1 r1 q1) he hpl
/-- T(e, ..), T a built-in type -/
theorem pe_callTy (hc : CallR X (.type T) r) (hg : Gl X x) (hm : X.mg x = none) (hv : bootBuiltins x = some (.type T)) (ha : PA X (e :: es) t) (hn : x ≠ "__name__" := by decide) (hdb : (x == ("__debug__" : Str)) = false := by decide)
    (he : starEach (e :: es) X.env = (false, eval e X.env) :: starEach es X.env := by rfl) (hpl : (backTo pos (starEach es X.env)).any (·.1) = false := by rfl) : PE X (.Call (.Name x p) (e :: es) [] pos) (tCB r t) := by
  intro pins s σ H Q I h
  refine wpAny_Call_Name_kw (ld_blt I hg hm hv ?_ hn hdb)
  exact PyProof.Rows.callWith_type1 (thn (ha pos pins s σ H _ I h) fun us s1 ⟨vs, H1, I1, r1, q1⟩ => hc pins s1 σ H1 vs us Q I1 r1 q1) he hpl
end
end L2

namespace HT
open PySem PyProof.Rows

section
open PySem.SeqAt
open PySem.AutoSeq1 (wpAny_loadPart')
open PySem.MeetsSeq PySem.MeetsSeq2 PySem.MeetsSeq3

end

section
variable {prog : Program} {w : World} {A : Around} {E : Value → Shared → Prop} {s : Shared}

/-! ### t[a:b], not the whole -/
/-- a slice's bound as a place among n (d where it is left out) -/
def sIx (n d : Nat) : Option Int → Nat
  | none => d
  | some v => if v < 0 then (v + (n : Int)).toNat else min v.toNat n
end
end HT

namespace L2
open PySem PySem.Spec PyProof.Rows

/-! ### the parts of a slice -/
abbrev TO := St → Hp → (Option Int → Hp → Prop) → Prop
/-- a slice's part (left out, or an int) -/
def PO (X : Cx) (e : Option Expr) (t : TO) : Prop :=
  ∀ (pins : List (Addr × Obj)) (s : Shared) (σ : St) (H : Hp) (Q : Option Int → Hp → Prop), Inv X pins σ H s → t σ H Q →
    wpAny (model X.prog X.w) X.A (evalPart e X.env) (fun u s' => ∃ o H', Inv X pins σ H' s' ∧ IsPart u o ∧ Q o H') X.xe s
def tNoPart : TO := fun _ H Q => Q none H
def tPart (t : TE) : TO := fun σ H Q => t σ H fun x H1 => ∃ i, x = .int i ∧ Q (some i) H1

theorem intsAre_of {ns : List Int} : ∀ {us : List Value}, Vals (ns.map V.int) us → IntsAre us ns := by
  induction ns with
  | nil => intro us r; rw [List.map_nil] at r; cases r; exact .nil
  | cons n ns ih =>
    intro us r
    rw [List.map_cons] at r
    cases r with
    | cons r1 r2 =>
      obtain ⟨t, e⟩ := r1
      subst e
      exact .cons n t (ih r2)

section
variable {X : Cx} {e : Expr} {te : TE} {lo hi : Option Expr} {tl th : TO} {pos p2 : Pos}

theorem po_none : PO X none tNoPart := by
  intro pins s σ H Q I h
  rw [evalPart_none]
  exact wpAny_pure ⟨none, H, I, .none, h⟩
theorem po_some (h : PE X e te) : PO X (some e) (tPart te) := by
  intro pins s σ H Q I hw
  rw [evalPart_some]
  refine thn (h pins s σ H _ I hw) fun u s1 ⟨x, H1, I1, r1, q1⟩ => ?_
  obtain ⟨i, rfl, q⟩ := q1
  obtain ⟨t, rfl⟩ := r1
  exact ⟨some i, H1, I1, .int i t, q⟩

/-- what a slice of a value is, by values: the slice object stands at sl -/
def SlR (X : Cx) (r : V → Option Int → Option Int → Hp → VK → Prop) : Prop :=
  ∀ (pins : List (Addr × Obj)) (s : Shared) (σ : St) (H : Hp) (x : V) (v vl vu : Value) (lo hi : Option Int) (sl : Addr) (Q : VK), Inv X pins σ H s → RelV x v → s.heap.IsSliceOf sl vl vu .none → IsPart vl lo → IsPart vu hi → r x lo hi H Q →
    ∃ T id, typeLookup (.type T) "__getitem__" = pure (some (.builtin id)) ∧ s.TypeIs v T ∧ wpAny (model X.prog X.w) X.A (getItem v (.ref sl)) (EP X pins σ Q) X.xe s
def tSl (r : V → Option Int → Option Int → Hp → VK → Prop) (te : TE) (tl th : TO) : TE := fun σ H Q => te σ H fun x H1 => tl σ H1 fun l H2 => th σ H2 fun u H3 => r x l u H3 Q
/-- a[lo:hi], any a -/
theorem pe_slice {r : V → Option Int → Option Int → Hp → VK → Prop} (hr : SlR X r) (he : PE X e te) (hl : PO X lo tl) (hu : PO X hi th) : PE X (.Subscript e (.Slice lo hi none p2) pos) (tSl r te tl th) := by
  intro pins s σ H Q I h
  refine Subscript_ (thn (he pins s σ H _ I h) fun v s1 ⟨x, H1, I1, r1, q1⟩ => ?_)
  refine wpAny_Slice (thn (hl pins s1 σ H1 _ I1 q1) fun vl s2 ⟨l, H2, I2, pl, q2⟩ => thn (hu pins s2 σ H2 _ I2 q2) fun vu s3 ⟨u, H3, I3, pu, q3⟩ => ?_)
  rw [evalPart_none]
  refine wpAny_pure ?_
  have I4 : Inv X pins σ H3 { s3 with heap := s3.heap.push { cls := .type "slice", data := .fields #[vl, vu, .none] } } := I3.kept (t' := s3.toks) fun b ob q => Heap.get?_push_of_some _ q
  obtain ⟨T, id, hT, ht, hg⟩ := hr pins { s3 with heap := s3.heap.push { cls := .type "slice", data := .fields #[vl, vu, .none] } } σ H3 x v vl vu l u s3.heap.objs.size Q I4 r1 (Heap.IsSliceOf.new ..) pl pu q3
  show wpAny (model X.prog X.w) X.A (subscriptTail e (.Slice lo hi none p2) v (.ref s3.heap.objs.size)) (EP X pins σ Q) X.xe { s3 with heap := s3.heap.push { cls := .type "slice", data := .fields #[vl, vu, .none] } }
  exact tail_any (ops := [.ref s3.heap.objs.size, v]) ht hT hg (by with_unfolding_all rfl)

/-- the items of xs[lo:hi] -/
def cutV (xs : List V) (lo hi : Option Int) : List V := (xs.drop (HT.sIx xs.length 0 lo)).take (HT.sIx xs.length xs.length hi - HT.sIx xs.length 0 lo)
theorem cutV_length (xs : List V) (lo hi : Option Int) : (cutV xs lo hi).length ≤ xs.length := by
  unfold cutV
  rw [List.length_take, List.length_drop]
  omega
/-! ### t < u, t + u -/
end
end L2

namespace L2
open PySem PySem.Spec PyProof.Rows

/-! ### places -/
/-- the place that an index of any sign means -/
def ixN (n : Nat) (i : Int) : Option Nat := if 0 ≤ i then (if i < n then some i.toNat else none) else if -(n : Int) ≤ i then some (i + n).toNat else none
def atI {α : Type} (xs : List α) (i : Int) : Option α := (ixN xs.length i).bind fun j => xs[j]?
theorem ixN_seq {n : Nat} {i : Int} {j : Nat} (h : ixN n i = some j) : seqIndex? i n = some j ∧ j < n ∧ -(n : Int) ≤ i ∧ i < n := by
  unfold ixN at h
  by_cases h0 : 0 ≤ i
  · rw [if_pos h0] at h
    by_cases h1 : i < n
    · rw [if_pos h1] at h
      have e : i.toNat = j := Option.some.inj h
      exact ⟨by rw [seqIndex_of h0 h1, e], by omega, by omega, h1⟩
    · rw [if_neg h1] at h; cases h
  · rw [if_neg h0] at h
    by_cases h1 : -(n : Int) ≤ i
    · rw [if_pos h1] at h
      have e : (i + n).toNat = j := Option.some.inj h
      exact ⟨by rw [seqIndex_neg (by omega) h1, e], by omega, h1, by omega⟩
    · rw [if_neg h1] at h; cases h
theorem atI_get {α : Type} {xs : List α} {i : Int} {v : α} (h : atI xs i = some v) : ∃ j, seqIndex? i xs.length = some j ∧ xs[j]? = some v ∧ j < xs.length ∧ -(xs.length : Int) ≤ i ∧ i < xs.length := by
  unfold atI at h
  cases e : ixN xs.length i with
  | none => rw [e] at h; cases h
  | some j =>
    rw [e] at h
    obtain ⟨h1, h2, h3, h4⟩ := ixN_seq e
    exact ⟨j, h1, h, h2, h3, h4⟩
theorem atI_nat {α : Type} {xs : List α} {j : Nat} {v : α} (h : xs[j]? = some v) : atI xs (j : Int) = some v := by
  have hj : j < xs.length := (List.getElem?_eq_some_iff.mp h).1
  have e : ixN xs.length (j : Int) = some j := by
    unfold ixN
    rw [if_pos (by omega), if_pos (by omega)]; simp
  unfold atI; rw [e]; exact h
/-! ### what may be subscripted -/
/-- what stands as an index of a plain subscript -/
def PlainIx (b : Expr) : Prop := ∀ o i, subscripted b false o i = operate [o, i] (getItem o i)
/-- a subscript by values -/
def IxR (X : Cx) (r : R2) : Prop :=
  ∀ (value slice : Expr) (pins : List (Addr × Obj)) (s : Shared) (σ : St) (H : Hp) (x y : V) (v u : Value) (Q : VK), Inv X pins σ H s → RelV x v → RelV y u → r x y H Q →
    subscripted slice false v u = operate [v, u] (getItem v u) → wpAny (model X.prog X.w) X.A (subscriptTail value slice v u) (EP X pins σ Q) X.xe s
/-- a call of a builtin's method by values: the receiver, the arguments -/
def MtR (X : Cx) (id : String) (r : V → List V → Hp → VK → Prop) : Prop :=
  ∀ (pins : List (Addr × Obj)) (s : Shared) (σ : St) (H : Hp) (x : V) (xs : List V) (v : Value) (us : List Value) (Q : VK), Inv X pins σ H s → RelV x v → Vals xs us → r x xs H Q →
    wpAny (model X.prog X.w) X.A (call (.builtin id) (v :: us)) (EP X pins σ Q) X.xe s
section
variable {X : Cx} {a b : Expr} {ta tb : TE} {pos : Pos}
theorem IxR.or {r r' : R2} (h : IxR X r) (h' : IxR X r') : IxR X (fun x y H Q => r x y H Q ∨ r' x y H Q) := by
  intro value slice pins s σ H x y v u Q I rx ry q hs
  rcases q with q | q
  · exact h value slice pins s σ H x y v u Q I rx ry q hs
  · exact h' value slice pins s σ H x y v u Q I rx ry q hs
/-- a[b] -/
theorem pe_ix {r : R2} (hr : IxR X r) (ha : PE X a ta) (hb : PE X b tb) (hs : PlainIx b) : PE X (.Subscript a b pos) (tOp r ta tb) := by
  intro pins s σ H Q I h
  exact Subscript_ (binT ha hb I h fun v u s2 x y H2 I2 rx ry q => hr a b pins s2 σ H2 x y v u Q I2 rx ry q (hs _ _))

def rIxL (K : PySem.W.Frag) : R2 := fun x y H Q => ∃ p xs i v, x = .ref p ∧ y = .int i ∧ SqL K H p xs ∧ atI xs i = some v ∧ Q v H
def rIxT (K : PySem.W.Frag) : R2 := fun x y H Q => ∃ p xs i v, x = .ref p ∧ y = .int i ∧ SqT K H p xs ∧ atI xs i = some v ∧ Q v H
def rIxS : R2 := fun x y H Q => ∃ z i c, x = .str z ∧ y = .int i ∧ z.length ≤ sizeLine ∧ atI z.cps.toList i = some c ∧ Q (.str ⟨#[c]⟩) H
theorem ix_list : IxR X (rIxL X.K) := by
  intro value slice pins s σ H x y v u Q I rx ry h hs
  obtain ⟨p, xs, i, z, rfl, rfl, hq, he, q⟩ := h
  cases rx
  obtain ⟨t, rfl⟩ := ry
  obtain ⟨its, r, pl, hz⟩ := I.list hq
  obtain ⟨j, h1, h2, h3, h4, h5⟩ := atI_get he
  obtain ⟨w, ew, rw'⟩ := r.get h2
  have hl := r.length
  have hn := line63
  have fin : EP X pins σ Q w s := ⟨z, H, I, rw', q⟩
  by_cases h0 : 0 ≤ i
  · have hj : i.toNat = j := by
      rw [seqIndex_of h0 h5] at h1
      exact Option.some.inj h1
    exact item_listR pl.isList h0 (by omega) (by rw [hj]; simpa using ew) fin hs
  · have hj : (i + (its.toArray.size : Int)).toNat = j := by
      rw [seqIndex_neg (by omega) h4] at h1
      rw [List.size_toArray, ← hl]
      exact Option.some.inj h1
    exact subscriptTail_builtinR (x := w) pl.isList.typeIs slot_list_getitem.lookup
      (wpAny_getItem_list_neg (Q := fun r s' => r = w ∧ EP X pins σ Q r s') pl.isList (by omega) (by rw [List.size_toArray] <;> omega) (by omega) (by rw [hj]; simpa using ew) ⟨rfl, fin⟩) hs
theorem ix_tup : IxR X (rIxT X.K) := by
  intro value slice pins s σ H x y v u Q I rx ry h hs
  obtain ⟨p, xs, i, z, rfl, rfl, hq, he, q⟩ := h
  cases rx
  obtain ⟨t, rfl⟩ := ry
  obtain ⟨its, r, pl, hz⟩ := I.tuple hq
  obtain ⟨j, h1, h2, h3, h4, h5⟩ := atI_get he
  obtain ⟨w, ew, rw'⟩ := r.get h2
  have hl := r.length
  have hn := line63
  have fin : EP X pins σ Q w s := ⟨z, H, I, rw', q⟩
  exact subscriptTail_builtinR (x := w) pl.typeIs slot_tuple_getitem.lookup
    (getItem_tuple (j := j) (Q := fun r s' => r = w ∧ EP X pins σ Q r s') pl (by omega) (by omega) (by rw [List.size_toArray, ← hl]; exact h1) (by simpa using ew) ⟨rfl, fin⟩) hs
theorem ix_str : IxR X rIxS := by
  intro value slice pins s σ H x y v u Q I rx ry h hs
  obtain ⟨z, i, c, rfl, rfl, hz, he, q⟩ := h
  obtain ⟨t, rfl⟩ := rx
  obtain ⟨t', rfl⟩ := ry
  obtain ⟨j, h1, h2, h3, h4, h5⟩ := atI_get he
  have hl : z.cps.toList.length = z.length := by simp [Str.length]
  rw [hl] at h1 h4 h5
  have hn := line63
  exact tail_any (typeIs_str s z t) slot_str_getitem.lookup (getItem_str (c := c) (by
    have e1 : decide (i < -(2 ^ 63 : Int)) = false := decide_eq_false (by omega)
    have e2 : decide (i ≥ 2 ^ 63) = false := decide_eq_false (by omega)
    rw [e1, e2, Bool.or_false]) (by rw [h1]; simpa using h2) ⟨.str ⟨#[c]⟩, H, I.tok _, ⟨_, rfl⟩, q⟩) hs
/-- list, tuple or str -/
def rIx (K : PySem.W.Frag) : R2 := fun x y H Q => rIxL K x y H Q ∨ rIxT K x y H Q ∨ rIxS x y H Q
theorem ix_seq : IxR X (rIx X.K) := ix_list.or (ix_tup.or ix_str)

/-! ### xs[i] = v, any sign -/
/-- the list's object behind a store -/
theorem mapSeq_set (its : List Value) (n j : Nat) (u : Value) : Obj.mapSeq (·.setIfInBounds j u) { cls := .type "list", data := .seq its.toArray n } = { cls := .type "list", data := .seq (its.set j u).toArray n } := by
  simp [Obj.mapSeq]
theorem Inv.lst {pins : List (Addr × Obj)} {σ : St} {H : Hp} {s : Shared} {p : Addr} {xs : List V} (I : Inv X pins σ H s) (h : H p = some (.lst xs)) :
    ∃ (its : List Value) (n : Nat), Vals xs its ∧ s.heap.get? p = some { cls := .type "list", data := .seq its.toArray n } ∧ xs.length ≤ sizeLine := by
  obtain ⟨z, its, n, r, e⟩ := I.hok p _ h
  exact ⟨its, n, r, e, z⟩
/-- the list at p is written by an update of its object -/
theorem Inv.lstUpd {pins : List (Addr × Obj)} {σ : St} {H : Hp} {s : Shared} {p : Addr} {xs ys : List V} {its its' : List Value} {n n' : Nat} {f : Obj → Obj} (I : Inv X pins σ H s) (h : H p = some (.lst xs))
    (ho : s.heap.get? p = some { cls := .type "list", data := .seq its.toArray n }) (hf : f { cls := .type "list", data := .seq its.toArray n } = { cls := .type "list", data := .seq its'.toArray n' }) (r : Vals ys its') (hz : ys.length ≤ sizeLine) (t : Nat) (ht : 0 < t := by ((try dsimp only); first | assumption | exact Inv.tk (by assumption) | exact Nat.succ_pos _ | exact Nat.lt_of_lt_of_le (Inv.tk (by assumption)) (by assumption) | exact Nat.add_pos_left (Inv.tk (by assumption)) _ | omega)) :
    Inv X pins σ (upd H p (.lst ys)) { s with heap := s.heap.update p f, toks := t } := by
  have e : (s.heap.update p f).get? p = some { cls := .type "list", data := .seq its'.toArray n' } := by
    rw [Heap.get?_update_self f ho (by rw [hf] <;> rfl), hf]
  refine I.write (x := p) (e := p) (by rw [h]; trivial) (.inl rfl) (fun b u hb q => (Heap.get?_update_other _ _ (Ne.symm hb)).trans q) ⟨_, e⟩ ?_
  exact ⟨hz, its', n', r, e⟩
def rSetL : V → V → V → Hp → (Hp → Prop) → Prop := fun o i v H Q => ∃ p xs k j, o = .ref p ∧ i = .int k ∧ H p = some (.lst xs) ∧ ixN xs.length k = some j ∧ Q (upd H p (.lst (xs.set j v)))
theorem set_list : PSet X rSetL := by
  intro pins s σ H o i v ov iv u Q I ro ri rv h
  obtain ⟨p, xs, k, j, rfl, rfl, hp, hj, q⟩ := h
  cases ro
  obtain ⟨t, rfl⟩ := ri
  obtain ⟨its, n, r, ho, hz⟩ := I.lst hp
  obtain ⟨h1, h2, h3, h4⟩ := ixN_seq hj
  have hl := r.length
  have hn := line63
  have I' : Inv X pins σ (upd H p (.lst (xs.set j v))) { s with heap := s.heap.update p (Obj.mapSeq (·.setIfInBounds j u)) } :=
    I.lstUpd hp ho (mapSeq_set its n j u) (r.set rv j) (by rw [List.length_set]; exact hz) s.toks
  by_cases h0 : 0 ≤ k
  · have hk : k.toNat = j := by
      rw [seqIndex_of h0 h4] at h1
      exact Option.some.inj h1
    exact PySem.W.ki_setAt ho h0 (by omega) (by rw [List.size_toArray, ← hl]; exact h4) (by rw [hk]; exact ⟨_, I', q⟩)
  · have hk : (k + (its.toArray.size : Int)).toNat = j := by
      rw [seqIndex_neg (by omega) h3] at h1
      rw [List.size_toArray, ← hl]
      exact Option.some.inj h1
    exact PySem.W.ki_setBack ho (by omega) (by rw [List.size_toArray, ← hl]; exact h3) (by omega) (by rw [hk]; exact ⟨_, I', q⟩)

/-! ### slices -/
theorem slice_bounds (lo hi : Option Int) (n : Nat) : (sliceBounds lo hi none n).1 = ((HT.sIx n 0 lo : Nat) : Int) ∧ (sliceBounds lo hi none n).2.1 = ((HT.sIx n n hi : Nat) : Int) ∧ (sliceBounds lo hi none n).2.2 = 1 := by
  refine ⟨?_, ?_, rfl⟩
  · cases lo with
    | none => simp [sliceBounds, HT.sIx]
    | some i =>
      simp only [sliceBounds, HT.sIx, Option.getD_none, show (1 : Int) > 0 by decide, if_true]
      by_cases h : i < 0
      · simp only [h, if_true] <;> omega
      · simp only [h, if_false] <;> omega
  · cases hi with
    | none => simp [sliceBounds, HT.sIx]
    | some i =>
      simp only [sliceBounds, HT.sIx, Option.getD_none, show (1 : Int) > 0 by decide, if_true]
      by_cases h : i < 0
      · simp only [h, if_true] <;> omega
      · simp only [h, if_false] <;> omega
theorem slicePick_cut (its : List Value) (lo hi : Option Int) : slicePick its.toArray lo hi none = ((its.drop (HT.sIx its.length 0 lo)).take (HT.sIx its.length its.length hi - HT.sIx its.length 0 lo)).toArray := by
  obtain ⟨h1, h2, h3⟩ := slice_bounds lo hi its.toArray.size
  unfold slicePick
  rw [h1, h2, h3]
  simp only [sliceRange_one, pick_run, List.size_toArray] <;> rfl
/-- xs[lo:hi] of a list: a new list -/
def rSlL (K : PySem.W.Frag) : V → Option Int → Option Int → Hp → VK → Prop := fun x lo hi H Q => ∃ a xs, x = .ref a ∧ SqL K H a xs ∧ ∀ p, H p = none → Q (.ref p) (upd H p (.lst (cutV xs lo hi)))
theorem sl_list : SlR X (rSlL X.K) := by
  intro pins s σ H x v vl vu lo hi sl Q I rx hs pl pu h
  obtain ⟨a, xs, rfl, hx, q⟩ := h
  cases rx
  obtain ⟨its, r, ht, hz⟩ := I.list hx
  have hlen := r.length
  refine ⟨"list", _, slot_list_getitem.lookup, ht.isList.typeIs, ?_⟩
  refine wpAny_getItem_list_slice ht.isList hs pl pu .none (by simp) ?_ (by rw [List.size_toArray] <;> omega)
  rw [slicePick_cut, ← hlen]
  refine ⟨.ref s.heap.objs.size, _, I.laid (t' := s.toks) (o := .lst (cutV xs lo hi)) (fun b ob q => Heap.get?_push_of_some _ q) (Nat.le_refl _) ?_, rfl, q _ (I.hok.fresh (Nat.le_refl _))⟩
  exact ⟨Nat.le_trans (cutV_length xs lo hi) hz, _, 0, (r.drop (HT.sIx xs.length 0 lo)).take (HT.sIx xs.length xs.length hi - HT.sIx xs.length 0 lo), Heap.get?_push_size _ rfl⟩

/-! ### in, not in: flat items -/
def flatV : V → Bool
  | .non => true
  | .bl _ => true
  | .int _ => true
  | .str _ => true
  | _ => false
/-- == of flat values -/
def eqV : V → V → Bool
  | .non, .non => true
  | .bl a, .bl b => a == b
  | .bl a, .int b => (if a then 1 else 0) == b
  | .int a, .bl b => a == (if b then 1 else 0)
  | .int a, .int b => a == b
  | .str a, .str b => a == b
  | _, _ => false
theorem eqAt_V {A : Around} {s : Shared} {y x : V} {u v : Value} (ry : RelV y u) (rx : RelV x v) (fy : flatV y = true) (fx : flatV x = true) : SeqAt.EqAt A s u v (eqV y x) := by
  cases y with
  | non =>
    cases ry
    cases x with
    | non => cases rx; exact SeqAt.EqAt.same _
    | bl b => cases rx; exact SeqAt.EqAt.none_bool b
    | int b => obtain ⟨t, rfl⟩ := rx; exact SeqAt.EqAt.none_int b t
    | str b => obtain ⟨t, rfl⟩ := rx; exact SeqAt.EqAt.none_str b t
    | _ => exact absurd (show false = true from fx) Bool.false_ne_true
  | bl a =>
    cases ry
    cases x with
    | non => cases rx; exact SeqAt.EqAt.bool_none a
    | bl b => cases rx; exact SeqAt.EqAt.bool_bool a b
    | int b => obtain ⟨t, rfl⟩ := rx; exact SeqAt.EqAt.bool_int a b t
    | str b => obtain ⟨t, rfl⟩ := rx; exact SeqAt.EqAt.bool_str a b t
    | _ => exact absurd (show false = true from fx) Bool.false_ne_true
  | int a =>
    obtain ⟨t', rfl⟩ := ry
    cases x with
    | non => cases rx; exact SeqAt.EqAt.int_none a t'
    | bl b => cases rx; exact SeqAt.EqAt.int_bool a t' b
    | int b => obtain ⟨t, rfl⟩ := rx; exact SeqAt.EqAt.int_int a t' b t
    | str b => obtain ⟨t, rfl⟩ := rx; exact SeqAt.EqAt.int_str a t' b t
    | _ => exact absurd (show false = true from fx) Bool.false_ne_true
  | str a =>
    obtain ⟨t', rfl⟩ := ry
    cases x with
    | non => cases rx; exact SeqAt.EqAt.str_none a t'
    | bl b => cases rx; exact SeqAt.EqAt.str_bool a t' b
    | int b => obtain ⟨t, rfl⟩ := rx; exact SeqAt.EqAt.str_int a t' b t
    | str b => obtain ⟨t, rfl⟩ := rx; exact SeqAt.EqAt.str_str a t' b t
    | _ => exact absurd (show false = true from fx) Bool.false_ne_true
  | _ => exact absurd (show false = true from fy) Bool.false_ne_true
/-- the items' answers, read off the values (a value's own answer does not lean on its token) -/
def eqU (x : V) (u : Value) : Bool := match u with
  | .none => eqV .non x
  | .bool b => eqV (.bl b) x
  | .int i _ => eqV (.int i) x
  | .str z _ => eqV (.str z) x
  | _ => false
theorem eqU_of {x y : V} {u : Value} (r : RelV y u) (f : flatV y = true) : eqU x u = eqV y x := by
  cases y with
  | non => cases r; rfl
  | bl b => cases r; rfl
  | int i => obtain ⟨t, rfl⟩ := r; rfl
  | str z => obtain ⟨t, rfl⟩ := r; rfl
  | _ => exact absurd (show false = true from f) Bool.false_ne_true
theorem any_eqU {x : V} : ∀ {xs : List V} {us : List Value}, Vals xs us → xs.all flatV = true → us.any (eqU x) = xs.any fun y => eqV y x
  | _, _, .nil, _ => rfl
  | y :: xs, u :: us, .cons r t, f => by
    rw [List.all_cons, Bool.and_eq_true] at f
    rw [List.any_cons, List.any_cons, eqU_of r f.1, any_eqU t f.2]
theorem mem_eqAt {A : Around} {s : Shared} {x : V} {v : Value} (rx : RelV x v) (fx : flatV x = true) : ∀ {xs : List V} {us : List Value}, Vals xs us → xs.all flatV = true → ∀ u ∈ us, SeqAt.EqAt A s u v (eqU x u)
  | _, _, .nil, _ => fun u hu => by cases hu
  | y :: xs, u :: us, .cons r t, f => fun u' hu => by
    rw [List.all_cons, Bool.and_eq_true] at f
    rcases List.mem_cons.mp hu with rfl | hu
    · rw [eqU_of r f.1]; exact eqAt_V r rx f.1 fx
    · exact mem_eqAt rx fx t f.2 u' hu
def inV (x : V) (xs : List V) : Bool := xs.any fun y => eqV y x
/-- x in a list or tuple of flat items -/
def rIn (K : PySem.W.Frag) (neg : Bool) : R2 := fun x y H Q => ∃ p xs, y = .ref p ∧ (SqL K H p xs ∨ SqT K H p xs) ∧ flatV x = true ∧ xs.all flatV = true ∧ Q (.bl (if neg then !inV x xs else inV x xs)) H
theorem op_in_seq : OpR X (compareOp .In) (rIn X.K false) := by
  intro pins s σ H x y v u Q I rx ry h
  obtain ⟨p, xs, rfl, hq, fx, fs, q⟩ := h
  cases ry
  rcases hq with hq | hq
  · obtain ⟨its, r, pl, hz⟩ := I.list hq
    refine SeqAt.in_listAt (eqU x) pl.isList (fun w hw => mem_eqAt rx fx r fs w (by simpa using hw)) ⟨.bl _, H, I, rfl, ?_⟩
    rw [show its.toArray.any (eqU x) = its.any (eqU x) by simp, any_eqU r fs]
    exact q
  · obtain ⟨its, r, pl, hz⟩ := I.tuple hq
    refine SeqAt.in_tupleAt (eqU x) pl (fun w hw => mem_eqAt rx fx r fs w (by simpa using hw)) ⟨.bl _, H, I, rfl, ?_⟩
    rw [show its.toArray.any (eqU x) = its.any (eqU x) by simp, any_eqU r fs]
    exact q
theorem op_notIn_seq : OpR X (compareOp .NotIn) (rIn X.K true) := by
  intro pins s σ H x y v u Q I rx ry h
  obtain ⟨p, xs, rfl, hq, fx, fs, q⟩ := h
  cases ry
  rcases hq with hq | hq
  · obtain ⟨its, r, pl, hz⟩ := I.list hq
    refine SeqAt.notIn_listAt (eqU x) pl.isList (fun w hw => mem_eqAt rx fx r fs w (by simpa using hw)) ⟨.bl _, H, I, rfl, ?_⟩
    rw [show its.toArray.any (eqU x) = its.any (eqU x) by simp, any_eqU r fs]
    exact q
  · obtain ⟨its, r, pl, hz⟩ := I.tuple hq
    refine SeqAt.notIn_tupleAt (eqU x) pl (fun w hw => mem_eqAt rx fx r fs w (by simpa using hw)) ⟨.bl _, H, I, rfl, ?_⟩
    rw [show its.toArray.any (eqU x) = its.any (eqU x) by simp, any_eqU r fs]
    exact q
/-! ### len, list(x), tuple(x) of any list or tuple that is read -/
theorem call_len_seq : CallR X (.builtin "len") (fun xs H Q => ∃ p ys, xs = [.ref p] ∧ (SqL X.K H p ys ∨ SqT X.K H p ys) ∧ Q (.int ys.length) H) := by
  intro pins s σ H xs us Q I r h
  obtain ⟨p, ys, rfl, hq, q⟩ := h
  obtain ⟨u, rfl, rx⟩ := vals1 r
  cases rx
  have hn := line63
  rcases hq with hq | hq
  · obtain ⟨its, r', pl, hz⟩ := I.list hq
    have hlen := r'.length
    exact Calls.call_len_list pl.isList (by simp only [List.size_toArray] <;> omega) ⟨.int ys.length, H, I.tok _, ⟨s.toks + 1, by rw [List.size_toArray, hlen]⟩, q⟩
  · obtain ⟨its, r', pl, hz⟩ := I.tuple hq
    have hlen := r'.length
    exact len_tuple pl (by simp only [List.size_toArray] <;> omega) ⟨.int ys.length, H, I.tok _, ⟨s.toks + 1, by rw [List.size_toArray, hlen]⟩, q⟩
theorem call_len_str : CallR X (.builtin "len") (fun xs H Q => ∃ z, xs = [.str z] ∧ z.length ≤ sizeLine ∧ Q (.int z.length) H) := by
  intro pins s σ H xs us Q I r h
  obtain ⟨z, rfl, hz, q⟩ := h
  obtain ⟨u, rfl, t, rfl⟩ := vals1 r
  have hn := line63
  exact len_str (by omega) ⟨.int z.length, H, I.tok _, ⟨_, rfl⟩, q⟩
theorem call_list_of : CallR X (.type "list") (fun xs H Q => ∃ p ys, xs = [.ref p] ∧ (SqL X.K H p ys ∨ SqT X.K H p ys) ∧ ∀ l, H l = none → Q (.ref l) (upd H l (.lst ys))) := by
  intro pins s σ H xs us Q I r h
  obtain ⟨p, ys, rfl, hq, q⟩ := h
  obtain ⟨u, rfl, rx⟩ := vals1 r
  cases rx
  have fin : ∀ (its : List Value), Vals ys its → ys.length ≤ sizeLine → ∀ (h' : Heap) (c' : Nat), (∀ b o', s.heap.get? b = some o' → h'.get? b = some o') →
      h'.get? s.heap.objs.size = some { cls := .type "list", dict := none, data := .seq its.toArray c', slots := #[] } → EP X pins σ Q (.ref s.heap.objs.size) { s with heap := h' } := fun its r' hz h' c' kp e =>
    ⟨.ref s.heap.objs.size, _, I.laid (t' := s.toks) kp (Nat.le_refl _) (show ObjOk X.prog X.w _ h' _ (.lst ys) from ⟨hz, its, c', r', e⟩), rfl, q _ (I.hok.fresh (Nat.le_refl _))⟩
  rcases hq with hq | hq
  · obtain ⟨its, r', pl, hz⟩ := I.list hq
    have hlen := r'.length
    obtain ⟨o, ho, hc, n, hd⟩ := pl.isList
    exact call_list_seq p (.inl rfl) ho hc hd (fun h' c' kp e => fin its r' hz h' c' kp e) (by simp only [List.size_toArray] <;> omega)
  · obtain ⟨its, r', pl, hz⟩ := I.tuple hq
    have hlen := r'.length
    obtain ⟨o, ho, hc, n, hd⟩ := pl
    exact call_list_seq p (.inr rfl) ho hc hd (fun h' c' kp e => fin its r' hz h' c' kp e) (by simp only [List.size_toArray] <;> omega)
theorem call_tuple_of : CallR X (.type "tuple") (fun xs H Q => ∃ p ys, xs = [.ref p] ∧ ((SqL X.K H p ys ∧ ∀ l, H l = none → Q (.ref l) (upd H l (.tup ys))) ∨ (SqT X.K H p ys ∧ Q (.ref p) H))) := by
  intro pins s σ H xs us Q I r h
  obtain ⟨p, ys, rfl, h⟩ := h
  obtain ⟨u, rfl, rx⟩ := vals1 r
  cases rx
  rcases h with ⟨hq, q⟩ | ⟨hq, q⟩
  · obtain ⟨its, r', pl, hz⟩ := I.list hq
    have hlen := r'.length
    refine call_tuple_list pl.isList (fun h' kp => ?_) (by simp only [List.size_toArray] <;> omega)
    have I1 : Inv X pins σ H { s with heap := h' } := I.kept (t' := s.toks) kp
    have I2 : Inv X pins σ (upd H h'.objs.size (.tup ys)) { s with heap := h'.push { cls := .type "tuple", data := .seq its.toArray } } :=
      I1.laid (t' := s.toks) (fun b o e => Heap.get?_push_of_some _ e) (Nat.le_refl _) (show ObjOk X.prog X.w _ _ _ (.tup ys) from ⟨hz, its, r', IsTup.new _ _⟩)
    exact ⟨.ref h'.objs.size, _, I2, rfl, q _ (I1.hok.fresh (Nat.le_refl _))⟩
  · obtain ⟨its, r', pl, hz⟩ := I.tuple hq
    exact call_tuple_same pl ⟨.ref p, H, I, rfl, q⟩

/-! ### the call of a builtin's method: o.m(..) -/
/-- the value is of that builtin type -/
def tyV (K : PySem.W.Frag) (T : String) (x : V) (H : Hp) : Prop := match x with
  | .str _ => T = "str"
  | .int _ => T = "int"
  | .ref p => (T = "list" ∧ ∃ xs, SqL K H p xs) ∨ (T = "tuple" ∧ ∃ o, K.lookup p = some o ∧ o.cls = .type "tuple" ∧ o.dict = none) ∨
      (T = "dict" ∧ ((∃ kvs, H p = some (.dK kvs)) ∨ ∃ kvs, H p = some (.dT kvs))) ∨ (T = "set" ∧ ∃ S n, H p = some (.set S n))
  | _ => False
theorem tyV_is {pins : List (Addr × Obj)} {σ : St} {H : Hp} {s : Shared} {T : String} {x : V} {v : Value} (I : Inv X pins σ H s) (r : RelV x v) (ty : tyV X.K T x H) :
    s.TypeIs v T ∧ ∀ a, v = .ref a → ∃ ob, s.heap.get? a = some ob ∧ ob.dict = none := by
  cases x with
  | str z =>
    obtain ⟨t, rfl⟩ := r
    cases (show T = "str" from ty)
    exact ⟨typeIs_str s z t, fun _ e => nomatch e⟩
  | int i =>
    obtain ⟨t, rfl⟩ := r
    cases (show T = "int" from ty)
    exact ⟨typeIs_int s i t, fun _ e => nomatch e⟩
  | ref p =>
    cases r
    rcases ty with ⟨rfl, xs, hq⟩ | ⟨rfl, o, hk, hc, hd⟩ | ⟨rfl, hk⟩ | ⟨rfl, S, n, hk⟩
    · obtain ⟨its, _, pl, _⟩ := I.list hq
      refine ⟨pl.isList.typeIs, fun a e => ?_⟩
      cases e
      obtain ⟨o, n, e, c, hd, _⟩ := pl
      exact ⟨o, e, hd⟩
    · refine ⟨⟨o, I.kIn p o hk, hc⟩, fun a e => ?_⟩
      cases e
      exact ⟨o, I.kIn _ o hk, hd⟩
    · have z : ∃ o, s.heap.get? p = some o ∧ o.ExactDict := by
        rcases hk with ⟨kvs, hk⟩ | ⟨kvs, hk⟩
        · obtain ⟨_, _, _, _, o, _, _, e, ex, _⟩ := I.hok p _ hk
          exact ⟨o, e, ex⟩
        · obtain ⟨_, _, _, _, o, _, _, e, ex, _⟩ := I.hok p _ hk
          exact ⟨o, e, ex⟩
      obtain ⟨o, e, ex⟩ := z
      refine ⟨⟨o, e, ex.1⟩, fun a e2 => ?_⟩
      cases e2
      exact ⟨o, e, ex.2.1⟩
    · obtain ⟨o, _, _, _, e, ex, _⟩ := I.hok p _ hk
      refine ⟨⟨o, e, ex.1⟩, fun a e2 => ?_⟩
      cases e2
      exact ⟨o, e, ex.2.1⟩
  | _ => exact False.elim ty
def tBM0 (K : PySem.W.Frag) (T : String) (r : V → List V → Hp → VK → Prop) (to : TE) : TE := fun σ H Q => to σ H fun x H1 => tyV K T x H1 ∧ r x [] H1 Q
def tBM (K : PySem.W.Frag) (T : String) (r : V → List V → Hp → VK → Prop) (to : TE) (t : TA) : TE := fun σ H Q => to σ H fun x H1 => tyV K T x H1 ∧ t σ H1 fun xs H2 => r x xs H2 Q
variable {o e : Expr} {es : List Expr} {to : TE} {t : TA} {name : Str} {apos cpos : Pos} {T id : String} {r : V → List V → Hp → VK → Prop}
theorem pe_bm0 (pa : PlainAttrs T) (slot : Slot T name id) (hty : typeOf (.builtin id) = pure (.type "method_descriptor")) (hm : MtR X id r) (ho : PE X o to)
    (hbase : attributeBase o name X.env (eval o X.env) = eval o X.env := by rfl) (hline : (apos.endLine == cpos.line) = true := by rfl) : PE X (.Call (.Attribute o name apos) [] [] cpos) (tBM0 X.K T r to) := by
  intro pins s σ H Q I h
  refine wpAny_Call_method0_late hbase hline (thn (ho pins s σ H _ I h) fun v s1 ⟨x, H1, I1, r1, ty, q1⟩ => ?_)
  obtain ⟨h1, h2⟩ := tyV_is I1 r1 ty
  exact ⟨T, id, pa, slot, hty, h1, h2, Calls.callWith_builtin rfl (PySem.evalArgs_none (hm pins s1 σ H1 x [] v [] Q I1 r1 .nil q1))⟩
theorem pe_bm (pa : PlainAttrs T) (slot : Slot T name id) (hty : typeOf (.builtin id) = pure (.type "method_descriptor")) (hm : MtR X id r) (ho : PE X o to) (ha : PA X (e :: es) t)
    (hbase : attributeBase o name X.env (eval o X.env) = eval o X.env := by rfl)
    (hfew : ((backTo cpos (starEach (e :: es) X.env)).all (fun x => !x.1) && (backToKw cpos (keywordEach [] X.env)).all (fun x => x.1.isSome)
      && decide ((e :: es).length + ([] : List Keyword).length + (if ([] : List Keyword).isEmpty then 0 else 1) < 30)) = true := by rfl)
    (hline : (apos.endLine == cpos.line) = true := by rfl) (hs : starEach (e :: es) X.env = (false, eval e X.env) :: starEach es X.env := by rfl) (hplain : (backTo cpos (starEach es X.env)).any (·.1) = false := by rfl) :
    PE X (.Call (.Attribute o name apos) (e :: es) [] cpos) (tBM X.K T r to t) := by
  intro pins s σ H Q I h
  refine wpAny_Call_method_late hbase hfew hline rfl (thn (ho pins s σ H _ I h) fun v s1 ⟨x, H1, I1, r1, ty, q1⟩ => ?_)
  obtain ⟨h1, h2⟩ := tyV_is I1 r1 ty
  refine ⟨T, id, pa, slot, hty, h1, h2, ?_⟩
  have hA := ha cpos pins s1 σ H1 _ I1 q1
  rw [hs] at hA ⊢
  refine Calls.callWith_builtin (by show (false || (backTo cpos (starEach es X.env)).any (·.1)) = false; rw [hplain] <;> rfl) (Calls.evalArgs_plain ?_)
  exact thn hA fun us s2 ⟨vs, H2, I2, r2, q2⟩ => hm pins s2 σ H2 x vs v us Q I2 r1 r2 q2
/- xs.append(e), list.index on a module's tuple .. are MtR facts of 06m -/
end
end L2

namespace L2
open PySem PySem.Spec PyProof.Rows

def MtM (X : Cx) (id : String) (r : V → List V → Hp → VK → Prop) : Prop :=
  ∀ (pins : List (Addr × Obj)) (s : Shared) (σ : St) (H : Hp) (x : V) (xs : List V) (v : Value) (us : List Value) (Q : VK), Inv X pins σ H s → RelV x v → Vals xs us → r x xs H Q →
    wpAny (model X.prog X.w) X.A (call (.builtin id) (v :: us)) (EP X pins σ Q) X.xe s

/-! ### lists of values -/
theorem Vals.one : ∀ {x : V} {us : List Value}, Vals [x] us → ∃ u, us = [u] ∧ RelV x u
  | _, _, .cons r .nil => ⟨_, rfl, r⟩
theorem Vals.zero : ∀ {us : List Value}, Vals [] us → us = []
  | _, .nil => rfl
theorem Vals.dropLast {xs : List V} {us : List Value} (h : Vals xs us) : Vals xs.dropLast us.dropLast := by
  induction h with
  | nil => exact .nil
  | cons r t ih =>
    cases t with
    | nil => exact .nil
    | cons q t' => exact .cons r ih
theorem Vals.rep {xs : List V} {us : List Value} (h : Vals xs us) : ∀ k : Nat, Vals (List.replicate k xs).flatten (List.replicate k us).flatten
  | 0 => .nil
  | k + 1 => by
    rw [List.replicate_succ, List.replicate_succ, List.flatten_cons, List.flatten_cons]
    exact Vals.append h (Vals.rep h k)
theorem erase_last {α : Type} (l : List α) : l.eraseIdx (l.length - 1) = l.dropLast := by
  induction l with
  | nil => rfl
  | cons a r ih =>
    cases r with
    | nil => rfl
    | cons b r =>
      have e : (a :: b :: r).length - 1 = ((b :: r).length - 1) + 1 := by
        have h1 : (a :: b :: r).length = r.length + 2 := rfl
        have h2 : (b :: r).length = r.length + 1 := rfl
        omega
      rw [e, List.eraseIdx_cons_succ, ih]
      all_goals rfl
theorem foldl_rep (its : List Value) : ∀ (k : Nat) (acc : List Value),
    List.foldl (fun x1 x2 => x1 ++ x2) acc.toArray (List.replicate k its.toArray) = (acc ++ (List.replicate k its).flatten).toArray
  | 0, acc => by simp
  | k + 1, acc => by
    have e : acc.toArray ++ its.toArray = (acc ++ its).toArray := by simp
    have e2 : (acc ++ its) ++ (List.replicate k its).flatten = acc ++ (List.replicate (k + 1) its).flatten := by
      rw [List.replicate_succ, List.flatten_cons, List.append_assoc]
    rw [← e2, ← foldl_rep its k (acc ++ its), ← e, List.replicate_succ, List.foldl_cons]

section
variable {X : Cx} {pins : List (Addr × Obj)} {σ : St} {H : Hp} {s : Shared} {l b : Addr} {xs ys zs : List V}

/-! ### the two steps: a tracked list is rewritten, a new list is laid -/
theorem Inv.lset {its its' : List Value} {n : Nat} {f : Array Value → Array Value} {t' : Nat} (I : Inv X pins σ H s) (hH : H l = some (.lst xs))
    (e : s.heap.get? l = some { cls := .type "list", data := .seq its.toArray n }) (hf : f its.toArray = its'.toArray) (hv : Vals ys its') (hz : ys.length ≤ sizeLine) (ht : 0 < t' := by ((try dsimp only); first | assumption | exact Inv.tk (by assumption) | exact Nat.succ_pos _ | exact Nat.lt_of_lt_of_le (Inv.tk (by assumption)) (by assumption) | exact Nat.add_pos_left (Inv.tk (by assumption)) _ | omega)) :
    Inv X pins σ (upd H l (.lst ys)) { s with heap := s.heap.update l (Obj.mapSeq f), toks := t' } := by
  have q := PySem.IsL.update e f
  rw [hf] at q
  refine I.write (x := l) (e := l) (by rw [hH]; exact trivial) (.inl rfl) (fun b' u hb hu => (Heap.get?_update_other s.heap (Obj.mapSeq f) (Ne.symm hb)).trans hu) ⟨_, q⟩ ?_
  exact ⟨hz, its', _, hv, q⟩
theorem Inv.lnew {its : List Value} {t' : Nat} (I : Inv X pins σ H s) (hv : Vals ys its) (hz : ys.length ≤ sizeLine) (ht : 0 < t' := by ((try dsimp only); first | assumption | exact Inv.tk (by assumption) | exact Nat.succ_pos _ | exact Nat.lt_of_lt_of_le (Inv.tk (by assumption)) (by assumption) | exact Nat.add_pos_left (Inv.tk (by assumption)) _ | omega)) :
    Inv X pins σ (upd H s.heap.objs.size (.lst ys)) { s with heap := s.heap.push { cls := .type "list", data := .seq its.toArray }, toks := t' } :=
  I.laid (fun _ _ q => Heap.get?_push_of_some _ q) (Nat.le_refl _) ⟨hz, its, 0, hv, Heap.get?_push_size _ rfl⟩
theorem Inv.fresh (I : Inv X pins σ H s) : H s.heap.objs.size = none := I.hok.fresh (Nat.le_refl _)
theorem Inv.lstM (I : Inv X pins σ H s) (hH : H l = some (.lst xs)) : xs.length ≤ sizeLine ∧ ∃ (its : List Value) (n : Nat), Vals xs its ∧ xs.length = its.length ∧ s.heap.get? l = some { cls := .type "list", data := .seq its.toArray n } := by
  obtain ⟨z, its, n, r, e⟩ := I.hok l _ hH
  exact ⟨z, its, n, r, r.length, e⟩

theorem notLongL {n : Nat} (h : n ≤ sizeLine) : Builtin.List.listTooLong n = false := by
  unfold Builtin.List.listTooLong
  exact decide_eq_false (by omega)
end

section
variable {X : Cx}

/-! ### methods -/
def rAppend : V → List V → Hp → VK → Prop := fun x vs H Q => ∃ l xs y, x = .ref l ∧ vs = [y] ∧ H l = some (.lst xs) ∧ xs.length < sizeLine ∧ Q .non (upd H l (.lst (xs ++ [y])))
theorem mt_append : MtM X "list.append" rAppend := by
  intro pins s σ H x vs v us Q I rx rv h
  obtain ⟨l, xs, y, rfl, rfl, hH, hz, q⟩ := h
  cases rx
  obtain ⟨u, rfl, ru⟩ := rv.one
  obtain ⟨z, its, n, r, hl, e⟩ := I.lstM hH
  refine call_meets F.slot_list_append ⟨_, e, rfl⟩ F.entry_list_append (F.args_list_append_2 _ _) (PySem.list_append l its.toArray n u (by rw [List.size_toArray]; omega)) ⟨e, ?_⟩
  refine ⟨.non, _, I.lset (its' := its ++ [u]) hH e (by simp) (r.append (.cons ru .nil)) ?_, rfl, q⟩
  rw [List.length_append, List.length_singleton]
  omega

def rExtend : V → List V → Hp → VK → Prop := fun x vs H Q => ∃ l b xs zs, x = .ref l ∧ vs = [.ref b] ∧ H l = some (.lst xs) ∧ H b = some (.lst zs) ∧ xs.length + zs.length ≤ sizeLine ∧ Q .non (upd H l (.lst (xs ++ zs)))
theorem mt_extend : MtM X "list.extend" rExtend := by
  intro pins s σ H x vs v us Q I rx rv h
  obtain ⟨l, b, xs, zs, rfl, rfl, hH, hB, hz, q⟩ := h
  cases rx
  obtain ⟨u, rfl, ru⟩ := rv.one
  cases ru
  obtain ⟨z, its, n, r, hl, e⟩ := I.lstM hH
  obtain ⟨z2, its2, n2, r2, hl2, e2⟩ := I.lstM hB
  have hsz : its.toArray.size + its2.toArray.size ≤ sizeLine := by rw [List.size_toArray, List.size_toArray]; omega
  have hlong : ¬ (!its.toArray.isEmpty && Builtin.List.listTooLong (its.toArray.size + its2.toArray.size)) = true := by
    rw [notLongL hsz, Bool.and_false]
    exact Bool.false_ne_true
  refine call_meets F.slot_list_extend ⟨_, e, rfl⟩ F.entry_list_extend (F.args_list_extend_2 _ _)
    (AutoSeq1.list_extend_list_list_0 l its.toArray n b its2.toArray n2 hlong (by rw [List.size_toArray]; omega) (by omega)) ⟨e, e2, ?_⟩
  refine ⟨.non, _, I.lset (its' := its ++ its2) hH e (by simp) (r.append r2) ?_, rfl, q⟩
  rw [List.length_append]
  omega

def rPop : V → List V → Hp → VK → Prop := fun x vs H Q => ∃ l xs y, x = .ref l ∧ vs = [] ∧ H l = some (.lst xs) ∧ xs[xs.length - 1]? = some y ∧ Q y (upd H l (.lst xs.dropLast))
theorem mt_pop : MtM X "list.pop" rPop := by
  intro pins s σ H x vs v us Q I rx rv h
  obtain ⟨l, xs, y, rfl, rfl, hH, hy, q⟩ := h
  cases rx
  have hus := rv.zero
  subst hus
  obtain ⟨z, its, n, r, hl, e⟩ := I.lstM hH
  obtain ⟨u, hu, ru⟩ := r.get hy
  have hy' : its.toArray[its.toArray.size - 1]? = some u := by
    show its.toArray[its.length - 1]? = some u
    rw [← Array.getElem?_toList, ← hl]
    exact hu
  refine call_meets F.slot_list_pop ⟨_, e, rfl⟩ F.entry_list_pop (F.args_list_pop_1 _) (MeetsSeq.list_pop_last l its.toArray n u hy' (by rw [List.size_toArray]; omega)) ⟨e, ?_⟩
  refine ⟨y, _, I.lset (its' := its.dropLast) hH e ?_ r.dropLast ?_, ru, q⟩
  · show its.toArray.eraseIdxIfInBounds (its.toArray.size - 1) = its.dropLast.toArray
    rw [List.size_toArray, List.eraseIdxIfInBounds_toArray, erase_last]
  · rw [List.length_dropLast]
    omega

/-! ### list + list, list += list, list * int -/
def rCat : R2 := fun x y H Q => ∃ l b xs zs, x = .ref l ∧ y = .ref b ∧ H l = some (.lst xs) ∧ H b = some (.lst zs) ∧ xs.length + zs.length ≤ sizeLine ∧ ∀ p, H p = none → Q (.ref p) (upd H p (.lst (xs ++ zs)))
theorem op_cat : OpR X (binaryOp .Add) rCat := by
  intro pins s σ H x y v u Q I rx ry h
  obtain ⟨l, b, xs, zs, rfl, rfl, hH, hB, hz, q⟩ := h
  cases rx
  cases ry
  obtain ⟨z, its, n, r, hl, e⟩ := I.lstM hH
  obtain ⟨z2, its2, n2, r2, hl2, e2⟩ := I.lstM hB
  refine PySem.P.add_list e e2 ?_ (by rw [List.size_toArray, List.size_toArray]; omega)
  have ea : its.toArray ++ its2.toArray = (its ++ its2).toArray := by simp
  rw [ea]
  exact ⟨.ref _, _, I.lnew (t' := s.toks) (r.append r2) (by rw [List.length_append]; omega), rfl, q _ I.fresh⟩
/-- a list times an int (a negative one is nothing) -/
def rRep : R2 := fun x y H Q => ∃ l k xs, x = .ref l ∧ y = .int k ∧ H l = some (.lst xs) ∧ -(2 ^ 63) ≤ k ∧ k < 2 ^ 63 ∧ xs.length * k.toNat ≤ sizeLine ∧
  ∀ p, H p = none → Q (.ref p) (upd H p (.lst (List.replicate k.toNat xs).flatten))
theorem len_rep {α : Type} (xs : List α) (k : Nat) : (List.replicate k xs).flatten.length = k * xs.length := by
  induction k with
  | zero => simp
  | succ k ih => rw [List.replicate_succ, List.flatten_cons, List.length_append, ih, Nat.succ_mul, Nat.add_comm]
theorem op_rep : OpR X (binaryOp .Mult) rRep := by
  intro pins s σ H x y v u Q I rx ry h
  obtain ⟨l, k, xs, rfl, rfl, hH, h1, h2, hz, q⟩ := h
  cases rx
  obtain ⟨t, rfl⟩ := ry
  obtain ⟨z, its, n, r, hl, e⟩ := I.lstM hH
  have hlen : its.toArray.size * k.toNat ≤ sizeLine := by rw [List.size_toArray, ← hl]; exact hz
  have hcap : ¬ its.toArray.size * k.toNat > (2 ^ 63 - 1) / 8 := by
    have : (sizeLine : Nat) ≤ (2 ^ 63 - 1) / 8 := by decide
    omega
  have hfit : ¬ (!Builtin.List.listFitsIndex k) = true := by
    rw [fitsIndex_both h1 h2]
    exact Bool.false_ne_true
  have hlong : ¬ Builtin.List.listTooLong (its.toArray.size * k.toNat) = true := by
    rw [notLongL hlen]
    exact Bool.false_ne_true
  have hnew : List.foldl (fun x1 x2 => x1 ++ x2) #[] (List.replicate (if its.toArray.isEmpty = true then 0 else k.toNat) its.toArray) = (List.replicate k.toNat its).flatten.toArray := by
    have f0 : ∀ m : Nat, List.foldl (fun x1 x2 => x1 ++ x2) #[] (List.replicate m its.toArray) = (List.replicate m its).flatten.toArray := fun m => by
      have := foldl_rep its m []
      rw [List.nil_append] at this
      exact this
    rw [f0]
    cases its with
    | nil => simp
    | cons a r' => rw [if_neg (by simp)]
  refine wpAny_binaryOp_repeat_ref (T := "list") (U := "int") (by decide) ⟨_, e, rfl⟩ (fun s' => typeIs_int s' k t) noFill_list_mul F.fills_int_mul F.slot_int_rmul repeat_list F.slot_int_index.lookup
    (call_meets F.slot_int_rmul (typeIs_int s k t) F.entry_int_rmul (F.args_int_rmul_2 _ _) (int___rmul___int_list k t l its.toArray n)
      ⟨e, rfl, ⟨_, e, rfl⟩, call_meets F.slot_list_mul ⟨_, e, rfl⟩ F.entry_list_mul (F.args_list_mul_2 _ _) (AutoListH.list___mul___list_int_3 l its.toArray n k t hfit hcap hlong) ⟨e, ?_⟩⟩)
  rw [hnew]
  exact ⟨.ref _, _, I.lnew (t' := s.toks) (r.rep k.toNat) (by rw [len_rep, Nat.mul_comm]; exact hz), rfl, q _ I.fresh⟩

/-! ### del xs[i] -/
end

/-! ### xs[a:b] = ys -/
section
variable {prog : Program} {w : World} {A : Around} {E : Value → Shared → Prop} {s : Shared}
set_option maxRecDepth 100000 in
end

section
variable {X : Cx}
end
end L2

namespace L2
open PySem PySem.Spec PyProof.Rows

/-! ### lists of pairs as tables -/
section
variable {κ : Type} [DecidableEq κ]
end


/-! ### a tracked dict, its keys ints and texts or tuples of these -/
section
variable {P : Program} {w : World} {H : Hp} {h : Heap} {a : Addr}
end

section
variable {X : Cx} {pins : List (Addr × Obj)} {σ : St} {H : Hp} {s : Shared} {a : Addr} {y v : V} {u r : Value} {o : Option V} {A : Around} {E : Value → Shared → Prop}

end

section
variable {X : Cx} {pins : List (Addr × Obj)} {σ : St} {H : Hp} {s : Shared} {a : Addr} {kvs : List (Key × V)} {k : Key} {u : Value} {A : Around} {E : Value → Shared → Prop}
end


/-! ### readings and rules -/
section
variable {X : Cx} {o i e value : Expr} {pos pos' tpos : Pos} {td ty tv : TE}
end


/-! ### displays -/
section
variable {X : Cx} {pos : Pos}
end

/-! ### methods -/
section
variable {X : Cx} {pins : List (Addr × Obj)} {σ : St} {H : Hp} {s : Shared} {a : Addr} {y d : V} {u r : Value} {o : Option V} {A : Around} {E : Value → Shared → Prop}
end

section
variable {X : Cx} {o e f : Expr} {apos cpos : Pos} {td ty tx : TE}
end

/-! ### dict(d): a copy -/
section
variable {X : Cx} {pins : List (Addr × Obj)} {σ : St} {H : Hp} {s : Shared} {a : Addr} {kvs : List (Key × V)} {A : Around} {E : Value → Shared → Prop}
end


section
variable {X : Cx} {pins : List (Addr × Obj)} {σ : St} {H : Hp} {s : Shared} {a : Addr} {y : V} {u : Value} {A : Around} {E : Value → Shared → Prop}
end
end L2

namespace Att
open PySem PySem.W PySem.Calls PyProof.Rows

/-! ### the script -/
theorem ints_of_wellAll {P : Params} {h : Heap} : ∀ (ns : List Int) (vs : List Value), WellAll P h vs (ns.map WData.int) → IntsAre vs ns := by
  intro ns
  induction ns with
  | nil =>
    intro vs w
    rw [List.map_nil] at w
    cases w
    exact .nil
  | cons n ns ih =>
    intro vs w
    rw [List.map_cons] at w
    cases w with
    | cons a b =>
      cases a
      exact .cons _ _ (ih _ b)

theorem script_of {l : OpenLaw} {n : Nat} (hn : l.most = some n) {P : Params} {h : Heap} {args : List WData} {vals : List Value}
    (hpre : l.row.toRowW.claim.pre args = true) (hwl : WellAll P h vals args) :
    ∃ a vs ns, vals = [Value.ref a] ∧ args = [WData.list (ns.map WData.int)] ∧ h.get? a = some { cls := .type "list", data := .seq vs.toArray } ∧ IntsAre vs ns ∧ ns.length ≤ n := by
  have hsh : WShape.hasAll [] args [.list .int] = true := (pre_splitW hpre).1
  have hc : l.pre.holds [] { args := args } = true := (pre_splitW hpre).2
  obtain ⟨d, r, rfl, h1, h2⟩ := hasAllW_cons hsh
  obtain rfl := hasAllW_nil h2
  obtain ⟨xs, rfl, h3⟩ := hasW_list h1
  obtain ⟨ns, rfl⟩ := items_int h3
  have hlen : ns.length ≤ n := by
    unfold OpenLaw.pre at hc
    have h4 : (WTm.not (.lt (.lit (.int (n : Int))) (.len (.arg 0)))).holds [] { args := [.list (ns.map .int)] } = true := by
      have h4 := (holds_andW hc).1
      rw [hn] at h4
      exact h4
    have h5 := condW_of h4 (w_not (w_lt w_lit (w_len_list (w_arg rfl))))
    rw [List.length_map] at h5
    refine Nat.le_of_not_lt fun q => ?_
    have q' : (n : Int) < ((ns.length : Nat) : Int) := by omega
    first
      | (rw [decide_eq_true q'] at h5; exact absurd h5 (by decide))
      | (simp at h5; omega)
  cases hwl with
  | cons w1 w2 =>
    cases w2
    cases w1 with
    | list ho hall => exact ⟨_, _, ns, rfl, rfl, ho, ints_of_wellAll ns _ hall, hlen⟩

theorem post_true (l : OpenLaw) (args : List WData) : l.row.toRowW.claim.post args (.bool true) args = true :=
  postW_of (r := l.row.toRowW) (X := (true == true))
    (show WShape.has [] (.bool true) .bool = true by first | rfl | decide | simp [WShape.has, WShape.arms, WShape.armsAll])
    (show (WTm.eq .res (.lit (.bool true))).value [] { args := args, res := some (.bool true), after := args } = some (.bool (true == true)) from w_eq_bool (w_res rfl) w_lit) rfl

/-! ### the attachment: holds_open's last premise (the goal 'hc' behind k_head) from a wpAny of the law's body -/
/-- the same from a codeAny of the CALL (for a layer whose function contracts speak of calls) -/
theorem attach_call {l : OpenLaw} {n : Nat} {q : Program} {loose : List Str} {XP : (Str → Option Value) → Heap → Prop} {YP : World → Heap → Prop} {d : DefRec}
    (hn : l.most = some n) (hdf : d.params.defaults = [])
    (call : ∀ (w : World) (s₀ s₁ : Shared) (mg mb : Str → Option Value) (fa : Addr) (o : Obj) (pm cd doc : Value) (a : Addr) (vs : List Value) (ns : List Int),
      Ground q loose [] XP w s₀ mg mb s₁.heap → YP w s₁.heap →
      s₁.heap.get? fa = some o → o.data = .func (docDef d.name d.params d.body d.scope pm cd doc) → s₁.heap.CodeRec cd d.name → mg d.name = some (.ref fa) →
      s₁.heap.get? a = some { cls := .type "list", data := .seq vs.toArray } → IntsAre vs ns → ns.length ≤ n → s₁.gens = #[] →
      codeAny (model l.prog w) callerA (.call (.ref fa) ⟨[.ref a], []⟩) (fun r s' => r = .ok (.ret (.bool true)) ∧ OldK s₁.heap s'.heap ∧ s'.os = s₁.os ∧ AllBare s'.gens) s₁) :
    WalkO q loose XP YP l.row.toRowW d [] (fun f vs => PySem.call f vs) := by
  intro w s₀ s₁ mg mb G Y fa o pm cd doc dV kV ho hd hcd hD hmg hg args vals as hpre hlay hrd hwl hlo
  obtain rfl : dV = .none := Dflts.none hD hdf
  obtain rfl : kV = .none := Dflts.noKw hD
  obtain ⟨a, vs, ns, rfl, rfl, hobj, hints, hlen⟩ := script_of hn hpre hwl
  refine enter_call (codeAny_mono (call w s₀ s₁ mg mb fa o pm cd doc a vs ns G Y ho (fd_plain hd) hcd hmg hobj hints hlen hg) fun r s' hq => ?_)
  obtain ⟨rfl, h2, h3, h4⟩ := hq
  exact ⟨.inl ⟨.bool true, .bool true, [], rfl, fun _ => rfl, .bool true, post_true l _, fun _ => ⟨List.Pairwise.nil, fun _ hm => (nomatch hm)⟩⟩, h2, h3, h4⟩

/-! ### rules over ANY heap (no ledger) from facts about the written part K: the library's own take a ledger (News) for what they write -/
section
variable {prog : Program} {w : World} {A : Around} {E : Value → Shared → Prop} {s : Shared} {K : Frag}

/-! the whole heap as the ledger: makes every rule that writes through a ledger a rule over any heap -/
end
end Att

namespace L2
open PySem PySem.Spec PyProof.Rows

theorem vals_ints : ∀ {vs : List Value} {ns : List Int}, IntsAre vs ns → Vals (ns.map V.int) vs
  | _, _, .nil => .nil
  | _, _, .cons n t h => .cons ⟨t, rfl⟩ (vals_ints h)

/-- nothing is tracked but the script, known to the object (or it is an object of the module) -/
def Only (H : Hp) : Prop := ∀ b, H b = none ∨ ∃ o xs, H b = some (.frz o (.lst xs))

/-- THE HEAD: the law's promise, at the heap behind the top. F, the promise of the law's def, may use that base is part of the heap (so K.In base, base.Ns mainGlobals mg stand in Mod) -/
theorem law_call {P : Program} {w : World} {K : PySem.W.Frag} {mg mb : Str → Option Value} {CX : CXT} {k : Nat} {fa a : Addr} {fd : FuncData} {x : Str} {sp : Sp} {s₁ : Shared} {vs : List Value} {ns : List Int}
    (KX : K.In s₁.heap) (hns : s₁.heap.Ns mainGlobals mg) (hb : s₁.heap.Ns builtinsNs mb) (hbb : ∀ x : Str, x ≠ "__name__" → mb x = bootBuiltins x) (hlim : s₁.heap.NoLimit) (hg : s₁.gens = #[])
    (ha : s₁.heap.get? a = some { cls := .type "list", data := .seq vs.toArray }) (hi : IntsAre vs ns) (hl : ns.length ≤ sizeLine) (hr : Room k callerA)
    (F : ∀ base : Heap, K.In base → base.Ns mainGlobals mg → FnOk P w K mg base CX k fa fd [x] sp) (hbind : ∀ (s : Shared) (u : Value), BindsTo s fd ⟨[u], []⟩ [(x, u)])
    (hloc : fd.scope.names.lookup x = some .local) (hsp : ∀ H : Hp, Only H → SqL K H a (ns.map V.int) → sp [.ref a] H (fun v _ => v = .bl true) fun _ _ _ => False)
    (hCX : ∀ H e s', CX [] H s₁ (fun _ _ _ => False) e s' → False) :
    codeAny (model P w) callerA (.call (.ref fa) ⟨[.ref a], []⟩) (fun r s' => r = .ok (.ret (.bool true)) ∧ OldK s₁.heap s'.heap ∧ s'.os = s₁.os ∧ AllBare s'.gens) s₁ := by
  have rv := vals_ints hi
  have lenV := hi.length
  -- from an abstract heap in which nothing but the script may be tracked
  have core : ∀ H : Hp, Only H → SqL K H a (ns.map V.int) → HOk P w H s₁.heap → (∀ b, H b ≠ none → b = a) → (H a ≠ none → K.lookup a = none) →
      codeAny (model P w) callerA (.call (.ref fa) ⟨[.ref a], []⟩) (fun r s' => r = .ok (.ret (.bool true)) ∧ OldK s₁.heap s'.heap ∧ s'.os = s₁.os ∧ AllBare s'.gens) s₁ := by
    intro H hO hS hok hA hK
    have base_of : ∀ {b : Addr} {o : Obj}, s₁.heap.get? b = some o → H b = none → (hidT s₁.heap H).get? b = some o := fun e n => hidT_get e n
    have noA : ∀ {b : Addr} {o : Obj} {es : Array DictEntry} {ep : Nat}, s₁.heap.get? b = some o → o.data = .dict es ep → H b = none := fun {b o es ep} e d => by
      cases q : H b with
      | none => rfl
      | some u =>
        have e' : b = a := hA b (by rw [q]; simp)
        subst e'
        rw [ha] at e; cases e
        have d' : Data.seq vs.toArray _ = Data.dict es ep := d
        cases d'
    have nsK : ∀ {b : Addr} {m : Str → Option Value}, s₁.heap.Ns b m → (hidT s₁.heap H).Ns b m := fun {b m} ⟨o, es, ep, e, d, r⟩ => ⟨o, es, ep, base_of e (noA e d), d, r⟩
    have hKb : K.In (hidT s₁.heap H) := fun b o e => base_of (KX b o e) (by
      cases q : H b with
      | none => rfl
      | some u =>
        have e' : b = a := hA b (by rw [q]; simp)
        subst e'
        rw [hK (by rw [q]; simp)] at e; cases e)
    have hM : Mod K mg (hidT s₁.heap H) := ⟨hKb, nsK hns, ⟨mb, nsK hb, hbb⟩, let ⟨mc, h1, h2⟩ := hlim; ⟨mc, nsK h1, h2⟩⟩
    have e0 : Env0 P w K mg (hidT s₁.heap H) callerA [] s₁ H := ⟨rfl, hM, fun b o e => of_hidT e, Nat.le_of_eq (hidT_size _ _), trivial, fun b hb => absurd (show b ∈ ([] : List Addr) from hb) (by simp), hok, .of_eq hg⟩
    refine codeAny_mono ((F _ hKb (nsK hns)).run callerA [] s₁ H ⟨[.ref a], []⟩ [.ref a] [.ref a] _ _ hr e0 (hbind s₁ (.ref a)) (.cons rfl .nil) (hsp H hO hS) (.inr ⟨_, _, rfl, hloc⟩)) fun r s' h => ?_
    cases r with
    | error e => exact (hCX H e s' h).elim
    | ok fl =>
      cases fl with
      | next => exact False.elim h
      | brk => exact False.elim h
      | cont => exact False.elim h
      | ret u =>
        obtain ⟨v, H', os, bare, htk, un, hok', r', q⟩ := h
        have q' : v = .bl true := q
        subst q'
        obtain rfl : u = Value.bool true := r'
        refine ⟨rfl, OldK.of_keep fun b o e => ?_, os, bare⟩
        cases q : H b with
        | none => exact un.keep b o e q (by intro z; exact absurd (show b ∈ ([] : List Addr) from z) (by simp)) (by simp)
        | some u =>
          rcases hO b with z | ⟨ob, xs, z⟩
          · rw [q] at z; cases z
          · have z2 := un.frzs b ob _ z
            obtain ⟨e1, _⟩ := hok b _ z
            obtain ⟨e2, _⟩ := hok' b _ z2
            rw [e] at e1; cases e1
            exact e2
  cases hk : K.lookup a with
  | some o =>
    -- the script is one of the module's own objects
    have e := KX a o hk
    rw [ha] at e
    cases e
    refine core (fun _ => none) (fun _ => .inl rfl) (.inr ⟨_, vs.toArray, _, hk, rfl, rfl, rfl, by rw [List.size_toArray, lenV]; exact hl, by simpa using rv⟩) (fun b u z => by have z' : (none : Option HO) = some u := z; cases z') (fun b z => absurd rfl z) fun z => absurd rfl z
  | none =>
    refine core (fun b => if b = a then some (.frz { cls := .type "list", data := .seq vs.toArray } (.lst (ns.map V.int))) else none) (fun b => ?_) (.inl (.inr ⟨{ cls := .type "list", data := .seq vs.toArray }, if_pos rfl⟩)) (fun b u z => ?_) (fun b z => ?_) fun _ => hk
    · by_cases hb : b = a
      · exact .inr ⟨_, _, if_pos hb⟩
      · exact .inl (if_neg hb)
    · by_cases hb : b = a
      · have z' := (if_pos hb).symm.trans z
        cases z'
        subst hb
        exact ⟨ha, by rw [List.length_map]; exact hl, vs, _, rv, ha⟩
      · have z' := (if_neg hb).symm.trans z
        cases z'
    · by_cases hb : b = a
      · exact hb
      · exact absurd (if_neg hb) z
end L2

namespace L2
open PySem PySem.Spec PyProof.Rows

abbrev KOf {K : PySem.W.Frag} {h : Heap} (_ : K.In h) : PySem.W.Frag := K

/-- the goal that k_head leaves (case hc), from the law's promise. F gives the function object fd (K's own) once, then the promise over every base -/
theorem walk_of {l : PySem.W.OpenLaw} {n k : Nat} {q : Program} {loose : List Str} {XP : (Str → Option Value) → Heap → Prop} {YP : World → Heap → Prop} {d : DefRec} {K : Params → PySem.W.Frag} {CX : World → CXT} {sp : World → Sp} {x : Str}
    (hn : l.most = some n) (hn2 : n ≤ sizeLine) (hdf : d.params.defaults = []) (hr : Room k callerA)
    (hY : ∀ (w : World) (h : Heap), YP w h → (K w.params).In h)
    (F : ∀ (w : World) (mg : Str → Option Value) (fa : Addr) (h : Heap), (K w.params).In h → h.Ns mainGlobals mg → mg d.name = some (.ref fa) →
      ∃ fd : FuncData, (∀ (s : Shared) (u : Value), BindsTo s fd ⟨[u], []⟩ [(x, u)]) ∧ fd.scope.names.lookup x = some .local ∧
        ∀ base : Heap, (K w.params).In base → base.Ns mainGlobals mg → FnOk l.prog w (K w.params) mg base (CX w) k fa fd [x] (sp w))
    (hsp : ∀ (w : World) (H : Hp) (a : Addr) (ns : List Int), ns.length ≤ n → Only H → SqL (K w.params) H a (ns.map V.int) → sp w [.ref a] H (fun v _ => v = .bl true) fun _ _ _ => False)
    (hCX : ∀ (w : World) (H : Hp) (s : Shared) (e : Value) (s' : Shared), CX w [] H s (fun _ _ _ => False) e s' → False) :
    PySem.W.WalkO q loose XP YP l.row.toRowW d [] (fun f vs => PySem.call f vs) := by
  refine Att.attach_call hn hdf fun w s₀ s₁ mg mb fa o pm cd doc a vs ns G Y ho hd hcd hmg hobj hints hlen hg => ?_
  have KX := hY w _ Y
  obtain ⟨fd, hb, hloc, hF⟩ := F w mg fa _ KX G.T.g hmg
  exact law_call KX G.T.g G.T.b G.T.builtins G.T.nolimit hg hobj hints (Nat.le_trans hlen hn2) hr hF hb hloc (fun H hO hS => hsp w H a ns hlen hO hS) fun H e s' => hCX w H s₁ e s'
/-- the same where the promise hangs on the written part alone: (sp := My.sp_law), no hole under a binder -/
theorem walk_ofK {l : PySem.W.OpenLaw} {n k : Nat} {q : Program} {loose : List Str} {XP : (Str → Option Value) → Heap → Prop} {YP : World → Heap → Prop} {d : DefRec} {K : Params → PySem.W.Frag} {CX : CXT} {sp : PySem.W.Frag → Sp} {x : Str}
    (hn : l.most = some n) (hn2 : n ≤ sizeLine) (hdf : d.params.defaults = []) (hr : Room k callerA)
    (hY : ∀ (w : World) (h : Heap), YP w h → (K w.params).In h)
    (F : ∀ (w : World) (mg : Str → Option Value) (fa : Addr) (h : Heap), (K w.params).In h → h.Ns mainGlobals mg → mg d.name = some (.ref fa) →
      ∃ fd : FuncData, (∀ (s : Shared) (u : Value), BindsTo s fd ⟨[u], []⟩ [(x, u)]) ∧ fd.scope.names.lookup x = some .local ∧
        ∀ base : Heap, (K w.params).In base → base.Ns mainGlobals mg → FnOk l.prog w (K w.params) mg base CX k fa fd [x] (sp (K w.params)))
    (hsp : ∀ (K : PySem.W.Frag) (H : Hp) (a : Addr) (ns : List Int), ns.length ≤ n → Only H → SqL K H a (ns.map V.int) → sp K [.ref a] H (fun v _ => v = .bl true) fun _ _ _ => False)
    (hCX : ∀ (H : Hp) (s : Shared) (e : Value) (s' : Shared), CX [] H s (fun _ _ _ => False) e s' → False) :
    PySem.W.WalkO q loose XP YP l.row.toRowW d [] (fun f vs => PySem.call f vs) :=
  walk_of (K := K) (CX := fun _ => CX) (sp := fun w => sp (K w.params)) hn hn2 hdf hr hY F (fun w H a ns h1 h2 h3 => hsp (K w.params) H a ns h1 h2 h3) fun _ H s e s' => hCX H s e s'
end L2

/- THE LAST THEOREM (shape; LID, My.* are yours):
   My.Adr: a structure of the addresses that your layer names (classes, functions); My.Txt K t: a structure (Prop) of the equations over K;
   My.txt_mk : {K} {implicit addresses ..} (e1 : nsIn K mainGlobals "law" = some (some (.ref f))) (e2 : K.lookup f = some ⟨oc, od, .func (fnOf "law" "law" params body scope dV kV doc pm an cdv ct), sl⟩) (e3 : codeIn K cdv "law" = true) .. : ∃ t, My.Txt K t

set_option maxRecDepth 100000 in
set_option maxHeartbeats 0 in
theorem PySem.Challenge.cw_LID_holds : PySem.Challenge.rw_LID.Holds := by
  w_on; o_law; k_head; (case hw => w_witness2)
  k_fill
  refine L2.walk_of (l := PySem.Challenge.rw_LID) (n := 63) (k := 40) (x := "script") (CX := fun w => ..) (sp := fun _ => My.sp_law) rfl (by decide) rfl ⟨rfl, by decide, by decide⟩ (fun w h Y => PySem.W.kIn_of Y) ?F ?S ?C
  case F =>
    intro w mg fa h KX G hmg
    have T : ∃ t, My.Txt (L2.KOf KX) t := by
      dsimp only [L2.KOf]                          -- K must stand as «<heap const> w.params» for k_is
      refine' My.txt_mk ?e1 ?e2 ?e3 ..
      (case e1 => PySem.W.k_is)                    -- in the order: a name -> its address -> its object -> its parts
      (case e2 => PySem.W.k_is)
      ..
    obtain ⟨t, T⟩ := T
    have e0 := hmg.symm.trans (PySem.W.mg_of KX G T.law)
    cases e0                                       -- fa is the law's own address
    exact ⟨_, fun s u => .of_eq rfl, fun base kb nb => My.law_fn T kb nb⟩     -- if «.of_eq rfl» comes too early: refine' ⟨_, ?b, fun base kb nb => My.law_fn T kb nb⟩; exact fun s u => .of_eq rfl
  case S => exact fun w H a ns hl hO hS => ..
  case C => exact ..
(the tactic k_is has no namespace: write k_is) -/

/-! SHORT WORDS over the layer: a def of the text, its body, what a loop and a test want. -/
namespace L2
open PySem PySem.Spec PyProof.Rows

/-! ### the text by places -/
def defArgs (s : Stmt) : Arguments := match s with
  | .FunctionDef _ a _ _ _ _ _ _ _ _ => a
  | _ => { posonlyargs := [], args := [], vararg := none, kwonlyargs := [], kw_defaults := [], kwarg := none, defaults := [] }
def defBody (s : Stmt) : List Stmt := match s with
  | .FunctionDef _ _ b _ _ _ _ _ _ _ => b
  | _ => []
def defScope (s : Stmt) : Scope := match s with
  | .FunctionDef _ _ _ _ _ _ sc _ _ _ => sc
  | _ => { kind := .function, names := [], isGenerator := false, isCoroutine := false }

/-! ### no exception leaves a def -/
abbrev CX0 : CXT := fun _ _ _ _ _ _ => False
abbrev E0 : XK := fun _ _ _ => False
theorem pass0 {X : Cx} : Passes CX0 X E0 := fun _ _ _ _ _ _ _ h => h.elim

/-! ### a def (or method) of the text as it stands behind the top -/
structure Fun (K : PySem.W.Frag) (x qual : Str) (st : Stmt) (f : Addr) (fd : FuncData) : Prop where
  ex : ∃ (oc : Value) (od : Option Addr) (kV doc pm : Value) (an : Option Addr) (cdv ct : Value) (osl : Array (Option Value)),
    fd = PySem.W.fnOf x qual (defArgs st) (defBody st) (defScope st) .none kV doc pm an cdv ct ∧ K.lookup f = some ⟨oc, od, .func fd, osl⟩ ∧ PySem.W.codeIn K cdv qual = true
  kp : PySem.W.keepIn K (.ref f) = true
section
variable {P : Program} {w : World} {K : PySem.W.Frag} {mg : Str → Option Value} {base : Heap}
/-- THE RULE for a def: its body as a term of rules, and the reading of that term -/
theorem Fun.ok {x qual : Str} {st : Stmt} {f : Addr} {fd : FuncData} {N ps : List Str} {k : Nat} {sp : Sp} (F : Fun K x qual st f fd) (S : FnScope N ps (defScope st)) (len : ∀ vs H Q E, sp vs H Q E → vs.length = ps.length)
    (hbody : ∀ (cdv : Value) (A : Around) (outer : List Env) (s : Shared) (H : Hp) (vs : List V) (Q : VK) (E : XK), Room k (A.deeper (envOfC qual (defScope st) s.heap.objs.size f cdv)) → sp vs H Q E →
      ∃ t, PSs (cxOf CX0 P w K mg base N qual (defScope st) f cdv A outer s H E).nox (defBody st) t ∧ t { nx := fun _ H' => Q .non H', rt := Q } (start N vs) H) : FnOk P w K mg base CX0 (k + 1) f fd ps sp := by
  obtain ⟨oc, od, kV, doc, pm, an, cdv, ct, osl, rfl, lk, hcd⟩ := F.ex
  refine fn_of lk hcd S len fun A outer s H vs Q E hr hsp => ?_
  obtain ⟨t, h, q⟩ := hbody cdv A outer s H vs Q E hr hsp
  exact ⟨t, h.nox, q⟩
/-- how its arguments bind (no defaults): h is «fun _ _ _ _ _ _ us hl => match us, hl with | [_, _], _ => rfl», one _ a parameter -/
theorem Fun.binds {x qual : Str} {st : Stmt} {f : Addr} {fd : FuncData} {ps : List Str} (F : Fun K x qual st f fd)
    (h : ∀ (kV doc pm : Value) (an : Option Addr) (cdv ct : Value) (us : List Value), us.length = ps.length → bindArgs (PySem.W.fnOf x qual (defArgs st) (defBody st) (defScope st) .none kV doc pm an cdv ct) ⟨us, []⟩ = pure (ps.zip us)) : Binds K fd ps [] := by
  obtain ⟨oc, od, kV, doc, pm, an, cdv, ct, osl, rfl, lk, hcd⟩ := F.ex
  exact .all (h kV doc pm an cdv ct)
theorem fun_mk {x qual : Str} {st : Stmt} {f : Addr} {oc : Value} {od an : Option Addr} {osl : Array (Option Value)} {kV doc pm cdv ct : Value} (l : K.lookup f = some ⟨oc, od, .func (PySem.W.fnOf x qual (defArgs st) (defBody st) (defScope st) .none kV doc pm an cdv ct), osl⟩)
    (c : PySem.W.codeIn K cdv qual = true) (k : PySem.W.keepIn K (.ref f) = true) : Fun K x qual st f (PySem.W.fnOf x qual (defArgs st) (defBody st) (defScope st) .none kV doc pm an cdv ct) := ⟨⟨oc, od, kV, doc, pm, an, cdv, ct, osl, rfl, l, c⟩, k⟩
end
theorem small1000 {n : Nat} (h : n ≤ 1000) : n < sizeLine := Nat.lt_of_le_of_lt h (by decide)

/-! ### expressions in short: the name that stands in the i-th slot -/
section
variable {X : Cx}
theorem pv (i : Nat) {x : Str} {pos : Pos} (hN : X.N[i]? = some x := by rfl) (hv : Vis X.env.scope x := by first | exact Or.inl rfl | exact Or.inr (Or.inl rfl) | exact Or.inr (Or.inr rfl)) (hd : (x == ("__debug__" : Str)) = false := by decide)
    (hcd : (x == ("__classdict__" : Str)) = false := by decide) : PE X (.Name x pos) (tVar i) := pe_var hN hv hd hcd
end

/-! ### tests -/
theorem iteF {A B : Prop} (h : B) : if false = true then A else B := by
  rw [if_neg Bool.false_ne_true]
  exact h
theorem iteT {A B : Prop} (h : A) : if true = true then A else B := by
  rw [if_pos rfl]
  exact h
theorem ite2 {c A B : Prop} [Decidable c] (h1 : c → A) (h2 : ¬ c → B) : if c then A else B := by
  by_cases h : c
  · rw [if_pos h]
    exact h1 h
  · rw [if_neg h]
    exact h2 h
/-! ### heaps -/
/-- all that was tracked is as it was -/
def Same (H H' : Hp) : Prop := ∀ b o, H b = some o → H' b = some o
theorem Same.refl (H : Hp) : Same H H := fun _ _ h => h
theorem Same.trans {H H1 H2 : Hp} (a : Same H H1) (b : Same H1 H2) : Same H H2 := fun c o h => b c o (a c o h)
theorem Same.free {H H' : Hp} (e : Same H H') {l : Addr} (h : H' l = Option.none) : H l = Option.none := by
  cases q : H l with
  | none => rfl
  | some o =>
    rw [e l o q] at h
    cases h
theorem Same.seq {K : PySem.W.Frag} {H H' : Hp} {a : Addr} {xs : List V} (e : Same H H') (h : SqL K H a xs) : SqL K H' a xs := by
  rcases h with (h | ⟨o, h⟩) | h
  · exact .inl (.inl (e _ _ h))
  · exact .inl (.inr ⟨o, e _ _ h⟩)
  · exact .inr h

/-! ### a dict's pairs: keys that differ -/
section
variable {κ : Type} [DecidableEq κ]
end
end L2

set_option linter.all false
namespace L2
open PySem
/-! ### plain data: what a value says, tuples within tuples; a list and a dict by their kind alone -/
inductive D where
  | non | bl (b : Bool) | int (i : Int) | str (z : Str) | lst | dct | tup (xs : List D)
def okSign (c : Nat) : Bool := decide (32 ≤ c) && decide (c ≤ 126) && decide (c ≠ 37)
def okText (z : Str) : Bool := decide (z.length ≤ 300) && z.cps.toList.all okSign
mutual
def good : D → Bool
  | .str z => okText z
  | .tup xs => decide (xs.length ≤ 40) && goodL xs
  | _ => false
def goodL : List D → Bool
  | [] => true
  | x :: r => good x && goodL r
end
mutual
def sz : D → Nat
  | .str z => z.length + 1
  | .tup xs => 1 + szL xs
  | _ => 0
def szL : List D → Nat
  | [] => 0
  | x :: r => sz x + szL r
end
mutual
def dp : D → Nat
  | .str _ => 1
  | .tup xs => 1 + dpL xs
  | _ => 0
def dpL : List D → Nat
  | [] => 0
  | x :: r => max (dp x) (dpL r)
end
mutual
def nd : D → Nat
  | .tup xs => 1 + ndL xs
  | _ => 1
def ndL : List D → Nat
  | [] => 0
  | x :: r => nd x + ndL r
end
def isT (d : D) : Bool := good d && decide (sz d ≤ 600) && decide (dp d ≤ 12)
theorem szL_append : ∀ (xs ys : List D), szL (xs ++ ys) = szL xs + szL ys
  | [], ys => by simp [szL]
  | x :: r, ys => by simp only [List.cons_append, szL, szL_append r ys]; omega
theorem ndL_append : ∀ (xs ys : List D), ndL (xs ++ ys) = ndL xs + ndL ys
  | [], ys => by simp [ndL]
  | x :: r, ys => by simp only [List.cons_append, ndL, ndL_append r ys]; omega
theorem dpL_append : ∀ (xs ys : List D), dpL (xs ++ ys) = max (dpL xs) (dpL ys)
  | [], ys => by simp [dpL]
  | x :: r, ys => by simp only [List.cons_append, dpL, dpL_append r ys]; omega
theorem goodL_all : ∀ (xs : List D), goodL xs = xs.all good
  | [] => rfl
  | x :: r => by simp only [goodL, List.all_cons, goodL_all r]
theorem dpL_le {k : Nat} : ∀ (xs : List D), dpL xs ≤ k ↔ ∀ x ∈ xs, dp x ≤ k
  | [] => by simp [dpL]
  | x :: r => by
    have ih := dpL_le (k := k) r
    have e : dpL (x :: r) = max (dp x) (dpL r) := by simp only [dpL]
    rw [e]
    constructor
    · intro h y hy
      rcases List.mem_cons.mp hy with rfl | hy
      · omega
      · exact ih.mp (by omega) y hy
    · intro h
      have h1 := h x List.mem_cons_self
      have h2 := ih.mpr fun y hy => h y (List.mem_cons_of_mem _ hy)
      omega
theorem dp_pos {d : D} (h : good d = true) : 1 ≤ dp d := by
  cases d <;> simp_all [good, dp]
/-! is_tree's stack of parts with their depths -/
def wOk (w : List (D × Nat)) : Bool := w.all fun p => good p.1 && decide (p.2 + dp p.1 ≤ 13)
def wSz (w : List (D × Nat)) : Nat := szL (w.map (·.1))
def G (w : List (D × Nat)) (n : Nat) : Bool := wOk w && decide (n + wSz w ≤ 600)
theorem G_start (d : D) : G [(d, 1)] 0 = isT d := by
  simp only [G, wOk, wSz, isT, List.all_cons, List.all_nil, List.map_cons, List.map_nil, szL, Bool.and_true, Nat.zero_add, Nat.add_zero]
  have e : decide (1 + dp d ≤ 13) = decide (dp d ≤ 12) := by
    rw [decide_eq_decide]; omega
  rw [e]
  cases good d <;> cases decide (sz d ≤ 600) <;> cases decide (dp d ≤ 12) <;> rfl
theorem G_nil {n : Nat} (h : n ≤ 600) : G [] n = true := by simp [G, wOk, wSz, szL, h]
theorem G_snoc (w : List (D × Nat)) (d : D) (k n : Nat) : G (w ++ [(d, k)]) n = (wOk w && (good d && decide (k + dp d ≤ 13)) && decide (n + (wSz w + sz d) ≤ 600)) := by
  simp only [G, wOk, wSz, List.all_append, List.all_cons, List.all_nil, Bool.and_true, List.map_append, List.map_cons, List.map_nil, szL_append, szL, Nat.add_zero]
  rfl
theorem G_bad {w : List (D × Nat)} {d : D} {k n : Nat} (h : good d = false) : G (w ++ [(d, k)]) n = false := by
  rw [G_snoc, h]; simp
theorem G_deep {w : List (D × Nat)} {d : D} {k n : Nat} (h : 12 < k) : G (w ++ [(d, k)]) n = false := by
  rw [G_snoc]
  cases hg : good d with
  | false => simp
  | true =>
    have := dp_pos hg
    have e : decide (k + dp d ≤ 13) = false := decide_eq_false (by omega)
    rw [e]; simp
theorem G_big {w : List (D × Nat)} {d : D} {k n : Nat} (h : 600 < n + sz d) : G (w ++ [(d, k)]) n = false := by
  rw [G_snoc]
  have e : decide (n + (wSz w + sz d) ≤ 600) = false := decide_eq_false (by omega)
  rw [e]; simp
theorem G_big1 {w : List (D × Nat)} {xs : List D} {k n : Nat} (h : 600 < n + 1) : G (w ++ [(.tup xs, k)]) n = false := G_big (by simp only [sz]; omega)
theorem wOk_map (xs : List D) (k : Nat) : wOk (xs.map fun x => (x, k + 1)) = (goodL xs && xs.all fun x => decide (k + 1 + dp x ≤ 13)) := by
  induction xs with
  | nil => rfl
  | cons x r ih =>
    simp only [List.map_cons, wOk, List.all_cons, goodL] at ih ⊢
    rw [ih]
    cases good x <;> cases decide (k + 1 + dp x ≤ 13) <;> cases goodL r <;> simp
theorem wSz_map (xs : List D) (k : Nat) : wSz (xs.map fun x => (x, k + 1)) = szL xs := by
  unfold wSz
  rw [List.map_map]
  congr 1
  induction xs with
  | nil => rfl
  | cons x r ih => simp only [List.map_cons, ih]; rfl
theorem G_tup {w : List (D × Nat)} {xs : List D} {k n : Nat} (hl : xs.length ≤ 40) (hk : k ≤ 12) : G (w ++ [(.tup xs, k)]) n = G (w ++ xs.map fun x => (x, k + 1)) (n + 1) := by
  rw [G_snoc]
  unfold G
  have e1 : wOk (w ++ xs.map fun x => (x, k + 1)) = (wOk w && wOk (xs.map fun x => (x, k + 1))) := by unfold wOk; rw [List.all_append]
  have e2 : wSz (w ++ xs.map fun x => (x, k + 1)) = wSz w + szL xs := by
    have := wSz_map xs k
    unfold wSz at this ⊢
    rw [List.map_append, szL_append, this]
  have e3 : decide (k + dp (.tup xs) ≤ 13) = xs.all fun x => decide (k + 1 + dp x ≤ 13) := by
    have q := dpL_le (k := 12 - k) xs
    have e0 : dp (.tup xs) = 1 + dpL xs := by simp only [dp]
    rw [e0, Bool.eq_iff_iff]
    constructor
    · intro h
      have h := of_decide_eq_true h
      refine List.all_eq_true.mpr fun x hx => decide_eq_true ?_
      have h2 := q.mp (by omega) x hx
      omega
    · intro h
      refine decide_eq_true ?_
      have h2 := q.mpr fun x hx => by
        have h3 := of_decide_eq_true (List.all_eq_true.mp h x hx)
        omega
      omega
  rw [e1, e2, e3, wOk_map]
  have e4 : good (.tup xs) = goodL xs := by simp only [good, decide_eq_true hl, Bool.true_and]
  have e5 : decide (n + (wSz w + sz (.tup xs)) ≤ 600) = decide (n + 1 + (wSz w + szL xs) ≤ 600) := by
    rw [decide_eq_decide]; simp only [sz]; omega
  rw [e4, e5]
theorem G_str {w : List (D × Nat)} {z : Str} {k n : Nat} (ht : okText z = true) (hk : k ≤ 12) : G (w ++ [(.str z, k)]) n = G w (n + (1 + z.length)) := by
  rw [G_snoc]
  unfold G
  have e4 : good (.str z) = true := by simp only [good, ht]
  have e3 : decide (k + dp (.str z) ≤ 13) = true := decide_eq_true (by simp only [dp]; omega)
  have e5 : decide (n + (wSz w + sz (.str z)) ≤ 600) = decide (n + (1 + z.length) + wSz w ≤ 600) := by
    rw [decide_eq_decide]; simp only [sz]; omega
  rw [e4, e3, e5]; simp
/-! tree_depth's levels -/
end L2

set_option Elab.async false
set_option linter.all false
set_option maxRecDepth 100000
set_option maxHeartbeats 4000000
namespace AwZ
open PySem PyProof.Rows
open PySem.AutoSeq1 (wpAny_loadPart')
section
variable {prog : Program} {w : World} {A : Around} {E : Value → Shared → Prop} {s : Shared}
/-! a tuple's iterator drawn on by zip and enumerate -/
/-! zip of a tuple and a list -/
end
section
variable {prog : Program} {w : World} {A : Around} {E : Value → Shared → Prop} {s : Shared}
end
end AwZ

set_option Elab.async false
set_option linter.all false
set_option maxRecDepth 100000
set_option maxHeartbeats 4000000
namespace AwZ
open PySem PyProof.Rows
open PySem.AutoSeq1 (wpAny_loadPart')
section
variable {prog : Program} {w : World} {A : Around} {E : Value → Shared → Prop} {s : Shared}
/-! enumerate over a tuple, counted from c -/
/-! a type called with keywords -/
end
end AwZ

set_option Elab.async false
set_option linter.all false
set_option maxRecDepth 100000
set_option maxHeartbeats 4000000
/-! MORE RULES over the hand layer: texts, comprehensions, all, is, isinstance. -/
namespace L2
open PySem PySem.Spec PyProof.Rows

/-! ### a text walked sign by sign -/
def Its (x : Str) : It := ⟨fun i _ => i < x.cps.size, fun i H v H' => H' = H ∧ ∃ c, x.cps[i]? = some c ∧ v = .str ⟨#[c]⟩, fun i _ => i = x.cps.size⟩
theorem turn_str {P : Program} {w : World} {K : PySem.W.Frag} {tg : Expr} {x : Str} {t : Tok} {it : Addr} (ty : String) (hty : ty = "str_ascii_iterator" ∨ ty = "str_iterator") :
    Turn P w K tg (Its x) [it] it (fun i h => h.IsStrIter it ty x t i) where
  mem := by simp
  obj := fun i h st b hb => by
    have e : b = it := by simpa using hb
    subst e
    obtain ⟨o, e, c, d⟩ := st
    exact ⟨o, e, fun v z => by rw [d] at z; cases z⟩
  keep := fun i h h' st k => by
    obtain ⟨o, e, r⟩ := st
    exact ⟨o, k it (by simp) o e, r⟩
  item := by
    intro X hP hw hK hc i pins s σ H E I hf st hg
    subst hP hw hK
    obtain ⟨f0, f1, f2, f3, f4, f5⟩ := hf it (by simp)
    have W : Walks X.prog X.w X.A it [it] [it] x.cps.size (SignAt x) (fun i h => h.IsStrIter it ty x t i) := by
      rcases hty with rfl | rfl
      · exact Walks.strAscii (I.ok.hd hc) it x t
      · exact Walks.strWide (I.ok.hd hc) it x t
    refine wpAny_with_toks (n := 1) I.tk (W.item i s _ _ hg st fun v h' tk hv st' kk => ?_)
    intro htk
    obtain ⟨c, u, hx, rfl⟩ := hv
    have I1 : Inv X pins σ H { s with heap := h', toks := tk } := I.turned (fun b o hb e => kk b o (by simpa using hb) e) f0 f1 f3 f4 f5
    obtain ⟨o, e, c', d⟩ := id st'
    refine ⟨_, rfl, go_of (s := { s with heap := h', toks := tk }) e c' d (by rcases hty with rfl | rfl <;> decide) ⟨.str ⟨#[c]⟩, H, I1, ⟨u, rfl⟩, ⟨rfl, c, hx, rfl⟩, st', fun b hb => (hf b hb).1⟩⟩
  done := by
    intro X hP hw hK hc i pins s σ H E I hf st hg
    subst hP hw hK
    have hg' : i = x.cps.size := hg
    subst hg'
    obtain ⟨f0, f1, f2, f3, f4, f5⟩ := hf it (by simp)
    have W : Walks X.prog X.w X.A it [it] [it] x.cps.size (SignAt x) (fun i h => h.IsStrIter it ty x t i) := by
      rcases hty with rfl | rfl
      · exact Walks.strAscii (I.ok.hd hc) it x t
      · exact Walks.strWide (I.ok.hd hc) it x t
    exact wpAny_with_toks (n := 1) I.tk (W.done s _ _ st fun h' tk kk htk => ⟨rfl, I.turned (fun b o hb e => kk b o (by simpa using hb) e) f0 f1 f3 f4 f5⟩)
  self := fun _ _ _ _ _ st h => by
    rcases hty with rfl | rfl
    · exact wpAny_pyIter_striter_ascii st h
    · exact wpAny_pyIter_striter_wide st h
section
variable {X : Cx} {tg : Expr}
def iStr (tl : TE) : TI := fun σ H R => tl σ H fun x H1 => ∃ z, x = .str z ∧ R (Its z) H1
theorem pi_str {l : Expr} {tl : TE} (hl : PE X l tl) : PI X tg l (iStr tl) := by
  intro pins s σ H R I h
  refine thn (hl pins s σ H _ I h) fun v s1 ⟨x, H1, I1, r1, q1⟩ => ?_
  obtain ⟨z, e, q⟩ := q1
  subst e
  obtain ⟨t, rfl⟩ := r1
  have fp : ∀ (o : Obj), ∀ b ∈ [s1.heap.objs.size], FpOk X pins H1 b := fun o b hb => by
    have e : b = s1.heap.objs.size := by simpa using hb
    subst e
    exact I1.fpOk (Nat.le_refl _) (I1.hok.fresh (Nat.le_refl _))
  cases ha : z.cps.all (· < 128)
  · refine wpAny_pyIter_wide ha ?_
    exact ⟨s1.heap.objs.size, [s1.heap.objs.size], _, _, H1, rfl, I1.kept (t' := s1.toks) fun b o e => Heap.get?_push_of_some _ e, turn_str "str_iterator" (.inr rfl), ⟨_, Heap.get?_push_size _ rfl, rfl, rfl⟩, fp default, q⟩
  · refine wpAny_pyIter_ascii ha ?_
    exact ⟨s1.heap.objs.size, [s1.heap.objs.size], _, _, H1, rfl, I1.kept (t' := s1.toks) fun b o e => Heap.get?_push_of_some _ e, turn_str "str_ascii_iterator" (.inl rfl), ⟨_, Heap.get?_push_size _ rfl, rfl, rfl⟩, fp default, q⟩

/-! ### a slice of a text -/
def rSlS : V → Option Int → Option Int → Hp → VK → Prop := fun x lo hi H Q => ∃ z, x = .str z ∧ z.length ≤ sizeLine ∧ Q (.str (Txt.slice z lo hi)) H
def tokOf : Value → Option (Int × Tok)
  | .int i t => some (i, t)
  | _ => none
theorem sl_str : SlR X rSlS := by
  intro pins s σ H x v vl vu lo hi sl Q I rx hs pl pu h
  obtain ⟨z, rfl, hz, q⟩ := h
  obtain ⟨t, rfl⟩ := rx
  refine ⟨"str", _, F.slot_str_getitem.lookup, typeIs_str _ _ _, ?_⟩
  have hl : vl = partValue (tokOf vl) ∧ lo = (tokOf vl).map (·.1) := by cases pl <;> exact ⟨rfl, rfl⟩
  have hu : vu = partValue (tokOf vu) ∧ hi = (tokOf vu).map (·.1) := by cases pu <;> exact ⟨rfl, rfl⟩
  obtain ⟨o, e1, e2, e3⟩ := hs
  refine wpAny_with_toks (n := 1) I.tk ?_
  refine wpAny_getItem_str_slice (l := tokOf vl) (u := tokOf vu) (st := none) ⟨o, e1, e2, by rw [e3, ← hl.1, ← hu.1]; rfl⟩ rfl ?_
  refine post_val_or_str ⟨?_, fun t' k => ?_⟩
  · exact Nat.le_trans (Txt.slice_le z _ _) hz
  · intro htk
    exact ⟨.str (Txt.slice z lo hi), H, I.tok k, ⟨t', by rw [hl.2, hu.2]; rfl⟩, q⟩

/-! ### is, is not: a bool on the right -/
/-! ### isinstance(x, c): by the types' own table -/
theorem call_isinst {K : PySem.W.Frag} (hK : X.K = K) : CallR X (.builtin "isinstance") (fun xs H Q => ∃ x T t b, xs = [x, .ty T] ∧ TyOf K H x t ∧ PySem.W.kitOne K t (.type T) = some b ∧ Q (.bl b) H) := by
  intro pins s σ H xs us Q I r h
  obtain ⟨x, T, t, b, rfl, ty, e, q⟩ := h
  obtain ⟨u, u', rfl, ru, ru'⟩ := vals2 r
  cases ru'
  subst hK
  exact wpAny_with_toks (n := 1) I.tk (isinst_ok I ru ty e fun tk htk => ⟨.bl b, H, I.tok tk, rfl, q⟩)

/-! ### all, any of a list of bools -/
theorem all_range : ∀ bs : List Bool, (List.range bs.length).all (fun i => bs.getD i true) = bs.all id
  | [] => rfl
  | b :: r => by
    rw [List.length_cons, List.range_succ_eq_map, List.all_cons, List.all_map, List.all_cons]
    have e : (List.range r.length).all ((fun i => (b :: r).getD i true) ∘ Nat.succ) = (List.range r.length).all fun i => r.getD i true := by
      congr 1
    rw [e, all_range r]
    rfl
theorem call_allL (hc : X.calm = true) : CallR X (.builtin "all") (fun xs H Q => ∃ (p : Addr) (bs : List Bool), xs = [.ref p] ∧ SqL X.K H p (bs.map V.bl) ∧ Q (.bl (bs.all id)) H) := by
  intro pins s σ H xs us Q I r h
  obtain ⟨p, bs, rfl, hp, q⟩ := h
  obtain ⟨u, rfl, ru⟩ := vals1 r
  cases ru
  obtain ⟨its, rv, pl, hz⟩ := I.list hp
  have hlt : p < s.heap.objs.size := by obtain ⟨o, n, e, _⟩ := pl; exact Heap.lt_size e
  refine wpAny_with_toks (n := 1) I.tk ?_
  refine call_all_walk (wpAny_pyIter_list pl.isList ?_)
  have up : ∀ b o, s.heap.get? b = some o → (s.heap.push { cls := .type "list_iterator", data := .fields #[.ref p, .int 0 0] }).get? b = some o := fun b o e => Heap.get?_push_of_some _ e
  have hl : its.length = bs.length := by have := rv.length; simpa using this.symm
  refine ⟨s.heap.objs.size, _, _, _, _, _, fun i => bs.getD i true, rfl, Walks.list (show X.A.in1.handled = none from I.ok.hd hc) s.heap.objs.size p (Nat.ne_of_lt hlt) its.toArray, ⟨⟨_, Heap.get?_push_size _ rfl, rfl, rfl⟩, pl.isList.push _⟩, ?_, ?_⟩
  · intro i v s' Q' E' hv hQ
    have hv' : its[i]? = some v := by simpa using hv
    have hi : i < its.length := (List.getElem?_eq_some_iff.mp hv').1
    obtain ⟨u, e1, e2⟩ := rv.get (i := i) (x := .bl (bs[i]'(by omega))) (by simp [show i < bs.length by omega])
    rw [hv'] at e1
    cases e1
    cases e2
    have : bs.getD i true = bs[i]'(by omega) := by simp [List.getD, show i < bs.length by omega]
    have hQ2 : Q' (bs.getD i true) s' := hQ
    rw [this] at hQ2
    exact wpAny_truthy_bool hQ2
  · intro h' tk kk htk
    have hall : (List.range its.toArray.size).all (fun i => bs.getD i true) = bs.all id := by
      rw [List.size_toArray, hl]
      exact all_range bs
    rw [hall]
    have I1 := I.kept (t' := s.toks) (h' := s.heap.push { cls := .type "list_iterator", data := .fields #[.ref p, .int 0 0] }) up
    have fpo := I.fpOk (Nat.le_refl _) (I.hok.fresh (Nat.le_refl s.heap.objs.size))
    obtain ⟨f0, f1, f2, f3, f4, f5⟩ := fpo
    exact ⟨.bl (bs.all id), H, I1.turned (it := s.heap.objs.size) (fun b o hb e => kk b o (by simpa using hb) e) f0 f1 f3 f4 f5, rfl, q⟩
end
end L2
namespace L2
open PySem PySem.Spec PyProof.Rows
section
variable {X : Cx}
/-- a text so many times -/
theorem op_repS : OpR X (binaryOp .Mult) (fun x y H Q => ∃ z k, x = .str z ∧ y = .int k ∧ MulOk z k ∧ Q (.str (Txt.mul z k)) H) := by
  intro pins s σ H x y v u Q I rx ry h
  obtain ⟨z, k, rfl, rfl, hok, q⟩ := h
  obtain ⟨t, rfl⟩ := rx
  obtain ⟨t', rfl⟩ := ry
  exact wpAny_with_toks (n := 1) I.tk (SB.mul hok fun t' k' htk => ⟨.str (Txt.mul z k), H, I.tok k', ⟨t', rfl⟩, q⟩)
/-- the file's constants -/
theorem pe_gI {x : Str} {i : Int} {pos : Pos} (hg : Gl X x) (hm : ∃ t, X.mg x = some (.int i t)) (hd : (x == ("__debug__" : Str)) = false := by decide) : PE X (.Name x pos) (tC (.int i)) := by
  obtain ⟨t, hm⟩ := hm
  exact pe_glob hg hm ⟨t, rfl⟩ hd
theorem pe_gR {x : Str} {a : Addr} {pos : Pos} (hg : Gl X x) (hm : X.mg x = some (.ref a)) (hd : (x == ("__debug__" : Str)) = false := by decide) : PE X (.Name x pos) (tC (.ref a)) := pe_glob hg hm rfl hd
end
/-! ### heaps -/
theorem same_new {H : Hp} {p : Addr} (h : H p = none) (o : HO) : Same H (upd H p o) := fun b u q => by rw [upd_ne (ne_of_none q h)]; exact q
/-- all but p as it was -/
def Kept (p : Addr) (H H' : Hp) : Prop := ∀ b o, H b = some o → b ≠ p → H' b = some o
theorem Kept.refl (p : Addr) (H : Hp) : Kept p H H := fun _ _ h _ => h
theorem Kept.trans {p : Addr} {H H1 H2 : Hp} (a : Kept p H H1) (b : Kept p H1 H2) : Kept p H H2 := fun c o h n => b c o (a c o h n) n
theorem Same.kept {p : Addr} {H H' : Hp} (e : Same H H') : Kept p H H' := fun b o h _ => e b o h
theorem Kept.upd (p : Addr) (H : Hp) (o : HO) : Kept p H (L2.upd H p o) := fun b u h n => by rw [upd_ne n]; exact h
theorem atI_some {α : Type} {xs : List α} {i : Int} (h0 : 0 ≤ i) (h1 : i < xs.length) : ∃ c, atI xs i = some c := by
  obtain ⟨n, rfl⟩ : ∃ n : Nat, i = (n : Int) := ⟨i.toNat, by omega⟩
  have hn : n < xs.length := by omega
  exact ⟨xs[n], atI_nat (List.getElem?_eq_getElem hn)⟩
end L2

set_option Elab.async false
set_option linter.all false
set_option maxRecDepth 100000
set_option maxHeartbeats 4000000
namespace L2
open PySem PySem.Spec PyProof.Rows

/-! ### list comprehensions: one for, at most one if -/
/-- the cells of the free names -/
def clOf (cells : List (Str × Addr)) : List (Str × NameKind) → List (Str × Addr) → List (Str × Addr)
  | [], cs => cs
  | (n, k) :: r, cs => clOf cells r (if k == .free then (match cells.lookup n with | some a => (n, a) :: cs | none => cs) else cs)
theorem clOf_sub {cells : List (Str × Addr)} : ∀ {names : List (Str × NameKind)} {cs : List (Str × Addr)}, (∀ y c, cs.lookup y = some c → cells.lookup y = some c) → ∀ y c, (clOf cells names cs).lookup y = some c → cells.lookup y = some c
  | [], _, h => h
  | (n, k) :: r, cs, h => by
    unfold clOf
    refine clOf_sub fun y c e => ?_
    split at e
    · split at e
      · rename_i a ha
        rw [List.lookup_cons] at e
        split at e
        · rename_i hy
          have hy' : y = n := beq_iff_eq.mp hy
          subst hy'
          cases e
          exact ha
        · exact h y c e
      · exact h y c e
    · exact h y c e
theorem clOf_keep {cells : List (Str × Addr)} : ∀ {names : List (Str × NameKind)} {cs : List (Str × Addr)} {y : Str}, (∃ c, cs.lookup y = some c) → ∃ c, (clOf cells names cs).lookup y = some c
  | [], _, _, h => h
  | (n, k) :: r, cs, y, h => by
    unfold clOf
    refine clOf_keep ?_
    split
    · split
      · rw [List.lookup_cons]
        split
        · exact ⟨_, rfl⟩
        · exact h
      · exact h
    · exact h
theorem clOf_has {cells : List (Str × Addr)} : ∀ {names : List (Str × NameKind)} {cs : List (Str × Addr)} {y : Str}, (y, NameKind.free) ∈ names → (∃ c, cells.lookup y = some c) → ∃ c, (clOf cells names cs).lookup y = some c
  | [], _, _, h, _ => nomatch h
  | (n, k) :: r, cs, y, h, hc => by
    unfold clOf
    rcases List.mem_cons.mp h with e | h
    · cases e
      refine clOf_keep ?_
      obtain ⟨c, hc⟩ := hc
      rw [if_pos (by rfl), hc]
      exact ⟨c, by simp [List.lookup_cons]⟩
    · exact clOf_has h hc
theorem closure_go {env : Env} : ∀ {names : List (Str × NameKind)} {cs : List (Str × Addr)}, (∀ y, (y, NameKind.free) ∈ names → ∃ c, env.cells.lookup y = some c) →
    (forIn names cs fun x r => (do
      if x.2 == .free then
        let a ← cellOf env x.1
        pure (ForInStep.yield ((x.1, a) :: r))
      else pure (ForInStep.yield r) : Sem (ForInStep (List (Str × Addr))))) = (pure (clOf env.cells names cs) : Sem (List (Str × Addr)))
  | [], cs, _ => rfl
  | (n, k) :: r, cs, h => by
    rw [List.forIn_cons]
    have hr : ∀ y, (y, NameKind.free) ∈ r → ∃ c, env.cells.lookup y = some c := fun y hy => h y (List.mem_cons_of_mem _ hy)
    unfold clOf
    by_cases hk : (k == NameKind.free) = true
    · have hk' : k = .free := by simpa using hk
      subst hk'
      obtain ⟨c, hc⟩ := h n List.mem_cons_self
      have e : cellOf env n = pure c := by unfold cellOf; rw [hc]
      simp only [hk, if_true, e, hc, pure_bind]
      exact closure_go hr
    · simp only [if_neg hk, pure_bind]
      exact closure_go hr
theorem closure_ok {scope : Scope} {env : Env} (h : ∀ y, (y, NameKind.free) ∈ scope.names → ∃ c, env.cells.lookup y = some c) : closureFor scope env = pure (clOf env.cells scope.names []) := by
  unfold closureFor
  have q := closure_go (cs := []) h
  show (forIn scope.names ([] : List (Str × Addr)) (fun x r => (do
      if x.2 == .free then
        let a ← cellOf env x.1
        pure (ForInStep.yield ((x.1, a) :: r))
      else pure (ForInStep.yield r) : Sem (ForInStep (List (Str × Addr))))) >>= fun cs => pure cs) = _
  rw [q, pure_bind]

theorem relabel_cell {env : Env} (hf : env.scope.kind = .function) : ∀ {names : List (Str × NameKind)} {x : Str}, names.lookup x = some .free → env.kindOf x = some .cell →
    (names.map fun (n, k) => if (k == NameKind.free && env.scope.kind == .function && env.kindOf n == some .cell) then (n, NameKind.cell) else (n, k)).lookup x = some .cell
  | [], _, h, _ => by simp at h
  | (n, k) :: r, x, h, hc => by
    have ih := @relabel_cell env hf r x
    show List.lookup x ((if (k == NameKind.free && env.scope.kind == .function && env.kindOf n == some .cell) = true then (n, NameKind.cell) else (n, k)) :: _) = _
    cases hx : x == n with
    | true =>
      simp only [List.lookup_cons, hx] at h
      cases h
      have hx' : x = n := beq_iff_eq.mp hx
      subst hx'
      rw [if_pos (by rw [hf, hc]; rfl)]
      simp [List.lookup_cons]
    | false =>
      simp only [List.lookup_cons, hx] at h
      by_cases hc' : (k == NameKind.free && env.scope.kind == .function && env.kindOf n == some .cell) = true
      · rw [if_pos hc']; simp only [List.lookup_cons, hx]; exact ih h hc
      · rw [if_neg hc']; simp only [List.lookup_cons, hx]; exact ih h hc
theorem relabel_was {env : Env} : ∀ {names : List (Str × NameKind)} {x : Str}, (∀ y ∈ names, y.2 ≠ .cell) →
    ((names.map fun (n, k) => if (k == NameKind.free && env.scope.kind == .function && env.kindOf n == some .cell) then (n, NameKind.cell) else (n, k)).lookup x = some .cell ∨
     (names.map fun (n, k) => if (k == NameKind.free && env.scope.kind == .function && env.kindOf n == some .cell) then (n, NameKind.cell) else (n, k)).lookup x = some .free) → (x, NameKind.free) ∈ names
  | [], _, _, h => by simp at h
  | (n, k) :: r, x, hn, h => by
    have ih := @relabel_was env r x (fun y hy => hn y (List.mem_cons_of_mem _ hy))
    have g : List.lookup x ((if (k == NameKind.free && env.scope.kind == .function && env.kindOf n == some .cell) = true then (n, NameKind.cell) else (n, k)) :: (r.map fun (n, k) => if (k == NameKind.free && env.scope.kind == .function && env.kindOf n == some .cell) then (n, NameKind.cell) else (n, k))) = some .cell ∨
      List.lookup x ((if (k == NameKind.free && env.scope.kind == .function && env.kindOf n == some .cell) = true then (n, NameKind.cell) else (n, k)) :: (r.map fun (n, k) => if (k == NameKind.free && env.scope.kind == .function && env.kindOf n == some .cell) then (n, NameKind.cell) else (n, k))) = some .free := h
    have hnk : k ≠ .cell := hn (n, k) List.mem_cons_self
    by_cases hc : (k == NameKind.free && env.scope.kind == .function && env.kindOf n == some .cell) = true
    · rw [if_pos hc] at g
      have hk : k = .free := by
        rw [Bool.and_eq_true, Bool.and_eq_true] at hc
        simpa using hc.1.1
      subst hk
      cases hx : x == n with
      | true =>
        have hx' : x = n := beq_iff_eq.mp hx
        subst hx'
        exact List.mem_cons_self
      | false =>
        simp only [List.lookup_cons, hx] at g
        exact List.mem_cons_of_mem _ (ih g)
    · rw [if_neg hc] at g
      cases hx : x == n with
      | true =>
        have hx' : x = n := beq_iff_eq.mp hx
        subst hx'
        simp only [List.lookup_cons, hx] at g
        rcases g with g | g
        · exact absurd (Option.some.inj g) hnk
        · rw [show k = NameKind.free from Option.some.inj g]
          exact List.mem_cons_self
      | false =>
        simp only [List.lookup_cons, hx] at g
        exact List.mem_cons_of_mem _ (ih g)

/-- the block's context -/
abbrev blk (X : Cx) (scope : Scope) (Nb : List Str) (cl : List (Str × Addr)) (C : Addr) (s₀ : Shared) (H₀ : Hp) (fp : List Addr) (pn : List (Addr × Obj)) : Cx :=
  { X with N := Nb, s₀ := s₀, H₀ := H₀, env := compEnvC scope cl C X.env, outer := X.stack, ex := fp, fn := fun _ => false, pn := pn, xe := fun _ _ => False }

/-- the names of a block: nt of its own, then those of the def that it reads (at fr) -/
structure LcS (X : Cx) (scope : Scope) (Nb : List Str) (nt : Nat) (fr : List Nat) : Prop where
  kind : scope.kind = .function
  cell : ∀ y ∈ scope.names, y.2 ≠ .cell
  names : ∀ y ∈ scope.names, y.2 = .local → scope.names.lookup y.1 = some .local
  free : ∀ y ∈ scope.names, y.2 = .free → X.env.kindOf y.1 = some .cell
  len : Nb.length = nt + fr.length
  fr : ∀ (k j : Nat) (x : Str), fr[k]? = some j → Nb[nt + k]? = some x → X.N[j]? = some x ∧ scope.names.lookup x = some .free

def sigB (nt : Nat) (fr : List Nat) (σ : St) : St := List.replicate nt none ++ fr.map fun j => (σ[j]?).join

theorem HOk.sameBut {P : Program} {w : World} {H : Hp} {h h' : Heap} {C : Addr} (ok : HOk P w H h) (hn : H C = none) (hs : Heap.SameBut C h h') : HOk P w H h' := fun b ob e => by
  refine (ok b ob e).stay (fun c w' hc q => (hs.2 c ?_).trans q) (fun _ q => q) fun _ _ q => q
  rintro rfl
  rcases hc with rfl | hc
  · rw [hn] at e; cases e
  · rw [hn] at hc; cases hc

section
variable {pr : Program} {wo : World} {ar : Around} {RR : Result → Shared → Prop} {st : Shared}
/-- what is wanted of an exception within the block -/
abbrev nb (pr : Program) (wo : World) (ar : Around) (en : Env) (RR : Result → Shared → Prop) : Value → Shared → Prop := notedBy (model pr wo) ar en fun x t => RR (.error x) t
/-- the tests, one after another -/
abbrev tsts (en : Env) (cs : List Expr) : Sem Bool := forIn cs true fun c b => if b = true then do let y ← isTrue c en (eval c en); pure (ForInStep.yield y) else pure (ForInStep.yield b)
/-- the block's loop by a word and a measure, whatever the target is -/
theorem compLoop_by {el tg itx : Expr} {cs : List Expr} {sc : Scope} {ps : Pos} {itv acc : Value} {en : Env} (J : Nat → Shared → Prop)
    (turn : ∀ k t, J k t → wpAny (model pr wo) ar (pyNext itv) (fun r t1 => match r with
      | none => RR (.ok .next) t1
      | some v => wpAny (model pr wo) ar (letOwnedTupleGo tg itv v) (fun _ t2 => wpAny (model pr wo) ar (assign tg en v) (fun _ t3 => wpAny (model pr wo) ar (tsts en cs) (fun b t4 =>
          if b = true then wpAny (model pr wo) ar (eval el en) (fun x t5 => wpAny (model pr wo) ar (call (.builtin "list.append") [acc, x]) (fun _ t6 => ∃ m, m < k ∧ J m t6) (nb pr wo ar en RR) t5) (nb pr wo ar en RR) t4
          else ∃ m, m < k ∧ J m t4) (nb pr wo ar en RR) t3) (nb pr wo ar en RR) t2) (nb pr wo ar en RR) t1) (nb pr wo ar en RR) t)
    (k : Nat) (h0 : J k st) : codeAny (model pr wo) ar (.compLoop (.ListComp el [⟨tg, itx, cs, 0⟩] sc ps) 0 itv acc en) RR st := by
  refine codeAny_loop rfl J (fun k t hJ => ?_) k h0
  show wpAny _ ar ((compTurn (.ListComp el [⟨tg, itx, cs, 0⟩] sc ps) 0 itv acc en).onRaise fun x => do noteFrame x en; theTreesLotGoes x) _ _ t
  rw [compTurn_list]
  refine wpAny_noted (wpAny_bind (wpAny_standAt (wpAny_bind (thn (turn k t hJ) fun r t1 q1 => ?_))))
  cases r with
  | none => exact wpAny_pure q1
  | some v =>
    refine wpAny_bind (thn q1 fun _ t2 q2 => wpAny_bind (thn q2 fun _ t3 q3 => wpAny_bind (thn q3 fun b t4 q4 => ?_)))
    cases b with
    | false => exact wpAny_pure ⟨rfl, q4⟩
    | true => exact wpAny_bind (wpAny_bind (thn q4 fun x t5 q5 => wpAny_bind (thn q5 fun _ t6 q6 => wpAny_pure (wpAny_pure ⟨rfl, q6⟩))))
end

/-- the tests of a comprehension -/
def PIfs (X : Cx) (ifs : List Expr) (t : TT) : Prop :=
  ∀ (pins : List (Addr × Obj)) (s : Shared) (σ : St) (H : Hp) (Q : Bool → Hp → Prop), Inv X pins σ H s → t σ H Q → wpAny (model X.prog X.w) X.A (tsts X.env ifs) (TP X pins σ Q) X.xe s
def tYes : TT := fun _ H Q => Q true H
theorem pif_nil {X : Cx} : PIfs X [] tYes := fun _ _ _ H _ I h => wpAny_tests_nil ⟨H, I, h⟩
/-- what a comprehension is worth: D its list, n its turns, W what holds ahead of a turn -/
def lcGo (D : Addr) (J : It) (g : TG) (tc : TT) (te : TE) (σb : St) (H1 : Hp) (Q : VK) : Prop :=
  ∃ (n : Nat) (W : Nat → St → List V → Hp → Prop), n ≤ sizeLine ∧ W 0 σb [] (upd H1 D (.lst [])) ∧
    (∀ i σ ys H, i < n → W i σ ys H → H D = some (.lst ys) → ys.length ≤ i → J.go i H ∧ ∀ x H', J.yld i H x H' → g x σ H' fun σ2 H2 => tc σ2 H2 fun b H3 =>
      if b = true then te σ2 H3 fun y H4 => H4 D = some (.lst ys) ∧ W (i + 1) σ2 (ys ++ [y]) (upd H4 D (.lst (ys ++ [y]))) else H3 D = some (.lst ys) ∧ W (i + 1) σ2 ys H3) ∧
    ∀ σ ys H, W n σ ys H → H D = some (.lst ys) → J.stop n H ∧ Q (.ref D) H
def tLC (nt : Nat) (fr : List Nat) (wi : TI) (g : TG) (tc : TT) (te : TE) : TE := fun σ H Q => wi σ H fun J H1 => ∀ D, H1 D = none → lcGo D J g tc te (sigB nt fr σ) H1 Q

section
variable {X : Cx} {scope : Scope} {Nb : List Str} {nt : Nat} {fr : List Nat}
/-- the block begins -/
theorem inv_blk {pins : List (Addr × Obj)} {σ : St} {H : Hp} {s : Shared} {fp : List Addr} {C : Addr} {h4 : Heap} {tk : Nat} (S : LcS X scope Nb nt fr) (I : Inv X pins σ H s) (hC : C = s.heap.objs.size)
    (hns : h4.Ns C fun _ => none) (old : ∀ b o, s.heap.get? b = some o → h4.get? b = some o) (hf : ∀ b ∈ fp, FpOk X pins H b) (ho : ∀ b ∈ fp, ∃ o, s.heap.get? b = some o) (ht : 0 < tk := by ((try dsimp only); first | assumption | exact Inv.tk (by assumption) | exact Nat.succ_pos _ | exact Nat.lt_of_lt_of_le (Inv.tk (by assumption)) (by assumption) | exact Nat.add_pos_left (Inv.tk (by assumption)) _ | omega)) :
    Inv (blk X scope Nb (clOf X.env.cells scope.names []) C s H fp (X.pn ++ pins)) [] (sigB nt fr σ) H { s with heap := h4, toks := tk } := by
  subst hC
  have sub : ∀ y c, (clOf X.env.cells scope.names []).lookup y = some c → X.env.cells.lookup y = some c := clOf_sub fun y c e => by simp at e
  have frees : ∀ y, (y, NameKind.free) ∈ scope.names → X.env.kindOf y = some .cell := fun y hy => S.free _ hy rfl
  have neC : ∀ b o, s.heap.get? b = some o → b ≠ s.heap.objs.size := fun b o e z => by rw [z] at e; exact absurd (Heap.lt_size e) (Nat.lt_irrefl _)
  have notStk : ∀ b, b ≠ X.env.locals → b ∉ X.fs → b ∉ frs X.stack := fun b h1 h2 z => (List.mem_cons.mp (I.stkSub b z)).elim h1 h2
  refine ⟨⟨I.ok.mod, S.kind, I.ok.glob, I.ok.blt, Nat.le_refl _, fun x y c h1 h2 => I.ok.inj x y c (sub x c h1) (sub y c h2), fun x hx => ?_, fun x c z => (by cases z), I.ok.hd, I.ok.frames, .inl rfl, fun b hb => ?_, I.bs, Nat.le_trans I.ok.bsz I.sz, fun b o e hb => ?_, fun b hb => ?_, I.stack, I.stkFree⟩,
    rfl, I.bare, Un.kept old, ⟨_, hns, fun i x v e1 e2 e3 => ?_⟩, fun x c e => ?_, I.hok.fresh (Nat.le_refl _), fun x c e => I.freeC x c (sub x c e), fun p hp => ?_, I.hok.kept old, ?_, ht⟩
  · have hm := relabel_was (env := X.env) S.cell hx
    exact clOf_has hm (I.ok.has x (.inl (frees x hm)))
  · obtain ⟨o, e⟩ := ho b hb
    exact ⟨neC b o e, fun x c e' => (hf b hb).2.2.2.2.1 x c (sub x c e')⟩
  · rcases (hf b hb).2.2.2.1 with z | z
    · exact I.ok.noex b o e z
    · exact absurd (Nat.lt_of_lt_of_le (Heap.lt_size e) (Nat.le_trans I.ok.bsz z)) (Nat.lt_irrefl _)
  · exact notStk b (hf b hb).2.1 (hf b hb).2.2.1
  · -- the names that the block reads
    have hi : nt ≤ i := by
      rcases Nat.lt_or_ge i nt with z | z
      · unfold sigB at e2
        rw [List.getElem?_append_left (by simpa using z), List.getElem?_replicate] at e2
        split at e2 <;> cases e2
      · exact z
    obtain ⟨k, rfl⟩ : ∃ k, i = nt + k := ⟨i - nt, by omega⟩
    unfold sigB at e2
    rw [List.getElem?_append_right (by simp)] at e2
    simp only [List.length_replicate, Nat.add_sub_cancel_left, List.getElem?_map] at e2
    cases ej : fr[k]? with
    | none => rw [ej] at e2; cases e2
    | some j =>
      rw [ej] at e2
      have e2' : (σ[j]?).join = some v := Option.some.inj e2
      have e2'' : σ[j]? = some (some v) := by
        cases q : σ[j]? with
        | none => rw [q] at e2'; cases e2'
        | some z => rw [q] at e2'; exact congrArg some e2'
      obtain ⟨n1, n2⟩ := S.fr k j x ej e1
      have kx : X.env.kindOf x = some .cell := frees x (PySem.mem_of_lookup n2)
      obtain ⟨m, hn, hl⟩ := I.loc
      obtain ⟨u, r, l⟩ := hl j x v n1 e2'' (.inr (.inl kx))
      refine ⟨u, r, .inr ⟨.inl (relabel_cell I.ok.kind n2 kx), ?_⟩⟩
      rcases l with ⟨z, _⟩ | ⟨_, c, ec, hcell⟩
      · rw [kx] at z; cases z
      · obtain ⟨c', ec'⟩ := clOf_has (cells := X.env.cells) (cs := []) (PySem.mem_of_lookup n2) ⟨c, ec⟩
        have := sub x c' ec'
        rw [ec] at this
        cases this
        obtain ⟨o, q, d⟩ := hcell
        exact ⟨c, ec', o, old c o q, d⟩
  · obtain ⟨v, o, q, d⟩ := I.cell x c (sub x c e)
    exact ⟨v, o, old c o q, d⟩
  · have hp' : p ∈ X.pn ++ pins := by simpa using hp
    obtain ⟨e, n, ne, nf, d⟩ := I.pin p hp'
    exact ⟨old _ _ e, n, neC _ _ e, notStk _ ne nf, d⟩
  · show (sigB nt fr σ).length = Nb.length
    unfold sigB
    rw [S.len]
    simp

theorem lc_core {tg iter elt : Expr} {ifs : List Expr} {wi : TI} {g : TG} {tc : TT} {te : TE} {pos : Pos} {R : Value → Addr → Result → Shared → Prop} {pins : List (Addr × Obj)} {s : Shared} {σ : St} {H : Hp} {Q : VK} (S : LcS X scope Nb nt fr) (hcalm : X.calm = true) (hi : PI X tg iter wi)
    (hg : ∀ cl C s₀ H₀ fp pn, PG (blk X scope Nb cl C s₀ H₀ fp pn) tg g) (hc : ∀ cl C s₀ H₀ fp pn, PIfs (blk X scope Nb cl C s₀ H₀ fp pn) ifs tc) (he : ∀ cl C s₀ H₀ fp pn, PE (blk X scope Nb cl C s₀ H₀ fp pn) elt te)
    (I : Inv X pins σ H s) (h : tLC nt fr wi g tc te σ H Q)
    (hR : ∀ (D C : Addr) (H' : Hp) (s1 : Shared) (m : Str → Option Value), Inv X pins σ H' s1 → s1.heap.Ns C m → FpOk X pins H' C → Q (.ref D) H' → R (.ref D) C (.ok .next) s1) :
    wpAny (model X.prog X.w) X.A (eval iter X.env) (fun x s₁ => wpAny (model X.prog X.w) X.A (pyIter x) (fun it s₂ => wpAny (model X.prog X.w) X.A (newList []) (fun acc s₃ =>
      wpAny (model X.prog X.w) X.A (newFunctionEnv scope X.env.globals (clOf X.env.cells scope.names []) [] X.env.qual none .none (some X.env)) (fun cenv s₄ =>
        codeAny (model X.prog X.w) X.A (.compStart (.ListComp elt [⟨tg, iter, ifs, 0⟩] scope pos) 0 it acc { cenv with scope := relabel scope X.env }) (R acc cenv.locals) s₄) X.xe s₃) X.xe s₂) X.xe s₁) X.xe s := by
  refine thn (hi pins s σ H _ I h) fun v s1 h1 => thn h1 fun itv s2 h2 => ?_
  obtain ⟨it, fp, tn, J, H2, e, I2, T, st2, f2, q2⟩ := h2
  subst e
  have hDn : H2 s2.heap.objs.size = none := I2.hok.fresh (Nat.le_refl _)
  obtain ⟨n, W, hn, w0, step, fin⟩ := q2 _ hDn
  generalize hD : s2.heap.objs.size = D at *
  refine wpAny_newObj_type ?_
  rw [hD]
  have I3 : Inv X pins σ (upd H2 D (.lst [])) { s2 with heap := s2.heap.push { cls := .type "list", data := .seq ([] : List Value).toArray } } := by
    have := I2.lnew (ys := []) (its := []) (t' := s2.toks) .nil (Nat.zero_le _)
    rw [hD] at this
    exact this
  refine wpAny_newFunctionEnv S.cell (by intro y hy; simp at hy) (fun h4 hns4 sb4 => ?_) S.kind
  dsimp only at hns4 sb4 ⊢
  generalize hH3 : s2.heap.push { cls := .type "list", dict := none, data := .seq ([] : List Value).toArray } = h3 at hns4 sb4 I3 ⊢
  have hC : h3.objs.size = D + 1 := by rw [← hH3, Heap.size_push, hD]
  have old4 : ∀ b o, h3.get? b = some o → h4.get? b = some o := fun b o e => sb4.extBut b o (Nat.ne_of_lt (Heap.lt_size e)) (Heap.get?_push_of_some _ e)
  have old3 : ∀ b o, s2.heap.get? b = some o → h3.get? b = some o := fun b o e => by rw [← hH3]; exact Heap.get?_push_of_some _ e
  have fpo : ∀ b ∈ fp, ∃ o, s2.heap.get? b = some o := fun b hb => let ⟨o, e, _⟩ := T.obj _ _ st2 b hb; ⟨o, e⟩
  have fpD : ∀ b ∈ fp, b ≠ D := fun b hb z => by
    obtain ⟨o, e⟩ := fpo b hb
    have q := Heap.lt_size e
    rw [z, hD] at q
    exact Nat.lt_irrefl _ q
  have f3 : ∀ b ∈ fp, FpOk X pins (upd H2 D (.lst [])) b := fun b hb => ⟨by rw [upd_ne (fpD b hb)]; exact (f2 b hb).1, (f2 b hb).2⟩
  have IB := inv_blk (C := h3.objs.size) (h4 := h4) (tk := s2.toks + ([] : List (Str × Value)).length) (fp := fp) S I3 rfl hns4 old4 f3 fun b hb => let ⟨o, e⟩ := fpo b hb; ⟨o, old3 b o e⟩
  generalize hXb : blk X scope Nb (clOf X.env.cells scope.names []) h3.objs.size { s2 with heap := h3 } (upd H2 D (.lst [])) fp (X.pn ++ pins) = Xb at IB
  have gB := hg (clOf X.env.cells scope.names []) h3.objs.size { s2 with heap := h3 } (upd H2 D (.lst [])) fp (X.pn ++ pins)
  have cB := hc (clOf X.env.cells scope.names []) h3.objs.size { s2 with heap := h3 } (upd H2 D (.lst [])) fp (X.pn ++ pins)
  have eB := he (clOf X.env.cells scope.names []) h3.objs.size { s2 with heap := h3 } (upd H2 D (.lst [])) fp (X.pn ++ pins)
  rw [hXb] at gB cB eB
  have xP : Xb.prog = X.prog := by rw [← hXb]
  have xW : Xb.w = X.w := by rw [← hXb]
  have xK : Xb.K = X.K := by rw [← hXb]
  have xA : Xb.A = X.A := by rw [← hXb]
  have xC : Xb.calm = true := by rw [← hXb]; exact hcalm
  have xE : Xb.env = compEnvC scope (clOf X.env.cells scope.names []) h3.objs.size X.env := by rw [← hXb]
  have xX : Xb.xe = fun _ _ => False := by rw [← hXb]
  have stat : ∀ {H' : Hp}, (∀ b ∈ fp, H' b = none) → ∀ b ∈ fp, FpOk Xb [] H' b := fun hn b hb => by
    obtain ⟨g1, g2, g3, g4, g5, g6⟩ := f2 b hb
    obtain ⟨o, e⟩ := fpo b hb
    subst hXb
    refine ⟨hn b hb, fun z => ?_, fun z => (List.mem_cons.mp (I2.stkSub b z)).elim g2 g3, .inl hb, fun x c ec => g5 x c (clOf_sub (fun y c e => by simp at e) x c ec), fun p hp => g6 p (by simpa using hp)⟩
    have hlt := Heap.lt_size (old3 b o e)
    have z' : b = h3.objs.size := z
    rw [z'] at hlt
    exact Nat.lt_irrefl _ hlt
  -- the loop
  have loop : ∀ s5 : Shared, s5 = { s2 with heap := h4, toks := s2.toks + ([] : List (Str × Value)).length } →
      codeAny (model X.prog X.w) X.A (.compLoop (.ListComp elt [⟨tg, iter, ifs, 0⟩] scope pos) 0 (.ref it) (.ref D) (compEnvC scope (clOf X.env.cells scope.names []) h3.objs.size X.env))
        (R (.ref D) h3.objs.size) s5 := by
    rintro s5 rfl
    refine compLoop_by (fun k s' => ∃ i σ' ys H', Inv Xb [] σ' H' s' ∧ tn i s'.heap ∧ (∀ b ∈ fp, H' b = none) ∧ H' D = some (.lst ys) ∧ i ≤ n ∧ k = n - i ∧ ys.length ≤ i ∧ W i σ' ys H') ?_ n
      ⟨0, sigB nt fr σ, [], _, IB, T.keep _ _ _ st2 fun b hb o e => old4 b o (old3 b o e), fun b hb => (f3 b hb).1, upd_same, Nat.zero_le _, rfl, Nat.le_refl _, w0⟩
    rintro k s' ⟨i, σ', ys, H', I', st', fr', hD', hin, rfl, hyl, w'⟩
    rcases Nat.lt_or_ge i n with hlt | hge
    · obtain ⟨go, next⟩ := step i σ' ys H' hlt w' hD' hyl
      have ti := T.item Xb xP xW xK xC i [] s' σ' H' (fun _ _ => False) I' (stat fr') st' go
      rw [xA] at ti
      refine wpAny_mono ti (fun r s1 h1 => ?_) fun _ _ z => z.elim
      obtain ⟨u, rfl, h1⟩ := h1
      refine wpAny_mono h1 (fun _ s2' h2' => ?_) fun _ _ z => z.elim
      obtain ⟨x, H5, I5, r5, y5, st5, fr5⟩ := h2'
      have I5' := I5.pinned (stat fr5) (T.obj _ _ st5)
      have ga := gB _ s2' σ' H5 x u _ I5' r5 (next x H5 y5)
      rw [xP, xW, xA, xE, xX] at ga
      refine wpAny_mono ga (fun _ s3 h3' => ?_) fun _ _ z => z.elim
      obtain ⟨σ6, H6, I6, q6⟩ := h3'
      have ca := cB _ s3 σ6 H6 _ I6 q6
      rw [xP, xW, xA, xE, xX] at ca
      refine wpAny_mono ca (fun ok s4 h4' => ?_) fun _ _ z => z.elim
      obtain ⟨H7, I7, q7⟩ := h4'
      have back : ∀ {σ8 : St} {H8 : Hp} {s8 : Shared}, Inv Xb ([] ++ pinsAt fp s2'.heap) σ8 H8 s8 → Inv Xb [] σ8 H8 s8 ∧ tn (i + 1) s8.heap ∧ ∀ b ∈ fp, H8 b = none := fun {σ8 H8 s8} I8 => by
        refine ⟨I8.unpinned, T.keep _ _ _ st5 fun b hb o e => (I8.pin (b, o) (List.mem_append_right _ (List.mem_append_right _ (mem_pinsAt hb e)))).1, fun b hb => ?_⟩
        obtain ⟨o, e, d⟩ := T.obj _ _ st5 b hb
        exact (I8.pin (b, o) (List.mem_append_right _ (List.mem_append_right _ (mem_pinsAt hb e)))).2.1
      cases ok with
      | false =>
        rw [if_neg Bool.false_ne_true] at q7 ⊢
        obtain ⟨b1, b2, b3⟩ := back I7
        exact ⟨n - (i + 1), by omega, i + 1, σ6, ys, H7, b1, b2, b3, q7.1, hlt, rfl, by omega, q7.2⟩
      | true =>
        rw [if_pos rfl] at q7 ⊢
        have ea := eB _ s4 σ6 H7 _ I7 q7
        rw [xP, xW, xA, xE, xX] at ea
        refine wpAny_mono ea (fun y s5 h5 => ?_) fun _ _ z => z.elim
        obtain ⟨yv, H8, I8, r8, hD8, q8⟩ := h5
        have ma := mt_append (X := Xb) _ s5 σ6 H8 (.ref D) [yv] (.ref D) [y] (fun _ H9 => H9 = upd H8 D (.lst (ys ++ [yv]))) I8 rfl (.cons r8 .nil) ⟨D, ys, yv, rfl, rfl, hD8, by omega, rfl⟩
        rw [xP, xW, xA, xX] at ma
        refine wpAny_mono ma (fun _ s6 h6 => ?_) fun _ _ z => z.elim
        obtain ⟨_, H9, I9, _, rfl⟩ := h6
        obtain ⟨b1, b2, b3⟩ := back I9
        exact ⟨n - (i + 1), by omega, i + 1, σ6, ys ++ [yv], _, b1, b2, b3, upd_same, hlt, rfl, by rw [List.length_append, List.length_singleton]; omega, q8⟩
    · have hin' : i = n := Nat.le_antisymm hin hge
      subst hin'
      obtain ⟨stop, hq⟩ := fin σ' ys H' w' hD'
      have td := T.done Xb xP xW xK xC i [] s' σ' H' (fun _ _ => False) I' (stat fr') st' stop
      rw [xA] at td
      refine wpAny_mono td (fun r s1 h1 => ?_) fun _ _ z => z.elim
      obtain ⟨rfl, I6⟩ := h1
      obtain ⟨m, hm, _⟩ := id I6.loc
      rw [xE] at hm
      have frC : H' h3.objs.size = none := by have := I6.free; rw [xE] at this; exact this
      have u6 : Un (frs X.stack) fp (upd H2 D (.lst [])) H' h3 s1.heap := by have := I6.base; subst hXb; exact this
      have u2 : Un (frs X.stack) fp H2 (upd H2 D (.lst [])) s2.heap h3 := Un.laid (fun b o e => old3 b o e) (by rw [hD]; exact Nat.le_refl _) hDn
      have hos : s1.os = s2.os := by have := I6.os; subst hXb; exact this
      have hok : HOk X.prog X.w H' s1.heap := by
        have := I6.hok
        subst hXb; exact this
      refine hR D h3.objs.size H' s1 m (I2.call' (s' := s1) (ch := fp) hos (u2.trans u6) hok I6.bare fun b hb => ?_) hm (I2.fpOk (by omega) frC) hq
      obtain ⟨g1, g2, g3, g4, g5, g6⟩ := f2 b hb
      exact ⟨g4, g2, g5, g6⟩
  exact codeAny_compStart_list (loop _ rfl) (T.self _ 0 _ _ _ (T.keep _ _ _ st2 fun b hb o e => old4 b o (old3 b o e)) (loop _ rfl))

theorem pe_lc {tg iter elt : Expr} {ifs : List Expr} {wi : TI} {g : TG} {tc : TT} {te : TE} {pos : Pos} (S : LcS X scope Nb nt fr) (hcalm : X.calm = true) (hi : PI X tg iter wi)
    (hg : ∀ cl C s₀ H₀ fp pn, PG (blk X scope Nb cl C s₀ H₀ fp pn) tg g) (hc : ∀ cl C s₀ H₀ fp pn, PIfs (blk X scope Nb cl C s₀ H₀ fp pn) ifs tc) (he : ∀ cl C s₀ H₀ fp pn, PE (blk X scope Nb cl C s₀ H₀ fp pn) elt te)
    (hs : ∀ x, foldedSetIterable iter X.env x = pure x := by intro _; rfl) : PE X (.ListComp elt [⟨tg, iter, ifs, 0⟩] scope pos) (tLC nt fr wi g tc te) := by
  intro pins s σ H Q I h
  have hclos : closureFor scope X.env = pure (clOf X.env.cells scope.names []) := closure_ok fun y hy => I.ok.has y (.inl (S.free _ hy rfl))
  rw [eval_ListComp]
  refine wpAny_comprehension_free (use := none) rfl hs hclos S.kind S.names ?_
  refine lc_core (R := fun acc C => compPost (model X.prog X.w) X.A X.xe none (EP X pins σ Q) acc C) S hcalm hi hg hc he I h fun D C H' s1 m I1 hm fc q => ?_
  obtain ⟨f0, f1, f2, f3, f4, f5⟩ := fc
  exact ⟨m, hm, fun h' hs' => ⟨.ref D, H', I1.turned (t' := s1.toks) (it := C) (fun b o hb e => (hs'.2 b hb).trans e) f0 f1 f3 f4 f5, rfl, q⟩⟩
/-- name = [.. for ..]: the store comes ahead of the block's end -/
theorem ps_setLC {i : Nat} {y : Str} {tg iter elt : Expr} {ifs : List Expr} {wi : TI} {g : TG} {tc : TT} {te : TE} {pos spos py : Pos} (hN : X.N.Nodup) (hi' : X.N[i]? = some y) (hy : Loc X.env.scope y) (S : LcS X scope Nb nt fr) (hcalm : X.calm = true) (hi : PI X tg iter wi)
    (hg : ∀ cl C s₀ H₀ fp pn, PG (blk X scope Nb cl C s₀ H₀ fp pn) tg g) (hc : ∀ cl C s₀ H₀ fp pn, PIfs (blk X scope Nb cl C s₀ H₀ fp pn) ifs tc) (he : ∀ cl C s₀ H₀ fp pn, PE (blk X scope Nb cl C s₀ H₀ fp pn) elt te)
    (hs : ∀ x, foldedSetIterable iter X.env x = pure x := by intro _; rfl) (hsw : swapsWith (.ListComp elt [⟨tg, iter, ifs, 0⟩] scope pos) (some (.Name y py)) spos.line X.env = pure true := by rfl)
    (hf : X.fn y = true ∨ X.env.scope.names.lookup y = some .local := by first | exact .inl rfl | exact .inr rfl | assumption) :
    PS X (.Assign [.Name y py] (.ListComp elt [⟨tg, iter, ifs, 0⟩] scope pos) spos) (tAsg (tLC nt fr wi g tc te) (gName i)) := by
  intro pins s σ H D I h
  have hclos : closureFor scope X.env = pure (clOf X.env.cells scope.names []) := closure_ok fun y hy => I.ok.has y (.inl (S.free _ hy rfl))
  rw [exec_Assign_Name_used _ _ _ _ hsw]
  refine wpAny_bind (wpAny_standAt (wpAny_bind ?_))
  show wpAny _ X.A (do let _ ← comprehension (.ListComp elt [⟨tg, iter, ifs, 0⟩] scope pos) scope X.env _ (newList []) false (eval iter X.env) (some (assign (.Name y py) X.env))) _ _ s
  refine wpAny_bind (wpAny_mono (wpAny_comprehension_free (use := some (assign (.Name y py) X.env)) (Q := fun _ s' => SP X pins D .next s') rfl hs hclos S.kind S.names ?_) (fun _ s' hq => wpAny_pure (wpAny_pure hq)) fun _ _ e => e)
  refine lc_core (R := fun acc C => compPost (model X.prog X.w) X.A X.xe (some (assign (.Name y py) X.env)) (fun _ s' => SP X pins D .next s') acc C) S hcalm hi hg hc he I h fun A C H' s1 m I1 hm fc q => ?_
  obtain ⟨f0, f1, f2, f3, f4, f5⟩ := fc
  show wpAny _ X.A (assign (.Name y py) X.env (.ref A)) _ _ s1
  refine wpAny_assign_Name (store_ok2 (v := .ref A) I1 hN hi' hy (show RelV (.ref A) (.ref A) from rfl) (fun s' I' ⟨a, sb, ha⟩ => ?_) hf)
  have hCa : C ≠ a := by
    rcases ha with rfl | ha
    · exact f1
    · exact fun z => f4 y a ha z.symm
  refine ⟨m, hm.sameBut sb hCa, fun h' hs' => ⟨_, H', I'.turned (t' := s'.toks) (it := C) (fun b o hb e => (hs'.2 b hb).trans e) f0 f1 f3 f4 f5, q⟩⟩
end
end L2

set_option Elab.async false
set_option linter.all false
set_option maxRecDepth 100000
set_option maxHeartbeats 4000000
namespace L2
open PySem PySem.Spec PyProof.Rows
/-- a block with one name of its own, that reads none of the def's -/
theorem lcs0 {X : Cx} {sc : Scope} {x : Str} (hk : sc.kind = .function := by rfl) (hc : ∀ y ∈ sc.names, y.2 ≠ .cell := by decide +kernel) (hn : ∀ y ∈ sc.names, y.2 = .local → sc.names.lookup y.1 = some .local := by decide +kernel)
    (hf : ∀ y ∈ sc.names, y.2 ≠ .free := by decide +kernel) : LcS X sc [x] 1 [] := ⟨hk, hc, hn, fun y hy e => absurd e (hf y hy), rfl, fun k j x h => by simp at h⟩
/-- a block that reads names of the def (fsc its scope, Nf its names) -/
theorem lcsN {X : Cx} {sc : Scope} {Nb : List Str} {nt : Nat} {fr : List Nat} (fsc : Scope) (Nf : List Str) (hX : X.env.scope = fsc := by rfl) (hN : X.N = Nf := by rfl) (hk : sc.kind = .function := by rfl) (hc : ∀ y ∈ sc.names, y.2 ≠ .cell := by decide +kernel)
    (hn : ∀ y ∈ sc.names, y.2 = .local → sc.names.lookup y.1 = some .local := by decide +kernel) (hf : ∀ y ∈ sc.names, y.2 = .free → fsc.names.lookup y.1 = some .cell := by decide +kernel) (hl : Nb.length = nt + fr.length := by rfl)
    (hz : ((fr.zip (Nb.drop nt)).all fun p => decide (Nf[p.1]? = some p.2) && decide (sc.names.lookup p.2 = some .free)) = true := by decide +kernel) : LcS X sc Nb nt fr := by
  subst hX hN
  refine ⟨hk, hc, hn, hf, hl, fun k j x h1 h2 => ?_⟩
  have hm : (fr.zip (Nb.drop nt))[k]? = some (j, x) := by
    rw [List.getElem?_zip_eq_some]
    exact ⟨h1, by rw [List.getElem?_drop]; exact h2⟩
  have q := List.all_eq_true.mp hz _ (List.mem_of_getElem? hm)
  rw [Bool.and_eq_true] at q
  exact ⟨of_decide_eq_true q.1, of_decide_eq_true q.2⟩
/-- a comprehension over a text, its element a plain value of the sign -/
theorem lc_str {z : Str} {D : Addr} {H1 : Hp} {te : TE} {tl : St} {Q : VK} (f : Nat → V) (hz : z.length ≤ sizeLine) (hD : H1 D = none)
    (hte : ∀ (i c : Nat) H (R : VK), z.cps[i]? = some c → Same H1 H → R (f c) H → te (some (.str ⟨#[c]⟩) :: tl) H R)
    (hQ : ∀ H', Same H1 H' → H' D = some (.lst (z.cps.toList.map f)) → Q (.ref D) H') : lcGo D (Its z) (gName 0) tYes te (none :: tl) H1 Q := by
  refine ⟨z.cps.size, fun i σ ys H => (∃ w, σ = w :: tl) ∧ ys = (z.cps.toList.take i).map f ∧ Same H1 H, hz, ⟨⟨none, rfl⟩, rfl, same_new hD _⟩, ?_, ?_⟩
  · rintro i σ ys H hi ⟨⟨w, rfl⟩, rfl, sm⟩ hl hy
    refine ⟨hi, ?_⟩
    rintro x H' ⟨rfl, c, hc, rfl⟩
    dsimp only [gName, tYes, List.set]
    rw [if_pos rfl]
    refine hte i c H' _ hc sm ⟨hl, ⟨some (.str ⟨#[c]⟩), rfl⟩, ?_, ?_⟩
    · rw [List.take_add_one, show z.cps.toList[i]? = some c by simpa using hc]
      simp
    · intro b o e
      rw [upd_ne (ne_of_none e hD)]
      exact sm b o e
  · rintro σ ys H ⟨_, rfl, sm⟩ hl
    refine ⟨rfl, hQ H sm ?_⟩
    rw [hl, List.take_of_length_le (by simp)]
end L2

set_option Elab.async false
set_option linter.all false
set_option maxRecDepth 100000
set_option maxHeartbeats 4000000
namespace L2
open PySem PySem.Spec PyProof.Rows
mutual
def Is (H : Hp) : D → V → Prop
  | .non, v => v = .non
  | .bl b, v => v = .bl b
  | .int i, v => v = .int i
  | .str z, v => v = .str z ∧ z.length ≤ sizeLine
  | .lst, v => ∃ a xs, v = .ref a ∧ H a = some (.lst xs)
  | .dct, v => ∃ a kvs, v = .ref a ∧ H a = some (.dK kvs)
  | .tup xs, v => ∃ a vs, v = .ref a ∧ H a = some (.tup vs) ∧ IsL H xs vs
def IsL (H : Hp) : List D → List V → Prop
  | [], vs => vs = []
  | x :: xs, vs => ∃ v r, vs = v :: r ∧ Is H x v ∧ IsL H xs r
end
/-- all tuples as they were; lists stay lists, dicts dicts -/
structure Tk (H H' : Hp) : Prop where
  tup : ∀ b xs, H b = some (.tup xs) → H' b = some (.tup xs)
  lst : ∀ b xs, H b = some (.lst xs) → ∃ ys, H' b = some (.lst ys)
  dct : ∀ b xs, H b = some (.dK xs) → ∃ ys, H' b = some (.dK ys)
theorem Same.tk {H H' : Hp} (s : Same H H') : Tk H H' := ⟨fun b xs e => s b _ e, fun b xs e => ⟨xs, s b _ e⟩, fun b xs e => ⟨xs, s b _ e⟩⟩
/-- p is a list ahead and behind -/
theorem Kept.tk {p : Addr} {H H' : Hp} {xs ys : List V} (k : Kept p H H') (h : H p = some (.lst xs)) (h' : H' p = some (.lst ys)) : Tk H H' := by
  refine ⟨fun b zs e => k b _ e fun z => ?_, fun b zs e => ?_, fun b zs e => ⟨zs, k b _ e fun z => ?_⟩⟩
  · rw [z, h] at e; cases e
  · by_cases z : b = p
    · exact ⟨ys, z ▸ h'⟩
    · exact ⟨zs, k b _ e z⟩
  · rw [z, h] at e; cases e
mutual
theorem Is.mono {H H' : Hp} (t : Tk H H') : ∀ {d : D} {v : V}, Is H d v → Is H' d v
  | .non, _, h => h
  | .bl _, _, h => h
  | .int _, _, h => h
  | .str _, _, h => h
  | .lst, _, h => by
    obtain ⟨a, vs, e, ha⟩ := h
    obtain ⟨ys, q⟩ := t.lst a vs ha
    exact ⟨a, ys, e, q⟩
  | .dct, _, h => by
    obtain ⟨a, vs, e, ha⟩ := h
    obtain ⟨ys, q⟩ := t.dct a vs ha
    exact ⟨a, ys, e, q⟩
  | .tup xs, _, h => by
    obtain ⟨a, vs, e, ha, hl⟩ := h
    exact ⟨a, vs, e, t.tup a vs ha, IsL.mono t hl⟩
theorem IsL.mono {H H' : Hp} (t : Tk H H') : ∀ {ds : List D} {vs : List V}, IsL H ds vs → IsL H' ds vs
  | [], _, h => h
  | _ :: _, _, h => by
    obtain ⟨v, r, e, h1, h2⟩ := h
    exact ⟨v, r, e, Is.mono t h1, IsL.mono t h2⟩
end
theorem IsL.length {H : Hp} : ∀ {ds : List D} {vs : List V}, IsL H ds vs → vs.length = ds.length
  | [], _, h => by cases (show _ = [] from h); rfl
  | _ :: _, _, h => by
    obtain ⟨v, r, rfl, _, h2⟩ := h
    rw [List.length_cons, List.length_cons, IsL.length h2]
theorem IsL.get {H : Hp} : ∀ {ds : List D} {vs : List V} {i : Nat} {d : D}, IsL H ds vs → ds[i]? = some d → ∃ v, vs[i]? = some v ∧ Is H d v
  | [], _, _, _, _, e => by simp at e
  | x :: _, _, 0, d, h, e => by
    obtain ⟨v, r, rfl, h1, _⟩ := h
    have : x = d := by simpa using e
    exact ⟨v, rfl, this ▸ h1⟩
  | _ :: _, _, i + 1, d, h, e => by
    obtain ⟨v, r, rfl, _, h2⟩ := h
    obtain ⟨u, e1, e2⟩ := IsL.get (i := i) (d := d) h2 (by simpa using e)
    exact ⟨u, by simpa using e1, e2⟩
theorem IsL.append {H : Hp} : ∀ {ds es : List D} {vs us : List V}, IsL H ds vs → IsL H es us → IsL H (ds ++ es) (vs ++ us)
  | [], _, _, _, h, k => by cases (show _ = [] from h); exact k
  | _ :: _, _, _, _, h, k => by
    obtain ⟨v, r, rfl, h1, h2⟩ := h
    exact ⟨v, _, rfl, h1, IsL.append h2 k⟩
theorem IsL.one {H : Hp} {d : D} {v : V} (h : Is H d v) : IsL H [d] [v] := ⟨v, [], rfl, h, rfl⟩
/-- a new tuple of such -/
theorem Is.new {H : Hp} {ds : List D} {vs : List V} {p : Addr} (h : IsL H ds vs) (hp : H p = none) : Is (upd H p (.tup vs)) (.tup ds) (.ref p) :=
  ⟨p, vs, rfl, upd_same, h.mono (same_new hp _).tk⟩
/-- the type of such a value -/
def tyD : D → Value
  | .non => .type "NoneType"
  | .bl _ => .type "bool"
  | .int _ => .type "int"
  | .str _ => .type "str"
  | .lst => .type "list"
  | .dct => .type "dict"
  | .tup _ => .type "tuple"
theorem Is.ty {K : PySem.W.Frag} {H : Hp} {d : D} {v : V} (h : Is H d v) : TyOf K H v (tyD d) := by
  cases d with
  | non => cases (show v = .non from h); exact .non
  | bl b => cases (show v = .bl b from h); exact .bl b
  | int i => cases (show v = .int i from h); exact .int i
  | str z =>
    obtain ⟨rfl, _⟩ := h
    exact .str z
  | lst =>
    obtain ⟨a, vs, rfl, ha⟩ := h
    exact .lst ha
  | dct =>
    obtain ⟨a, vs, rfl, ha⟩ := h
    exact .dK ha
  | tup xs =>
    obtain ⟨a, vs, rfl, ha, _⟩ := h
    exact .tup ha
end L2

set_option Elab.async false
set_option linter.all false
set_option maxRecDepth 100000
set_option maxHeartbeats 4000000
namespace PySem.AwM
open PySem.AutoSeq1 PySem.MeetsSeq PySem.MeetsSeq3
end PySem.AwM
namespace PySem.AwM
open PySem
/-! max(xs, default=d) of a list of ints -/
def bestOf (val : Nat → Int) : Nat → Int
  | 0 => val 0
  | k + 1 => if val (k + 1) > bestOf val k then val (k + 1) else bestOf val k
section
variable {pg : Program} {wd : World} {ar : Around} {RR : Result → Shared → Prop} {it : Addr} {fs ws : List Addr} {n : Nat} {PP : Nat → Value → Prop} {SS : Nat → Heap → Prop}
theorem maxD_loop (W : Walks pg wd ar.in1 it fs ws n PP SS) (val : Nat → Int) (hv : ∀ i v, PP i v → ∃ t, v = .int (val i) t) (L : Addr) (hL : L ∉ fs) (kw : List (Str × Value)) (r : Nat) :
    ∀ (j : Nat) (t : Shared) (tb : Tok) (c : Nat), n - (j + 1) = r → j + 1 ≤ n → SS (j + 1) t.heap → t.heap.get? L = some { cls := .type "list", dict := none, data := .seq #[.int (bestOf val j) tb, .int (bestOf val j) tb] c, slots := #[] } →
    (∀ h' tk tb', (∀ b o, b ∉ ws → b ≠ L → t.heap.get? b = some o → h'.get? b = some o) → RR (.ok (.ret (.int (bestOf val (n - 1)) tb'))) { t with heap := h', toks := tk }) → codeAny (model pg wd) ar (.builtin "max.loop" ⟨[.ref it, .none, .ref L], kw⟩) RR t := by
  have hw : L ∉ ws := fun z => hL (W.sub _ z)
  have hnm : (toString "max" ++ toString ".loop" : String) = "max.loop" := by decide
  induction r with
  | zero =>
    intro j t tb c hr hj hs hl hR
    have hjn : n = j + 1 := by omega
    subst hjn
    refine codeAny_builtin F.entry_max_loop ?_; rw [Around.under_plainId F.plain_max_loop _]
    refine wpAny_bind (m := seqItems? (.ref L)) (wpAny_seqItems hl rfl ?_)
    refine wpAny_bind (m := tryCatch (pyNext (.ref it)) _) (wpAny_tryCatch (W.done t _ _ hs fun h' tk kk => ?_))
    have hl' := kk L _ hw hl
    refine wpAny_bind (m := updateSeq L fun _ => #[]) (wpAny_updateSeq hl' rfl (wpAny_bind (wpAny_letGo (wpAny_pure ?_))))
    exact hR _ tk tb fun b o hb hbl e => (Heap.get?_update_other _ _ fun z => hbl z.symm).trans (kk b o hb e)
  | succ r ih =>
    intro j t tb c hr hj hs hl hR
    have hjn : j + 1 < n := by omega
    refine codeAny_builtin F.entry_max_loop ?_; rw [Around.under_plainId F.plain_max_loop _]
    refine wpAny_bind (m := seqItems? (.ref L)) (wpAny_seqItems hl rfl ?_)
    refine wpAny_bind (m := tryCatch (pyNext (.ref it)) _) (wpAny_tryCatch (W.item (j + 1) t _ _ hjn hs fun v h' tk hP hs' kk => ?_))
    obtain ⟨tv, rfl⟩ := hv _ _ hP
    have hl' := kk L _ hw hl
    show wpAny _ ar.in1 (tryCatch (holding [.int (val (j + 1)) tv, .int (val (j + 1)) tv] (richCompare .Gt (.int (val (j + 1)) tv) (.int (bestOf val j) tb) >>= _)) _ >>= _) _ _ _
    have cmp := CmpOf.ints_gt (prog := pg) (w := wd) (A := ar.in1) (P := fun i v => v = .int (if i = 0 then val (j + 1) else bestOf val j) (if i = 0 then tv else tb)) (fun i => if i = 0 then val (j + 1) else bestOf val j) fun i v e => ⟨_, e⟩
    refine wpAny_bind (wpAny_tryCatch (wpAny_holding (wpAny_bind (cmp 0 1 _ _ _ _ _ rfl rfl (wpAny_bind (wpAny_holding (wpAny_truthy_bool (wpAny_bind (wpAny_letGo (wpAny_pure ?_))))))))))
    show wpAny _ ar.in1 (if decide (val (j + 1) > bestOf val j) = true then _ else _) _ _ _
    by_cases hg : val (j + 1) > bestOf val j
    · have eb : bestOf val (j + 1) = val (j + 1) := by unfold bestOf; rw [if_pos hg]
      rw [decide_eq_true hg]
      simp only [if_true]
      refine wpAny_bind (wpAny_updateSeq hl' rfl (wpAny_bind (wpAny_letGo ?_)))
      rw [hnm]
      refine wpAny_pure ⟨plainId_quiet F.plain_max_loop _, ih (j + 1) _ tv _ (by omega) hjn (W.frame _ _ _ hs' fun b hbf o e => ?_) (by rw [eb]; exact Heap.get?_update_self _ hl' rfl) fun h2 tk2 tb2 k2 => ?_⟩
      · exact (Heap.get?_update_other _ _ fun z => hL (by rw [z]; exact hbf)).trans e
      · exact hR h2 tk2 tb2 fun b o hbw hbl e => k2 b o hbw hbl ((Heap.get?_update_other _ _ fun z => hbl z.symm).trans (kk b o hbw e))
    · have eb : bestOf val (j + 1) = bestOf val j := by rw [bestOf, if_neg hg]
      rw [decide_eq_false hg]
      simp only [Bool.false_eq_true, if_false]
      refine wpAny_bind (wpAny_letGo ?_)
      rw [hnm]
      refine wpAny_pure ⟨plainId_quiet F.plain_max_loop _, ih (j + 1) _ tb c (by omega) hjn hs' (by rw [eb]; exact hl') fun h2 tk2 tb2 k2 => hR h2 tk2 tb2 fun b o hbw hbl e => k2 b o hbw hbl (kk b o hbw e)⟩
theorem maxD_first (W : Walks pg wd ar.in1 it fs ws n PP SS) (val : Nat → Int) (hv : ∀ i v, PP i v → ∃ t, v = .int (val i) t) (L : Addr) (hL : L ∉ fs) (dv : Value) {t : Shared} {c : Nat} (hs : SS 0 t.heap)
    (hl : t.heap.get? L = some { cls := .type "list", dict := none, data := .seq #[] c, slots := #[] })
    (hR0 : n = 0 → ∀ h' tk, (∀ b o, b ∉ ws → b ≠ L → t.heap.get? b = some o → h'.get? b = some o) → RR (.ok (.ret dv)) { t with heap := h', toks := tk })
    (hR : 0 < n → ∀ h' tk tb', (∀ b o, b ∉ ws → b ≠ L → t.heap.get? b = some o → h'.get? b = some o) → RR (.ok (.ret (.int (bestOf val (n - 1)) tb'))) { t with heap := h', toks := tk }) :
    codeAny (model pg wd) ar (.builtin "max.loop" ⟨[.ref it, .none, .ref L], [("default", dv)]⟩) RR t := by
  have hw : L ∉ ws := fun z => hL (W.sub _ z)
  have hnm : (toString "max" ++ toString ".loop" : String) = "max.loop" := by decide
  refine codeAny_builtin F.entry_max_loop ?_; rw [Around.under_plainId F.plain_max_loop _]
  refine wpAny_bind (m := seqItems? (.ref L)) (wpAny_seqItems hl rfl ?_)
  by_cases h0 : n = 0
  · subst h0
    refine wpAny_bind (m := tryCatch (pyNext (.ref it)) _) (wpAny_tryCatch (W.done t _ _ hs fun h' tk kk => ?_))
    exact wpAny_bind (wpAny_rule (wpAny_pure (hR0 rfl h' tk fun b o hb _ e => kk b o hb e)))
  · have hn : 0 < n := by omega
    refine wpAny_bind (m := tryCatch (pyNext (.ref it)) _) (wpAny_tryCatch (W.item 0 t _ _ hn hs fun v h' tk hP hs' kk => ?_))
    obtain ⟨tv, rfl⟩ := hv _ _ hP
    have hl' := kk L _ hw hl
    refine wpAny_bind (m := updateSeq L fun _ => #[.int (val 0) tv, .int (val 0) tv]) (wpAny_updateSeq hl' rfl ?_)
    rw [hnm]
    refine wpAny_pure ⟨plainId_quiet F.plain_max_loop _, maxD_loop W val hv L hL _ _ 0 _ tv _ rfl hn (W.frame _ _ _ hs' fun b hbf o e => ?_) (Heap.get?_update_self _ hl' rfl) fun h2 tk2 tb2 k2 => ?_⟩
    · exact (Heap.get?_update_other _ _ fun z => hL (by rw [z]; exact hbf)).trans e
    · exact hR hn h2 tk2 tb2 fun b o hbw hbl e => k2 b o hbw hbl ((Heap.get?_update_other _ _ fun z => hbl z.symm).trans (kk b o hbw e))
end
end PySem.AwM
namespace PySem.AwM
open PyProof.Rows
theorem args_maxD (a d : Value) : argsOk "max" ⟨[a], [("default", d)]⟩ := by unfold argsOk; kernel_rfl
/-- a built-in function with keywords that goes on by a loop of its own -/
theorem fn_tree_kw {pg : Program} {wd : World} {ar : Around} {EE : Value → Shared → Prop} {t : Shared} {nm : String} {bb : Builtin} {xs : List Value} {kw : List (Str × Value)} {QQ : Value → Shared → Prop} (h1 : builtinKind nm = none) (h2 : plainId nm = true)
    (h3 : entryFor table nm = some bb) (h4 : argsOk nm ⟨xs, kw⟩)
    (h5 : wpAny (model pg wd) ar.in1 (bb ⟨xs, kw⟩) (fun fin t' => match fin with
      | .done f => (match (Except.ok f : Result) with | .ok (.ret v) => QQ v t' | .ok _ => False | .error e => EE e t')
      | .again c => c.quiet = true ∧ codeAny (model pg wd) ar c (fun r t2 => match r with | .ok (.ret v) => QQ v t2 | .ok _ => False | .error e => EE e t2) t') EE t) :
    wpAny (model pg wd) ar (call (.builtin nm) xs kw) QQ EE t := by
  refine wpAny_call (codeAny_call_builtin h2 h3 ?_)
  simp only [checkBuiltinCall, h1]
  cases hs : Manifest.signature? nm with
  | none => exact wpAny_pure h5
  | some sg =>
    have q : Bind.checkArgs nm sg ⟨xs, kw⟩ = pure () := by simpa only [argsOk, hs] using h4
    simp only [q]
    exact wpAny_pure h5
theorem ints_len {vs : List Value} {ns : List Int} (h : IntsAre vs ns) : vs.length = ns.length := by
  induction h with
  | nil => rfl
  | cons a b hr ih => simp [ih]
theorem ints_get {vs : List Value} {ns : List Int} (h : IntsAre vs ns) : ∀ {i : Nat} {v : Value}, vs[i]? = some v → ∃ t, v = .int (ns.getD i 0) t := by
  induction h with
  | nil => intro i v e; simp at e
  | cons a b hr ih =>
    intro i v e
    cases i with
    | zero => simp at e; subst e; exact ⟨_, rfl⟩
    | succ i =>
      obtain ⟨t, q⟩ := ih (i := i) (v := v) (by simpa using e)
      exact ⟨t, by simpa using q⟩
theorem call_maxD {pg : Program} {wd : World} {ar : Around} {EE : Value → Shared → Prop} {t : Shared} {l : Addr} {vs : List Value} {ns : List Int} {dv : Value} {QQ : Value → Shared → Prop} (hh : ar.handled = none) (hl : t.heap.IsList l vs.toArray) (hi : IntsAre vs ns)
    (hQ0 : ns = [] → ∀ h' tk, (∀ b o, t.heap.get? b = some o → h'.get? b = some o) → QQ dv { t with heap := h', toks := tk })
    (hQ : ns ≠ [] → ∀ h' tk tb, (∀ b o, t.heap.get? b = some o → h'.get? b = some o) → QQ (.int (bestOf (fun i => ns.getD i 0) (ns.length - 1)) tb) { t with heap := h', toks := tk }) :
    wpAny (model pg wd) ar (call (.builtin "max") [.ref l] [("default", dv)]) QQ EE t := by
  have hnm : (toString "max" ++ toString ".loop" : String) = "max.loop" := by decide
  refine fn_tree_kw F.kind_max F.plain_max F.entry_max (args_maxD _ _) ?_
  show wpAny _ ar.in1 (Builtin.Builtins.bindParams "max" ["key", "default"] 0 ⟨[], [("default", dv)]⟩ >>= _) _ _ t
  refine wpAny_bind (wpAny_of_eq (show Builtin.Builtins.bindParams "max" ["key", "default"] 0 ⟨[], [("default", dv)]⟩ = pure [none, some dv] from rfl) ?_)
  refine wpAny_bind (wpAny_pure ?_)
  have hlt : l < t.heap.objs.size := by obtain ⟨_, e, _⟩ := hl; exact Heap.lt_size e
  refine wpAny_bind (wpAny_pyIter_list hl ?_)
  refine wpAny_bind (wpAny_newObj_type ?_)
  rw [hnm]
  have hsz : vs.toArray.size = ns.length := by rw [List.size_toArray]; exact ints_len hi
  have W := Walks.list (prog := pg) (w := wd) (A := ar.in1) hh t.heap.objs.size l (Nat.ne_of_lt hlt) vs.toArray
  have hnew : ∀ b o, t.heap.get? b = some o → ((t.heap.push { cls := .type "list_iterator", data := .fields #[.ref l, .int 0 0] }).push { cls := .type "list", data := .seq ([] : List Value).toArray }).get? b = some o := fun b o e => Heap.get?_push_of_some _ (Heap.get?_push_of_some _ e)
  have hne : (t.heap.push { cls := .type "list_iterator", data := .fields #[.ref l, .int 0 0] }).objs.size ∉ [t.heap.objs.size, l] := by
    rw [Heap.size_push]
    intro hm
    rcases List.mem_cons.mp hm with e | hm
    · exact absurd (show t.heap.objs.size + 1 = t.heap.objs.size from e) (by omega)
    · exact absurd (show t.heap.objs.size + 1 = (l : Nat) from List.mem_singleton.mp hm) (fun z => absurd hlt (Nat.not_lt.mpr (by rw [← z]; exact Nat.le_succ _)))
  have kept : ∀ h' : Heap, (∀ b o, b ∉ [t.heap.objs.size] → b ≠ (t.heap.push { cls := .type "list_iterator", data := .fields #[.ref l, .int 0 0] }).objs.size → ((t.heap.push { cls := .type "list_iterator", data := .fields #[.ref l, .int 0 0] }).push { cls := .type "list", data := .seq ([] : List Value).toArray }).get? b = some o → h'.get? b = some o) → ∀ b o, t.heap.get? b = some o → h'.get? b = some o := fun h' k b o e => by
    have hb := Heap.lt_size e
    refine k b o (fun hm => ?_) ?_ (hnew b o e)
    · exact absurd (List.mem_singleton.mp hm) (Nat.ne_of_lt hb)
    · rw [Heap.size_push]; exact Nat.ne_of_lt (Nat.lt_succ_of_lt hb)
  refine wpAny_pure ⟨plainId_quiet F.plain_max_loop _, maxD_first W (fun i => ns.getD i 0) (fun i v e => ints_get hi (by simpa using e)) _ hne dv ⟨⟨_, Heap.get?_push_of_some _ (Heap.get?_push_size _ rfl), rfl, rfl⟩, (hl.push _).push _⟩ (Heap.get?_push_size _ rfl) (fun h0 h' tk k => ?_) fun h0 h' tk tb k => ?_⟩
  · exact hQ0 (List.eq_nil_of_length_eq_zero (by rw [← hsz]; exact h0)) h' tk (kept h' k)
  · rw [hsz]
    exact hQ (fun z => by rw [z] at hsz; rw [hsz] at h0; exact Nat.lt_irrefl _ h0) h' tk tb (kept h' k)
end PySem.AwM

set_option Elab.async false
set_option linter.all false
set_option maxRecDepth 100000
set_option maxHeartbeats 4000000
namespace L2
open PySem PySem.Spec PyProof.Rows
section
variable {X : Cx}
theorem op_gt_str : OpR X (compareOp .Gt) (fun x y H Q => ∃ i j, x = .str i ∧ y = .str j ∧ Q (.bl (decide (j.cps.toList < i.cps.toList))) H) := by
  intro pins s σ H x y v u Q I rx ry h
  obtain ⟨i, j, rfl, rfl, q⟩ := h
  obtain ⟨t, rfl⟩ := rx
  obtain ⟨t', rfl⟩ := ry
  exact PySem.P.gt_str (fin_bl I q rfl)
/-- sum of a list of ints -/
theorem call_sumL (hc : X.calm = true) : CallR X (.builtin "sum") (fun xs H Q => ∃ (p : Addr) (ns : List Int), xs = [.ref p] ∧ SqL X.K H p (ns.map V.int) ∧ Q (.int ns.sum) H) := by
  intro pins s σ H xs us Q I r h
  obtain ⟨p, ns, rfl, hp, q⟩ := h
  obtain ⟨u, rfl, ru⟩ := vals1 r
  cases ru
  obtain ⟨its, rv, pl, hz⟩ := I.list hp
  have hi : IntsAre its ns := intsAre_of rv
  obtain ⟨ys, hy⟩ := hi.allInts.items
  have hl' : s.heap.IsList p (intItems ys) := hy ▸ pl.isList
  refine wpAny_with_toks (n := 1) I.tk (sum_intListG (I.ok.hd hc) hl' fun h' tk t' hk => ?_)
  intro htk
  have e1 : ns = ys.toList.map (·.1) := by
    have q1 := hi.numsOf
    rw [← nums_intItems, ← hy]
    exact (show numsOf its.toArray.toList = ns from q1).symm
  have e2 : preSum (numAt ys) ys.size = ns.sum := by
    rw [preSum_eq, List.take_of_length_le (by simp), e1]
  rw [e2]
  exact ⟨.int ns.sum, H, I.kept hk, ⟨t', rfl⟩, q⟩
/-- max(xs, default=d) of a list of ints -/
def maxOr (d : Int) (ns : List Int) : Int := if ns = [] then d else AwM.bestOf (fun i => ns.getD i 0) (ns.length - 1)
def tMaxD (K : PySem.W.Frag) (te td : TE) : TE := fun σ H Q => te σ H fun x H1 => td σ H1 fun y H2 => ∃ (p : Addr) (ns : List Int) (d : Int), x = .ref p ∧ y = .int d ∧ SqL K H2 p (ns.map V.int) ∧ Q (.int (maxOr d ns)) H2
theorem pe_maxD {e de : Expr} {te td : TE} {p pos kp : Pos} (hc : X.calm = true) (hg : Gl X "max") (hm : X.mg "max" = none) (he : PE X e te) (hd : PE X de td)
    (hs : starEach [e] X.env = [(false, eval e X.env)] := by rfl) : PE X (.Call (.Name "max" p) [e] [⟨some "default", de, kp⟩] pos) (tMaxD X.K te td) := by
  intro pins s σ H Q I h
  refine wpAny_Call_Name_kw (ld_blt I hg hm boot_max ?_)
  have ha : PA X [e] (tCons te tNil) := pa_cons he pa_nil hs
  have hk : PK X [⟨some "default", de, kp⟩] (tCons td tNil) := pk_cons hd pk_nil
  refine callWith_kw (thn (ha pos pins s σ H (fun vs H1 => match vs with | [x] => td σ H1 fun y H2 => ∃ (p : Addr) (ns : List Int) (d : Int), x = .ref p ∧ y = .int d ∧ SqL X.K H2 p (ns.map V.int) ∧ Q (.int (maxOr d ns)) H2 | _ => False) I h) fun us s1 ⟨vs, H1, I1, r1, q1⟩ => ?_)
    (by show backTo pos (starEach [e] X.env) = _; rw [hs]; rfl) (by show (backTo pos (starEach [e] X.env)).any (·.1) = false; rw [hs]; rfl)
  match vs, r1, q1 with
  | [x], r1, q1 =>
    refine thn (hk pos pins s1 σ H1 (fun zs H2 => match zs with | [y] => ∃ (p : Addr) (ns : List Int) (d : Int), x = .ref p ∧ y = .int d ∧ SqL X.K H2 p (ns.map V.int) ∧ Q (.int (maxOr d ns)) H2 | _ => False) I1 q1) fun ws s2 ⟨zs, H2, I2, r2, q2⟩ => ?_
    match zs, r2, q2 with
    | [y], r2, q2 =>
      obtain ⟨l, ns, d, rfl, rfl, hp, q⟩ := q2
      obtain ⟨u, rfl, ru⟩ := vals1 r1
      cases ru
      obtain ⟨u2, rfl, t2, rfl⟩ := vals1 r2
      obtain ⟨its, rv, pl, hz⟩ := I2.list hp
      have hi : IntsAre its ns := intsAre_of rv
      show wpAny _ X.A (call (.builtin "max") [.ref l] [("default", .int d t2)]) _ _ s2
      refine wpAny_with_toks (n := 1) I2.tk (AwM.call_maxD (I2.ok.hd hc) pl.isList hi (fun h0 h' tk k => ?_) fun h0 h' tk tb k => ?_)
      · intro htk
        exact ⟨.int d, H2, I2.kept k, ⟨t2, rfl⟩, by have e : maxOr d ns = d := if_pos h0; rw [e] at q; exact q⟩
      · intro htk
        exact ⟨.int (maxOr d ns), H2, I2.kept k, ⟨tb, by have e : maxOr d ns = AwM.bestOf (fun i => ns.getD i 0) (ns.length - 1) := if_neg h0; rw [e]⟩, q⟩
/-! ### tuples -/
/-- t == () -/
def rEqNil (K : PySem.W.Frag) : R2 := fun x y H Q => ∃ a b xs, x = .ref a ∧ y = .ref b ∧ SqT K H a xs ∧ SqT K H b [] ∧ Q (.bl xs.isEmpty) H
theorem op_eqNil (hu : X.A.units < cLine) : OpR X (compareOp .Eq) (rEqNil X.K) := by
  intro pins s σ H x y v u Q I rx ry h
  obtain ⟨a, b, xs, rfl, rfl, ha, hb, q⟩ := h
  cases rx
  cases ry
  obtain ⟨its, r, p, _⟩ := I.tuple ha
  obtain ⟨its2, r2, p2, _⟩ := I.tuple hb
  cases r2
  refine SeqAt.eq_tupleAt (e := fun _ => true) p p2 hu (fun j _ h2 => absurd h2 (Nat.not_lt_zero _)) ⟨.bl xs.isEmpty, H, I, ?_, q⟩
  show Value.bool _ = Value.bool _
  cases r with
  | nil => rfl
  | cons _ _ => simp
end
end L2
namespace L2
open PySem PySem.Spec PyProof.Rows
section
variable {X : Cx}
end
end L2

set_option Elab.async false
set_option linter.all false
set_option maxRecDepth 100000
set_option maxHeartbeats 4000000
namespace L2
open PySem PySem.Spec PyProof.Rows
theorem Tk.updL {H : Hp} {p : Addr} {xs ys : List V} (h : H p = some (.lst xs)) : Tk H (upd H p (.lst ys)) := by
  refine ⟨fun b zs e => ?_, fun b zs e => ?_, fun b zs e => ⟨zs, ?_⟩⟩
  · rw [upd_ne (fun z => by rw [z, h] at e; cases e)]; exact e
  · by_cases z : b = p
    · exact ⟨ys, by rw [z]; exact upd_same⟩
    · exact ⟨zs, by rw [upd_ne z]; exact e⟩
  · rw [upd_ne (fun z => by rw [z, h] at e; cases e)]; exact e
/-- the turns of a comprehension over data, its element data; all that was stays -/
theorem lc_data {J : It} {A : Addr} {H1 : Hp} {te : TE} {tl : St} {Q : VK} {ds : List D} (f : D → D) (hn : ds.length ≤ sizeLine) (hA : H1 A = none)
    (hgo : ∀ i H, Same H1 H → i < ds.length → J.go i H) (hy : ∀ i H x H' d, Same H1 H → ds[i]? = some d → J.yld i H x H' → H' = H ∧ Is H d x) (hstop : ∀ H, Same H1 H → J.stop ds.length H)
    (hte : ∀ d x H (R : VK), d ∈ ds → Same H1 H → Is H d x → (∀ y H', Same H H' → Is H' (f d) y → R y H') → te (some x :: tl) H R)
    (hQ : ∀ H' ys, Same H1 H' → H' A = some (.lst ys) → IsL H' (ds.map f) ys → Q (.ref A) H') : lcGo A J (gName 0) tYes te (none :: tl) H1 Q := by
  refine ⟨ds.length, fun i σ ys H => (∃ w, σ = w :: tl) ∧ IsL H ((ds.take i).map f) ys ∧ Same H1 H, hn, ⟨⟨none, rfl⟩, rfl, same_new hA _⟩, ?_, ?_⟩
  · rintro i σ ys H hi ⟨⟨w, rfl⟩, hl, sm⟩ hA' hyl
    refine ⟨hgo i H sm hi, fun x H' y => ?_⟩
    obtain ⟨rfl, hx⟩ := hy i H x H' ds[i] sm (List.getElem?_eq_getElem hi) y
    dsimp only [gName, tYes, List.set]
    rw [if_pos rfl]
    refine hte ds[i] x H' _ (List.getElem_mem hi) sm hx fun y' H4 s4 hy' => ⟨s4 _ _ hA', ⟨some x, rfl⟩, ?_, fun b o e => ?_⟩
    · have t : Tk H4 (upd H4 A (.lst (ys ++ [y']))) := Tk.updL (s4 _ _ hA')
      have e : (ds.take (i + 1)).map f = (ds.take i).map f ++ [f ds[i]] := by
        rw [List.take_add_one, List.getElem?_eq_getElem hi, List.map_append]
        rfl
      rw [e]
      exact ((hl.mono s4.tk).mono t).append (IsL.one (hy'.mono t))
    · rw [upd_ne (ne_of_none e hA)]
      exact s4 b o (sm b o e)
  · rintro σ ys H ⟨_, hl, sm⟩ hA'
    refine ⟨hstop H sm, hQ H ys sm hA' ?_⟩
    rw [List.take_of_length_le (Nat.le_refl _)] at hl
    exact hl
theorem lc_tupS {K : PySem.W.Frag} {a A : Addr} {H1 : Hp} {te : TE} {tl : St} {Q : VK} {ds : List D} {vs : List V} (f : D → D) (ha : H1 a = some (.tup vs)) (hl : IsL H1 ds vs) (hn : ds.length ≤ sizeLine) (hA : H1 A = none)
    (hte : ∀ d x H (R : VK), d ∈ ds → Same H1 H → Is H d x → (∀ y H', Same H H' → Is H' (f d) y → R y H') → te (some x :: tl) H R)
    (hQ : ∀ H' ys, Same H1 H' → H' A = some (.lst ys) → IsL H' (ds.map f) ys → Q (.ref A) H') : lcGo A (Itt K a) (gName 0) tYes te (none :: tl) H1 Q := by
  have ln := hl.length
  refine lc_data f hn hA (fun i H sm hi => ⟨vs, vs[i]'(by omega), SqT.of (sm _ _ ha), List.getElem?_eq_getElem _⟩) (fun i H x H' d sm hd y => ?_) (fun H sm => ⟨vs, SqT.of (sm _ _ ha), by omega⟩) hte hQ
  obtain ⟨rfl, y⟩ := y
  obtain ⟨v, e1, e2⟩ := hl.get hd
  have e3 := y vs (SqT.of (sm _ _ ha))
  rw [e1] at e3
  cases e3
  exact ⟨rfl, e2.mono sm.tk⟩
theorem lc_lstS {K : PySem.W.Frag} {a A : Addr} {H1 : Hp} {te : TE} {tl : St} {Q : VK} {ds : List D} {vs : List V} (f : D → D) (ha : H1 a = some (.lst vs)) (hl : IsL H1 ds vs) (hn : ds.length ≤ sizeLine) (hA : H1 A = none)
    (hte : ∀ d x H (R : VK), d ∈ ds → Same H1 H → Is H d x → (∀ y H', Same H H' → Is H' (f d) y → R y H') → te (some x :: tl) H R)
    (hQ : ∀ H' ys, Same H1 H' → H' A = some (.lst ys) → IsL H' (ds.map f) ys → Q (.ref A) H') : lcGo A (Itl K a) (gName 0) tYes te (none :: tl) H1 Q := by
  have ln := hl.length
  refine lc_data f hn hA (fun i H sm hi => ⟨vs, vs[i]'(by omega), SqL.of (sm _ _ ha), List.getElem?_eq_getElem _⟩) (fun i H x H' d sm hd y => ?_) (fun H sm => ⟨vs, SqL.of (sm _ _ ha), by omega⟩) hte hQ
  obtain ⟨rfl, y⟩ := y
  obtain ⟨v, e1, e2⟩ := hl.get hd
  have e3 := y vs (SqL.of (sm _ _ ha))
  rw [e1] at e3
  cases e3
  exact ⟨rfl, e2.mono sm.tk⟩
theorem IsL.bls {H : Hp} : ∀ {bs : List Bool} {vs : List V}, IsL H (bs.map D.bl) vs → vs = bs.map V.bl
  | [], _, h => h
  | _ :: _, _, h => by
    obtain ⟨v, r, rfl, h1, h2⟩ := h
    rw [IsL.bls h2, show v = _ from h1]; rfl
theorem IsL.ints {H : Hp} : ∀ {ns : List Int} {vs : List V}, IsL H (ns.map D.int) vs → vs = ns.map V.int
  | [], _, h => h
  | _ :: _, _, h => by
    obtain ⟨v, r, rfl, h1, h2⟩ := h
    rw [IsL.ints h2, show v = _ from h1]; rfl
/-- an item of a tuple of data -/
theorem ix_is {K : PySem.W.Frag} {H : Hp} {ds : List D} {v : V} {i : Int} {d : D} {Q : VK} (h : Is H (.tup ds) v) (hi : atI ds i = some d) (q : ∀ x, Is H d x → Q x H) : rIxT K v (.int i) H Q := by
  obtain ⟨a, vs, rfl, ha, hl⟩ := h
  obtain ⟨j, h1, h2, h3, h4, h5⟩ := atI_get hi
  obtain ⟨x, e1, e2⟩ := hl.get h2
  refine ⟨a, vs, i, x, rfl, rfl, SqT.of ha, ?_, q x e2⟩
  have ln := hl.length
  unfold atI at hi ⊢
  rw [ln]
  cases e : ixN ds.length i with
  | none => rw [e] at hi; cases hi
  | some k =>
    rw [e] at hi
    obtain ⟨g1, _⟩ := ixN_seq e
    rw [h1] at g1
    cases g1
    exact e1
theorem bestOf_le (val : Nat → Int) : ∀ k i, i ≤ k → val i ≤ AwM.bestOf val k
  | 0, i, h => by
    have : i = 0 := by omega
    subst this
    exact Int.le_refl _
  | k + 1, i, h => by
    unfold AwM.bestOf
    rcases Nat.lt_or_ge i (k + 1) with z | z
    · have := bestOf_le val k i (by omega)
      split <;> omega
    · have : i = k + 1 := by omega
      subst this
      split <;> omega
theorem bestOf_is (val : Nat → Int) : ∀ k, ∃ i, i ≤ k ∧ AwM.bestOf val k = val i
  | 0 => ⟨0, Nat.le_refl _, rfl⟩
  | k + 1 => by
    unfold AwM.bestOf
    split
    · exact ⟨k + 1, Nat.le_refl _, rfl⟩
    · obtain ⟨i, h1, h2⟩ := bestOf_is val k
      exact ⟨i, by omega, h2⟩
theorem maxOr_is {m : Int} {ns : List Int} (hne : ns ≠ []) (h1 : ∀ x ∈ ns, x ≤ m) (h2 : m ∈ ns) (d : Int) : maxOr d ns = m := by
  unfold maxOr
  rw [if_neg hne]
  have hl : 0 < ns.length := List.length_pos_iff.mpr hne
  obtain ⟨i, hi, e⟩ := bestOf_is (fun i => ns.getD i 0) (ns.length - 1)
  have hi' : i < ns.length := by omega
  have e1 : ns.getD i 0 = ns[i] := by simp [List.getD, hi']
  rw [e1] at e
  have a := h1 _ (List.getElem_mem hi')
  obtain ⟨j, hj, ej⟩ := List.getElem_of_mem h2
  have b := bestOf_le (fun i => ns.getD i 0) (ns.length - 1) j (by omega)
  have e2 : ns.getD j 0 = ns[j] := by simp [List.getD, hj]
  rw [e2, ej] at b
  omega
theorem maxOr_dp (ds : List D) : maxOr 0 (ds.map fun d => (dp d : Int)) = (dpL ds : Int) := by
  cases ds with
  | nil => simp [maxOr, dpL]
  | cons x r =>
    refine maxOr_is (by simp) (fun y hy => ?_) ?_ 0
    · obtain ⟨d, hd, rfl⟩ := List.mem_map.mp hy
      have := (dpL_le (k := dpL (x :: r)) (x :: r)).mp (Nat.le_refl _) d hd
      omega
    · have : ∀ ds : List D, ds ≠ [] → ∃ d ∈ ds, dp d = dpL ds := by
        intro ds
        induction ds with
        | nil => intro h; exact absurd rfl h
        | cons y q ih =>
          intro _
          have e : dpL (y :: q) = max (dp y) (dpL q) := by simp only [dpL]
          rcases Nat.lt_or_ge (dp y) (dpL q) with z | z
          · have hq : q ≠ [] := by rintro rfl; simp [dpL] at z
            obtain ⟨d, hd, e'⟩ := ih hq
            exact ⟨d, List.mem_cons_of_mem _ hd, by omega⟩
          · exact ⟨y, List.mem_cons_self, by omega⟩
      obtain ⟨d, hd, e⟩ := this (x :: r) (by simp)
      exact List.mem_map.mpr ⟨d, hd, by rw [e]⟩
theorem sum_sz (ds : List D) : (ds.map fun d => (sz d : Int)).sum = (szL ds : Int) := by
  induction ds with
  | nil => simp [szL]
  | cons x r ih =>
    rw [List.map_cons, List.sum_cons, ih]
    have e : szL (x :: r) = sz x + szL r := by simp only [szL]
    rw [e]
    omega
/-! ### texts -/
def inS (i j : Str) : Bool := !(Builtin.Str.occurrences j i 0 j.length 1).isEmpty
theorem inS_one (j : Str) (c : Nat) : inS ⟨#[c]⟩ j = decide (c ∈ j.cps.toList) := StrLaws.found_one j c
theorem mulOk_of {z : Str} {n : Int} (h0 : 0 ≤ n) (h1 : n ≤ 10000) (hz : z.length ≤ 1000) : MulOk z n := by
  have hs : sizeLine = 16777216 := sizeLine_eq
  refine ⟨by rw [decide_eq_false (by omega), decide_eq_false (by omega)]; rfl, fun hn _ => ?_, fun hn _ => ?_⟩
  · have : (1000 : Int) ≤ (2 ^ 63 - 1) / n := by
      have h3 : (1000 : Int) * n ≤ 2 ^ 63 - 1 := by omega
      exact (Int.le_ediv_iff_mul_le (by omega)).mpr h3
    omega
  · unfold Builtin.Str.tooLong
    refine decide_eq_false ?_
    have : z.length * n.toNat ≤ 1000 * 10000 := Nat.mul_le_mul hz (by omega)
    omega
theorem joined_size0 (xs : Array Nat) : ∀ (k : Nat) (acc : Array Nat), ((List.replicate k xs).foldl (· ++ ·) acc).size = acc.size + k * xs.size
  | 0, acc => by simp
  | k + 1, acc => by rw [List.replicate_succ, List.foldl_cons, joined_size0 xs k, Array.size_append, Nat.succ_mul]; omega
theorem joined_size (xs : Array Nat) (k : Nat) : ((List.replicate k xs).foldl (· ++ ·) #[]).size = k * xs.size := by
  rw [joined_size0]; simp
theorem mul_len {z : Str} {n : Int} (hz : z.length ≤ 1) (h1 : n ≤ 10000) : (Txt.mul z n).length ≤ 10000 := by
  unfold Txt.mul
  split
  · show 0 ≤ 10000; decide
  · split
    · omega
    · show ((List.replicate n.toNat z.cps).foldl (· ++ ·) #[]).size ≤ 10000
      rw [joined_size]
      have : n.toNat * z.cps.size ≤ 10000 * 1 := Nat.mul_le_mul (by omega) hz
      omega
end L2
namespace L2
open PySem PySem.Spec PyProof.Rows
/-- for over a text -/
theorem for_str {z : Str} {g : TG} {tb : TS} {E : Ends} {σ : St} {H : Hp} (Pv : Nat → St → Hp → Prop) (h0 : Pv 0 σ H)
    (hs : ∀ (i c : Nat) σ H, z.cps[i]? = some c → Pv i σ H → g (.str ⟨#[c]⟩) σ H fun σ2 H2 => tb { E with nx := Pv (i + 1), ct := Pv (i + 1), bk := E.nx } σ2 H2) (hd : ∀ σ H, Pv z.cps.size σ H → E.nx σ H) :
    ∃ W : Nat → Nat → St → Hp → Prop, (∃ m, W 0 m σ H) ∧ ∀ i m σ H, W i m σ H →
      ((Its z).stop i H ∧ E.nx σ H) ∨ ((Its z).go i H ∧ ∃ N : St → Hp → Prop, (∀ σ' H', N σ' H' → ∃ m', m' < m ∧ W (i + 1) m' σ' H') ∧ ∀ x H', (Its z).yld i H x H' → g x σ H' fun σ2 H2 => tb { E with nx := N, ct := N, bk := E.nx } σ2 H2) := by
  refine ⟨fun i m σ H => m = z.cps.size - i ∧ i ≤ z.cps.size ∧ Pv i σ H, ⟨z.cps.size, by simp, Nat.zero_le _, h0⟩, ?_⟩
  rintro i m σ H ⟨rfl, hi, p⟩
  by_cases hlt : i < z.cps.size
  · refine .inr ⟨hlt, Pv (i + 1), fun σ' H' p' => ⟨z.cps.size - (i + 1), by omega, rfl, hlt, p'⟩, fun x H' y => ?_⟩
    obtain ⟨rfl, c, hc, rfl⟩ := y
    exact hs i c σ _ hc p
  · have e : i = z.cps.size := by omega
    exact .inl ⟨e, hd σ H (e ▸ p)⟩
theorem IsL.unsnoc {H : Hp} : ∀ {ds : List D} {d : D} {vs : List V}, IsL H (ds ++ [d]) vs → ∃ us x, vs = us ++ [x] ∧ IsL H ds us ∧ Is H d x
  | [], d, _, h => by
    obtain ⟨v, r, rfl, h1, h2⟩ := h
    cases (show r = [] from h2)
    exact ⟨[], v, rfl, rfl, h1⟩
  | e :: r, d, _, h => by
    obtain ⟨v, q, rfl, h1, h2⟩ := h
    obtain ⟨us, x, rfl, h3, h4⟩ := IsL.unsnoc h2
    exact ⟨v :: us, x, rfl, ⟨v, us, rfl, h1, h3⟩, h4⟩
def isStr : D → Bool
  | .str _ => true
  | _ => false
def isTup : D → Bool
  | .tup _ => true
  | _ => false
section
variable {K : PySem.W.Frag}
theorem kit_no {T U : String} {b : Bool} (h : (Value.type T == Value.type U) = false) (hm : PySem.W.kitMeta U = true) (hs : (fastBuiltinMro T).map (·.contains (Value.type U)) = some b) : PySem.W.kitOne K (.type T) (.type U) = some b := by
  unfold PySem.W.kitOne
  rw [if_neg (by rw [h]; exact Bool.false_ne_true)]
  show (if PySem.W.kitMeta U = true then PySem.W.subIn K (.type T) (.type U) else none) = some b
  rw [if_pos hm]
  exact hs
theorem kit_self {T : String} (h : (Value.type T == Value.type T) = true) : PySem.W.kitOne K (.type T) (.type T) = some true := by
  unfold PySem.W.kitOne
  rw [if_pos h]
theorem kit_str (d : D) : PySem.W.kitOne K (tyD d) (.type "str") = some (isStr d) := by
  cases d with
  | str z => exact kit_self (by decide)
  | _ => exact kit_no (b := false) (by decide) (by decide +kernel) (by decide +kernel)
theorem kit_tup (d : D) : PySem.W.kitOne K (tyD d) (.type "tuple") = some (isTup d) := by
  cases d with
  | tup z => exact kit_self (by decide)
  | _ => exact kit_no (b := false) (by decide) (by decide +kernel) (by decide +kernel)
end
theorem lt_one (c k : Nat) : decide ((⟨#[c]⟩ : Str).cps.toList < [k]) = decide (c < k) := by
  rw [decide_eq_decide]
  simp [List.cons_lt_cons_iff]
theorem one_gt (c k : Nat) : decide ([k] < (⟨#[c]⟩ : Str).cps.toList) = decide (k < c) := by
  rw [decide_eq_decide]
  simp [List.cons_lt_cons_iff]
end L2
namespace L2
open PySem PySem.Spec PyProof.Rows
/-- within a comprehension's block: the written part by its own name -/
theorem ix_tupK {X : Cx} {K : PySem.W.Frag} (h : X.K = K) : IxR X (rIxT K) := by subst h; exact ix_tup
end L2
namespace L2
open PySem PySem.Spec PyProof.Rows
/-- over a tuple; its length has its bound -/
def iTupB (K : PySem.W.Frag) (tl : TE) : TI := fun σ H R => tl σ H fun x H1 => ∃ a xs, x = .ref a ∧ SqT K H1 a xs ∧ (xs.length ≤ sizeLine → R (Itt K a) H1)
theorem pi_tupB {X : Cx} {tg l : Expr} {tl : TE} (hl : PE X l tl) : PI X tg l (iTupB X.K tl) := by
  intro pins s σ H R I h
  refine thn (hl pins s σ H _ I h) fun v s1 ⟨x, H1, I1, r1, q1⟩ => ?_
  obtain ⟨a, xs, e, hq, q⟩ := q1
  subst e
  cases r1
  obtain ⟨its, rv, p, hz⟩ := I1.tuple hq
  refine wpAny_pyIter_tuple (show s1.heap.IsTuple a its.toArray from p) ?_
  refine ⟨s1.heap.objs.size, [s1.heap.objs.size], _, _, H1, rfl, I1.kept (t' := s1.toks) fun b o e => Heap.get?_push_of_some _ e, turn_tuple a _, ⟨_, Heap.get?_push_size _ rfl, rfl, rfl⟩, fun b hb => ?_, q hz⟩
  have e : b = s1.heap.objs.size := by simpa using hb
  subst e
  exact I1.fpOk (Nat.le_refl _) (I1.hok.fresh (Nat.le_refl _))
end L2
namespace L2
open PySem PySem.Spec PyProof.Rows
/-- len of a list or tuple; it has its bound -/
theorem call_lenB {X : Cx} : CallR X (.builtin "len") (fun xs H Q => ∃ p ys, xs = [.ref p] ∧ (SqL X.K H p ys ∨ SqT X.K H p ys) ∧ (ys.length ≤ sizeLine → Q (.int ys.length) H)) := by
  intro pins s σ H xs us Q I r h
  obtain ⟨p, ys, e, hq, q⟩ := h
  have hz : ys.length ≤ sizeLine := by
    rcases hq with hq | hq
    · exact (I.list hq).choose_spec.2.2
    · exact (I.tuple hq).choose_spec.2.2
  exact call_len_seq pins s σ H xs us Q I r ⟨p, ys, e, hq, q hz⟩
end L2

set_option Elab.async false
set_option linter.all false
set_option maxRecDepth 100000
set_option maxHeartbeats 4000000
namespace L2
open PySem PySem.Spec PyProof.Rows Builtin Builtin.Str
/-! ### a text cut at a sign -/
end L2

set_option Elab.async false
set_option linter.all false
set_option maxRecDepth 100000
set_option maxHeartbeats 4000000
namespace L2
open PySem PySem.Spec PyProof.Rows Builtin Builtin.Str
theorem vals_strs : ∀ {l : List Str} {us : List Value}, Vals (l.map V.str) us → ∃ ps : List (Str × Tok), us = strValues ps ∧ ps.map (·.1) = l
  | [], _, .nil => ⟨[], rfl, rfl⟩
  | x :: r, _, .cons ⟨t, e⟩ h => by
    obtain ⟨ps, e1, e2⟩ := vals_strs h
    subst e
    exact ⟨(x, t) :: ps, by rw [e1]; rfl, by rw [List.map_cons, e2]⟩
section
variable {X : Cx}
end
end L2

set_option Elab.async false
set_option linter.all false
set_option maxRecDepth 100000
set_option maxHeartbeats 4000000
namespace L2
open PySem PySem.Spec PyProof.Rows Builtin Builtin.Str
section
variable {X : Cx}
/-- sep.join(xs) -/
def rJoin (K : PySem.W.Frag) : V → List V → Hp → VK → Prop := fun x vs H Q => ∃ (sep : Str) (p : Addr) (l : List Str), x = .str sep ∧ vs = [.ref p] ∧ SqL K H p (l.map V.str) ∧ (l.map (·.length)).sum + l.length * sep.length ≤ 1000000 ∧ Q (.str (Str.join sep l)) H
theorem mt_join : MtM X "str.join" (rJoin X.K) := by
  intro pins s σ H x vs v us Q I rx rv h
  obtain ⟨sep, p, l, rfl, rfl, hp, hz, q⟩ := h
  obtain ⟨t, rfl⟩ := rx
  obtain ⟨u, rfl, ru⟩ := rv.one
  cases ru
  obtain ⟨its, r, pl, hl⟩ := I.list hp
  obtain ⟨ps, rfl, e2⟩ := vals_strs r
  have hlong : tooLong ((ps.map (·.1)).toArray.foldl (· + ·.length + sep.length) 0) = false := by
    rw [e2]
    have := StrLaws.joinTotal sep l
    rw [this]
    unfold tooLong
    refine decide_eq_false ?_
    rw [sizeLine_eq]
    omega
  refine call_meets F.slot_str_join (typeIs_str _ _ _) F.entry_str_join (F.args_str_join_2 _ _) (meets_str_join_list sep t p ps hlong) ⟨pl.isList, ?_⟩
  have hfit : (glued sep (ps.map (·.1))).length ≤ sizeLine := joinFit_length hlong
  match ps, e2, hfit with
  | [], e2, hfit =>
    subst e2
    exact ⟨hfit, .str _, H, I.tok _, ⟨_, rfl⟩, q⟩
  | [a], e2, _ =>
    subst e2
    exact ⟨.str _, H, I, ⟨a.2, rfl⟩, q⟩
  | a :: b :: r, e2, hfit =>
    subst e2
    refine ⟨hfit, .str _, H, I.tok _, ⟨_, rfl⟩, ?_⟩
    rw [StrLaws.glued_eq_join]
    exact q
end
end L2

set_option Elab.async false
set_option linter.all false
set_option maxRecDepth 100000
set_option maxHeartbeats 4000000
namespace L2
open PySem PySem.Spec PyProof.Rows
end L2
namespace L2
open PySem PySem.Spec PyProof.Rows
end L2
namespace L2
open PySem PySem.Spec PyProof.Rows
section
variable {X : Cx}
/-! ### a dict of the module, its keys texts -/
end
end L2

set_option Elab.async false
set_option linter.all false
set_option maxRecDepth 100000
set_option maxHeartbeats 4000000
namespace L2
open PySem PySem.Spec PyProof.Rows
section
variable {X : Cx} {K : PySem.W.Frag}
/-! within a comprehension's block: the written part by its own name -/
end
end L2
namespace L2
open PySem PySem.Spec PyProof.Rows
theorem inV_str (z : Str) (l : List Str) : inV (.str z) (l.map V.str) = decide (z ∈ l) := by
  unfold inV
  rw [List.any_map, Bool.eq_iff_iff, List.any_eq_true, decide_eq_true_eq]
  constructor
  · rintro ⟨x, hx, e⟩
    have e' : (x == z) = true := e
    rw [beq_iff_eq] at e'
    exact e' ▸ hx
  · intro h
    exact ⟨z, h, by show (z == z) = true; exact beq_self_eq_true z⟩
end L2

set_option Elab.async false
set_option linter.all false
set_option maxRecDepth 100000
set_option maxHeartbeats 4000000
namespace L2
open PySem PySem.Spec PyProof.Rows
/-! ### lines of rules: a word and its parts -/
/-! signs of a joined text -/
/-! numbers of lines -/
end L2

set_option Elab.async false
set_option linter.all false
set_option maxRecDepth 100000
set_option maxHeartbeats 4000000
namespace L2
open PySem PySem.Spec PyProof.Rows
/-! ### exceptions of the program's own classes, that come of ValueError -/
def VE : List Value := [.type "ValueError", .type "Exception", .type "BaseException", .type "object"]
/-- an exception lies behind a call: B, all that stood where it was raised, but for the frames -/
def CX1 (P : Program) (w : World) : CXT := fun outer H s E e s' => ∃ (ea C : Addr) (a0 : Value) (H' : Hp) (B : Heap), e = .ref ea ∧ s'.os = s.os ∧ AllBare s'.gens ∧ 0 < s'.toks ∧ Un (frs outer) [] H H' s.heap s'.heap ∧ HOk P w H' B ∧
  Heap.FlyingW B outer ea (.ref C) a0 s'.heap ∧ (∀ b o, s.heap.get? b = some o → b ∉ frs outer → ∃ o', B.get? b = some o') ∧ E (.ref ea) (some C) H'
/-- the class, as it stands in the written part -/
theorem cls_in {K : PySem.W.Frag} {h : Heap} {C : Addr} {bmB : List Value} {newId : String} (X : K.In h) (q : PySem.W.excIn K C bmB newId = true) :
    ∃ bm N nm qn bs hdct sn sub ab col dd k0 k1 k2 k3 k5 mN, h.get? C = some (excClassObj nm qn C N bs bm hdct sn sub ab col dd k0 k1 k2 k3 k5 newId) ∧ h.Ns N mN ∧ mN "__init__" = none ∧ OwnTail h bmB bm := by
  unfold PySem.W.excIn at q
  split at q
  · rename_i dd cd sl ho
    split at q
    · rename_i C' bm k0 k1 k2 k3 n k5 hm hs
      simp only [Bool.and_eq_true, beq_iff_eq, Bool.not_eq_true'] at q
      obtain ⟨⟨⟨⟨⟨rfl, rfl⟩, hdel⟩, ht⟩, hok⟩, hni⟩ := q
      obtain ⟨nm, bs, mro, ns, qn, hd, sn, sub, ab, col, del⟩ := cd
      dsimp only at hm hdel hok hni
      subst hm hdel
      obtain ⟨l⟩ := sl
      simp only at hs
      subst hs
      exact ⟨bm, ns, nm, qn, bs, hd, sn, sub, ab, col, dd, k0, k1, k2, k3, k5, _, X _ _ ho, .of_isNs (PySem.W.isNs_of_in X hok), PySem.W.nsMap_none_of_in X hok hni, PySem.W.tail_of_in X ht⟩
    · cases q
  · cases q
theorem funs_gone {h base B : Heap} : ∀ {l : List Env}, h.FunFrames base l → (∀ b ∈ frs l, B.get? b = none) → h.FunFrames B l
  | [], _, _ => trivial
  | env :: r, ⟨hk, ⟨L, o, hf, hn, ho, hd⟩, hr⟩, hB => by
    have e : frs (env :: r) = L :: frs r := by unfold frs; rw [List.filterMap_cons, hf]
    rw [e] at hB
    exact ⟨hk, ⟨L, o, hf, hB L List.mem_cons_self, ho, hd⟩, funs_gone hr fun b hb => hB b (List.mem_cons_of_mem _ hb)⟩
/-- raise C(e): what is wanted of the exception -/
def tRaise (E : XK) (C : Addr) (ta : TE) : TS := fun _ σ H => tCons ta tNil σ H fun vs H1 => vs.length = 1 ∧ ∀ e, E (.ref e) (some C) H1
theorem ps_raise {P : Program} {w : World} {K : PySem.W.Frag} {mg : Str → Option Value} {base : Heap} {N : List Str} {qual : Str} {scope : Scope} {f : Addr} {cd : Value} {A : Around} {outer : List Env} {s₀ : Shared} {H₀ : Hp} {E : XK}
    {x : Str} {C : Addr} {np cpos pos : Pos} {arg : Expr} {ta : TE} (hx : PySem.W.excIn K C VE "ValueError.__new__" = true) (hg : Gl (cxOf (CX1 P w) P w K mg base N qual scope f cd A outer s₀ H₀ E) x) (hm : mg x = some (.ref C))
    (ha : PE (cxOf (CX1 P w) P w K mg base N qual scope f cd A outer s₀ H₀ E) arg ta) (hd : (x == ("__debug__" : Str)) = false := by decide)
    (hs : starEach [arg] (envOfC qual scope s₀.heap.objs.size f cd) = [(false, eval arg (envOfC qual scope s₀.heap.objs.size f cd))] := by rfl) :
    PS (cxOf (CX1 P w) P w K mg base N qual scope f cd A outer s₀ H₀ E) (.Raise (some (.Call (.Name x np) [arg] [] cpos)) none pos) (tRaise E C ta) := by
  intro pins s σ H D I h
  obtain ⟨bm, Nn, nm, q, bs, hdct, sn, sub, ab, col, dd, k0, k1, k2, k3, k5, mN, hC, hN, hni, T⟩ := cls_in I.mod.kin hx
  have hT : bm.contains (.type "BaseException") = true := T.hasType (by decide)
  refine wpAny_Raise_call_subT (C := C) (nm := nm) (q := q) (N := Nn) (bs := bs) (bm := bm) (hdct := hdct) (sn := sn) (sub := sub) (ab := ab) (col := col) (dd := dd) (k0 := k0) (k1 := k1) (k2 := k2) (k3 := k3) (k5 := k5)
    (mN := mN) F.excBase_ValueError hT (I.ok.hd rfl) (by show (backTo cpos (starEach [arg] (envOfC qual scope s₀.heap.objs.size f cd))).any (·.1) = false; rw [hs]; rfl) hni (ld_glob I hg hm ⟨rfl, ?_⟩ hd)
  have hPA : PA (cxOf (CX1 P w) P w K mg base N qual scope f cd A outer s₀ H₀ E) [arg] (tCons ta tNil) := pa_cons ha pa_nil hs
  have hp := hPA cpos pins s σ H (fun vs H1 => vs.length = 1 ∧ ∀ e, E (.ref e) (some C) H1) I h
  show wpAny _ _ (evalArgs (.ref C) true (backTo cpos (starEach [arg] (envOfC qual scope s₀.heap.objs.size f cd))) []) _ _ s
  have hs' : starEach [arg] (cxOf (CX1 P w) P w K mg base N qual scope f cd A outer s₀ H₀ E).env = [(false, eval arg (envOfC qual scope s₀.heap.objs.size f cd))] := hs
  rw [hs'] at hp
  rw [hs]
  refine Calls.evalArgs_plain (wpAny_mono hp (fun vs s₂ h₂ => ?_) fun _ _ y => y)
  obtain ⟨ws, H2, I2, r2, q2⟩ := h₂
  obtain ⟨hl, q2⟩ := q2
  have bk := I2.bk
  have hvl : vs.length ≤ sizeLine := by rw [← r2.length, hl]; decide
  refine ⟨rfl, hvl, bk _ _ hC, hN.keeps bk, T.keeps bk, fun h' e hmade => ?_⟩
  show wpAny (model P w) (A.deeper (envOfC qual scope s₀.heap.objs.size f cd)) (leaving (envOfC qual scope s₀.heap.objs.size f cd) (.ref e)) (fun _ s'' => CX1 P w outer H₀ s₀ E (.ref e) s'') (fun e' s'' => CX1 P w outer H₀ s₀ E e' s'') _
  have hfr : (A.deeper (envOfC qual scope s₀.heap.objs.size f cd)).frames = some (envOfC qual scope s₀.heap.objs.size f cd :: outer) := I2.ok.frames
  have hst : s₂.heap.FunFrames base (envOfC qual scope s₀.heap.objs.size f cd :: outer) := I2.stack
  have hfree : ∀ b ∈ frs (envOfC qual scope s₀.heap.objs.size f cd :: outer), H2 b = none := I2.stkFree
  have hfe : frs (envOfC qual scope s₀.heap.objs.size f cd :: outer) = s₀.heap.objs.size :: frs outer := rfl
  have habove : s₀.heap.objs.size ≤ s₀.heap.objs.size := I2.ok.above
  have hbase : Un (frs outer) [] H₀ H2 s₀.heap s₂.heap := I2.base
  refine wpAny_leaves_madeW (base := TI.gone s₂.heap (frs (envOfC qual scope s₀.heap.objs.size f cd :: outer))) (h := s₂.heap) (L := s₀.heap.objs.size) hfr rfl (fun b o e => (TI.gone_some e).2) (funs_gone hst fun b hb => TI.gone_none hb) hmade fun h'' t hfly htup _ hup => ?_
  have stays : ∀ b o, b ∉ frs (envOfC qual scope s₀.heap.objs.size f cd :: outer) → s₂.heap.get? b = some o → h''.get? b = some o := fun b o hb e => hfly.1 b o (by rw [TI.gone_get hb]; exact e)
  have slots : ∀ b o, s₂.heap.get? b = some o → (∀ vs, o.data ≠ .fields vs) → ∃ sl, h''.get? b = some { o with slots := sl } := fun b o e hn => hup b o (hmade.keeps b o e) hn
  have nd : ∀ b ∈ frs outer, ∀ o, s₂.heap.get? b = some o → ∀ vs, o.data ≠ .fields vs := fun b hb o e => by
    obtain ⟨_, o', e', hn⟩ := hst.mem (show b ∈ (envOfC qual scope s₀.heap.objs.size f cd :: outer).filterMap (·.frame) from by rw [show (envOfC qual scope s₀.heap.objs.size f cd :: outer).filterMap (·.frame) = frs (envOfC qual scope s₀.heap.objs.size f cd :: outer) from rfl, hfe]; exact List.mem_cons_of_mem _ hb)
    rw [e] at e'
    cases e'
    exact hn
  have notin : ∀ b o, s₀.heap.get? b = some o → b ∉ frs outer → b ∉ frs (envOfC qual scope s₀.heap.objs.size f cd :: outer) := fun b o e hb hm => by
    rw [hfe] at hm
    rcases List.mem_cons.mp hm with rfl | hm
    · exact absurd (Heap.lt_size e) (Nat.lt_irrefl _)
    · exact hb hm
  refine ⟨e, C, .ref t, H2, _, rfl, I2.os, I2.bare, (by first | exact I2.tk | exact Nat.lt_of_lt_of_le I2.tk (Nat.le_add_right _ _) | ((try dsimp only); first | assumption | exact Inv.tk (by assumption) | exact Nat.succ_pos _ | exact Nat.lt_of_lt_of_le (Inv.tk (by assumption)) (by assumption) | exact Nat.add_pos_left (Inv.tk (by assumption)) _ | omega)), ⟨?_, ?_, hbase.free, ?_, hbase.tups, hbase.frzs, hbase.tbls⟩, ?_, hfly, ?_, q2 e⟩
  · intro b o e1 hn hb hx
    exact stays b o (notin b o e1 hb) (hbase.keep b o e1 hn hb hx)
  · intro b o e1 hn hb hx
    obtain ⟨sl, e2⟩ := hbase.slot b o e1 hn hb hx
    obtain ⟨sl2, e3⟩ := slots b _ e2 (nd b hb _ e2)
    exact ⟨sl2, e3⟩
  · intro b o e1 hx
    obtain ⟨o', e2⟩ := hbase.there b o e1 hx
    by_cases hb : b ∈ frs outer
    · obtain ⟨sl2, e3⟩ := slots b _ e2 (nd b hb _ e2)
      exact ⟨_, e3⟩
    · exact ⟨o', stays b o' (notin b o e1 hb) e2⟩
  · intro b u hb
    refine (I2.hok b u hb).stay (fun c v hc q => ?_) (fun _ q => q) fun _ _ q => q
    rw [TI.gone_get]
    · exact q
    · intro hm
      have hn := hfree c hm
      rcases hc with z | z
      · rw [z, hb] at hn; cases hn
      · rw [z] at hn; cases hn
  · intro b o e1 hb
    obtain ⟨o', e2⟩ := hbase.there b o e1 (by simp)
    exact ⟨o', by rw [TI.gone_get (notin b o e1 hb)]; exact e2⟩
end L2

set_option Elab.async false
set_option linter.all false
set_option maxRecDepth 100000
set_option maxHeartbeats 4000000
namespace L2
open PySem PySem.Spec PyProof.Rows
/-! ### try: a call that may raise; except C: a suite -/
abbrev Cx.marked (X : Cx) (ee : Addr) (xe : Value → Shared → Prop) : Cx := { X with A := X.A.mark (some (.ref ee)), calm := false, xe := xe }
section
variable {X : Cx} {pins : List (Addr × Obj)} {σ : St} {H : Hp} {s : Shared} {ee : Addr} {xe : Value → Shared → Prop}
theorem Cx.Ok.marked (ok : X.Ok) : (X.marked ee xe).Ok :=
  ⟨ok.mod, ok.kind, ok.glob, ok.blt, ok.above, ok.inj, ok.has, ok.cab, (fun z => absurd z Bool.false_ne_true), ok.frames, ok.stk, ok.exf, ok.bs, ok.bsz, ok.noex, ok.exfs, ok.funs, ok.frf⟩
theorem Inv.marked (I : Inv X pins σ H s) : Inv (X.marked ee xe) pins σ H s := ⟨I.ok.marked, I.os, I.bare, I.base, I.loc, I.cell, I.free, I.freeC, I.pin, I.hok, I.len, I.tk⟩
theorem Inv.unmarked (ok : X.Ok) (I : Inv (X.marked ee xe) pins σ H s) : Inv X pins σ H s := ⟨ok, I.os, I.bare, I.base, I.loc, I.cell, I.free, I.freeC, I.pin, I.hok, I.len, I.tk⟩
theorem SP.unmarked (ok : X.Ok) {D : Ends} {f : Flow} {s' : Shared} (h : SP (X.marked ee xe) pins D f s') : SP X pins D f s' := by
  cases f with
  | next => obtain ⟨σ', H', I, q⟩ := h; exact ⟨σ', H', I.unmarked ok, q⟩
  | brk => obtain ⟨σ', H', I, q⟩ := h; exact ⟨σ', H', I.unmarked ok, q⟩
  | cont => obtain ⟨σ', H', I, q⟩ := h; exact ⟨σ', H', I.unmarked ok, q⟩
  | ret u => obtain ⟨v, σ', H', I, r, q⟩ := h; exact ⟨v, σ', H', I.unmarked ok, r, q⟩
/-- an exception has come out of a call -/
def Cat (X : Cx) (pins : List (Addr × Obj)) (σ : St) (E : XK) (e : Value) (s' : Shared) : Prop := ∃ H1 s1, Inv X pins σ H1 s1 ∧ CX1 X.prog X.w X.stack H1 s1 E e s'
theorem call_cat {k : Nat} {f : Addr} {fd : FuncData} {ps : List Str} {sp : Sp} {x : Str} {p pos : Pos} {e : Expr} {es : List Expr} {t : TA} {Q : VK} {E : XK} (F : FnOk X.prog X.w X.K X.mg X.base (CX1 X.prog X.w) k f fd ps sp) (hr : Room k X.A) (hg : Gl X x) (hm : X.mg x = some (.ref f))
    (hk : PySem.W.keepIn X.K (.ref f) = true) (hb : Binds X.K fd ps []) (ha : PA X.nox (e :: es) t) (I : Inv X pins σ H s) (h : t σ H fun vs H1 => sp vs H1 Q E) (hdb : (x == ("__debug__" : Str)) = false)
    (he : starEach (e :: es) X.env = (false, eval e X.env) :: starEach es X.env) (hpl : (backTo pos (starEach es X.env)).any (·.1) = false) :
    wpAny (model X.prog X.w) X.A (eval (.Call (.Name x p) (e :: es) [] pos) X.env) (EP X pins σ Q) (Cat X pins σ E) s := by
  refine wpAny_Call_Name_kw (ld_glob I hg hm ?_ hdb)
  refine PySem.W.callWith_K (h₀ := X.base) I.ok.mod.kin hk (wpAny_mono (ha pos pins s σ H _ (I.wish _) h) (fun us s1 h1 => ?_) fun _ _ z => z.elim) he hpl
  obtain ⟨vs, H1, I1', r, q⟩ := h1
  have I1 : Inv X pins σ H1 s1 := I1'.unwish
  refine ⟨I1.kIn, ?_⟩
  have hl : us.length = ps.length := by rw [← r.length]; exact F.len _ _ _ _ q
  have hb' := hb s1 us I1.kIn (by rw [List.append_nil]; exact hl)
  rw [List.append_nil] at hb'
  refine wpAny_call (codeAny_mono (F.run X.A X.stack s1 H1 ⟨us, []⟩ us vs Q E hr I1.env0 hb' r q (.inl I1.tk)) fun r s' hq => ?_)
  cases r with
  | error e => exact ⟨H1, s1, I1, hq⟩
  | ok fl =>
    cases fl with
    | ret u => exact I1.after hq
    | next => exact False.elim hq
    | brk => exact False.elim hq
    | cont => exact False.elim hq
end
/-- a def whose exceptions lie so -/
theorem Fun.okX {P : Program} {w : World} {K : PySem.W.Frag} {mg : Str → Option Value} {base : Heap} {x qual : Str} {st : Stmt} {f : Addr} {fd : FuncData} {N ps : List Str} {k : Nat} {sp : Sp} (F : Fun K x qual st f fd) (S : FnScope N ps (defScope st)) (len : ∀ vs H Q E, sp vs H Q E → vs.length = ps.length)
    (hbody : ∀ (cdv : Value) (A : Around) (outer : List Env) (s : Shared) (H : Hp) (vs : List V) (Q : VK) (E : XK), Room k (A.deeper (envOfC qual (defScope st) s.heap.objs.size f cdv)) → sp vs H Q E →
      ∃ t, PSs (cxOf (CX1 P w) P w K mg base N qual (defScope st) f cdv A outer s H E) (defBody st) t ∧ t { nx := fun _ H' => Q .non H', rt := Q } (start N vs) H) : FnOk P w K mg base (CX1 P w) (k + 1) f fd ps sp := by
  obtain ⟨oc, od, kV, doc, pm, an, cdv, ct, osl, rfl, lk, hcd⟩ := F.ex
  exact fn_of lk hcd S len fun A outer s H vs Q E hr hsp => hbody cdv A outer s H vs Q E hr hsp
end L2

set_option Elab.async false
set_option linter.all false
set_option maxRecDepth 100000
set_option maxHeartbeats 4000000
namespace PySem.AwM
open PySem.AutoSeq1 PySem.MeetsSeq PySem.MeetsSeq3
end PySem.AwM
namespace L2
open PySem PySem.Spec PyProof.Rows
section
variable {X : Cx}
end
end L2
namespace HT
open PySem PyProof.Rows
section
variable {prog : Program} {w : World} {A : Around} {E : Value → Shared → Prop} {s : Shared}
end
end HT
namespace L2
open PySem PySem.Spec PyProof.Rows
section
variable {X : Cx}
end
end L2

set_option Elab.async false
set_option linter.all false
set_option maxRecDepth 100000
set_option maxHeartbeats 4000000
namespace L2
open PySem PySem.Spec PyProof.Rows
/-! ### any text read as a line -/
/-! pieces joined are the text -/
end L2


set_option Elab.async false
set_option linter.all false
set_option maxRecDepth 100000
set_option maxHeartbeats 4000000
namespace L2
open PySem PySem.Spec PyProof.Rows
/-! ### except C as e: the exception is a thing of its own from then on -/
def ExcO (a C : Addr) : HO := .ext fun h => ∃ o, h.get? a = some o ∧ o.cls = .ref C ∧ PySem.W.notCls o = true
theorem ExcO.ok {P : Program} {w : World} {H : Hp} {h : Heap} {a C : Addr} {o : Obj} (e : h.get? a = some o) (c : o.cls = .ref C) (n : PySem.W.notCls o = true) : ObjOk P w H h a (ExcO a C) :=
  ⟨⟨o, e, c, n⟩, ⟨o, e⟩, fun _ _ ⟨o, e, c, n⟩ k => ⟨o, k o e, c, n⟩⟩
theorem ObjOk.here {P : Program} {w : World} {H : Hp} {h : Heap} {a : Addr} {o : HO} (x : ObjOk P w H h a o) : ∃ u, h.get? a = some u := by
  cases o with
  | lst xs => obtain ⟨_, _, _, _, e⟩ := x; exact ⟨_, e⟩
  | tup xs => obtain ⟨_, _, _, u, e, _⟩ := x; exact ⟨_, e⟩
  | dK kvs => obtain ⟨_, _, _, _, u, _, _, e, _⟩ := x; exact ⟨_, e⟩
  | dT kvs => obtain ⟨_, _, _, _, u, _, _, e, _⟩ := x; exact ⟨_, e⟩
  | set S n => obtain ⟨u, _, _, _, e, _⟩ := x; exact ⟨_, e⟩
  | ins C dx fs => obtain ⟨_, _, _, e, _⟩ := x; exact ⟨_, e⟩
  | own y => exact x
  | xd fs => obtain ⟨_, ⟨_, _, _, e, _⟩, _⟩ := x; exact ⟨_, e⟩
  | rng lo hi => obtain ⟨_, _, _, e⟩ := x; exact ⟨_, e⟩
  | frz ob u => obtain ⟨e, _⟩ := x; exact ⟨_, e⟩
  | tbl ps => exact ⟨_, show h.get? a = some _ from x⟩
  | met f y => exact ⟨_, show h.get? a = some _ from x⟩
  | ext φ => obtain ⟨_, q, _⟩ := x; exact q
/-- what is wanted behind a suite whose name goes -/
def Ends.less (D : Ends) (i : Nat) : Ends := { nx := fun σ H => D.nx (σ.set i none) H, rt := D.rt, bk := fun σ H => D.bk (σ.set i none) H, ct := fun σ H => D.ct (σ.set i none) H }
section
variable {X : Cx} {pins : List (Addr × Obj)} {σ : St} {H : Hp} {s : Shared}
/-- the name of a handler goes -/
theorem name_goes {M : Model} {A : Around} {E : Value → Shared → Prop} {i : Nat} {x : Str} {pos : Pos} {Q : Unit → Shared → Prop} (I : Inv X pins σ H s) (hN : X.N.Nodup) (hi : X.N[i]? = some x) (hx : X.env.scope.names.lookup x = some .local)
    (h : ∀ s', Inv X pins (σ.set i none) H s' → Q () s') : wpAny M A (do bindName X.env x .none; unbindBehindTheSuite X.env x pos) Q E s := by
  have hk : X.env.kindOf x = some .local := hx
  have hcls : (X.env.scope.kind == .class || (X.env.scope.kind == .module && X.env.locals != X.env.globals)) = false := by rw [I.ok.kind]; rfl
  have hiσ : i < σ.length := by rw [I.len]; exact (List.getElem?_eq_some_iff.mp hi).1
  refine wpAny_bind (wpAny_bindName (store_ok (v := .non) I hN hi (.inl hx) rfl (fun s1 I1 => ?_) (.inr hx)))
  obtain ⟨m, hn, hl⟩ := id I1.loc
  have hsome : (m x).isSome = true := by
    obtain ⟨u, ru, q⟩ := hl i x .non hi (by rw [List.getElem?_set_self hiσ]) (.inl hx)
    rcases q with ⟨_, e⟩ | ⟨k, _⟩
    · rw [e]; rfl
    · rw [hk] at k
      rcases k with k | k <;> cases k
  unfold unbindBehindTheSuite
  refine wpAny_onRaise ?_
  unfold unbindName
  refine wpAny_bind (wpAny_point (wpAny_bind ?_))
  unfold deleteName
  simp only [hk, hcls]
  rw [if_neg (by decide)]
  refine wpAny_bind (wpAny_nsDel_keeps hn fun h2 v hn2 hs2 => ?_)
  rw [hsome]
  simp only [if_true, Bool.not_true, Bool.false_eq_true, if_false]
  have cne := I1.cne
  have ok2 : HOk X.prog X.w H h2 := HOk.sameBut I1.hok I1.free hs2
  have I2 : Inv X pins (σ.set i none) H { s1 with heap := h2 } := by
    refine ⟨I1.ok, I1.os, I1.bare, ⟨fun b o e n hb hx => ?_, fun b o e n hb hx => ?_, I1.base.free, fun b o e hx => ?_, I1.base.tups, I1.base.frzs, I1.base.tbls⟩, ⟨_, hn2, fun j y v' e1 e2 e3 => ?_⟩, fun y c e => ?_, I1.free, I1.freeC, fun p hp => ?_, ok2, by rw [List.length_set]; exact I.len, I1.tk⟩
    · exact (hs2.2 b (Nat.ne_of_lt (Nat.lt_of_lt_of_le (Heap.lt_size e) I1.ok.above))).trans (I1.base.keep b o e n hb hx)
    · obtain ⟨sl, e1⟩ := I1.base.slot b o e n hb hx
      exact ⟨sl, (hs2.2 b (Nat.ne_of_lt (Nat.lt_of_lt_of_le (Heap.lt_size e) I1.ok.above))).trans e1⟩
    · obtain ⟨o', e1⟩ := I1.base.there b o e hx
      exact ⟨o', (hs2.2 b (Nat.ne_of_lt (Nat.lt_of_lt_of_le (Heap.lt_size e) I1.ok.above))).trans e1⟩
    · by_cases hj : j = i
      · subst hj
        rw [List.getElem?_set_self hiσ] at e2
        cases e2
      · rw [List.getElem?_set_ne (Ne.symm hj)] at e2
        obtain ⟨u', r', q⟩ := hl j y v' e1 (by rw [List.getElem?_set_ne (Ne.symm hj)]; exact e2) e3
        refine ⟨u', r', ?_⟩
        rcases q with ⟨k, e⟩ | ⟨k, c, e, z⟩
        · refine .inl ⟨k, ?_⟩
          have hne : y ≠ x := fun e => hj (nodup_ix hN e1 (e ▸ hi))
          simp [hne, e]
        · exact .inr ⟨k, c, e, z.sameBut hs2 (cne y c e)⟩
    · obtain ⟨w', z⟩ := I1.cell y c e
      exact ⟨w', z.sameBut hs2 (cne y c e)⟩
    · obtain ⟨e, n, ne, nf, d⟩ := I1.pin p hp
      exact ⟨(hs2.2 p.1 ne).trans e, n, ne, nf, d⟩
  exact wpAny_pure (wpAny_point (h _ I2))
/-- an exception is caught and named -/
theorem catch_as {D : Ends} {e : Value} {s' : Shared} {c n : Str} {i : Nat} {np hpos : Pos} {C' : Addr} {b₀ : Stmt} {suite : List Stmt} {ts : TS}
    (hcx : Cat X pins σ (fun v C H2 => ∃ Cc, C = some Cc ∧ PySem.W.exmOne X.K (.ref Cc) (.ref C') = some true ∧ ∀ ea, v = .ref ea → H2 ea = none → ts (D.less i) (σ.set i (some (.ref ea))) (upd H2 ea (ExcO ea Cc))) e s') (hown : X.stack = X.env :: X.outer ∧ X.env.frame = some X.env.locals)
    (hg : Gl X c) (hm : X.mg c = some (.ref C')) (hN : X.N.Nodup) (hi : X.N[i]? = some n) (hn : X.env.scope.names.lookup n = some .local) (hs : ∀ ee xe, PSs (X.marked ee xe) (b₀ :: suite) ts) (hdb : (c == ("__debug__" : Str)) = false) :
    wpAny (model X.prog X.w) X.A (noteFrame e X.env) (fun _ s2 => wpAny (model X.prog X.w) X.A (setFlight e none) (fun _ s3 => wpAny (model X.prog X.w) X.A (handleBy e X.env [.ExceptHandler (some (.Name c np)) (some n) (b₀ :: suite) hpos]) (SP X pins D) X.xe s3) X.xe s2) X.xe s' := by
  obtain ⟨H1, s1, I, ea, Cc, a0, H', B, rfl, hos, hbare, htk, hun, hokB, hfly, hold, C2, hC, hx, hts⟩ := hcx
  cases hC
  -- the exception is no thing of before
  have hea : H' ea = none := by
    cases q : H' ea with
    | none => rfl
    | some u =>
      obtain ⟨o, z⟩ := (hokB ea u q).here
      rw [hfly.2.1] at z
      cases z
  have hts := hts ea rfl hea
  have nd : ∀ b ∈ frs X.stack, ∀ o, s'.heap.get? b = some o → ∀ vs, o.data ≠ .fields vs := fun b hb o e => by
    obtain ⟨_, o', e', hn⟩ := hfly.2.2.1.mem (show b ∈ X.stack.filterMap (·.frame) from hb)
    rw [e] at e'
    cases e'
    exact hn
  have heas : ∀ o, s1.heap.get? ea = some o → False := fun o z => by
    by_cases hb : ea ∈ frs X.stack
    · obtain ⟨_, _, _, oe, vs, _, _, _, he, _, hd, _⟩ := hfly
      exact nd ea hb oe he vs hd
    · obtain ⟨o', q⟩ := hold ea o z hb
      rw [hfly.2.1] at q
      cases q
  have step : ∀ hk, B.StaysIn hk → s'.heap.UpToSlots hk → (∃ o, hk.get? ea = some o ∧ o.cls = .ref Cc ∧ PySem.W.notCls o = true) → Inv X pins σ (upd H' ea (ExcO ea Cc)) { s' with heap := hk } := by
    intro hk hB hU ⟨oe, he, hc, hnc⟩
    have inB : ∀ b o o', B.get? b = some o' → s'.heap.get? b = some o → hk.get? b = some o := fun b o o' e1 e2 => by
      have := hfly.1 b o' e1
      rw [e2] at this
      cases this
      exact hB b o e1
    have hbe : ∀ b o, s1.heap.get? b = some o → b ≠ ea := fun b o e z => heas o (z ▸ e)
    have hok2 : HOk X.prog X.w (upd H' ea (ExcO ea Cc)) hk := fun b u e => by
      by_cases z : b = ea
      · subst z
        rw [upd_same] at e
        cases e
        exact ExcO.ok he hc hnc
      · rw [upd_ne z] at e
        have keepH : ∀ c u, H' c = some u → upd H' ea (ExcO ea Cc) c = some u := fun c u q => by rw [upd_ne (ne_of_none q hea)]; exact q
        exact (hokB b u e).stay (fun c v _ q => hB c v q) (fun c q => keepH c _ q) fun c xs q => keepH c _ q
    have hT : ∀ b u, H' b = some u → upd H' ea (ExcO ea Cc) b = some u := fun b u q => by rw [upd_ne (ne_of_none q hea)]; exact q
    refine I.call' (s' := { s' with heap := hk }) (ch := []) hos ⟨?_, ?_, ?_, ?_, fun b xs q => hT b _ (hun.tups b xs q), fun b o u q => hT b _ (hun.frzs b o u q), fun b ps q => ?_⟩ hok2 hbare (fun b z => by simp at z)
    · intro b o e1 hn hb hx'
      obtain ⟨o', e2⟩ := hold b o e1 hb
      exact inB b o o' e2 (hun.keep b o e1 hn hb hx')
    · intro b o e1 hn hb hx'
      obtain ⟨sl, e2⟩ := hun.slot b o e1 hn hb hx'
      obtain ⟨sl2, e3⟩ := hU b _ e2 (nd b hb _ e2)
      exact ⟨sl2, e3⟩
    · intro b o e1 hn hx'
      rw [upd_ne (hbe b o e1)]
      exact hun.free b o e1 hn hx'
    · intro b o e1 hx'
      by_cases hb : b ∈ frs X.stack
      · obtain ⟨o', e2⟩ := hun.there b o e1 hx'
        obtain ⟨sl2, e3⟩ := hU b _ e2 (nd b hb _ e2)
        exact ⟨_, e3⟩
      · obtain ⟨o', e2⟩ := hold b o e1 hb
        exact ⟨o', hB b o' e2⟩
    · obtain ⟨more, q2⟩ := hun.tbls b ps q
      exact ⟨more, hT b _ q2⟩
  have isE : ∀ {l : List Env} {hk : Heap}, Heap.FlyingW B l ea (.ref Cc) a0 hk → ∃ o, hk.get? ea = some o ∧ o.cls = .ref Cc ∧ PySem.W.notCls o = true := fun f => by
    obtain ⟨_, _, _, oe, vs, _, _, _, he, hc, hd, _⟩ := f
    exact ⟨oe, he, hc.1, by unfold PySem.W.notCls; rw [hd]⟩
  rw [hown.1] at hfly
  have hfr : X.A.frames = some (X.env :: X.outer) := by rw [I.ok.frames, hown.1]
  refine wpAny_looks_onW (base := B) hfr hown.2 hfly fun h1 hheld hup1 => ?_
  refine wpAny_landsW hheld fun h2 hfly2 hup2 => ?_
  have I2 := step h2 hfly2.1 (hup1.trans hup2) (isE hfly2)
  refine wpAny_handleBy_cons (codeAny_handlers_test ?_) (by intro q; cases q)
  refine ld_glob (X := X.marked ea X.xe) I2.marked hg hm ?_ hdb
  obtain ⟨oe, he, hcls⟩ := hfly2.there
  have LT : PySem.W.Looks (model X.prog X.w) h2 (typeOf (.ref ea)) (.ref Cc) := hcls ▸ (PySem.W.Looks.ld he).andThen .now
  refine PySem.W.exm_one I2.kIn LT hx _ _ _ _ (fun b o e => e) ?_
  refine codeAny_handlers_suite_as (lands_againW hfly2 fun h3 hfly3 hup3 => ?_)
  have I3 := step h3 hfly3.1 ((hup1.trans hup2).trans hup3) (isE hfly3)
  refine store_ok (v := .ref ea) I3 hN hi (.inl hn) rfl (fun s4 I4 => ?_) (.inr hn)
  refine wpAny_mono (hs ea _ pins _ _ _ (D.less i) I4.marked hts) (fun f s5 h5 => ?_) fun _ _ z => z
  have h5 := h5.unmarked I.ok
  cases f with
  | next => obtain ⟨σ', H5, I5, q⟩ := h5; exact name_goes I5 hN hi hn fun s6 I6 => ⟨_, H5, I6, q⟩
  | brk => obtain ⟨σ', H5, I5, q⟩ := h5; exact name_goes I5 hN hi hn fun s6 I6 => ⟨_, H5, I6, q⟩
  | cont => obtain ⟨σ', H5, I5, q⟩ := h5; exact name_goes I5 hN hi hn fun s6 I6 => ⟨_, H5, I6, q⟩
  | ret u => obtain ⟨v, σ', H5, I5, r, q⟩ := h5; exact name_goes I5 hN hi hn fun s6 I6 => ⟨v, _, H5, I6, r, q⟩
/-- try: y = f(e, ..); except C as n: suite -/
def tTrySA (K : PySem.W.Frag) (sp : Sp) (t : TA) (j i : Nat) (C' : Addr) (ts : TS) : TS := fun D σ H => t σ H fun vs H1 => sp vs H1 (fun v H2 => D.nx (σ.set j (some v)) H2) (fun v C H2 => ∃ Cc, C = some Cc ∧ PySem.W.exmOne K (.ref Cc) (.ref C') = some true ∧ ∀ ea, v = .ref ea → H2 ea = none → ts (D.less i) (σ.set i (some (.ref ea))) (upd H2 ea (ExcO ea Cc)))
theorem ps_trySA {j i k : Nat} {f : Addr} {fd : FuncData} {ps : List Str} {sp : Sp} {x c n y : Str} {p np cpos epos hpos pos py : Pos} {e : Expr} {es : List Expr} {t : TA} {C' : Addr} {b₀ : Stmt} {suite : List Stmt} {ts : TS} (hN : X.N.Nodup) (hj : X.N[j]? = some y) (hy : Loc X.env.scope y) (hi : X.N[i]? = some n) (hn : X.env.scope.names.lookup n = some .local)
    (F : FnOk X.prog X.w X.K X.mg X.base (CX1 X.prog X.w) k f fd ps sp) (hr : Room k X.A)
    (hg : Gl X x) (hm : X.mg x = some (.ref f)) (hk : PySem.W.keepIn X.K (.ref f) = true) (hb : Binds X.K fd ps []) (ha : PA X.nox (e :: es) t) (hown : X.stack = X.env :: X.outer ∧ X.env.frame = some X.env.locals) (hgc : Gl X c) (hmc : X.mg c = some (.ref C'))
    (hs : ∀ ee xe, PSs (X.marked ee xe) (b₀ :: suite) ts) (hdb : (x == ("__debug__" : Str)) = false := by decide) (hdc : (c == ("__debug__" : Str)) = false := by decide)
    (he : starEach (e :: es) X.env = (false, eval e X.env) :: starEach es X.env := by rfl) (hpl : (backTo cpos (starEach es X.env)).any (·.1) = false := by rfl) (hsw : swapsWith (.Call (.Name x p) (e :: es) [] cpos) (some (.Name y py)) epos.line X.env = pure false := by rfl)
    (hf : X.fn y = true ∨ X.env.scope.names.lookup y = some .local := by first | exact .inl rfl | exact .inr rfl | assumption) :
    PS X (.Try [.Assign [.Name y py] (.Call (.Name x p) (e :: es) [] cpos) epos] [.ExceptHandler (some (.Name c np)) (some n) (b₀ :: suite) hpos] [] [] pos) (tTrySA X.K sp t j i C' ts) := by
  intro pins s σ H D I h
  refine wpAny_Try_except (wpAny_execs_cons ?_)
  refine wpAny_mono (wpAny_Assign_Name (Q := SP X pins D) (wpAny_mono (call_cat F hr hg hm hk hb ha I h hdb he hpl) (fun v s1 ⟨y, H1, I1, r1, q1⟩ => store_ok I1 hN hj hy r1 (fun s2 I2 => ⟨_, H1, I2, q1⟩) hf) fun _ _ z => z) hsw) (fun fl s1 q => ?_) fun e' s1 q => catch_as q hown hgc hmc hN hi hn hs hdc
  cases fl with
  | next => exact wpAny_execs_nil (wpAny_execs_nil q)
  | ret v => exact q
  | brk => exact q
  | cont => exact q
end
end L2

set_option Elab.async false
set_option linter.all false
set_option maxRecDepth 100000
set_option maxHeartbeats 4000000
/-! ### what class an exception has -/
namespace PySem.AwV
open PySem PySem.Calls PyProof.Rows Builtin Builtin.ObjectAttr Builtin.Getset_descriptor PySem.W
structure ExcCls (K : Frag) (C : Addr) : Prop where
  ga : findIn K (.ref C) "__getattribute__" = some (some (.builtin "BaseException.__getattribute__"))
  gt : findIn K (.ref C) "__getattr__" = some none
  cl : findIn K (.ref C) "__class__" = some (some (.builtin "object.__class__"))
  sp : specialIn K (.builtin "object.__class__") "__get__" = some (some (.builtin "getset_descriptor.__get__"))
  tk : takesIn K (.builtin "object.__class__") = some true
  ob : mroIn K C (.type "object") = some true
  be : mroIn K C (.type "BaseException") = some true
def ExcAt (x C : Addr) (h : Heap) : Prop := ∃ o, h.get? x = some o ∧ o.cls = .ref C ∧ notCls o = true
section
variable {prog : Program} {w : World} {A : Around} {E : Value → Shared → Prop} {s : Shared} {K : Frag} {x C : Addr}
theorem exc_type {M : Model} {h : Heap} (I : ExcAt x C h) : Looks M h (typeOf (.ref x)) (.ref C) := by
  obtain ⟨o, e, c, _⟩ := I
  exact c ▸ (Looks.ld e).andThen .now
theorem exc_find {M : Model} {h : Heap} (X : K.In h) (Z : ExcCls K C) : Looks M h (find (.ref x) (.ref C) "__class__") (.bind (.builtin "getset_descriptor.__get__") (.builtin "object.__class__")) := by
  refine (looks_findIn (M := M) X Z.cl).andThen (Looks.andThen (a := some (.builtin "getset_descriptor.__get__")) (show Looks M h (getOf (some _)) _ from looks_specialIn X Z.sp) ?_)
  have L3 := looks_takesIn (M := M) X Z.tk
  exact (show Looks M h (dataDescriptor? (some _) (some _)) (some (_, _)) from
    L3.andThen .now).andThen (Looks.tag .now)
theorem exc_get {tp : Value} {R : Result → Shared → Prop} (X : K.In s.heap) (I : ExcAt x C s.heap) (Z : ExcCls K C) (h : R (.ok (.ret (.ref C))) s) :
    codeAny (model prog w) A (.call (.builtin "getset_descriptor.__get__") ⟨[.builtin "object.__class__", .ref x, tp], []⟩) R s := by
  obtain ⟨hh, g, dr, t, os⟩ := s
  have L0 := exc_type (M := model prog w) I
  have L1 := looks_mroIn (M := model prog w) X Z.ob
  have ck := KF.slot_gs.check (model prog w) A
  refine codeAny_call_builtin KF.slot_gs.plain KF.entry_gs
    (KF.slot_gs.check _ _ _ _ _ _ _ _ KF.type_class (KF.args_gs _ _ _) ?_)
  unfold Builtin.«getset_descriptor.__get__»
  unfold descrGet
  rw [dga_obj]
  refine wpAny_bind (wpAny_pure ?_)
  unfold descrGetter descrCheckInstance
  unfold descrNameAndClass isInstance
  simp only [KF.owner_class]
  repeat lk
  refine ⟨Code.quiet_builtin _ (by decide +kernel),
    codeAny_builtin KF.entry_class ?_⟩
  unfold Builtin.«object.__class__» shownTypeOf
  repeat lk
  exact h
theorem exc_check {rest : List Value} {Q : Unit → Shared → Prop} (X : K.In s.heap) (I : ExcAt x C s.heap) (Z : ExcCls K C) (ha : argsOk "BaseException.__getattribute__" ⟨.ref x :: rest, []⟩) (h : Q () s) :
    wpAny (model prog w) A (checkBuiltinCall "BaseException.__getattribute__" ⟨.ref x :: rest, []⟩) Q E s := by
  have hsplit : splitId "BaseException.__getattribute__" = some ("BaseException", "__getattribute__") := by decide +kernel
  have hk : builtinKind "BaseException.__getattribute__" = some .slot := by
    simp only [builtinKind, hsplit]
    decide +kernel
  have LI : Looks (model prog w) s.heap (isInstance (.ref x) (.type "BaseException")) true := (exc_type I).andThen (looks_mroIn X Z.be)
  simp only [checkBuiltinCall, hk, hsplit]
  refine wpAny_bind (LI A _ E s (fun _ _ e => e) ?_)
  simp only [Bool.not_true, Bool.false_eq_true, if_false]
  cases hsig : Manifest.signature? "BaseException.__getattribute__" with
  | none => exact wpAny_pure h
  | some sig =>
    simp only [argsOk, hsig] at ha
    have h2 : Bind.checkArgs "BaseException.__getattribute__" sig ⟨.ref x :: rest, []⟩ = pure () := ha
    exact (show wpAny (model prog w) A (Bind.checkArgs _ sig _) Q E s from by
      rw [h2]; exact wpAny_pure h)
theorem exc_entry {tk : Tok} {Q : Fin → Shared → Prop} (X : K.In s.heap) (I : ExcAt x C s.heap) (Z : ExcCls K C) (h : Q (.done (.ret (.ref C))) s) :
    wpAny (model prog w) A (Builtin.«object.__getattribute__» ⟨[.ref x, .str "__class__" tk], []⟩) Q E s := by
  have I' := I
  have X' := X
  obtain ⟨hh, g, dr, t, os⟩ := s
  have L0 := exc_type (M := model prog w) I
  have L1 := exc_find (M := model prog w) (x := x) X Z
  refine wpAny_bind (wpAny_pure (wpAny_bind (wpAny_pure (wpAny_bind (L0.at (wpAny_bind (L1.at ?_)))))))
  show wpAny (model prog w) A (holding [.builtin "object.__class__"] (call (.builtin "getset_descriptor.__get__") [.builtin "object.__class__", .ref x, .ref C]) >>= ret) Q E _
  refine wpAny_bind (wpAny_holding (wpAny_call (exc_get X' I' Z ?_)))
  exact wpAny_pure h
/-- its class, asked of itself -/
theorem exc_class {Q : Option Value → Shared → Prop} (X : K.In s.heap) (I : ExcAt x C s.heap) (Z : ExcCls K C) (h : Q (some (.ref C)) { s with toks := s.toks + 1 }) :
    wpAny (model prog w) A (getAttr? (.ref x) "__class__") Q E s := by
  have I' := I
  have X' := X
  obtain ⟨hh, g, dr, t, os⟩ := s
  have L0 := exc_type (M := model prog w) I
  have L1 := looks_findIn (M := model prog w) X Z.ga
  have L2 := looks_findIn (M := model prog w) X Z.gt
  have f3 := F.excAttr_ValueError.ga.bind (.ref x)
  unfold getAttr? getAttrBy?
  refine wpAny_bind (wpAny_mkText (wpAny_bind (wpAny_attempt ?_)))
  unfold getAttrBy
  refine wpAny_holding (wpAny_bind (L0.at (wpAny_bind (L1.at ?_))))
  show wpAny (model prog w) A (getAttrByItsOwn (.ref x) _ (.ref C) (.builtin "BaseException.__getattribute__") false false) _ _ _
  unfold getAttrByItsOwn
  refine wpAny_bind ((show Looks (model prog w) hh (hookBefore (.ref C)) none from L2).at ?_)
  refine wpAny_bind (wpAny_attempt (wpAny_holding ?_))
  show wpAny (model prog w) A (boundAndCalled (.builtin "BaseException.__getattribute__") (.ref x) _) _ _ _
  unfold boundAndCalled
  rw [f3]
  refine wpAny_bind (wpAny_pure (wpAny_call (codeAny_call_builtin F.excAttr_ValueError.ga.plain F.entry_bexc_ga (exc_check X' I' Z (F.args_bexc_ga _ _) (exc_entry X' I' Z ?_)))))
  show wpAny (model prog w) A (handedOut (.ref C)) _ _ _
  rw [handedOut_of (show handedIn (.ref C) = true from rfl)]
  exact wpAny_pure (wpAny_pure h)
theorem exc_kit (Z : ExcCls K C) : KitX K (.ref x) (.ref C) (ExcAt x C) where
  ty := fun _ _ _ I => exc_type I
  it := fun M h X _ => by
    obtain ⟨cd, hc, _⟩ := Option.bind_eq_some_iff.mp Z.ob
    unfold clsIn at hc
    split at hc
    · rename_i ho
      intro A' Q' E' s' k q
      unfold isType loadHead
      exact wpAny_bind (wpAny_loadPart (k _ _ (X _ _ ho))
        (wpAny_pure q))
    · cases hc
  ne := fun h tp dd its n sl X htp => by
    obtain ⟨cd, hc, _⟩ := Option.bind_eq_some_iff.mp Z.ob
    refine Bool.eq_false_iff.mpr fun q => ?_
    have e : C = tp := Value.ref.inj (beq_iff_eq.mp q)
    subst e
    unfold clsIn at hc
    split at hc
    · rename_i ho
      have z := (X _ _ ho).symm.trans htp
      cases z
    · cases hc
  ca := fun X I q => exc_class X I Z q
end
end PySem.AwV
namespace L2
open PySem PySem.Spec PyProof.Rows
theorem boot_VE : bootBuiltins "ValueError" = some (.type "ValueError") := by decide +kernel
/-- the type of a value, or the class of an exception -/
inductive TyX (K : PySem.W.Frag) (H : Hp) : V → Value → Prop where
  | ty {x : V} {t : Value} (h : TyOf K H x t) : TyX K H x t
  | exc {a C : Addr} (h : H a = some (ExcO a C)) (Z : AwV.ExcCls K C) : TyX K H (.ref a) (.ref C)
section
variable {X : Cx} {pins : List (Addr × Obj)} {σ : St} {H : Hp} {s : Shared}
/-- a class that is handed to isinstance -/
inductive ClsV : V → Value → Prop where
  | ty (T : String) : ClsV (.ty T) (.type T)
  | own (C : Addr) : ClsV (.ref C) (.ref C)
theorem isinst_x {x : V} {u t c : Value} {b : Bool} {A : Around} {E : Value → Shared → Prop} {Q : Value → Shared → Prop} (I : Inv X pins σ H s) (rx : RelV x u) (ty : TyX X.K H x t) (e : PySem.W.kitOne X.K t c = some b) (h : ∀ tk, Q (.bool b) { s with toks := tk }) :
    wpAny (model X.prog X.w) A (call (.builtin "isinstance") [u, c]) Q E s := by
  cases ty with
  | ty z => exact isinst_ok I rx z e h
  | @exc a C ea Z =>
    cases (show u = Value.ref a from rx)
    obtain ⟨p, _, _⟩ := (show ObjOk X.prog X.w H s.heap a (ExcO a C) from I.hok a _ ea)
    exact PySem.W.kia_one (AwV.exc_kit Z) I.kIn p e (fun z => nomatch z) h
theorem call_isinstX {K : PySem.W.Frag} (hK : X.K = K) : CallR X (.builtin "isinstance") (fun xs H Q => ∃ x y c t b, xs = [x, y] ∧ ClsV y c ∧ TyX K H x t ∧ PySem.W.kitOne K t c = some b ∧ Q (.bl b) H) := by
  intro pins s σ H xs us Q I r h
  obtain ⟨x, y, c, t, b, rfl, hc, ty, e, q⟩ := h
  obtain ⟨u, u', rfl, ru, ru'⟩ := vals2 r
  subst hK
  have e' : u' = c := by cases hc <;> exact ru'
  subst e'
  exact wpAny_with_toks (n := 1) I.tk (isinst_x I ru ty e fun tk htk => ⟨.bl b, H, I.tok tk, rfl, q⟩)
theorem vals_refs : ∀ {cs : List Addr} {its : List Value}, Vals (cs.map V.ref) its → its = cs.map Value.ref
  | [], _, h => by cases h; rfl
  | c :: cs, _, h => by
    cases h with
    | cons r1 r2 =>
      rw [vals_refs r2, show _ = Value.ref c from r1]
      rfl
/-- isinstance(x, (C, ..)), x an exception -/
theorem call_isinstT {K : PySem.W.Frag} (hK : X.K = K) : CallR X (.builtin "isinstance") (fun xs H Q => ∃ (a C p : Addr) (cs : List Addr) (b : Bool), xs = [.ref a, .ref p] ∧ H a = some (ExcO a C) ∧ H p = some (.tup (cs.map V.ref)) ∧ AwV.ExcCls K C ∧ PySem.W.kitAny K (.ref C) (cs.map Value.ref) = some b ∧ Q (.bl b) H) := by
  intro pins s σ H xs us Q I r h
  obtain ⟨a, C, p, cs, b, rfl, ea, hp, Z, e, q⟩ := h
  obtain ⟨u, u', rfl, ru, ru'⟩ := vals2 r
  subst hK
  cases ru
  cases ru'
  obtain ⟨_, its, rv, o, ho, hc, n, hd⟩ := (show ObjOk X.prog X.w H s.heap p (.tup (cs.map V.ref)) from I.hok p _ hp)
  cases vals_refs rv
  obtain ⟨ocls, odict, odata, osl⟩ := o
  simp only at hc hd
  subst hc hd
  obtain ⟨pe, _, _⟩ := (show ObjOk X.prog X.w H s.heap a (ExcO a C) from I.hok a _ ea)
  exact wpAny_with_toks (n := 1) I.tk (PySem.W.kia_tup (AwV.exc_kit Z) I.kIn pe ho e (fun z => nomatch z) fun tk htk => ⟨.bl b, H, I.tok tk, rfl, q⟩)
end
end L2


set_option Elab.async false
set_option linter.all false
set_option maxRecDepth 100000
set_option maxHeartbeats 4000000
namespace AwQ
open PySem PySem.SeqAt
open PySem.AutoSeq1 (wpAny_loadPart')
open PySem.MeetsSeq PySem.MeetsSeq2 PySem.MeetsSeq3
end AwQ

set_option Elab.async false
set_option linter.all false
set_option maxRecDepth 100000
set_option maxHeartbeats 4000000
namespace L2
open PySem PySem.Spec PyProof.Rows
/-! ### deep data of texts, ints and tuples: == and < -/
mutual
def puD : D → Bool
  | .str _ => true
  | .int _ => true
  | .tup xs => puL xs
  | _ => false
def puL : List D → Bool
  | [] => true
  | x :: r => puD x && puL r
end
mutual
def eqD : D → D → Bool
  | .str a, .str b => a == b
  | .int a, .int b => a == b
  | .tup xs, .tup ys => eqL xs ys
  | _, _ => false
def eqL : List D → List D → Bool
  | [], [] => true
  | x :: r, y :: q => eqD x y && eqL r q
  | _, _ => false
end
mutual
theorem eqD_iff : ∀ {d e : D}, puD d = true → (eqD d e = true ↔ d = e)
  | .str a, e, _ => by cases e <;> simp [eqD]
  | .int a, e, _ => by cases e <;> simp [eqD]
  | .tup xs, .tup ys, h => by
    have := eqL_iff (xs := xs) (ys := ys) (by simpa [puD] using h)
    simp only [eqD, this, D.tup.injEq]
  | .tup xs, .non, _ => by simp [eqD]
  | .tup xs, .bl _, _ => by simp [eqD]
  | .tup xs, .int _, _ => by simp [eqD]
  | .tup xs, .str _, _ => by simp [eqD]
  | .tup xs, .lst, _ => by simp [eqD]
  | .tup xs, .dct, _ => by simp [eqD]
  | .non, _, h => by simp [puD] at h
  | .bl _, _, h => by simp [puD] at h
  | .lst, _, h => by simp [puD] at h
  | .dct, _, h => by simp [puD] at h
theorem eqL_iff : ∀ {xs ys : List D}, puL xs = true → (eqL xs ys = true ↔ xs = ys)
  | [], [], _ => by simp [eqL]
  | [], _ :: _, _ => by simp [eqL]
  | _ :: _, [], _ => by simp [eqL]
  | x :: r, y :: q, h => by
    have h' : puD x = true ∧ puL r = true := by simpa [puL] using h
    simp only [eqL, Bool.and_eq_true, eqD_iff h'.1, eqL_iff h'.2, List.cons.injEq]
end
mutual
/-- one place, one datum -/
theorem Is.det {H : Hp} : ∀ {d e : D} {v : V}, puD d = true → puD e = true → Is H d v → Is H e v → d = e
  | .str a, e, v, _, he, h1, h2 => by
    obtain ⟨rfl, _⟩ := (show v = .str a ∧ _ from h1)
    cases e with
    | str b => obtain ⟨q, _⟩ := (show V.str a = V.str b ∧ _ from h2); cases q; rfl
    | int b => cases (show V.str a = V.int b from h2)
    | tup ys => obtain ⟨p, us, q, _⟩ := (show ∃ p us, V.str a = V.ref p ∧ _ from h2); cases q
    | _ => simp [puD] at he
  | .int a, e, v, _, he, h1, h2 => by
    cases (show v = .int a from h1)
    cases e with
    | str b => obtain ⟨q, _⟩ := (show V.int a = V.str b ∧ _ from h2); cases q
    | int b => cases (show V.int a = V.int b from h2); rfl
    | tup ys => obtain ⟨p, us, q, _⟩ := (show ∃ p us, V.int a = V.ref p ∧ _ from h2); cases q
    | _ => simp [puD] at he
  | .tup xs, e, v, hd, he, h1, h2 => by
    obtain ⟨p, vs, rfl, hp, hl⟩ := (show ∃ p vs, v = V.ref p ∧ H p = some (.tup vs) ∧ IsL H xs vs from h1)
    cases e with
    | str b => obtain ⟨q, _⟩ := (show V.ref p = V.str b ∧ _ from h2); cases q
    | int b => cases (show V.ref p = V.int b from h2)
    | tup ys =>
      obtain ⟨p', us, q, hp', hl'⟩ := (show ∃ p' us, V.ref p = V.ref p' ∧ H p' = some (.tup us) ∧ IsL H ys us from h2)
      cases q
      rw [hp] at hp'
      cases hp'
      rw [IsL.det (by simpa [puD] using hd) (by simpa [puD] using he) hl hl']
    | _ => simp [puD] at he
  | .non, _, _, hd, _, _, _ => by simp [puD] at hd
  | .bl _, _, _, hd, _, _, _ => by simp [puD] at hd
  | .lst, _, _, hd, _, _, _ => by simp [puD] at hd
  | .dct, _, _, hd, _, _, _ => by simp [puD] at hd
theorem IsL.det {H : Hp} : ∀ {xs ys : List D} {vs : List V}, puL xs = true → puL ys = true → IsL H xs vs → IsL H ys vs → xs = ys
  | [], [], _, _, _, _, _ => rfl
  | [], _ :: _, _, _, _, h1, h2 => by
    cases (show _ = [] from h1)
    obtain ⟨v, r, q, _⟩ := (show ∃ v r, [] = v :: r ∧ _ from h2)
    cases q
  | _ :: _, [], _, _, _, h1, h2 => by
    cases (show _ = [] from h2)
    obtain ⟨v, r, q, _⟩ := (show ∃ v r, [] = v :: r ∧ _ from h1)
    cases q
  | x :: xs, y :: ys, _, hd, he, h1, h2 => by
    obtain ⟨v, r, rfl, a1, a2⟩ := h1
    obtain ⟨v', r', q, b1, b2⟩ := h2
    cases q
    have hd' : puD x = true ∧ puL xs = true := by simpa [puL] using hd
    have he' : puD y = true ∧ puL ys = true := by simpa [puL] using he
    rw [Is.det hd'.1 he'.1 a1 b1, IsL.det hd'.2 he'.2 a2 b2]
end
theorem eqL_all : ∀ (xs ys : List D), eqL xs ys = ((List.range (min xs.length ys.length)).all (fun j => eqD (xs.getD j .non) (ys.getD j .non)) && xs.length == ys.length)
  | [], [] => by simp [eqL]
  | [], _ :: _ => by simp [eqL]
  | _ :: _, [] => by simp [eqL]
  | x :: r, y :: q => by
    have ih := eqL_all r q
    rw [List.length_cons, List.length_cons, show min (r.length + 1) (q.length + 1) = min r.length q.length + 1 by omega, List.range_succ_eq_map, List.all_cons, List.all_map]
    have e : (List.range (min r.length q.length)).all ((fun j => eqD ((x :: r).getD j .non) ((y :: q).getD j .non)) ∘ Nat.succ) = (List.range (min r.length q.length)).all fun j => eqD (r.getD j .non) (q.getD j .non) := by congr 1
    rw [e]
    have e2 : (r.length + 1 == q.length + 1) = (r.length == q.length) := by rw [Bool.eq_iff_iff]; simp
    rw [e2, Bool.and_assoc, ← ih]
    rfl
end L2

set_option Elab.async false
set_option linter.all false
set_option maxRecDepth 100000
set_option maxHeartbeats 400000
namespace L2
open PySem PySem.Spec PyProof.Rows
section
variable {X : Cx} {pins : List (Addr × Obj)} {σ : St} {H : Hp} {s : Shared}
theorem eqAt_str (I : Inv X pins σ H s) {z : Str} {t : Tok} {e : D} {u : V} {b : Value} {A : Around} (he : puD e = true) (h2 : Is H e u) (r2 : RelV u b) (hu : A.units < cLine) : SeqAt.EqAt A s (.str z t) b (eqD (.str z) e) := by
  cases e with
  | str y =>
    obtain ⟨rfl, _⟩ := (show u = .str y ∧ _ from h2)
    obtain ⟨t2, rfl⟩ := r2
    exact SeqAt.EqAt.str_str _ _ _ _
  | int y =>
    cases (show u = .int y from h2)
    obtain ⟨t2, rfl⟩ := r2
    exact SeqAt.EqAt.str_int _ _ _ _
  | tup ys =>
    obtain ⟨p, us, rfl, hp, hl⟩ := (show ∃ p us, u = V.ref p ∧ H p = some (.tup us) ∧ IsL H ys us from h2)
    cases r2
    obtain ⟨its, _, q, _⟩ := I.tuple (.inl (.of hp))
    exact SeqAt.EqAt.str_tuple _ _ q hu
  | _ => simp [puD] at he
theorem eqAt_int (I : Inv X pins σ H s) {z : Int} {t : Tok} {e : D} {u : V} {b : Value} {A : Around} (he : puD e = true) (h2 : Is H e u) (r2 : RelV u b) (hu : A.units < cLine) : SeqAt.EqAt A s (.int z t) b (eqD (.int z) e) := by
  cases e with
  | str y =>
    obtain ⟨rfl, _⟩ := (show u = .str y ∧ _ from h2)
    obtain ⟨t2, rfl⟩ := r2
    exact SeqAt.EqAt.int_str _ _ _ _
  | int y =>
    cases (show u = .int y from h2)
    obtain ⟨t2, rfl⟩ := r2
    exact SeqAt.EqAt.int_int _ _ _ _
  | tup ys =>
    obtain ⟨p, us, rfl, hp, hl⟩ := (show ∃ p us, u = V.ref p ∧ H p = some (.tup us) ∧ IsL H ys us from h2)
    cases r2
    obtain ⟨its, _, q, _⟩ := I.tuple (.inl (.of hp))
    exact SeqAt.EqAt.int_tuple _ _ q hu
  | _ => simp [puD] at he
theorem puL_get : ∀ {xs : List D} {j : Nat} {x : D}, puL xs = true → xs[j]? = some x → puD x = true
  | [], _, _, _, e => by simp at e
  | y :: r, 0, x, h, e => by
    have h' : puD y = true ∧ puL r = true := by simpa [puL] using h
    have : y = x := by simpa using e
    exact this ▸ h'.1
  | y :: r, j + 1, x, h, e => by
    have h' : puD y = true ∧ puL r = true := by simpa [puL] using h
    exact puL_get h'.2 (by simpa using e)
theorem eqAt_tup (I : Inv X pins σ H s) {xs : List D} {e : D} {v u : V} {a b : Value} {A : Around} (hd : puD (.tup xs) = true) (he : puD e = true) (h1 : Is H (.tup xs) v) (h2 : Is H e u) (r1 : RelV v a) (r2 : RelV u b) (hu : A.units < cLine)
    (ih : ∀ x ∈ xs, ∀ (e : D) (v u : V) (a b : Value), puD x = true → puD e = true → Is H x v → Is H e u → RelV v a → RelV u b → SeqAt.EqAt A.in1 s a b (eqD x e)) : SeqAt.EqAt A s a b (eqD (.tup xs) e) := by
  obtain ⟨p, vs, rfl, hp, hl⟩ := (show ∃ p vs, v = V.ref p ∧ H p = some (.tup vs) ∧ IsL H xs vs from h1)
  cases r1
  obtain ⟨its, rv, q, _⟩ := I.tuple (.inl (.of hp))
  cases e with
  | str y =>
    obtain ⟨rfl, _⟩ := (show u = .str y ∧ _ from h2)
    obtain ⟨t2, rfl⟩ := r2
    exact SeqAt.EqAt.tuple_str _ _ q hu
  | int y =>
    cases (show u = .int y from h2)
    obtain ⟨t2, rfl⟩ := r2
    exact SeqAt.EqAt.tuple_int _ _ q hu
  | tup ys =>
    by_cases hv : V.ref p = u
    · have := Is.det (e := .tup ys) hd he h1 (hv ▸ h2)
      subst hv
      cases r2
      rw [← this, (eqD_iff hd).mpr rfl]
      exact SeqAt.EqAt.same _
    · obtain ⟨p', us, rfl, hp', hl'⟩ := (show ∃ p' us, u = V.ref p' ∧ H p' = some (.tup us) ∧ IsL H ys us from h2)
      cases r2
      obtain ⟨its', rv', q', _⟩ := I.tuple (.inl (.of hp'))
      have l1 : its.length = xs.length := by rw [← rv.length, hl.length]
      have l2 : its'.length = ys.length := by rw [← rv'.length, hl'.length]
      have hd' : puL xs = true := by simpa [puD] using hd
      have he' : puL ys = true := by simpa [puD] using he
      have key := SeqAt.RcAt.tuples (e := fun j => eqD (xs.getD j .non) (ys.getD j .non)) q q' hu fun j a1 a2 => by
        have j1 : j < xs.length := by rw [← l1]; simpa using a1
        have j2 : j < ys.length := by rw [← l2]; simpa using a2
        obtain ⟨v1, e1, i1⟩ := hl.get (i := j) (d := xs[j]) (by simp [j1])
        obtain ⟨v2, e2, i2⟩ := hl'.get (i := j) (d := ys[j]) (by simp [j2])
        obtain ⟨b1, f1, g1⟩ := rv.get e1
        obtain ⟨b2, f2, g2⟩ := rv'.get e2
        have k1 : its.toArray[j] = b1 := by
          have := f1
          rw [List.getElem?_eq_getElem (by rw [l1]; exact j1)] at this
          simpa using this
        have k2 : its'.toArray[j] = b2 := by
          have := f2
          rw [List.getElem?_eq_getElem (by rw [l2]; exact j2)] at this
          simpa using this
        have d1 : xs.getD j .non = xs[j] := by simp [List.getD, j1]
        have d2 : ys.getD j .non = ys[j] := by simp [List.getD, j2]
        show SeqAt.EqAt _ s _ _ (eqD (xs.getD j .non) (ys.getD j .non))
        rw [k1, k2, d1, d2]
        exact ih _ (List.getElem_mem j1) _ _ _ _ _ (puL_get (j := j) hd' (by simp [j1])) (puL_get (j := j) he' (by simp [j2])) i1 i2 g1 g2
      have e1 : eqD (.tup xs) (.tup ys) = ((List.range (min its.toArray.size its'.toArray.size)).all (fun j => eqD (xs.getD j .non) (ys.getD j .non)) && its.toArray.size == its'.toArray.size) := by
        rw [List.size_toArray, List.size_toArray, l1, l2, ← eqL_all]
        simp only [eqD]
      rw [e1]
      exact SeqAt.EqAt.of_refs (fun z => hv (by rw [z])) key
  | _ => simp [puD] at he
theorem eqAt_D (I : Inv X pins σ H s) : ∀ (n : Nat) (d e : D) (v u : V) (a b : Value) (A : Around), dp d ≤ n → puD d = true → puD e = true → Is H d v → Is H e u → RelV v a → RelV u b → A.units + n < cLine → SeqAt.EqAt A s a b (eqD d e) := by
  intro n
  induction n with
  | zero =>
    intro d e v u a b A hn hd he h1 h2 r1 r2 hu
    cases d with
    | int z =>
      cases (show v = .int z from h1)
      obtain ⟨t, rfl⟩ := r1
      exact eqAt_int I he h2 r2 hu
    | str z => simp [dp] at hn
    | tup xs => simp [dp] at hn
    | _ => simp [puD] at hd
  | succ n ih =>
    intro d e v u a b A hn hd he h1 h2 r1 r2 hu
    have hu0 : A.units < cLine := Nat.lt_of_le_of_lt (Nat.le_add_right _ _) hu
    cases d with
    | int z =>
      cases (show v = .int z from h1)
      obtain ⟨t, rfl⟩ := r1
      exact eqAt_int I he h2 r2 hu0
    | str z =>
      obtain ⟨rfl, _⟩ := (show v = .str z ∧ _ from h1)
      obtain ⟨t, rfl⟩ := r1
      exact eqAt_str I he h2 r2 hu0
    | tup xs =>
      have hm : dpL xs ≤ n := by
        have : dp (.tup xs) = 1 + dpL xs := by simp only [dp]
        omega
      exact eqAt_tup I hd he h1 h2 r1 r2 hu0 fun x hx e v u a b k1 k2 k3 k4 k5 k6 => ih x e v u a b A.in1 ((dpL_le xs).mp hm x hx) k1 k2 k3 k4 k5 k6 (by rw [Around.in1_units]; omega)
    | _ => simp [puD] at hd
end
end L2

set_option Elab.async false
set_option linter.all false
set_option maxRecDepth 100000
set_option maxHeartbeats 400000
namespace L2
open PySem PySem.Spec PyProof.Rows
section
variable {X : Cx} {pins : List (Addr × Obj)} {σ : St} {H : Hp} {s : Shared}
end
section
variable {X : Cx}
end
end L2

set_option Elab.async false
set_option linter.all false
set_option maxRecDepth 100000
set_option maxHeartbeats 400000
namespace L2
open PySem PySem.Spec PyProof.Rows
section
variable {X : Cx}
/-- texts and tuples alone, at the top -/
def trD : D → Bool
  | .str _ => true
  | .tup xs => puL xs
  | _ => false
theorem parts_eq {pins : List (Addr × Obj)} {σ : St} {H : Hp} {s : Shared} (I : Inv X pins σ H s) {A : Around} {n : Nat} {xs ys : List D} {vs us : List V} {its its' : List Value} (hn : dpL xs ≤ n) (hd : puL xs = true) (he : puL ys = true) (hl : IsL H xs vs) (hl' : IsL H ys us) (rv : Vals vs its) (rv' : Vals us its') (hu : A.units + n < cLine) :
    ∀ j (a1 : j < its.toArray.size) (a2 : j < its'.toArray.size), SeqAt.EqAt A s its.toArray[j] its'.toArray[j] (eqD (xs.getD j .non) (ys.getD j .non)) := fun j a1 a2 => by
  have l1 : its.length = xs.length := by rw [← rv.length, hl.length]
  have l2 : its'.length = ys.length := by rw [← rv'.length, hl'.length]
  have j1 : j < xs.length := by rw [← l1]; simpa using a1
  have j2 : j < ys.length := by rw [← l2]; simpa using a2
  obtain ⟨v1, e1, i1⟩ := hl.get (i := j) (d := xs[j]) (by simp [j1])
  obtain ⟨v2, e2, i2⟩ := hl'.get (i := j) (d := ys[j]) (by simp [j2])
  obtain ⟨b1, f1, g1⟩ := rv.get e1
  obtain ⟨b2, f2, g2⟩ := rv'.get e2
  have k1 : its.toArray[j] = b1 := by
    have := f1
    rw [List.getElem?_eq_getElem (by rw [l1]; exact j1)] at this
    simpa using this
  have k2 : its'.toArray[j] = b2 := by
    have := f2
    rw [List.getElem?_eq_getElem (by rw [l2]; exact j2)] at this
    simpa using this
  have d1 : xs.getD j .non = xs[j] := by simp [List.getD, j1]
  have d2 : ys.getD j .non = ys[j] := by simp [List.getD, j2]
  rw [k1, k2, d1, d2]
  exact eqAt_D I n _ _ _ _ _ _ A ((dpL_le xs).mp hn _ (List.getElem_mem j1)) (puL_get (j := j) hd (by simp [j1])) (puL_get (j := j) he (by simp [j2])) i1 i2 g1 g2 hu
/-- both of them at once: eq is ==, ne is != -/
theorem rc_D {pins : List (Addr × Obj)} {σ : St} {H : Hp} {s : Shared} (I : Inv X pins σ H s) {A : Around} {d e : D} {x y : V} {v u : Value} (h1 : Is H d x) (h2 : Is H e y) (p1 : trD d = true) (p2 : trD e = true) (hn : dp d ≤ 60) (rx : RelV x v) (ry : RelV y u) (hu : A.units + 64 < cLine) :
    SeqAt.RcAt A s v u (eqD d e) ∧ SeqAt.RcNeAt A s v u (!eqD d e) := by
  have hu0 : A.units < cLine := by omega
  cases d with
  | str z =>
    obtain ⟨rfl, _⟩ := (show x = .str z ∧ _ from h1)
    obtain ⟨t, rfl⟩ := rx
    cases e with
    | str w =>
      obtain ⟨rfl, _⟩ := (show y = .str w ∧ _ from h2)
      obtain ⟨t2, rfl⟩ := ry
      exact ⟨SeqAt.RcAt.str_str _ _ _ _, SeqAt.RcNeAt.str_str _ _ _ _⟩
    | tup ys =>
      obtain ⟨p, us, rfl, hp, hl⟩ := (show ∃ p us, y = V.ref p ∧ H p = some (.tup us) ∧ IsL H ys us from h2)
      cases ry
      obtain ⟨its, _, q, _⟩ := I.tuple (.inl (.of hp))
      exact ⟨SeqAt.RcAt.str_tuple _ _ q hu0, SeqAt.RcNeAt.str_tuple _ _ q hu0⟩
    | _ => simp [trD] at p2
  | tup xs =>
    obtain ⟨p, vs, rfl, hp, hl⟩ := (show ∃ p vs, x = V.ref p ∧ H p = some (.tup vs) ∧ IsL H xs vs from h1)
    cases rx
    obtain ⟨its, rv, q, _⟩ := I.tuple (.inl (.of hp))
    cases e with
    | str w =>
      obtain ⟨rfl, _⟩ := (show y = .str w ∧ _ from h2)
      obtain ⟨t2, rfl⟩ := ry
      exact ⟨SeqAt.RcAt.tuple_str _ _ q hu0, SeqAt.RcNeAt.tuple_str _ _ q hu0⟩
    | tup ys =>
      obtain ⟨p', us, rfl, hp', hl'⟩ := (show ∃ p' us, y = V.ref p' ∧ H p' = some (.tup us) ∧ IsL H ys us from h2)
      cases ry
      obtain ⟨its', rv', q', _⟩ := I.tuple (.inl (.of hp'))
      have hm : dpL xs ≤ 60 := by
        have : dp (.tup xs) = 1 + dpL xs := by simp only [dp]
        omega
      have l1 : its.length = xs.length := by rw [← rv.length, hl.length]
      have l2 : its'.length = ys.length := by rw [← rv'.length, hl'.length]
      have pe := parts_eq I (A := A.in1) hm (by simpa [trD] using p1) (by simpa [trD] using p2) hl hl' rv rv' (by rw [Around.in1_units]; omega)
      have e1 : eqD (.tup xs) (.tup ys) = ((List.range (min its.toArray.size its'.toArray.size)).all (fun j => eqD (xs.getD j .non) (ys.getD j .non)) && its.toArray.size == its'.toArray.size) := by
        rw [List.size_toArray, List.size_toArray, l1, l2, ← eqL_all]
        simp only [eqD]
      rw [e1]
      exact ⟨SeqAt.RcAt.tuples q q' hu0 pe, SeqAt.RcNeAt.tuples q q' hu0 pe⟩
    | _ => simp [trD] at p2
  | _ => simp [trD] at p1
/-- d == e, d != e, deep -/
def rCmpD (g : Bool → Bool) : V → V → Hp → VK → Prop := fun x y H Q => ∃ d e : D, Is H d x ∧ Is H e y ∧ trD d = true ∧ trD e = true ∧ dp d ≤ 60 ∧ Q (.bl (g (eqD d e))) H
theorem op_neD (hu : X.A.units + 64 < cLine) : OpR X (compareOp .NotEq) (rCmpD not) := by
  intro pins s σ H x y v u Q I rx ry h
  obtain ⟨d, e, h1, h2, p1, p2, hn, q⟩ := h
  exact (rc_D I h1 h2 p1 p2 hn rx ry hu).2 X.prog X.w X.xe _ ⟨.bl _, H, I, rfl, q⟩
/-- o.replace(y, z), y and z written there -/
def tRepl (y z : Str) (to : TE) : TE := fun σ H Q => to σ H fun x H1 => ∃ w : Str, x = .str w ∧ w.length ≤ 1000000 ∧ Q (.str (Txt.replace w y z)) H1
theorem pe_repl {o : Expr} {to : TE} {y z : Str} {j1 j2 : Nat} {p1 p2 apos cpos : Pos} (ho : PE X o to) (hyz : (y == z) = false) (hz : z.length ≤ 14)
    (hbase : attributeBase o "replace" X.env (eval o X.env) = eval o X.env := by rfl)
    (hfew : ((backTo cpos (starEach [.Constant (.str y) j1 p1, .Constant (.str z) j2 p2] X.env)).all (fun x => !x.1) && (backToKw cpos (keywordEach [] X.env)).all (fun x => x.1.isSome)
      && decide (([.Constant (.str y) j1 p1, .Constant (.str z) j2 p2] : List Expr).length + ([] : List Keyword).length + (if ([] : List Keyword).isEmpty then 0 else 1) < 30)) = true := by rfl)
    (hline : (apos.endLine == cpos.line) = true := by rfl) :
    PE X (.Call (.Attribute o "replace" apos) [.Constant (.str y) j1 p1, .Constant (.str z) j2 p2] [] cpos) (tRepl y z to) := by
  intro pins s σ H Q I h
  refine wpAny_Call_method_late hbase hfew hline rfl (thn (ho pins s σ H _ I h) fun v s1 ⟨x, H1, I1, r1, w, hx, hw, q⟩ => ?_)
  subst hx
  obtain ⟨h1, h2⟩ := tyV_is (T := "str") I1 r1 rfl
  refine ⟨"str", "str.replace", PySem.F.plainAttrs_str, PySem.F.slot_str_replace, PySem.F.type_str_replace, h1, h2, ?_⟩
  obtain ⟨t, rfl⟩ := r1
  refine Calls.callWith_builtin rfl (Calls.evalArgs_plain ?_)
  refine Calls.spliced_cons (Calls.Constant_str (k := j1) (pos := p1) ?_)
  refine Calls.spliced_cons (Calls.Constant_str (k := j2) (pos := p2) ?_)
  refine Calls.spliced_nil ?_
  have htk := I1.tk
  refine wpAny_with_toks (n := 1) (show 1 ≤ s1.toks + 1 + 1 by omega) (SC.replaceW (s := { s1 with toks := s1.toks + 1 + 1 }) (Nat.ne_of_gt htk) (Nat.succ_ne_zero _) (Nat.ne_of_lt (Nat.lt_succ_self _)) hyz (by omega) hz fun t' k hk => ?_)
  exact ⟨.str (Txt.replace w y z), H1, I1.tok k, ⟨t', rfl⟩, q⟩
/-- f"a{e}b" -/
def tFs (a b : Str) (te : TE) : TE := fun σ H Q => te σ H fun x H1 => ∃ w : Str, x = .str w ∧ a.length + w.length + b.length ≤ 1000000 ∧ Q (.str (a ++ w ++ b)) H1
theorem pe_fs {e : Expr} {te : TE} {a b : Str} {j1 j2 : Nat} {p1 p2 p3 pos : Pos} (he : PE X e te) (ha : a.length ≤ 1000) : PE X (.JoinedStr [.Constant (.str a) j1 p1, .FormattedValue e (-1) none p2, .Constant (.str b) j2 p3] pos) (tFs a b te) := by
  intro pins s σ H Q I h
  have hs := sizeLine_eq
  refine wpAny_JoinedStr ?_
  refine Calls.Constant_str (k := j1) (pos := p1) ⟨a, _, rfl, ?_, ?_⟩
  · rw [Str.empty_append, hs]; omega
  · refine wpAny_FormattedValue_plain (thn (he pins _ σ H _ (I.tok _) h) fun v s1 ⟨x, H1, I1, r1, w, hx, hw, q⟩ => ?_)
    subst hx
    obtain ⟨t, rfl⟩ := r1
    have l2 : (Str.empty ++ a ++ w).length ≤ sizeLine := by rw [Str.empty_append, strLen_append, hs]; omega
    have l3 : (Str.empty ++ a ++ w ++ b).length ≤ sizeLine := by rw [Str.empty_append, strLen_append, strLen_append, hs]; omega
    have fin : ∀ s2 : Shared, Inv X pins σ H1 s2 → Joins (model X.prog X.w) X.A X.xe [eval (.Constant (.str b) j2 p3) X.env] (Str.empty ++ a ++ w) (fun out s₁ => out.length ≤ sizeLine ∧ EP X pins σ Q (.str out s₁.toks) { s₁ with toks := s₁.toks + 1 }) s2 := fun s2 I2 => by
      refine Calls.Constant_str (k := j2) (pos := p3) ⟨b, _, rfl, l3, l3, ⟨.str (a ++ w ++ b), H1, ?_, ⟨_, by rw [Str.empty_append]⟩, q⟩⟩
      exact I2.tok _
    exact wpAny_formatField_str ⟨w, _, rfl, l2, fin s1 I1⟩ ⟨w, _, rfl, l2, fin _ (I1.tok _)⟩ (by rw [hs]; omega)
end
end L2

set_option Elab.async false
set_option linter.all false
set_option maxRecDepth 100000
set_option maxHeartbeats 400000
namespace L2
open PySem PySem.Spec PyProof.Rows
section
variable {X : Cx}
end
end L2

set_option Elab.async false
set_option linter.all false
set_option maxRecDepth 100000
set_option maxHeartbeats 4000000
namespace L2
open PySem PySem.Spec PyProof.Rows
/-- len of a text, list or tuple; it has its bound -/
theorem call_lenZ {X : Cx} : CallR X (.builtin "len") (fun xs H Q => (∃ z : Str, xs = [.str z] ∧ z.length ≤ sizeLine ∧ Q (.int z.length) H) ∨ ∃ p ys, xs = [.ref p] ∧ (SqL X.K H p ys ∨ SqT X.K H p ys) ∧ (ys.length ≤ sizeLine → Q (.int ys.length) H)) := by
  intro pins s σ H xs us Q I r h
  rcases h with ⟨z, e, hz, q⟩ | h
  · exact call_len pins s σ H xs us Q I r ⟨_, z.length, e, ⟨hz, rfl⟩, q⟩
  · exact call_lenB pins s σ H xs us Q I r h
end L2

set_option Elab.async false
set_option linter.all false
set_option maxRecDepth 100000
set_option maxHeartbeats 4000000
namespace L2
open PySem PySem.Spec PyProof.Rows
end L2

set_option Elab.async false
set_option linter.all false
set_option maxRecDepth 100000
set_option maxHeartbeats 4000000
namespace L2
open PySem PySem.Spec PyProof.Rows
/-- what a call raises goes on through the frame that called -/
theorem pass1 {P : Program} {w : World} {K : PySem.W.Frag} {mg : Str → Option Value} {base : Heap} {N : List Str} {qual : Str} {scope : Scope} {f : Addr} {cd : Value} {A : Around} {outer : List Env} {s₀ : Shared} {H₀ : Hp} {E : XK} :
    Passes (CX1 P w) (cxOf (CX1 P w) P w K mg base N qual scope f cd A outer s₀ H₀ E) E := by
  intro pins σ H s e s' I h
  obtain ⟨ea, C, a0, H', B, rfl, hos, hbare, htk, hun, hokB, hfly, hold, hE⟩ := h
  show wpAny (model P w) (A.deeper (envOfC qual scope s₀.heap.objs.size f cd)) (leaving (envOfC qual scope s₀.heap.objs.size f cd) (.ref ea)) (fun _ s'' => CX1 P w outer H₀ s₀ E (.ref ea) s'') (fun e' s'' => CX1 P w outer H₀ s₀ E e' s'') _
  have hfr : (A.deeper (envOfC qual scope s₀.heap.objs.size f cd)).frames = some (envOfC qual scope s₀.heap.objs.size f cd :: outer) := I.ok.frames
  have hfe : frs (envOfC qual scope s₀.heap.objs.size f cd :: outer) = s₀.heap.objs.size :: frs outer := rfl
  have hbase : Un (frs outer) [] H₀ H s₀.heap s.heap := I.base
  have hun' : Un (frs (envOfC qual scope s₀.heap.objs.size f cd :: outer)) [] H H' s.heap s'.heap := hun
  have hfly' : Heap.FlyingW B (envOfC qual scope s₀.heap.objs.size f cd :: outer) ea (.ref C) a0 s'.heap := hfly
  have hold' : ∀ b o, s.heap.get? b = some o → b ∉ frs (envOfC qual scope s₀.heap.objs.size f cd :: outer) → ∃ o', B.get? b = some o' := hold
  have hst := hfly'.2.2.1
  have notin : ∀ b o, s₀.heap.get? b = some o → b ∉ frs outer → b ∉ frs (envOfC qual scope s₀.heap.objs.size f cd :: outer) := fun b o e hb hm => by
    rw [hfe] at hm
    rcases List.mem_cons.mp hm with rfl | hm
    · exact absurd (Heap.lt_size e) (Nat.lt_irrefl _)
    · exact hb hm
  have nd : ∀ b ∈ frs outer, ∀ o, s'.heap.get? b = some o → ∀ vs, o.data ≠ .fields vs := fun b hb o e => by
    obtain ⟨_, o', e', hn⟩ := hst.mem (show b ∈ (envOfC qual scope s₀.heap.objs.size f cd :: outer).filterMap (·.frame) from by rw [show (envOfC qual scope s₀.heap.objs.size f cd :: outer).filterMap (·.frame) = frs (envOfC qual scope s₀.heap.objs.size f cd :: outer) from rfl, hfe]; exact List.mem_cons_of_mem _ hb)
    rw [e] at e'
    cases e'
    exact hn
  refine wpAny_leaves_onW (base := B) (L := s₀.heap.objs.size) hfr rfl hfly' fun h'' hf2 hup => ?_
  have inB : ∀ b o o', B.get? b = some o' → s'.heap.get? b = some o → h''.get? b = some o := fun b o o' e1 e2 => by
    have := hfly'.1 b o' e1
    rw [e2] at this
    cases this
    exact hf2.1 b o e1
  refine ⟨ea, C, a0, H', B, rfl, hos.trans I.os, hbare, htk, ⟨?_, ?_, ?_, ?_, ?_, ?_, ?_⟩, hokB, hf2, ?_, hE⟩
  · intro b o e1 hn hb hx
    have e2 := hbase.keep b o e1 hn hb hx
    have hn2 := hbase.free b o e1 hn hx
    have hb2 := notin b o e1 hb
    have e3 := hun'.keep b o e2 hn2 hb2 hx
    obtain ⟨o', e4⟩ := hold' b o e2 hb2
    exact inB b o o' e4 e3
  · intro b o e1 hn hb hx
    obtain ⟨sl, e2⟩ := hbase.slot b o e1 hn hb hx
    have hn2 := hbase.free b o e1 hn hx
    obtain ⟨sl2, e3⟩ := hun'.slot b _ e2 hn2 (by rw [hfe]; exact List.mem_cons_of_mem _ hb) hx
    obtain ⟨sl3, e4⟩ := hup b _ e3 (nd b hb _ e3)
    exact ⟨sl3, e4⟩
  · intro b o e1 hn hx
    obtain ⟨o', e2⟩ := hbase.there b o e1 hx
    exact hun'.free b o' e2 (hbase.free b o e1 hn hx) hx
  · intro b o e1 hx
    obtain ⟨o', e2⟩ := hbase.there b o e1 hx
    by_cases hb : b ∈ frs outer
    · obtain ⟨o2, e3⟩ := hun'.there b o' e2 hx
      obtain ⟨sl3, e4⟩ := hup b _ e3 (nd b hb _ e3)
      exact ⟨_, e4⟩
    · obtain ⟨o2, e3⟩ := hold' b o' e2 (notin b o e1 hb)
      exact ⟨o2, hf2.1 b o2 e3⟩
  · exact fun b xs e => hun'.tups b xs (hbase.tups b xs e)
  · exact fun b o u e => hun'.frzs b o u (hbase.frzs b o u e)
  · intro b ps e
    obtain ⟨m1, e1⟩ := hbase.tbls b ps e
    obtain ⟨m2, e2⟩ := hun'.tbls b _ e1
    exact ⟨m1 ++ m2, by rw [← Array.append_assoc]; exact e2⟩
  · intro b o e1 hb
    obtain ⟨o', e2⟩ := hbase.there b o e1 (by simp)
    exact hold' b o' e2 (notin b o e1 hb)
end L2

set_option Elab.async false
set_option linter.all false
set_option maxRecDepth 100000
set_option maxHeartbeats 4000000
namespace L2
open PySem PySem.Spec PyProof.Rows
/-- a call that may raise, where it does not -/
theorem passF {X : Cx} : Passes (CX1 X.prog X.w) X E0 := fun _ _ _ _ _ _ _ h => by
  obtain ⟨_, _, _, _, _, _, _, _, _, _, _, _, _, z⟩ := h
  exact False.elim z
/-- [] != [] -/
def rNeE (K : PySem.W.Frag) : R2 := fun x y H Q => ∃ a b : Addr, x = .ref a ∧ y = .ref b ∧ SqL K H a [] ∧ SqL K H b [] ∧ Q (.bl false) H
theorem op_neE {X : Cx} (hu : X.A.units < cLine) : OpR X (compareOp .NotEq) (rNeE X.K) := by
  intro pins s σ H x y v u Q I rx ry h
  obtain ⟨a, b, rfl, rfl, ha, hb, q⟩ := h
  cases rx
  cases ry
  obtain ⟨its, r, p, _⟩ := I.list ha
  obtain ⟨its2, r2, p2, _⟩ := I.list hb
  cases r
  cases r2
  exact (SeqAt.RcNeAt.lists (e := fun _ => true) p.isList p2.isList rfl hu fun j h1 _ => absurd h1 (Nat.not_lt_zero _)) X.prog X.w X.xe _ ⟨.bl false, H, I, rfl, q⟩
end L2

set_option Elab.async false
set_option linter.all false
set_option maxRecDepth 100000
set_option maxHeartbeats 4000000
namespace K03
open PySem L2 PyProof.Rows
def top (i : Nat) : Stmt := PySem.Challenge.pw_askwright_k03_trees_written_and_read.main.body.getD i (.Pass ⟨0, 0, 0, 0⟩)
abbrev s_is_text : Stmt := top 14
abbrev s_is_tree : Stmt := top 15
abbrev s_tree_text : Stmt := top 16
abbrev s_read_tree : Stmt := top 17
abbrev s_tree_at : Stmt := top 18
abbrev s_words_at : Stmt := top 19
abbrev s_row_at : Stmt := top 20
abbrev s_law_pot : Stmt := top 22
abbrev s_law_take : Stmt := top 23
abbrev s_law_signs : Stmt := top 24
abbrev s_law_text : Stmt := top 25
abbrev s_law_tree : Stmt := top 26
abbrev s_law_measure : Stmt := top 27
abbrev s_law_is_tree : Stmt := top 28
abbrev s_law_good_tree : Stmt := top 29
abbrev s_law_written : Stmt := top 30
abbrev s_law_text_in : Stmt := top 31
abbrev s_law_tree_in : Stmt := top 32
abbrev s_law_due : Stmt := top 33
abbrev s_law_changed : Stmt := top 34
abbrev s_law_read : Stmt := top 35
abbrev s_law : Stmt := top 36
structure Ad where
  f_is_text : Addr
  d_is_text : FuncData
  f_is_tree : Addr
  d_is_tree : FuncData
  f_tree_text : Addr
  d_tree_text : FuncData
  f_read_tree : Addr
  d_read_tree : FuncData
  f_tree_at : Addr
  d_tree_at : FuncData
  f_words_at : Addr
  d_words_at : FuncData
  f_row_at : Addr
  d_row_at : FuncData
  f_law_pot : Addr
  d_law_pot : FuncData
  f_law_take : Addr
  d_law_take : FuncData
  f_law_signs : Addr
  d_law_signs : FuncData
  f_law_text : Addr
  d_law_text : FuncData
  f_law_tree : Addr
  d_law_tree : FuncData
  f_law_measure : Addr
  d_law_measure : FuncData
  f_law_is_tree : Addr
  d_law_is_tree : FuncData
  f_law_good_tree : Addr
  d_law_good_tree : FuncData
  f_law_written : Addr
  d_law_written : FuncData
  f_law_text_in : Addr
  d_law_text_in : FuncData
  f_law_tree_in : Addr
  d_law_tree_in : FuncData
  f_law_due : Addr
  d_law_due : FuncData
  f_law_changed : Addr
  d_law_changed : FuncData
  f_law_read : Addr
  d_law_read : FuncData
  f_law : Addr
  d_law : FuncData
structure Tx (K : PySem.W.Frag) (mg : Str → Option Value) (a : Ad) : Prop where
  F_is_text : Fun K "is_text" "is_text" s_is_text a.f_is_text a.d_is_text
  b_is_text : Binds K a.d_is_text ["value"] []
  m_is_text : mg "is_text" = some (.ref a.f_is_text)
  F_is_tree : Fun K "is_tree" "is_tree" s_is_tree a.f_is_tree a.d_is_tree
  b_is_tree : Binds K a.d_is_tree ["value"] []
  m_is_tree : mg "is_tree" = some (.ref a.f_is_tree)
  F_tree_text : Fun K "tree_text" "tree_text" s_tree_text a.f_tree_text a.d_tree_text
  b_tree_text : Binds K a.d_tree_text ["tree"] []
  m_tree_text : mg "tree_text" = some (.ref a.f_tree_text)
  F_read_tree : Fun K "read_tree" "read_tree" s_read_tree a.f_read_tree a.d_read_tree
  b_read_tree : Binds K a.d_read_tree ["text"] []
  m_read_tree : mg "read_tree" = some (.ref a.f_read_tree)
  F_tree_at : Fun K "tree_at" "tree_at" s_tree_at a.f_tree_at a.d_tree_at
  b_tree_at : Binds K a.d_tree_at ["text", "place", "depth"] []
  m_tree_at : mg "tree_at" = some (.ref a.f_tree_at)
  F_words_at : Fun K "words_at" "words_at" s_words_at a.f_words_at a.d_words_at
  b_words_at : Binds K a.d_words_at ["text", "place"] []
  m_words_at : mg "words_at" = some (.ref a.f_words_at)
  F_row_at : Fun K "row_at" "row_at" s_row_at a.f_row_at a.d_row_at
  b_row_at : Binds K a.d_row_at ["text", "place", "depth"] []
  m_row_at : mg "row_at" = some (.ref a.f_row_at)
  F_law_pot : Fun K "_law_pot" "_law_pot" s_law_pot a.f_law_pot a.d_law_pot
  b_law_pot : Binds K a.d_law_pot ["cell", "salt"] []
  m_law_pot : mg "_law_pot" = some (.ref a.f_law_pot)
  F_law_take : Fun K "_law_take" "_law_take" s_law_take a.f_law_take a.d_law_take
  b_law_take : Binds K a.d_law_take ["pot", "many"] []
  m_law_take : mg "_law_take" = some (.ref a.f_law_take)
  F_law_signs : Fun K "_law_signs" "_law_signs" s_law_signs a.f_law_signs a.d_law_signs
  b_law_signs : Binds K a.d_law_signs [] []
  m_law_signs : mg "_law_signs" = some (.ref a.f_law_signs)
  F_law_text : Fun K "_law_text" "_law_text" s_law_text a.f_law_text a.d_law_text
  b_law_text : Binds K a.d_law_text ["pot"] []
  m_law_text : mg "_law_text" = some (.ref a.f_law_text)
  F_law_tree : Fun K "_law_tree" "_law_tree" s_law_tree a.f_law_tree a.d_law_tree
  b_law_tree : Binds K a.d_law_tree ["pot", "deep"] []
  m_law_tree : mg "_law_tree" = some (.ref a.f_law_tree)
  F_law_measure : Fun K "_law_measure" "_law_measure" s_law_measure a.f_law_measure a.d_law_measure
  b_law_measure : Binds K a.d_law_measure ["value"] []
  m_law_measure : mg "_law_measure" = some (.ref a.f_law_measure)
  F_law_is_tree : Fun K "_law_is_tree" "_law_is_tree" s_law_is_tree a.f_law_is_tree a.d_law_is_tree
  b_law_is_tree : Binds K a.d_law_is_tree ["value"] []
  m_law_is_tree : mg "_law_is_tree" = some (.ref a.f_law_is_tree)
  F_law_good_tree : Fun K "_law_good_tree" "_law_good_tree" s_law_good_tree a.f_law_good_tree a.d_law_good_tree
  b_law_good_tree : Binds K a.d_law_good_tree ["pot"] []
  m_law_good_tree : mg "_law_good_tree" = some (.ref a.f_law_good_tree)
  F_law_written : Fun K "_law_written" "_law_written" s_law_written a.f_law_written a.d_law_written
  b_law_written : Binds K a.d_law_written ["tree"] []
  m_law_written : mg "_law_written" = some (.ref a.f_law_written)
  F_law_text_in : Fun K "_law_text_in" "_law_text_in" s_law_text_in a.f_law_text_in a.d_law_text_in
  b_law_text_in : Binds K a.d_law_text_in ["text", "spot"] []
  m_law_text_in : mg "_law_text_in" = some (.ref a.f_law_text_in)
  F_law_tree_in : Fun K "_law_tree_in" "_law_tree_in" s_law_tree_in a.f_law_tree_in a.d_law_tree_in
  b_law_tree_in : Binds K a.d_law_tree_in ["text", "spot"] []
  m_law_tree_in : mg "_law_tree_in" = some (.ref a.f_law_tree_in)
  F_law_due : Fun K "_law_due" "_law_due" s_law_due a.f_law_due a.d_law_due
  b_law_due : Binds K a.d_law_due ["text"] []
  m_law_due : mg "_law_due" = some (.ref a.f_law_due)
  F_law_changed : Fun K "_law_changed" "_law_changed" s_law_changed a.f_law_changed a.d_law_changed
  b_law_changed : Binds K a.d_law_changed ["text", "pot"] []
  m_law_changed : mg "_law_changed" = some (.ref a.f_law_changed)
  F_law_read : Fun K "_law_read" "_law_read" s_law_read a.f_law_read a.d_law_read
  b_law_read : Binds K a.d_law_read ["text"] []
  m_law_read : mg "_law_read" = some (.ref a.f_law_read)
  F_law : Fun K "law" "law" s_law a.f_law a.d_law
  b_law : Binds K a.d_law ["script"] []
  m_law : mg "law" = some (.ref a.f_law)
  e_law : ∀ (s : Shared) (u : Value), BindsTo s a.d_law ⟨[u], []⟩ [("script", u)]
  m_MOST_SIGNS : ∃ t, mg "MOST_SIGNS" = some (.int 300 t)
  m_MOST_PARTS : ∃ t, mg "MOST_PARTS" = some (.int 40 t)
  m_MOST_SIZE : ∃ t, mg "MOST_SIZE" = some (.int 600 t)
  m_MOST_DEPTH : ∃ t, mg "MOST_DEPTH" = some (.int 12 t)
  m_PERCENT : ∃ t, mg "PERCENT" = some (.int 37 t)
  z_ord : mg "ord" = none
  z_len : mg "len" = none
  z_isinstance : mg "isinstance" = none
  z_str : mg "str" = none
  z_tuple : mg "tuple" = none
  z_abs : mg "abs" = none
  z_range : mg "range" = none
  z_max : mg "max" = none
  z_sum : mg "sum" = none
  z_all : mg "all" = none
  z_int : mg "int" = none
  z_ValueError : mg "ValueError" = none
  z_list : mg "list" = none
theorem sc_is_text : FnScope ["value", "sign"] ["value"] (defScope s_is_text) := ⟨rfl, rfl, rfl, by decide +kernel, rfl, by decide +kernel, by decide +kernel⟩
theorem sc_is_tree : FnScope ["value", "size", "waiting", "pair", "part", "depth"] ["value"] (defScope s_is_tree) := ⟨rfl, rfl, rfl, by decide +kernel, rfl, by decide +kernel, by decide +kernel⟩
theorem sc_tree_text : FnScope ["tree", "parts", "signs"] ["tree"] (defScope s_tree_text) := ⟨rfl, rfl, rfl, by decide +kernel, rfl, by decide +kernel, by decide +kernel⟩
theorem sc_read_tree : FnScope ["text", "got"] ["text"] (defScope s_read_tree) := ⟨rfl, rfl, rfl, by decide +kernel, rfl, by decide +kernel, by decide +kernel⟩
theorem sc_tree_at : FnScope ["text", "place", "depth", "sign"] ["text", "place", "depth"] (defScope s_tree_at) := ⟨rfl, rfl, rfl, by decide +kernel, rfl, by decide +kernel, by decide +kernel⟩
theorem sc_words_at : FnScope ["text", "place", "signs"] ["text", "place"] (defScope s_words_at) := ⟨rfl, rfl, rfl, by decide +kernel, rfl, by decide +kernel, by decide +kernel⟩
theorem sc_row_at : FnScope ["text", "place", "depth", "parts", "got"] ["text", "place", "depth"] (defScope s_row_at) := ⟨rfl, rfl, rfl, by decide +kernel, rfl, by decide +kernel, by decide +kernel⟩
theorem sc_law_pot : FnScope ["cell", "salt"] ["cell", "salt"] (defScope s_law_pot) := ⟨rfl, rfl, rfl, by decide +kernel, rfl, by decide +kernel, by decide +kernel⟩
theorem sc_law_take : FnScope ["pot", "many", "digit"] ["pot", "many"] (defScope s_law_take) := ⟨rfl, rfl, rfl, by decide +kernel, rfl, by decide +kernel, by decide +kernel⟩
theorem sc_law_signs : FnScope ["some"] [] (defScope s_law_signs) := ⟨rfl, rfl, rfl, by decide +kernel, rfl, by decide +kernel, by decide +kernel⟩
theorem sc_law_text : FnScope ["pot", "signs", "text", "k"] ["pot"] (defScope s_law_text) := ⟨rfl, rfl, rfl, by decide +kernel, rfl, by decide +kernel, by decide +kernel⟩
theorem sc_law_tree : FnScope ["pot", "deep", "kind", "tree", "k"] ["pot", "deep"] (defScope s_law_tree) := ⟨rfl, rfl, rfl, by decide +kernel, rfl, by decide +kernel, by decide +kernel⟩
theorem sc_law_measure : FnScope ["value", "signs", "parts", "good"] ["value"] (defScope s_law_measure) := ⟨rfl, rfl, rfl, by decide +kernel, rfl, by decide +kernel, by decide +kernel⟩
theorem sc_law_is_tree : FnScope ["value", "good", "size", "deep"] ["value"] (defScope s_law_is_tree) := ⟨rfl, rfl, rfl, by decide +kernel, rfl, by decide +kernel, by decide +kernel⟩
theorem sc_law_good_tree : FnScope ["pot", "tree"] ["pot"] (defScope s_law_good_tree) := ⟨rfl, rfl, rfl, by decide +kernel, rfl, by decide +kernel, by decide +kernel⟩
theorem sc_law_written : FnScope ["tree", "text", "sign"] ["tree"] (defScope s_law_written) := ⟨rfl, rfl, rfl, by decide +kernel, rfl, by decide +kernel, by decide +kernel⟩
theorem sc_law_text_in : FnScope ["text", "spot", "found", "sign"] ["text", "spot"] (defScope s_law_text_in) := ⟨rfl, rfl, rfl, by decide +kernel, rfl, by decide +kernel, by decide +kernel⟩
theorem sc_law_tree_in : FnScope ["text", "spot", "sign", "parts", "part"] ["text", "spot"] (defScope s_law_tree_in) := ⟨rfl, rfl, rfl, by decide +kernel, rfl, by decide +kernel, by decide +kernel⟩
theorem sc_law_due : FnScope ["text", "spot", "tree"] ["text"] (defScope s_law_due) := ⟨rfl, rfl, rfl, by decide +kernel, rfl, by decide +kernel, by decide +kernel⟩
theorem sc_law_changed : FnScope ["text", "pot", "k", "at", "way", "sign"] ["text", "pot"] (defScope s_law_changed) := ⟨rfl, rfl, rfl, by decide +kernel, rfl, by decide +kernel, by decide +kernel⟩
theorem sc_law_read : FnScope ["text", "found", "error", "e", "others"] ["text"] (defScope s_law_read) := ⟨rfl, rfl, rfl, by decide +kernel, rfl, by decide +kernel, by decide +kernel⟩
theorem sc_law : FnScope ["script", "cell", "pot", "tree", "text", "turn", "other", "due", "found", "deep"] ["script"] (defScope s_law) := ⟨rfl, rfl, rfl, by decide +kernel, rfl, by decide +kernel, by decide +kernel⟩
/-- the classes of the refusals -/
structure Ga where
  (bad wr xBadKeep xBadName xBadRule xBadText xBadThing : Addr)
structure Fx (K : PySem.W.Frag) (mg : Str → Option Value) (g : Ga) : Prop where
  m_BadTree : mg "BadTree" = some (.ref g.bad)
  x_BadTree : PySem.W.excIn K g.bad VE "ValueError.__new__" = true
  m_WrightError : mg "WrightError" = some (.ref g.wr)
  e_BadTree : PySem.W.exmOne K (.ref g.bad) (.ref g.wr) = some true
  m_BadKeep : mg "BadKeep" = some (.ref g.xBadKeep)
  m_BadName : mg "BadName" = some (.ref g.xBadName)
  m_BadRule : mg "BadRule" = some (.ref g.xBadRule)
  m_BadText : mg "BadText" = some (.ref g.xBadText)
  m_BadThing : mg "BadThing" = some (.ref g.xBadThing)
  xc : AwV.ExcCls K g.bad
  k_ve : PySem.W.kitOne K (.ref g.bad) (.type "ValueError") = some true
  k_t1 : PySem.W.kitAny K (.ref g.bad) ([g.xBadKeep, g.xBadName, g.xBadRule, g.xBadText, g.xBadThing].map Value.ref) = some false
/-! ### what the defs promise -/
def SGN : Str := ((("abcdefghijklmnopqrstuvwxyzABCDEFGHIJKLMNOPQRSTUVWXYZ0123456789" ++ " !#$&'()*+,-./:;<=>?\x40[]^_") ++ "`{|}~") ++ "\"") ++ "\\"
def PotAt (H : Hp) (p : Addr) : Prop := ∃ x y : Int, H p = some (.lst [.int x, .int y]) ∧ 0 ≤ x ∧ 0 ≤ y ∧ y < 2147483648
theorem PotAt.same {H H' : Hp} {p : Addr} (h : PotAt H p) (s : Same H H') : PotAt H' p := by
  obtain ⟨x, y, e, r⟩ := h
  exact ⟨x, y, s _ _ e, r⟩
theorem PotAt.free {H : Hp} {p l : Addr} (h : PotAt H p) (n : H l = none) : p ≠ l := by
  obtain ⟨x, y, e, r⟩ := h
  exact ne_of_none e n
theorem PotAt.tk {H H' : Hp} {p : Addr} (h : PotAt H p) (h' : PotAt H' p) (k : Kept p H H') : Tk H H' := by
  obtain ⟨x, y, e, _⟩ := h
  obtain ⟨x', y', e', _⟩ := h'
  exact k.tk e e'
def sp_take : Sp := fun vs H Q _ => ∃ (p : Addr) (many : Int), vs = [.ref p, .int many] ∧ PotAt H p ∧ 0 < many ∧ many < 1073741824 ∧ ∀ (d : Int) (H' : Hp), 0 ≤ d → d < many → PotAt H' p → Kept p H H' → Q (.int d) H'
def sp_pot : Sp := fun vs H Q _ => ∃ (c t : Int), vs = [.int c, .int t] ∧ 0 ≤ t ∧ t < 1000 ∧ ∀ (p : Addr) (H' : Hp), H p = none → Same H H' → PotAt H' p → Q (.ref p) H'
def sp_signs : Sp := fun vs H Q _ => vs = [] ∧ Q (.str SGN) H
def okAll (z : Str) : Bool := z.cps.toList.all okSign
theorem okAll_app {z y : Str} (h : okAll z = true) (k : okAll y = true) : okAll (z ++ y) = true := by
  unfold okAll at *
  show (z.cps ++ y.cps).toList.all okSign = true
  rw [Array.toList_append, List.all_append, h, k]; rfl
/-- how many brackets open in a text -/
def br (z : Str) : Nat := z.cps.toList.count 40
theorem br_app (z y : Str) : br (z ++ y) = br z + br y := by
  unfold br
  show (z.cps ++ y.cps).toList.count 40 = _
  rw [Array.toList_append, List.count_append]
theorem br_len (z : Str) : br z ≤ z.length := by
  unfold br
  refine Nat.le_trans List.count_le_length ?_
  show z.cps.toList.length ≤ z.cps.size
  simp
theorem joined_br (xs : Array Nat) (hx : xs.toList.count 40 = 0) : ∀ (k : Nat) (acc : Array Nat), acc.toList.count 40 = 0 → ((List.replicate k xs).foldl (· ++ ·) acc).toList.count 40 = 0
  | 0, acc, h => h
  | k + 1, acc, h => by
    rw [List.replicate_succ, List.foldl_cons]
    exact joined_br xs hx k _ (by rw [Array.toList_append, List.count_append, h, hx])
theorem br_mul {z : Str} {n : Int} (h : br z = 0) : br (Txt.mul z n) = 0 := by
  unfold Txt.mul
  split
  · rfl
  · split
    · exact h
    · exact joined_br _ h _ _ rfl
theorem joined_all (xs : Array Nat) (hx : xs.toList.all okSign = true) : ∀ (k : Nat) (acc : Array Nat), acc.toList.all okSign = true → ((List.replicate k xs).foldl (· ++ ·) acc).toList.all okSign = true
  | 0, acc, h => h
  | k + 1, acc, h => by
    rw [List.replicate_succ, List.foldl_cons]
    exact joined_all xs hx k _ (by rw [Array.toList_append, List.all_append, h, hx]; rfl)
theorem okAll_mul {z : Str} {n : Int} (h : okAll z = true) : okAll (Txt.mul z n) = true := by
  unfold Txt.mul
  split
  · rfl
  · split
    · exact h
    · exact joined_all _ h _ _ rfl
theorem atI_mem {α : Type} {xs : List α} {i : Int} {c : α} (h : atI xs i = some c) : c ∈ xs := by
  unfold atI at h
  obtain ⟨j, _, e⟩ := Option.bind_eq_some_iff.mp h
  exact List.mem_of_getElem? e
def sp_text : Sp := fun vs H Q _ => ∃ p, vs = [.ref p] ∧ PotAt H p ∧ ∀ (z : Str) (H' : Hp), z.length ≤ 20000 → okAll z = true → br z ≤ 4 → PotAt H' p → Kept p H H' → Q (.str z) H'
theorem small {n : Nat} (h : n ≤ 1000) : n ≤ sizeLine := Nat.le_of_lt (small1000 h)
theorem fits {n : Nat} (h : n ≤ 16000000) : n ≤ sizeLine := by rw [sizeLine_eq]; omega
theorem app_len (z y : Str) : (z ++ y : Str).length = z.length + y.length := by
  show (z.cps ++ y.cps).size = z.cps.size + y.cps.size
  exact Array.size_append
theorem sgn_len : SGN.length = 94 := by decide +kernel
theorem sgn_all : SGN.cps.toList.all okSign = true := by decide +kernel
section
variable {P : Program} {w : World} {K : PySem.W.Frag} {mg : Str → Option Value} {base : Heap} {a : Ad}
theorem ok_take (T : Tx K mg a) : FnOk P w K mg base CX0 1 a.f_law_take a.d_law_take ["pot", "many"] sp_take := by
  refine T.F_law_take.ok sc_law_take (fun vs H Q E h => ?_) (fun cdv A outer s H vs Q E hr h => ?_)
  · obtain ⟨p, many, rfl, _⟩ := h
    rfl
  obtain ⟨p, many, rfl, ⟨x, y, hp, hx, hy, hy2⟩, hm, hm2, k⟩ := h
  refine ⟨_, (@pss_cons _ _ _ _ _ (@ps_if _ _ _ _ _ _ _ _ (@pt_cmpR _ _ _ _ _ _ _ _ (@op_gt _) (@pe_ix _ _ _ _ _ _ _ (@ix_list _) (pv 0) (@pe_int _ _ _ _) (fun _ _ => rfl)) (@pe_int _ _ _ _) (nomark _)) (@pss_cons _ _ _ _ _ (@ps_set _ _ (2) _ _ _ _ sc_law_take.nd rfl (Or.inl rfl) (@pe_op _ _ _ _ _ _ _ _ (@op_mod _) (@pe_ix _ _ _ _ _ _ _ (@ix_list _) (pv 0) (@pe_int _ _ _ _) (fun _ _ => rfl)) (pv 1)) (by first | rfl | exact .inl rfl | exact .inr rfl | exact .inr (.inl rfl) | decide | decide +kernel | (intro _; rfl)) (by first | rfl | exact .inl rfl | exact .inr rfl | exact .inr (.inl rfl) | decide | decide +kernel | (intro _; rfl))) (@pss_cons _ _ _ _ _ (@ps_asg _ _ _ _ _ _ (@pe_op _ _ _ _ _ _ _ _ (@op_fdiv _) (@pe_ix _ _ _ _ _ _ _ (@ix_list _) (pv 0) (@pe_int _ _ _ _) (fun _ _ => rfl)) (pv 1)) (@pg_sub _ _ _ _ _ _ _ (pv 0) (@pe_int _ _ _ _) (@set_list _) (by first | rfl | exact .inl rfl | exact .inr rfl | exact .inr (.inl rfl) | decide | decide +kernel | (intro _; rfl))) (by first | rfl | exact .inl rfl | exact .inr rfl | exact .inr (.inl rfl) | decide | decide +kernel | (intro _; rfl)) (by first | rfl | exact .inl rfl | exact .inr rfl | exact .inr (.inl rfl) | decide | decide +kernel | (intro _; rfl)) (by first | rfl | exact .inl rfl | exact .inr rfl | exact .inr (.inl rfl) | decide | decide +kernel | (intro _; rfl))) (@pss_one _ _ _ (@ps_ret _ _ _ _ (pv 2))))) (@pss_nil _)) (@pss_cons _ _ _ _ _ (@ps_asg _ _ _ _ _ _ (@pe_op _ _ _ _ _ _ _ _ (@op_mod _) (@pe_op _ _ _ _ _ _ _ _ (@op_add _) (@pe_op _ _ _ _ _ _ _ _ (@op_mul _) (@pe_ix _ _ _ _ _ _ _ (@ix_list _) (pv 0) (@pe_int _ _ _ _) (fun _ _ => rfl)) (@pe_ix _ _ _ _ _ _ _ (@ix_list _) (pv 0) (@pe_int _ _ _ _) (fun _ _ => rfl))) (@pe_int _ _ _ _)) (@pe_int _ _ _ _)) (@pg_sub _ _ _ _ _ _ _ (pv 0) (@pe_int _ _ _ _) (@set_list _) (by first | rfl | exact .inl rfl | exact .inr rfl | exact .inr (.inl rfl) | decide | decide +kernel | (intro _; rfl))) (by first | rfl | exact .inl rfl | exact .inr rfl | exact .inr (.inl rfl) | decide | decide +kernel | (intro _; rfl)) (by first | rfl | exact .inl rfl | exact .inr rfl | exact .inr (.inl rfl) | decide | decide +kernel | (intro _; rfl)) (by first | rfl | exact .inl rfl | exact .inr rfl | exact .inr (.inl rfl) | decide | decide +kernel | (intro _; rfl))) (@pss_one _ _ _ (@ps_ret _ _ _ _ (@pe_op _ _ _ _ _ _ _ _ (@op_mod _) (@pe_op _ _ _ _ _ _ _ _ (@op_fdiv _) (@pe_op _ _ _ _ _ _ _ _ (@op_mod _) (@pe_op _ _ _ _ _ _ _ _ (@op_mul _) (@pe_ix _ _ _ _ _ _ _ (@ix_list _) (pv 0) (@pe_int _ _ _ _) (fun _ _ => rfl)) (@pe_int _ _ _ _)) (@pe_int _ _ _ _)) (@pe_int _ _ _ _)) (pv 1)))))), ?_⟩
  refine ⟨_, rfl, p, _, _, _, rfl, rfl, SqL.of hp, rfl, _, _, rfl, rfl, _, rfl, ?_⟩
  refine ite2 (fun c => ?_) (fun c => ?_)
  · refine ⟨_, rfl, p, _, _, _, rfl, rfl, SqL.of hp, rfl, _, rfl, _, _, rfl, rfl, hm, ?_⟩
    refine ⟨_, rfl, p, _, _, _, rfl, rfl, SqL.of hp, rfl, _, rfl, _, _, rfl, rfl, ⟨hm, hm2⟩, _, rfl, p, _, _, _, rfl, rfl, hp, rfl, ?_⟩
    refine ⟨_, rfl, ?_⟩
    exact k _ _ (Int.emod_nonneg _ (by omega)) (Int.emod_lt_of_pos _ hm) ⟨x / many, y, upd_same, Int.ediv_nonneg hx (by omega), hy, hy2⟩ (Kept.upd _ _ _)
  · have hmul : CMul y y := .inl ⟨by omega, by omega⟩
    refine ⟨_, rfl, p, _, _, _, rfl, rfl, SqL.of hp, rfl, _, rfl, p, _, _, _, rfl, rfl, SqL.of hp, rfl, _, _, rfl, rfl, hmul, _, _, rfl, rfl, _, _, rfl, rfl, (by show (0 : Int) < 2147483629; decide), _, rfl, p, _, _, _, rfl, rfl, hp, rfl, ?_⟩
    have hq : 0 ≤ (y * y + 104729) % 2147483629 ∧ (y * y + 104729) % 2147483629 < 2147483629 := ⟨Int.emod_nonneg _ (by decide), Int.emod_lt_of_pos _ (by decide)⟩
    have hmul2 : CMul ((y * y + 104729) % 2147483629) 48271 := .inr ⟨by decide, by decide⟩
    refine ⟨_, rfl, p, _, _, _, rfl, rfl, SqL.of upd_same, rfl, _, _, rfl, rfl, hmul2, _, _, rfl, rfl, (by show (0 : Int) < 2147483647; decide), _, _, rfl, rfl, ⟨by decide, by decide⟩, _, rfl, _, _, rfl, rfl, hm, ?_⟩
    exact k _ _ (Int.emod_nonneg _ (by omega)) (Int.emod_lt_of_pos _ hm) ⟨x, (y * y + 104729) % 2147483629, upd_same, hx, hq.1, Int.lt_trans hq.2 (by decide)⟩ (Kept.upd _ _ _)
theorem ok_pot (T : Tx K mg a) : FnOk P w K mg base CX0 1 a.f_law_pot a.d_law_pot ["cell", "salt"] sp_pot := by
  refine T.F_law_pot.ok sc_law_pot (fun vs H Q E h => ?_) (fun cdv A outer s H vs Q E hr h => ?_)
  · obtain ⟨c, t, rfl, _⟩ := h
    rfl
  obtain ⟨c, t, rfl, h0, h1, k⟩ := h
  refine ⟨_, (@pss_cons _ _ _ _ _ (@ps_if _ _ _ _ _ _ _ _ (@pt_cmpR _ _ _ _ _ _ _ _ (@op_ge _) (@pe_callB _ _ _ _ _ _ _ _ _ (@call_abs _) (by rfl) T.z_abs boot_abs (@pa_cons _ _ _ _ _ (pv 0) (@pa_nil _) (by first | rfl | exact .inl rfl | exact .inr rfl | exact .inr (.inl rfl) | decide | decide +kernel | (intro _; rfl))) (by first | rfl | exact .inl rfl | exact .inr rfl | exact .inr (.inl rfl) | decide | decide +kernel | (intro _; rfl)) (by first | rfl | exact .inl rfl | exact .inr rfl | exact .inr (.inl rfl) | decide | decide +kernel | (intro _; rfl)) (by first | rfl | exact .inl rfl | exact .inr rfl | exact .inr (.inl rfl) | decide | decide +kernel | (intro _; rfl)) (by first | rfl | exact .inl rfl | exact .inr rfl | exact .inr (.inl rfl) | decide | decide +kernel | (intro _; rfl))) (@pe_op _ _ _ _ _ _ _ _ (@op_pow _) (@pe_int _ _ _ _) (@pe_int _ _ _ _)) (nomark _)) (@pss_one _ _ _ (@ps_ret _ _ _ _ (@pe_lst _ _ _ _ (@pa_cons _ _ _ _ _ (@pe_callB _ _ _ _ _ _ _ _ _ (@call_abs _) (by rfl) T.z_abs boot_abs (@pa_cons _ _ _ _ _ (pv 0) (@pa_nil _) (by first | rfl | exact .inl rfl | exact .inr rfl | exact .inr (.inl rfl) | decide | decide +kernel | (intro _; rfl))) (by first | rfl | exact .inl rfl | exact .inr rfl | exact .inr (.inl rfl) | decide | decide +kernel | (intro _; rfl)) (by first | rfl | exact .inl rfl | exact .inr rfl | exact .inr (.inl rfl) | decide | decide +kernel | (intro _; rfl)) (by first | rfl | exact .inl rfl | exact .inr rfl | exact .inr (.inl rfl) | decide | decide +kernel | (intro _; rfl)) (by first | rfl | exact .inl rfl | exact .inr rfl | exact .inr (.inl rfl) | decide | decide +kernel | (intro _; rfl))) (@pa_cons _ _ _ _ _ (pv 1) (@pa_nil _) (by first | rfl | exact .inl rfl | exact .inr rfl | exact .inr (.inl rfl) | decide | decide +kernel | (intro _; rfl))) (by first | rfl | exact .inl rfl | exact .inr rfl | exact .inr (.inl rfl) | decide | decide +kernel | (intro _; rfl)))))) (@pss_nil _)) (@pss_one _ _ _ (@ps_ret _ _ _ _ (@pe_lst _ _ _ _ (@pa_cons _ _ _ _ _ (@pe_int _ _ _ _) (@pa_cons _ _ _ _ _ (@pe_op _ _ _ _ _ _ _ _ (@op_mod _) (@pe_op _ _ _ _ _ _ _ _ (@op_mul _) (@pe_op _ _ _ _ _ _ _ _ (@op_add _) (@pe_op _ _ _ _ _ _ _ _ (@op_add _) (@pe_op _ _ _ _ _ _ _ _ (@op_mod _) (pv 0) (@pe_int _ _ _ _)) (@pe_op _ _ _ _ _ _ _ _ (@op_mul _) (@pe_int _ _ _ _) (pv 1))) (@pe_int _ _ _ _)) (@pe_int _ _ _ _)) (@pe_int _ _ _ _)) (@pa_nil _) (by first | rfl | exact .inl rfl | exact .inr rfl | exact .inr (.inl rfl) | decide | decide +kernel | (intro _; rfl))) (by first | rfl | exact .inl rfl | exact .inr rfl | exact .inr (.inl rfl) | decide | decide +kernel | (intro _; rfl))))))), ?_⟩
  refine ⟨_, rfl, _, rfl, _, _, rfl, rfl, ⟨by decide, by decide, by decide⟩, _, _, rfl, rfl, _, rfl, ?_⟩
  refine ite2 (fun _ => ?_) (fun _ => ?_)
  · refine ⟨_, rfl, _, rfl, _, rfl, (by show 2 ≤ sizeLine; decide), fun p hp => ?_⟩
    refine k p _ hp (same_new hp _) ⟨_, _, upd_same, ?_, h0, by omega⟩
    split <;> omega
  · refine ⟨_, rfl, _, _, rfl, rfl, (by show (0 : Int) < 2147483647; decide), _, rfl, _, _, rfl, rfl, (.inl ⟨by decide, by decide⟩), _, _, rfl, rfl, _, _, rfl, rfl, _, _, rfl, rfl, (.inr ⟨by decide, by decide⟩), _, _, rfl, rfl, (by show (0 : Int) < 2147483647; decide), (by show 2 ≤ sizeLine; decide), fun p hp => ?_⟩
    refine k p _ hp (same_new hp _) ⟨_, _, upd_same, by decide, Int.emod_nonneg _ (by decide), ?_⟩
    exact Int.lt_trans (Int.emod_lt_of_pos _ (by decide)) (by decide)
theorem ok_signs (T : Tx K mg a) : FnOk P w K mg base CX0 1 a.f_law_signs a.d_law_signs [] sp_signs := by
  refine T.F_law_signs.ok sc_law_signs (fun vs H Q E h => ?_) (fun cdv A outer s H vs Q E hr h => ?_)
  · obtain ⟨rfl, _⟩ := h
    rfl
  obtain ⟨rfl, k⟩ := h
  refine ⟨_, (@pss_cons _ _ _ _ _ (@ps_set _ _ (0) _ _ _ _ sc_law_signs.nd rfl (Or.inl rfl) (@pe_str _ _ _ _) (by first | rfl | exact .inl rfl | exact .inr rfl | exact .inr (.inl rfl) | decide | decide +kernel | (intro _; rfl)) (by first | rfl | exact .inl rfl | exact .inr rfl | exact .inr (.inl rfl) | decide | decide +kernel | (intro _; rfl))) (@pss_one _ _ _ (@ps_ret _ _ _ _ (@pe_op _ _ _ _ _ _ _ _ (@op_add_str _) (@pe_op _ _ _ _ _ _ _ _ (@op_add_str _) (@pe_op _ _ _ _ _ _ _ _ (@op_add_str _) (@pe_op _ _ _ _ _ _ _ _ (@op_add_str _) (pv 0) (@pe_str _ _ _ _)) (@pe_str _ _ _ _)) (@pe_str _ _ _ _)) (@pe_str _ _ _ _))))), ?_⟩
  refine ⟨_, rfl, _, _, rfl, rfl, by decide +kernel, _, _, rfl, rfl, by decide +kernel, _, _, rfl, rfl, by decide +kernel, _, _, rfl, rfl, by decide +kernel, ?_⟩
  exact k
theorem ok_text (T : Tx K mg a) : FnOk P w K mg base CX0 2 a.f_law_text a.d_law_text ["pot"] sp_text := by
  have G_law_take : FnOk P w K mg base CX0 1 a.f_law_take a.d_law_take ["pot", "many"] sp_take := ok_take T
  have G_law_signs : FnOk P w K mg base CX0 1 a.f_law_signs a.d_law_signs [] sp_signs := ok_signs T
  refine T.F_law_text.ok sc_law_text (fun vs H Q E h => ?_) (fun cdv A outer s H vs Q E hr h => ?_)
  · obtain ⟨p, rfl, _⟩ := h
    rfl
  obtain ⟨p, rfl, P0, k⟩ := h
  have hs := sgn_len
  refine ⟨_, (@pss_cons _ _ _ _ _ (@ps_set _ _ (1) _ _ _ _ sc_law_text.nd rfl (Or.inl rfl) (@pe_call0 _ _ _ _ _ _ _ _ _ _ _ _ _ G_law_signs (hr.mono (by first | decide | omega)) (by rfl) T.m_law_signs T.F_law_signs.kp T.b_law_signs .nil pass0 (by first | rfl | exact .inl rfl | exact .inr rfl | exact .inr (.inl rfl) | decide | decide +kernel | (intro _; rfl))) (by first | rfl | exact .inl rfl | exact .inr rfl | exact .inr (.inl rfl) | decide | decide +kernel | (intro _; rfl)) (by first | rfl | exact .inl rfl | exact .inr rfl | exact .inr (.inl rfl) | decide | decide +kernel | (intro _; rfl))) (@pss_cons _ _ _ _ _ (@ps_set _ _ (2) _ _ _ _ sc_law_text.nd rfl (Or.inl rfl) (@pe_str _ _ _ _) (by first | rfl | exact .inl rfl | exact .inr rfl | exact .inr (.inl rfl) | decide | decide +kernel | (intro _; rfl)) (by first | rfl | exact .inl rfl | exact .inr rfl | exact .inr (.inl rfl) | decide | decide +kernel | (intro _; rfl))) (@pss_cons _ _ _ _ _ (@ps_for _ _ _ _ _ _ _ _ PassesOwn.never rfl (@pi_range1 _ _ _ _ _ _ (by rfl) T.z_range (@pa_cons _ _ _ _ _ (@pe_call _ _ _ _ _ _ _ _ _ _ _ _ _ _ _ _ G_law_take (hr.mono (by first | decide | omega)) (by rfl) T.m_law_take T.F_law_take.kp T.b_law_take .nil pass0 (@pa_cons _ _ _ _ _ (pv 0) (@pa_cons _ _ _ _ _ (@pe_int _ _ _ _) (@pa_nil _) (by first | rfl | exact .inl rfl | exact .inr rfl | exact .inr (.inl rfl) | decide | decide +kernel | (intro _; rfl))) (by first | rfl | exact .inl rfl | exact .inr rfl | exact .inr (.inl rfl) | decide | decide +kernel | (intro _; rfl))) (by first | rfl | exact .inl rfl | exact .inr rfl | exact .inr (.inl rfl) | decide | decide +kernel | (intro _; rfl)) (by first | rfl | exact .inl rfl | exact .inr rfl | exact .inr (.inl rfl) | decide | decide +kernel | (intro _; rfl)) (by first | rfl | exact .inl rfl | exact .inr rfl | exact .inr (.inl rfl) | decide | decide +kernel | (intro _; rfl))) (@pa_nil _) (by first | rfl | exact .inl rfl | exact .inr rfl | exact .inr (.inl rfl) | decide | decide +kernel | (intro _; rfl))) (by first | rfl | exact .inl rfl | exact .inr rfl | exact .inr (.inl rfl) | decide | decide +kernel | (intro _; rfl))) (@pg_name _ _ (3) _ sc_law_text.nd rfl (Or.inl rfl) (by first | rfl | exact .inl rfl | exact .inr rfl | exact .inr (.inl rfl) | decide | decide +kernel | (intro _; rfl))) (@pss_one _ _ _ (@ps_set _ _ (2) _ _ _ _ sc_law_text.nd rfl (Or.inl rfl) (@pe_op _ _ _ _ _ _ _ _ (@op_add_str _) (pv 2) (@pe_ix _ _ _ _ _ _ _ (@ix_str _) (pv 1) (@pe_call _ _ _ _ _ _ _ _ _ _ _ _ _ _ _ _ G_law_take (hr.mono (by first | decide | omega)) (by rfl) T.m_law_take T.F_law_take.kp T.b_law_take .nil pass0 (@pa_cons _ _ _ _ _ (pv 0) (@pa_cons _ _ _ _ _ (@pe_callB _ _ _ _ _ _ _ _ _ (@call_len_str _) (by rfl) T.z_len PySem.boot_len (@pa_cons _ _ _ _ _ (pv 1) (@pa_nil _) (by first | rfl | exact .inl rfl | exact .inr rfl | exact .inr (.inl rfl) | decide | decide +kernel | (intro _; rfl))) (by first | rfl | exact .inl rfl | exact .inr rfl | exact .inr (.inl rfl) | decide | decide +kernel | (intro _; rfl)) (by first | rfl | exact .inl rfl | exact .inr rfl | exact .inr (.inl rfl) | decide | decide +kernel | (intro _; rfl)) (by first | rfl | exact .inl rfl | exact .inr rfl | exact .inr (.inl rfl) | decide | decide +kernel | (intro _; rfl)) (by first | rfl | exact .inl rfl | exact .inr rfl | exact .inr (.inl rfl) | decide | decide +kernel | (intro _; rfl))) (@pa_nil _) (by first | rfl | exact .inl rfl | exact .inr rfl | exact .inr (.inl rfl) | decide | decide +kernel | (intro _; rfl))) (by first | rfl | exact .inl rfl | exact .inr rfl | exact .inr (.inl rfl) | decide | decide +kernel | (intro _; rfl))) (by first | rfl | exact .inl rfl | exact .inr rfl | exact .inr (.inl rfl) | decide | decide +kernel | (intro _; rfl)) (by first | rfl | exact .inl rfl | exact .inr rfl | exact .inr (.inl rfl) | decide | decide +kernel | (intro _; rfl)) (by first | rfl | exact .inl rfl | exact .inr rfl | exact .inr (.inl rfl) | decide | decide +kernel | (intro _; rfl))) (fun _ _ => rfl))) (by first | rfl | exact .inl rfl | exact .inr rfl | exact .inr (.inl rfl) | decide | decide +kernel | (intro _; rfl)) (by first | rfl | exact .inl rfl | exact .inr rfl | exact .inr (.inl rfl) | decide | decide +kernel | (intro _; rfl)))) (by first | rfl | exact .inl rfl | exact .inr rfl | exact .inr (.inl rfl) | decide | decide +kernel | (intro _; rfl))) (@pss_cons _ _ _ _ _ (@ps_if _ _ _ _ _ _ _ _ (@pt_cmpR _ _ _ _ _ _ _ _ (@op_eq _) (@pe_call _ _ _ _ _ _ _ _ _ _ _ _ _ _ _ _ G_law_take (hr.mono (by first | decide | omega)) (by rfl) T.m_law_take T.F_law_take.kp T.b_law_take .nil pass0 (@pa_cons _ _ _ _ _ (pv 0) (@pa_cons _ _ _ _ _ (@pe_int _ _ _ _) (@pa_nil _) (by first | rfl | exact .inl rfl | exact .inr rfl | exact .inr (.inl rfl) | decide | decide +kernel | (intro _; rfl))) (by first | rfl | exact .inl rfl | exact .inr rfl | exact .inr (.inl rfl) | decide | decide +kernel | (intro _; rfl))) (by first | rfl | exact .inl rfl | exact .inr rfl | exact .inr (.inl rfl) | decide | decide +kernel | (intro _; rfl)) (by first | rfl | exact .inl rfl | exact .inr rfl | exact .inr (.inl rfl) | decide | decide +kernel | (intro _; rfl)) (by first | rfl | exact .inl rfl | exact .inr rfl | exact .inr (.inl rfl) | decide | decide +kernel | (intro _; rfl))) (@pe_int _ _ _ _) (nomark _)) (@pss_one _ _ _ (@ps_set _ _ (2) _ _ _ _ sc_law_text.nd rfl (Or.inl rfl) (@pe_op _ _ _ _ _ _ _ _ (@op_add_str _) (pv 2) (@pe_op _ _ _ _ _ _ _ _ (@op_repS _) (@pe_str _ _ _ _) (@pe_op _ _ _ _ _ _ _ _ (@op_sub _) (@pe_op _ _ _ _ _ _ _ _ (@op_add _) (@pe_int _ _ _ _) (@pe_call _ _ _ _ _ _ _ _ _ _ _ _ _ _ _ _ G_law_take (hr.mono (by first | decide | omega)) (by rfl) T.m_law_take T.F_law_take.kp T.b_law_take .nil pass0 (@pa_cons _ _ _ _ _ (pv 0) (@pa_cons _ _ _ _ _ (@pe_int _ _ _ _) (@pa_nil _) (by first | rfl | exact .inl rfl | exact .inr rfl | exact .inr (.inl rfl) | decide | decide +kernel | (intro _; rfl))) (by first | rfl | exact .inl rfl | exact .inr rfl | exact .inr (.inl rfl) | decide | decide +kernel | (intro _; rfl))) (by first | rfl | exact .inl rfl | exact .inr rfl | exact .inr (.inl rfl) | decide | decide +kernel | (intro _; rfl)) (by first | rfl | exact .inl rfl | exact .inr rfl | exact .inr (.inl rfl) | decide | decide +kernel | (intro _; rfl)) (by first | rfl | exact .inl rfl | exact .inr rfl | exact .inr (.inl rfl) | decide | decide +kernel | (intro _; rfl)))) (@pe_callB _ _ _ _ _ _ _ _ _ (@call_len_str _) (by rfl) T.z_len PySem.boot_len (@pa_cons _ _ _ _ _ (pv 2) (@pa_nil _) (by first | rfl | exact .inl rfl | exact .inr rfl | exact .inr (.inl rfl) | decide | decide +kernel | (intro _; rfl))) (by first | rfl | exact .inl rfl | exact .inr rfl | exact .inr (.inl rfl) | decide | decide +kernel | (intro _; rfl)) (by first | rfl | exact .inl rfl | exact .inr rfl | exact .inr (.inl rfl) | decide | decide +kernel | (intro _; rfl)) (by first | rfl | exact .inl rfl | exact .inr rfl | exact .inr (.inl rfl) | decide | decide +kernel | (intro _; rfl)) (by first | rfl | exact .inl rfl | exact .inr rfl | exact .inr (.inl rfl) | decide | decide +kernel | (intro _; rfl)))))) (by first | rfl | exact .inl rfl | exact .inr rfl | exact .inr (.inl rfl) | decide | decide +kernel | (intro _; rfl)) (by first | rfl | exact .inl rfl | exact .inr rfl | exact .inr (.inl rfl) | decide | decide +kernel | (intro _; rfl)))) (@pss_nil _)) (@pss_one _ _ _ (@ps_ret _ _ _ _ (pv 2))))))), ?_⟩
  refine ⟨rfl, _, rfl, p, 5, rfl, P0, by decide, by decide, fun d1 H1 a1 b1 P1 K1 => ⟨d1, rfl, by omega, by omega, ?_⟩⟩
  refine for_range (n := d1.toNat) (fun i σ H' => ∃ (z : Str) (kv : Option V), σ = [some (.ref p), some (.str SGN), some (.str z), kv] ∧ z.length ≤ i ∧ okAll z = true ∧ PotAt H' p ∧ Kept p H H') ⟨_, none, rfl, Nat.le_refl _, rfl, P1, K1⟩ ?_ ?_
  · rintro i σ H' hi ⟨z, kv, rfl, hz, hok, P', K'⟩
    refine ⟨_, rfl, _, rfl, _, rfl, _, rfl, _, rfl, small (by omega), p, _, rfl, P', by omega, by omega, fun d H5 a5 b5 P5 K5 => ?_⟩
    obtain ⟨c, hc⟩ := atI_some (xs := SGN.cps.toList) (i := d) a5 (by simpa [Str.length] using b5)
    refine ⟨_, _, c, rfl, rfl, small (by omega), hc, _, _, rfl, rfl, ?_, ?_⟩
    · exact small (by show z.length + 1 ≤ 1000; omega)
    · exact ⟨_, _, rfl, by rw [app_len]; show z.length + 1 ≤ i + 1; omega, okAll_app hok (by show ([c].all okSign) = true; rw [List.all_cons, List.all_nil, List.all_eq_true.mp sgn_all c (atI_mem hc)]; rfl), P5, K'.trans K5⟩
  · rintro σ H' ⟨z, kv, rfl, hz, hok, P', K'⟩
    refine ⟨_, rfl, p, 24, rfl, P', by decide, by decide, fun d H5 a5 b5 P5 K5 => ⟨rfl, _, rfl, ?_⟩⟩
    refine ite2 (fun _ => ?_) (fun _ => ?_)
    · refine ⟨_, rfl, _, rfl, p, 4, rfl, P5, by decide, by decide, fun d7 H7 a7 b7 P7 K7 => ?_⟩
      have hm : MulOk "z" (298 + d7 - (z.length : Int)) := mulOk_of (by omega) (by omega) (by decide)
      have hl := mul_len (z := "z") (n := 298 + d7 - (z.length : Int)) (by decide) (by omega)
      refine ⟨_, _, rfl, rfl, _, rfl, z, rfl, small (by omega), _, _, rfl, rfl, _, _, rfl, rfl, hm, _, _, rfl, rfl, fits (by omega), ?_⟩
      refine ⟨_, rfl, k _ _ ?_ (okAll_app hok (okAll_mul rfl)) (by rw [br_app, br_mul (by decide +kernel)]; have := br_len z; omega) P7 ((K'.trans K5).trans K7)⟩
      rw [app_len]
      omega
    · exact ⟨_, rfl, k z _ (by omega) hok (by have := br_len z; omega) P5 (K'.trans K5)⟩
end
end K03

set_option Elab.async false
set_option linter.all false
set_option maxRecDepth 100000
set_option maxHeartbeats 4000000
namespace K03
open PySem L2 PyProof.Rows
mutual
def lw : D → Bool
  | .str z => okAll z
  | .tup xs => lwL xs
  | _ => false
def lwL : List D → Bool
  | [] => true
  | x :: r => lw x && lwL r
end
theorem lwL_append : ∀ (xs ys : List D), lwL (xs ++ ys) = (lwL xs && lwL ys)
  | [], _ => by simp [lwL]
  | x :: r, ys => by simp only [List.cons_append, lwL, lwL_append r ys, Bool.and_assoc]
theorem okText_long {z : Str} (h : 300 < z.length) : okText z = false := by
  unfold okText
  rw [decide_eq_false (by omega)]
  rfl
mutual
/-- how many brackets open in what is written -/
def cnt : D → Nat
  | .str z => br z
  | .tup xs => 1 + cntL xs
  | _ => 0
def cntL : List D → Nat
  | [] => 0
  | x :: r => cnt x + cntL r
end
theorem cntL_append : ∀ (xs ys : List D), cntL (xs ++ ys) = cntL xs + cntL ys
  | [], _ => by simp [cntL]
  | x :: r, ys => by simp only [List.cons_append, cntL, cntL_append r ys, Nat.add_assoc]
theorem cntL_mem : ∀ {xs : List D} {x : D}, x ∈ xs → cnt x ≤ cntL xs
  | [], _, h => nomatch h
  | y :: r, x, h => by
    rcases List.mem_cons.mp h with rfl | h
    · simp only [cntL]; omega
    · have := cntL_mem h
      simp only [cntL]; omega
def gB : Nat → Nat
  | 0 => 4
  | k + 1 => 3 * gB k + 5
theorem gB_pos : ∀ k, 4 ≤ gB k
  | 0 => by simp [gB]
  | k + 1 => by have := gB_pos k; simp only [gB]; omega
/-- some data, not too deep -/
def sp_tree (n : Nat) : Sp := fun vs H Q _ => ∃ (p : Addr) (k : Nat), vs = [.ref p, .int (k : Int)] ∧ k < n ∧ PotAt H p ∧ ∀ (v : V) (d : D) (H' : Hp), Is H' d v → lw d = true → dp d ≤ 1 + 12 * k → cnt d ≤ gB k → PotAt H' p → Kept p H H' → Q v H'
def mea (d : D) : D := .tup [.bl (good d), .int (sz d : Int), .int (dp d : Int)]
def sp_measure (n : Nat) : Sp := fun vs H Q _ => ∃ (v : V) (d : D), vs = [v] ∧ Is H d v ∧ dp d < n ∧ ∀ (u : V) (H' : Hp), Same H H' → Is H' (mea d) u → Q u H'
def sp_lis_tree : Sp := fun vs H Q _ => ∃ (v : V) (d : D), vs = [v] ∧ Is H d v ∧ dp d ≤ 200 ∧ ∀ H', Same H H' → Q (.bl (isT d)) H'
def comp0 : D → D
  | .tup (x :: _) => x
  | d => d
def comp1 : D → D
  | .tup (_ :: x :: _) => x
  | d => d
def comp2 : D → D
  | .tup (_ :: _ :: x :: _) => x
  | d => d
theorem sgn_ok (c : Nat) : inS ⟨#[c]⟩ SGN = okSign c := by
  rw [inS_one]
  by_cases h : c < 128
  · have key : ∀ c, c < 128 → decide (c ∈ SGN.cps.toList) = okSign c := by decide +kernel
    exact key c h
  · have h1 : okSign c = false := by
      unfold okSign
      rw [decide_eq_false (p := c ≤ 126) (by omega), Bool.and_false]
      rfl
    have key : ∀ x ∈ SGN.cps.toList, x < 128 := by decide +kernel
    rw [h1]
    exact decide_eq_false fun m => h (key c m)
theorem dp_row {d : D} {xs : List D} (h : d ∈ xs) : dp d < dp (.tup xs) := by
  have := (dpL_le (k := dpL xs) xs).mp (Nat.le_refl _) d h
  simp only [dp]
  omega
theorem all_map_good (xs : List D) : (xs.map good).all id = goodL xs := by
  rw [goodL_all, List.all_map]
  rfl
section
variable {P : Program} {w : World} {K : PySem.W.Frag} {mg : Str → Option Value} {base : Heap} {a : Ad}
theorem tree_none {f : Addr} {fd : FuncData} {l : Nat} : FnOk P w K mg base CX0 l f fd ["pot", "deep"] (sp_tree 0) := by
  have no : ∀ vs H Q E, ¬ sp_tree 0 vs H Q E := fun vs H Q E h => by
    obtain ⟨p, k, _, h1, _⟩ := h
    omega
  exact ⟨fun vs H Q E h => absurd h (no vs H Q E), fun A outer s H args us vs Q E _ _ _ _ h => absurd h (no vs H Q E)⟩
theorem ok_tree1 (T : Tx K mg a) {n : Nat} (G_law_tree : FnOk P w K mg base CX0 (n + 2) a.f_law_tree a.d_law_tree ["pot", "deep"] (sp_tree n)) : FnOk P w K mg base CX0 (n + 3) a.f_law_tree a.d_law_tree ["pot", "deep"] (sp_tree (n + 1)) := by
  have G_law_take : FnOk P w K mg base CX0 1 a.f_law_take a.d_law_take ["pot", "many"] sp_take := ok_take T
  have G_law_text : FnOk P w K mg base CX0 2 a.f_law_text a.d_law_text ["pot"] sp_text := ok_text T
  refine T.F_law_tree.ok sc_law_tree (fun vs H Q E h => ?_) (fun cdv A outer s H vs Q E hr h => ?_)
  · obtain ⟨p, j, rfl, _⟩ := h
    rfl
  obtain ⟨p, j, rfl, hj, P0, k⟩ := h
  refine ⟨_, (@pss_cons _ _ _ _ _ (@ps_set _ _ (2) _ _ _ _ sc_law_tree.nd rfl (Or.inl rfl) (@pe_call _ _ _ _ _ _ _ _ _ _ _ _ _ _ _ _ G_law_take (hr.mono (by first | decide | omega)) (by rfl) T.m_law_take T.F_law_take.kp T.b_law_take .nil pass0 (@pa_cons _ _ _ _ _ (pv 0) (@pa_cons _ _ _ _ _ (@pe_int _ _ _ _) (@pa_nil _) (by first | rfl | exact .inl rfl | exact .inr rfl | exact .inr (.inl rfl) | decide | decide +kernel | (intro _; rfl))) (by first | rfl | exact .inl rfl | exact .inr rfl | exact .inr (.inl rfl) | decide | decide +kernel | (intro _; rfl))) (by first | rfl | exact .inl rfl | exact .inr rfl | exact .inr (.inl rfl) | decide | decide +kernel | (intro _; rfl)) (by first | rfl | exact .inl rfl | exact .inr rfl | exact .inr (.inl rfl) | decide | decide +kernel | (intro _; rfl)) (by first | rfl | exact .inl rfl | exact .inr rfl | exact .inr (.inl rfl) | decide | decide +kernel | (intro _; rfl))) (by first | rfl | exact .inl rfl | exact .inr rfl | exact .inr (.inl rfl) | decide | decide +kernel | (intro _; rfl)) (by first | rfl | exact .inl rfl | exact .inr rfl | exact .inr (.inl rfl) | decide | decide +kernel | (intro _; rfl))) (@pss_cons _ _ _ _ _ (@ps_if _ _ _ _ _ _ _ _ (@pw_or _ _ _ _ _ _ _ (@pt_cmpR _ _ _ _ _ _ _ _ (@op_eq _) (pv 1) (@pe_int _ _ _ _) (nomark _)) (@pw_or1 _ _ _ _ (@pt_cmpR _ _ _ _ _ _ _ _ (@op_lt _) (pv 2) (@pe_int _ _ _ _) (nomark _)))).pt (@pss_one _ _ _ (@ps_ret _ _ _ _ (@pe_call _ _ _ _ _ _ _ _ _ _ _ _ _ _ _ _ G_law_text (hr.mono (by first | decide | omega)) (by rfl) T.m_law_text T.F_law_text.kp T.b_law_text .nil pass0 (@pa_cons _ _ _ _ _ (pv 0) (@pa_nil _) (by first | rfl | exact .inl rfl | exact .inr rfl | exact .inr (.inl rfl) | decide | decide +kernel | (intro _; rfl))) (by first | rfl | exact .inl rfl | exact .inr rfl | exact .inr (.inl rfl) | decide | decide +kernel | (intro _; rfl)) (by first | rfl | exact .inl rfl | exact .inr rfl | exact .inr (.inl rfl) | decide | decide +kernel | (intro _; rfl)) (by first | rfl | exact .inl rfl | exact .inr rfl | exact .inr (.inl rfl) | decide | decide +kernel | (intro _; rfl))))) (@pss_nil _)) (@pss_cons _ _ _ _ _ (@ps_if _ _ _ _ _ _ _ _ (@pt_cmpR _ _ _ _ _ _ _ _ (@op_eq _) (pv 2) (@pe_int _ _ _ _) (nomark _)) (@pss_cons _ _ _ _ _ (@ps_set _ _ (3) _ _ _ _ sc_law_tree.nd rfl (Or.inl rfl) (@pe_call _ _ _ _ _ _ _ _ _ _ _ _ _ _ _ _ G_law_tree (hr.mono (by first | decide | omega)) (by rfl) T.m_law_tree T.F_law_tree.kp T.b_law_tree .nil pass0 (@pa_cons _ _ _ _ _ (pv 0) (@pa_cons _ _ _ _ _ (@pe_op _ _ _ _ _ _ _ _ (@op_sub _) (pv 1) (@pe_int _ _ _ _)) (@pa_nil _) (by first | rfl | exact .inl rfl | exact .inr rfl | exact .inr (.inl rfl) | decide | decide +kernel | (intro _; rfl))) (by first | rfl | exact .inl rfl | exact .inr rfl | exact .inr (.inl rfl) | decide | decide +kernel | (intro _; rfl))) (by first | rfl | exact .inl rfl | exact .inr rfl | exact .inr (.inl rfl) | decide | decide +kernel | (intro _; rfl)) (by first | rfl | exact .inl rfl | exact .inr rfl | exact .inr (.inl rfl) | decide | decide +kernel | (intro _; rfl)) (by first | rfl | exact .inl rfl | exact .inr rfl | exact .inr (.inl rfl) | decide | decide +kernel | (intro _; rfl))) (by first | rfl | exact .inl rfl | exact .inr rfl | exact .inr (.inl rfl) | decide | decide +kernel | (intro _; rfl)) (by first | rfl | exact .inl rfl | exact .inr rfl | exact .inr (.inl rfl) | decide | decide +kernel | (intro _; rfl))) (@pss_cons _ _ _ _ _ (@ps_for _ _ _ _ _ _ _ _ PassesOwn.never rfl (@pi_range1 _ _ _ _ _ _ (by rfl) T.z_range (@pa_cons _ _ _ _ _ (@pe_call _ _ _ _ _ _ _ _ _ _ _ _ _ _ _ _ G_law_take (hr.mono (by first | decide | omega)) (by rfl) T.m_law_take T.F_law_take.kp T.b_law_take .nil pass0 (@pa_cons _ _ _ _ _ (pv 0) (@pa_cons _ _ _ _ _ (@pe_int _ _ _ _) (@pa_nil _) (by first | rfl | exact .inl rfl | exact .inr rfl | exact .inr (.inl rfl) | decide | decide +kernel | (intro _; rfl))) (by first | rfl | exact .inl rfl | exact .inr rfl | exact .inr (.inl rfl) | decide | decide +kernel | (intro _; rfl))) (by first | rfl | exact .inl rfl | exact .inr rfl | exact .inr (.inl rfl) | decide | decide +kernel | (intro _; rfl)) (by first | rfl | exact .inl rfl | exact .inr rfl | exact .inr (.inl rfl) | decide | decide +kernel | (intro _; rfl)) (by first | rfl | exact .inl rfl | exact .inr rfl | exact .inr (.inl rfl) | decide | decide +kernel | (intro _; rfl))) (@pa_nil _) (by first | rfl | exact .inl rfl | exact .inr rfl | exact .inr (.inl rfl) | decide | decide +kernel | (intro _; rfl))) (by first | rfl | exact .inl rfl | exact .inr rfl | exact .inr (.inl rfl) | decide | decide +kernel | (intro _; rfl))) (@pg_name _ _ (4) _ sc_law_tree.nd rfl (Or.inl rfl) (by first | rfl | exact .inl rfl | exact .inr rfl | exact .inr (.inl rfl) | decide | decide +kernel | (intro _; rfl))) (@pss_one _ _ _ (@ps_set _ _ (3) _ _ _ _ sc_law_tree.nd rfl (Or.inl rfl) (@pe_tup _ _ _ _ _ (@pa_cons _ _ _ _ _ (pv 3) (@pa_nil _) (by first | rfl | exact .inl rfl | exact .inr rfl | exact .inr (.inl rfl) | decide | decide +kernel | (intro _; rfl)))) (by first | rfl | exact .inl rfl | exact .inr rfl | exact .inr (.inl rfl) | decide | decide +kernel | (intro _; rfl)) (by first | rfl | exact .inl rfl | exact .inr rfl | exact .inr (.inl rfl) | decide | decide +kernel | (intro _; rfl)))) (by first | rfl | exact .inl rfl | exact .inr rfl | exact .inr (.inl rfl) | decide | decide +kernel | (intro _; rfl))) (@pss_one _ _ _ (@ps_ret _ _ _ _ (pv 3))))) (@pss_nil _)) (@pss_one _ _ _ (@ps_ret _ _ _ _ (@pe_callTy _ _ _ _ _ _ _ _ _ (@call_tuple_of _) (by rfl) T.z_tuple boot_tuple (@pa_cons _ _ _ _ _ (@pe_lc _ _ (["k", "pot", "deep"]) (1) ([0, 1]) _ _ _ _ _ _ _ _ _ (lcsN (defScope s_law_tree) ["pot", "deep", "kind", "tree", "k"]) rfl (@pi_range1 _ _ _ _ _ _ (by rfl) T.z_range (@pa_cons _ _ _ _ _ (@pe_call _ _ _ _ _ _ _ _ _ _ _ _ _ _ _ _ G_law_take (hr.mono (by first | decide | omega)) (by rfl) T.m_law_take T.F_law_take.kp T.b_law_take .nil pass0 (@pa_cons _ _ _ _ _ (pv 0) (@pa_cons _ _ _ _ _ (@pe_int _ _ _ _) (@pa_nil _) (by first | rfl | exact .inl rfl | exact .inr rfl | exact .inr (.inl rfl) | decide | decide +kernel | (intro _; rfl))) (by first | rfl | exact .inl rfl | exact .inr rfl | exact .inr (.inl rfl) | decide | decide +kernel | (intro _; rfl))) (by first | rfl | exact .inl rfl | exact .inr rfl | exact .inr (.inl rfl) | decide | decide +kernel | (intro _; rfl)) (by first | rfl | exact .inl rfl | exact .inr rfl | exact .inr (.inl rfl) | decide | decide +kernel | (intro _; rfl)) (by first | rfl | exact .inl rfl | exact .inr rfl | exact .inr (.inl rfl) | decide | decide +kernel | (intro _; rfl))) (@pa_nil _) (by first | rfl | exact .inl rfl | exact .inr rfl | exact .inr (.inl rfl) | decide | decide +kernel | (intro _; rfl))) (by first | rfl | exact .inl rfl | exact .inr rfl | exact .inr (.inl rfl) | decide | decide +kernel | (intro _; rfl))) (fun _ _ _ _ _ _ => (@pg_name _ _ (0) _ (show List.Nodup (["k", "pot", "deep"] : List Str) by decide +kernel) rfl (Or.inl rfl) (by first | rfl | exact .inl rfl | exact .inr rfl | exact .inr (.inl rfl) | decide | decide +kernel | (intro _; rfl)))) (fun _ _ _ _ _ _ => @pif_nil _) (fun _ _ _ _ _ _ => (@pe_call _ _ _ _ _ _ _ _ _ _ _ _ _ _ _ _ G_law_tree (hr.mono (by first | decide | omega)) (by rfl) T.m_law_tree T.F_law_tree.kp T.b_law_tree .nil pass0 (@pa_cons _ _ _ _ _ (pv 1) (@pa_cons _ _ _ _ _ (@pe_op _ _ _ _ _ _ _ _ (@op_sub _) (pv 2) (@pe_int _ _ _ _)) (@pa_nil _) (by first | rfl | exact .inl rfl | exact .inr rfl | exact .inr (.inl rfl) | decide | decide +kernel | (intro _; rfl))) (by first | rfl | exact .inl rfl | exact .inr rfl | exact .inr (.inl rfl) | decide | decide +kernel | (intro _; rfl))) (by first | rfl | exact .inl rfl | exact .inr rfl | exact .inr (.inl rfl) | decide | decide +kernel | (intro _; rfl)) (by first | rfl | exact .inl rfl | exact .inr rfl | exact .inr (.inl rfl) | decide | decide +kernel | (intro _; rfl)) (by first | rfl | exact .inl rfl | exact .inr rfl | exact .inr (.inl rfl) | decide | decide +kernel | (intro _; rfl)))) (by first | rfl | exact .inl rfl | exact .inr rfl | exact .inr (.inl rfl) | decide | decide +kernel | (intro _; rfl))) (@pa_nil _) (by first | rfl | exact .inl rfl | exact .inr rfl | exact .inr (.inl rfl) | decide | decide +kernel | (intro _; rfl))) (by first | rfl | exact .inl rfl | exact .inr rfl | exact .inr (.inl rfl) | decide | decide +kernel | (intro _; rfl)) (by first | rfl | exact .inl rfl | exact .inr rfl | exact .inr (.inl rfl) | decide | decide +kernel | (intro _; rfl)) (by first | rfl | exact .inl rfl | exact .inr rfl | exact .inr (.inl rfl) | decide | decide +kernel | (intro _; rfl)) (by first | rfl | exact .inl rfl | exact .inr rfl | exact .inr (.inl rfl) | decide | decide +kernel | (intro _; rfl)))))))), ?_⟩
  refine ⟨_, rfl, p, 7, rfl, P0, by decide, by decide, fun kind H1 a1 b1 P1 K1 => ?_⟩
  have txtcase : ∀ (hk : True), ∃ v, [some (V.ref p), some (V.int (j : Int)), some (V.int kind), none, none][0]? = some (some v) ∧ sp_text ([v] ++ []) H1 Q E0 := fun _ =>
    ⟨_, rfl, p, rfl, P1, fun z H2 hz hok hbr P2 K2 => k (.str z) (.str z) H2 ⟨rfl, fits (by omega)⟩ (by simpa only [lw] using hok) (by simp only [dp]; omega) (by have := gB_pos j; simp only [cnt]; omega) P2 (K1.trans K2)⟩
  refine ⟨_, rfl, rfl, _, rfl, ?_⟩
  refine ite2 (fun _ => iteT (txtcase trivial)) (fun c => ?_)
  have hj0 : (j : Int) ≠ 0 := fun z => c (decide_eq_true (by rw [z]))
  obtain ⟨i, rfl⟩ : ∃ i, j = i + 1 := ⟨j - 1, by omega⟩
  have ej : ((i + 1 : Nat) : Int) - 1 = (i : Int) := by omega
  refine ⟨_, rfl, _, _, rfl, rfl, _, rfl, ?_⟩
  refine ite2 (fun _ => txtcase trivial) (fun _ => ?_)
  refine ⟨_, rfl, rfl, _, rfl, ?_⟩
  refine ite2 (fun _ => ?_) (fun _ => ?_)
  · -- a chain of rows round a tree
    refine ⟨_, rfl, _, rfl, _, _, rfl, rfl, p, i, by rw [← ej]; rfl, by omega, P1, fun v d H2 hv hlw hd hcn P2 K2 => ?_⟩
    refine ⟨_, rfl, p, 13, rfl, P2, by decide, by decide, fun m H3 a3 b3 P3 K3 => ⟨m, rfl, by omega, by omega, ?_⟩⟩
    have hv3 : Is H3 d v := hv.mono (P2.tk P3 K3)
    refine for_range (n := m.toNat) (fun t σ H' => ∃ (u : V) (e : D) (kv : Option V), σ = [some (.ref p), some (.int ((i + 1 : Nat) : Int)), some (.int kind), some u, kv] ∧ Is H' e u ∧ lw e = true ∧ dp e ≤ 1 + 12 * i + t ∧ cnt e ≤ gB i + t ∧ PotAt H' p ∧ Kept p H H') ⟨v, d, none, rfl, hv3, hlw, by omega, by omega, P3, (K1.trans K2).trans K3⟩ ?_ ?_
    · rintro t σ H' ht ⟨u, e, kv, rfl, hu, hel, he, hce, P', K'⟩
      refine ⟨_, rfl, (by show 1 ≤ sizeLine; decide), fun q hq => ?_⟩
      refine ⟨_, .tup [e], _, rfl, Is.new (IsL.one hu) hq, by simp [lw, lwL, hel], ?_, by simp only [cnt, cntL]; omega, P'.same (same_new hq _), K'.trans (same_new hq _).kept⟩
      simp only [dp, dpL]
      omega
    · rintro σ H' ⟨u, e, kv, rfl, hu, hel, he, hce, P', K'⟩
      exact ⟨_, rfl, k u e H' hu hel (by omega) (by have := gB_pos i; simp only [gB]; omega) P' K'⟩
  · -- a row
    refine ⟨_, rfl, p, 4, rfl, P1, by decide, by decide, fun m H2 a2 b2 P2 K2 => ⟨m, rfl, by omega, by omega, fun L hL => ?_⟩⟩
    have hpL : p ≠ L := P2.free hL
    have PL : PotAt (upd H2 L (.lst [])) p := P2.same (same_new hL _)
    refine ⟨m.toNat, fun t σ ys H' => (∃ x, σ = x :: [some (.ref p), some (.int ((i + 1 : Nat) : Int))]) ∧ (∃ ds : List D, IsL H' ds ys ∧ ds.length = t ∧ lwL ds = true ∧ dpL ds ≤ 1 + 12 * i ∧ cntL ds ≤ t * gB i) ∧ PotAt H' p ∧ Kept p H2 H', fits (by omega), ⟨⟨none, rfl⟩, ⟨[], rfl, rfl, rfl, by simp [dpL], by simp [cntL]⟩, PL, (same_new hL _).kept⟩, ?_, ?_⟩
    · rintro t σ ys H' ht ⟨⟨x, rfl⟩, ⟨ds, hds, hl, hdl, hdp, hdc⟩, P', K'⟩ hL' hyl
      refine ⟨ht, ?_⟩
      rintro x' H'' ⟨rfl, rfl⟩
      dsimp only [gName, tYes, List.set]
      rw [if_pos rfl]
      refine ⟨_, rfl, _, rfl, _, _, rfl, rfl, p, i, by rw [← ej]; rfl, by omega, P', fun v d H4 hv hlw hd hcn P4 K4 => ?_⟩
      have hL4 : H4 L = some (.lst ys) := K4 L _ hL' (Ne.symm hpL)
      have t4 := P'.tk P4 K4
      have t5 : Tk H4 (upd H4 L (.lst (ys ++ [v]))) := Tk.updL hL4
      refine ⟨hL4, ⟨_, rfl⟩, ⟨ds ++ [d], ((hds.mono t4).mono t5).append (IsL.one (hv.mono t5)), by simp [hl], by rw [lwL_append, hdl]; simp [lwL, hlw], ?_, by rw [cntL_append, Nat.succ_mul]; simp only [cntL]; omega⟩, ?_, ?_⟩
      · rw [dpL_append]
        simp only [dpL]
        omega
      · obtain ⟨x1, y1, e1, r1⟩ := P4
        exact ⟨x1, y1, by rw [upd_ne hpL]; exact e1, r1⟩
      · intro b o e hb
        rw [upd_ne (ne_of_none e hL)]
        exact K4 b o (K' b o e hb) hb
    · rintro σ ys H' ⟨_, ⟨ds, hds, hl, hdl, hdp, hdc⟩, P', K'⟩ hL'
      refine ⟨Nat.le_refl _, L, ys, rfl, .inl ⟨SqL.of hL', fun t ht => ?_⟩⟩
      have hm3 : m.toNat * gB i ≤ 3 * gB i := Nat.mul_le_mul_right _ (by omega)
      refine k (.ref t) (.tup ds) _ (Is.new hds ht) (by simpa only [lw] using hdl) ?_ (by simp only [cnt, gB]; omega) (P'.same (same_new ht _)) ((K1.trans K2).trans (K'.trans (same_new ht _).kept))
      simp only [dp]
      omega
theorem ok_tree (T : Tx K mg a) : ∀ n : Nat, FnOk P w K mg base CX0 (n + 2) a.f_law_tree a.d_law_tree ["pot", "deep"] (sp_tree n)
  | 0 => tree_none
  | n + 1 => ok_tree1 T (ok_tree T n)
theorem measure_none {f : Addr} {fd : FuncData} {l : Nat} : FnOk P w K mg base CX0 l f fd ["value"] (sp_measure 0) := by
  have no : ∀ vs H Q E, ¬ sp_measure 0 vs H Q E := fun vs H Q E h => by
    obtain ⟨v, d, _, _, h1, _⟩ := h
    omega
  exact ⟨fun vs H Q E h => absurd h (no vs H Q E), fun A outer s H args us vs Q E _ _ _ _ h => absurd h (no vs H Q E)⟩
theorem ok_measure1 (T : Tx K mg a) {n : Nat} (G_law_measure : FnOk P w K mg base CX0 (n + 1) a.f_law_measure a.d_law_measure ["value"] (sp_measure n)) : FnOk P w K mg base CX0 (n + 2) a.f_law_measure a.d_law_measure ["value"] (sp_measure (n + 1)) := by
  have G_law_signs : FnOk P w K mg base CX0 1 a.f_law_signs a.d_law_signs [] sp_signs := ok_signs T
  refine T.F_law_measure.ok sc_law_measure (fun vs H Q E h => ?_) (fun cdv A outer s H vs Q E hr h => ?_)
  · obtain ⟨v, d, rfl, _⟩ := h
    rfl
  obtain ⟨v, d, rfl, hv, hd, k⟩ := h
  refine ⟨_, (@pss_cons _ _ _ _ _ (@ps_if _ _ _ _ _ _ _ _ (@pt_val _ _ _ (@pe_callB _ _ _ _ _ _ _ _ _ (@call_isinst _ _ rfl) (by rfl) T.z_isinstance boot_isinstance (@pa_cons _ _ _ _ _ (pv 0) (@pa_cons _ _ _ _ _ (@pe_bltn _ _ (.ty "str") _ _ (by rfl) T.z_str boot_str rfl (by first | rfl | exact .inl rfl | exact .inr rfl | exact .inr (.inl rfl) | decide | decide +kernel | (intro _; rfl)) (by first | rfl | exact .inl rfl | exact .inr rfl | exact .inr (.inl rfl) | decide | decide +kernel | (intro _; rfl))) (@pa_nil _) (by first | rfl | exact .inl rfl | exact .inr rfl | exact .inr (.inl rfl) | decide | decide +kernel | (intro _; rfl))) (by first | rfl | exact .inl rfl | exact .inr rfl | exact .inr (.inl rfl) | decide | decide +kernel | (intro _; rfl))) (by first | rfl | exact .inl rfl | exact .inr rfl | exact .inr (.inl rfl) | decide | decide +kernel | (intro _; rfl)) (by first | rfl | exact .inl rfl | exact .inr rfl | exact .inr (.inl rfl) | decide | decide +kernel | (intro _; rfl)) (by first | rfl | exact .inl rfl | exact .inr rfl | exact .inr (.inl rfl) | decide | decide +kernel | (intro _; rfl)) (by first | rfl | exact .inl rfl | exact .inr rfl | exact .inr (.inl rfl) | decide | decide +kernel | (intro _; rfl))) (by first | rfl | exact .inl rfl | exact .inr rfl | exact .inr (.inl rfl) | decide | decide +kernel | (intro _; rfl))) (@pss_cons _ _ _ _ _ (@ps_set _ _ (1) _ _ _ _ sc_law_measure.nd rfl (Or.inr rfl) (@pe_call0 _ _ _ _ _ _ _ _ _ _ _ _ _ G_law_signs (hr.mono (by first | decide | omega)) (by rfl) T.m_law_signs T.F_law_signs.kp T.b_law_signs .nil pass0 (by first | rfl | exact .inl rfl | exact .inr rfl | exact .inr (.inl rfl) | decide | decide +kernel | (intro _; rfl))) (by first | rfl | exact .inl rfl | exact .inr rfl | exact .inr (.inl rfl) | decide | decide +kernel | (intro _; rfl)) (by first | rfl | exact .inl rfl | exact .inr rfl | exact .inr (.inl rfl) | decide | decide +kernel | (intro _; rfl))) (@pss_one _ _ _ (@ps_ret _ _ _ _ (@pe_tup _ _ _ _ _ (@pa_cons _ _ _ _ _ (@pe_and _ _ _ _ _ _ _ (@pe_cmpR _ _ _ _ _ _ _ _ (@op_le _) (@pe_callB _ _ _ _ _ _ _ _ _ (@call_len _) (by rfl) T.z_len PySem.boot_len (@pa_cons _ _ _ _ _ (pv 0) (@pa_nil _) (by first | rfl | exact .inl rfl | exact .inr rfl | exact .inr (.inl rfl) | decide | decide +kernel | (intro _; rfl))) (by first | rfl | exact .inl rfl | exact .inr rfl | exact .inr (.inl rfl) | decide | decide +kernel | (intro _; rfl)) (by first | rfl | exact .inl rfl | exact .inr rfl | exact .inr (.inl rfl) | decide | decide +kernel | (intro _; rfl)) (by first | rfl | exact .inl rfl | exact .inr rfl | exact .inr (.inl rfl) | decide | decide +kernel | (intro _; rfl)) (by first | rfl | exact .inl rfl | exact .inr rfl | exact .inr (.inl rfl) | decide | decide +kernel | (intro _; rfl))) (@pe_int _ _ _ _) (nomark _)) (@pe_one _ _ _ _ _ (@pe_callB _ _ _ _ _ _ _ _ _ (@call_allL _ rfl) (by rfl) T.z_all boot_all (@pa_cons _ _ _ _ _ (@pe_lc _ _ (["sign", "signs"]) (1) ([1]) _ _ _ _ _ _ _ _ _ (lcsN (defScope s_law_measure) ["value", "signs", "parts", "good"]) rfl (@pi_str _ _ _ _ (pv 0)) (fun _ _ _ _ _ _ => (@pg_name _ _ (0) _ (show List.Nodup (["sign", "signs"] : List Str) by decide +kernel) rfl (Or.inl rfl) (by first | rfl | exact .inl rfl | exact .inr rfl | exact .inr (.inl rfl) | decide | decide +kernel | (intro _; rfl)))) (fun _ _ _ _ _ _ => @pif_nil _) (fun _ _ _ _ _ _ => (@pe_cmpR _ _ _ _ _ _ _ _ (@op_in_str _) (pv 0) (pv 1) (by with_unfolding_all rfl))) (by first | rfl | exact .inl rfl | exact .inr rfl | exact .inr (.inl rfl) | decide | decide +kernel | (intro _; rfl))) (@pa_nil _) (by first | rfl | exact .inl rfl | exact .inr rfl | exact .inr (.inl rfl) | decide | decide +kernel | (intro _; rfl))) (by first | rfl | exact .inl rfl | exact .inr rfl | exact .inr (.inl rfl) | decide | decide +kernel | (intro _; rfl)) (by first | rfl | exact .inl rfl | exact .inr rfl | exact .inr (.inl rfl) | decide | decide +kernel | (intro _; rfl)) (by first | rfl | exact .inl rfl | exact .inr rfl | exact .inr (.inl rfl) | decide | decide +kernel | (intro _; rfl)) (by first | rfl | exact .inl rfl | exact .inr rfl | exact .inr (.inl rfl) | decide | decide +kernel | (intro _; rfl))))) (@pa_cons _ _ _ _ _ (@pe_op _ _ _ _ _ _ _ _ (@op_add _) (@pe_callB _ _ _ _ _ _ _ _ _ (@call_len _) (by rfl) T.z_len PySem.boot_len (@pa_cons _ _ _ _ _ (pv 0) (@pa_nil _) (by first | rfl | exact .inl rfl | exact .inr rfl | exact .inr (.inl rfl) | decide | decide +kernel | (intro _; rfl))) (by first | rfl | exact .inl rfl | exact .inr rfl | exact .inr (.inl rfl) | decide | decide +kernel | (intro _; rfl)) (by first | rfl | exact .inl rfl | exact .inr rfl | exact .inr (.inl rfl) | decide | decide +kernel | (intro _; rfl)) (by first | rfl | exact .inl rfl | exact .inr rfl | exact .inr (.inl rfl) | decide | decide +kernel | (intro _; rfl)) (by first | rfl | exact .inl rfl | exact .inr rfl | exact .inr (.inl rfl) | decide | decide +kernel | (intro _; rfl))) (@pe_int _ _ _ _)) (@pa_cons _ _ _ _ _ (@pe_int _ _ _ _) (@pa_nil _) (by first | rfl | exact .inl rfl | exact .inr rfl | exact .inr (.inl rfl) | decide | decide +kernel | (intro _; rfl))) (by first | rfl | exact .inl rfl | exact .inr rfl | exact .inr (.inl rfl) | decide | decide +kernel | (intro _; rfl))) (by first | rfl | exact .inl rfl | exact .inr rfl | exact .inr (.inl rfl) | decide | decide +kernel | (intro _; rfl))))))) (@pss_nil _)) (@pss_cons _ _ _ _ _ (@ps_if _ _ _ _ _ _ _ _ (@pt_not _ _ _ _ (@pt_val _ _ _ (@pe_callB _ _ _ _ _ _ _ _ _ (@call_isinst _ _ rfl) (by rfl) T.z_isinstance boot_isinstance (@pa_cons _ _ _ _ _ (pv 0) (@pa_cons _ _ _ _ _ (@pe_bltn _ _ (.ty "tuple") _ _ (by rfl) T.z_tuple boot_tuple rfl (by first | rfl | exact .inl rfl | exact .inr rfl | exact .inr (.inl rfl) | decide | decide +kernel | (intro _; rfl)) (by first | rfl | exact .inl rfl | exact .inr rfl | exact .inr (.inl rfl) | decide | decide +kernel | (intro _; rfl))) (@pa_nil _) (by first | rfl | exact .inl rfl | exact .inr rfl | exact .inr (.inl rfl) | decide | decide +kernel | (intro _; rfl))) (by first | rfl | exact .inl rfl | exact .inr rfl | exact .inr (.inl rfl) | decide | decide +kernel | (intro _; rfl))) (by first | rfl | exact .inl rfl | exact .inr rfl | exact .inr (.inl rfl) | decide | decide +kernel | (intro _; rfl)) (by first | rfl | exact .inl rfl | exact .inr rfl | exact .inr (.inl rfl) | decide | decide +kernel | (intro _; rfl)) (by first | rfl | exact .inl rfl | exact .inr rfl | exact .inr (.inl rfl) | decide | decide +kernel | (intro _; rfl)) (by first | rfl | exact .inl rfl | exact .inr rfl | exact .inr (.inl rfl) | decide | decide +kernel | (intro _; rfl))) (by first | rfl | exact .inl rfl | exact .inr rfl | exact .inr (.inl rfl) | decide | decide +kernel | (intro _; rfl)))) (@pss_one _ _ _ (@ps_ret _ _ _ _ (@pe_tup _ _ _ _ _ (@pa_cons _ _ _ _ _ (@pe_bl _ _ _ _) (@pa_cons _ _ _ _ _ (@pe_int _ _ _ _) (@pa_cons _ _ _ _ _ (@pe_int _ _ _ _) (@pa_nil _) (by first | rfl | exact .inl rfl | exact .inr rfl | exact .inr (.inl rfl) | decide | decide +kernel | (intro _; rfl))) (by first | rfl | exact .inl rfl | exact .inr rfl | exact .inr (.inl rfl) | decide | decide +kernel | (intro _; rfl))) (by first | rfl | exact .inl rfl | exact .inr rfl | exact .inr (.inl rfl) | decide | decide +kernel | (intro _; rfl)))))) (@pss_nil _)) (@pss_cons _ _ _ _ _ (@ps_setLC _ _ (["part"]) (1) ([]) (2) _ _ _ _ _ _ _ _ _ _ _ _ sc_law_measure.nd rfl (Or.inl rfl) (lcs0) rfl (@pi_tupB _ _ _ _ (pv 0)) (fun _ _ _ _ _ _ => (@pg_name _ _ (0) _ (show List.Nodup (["part"] : List Str) by decide +kernel) rfl (Or.inl rfl) (by first | rfl | exact .inl rfl | exact .inr rfl | exact .inr (.inl rfl) | decide | decide +kernel | (intro _; rfl)))) (fun _ _ _ _ _ _ => @pif_nil _) (fun _ _ _ _ _ _ => (@pe_call _ _ _ _ _ _ _ _ _ _ _ _ _ _ _ _ G_law_measure (hr.mono (by first | decide | omega)) (by rfl) T.m_law_measure T.F_law_measure.kp T.b_law_measure .nil pass0 (@pa_cons _ _ _ _ _ (pv 0) (@pa_nil _) (by first | rfl | exact .inl rfl | exact .inr rfl | exact .inr (.inl rfl) | decide | decide +kernel | (intro _; rfl))) (by first | rfl | exact .inl rfl | exact .inr rfl | exact .inr (.inl rfl) | decide | decide +kernel | (intro _; rfl)) (by first | rfl | exact .inl rfl | exact .inr rfl | exact .inr (.inl rfl) | decide | decide +kernel | (intro _; rfl)) (by first | rfl | exact .inl rfl | exact .inr rfl | exact .inr (.inl rfl) | decide | decide +kernel | (intro _; rfl)))) (by first | rfl | exact .inl rfl | exact .inr rfl | exact .inr (.inl rfl) | decide | decide +kernel | (intro _; rfl)) (by first | rfl | exact .inl rfl | exact .inr rfl | exact .inr (.inl rfl) | decide | decide +kernel | (intro _; rfl)) (by first | rfl | exact .inl rfl | exact .inr rfl | exact .inr (.inl rfl) | decide | decide +kernel | (intro _; rfl))) (@pss_cons _ _ _ _ _ (@ps_set _ _ (3) _ _ _ _ sc_law_measure.nd rfl (Or.inl rfl) (@pe_and _ _ _ _ _ _ _ (@pe_cmpR _ _ _ _ _ _ _ _ (@op_le _) (@pe_callB _ _ _ _ _ _ _ _ _ (@call_len _) (by rfl) T.z_len PySem.boot_len (@pa_cons _ _ _ _ _ (pv 0) (@pa_nil _) (by first | rfl | exact .inl rfl | exact .inr rfl | exact .inr (.inl rfl) | decide | decide +kernel | (intro _; rfl))) (by first | rfl | exact .inl rfl | exact .inr rfl | exact .inr (.inl rfl) | decide | decide +kernel | (intro _; rfl)) (by first | rfl | exact .inl rfl | exact .inr rfl | exact .inr (.inl rfl) | decide | decide +kernel | (intro _; rfl)) (by first | rfl | exact .inl rfl | exact .inr rfl | exact .inr (.inl rfl) | decide | decide +kernel | (intro _; rfl)) (by first | rfl | exact .inl rfl | exact .inr rfl | exact .inr (.inl rfl) | decide | decide +kernel | (intro _; rfl))) (@pe_int _ _ _ _) (nomark _)) (@pe_one _ _ _ _ _ (@pe_callB _ _ _ _ _ _ _ _ _ (@call_allL _ rfl) (by rfl) T.z_all boot_all (@pa_cons _ _ _ _ _ (@pe_lc _ _ (["part"]) (1) ([]) _ _ _ _ _ _ _ _ _ (lcs0) rfl (@pi_list _ _ _ _ (pv 2)) (fun _ _ _ _ _ _ => (@pg_name _ _ (0) _ (show List.Nodup (["part"] : List Str) by decide +kernel) rfl (Or.inl rfl) (by first | rfl | exact .inl rfl | exact .inr rfl | exact .inr (.inl rfl) | decide | decide +kernel | (intro _; rfl)))) (fun _ _ _ _ _ _ => @pif_nil _) (fun _ _ _ _ _ _ => (@pe_ix _ _ _ _ _ _ _ (@ix_tupK _ (K) rfl) (pv 0) (@pe_int _ _ _ _) (fun _ _ => rfl))) (by first | rfl | exact .inl rfl | exact .inr rfl | exact .inr (.inl rfl) | decide | decide +kernel | (intro _; rfl))) (@pa_nil _) (by first | rfl | exact .inl rfl | exact .inr rfl | exact .inr (.inl rfl) | decide | decide +kernel | (intro _; rfl))) (by first | rfl | exact .inl rfl | exact .inr rfl | exact .inr (.inl rfl) | decide | decide +kernel | (intro _; rfl)) (by first | rfl | exact .inl rfl | exact .inr rfl | exact .inr (.inl rfl) | decide | decide +kernel | (intro _; rfl)) (by first | rfl | exact .inl rfl | exact .inr rfl | exact .inr (.inl rfl) | decide | decide +kernel | (intro _; rfl)) (by first | rfl | exact .inl rfl | exact .inr rfl | exact .inr (.inl rfl) | decide | decide +kernel | (intro _; rfl))))) (by first | rfl | exact .inl rfl | exact .inr rfl | exact .inr (.inl rfl) | decide | decide +kernel | (intro _; rfl)) (by first | rfl | exact .inl rfl | exact .inr rfl | exact .inr (.inl rfl) | decide | decide +kernel | (intro _; rfl))) (@pss_one _ _ _ (@ps_ret _ _ _ _ (@pe_tup _ _ _ _ _ (@pa_cons _ _ _ _ _ (pv 3) (@pa_cons _ _ _ _ _ (@pe_op _ _ _ _ _ _ _ _ (@op_add _) (@pe_int _ _ _ _) (@pe_callB _ _ _ _ _ _ _ _ _ (@call_sumL _ rfl) (by rfl) T.z_sum boot_sum (@pa_cons _ _ _ _ _ (@pe_lc _ _ (["part"]) (1) ([]) _ _ _ _ _ _ _ _ _ (lcs0) rfl (@pi_list _ _ _ _ (pv 2)) (fun _ _ _ _ _ _ => (@pg_name _ _ (0) _ (show List.Nodup (["part"] : List Str) by decide +kernel) rfl (Or.inl rfl) (by first | rfl | exact .inl rfl | exact .inr rfl | exact .inr (.inl rfl) | decide | decide +kernel | (intro _; rfl)))) (fun _ _ _ _ _ _ => @pif_nil _) (fun _ _ _ _ _ _ => (@pe_ix _ _ _ _ _ _ _ (@ix_tupK _ (K) rfl) (pv 0) (@pe_int _ _ _ _) (fun _ _ => rfl))) (by first | rfl | exact .inl rfl | exact .inr rfl | exact .inr (.inl rfl) | decide | decide +kernel | (intro _; rfl))) (@pa_nil _) (by first | rfl | exact .inl rfl | exact .inr rfl | exact .inr (.inl rfl) | decide | decide +kernel | (intro _; rfl))) (by first | rfl | exact .inl rfl | exact .inr rfl | exact .inr (.inl rfl) | decide | decide +kernel | (intro _; rfl)) (by first | rfl | exact .inl rfl | exact .inr rfl | exact .inr (.inl rfl) | decide | decide +kernel | (intro _; rfl)) (by first | rfl | exact .inl rfl | exact .inr rfl | exact .inr (.inl rfl) | decide | decide +kernel | (intro _; rfl)) (by first | rfl | exact .inl rfl | exact .inr rfl | exact .inr (.inl rfl) | decide | decide +kernel | (intro _; rfl)))) (@pa_cons _ _ _ _ _ (@pe_op _ _ _ _ _ _ _ _ (@op_add _) (@pe_int _ _ _ _) (@pe_maxD _ _ _ _ _ _ _ _ rfl (by rfl) T.z_max (@pe_lc _ _ (["part"]) (1) ([]) _ _ _ _ _ _ _ _ _ (lcs0) rfl (@pi_list _ _ _ _ (pv 2)) (fun _ _ _ _ _ _ => (@pg_name _ _ (0) _ (show List.Nodup (["part"] : List Str) by decide +kernel) rfl (Or.inl rfl) (by first | rfl | exact .inl rfl | exact .inr rfl | exact .inr (.inl rfl) | decide | decide +kernel | (intro _; rfl)))) (fun _ _ _ _ _ _ => @pif_nil _) (fun _ _ _ _ _ _ => (@pe_ix _ _ _ _ _ _ _ (@ix_tupK _ (K) rfl) (pv 0) (@pe_int _ _ _ _) (fun _ _ => rfl))) (by first | rfl | exact .inl rfl | exact .inr rfl | exact .inr (.inl rfl) | decide | decide +kernel | (intro _; rfl))) (@pe_int _ _ _ _) (by first | rfl | exact .inl rfl | exact .inr rfl | exact .inr (.inl rfl) | decide | decide +kernel | (intro _; rfl)))) (@pa_nil _) (by first | rfl | exact .inl rfl | exact .inr rfl | exact .inr (.inl rfl) | decide | decide +kernel | (intro _; rfl))) (by first | rfl | exact .inl rfl | exact .inr rfl | exact .inr (.inl rfl) | decide | decide +kernel | (intro _; rfl))) (by first | rfl | exact .inl rfl | exact .inr rfl | exact .inr (.inl rfl) | decide | decide +kernel | (intro _; rfl)))))))))), ?_⟩
  refine ⟨_, rfl, v, "str", tyD d, isStr d, rfl, hv.ty, kit_str d, _, rfl, ?_⟩
  have other : isStr d = false → isTup d = false → good d = false ∧ sz d = 0 ∧ dp d = 0 := by
    intro h1 h2
    cases d <;> simp_all [isStr, isTup, good, sz, dp]
  have fin : ∀ (p : Addr) (H' : Hp) (g : Bool) (m n : Int), Same H H' → H' p = none → g = good d → m = (sz d : Int) → n = (dp d : Int) → Q (.ref p) (upd H' p (.tup [.bl g, .int m, .int n])) := fun p H' g m n sm hp e1 e2 e3 => by
    subst e1 e2 e3
    exact k _ _ (sm.trans (same_new hp _)) (Is.new (ds := [.bl (good d), .int (sz d : Int), .int (dp d : Int)]) ⟨_, _, rfl, rfl, _, _, rfl, rfl, _, _, rfl, rfl, rfl⟩ hp)
  cases hs : isStr d with
  | true =>
    refine iteT ?_
    cases d with
    | str z =>
      obtain ⟨rfl, hz⟩ := hv
      refine ⟨rfl, _, rfl, _, z.length, rfl, ⟨hz, rfl⟩, _, _, rfl, rfl, _, rfl, ?_⟩
      have rest : ∀ (b : Bool) (H' : Hp), Same H H' → b = okText z → ∃ v, [some (V.str z), some (V.str SGN), none, none][0]? = some (some v) ∧ ∃ x n, [v] = [x] ∧ LenV K x H' n ∧ ∃ i j, V.int (n : Int) = V.int i ∧ V.int 1 = V.int j ∧ [V.bl b, V.int (i + j), V.int 1].length ≤ sizeLine ∧ ∀ p, H' p = none → Q (.ref p) (upd H' p (.tup [V.bl b, V.int (i + j), V.int 1])) := fun b H' sm e =>
        ⟨_, rfl, _, z.length, rfl, ⟨hz, rfl⟩, _, _, rfl, rfl, (by show 3 ≤ sizeLine; decide), fun p hp => fin p H' b _ _ sm hp (by rw [e]; simp only [good]) (by simp only [sz]; omega) (by simp only [dp]; rfl)⟩
      refine ite2 (fun c => ?_) (fun c => ?_)
      · have c' : (z.length : Int) ≤ 300 := of_decide_eq_true c
        refine ⟨_, rfl, z, rfl, fun A0 hA0 => ?_⟩
        refine lc_str (tl := [some (.str SGN)]) (fun c => .bl (inS ⟨#[c]⟩ SGN)) hz hA0 (fun i c H' R hc sm r => ⟨_, rfl, _, rfl, _, _, rfl, rfl, r⟩) fun H' sm hl => ?_
        refine ⟨A0, z.cps.toList.map fun c => inS ⟨#[c]⟩ SGN, rfl, SqL.of (by rw [hl, List.map_map]; rfl), ?_⟩
        refine rest _ H' sm ?_
        unfold okText
        rw [decide_eq_true (by omega), Bool.true_and, List.all_map]
        congr 1
        funext c
        exact sgn_ok c
      · have c' : ¬ (z.length : Int) ≤ 300 := fun q => c (decide_eq_true q)
        exact rest false H (Same.refl _) (by rw [okText_long (by omega)])
    | _ => simp [isStr] at hs
  | false =>
    refine iteF ?_
    refine ⟨_, rfl, v, "tuple", tyD d, isTup d, rfl, hv.ty, kit_tup d, _, rfl, ?_⟩
    cases ht : isTup d with
    | false =>
      obtain ⟨o1, o2, o3⟩ := other hs ht
      refine iteT ⟨(by show 3 ≤ sizeLine; decide), fun p hp => fin p H false 0 0 (Same.refl _) hp o1.symm (by rw [o2]; rfl) (by rw [o3]; rfl)⟩
    | true =>
      refine iteF ?_
      cases d with
      | tup xs =>
        obtain ⟨a0, vs, rfl, ha0, hvs⟩ := hv
        have lv := hvs.length
        have e1 : dp (.tup xs) = 1 + dpL xs := by simp only [dp]
        have e2 : sz (.tup xs) = 1 + szL xs := by simp only [sz]
        have e3 : good (.tup xs) = (decide (xs.length ≤ 40) && goodL xs) := by simp only [good]
        refine ⟨_, rfl, a0, vs, rfl, SqT.of ha0, fun hvl A0 hA0 => ?_⟩
        have hxl : xs.length ≤ sizeLine := by omega
        refine lc_tupS (tl := []) mea ha0 hvs hxl hA0 (fun d0 x0 H3 R hd0 s3 i3 r => ?_) fun H1 ys s1 l1 i1 => ?_
        · refine ⟨_, rfl, x0, d0, rfl, i3, ?_, fun u H4 s4 h4 => r u H4 s4 h4⟩
          have := dp_row hd0
          omega
        have hml : (xs.map mea).length ≤ sizeLine := by rw [List.length_map]; exact hxl
        have part : ∀ (f : D → D) (i : Int) (hf : ∀ d, atI [D.bl (good d), D.int (sz d : Int), D.int (dp d : Int)] i = some (f (mea d))) (H3 : Hp) (R : VK) (d0 : D) (x0 : V), d0 ∈ xs.map mea → Is H3 d0 x0 → (∀ y H', Same H3 H' → Is H' (f d0) y → R y H') → rIxT K x0 (.int i) H3 R := fun f i hf H3 R d0 x0 hm hx r => by
          obtain ⟨d1, _, rfl⟩ := List.mem_map.mp hm
          exact ix_is (i := i) hx (hf d1) fun y hy => r y H3 (Same.refl _) hy
        refine ⟨_, rfl, _, vs.length, rfl, .inr ⟨vs, SqT.of (s1 _ _ ha0), rfl⟩, _, _, rfl, rfl, _, rfl, ?_⟩
        refine ite2 (fun c => ?_) (fun c => ?_)
        · have c' : (vs.length : Int) ≤ 40 := of_decide_eq_true c
          refine ⟨_, rfl, A0, rfl, ⟨_, SqL.of l1⟩, fun A1 hA1 => ?_⟩
          refine lc_lstS (tl := []) comp0 l1 i1 hml hA1 (fun d0 x0 H3 R hd0 s3 i3 r => ⟨_, rfl, part comp0 0 (fun _ => rfl) H3 R d0 x0 hd0 i3 r⟩) fun H2 ys2 s2 l2 i2 => ?_
          have ey : ys2 = (xs.map good).map V.bl := IsL.bls (by rw [List.map_map] at i2 ⊢; exact i2)
          refine ⟨A1, xs.map good, rfl, SqL.of (by rw [l2, ey]), ?_⟩
          have hb : (xs.map good).all id = good (.tup xs) := by rw [e3, all_map_good, decide_eq_true (by omega), Bool.true_and]
          refine ⟨_, rfl, _, rfl, A0, rfl, ⟨_, SqL.of (s2 _ _ l1)⟩, fun A2 hA2 => ?_⟩
          refine lc_lstS (tl := []) comp1 (s2 _ _ l1) (i1.mono s2.tk) hml hA2 (fun d0 x0 H3 R hd0 s3 i3 r => ⟨_, rfl, part comp1 1 (fun _ => rfl) H3 R d0 x0 hd0 i3 r⟩) fun H5 ys5 s5 l5 i5 => ?_
          have ey5 : ys5 = (xs.map fun d => (sz d : Int)).map V.int := IsL.ints (by rw [List.map_map] at i5 ⊢; exact i5)
          refine ⟨A2, xs.map fun d => (sz d : Int), rfl, SqL.of (by rw [l5, ey5]), _, _, rfl, rfl, ?_⟩
          refine ⟨_, rfl, A0, rfl, ⟨_, SqL.of (s5 _ _ (s2 _ _ l1))⟩, fun A3 hA3 => ?_⟩
          refine lc_lstS (tl := []) comp2 (s5 _ _ (s2 _ _ l1)) (i1.mono (s2.trans s5).tk) hml hA3 (fun d0 x0 H3 R hd0 s3 i3 r => ⟨_, rfl, part comp2 2 (fun _ => rfl) H3 R d0 x0 hd0 i3 r⟩) fun H6 ys6 s6 l6 i6 => ?_
          have ey6 : ys6 = (xs.map fun d => (dp d : Int)).map V.int := IsL.ints (by rw [List.map_map] at i6 ⊢; exact i6)
          refine ⟨A3, xs.map fun d => (dp d : Int), 0, rfl, rfl, SqL.of (by rw [l6, ey6]), _, _, rfl, rfl, (by show 3 ≤ sizeLine; decide), fun p hp => ?_⟩
          exact fin p H6 _ _ _ (s1.trans (s2.trans (s5.trans s6))) hp hb (by rw [sum_sz, e2]; omega) (by rw [maxOr_dp, e1]; omega)
        · have c' : ¬ (vs.length : Int) ≤ 40 := fun q => c (decide_eq_true q)
          have hb : false = good (.tup xs) := by rw [e3, decide_eq_false (by omega), Bool.false_and]
          have s2 : Same H1 H1 := Same.refl _
          refine ⟨_, rfl, _, rfl, A0, rfl, ⟨_, SqL.of (s2 _ _ l1)⟩, fun A2 hA2 => ?_⟩
          refine lc_lstS (tl := []) comp1 (s2 _ _ l1) (i1.mono s2.tk) hml hA2 (fun d0 x0 H3 R hd0 s3 i3 r => ⟨_, rfl, part comp1 1 (fun _ => rfl) H3 R d0 x0 hd0 i3 r⟩) fun H5 ys5 s5 l5 i5 => ?_
          have ey5 : ys5 = (xs.map fun d => (sz d : Int)).map V.int := IsL.ints (by rw [List.map_map] at i5 ⊢; exact i5)
          refine ⟨A2, xs.map fun d => (sz d : Int), rfl, SqL.of (by rw [l5, ey5]), _, _, rfl, rfl, ?_⟩
          refine ⟨_, rfl, A0, rfl, ⟨_, SqL.of (s5 _ _ (s2 _ _ l1))⟩, fun A3 hA3 => ?_⟩
          refine lc_lstS (tl := []) comp2 (s5 _ _ (s2 _ _ l1)) (i1.mono (s2.trans s5).tk) hml hA3 (fun d0 x0 H3 R hd0 s3 i3 r => ⟨_, rfl, part comp2 2 (fun _ => rfl) H3 R d0 x0 hd0 i3 r⟩) fun H6 ys6 s6 l6 i6 => ?_
          have ey6 : ys6 = (xs.map fun d => (dp d : Int)).map V.int := IsL.ints (by rw [List.map_map] at i6 ⊢; exact i6)
          refine ⟨A3, xs.map fun d => (dp d : Int), 0, rfl, rfl, SqL.of (by rw [l6, ey6]), _, _, rfl, rfl, (by show 3 ≤ sizeLine; decide), fun p hp => ?_⟩
          exact fin p H6 _ _ _ (s1.trans (s2.trans (s5.trans s6))) hp hb (by rw [sum_sz, e2]; omega) (by rw [maxOr_dp, e1]; omega)
      | _ => simp [isTup] at ht
theorem ok_measure (T : Tx K mg a) : ∀ n : Nat, FnOk P w K mg base CX0 (n + 1) a.f_law_measure a.d_law_measure ["value"] (sp_measure n)
  | 0 => measure_none
  | n + 1 => ok_measure1 T (ok_measure T n)
theorem ok_lis_tree (T : Tx K mg a) : FnOk P w K mg base CX0 203 a.f_law_is_tree a.d_law_is_tree ["value"] sp_lis_tree := by
  have G_law_measure : FnOk P w K mg base CX0 202 a.f_law_measure a.d_law_measure ["value"] (sp_measure 201) := ok_measure T 201
  refine T.F_law_is_tree.ok sc_law_is_tree (fun vs H Q E h => ?_) (fun cdv A outer s H vs Q E hr h => ?_)
  · obtain ⟨v, d, rfl, _⟩ := h
    rfl
  obtain ⟨v, d, rfl, hv, hd, k⟩ := h
  refine ⟨_, (@pss_cons _ _ _ _ _ (@ps_asg _ _ _ _ _ _ (@pe_call _ _ _ _ _ _ _ _ _ _ _ _ _ _ _ _ G_law_measure (hr.mono (by first | decide | omega)) (by rfl) T.m_law_measure T.F_law_measure.kp T.b_law_measure .nil pass0 (@pa_cons _ _ _ _ _ (pv 0) (@pa_nil _) (by first | rfl | exact .inl rfl | exact .inr rfl | exact .inr (.inl rfl) | decide | decide +kernel | (intro _; rfl))) (by first | rfl | exact .inl rfl | exact .inr rfl | exact .inr (.inl rfl) | decide | decide +kernel | (intro _; rfl)) (by first | rfl | exact .inl rfl | exact .inr rfl | exact .inr (.inl rfl) | decide | decide +kernel | (intro _; rfl)) (by first | rfl | exact .inl rfl | exact .inr rfl | exact .inr (.inl rfl) | decide | decide +kernel | (intro _; rfl))) (@pg_tup _ _ _ _ _ _ rfl (pgs_cons (@pg_name _ _ (1) _ sc_law_is_tree.nd rfl (Or.inl rfl) (by first | rfl | exact .inl rfl | exact .inr rfl | exact .inr (.inl rfl) | decide | decide +kernel | (intro _; rfl))) (pgs_cons (@pg_name _ _ (2) _ sc_law_is_tree.nd rfl (Or.inl rfl) (by first | rfl | exact .inl rfl | exact .inr rfl | exact .inr (.inl rfl) | decide | decide +kernel | (intro _; rfl))) (pgs_cons (@pg_name _ _ (3) _ sc_law_is_tree.nd rfl (Or.inl rfl) (by first | rfl | exact .inl rfl | exact .inr rfl | exact .inr (.inl rfl) | decide | decide +kernel | (intro _; rfl))) pgs_nil))) (by first | rfl | exact .inl rfl | exact .inr rfl | exact .inr (.inl rfl) | decide | decide +kernel | (intro _; rfl)) (by first | rfl | exact .inl rfl | exact .inr rfl | exact .inr (.inl rfl) | decide | decide +kernel | (intro _; rfl))) (by first | rfl | exact .inl rfl | exact .inr rfl | exact .inr (.inl rfl) | decide | decide +kernel | (intro _; rfl)) (by first | rfl | exact .inl rfl | exact .inr rfl | exact .inr (.inl rfl) | decide | decide +kernel | (intro _; rfl)) (by first | rfl | exact .inl rfl | exact .inr rfl | exact .inr (.inl rfl) | decide | decide +kernel | (intro _; rfl))) (@pss_one _ _ _ (@ps_ret _ _ _ _ (@pe_and _ _ _ _ _ _ _ (pv 1) (@pe_and _ _ _ _ _ _ _ (@pe_cmpR _ _ _ _ _ _ _ _ (@op_le _) (pv 2) (@pe_int _ _ _ _) (nomark _)) (@pe_one _ _ _ _ _ (@pe_cmpR _ _ _ _ _ _ _ _ (@op_le _) (pv 3) (@pe_int _ _ _ _) (nomark _)))))))), ?_⟩
  refine ⟨_, rfl, v, d, rfl, hv, by omega, fun u H1 s1 hu => ?_⟩
  obtain ⟨p, us, rfl, hp, x1, r1, rfl, e1, x2, r2, rfl, e2, x3, r3, rfl, e3, e4⟩ := hu
  cases (show x1 = _ from e1)
  cases (show x2 = _ from e2)
  cases (show x3 = _ from e3)
  cases (show r3 = [] from e4)
  refine ⟨p, _, rfl, SqT.of hp, rfl, _, _, rfl, _, _, rfl, _, _, rfl, rfl, ?_⟩
  refine ⟨_, rfl, _, rfl, ?_⟩
  have q := k H1 s1
  unfold isT at q
  cases hg : good d with
  | false =>
    rw [hg] at q
    exact iteF q
  | true =>
    rw [hg] at q
    refine iteT ⟨_, rfl, _, _, rfl, rfl, _, rfl, ?_⟩
    refine ite2 (fun c => ⟨_, rfl, _, _, rfl, rfl, ?_⟩) (fun c => ?_)
    · have c' : (sz d : Int) ≤ 600 := of_decide_eq_true c
      have e : decide ((dp d : Int) ≤ 12) = decide (dp d ≤ 12) := by rw [decide_eq_decide]; omega
      rw [decide_eq_true (p := sz d ≤ 600) (by omega)] at q
      show Q (.bl (decide ((dp d : Int) ≤ 12))) H1
      rw [e]
      exact q
    · have c' : ¬ (sz d : Int) ≤ 600 := fun z => c (decide_eq_true z)
      rw [decide_eq_false (p := sz d ≤ 600) (by omega)] at q
      exact q
end
end K03

set_option Elab.async false
set_option linter.all false
set_option maxRecDepth 100000
set_option maxHeartbeats 4000000
namespace K03
open PySem L2 PyProof.Rows
theorem lwL_mem : ∀ {xs : List D} {x : D}, lwL xs = true → x ∈ xs → lw x = true
  | [], _, _, h => nomatch h
  | y :: r, x, h, hx => by
    have h' : lw y = true ∧ lwL r = true := by simpa [lwL] using h
    rcases List.mem_cons.mp hx with rfl | hx
    · exact h'.1
    · exact lwL_mem h'.2 hx
theorem len_cps (z : Str) : z.length = z.cps.toList.length := by show z.cps.size = _; simp
theorem isT_short {z : Str} (h : okAll z = true) (hl : z.length ≤ 300) : isT (.str z) = true := by
  have hg : okText z = true := by
    unfold okText
    rw [decide_eq_true hl, Bool.true_and]
    exact h
  have e1 : sz (.str z) ≤ 600 := by simp only [sz]; omega
  have e2 : dp (.str z) ≤ 12 := by simp only [dp]; omega
  have e3 : good (.str z) = true := by simp only [good]; exact hg
  unfold isT
  rw [e3, decide_eq_true e1, decide_eq_true e2]
  rfl
theorem isT_nil : isT (.tup []) = true := by decide +kernel
theorem isT_dp {d : D} (h : isT d = true) : dp d ≤ 12 := by
  unfold isT at h
  simp only [Bool.and_eq_true, decide_eq_true_eq] at h
  exact h.2
theorem isT_sz {d : D} (h : isT d = true) : sz d ≤ 600 := by
  unfold isT at h
  simp only [Bool.and_eq_true, decide_eq_true_eq] at h
  exact h.1.2
def mz (d : D) : Nat := 2 * dp d + if isT d = true then 0 else 1
def sp_good : Sp := fun vs H Q _ => ∃ p, vs = [.ref p] ∧ PotAt H p ∧ ∀ (v : V) (d : D) (H' : Hp), Is H' d v → lw d = true → isT d = true → cnt d ≤ 173 → PotAt H' p → Kept p H H' → Q v H'
section
variable {P : Program} {w : World} {K : PySem.W.Frag} {mg : Str → Option Value} {base : Heap} {a : Ad}
theorem ok_good (T : Tx K mg a) : FnOk P w K mg base CX0 204 a.f_law_good_tree a.d_law_good_tree ["pot"] sp_good := by
  have G_law_take : FnOk P w K mg base CX0 1 a.f_law_take a.d_law_take ["pot", "many"] sp_take := ok_take T
  have G_law_tree : FnOk P w K mg base CX0 6 a.f_law_tree a.d_law_tree ["pot", "deep"] (sp_tree 4) := ok_tree T 4
  have G_law_is_tree : FnOk P w K mg base CX0 203 a.f_law_is_tree a.d_law_is_tree ["value"] sp_lis_tree := ok_lis_tree T
  refine T.F_law_good_tree.ok sc_law_good_tree (fun vs H Q E h => ?_) (fun cdv A outer s H vs Q E hr h => ?_)
  · obtain ⟨p, rfl, _⟩ := h
    rfl
  obtain ⟨p, rfl, P0, k⟩ := h
  have hs := sizeLine_eq
  refine ⟨_, (@pss_cons _ _ _ _ _ (@ps_set _ _ (1) _ _ _ _ sc_law_good_tree.nd rfl (Or.inl rfl) (@pe_call _ _ _ _ _ _ _ _ _ _ _ _ _ _ _ _ G_law_tree (hr.mono (by first | decide | omega)) (by rfl) T.m_law_tree T.F_law_tree.kp T.b_law_tree .nil pass0 (@pa_cons _ _ _ _ _ (pv 0) (@pa_cons _ _ _ _ _ (@pe_int _ _ _ _) (@pa_nil _) (by first | rfl | exact .inl rfl | exact .inr rfl | exact .inr (.inl rfl) | decide | decide +kernel | (intro _; rfl))) (by first | rfl | exact .inl rfl | exact .inr rfl | exact .inr (.inl rfl) | decide | decide +kernel | (intro _; rfl))) (by first | rfl | exact .inl rfl | exact .inr rfl | exact .inr (.inl rfl) | decide | decide +kernel | (intro _; rfl)) (by first | rfl | exact .inl rfl | exact .inr rfl | exact .inr (.inl rfl) | decide | decide +kernel | (intro _; rfl)) (by first | rfl | exact .inl rfl | exact .inr rfl | exact .inr (.inl rfl) | decide | decide +kernel | (intro _; rfl))) (by first | rfl | exact .inl rfl | exact .inr rfl | exact .inr (.inl rfl) | decide | decide +kernel | (intro _; rfl)) (by first | rfl | exact .inl rfl | exact .inr rfl | exact .inr (.inl rfl) | decide | decide +kernel | (intro _; rfl))) (@pss_cons _ _ _ _ _ (@ps_while _ _ _ _ _ _ PassesOwn.never (@pt_not _ _ _ _ (@pt_val _ _ _ (@pe_call _ _ _ _ _ _ _ _ _ _ _ _ _ _ _ _ G_law_is_tree (hr.mono (by first | decide | omega)) (by rfl) T.m_law_is_tree T.F_law_is_tree.kp T.b_law_is_tree .nil pass0 (@pa_cons _ _ _ _ _ (pv 1) (@pa_nil _) (by first | rfl | exact .inl rfl | exact .inr rfl | exact .inr (.inl rfl) | decide | decide +kernel | (intro _; rfl))) (by first | rfl | exact .inl rfl | exact .inr rfl | exact .inr (.inl rfl) | decide | decide +kernel | (intro _; rfl)) (by first | rfl | exact .inl rfl | exact .inr rfl | exact .inr (.inl rfl) | decide | decide +kernel | (intro _; rfl)) (by first | rfl | exact .inl rfl | exact .inr rfl | exact .inr (.inl rfl) | decide | decide +kernel | (intro _; rfl))) (by first | rfl | exact .inl rfl | exact .inr rfl | exact .inr (.inl rfl) | decide | decide +kernel | (intro _; rfl)))) (@pss_one _ _ _ (@ps_set _ _ (1) _ _ _ _ sc_law_good_tree.nd rfl (Or.inl rfl) (@pe_ix _ _ _ _ _ _ _ (@ix_seq _) (pv 1) (@pe_call _ _ _ _ _ _ _ _ _ _ _ _ _ _ _ _ G_law_take (hr.mono (by first | decide | omega)) (by rfl) T.m_law_take T.F_law_take.kp T.b_law_take .nil pass0 (@pa_cons _ _ _ _ _ (pv 0) (@pa_cons _ _ _ _ _ (@pe_callB _ _ _ _ _ _ _ _ _ (@call_lenZ _) (by rfl) T.z_len PySem.boot_len (@pa_cons _ _ _ _ _ (pv 1) (@pa_nil _) (by first | rfl | exact .inl rfl | exact .inr rfl | exact .inr (.inl rfl) | decide | decide +kernel | (intro _; rfl))) (by first | rfl | exact .inl rfl | exact .inr rfl | exact .inr (.inl rfl) | decide | decide +kernel | (intro _; rfl)) (by first | rfl | exact .inl rfl | exact .inr rfl | exact .inr (.inl rfl) | decide | decide +kernel | (intro _; rfl)) (by first | rfl | exact .inl rfl | exact .inr rfl | exact .inr (.inl rfl) | decide | decide +kernel | (intro _; rfl)) (by first | rfl | exact .inl rfl | exact .inr rfl | exact .inr (.inl rfl) | decide | decide +kernel | (intro _; rfl))) (@pa_nil _) (by first | rfl | exact .inl rfl | exact .inr rfl | exact .inr (.inl rfl) | decide | decide +kernel | (intro _; rfl))) (by first | rfl | exact .inl rfl | exact .inr rfl | exact .inr (.inl rfl) | decide | decide +kernel | (intro _; rfl))) (by first | rfl | exact .inl rfl | exact .inr rfl | exact .inr (.inl rfl) | decide | decide +kernel | (intro _; rfl)) (by first | rfl | exact .inl rfl | exact .inr rfl | exact .inr (.inl rfl) | decide | decide +kernel | (intro _; rfl)) (by first | rfl | exact .inl rfl | exact .inr rfl | exact .inr (.inl rfl) | decide | decide +kernel | (intro _; rfl))) (fun _ _ => rfl)) (by first | rfl | exact .inl rfl | exact .inr rfl | exact .inr (.inl rfl) | decide | decide +kernel | (intro _; rfl)) (by first | rfl | exact .inl rfl | exact .inr rfl | exact .inr (.inl rfl) | decide | decide +kernel | (intro _; rfl))))) (@pss_one _ _ _ (@ps_ret _ _ _ _ (pv 1))))), ?_⟩
  refine ⟨_, rfl, p, 3, rfl, by omega, P0, fun v d H1 hv hlw hd hcn P1 K1 => ?_⟩
  refine ⟨fun m σ H' => ∃ (v : V) (d : D), σ = [some (.ref p), some v] ∧ Is H' d v ∧ lw d = true ∧ dp d ≤ 37 ∧ cnt d ≤ 173 ∧ PotAt H' p ∧ Kept p H H' ∧ m = mz d, ⟨_, v, d, rfl, hv, hlw, by omega, by simpa [gB] using hcn, P1, K1, rfl⟩, ?_⟩
  rintro m σ H' ⟨v, d, rfl, hv, hlw, hd, hcn, P', K', rfl⟩
  refine ⟨_, rfl, v, d, rfl, hv, by omega, fun H2 s2 => ⟨_, rfl, ?_⟩⟩
  have P2 := P'.same s2
  have K2 : Kept p H H2 := K'.trans s2.kept
  have hv2 := hv.mono s2.tk
  cases hT : isT d with
  | true => exact iteF ⟨_, rfl, k v d H2 hv2 hlw hT hcn P2 K2⟩
  | false =>
    have em : mz d = 2 * dp d + 1 := by unfold mz; rw [hT]; rfl
    refine iteT ⟨fun σ' H' => ∃ (v : V) (e : D), σ' = [some (.ref p), some v] ∧ Is H' e v ∧ lw e = true ∧ dp e ≤ 37 ∧ cnt e ≤ 173 ∧ PotAt H' p ∧ Kept p H H' ∧ mz e < mz d, ?_, ?_⟩
    · rintro σ' H3 ⟨v3, e, rfl, h3, l3, d3, c3, P3, K3, lt⟩
      exact ⟨_, lt, v3, e, rfl, h3, l3, d3, c3, P3, K3, rfl⟩
    · cases d with
      | str z =>
        obtain ⟨rfl, hz⟩ := id hv2
        have hok : okAll z = true := by simpa only [lw] using hlw
        have hlen : 300 < z.length := by
          rcases Nat.lt_or_ge 300 z.length with h | h
          · exact h
          · rw [isT_short hok h] at hT
            cases hT
        refine ⟨_, rfl, _, rfl, _, rfl, .inl ⟨z, rfl, hz, p, _, rfl, P2, by omega, by omega, fun i H3 a3 b3 P3 K3 => ?_⟩⟩
        obtain ⟨c, hc⟩ := atI_some (xs := z.cps.toList) (i := i) a3 (by rw [← len_cps]; exact b3)
        have hcs : okSign c = true := List.all_eq_true.mp hok c (atI_mem hc)
        have hoc : okAll ⟨#[c]⟩ = true := by show ([c].all okSign) = true; rw [List.all_cons, List.all_nil, hcs]; rfl
        refine .inr (.inr ⟨z, i, c, rfl, rfl, hz, hc, ⟨_, .str ⟨#[c]⟩, rfl, ⟨rfl, fits (by show 1 ≤ _; omega)⟩, by simpa only [lw] using hoc, by simp only [dp]; omega, by have := br_len ⟨#[c]⟩; simp only [cnt]; exact Nat.le_trans this (by show 1 ≤ 173; omega), P3, K2.trans K3, ?_⟩⟩)
        have e1 : mz (.str ⟨#[c]⟩) = 2 := by
          unfold mz
          rw [isT_short hoc (by show 1 ≤ 300; omega)]
          simp only [dp]
          rfl
        rw [e1, em]
        simp only [dp]
        omega
      | tup xs =>
        obtain ⟨a0, vs, rfl, ha0, hvs⟩ := id hv2
        have lv := hvs.length
        have hne : xs ≠ [] := by
          rintro rfl
          rw [isT_nil] at hT
          cases hT
        have hpos : 0 < xs.length := List.length_pos_iff.mpr hne
        have hll : lwL xs = true := by simpa only [lw] using hlw
        refine ⟨_, rfl, _, rfl, _, rfl, .inr ⟨a0, vs, rfl, .inr (SqT.of ha0), fun hb => ⟨p, _, rfl, P2, by omega, by omega, fun i H3 a3 b3 P3 K3 => ?_⟩⟩⟩
        obtain ⟨e, he⟩ := atI_some (xs := xs) (i := i) a3 (by omega)
        have me : e ∈ xs := atI_mem he
        have de := dp_row me
        refine .inr (.inl (ix_is (hv2.mono (P2.tk P3 K3)) he fun x hx => ⟨x, e, rfl, hx, lwL_mem hll me, by omega, by have := cntL_mem me; simp only [cnt] at hcn; omega, P3, K2.trans K3, ?_⟩))
        rw [em]
        unfold mz
        split <;> omega
      | _ => simp [lw] at hlw
end
end K03

set_option Elab.async false
set_option linter.all false
set_option maxRecDepth 100000
set_option maxHeartbeats 4000000
namespace K03
open PySem L2 PyProof.Rows
/-! ### the text of a tree -/
def swp (c : Nat) (t l : List Nat) : List Nat := l.flatMap fun k => if k = c then t else [k]
theorem swp_free {c : Nat} {t : List Nat} : ∀ {l : List Nat}, c ∉ l → swp c t l = l
  | [], _ => rfl
  | k :: r, h => by
    have h1 : k ≠ c := fun e => h (by simp [e])
    have ih : swp c t r = r := swp_free fun m => h (by simp [m])
    unfold swp at *
    rw [List.flatMap_cons, if_neg h1, ih]
    rfl
theorem swp_app (c : Nat) (t a b : List Nat) : swp c t (a ++ b) = swp c t a ++ swp c t b := List.flatMap_append
theorem swp_join (c : Nat) (t : Str) : ∀ parts : List Str, (∀ p ∈ parts, c ∉ p.cps.toList) → swp c t.cps.toList (Str.join ⟨#[c]⟩ parts).cps.toList = (Str.join t parts).cps.toList
  | [], _ => rfl
  | [p], h => swp_free (h p (by simp))
  | p :: q :: r, h => by
    have ih := swp_join c t (q :: r) fun a ha => h a (List.mem_cons_of_mem _ ha)
    have e1 : (Str.join ⟨#[c]⟩ (p :: q :: r)).cps.toList = p.cps.toList ++ ([c] ++ (Str.join ⟨#[c]⟩ (q :: r)).cps.toList) := by
      show (p ++ ⟨#[c]⟩ ++ Str.join ⟨#[c]⟩ (q :: r)).cps.toList = _
      simp only [Str.cps_append, Array.toList_append, List.append_assoc]
    have e2 : (Str.join t (p :: q :: r)).cps.toList = p.cps.toList ++ (t.cps.toList ++ (Str.join t (q :: r)).cps.toList) := by
      show (p ++ t ++ Str.join t (q :: r)).cps.toList = _
      simp only [Str.cps_append, Array.toList_append, List.append_assoc]
    have e3 : swp c t.cps.toList [c] = t.cps.toList := by simp [swp]
    rw [e1, e2, swp_app, swp_app, ih, e3, swp_free (h p (by simp))]
theorem swp_repl (x t : Str) (c : Nat) : (Txt.replace x ⟨#[c]⟩ t).cps.toList = swp c t.cps.toList x.cps.toList := by
  rw [StrLaws.replace_one, ← swp_join c t _ (StrLaws.split_free x c), StrLaws.join_split]
def esc (l : List Nat) : List Nat := l.flatMap fun k => if k = 92 then [92, 92] else if k = 34 then [92, 34] else [k]
theorem swp_swp : ∀ l : List Nat, swp 34 [92, 34] (swp 92 [92, 92] l) = esc l
  | [] => rfl
  | k :: r => by
    have ih := swp_swp r
    have e1 : swp 92 [92, 92] (k :: r) = (if k = 92 then [92, 92] else [k]) ++ swp 92 [92, 92] r := rfl
    have e2 : esc (k :: r) = (if k = 92 then [92, 92] else if k = 34 then [92, 34] else [k]) ++ esc r := rfl
    rw [e1, e2, swp_app, ih]
    congr 1
    by_cases h : k = 92
    · subst h; rfl
    · by_cases h2 : k = 34
      · subst h2; rfl
      · simp [swp, h, h2]
def bs1 (z : Str) : Str := Txt.replace z "\\" "\\\\"
def bs2 (z : Str) : Str := Txt.replace (bs1 z) "\"" "\\\""
theorem bs2_cps (z : Str) : (bs2 z).cps.toList = esc z.cps.toList := by
  have e1 : (bs1 z).cps.toList = swp 92 [92, 92] z.cps.toList := swp_repl z "\\\\" 92
  have e2 : (bs2 z).cps.toList = swp 34 [92, 34] (bs1 z).cps.toList := swp_repl (bs1 z) "\\\"" 34
  rw [e2, e1, swp_swp]
theorem swp_len (c a b : Nat) : ∀ l : List Nat, (swp c [a, b] l).length ≤ 2 * l.length
  | [] => by simp [swp]
  | k :: r => by
    have ih := swp_len c a b r
    have e1 : swp c [a, b] (k :: r) = (if k = c then [a, b] else [k]) ++ swp c [a, b] r := rfl
    rw [e1, List.length_append, List.length_cons]
    split <;> simp <;> omega
theorem esc_len : ∀ l : List Nat, (esc l).length ≤ 2 * l.length
  | [] => by simp [esc]
  | k :: r => by
    have ih := esc_len r
    have e1 : esc (k :: r) = (if k = 92 then [92, 92] else if k = 34 then [92, 34] else [k]) ++ esc r := rfl
    rw [e1, List.length_append, List.length_cons]
    split
    · simp; omega
    · split <;> simp <;> omega
theorem bs1_len (z : Str) : (bs1 z).length ≤ 2 * z.length := by
  have e1 : (bs1 z).cps.toList = swp 92 [92, 92] z.cps.toList := swp_repl z "\\\\" 92
  rw [len_cps, len_cps z, e1]
  exact swp_len _ _ _ _
theorem bs2_len (z : Str) : (bs2 z).length ≤ 2 * z.length := by
  rw [len_cps, len_cps z, bs2_cps]
  exact esc_len _
theorem esc_inj : ∀ (z y s t : List Nat), esc z ++ 34 :: s = esc y ++ 34 :: t → z = y ∧ s = t
  | [], [], s, t, h => by simpa [esc] using h
  | [], j :: q, s, t, h => by
    exfalso
    have e1 : esc (j :: q) = (if j = 92 then [92, 92] else if j = 34 then [92, 34] else [j]) ++ esc q := rfl
    rw [e1] at h
    by_cases h1 : j = 92
    · simp [esc, h1] at h
    · by_cases h2 : j = 34
      · simp [esc, h2] at h
      · simp [esc, h1, h2] at h
        exact h2 h.1.symm
  | k :: r, [], s, t, h => by
    exfalso
    have e1 : esc (k :: r) = (if k = 92 then [92, 92] else if k = 34 then [92, 34] else [k]) ++ esc r := rfl
    rw [e1] at h
    by_cases h1 : k = 92
    · simp [esc, h1] at h
    · by_cases h2 : k = 34
      · simp [esc, h2] at h
      · simp [esc, h1, h2] at h
  | k :: r, j :: q, s, t, h => by
    have e1 : esc (k :: r) = (if k = 92 then [92, 92] else if k = 34 then [92, 34] else [k]) ++ esc r := rfl
    have e2 : esc (j :: q) = (if j = 92 then [92, 92] else if j = 34 then [92, 34] else [j]) ++ esc q := rfl
    rw [e1, e2, List.append_assoc, List.append_assoc] at h
    have fin : k = j → esc r ++ 34 :: s = esc q ++ 34 :: t → k :: r = j :: q ∧ s = t := fun a b => by
      obtain ⟨c, d⟩ := esc_inj r q s t b
      exact ⟨by rw [a, c], d⟩
    by_cases h1 : k = 92
    · by_cases j1 : j = 92
      · rw [if_pos h1, if_pos j1] at h
        exact fin (h1.trans j1.symm) (List.append_cancel_left h)
      · exfalso
        rw [if_pos h1, if_neg j1] at h
        by_cases j2 : j = 34
        · rw [if_pos j2] at h; simp at h
        · rw [if_neg j2] at h; simp at h; exact j1 h.1.symm
    · rw [if_neg h1] at h
      by_cases h2 : k = 34
      · rw [if_pos h2] at h
        by_cases j1 : j = 92
        · exfalso; rw [if_pos j1] at h; simp at h
        · rw [if_neg j1] at h
          by_cases j2 : j = 34
          · rw [if_pos j2] at h
            exact fin (h2.trans j2.symm) (List.append_cancel_left h)
          · exfalso; rw [if_neg j2] at h; simp at h; exact j1 h.1.symm
      · rw [if_neg h2] at h
        by_cases j1 : j = 92
        · exfalso; rw [if_pos j1] at h; simp at h; exact h1 h.1
        · rw [if_neg j1] at h
          by_cases j2 : j = 34
          · exfalso; rw [if_pos j2] at h; simp at h; exact h1 h.1
          · rw [if_neg j2] at h
            have h' : k = j ∧ esc r ++ 34 :: s = esc q ++ 34 :: t := by simpa using h
            exact fin h'.1 h'.2
theorem esc_cnt : ∀ l : List Nat, (esc l).count 40 = l.count 40
  | [] => by simp [esc]
  | k :: r => by
    have ih := esc_cnt r
    have e1 : esc (k :: r) = (if k = 92 then [92, 92] else if k = 34 then [92, 34] else [k]) ++ esc r := rfl
    rw [e1, List.count_append, ih, List.count_cons]
    split
    · rename_i h; subst h; simp
    · split
      · rename_i h; subst h; simp
      · simp [List.count_cons]; omega
mutual
/-- texts and rows of such -/
def sh : D → Bool
  | .str _ => true
  | .tup xs => shL xs
  | _ => false
def shL : List D → Bool
  | [] => true
  | x :: r => sh x && shL r
end
mutual
theorem lw_sh : ∀ {d : D}, lw d = true → sh d = true
  | .str z, _ => by simp [sh]
  | .tup xs, h => by
    have := lwL_sh (xs := xs) (by simpa [lw] using h)
    simpa [sh] using this
  | .non, h => by simp [lw] at h
  | .bl _, h => by simp [lw] at h
  | .int _, h => by simp [lw] at h
  | .lst, h => by simp [lw] at h
  | .dct, h => by simp [lw] at h
theorem lwL_sh : ∀ {xs : List D}, lwL xs = true → shL xs = true
  | [], _ => by simp [shL]
  | x :: r, h => by
    have h' : lw x = true ∧ lwL r = true := by simpa [lwL] using h
    simp [shL, lw_sh h'.1, lwL_sh h'.2]
end
mutual
theorem sh_pu : ∀ {d : D}, sh d = true → puD d = true
  | .str z, _ => by simp [puD]
  | .tup xs, h => by
    have := shL_pu (xs := xs) (by simpa [sh] using h)
    simpa [puD] using this
  | .non, h => by simp [sh] at h
  | .bl _, h => by simp [sh] at h
  | .int _, h => by simp [sh] at h
  | .lst, h => by simp [sh] at h
  | .dct, h => by simp [sh] at h
theorem shL_pu : ∀ {xs : List D}, shL xs = true → puL xs = true
  | [], _ => by simp [puL]
  | x :: r, h => by
    have h' : sh x = true ∧ shL r = true := by simpa [shL] using h
    simp [puL, sh_pu h'.1, shL_pu h'.2]
end
theorem sh_tr {d : D} (h : sh d = true) : trD d = true := by
  cases d with
  | str z => rfl
  | tup xs =>
    have := shL_pu (xs := xs) (by simpa [sh] using h)
    simpa [trD] using this
  | _ => simp [sh] at h
theorem shL_mem : ∀ {xs : List D} {x : D}, shL xs = true → x ∈ xs → sh x = true
  | [], _, _, h => nomatch h
  | y :: r, x, h, hx => by
    have h' : sh y = true ∧ shL r = true := by simpa [shL] using h
    rcases List.mem_cons.mp hx with rfl | hx
    · exact h'.1
    · exact shL_mem h'.2 hx
mutual
def txt : D → Str
  | .str z => "\"" ++ bs2 z ++ "\""
  | .tup xs => "(" ++ Str.join " " (txtL xs) ++ ")"
  | _ => ""
def txtL : List D → List Str
  | [] => []
  | x :: r => txt x :: txtL r
end
theorem txtL_map : ∀ xs : List D, txtL xs = xs.map txt
  | [] => by simp [txtL]
  | x :: r => by simp only [txtL, List.map_cons, txtL_map r]
def jn (xs : List D) : List Nat := (Str.join " " (txtL xs)).cps.toList
def tl (xs : List D) : List Nat := match xs with | [] => [] | _ :: _ => 32 :: jn xs
theorem jn_cons (x : D) (r : List D) : jn (x :: r) = (txt x).cps.toList ++ tl r := by
  cases r with
  | nil => simp [jn, tl, txtL]; rfl
  | cons y q =>
    unfold jn tl
    simp only [txtL]
    show (txt x ++ " " ++ Str.join " " (txt y :: txtL q)).cps.toList = _
    simp only [Str.cps_append, Array.toList_append, List.append_assoc]
    rfl
theorem txt_str (z : Str) : (txt (.str z)).cps.toList = 34 :: (esc z.cps.toList ++ [34]) := by
  simp only [txt, Str.cps_append, Array.toList_append, bs2_cps]
  rfl
theorem txt_tup (xs : List D) : (txt (.tup xs)).cps.toList = 40 :: (jn xs ++ [41]) := by
  simp only [txt, Str.cps_append, Array.toList_append]
  rfl
theorem txt_head {d : D} (h : sh d = true) : ∃ c r, (txt d).cps.toList = c :: r ∧ (c = 34 ∨ c = 40) := by
  cases d with
  | str z => exact ⟨_, _, txt_str z, .inl rfl⟩
  | tup xs => exact ⟨_, _, txt_tup xs, .inr rfl⟩
  | _ => simp [sh] at h
mutual
theorem txt_inj : ∀ (d e : D) (s t : List Nat), sh d = true → sh e = true → (txt d).cps.toList ++ s = (txt e).cps.toList ++ t → d = e ∧ s = t
  | .str z, e, s, t, _, he, h => by
    cases e with
    | str y =>
      rw [txt_str, txt_str] at h
      have h' : esc z.cps.toList ++ 34 :: s = esc y.cps.toList ++ 34 :: t := by simpa using h
      obtain ⟨a, b⟩ := esc_inj _ _ _ _ h'
      have : z = y := by cases z; cases y; simp at a; rw [a]
      exact ⟨by rw [this], b⟩
    | tup ys => rw [txt_str, txt_tup] at h; simp at h
    | _ => simp [sh] at he
  | .tup xs, e, s, t, hd, he, h => by
    cases e with
    | str y => rw [txt_str, txt_tup] at h; simp at h
    | tup ys =>
      rw [txt_tup, txt_tup] at h
      have h' : jn xs ++ 41 :: s = jn ys ++ 41 :: t := by simpa using h
      obtain ⟨a, b⟩ := jn_inj xs ys s t (by simpa [sh] using hd) (by simpa [sh] using he) h'
      exact ⟨by rw [a], b⟩
    | _ => simp [sh] at he
  | .non, _, _, _, h, _, _ => by simp [sh] at h
  | .bl _, _, _, _, h, _, _ => by simp [sh] at h
  | .int _, _, _, _, h, _, _ => by simp [sh] at h
  | .lst, _, _, _, h, _, _ => by simp [sh] at h
  | .dct, _, _, _, h, _, _ => by simp [sh] at h
theorem jn_inj : ∀ (xs ys : List D) (s t : List Nat), shL xs = true → shL ys = true → jn xs ++ 41 :: s = jn ys ++ 41 :: t → xs = ys ∧ s = t
  | [], [], s, t, _, _, h => by
    have h' : (41 :: s : List Nat) = 41 :: t := h
    cases h'
    exact ⟨rfl, rfl⟩
  | [], y :: q, s, t, _, he, h => by
    exfalso
    have h2 : sh y = true ∧ shL q = true := by simpa [shL] using he
    obtain ⟨c, r, e, hc⟩ := txt_head h2.1
    rw [jn_cons, e] at h
    have h' : (41 :: s : List Nat) = c :: (r ++ tl q ++ 41 :: t) := h
    cases h'
    rcases hc with hc | hc <;> cases hc
  | x :: r, [], s, t, hd, _, h => by
    exfalso
    have h1 : sh x = true ∧ shL r = true := by simpa [shL] using hd
    obtain ⟨c, r', e, hc⟩ := txt_head h1.1
    rw [jn_cons, e] at h
    have h' : c :: (r' ++ tl r ++ 41 :: s) = (41 :: t : List Nat) := h
    cases h'
    rcases hc with hc | hc <;> cases hc
  | x :: r, y :: q, s, t, hd, he, h => by
    have h1 : sh x = true ∧ shL r = true := by simpa [shL] using hd
    have h2 : sh y = true ∧ shL q = true := by simpa [shL] using he
    rw [jn_cons, jn_cons, List.append_assoc, List.append_assoc] at h
    obtain ⟨a, b⟩ := txt_inj x y _ _ h1.1 h2.1 h
    subst a
    match r, q, h1, h2, b with
    | [], [], _, _, b =>
      have b' : (41 :: s : List Nat) = 41 :: t := b
      cases b'
      exact ⟨rfl, rfl⟩
    | [], _ :: _, _, _, b =>
      exfalso
      have b' : (41 :: s : List Nat) = 32 :: _ := b
      cases b'
    | _ :: _, [], _, _, b =>
      exfalso
      have b' : (32 :: _ : List Nat) = 41 :: t := b
      cases b'
    | r0 :: r1, q0 :: q1, h1, h2, b =>
      have b' : (32 :: (jn (r0 :: r1) ++ 41 :: s) : List Nat) = 32 :: (jn (q0 :: q1) ++ 41 :: t) := b
      have b2 : jn (r0 :: r1) ++ 41 :: s = jn (q0 :: q1) ++ 41 :: t := by simpa using b'
      obtain ⟨c, d⟩ := jn_inj (r0 :: r1) (q0 :: q1) s t h1.2 h2.2 b2
      exact ⟨by rw [c], d⟩
end
mutual
theorem txt_len : ∀ (d : D), sh d = true → (txt d).length + 1 ≤ 3 * sz d
  | .str z, _ => by
    have h := bs2_len z
    simp only [txt, app_len, sz]
    show 1 + (bs2 z).length + 1 + 1 ≤ _
    omega
  | .tup xs, h => by
    have := txtL_len xs (by simpa [sh] using h)
    have e : (txt (.tup xs)).length = (jn xs).length + 2 := by rw [len_cps, txt_tup]; simp
    rw [e]
    simp only [sz]
    omega
  | .non, h => by simp [sh] at h
  | .bl _, h => by simp [sh] at h
  | .int _, h => by simp [sh] at h
  | .lst, h => by simp [sh] at h
  | .dct, h => by simp [sh] at h
theorem txtL_len : ∀ (xs : List D), shL xs = true → (jn xs).length ≤ 3 * szL xs
  | [], _ => by show (0 : Nat) ≤ _; omega
  | x :: r, h => by
    have h' : sh x = true ∧ shL r = true := by simpa [shL] using h
    have h1 := txt_len x h'.1
    have h2 := txtL_len r h'.2
    have e : (tl r).length ≤ (jn r).length + 1 := by
      cases r with
      | nil => show (0 : Nat) ≤ _; omega
      | cons y q => show (jn (y :: q)).length + 1 ≤ _; omega
    rw [jn_cons, List.length_append, ← len_cps]
    simp only [szL]
    omega
end
theorem txtL_sum : ∀ (xs : List D), shL xs = true → ((txtL xs).map (·.length)).sum + (txtL xs).length ≤ 3 * szL xs
  | [], _ => by simp [txtL]
  | x :: r, h => by
    have h' : sh x = true ∧ shL r = true := by simpa [shL] using h
    have h1 := txt_len x h'.1
    have h2 := txtL_sum r h'.2
    simp only [txtL, List.map_cons, List.sum_cons, List.length_cons, szL]
    omega
mutual
theorem cnt_txt : ∀ (d : D), sh d = true → (txt d).cps.toList.count 40 = cnt d
  | .str z, _ => by
    rw [txt_str]
    simp only [cnt, br, List.count_cons, List.count_append, List.count_nil, esc_cnt]
    simp
  | .tup xs, h => by
    have := cnt_jn xs (by simpa [sh] using h)
    rw [txt_tup]
    simp only [cnt, List.count_cons, List.count_append, List.count_nil, this]
    simp
    omega
  | .non, h => by simp [sh] at h
  | .bl _, h => by simp [sh] at h
  | .int _, h => by simp [sh] at h
  | .lst, h => by simp [sh] at h
  | .dct, h => by simp [sh] at h
theorem cnt_jn : ∀ (xs : List D), shL xs = true → (jn xs).count 40 = cntL xs
  | [], _ => by show List.count 40 ([] : List Nat) = _; simp [cntL]
  | x :: r, h => by
    have h' : sh x = true ∧ shL r = true := by simpa [shL] using h
    have h1 := cnt_txt x h'.1
    have h2 := cnt_jn r h'.2
    have e : (tl r).count 40 = (jn r).count 40 := by
      cases r with
      | nil => rfl
      | cons y q => show List.count 40 (32 :: jn (y :: q)) = _; simp [List.count_cons]
    rw [jn_cons, List.count_append, h1, e, h2]
    simp only [cntL]
end
end K03

set_option Elab.async false
set_option linter.all false
set_option maxRecDepth 100000
set_option maxHeartbeats 4000000
namespace K03
open PySem L2 PyProof.Rows
def sp_ttext (n : Nat) : Sp := fun vs H Q _ => ∃ (v : V) (d : D), vs = [v] ∧ Is H d v ∧ sh d = true ∧ dp d < n ∧ sz d ≤ 600 ∧ ∀ H' : Hp, Same H H' → Q (.str (txt d)) H'
theorem IsL.strsD {H : Hp} : ∀ {zs : List Str} {vs : List V}, IsL H (zs.map D.str) vs → vs = zs.map V.str
  | [], vs, h => h
  | z :: r, vs, h => by
    obtain ⟨v, q, rfl, ⟨rfl, _⟩, h2⟩ := h
    rw [IsL.strsD h2]
    rfl
theorem szL_mem : ∀ {xs : List D} {x : D}, x ∈ xs → sz x ≤ szL xs
  | [], _, h => nomatch h
  | y :: r, x, h => by
    rcases List.mem_cons.mp h with rfl | h
    · simp only [szL]; omega
    · have := szL_mem h
      simp only [szL]; omega
section
variable {P : Program} {w : World} {K : PySem.W.Frag} {mg : Str → Option Value} {base : Heap} {a : Ad}
theorem ttext_none {f : Addr} {fd : FuncData} {l : Nat} : FnOk P w K mg base CX0 l f fd ["tree"] (sp_ttext 0) := by
  have no : ∀ vs H Q E, ¬ sp_ttext 0 vs H Q E := fun vs H Q E h => by
    obtain ⟨p, k, _, _, _, h1, _⟩ := h
    omega
  exact ⟨fun vs H Q E h => absurd h (no vs H Q E), fun A outer s H args us vs Q E _ _ _ _ h => absurd h (no vs H Q E)⟩
theorem ok_ttext1 (T : Tx K mg a) {n : Nat} (G_tree_text : FnOk P w K mg base CX0 (n + 1) a.f_tree_text a.d_tree_text ["tree"] (sp_ttext n)) : FnOk P w K mg base CX0 (n + 2) a.f_tree_text a.d_tree_text ["tree"] (sp_ttext (n + 1)) := by
  refine T.F_tree_text.ok sc_tree_text (fun vs H Q E h => ?_) (fun cdv A outer s H vs Q E hr h => ?_)
  · obtain ⟨v, d, rfl, _⟩ := h
    rfl
  obtain ⟨v, d, rfl, hv, hlw, hd, hsz, k⟩ := h
  refine ⟨_, (@pss_cons _ _ _ _ _ (@ps_if _ _ _ _ _ _ _ _ (@pt_val _ _ _ (@pe_callB _ _ _ _ _ _ _ _ _ (@call_isinst _ _ rfl) (by rfl) T.z_isinstance boot_isinstance (@pa_cons _ _ _ _ _ (pv 0) (@pa_cons _ _ _ _ _ (@pe_bltn _ _ (.ty "tuple") _ _ (by rfl) T.z_tuple boot_tuple rfl (by first | rfl | exact .inl rfl | exact .inr rfl | exact .inr (.inl rfl) | decide | decide +kernel | (intro _; rfl)) (by first | rfl | exact .inl rfl | exact .inr rfl | exact .inr (.inl rfl) | decide | decide +kernel | (intro _; rfl))) (@pa_nil _) (by first | rfl | exact .inl rfl | exact .inr rfl | exact .inr (.inl rfl) | decide | decide +kernel | (intro _; rfl))) (by first | rfl | exact .inl rfl | exact .inr rfl | exact .inr (.inl rfl) | decide | decide +kernel | (intro _; rfl))) (by first | rfl | exact .inl rfl | exact .inr rfl | exact .inr (.inl rfl) | decide | decide +kernel | (intro _; rfl)) (by first | rfl | exact .inl rfl | exact .inr rfl | exact .inr (.inl rfl) | decide | decide +kernel | (intro _; rfl)) (by first | rfl | exact .inl rfl | exact .inr rfl | exact .inr (.inl rfl) | decide | decide +kernel | (intro _; rfl)) (by first | rfl | exact .inl rfl | exact .inr rfl | exact .inr (.inl rfl) | decide | decide +kernel | (intro _; rfl))) (by first | rfl | exact .inl rfl | exact .inr rfl | exact .inr (.inl rfl) | decide | decide +kernel | (intro _; rfl))) (@pss_cons _ _ _ _ _ (@ps_set _ _ (1) _ _ _ _ sc_tree_text.nd rfl (Or.inl rfl) (@pe_bm _ _ _ _ _ _ _ _ _ _ _ _ PySem.F.plainAttrs_str PySem.F.slot_str_join PySem.F.type_str_join (@mt_join _) (@pe_str _ _ _ _) (@pa_cons _ _ _ _ _ (@pe_lc _ _ (["part"]) (1) ([]) _ _ _ _ _ _ _ _ _ (lcs0) rfl (@pi_tupB _ _ _ _ (pv 0)) (fun _ _ _ _ _ _ => (@pg_name _ _ (0) _ (show List.Nodup (["part"] : List Str) by decide +kernel) rfl (Or.inl rfl) (by first | rfl | exact .inl rfl | exact .inr rfl | exact .inr (.inl rfl) | decide | decide +kernel | (intro _; rfl)))) (fun _ _ _ _ _ _ => @pif_nil _) (fun _ _ _ _ _ _ => (@pe_call _ _ _ _ _ _ _ _ _ _ _ _ _ _ _ _ G_tree_text (hr.mono (by first | decide | omega)) (by rfl) T.m_tree_text T.F_tree_text.kp T.b_tree_text .nil pass0 (@pa_cons _ _ _ _ _ (pv 0) (@pa_nil _) (by first | rfl | exact .inl rfl | exact .inr rfl | exact .inr (.inl rfl) | decide | decide +kernel | (intro _; rfl))) (by first | rfl | exact .inl rfl | exact .inr rfl | exact .inr (.inl rfl) | decide | decide +kernel | (intro _; rfl)) (by first | rfl | exact .inl rfl | exact .inr rfl | exact .inr (.inl rfl) | decide | decide +kernel | (intro _; rfl)) (by first | rfl | exact .inl rfl | exact .inr rfl | exact .inr (.inl rfl) | decide | decide +kernel | (intro _; rfl)))) (by first | rfl | exact .inl rfl | exact .inr rfl | exact .inr (.inl rfl) | decide | decide +kernel | (intro _; rfl))) (@pa_nil _) (by first | rfl | exact .inl rfl | exact .inr rfl | exact .inr (.inl rfl) | decide | decide +kernel | (intro _; rfl))) (by first | rfl | exact .inl rfl | exact .inr rfl | exact .inr (.inl rfl) | decide | decide +kernel | (intro _; rfl)) (by first | rfl | exact .inl rfl | exact .inr rfl | exact .inr (.inl rfl) | decide | decide +kernel | (intro _; rfl)) (by first | rfl | exact .inl rfl | exact .inr rfl | exact .inr (.inl rfl) | decide | decide +kernel | (intro _; rfl)) (by first | rfl | exact .inl rfl | exact .inr rfl | exact .inr (.inl rfl) | decide | decide +kernel | (intro _; rfl)) (by first | rfl | exact .inl rfl | exact .inr rfl | exact .inr (.inl rfl) | decide | decide +kernel | (intro _; rfl))) (by first | rfl | exact .inl rfl | exact .inr rfl | exact .inr (.inl rfl) | decide | decide +kernel | (intro _; rfl)) (by first | rfl | exact .inl rfl | exact .inr rfl | exact .inr (.inl rfl) | decide | decide +kernel | (intro _; rfl))) (@pss_one _ _ _ (@ps_ret _ _ _ _ (@pe_fs _ _ _ _ _ _ _ _ _ _ _ (pv 1) (by decide))))) (@pss_nil _)) (@pss_cons _ _ _ _ _ (@ps_set _ _ (2) _ _ _ _ sc_tree_text.nd rfl (Or.inl rfl) (@pe_repl _ _ _ _ _ _ _ _ _ _ _ (@pe_repl _ _ _ _ _ _ _ _ _ _ _ (pv 0) (by decide) (by decide) (by first | rfl | exact .inl rfl | exact .inr rfl | exact .inr (.inl rfl) | decide | decide +kernel | (intro _; rfl)) (by first | rfl | exact .inl rfl | exact .inr rfl | exact .inr (.inl rfl) | decide | decide +kernel | (intro _; rfl)) (by first | rfl | exact .inl rfl | exact .inr rfl | exact .inr (.inl rfl) | decide | decide +kernel | (intro _; rfl))) (by decide) (by decide) (by first | rfl | exact .inl rfl | exact .inr rfl | exact .inr (.inl rfl) | decide | decide +kernel | (intro _; rfl)) (by first | rfl | exact .inl rfl | exact .inr rfl | exact .inr (.inl rfl) | decide | decide +kernel | (intro _; rfl)) (by first | rfl | exact .inl rfl | exact .inr rfl | exact .inr (.inl rfl) | decide | decide +kernel | (intro _; rfl))) (by first | rfl | exact .inl rfl | exact .inr rfl | exact .inr (.inl rfl) | decide | decide +kernel | (intro _; rfl)) (by first | rfl | exact .inl rfl | exact .inr rfl | exact .inr (.inl rfl) | decide | decide +kernel | (intro _; rfl))) (@pss_one _ _ _ (@ps_ret _ _ _ _ (@pe_fs _ _ _ _ _ _ _ _ _ _ _ (pv 2) (by decide)))))), ?_⟩
  refine ⟨_, rfl, v, "tuple", tyD d, isTup d, rfl, hv.ty, kit_tup d, _, rfl, ?_⟩
  cases ht : isTup d with
  | true =>
    refine iteT ?_
    cases d with
    | tup xs =>
      obtain ⟨a0, vs, rfl, ha0, hvs⟩ := hv
      have lv := hvs.length
      have hl' : shL xs = true := by simpa only [sh] using hlw
      have e2 : sz (.tup xs) = 1 + szL xs := by simp only [sz]
      have hsum := txtL_sum xs hl'
      have htl := txt_len (.tup xs) hlw
      have et : txt (.tup xs) = "(" ++ Str.join " " (xs.map txt) ++ ")" := by rw [← txtL_map]; simp only [txt]
      refine ⟨rfl, _, rfl, a0, vs, rfl, SqT.of ha0, fun hvl A0 hA0 => ?_⟩
      have hxl : xs.length ≤ sizeLine := by omega
      refine lc_tupS (tl := []) (fun d => .str (txt d)) ha0 hvs hxl hA0 (fun d0 x0 H3 R hd0 s3 i3 r => ?_) fun H1 ys s1 l1 i1 => ?_
      · have h0 := szL_mem hd0
        have h1 := txt_len d0 (shL_mem hl' hd0)
        refine ⟨_, rfl, x0, d0, rfl, i3, shL_mem hl' hd0, ?_, by omega, fun H4 s4 => r _ H4 s4 ⟨rfl, fits (by omega)⟩⟩
        have := dp_row hd0
        omega
      · have ey : ys = (xs.map txt).map V.str := IsL.strsD (by rw [List.map_map] at ⊢; exact i1)
        refine ⟨" ", A0, xs.map txt, rfl, rfl, SqL.of (by rw [l1, ey]), ?_, ?_⟩
        · rw [← txtL_map]
          show _ + (txtL xs).length * 1 ≤ _
          omega
        · have hl := len_cps (txt (.tup xs))
          refine ⟨_, rfl, _, rfl, ?_, ?_⟩
          · rw [et, app_len, app_len] at htl
            omega
          · have := k H1 s1
            rw [et] at this
            exact this
    | _ => simp [isTup] at ht
  | false =>
    refine iteF ?_
    cases d with
    | str z =>
      obtain ⟨rfl, hz⟩ := hv
      have h1 := bs1_len z
      have h2 := bs2_len z
      have e2 : sz (.str z) = z.length + 1 := by simp only [sz]
      have et : txt (.str z) = "\"" ++ bs2 z ++ "\"" := by simp only [txt]
      refine ⟨_, rfl, z, rfl, by omega, _, rfl, by show (bs1 z).length ≤ _; omega, ?_⟩
      refine ⟨_, rfl, bs2 z, rfl, ?_, ?_⟩
      · show 1 + (bs2 z).length + 1 ≤ _
        omega
      · have := k H (Same.refl _)
        rw [et] at this
        exact this
    | tup xs => simp [isTup] at ht
    | _ => simp [sh] at hlw
theorem ok_ttext (T : Tx K mg a) : ∀ n : Nat, FnOk P w K mg base CX0 (n + 1) a.f_tree_text a.d_tree_text ["tree"] (sp_ttext n)
  | 0 => ttext_none
  | n + 1 => ok_ttext1 T (ok_ttext T n)
end
end K03

set_option Elab.async false
set_option linter.all false
set_option maxRecDepth 100000
set_option maxHeartbeats 4000000
namespace K03
open PySem L2 PyProof.Rows
theorem one_inj {a b : Nat} (h : (⟨#[a]⟩ : Str) = ⟨#[b]⟩) : a = b := by
  cases h
  rfl
theorem in_two (c : Nat) : inV (.str ⟨#[c]⟩) [.str "\"", .str "\\"] = decide (c = 34 ∨ c = 92) := by
  rw [show inV (.str ⟨#[c]⟩) [.str "\"", .str "\\"] = decide ((⟨#[c]⟩ : Str) ∈ ([⟨#[34]⟩, ⟨#[92]⟩] : List Str)) from inV_str ⟨#[c]⟩ [⟨#[34]⟩, ⟨#[92]⟩], decide_eq_decide]
  constructor
  · intro h
    rcases List.mem_cons.mp h with h | h
    · exact .inl (one_inj h)
    · exact .inr (one_inj (List.mem_singleton.mp h))
  · rintro (rfl | rfl)
    · exact List.mem_cons_self
    · exact List.mem_cons_of_mem _ List.mem_cons_self
theorem str_ext {z y : Str} (h : z.cps.toList = y.cps.toList) : z = y := by
  cases z; cases y; simp at h; rw [h]
theorem esc_app (a b : List Nat) : esc (a ++ b) = esc a ++ esc b := List.flatMap_append
theorem take_snoc {l : List Nat} {i c : Nat} (h : l[i]? = some c) : l.take (i + 1) = l.take i ++ [c] := by
  rw [List.take_add_one, h]
  rfl
section
variable {P : Program} {w : World} {K : PySem.W.Frag} {mg : Str → Option Value} {base : Heap} {a : Ad}
theorem ok_written1 (T : Tx K mg a) {n : Nat} (G_law_written : FnOk P w K mg base CX0 (n + 1) a.f_law_written a.d_law_written ["tree"] (sp_ttext n)) : FnOk P w K mg base CX0 (n + 2) a.f_law_written a.d_law_written ["tree"] (sp_ttext (n + 1)) := by
  refine T.F_law_written.ok sc_law_written (fun vs H Q E h => ?_) (fun cdv A outer s H vs Q E hr h => ?_)
  · obtain ⟨v, d, rfl, _⟩ := h
    rfl
  obtain ⟨v, d, rfl, hv, hlw, hd, hsz, k⟩ := h
  refine ⟨_, (@pss_cons _ _ _ _ _ (@ps_if _ _ _ _ _ _ _ _ (@pt_val _ _ _ (@pe_callB _ _ _ _ _ _ _ _ _ (@call_isinst _ _ rfl) (by rfl) T.z_isinstance boot_isinstance (@pa_cons _ _ _ _ _ (pv 0) (@pa_cons _ _ _ _ _ (@pe_bltn _ _ (.ty "str") _ _ (by rfl) T.z_str boot_str rfl (by first | rfl | exact .inl rfl | exact .inr rfl | exact .inr (.inl rfl) | decide | decide +kernel | (intro _; rfl)) (by first | rfl | exact .inl rfl | exact .inr rfl | exact .inr (.inl rfl) | decide | decide +kernel | (intro _; rfl))) (@pa_nil _) (by first | rfl | exact .inl rfl | exact .inr rfl | exact .inr (.inl rfl) | decide | decide +kernel | (intro _; rfl))) (by first | rfl | exact .inl rfl | exact .inr rfl | exact .inr (.inl rfl) | decide | decide +kernel | (intro _; rfl))) (by first | rfl | exact .inl rfl | exact .inr rfl | exact .inr (.inl rfl) | decide | decide +kernel | (intro _; rfl)) (by first | rfl | exact .inl rfl | exact .inr rfl | exact .inr (.inl rfl) | decide | decide +kernel | (intro _; rfl)) (by first | rfl | exact .inl rfl | exact .inr rfl | exact .inr (.inl rfl) | decide | decide +kernel | (intro _; rfl)) (by first | rfl | exact .inl rfl | exact .inr rfl | exact .inr (.inl rfl) | decide | decide +kernel | (intro _; rfl))) (by first | rfl | exact .inl rfl | exact .inr rfl | exact .inr (.inl rfl) | decide | decide +kernel | (intro _; rfl))) (@pss_cons _ _ _ _ _ (@ps_set _ _ (1) _ _ _ _ sc_law_written.nd rfl (Or.inl rfl) (@pe_str _ _ _ _) (by first | rfl | exact .inl rfl | exact .inr rfl | exact .inr (.inl rfl) | decide | decide +kernel | (intro _; rfl)) (by first | rfl | exact .inl rfl | exact .inr rfl | exact .inr (.inl rfl) | decide | decide +kernel | (intro _; rfl))) (@pss_cons _ _ _ _ _ (@ps_for _ _ _ _ _ _ _ _ PassesOwn.never rfl (@pi_str _ _ _ _ (pv 0)) (@pg_name _ _ (2) _ sc_law_written.nd rfl (Or.inl rfl) (by first | rfl | exact .inl rfl | exact .inr rfl | exact .inr (.inl rfl) | decide | decide +kernel | (intro _; rfl))) (@pss_cons _ _ _ _ _ (@ps_if _ _ _ _ _ _ _ _ (@pt_cmpR _ _ _ _ _ _ _ _ (@op_in_seq _) (pv 2) (@pe_lst _ _ _ _ (@pa_cons _ _ _ _ _ (@pe_str _ _ _ _) (@pa_cons _ _ _ _ _ (@pe_str _ _ _ _) (@pa_nil _) (by first | rfl | exact .inl rfl | exact .inr rfl | exact .inr (.inl rfl) | decide | decide +kernel | (intro _; rfl))) (by first | rfl | exact .inl rfl | exact .inr rfl | exact .inr (.inl rfl) | decide | decide +kernel | (intro _; rfl)))) (by with_unfolding_all rfl)) (@pss_one _ _ _ (@ps_set _ _ (1) _ _ _ _ sc_law_written.nd rfl (Or.inl rfl) (@pe_op _ _ _ _ _ _ _ _ (@op_add_str _) (pv 1) (@pe_str _ _ _ _)) (by first | rfl | exact .inl rfl | exact .inr rfl | exact .inr (.inl rfl) | decide | decide +kernel | (intro _; rfl)) (by first | rfl | exact .inl rfl | exact .inr rfl | exact .inr (.inl rfl) | decide | decide +kernel | (intro _; rfl)))) (@pss_nil _)) (@pss_one _ _ _ (@ps_set _ _ (1) _ _ _ _ sc_law_written.nd rfl (Or.inl rfl) (@pe_op _ _ _ _ _ _ _ _ (@op_add_str _) (pv 1) (pv 2)) (by first | rfl | exact .inl rfl | exact .inr rfl | exact .inr (.inl rfl) | decide | decide +kernel | (intro _; rfl)) (by first | rfl | exact .inl rfl | exact .inr rfl | exact .inr (.inl rfl) | decide | decide +kernel | (intro _; rfl))))) (by first | rfl | exact .inl rfl | exact .inr rfl | exact .inr (.inl rfl) | decide | decide +kernel | (intro _; rfl))) (@pss_one _ _ _ (@ps_ret _ _ _ _ (@pe_op _ _ _ _ _ _ _ _ (@op_add_str _) (@pe_op _ _ _ _ _ _ _ _ (@op_add_str _) (@pe_str _ _ _ _) (pv 1)) (@pe_str _ _ _ _)))))) (@pss_nil _)) (@pss_one _ _ _ (@ps_ret _ _ _ _ (@pe_op _ _ _ _ _ _ _ _ (@op_add_str _) (@pe_op _ _ _ _ _ _ _ _ (@op_add_str _) (@pe_str _ _ _ _) (@pe_bm _ _ _ _ _ _ _ _ _ _ _ _ PySem.F.plainAttrs_str PySem.F.slot_str_join PySem.F.type_str_join (@mt_join _) (@pe_str _ _ _ _) (@pa_cons _ _ _ _ _ (@pe_lc _ _ (["part"]) (1) ([]) _ _ _ _ _ _ _ _ _ (lcs0) rfl (@pi_tupB _ _ _ _ (pv 0)) (fun _ _ _ _ _ _ => (@pg_name _ _ (0) _ (show List.Nodup (["part"] : List Str) by decide +kernel) rfl (Or.inl rfl) (by first | rfl | exact .inl rfl | exact .inr rfl | exact .inr (.inl rfl) | decide | decide +kernel | (intro _; rfl)))) (fun _ _ _ _ _ _ => @pif_nil _) (fun _ _ _ _ _ _ => (@pe_call _ _ _ _ _ _ _ _ _ _ _ _ _ _ _ _ G_law_written (hr.mono (by first | decide | omega)) (by rfl) T.m_law_written T.F_law_written.kp T.b_law_written .nil pass0 (@pa_cons _ _ _ _ _ (pv 0) (@pa_nil _) (by first | rfl | exact .inl rfl | exact .inr rfl | exact .inr (.inl rfl) | decide | decide +kernel | (intro _; rfl))) (by first | rfl | exact .inl rfl | exact .inr rfl | exact .inr (.inl rfl) | decide | decide +kernel | (intro _; rfl)) (by first | rfl | exact .inl rfl | exact .inr rfl | exact .inr (.inl rfl) | decide | decide +kernel | (intro _; rfl)) (by first | rfl | exact .inl rfl | exact .inr rfl | exact .inr (.inl rfl) | decide | decide +kernel | (intro _; rfl)))) (by first | rfl | exact .inl rfl | exact .inr rfl | exact .inr (.inl rfl) | decide | decide +kernel | (intro _; rfl))) (@pa_nil _) (by first | rfl | exact .inl rfl | exact .inr rfl | exact .inr (.inl rfl) | decide | decide +kernel | (intro _; rfl))) (by first | rfl | exact .inl rfl | exact .inr rfl | exact .inr (.inl rfl) | decide | decide +kernel | (intro _; rfl)) (by first | rfl | exact .inl rfl | exact .inr rfl | exact .inr (.inl rfl) | decide | decide +kernel | (intro _; rfl)) (by first | rfl | exact .inl rfl | exact .inr rfl | exact .inr (.inl rfl) | decide | decide +kernel | (intro _; rfl)) (by first | rfl | exact .inl rfl | exact .inr rfl | exact .inr (.inl rfl) | decide | decide +kernel | (intro _; rfl)) (by first | rfl | exact .inl rfl | exact .inr rfl | exact .inr (.inl rfl) | decide | decide +kernel | (intro _; rfl)))) (@pe_str _ _ _ _))))), ?_⟩
  refine ⟨_, rfl, v, "str", tyD d, isStr d, rfl, hv.ty, kit_str d, _, rfl, ?_⟩
  have hs := sizeLine_eq
  cases d with
  | str z =>
    refine iteT ?_
    obtain ⟨rfl, hz⟩ := hv
    have e2 : sz (.str z) = z.length + 1 := by simp only [sz]
    refine ⟨_, rfl, z, rfl, ?_⟩
    refine for_str (fun i σ H' => (∃ t x, σ = [some (.str z), some (.str t), x] ∧ t.cps.toList = esc (z.cps.toList.take i)) ∧ Same H H') ⟨⟨_, _, rfl, rfl⟩, Same.refl _⟩ ?_ ?_
    · rintro i c σ H' hc ⟨⟨t, x, rfl, ht⟩, sm⟩
      have hc' : z.cps.toList[i]? = some c := by simpa using hc
      have hi : i < z.cps.toList.length := (List.getElem?_eq_some_iff.mp hc').1
      have tlen : t.length ≤ 2 * z.length := by
        have := esc_len (z.cps.toList.take i)
        rw [len_cps, ht]
        rw [List.length_take] at this
        rw [len_cps z]
        omega
      refine ⟨_, rfl, (by show 2 ≤ sizeLine; omega), fun L gL => ?_⟩
      have s2 : Same H' (upd H' L (.lst [.str "\"", .str "\\"])) := same_new gL _
      refine ⟨L, _, rfl, .inl (SqL.of upd_same), rfl, rfl, _, rfl, ?_⟩
      rw [show (if false = true then !inV (V.str ⟨#[c]⟩) [.str "\"", .str "\\"] else inV (V.str ⟨#[c]⟩) [.str "\"", .str "\\"]) = decide (c = 34 ∨ c = 92) from in_two c]
      refine ite2 (fun c1 => ?_) (fun c1 => ?_)
      · have c1' := of_decide_eq_true c1
        refine ⟨_, rfl, _, _, rfl, rfl, fits (by rw [show ("\\" : Str).length = 1 from rfl]; omega), _, rfl, _, rfl, _, _, rfl, rfl, fits (by rw [app_len, show ("\\" : Str).length = 1 from rfl, show (⟨#[c]⟩ : Str).length = 1 from rfl]; omega), ⟨_, _, rfl, ?_⟩, sm.trans s2⟩
        rw [take_snoc hc', esc_app, ← ht]
        simp only [Str.cps_append, Array.toList_append, List.append_assoc]
        congr 1
        rcases c1' with h | h <;> subst h <;> rfl
      · have c1' : ¬ (c = 34 ∨ c = 92) := fun q => c1 (decide_eq_true q)
        refine ⟨_, rfl, _, rfl, _, _, rfl, rfl, fits (by rw [show (⟨#[c]⟩ : Str).length = 1 from rfl]; omega), ⟨_, _, rfl, ?_⟩, sm.trans s2⟩
        rw [take_snoc hc', esc_app, ← ht]
        simp only [Str.cps_append, Array.toList_append]
        congr 1
        have a1 : ¬ c = 92 := fun q => c1' (.inr q)
        have a2 : ¬ c = 34 := fun q => c1' (.inl q)
        simp [esc, a1, a2]
    · rintro σ H' ⟨⟨t, x, rfl, ht⟩, sm⟩
      have et : t = bs2 z := str_ext (by
        rw [ht, bs2_cps, List.take_of_length_le (by simp)])
      subst et
      have h2 := bs2_len z
      refine ⟨_, rfl, _, _, rfl, rfl, fits (by rw [show ("\"" : Str).length = 1 from rfl]; omega), _, _, rfl, rfl, fits (by rw [app_len, show ("\"" : Str).length = 1 from rfl]; omega), ?_⟩
      have := k H' sm
      simp only [txt] at this
      exact this
  | tup xs =>
    refine iteF ?_
    obtain ⟨a0, vs, rfl, ha0, hvs⟩ := hv
    have lv := hvs.length
    have hl' : shL xs = true := by simpa only [sh] using hlw
    have e2 : sz (.tup xs) = 1 + szL xs := by simp only [sz]
    have hsum := txtL_sum xs hl'
    have htl := txt_len (.tup xs) hlw
    have et : txt (.tup xs) = "(" ++ Str.join " " (xs.map txt) ++ ")" := by rw [← txtL_map]; simp only [txt]
    refine ⟨rfl, _, rfl, a0, vs, rfl, SqT.of ha0, fun hvl A0 hA0 => ?_⟩
    have hxl : xs.length ≤ sizeLine := by omega
    refine lc_tupS (tl := []) (fun d => .str (txt d)) ha0 hvs hxl hA0 (fun d0 x0 H3 R hd0 s3 i3 r => ?_) fun H1 ys s1 l1 i1 => ?_
    · have h0 := szL_mem hd0
      have h1 := txt_len d0 (shL_mem hl' hd0)
      refine ⟨_, rfl, x0, d0, rfl, i3, shL_mem hl' hd0, ?_, by omega, fun H4 s4 => r _ H4 s4 ⟨rfl, fits (by omega)⟩⟩
      have := dp_row hd0
      omega
    · have ey : ys = (xs.map txt).map V.str := IsL.strsD (by rw [List.map_map] at ⊢; exact i1)
      refine ⟨" ", A0, xs.map txt, rfl, rfl, SqL.of (by rw [l1, ey]), ?_, ?_⟩
      · rw [← txtL_map]
        show _ + (txtL xs).length * 1 ≤ _
        omega
      · rw [et, app_len, app_len] at htl
        refine ⟨_, _, rfl, rfl, fits (by omega), _, _, rfl, rfl, fits (by rw [app_len]; omega), ?_⟩
        have := k H1 s1
        rw [et] at this
        exact this
  | _ => simp [sh] at hlw
theorem ok_written (T : Tx K mg a) : ∀ n : Nat, FnOk P w K mg base CX0 (n + 1) a.f_law_written a.d_law_written ["tree"] (sp_ttext n)
  | 0 => ttext_none
  | n + 1 => ok_written1 T (ok_written T n)
end
end K03

set_option Elab.async false
set_option linter.all false
set_option maxRecDepth 100000
set_option maxHeartbeats 4000000
namespace K03
open PySem L2 PyProof.Rows
def isTx : D → Bool
  | .str z => okText z
  | _ => false
def sp_is_text : Sp := fun vs H Q _ => ∃ v d, vs = [v] ∧ Is H d v ∧ Q (.bl (isTx d)) H
def sp_is_tree : Sp := fun vs H Q _ => ∃ v d, vs = [v] ∧ Is H d v ∧ ∀ H', Same H H' → Q (.bl (isT d)) H'
def pr (p : D × Nat) : D := .tup [p.1, .int (p.2 : Int)]
theorem okText_bad {z : Str} {i c : Nat} (h : z.cps[i]? = some c) (hc : okSign c = false) : okText z = false := by
  unfold okText
  have hm : c ∈ z.cps.toList := by
    have : z.cps.toList[i]? = some c := by simpa using h
    exact List.mem_of_getElem? this
  have : z.cps.toList.all okSign = false := by
    rw [List.all_eq_false]
    exact ⟨c, hm, by rw [hc]; exact Bool.false_ne_true⟩
  rw [this, Bool.and_false]
section
variable {P : Program} {w : World} {K : PySem.W.Frag} {mg : Str → Option Value} {base : Heap} {a : Ad}
theorem ok_is_text (T : Tx K mg a) : FnOk P w K mg base CX0 1 a.f_is_text a.d_is_text ["value"] sp_is_text := by
  refine T.F_is_text.ok sc_is_text (fun vs H Q E h => ?_) (fun cdv A outer s H vs Q E hr h => ?_)
  · obtain ⟨v, d, rfl, _⟩ := h
    rfl
  obtain ⟨v, d, rfl, hv, k⟩ := h
  refine ⟨_, (@pss_cons _ _ _ _ _ (@ps_if _ _ _ _ _ _ _ _ (@pw_or _ _ _ _ _ _ _ (@pt_not _ _ _ _ (@pt_val _ _ _ (@pe_callB _ _ _ _ _ _ _ _ _ (@call_isinst _ _ rfl) (by rfl) T.z_isinstance boot_isinstance (@pa_cons _ _ _ _ _ (pv 0) (@pa_cons _ _ _ _ _ (@pe_bltn _ _ (.ty "str") _ _ (by rfl) T.z_str boot_str rfl (by first | rfl | exact .inl rfl | exact .inr rfl | exact .inr (.inl rfl) | decide | decide +kernel | (intro _; rfl)) (by first | rfl | exact .inl rfl | exact .inr rfl | exact .inr (.inl rfl) | decide | decide +kernel | (intro _; rfl))) (@pa_nil _) (by first | rfl | exact .inl rfl | exact .inr rfl | exact .inr (.inl rfl) | decide | decide +kernel | (intro _; rfl))) (by first | rfl | exact .inl rfl | exact .inr rfl | exact .inr (.inl rfl) | decide | decide +kernel | (intro _; rfl))) (by first | rfl | exact .inl rfl | exact .inr rfl | exact .inr (.inl rfl) | decide | decide +kernel | (intro _; rfl)) (by first | rfl | exact .inl rfl | exact .inr rfl | exact .inr (.inl rfl) | decide | decide +kernel | (intro _; rfl)) (by first | rfl | exact .inl rfl | exact .inr rfl | exact .inr (.inl rfl) | decide | decide +kernel | (intro _; rfl)) (by first | rfl | exact .inl rfl | exact .inr rfl | exact .inr (.inl rfl) | decide | decide +kernel | (intro _; rfl))) (by first | rfl | exact .inl rfl | exact .inr rfl | exact .inr (.inl rfl) | decide | decide +kernel | (intro _; rfl)))) (@pw_or1 _ _ _ _ (@pt_cmpR _ _ _ _ _ _ _ _ (@op_gt _) (@pe_callB _ _ _ _ _ _ _ _ _ (@call_len_str _) (by rfl) T.z_len PySem.boot_len (@pa_cons _ _ _ _ _ (pv 0) (@pa_nil _) (by first | rfl | exact .inl rfl | exact .inr rfl | exact .inr (.inl rfl) | decide | decide +kernel | (intro _; rfl))) (by first | rfl | exact .inl rfl | exact .inr rfl | exact .inr (.inl rfl) | decide | decide +kernel | (intro _; rfl)) (by first | rfl | exact .inl rfl | exact .inr rfl | exact .inr (.inl rfl) | decide | decide +kernel | (intro _; rfl)) (by first | rfl | exact .inl rfl | exact .inr rfl | exact .inr (.inl rfl) | decide | decide +kernel | (intro _; rfl)) (by first | rfl | exact .inl rfl | exact .inr rfl | exact .inr (.inl rfl) | decide | decide +kernel | (intro _; rfl))) (@pe_gI _ _ _ _ (by rfl) T.m_MOST_SIGNS (by first | rfl | exact .inl rfl | exact .inr rfl | exact .inr (.inl rfl) | decide | decide +kernel | (intro _; rfl))) (nomark _)))).pt (@pss_one _ _ _ (@ps_ret _ _ _ _ (@pe_bl _ _ _ _))) (@pss_nil _)) (@pss_cons _ _ _ _ _ (@ps_for _ _ _ _ _ _ _ _ PassesOwn.never rfl (@pi_str _ _ _ _ (pv 0)) (@pg_name _ _ (1) _ sc_is_text.nd rfl (Or.inl rfl) (by first | rfl | exact .inl rfl | exact .inr rfl | exact .inr (.inl rfl) | decide | decide +kernel | (intro _; rfl))) (@pss_one _ _ _ (@ps_if _ _ _ _ _ _ _ _ (@pw_or _ _ _ _ _ _ _ (@pt_cmpR _ _ _ _ _ _ _ _ (@op_lt_str _) (pv 1) (@pe_str _ _ _ _) (nomark _)) (@pw_or _ _ _ _ _ _ _ (@pt_cmpR _ _ _ _ _ _ _ _ (@op_gt_str _) (pv 1) (@pe_str _ _ _ _) (nomark _)) (@pw_or1 _ _ _ _ (@pt_cmpR _ _ _ _ _ _ _ _ (@op_eq _) (@pe_callB _ _ _ _ _ _ _ _ _ (@call_ord _) (by rfl) T.z_ord boot_ord (@pa_cons _ _ _ _ _ (pv 1) (@pa_nil _) (by first | rfl | exact .inl rfl | exact .inr rfl | exact .inr (.inl rfl) | decide | decide +kernel | (intro _; rfl))) (by first | rfl | exact .inl rfl | exact .inr rfl | exact .inr (.inl rfl) | decide | decide +kernel | (intro _; rfl)) (by first | rfl | exact .inl rfl | exact .inr rfl | exact .inr (.inl rfl) | decide | decide +kernel | (intro _; rfl)) (by first | rfl | exact .inl rfl | exact .inr rfl | exact .inr (.inl rfl) | decide | decide +kernel | (intro _; rfl)) (by first | rfl | exact .inl rfl | exact .inr rfl | exact .inr (.inl rfl) | decide | decide +kernel | (intro _; rfl))) (@pe_gI _ _ _ _ (by rfl) T.m_PERCENT (by first | rfl | exact .inl rfl | exact .inr rfl | exact .inr (.inl rfl) | decide | decide +kernel | (intro _; rfl))) (nomark _))))).pt (@pss_one _ _ _ (@ps_ret _ _ _ _ (@pe_bl _ _ _ _))) (@pss_nil _))) (by first | rfl | exact .inl rfl | exact .inr rfl | exact .inr (.inl rfl) | decide | decide +kernel | (intro _; rfl))) (@pss_one _ _ _ (@ps_ret _ _ _ _ (@pe_bl _ _ _ _))))), ?_⟩
  refine ⟨_, rfl, v, "str", tyD d, isStr d, rfl, hv.ty, kit_str d, _, rfl, ?_⟩
  cases d with
  | str z =>
    obtain ⟨rfl, hz⟩ := hv
    refine iteF ?_
    refine ⟨_, rfl, z, rfl, hz, _, _, rfl, rfl, _, rfl, ?_⟩
    refine ite2 (fun c => ?_) (fun c => ?_)
    · have c' : (300 : Int) < (z.length : Int) := of_decide_eq_true c
      have e : isTx (.str z) = false := okText_long (by omega)
      rw [e] at k
      exact k
    · have c' : ¬ (300 : Int) < (z.length : Int) := fun q => c (decide_eq_true q)
      refine ⟨_, rfl, z, rfl, ?_⟩
      refine for_str (fun i σ H' => (∃ x, σ = [some (.str z), x]) ∧ H' = H ∧ (z.cps.toList.take i).all okSign = true) ⟨⟨_, rfl⟩, rfl, rfl⟩ ?_ ?_
      · rintro i c σ H' hc ⟨⟨x, rfl⟩, rfl, hall⟩
        have bad : okSign c = false → Q (.bl false) H' := fun e => by
          have e' : isTx (.str z) = false := okText_bad hc e
          rw [e'] at k
          exact k
        refine ⟨_, rfl, _, _, rfl, rfl, _, rfl, ?_⟩
        rw [show decide ((⟨#[c]⟩ : Str).cps.toList < (" " : Str).cps.toList) = decide (c < 32) from lt_one c 32]
        refine ite2 (fun c1 => ?_) (fun c1 => ?_)
        · refine iteT (bad ?_)
          have := of_decide_eq_true c1
          unfold okSign
          rw [decide_eq_false (by omega)]
          rfl
        · have c1' : ¬ c < 32 := fun q => c1 (decide_eq_true q)
          refine ⟨_, rfl, _, _, rfl, rfl, _, rfl, ?_⟩
          rw [show decide (("~" : Str).cps.toList < (⟨#[c]⟩ : Str).cps.toList) = decide (126 < c) from one_gt c 126]
          refine ite2 (fun c2 => ?_) (fun c2 => ?_)
          · refine iteT (bad ?_)
            have := of_decide_eq_true c2
            unfold okSign
            rw [decide_eq_false (p := c ≤ 126) (by omega), Bool.and_false]
            rfl
          · have c2' : ¬ 126 < c := fun q => c2 (decide_eq_true q)
            refine ⟨_, rfl, _, rfl, rfl, rfl, _, rfl, ?_⟩
            refine ite2 (fun c3 => ?_) (fun c3 => ?_)
            · have c3' : c = 37 := by
                have := of_decide_eq_true c3
                have := V.int.inj this
                exact Int.ofNat.inj this
              exact bad (by subst c3'; rfl)
            · have c3' : c ≠ 37 := fun q => c3 (decide_eq_true (by rw [q]; rfl))
              refine ⟨⟨_, rfl⟩, rfl, ?_⟩
              rw [List.take_add_one, show z.cps.toList[i]? = some c by simpa using hc, List.all_append, hall]
              show (true && (okSign c && true)) = true
              unfold okSign
              rw [decide_eq_true (by omega), decide_eq_true (p := c ≤ 126) (by omega), decide_eq_true c3']
              rfl
      · rintro σ H' ⟨⟨x, rfl⟩, rfl, hall⟩
        have e : isTx (.str z) = true := by
          show okText z = true
          unfold okText
          rw [List.take_of_length_le (by simp)] at hall
          rw [hall, decide_eq_true (by omega)]
          rfl
        rw [e] at k
        exact k
  | _ => exact iteT (iteT k)
end
end K03

set_option Elab.async false
set_option linter.all false
set_option maxRecDepth 100000
set_option maxHeartbeats 4000000
namespace K03
open PySem L2 PyProof.Rows
theorem map_snoc {α β : Type} (f : α → β) (xs : List α) (x : α) : (xs ++ [x]).map f = xs.map f ++ [f x] := by simp
theorem last_at {α : Type} (us : List α) (x : α) : (us ++ [x])[(us ++ [x]).length - 1]? = some x := by simp
theorem drop_last {α : Type} (us : List α) (x : α) : (us ++ [x]).dropLast = us := by simp
/-- what is_tree's loop knows -/
def Wt (v : V) (d : D) (H : Hp) (L : Addr) (m : Nat) (σ : L2.St) (H' : Hp) : Prop :=
  ∃ (n : Nat) (w : List (D × Nat)) (ws : List V) (x3 x4 x5 : Option V), σ = [some v, some (.int n), some (.ref L), x3, x4, x5] ∧ Same H H' ∧ H' L = some (.lst ws) ∧ IsL H' (w.map pr) ws ∧ G w n = isT d ∧ n ≤ 600 ∧ w.length ≤ 1 + 40 * n ∧ m = ndL (w.map (·.1))
section
variable {P : Program} {w : World} {K : PySem.W.Frag} {mg : Str → Option Value} {base : Heap} {a : Ad}
theorem ok_is_tree (T : Tx K mg a) : FnOk P w K mg base CX0 2 a.f_is_tree a.d_is_tree ["value"] sp_is_tree := by
  have G_is_text : FnOk P w K mg base CX0 1 a.f_is_text a.d_is_text ["value"] sp_is_text := ok_is_text T
  refine T.F_is_tree.ok sc_is_tree (fun vs H Q E h => ?_) (fun cdv A outer s H vs Q E hr h => ?_)
  · obtain ⟨v, d, rfl, _⟩ := h
    rfl
  obtain ⟨v, d, rfl, hv, k⟩ := h
  refine ⟨_, (@pss_cons _ _ _ _ _ (@ps_set _ _ (1) _ _ _ _ sc_is_tree.nd rfl (Or.inl rfl) (@pe_int _ _ _ _) (by first | rfl | exact .inl rfl | exact .inr rfl | exact .inr (.inl rfl) | decide | decide +kernel | (intro _; rfl)) (by first | rfl | exact .inl rfl | exact .inr rfl | exact .inr (.inl rfl) | decide | decide +kernel | (intro _; rfl))) (@pss_cons _ _ _ _ _ (@ps_set _ _ (2) _ _ _ _ sc_is_tree.nd rfl (Or.inl rfl) (@pe_lst _ _ _ _ (@pa_cons _ _ _ _ _ (@pe_tup _ _ _ _ _ (@pa_cons _ _ _ _ _ (pv 0) (@pa_cons _ _ _ _ _ (@pe_int _ _ _ _) (@pa_nil _) (by first | rfl | exact .inl rfl | exact .inr rfl | exact .inr (.inl rfl) | decide | decide +kernel | (intro _; rfl))) (by first | rfl | exact .inl rfl | exact .inr rfl | exact .inr (.inl rfl) | decide | decide +kernel | (intro _; rfl)))) (@pa_nil _) (by first | rfl | exact .inl rfl | exact .inr rfl | exact .inr (.inl rfl) | decide | decide +kernel | (intro _; rfl)))) (by first | rfl | exact .inl rfl | exact .inr rfl | exact .inr (.inl rfl) | decide | decide +kernel | (intro _; rfl)) (by first | rfl | exact .inl rfl | exact .inr rfl | exact .inr (.inl rfl) | decide | decide +kernel | (intro _; rfl))) (@pss_cons _ _ _ _ _ (@ps_while _ _ _ _ _ _ PassesOwn.never (@pt_truth _ _ _ (pv 2) (fun _ => rfl)) (@pss_cons _ _ _ _ _ (@ps_set _ _ (3) _ _ _ _ sc_is_tree.nd rfl (Or.inl rfl) (@pe_bm0 _ _ _ _ _ _ _ _ _ PySem.F.plainAttrs_list PySem.F.slot_list_pop PySem.F.type_list_pop (@mt_pop _) (pv 2) (by first | rfl | exact .inl rfl | exact .inr rfl | exact .inr (.inl rfl) | decide | decide +kernel | (intro _; rfl)) (by first | rfl | exact .inl rfl | exact .inr rfl | exact .inr (.inl rfl) | decide | decide +kernel | (intro _; rfl))) (by first | rfl | exact .inl rfl | exact .inr rfl | exact .inr (.inl rfl) | decide | decide +kernel | (intro _; rfl)) (by first | rfl | exact .inl rfl | exact .inr rfl | exact .inr (.inl rfl) | decide | decide +kernel | (intro _; rfl))) (@pss_cons _ _ _ _ _ (@ps_set _ _ (4) _ _ _ _ sc_is_tree.nd rfl (Or.inl rfl) (@pe_ix _ _ _ _ _ _ _ (@ix_tup _) (pv 3) (@pe_int _ _ _ _) (fun _ _ => rfl)) (by first | rfl | exact .inl rfl | exact .inr rfl | exact .inr (.inl rfl) | decide | decide +kernel | (intro _; rfl)) (by first | rfl | exact .inl rfl | exact .inr rfl | exact .inr (.inl rfl) | decide | decide +kernel | (intro _; rfl))) (@pss_cons _ _ _ _ _ (@ps_set _ _ (5) _ _ _ _ sc_is_tree.nd rfl (Or.inr rfl) (@pe_ix _ _ _ _ _ _ _ (@ix_tup _) (pv 3) (@pe_int _ _ _ _) (fun _ _ => rfl)) (by first | rfl | exact .inl rfl | exact .inr rfl | exact .inr (.inl rfl) | decide | decide +kernel | (intro _; rfl)) (by first | rfl | exact .inl rfl | exact .inr rfl | exact .inr (.inl rfl) | decide | decide +kernel | (intro _; rfl))) (@pss_cons _ _ _ _ _ (@ps_if _ _ _ _ _ _ _ _ (@pw_and _ _ _ _ _ _ _ (@pt_val _ _ _ (@pe_callB _ _ _ _ _ _ _ _ _ (@call_isinst _ _ rfl) (by rfl) T.z_isinstance boot_isinstance (@pa_cons _ _ _ _ _ (pv 4) (@pa_cons _ _ _ _ _ (@pe_bltn _ _ (.ty "tuple") _ _ (by rfl) T.z_tuple boot_tuple rfl (by first | rfl | exact .inl rfl | exact .inr rfl | exact .inr (.inl rfl) | decide | decide +kernel | (intro _; rfl)) (by first | rfl | exact .inl rfl | exact .inr rfl | exact .inr (.inl rfl) | decide | decide +kernel | (intro _; rfl))) (@pa_nil _) (by first | rfl | exact .inl rfl | exact .inr rfl | exact .inr (.inl rfl) | decide | decide +kernel | (intro _; rfl))) (by first | rfl | exact .inl rfl | exact .inr rfl | exact .inr (.inl rfl) | decide | decide +kernel | (intro _; rfl))) (by first | rfl | exact .inl rfl | exact .inr rfl | exact .inr (.inl rfl) | decide | decide +kernel | (intro _; rfl)) (by first | rfl | exact .inl rfl | exact .inr rfl | exact .inr (.inl rfl) | decide | decide +kernel | (intro _; rfl)) (by first | rfl | exact .inl rfl | exact .inr rfl | exact .inr (.inl rfl) | decide | decide +kernel | (intro _; rfl)) (by first | rfl | exact .inl rfl | exact .inr rfl | exact .inr (.inl rfl) | decide | decide +kernel | (intro _; rfl))) (by first | rfl | exact .inl rfl | exact .inr rfl | exact .inr (.inl rfl) | decide | decide +kernel | (intro _; rfl))) (@pw_and1 _ _ _ _ (@pt_cmpR _ _ _ _ _ _ _ _ (@op_le _) (@pe_callB _ _ _ _ _ _ _ _ _ (@call_len _) (by rfl) T.z_len PySem.boot_len (@pa_cons _ _ _ _ _ (pv 4) (@pa_nil _) (by first | rfl | exact .inl rfl | exact .inr rfl | exact .inr (.inl rfl) | decide | decide +kernel | (intro _; rfl))) (by first | rfl | exact .inl rfl | exact .inr rfl | exact .inr (.inl rfl) | decide | decide +kernel | (intro _; rfl)) (by first | rfl | exact .inl rfl | exact .inr rfl | exact .inr (.inl rfl) | decide | decide +kernel | (intro _; rfl)) (by first | rfl | exact .inl rfl | exact .inr rfl | exact .inr (.inl rfl) | decide | decide +kernel | (intro _; rfl)) (by first | rfl | exact .inl rfl | exact .inr rfl | exact .inr (.inl rfl) | decide | decide +kernel | (intro _; rfl))) (@pe_gI _ _ _ _ (by rfl) T.m_MOST_PARTS (by first | rfl | exact .inl rfl | exact .inr rfl | exact .inr (.inl rfl) | decide | decide +kernel | (intro _; rfl))) (nomark _)))).pt (@pss_cons _ _ _ _ _ (@ps_aug _ _ (1) _ _ _ _ _ _ sc_is_tree.nd rfl (Or.inl rfl) (@pe_int _ _ _ _) ip_add (by first | rfl | exact .inl rfl | exact .inr rfl | exact .inr (.inl rfl) | decide | decide +kernel | (intro _; rfl))) (@pss_one _ _ _ (@ps_expr _ _ _ _ (@pe_bm _ _ _ _ _ _ _ _ _ _ _ _ PySem.F.plainAttrs_list PySem.F.slot_list_extend PySem.F.type_list_extend (@mt_extend _) (pv 2) (@pa_cons _ _ _ _ _ (@pe_lc _ _ (["below", "depth"]) (1) ([5]) _ _ _ _ _ _ _ _ _ (lcsN (defScope s_is_tree) ["value", "size", "waiting", "pair", "part", "depth"]) rfl (@pi_tupB _ _ _ _ (pv 4)) (fun _ _ _ _ _ _ => (@pg_name _ _ (0) _ (show List.Nodup (["below", "depth"] : List Str) by decide +kernel) rfl (Or.inl rfl) (by first | rfl | exact .inl rfl | exact .inr rfl | exact .inr (.inl rfl) | decide | decide +kernel | (intro _; rfl)))) (fun _ _ _ _ _ _ => @pif_nil _) (fun _ _ _ _ _ _ => (@pe_tup _ _ _ _ _ (@pa_cons _ _ _ _ _ (pv 0) (@pa_cons _ _ _ _ _ (@pe_op _ _ _ _ _ _ _ _ (@op_add _) (pv 1) (@pe_int _ _ _ _)) (@pa_nil _) (by first | rfl | exact .inl rfl | exact .inr rfl | exact .inr (.inl rfl) | decide | decide +kernel | (intro _; rfl))) (by first | rfl | exact .inl rfl | exact .inr rfl | exact .inr (.inl rfl) | decide | decide +kernel | (intro _; rfl))))) (by first | rfl | exact .inl rfl | exact .inr rfl | exact .inr (.inl rfl) | decide | decide +kernel | (intro _; rfl))) (@pa_nil _) (by first | rfl | exact .inl rfl | exact .inr rfl | exact .inr (.inl rfl) | decide | decide +kernel | (intro _; rfl))) (by first | rfl | exact .inl rfl | exact .inr rfl | exact .inr (.inl rfl) | decide | decide +kernel | (intro _; rfl)) (by first | rfl | exact .inl rfl | exact .inr rfl | exact .inr (.inl rfl) | decide | decide +kernel | (intro _; rfl)) (by first | rfl | exact .inl rfl | exact .inr rfl | exact .inr (.inl rfl) | decide | decide +kernel | (intro _; rfl)) (by first | rfl | exact .inl rfl | exact .inr rfl | exact .inr (.inl rfl) | decide | decide +kernel | (intro _; rfl)) (by first | rfl | exact .inl rfl | exact .inr rfl | exact .inr (.inl rfl) | decide | decide +kernel | (intro _; rfl))) (by first | rfl | exact .inl rfl | exact .inr rfl | exact .inr (.inl rfl) | decide | decide +kernel | (intro _; rfl))))) (@pss_one _ _ _ (@ps_if _ _ _ _ _ _ _ _ (@pt_val _ _ _ (@pe_call _ _ _ _ _ _ _ _ _ _ _ _ _ _ _ _ G_is_text (hr.mono (by first | decide | omega)) (by rfl) T.m_is_text T.F_is_text.kp T.b_is_text .nil pass0 (@pa_cons _ _ _ _ _ (pv 4) (@pa_nil _) (by first | rfl | exact .inl rfl | exact .inr rfl | exact .inr (.inl rfl) | decide | decide +kernel | (intro _; rfl))) (by first | rfl | exact .inl rfl | exact .inr rfl | exact .inr (.inl rfl) | decide | decide +kernel | (intro _; rfl)) (by first | rfl | exact .inl rfl | exact .inr rfl | exact .inr (.inl rfl) | decide | decide +kernel | (intro _; rfl)) (by first | rfl | exact .inl rfl | exact .inr rfl | exact .inr (.inl rfl) | decide | decide +kernel | (intro _; rfl))) (by first | rfl | exact .inl rfl | exact .inr rfl | exact .inr (.inl rfl) | decide | decide +kernel | (intro _; rfl))) (@pss_one _ _ _ (@ps_aug _ _ (1) _ _ _ _ _ _ sc_is_tree.nd rfl (Or.inl rfl) (@pe_op _ _ _ _ _ _ _ _ (@op_add _) (@pe_int _ _ _ _) (@pe_callB _ _ _ _ _ _ _ _ _ (@call_len _) (by rfl) T.z_len PySem.boot_len (@pa_cons _ _ _ _ _ (pv 4) (@pa_nil _) (by first | rfl | exact .inl rfl | exact .inr rfl | exact .inr (.inl rfl) | decide | decide +kernel | (intro _; rfl))) (by first | rfl | exact .inl rfl | exact .inr rfl | exact .inr (.inl rfl) | decide | decide +kernel | (intro _; rfl)) (by first | rfl | exact .inl rfl | exact .inr rfl | exact .inr (.inl rfl) | decide | decide +kernel | (intro _; rfl)) (by first | rfl | exact .inl rfl | exact .inr rfl | exact .inr (.inl rfl) | decide | decide +kernel | (intro _; rfl)) (by first | rfl | exact .inl rfl | exact .inr rfl | exact .inr (.inl rfl) | decide | decide +kernel | (intro _; rfl)))) ip_add (by first | rfl | exact .inl rfl | exact .inr rfl | exact .inr (.inl rfl) | decide | decide +kernel | (intro _; rfl)))) (@pss_one _ _ _ (@ps_ret _ _ _ _ (@pe_bl _ _ _ _)))))) (@pss_one _ _ _ (@ps_if _ _ _ _ _ _ _ _ (@pw_or _ _ _ _ _ _ _ (@pt_cmpR _ _ _ _ _ _ _ _ (@op_gt _) (pv 5) (@pe_gI _ _ _ _ (by rfl) T.m_MOST_DEPTH (by first | rfl | exact .inl rfl | exact .inr rfl | exact .inr (.inl rfl) | decide | decide +kernel | (intro _; rfl))) (nomark _)) (@pw_or1 _ _ _ _ (@pt_cmpR _ _ _ _ _ _ _ _ (@op_gt _) (pv 1) (@pe_gI _ _ _ _ (by rfl) T.m_MOST_SIZE (by first | rfl | exact .inl rfl | exact .inr rfl | exact .inr (.inl rfl) | decide | decide +kernel | (intro _; rfl))) (nomark _)))).pt (@pss_one _ _ _ (@ps_ret _ _ _ _ (@pe_bl _ _ _ _))) (@pss_nil _)))))))) (@pss_one _ _ _ (@ps_ret _ _ _ _ (@pe_bl _ _ _ _)))))), ?_⟩
  have no : ∀ {H' : Hp} {w : List (D × Nat)} {n : Nat}, Same H H' → G w n = isT d → G w n = false → Q (.bl false) H' := fun {H' w n} sm e1 e2 => by
    have q := k H' sm
    rw [← e1, e2] at q
    exact q
  refine ⟨_, rfl, (by show 2 ≤ sizeLine; decide), fun t1 h1 => ⟨(by show 1 ≤ sizeLine; decide), fun L hL => ?_⟩⟩
  have s1 : Same H (upd H t1 (.tup [v, .int 1])) := same_new h1 _
  have s2 : Same H (upd (upd H t1 (.tup [v, .int 1])) L (.lst [.ref t1])) := s1.trans (same_new hL _)
  have hLH : H L = none := s1.free hL
  have i1 : Is (upd H t1 (.tup [v, .int 1])) (pr (d, 1)) (.ref t1) := Is.new (ds := [d, .int 1]) ⟨v, _, rfl, hv, _, _, rfl, rfl, rfl⟩ h1
  refine ⟨Wt v d H L, ⟨_, 0, [(d, 1)], [.ref t1], none, none, none, rfl, s2, upd_same, IsL.one (i1.mono (same_new hL _).tk), G_start d, by omega, by simp, rfl⟩, ?_⟩
  rintro m σ H' ⟨n, w, ws, x3, x4, x5, rfl, sm, hl, hw, hG, hn, hwl, rfl⟩
  refine ⟨_, rfl, !ws.isEmpty, .inl ⟨ws, SqL.of hl, rfl⟩, ?_⟩
  rcases List.eq_nil_or_concat w with rfl | ⟨w', ⟨e, j⟩, rfl⟩
  · cases (show ws = [] from hw)
    refine iteF ?_
    have q := k H' sm
    rw [← hG, G_nil hn] at q
    exact q
  · rw [List.concat_eq_append] at *
    rw [map_snoc] at hw
    obtain ⟨us, x, rfl, hu, hx⟩ := hw.unsnoc
    have ne : (!(us ++ [x]).isEmpty) = true := by simp
    rw [ne]
    refine iteT ⟨fun σ' H'' => ∃ m', m' < ndL ((w' ++ [(e, j)]).map (·.1)) ∧ Wt v d H L m' σ' H'', fun _ _ h => h, ?_⟩
    have hm : ndL ((w' ++ [(e, j)]).map (·.1)) = ndL (w'.map (·.1)) + nd e := by
      rw [map_snoc, ndL_append]; simp [ndL]
    have hwl' : w'.length ≤ 40 * n := by
      rw [List.length_append, List.length_singleton] at hwl; omega
    have lu := hu.length
    rw [List.length_map] at lu
    -- pair = waiting.pop()
    refine ⟨_, rfl, .inl ⟨rfl, _, SqL.of hl⟩, L, _, x, rfl, rfl, hl, last_at us x, ?_⟩
    rw [drop_last]
    have t2 : Tk H' (upd H' L (.lst us)) := Tk.updL hl
    have sm2 : Same H (upd H' L (.lst us)) := fun b o z => by rw [upd_ne (ne_of_none z hLH)]; exact sm b o z
    have hx2 : Is (upd H' L (.lst us)) (.tup [e, .int (j : Int)]) x := hx.mono t2
    have hu2 : IsL (upd H' L (.lst us)) (w'.map pr) us := hu.mono t2
    have hl2 : upd H' L (.lst us) L = some (.lst us) := upd_same
    generalize upd H' L (.lst us) = H2 at t2 sm2 hx2 hu2 hl2 ⊢
    clear t2 hl hx hu sm
    -- part, depth
    refine ⟨_, rfl, ix_is (i := 0) hx2 rfl fun y hy => ?_⟩
    refine ⟨_, rfl, ix_is (i := 1) hx2 rfl fun y1 hy1 => ?_⟩
    cases (show y1 = .int (j : Int) from hy1)
    -- behind the branch: depth > 12 or size > 600
    have tail : ∀ (n' : Nat) (w2 : List (D × Nat)) (ws2 : List V) (H3 : Hp), Same H H3 → H3 L = some (.lst ws2) → IsL H3 (w2.map pr) ws2 → (j ≤ 12 → n' ≤ 600 → G w2 n' = isT d) → (12 < j ∨ 600 < n' → isT d = false) → w2.length ≤ 1 + 40 * n' → ndL (w2.map (·.1)) < ndL ((w' ++ [(e, j)]).map (·.1)) →
        ∃ v_1, [some v, some (V.int (n' : Int)), some (V.ref L), some x, some y, some (V.int (j : Int))][5]? = some (some v_1) ∧ ∃ i i_1, v_1 = V.int i ∧ V.int 12 = V.int i_1 ∧ ∃ k, V.bl (decide (i_1 < i)) = V.bl k ∧
          if k = true then if true = true then Q (.bl false) H3 else ∃ m', m' < ndL ((w' ++ [(e, j)]).map (·.1)) ∧ Wt v d H L m' [some v, some (V.int (n' : Int)), some (V.ref L), some x, some y, some (V.int (j : Int))] H3
          else ∃ v_2, [some v, some (V.int (n' : Int)), some (V.ref L), some x, some y, some (V.int (j : Int))][1]? = some (some v_2) ∧ ∃ i i_1, v_2 = V.int i ∧ V.int 600 = V.int i_1 ∧ ∃ k, V.bl (decide (i_1 < i)) = V.bl k ∧
            if k = true then Q (.bl false) H3 else ∃ m', m' < ndL ((w' ++ [(e, j)]).map (·.1)) ∧ Wt v d H L m' [some v, some (V.int (n' : Int)), some (V.ref L), some x, some y, some (V.int (j : Int))] H3 := by
      intro n' w2 ws2 H3 s3 l3 i3 g3 b3 len3 m3
      have bad : isT d = false → Q (.bl false) H3 := fun e => by
        have q := k H3 s3
        rw [e] at q
        exact q
      refine ⟨_, rfl, _, _, rfl, rfl, _, rfl, ?_⟩
      refine ite2 (fun c => iteT (bad (b3 (.inl ?_)))) (fun c => ⟨_, rfl, _, _, rfl, rfl, _, rfl, ?_⟩)
      · have := of_decide_eq_true c; omega
      · have c' : ¬ (12 : Int) < (j : Int) := fun q => c (decide_eq_true q)
        refine ite2 (fun c2 => bad (b3 (.inr ?_))) (fun c2 => ?_)
        · have := of_decide_eq_true c2; omega
        · have c2' : ¬ (600 : Int) < (n' : Int) := fun q => c2 (decide_eq_true q)
          exact ⟨_, m3, n', w2, ws2, _, _, _, rfl, s3, l3, i3, g3 (by omega) (by omega), by omega, len3, rfl⟩
    refine ⟨_, rfl, y, "tuple", tyD e, isTup e, rfl, hy.ty, kit_tup e, _, rfl, ?_⟩
    cases e with
    | tup xs =>
      refine iteT ?_
      obtain ⟨a0, vs, rfl, ha0, hvs⟩ := hy
      have lv := hvs.length
      refine ⟨_, rfl, _, vs.length, rfl, .inr ⟨vs, SqT.of ha0, rfl⟩, _, _, rfl, rfl, _, rfl, ?_⟩
      refine ite2 (fun c => ?_) (fun c => ?_)
      · have c' : (vs.length : Int) ≤ 40 := of_decide_eq_true c
        refine ⟨_, rfl, _, _, rfl, rfl, ?_⟩
        refine ⟨_, rfl, .inl ⟨rfl, _, SqL.of hl2⟩, _, rfl, a0, vs, rfl, SqT.of ha0, fun hvl A0 hA0 => ?_⟩
        refine lc_tupS (tl := [some (.int (j : Int))]) (fun d0 => .tup [d0, .int ((j + 1 : Nat) : Int)]) ha0 hvs (fits (by omega)) hA0 (fun d0 x0 H3 R _ s3 i3 r => ?_) fun H3 ys s3 l3 i3 => ?_
        · refine ⟨_, rfl, _, rfl, _, _, rfl, rfl, (by show 2 ≤ sizeLine; decide), fun p hp => ?_⟩
          exact r _ _ (same_new hp _) (Is.new (ds := [d0, .int ((j + 1 : Nat) : Int)]) ⟨x0, _, rfl, i3, _, _, rfl, rfl, rfl⟩ hp)
        · have ly := i3.length
          rw [List.length_map] at ly
          have eA : A0 ≠ L := fun z => by rw [z, hl2] at hA0; cases hA0
          refine ⟨L, A0, us, ys, rfl, rfl, s3 _ _ hl2, l3, fits (by omega), ?_⟩
          have t4 : Tk H3 (upd H3 L (.lst (us ++ ys))) := Tk.updL (s3 _ _ hl2)
          have em : (w' ++ xs.map fun d0 => (d0, j + 1)).map pr = w'.map pr ++ xs.map fun d0 => .tup [d0, .int ((j + 1 : Nat) : Int)] := by
            rw [List.map_append, List.map_map]; rfl
          have ef : (w' ++ xs.map fun d0 => (d0, j + 1)).map (·.1) = w'.map (·.1) ++ xs := by
            rw [List.map_append, List.map_map]
            congr 1
            exact List.map_id xs
          refine tail (n + 1) (w' ++ xs.map fun d0 => (d0, j + 1)) (us ++ ys) _ (fun b o z => by rw [upd_ne (ne_of_none z hLH)]; exact s3 b o (sm2 b o z)) upd_same (by rw [em]; exact ((hu2.mono s3.tk).mono t4).append (i3.mono t4)) (fun h1 h2 => ?_) (fun h => ?_) ?_ ?_
          · rw [← hG, G_tup (by omega) h1]
          · rw [← hG]
            rcases h with h | h
            · exact G_deep h
            · exact G_big1 h
          · rw [List.length_append, List.length_map]; omega
          · rw [ef, hm, ndL_append]
            simp only [nd]
            omega
      · have c' : ¬ (vs.length : Int) ≤ 40 := fun q => c (decide_eq_true q)
        refine ⟨_, rfl, _, .tup xs, rfl, (show Is _ (.tup xs) (.ref a0) from ⟨a0, vs, rfl, ha0, hvs⟩), _, rfl, ?_⟩
        refine iteF ?_
        refine no sm2 hG (G_bad ?_)
        simp only [good]
        rw [decide_eq_false (by omega)]
        rfl
    | str z =>
      refine iteF ?_
      obtain ⟨rfl, hz⟩ := hy
      refine ⟨_, rfl, _, .str z, rfl, ⟨rfl, hz⟩, _, rfl, ?_⟩
      cases ht : okText z with
      | false =>
        have e1 : isTx (.str z) = false := ht
        rw [e1]
        refine iteF ?_
        refine no sm2 hG (G_bad ?_)
        simp only [good]
        exact ht
      | true =>
        have e1 : isTx (.str z) = true := ht
        rw [e1]
        refine iteT ?_
        refine ⟨_, rfl, _, rfl, _, z.length, rfl, ⟨hz, rfl⟩, _, _, rfl, rfl, _, _, rfl, rfl, ?_⟩
        have en : (n : Int) + (1 + (z.length : Int)) = ((n + (1 + z.length) : Nat) : Int) := by omega
        show ∃ v_1, [some v, some (V.int ((n : Int) + (1 + (z.length : Int)))), some (V.ref L), some x, some (V.str z), some (V.int (j : Int))][5]? = some (some v_1) ∧ _
        rw [en]
        refine tail (n + (1 + z.length)) w' us _ sm2 hl2 hu2 (fun h1 h2 => ?_) (fun h => ?_) (by omega) (by rw [hm]; simp only [nd]; omega)
        · rw [← hG, G_str ht h1]
        · rw [← hG]
          rcases h with h | h
          · exact G_deep h
          · refine G_big ?_
            simp only [sz]
            omega
    | _ =>
      refine iteF ?_
      refine ⟨_, rfl, _, _, rfl, hy, _, rfl, ?_⟩
      exact iteF (no sm2 hG (G_bad rfl))
end
end K03

set_option Elab.async false
set_option linter.all false
set_option maxRecDepth 100000
set_option maxHeartbeats 4000000
namespace K03
open PySem L2 PyProof.Rows PySem.Builtin PySem.Builtin.Str
/-! ### one sign of a text -/
def one (l : List Nat) : Str := match l with | [] => "" | c :: _ => ⟨#[c]⟩
theorem slice_few (z : Str) (l u : Option Int) : (Txt.slice z l u).length ≤ (strSliceIndices l u 1 z.length).length := by
  unfold Txt.slice
  split
  · rename_i h
    rw [Bool.and_eq_true, beq_iff_eq, beq_iff_eq] at h
    omega
  · show (List.filterMap _ (strSliceIndices l u 1 z.length)).toArray.size ≤ _
    rw [List.size_toArray]
    exact List.length_filterMap_le _ _
theorem slice_end (z : Str) {p : Nat} (h : z.length ≤ p) : (Txt.slice z (some (p : Int)) (some ((p : Int) + 1))).length ≤ 0 := by
  refine Nat.le_trans (slice_few z _ _) ?_
  unfold strSliceIndices sliceRange
  simp only [show (1 : Int) > 0 by decide, if_true, List.length_map, List.length_range]
  (split <;> (try split) <;> (try split) <;> (try simp only [Int.ediv_one]) <;> omega)
theorem str_nil {z : Str} (h : z.length ≤ 0) : z = "" := by
  apply str_ext
  rw [len_cps] at h
  have : z.cps.toList = [] := List.length_eq_zero_iff.mp (by omega)
  rw [this]
  rfl
theorem slice_one (z : Str) (p : Nat) : Txt.slice z (some (p : Int)) (some ((p : Int) + 1)) = one (z.cps.toList.drop p) := by
  rcases Nat.lt_or_ge p z.length with h | h
  · have e : Txt.slice z (some (p : Int)) (some ((p + 1 : Nat) : Int)) = ⟨((z.cps.toList.drop p).take (p + 1 - p)).toArray⟩ := StrLaws.sliceText_nat z (Nat.le_succ p) h
    rw [show ((p : Int) + 1) = ((p + 1 : Nat) : Int) by omega, e, Nat.add_sub_cancel_left]
    rw [len_cps] at h
    rw [List.drop_eq_getElem_cons h]
    rfl
  · rw [str_nil (slice_end z h), List.drop_eq_nil_of_le (by rw [← len_cps]; exact h)]
    rfl
theorem one_is {l : List Nat} {c : Nat} : (V.str (one l) = V.str ⟨#[c]⟩) ↔ ∃ r, l = c :: r := by
  constructor
  · intro h
    cases l with
    | nil => cases h
    | cons x r =>
      have : x = c := one_inj (V.str.inj h)
      exact ⟨r, by rw [this]⟩
  · rintro ⟨r, rfl⟩
    rfl
theorem glue_ones : ∀ l : List Nat, (Str.join "" (l.map fun c => (⟨#[c]⟩ : Str))).cps.toList = l
  | [] => rfl
  | [c] => rfl
  | c :: d :: r => by
    have ih := glue_ones (d :: r)
    have e : (Str.join "" ((c :: d :: r).map fun c => (⟨#[c]⟩ : Str))).cps.toList = [c] ++ ([] ++ (Str.join "" ((d :: r).map fun c => (⟨#[c]⟩ : Str))).cps.toList) := by
      show ((⟨#[c]⟩ : Str) ++ "" ++ Str.join "" ((d :: r).map fun c => (⟨#[c]⟩ : Str))).cps.toList = _
      simp only [Str.cps_append, Array.toList_append, List.append_assoc]
      rfl
    rw [e, ih]
    rfl
theorem esc_one (k : Nat) : esc [k] = if k = 92 then [92, 92] else if k = 34 then [92, 34] else [k] := by simp [esc]
theorem esc_cut : ∀ (z0 z s r : List Nat), esc z0 ++ s = esc z ++ 34 :: r → ∃ y, z = z0 ++ y ∧ s = esc y ++ 34 :: r
  | [], z, s, r, h => ⟨z, rfl, h⟩
  | k :: q, [], s, r, h => by
    exfalso
    have e1 : esc (k :: q) = (if k = 92 then [92, 92] else if k = 34 then [92, 34] else [k]) ++ esc q := rfl
    rw [e1] at h
    by_cases h1 : k = 92
    · simp [esc, h1] at h
    · by_cases h2 : k = 34
      · simp [esc, h2] at h
      · simp [esc, h1, h2] at h
  | k :: q, j :: p, s, r, h => by
    have e1 : esc (k :: q) = (if k = 92 then [92, 92] else if k = 34 then [92, 34] else [k]) ++ esc q := rfl
    have e2 : esc (j :: p) = (if j = 92 then [92, 92] else if j = 34 then [92, 34] else [j]) ++ esc p := rfl
    rw [e1, e2, List.append_assoc, List.append_assoc] at h
    have fin : k = j → esc q ++ s = esc p ++ 34 :: r → ∃ y, j :: p = k :: q ++ y ∧ s = esc y ++ 34 :: r := fun a b => by
      obtain ⟨y, c, d⟩ := esc_cut q p s r b
      exact ⟨y, by rw [a, c]; rfl, d⟩
    by_cases h1 : k = 92
    · rw [if_pos h1] at h
      by_cases j1 : j = 92
      · rw [if_pos j1] at h
        exact fin (h1.trans j1.symm) (List.append_cancel_left h)
      · exfalso
        rw [if_neg j1] at h
        by_cases j2 : j = 34
        · rw [if_pos j2] at h; simp at h
        · rw [if_neg j2] at h; simp at h; exact j1 h.1.symm
    · rw [if_neg h1] at h
      by_cases h2 : k = 34
      · rw [if_pos h2] at h
        by_cases j1 : j = 92
        · exfalso; rw [if_pos j1] at h; simp at h
        · rw [if_neg j1] at h
          by_cases j2 : j = 34
          · rw [if_pos j2] at h
            exact fin (h2.trans j2.symm) (List.append_cancel_left h)
          · exfalso; rw [if_neg j2] at h; simp at h; exact j1 h.1.symm
      · rw [if_neg h2] at h
        by_cases j1 : j = 92
        · exfalso; rw [if_pos j1] at h; simp at h; exact h1 h.1
        · rw [if_neg j1] at h
          by_cases j2 : j = 34
          · exfalso; rw [if_pos j2] at h; simp at h; exact h1 h.1
          · rw [if_neg j2] at h
            have h' : k = j ∧ esc q ++ s = esc p ++ 34 :: r := by simpa using h
            exact fin h'.1 h'.2
/-- a text is written here, up to its closing sign -/
def WR (s : List Nat) (z : Str) (r : List Nat) : Prop := s = esc z.cps.toList ++ 34 :: r
theorem WR.cut {s t r : List Nat} {z0 : List Nat} {z : Str} (h : WR (esc z0 ++ s) z r) : ∃ y, s = esc y ++ 34 :: r := by
  obtain ⟨y, _, e⟩ := esc_cut z0 z.cps.toList s r h
  exact ⟨y, e⟩
theorem no_nil {y r : List Nat} : ¬ ([] : List Nat) = esc y ++ 34 :: r := fun h => by
  have := congrArg List.length h
  simp at this
theorem no_back {s y r : List Nat} (hs : ∀ x t, s = x :: t → x ≠ 34 ∧ x ≠ 92) : ¬ (92 :: s) = esc y ++ 34 :: r := fun h => by
  cases y with
  | nil => simp [esc] at h
  | cons k q =>
    have e1 : esc (k :: q) = (if k = 92 then [92, 92] else if k = 34 then [92, 34] else [k]) ++ esc q := rfl
    rw [e1] at h
    by_cases h1 : k = 92
    · rw [if_pos h1] at h
      have h' : s = 92 :: (esc q ++ 34 :: r) := by simpa using h
      exact (hs _ _ h').2 rfl
    · rw [if_neg h1] at h
      by_cases h2 : k = 34
      · rw [if_pos h2] at h
        have h' : s = 34 :: (esc q ++ 34 :: r) := by simpa using h
        exact (hs _ _ h').1 rfl
      · rw [if_neg h2] at h
        have h' : 92 = k ∧ s = esc q ++ 34 :: r := by simpa using h
        exact h1 h'.1.symm
/-- what is read of a text: data and the place behind it -/
def got (T : Str) (d : D) (r : List Nat) : D := .tup [d, .int ((T.length - r.length : Nat) : Int)]
def sp_words (bad : Addr) : Sp := fun vs H Q E => ∃ (T : Str) (p : Nat), vs = [.str T, .int (p : Int)] ∧ T.length ≤ 100000 ∧ p ≤ T.length ∧
  (∀ (z : Str) (r : List Nat) (v : V) (H' : Hp), WR (T.cps.toList.drop p) z r → z.length ≤ 100000 → Same H H' → Is H' (got T (.str z) r) v → Q v H') ∧
  ((∀ z r, ¬ WR (T.cps.toList.drop p) z r) → ∀ (e : Addr) (H' : Hp), Same H H' → E (.ref e) (some bad) H')
end K03

set_option Elab.async false
set_option linter.all false
set_option maxRecDepth 100000
set_option maxHeartbeats 4000000
namespace K03
open PySem L2 PyProof.Rows
theorem drop_step {l : List Nat} {q x : Nat} {t : List Nat} (h : l.drop q = x :: t) : l.drop (q + 1) = t ∧ q < l.length ∧ l[q]? = some x := by
  have hq : q < l.length := by
    rcases Nat.lt_or_ge q l.length with h' | h'
    · exact h'
    · rw [List.drop_eq_nil_of_le h'] at h
      cases h
  rw [List.drop_eq_getElem_cons hq] at h
  obtain ⟨a, b⟩ := List.cons.inj h
  exact ⟨b, hq, by rw [List.getElem?_eq_getElem hq, a]⟩
theorem iteFof {b : Bool} {p q : Prop} (e : b = false) (h : q) : if b = true then p else q := by rw [e]; exact h
theorem iteTof {b : Bool} {p q : Prop} (e : b = true) (h : p) : if b = true then p else q := by rw [e]; exact h
def hd2 : List Nat → Bool
  | [] => false
  | x :: _ => decide (x = 34 ∨ x = 92)
theorem in_twoS (l : List Nat) : inV (.str (one l)) [.str "\"", .str "\\"] = hd2 l := by
  cases l with
  | nil => rfl
  | cons x t => exact in_two x
section
variable {P : Program} {w : World} {K : PySem.W.Frag} {mg : Str → Option Value} {base : Heap} {a : Ad} {g : Ga}
theorem ok_words (T : Tx K mg a) (C : Fx K mg g) : FnOk P w K mg base (CX1 P w) 1 a.f_words_at a.d_words_at ["text", "place"] (sp_words g.bad) := by
  refine T.F_words_at.okX sc_words_at (fun vs H Q E h => ?_) (fun cdv A outer s H vs Q E hr h => ?_)
  · obtain ⟨Z, p, rfl, _⟩ := h
    rfl
  obtain ⟨Z, p, rfl, hZ, hp, kQ, kE⟩ := h
  refine ⟨_, (@pss_cons _ _ _ _ _ (@ps_set _ _ (2) _ _ _ _ sc_words_at.nd rfl (Or.inl rfl) (@pe_lst _ _ _ _ (@pa_nil _)) (by first | rfl | exact .inl rfl | exact .inr rfl | exact .inr (.inl rfl) | decide | decide +kernel | (intro _; rfl)) (by first | rfl | exact .inl rfl | exact .inr rfl | exact .inr (.inl rfl) | decide | decide +kernel | (intro _; rfl))) (@pss_cons _ _ _ _ _ (@ps_while _ _ _ _ _ _ PassesOwn.leaving (@pt_cmpR _ _ _ _ _ _ _ _ (@op_ne _) (@pe_slice _ _ _ _ _ _ _ _ _ _ (@sl_str _) (pv 0) (@po_some _ _ _ (pv 1)) (@po_some _ _ _ (@pe_op _ _ _ _ _ _ _ _ (@op_add _) (pv 1) (@pe_int _ _ _ _)))) (@pe_str _ _ _ _) (nomark _)) (@pss_cons _ _ _ _ _ (@ps_if _ _ _ _ _ _ _ _ (@pt_cmpR _ _ _ _ _ _ _ _ (@op_eq _) (@pe_slice _ _ _ _ _ _ _ _ _ _ (@sl_str _) (pv 0) (@po_some _ _ _ (pv 1)) (@po_some _ _ _ (@pe_op _ _ _ _ _ _ _ _ (@op_add _) (pv 1) (@pe_int _ _ _ _)))) (@pe_str _ _ _ _) (nomark _)) (@pss_cons _ _ _ _ _ (@ps_aug _ _ (1) _ _ _ _ _ _ sc_words_at.nd rfl (Or.inl rfl) (@pe_int _ _ _ _) ip_add (by first | rfl | exact .inl rfl | exact .inr rfl | exact .inr (.inl rfl) | decide | decide +kernel | (intro _; rfl))) (@pss_one _ _ _ (@ps_if _ _ _ _ _ _ _ _ (@pt_cmpR _ _ _ _ _ _ _ _ (@op_notIn_seq _) (@pe_slice _ _ _ _ _ _ _ _ _ _ (@sl_str _) (pv 0) (@po_some _ _ _ (pv 1)) (@po_some _ _ _ (@pe_op _ _ _ _ _ _ _ _ (@op_add _) (pv 1) (@pe_int _ _ _ _)))) (@pe_tup _ _ _ _ _ (@pa_cons _ _ _ _ _ (@pe_str _ _ _ _) (@pa_cons _ _ _ _ _ (@pe_str _ _ _ _) (@pa_nil _) (by first | rfl | exact .inl rfl | exact .inr rfl | exact .inr (.inl rfl) | decide | decide +kernel | (intro _; rfl))) (by first | rfl | exact .inl rfl | exact .inr rfl | exact .inr (.inl rfl) | decide | decide +kernel | (intro _; rfl)))) (by with_unfolding_all rfl)) (@pss_one _ _ _ (@ps_raise _ _ _ _ _ _ _ _ _ _ _ _ _ _ _ _ _ _ _ _ _ _ C.x_BadTree (by rfl) C.m_BadTree (@pe_str _ _ _ _) (by first | rfl | exact .inl rfl | exact .inr rfl | exact .inr (.inl rfl) | decide | decide +kernel | (intro _; rfl)) (by first | rfl | exact .inl rfl | exact .inr rfl | exact .inr (.inl rfl) | decide | decide +kernel | (intro _; rfl)))) (@pss_nil _)))) (@pss_nil _)) (@pss_cons _ _ _ _ _ (@ps_if _ _ _ _ _ _ _ _ (@pt_cmpR _ _ _ _ _ _ _ _ (@op_ge _) (pv 1) (@pe_callB _ _ _ _ _ _ _ _ _ (@call_len_str _) (by rfl) T.z_len PySem.boot_len (@pa_cons _ _ _ _ _ (pv 0) (@pa_nil _) (by first | rfl | exact .inl rfl | exact .inr rfl | exact .inr (.inl rfl) | decide | decide +kernel | (intro _; rfl))) (by first | rfl | exact .inl rfl | exact .inr rfl | exact .inr (.inl rfl) | decide | decide +kernel | (intro _; rfl)) (by first | rfl | exact .inl rfl | exact .inr rfl | exact .inr (.inl rfl) | decide | decide +kernel | (intro _; rfl)) (by first | rfl | exact .inl rfl | exact .inr rfl | exact .inr (.inl rfl) | decide | decide +kernel | (intro _; rfl)) (by first | rfl | exact .inl rfl | exact .inr rfl | exact .inr (.inl rfl) | decide | decide +kernel | (intro _; rfl))) (nomark _)) (@pss_one _ _ _ (@ps_raise _ _ _ _ _ _ _ _ _ _ _ _ _ _ _ _ _ _ _ _ _ _ C.x_BadTree (by rfl) C.m_BadTree (@pe_str _ _ _ _) (by first | rfl | exact .inl rfl | exact .inr rfl | exact .inr (.inl rfl) | decide | decide +kernel | (intro _; rfl)) (by first | rfl | exact .inl rfl | exact .inr rfl | exact .inr (.inl rfl) | decide | decide +kernel | (intro _; rfl)))) (@pss_nil _)) (@pss_cons _ _ _ _ _ (@ps_expr _ _ _ _ (@pe_bm _ _ _ _ _ _ _ _ _ _ _ _ PySem.F.plainAttrs_list PySem.F.slot_list_append PySem.F.type_list_append (@mt_append _) (pv 2) (@pa_cons _ _ _ _ _ (@pe_ix _ _ _ _ _ _ _ (@ix_str _) (pv 0) (pv 1) (fun _ _ => rfl)) (@pa_nil _) (by first | rfl | exact .inl rfl | exact .inr rfl | exact .inr (.inl rfl) | decide | decide +kernel | (intro _; rfl))) (by first | rfl | exact .inl rfl | exact .inr rfl | exact .inr (.inl rfl) | decide | decide +kernel | (intro _; rfl)) (by first | rfl | exact .inl rfl | exact .inr rfl | exact .inr (.inl rfl) | decide | decide +kernel | (intro _; rfl)) (by first | rfl | exact .inl rfl | exact .inr rfl | exact .inr (.inl rfl) | decide | decide +kernel | (intro _; rfl)) (by first | rfl | exact .inl rfl | exact .inr rfl | exact .inr (.inl rfl) | decide | decide +kernel | (intro _; rfl)) (by first | rfl | exact .inl rfl | exact .inr rfl | exact .inr (.inl rfl) | decide | decide +kernel | (intro _; rfl))) (by first | rfl | exact .inl rfl | exact .inr rfl | exact .inr (.inl rfl) | decide | decide +kernel | (intro _; rfl))) (@pss_one _ _ _ (@ps_aug _ _ (1) _ _ _ _ _ _ sc_words_at.nd rfl (Or.inl rfl) (@pe_int _ _ _ _) ip_add (by first | rfl | exact .inl rfl | exact .inr rfl | exact .inr (.inl rfl) | decide | decide +kernel | (intro _; rfl)))))))) (@pss_one _ _ _ (@ps_ret _ _ _ _ (@pe_tup _ _ _ _ _ (@pa_cons _ _ _ _ _ (@pe_bm _ _ _ _ _ _ _ _ _ _ _ _ PySem.F.plainAttrs_str PySem.F.slot_str_join PySem.F.type_str_join (@mt_join _) (@pe_str _ _ _ _) (@pa_cons _ _ _ _ _ (pv 2) (@pa_nil _) (by first | rfl | exact .inl rfl | exact .inr rfl | exact .inr (.inl rfl) | decide | decide +kernel | (intro _; rfl))) (by first | rfl | exact .inl rfl | exact .inr rfl | exact .inr (.inl rfl) | decide | decide +kernel | (intro _; rfl)) (by first | rfl | exact .inl rfl | exact .inr rfl | exact .inr (.inl rfl) | decide | decide +kernel | (intro _; rfl)) (by first | rfl | exact .inl rfl | exact .inr rfl | exact .inr (.inl rfl) | decide | decide +kernel | (intro _; rfl)) (by first | rfl | exact .inl rfl | exact .inr rfl | exact .inr (.inl rfl) | decide | decide +kernel | (intro _; rfl)) (by first | rfl | exact .inl rfl | exact .inr rfl | exact .inr (.inl rfl) | decide | decide +kernel | (intro _; rfl))) (@pa_cons _ _ _ _ _ (@pe_op _ _ _ _ _ _ _ _ (@op_add _) (pv 1) (@pe_int _ _ _ _)) (@pa_nil _) (by first | rfl | exact .inl rfl | exact .inr rfl | exact .inr (.inl rfl) | decide | decide +kernel | (intro _; rfl))) (by first | rfl | exact .inl rfl | exact .inr rfl | exact .inr (.inl rfl) | decide | decide +kernel | (intro _; rfl)))))))), ?_⟩
  have hs := sizeLine_eq
  have hz : Z.length ≤ sizeLine := by omega
  have hl : Z.cps.toList.length = Z.length := (len_cps Z).symm
  refine ⟨(by show 0 ≤ sizeLine; omega), fun L gL => ?_⟩
  refine ⟨fun m σ H' => ∃ (q : Nat) (z0 : List Nat), σ = [some (.str Z), some (.int (q : Int)), some (.ref L)] ∧ q ≤ Z.length ∧ Z.cps.toList.drop p = esc z0 ++ Z.cps.toList.drop q ∧ H' L = some (.lst (z0.map fun c => .str ⟨#[c]⟩)) ∧ z0.length ≤ q ∧ Same H H' ∧ m = Z.length - q, ⟨_, p, [], rfl, hp, rfl, upd_same, Nat.zero_le _, same_new gL _, rfl⟩, ?_⟩
  rintro m σ H' ⟨q, z0, rfl, hq, hd, hL, hz0, sm, rfl⟩
  refine ⟨_, rfl, _, rfl, _, rfl, _, rfl, _, _, rfl, rfl, _, rfl, Z, rfl, hz, rfl, _, rfl, ?_⟩
  rw [slice_one]
  by_cases c0 : V.str (one (Z.cps.toList.drop q)) = V.str (⟨#[34]⟩ : Str)
  · -- the end of the text
    refine iteFof (by show (!decide (V.str (one (Z.cps.toList.drop q)) = V.str (⟨#[34]⟩ : Str))) = false; rw [decide_eq_true c0]; rfl) ?_
    obtain ⟨r, er⟩ := one_is.mp c0
    have hlen : (Z.cps.toList.drop q).length = r.length + 1 := by rw [er]; rfl
    rw [List.length_drop, hl] at hlen
    refine ⟨rfl, _, rfl, "", L, z0.map (fun c => (⟨#[c]⟩ : Str)), rfl, rfl, SqL.of (by rw [hL, List.map_map]; rfl), ?_, ?_⟩
    · rw [List.map_map, List.length_map]
      have : (z0.map ((fun x : Str => x.length) ∘ fun c => (⟨#[c]⟩ : Str))).sum = z0.length := by
        clear hd hL hz0
        induction z0 with
        | nil => rfl
        | cons c t ih => rw [List.map_cons, List.sum_cons, ih, List.length_cons]; show 1 + t.length = _; omega
      rw [this, show ("" : Str).length = 0 from rfl]
      omega
    refine ⟨_, rfl, _, _, rfl, rfl, (by show 2 ≤ sizeLine; omega), fun t gt => ?_⟩
    have eg := glue_ones z0
    have gl : (Str.join "" (z0.map fun c => (⟨#[c]⟩ : Str))).length = z0.length := by rw [len_cps, eg]
    refine kQ _ r _ _ (by unfold WR; rw [eg, hd, er]) (by rw [gl]; omega) (sm.trans (same_new gt _)) ?_
    refine Is.new (ds := [.str _, .int _]) ⟨_, _, rfl, ⟨rfl, by rw [gl]; omega⟩, _, _, rfl, ?_, rfl⟩ gt
    show V.int ((q : Int) + 1) = V.int ((Z.length - r.length : Nat) : Int)
    congr 1
    omega
  · refine iteTof (by show (!decide (V.str (one (Z.cps.toList.drop q)) = V.str (⟨#[34]⟩ : Str))) = true; rw [decide_eq_false c0]; rfl) ?_
    have nope : ∀ (H2 : Hp), Same H H2 → (∀ y r, ¬ Z.cps.toList.drop q = esc y ++ 34 :: r) → ∀ e : Addr, E (.ref e) (some g.bad) H2 := fun H2 s2 h e => kE (fun z r hw => by
      rw [hd] at hw
      obtain ⟨y, ey⟩ := WR.cut (t := []) hw
      exact h y r ey) e H2 s2
    -- one sign more
    have more : ∀ (q' x : Nat) (t : List Nat) (H2 : Hp), q ≤ q' → Z.cps.toList.drop q' = x :: t → Z.cps.toList.drop q = esc [x] ++ t → Same H H2 → H2 L = some (.lst (z0.map fun c => .str ⟨#[c]⟩)) →
        q' < Z.length ∧ Z.cps.toList[q']? = some x ∧ (∃ (q2 : Nat) (z1 : List Nat), ([some (.str Z), some (.int ((q' : Int) + 1)), some (.ref L)] : L2.St) = [some (.str Z), some (.int (q2 : Int)), some (.ref L)] ∧ q2 ≤ Z.length ∧ Z.cps.toList.drop p = esc z1 ++ Z.cps.toList.drop q2 ∧ (upd H2 L (.lst (z0.map (fun c => V.str ⟨#[c]⟩) ++ [V.str ⟨#[x]⟩]))) L = some (.lst (z1.map fun c => .str ⟨#[c]⟩)) ∧ z1.length ≤ q2 ∧ Same H (upd H2 L (.lst (z0.map (fun c => V.str ⟨#[c]⟩) ++ [V.str ⟨#[x]⟩]))) ∧ Z.length - q2 < Z.length - q) := fun q' x t H2 hqq ed ee s2 h2 => by
      obtain ⟨d1, d2, d3⟩ := drop_step ed
      rw [hl] at d2
      refine ⟨d2, d3, q' + 1, z0 ++ [x], rfl, d2, ?_, by rw [upd_same, List.map_append]; rfl, by rw [List.length_append, List.length_singleton]; omega, ?_, by omega⟩
      · rw [hd, ee, esc_app, d1, List.append_assoc]
      · intro b o e
        rw [upd_ne (ne_of_none e gL)]
        exact s2 b o e
    refine ⟨fun σ' H2 => ∃ (q2 : Nat) (z1 : List Nat), σ' = [some (.str Z), some (.int (q2 : Int)), some (.ref L)] ∧ q2 ≤ Z.length ∧ Z.cps.toList.drop p = esc z1 ++ Z.cps.toList.drop q2 ∧ H2 L = some (.lst (z1.map fun c => .str ⟨#[c]⟩)) ∧ z1.length ≤ q2 ∧ Same H H2 ∧ Z.length - q2 < Z.length - q, ?_, ?_⟩
    · rintro σ' H2 ⟨q2, z1, r1, r2, r3, r4, r5, r6, r7⟩
      exact ⟨_, r7, q2, z1, r1, r2, r3, r4, r5, r6, rfl⟩
    refine ⟨_, rfl, _, rfl, _, rfl, _, rfl, _, _, rfl, rfl, _, rfl, Z, rfl, hz, rfl, _, rfl, ?_⟩
    rw [slice_one]
    refine ite2 (fun c1 => ?_) (fun c1 => ?_)
    · -- a backslash
      have c1' : V.str (one (Z.cps.toList.drop q)) = V.str (⟨#[92]⟩ : Str) := of_decide_eq_true c1
      obtain ⟨t0, e0⟩ := one_is.mp c1'
      obtain ⟨d1, d2, d3⟩ := drop_step e0
      rw [hl] at d2
      refine ⟨_, rfl, _, _, rfl, rfl, ?_⟩
      refine ⟨_, rfl, _, rfl, _, rfl, _, rfl, _, _, rfl, rfl, _, rfl, Z, rfl, hz, (by show 2 ≤ sizeLine; omega), fun L2 g2 => ?_⟩
      have s2 : Same H' (upd H' L2 (.tup [.str "\"", .str "\\"])) := same_new g2 _
      have sl2 : Txt.slice Z (some ((q : Int) + 1)) (some ((q : Int) + 1 + 1)) = one t0 := by
        have := slice_one Z (q + 1)
        rw [d1] at this
        exact this
      rw [sl2]
      refine ⟨L2, _, rfl, .inr (SqT.of upd_same), rfl, rfl, _, rfl, ?_⟩
      rw [show (if true = true then !inV (V.str (one t0)) [.str "\"", .str "\\"] else inV (V.str (one t0)) [.str "\"", .str "\\"]) = !hd2 t0 from by rw [← in_twoS]; rfl]
      by_cases c2 : ∃ x t, t0 = x :: t ∧ (x = 34 ∨ x = 92)
      · rw [show hd2 t0 = true from by obtain ⟨x, t, rfl, hx⟩ := c2; exact decide_eq_true hx]
        refine iteF ?_
        obtain ⟨x, t, rfl, hx⟩ := c2
        have ed : Z.cps.toList.drop (q + 1) = x :: t := d1
        obtain ⟨m1, m2, m3⟩ := more (q + 1) x t _ (by omega) ed (by rw [e0, esc_one]; rcases hx with rfl | rfl <;> rfl) (sm.trans s2) (s2 _ _ hL)
        have hge : ¬ ((Z.length : Int) ≤ (q : Int) + 1) := by omega
        refine ⟨_, rfl, _, rfl, Z, rfl, hz, _, _, rfl, rfl, _, rfl, ?_⟩
        rw [decide_eq_false hge]
        refine iteF ⟨_, rfl, .inl ⟨rfl, _, SqL.of (s2 _ _ hL)⟩, _, rfl, _, rfl, Z, _, x, rfl, rfl, hz, atI_nat (j := q + 1) m2, L, _, _, rfl, rfl, s2 _ _ hL, by rw [List.length_map]; omega, _, rfl, _, _, rfl, rfl, m3⟩
      · rw [show hd2 t0 = false from by
          cases t0 with
          | nil => rfl
          | cons x t => exact decide_eq_false fun hx => c2 ⟨x, t, rfl, hx⟩]
        refine iteT ⟨rfl, nope _ (sm.trans s2) fun y r hy => ?_⟩
        rw [e0] at hy
        refine no_back (fun x t ht => ?_) hy
        exact ⟨fun e => c2 ⟨x, t, ht, .inl e⟩, fun e => c2 ⟨x, t, ht, .inr e⟩⟩
    · have c1' : ¬ V.str (one (Z.cps.toList.drop q)) = V.str (⟨#[92]⟩ : Str) := fun h => c1 (decide_eq_true h)
      refine ⟨_, rfl, _, rfl, Z, rfl, hz, _, _, rfl, rfl, _, rfl, ?_⟩
      refine ite2 (fun c2 => ?_) (fun c2 => ?_)
      · have c2' : (Z.length : Int) ≤ (q : Int) := of_decide_eq_true c2
        refine ⟨rfl, nope _ sm fun y r hy => ?_⟩
        rw [List.drop_eq_nil_of_le (by omega)] at hy
        exact no_nil hy
      · have c2' : ¬ (Z.length : Int) ≤ (q : Int) := fun h => c2 (decide_eq_true h)
        have hq' : q < Z.cps.toList.length := by omega
        have ed := List.drop_eq_getElem_cons hq'
        obtain ⟨m1, m2, m3⟩ := more q _ _ H' (Nat.le_refl _) ed (by
          rw [esc_one, if_neg (fun h => c1' (one_is.mpr ⟨_, by rw [ed, h]⟩)), if_neg (fun h => c0 (one_is.mpr ⟨_, by rw [ed, h]⟩))]
          exact ed) sm hL
        exact ⟨_, rfl, .inl ⟨rfl, _, SqL.of hL⟩, _, rfl, _, rfl, Z, _, _, rfl, rfl, hz, atI_nat (j := q) m2, L, _, _, rfl, rfl, hL, by rw [List.length_map]; omega, _, rfl, _, _, rfl, rfl, m3⟩
end
end K03

set_option Elab.async false
set_option linter.all false
set_option maxRecDepth 100000
set_option maxHeartbeats 4000000
namespace K03
open PySem L2 PyProof.Rows
/-! ### a tree is written here, rows at most so deep -/
def TR (k : Nat) (s : List Nat) (d : D) (r : List Nat) : Prop := sh d = true ∧ dp d ≤ k ∧ s = (txt d).cps.toList ++ r
def RR (k : Nat) (b : Bool) (s : List Nat) (ys : List D) (r : List Nat) : Prop := shL ys = true ∧ dpL ys ≤ k ∧ s = (if b = true then jn ys else tl ys) ++ 41 :: r
theorem sh_dp {d : D} (h : sh d = true) : 1 ≤ dp d := by
  cases d with
  | str z => simp [dp]
  | tup xs => simp only [dp]; omega
  | _ => simp [sh] at h
theorem TR.zero {s r : List Nat} {d : D} : ¬ TR 0 s d r := fun ⟨h, h2, _⟩ => by have := sh_dp h; omega
theorem TR.uniq {k k' : Nat} {s r t : List Nat} {d e : D} (h : TR k s d r) (h' : TR k' s e t) : d = e ∧ r = t :=
  txt_inj d e r t h.1 h'.1 (h.2.2.symm.trans h'.2.2)
theorem TR.len {k : Nat} {s r : List Nat} {d : D} (h : TR k s d r) : r.length + 2 ≤ s.length := by
  obtain ⟨h1, _, rfl⟩ := h
  cases d with
  | str z => rw [txt_str]; simp
  | tup xs => rw [txt_tup]; simp
  | _ => simp [sh] at h1
theorem TR.str {k : Nat} {s r : List Nat} {z : Str} (hk : 1 ≤ k) (h : WR s z r) : TR k (34 :: s) (.str z) r :=
  ⟨by simp [sh], by simp only [dp]; exact hk, by rw [txt_str, h]; simp⟩
theorem TR.tup {k : Nat} {s r : List Nat} {ys : List D} (h : RR k true s ys r) : TR (k + 1) (40 :: s) (.tup ys) r :=
  ⟨by simpa [sh] using h.1, by have := h.2.1; simp only [dp]; omega, by rw [txt_tup, h.2.2]; simp⟩
theorem TR.inv34 {k : Nat} {s r : List Nat} {d : D} (h : TR k (34 :: s) d r) : ∃ z, d = .str z ∧ WR s z r := by
  obtain ⟨h1, _, e⟩ := h
  cases d with
  | str z => rw [txt_str] at e; exact ⟨z, rfl, by unfold WR; simpa using e⟩
  | tup xs => rw [txt_tup] at e; simp at e
  | _ => simp [sh] at h1
theorem TR.inv40 {k : Nat} {s r : List Nat} {d : D} (h : TR (k + 1) (40 :: s) d r) : ∃ ys, d = .tup ys ∧ RR k true s ys r := by
  obtain ⟨h1, h2, e⟩ := h
  cases d with
  | str z => rw [txt_str] at e; simp at e
  | tup xs =>
    rw [txt_tup] at e
    refine ⟨xs, rfl, by simpa [sh] using h1, by simp only [dp] at h2; omega, ?_⟩
    simpa using e
  | _ => simp [sh] at h1
theorem TR.head {k : Nat} {s r : List Nat} {d : D} (h : TR k s d r) : ∃ t, s = 34 :: t ∨ s = 40 :: t := by
  obtain ⟨h1, _, e⟩ := h
  cases d with
  | str z => rw [txt_str] at e; exact ⟨_, .inl e⟩
  | tup xs => rw [txt_tup] at e; exact ⟨_, .inr e⟩
  | _ => simp [sh] at h1
theorem RR.nil {k : Nat} {b : Bool} (r : List Nat) : RR k b (41 :: r) [] r :=
  ⟨rfl, by simp [dpL], by cases b <;> rfl⟩
theorem RR.cons {k : Nat} {s r' r : List Nat} {d : D} {ys : List D} (h : TR k s d r') (h2 : RR k false r' ys r) : RR k true s (d :: ys) r := by
  refine ⟨by simp [shL, h.1, h2.1], ?_, ?_⟩
  · have := h.2.1
    have := h2.2.1
    simp only [dpL]
    omega
  · have e := h2.2.2
    rw [if_neg Bool.false_ne_true] at e
    rw [if_pos rfl, jn_cons, h.2.2, e, List.append_assoc]
theorem RR.cons' {k : Nat} {s r' r : List Nat} {d : D} {ys : List D} (h : TR k s d r') (h2 : RR k false r' ys r) : RR k false (32 :: s) (d :: ys) r := by
  have h3 := RR.cons h h2
  refine ⟨h3.1, h3.2.1, ?_⟩
  have e := h3.2.2
  rw [if_pos rfl] at e
  rw [if_neg Bool.false_ne_true, e]
  rfl
theorem RR.inv {k : Nat} {s r : List Nat} {ys : List D} (h : RR k true s ys r) : (ys = [] ∧ s = 41 :: r) ∨ ∃ d y r', ys = d :: y ∧ TR k s d r' ∧ RR k false r' y r := by
  obtain ⟨h1, h2, e⟩ := h
  rw [if_pos rfl] at e
  cases ys with
  | nil => exact .inl ⟨rfl, e⟩
  | cons d y =>
    have h1' : sh d = true ∧ shL y = true := by simpa [shL] using h1
    simp only [dpL] at h2
    rw [jn_cons, List.append_assoc] at e
    exact .inr ⟨d, y, _, rfl, ⟨h1'.1, by omega, e⟩, h1'.2, by omega, by rw [if_neg Bool.false_ne_true]⟩
theorem RR.inv' {k : Nat} {s r : List Nat} {ys : List D} (h : RR k false s ys r) : (ys = [] ∧ s = 41 :: r) ∨ ∃ d y s' r', ys = d :: y ∧ s = 32 :: s' ∧ TR k s' d r' ∧ RR k false r' y r := by
  cases ys with
  | nil => exact .inl ⟨rfl, h.2.2⟩
  | cons d y =>
    have e : s = 32 :: (jn (d :: y) ++ 41 :: r) := h.2.2
    have h' : RR k true (jn (d :: y) ++ 41 :: r) (d :: y) r := ⟨h.1, h.2.1, rfl⟩
    rcases h'.inv with ⟨z, _⟩ | ⟨d', y', r', e1, e2, e3⟩
    · cases z
    · cases e1
      exact .inr ⟨d, y, _, r', rfl, e, e2, e3⟩
theorem suffix_drop {l a r : List Nat} {q : Nat} (h : l.drop q = a ++ r) : l.drop (l.length - r.length) = r := by
  have hl := congrArg List.length h
  rw [List.length_drop, List.length_append] at hl
  have e : l.length - r.length = q + a.length ∨ (a = [] ∧ r = []) := by
    by_cases hz : a.length + r.length = 0
    · exact .inr ⟨List.length_eq_zero_iff.mp (by omega), List.length_eq_zero_iff.mp (by omega)⟩
    · exact .inl (by omega)
  rcases e with e | ⟨rfl, rfl⟩
  · rw [e, ← List.drop_drop, h, List.drop_left]
  · simp
def sp_at (bad : Addr) (n : Nat) : Sp := fun vs H Q E => ∃ (Z : Str) (p dep k : Nat), vs = [.str Z, .int (p : Int), .int (dep : Int)] ∧ Z.length ≤ 100000 ∧ p ≤ Z.length ∧ dep + k = 13 ∧ k < n ∧
  (∀ (d : D) (r : List Nat) (v : V) (H' : Hp), TR k (Z.cps.toList.drop p) d r → Same H H' → Is H' (got Z d r) v → Q v H') ∧
  ((∀ d r, ¬ TR k (Z.cps.toList.drop p) d r) → ∀ (e : Addr) (H' : Hp), Same H H' → E (.ref e) (some bad) H')
def sp_row (bad : Addr) (n : Nat) : Sp := fun vs H Q E => ∃ (Z : Str) (p dep k : Nat), vs = [.str Z, .int (p : Int), .int (dep : Int)] ∧ Z.length ≤ 100000 ∧ p ≤ Z.length ∧ dep + k = 12 ∧ k < n ∧
  (∀ (ys : List D) (r : List Nat) (v : V) (H' : Hp), RR k true (Z.cps.toList.drop p) ys r → Same H H' → Is H' (got Z (.tup ys) r) v → Q v H') ∧
  ((∀ ys r, ¬ RR k true (Z.cps.toList.drop p) ys r) → ∀ (e : Addr) (H' : Hp), Same H H' → E (.ref e) (some bad) H')
section
variable {P : Program} {w : World} {K : PySem.W.Frag} {mg : Str → Option Value} {base : Heap} {a : Ad} {g : Ga}
theorem at_none {f : Addr} {fd : FuncData} {l : Nat} : FnOk P w K mg base (CX1 P w) l f fd ["text", "place", "depth"] (sp_at g.bad 0) := by
  have no : ∀ vs H Q E, ¬ sp_at g.bad 0 vs H Q E := fun vs H Q E h => by
    obtain ⟨Z, p, dep, k, _, _, _, _, h1, _⟩ := h
    omega
  exact ⟨fun vs H Q E h => absurd h (no vs H Q E), fun A outer s H args us vs Q E _ _ _ _ h => absurd h (no vs H Q E)⟩
theorem ok_at1 (T : Tx K mg a) (C : Fx K mg g) {n : Nat} (G_row_at : FnOk P w K mg base (CX1 P w) (2 * n + 3) a.f_row_at a.d_row_at ["text", "place", "depth"] (sp_row g.bad n)) : FnOk P w K mg base (CX1 P w) (2 * n + 4) a.f_tree_at a.d_tree_at ["text", "place", "depth"] (sp_at g.bad (n + 1)) := by
  have G_words_at : FnOk P w K mg base (CX1 P w) 1 a.f_words_at a.d_words_at ["text", "place"] (sp_words g.bad) := ok_words T C
  refine T.F_tree_at.okX sc_tree_at (fun vs H Q E h => ?_) (fun cdv A outer s H vs Q E hr h => ?_)
  · obtain ⟨Z, p, dep, k, rfl, _⟩ := h
    rfl
  obtain ⟨Z, p, dep, k, rfl, hZ, hp, hk, hkn, kQ, kE⟩ := h
  refine ⟨_, (@pss_cons _ _ _ _ _ (@ps_if _ _ _ _ _ _ _ _ (@pt_cmpR _ _ _ _ _ _ _ _ (@op_gt _) (pv 2) (@pe_gI _ _ _ _ (by rfl) T.m_MOST_DEPTH (by first | rfl | exact .inl rfl | exact .inr rfl | exact .inr (.inl rfl) | decide | decide +kernel | (intro _; rfl))) (nomark _)) (@pss_one _ _ _ (@ps_raise _ _ _ _ _ _ _ _ _ _ _ _ _ _ _ _ _ _ _ _ _ _ C.x_BadTree (by rfl) C.m_BadTree (@pe_str _ _ _ _) (by first | rfl | exact .inl rfl | exact .inr rfl | exact .inr (.inl rfl) | decide | decide +kernel | (intro _; rfl)) (by first | rfl | exact .inl rfl | exact .inr rfl | exact .inr (.inl rfl) | decide | decide +kernel | (intro _; rfl)))) (@pss_nil _)) (@pss_cons _ _ _ _ _ (@ps_set _ _ (3) _ _ _ _ sc_tree_at.nd rfl (Or.inl rfl) (@pe_slice _ _ _ _ _ _ _ _ _ _ (@sl_str _) (pv 0) (@po_some _ _ _ (pv 1)) (@po_some _ _ _ (@pe_op _ _ _ _ _ _ _ _ (@op_add _) (pv 1) (@pe_int _ _ _ _)))) (by first | rfl | exact .inl rfl | exact .inr rfl | exact .inr (.inl rfl) | decide | decide +kernel | (intro _; rfl)) (by first | rfl | exact .inl rfl | exact .inr rfl | exact .inr (.inl rfl) | decide | decide +kernel | (intro _; rfl))) (@pss_cons _ _ _ _ _ (@ps_if _ _ _ _ _ _ _ _ (@pt_cmpR _ _ _ _ _ _ _ _ (@op_eq _) (pv 3) (@pe_str _ _ _ _) (nomark _)) (@pss_one _ _ _ (@ps_ret _ _ _ _ (@pe_call _ _ _ _ _ _ _ _ _ _ _ _ _ _ _ _ G_words_at (hr.mono (by first | decide | omega)) (by rfl) T.m_words_at T.F_words_at.kp T.b_words_at .nil pass1 (@pa_cons _ _ _ _ _ (pv 0) (@pa_cons _ _ _ _ _ (@pe_op _ _ _ _ _ _ _ _ (@op_add _) (pv 1) (@pe_int _ _ _ _)) (@pa_nil _) (by first | rfl | exact .inl rfl | exact .inr rfl | exact .inr (.inl rfl) | decide | decide +kernel | (intro _; rfl))) (by first | rfl | exact .inl rfl | exact .inr rfl | exact .inr (.inl rfl) | decide | decide +kernel | (intro _; rfl))) (by first | rfl | exact .inl rfl | exact .inr rfl | exact .inr (.inl rfl) | decide | decide +kernel | (intro _; rfl)) (by first | rfl | exact .inl rfl | exact .inr rfl | exact .inr (.inl rfl) | decide | decide +kernel | (intro _; rfl)) (by first | rfl | exact .inl rfl | exact .inr rfl | exact .inr (.inl rfl) | decide | decide +kernel | (intro _; rfl))))) (@pss_nil _)) (@pss_cons _ _ _ _ _ (@ps_if _ _ _ _ _ _ _ _ (@pt_cmpR _ _ _ _ _ _ _ _ (@op_eq _) (pv 3) (@pe_str _ _ _ _) (nomark _)) (@pss_one _ _ _ (@ps_ret _ _ _ _ (@pe_call _ _ _ _ _ _ _ _ _ _ _ _ _ _ _ _ G_row_at (hr.mono (by first | decide | omega)) (by rfl) T.m_row_at T.F_row_at.kp T.b_row_at .nil pass1 (@pa_cons _ _ _ _ _ (pv 0) (@pa_cons _ _ _ _ _ (@pe_op _ _ _ _ _ _ _ _ (@op_add _) (pv 1) (@pe_int _ _ _ _)) (@pa_cons _ _ _ _ _ (pv 2) (@pa_nil _) (by first | rfl | exact .inl rfl | exact .inr rfl | exact .inr (.inl rfl) | decide | decide +kernel | (intro _; rfl))) (by first | rfl | exact .inl rfl | exact .inr rfl | exact .inr (.inl rfl) | decide | decide +kernel | (intro _; rfl))) (by first | rfl | exact .inl rfl | exact .inr rfl | exact .inr (.inl rfl) | decide | decide +kernel | (intro _; rfl))) (by first | rfl | exact .inl rfl | exact .inr rfl | exact .inr (.inl rfl) | decide | decide +kernel | (intro _; rfl)) (by first | rfl | exact .inl rfl | exact .inr rfl | exact .inr (.inl rfl) | decide | decide +kernel | (intro _; rfl)) (by first | rfl | exact .inl rfl | exact .inr rfl | exact .inr (.inl rfl) | decide | decide +kernel | (intro _; rfl))))) (@pss_nil _)) (@pss_one _ _ _ (@ps_raise _ _ _ _ _ _ _ _ _ _ _ _ _ _ _ _ _ _ _ _ _ _ C.x_BadTree (by rfl) C.m_BadTree (@pe_str _ _ _ _) (by first | rfl | exact .inl rfl | exact .inr rfl | exact .inr (.inl rfl) | decide | decide +kernel | (intro _; rfl)) (by first | rfl | exact .inl rfl | exact .inr rfl | exact .inr (.inl rfl) | decide | decide +kernel | (intro _; rfl)))))))), ?_⟩
  have hs := sizeLine_eq
  have hz : Z.length ≤ sizeLine := by omega
  have hl : Z.cps.toList.length = Z.length := (len_cps Z).symm
  refine ⟨_, rfl, _, _, rfl, rfl, _, rfl, ?_⟩
  refine ite2 (fun c => ?_) (fun c => ?_)
  · have c' : (12 : Int) < (dep : Int) := of_decide_eq_true c
    have k0 : k = 0 := by omega
    subst k0
    exact ⟨rfl, fun e => kE (fun d r => TR.zero) e H (Same.refl _)⟩
  have c' : ¬ (12 : Int) < (dep : Int) := fun h => c (decide_eq_true h)
  obtain ⟨k', rfl⟩ : ∃ k', k = k' + 1 := ⟨k - 1, by omega⟩
  refine ⟨_, rfl, _, rfl, _, rfl, _, rfl, _, _, rfl, rfl, _, rfl, Z, rfl, hz, ?_⟩
  rw [slice_one]
  refine ⟨_, rfl, rfl, _, rfl, ?_⟩
  refine ite2 (fun c1 => ?_) (fun c1 => ?_)
  · have c1' : V.str (one (Z.cps.toList.drop p)) = V.str (⟨#[34]⟩ : Str) := of_decide_eq_true c1
    obtain ⟨t, et⟩ := one_is.mp c1'
    obtain ⟨d1, d2, d3⟩ := drop_step et
    refine ⟨_, rfl, _, rfl, _, _, rfl, rfl, Z, p + 1, rfl, hZ, by omega, ?_, ?_⟩
    · intro z r v H' hw _ sm hv
      rw [d1] at hw
      refine kQ (.str z) r v H' ?_ sm hv
      rw [et]
      exact TR.str (by omega) hw
    · intro hno e H' sm
      refine kE (fun d r ht => ?_) e H' sm
      rw [et] at ht
      obtain ⟨z, _, hw⟩ := ht.inv34
      exact hno z r (by rw [d1]; exact hw)
  refine ⟨_, rfl, rfl, _, rfl, ?_⟩
  refine ite2 (fun c2 => ?_) (fun c2 => ?_)
  · have c2' : V.str (one (Z.cps.toList.drop p)) = V.str (⟨#[40]⟩ : Str) := of_decide_eq_true c2
    obtain ⟨t, et⟩ := one_is.mp c2'
    obtain ⟨d1, d2, d3⟩ := drop_step et
    refine ⟨_, rfl, _, rfl, _, _, rfl, rfl, _, rfl, Z, p + 1, dep, k', rfl, hZ, by omega, by omega, by omega, ?_, ?_⟩
    · intro ys r v H' hw sm hv
      rw [d1] at hw
      refine kQ (.tup ys) r v H' ?_ sm hv
      rw [et]
      exact TR.tup hw
    · intro hno e H' sm
      refine kE (fun d r ht => ?_) e H' sm
      rw [et] at ht
      obtain ⟨ys, _, hw⟩ := ht.inv40
      exact hno ys r (by rw [d1]; exact hw)
  · refine ⟨rfl, fun e => kE (fun d r ht => ?_) e H (Same.refl _)⟩
    obtain ⟨t, h | h⟩ := ht.head
    · exact c1 (decide_eq_true (show V.str (one (Z.cps.toList.drop p)) = V.str (⟨#[34]⟩ : Str) from one_is.mpr ⟨t, h⟩))
    · exact c2 (decide_eq_true (show V.str (one (Z.cps.toList.drop p)) = V.str (⟨#[40]⟩ : Str) from one_is.mpr ⟨t, h⟩))
end
end K03

set_option Elab.async false
set_option linter.all false
set_option maxRecDepth 100000
set_option maxHeartbeats 4000000
namespace K03
open PySem L2 PyProof.Rows
section
variable {P : Program} {w : World} {K : PySem.W.Frag} {mg : Str → Option Value} {base : Heap} {a : Ad} {g : Ga}
theorem ok_row1 (T : Tx K mg a) (C : Fx K mg g) {n : Nat} (G_tree_at : FnOk P w K mg base (CX1 P w) (2 * n + 2) a.f_tree_at a.d_tree_at ["text", "place", "depth"] (sp_at g.bad n)) : FnOk P w K mg base (CX1 P w) (2 * n + 3) a.f_row_at a.d_row_at ["text", "place", "depth"] (sp_row g.bad n) := by
  refine T.F_row_at.okX sc_row_at (fun vs H Q E h => ?_) (fun cdv A outer s H vs Q E hr h => ?_)
  · obtain ⟨Z, p, dep, k, rfl, _⟩ := h
    rfl
  obtain ⟨Z, p, dep, k, rfl, hZ, hp, hk, hkn, kQ, kE⟩ := h
  refine ⟨_, (@pss_cons _ _ _ _ _ (@ps_set _ _ (3) _ _ _ _ sc_row_at.nd rfl (Or.inl rfl) (@pe_lst _ _ _ _ (@pa_nil _)) (by first | rfl | exact .inl rfl | exact .inr rfl | exact .inr (.inl rfl) | decide | decide +kernel | (intro _; rfl)) (by first | rfl | exact .inl rfl | exact .inr rfl | exact .inr (.inl rfl) | decide | decide +kernel | (intro _; rfl))) (@pss_cons _ _ _ _ _ (@ps_while _ _ _ _ _ _ PassesOwn.leaving (@pt_cmpR _ _ _ _ _ _ _ _ (@op_ne _) (@pe_slice _ _ _ _ _ _ _ _ _ _ (@sl_str _) (pv 0) (@po_some _ _ _ (pv 1)) (@po_some _ _ _ (@pe_op _ _ _ _ _ _ _ _ (@op_add _) (pv 1) (@pe_int _ _ _ _)))) (@pe_str _ _ _ _) (nomark _)) (@pss_cons _ _ _ _ _ (@ps_if _ _ _ _ _ _ _ _ (@pt_truth _ _ _ (pv 3) (fun _ => rfl)) (@pss_cons _ _ _ _ _ (@ps_if _ _ _ _ _ _ _ _ (@pt_cmpR _ _ _ _ _ _ _ _ (@op_ne _) (@pe_slice _ _ _ _ _ _ _ _ _ _ (@sl_str _) (pv 0) (@po_some _ _ _ (pv 1)) (@po_some _ _ _ (@pe_op _ _ _ _ _ _ _ _ (@op_add _) (pv 1) (@pe_int _ _ _ _)))) (@pe_str _ _ _ _) (nomark _)) (@pss_one _ _ _ (@ps_raise _ _ _ _ _ _ _ _ _ _ _ _ _ _ _ _ _ _ _ _ _ _ C.x_BadTree (by rfl) C.m_BadTree (@pe_str _ _ _ _) (by first | rfl | exact .inl rfl | exact .inr rfl | exact .inr (.inl rfl) | decide | decide +kernel | (intro _; rfl)) (by first | rfl | exact .inl rfl | exact .inr rfl | exact .inr (.inl rfl) | decide | decide +kernel | (intro _; rfl)))) (@pss_nil _)) (@pss_one _ _ _ (@ps_aug _ _ (1) _ _ _ _ _ _ sc_row_at.nd rfl (Or.inl rfl) (@pe_int _ _ _ _) ip_add (by first | rfl | exact .inl rfl | exact .inr rfl | exact .inr (.inl rfl) | decide | decide +kernel | (intro _; rfl))))) (@pss_nil _)) (@pss_cons _ _ _ _ _ (@ps_set _ _ (4) _ _ _ _ sc_row_at.nd rfl (Or.inl rfl) (@pe_call _ _ _ _ _ _ _ _ _ _ _ _ _ _ _ _ G_tree_at (hr.mono (by first | decide | omega)) (by rfl) T.m_tree_at T.F_tree_at.kp T.b_tree_at .nil pass1 (@pa_cons _ _ _ _ _ (pv 0) (@pa_cons _ _ _ _ _ (pv 1) (@pa_cons _ _ _ _ _ (@pe_op _ _ _ _ _ _ _ _ (@op_add _) (pv 2) (@pe_int _ _ _ _)) (@pa_nil _) (by first | rfl | exact .inl rfl | exact .inr rfl | exact .inr (.inl rfl) | decide | decide +kernel | (intro _; rfl))) (by first | rfl | exact .inl rfl | exact .inr rfl | exact .inr (.inl rfl) | decide | decide +kernel | (intro _; rfl))) (by first | rfl | exact .inl rfl | exact .inr rfl | exact .inr (.inl rfl) | decide | decide +kernel | (intro _; rfl))) (by first | rfl | exact .inl rfl | exact .inr rfl | exact .inr (.inl rfl) | decide | decide +kernel | (intro _; rfl)) (by first | rfl | exact .inl rfl | exact .inr rfl | exact .inr (.inl rfl) | decide | decide +kernel | (intro _; rfl)) (by first | rfl | exact .inl rfl | exact .inr rfl | exact .inr (.inl rfl) | decide | decide +kernel | (intro _; rfl))) (by first | rfl | exact .inl rfl | exact .inr rfl | exact .inr (.inl rfl) | decide | decide +kernel | (intro _; rfl)) (by first | rfl | exact .inl rfl | exact .inr rfl | exact .inr (.inl rfl) | decide | decide +kernel | (intro _; rfl))) (@pss_cons _ _ _ _ _ (@ps_expr _ _ _ _ (@pe_bm _ _ _ _ _ _ _ _ _ _ _ _ PySem.F.plainAttrs_list PySem.F.slot_list_append PySem.F.type_list_append (@mt_append _) (pv 3) (@pa_cons _ _ _ _ _ (@pe_ix _ _ _ _ _ _ _ (@ix_tup _) (pv 4) (@pe_int _ _ _ _) (fun _ _ => rfl)) (@pa_nil _) (by first | rfl | exact .inl rfl | exact .inr rfl | exact .inr (.inl rfl) | decide | decide +kernel | (intro _; rfl))) (by first | rfl | exact .inl rfl | exact .inr rfl | exact .inr (.inl rfl) | decide | decide +kernel | (intro _; rfl)) (by first | rfl | exact .inl rfl | exact .inr rfl | exact .inr (.inl rfl) | decide | decide +kernel | (intro _; rfl)) (by first | rfl | exact .inl rfl | exact .inr rfl | exact .inr (.inl rfl) | decide | decide +kernel | (intro _; rfl)) (by first | rfl | exact .inl rfl | exact .inr rfl | exact .inr (.inl rfl) | decide | decide +kernel | (intro _; rfl)) (by first | rfl | exact .inl rfl | exact .inr rfl | exact .inr (.inl rfl) | decide | decide +kernel | (intro _; rfl))) (by first | rfl | exact .inl rfl | exact .inr rfl | exact .inr (.inl rfl) | decide | decide +kernel | (intro _; rfl))) (@pss_one _ _ _ (@ps_set _ _ (1) _ _ _ _ sc_row_at.nd rfl (Or.inl rfl) (@pe_ix _ _ _ _ _ _ _ (@ix_tup _) (pv 4) (@pe_int _ _ _ _) (fun _ _ => rfl)) (by first | rfl | exact .inl rfl | exact .inr rfl | exact .inr (.inl rfl) | decide | decide +kernel | (intro _; rfl)) (by first | rfl | exact .inl rfl | exact .inr rfl | exact .inr (.inl rfl) | decide | decide +kernel | (intro _; rfl)))))))) (@pss_one _ _ _ (@ps_ret _ _ _ _ (@pe_tup _ _ _ _ _ (@pa_cons _ _ _ _ _ (@pe_callTy _ _ _ _ _ _ _ _ _ (@call_tuple_of _) (by rfl) T.z_tuple boot_tuple (@pa_cons _ _ _ _ _ (pv 3) (@pa_nil _) (by first | rfl | exact .inl rfl | exact .inr rfl | exact .inr (.inl rfl) | decide | decide +kernel | (intro _; rfl))) (by first | rfl | exact .inl rfl | exact .inr rfl | exact .inr (.inl rfl) | decide | decide +kernel | (intro _; rfl)) (by first | rfl | exact .inl rfl | exact .inr rfl | exact .inr (.inl rfl) | decide | decide +kernel | (intro _; rfl)) (by first | rfl | exact .inl rfl | exact .inr rfl | exact .inr (.inl rfl) | decide | decide +kernel | (intro _; rfl)) (by first | rfl | exact .inl rfl | exact .inr rfl | exact .inr (.inl rfl) | decide | decide +kernel | (intro _; rfl))) (@pa_cons _ _ _ _ _ (@pe_op _ _ _ _ _ _ _ _ (@op_add _) (pv 1) (@pe_int _ _ _ _)) (@pa_nil _) (by first | rfl | exact .inl rfl | exact .inr rfl | exact .inr (.inl rfl) | decide | decide +kernel | (intro _; rfl))) (by first | rfl | exact .inl rfl | exact .inr rfl | exact .inr (.inl rfl) | decide | decide +kernel | (intro _; rfl)))))))), ?_⟩
  have hs := sizeLine_eq
  have hz : Z.length ≤ sizeLine := by omega
  have hl : Z.cps.toList.length = Z.length := (len_cps Z).symm
  refine ⟨(by show 0 ≤ sizeLine; omega), fun L gL => ?_⟩
  refine ⟨fun m σ H' => ∃ (q : Nat) (ds : List D) (us : List V) (gv : Option V), σ = [some (.str Z), some (.int (q : Int)), some (.int (dep : Int)), some (.ref L), gv] ∧ q ≤ Z.length ∧ H' L = some (.lst us) ∧ IsL H' ds us ∧ ds.length ≤ q ∧
    (∀ y r, RR k ds.isEmpty (Z.cps.toList.drop q) y r → RR k true (Z.cps.toList.drop p) (ds ++ y) r) ∧ (∀ ys r, RR k true (Z.cps.toList.drop p) ys r → ∃ y, RR k ds.isEmpty (Z.cps.toList.drop q) y r) ∧ Same H H' ∧ m = Z.length - q,
    ⟨_, p, [], [], _, rfl, hp, upd_same, rfl, Nat.zero_le _, fun y r h => h, fun ys r h => ⟨ys, h⟩, same_new gL _, rfl⟩, ?_⟩
  rintro m σ H' ⟨q, ds, us, gv, rfl, hq, hL, hds, hdl, ra, rb, sm, rfl⟩
  have hul := hds.length
  refine ⟨_, rfl, _, rfl, _, rfl, _, rfl, _, _, rfl, rfl, _, rfl, Z, rfl, hz, rfl, _, rfl, ?_⟩
  rw [slice_one]
  by_cases c0 : V.str (one (Z.cps.toList.drop q)) = V.str (⟨#[41]⟩ : Str)
  · refine iteFof (by show (!decide (V.str (one (Z.cps.toList.drop q)) = V.str (⟨#[41]⟩ : Str))) = false; rw [decide_eq_true c0]; rfl) ?_
    obtain ⟨r, er⟩ := one_is.mp c0
    have hlen : (Z.cps.toList.drop q).length = r.length + 1 := by rw [er]; rfl
    rw [List.length_drop, hl] at hlen
    refine ⟨_, rfl, L, us, rfl, .inl ⟨SqL.of hL, fun t gt => ⟨_, rfl, _, _, rfl, rfl, (by show 2 ≤ sizeLine; omega), fun t2 g2 => ?_⟩⟩⟩
    have hR := ra [] r (by rw [er]; exact RR.nil r)
    rw [List.append_nil] at hR
    have s1 : Same H' (upd H' t (.tup us)) := same_new gt _
    have i1 : Is (upd H' t (.tup us)) (.tup ds) (.ref t) := Is.new hds gt
    refine kQ ds r _ _ hR (sm.trans (s1.trans (same_new g2 _))) ?_
    refine Is.new (ds := [.tup ds, .int _]) ⟨_, _, rfl, i1, _, _, rfl, ?_, rfl⟩ g2
    show V.int ((q : Int) + 1) = V.int ((Z.length - r.length : Nat) : Int)
    congr 1
    omega
  · refine iteTof (by show (!decide (V.str (one (Z.cps.toList.drop q)) = V.str (⟨#[41]⟩ : Str))) = true; rw [decide_eq_false c0]; rfl) ?_
    have n41 : ∀ r, Z.cps.toList.drop q ≠ 41 :: r := fun r e => c0 (one_is.mpr ⟨r, e⟩)
    -- a part that was read at q'
    have part : ∀ (q' : Nat) (d : D) (r : List Nat) (v : V) (H3 : Hp), q ≤ q' → q' ≤ Z.length → TR k (Z.cps.toList.drop q') d r → Same H' H3 → Is H3 (got Z d r) v →
        (∀ y r2, RR k false r y r2 → RR k ds.isEmpty (Z.cps.toList.drop q) (d :: y) r2) → (∀ y r2, RR k ds.isEmpty (Z.cps.toList.drop q) y r2 → ∃ y', RR k false r y' r2) →
        ∃ (b : Addr) (x : V), v = .ref b ∧ H3 b = some (.tup [x, .int ((Z.length - r.length : Nat) : Int)]) ∧ H3 L = some (.lst us) ∧ (upd H3 L (.lst (us ++ [x]))) b = some (.tup [x, .int ((Z.length - r.length : Nat) : Int)]) ∧ (∃ (q2 : Nat) (ds2 : List D) (us2 : List V) (gv : Option V), ([some (.str Z), some (.int ((Z.length - r.length : Nat) : Int)), some (.int (dep : Int)), some (.ref L), some (.ref b)] : L2.St) = [some (.str Z), some (.int (q2 : Int)), some (.int (dep : Int)), some (.ref L), gv] ∧ q2 ≤ Z.length ∧ (upd H3 L (.lst (us ++ [x]))) L = some (.lst us2) ∧ IsL (upd H3 L (.lst (us ++ [x]))) ds2 us2 ∧ ds2.length ≤ q2 ∧
          (∀ y r, RR k ds2.isEmpty (Z.cps.toList.drop q2) y r → RR k true (Z.cps.toList.drop p) (ds2 ++ y) r) ∧ (∀ ys r, RR k true (Z.cps.toList.drop p) ys r → ∃ y, RR k ds2.isEmpty (Z.cps.toList.drop q2) y r) ∧ Same H (upd H3 L (.lst (us ++ [x]))) ∧ Z.length - q2 < Z.length - q) := by
      intro q' d r v H3 hqq hq' ht s3 hv t1 t2
      have hlr := ht.len
      rw [List.length_drop, hl] at hlr
      obtain ⟨b, vs, rfl, hb, x, r1, rfl, hx, y, r2, rfl, hy, e4⟩ := hv
      cases (show y = _ from hy)
      cases (show r2 = [] from e4)
      have hL3 := s3 _ _ hL
      have tk3 : Tk H3 (upd H3 L (.lst (us ++ [x]))) := Tk.updL hL3
      have nb : b ≠ L := fun e => by rw [e, hL3] at hb; cases hb
      have ed : Z.cps.toList.drop (Z.length - r.length) = r := by rw [← hl]; exact suffix_drop ht.2.2
      refine ⟨b, x, rfl, hb, hL3, by rw [upd_ne nb]; exact hb, Z.length - r.length, ds ++ [d], us ++ [x], _, rfl, by omega, upd_same, ((hds.mono s3.tk).mono tk3).append (IsL.one (hx.mono tk3)), by rw [List.length_append, List.length_singleton]; omega, ?_, ?_, ?_, by omega⟩
      · intro y r2 h
        rw [ed] at h
        have hne : (ds ++ [d]).isEmpty = false := by cases ds <;> rfl
        rw [hne] at h
        have := ra (d :: y) r2 (t1 y r2 h)
        rw [List.append_assoc]
        exact this
      · intro ys r2 h
        obtain ⟨y, hy⟩ := rb ys r2 h
        obtain ⟨y', hy'⟩ := t2 y r2 hy
        have hne : (ds ++ [d]).isEmpty = false := by cases ds <;> rfl
        rw [ed, hne]
        exact ⟨y', hy'⟩
      · intro b o e
        rw [upd_ne (ne_of_none e gL)]
        exact s3 b o (sm b o e)
    have nope : ∀ (H3 : Hp), Same H' H3 → (∀ y r, ¬ RR k ds.isEmpty (Z.cps.toList.drop q) y r) → ∀ e : Addr, E (.ref e) (some g.bad) H3 := fun H3 s3 hno e => kE (fun ys r h => by
      obtain ⟨y, hy⟩ := rb ys r h
      exact hno y r hy) e H3 (sm.trans s3)
    refine ⟨fun σ' H2 => ∃ (q2 : Nat) (ds2 : List D) (us2 : List V) (gv : Option V), σ' = [some (.str Z), some (.int (q2 : Int)), some (.int (dep : Int)), some (.ref L), gv] ∧ q2 ≤ Z.length ∧ H2 L = some (.lst us2) ∧ IsL H2 ds2 us2 ∧ ds2.length ≤ q2 ∧
          (∀ y r, RR k ds2.isEmpty (Z.cps.toList.drop q2) y r → RR k true (Z.cps.toList.drop p) (ds2 ++ y) r) ∧ (∀ ys r, RR k true (Z.cps.toList.drop p) ys r → ∃ y, RR k ds2.isEmpty (Z.cps.toList.drop q2) y r) ∧ Same H H2 ∧ Z.length - q2 < Z.length - q, ?_, ?_⟩
    · rintro σ' H2 ⟨q2, ds2, us2, gv, r1, r2, r3, r4, r5, r6, r7, r8, r9⟩
      exact ⟨_, r9, q2, ds2, us2, gv, r1, r2, r3, r4, r5, r6, r7, r8, rfl⟩
    cases ds with
    | nil =>
      cases (show us = [] from hds)
      refine ⟨_, rfl, false, .inl ⟨[], SqL.of hL, rfl⟩, iteF ?_⟩
      refine ⟨_, rfl, _, rfl, _, rfl, _, _, rfl, rfl, Z, q, dep + 1, k, rfl, hZ, hq, by omega, hkn, ?_, ?_⟩
      · intro d r v H3 ht s3 hv
        obtain ⟨b, x, rfl, hb, hL3, hb5, inv⟩ := part q d r v H3 (Nat.le_refl _) hq ht s3 hv (fun y r2 h => RR.cons ht h) (fun y r2 h => by
          rcases RR.inv h with ⟨_, e⟩ | ⟨d', y', r', _, ht', h'⟩
          · exact absurd e (n41 r2)
          · obtain ⟨_, rfl⟩ := ht.uniq ht'
            exact ⟨y', h'⟩)
        exact ⟨_, rfl, .inl ⟨rfl, _, SqL.of hL3⟩, _, rfl, b, _, 0, x, rfl, rfl, SqT.of hb, rfl, L, [], x, rfl, rfl, hL3, (by show 0 < sizeLine; omega), _, rfl, b, _, 1, _, rfl, rfl, SqT.of hb5, rfl, inv⟩
      · intro hno e H3 s3
        refine nope H3 s3 (fun y r h => ?_) e
        rcases RR.inv h with ⟨_, e⟩ | ⟨d', y', r', _, ht', h'⟩
        · exact n41 r e
        · exact hno d' r' ht'
    | cons d0 ds0 =>
      obtain ⟨u0, us0, rfl, _⟩ := id hds
      refine ⟨_, rfl, true, .inl ⟨_, SqL.of hL, rfl⟩, iteT ?_⟩
      refine ⟨_, rfl, _, rfl, _, rfl, _, rfl, _, _, rfl, rfl, _, rfl, Z, rfl, hz, rfl, _, rfl, ?_⟩
      rw [slice_one]
      by_cases c1 : V.str (one (Z.cps.toList.drop q)) = V.str (⟨#[32]⟩ : Str)
      · refine iteFof (by show (!decide (V.str (one (Z.cps.toList.drop q)) = V.str (⟨#[32]⟩ : Str))) = false; rw [decide_eq_true c1]; rfl) ?_
        obtain ⟨t, et⟩ := one_is.mp c1
        obtain ⟨d1, d2, d3⟩ := drop_step et
        rw [hl] at d2
        refine ⟨_, rfl, _, _, rfl, rfl, ?_⟩
        refine ⟨_, rfl, _, rfl, _, rfl, _, _, rfl, rfl, Z, q + 1, dep + 1, k, rfl, hZ, d2, by omega, hkn, ?_, ?_⟩
        · intro d r v H3 ht s3 hv
          have ht' := ht
          rw [d1] at ht'
          obtain ⟨b, x, rfl, hb, hL3, hb5, inv⟩ := part (q + 1) d r v H3 (Nat.le_succ _) d2 ht s3 hv (fun y r2 h => by rw [et]; exact RR.cons' ht' h) (fun y r2 h => by
            rcases RR.inv' h with ⟨_, e⟩ | ⟨d', y', s', r', _, es, ht2, h'⟩
            · exact absurd e (n41 r2)
            · rw [et] at es
              cases es
              obtain ⟨_, rfl⟩ := ht'.uniq ht2
              exact ⟨y', h'⟩)
          exact ⟨_, rfl, .inl ⟨rfl, _, SqL.of hL3⟩, _, rfl, b, _, 0, x, rfl, rfl, SqT.of hb, rfl, L, _, x, rfl, rfl, hL3, by omega, _, rfl, b, _, 1, _, rfl, rfl, SqT.of hb5, rfl, inv⟩
        · intro hno e H3 s3
          refine nope H3 s3 (fun y r h => ?_) e
          rcases RR.inv' h with ⟨_, e⟩ | ⟨d', y', s', r', _, es, ht2, h'⟩
          · exact n41 r e
          · rw [et] at es
            cases es
            exact hno d' r' (by rw [d1]; exact ht2)
      · refine iteTof (by show (!decide (V.str (one (Z.cps.toList.drop q)) = V.str (⟨#[32]⟩ : Str))) = true; rw [decide_eq_false c1]; rfl) ?_
        refine ⟨rfl, nope H' (Same.refl _) fun y r h => ?_⟩
        rcases RR.inv' h with ⟨_, e⟩ | ⟨d', y', s', r', _, es, ht2, h'⟩
        · exact n41 r e
        · exact c1 (one_is.mpr ⟨s', es⟩)
theorem ok_at (T : Tx K mg a) (C : Fx K mg g) : ∀ n : Nat, FnOk P w K mg base (CX1 P w) (2 * n + 2) a.f_tree_at a.d_tree_at ["text", "place", "depth"] (sp_at g.bad n)
  | 0 => at_none
  | n + 1 => ok_at1 T C (ok_row1 T C (ok_at T C n))
end
end K03

set_option Elab.async false
set_option linter.all false
set_option maxRecDepth 100000
set_option maxHeartbeats 4000000
namespace K03
open PySem L2 PyProof.Rows
/-- it is what is written of a tree -/
def WT (Z : Str) (d : D) : Prop := sh d = true ∧ isT d = true ∧ Z.cps.toList = (txt d).cps.toList
theorem WT.tr {Z : Str} {d : D} (h : WT Z d) {k : Nat} (hk : 12 ≤ k) : TR k (Z.cps.toList.drop 0) d [] :=
  ⟨h.1, Nat.le_trans (isT_dp h.2.1) hk, by rw [List.append_nil]; exact h.2.2⟩
def sp_read (bad : Addr) : Sp := fun vs H Q E => ∃ Z : Str, vs = [.str Z] ∧ Z.length ≤ 100000 ∧
  (∀ (d : D) (v : V) (H' : Hp), WT Z d → Same H H' → Is H' d v → Q v H') ∧ ((∀ d, ¬ WT Z d) → ∀ (e : Addr) (H' : Hp), Same H H' → E (.ref e) (some bad) H')
def sp_tin0 (n : Nat) (vs : List V) (H : Hp) (Q : VK) : Prop := ∃ (Z : Str) (o : Addr) (p : Nat), vs = [.str Z, .ref o] ∧ Z.length ≤ 100000 ∧ p ≤ Z.length ∧ H o = some (.lst [.int (p : Int)]) ∧ (Z.cps.toList.drop p).count 40 < n ∧
  (∀ (d : D) (r : List Nat) (v : V) (H' : Hp), TR n (Z.cps.toList.drop p) d r → H' o = some (.lst [.int ((Z.length - r.length : Nat) : Int)]) → Kept o H H' → Is H' d v → Q v H') ∧
  ((∀ d r, ¬ TR n (Z.cps.toList.drop p) d r) → ∀ (H' : Hp) (i : Int), H' o = some (.lst [.int i]) → Kept o H H' → Q .non H')
def sp_tin (n : Nat) : Sp := fun vs H Q _ => sp_tin0 n vs H Q
def sp_txin : Sp := fun vs H Q _ => ∃ (Z : Str) (o : Addr) (p : Nat), vs = [.str Z, .ref o] ∧ Z.length ≤ 100000 ∧ p ≤ Z.length ∧ H o = some (.lst [.int (p : Int)]) ∧
  (∀ (z : Str) (r : List Nat) (H' : Hp), WR (Z.cps.toList.drop p) z r → z.length ≤ 100000 → H' o = some (.lst [.int ((Z.length - r.length : Nat) : Int)]) → Kept o H H' → Q (.str z) H') ∧
  ((∀ z r, ¬ WR (Z.cps.toList.drop p) z r) → ∀ (H' : Hp) (i : Int), H' o = some (.lst [.int i]) → Kept o H H' → Q .non H')
section
variable {P : Program} {w : World} {K : PySem.W.Frag} {mg : Str → Option Value} {base : Heap} {a : Ad} {g : Ga}
theorem ok_read (T : Tx K mg a) (C : Fx K mg g) : FnOk P w K mg base (CX1 P w) 29 a.f_read_tree a.d_read_tree ["text"] (sp_read g.bad) := by
  have G_tree_at : FnOk P w K mg base (CX1 P w) 28 a.f_tree_at a.d_tree_at ["text", "place", "depth"] (sp_at g.bad 13) := ok_at T C 13
  have G_is_tree : FnOk P w K mg base CX0 2 a.f_is_tree a.d_is_tree ["value"] sp_is_tree := ok_is_tree T
  refine T.F_read_tree.okX sc_read_tree (fun vs H Q E h => ?_) (fun cdv A outer s H vs Q E hr h => ?_)
  · obtain ⟨Z, rfl, _⟩ := h
    rfl
  obtain ⟨Z, rfl, hZ, kQ, kE⟩ := h
  refine ⟨_, (@pss_cons _ _ _ _ _ (@ps_set _ _ (1) _ _ _ _ sc_read_tree.nd rfl (Or.inl rfl) (@pe_call _ _ _ _ _ _ _ _ _ _ _ _ _ _ _ _ G_tree_at (hr.mono (by first | decide | omega)) (by rfl) T.m_tree_at T.F_tree_at.kp T.b_tree_at .nil pass1 (@pa_cons _ _ _ _ _ (pv 0) (@pa_cons _ _ _ _ _ (@pe_int _ _ _ _) (@pa_cons _ _ _ _ _ (@pe_int _ _ _ _) (@pa_nil _) (by first | rfl | exact .inl rfl | exact .inr rfl | exact .inr (.inl rfl) | decide | decide +kernel | (intro _; rfl))) (by first | rfl | exact .inl rfl | exact .inr rfl | exact .inr (.inl rfl) | decide | decide +kernel | (intro _; rfl))) (by first | rfl | exact .inl rfl | exact .inr rfl | exact .inr (.inl rfl) | decide | decide +kernel | (intro _; rfl))) (by first | rfl | exact .inl rfl | exact .inr rfl | exact .inr (.inl rfl) | decide | decide +kernel | (intro _; rfl)) (by first | rfl | exact .inl rfl | exact .inr rfl | exact .inr (.inl rfl) | decide | decide +kernel | (intro _; rfl)) (by first | rfl | exact .inl rfl | exact .inr rfl | exact .inr (.inl rfl) | decide | decide +kernel | (intro _; rfl))) (by first | rfl | exact .inl rfl | exact .inr rfl | exact .inr (.inl rfl) | decide | decide +kernel | (intro _; rfl)) (by first | rfl | exact .inl rfl | exact .inr rfl | exact .inr (.inl rfl) | decide | decide +kernel | (intro _; rfl))) (@pss_cons _ _ _ _ _ (@ps_if _ _ _ _ _ _ _ _ (@pt_cmpR _ _ _ _ _ _ _ _ (@op_ne _) (@pe_ix _ _ _ _ _ _ _ (@ix_tup _) (pv 1) (@pe_int _ _ _ _) (fun _ _ => rfl)) (@pe_callB _ _ _ _ _ _ _ _ _ (@call_len_str _) (by rfl) T.z_len PySem.boot_len (@pa_cons _ _ _ _ _ (pv 0) (@pa_nil _) (by first | rfl | exact .inl rfl | exact .inr rfl | exact .inr (.inl rfl) | decide | decide +kernel | (intro _; rfl))) (by first | rfl | exact .inl rfl | exact .inr rfl | exact .inr (.inl rfl) | decide | decide +kernel | (intro _; rfl)) (by first | rfl | exact .inl rfl | exact .inr rfl | exact .inr (.inl rfl) | decide | decide +kernel | (intro _; rfl)) (by first | rfl | exact .inl rfl | exact .inr rfl | exact .inr (.inl rfl) | decide | decide +kernel | (intro _; rfl)) (by first | rfl | exact .inl rfl | exact .inr rfl | exact .inr (.inl rfl) | decide | decide +kernel | (intro _; rfl))) (nomark _)) (@pss_one _ _ _ (@ps_raise _ _ _ _ _ _ _ _ _ _ _ _ _ _ _ _ _ _ _ _ _ _ C.x_BadTree (by rfl) C.m_BadTree (@pe_str _ _ _ _) (by first | rfl | exact .inl rfl | exact .inr rfl | exact .inr (.inl rfl) | decide | decide +kernel | (intro _; rfl)) (by first | rfl | exact .inl rfl | exact .inr rfl | exact .inr (.inl rfl) | decide | decide +kernel | (intro _; rfl)))) (@pss_nil _)) (@pss_cons _ _ _ _ _ (@ps_if _ _ _ _ _ _ _ _ (@pt_not _ _ _ _ (@pt_val _ _ _ (@pe_call _ _ _ _ _ _ _ _ _ _ _ _ _ _ _ _ G_is_tree (hr.mono (by first | decide | omega)) (by rfl) T.m_is_tree T.F_is_tree.kp T.b_is_tree .nil pass0 (@pa_cons _ _ _ _ _ (@pe_ix _ _ _ _ _ _ _ (@ix_tup _) (pv 1) (@pe_int _ _ _ _) (fun _ _ => rfl)) (@pa_nil _) (by first | rfl | exact .inl rfl | exact .inr rfl | exact .inr (.inl rfl) | decide | decide +kernel | (intro _; rfl))) (by first | rfl | exact .inl rfl | exact .inr rfl | exact .inr (.inl rfl) | decide | decide +kernel | (intro _; rfl)) (by first | rfl | exact .inl rfl | exact .inr rfl | exact .inr (.inl rfl) | decide | decide +kernel | (intro _; rfl)) (by first | rfl | exact .inl rfl | exact .inr rfl | exact .inr (.inl rfl) | decide | decide +kernel | (intro _; rfl))) (by first | rfl | exact .inl rfl | exact .inr rfl | exact .inr (.inl rfl) | decide | decide +kernel | (intro _; rfl)))) (@pss_one _ _ _ (@ps_raise _ _ _ _ _ _ _ _ _ _ _ _ _ _ _ _ _ _ _ _ _ _ C.x_BadTree (by rfl) C.m_BadTree (@pe_str _ _ _ _) (by first | rfl | exact .inl rfl | exact .inr rfl | exact .inr (.inl rfl) | decide | decide +kernel | (intro _; rfl)) (by first | rfl | exact .inl rfl | exact .inr rfl | exact .inr (.inl rfl) | decide | decide +kernel | (intro _; rfl)))) (@pss_nil _)) (@pss_one _ _ _ (@ps_ret _ _ _ _ (@pe_ix _ _ _ _ _ _ _ (@ix_tup _) (pv 1) (@pe_int _ _ _ _) (fun _ _ => rfl))))))), ?_⟩
  have hs := sizeLine_eq
  have hz : Z.length ≤ sizeLine := by omega
  have hl : Z.cps.toList.length = Z.length := (len_cps Z).symm
  refine ⟨_, rfl, Z, 0, 1, 12, rfl, hZ, Nat.zero_le _, rfl, by omega, ?_, ?_⟩
  · intro d r v H1 ht s1 hv
    obtain ⟨b, vs, rfl, hb, x, r1, rfl, hx, y, r2, rfl, hy, e4⟩ := hv
    cases (show y = _ from hy)
    cases (show r2 = [] from e4)
    have hlr := ht.len
    rw [List.drop_zero, hl] at hlr
    have no : ∀ (H2 : Hp), Same H H2 → (∀ e, WT Z e → d = e ∧ r = [] → False) → ∀ e : Addr, E (.ref e) (some g.bad) H2 := fun H2 s2 h e => kE (fun d' hw => h d' hw (ht.uniq (hw.tr (Nat.le_refl _)))) e H2 s2
    refine ⟨_, rfl, b, _, 1, _, rfl, rfl, SqT.of hb, rfl, _, rfl, Z, rfl, hz, rfl, _, rfl, ?_⟩
    by_cases c : ((Z.length - r.length : Nat) : Int) = (Z.length : Int)
    · refine iteFof (by show (!decide (V.int _ = V.int _)) = false; rw [decide_eq_true (by rw [c])]; rfl) ?_
      have r0 : r = [] := List.length_eq_zero_iff.mp (by omega)
      subst r0
      refine ⟨_, rfl, b, _, 0, x, rfl, rfl, SqT.of hb, rfl, x, d, rfl, hx, fun H2 s2 => ⟨_, rfl, ?_⟩⟩
      cases hT : isT d with
      | true =>
        refine iteF ⟨_, rfl, b, _, 0, x, rfl, rfl, SqT.of (s2 _ _ hb), rfl, ?_⟩
        refine kQ d x H2 ⟨ht.1, hT, ?_⟩ (s1.trans s2) (hx.mono s2.tk)
        have := ht.2.2
        rw [List.drop_zero, List.append_nil] at this
        exact this
      | false =>
        refine iteT ⟨rfl, no H2 (s1.trans s2) fun e hw he => ?_⟩
        rw [he.1, hw.2.1] at hT
        cases hT
    · refine iteTof (by show (!decide (V.int _ = V.int _)) = true; rw [decide_eq_false (fun h => c (V.int.inj h))]; rfl) ?_
      refine ⟨rfl, no H1 s1 fun e hw he => c ?_⟩
      rw [he.2]
      simp
  · intro hno e H1 s1
    exact kE (fun d hw => hno d [] (hw.tr (Nat.le_refl _))) e H1 s1
theorem ok_txin (T : Tx K mg a) : FnOk P w K mg base CX0 1 a.f_law_text_in a.d_law_text_in ["text", "spot"] sp_txin := by
  refine T.F_law_text_in.ok sc_law_text_in (fun vs H Q E h => ?_) (fun cdv A outer s H vs Q E hr h => ?_)
  · obtain ⟨Z, o, p, rfl, _⟩ := h
    rfl
  obtain ⟨Z, o, p, rfl, hZ, hp, ho, kQ, kN⟩ := h
  refine ⟨_, (@pss_cons _ _ _ _ _ (@ps_set _ _ (2) _ _ _ _ sc_law_text_in.nd rfl (Or.inl rfl) (@pe_str _ _ _ _) (by first | rfl | exact .inl rfl | exact .inr rfl | exact .inr (.inl rfl) | decide | decide +kernel | (intro _; rfl)) (by first | rfl | exact .inl rfl | exact .inr rfl | exact .inr (.inl rfl) | decide | decide +kernel | (intro _; rfl))) (@pss_cons _ _ _ _ _ (@ps_while _ _ _ _ _ _ PassesOwn.never (@pt_cmpR _ _ _ _ _ _ _ _ (@op_lt _) (@pe_ix _ _ _ _ _ _ _ (@ix_list _) (pv 1) (@pe_int _ _ _ _) (fun _ _ => rfl)) (@pe_callB _ _ _ _ _ _ _ _ _ (@call_len_str _) (by rfl) T.z_len PySem.boot_len (@pa_cons _ _ _ _ _ (pv 0) (@pa_nil _) (by first | rfl | exact .inl rfl | exact .inr rfl | exact .inr (.inl rfl) | decide | decide +kernel | (intro _; rfl))) (by first | rfl | exact .inl rfl | exact .inr rfl | exact .inr (.inl rfl) | decide | decide +kernel | (intro _; rfl)) (by first | rfl | exact .inl rfl | exact .inr rfl | exact .inr (.inl rfl) | decide | decide +kernel | (intro _; rfl)) (by first | rfl | exact .inl rfl | exact .inr rfl | exact .inr (.inl rfl) | decide | decide +kernel | (intro _; rfl)) (by first | rfl | exact .inl rfl | exact .inr rfl | exact .inr (.inl rfl) | decide | decide +kernel | (intro _; rfl))) (nomark _)) (@pss_cons _ _ _ _ _ (@ps_set _ _ (3) _ _ _ _ sc_law_text_in.nd rfl (Or.inl rfl) (@pe_ix _ _ _ _ _ _ _ (@ix_str _) (pv 0) (@pe_ix _ _ _ _ _ _ _ (@ix_list _) (pv 1) (@pe_int _ _ _ _) (fun _ _ => rfl)) (fun _ _ => rfl)) (by first | rfl | exact .inl rfl | exact .inr rfl | exact .inr (.inl rfl) | decide | decide +kernel | (intro _; rfl)) (by first | rfl | exact .inl rfl | exact .inr rfl | exact .inr (.inl rfl) | decide | decide +kernel | (intro _; rfl))) (@pss_cons _ _ _ _ _ (@ps_asg _ _ _ _ _ _ (@pe_op _ _ _ _ _ _ _ _ (@op_add _) (@pe_ix _ _ _ _ _ _ _ (@ix_list _) (pv 1) (@pe_int _ _ _ _) (fun _ _ => rfl)) (@pe_int _ _ _ _)) (@pg_sub _ _ _ _ _ _ _ (pv 1) (@pe_int _ _ _ _) (@set_list _) (by first | rfl | exact .inl rfl | exact .inr rfl | exact .inr (.inl rfl) | decide | decide +kernel | (intro _; rfl))) (by first | rfl | exact .inl rfl | exact .inr rfl | exact .inr (.inl rfl) | decide | decide +kernel | (intro _; rfl)) (by first | rfl | exact .inl rfl | exact .inr rfl | exact .inr (.inl rfl) | decide | decide +kernel | (intro _; rfl)) (by first | rfl | exact .inl rfl | exact .inr rfl | exact .inr (.inl rfl) | decide | decide +kernel | (intro _; rfl))) (@pss_cons _ _ _ _ _ (@ps_if _ _ _ _ _ _ _ _ (@pt_cmpR _ _ _ _ _ _ _ _ (@op_eq _) (pv 3) (@pe_str _ _ _ _) (nomark _)) (@pss_one _ _ _ (@ps_ret _ _ _ _ (pv 2))) (@pss_nil _)) (@pss_cons _ _ _ _ _ (@ps_if _ _ _ _ _ _ _ _ (@pt_cmpR _ _ _ _ _ _ _ _ (@op_eq _) (pv 3) (@pe_str _ _ _ _) (nomark _)) (@pss_cons _ _ _ _ _ (@ps_if _ _ _ _ _ _ _ _ (@pt_cmpR _ _ _ _ _ _ _ _ (@op_notIn_seq _) (@pe_slice _ _ _ _ _ _ _ _ _ _ (@sl_str _) (pv 0) (@po_some _ _ _ (@pe_ix _ _ _ _ _ _ _ (@ix_list _) (pv 1) (@pe_int _ _ _ _) (fun _ _ => rfl))) (@po_some _ _ _ (@pe_op _ _ _ _ _ _ _ _ (@op_add _) (@pe_ix _ _ _ _ _ _ _ (@ix_list _) (pv 1) (@pe_int _ _ _ _) (fun _ _ => rfl)) (@pe_int _ _ _ _)))) (@pe_lst _ _ _ _ (@pa_cons _ _ _ _ _ (@pe_str _ _ _ _) (@pa_cons _ _ _ _ _ (@pe_str _ _ _ _) (@pa_nil _) (by first | rfl | exact .inl rfl | exact .inr rfl | exact .inr (.inl rfl) | decide | decide +kernel | (intro _; rfl))) (by first | rfl | exact .inl rfl | exact .inr rfl | exact .inr (.inl rfl) | decide | decide +kernel | (intro _; rfl)))) (by with_unfolding_all rfl)) (@pss_one _ _ _ (@ps_ret _ _ _ _ (@pe_non _ _ _))) (@pss_nil _)) (@pss_cons _ _ _ _ _ (@ps_set _ _ (3) _ _ _ _ sc_law_text_in.nd rfl (Or.inl rfl) (@pe_ix _ _ _ _ _ _ _ (@ix_str _) (pv 0) (@pe_ix _ _ _ _ _ _ _ (@ix_list _) (pv 1) (@pe_int _ _ _ _) (fun _ _ => rfl)) (fun _ _ => rfl)) (by first | rfl | exact .inl rfl | exact .inr rfl | exact .inr (.inl rfl) | decide | decide +kernel | (intro _; rfl)) (by first | rfl | exact .inl rfl | exact .inr rfl | exact .inr (.inl rfl) | decide | decide +kernel | (intro _; rfl))) (@pss_one _ _ _ (@ps_asg _ _ _ _ _ _ (@pe_op _ _ _ _ _ _ _ _ (@op_add _) (@pe_ix _ _ _ _ _ _ _ (@ix_list _) (pv 1) (@pe_int _ _ _ _) (fun _ _ => rfl)) (@pe_int _ _ _ _)) (@pg_sub _ _ _ _ _ _ _ (pv 1) (@pe_int _ _ _ _) (@set_list _) (by first | rfl | exact .inl rfl | exact .inr rfl | exact .inr (.inl rfl) | decide | decide +kernel | (intro _; rfl))) (by first | rfl | exact .inl rfl | exact .inr rfl | exact .inr (.inl rfl) | decide | decide +kernel | (intro _; rfl)) (by first | rfl | exact .inl rfl | exact .inr rfl | exact .inr (.inl rfl) | decide | decide +kernel | (intro _; rfl)) (by first | rfl | exact .inl rfl | exact .inr rfl | exact .inr (.inl rfl) | decide | decide +kernel | (intro _; rfl)))))) (@pss_nil _)) (@pss_one _ _ _ (@ps_set _ _ (2) _ _ _ _ sc_law_text_in.nd rfl (Or.inl rfl) (@pe_op _ _ _ _ _ _ _ _ (@op_add_str _) (pv 2) (pv 3)) (by first | rfl | exact .inl rfl | exact .inr rfl | exact .inr (.inl rfl) | decide | decide +kernel | (intro _; rfl)) (by first | rfl | exact .inl rfl | exact .inr rfl | exact .inr (.inl rfl) | decide | decide +kernel | (intro _; rfl))))))))) (@pss_one _ _ _ (@ps_ret _ _ _ _ (@pe_non _ _ _))))), ?_⟩
  have hs := sizeLine_eq
  have hz : Z.length ≤ sizeLine := by omega
  have hl : Z.cps.toList.length = Z.length := (len_cps Z).symm
  refine ⟨fun m σ H' => ∃ (q : Nat) (z0 : Str) (sv : Option V), σ = [some (.str Z), some (.ref o), some (.str z0), sv] ∧ q ≤ Z.length ∧ H' o = some (.lst [.int (q : Int)]) ∧ Z.cps.toList.drop p = esc z0.cps.toList ++ Z.cps.toList.drop q ∧ z0.length ≤ q ∧ Kept o H H' ∧ m = Z.length - q, ⟨_, p, "", _, rfl, hp, ho, rfl, Nat.zero_le _, Kept.refl _ _, rfl⟩, ?_⟩
  rintro m σ H' ⟨q, z0, sv, rfl, hq, ho', hd, hz0, kp, rfl⟩
  have nope : ∀ (H2 : Hp) (i : Int), Kept o H H2 → H2 o = some (.lst [.int i]) → (∀ y r, ¬ Z.cps.toList.drop q = esc y ++ 34 :: r) → Q .non H2 := fun H2 i k2 h2 h => kN (fun z r hw => by
    rw [hd] at hw
    obtain ⟨y, ey⟩ := WR.cut (t := []) hw
    exact h y r ey) H2 i h2 k2
  refine ⟨_, rfl, o, _, _, _, rfl, rfl, SqL.of ho', rfl, _, rfl, Z, rfl, hz, _, _, rfl, rfl, _, rfl, ?_⟩
  refine ite2 (fun c => ?_) (fun c => ?_)
  · have c' : (q : Int) < (Z.length : Int) := of_decide_eq_true c
    have hq' : q < Z.cps.toList.length := by omega
    have ed := List.drop_eq_getElem_cons hq'
    generalize hx : Z.cps.toList[q] = x at ed
    have gx : Z.cps.toList[q]? = some x := by rw [List.getElem?_eq_getElem hq', hx]
    refine ⟨fun σ' H2 => ∃ (q2 : Nat) (z1 : Str) (sv : Option V), σ' = [some (.str Z), some (.ref o), some (.str z1), sv] ∧ q2 ≤ Z.length ∧ H2 o = some (.lst [.int (q2 : Int)]) ∧ Z.cps.toList.drop p = esc z1.cps.toList ++ Z.cps.toList.drop q2 ∧ z1.length ≤ q2 ∧ Kept o H H2 ∧ Z.length - q2 < Z.length - q, ?_, ?_⟩
    · rintro σ' H2 ⟨q2, z1, sv, r1, r2, r3, r4, r5, r6, r7⟩
      exact ⟨_, r7, q2, z1, sv, r1, r2, r3, r4, r5, r6, rfl⟩
    refine ⟨_, rfl, _, rfl, o, _, _, _, rfl, rfl, SqL.of ho', rfl, Z, _, x, rfl, rfl, hz, atI_nat gx, ?_⟩
    refine ⟨_, rfl, o, _, _, _, rfl, rfl, SqL.of ho', rfl, _, _, rfl, rfl, _, rfl, o, _, _, _, rfl, rfl, ho', rfl, ?_⟩
    have o1 : (upd H' o (.lst [.int ((q : Int) + 1)])) o = some (.lst [.int ((q + 1 : Nat) : Int)]) := upd_same
    have k1 : Kept o H (upd H' o (.lst [.int ((q : Int) + 1)])) := kp.trans (Kept.upd _ _ _)
    show (fun H3 => _) (upd H' o (.lst [.int ((q : Int) + 1)]))
    generalize upd H' o (.lst [.int ((q : Int) + 1)]) = H1 at o1 k1 ⊢
    -- one sign more
    have more : ∀ (q' y : Nat) (t : List Nat) (H2 : Hp), q ≤ q' → Z.cps.toList.drop q' = y :: t → Z.cps.toList.drop q = esc [y] ++ t → Kept o H H2 → H2 o = some (.lst [.int ((q' + 1 : Nat) : Int)]) →
        z0.length + (⟨#[y]⟩ : Str).length ≤ sizeLine ∧ ∃ (q2 : Nat) (z1 : Str) (sv : Option V), ([some (.str Z), some (.ref o), some (.str (z0 ++ ⟨#[y]⟩)), some (.str ⟨#[y]⟩)] : L2.St) = [some (.str Z), some (.ref o), some (.str z1), sv] ∧ q2 ≤ Z.length ∧ H2 o = some (.lst [.int (q2 : Int)]) ∧ Z.cps.toList.drop p = esc z1.cps.toList ++ Z.cps.toList.drop q2 ∧ z1.length ≤ q2 ∧ Kept o H H2 ∧ Z.length - q2 < Z.length - q := fun q' y t H2 hqq e0 ee k2 h2 => by
      obtain ⟨d1, d2, d3⟩ := drop_step e0
      rw [hl] at d2
      refine ⟨by show z0.length + 1 ≤ _; omega, q' + 1, _, _, rfl, d2, h2, ?_, by rw [app_len]; show z0.length + 1 ≤ _; omega, k2, by omega⟩
      rw [hd, ee, d1, Str.cps_append, Array.toList_append, esc_app, List.append_assoc]
    refine ⟨_, rfl, rfl, _, rfl, ?_⟩
    refine ite2 (fun c1 => ?_) (fun c1 => ?_)
    · have c1' : x = 34 := one_inj (V.str.inj (of_decide_eq_true c1))
      subst c1'
      have hlen : (Z.cps.toList.drop (q + 1)).length = Z.length - (q + 1) := by rw [List.length_drop, hl]
      refine ⟨_, rfl, kQ z0 (Z.cps.toList.drop (q + 1)) H1 (by unfold WR; rw [hd, ed]) (by omega) ?_ k1⟩
      rw [o1, hlen]
      congr 4
      omega
    refine ⟨_, rfl, rfl, _, rfl, ?_⟩
    refine ite2 (fun c2 => ?_) (fun c2 => ?_)
    · have c2' : x = 92 := one_inj (V.str.inj (of_decide_eq_true c2))
      subst c2'
      generalize ht0 : Z.cps.toList.drop (q + 1) = t0 at ed
      refine ⟨_, rfl, _, rfl, o, _, _, _, rfl, rfl, SqL.of o1, rfl, _, rfl, _, rfl, o, _, _, _, rfl, rfl, SqL.of o1, rfl, _, _, rfl, rfl, _, rfl, Z, rfl, hz, (by show 2 ≤ sizeLine; omega), fun L2 g2 => ?_⟩
      have s2 : Same H1 (upd H1 L2 (.lst [.str "\"", .str "\\"])) := same_new g2 _
      have o2 := s2 _ _ o1
      have k2 : Kept o H (upd H1 L2 (.lst [.str "\"", .str "\\"])) := k1.trans s2.kept
      rw [show Txt.slice Z (some ((q + 1 : Nat) : Int)) (some (((q + 1 : Nat) : Int) + 1)) = one t0 from by rw [slice_one, ht0]]
      refine ⟨L2, _, rfl, .inl (SqL.of upd_same), rfl, rfl, _, rfl, ?_⟩
      rw [show (if true = true then !inV (V.str (one t0)) [.str "\"", .str "\\"] else inV (V.str (one t0)) [.str "\"", .str "\\"]) = !hd2 t0 from by rw [← in_twoS]; rfl]
      generalize upd H1 L2 (.lst [.str "\"", .str "\\"]) = H2 at s2 o2 k2 ⊢
      by_cases c3 : ∃ x t, t0 = x :: t ∧ (x = 34 ∨ x = 92)
      · rw [show hd2 t0 = true from by obtain ⟨x, t, rfl, hx⟩ := c3; exact decide_eq_true hx]
        refine iteF ?_
        obtain ⟨y, t, rfl, hy⟩ := c3
        obtain ⟨_, _, gy⟩ := drop_step ht0
        refine ⟨_, rfl, _, rfl, o, _, _, _, rfl, rfl, SqL.of o2, rfl, Z, _, y, rfl, rfl, hz, atI_nat gy, ?_⟩
        refine ⟨_, rfl, o, _, _, _, rfl, rfl, SqL.of o2, rfl, _, _, rfl, rfl, _, rfl, o, _, _, _, rfl, rfl, o2, rfl, ?_⟩
        have o3 : (upd H2 o (.lst [.int (((q + 1 : Nat) : Int) + 1)])) o = some (.lst [.int ((q + 1 + 1 : Nat) : Int)]) := upd_same
        have k3 : Kept o H (upd H2 o (.lst [.int (((q + 1 : Nat) : Int) + 1)])) := k2.trans (Kept.upd _ _ _)
        show (fun H3 => _) (upd H2 o (.lst [.int (((q + 1 : Nat) : Int) + 1)]))
        generalize upd H2 o (.lst [.int (((q + 1 : Nat) : Int) + 1)]) = H3 at o3 k3 ⊢
        obtain ⟨m1, m2⟩ := more (q + 1) y t H3 (by omega) ht0 (by rw [ed, esc_one]; rcases hy with rfl | rfl <;> rfl) k3 o3
        exact ⟨_, rfl, _, rfl, _, _, rfl, rfl, m1, m2⟩
      · rw [show hd2 t0 = false from by
          cases t0 with
          | nil => rfl
          | cons x t => exact decide_eq_false fun hx => c3 ⟨x, t, rfl, hx⟩]
        refine iteT ?_
        refine nope H2 _ k2 o2 fun y r hy => ?_
        rw [ed] at hy
        refine no_back (fun x t ht => ?_) hy
        exact ⟨fun e => c3 ⟨x, t, ht, .inl e⟩, fun e => c3 ⟨x, t, ht, .inr e⟩⟩
    · have c1' : ¬ x = 34 := fun h => c1 (decide_eq_true (by rw [h]; rfl))
      have c2' : ¬ x = 92 := fun h => c2 (decide_eq_true (by rw [h]; rfl))
      obtain ⟨m1, m2⟩ := more q x _ H1 (Nat.le_refl _) ed (by rw [esc_one, if_neg c2', if_neg c1']; exact ed) k1 o1
      exact ⟨_, rfl, _, rfl, _, _, rfl, rfl, m1, m2⟩
  · have c' : ¬ (q : Int) < (Z.length : Int) := fun h => c (decide_eq_true h)
    refine nope H' _ kp ho' fun y r hy => ?_
    rw [List.drop_eq_nil_of_le (by omega)] at hy
    exact no_nil hy
end
end K03

set_option Elab.async false
set_option linter.all false
set_option maxRecDepth 100000
set_option maxHeartbeats 4000000
namespace K03
open PySem L2 PyProof.Rows
def hd3 : List Nat → Bool
  | [] => false
  | x :: _ => decide (x = 32 ∨ x = 41)
theorem in_sep (l : List Nat) : inV (.str (one l)) [.str " ", .str ")"] = hd3 l := by
  cases l with
  | nil => rfl
  | cons c t =>
    show inV (.str ⟨#[c]⟩) _ = decide (c = 32 ∨ c = 41)
    rw [show inV (.str ⟨#[c]⟩) [.str " ", .str ")"] = decide ((⟨#[c]⟩ : Str) ∈ ([⟨#[32]⟩, ⟨#[41]⟩] : List Str)) from inV_str ⟨#[c]⟩ [⟨#[32]⟩, ⟨#[41]⟩], decide_eq_decide]
    constructor
    · intro h
      rcases List.mem_cons.mp h with h | h
      · exact .inl (one_inj h)
      · exact .inr (one_inj (List.mem_singleton.mp h))
    · rintro (rfl | rfl)
      · exact List.mem_cons_self
      · exact List.mem_cons_of_mem _ List.mem_cons_self
theorem count_drop {l : List Nat} {p q : Nat} (h : p ≤ q) : (l.drop q).count 40 ≤ (l.drop p).count 40 := by
  obtain ⟨m, rfl⟩ : ∃ m, q = p + m := ⟨q - p, by omega⟩
  rw [← List.drop_drop]
  exact List.Sublist.count_le _ (List.drop_sublist _ _)
theorem sh_val {H : Hp} {d : D} {v : V} (h : sh d = true) (hv : Is H d v) : v ≠ .non := by
  cases d with
  | str z => obtain ⟨rfl, _⟩ := hv; exact fun e => by cases e
  | tup xs => obtain ⟨a, vs, rfl, _⟩ := hv; exact fun e => by cases e
  | _ => simp [sh] at h
/-- a part is wanted at q, behind the parts ds -/
def BW (Z : Str) (p n : Nat) (ds : List D) (q : Nat) : Prop := (∀ d r' y r, TR n (Z.cps.toList.drop q) d r' → RR n false r' y r → RR n true (Z.cps.toList.drop (p + 1)) (ds ++ d :: y) r) ∧
  (∀ ys r, RR n true (Z.cps.toList.drop (p + 1)) ys r → ∃ d r' y, TR n (Z.cps.toList.drop q) d r' ∧ RR n false r' y r)
def WI (Z : Str) (o L : Addr) (p n : Nat) (H : Hp) (m : Nat) (σ : L2.St) (H' : Hp) : Prop := ∃ (ds : List D) (us : List V) (sg : Str) (pv : Option V) (i : Nat),
  σ = [some (.str Z), some (.ref o), some (.str sg), some (.ref L), pv] ∧ H' o = some (.lst [.int (i : Int)]) ∧ H' L = some (.lst us) ∧ IsL H' ds us ∧ ds.length ≤ i ∧ i ≤ Z.length ∧ p + 1 ≤ i ∧ Kept o H H' ∧
  ((V.str sg ≠ V.str (⟨#[41]⟩ : Str) ∧ BW Z p n ds i ∧ m = Z.length - i + 1) ∨ (V.str sg = V.str (⟨#[41]⟩ : Str) ∧ (∃ r, RR n true (Z.cps.toList.drop (p + 1)) ds r ∧ i = Z.length - r.length) ∧ m = 0))
section
variable {P : Program} {w : World} {K : PySem.W.Frag} {mg : Str → Option Value} {base : Heap} {a : Ad} {g : Ga}
theorem tin_none {f : Addr} {fd : FuncData} {l : Nat} : FnOk P w K mg base CX0 l f fd ["text", "spot"] (sp_tin 0) := by
  have no : ∀ vs H Q E, ¬ sp_tin 0 vs H Q E := fun vs H Q E h => by
    obtain ⟨Z, o, p, _, _, _, _, h1, _⟩ := h
    omega
  exact ⟨fun vs H Q E h => absurd h (no vs H Q E), fun A outer s H args us vs Q E _ _ _ _ h => absurd h (no vs H Q E)⟩
theorem ok_tin1 (T : Tx K mg a) {n : Nat} (G_law_tree_in : FnOk P w K mg base CX0 (n + 2) a.f_law_tree_in a.d_law_tree_in ["text", "spot"] (sp_tin n)) : FnOk P w K mg base CX0 (n + 3) a.f_law_tree_in a.d_law_tree_in ["text", "spot"] (sp_tin (n + 1)) := by
  have G_law_text_in : FnOk P w K mg base CX0 1 a.f_law_text_in a.d_law_text_in ["text", "spot"] sp_txin := ok_txin T
  refine T.F_law_tree_in.ok sc_law_tree_in (fun vs H Q E h => ?_) (fun cdv A outer s H vs Q E hr h => ?_)
  · obtain ⟨Z, o, p, rfl, _⟩ := h
    rfl
  obtain ⟨Z, o, p, rfl, hZ, hp, ho, hc, kQ, kN⟩ := h
  refine ⟨_, (@pss_cons _ _ _ _ _ (@ps_set _ _ (2) _ _ _ _ sc_law_tree_in.nd rfl (Or.inl rfl) (@pe_slice _ _ _ _ _ _ _ _ _ _ (@sl_str _) (pv 0) (@po_some _ _ _ (@pe_ix _ _ _ _ _ _ _ (@ix_list _) (pv 1) (@pe_int _ _ _ _) (fun _ _ => rfl))) (@po_some _ _ _ (@pe_op _ _ _ _ _ _ _ _ (@op_add _) (@pe_ix _ _ _ _ _ _ _ (@ix_list _) (pv 1) (@pe_int _ _ _ _) (fun _ _ => rfl)) (@pe_int _ _ _ _)))) (by first | rfl | exact .inl rfl | exact .inr rfl | exact .inr (.inl rfl) | decide | decide +kernel | (intro _; rfl)) (by first | rfl | exact .inl rfl | exact .inr rfl | exact .inr (.inl rfl) | decide | decide +kernel | (intro _; rfl))) (@pss_cons _ _ _ _ _ (@ps_asg _ _ _ _ _ _ (@pe_op _ _ _ _ _ _ _ _ (@op_add _) (@pe_ix _ _ _ _ _ _ _ (@ix_list _) (pv 1) (@pe_int _ _ _ _) (fun _ _ => rfl)) (@pe_int _ _ _ _)) (@pg_sub _ _ _ _ _ _ _ (pv 1) (@pe_int _ _ _ _) (@set_list _) (by first | rfl | exact .inl rfl | exact .inr rfl | exact .inr (.inl rfl) | decide | decide +kernel | (intro _; rfl))) (by first | rfl | exact .inl rfl | exact .inr rfl | exact .inr (.inl rfl) | decide | decide +kernel | (intro _; rfl)) (by first | rfl | exact .inl rfl | exact .inr rfl | exact .inr (.inl rfl) | decide | decide +kernel | (intro _; rfl)) (by first | rfl | exact .inl rfl | exact .inr rfl | exact .inr (.inl rfl) | decide | decide +kernel | (intro _; rfl))) (@pss_cons _ _ _ _ _ (@ps_if _ _ _ _ _ _ _ _ (@pt_cmpR _ _ _ _ _ _ _ _ (@op_eq _) (pv 2) (@pe_str _ _ _ _) (nomark _)) (@pss_one _ _ _ (@ps_ret _ _ _ _ (@pe_call _ _ _ _ _ _ _ _ _ _ _ _ _ _ _ _ G_law_text_in (hr.mono (by first | decide | omega)) (by rfl) T.m_law_text_in T.F_law_text_in.kp T.b_law_text_in .nil pass0 (@pa_cons _ _ _ _ _ (pv 0) (@pa_cons _ _ _ _ _ (pv 1) (@pa_nil _) (by first | rfl | exact .inl rfl | exact .inr rfl | exact .inr (.inl rfl) | decide | decide +kernel | (intro _; rfl))) (by first | rfl | exact .inl rfl | exact .inr rfl | exact .inr (.inl rfl) | decide | decide +kernel | (intro _; rfl))) (by first | rfl | exact .inl rfl | exact .inr rfl | exact .inr (.inl rfl) | decide | decide +kernel | (intro _; rfl)) (by first | rfl | exact .inl rfl | exact .inr rfl | exact .inr (.inl rfl) | decide | decide +kernel | (intro _; rfl)) (by first | rfl | exact .inl rfl | exact .inr rfl | exact .inr (.inl rfl) | decide | decide +kernel | (intro _; rfl))))) (@pss_nil _)) (@pss_cons _ _ _ _ _ (@ps_if _ _ _ _ _ _ _ _ (@pt_cmpR _ _ _ _ _ _ _ _ (@op_ne _) (pv 2) (@pe_str _ _ _ _) (nomark _)) (@pss_one _ _ _ (@ps_ret _ _ _ _ (@pe_non _ _ _))) (@pss_nil _)) (@pss_cons _ _ _ _ _ (@ps_if _ _ _ _ _ _ _ _ (@pt_cmpR _ _ _ _ _ _ _ _ (@op_eq _) (@pe_slice _ _ _ _ _ _ _ _ _ _ (@sl_str _) (pv 0) (@po_some _ _ _ (@pe_ix _ _ _ _ _ _ _ (@ix_list _) (pv 1) (@pe_int _ _ _ _) (fun _ _ => rfl))) (@po_some _ _ _ (@pe_op _ _ _ _ _ _ _ _ (@op_add _) (@pe_ix _ _ _ _ _ _ _ (@ix_list _) (pv 1) (@pe_int _ _ _ _) (fun _ _ => rfl)) (@pe_int _ _ _ _)))) (@pe_str _ _ _ _) (nomark _)) (@pss_cons _ _ _ _ _ (@ps_asg _ _ _ _ _ _ (@pe_op _ _ _ _ _ _ _ _ (@op_add _) (@pe_ix _ _ _ _ _ _ _ (@ix_list _) (pv 1) (@pe_int _ _ _ _) (fun _ _ => rfl)) (@pe_int _ _ _ _)) (@pg_sub _ _ _ _ _ _ _ (pv 1) (@pe_int _ _ _ _) (@set_list _) (by first | rfl | exact .inl rfl | exact .inr rfl | exact .inr (.inl rfl) | decide | decide +kernel | (intro _; rfl))) (by first | rfl | exact .inl rfl | exact .inr rfl | exact .inr (.inl rfl) | decide | decide +kernel | (intro _; rfl)) (by first | rfl | exact .inl rfl | exact .inr rfl | exact .inr (.inl rfl) | decide | decide +kernel | (intro _; rfl)) (by first | rfl | exact .inl rfl | exact .inr rfl | exact .inr (.inl rfl) | decide | decide +kernel | (intro _; rfl))) (@pss_one _ _ _ (@ps_ret _ _ _ _ (@pe_tup _ _ _ _ _ (@pa_nil _))))) (@pss_nil _)) (@pss_cons _ _ _ _ _ (@ps_set _ _ (3) _ _ _ _ sc_law_tree_in.nd rfl (Or.inl rfl) (@pe_lst _ _ _ _ (@pa_nil _)) (by first | rfl | exact .inl rfl | exact .inr rfl | exact .inr (.inl rfl) | decide | decide +kernel | (intro _; rfl)) (by first | rfl | exact .inl rfl | exact .inr rfl | exact .inr (.inl rfl) | decide | decide +kernel | (intro _; rfl))) (@pss_cons _ _ _ _ _ (@ps_while _ _ _ _ _ _ PassesOwn.never (@pt_cmpR _ _ _ _ _ _ _ _ (@op_ne _) (pv 2) (@pe_str _ _ _ _) (nomark _)) (@pss_cons _ _ _ _ _ (@ps_set _ _ (4) _ _ _ _ sc_law_tree_in.nd rfl (Or.inl rfl) (@pe_call _ _ _ _ _ _ _ _ _ _ _ _ _ _ _ _ G_law_tree_in (hr.mono (by first | decide | omega)) (by rfl) T.m_law_tree_in T.F_law_tree_in.kp T.b_law_tree_in .nil pass0 (@pa_cons _ _ _ _ _ (pv 0) (@pa_cons _ _ _ _ _ (pv 1) (@pa_nil _) (by first | rfl | exact .inl rfl | exact .inr rfl | exact .inr (.inl rfl) | decide | decide +kernel | (intro _; rfl))) (by first | rfl | exact .inl rfl | exact .inr rfl | exact .inr (.inl rfl) | decide | decide +kernel | (intro _; rfl))) (by first | rfl | exact .inl rfl | exact .inr rfl | exact .inr (.inl rfl) | decide | decide +kernel | (intro _; rfl)) (by first | rfl | exact .inl rfl | exact .inr rfl | exact .inr (.inl rfl) | decide | decide +kernel | (intro _; rfl)) (by first | rfl | exact .inl rfl | exact .inr rfl | exact .inr (.inl rfl) | decide | decide +kernel | (intro _; rfl))) (by first | rfl | exact .inl rfl | exact .inr rfl | exact .inr (.inl rfl) | decide | decide +kernel | (intro _; rfl)) (by first | rfl | exact .inl rfl | exact .inr rfl | exact .inr (.inl rfl) | decide | decide +kernel | (intro _; rfl))) (@pss_cons _ _ _ _ _ (@ps_if _ _ _ _ _ _ _ _ (@pt_cmpR _ _ _ _ _ _ _ _ (@op_isN _) (pv 4) (@pe_non _ _ _) (nomark _)) (@pss_one _ _ _ (@ps_ret _ _ _ _ (@pe_non _ _ _))) (@pss_nil _)) (@pss_cons _ _ _ _ _ (@ps_expr _ _ _ _ (@pe_bm _ _ _ _ _ _ _ _ _ _ _ _ PySem.F.plainAttrs_list PySem.F.slot_list_append PySem.F.type_list_append (@mt_append _) (pv 3) (@pa_cons _ _ _ _ _ (pv 4) (@pa_nil _) (by first | rfl | exact .inl rfl | exact .inr rfl | exact .inr (.inl rfl) | decide | decide +kernel | (intro _; rfl))) (by first | rfl | exact .inl rfl | exact .inr rfl | exact .inr (.inl rfl) | decide | decide +kernel | (intro _; rfl)) (by first | rfl | exact .inl rfl | exact .inr rfl | exact .inr (.inl rfl) | decide | decide +kernel | (intro _; rfl)) (by first | rfl | exact .inl rfl | exact .inr rfl | exact .inr (.inl rfl) | decide | decide +kernel | (intro _; rfl)) (by first | rfl | exact .inl rfl | exact .inr rfl | exact .inr (.inl rfl) | decide | decide +kernel | (intro _; rfl)) (by first | rfl | exact .inl rfl | exact .inr rfl | exact .inr (.inl rfl) | decide | decide +kernel | (intro _; rfl))) (by first | rfl | exact .inl rfl | exact .inr rfl | exact .inr (.inl rfl) | decide | decide +kernel | (intro _; rfl))) (@pss_cons _ _ _ _ _ (@ps_set _ _ (2) _ _ _ _ sc_law_tree_in.nd rfl (Or.inl rfl) (@pe_slice _ _ _ _ _ _ _ _ _ _ (@sl_str _) (pv 0) (@po_some _ _ _ (@pe_ix _ _ _ _ _ _ _ (@ix_list _) (pv 1) (@pe_int _ _ _ _) (fun _ _ => rfl))) (@po_some _ _ _ (@pe_op _ _ _ _ _ _ _ _ (@op_add _) (@pe_ix _ _ _ _ _ _ _ (@ix_list _) (pv 1) (@pe_int _ _ _ _) (fun _ _ => rfl)) (@pe_int _ _ _ _)))) (by first | rfl | exact .inl rfl | exact .inr rfl | exact .inr (.inl rfl) | decide | decide +kernel | (intro _; rfl)) (by first | rfl | exact .inl rfl | exact .inr rfl | exact .inr (.inl rfl) | decide | decide +kernel | (intro _; rfl))) (@pss_cons _ _ _ _ _ (@ps_asg _ _ _ _ _ _ (@pe_op _ _ _ _ _ _ _ _ (@op_add _) (@pe_ix _ _ _ _ _ _ _ (@ix_list _) (pv 1) (@pe_int _ _ _ _) (fun _ _ => rfl)) (@pe_int _ _ _ _)) (@pg_sub _ _ _ _ _ _ _ (pv 1) (@pe_int _ _ _ _) (@set_list _) (by first | rfl | exact .inl rfl | exact .inr rfl | exact .inr (.inl rfl) | decide | decide +kernel | (intro _; rfl))) (by first | rfl | exact .inl rfl | exact .inr rfl | exact .inr (.inl rfl) | decide | decide +kernel | (intro _; rfl)) (by first | rfl | exact .inl rfl | exact .inr rfl | exact .inr (.inl rfl) | decide | decide +kernel | (intro _; rfl)) (by first | rfl | exact .inl rfl | exact .inr rfl | exact .inr (.inl rfl) | decide | decide +kernel | (intro _; rfl))) (@pss_one _ _ _ (@ps_if _ _ _ _ _ _ _ _ (@pt_cmpR _ _ _ _ _ _ _ _ (@op_notIn_seq _) (pv 2) (@pe_lst _ _ _ _ (@pa_cons _ _ _ _ _ (@pe_str _ _ _ _) (@pa_cons _ _ _ _ _ (@pe_str _ _ _ _) (@pa_nil _) (by first | rfl | exact .inl rfl | exact .inr rfl | exact .inr (.inl rfl) | decide | decide +kernel | (intro _; rfl))) (by first | rfl | exact .inl rfl | exact .inr rfl | exact .inr (.inl rfl) | decide | decide +kernel | (intro _; rfl)))) (by with_unfolding_all rfl)) (@pss_one _ _ _ (@ps_ret _ _ _ _ (@pe_non _ _ _))) (@pss_nil _))))))))) (@pss_one _ _ _ (@ps_ret _ _ _ _ (@pe_callTy _ _ _ _ _ _ _ _ _ (@call_tuple_of _) (by rfl) T.z_tuple boot_tuple (@pa_cons _ _ _ _ _ (pv 3) (@pa_nil _) (by first | rfl | exact .inl rfl | exact .inr rfl | exact .inr (.inl rfl) | decide | decide +kernel | (intro _; rfl))) (by first | rfl | exact .inl rfl | exact .inr rfl | exact .inr (.inl rfl) | decide | decide +kernel | (intro _; rfl)) (by first | rfl | exact .inl rfl | exact .inr rfl | exact .inr (.inl rfl) | decide | decide +kernel | (intro _; rfl)) (by first | rfl | exact .inl rfl | exact .inr rfl | exact .inr (.inl rfl) | decide | decide +kernel | (intro _; rfl)) (by first | rfl | exact .inl rfl | exact .inr rfl | exact .inr (.inl rfl) | decide | decide +kernel | (intro _; rfl)))))))))))), ?_⟩
  have hs := sizeLine_eq
  have hz : Z.length ≤ sizeLine := by omega
  have hl : Z.cps.toList.length = Z.length := (len_cps Z).symm
  refine ⟨_, rfl, _, rfl, o, _, _, _, rfl, rfl, SqL.of ho, rfl, _, rfl, _, rfl, o, _, _, _, rfl, rfl, SqL.of ho, rfl, _, _, rfl, rfl, _, rfl, Z, rfl, hz, ?_⟩
  rw [slice_one]
  refine ⟨_, rfl, o, _, _, _, rfl, rfl, SqL.of ho, rfl, _, _, rfl, rfl, _, rfl, o, _, _, _, rfl, rfl, ho, rfl, ?_⟩
  have o1 : (upd H o (.lst [.int ((p : Int) + 1)])) o = some (.lst [.int ((p + 1 : Nat) : Int)]) := upd_same
  have k1 : Kept o H (upd H o (.lst [.int ((p : Int) + 1)])) := Kept.upd _ _ _
  show (fun H3 => _) (upd H o (.lst [.int ((p : Int) + 1)]))
  generalize upd H o (.lst [.int ((p : Int) + 1)]) = H1 at o1 k1 ⊢
  refine ⟨_, rfl, rfl, _, rfl, ?_⟩
  refine ite2 (fun c1 => ?_) (fun c1 => ?_)
  · have c1' : V.str (one (Z.cps.toList.drop p)) = V.str (⟨#[34]⟩ : Str) := of_decide_eq_true c1
    obtain ⟨t, et⟩ := one_is.mp c1'
    obtain ⟨d1, d2, d3⟩ := drop_step et
    refine ⟨_, rfl, _, rfl, Z, o, p + 1, rfl, hZ, by omega, o1, ?_, ?_⟩
    · intro z r H' hw hzl ho' kp
      rw [d1] at hw
      refine kQ (.str z) r (.str z) H' (by rw [et]; exact TR.str (by omega) hw) ho' (k1.trans kp) ⟨rfl, by omega⟩
    · intro hno H' i ho' kp
      refine kN (fun d r ht => ?_) H' i ho' (k1.trans kp)
      rw [et] at ht
      obtain ⟨z, _, hw⟩ := ht.inv34
      exact hno z r (by rw [d1]; exact hw)
  refine ⟨_, rfl, rfl, _, rfl, ?_⟩
  by_cases c2 : V.str (one (Z.cps.toList.drop p)) = V.str (⟨#[40]⟩ : Str)
  · refine iteFof (by show (!decide (V.str (one (Z.cps.toList.drop p)) = V.str (⟨#[40]⟩ : Str))) = false; rw [decide_eq_true c2]; rfl) ?_
    obtain ⟨t, et⟩ := one_is.mp c2
    obtain ⟨d1, d2, d3⟩ := drop_step et
    rw [hl] at d2
    have hc1 : (Z.cps.toList.drop (p + 1)).count 40 < n := by
      rw [et, List.count_cons] at hc
      rw [d1]
      simp at hc
      omega
    -- what is wanted, said of the row
    have yes : ∀ (ys : List D) (r : List Nat) (v : V) (H' : Hp), RR n true (Z.cps.toList.drop (p + 1)) ys r → H' o = some (.lst [.int ((Z.length - r.length : Nat) : Int)]) → Kept o H H' → Is H' (.tup ys) v → Q v H' := fun ys r v H' h1 h2 h3 h4 => by
      refine kQ (.tup ys) r v H' ?_ h2 h3 h4
      rw [et]
      rw [d1] at h1
      exact TR.tup h1
    have nope : (∀ ys r, ¬ RR n true (Z.cps.toList.drop (p + 1)) ys r) → ∀ (H' : Hp) (i : Int), H' o = some (.lst [.int i]) → Kept o H H' → Q .non H' := fun hno H' i h2 h3 => by
      refine kN (fun d r ht => ?_) H' i h2 h3
      rw [et] at ht
      obtain ⟨ys, _, hw⟩ := ht.inv40
      exact hno ys r (by rw [d1]; exact hw)
    clear kQ kN
    refine ⟨_, rfl, _, rfl, o, _, _, _, rfl, rfl, SqL.of o1, rfl, _, rfl, _, rfl, o, _, _, _, rfl, rfl, SqL.of o1, rfl, _, _, rfl, rfl, _, rfl, Z, rfl, hz, rfl, _, rfl, ?_⟩
    rw [slice_one]
    refine ite2 (fun c3 => ?_) (fun c3 => ?_)
    · have c3' : V.str (one (Z.cps.toList.drop (p + 1))) = V.str (⟨#[41]⟩ : Str) := of_decide_eq_true c3
      obtain ⟨r, er⟩ := one_is.mp c3'
      have hlen : (Z.cps.toList.drop (p + 1)).length = r.length + 1 := by rw [er]; rfl
      rw [List.length_drop, hl] at hlen
      refine ⟨_, rfl, o, _, _, _, rfl, rfl, SqL.of o1, rfl, _, _, rfl, rfl, _, rfl, o, _, _, _, rfl, rfl, o1, rfl, ?_⟩
      refine ⟨(by show 0 ≤ sizeLine; omega), fun t2 g2 => ?_⟩
      have s3 := same_new g2 (.tup [])
      refine yes [] r (.ref t2) _ (by rw [er]; exact RR.nil r) ?_ ((k1.trans (Kept.upd _ _ _)).trans s3.kept) (Is.new (ds := []) rfl g2)
      have e9 : (((p + 1 : Nat) : Int) + 1) = ((Z.length - r.length : Nat) : Int) := by omega
      rw [← e9]
      exact s3 _ _ upd_same
    · have n41 : ∀ r, Z.cps.toList.drop (p + 1) ≠ 41 :: r := fun r e => c3 (decide_eq_true (show V.str (one (Z.cps.toList.drop (p + 1))) = V.str (⟨#[41]⟩ : Str) from one_is.mpr ⟨r, e⟩))
      refine ⟨(by show 0 ≤ sizeLine; omega), fun L gL => ?_⟩
      have oL : o ≠ L := fun e => by rw [← e, o1] at gL; cases gL
      have HL : H L = none := by
        cases e : H L with
        | none => rfl
        | some u => rw [k1 L u e (Ne.symm oL)] at gL; cases gL
      have sL := same_new gL (.lst [])
      have b0 : BW Z p n [] (p + 1) := ⟨fun d r' y r h1 h2 => RR.cons h1 h2, fun ys r h => by
        rcases RR.inv h with ⟨_, e⟩ | ⟨d, y, r', _, h1, h2⟩
        · exact absurd e (n41 r)
        · exact ⟨d, r', y, h1, h2⟩⟩
      refine ⟨WI Z o L p n H, ⟨_, [], [], _, _, p + 1, rfl, sL _ _ o1, upd_same, rfl, Nat.zero_le _, d2, Nat.le_refl _, k1.trans sL.kept, .inl ⟨?_, b0, rfl⟩⟩, ?_⟩
      · rw [c2]
        exact fun e => by cases e
      rintro m σ H' ⟨ds, us, sg, pv, i, rfl, ho', hL, hds, hdl, hi, hpi, kp, hcase⟩
      refine ⟨_, rfl, rfl, _, rfl, ?_⟩
      rcases hcase with ⟨hsg, hB, rfl⟩ | ⟨hsg, ⟨r, hR, hir⟩, rfl⟩
      · refine iteTof (by show (!decide (V.str sg = V.str (⟨#[41]⟩ : Str))) = true; rw [decide_eq_false hsg]; rfl) ?_
        refine ⟨fun σ' H2 => ∃ m', m' < Z.length - i + 1 ∧ WI Z o L p n H m' σ' H2, fun _ _ h => h, ?_⟩
        refine ⟨_, rfl, _, rfl, Z, o, i, rfl, hZ, hi, ho', Nat.lt_of_le_of_lt (count_drop hpi) hc1, ?_, ?_⟩
        · intro d r v H2 ht o2 kp2 hv
          have hlr := ht.len
          rw [List.length_drop, hl] at hlr
          refine ⟨_, rfl, rfl, _, rfl, ?_⟩
          refine iteFof (decide_eq_false (sh_val ht.1 hv)) ?_
          have hL2 := kp2 _ _ hL (Ne.symm oL)
          have tk2 : Tk H' H2 := kp2.tk ho' o2
          refine ⟨_, rfl, .inl ⟨rfl, _, SqL.of hL2⟩, _, rfl, L, us, v, rfl, rfl, hL2, by have := hds.length; omega, ?_⟩
          have tk3 : Tk H2 (upd H2 L (.lst (us ++ [v]))) := Tk.updL hL2
          have o3 : (upd H2 L (.lst (us ++ [v]))) o = some (.lst [.int ((Z.length - r.length : Nat) : Int)]) := by rw [upd_ne oL]; exact o2
          have l3 : (upd H2 L (.lst (us ++ [v]))) L = some (.lst (us ++ [v])) := upd_same
          have i3 : IsL (upd H2 L (.lst (us ++ [v]))) (ds ++ [d]) (us ++ [v]) := ((hds.mono tk2).mono tk3).append (IsL.one (hv.mono tk3))
          have k3 : Kept o H (upd H2 L (.lst (us ++ [v]))) := fun b u e nb => by
            rw [upd_ne (ne_of_none e HL)]
            exact kp2 b u (kp b u e nb) nb
          generalize upd H2 L (.lst (us ++ [v])) = H3 at tk3 o3 l3 i3 k3 ⊢
          refine ⟨_, rfl, _, rfl, o, _, _, _, rfl, rfl, SqL.of o3, rfl, _, rfl, _, rfl, o, _, _, _, rfl, rfl, SqL.of o3, rfl, _, _, rfl, rfl, _, rfl, Z, rfl, hz, ?_⟩
          have ed : Z.cps.toList.drop (Z.length - r.length) = r := by rw [← hl]; exact suffix_drop ht.2.2
          rw [slice_one, ed]
          refine ⟨_, rfl, o, _, _, _, rfl, rfl, SqL.of o3, rfl, _, _, rfl, rfl, _, rfl, o, _, _, _, rfl, rfl, o3, rfl, ?_⟩
          have o4 : (upd H3 o (.lst [.int (((Z.length - r.length : Nat) : Int) + 1)])) o = some (.lst [.int ((Z.length - r.length + 1 : Nat) : Int)]) := upd_same
          have k4 : Kept o H (upd H3 o (.lst [.int (((Z.length - r.length : Nat) : Int) + 1)])) := k3.trans (Kept.upd _ _ _)
          have l4 : (upd H3 o (.lst [.int (((Z.length - r.length : Nat) : Int) + 1)])) L = some (.lst (us ++ [v])) := by rw [upd_ne (Ne.symm oL)]; exact l3
          have tk4 : Tk H3 (upd H3 o (.lst [.int (((Z.length - r.length : Nat) : Int) + 1)])) := Tk.updL o3
          have i4 := i3.mono tk4
          show (fun H3 => _) (upd H3 o (.lst [.int (((Z.length - r.length : Nat) : Int) + 1)]))
          generalize upd H3 o (.lst [.int (((Z.length - r.length : Nat) : Int) + 1)]) = H4 at o4 k4 l4 i4 ⊢
          refine ⟨_, rfl, (by show 2 ≤ sizeLine; omega), fun L3 g3 => ⟨L3, _, rfl, .inl (SqL.of upd_same), rfl, rfl, _, rfl, ?_⟩⟩
          have s5 : Same H4 (upd H4 L3 (.lst [.str " ", .str ")"])) := same_new g3 _
          rw [show (if true = true then !inV (V.str (one r)) [.str " ", .str ")"] else inV (V.str (one r)) [.str " ", .str ")"]) = !hd3 r from by rw [← in_sep]; rfl]
          generalize upd H4 L3 (.lst [.str " ", .str ")"]) = H5 at s5 ⊢
          have o5 := s5 _ _ o4
          have l5 := s5 _ _ l4
          have i5 := i4.mono s5.tk
          have k5 : Kept o H H5 := k4.trans s5.kept
          have hdl5 : (ds ++ [d]).length ≤ Z.length - r.length + 1 := by rw [List.length_append, List.length_singleton]; omega
          -- what goes on behind this part
          have on_ : ∀ ys r2, RR n true (Z.cps.toList.drop (p + 1)) ys r2 → ∃ y, RR n false r y r2 := fun ys r2 h => by
            obtain ⟨d', r', y, h1, h2⟩ := hB.2 ys r2 h
            obtain ⟨_, rfl⟩ := ht.uniq h1
            exact ⟨y, h2⟩
          cases r with
          | nil =>
            refine iteT (nope (fun ys r2 h => ?_) H5 _ o5 k5)
            obtain ⟨y, h2⟩ := on_ ys r2 h
            rcases RR.inv' h2 with ⟨_, e⟩ | ⟨_, _, _, _, _, e, _⟩ <;> cases e
          | cons c t =>
            have hlt : (c :: t).length = t.length + 1 := rfl
            have ed2 : Z.cps.toList.drop (Z.length - (c :: t).length + 1) = t := (drop_step ed).1
            by_cases c32 : c = 32
            · subst c32
              refine iteF ⟨_, ?_, ds ++ [d], us ++ [v], _, _, Z.length - (32 :: t).length + 1, rfl, o5, l5, i5, hdl5, by omega, by omega, k5, .inl ⟨(fun e => by cases e), ⟨?_, ?_⟩, rfl⟩⟩
              · omega
              · intro d' r' y r2 h1 h2
                rw [ed2] at h1
                rw [List.append_assoc]
                exact hB.1 d (32 :: t) (d' :: y) r2 ht (RR.cons' h1 h2)
              · intro ys r2 h
                obtain ⟨y, h2⟩ := on_ ys r2 h
                rw [ed2]
                rcases RR.inv' h2 with ⟨_, e⟩ | ⟨d', y', s', r', _, e, h3, h4⟩
                · cases e
                · cases e
                  exact ⟨d', r', y', h3, h4⟩
            · by_cases c41 : c = 41
              · subst c41
                refine iteF ⟨0, by omega, ds ++ [d], us ++ [v], _, _, Z.length - (41 :: t).length + 1, rfl, o5, l5, i5, hdl5, by omega, by omega, k5, .inr ⟨rfl, ⟨t, ?_, by omega⟩, rfl⟩⟩
                exact hB.1 d (41 :: t) [] t ht (RR.nil t)
              · rw [show hd3 (c :: t) = false from decide_eq_false fun h => h.elim c32 c41]
                refine iteT (nope (fun ys r2 h => ?_) H5 _ o5 k5)
                obtain ⟨y, h2⟩ := on_ ys r2 h
                rcases RR.inv' h2 with ⟨_, e⟩ | ⟨_, _, _, _, _, e, _⟩
                · cases e; exact c41 rfl
                · cases e; exact c32 rfl
        · intro hno H2 j o2 kp2
          refine ⟨_, rfl, rfl, _, rfl, ?_⟩
          refine iteTof (decide_eq_true rfl) (nope (fun ys r h => ?_) H2 j o2 (kp.trans kp2))
          obtain ⟨d, r', y, h1, _⟩ := hB.2 ys r h
          exact hno d r' h1
      · refine iteFof (by show (!decide (V.str sg = V.str (⟨#[41]⟩ : Str))) = false; rw [decide_eq_true hsg]; rfl) ?_
        refine ⟨_, rfl, L, us, rfl, .inl ⟨SqL.of hL, fun t2 g2 => ?_⟩⟩
        have s3 := same_new g2 (.tup us)
        subst hir
        exact yes ds r (.ref t2) _ hR (s3 _ _ ho') (kp.trans s3.kept) (Is.new hds g2)
  · refine iteTof (by show (!decide (V.str (one (Z.cps.toList.drop p)) = V.str (⟨#[40]⟩ : Str))) = true; rw [decide_eq_false c2]; rfl) ?_
    refine kN (fun d r ht => ?_) H1 _ o1 k1
    obtain ⟨t, h | h⟩ := ht.head
    · exact c1 (decide_eq_true (show V.str (one (Z.cps.toList.drop p)) = V.str (⟨#[34]⟩ : Str) from one_is.mpr ⟨t, h⟩))
    · exact c2 (one_is.mpr ⟨t, h⟩)
theorem ok_tin (T : Tx K mg a) : ∀ n : Nat, FnOk P w K mg base CX0 (n + 2) a.f_law_tree_in a.d_law_tree_in ["text", "spot"] (sp_tin n)
  | 0 => tin_none
  | n + 1 => ok_tin1 T (ok_tin T n)
end
end K03

set_option Elab.async false
set_option linter.all false
set_option maxRecDepth 100000
set_option maxHeartbeats 4000000
namespace K03
open PySem L2 PyProof.Rows
theorem same_kept {H H1 H2 : Hp} {p : Addr} (s : Same H H1) (hp : H p = none) (k : Kept p H1 H2) : Same H H2 := fun b o e => k b o (s b o e) (ne_of_none e hp)
def sp_due : Sp := fun vs H Q _ => ∃ Z : Str, vs = [.str Z] ∧ Z.length ≤ 100000 ∧ Z.cps.toList.count 40 < 200 ∧
  (∀ (d : D) (v : V) (H' : Hp), WT Z d → Same H H' → Is H' d v → Q v H') ∧ ((∀ d, ¬ WT Z d) → ∀ H' : Hp, Same H H' → Q .non H')
def sp_lread : Sp := fun vs H Q _ => ∃ Z : Str, vs = [.str Z] ∧ Z.length ≤ 100000 ∧
  (∀ (d : D) (v : V) (H' : Hp), WT Z d → Same H H' → Is H' d v → Q v H') ∧ ((∀ d, ¬ WT Z d) → ∀ (L : Addr) (H' : Hp), Same H H' → H' L = some (.lst []) → Q (.ref L) H')
section
variable {P : Program} {w : World} {K : PySem.W.Frag} {mg : Str → Option Value} {base : Heap} {a : Ad} {g : Ga}
theorem ok_due (T : Tx K mg a) : FnOk P w K mg base CX0 204 a.f_law_due a.d_law_due ["text"] sp_due := by
  have G_law_tree_in : FnOk P w K mg base CX0 202 a.f_law_tree_in a.d_law_tree_in ["text", "spot"] (sp_tin 200) := ok_tin T 200
  have G_law_is_tree : FnOk P w K mg base CX0 203 a.f_law_is_tree a.d_law_is_tree ["value"] sp_lis_tree := ok_lis_tree T
  refine T.F_law_due.ok sc_law_due (fun vs H Q E h => ?_) (fun cdv A outer s H vs Q E hr h => ?_)
  · obtain ⟨Z, rfl, _⟩ := h
    rfl
  obtain ⟨Z, rfl, hZ, hcn, kQ, kN⟩ := h
  refine ⟨_, (@pss_cons _ _ _ _ _ (@ps_set _ _ (1) _ _ _ _ sc_law_due.nd rfl (Or.inl rfl) (@pe_lst _ _ _ _ (@pa_cons _ _ _ _ _ (@pe_int _ _ _ _) (@pa_nil _) (by first | rfl | exact .inl rfl | exact .inr rfl | exact .inr (.inl rfl) | decide | decide +kernel | (intro _; rfl)))) (by first | rfl | exact .inl rfl | exact .inr rfl | exact .inr (.inl rfl) | decide | decide +kernel | (intro _; rfl)) (by first | rfl | exact .inl rfl | exact .inr rfl | exact .inr (.inl rfl) | decide | decide +kernel | (intro _; rfl))) (@pss_cons _ _ _ _ _ (@ps_set _ _ (2) _ _ _ _ sc_law_due.nd rfl (Or.inl rfl) (@pe_call _ _ _ _ _ _ _ _ _ _ _ _ _ _ _ _ G_law_tree_in (hr.mono (by first | decide | omega)) (by rfl) T.m_law_tree_in T.F_law_tree_in.kp T.b_law_tree_in .nil pass0 (@pa_cons _ _ _ _ _ (pv 0) (@pa_cons _ _ _ _ _ (pv 1) (@pa_nil _) (by first | rfl | exact .inl rfl | exact .inr rfl | exact .inr (.inl rfl) | decide | decide +kernel | (intro _; rfl))) (by first | rfl | exact .inl rfl | exact .inr rfl | exact .inr (.inl rfl) | decide | decide +kernel | (intro _; rfl))) (by first | rfl | exact .inl rfl | exact .inr rfl | exact .inr (.inl rfl) | decide | decide +kernel | (intro _; rfl)) (by first | rfl | exact .inl rfl | exact .inr rfl | exact .inr (.inl rfl) | decide | decide +kernel | (intro _; rfl)) (by first | rfl | exact .inl rfl | exact .inr rfl | exact .inr (.inl rfl) | decide | decide +kernel | (intro _; rfl))) (by first | rfl | exact .inl rfl | exact .inr rfl | exact .inr (.inl rfl) | decide | decide +kernel | (intro _; rfl)) (by first | rfl | exact .inl rfl | exact .inr rfl | exact .inr (.inl rfl) | decide | decide +kernel | (intro _; rfl))) (@pss_cons _ _ _ _ _ (@ps_if _ _ _ _ _ _ _ _ (@pw_or _ _ _ _ _ _ _ (@pt_cmpR _ _ _ _ _ _ _ _ (@op_isN _) (pv 2) (@pe_non _ _ _) (nomark _)) (@pw_or _ _ _ _ _ _ _ (@pt_cmpR _ _ _ _ _ _ _ _ (@op_ne _) (@pe_ix _ _ _ _ _ _ _ (@ix_list _) (pv 1) (@pe_int _ _ _ _) (fun _ _ => rfl)) (@pe_callB _ _ _ _ _ _ _ _ _ (@call_len_str _) (by rfl) T.z_len PySem.boot_len (@pa_cons _ _ _ _ _ (pv 0) (@pa_nil _) (by first | rfl | exact .inl rfl | exact .inr rfl | exact .inr (.inl rfl) | decide | decide +kernel | (intro _; rfl))) (by first | rfl | exact .inl rfl | exact .inr rfl | exact .inr (.inl rfl) | decide | decide +kernel | (intro _; rfl)) (by first | rfl | exact .inl rfl | exact .inr rfl | exact .inr (.inl rfl) | decide | decide +kernel | (intro _; rfl)) (by first | rfl | exact .inl rfl | exact .inr rfl | exact .inr (.inl rfl) | decide | decide +kernel | (intro _; rfl)) (by first | rfl | exact .inl rfl | exact .inr rfl | exact .inr (.inl rfl) | decide | decide +kernel | (intro _; rfl))) (nomark _)) (@pw_or1 _ _ _ _ (@pt_not _ _ _ _ (@pt_val _ _ _ (@pe_call _ _ _ _ _ _ _ _ _ _ _ _ _ _ _ _ G_law_is_tree (hr.mono (by first | decide | omega)) (by rfl) T.m_law_is_tree T.F_law_is_tree.kp T.b_law_is_tree .nil pass0 (@pa_cons _ _ _ _ _ (pv 2) (@pa_nil _) (by first | rfl | exact .inl rfl | exact .inr rfl | exact .inr (.inl rfl) | decide | decide +kernel | (intro _; rfl))) (by first | rfl | exact .inl rfl | exact .inr rfl | exact .inr (.inl rfl) | decide | decide +kernel | (intro _; rfl)) (by first | rfl | exact .inl rfl | exact .inr rfl | exact .inr (.inl rfl) | decide | decide +kernel | (intro _; rfl)) (by first | rfl | exact .inl rfl | exact .inr rfl | exact .inr (.inl rfl) | decide | decide +kernel | (intro _; rfl))) (by first | rfl | exact .inl rfl | exact .inr rfl | exact .inr (.inl rfl) | decide | decide +kernel | (intro _; rfl))))))).pt (@pss_one _ _ _ (@ps_ret _ _ _ _ (@pe_non _ _ _))) (@pss_nil _)) (@pss_one _ _ _ (@ps_ret _ _ _ _ (pv 2)))))), ?_⟩
  have hs := sizeLine_eq
  have hz : Z.length ≤ sizeLine := by omega
  have hl : Z.cps.toList.length = Z.length := (len_cps Z).symm
  refine ⟨(by show 1 ≤ sizeLine; omega), fun o go => ?_⟩
  have s1 : Same H (upd H o (.lst [.int 0])) := same_new go _
  refine ⟨_, rfl, _, rfl, Z, o, 0, rfl, hZ, Nat.zero_le _, upd_same, by rw [List.drop_zero]; exact hcn, ?_, ?_⟩
  · intro d r v H1 ht o1 kp hv
    have sm := same_kept s1 go kp
    have hlr := ht.len
    rw [List.drop_zero, hl] at hlr
    have no : ∀ (H2 : Hp), Same H H2 → (∀ e, WT Z e → d = e ∧ r = [] → False) → Q .non H2 := fun H2 s2 h => kN (fun d' hw => h d' hw (ht.uniq (hw.tr (k := 200) (by omega)))) H2 s2
    refine ⟨_, rfl, rfl, _, rfl, ?_⟩
    refine iteFof (decide_eq_false (sh_val ht.1 hv)) ?_
    refine ⟨_, rfl, o, _, _, _, rfl, rfl, SqL.of o1, rfl, _, rfl, Z, rfl, hz, rfl, _, rfl, ?_⟩
    by_cases c : ((Z.length - r.length : Nat) : Int) = (Z.length : Int)
    · refine iteFof (by show (!decide (V.int _ = V.int _)) = false; rw [decide_eq_true (by rw [c])]; rfl) ?_
      have r0 : r = [] := List.length_eq_zero_iff.mp (by omega)
      subst r0
      refine ⟨_, rfl, v, d, rfl, hv, ht.2.1, fun H2 s2 => ⟨_, rfl, ?_⟩⟩
      cases hT : isT d with
      | true =>
        refine iteF ⟨_, rfl, kQ d v H2 ⟨ht.1, hT, ?_⟩ (sm.trans s2) (hv.mono s2.tk)⟩
        have := ht.2.2
        rw [List.drop_zero, List.append_nil] at this
        exact this
      | false =>
        refine iteT (no H2 (sm.trans s2) fun e hw he => ?_)
        rw [he.1, hw.2.1] at hT
        cases hT
    · refine iteTof (by show (!decide (V.int _ = V.int _)) = true; rw [decide_eq_false (fun h => c (V.int.inj h))]; rfl) ?_
      refine iteT (no H1 sm fun e hw he => c ?_)
      rw [he.2]
      simp
  · intro hno H1 i o1 kp
    refine ⟨_, rfl, rfl, _, rfl, ?_⟩
    refine iteTof (decide_eq_true rfl) (iteT ?_)
    exact kN (fun d hw => hno d [] (hw.tr (k := 200) (by omega))) H1 (same_kept s1 go kp)
theorem ok_lread (T : Tx K mg a) (C : Fx K mg g) : FnOk P w K mg base CX0 30 a.f_law_read a.d_law_read ["text"] sp_lread := by
  have G_read_tree : FnOk P w K mg base (CX1 P w) 29 a.f_read_tree a.d_read_tree ["text"] (sp_read g.bad) := ok_read T C
  refine T.F_law_read.ok sc_law_read (fun vs H Q E h => ?_) (fun cdv A outer s H vs Q E hr h => ?_)
  · obtain ⟨Z, rfl, _⟩ := h
    rfl
  obtain ⟨Z, rfl, hZ, kQ, kN⟩ := h
  refine ⟨_, (@pss_cons _ _ _ _ _ (@ps_set _ _ (1) _ _ _ _ sc_law_read.nd rfl (Or.inl rfl) (@pe_non _ _ _) (by first | rfl | exact .inl rfl | exact .inr rfl | exact .inr (.inl rfl) | decide | decide +kernel | (intro _; rfl)) (by first | rfl | exact .inl rfl | exact .inr rfl | exact .inr (.inl rfl) | decide | decide +kernel | (intro _; rfl))) (@pss_cons _ _ _ _ _ (@ps_set _ _ (2) _ _ _ _ sc_law_read.nd rfl (Or.inl rfl) (@pe_non _ _ _) (by first | rfl | exact .inl rfl | exact .inr rfl | exact .inr (.inl rfl) | decide | decide +kernel | (intro _; rfl)) (by first | rfl | exact .inl rfl | exact .inr rfl | exact .inr (.inl rfl) | decide | decide +kernel | (intro _; rfl))) (@pss_cons _ _ _ _ _ (@ps_trySA _ (1) (3) _ _ _ _ _ _ _ _ _ _ _ _ _ _ _ _ _ _ _ _ _ _ _ sc_law_read.nd rfl (Or.inl rfl) rfl rfl G_read_tree (hr.mono (by first | decide | omega)) (by rfl) T.m_read_tree T.F_read_tree.kp T.b_read_tree (@pa_cons _ _ _ _ _ (pv 0) (@pa_nil _) (by first | rfl | exact .inl rfl | exact .inr rfl | exact .inr (.inl rfl) | decide | decide +kernel | (intro _; rfl))) ⟨rfl, rfl⟩ (by rfl) C.m_WrightError (fun _ _ => (@pss_one _ _ _ (@ps_set _ _ (2) _ _ _ _ sc_law_read.nd rfl (Or.inl rfl) (pv 3) (by first | rfl | exact .inl rfl | exact .inr rfl | exact .inr (.inl rfl) | decide | decide +kernel | (intro _; rfl)) (by first | rfl | exact .inl rfl | exact .inr rfl | exact .inr (.inl rfl) | decide | decide +kernel | (intro _; rfl))))) (by first | rfl | exact .inl rfl | exact .inr rfl | exact .inr (.inl rfl) | decide | decide +kernel | (intro _; rfl)) (by first | rfl | exact .inl rfl | exact .inr rfl | exact .inr (.inl rfl) | decide | decide +kernel | (intro _; rfl)) (by first | rfl | exact .inl rfl | exact .inr rfl | exact .inr (.inl rfl) | decide | decide +kernel | (intro _; rfl)) (by first | rfl | exact .inl rfl | exact .inr rfl | exact .inr (.inl rfl) | decide | decide +kernel | (intro _; rfl)) (by first | rfl | exact .inl rfl | exact .inr rfl | exact .inr (.inl rfl) | decide | decide +kernel | (intro _; rfl)) (by first | rfl | exact .inl rfl | exact .inr rfl | exact .inr (.inl rfl) | decide | decide +kernel | (intro _; rfl))) (@pss_cons _ _ _ _ _ (@ps_if _ _ _ _ _ _ _ _ (@pt_cmpR _ _ _ _ _ _ _ _ (@op_isN _) (pv 2) (@pe_non _ _ _) (nomark _)) (@pss_one _ _ _ (@ps_ret _ _ _ _ (pv 1))) (@pss_nil _)) (@pss_cons _ _ _ _ _ (@ps_set _ _ (4) _ _ _ _ sc_law_read.nd rfl (Or.inl rfl) (@pe_callB _ _ _ _ _ _ _ _ _ (@call_isinstT _ _ rfl) (by rfl) T.z_isinstance boot_isinstance (@pa_cons _ _ _ _ _ (pv 2) (@pa_cons _ _ _ _ _ (@pe_tup _ _ _ _ _ (@pa_cons _ _ _ _ _ (@pe_gR _ _ _ _ (by rfl) C.m_BadKeep (by first | rfl | exact .inl rfl | exact .inr rfl | exact .inr (.inl rfl) | decide | decide +kernel | (intro _; rfl))) (@pa_cons _ _ _ _ _ (@pe_gR _ _ _ _ (by rfl) C.m_BadName (by first | rfl | exact .inl rfl | exact .inr rfl | exact .inr (.inl rfl) | decide | decide +kernel | (intro _; rfl))) (@pa_cons _ _ _ _ _ (@pe_gR _ _ _ _ (by rfl) C.m_BadRule (by first | rfl | exact .inl rfl | exact .inr rfl | exact .inr (.inl rfl) | decide | decide +kernel | (intro _; rfl))) (@pa_cons _ _ _ _ _ (@pe_gR _ _ _ _ (by rfl) C.m_BadText (by first | rfl | exact .inl rfl | exact .inr rfl | exact .inr (.inl rfl) | decide | decide +kernel | (intro _; rfl))) (@pa_cons _ _ _ _ _ (@pe_gR _ _ _ _ (by rfl) C.m_BadThing (by first | rfl | exact .inl rfl | exact .inr rfl | exact .inr (.inl rfl) | decide | decide +kernel | (intro _; rfl))) (@pa_nil _) (by first | rfl | exact .inl rfl | exact .inr rfl | exact .inr (.inl rfl) | decide | decide +kernel | (intro _; rfl))) (by first | rfl | exact .inl rfl | exact .inr rfl | exact .inr (.inl rfl) | decide | decide +kernel | (intro _; rfl))) (by first | rfl | exact .inl rfl | exact .inr rfl | exact .inr (.inl rfl) | decide | decide +kernel | (intro _; rfl))) (by first | rfl | exact .inl rfl | exact .inr rfl | exact .inr (.inl rfl) | decide | decide +kernel | (intro _; rfl))) (by first | rfl | exact .inl rfl | exact .inr rfl | exact .inr (.inl rfl) | decide | decide +kernel | (intro _; rfl)))) (@pa_nil _) (by first | rfl | exact .inl rfl | exact .inr rfl | exact .inr (.inl rfl) | decide | decide +kernel | (intro _; rfl))) (by first | rfl | exact .inl rfl | exact .inr rfl | exact .inr (.inl rfl) | decide | decide +kernel | (intro _; rfl))) (by first | rfl | exact .inl rfl | exact .inr rfl | exact .inr (.inl rfl) | decide | decide +kernel | (intro _; rfl)) (by first | rfl | exact .inl rfl | exact .inr rfl | exact .inr (.inl rfl) | decide | decide +kernel | (intro _; rfl)) (by first | rfl | exact .inl rfl | exact .inr rfl | exact .inr (.inl rfl) | decide | decide +kernel | (intro _; rfl)) (by first | rfl | exact .inl rfl | exact .inr rfl | exact .inr (.inl rfl) | decide | decide +kernel | (intro _; rfl))) (by first | rfl | exact .inl rfl | exact .inr rfl | exact .inr (.inl rfl) | decide | decide +kernel | (intro _; rfl)) (by first | rfl | exact .inl rfl | exact .inr rfl | exact .inr (.inl rfl) | decide | decide +kernel | (intro _; rfl))) (@pss_one _ _ _ (@ps_ret _ _ _ _ (@pe_op _ _ _ _ _ _ _ _ (@op_rep _) (@pe_lst _ _ _ _ (@pa_cons _ _ _ _ _ (@pe_str _ _ _ _) (@pa_nil _) (by first | rfl | exact .inl rfl | exact .inr rfl | exact .inr (.inl rfl) | decide | decide +kernel | (intro _; rfl)))) (@pe_callTy _ _ _ _ _ _ _ _ _ (@call_int1 _) (by rfl) T.z_int boot_int (@pa_cons _ _ _ _ _ (@pe_or _ _ _ _ _ _ _ (pv 4) (@pe_or _ _ _ _ _ _ _ (@pe_not _ _ _ _ (@pe_callB _ _ _ _ _ _ _ _ _ (@call_isinstX _ _ rfl) (by rfl) T.z_isinstance boot_isinstance (@pa_cons _ _ _ _ _ (pv 2) (@pa_cons _ _ _ _ _ (@pe_gR _ _ _ _ (by rfl) C.m_BadTree (by first | rfl | exact .inl rfl | exact .inr rfl | exact .inr (.inl rfl) | decide | decide +kernel | (intro _; rfl))) (@pa_nil _) (by first | rfl | exact .inl rfl | exact .inr rfl | exact .inr (.inl rfl) | decide | decide +kernel | (intro _; rfl))) (by first | rfl | exact .inl rfl | exact .inr rfl | exact .inr (.inl rfl) | decide | decide +kernel | (intro _; rfl))) (by first | rfl | exact .inl rfl | exact .inr rfl | exact .inr (.inl rfl) | decide | decide +kernel | (intro _; rfl)) (by first | rfl | exact .inl rfl | exact .inr rfl | exact .inr (.inl rfl) | decide | decide +kernel | (intro _; rfl)) (by first | rfl | exact .inl rfl | exact .inr rfl | exact .inr (.inl rfl) | decide | decide +kernel | (intro _; rfl)) (by first | rfl | exact .inl rfl | exact .inr rfl | exact .inr (.inl rfl) | decide | decide +kernel | (intro _; rfl)))) (@pe_one _ _ _ _ _ (@pe_not _ _ _ _ (@pe_callB _ _ _ _ _ _ _ _ _ (@call_isinstX _ _ rfl) (by rfl) T.z_isinstance boot_isinstance (@pa_cons _ _ _ _ _ (pv 2) (@pa_cons _ _ _ _ _ (@pe_bltn _ _ (.ty "ValueError") _ _ (by rfl) T.z_ValueError boot_VE rfl (by first | rfl | exact .inl rfl | exact .inr rfl | exact .inr (.inl rfl) | decide | decide +kernel | (intro _; rfl)) (by first | rfl | exact .inl rfl | exact .inr rfl | exact .inr (.inl rfl) | decide | decide +kernel | (intro _; rfl))) (@pa_nil _) (by first | rfl | exact .inl rfl | exact .inr rfl | exact .inr (.inl rfl) | decide | decide +kernel | (intro _; rfl))) (by first | rfl | exact .inl rfl | exact .inr rfl | exact .inr (.inl rfl) | decide | decide +kernel | (intro _; rfl))) (by first | rfl | exact .inl rfl | exact .inr rfl | exact .inr (.inl rfl) | decide | decide +kernel | (intro _; rfl)) (by first | rfl | exact .inl rfl | exact .inr rfl | exact .inr (.inl rfl) | decide | decide +kernel | (intro _; rfl)) (by first | rfl | exact .inl rfl | exact .inr rfl | exact .inr (.inl rfl) | decide | decide +kernel | (intro _; rfl)) (by first | rfl | exact .inl rfl | exact .inr rfl | exact .inr (.inl rfl) | decide | decide +kernel | (intro _; rfl))))))) (@pa_nil _) (by first | rfl | exact .inl rfl | exact .inr rfl | exact .inr (.inl rfl) | decide | decide +kernel | (intro _; rfl))) (by first | rfl | exact .inl rfl | exact .inr rfl | exact .inr (.inl rfl) | decide | decide +kernel | (intro _; rfl)) (by first | rfl | exact .inl rfl | exact .inr rfl | exact .inr (.inl rfl) | decide | decide +kernel | (intro _; rfl)) (by first | rfl | exact .inl rfl | exact .inr rfl | exact .inr (.inl rfl) | decide | decide +kernel | (intro _; rfl)) (by first | rfl | exact .inl rfl | exact .inr rfl | exact .inr (.inl rfl) | decide | decide +kernel | (intro _; rfl))))))))))), ?_⟩
  have hs := sizeLine_eq
  refine ⟨_, rfl, Z, rfl, hZ, ?_, ?_⟩
  · intro d v H1 hw s1 hv
    refine ⟨_, rfl, rfl, _, rfl, ?_⟩
    exact iteTof (decide_eq_true rfl) ⟨_, rfl, kQ d v H1 hw s1 hv⟩
  · intro hno e0 H1 s1
    refine ⟨g.bad, rfl, C.e_BadTree, fun ea he hea => ?_⟩
    cases he
    have e1 : (upd H1 e0 (ExcO e0 g.bad)) e0 = some (ExcO e0 g.bad) := upd_same
    have s2 : Same H (upd H1 e0 (ExcO e0 g.bad)) := s1.trans (same_new hea _)
    generalize upd H1 e0 (ExcO e0 g.bad) = H2 at e1 s2 ⊢
    have kself : PySem.W.kitOne K (.ref g.bad) (.ref g.bad) = some true := by
      unfold PySem.W.kitOne
      rw [if_pos (by simp)]
    refine ⟨_, rfl, ?_⟩
    refine ⟨_, rfl, rfl, _, rfl, ?_⟩
    refine iteFof (decide_eq_false fun z => by cases z) ?_
    refine ⟨_, rfl, (by show 5 ≤ sizeLine; omega), fun t3 g3 => ?_⟩
    have s3 := same_new g3 (.tup [.ref g.xBadKeep, .ref g.xBadName, .ref g.xBadRule, .ref g.xBadText, .ref g.xBadThing])
    refine ⟨e0, g.bad, t3, [g.xBadKeep, g.xBadName, g.xBadRule, g.xBadText, g.xBadThing], false, rfl, s3 _ _ e1, upd_same, C.xc, C.k_t1, ?_⟩
    have e4 := s3 _ _ e1
    have s4 := s2.trans s3
    generalize upd H2 t3 (.tup [.ref g.xBadKeep, .ref g.xBadName, .ref g.xBadRule, .ref g.xBadText, .ref g.xBadThing]) = H4 at e4 s4 ⊢
    refine ⟨(by show 1 ≤ sizeLine; omega), fun l5 g5 => ?_⟩
    have s5 : Same H4 (upd H4 l5 (.lst [.str "odd"])) := same_new g5 _
    have e5 := s5 _ _ e4
    have l5' : (upd H4 l5 (.lst [.str "odd"])) l5 = some (.lst [.str "odd"]) := upd_same
    have s6 := s4.trans s5
    generalize upd H4 l5 (.lst [.str "odd"]) = H5 at e5 l5' s6 ⊢
    refine ⟨_, rfl, _, rfl, iteF ?_⟩
    refine ⟨_, rfl, .ref e0, .ref g.bad, .ref g.bad, .ref g.bad, true, rfl, .own _, .exc e5 C.xc, kself, _, rfl, _, rfl, iteF ?_⟩
    refine ⟨_, rfl, .ref e0, .ty "ValueError", .type "ValueError", .ref g.bad, true, rfl, .ty _, .exc e5 C.xc, C.k_ve, _, rfl, ?_⟩
    refine .inr ⟨false, rfl, l5, 0, _, rfl, rfl, l5', by decide, by decide, (by show 1 * 0 ≤ sizeLine; omega), fun t gt => ?_⟩
    exact kN hno t _ (s6.trans (same_new gt _)) upd_same
end
end K03

set_option Elab.async false
set_option linter.all false
set_option maxRecDepth 100000
set_option maxHeartbeats 4000000
namespace K03
open PySem L2 PyProof.Rows PySem.Builtin PySem.Builtin.Str
theorem sTo (z : Str) {m : Nat} (h : m ≤ z.length) : (Txt.slice z none (some (m : Int))).cps.toList = z.cps.toList.take m := by
  have e : Txt.slice z none (some (m : Int)) = ⟨((z.cps.toList.drop 0).take ((m : Int) - 0).toNat).toArray⟩ := StrLaws.sliceText_to ⟨by omega, by rw [← len_cps]; omega⟩
  rw [e]
  simp
theorem slice_lo (z : Str) {j : Int} (h : 0 ≤ j) : (Txt.slice z (some j) none).length ≤ z.length - j.toNat := by
  refine Nat.le_trans (slice_few z (some j) none) ?_
  unfold strSliceIndices sliceRange
  simp only [show (1 : Int) > 0 by decide, if_true, List.length_map, List.length_range]
  (split <;> (try split) <;> (try split) <;> (try simp only [Int.ediv_one]) <;> omega)
theorem sFrom (z : Str) (m : Nat) : (Txt.slice z (some (m : Int)) none).cps.toList = z.cps.toList.drop m := by
  rcases Nat.lt_or_ge z.length m with h | h
  · have := slice_lo z (j := (m : Int)) (by omega)
    rw [Int.toNat_natCast] at this
    have e0 : Txt.slice z (some (m : Int)) none = "" := str_nil (by omega)
    rw [e0, List.drop_eq_nil_of_le (by rw [← len_cps]; omega)]
    rfl
  · have e : Txt.slice z (some (m : Int)) none = ⟨((z.cps.toList.drop (m : Int).toNat).take ((z.cps.toList.length : Int) - (m : Int)).toNat).toArray⟩ := StrLaws.sliceText_from ⟨by omega, by rw [← len_cps]; omega⟩
    rw [e]
    show ((z.cps.toList.drop (m : Int).toNat).take _).toArray.toList = _
    rw [Int.toNat_natCast, List.take_of_length_le (by rw [List.length_drop]; omega)]
theorem br_to (z : Str) {m : Nat} (h : m ≤ z.length) : br (Txt.slice z none (some (m : Int))) + (z.cps.toList.drop m).count 40 = br z ∧ (Txt.slice z none (some (m : Int))).length = m := by
  unfold br
  rw [len_cps, sTo z h, ← List.count_append, List.take_append_drop, List.length_take, ← len_cps]
  exact ⟨rfl, by omega⟩
theorem br_from (z : Str) (m : Nat) : br (Txt.slice z (some (m : Int)) none) = (z.cps.toList.drop m).count 40 ∧ (Txt.slice z (some (m : Int)) none).length = z.length - m := by
  unfold br
  rw [len_cps, sFrom z m, List.length_drop, ← len_cps]
  exact ⟨rfl, rfl⟩
theorem count_back (l : List Nat) (m : Nat) : ∀ k : Nat, (l.drop m).count 40 ≤ (l.drop (m + k)).count 40 + k
  | 0 => by simp
  | k + 1 => by
    have ih := count_back l m k
    have e : (l.drop (m + k)).count 40 ≤ (l.drop (m + k + 1)).count 40 + 1 := by
      cases h : l.drop (m + k) with
      | nil => simp
      | cons x t =>
        rw [(drop_step h).1, List.count_cons]
        split <;> omega
    show _ ≤ (l.drop (m + k + 1)).count 40 + (k + 1)
    omega
theorem mul_blank (n : Int) : br (Txt.mul " " n) = 0 := br_mul (by decide +kernel)
def sp_changed : Sp := fun vs H Q _ => ∃ (Z : Str) (p : Addr), vs = [.str Z, .ref p] ∧ PotAt H p ∧ Z.length ≤ 50000 ∧ ∀ (Y : Str) (H' : Hp), Y.length ≤ Z.length + 9 → br Y ≤ br Z + 9 → PotAt H' p → Kept p H H' → Q (.str Y) H'
section
variable {P : Program} {w : World} {K : PySem.W.Frag} {mg : Str → Option Value} {base : Heap} {a : Ad} {g : Ga}
theorem ok_changed (T : Tx K mg a) : FnOk P w K mg base CX0 2 a.f_law_changed a.d_law_changed ["text", "pot"] sp_changed := by
  have G_law_take : FnOk P w K mg base CX0 1 a.f_law_take a.d_law_take ["pot", "many"] sp_take := ok_take T
  refine T.F_law_changed.ok sc_law_changed (fun vs H Q E h => ?_) (fun cdv A outer s H vs Q E hr h => ?_)
  · obtain ⟨Z, p, rfl, _⟩ := h
    rfl
  obtain ⟨Z, p, rfl, P0, hZ, k⟩ := h
  refine ⟨_, (@pss_cons _ _ _ _ _ (@ps_for _ _ _ _ _ _ _ _ PassesOwn.never rfl (@pi_range1 _ _ _ _ _ _ (by rfl) T.z_range (@pa_cons _ _ _ _ _ (@pe_op _ _ _ _ _ _ _ _ (@op_add _) (@pe_int _ _ _ _) (@pe_call _ _ _ _ _ _ _ _ _ _ _ _ _ _ _ _ G_law_take (hr.mono (by first | decide | omega)) (by rfl) T.m_law_take T.F_law_take.kp T.b_law_take .nil pass0 (@pa_cons _ _ _ _ _ (pv 1) (@pa_cons _ _ _ _ _ (@pe_int _ _ _ _) (@pa_nil _) (by first | rfl | exact .inl rfl | exact .inr rfl | exact .inr (.inl rfl) | decide | decide +kernel | (intro _; rfl))) (by first | rfl | exact .inl rfl | exact .inr rfl | exact .inr (.inl rfl) | decide | decide +kernel | (intro _; rfl))) (by first | rfl | exact .inl rfl | exact .inr rfl | exact .inr (.inl rfl) | decide | decide +kernel | (intro _; rfl)) (by first | rfl | exact .inl rfl | exact .inr rfl | exact .inr (.inl rfl) | decide | decide +kernel | (intro _; rfl)) (by first | rfl | exact .inl rfl | exact .inr rfl | exact .inr (.inl rfl) | decide | decide +kernel | (intro _; rfl)))) (@pa_nil _) (by first | rfl | exact .inl rfl | exact .inr rfl | exact .inr (.inl rfl) | decide | decide +kernel | (intro _; rfl))) (by first | rfl | exact .inl rfl | exact .inr rfl | exact .inr (.inl rfl) | decide | decide +kernel | (intro _; rfl))) (@pg_name _ _ (2) _ sc_law_changed.nd rfl (Or.inl rfl) (by first | rfl | exact .inl rfl | exact .inr rfl | exact .inr (.inl rfl) | decide | decide +kernel | (intro _; rfl))) (@pss_cons _ _ _ _ _ (@ps_set _ _ (3) _ _ _ _ sc_law_changed.nd rfl (Or.inl rfl) (@pe_call _ _ _ _ _ _ _ _ _ _ _ _ _ _ _ _ G_law_take (hr.mono (by first | decide | omega)) (by rfl) T.m_law_take T.F_law_take.kp T.b_law_take .nil pass0 (@pa_cons _ _ _ _ _ (pv 1) (@pa_cons _ _ _ _ _ (@pe_op _ _ _ _ _ _ _ _ (@op_add _) (@pe_callB _ _ _ _ _ _ _ _ _ (@call_len_str _) (by rfl) T.z_len PySem.boot_len (@pa_cons _ _ _ _ _ (pv 0) (@pa_nil _) (by first | rfl | exact .inl rfl | exact .inr rfl | exact .inr (.inl rfl) | decide | decide +kernel | (intro _; rfl))) (by first | rfl | exact .inl rfl | exact .inr rfl | exact .inr (.inl rfl) | decide | decide +kernel | (intro _; rfl)) (by first | rfl | exact .inl rfl | exact .inr rfl | exact .inr (.inl rfl) | decide | decide +kernel | (intro _; rfl)) (by first | rfl | exact .inl rfl | exact .inr rfl | exact .inr (.inl rfl) | decide | decide +kernel | (intro _; rfl)) (by first | rfl | exact .inl rfl | exact .inr rfl | exact .inr (.inl rfl) | decide | decide +kernel | (intro _; rfl))) (@pe_int _ _ _ _)) (@pa_nil _) (by first | rfl | exact .inl rfl | exact .inr rfl | exact .inr (.inl rfl) | decide | decide +kernel | (intro _; rfl))) (by first | rfl | exact .inl rfl | exact .inr rfl | exact .inr (.inl rfl) | decide | decide +kernel | (intro _; rfl))) (by first | rfl | exact .inl rfl | exact .inr rfl | exact .inr (.inl rfl) | decide | decide +kernel | (intro _; rfl)) (by first | rfl | exact .inl rfl | exact .inr rfl | exact .inr (.inl rfl) | decide | decide +kernel | (intro _; rfl)) (by first | rfl | exact .inl rfl | exact .inr rfl | exact .inr (.inl rfl) | decide | decide +kernel | (intro _; rfl))) (by first | rfl | exact .inl rfl | exact .inr rfl | exact .inr (.inl rfl) | decide | decide +kernel | (intro _; rfl)) (by first | rfl | exact .inl rfl | exact .inr rfl | exact .inr (.inl rfl) | decide | decide +kernel | (intro _; rfl))) (@pss_cons _ _ _ _ _ (@ps_set _ _ (4) _ _ _ _ sc_law_changed.nd rfl (Or.inl rfl) (@pe_call _ _ _ _ _ _ _ _ _ _ _ _ _ _ _ _ G_law_take (hr.mono (by first | decide | omega)) (by rfl) T.m_law_take T.F_law_take.kp T.b_law_take .nil pass0 (@pa_cons _ _ _ _ _ (pv 1) (@pa_cons _ _ _ _ _ (@pe_int _ _ _ _) (@pa_nil _) (by first | rfl | exact .inl rfl | exact .inr rfl | exact .inr (.inl rfl) | decide | decide +kernel | (intro _; rfl))) (by first | rfl | exact .inl rfl | exact .inr rfl | exact .inr (.inl rfl) | decide | decide +kernel | (intro _; rfl))) (by first | rfl | exact .inl rfl | exact .inr rfl | exact .inr (.inl rfl) | decide | decide +kernel | (intro _; rfl)) (by first | rfl | exact .inl rfl | exact .inr rfl | exact .inr (.inl rfl) | decide | decide +kernel | (intro _; rfl)) (by first | rfl | exact .inl rfl | exact .inr rfl | exact .inr (.inl rfl) | decide | decide +kernel | (intro _; rfl))) (by first | rfl | exact .inl rfl | exact .inr rfl | exact .inr (.inl rfl) | decide | decide +kernel | (intro _; rfl)) (by first | rfl | exact .inl rfl | exact .inr rfl | exact .inr (.inl rfl) | decide | decide +kernel | (intro _; rfl))) (@pss_cons _ _ _ _ _ (@ps_set _ _ (5) _ _ _ _ sc_law_changed.nd rfl (Or.inl rfl) (@pe_ix _ _ _ _ _ _ _ (@ix_str _) (@pe_str _ _ _ _) (@pe_call _ _ _ _ _ _ _ _ _ _ _ _ _ _ _ _ G_law_take (hr.mono (by first | decide | omega)) (by rfl) T.m_law_take T.F_law_take.kp T.b_law_take .nil pass0 (@pa_cons _ _ _ _ _ (pv 1) (@pa_cons _ _ _ _ _ (@pe_int _ _ _ _) (@pa_nil _) (by first | rfl | exact .inl rfl | exact .inr rfl | exact .inr (.inl rfl) | decide | decide +kernel | (intro _; rfl))) (by first | rfl | exact .inl rfl | exact .inr rfl | exact .inr (.inl rfl) | decide | decide +kernel | (intro _; rfl))) (by first | rfl | exact .inl rfl | exact .inr rfl | exact .inr (.inl rfl) | decide | decide +kernel | (intro _; rfl)) (by first | rfl | exact .inl rfl | exact .inr rfl | exact .inr (.inl rfl) | decide | decide +kernel | (intro _; rfl)) (by first | rfl | exact .inl rfl | exact .inr rfl | exact .inr (.inl rfl) | decide | decide +kernel | (intro _; rfl))) (fun _ _ => rfl)) (by first | rfl | exact .inl rfl | exact .inr rfl | exact .inr (.inl rfl) | decide | decide +kernel | (intro _; rfl)) (by first | rfl | exact .inl rfl | exact .inr rfl | exact .inr (.inl rfl) | decide | decide +kernel | (intro _; rfl))) (@pss_one _ _ _ (@ps_if _ _ _ _ _ _ _ _ (@pt_cmpR _ _ _ _ _ _ _ _ (@op_eq _) (pv 4) (@pe_int _ _ _ _) (nomark _)) (@pss_one _ _ _ (@ps_set _ _ (0) _ _ _ _ sc_law_changed.nd rfl (Or.inl rfl) (@pe_op _ _ _ _ _ _ _ _ (@op_add_str _) (@pe_slice _ _ _ _ _ _ _ _ _ _ (@sl_str _) (pv 0) (@po_none _) (@po_some _ _ _ (pv 3))) (@pe_slice _ _ _ _ _ _ _ _ _ _ (@sl_str _) (pv 0) (@po_some _ _ _ (@pe_op _ _ _ _ _ _ _ _ (@op_add _) (pv 3) (@pe_int _ _ _ _))) (@po_none _))) (by first | rfl | exact .inl rfl | exact .inr rfl | exact .inr (.inl rfl) | decide | decide +kernel | (intro _; rfl)) (by first | rfl | exact .inl rfl | exact .inr rfl | exact .inr (.inl rfl) | decide | decide +kernel | (intro _; rfl)))) (@pss_one _ _ _ (@ps_if _ _ _ _ _ _ _ _ (@pt_cmpR _ _ _ _ _ _ _ _ (@op_eq _) (pv 4) (@pe_int _ _ _ _) (nomark _)) (@pss_one _ _ _ (@ps_set _ _ (0) _ _ _ _ sc_law_changed.nd rfl (Or.inl rfl) (@pe_op _ _ _ _ _ _ _ _ (@op_add_str _) (@pe_op _ _ _ _ _ _ _ _ (@op_add_str _) (@pe_slice _ _ _ _ _ _ _ _ _ _ (@sl_str _) (pv 0) (@po_none _) (@po_some _ _ _ (pv 3))) (pv 5)) (@pe_slice _ _ _ _ _ _ _ _ _ _ (@sl_str _) (pv 0) (@po_some _ _ _ (pv 3)) (@po_none _))) (by first | rfl | exact .inl rfl | exact .inr rfl | exact .inr (.inl rfl) | decide | decide +kernel | (intro _; rfl)) (by first | rfl | exact .inl rfl | exact .inr rfl | exact .inr (.inl rfl) | decide | decide +kernel | (intro _; rfl)))) (@pss_one _ _ _ (@ps_if _ _ _ _ _ _ _ _ (@pt_cmpR _ _ _ _ _ _ _ _ (@op_eq _) (pv 4) (@pe_int _ _ _ _) (nomark _)) (@pss_one _ _ _ (@ps_set _ _ (0) _ _ _ _ sc_law_changed.nd rfl (Or.inl rfl) (@pe_op _ _ _ _ _ _ _ _ (@op_add_str _) (@pe_op _ _ _ _ _ _ _ _ (@op_add_str _) (@pe_slice _ _ _ _ _ _ _ _ _ _ (@sl_str _) (pv 0) (@po_none _) (@po_some _ _ _ (pv 3))) (pv 5)) (@pe_slice _ _ _ _ _ _ _ _ _ _ (@sl_str _) (pv 0) (@po_some _ _ _ (@pe_op _ _ _ _ _ _ _ _ (@op_add _) (pv 3) (@pe_int _ _ _ _))) (@po_none _))) (by first | rfl | exact .inl rfl | exact .inr rfl | exact .inr (.inl rfl) | decide | decide +kernel | (intro _; rfl)) (by first | rfl | exact .inl rfl | exact .inr rfl | exact .inr (.inl rfl) | decide | decide +kernel | (intro _; rfl)))) (@pss_one _ _ _ (@ps_if _ _ _ _ _ _ _ _ (@pt_cmpR _ _ _ _ _ _ _ _ (@op_eq _) (pv 4) (@pe_int _ _ _ _) (nomark _)) (@pss_one _ _ _ (@ps_set _ _ (0) _ _ _ _ sc_law_changed.nd rfl (Or.inl rfl) (@pe_op _ _ _ _ _ _ _ _ (@op_add_str _) (@pe_slice _ _ _ _ _ _ _ _ _ _ (@sl_str _) (pv 0) (@po_none _) (@po_some _ _ _ (pv 3))) (@pe_slice _ _ _ _ _ _ _ _ _ _ (@sl_str _) (pv 0) (@po_some _ _ _ (@pe_callB _ _ _ _ _ _ _ _ _ (@call_max2 _ rfl) (by rfl) T.z_max boot_max (@pa_cons _ _ _ _ _ (@pe_int _ _ _ _) (@pa_cons _ _ _ _ _ (@pe_op _ _ _ _ _ _ _ _ (@op_sub _) (pv 3) (@pe_int _ _ _ _)) (@pa_nil _) (by first | rfl | exact .inl rfl | exact .inr rfl | exact .inr (.inl rfl) | decide | decide +kernel | (intro _; rfl))) (by first | rfl | exact .inl rfl | exact .inr rfl | exact .inr (.inl rfl) | decide | decide +kernel | (intro _; rfl))) (by first | rfl | exact .inl rfl | exact .inr rfl | exact .inr (.inl rfl) | decide | decide +kernel | (intro _; rfl)) (by first | rfl | exact .inl rfl | exact .inr rfl | exact .inr (.inl rfl) | decide | decide +kernel | (intro _; rfl)) (by first | rfl | exact .inl rfl | exact .inr rfl | exact .inr (.inl rfl) | decide | decide +kernel | (intro _; rfl)) (by first | rfl | exact .inl rfl | exact .inr rfl | exact .inr (.inl rfl) | decide | decide +kernel | (intro _; rfl)))) (@po_none _))) (by first | rfl | exact .inl rfl | exact .inr rfl | exact .inr (.inl rfl) | decide | decide +kernel | (intro _; rfl)) (by first | rfl | exact .inl rfl | exact .inr rfl | exact .inr (.inl rfl) | decide | decide +kernel | (intro _; rfl)))) (@pss_one _ _ _ (@ps_if _ _ _ _ _ _ _ _ (@pt_cmpR _ _ _ _ _ _ _ _ (@op_eq _) (pv 4) (@pe_int _ _ _ _) (nomark _)) (@pss_one _ _ _ (@ps_set _ _ (0) _ _ _ _ sc_law_changed.nd rfl (Or.inl rfl) (@pe_slice _ _ _ _ _ _ _ _ _ _ (@sl_str _) (pv 0) (@po_some _ _ _ (pv 3)) (@po_none _)) (by first | rfl | exact .inl rfl | exact .inr rfl | exact .inr (.inl rfl) | decide | decide +kernel | (intro _; rfl)) (by first | rfl | exact .inl rfl | exact .inr rfl | exact .inr (.inl rfl) | decide | decide +kernel | (intro _; rfl)))) (@pss_one _ _ _ (@ps_set _ _ (0) _ _ _ _ sc_law_changed.nd rfl (Or.inl rfl) (@pe_op _ _ _ _ _ _ _ _ (@op_add_str _) (pv 0) (@pe_op _ _ _ _ _ _ _ _ (@op_repS _) (@pe_str _ _ _ _) (@pe_op _ _ _ _ _ _ _ _ (@op_mod _) (pv 3) (@pe_int _ _ _ _)))) (by first | rfl | exact .inl rfl | exact .inr rfl | exact .inr (.inl rfl) | decide | decide +kernel | (intro _; rfl)) (by first | rfl | exact .inl rfl | exact .inr rfl | exact .inr (.inl rfl) | decide | decide +kernel | (intro _; rfl))))))))))))))))) (by first | rfl | exact .inl rfl | exact .inr rfl | exact .inr (.inl rfl) | decide | decide +kernel | (intro _; rfl))) (@pss_one _ _ _ (@ps_ret _ _ _ _ (pv 0)))), ?_⟩
  have hs := sizeLine_eq
  refine ⟨_, rfl, p, 3, rfl, P0, by decide, by decide, fun d0 H0 a0 b0 P0' K0 => ⟨_, _, rfl, rfl, _, rfl, by omega, by omega, ?_⟩⟩
  refine for_range (n := (1 + d0).toNat) (fun i σ H' => ∃ (Y : Str) (x2 x3 x4 x5 : Option V), σ = [some (.str Y), some (.ref p), x2, x3, x4, x5] ∧ Y.length ≤ Z.length + 3 * i ∧ br Y ≤ br Z + 3 * i ∧ PotAt H' p ∧ Kept p H H') ⟨Z, _, _, _, _, rfl, by omega, by omega, P0', K0⟩ ?_ ?_
  · rintro i σ H' hi ⟨Y, x2, x3, x4, x5, rfl, hY, hbY, P', K'⟩
    have hy : Y.length ≤ sizeLine := by omega
    refine ⟨_, rfl, _, rfl, Y, rfl, hy, _, _, rfl, rfl, p, _, rfl, P', by omega, by omega, fun at_ H1 a1 b1 P1 K1 => ?_⟩
    obtain ⟨m, rfl⟩ : ∃ m : Nat, at_ = (m : Int) := ⟨at_.toNat, by omega⟩
    have hm : m ≤ Y.length := by omega
    refine ⟨_, rfl, p, 6, rfl, P1, by decide, by decide, fun way H2 a2 b2 P2 K2 => ?_⟩
    refine ⟨_, rfl, p, 6, rfl, P2, by decide, by decide, fun j H3 a3 b3 P3 K3 => ?_⟩
    obtain ⟨c, hc⟩ := atI_some (xs := ("()\"\\ a" : Str).cps.toList) (i := j) a3 (by show j < ((6 : Nat) : Int); exact b3)
    refine ⟨_, _, c, rfl, rfl, (by show 6 ≤ sizeLine; omega), hc, ?_⟩
    have K03' : Kept p H H3 := ((K'.trans K1).trans K2).trans K3
    have t1 := br_to Y hm
    have f0 := br_from Y m
    have f1 := br_from Y (m + 1)
    have c1 : (Y.cps.toList.drop (m + 1)).count 40 ≤ (Y.cps.toList.drop m).count 40 := count_drop (Nat.le_succ m)
    have bc := br_len ⟨#[c]⟩
    have lc : (⟨#[c]⟩ : Str).length = 1 := rfl
    refine ⟨_, rfl, rfl, _, rfl, ?_⟩
    refine ite2 (fun _ => ?_) (fun _ => ?_)
    · refine ⟨_, rfl, _, rfl, _, rfl, Y, rfl, hy, ?_⟩
      refine ⟨_, rfl, _, rfl, _, _, rfl, rfl, _, rfl, ?_⟩
      dsimp only [tNoPart]
      refine ⟨Y, rfl, hy, _, _, rfl, rfl, ?_, _, _, _, _, _, rfl, ?_, ?_, P3, K03'⟩
      · show (Txt.slice Y none (some (m : Int))).length + (Txt.slice Y (some ((m + 1 : Nat) : Int)) none).length ≤ sizeLine
        omega
      · show (Txt.slice Y none (some (m : Int)) ++ Txt.slice Y (some ((m + 1 : Nat) : Int)) none : Str).length ≤ _
        rw [app_len]; omega
      · show br (Txt.slice Y none (some (m : Int)) ++ Txt.slice Y (some ((m + 1 : Nat) : Int)) none) ≤ _
        rw [br_app]; omega
    refine ⟨_, rfl, rfl, _, rfl, ?_⟩
    refine ite2 (fun _ => ?_) (fun _ => ?_)
    · refine ⟨_, rfl, _, rfl, _, rfl, Y, rfl, hy, _, rfl, _, _, rfl, rfl, by omega, ?_⟩
      refine ⟨_, rfl, _, rfl, _, rfl, ?_⟩
      dsimp only [tNoPart]
      refine ⟨Y, rfl, hy, _, _, rfl, rfl, by rw [app_len]; omega, _, _, _, _, _, rfl, ?_, ?_, P3, K03'⟩
      · rw [app_len, app_len]; omega
      · rw [br_app, br_app]; omega
    refine ⟨_, rfl, rfl, _, rfl, ?_⟩
    refine ite2 (fun _ => ?_) (fun _ => ?_)
    · refine ⟨_, rfl, _, rfl, _, rfl, Y, rfl, hy, _, rfl, _, _, rfl, rfl, by omega, ?_⟩
      refine ⟨_, rfl, _, rfl, _, _, rfl, rfl, _, rfl, ?_⟩
      dsimp only [tNoPart]
      refine ⟨Y, rfl, hy, _, _, rfl, rfl, ?_, _, _, _, _, _, rfl, ?_, ?_, P3, K03'⟩
      · show (Txt.slice Y none (some (m : Int)) ++ ⟨#[c]⟩ : Str).length + (Txt.slice Y (some ((m + 1 : Nat) : Int)) none).length ≤ sizeLine
        rw [app_len]; omega
      · show (Txt.slice Y none (some (m : Int)) ++ ⟨#[c]⟩ ++ Txt.slice Y (some ((m + 1 : Nat) : Int)) none : Str).length ≤ _
        rw [app_len, app_len]; omega
      · show br (Txt.slice Y none (some (m : Int)) ++ ⟨#[c]⟩ ++ Txt.slice Y (some ((m + 1 : Nat) : Int)) none) ≤ _
        rw [br_app, br_app]; omega
    refine ⟨_, rfl, rfl, _, rfl, ?_⟩
    refine ite2 (fun _ => ?_) (fun _ => ?_)
    · have e3 : (if (m : Int) - 3 > 0 then (m : Int) - 3 else 0) = ((m - 3 : Nat) : Int) := by split <;> omega
      have f3 := br_from Y (m - 3)
      have c3 := count_back Y.cps.toList (m - 3) (m - (m - 3))
      rw [show m - 3 + (m - (m - 3)) = m by omega] at c3
      refine ⟨_, rfl, _, rfl, _, rfl, Y, rfl, hy, ?_⟩
      refine ⟨_, rfl, _, rfl, _, _, rfl, rfl, _, _, rfl, _, rfl, ?_⟩
      dsimp only [tNoPart]
      rw [e3]
      refine ⟨Y, rfl, hy, _, _, rfl, rfl, by omega, _, _, _, _, _, rfl, ?_, ?_, P3, K03'⟩
      · rw [app_len]; omega
      · rw [br_app]; omega
    refine ⟨_, rfl, rfl, _, rfl, ?_⟩
    refine ite2 (fun _ => ?_) (fun _ => ?_)
    · refine ⟨_, rfl, _, rfl, _, rfl, ?_⟩
      dsimp only [tNoPart]
      refine ⟨Y, rfl, hy, _, _, _, _, _, rfl, ?_, ?_, P3, K03'⟩
      · omega
      · omega
    · have hmd : 0 ≤ (m : Int) % 2 ∧ (m : Int) % 2 < 2 := ⟨Int.emod_nonneg _ (by decide), Int.emod_lt_of_pos _ (by decide)⟩
      have hmk : MulOk " " ((m : Int) % 2) := mulOk_of (by omega) (by omega) (by decide)
      have hml : (Txt.mul " " ((m : Int) % 2)).length ≤ 1 := by
        rcases (by omega : (m : Int) % 2 = 0 ∨ (m : Int) % 2 = 1) with h | h <;> rw [h]
        · exact Nat.zero_le _
        · exact Nat.le_refl _
      have hmb := mul_blank ((m : Int) % 2)
      refine ⟨_, rfl, _, rfl, _, _, rfl, rfl, (by show (0 : Int) < 2; decide), _, _, rfl, rfl, hmk, _, _, rfl, rfl, by omega, _, _, _, _, _, rfl, ?_, ?_, P3, K03'⟩
      · rw [app_len]; omega
      · rw [br_app]; omega
  · rintro σ H' ⟨Y, x2, x3, x4, x5, rfl, hY, hbY, P', K'⟩
    exact ⟨_, rfl, k Y H' (by omega) (by omega) P' K'⟩
end
end K03

set_option Elab.async false
set_option linter.all false
set_option maxRecDepth 100000
set_option maxHeartbeats 4000000
namespace K03
open PySem L2 PyProof.Rows
def sp_law (K : PySem.W.Frag) : Sp := fun vs H Q _ => ∃ (a : Addr) (ns : List Int), vs = [.ref a] ∧ SqL K H a (ns.map V.int) ∧ ns.length ≤ 63 ∧ ∀ H', Q (.bl true) H'
theorem cut_ints (ns : List Int) (lo hi : Option Int) : ∃ ms : List Int, cutV (ns.map V.int) lo hi = ms.map V.int ∧ ms.length ≤ ns.length := by
  unfold cutV
  refine ⟨(ns.drop (HT.sIx (ns.map V.int).length 0 lo)).take (HT.sIx (ns.map V.int).length (ns.map V.int).length hi - HT.sIx (ns.map V.int).length 0 lo), ?_, ?_⟩
  · rw [List.map_take, List.map_drop]
  · rw [List.length_take, List.length_drop]
    omega
theorem WT.uniq {Z : Str} {d e : D} (h : WT Z d) (h' : WT Z e) : d = e := ((h.tr (Nat.le_refl 12)).uniq (h'.tr (Nat.le_refl 12))).1
theorem joined_rep (c : Nat) : ∀ (k : Nat) (acc : Array Nat), ((List.replicate k #[c]).foldl (· ++ ·) acc).toList = acc.toList ++ List.replicate k c
  | 0, acc => by simp
  | k + 1, acc => by
    rw [List.replicate_succ, List.foldl_cons, joined_rep c k, Array.toList_append, List.replicate_succ, List.append_assoc]
    rfl
theorem mul_one (c : Nat) (n : Int) : (Txt.mul ⟨#[c]⟩ n).cps.toList = List.replicate n.toNat c := by
  unfold Txt.mul
  split
  · rename_i h
    rw [show n.toNat = 0 by omega]
    rfl
  · split
    · rename_i h1 h
      have h2 : n = 1 ∨ (⟨#[c]⟩ : Str).length = 0 := by simpa using h
      have h3 : n = 1 := h2.elim id fun z => by cases z
      rw [h3]
      rfl
    · have := joined_rep c n.toNat #[]
      simpa using this
theorem rep_add (c : Nat) (j : Nat) : ∀ i : Nat, List.replicate (i + j) c = List.replicate i c ++ List.replicate j c
  | 0 => by simp
  | i + 1 => by rw [Nat.succ_add, List.replicate_succ, rep_add c j i, List.replicate_succ, List.cons_append]
theorem no_deep : ∀ (k : Nat) (t : List Nat) (d : D) (r : List Nat), ¬ TR k (List.replicate (k + 1) 40 ++ t) d r
  | 0, t, d, r, h => TR.zero h
  | k + 1, t, d, r, h => by
    have h' : TR (k + 1) (40 :: (List.replicate (k + 1) 40 ++ t)) d r := h
    obtain ⟨ys, _, hR⟩ := h'.inv40
    rcases RR.inv hR with ⟨_, e⟩ | ⟨d', y, r', _, h1, _⟩
    · have e' : (40 :: (List.replicate k 40 ++ t) : List Nat) = 41 :: r := e
      cases e'
    · exact no_deep k t d' r' h1
theorem WT.deep {Z : Str} {m : Nat} {t : List Nat} (hm : 13 ≤ m) (e : Z.cps.toList = List.replicate m 40 ++ t) (d : D) : ¬ WT Z d := fun h => by
  have h1 := h.tr (Nat.le_refl 12)
  obtain ⟨j, rfl⟩ : ∃ j, m = 13 + j := ⟨m - 13, by omega⟩
  rw [List.drop_zero, e, rep_add, List.append_assoc] at h1
  exact no_deep 12 _ d [] h1
theorem WT.empty (d : D) : ¬ WT "" d := fun h => by
  have := (h.tr (Nat.le_refl 12)).len
  have : (0 : Nat) + 2 ≤ 0 := this
  omega
def nst : Nat → D
  | 0 => .tup []
  | n + 1 => .tup [nst n]
theorem wt_nst : WT (Txt.mul "(" 12 ++ Txt.mul ")" 12) (nst 11) := ⟨by decide +kernel, by decide +kernel, by decide +kernel⟩
theorem wt_nil : WT "()" (.tup []) := ⟨by decide +kernel, by decide +kernel, by decide +kernel⟩
theorem kit_lst {K : PySem.W.Frag} {d : D} (h : sh d = true) : PySem.W.kitOne K (tyD d) (.type "list") = some false := by
  cases d with
  | str z => exact kit_no (b := false) (by decide) (by decide +kernel) (by decide +kernel)
  | tup z => exact kit_no (b := false) (by decide) (by decide +kernel) (by decide +kernel)
  | _ => simp [sh] at h
end K03

set_option Elab.async false
set_option linter.all false
set_option maxRecDepth 100000
set_option maxHeartbeats 4000000
namespace K03
open PySem L2 PyProof.Rows
section
variable {P : Program} {w : World} {K : PySem.W.Frag} {mg : Str → Option Value} {base : Heap} {a : Ad} {g : Ga}
theorem ok_law (T : Tx K mg a) (C : Fx K mg g) : FnOk P w K mg base CX0 205 a.f_law a.d_law ["script"] (sp_law K) := by
  have G_law_pot : FnOk P w K mg base CX0 1 a.f_law_pot a.d_law_pot ["cell", "salt"] sp_pot := ok_pot T
  have G_law_good_tree : FnOk P w K mg base CX0 204 a.f_law_good_tree a.d_law_good_tree ["pot"] sp_good := ok_good T
  have G_tree_text : FnOk P w K mg base CX0 14 a.f_tree_text a.d_tree_text ["tree"] (sp_ttext 13) := ok_ttext T 13
  have G_law_written : FnOk P w K mg base CX0 14 a.f_law_written a.d_law_written ["tree"] (sp_ttext 13) := ok_written T 13
  have G_law_read : FnOk P w K mg base CX0 30 a.f_law_read a.d_law_read ["text"] sp_lread := ok_lread T C
  have G_law_changed : FnOk P w K mg base CX0 2 a.f_law_changed a.d_law_changed ["text", "pot"] sp_changed := ok_changed T
  have G_law_due : FnOk P w K mg base CX0 204 a.f_law_due a.d_law_due ["text"] sp_due := ok_due T
  have G_read_tree : FnOk P w K mg base (CX1 P w) 29 a.f_read_tree a.d_read_tree ["text"] (sp_read g.bad) := ok_read T C
  refine T.F_law.ok sc_law (fun vs H Q E h => ?_) (fun cdv A outer s H vs Q E hr h => ?_)
  · obtain ⟨p, ns, rfl, _⟩ := h
    rfl
  obtain ⟨sc, ns, rfl, hS, hlen, k⟩ := h
  refine ⟨_, (@pss_cons _ _ _ _ _ (@ps_for _ _ _ _ _ _ _ _ PassesOwn.never rfl (@pi_list _ _ _ _ (@pe_op _ _ _ _ _ _ _ _ (@op_cat _) (@pe_lst _ _ _ _ (@pa_cons _ _ _ _ _ (@pe_callB _ _ _ _ _ _ _ _ _ (@call_len_seq _) (by rfl) T.z_len PySem.boot_len (@pa_cons _ _ _ _ _ (pv 0) (@pa_nil _) (by first | rfl | exact .inl rfl | exact .inr rfl | exact .inr (.inl rfl) | decide | decide +kernel | (intro _; rfl))) (by first | rfl | exact .inl rfl | exact .inr rfl | exact .inr (.inl rfl) | decide | decide +kernel | (intro _; rfl)) (by first | rfl | exact .inl rfl | exact .inr rfl | exact .inr (.inl rfl) | decide | decide +kernel | (intro _; rfl)) (by first | rfl | exact .inl rfl | exact .inr rfl | exact .inr (.inl rfl) | decide | decide +kernel | (intro _; rfl)) (by first | rfl | exact .inl rfl | exact .inr rfl | exact .inr (.inl rfl) | decide | decide +kernel | (intro _; rfl))) (@pa_nil _) (by first | rfl | exact .inl rfl | exact .inr rfl | exact .inr (.inl rfl) | decide | decide +kernel | (intro _; rfl)))) (@pe_callTy _ _ _ _ _ _ _ _ _ (@call_list_of _) (by rfl) T.z_list boot_list (@pa_cons _ _ _ _ _ (@pe_slice _ _ _ _ _ _ _ _ _ _ (@sl_list _) (pv 0) (@po_none _) (@po_some _ _ _ (@pe_int _ _ _ _))) (@pa_nil _) (by first | rfl | exact .inl rfl | exact .inr rfl | exact .inr (.inl rfl) | decide | decide +kernel | (intro _; rfl))) (by first | rfl | exact .inl rfl | exact .inr rfl | exact .inr (.inl rfl) | decide | decide +kernel | (intro _; rfl)) (by first | rfl | exact .inl rfl | exact .inr rfl | exact .inr (.inl rfl) | decide | decide +kernel | (intro _; rfl)) (by first | rfl | exact .inl rfl | exact .inr rfl | exact .inr (.inl rfl) | decide | decide +kernel | (intro _; rfl)) (by first | rfl | exact .inl rfl | exact .inr rfl | exact .inr (.inl rfl) | decide | decide +kernel | (intro _; rfl))))) (@pg_name _ _ (1) _ sc_law.nd rfl (Or.inl rfl) (by first | rfl | exact .inl rfl | exact .inr rfl | exact .inr (.inl rfl) | decide | decide +kernel | (intro _; rfl))) (@pss_cons _ _ _ _ _ (@ps_set _ _ (2) _ _ _ _ sc_law.nd rfl (Or.inl rfl) (@pe_call _ _ _ _ _ _ _ _ _ _ _ _ _ _ _ _ G_law_pot (hr.mono (by first | decide | omega)) (by rfl) T.m_law_pot T.F_law_pot.kp T.b_law_pot .nil pass0 (@pa_cons _ _ _ _ _ (pv 1) (@pa_cons _ _ _ _ _ (@pe_int _ _ _ _) (@pa_nil _) (by first | rfl | exact .inl rfl | exact .inr rfl | exact .inr (.inl rfl) | decide | decide +kernel | (intro _; rfl))) (by first | rfl | exact .inl rfl | exact .inr rfl | exact .inr (.inl rfl) | decide | decide +kernel | (intro _; rfl))) (by first | rfl | exact .inl rfl | exact .inr rfl | exact .inr (.inl rfl) | decide | decide +kernel | (intro _; rfl)) (by first | rfl | exact .inl rfl | exact .inr rfl | exact .inr (.inl rfl) | decide | decide +kernel | (intro _; rfl)) (by first | rfl | exact .inl rfl | exact .inr rfl | exact .inr (.inl rfl) | decide | decide +kernel | (intro _; rfl))) (by first | rfl | exact .inl rfl | exact .inr rfl | exact .inr (.inl rfl) | decide | decide +kernel | (intro _; rfl)) (by first | rfl | exact .inl rfl | exact .inr rfl | exact .inr (.inl rfl) | decide | decide +kernel | (intro _; rfl))) (@pss_cons _ _ _ _ _ (@ps_set _ _ (3) _ _ _ _ sc_law.nd rfl (Or.inl rfl) (@pe_call _ _ _ _ _ _ _ _ _ _ _ _ _ _ _ _ G_law_good_tree (hr.mono (by first | decide | omega)) (by rfl) T.m_law_good_tree T.F_law_good_tree.kp T.b_law_good_tree .nil pass0 (@pa_cons _ _ _ _ _ (pv 2) (@pa_nil _) (by first | rfl | exact .inl rfl | exact .inr rfl | exact .inr (.inl rfl) | decide | decide +kernel | (intro _; rfl))) (by first | rfl | exact .inl rfl | exact .inr rfl | exact .inr (.inl rfl) | decide | decide +kernel | (intro _; rfl)) (by first | rfl | exact .inl rfl | exact .inr rfl | exact .inr (.inl rfl) | decide | decide +kernel | (intro _; rfl)) (by first | rfl | exact .inl rfl | exact .inr rfl | exact .inr (.inl rfl) | decide | decide +kernel | (intro _; rfl))) (by first | rfl | exact .inl rfl | exact .inr rfl | exact .inr (.inl rfl) | decide | decide +kernel | (intro _; rfl)) (by first | rfl | exact .inl rfl | exact .inr rfl | exact .inr (.inl rfl) | decide | decide +kernel | (intro _; rfl))) (@pss_cons _ _ _ _ _ (@ps_set _ _ (4) _ _ _ _ sc_law.nd rfl (Or.inl rfl) (@pe_call _ _ _ _ _ _ _ _ _ _ _ _ _ _ _ _ G_tree_text (hr.mono (by first | decide | omega)) (by rfl) T.m_tree_text T.F_tree_text.kp T.b_tree_text .nil pass0 (@pa_cons _ _ _ _ _ (pv 3) (@pa_nil _) (by first | rfl | exact .inl rfl | exact .inr rfl | exact .inr (.inl rfl) | decide | decide +kernel | (intro _; rfl))) (by first | rfl | exact .inl rfl | exact .inr rfl | exact .inr (.inl rfl) | decide | decide +kernel | (intro _; rfl)) (by first | rfl | exact .inl rfl | exact .inr rfl | exact .inr (.inl rfl) | decide | decide +kernel | (intro _; rfl)) (by first | rfl | exact .inl rfl | exact .inr rfl | exact .inr (.inl rfl) | decide | decide +kernel | (intro _; rfl))) (by first | rfl | exact .inl rfl | exact .inr rfl | exact .inr (.inl rfl) | decide | decide +kernel | (intro _; rfl)) (by first | rfl | exact .inl rfl | exact .inr rfl | exact .inr (.inl rfl) | decide | decide +kernel | (intro _; rfl))) (@pss_cons _ _ _ _ _ (@ps_if _ _ _ _ _ _ _ _ (@pw_or _ _ _ _ _ _ _ (@pt_cmpR _ _ _ _ _ _ _ _ (@op_ne _) (pv 4) (@pe_call _ _ _ _ _ _ _ _ _ _ _ _ _ _ _ _ G_law_written (hr.mono (by first | decide | omega)) (by rfl) T.m_law_written T.F_law_written.kp T.b_law_written .nil pass0 (@pa_cons _ _ _ _ _ (pv 3) (@pa_nil _) (by first | rfl | exact .inl rfl | exact .inr rfl | exact .inr (.inl rfl) | decide | decide +kernel | (intro _; rfl))) (by first | rfl | exact .inl rfl | exact .inr rfl | exact .inr (.inl rfl) | decide | decide +kernel | (intro _; rfl)) (by first | rfl | exact .inl rfl | exact .inr rfl | exact .inr (.inl rfl) | decide | decide +kernel | (intro _; rfl)) (by first | rfl | exact .inl rfl | exact .inr rfl | exact .inr (.inl rfl) | decide | decide +kernel | (intro _; rfl))) (nomark _)) (@pw_or _ _ _ _ _ _ _ (@pt_cmpR _ _ _ _ _ _ _ _ (@op_neD _ hr.units) (@pe_call _ _ _ _ _ _ _ _ _ _ _ _ _ _ _ _ G_law_read (hr.mono (by first | decide | omega)) (by rfl) T.m_law_read T.F_law_read.kp T.b_law_read .nil pass0 (@pa_cons _ _ _ _ _ (pv 4) (@pa_nil _) (by first | rfl | exact .inl rfl | exact .inr rfl | exact .inr (.inl rfl) | decide | decide +kernel | (intro _; rfl))) (by first | rfl | exact .inl rfl | exact .inr rfl | exact .inr (.inl rfl) | decide | decide +kernel | (intro _; rfl)) (by first | rfl | exact .inl rfl | exact .inr rfl | exact .inr (.inl rfl) | decide | decide +kernel | (intro _; rfl)) (by first | rfl | exact .inl rfl | exact .inr rfl | exact .inr (.inl rfl) | decide | decide +kernel | (intro _; rfl))) (pv 3) (nomark _)) (@pw_or1 _ _ _ _ (@pt_val _ _ _ (@pe_callB _ _ _ _ _ _ _ _ _ (@call_isinst _ _ rfl) (by rfl) T.z_isinstance boot_isinstance (@pa_cons _ _ _ _ _ (@pe_call _ _ _ _ _ _ _ _ _ _ _ _ _ _ _ _ G_law_read (hr.mono (by first | decide | omega)) (by rfl) T.m_law_read T.F_law_read.kp T.b_law_read .nil pass0 (@pa_cons _ _ _ _ _ (pv 4) (@pa_nil _) (by first | rfl | exact .inl rfl | exact .inr rfl | exact .inr (.inl rfl) | decide | decide +kernel | (intro _; rfl))) (by first | rfl | exact .inl rfl | exact .inr rfl | exact .inr (.inl rfl) | decide | decide +kernel | (intro _; rfl)) (by first | rfl | exact .inl rfl | exact .inr rfl | exact .inr (.inl rfl) | decide | decide +kernel | (intro _; rfl)) (by first | rfl | exact .inl rfl | exact .inr rfl | exact .inr (.inl rfl) | decide | decide +kernel | (intro _; rfl))) (@pa_cons _ _ _ _ _ (@pe_bltn _ _ (.ty "list") _ _ (by rfl) T.z_list boot_list rfl (by first | rfl | exact .inl rfl | exact .inr rfl | exact .inr (.inl rfl) | decide | decide +kernel | (intro _; rfl)) (by first | rfl | exact .inl rfl | exact .inr rfl | exact .inr (.inl rfl) | decide | decide +kernel | (intro _; rfl))) (@pa_nil _) (by first | rfl | exact .inl rfl | exact .inr rfl | exact .inr (.inl rfl) | decide | decide +kernel | (intro _; rfl))) (by first | rfl | exact .inl rfl | exact .inr rfl | exact .inr (.inl rfl) | decide | decide +kernel | (intro _; rfl))) (by first | rfl | exact .inl rfl | exact .inr rfl | exact .inr (.inl rfl) | decide | decide +kernel | (intro _; rfl)) (by first | rfl | exact .inl rfl | exact .inr rfl | exact .inr (.inl rfl) | decide | decide +kernel | (intro _; rfl)) (by first | rfl | exact .inl rfl | exact .inr rfl | exact .inr (.inl rfl) | decide | decide +kernel | (intro _; rfl)) (by first | rfl | exact .inl rfl | exact .inr rfl | exact .inr (.inl rfl) | decide | decide +kernel | (intro _; rfl))) (by first | rfl | exact .inl rfl | exact .inr rfl | exact .inr (.inl rfl) | decide | decide +kernel | (intro _; rfl)))))).pt (@pss_one _ _ _ (@ps_ret _ _ _ _ (@pe_bl _ _ _ _))) (@pss_nil _)) (@pss_one _ _ _ (@ps_for _ _ _ _ _ _ _ _ PassesOwn.never rfl (@pi_range1 _ _ _ _ _ _ (by rfl) T.z_range (@pa_cons _ _ _ _ _ (@pe_int _ _ _ _) (@pa_nil _) (by first | rfl | exact .inl rfl | exact .inr rfl | exact .inr (.inl rfl) | decide | decide +kernel | (intro _; rfl))) (by first | rfl | exact .inl rfl | exact .inr rfl | exact .inr (.inl rfl) | decide | decide +kernel | (intro _; rfl))) (@pg_name _ _ (5) _ sc_law.nd rfl (Or.inl rfl) (by first | rfl | exact .inl rfl | exact .inr rfl | exact .inr (.inl rfl) | decide | decide +kernel | (intro _; rfl))) (@pss_cons _ _ _ _ _ (@ps_set _ _ (6) _ _ _ _ sc_law.nd rfl (Or.inl rfl) (@pe_call _ _ _ _ _ _ _ _ _ _ _ _ _ _ _ _ G_law_changed (hr.mono (by first | decide | omega)) (by rfl) T.m_law_changed T.F_law_changed.kp T.b_law_changed .nil pass0 (@pa_cons _ _ _ _ _ (pv 4) (@pa_cons _ _ _ _ _ (pv 2) (@pa_nil _) (by first | rfl | exact .inl rfl | exact .inr rfl | exact .inr (.inl rfl) | decide | decide +kernel | (intro _; rfl))) (by first | rfl | exact .inl rfl | exact .inr rfl | exact .inr (.inl rfl) | decide | decide +kernel | (intro _; rfl))) (by first | rfl | exact .inl rfl | exact .inr rfl | exact .inr (.inl rfl) | decide | decide +kernel | (intro _; rfl)) (by first | rfl | exact .inl rfl | exact .inr rfl | exact .inr (.inl rfl) | decide | decide +kernel | (intro _; rfl)) (by first | rfl | exact .inl rfl | exact .inr rfl | exact .inr (.inl rfl) | decide | decide +kernel | (intro _; rfl))) (by first | rfl | exact .inl rfl | exact .inr rfl | exact .inr (.inl rfl) | decide | decide +kernel | (intro _; rfl)) (by first | rfl | exact .inl rfl | exact .inr rfl | exact .inr (.inl rfl) | decide | decide +kernel | (intro _; rfl))) (@pss_cons _ _ _ _ _ (@ps_set _ _ (7) _ _ _ _ sc_law.nd rfl (Or.inl rfl) (@pe_call _ _ _ _ _ _ _ _ _ _ _ _ _ _ _ _ G_law_due (hr.mono (by first | decide | omega)) (by rfl) T.m_law_due T.F_law_due.kp T.b_law_due .nil pass0 (@pa_cons _ _ _ _ _ (pv 6) (@pa_nil _) (by first | rfl | exact .inl rfl | exact .inr rfl | exact .inr (.inl rfl) | decide | decide +kernel | (intro _; rfl))) (by first | rfl | exact .inl rfl | exact .inr rfl | exact .inr (.inl rfl) | decide | decide +kernel | (intro _; rfl)) (by first | rfl | exact .inl rfl | exact .inr rfl | exact .inr (.inl rfl) | decide | decide +kernel | (intro _; rfl)) (by first | rfl | exact .inl rfl | exact .inr rfl | exact .inr (.inl rfl) | decide | decide +kernel | (intro _; rfl))) (by first | rfl | exact .inl rfl | exact .inr rfl | exact .inr (.inl rfl) | decide | decide +kernel | (intro _; rfl)) (by first | rfl | exact .inl rfl | exact .inr rfl | exact .inr (.inl rfl) | decide | decide +kernel | (intro _; rfl))) (@pss_cons _ _ _ _ _ (@ps_set _ _ (8) _ _ _ _ sc_law.nd rfl (Or.inl rfl) (@pe_call _ _ _ _ _ _ _ _ _ _ _ _ _ _ _ _ G_law_read (hr.mono (by first | decide | omega)) (by rfl) T.m_law_read T.F_law_read.kp T.b_law_read .nil pass0 (@pa_cons _ _ _ _ _ (pv 6) (@pa_nil _) (by first | rfl | exact .inl rfl | exact .inr rfl | exact .inr (.inl rfl) | decide | decide +kernel | (intro _; rfl))) (by first | rfl | exact .inl rfl | exact .inr rfl | exact .inr (.inl rfl) | decide | decide +kernel | (intro _; rfl)) (by first | rfl | exact .inl rfl | exact .inr rfl | exact .inr (.inl rfl) | decide | decide +kernel | (intro _; rfl)) (by first | rfl | exact .inl rfl | exact .inr rfl | exact .inr (.inl rfl) | decide | decide +kernel | (intro _; rfl))) (by first | rfl | exact .inl rfl | exact .inr rfl | exact .inr (.inl rfl) | decide | decide +kernel | (intro _; rfl)) (by first | rfl | exact .inl rfl | exact .inr rfl | exact .inr (.inl rfl) | decide | decide +kernel | (intro _; rfl))) (@pss_one _ _ _ (@ps_if _ _ _ _ _ _ _ _ (@pw_or _ _ _ _ _ _ _ (@pw_and _ _ _ _ _ _ _ (@pt_cmpR _ _ _ _ _ _ _ _ (@op_isN _) (pv 7) (@pe_non _ _ _) (nomark _)) (@pw_and1 _ _ _ _ (@pt_cmpR _ _ _ _ _ _ _ _ (@op_neE _ hr.units0) (pv 8) (@pe_lst _ _ _ _ (@pa_nil _)) (nomark _)))).pt (@pw_or1 _ _ _ _ (@pw_and _ _ _ _ _ _ _ (@pt_cmpR _ _ _ _ _ _ _ _ (@op_notN _) (pv 7) (@pe_non _ _ _) (nomark _)) (@pw_and1 _ _ _ _ (@pt_cmpR _ _ _ _ _ _ _ _ (@op_neD _ hr.units) (pv 8) (pv 7) (nomark _)))).pt)).pt (@pss_one _ _ _ (@ps_ret _ _ _ _ (@pe_bl _ _ _ _))) (@pss_nil _)))))) (by first | rfl | exact .inl rfl | exact .inr rfl | exact .inr (.inl rfl) | decide | decide +kernel | (intro _; rfl)))))))) (by first | rfl | exact .inl rfl | exact .inr rfl | exact .inr (.inl rfl) | decide | decide +kernel | (intro _; rfl))) (@pss_cons _ _ _ _ _ (@ps_set _ _ (9) _ _ _ _ sc_law.nd rfl (Or.inl rfl) (@pe_op _ _ _ _ _ _ _ _ (@op_add _) (@pe_int _ _ _ _) (@pe_op _ _ _ _ _ _ _ _ (@op_mod _) (@pe_callB _ _ _ _ _ _ _ _ _ (@call_sumL _ rfl) (by rfl) T.z_sum boot_sum (@pa_cons _ _ _ _ _ (pv 0) (@pa_nil _) (by first | rfl | exact .inl rfl | exact .inr rfl | exact .inr (.inl rfl) | decide | decide +kernel | (intro _; rfl))) (by first | rfl | exact .inl rfl | exact .inr rfl | exact .inr (.inl rfl) | decide | decide +kernel | (intro _; rfl)) (by first | rfl | exact .inl rfl | exact .inr rfl | exact .inr (.inl rfl) | decide | decide +kernel | (intro _; rfl)) (by first | rfl | exact .inl rfl | exact .inr rfl | exact .inr (.inl rfl) | decide | decide +kernel | (intro _; rfl)) (by first | rfl | exact .inl rfl | exact .inr rfl | exact .inr (.inl rfl) | decide | decide +kernel | (intro _; rfl))) (@pe_int _ _ _ _))) (by first | rfl | exact .inl rfl | exact .inr rfl | exact .inr (.inl rfl) | decide | decide +kernel | (intro _; rfl)) (by first | rfl | exact .inl rfl | exact .inr rfl | exact .inr (.inl rfl) | decide | decide +kernel | (intro _; rfl))) (@pss_cons _ _ _ _ _ (@ps_for _ _ _ _ _ _ _ _ PassesOwn.never rfl (@pi_list _ _ _ _ (@pe_lst _ _ _ _ (@pa_cons _ _ _ _ _ (@pe_str _ _ _ _) (@pa_cons _ _ _ _ _ (@pe_op _ _ _ _ _ _ _ _ (@op_add_str _) (@pe_op _ _ _ _ _ _ _ _ (@op_repS _) (@pe_str _ _ _ _) (@pe_int _ _ _ _)) (@pe_op _ _ _ _ _ _ _ _ (@op_repS _) (@pe_str _ _ _ _) (@pe_int _ _ _ _))) (@pa_cons _ _ _ _ _ (@pe_op _ _ _ _ _ _ _ _ (@op_repS _) (@pe_str _ _ _ _) (pv 9)) (@pa_cons _ _ _ _ _ (@pe_op _ _ _ _ _ _ _ _ (@op_add_str _) (@pe_op _ _ _ _ _ _ _ _ (@op_repS _) (@pe_str _ _ _ _) (pv 9)) (@pe_op _ _ _ _ _ _ _ _ (@op_repS _) (@pe_str _ _ _ _) (pv 9))) (@pa_cons _ _ _ _ _ (@pe_op _ _ _ _ _ _ _ _ (@op_add_str _) (@pe_op _ _ _ _ _ _ _ _ (@op_add_str _) (@pe_op _ _ _ _ _ _ _ _ (@op_repS _) (@pe_str _ _ _ _) (pv 9)) (@pe_str _ _ _ _)) (@pe_op _ _ _ _ _ _ _ _ (@op_repS _) (@pe_str _ _ _ _) (pv 9))) (@pa_nil _) (by first | rfl | exact .inl rfl | exact .inr rfl | exact .inr (.inl rfl) | decide | decide +kernel | (intro _; rfl))) (by first | rfl | exact .inl rfl | exact .inr rfl | exact .inr (.inl rfl) | decide | decide +kernel | (intro _; rfl))) (by first | rfl | exact .inl rfl | exact .inr rfl | exact .inr (.inl rfl) | decide | decide +kernel | (intro _; rfl))) (by first | rfl | exact .inl rfl | exact .inr rfl | exact .inr (.inl rfl) | decide | decide +kernel | (intro _; rfl))) (by first | rfl | exact .inl rfl | exact .inr rfl | exact .inr (.inl rfl) | decide | decide +kernel | (intro _; rfl))))) (@pg_name _ _ (4) _ sc_law.nd rfl (Or.inl rfl) (by first | rfl | exact .inl rfl | exact .inr rfl | exact .inr (.inl rfl) | decide | decide +kernel | (intro _; rfl))) (@pss_one _ _ _ (@ps_if _ _ _ _ _ _ _ _ (@pt_cmpR _ _ _ _ _ _ _ _ (@op_neE _ hr.units0) (@pe_call _ _ _ _ _ _ _ _ _ _ _ _ _ _ _ _ G_law_read (hr.mono (by first | decide | omega)) (by rfl) T.m_law_read T.F_law_read.kp T.b_law_read .nil pass0 (@pa_cons _ _ _ _ _ (pv 4) (@pa_nil _) (by first | rfl | exact .inl rfl | exact .inr rfl | exact .inr (.inl rfl) | decide | decide +kernel | (intro _; rfl))) (by first | rfl | exact .inl rfl | exact .inr rfl | exact .inr (.inl rfl) | decide | decide +kernel | (intro _; rfl)) (by first | rfl | exact .inl rfl | exact .inr rfl | exact .inr (.inl rfl) | decide | decide +kernel | (intro _; rfl)) (by first | rfl | exact .inl rfl | exact .inr rfl | exact .inr (.inl rfl) | decide | decide +kernel | (intro _; rfl))) (@pe_lst _ _ _ _ (@pa_nil _)) (nomark _)) (@pss_one _ _ _ (@ps_ret _ _ _ _ (@pe_bl _ _ _ _))) (@pss_nil _))) (by first | rfl | exact .inl rfl | exact .inr rfl | exact .inr (.inl rfl) | decide | decide +kernel | (intro _; rfl))) (@pss_one _ _ _ (@ps_ret _ _ _ _ (@pe_and _ _ _ _ _ _ _ (@pe_cmpR _ _ _ _ _ _ _ _ (@op_neD _ hr.units) (@pe_call _ _ _ _ _ _ _ _ _ _ _ _ _ _ _ _ G_read_tree (hr.mono (by first | decide | omega)) (by rfl) T.m_read_tree T.F_read_tree.kp T.b_read_tree .nil passF (@pa_cons _ _ _ _ _ (@pe_op _ _ _ _ _ _ _ _ (@op_add_str _) (@pe_op _ _ _ _ _ _ _ _ (@op_repS _) (@pe_str _ _ _ _) (@pe_int _ _ _ _)) (@pe_op _ _ _ _ _ _ _ _ (@op_repS _) (@pe_str _ _ _ _) (@pe_int _ _ _ _))) (@pa_nil _) (by first | rfl | exact .inl rfl | exact .inr rfl | exact .inr (.inl rfl) | decide | decide +kernel | (intro _; rfl))) (by first | rfl | exact .inl rfl | exact .inr rfl | exact .inr (.inl rfl) | decide | decide +kernel | (intro _; rfl)) (by first | rfl | exact .inl rfl | exact .inr rfl | exact .inr (.inl rfl) | decide | decide +kernel | (intro _; rfl)) (by first | rfl | exact .inl rfl | exact .inr rfl | exact .inr (.inl rfl) | decide | decide +kernel | (intro _; rfl))) (@pe_tup _ _ _ _ _ (@pa_nil _)) (nomark _)) (@pe_one _ _ _ _ _ (@pe_cmpR _ _ _ _ _ _ _ _ (@op_eqNil _ hr.units0) (@pe_call _ _ _ _ _ _ _ _ _ _ _ _ _ _ _ _ G_read_tree (hr.mono (by first | decide | omega)) (by rfl) T.m_read_tree T.F_read_tree.kp T.b_read_tree .nil passF (@pa_cons _ _ _ _ _ (@pe_str _ _ _ _) (@pa_nil _) (by first | rfl | exact .inl rfl | exact .inr rfl | exact .inr (.inl rfl) | decide | decide +kernel | (intro _; rfl))) (by first | rfl | exact .inl rfl | exact .inr rfl | exact .inr (.inl rfl) | decide | decide +kernel | (intro _; rfl)) (by first | rfl | exact .inl rfl | exact .inr rfl | exact .inr (.inl rfl) | decide | decide +kernel | (intro _; rfl)) (by first | rfl | exact .inl rfl | exact .inr rfl | exact .inr (.inl rfl) | decide | decide +kernel | (intro _; rfl))) (@pe_tup _ _ _ _ _ (@pa_nil _)) (nomark _))))))))), ?_⟩
  have hs := sizeLine_eq
  refine ⟨_, rfl, sc, _, rfl, .inl hS, (by show 1 ≤ sizeLine; decide), fun m1 g1 => ?_⟩
  have s2 : Same H (upd H m1 (.lst [.int ((ns.map V.int).length : Nat)])) := same_new g1 _
  have l2 : (upd H m1 (.lst [.int ((ns.map V.int).length : Nat)])) m1 = some (.lst [.int ((ns.map V.int).length : Nat)]) := upd_same
  generalize upd H m1 (.lst [.int ((ns.map V.int).length : Nat)]) = H2 at s2 l2 ⊢
  obtain ⟨ms, ecut, hms⟩ := cut_ints ns none (some 30)
  refine ⟨_, rfl, _, rfl, sc, _, rfl, s2.seq hS, fun m2 g2 => ?_⟩
  rw [ecut]
  have s3 : Same H2 (upd H2 m2 (.lst (ms.map V.int))) := same_new g2 _
  have l3 : (upd H2 m2 (.lst (ms.map V.int))) m2 = some (.lst (ms.map V.int)) := upd_same
  generalize upd H2 m2 (.lst (ms.map V.int)) = H3 at s3 l3 ⊢
  refine ⟨m2, _, rfl, .inl (SqL.of l3), fun m3 g3 => ?_⟩
  have s4 : Same H3 (upd H3 m3 (.lst (ms.map V.int))) := same_new g3 _
  have l4 : (upd H3 m3 (.lst (ms.map V.int))) m3 = some (.lst (ms.map V.int)) := upd_same
  generalize upd H3 m3 (.lst (ms.map V.int)) = H4 at s4 l4 ⊢
  refine ⟨m1, m3, _, _, rfl, rfl, s4 _ _ (s3 _ _ l2), l4, ?_, fun m4 g4 => ?_⟩
  · show 1 + (ms.map V.int).length ≤ sizeLine
    rw [List.length_map]
    exact small (by omega)
  refine ⟨m4, rfl, ⟨_, SqL.of upd_same⟩, ?_⟩
  have s5 : Same H4 (upd H4 m4 (.lst ([.int ((ns.map V.int).length : Nat)] ++ ms.map V.int))) := same_new g4 _
  have l5 : (upd H4 m4 (.lst ([.int ((ns.map V.int).length : Nat)] ++ ms.map V.int))) m4 = some (.lst ([.int ((ns.map V.int).length : Nat)] ++ ms.map V.int)) := upd_same
  have hS5 : SqL K (upd H4 m4 (.lst ([.int ((ns.map V.int).length : Nat)] ++ ms.map V.int))) sc (ns.map V.int) := s5.seq (s4.seq (s3.seq (s2.seq hS)))
  generalize upd H4 m4 (.lst ([.int ((ns.map V.int).length : Nat)] ++ ms.map V.int)) = H5 at l5 hS5 ⊢
  clear s5 s4 s3 s2 l4 l3 l2 g1 g2 g3 g4
  refine for_list (K := K) (a := m4) (xs := [.int ((ns.map V.int).length : Nat)] ++ ms.map V.int) (fun i σ H' => (∃ x1 x2 x3 x4 x5 x6 x7 x8 x9, σ = [some (.ref sc), x1, x2, x3, x4, x5, x6, x7, x8, x9]) ∧ Same H5 H') ⟨⟨_, _, _, _, _, _, _, _, _, rfl⟩, Same.refl _⟩ (fun i σ H' _ ⟨_, sm⟩ => SqL.of (sm _ _ l5)) ?_ ?_
  · rintro i x σ H6 hx ⟨⟨x1, x2, x3, x4, x5, x6, x7, x8, x9, rfl⟩, sm⟩
    obtain ⟨n, rfl⟩ : ∃ n : Int, x = .int n := by
      have hm := List.mem_of_getElem? hx
      rcases List.mem_append.mp hm with hm | hm
      · exact ⟨_, List.mem_singleton.mp hm⟩
      · obtain ⟨n, _, e⟩ := List.mem_map.mp hm
        exact ⟨n, e.symm⟩
    refine ⟨_, rfl, n, 3, rfl, by decide, by decide, fun pot H7 np s7 P7 => ?_⟩
    refine ⟨_, rfl, pot, rfl, P7, fun v d H8 hv hlw hT hcn P8 K8 => ?_⟩
    have hsh := lw_sh hlw
    have ddp := isT_dp hT
    have dsz := isT_sz hT
    have np6 : H6 pot = none := np
    have s8 : Same H6 H8 := same_kept s7 np6 K8
    refine ⟨_, rfl, v, d, rfl, hv, hsh, by omega, dsz, fun H9 s9 => ?_⟩
    have tl9 := txt_len d hsh
    have wt : WT (txt d) d := ⟨hsh, hT, rfl⟩
    have etr : eqD d d = true := (eqD_iff (sh_pu hsh)).mpr rfl
    have P9 := P8.same s9
    have v9 := hv.mono s9.tk
    refine ⟨_, rfl, _, rfl, v, d, rfl, v9, hsh, by omega, dsz, fun H10 s10 => ⟨rfl, _, rfl, ?_⟩⟩
    rw [decide_eq_true rfl]
    refine iteF ?_
    have P10 := P9.same s10
    have v10 := v9.mono s10.tk
    refine ⟨_, rfl, txt d, rfl, by omega, ?_, fun hno => absurd wt (hno d)⟩
    intro d1 v1 H11 w1 s11 i1
    cases w1.uniq wt
    have v11 := v10.mono s11.tk
    refine ⟨_, rfl, d, d, i1, v11, sh_tr hsh, sh_tr hsh, by omega, _, rfl, ?_⟩
    rw [etr]
    refine iteF ?_
    refine ⟨_, rfl, txt d, rfl, by omega, ?_, fun hno => absurd wt (hno d)⟩
    intro d2 v2 H12 w2 s12 i2
    cases w2.uniq wt
    refine ⟨v2, "list", tyD d, false, rfl, i2.ty, kit_lst hsh, _, rfl, iteF ?_⟩
    have s912 := s9.trans (s10.trans (s11.trans s12))
    have P12 := P8.same s912
    -- three changes
    refine ⟨3, rfl, by omega, by omega, ?_⟩
    refine for_range (n := 3) (fun i σ H' => (∃ y5 y6 y7 y8, σ = [some (.ref sc), some (.int n), some (.ref pot), some v, some (.str (txt d)), y5, y6, y7, y8, x9]) ∧ PotAt H' pot ∧ Same H6 H') ⟨⟨_, _, _, _, rfl⟩, P12, s8.trans s912⟩ ?_ ?_
    · rintro j σ H13 hj ⟨⟨y5, y6, y7, y8, rfl⟩, P13, s13⟩
      refine ⟨_, rfl, _, rfl, txt d, pot, rfl, P13, by omega, fun Y H14 hYl hYb P14 K14 => ?_⟩
      have s14 : Same H6 H14 := same_kept s13 np6 K14
      have hbr : br (txt d) = cnt d := cnt_txt d hsh
      have hY2 : Y.cps.toList.count 40 < 200 := by
        have : br Y ≤ 182 := by omega
        exact Nat.lt_of_le_of_lt this (by omega)
      by_cases hW : ∃ e, WT Y e
      · obtain ⟨e, we⟩ := hW
        have etr2 : eqD e e = true := (eqD_iff (sh_pu we.1)).mpr rfl
        have edp := isT_dp we.2.1
        refine ⟨_, rfl, Y, rfl, by omega, hY2, ?_, fun hno => absurd we (hno e)⟩
        intro e1 u1 H15 we1 s15 j1
        cases we1.uniq we
        refine ⟨_, rfl, Y, rfl, by omega, ?_, fun hno => absurd we (hno e)⟩
        intro e2 u2 H16 we2 s16 j2
        cases we2.uniq we
        have n1 : u1 ≠ .non := sh_val we.1 j1
        refine ⟨_, rfl, rfl, _, rfl, ?_⟩
        rw [decide_eq_false n1]
        refine iteF (iteF ?_)
        refine ⟨_, rfl, rfl, _, rfl, ?_⟩
        rw [decide_eq_false n1]
        refine iteT ?_
        refine ⟨_, rfl, _, rfl, e, e, j2, j1.mono s16.tk, sh_tr we.1, sh_tr we.1, by omega, _, rfl, ?_⟩
        rw [etr2]
        exact iteF ⟨⟨_, _, _, _, rfl⟩, P14.same (s15.trans s16), s14.trans (s15.trans s16)⟩
      · have hno : ∀ e, ¬ WT Y e := fun e we => hW ⟨e, we⟩
        refine ⟨_, rfl, Y, rfl, by omega, hY2, fun e u H' we => absurd we (hno e), fun _ H15 s15 => ?_⟩
        refine ⟨_, rfl, Y, rfl, by omega, fun e u H' we => absurd we (hno e), fun _ L H16 s16 hL => ?_⟩
        refine ⟨_, rfl, rfl, _, rfl, iteTof (decide_eq_true rfl) ?_⟩
        refine ⟨_, rfl, (by show 0 ≤ sizeLine; omega), fun L2 g2 => ?_⟩
        have s17 : Same H16 (upd H16 L2 (.lst [])) := same_new g2 _
        refine ⟨L, L2, rfl, rfl, SqL.of (s17 _ _ hL), SqL.of upd_same, _, rfl, iteF ?_⟩
        refine ⟨_, rfl, rfl, _, rfl, ?_⟩
        rw [decide_eq_true rfl]
        exact iteF (iteF ⟨⟨_, _, _, _, rfl⟩, P14.same (s15.trans (s16.trans s17)), s14.trans (s15.trans (s16.trans s17))⟩)
    · rintro σ H13 ⟨⟨y5, y6, y7, y8, rfl⟩, P13, s13⟩
      exact ⟨⟨_, _, _, _, _, _, _, _, _, rfl⟩, sm.trans s13⟩
  · rintro σ H6 ⟨⟨x1, x2, x3, x4, x5, x6, x7, x8, x9, rfl⟩, sm⟩
    refine ⟨_, rfl, sc, ns, rfl, sm.seq hS5, _, _, rfl, rfl, (by show (0 : Int) < 3000; decide), _, _, rfl, rfl, ?_⟩
    have hm : 13 ≤ 13 + ns.sum % 3000 ∧ 13 + ns.sum % 3000 ≤ 3012 := by omega
    have mk : ∀ (z : Str) (n : Int), z.length ≤ 1000 → 0 ≤ n → n ≤ 10000 → MulOk z n := fun z n h0 h1 h2 => mulOk_of h1 h2 h0
    have ml : ∀ (c : Nat) (n : Int), (Txt.mul ⟨#[c]⟩ n).length = n.toNat := fun c n => by rw [len_cps, mul_one, List.length_replicate]
    have lp : (Txt.mul "(" (13 + ns.sum % 3000)).length = (13 + ns.sum % 3000).toNat := ml 40 _
    have lq : (Txt.mul ")" (13 + ns.sum % 3000)).length = (13 + ns.sum % 3000).toNat := ml 41 _
    have lp13 : (Txt.mul "(" 13).length = 13 := ml 40 13
    have lq13 : (Txt.mul ")" 13).length = 13 := ml 41 13
    have la : ("\"a\"" : Str).length = 3 := rfl
    refine ⟨_, _, rfl, rfl, mk _ _ (by decide) (by decide) (by decide), _, _, rfl, rfl, mk _ _ (by decide) (by decide) (by decide), _, _, rfl, rfl, by omega, ?_⟩
    refine ⟨_, rfl, _, _, rfl, rfl, mk _ _ (by decide) (by omega) (by omega), ?_⟩
    refine ⟨_, rfl, _, _, rfl, rfl, mk _ _ (by decide) (by omega) (by omega), _, rfl, _, _, rfl, rfl, mk _ _ (by decide) (by omega) (by omega), _, _, rfl, rfl, by omega, ?_⟩
    refine ⟨_, rfl, _, _, rfl, rfl, mk _ _ (by decide) (by omega) (by omega), _, _, rfl, rfl, by omega, _, rfl, _, _, rfl, rfl, mk _ _ (by decide) (by omega) (by omega), _, _, rfl, rfl, by rw [app_len]; omega, ?_⟩
    refine ⟨(by show 5 ≤ sizeLine; omega), fun L gL => ⟨L, rfl, ⟨_, SqL.of upd_same⟩, ?_⟩⟩
    have rp : ∀ n : Int, (Txt.mul "(" n).cps.toList = List.replicate n.toNat 40 := fun n => mul_one 40 n
    have bad : ∀ x ∈ [V.str "", .str (Txt.mul "(" 13 ++ Txt.mul ")" 13), .str (Txt.mul "(" (13 + ns.sum % 3000)), .str (Txt.mul "(" (13 + ns.sum % 3000) ++ Txt.mul ")" (13 + ns.sum % 3000)), .str (Txt.mul "(" (13 + ns.sum % 3000) ++ "\"a\"" ++ Txt.mul ")" (13 + ns.sum % 3000))], ∃ Z : Str, x = .str Z ∧ Z.length ≤ 100000 ∧ ∀ d, ¬ WT Z d := by
      intro x hx
      simp only [List.mem_cons, List.mem_nil_iff, or_false] at hx
      rcases hx with rfl | rfl | rfl | rfl | rfl
      · exact ⟨_, rfl, by decide, WT.empty⟩
      · exact ⟨_, rfl, by rw [app_len]; omega, WT.deep (m := 13) (Nat.le_refl _) (by rw [Str.cps_append, Array.toList_append, rp]; rfl)⟩
      · exact ⟨_, rfl, by omega, WT.deep (m := (13 + ns.sum % 3000).toNat) (t := []) (by omega) (by rw [rp, List.append_nil])⟩
      · exact ⟨_, rfl, by rw [app_len]; omega, WT.deep (m := (13 + ns.sum % 3000).toNat) (by omega) (by rw [Str.cps_append, Array.toList_append, rp])⟩
      · exact ⟨_, rfl, by rw [app_len, app_len]; omega, WT.deep (m := (13 + ns.sum % 3000).toNat) (by omega) (by rw [Str.cps_append, Array.toList_append, Str.cps_append, Array.toList_append, rp, List.append_assoc])⟩
    generalize hH7 : upd H6 L (.lst _) = H7
    have l7 : H7 L = some (.lst [V.str "", .str (Txt.mul "(" 13 ++ Txt.mul ")" 13), .str (Txt.mul "(" (13 + ns.sum % 3000)), .str (Txt.mul "(" (13 + ns.sum % 3000) ++ Txt.mul ")" (13 + ns.sum % 3000)), .str (Txt.mul "(" (13 + ns.sum % 3000) ++ "\"a\"" ++ Txt.mul ")" (13 + ns.sum % 3000))]) := by rw [← hH7]; exact upd_same
    refine for_list (K := K) (a := L) (xs := [V.str "", .str (Txt.mul "(" 13 ++ Txt.mul ")" 13), .str (Txt.mul "(" (13 + ns.sum % 3000)), .str (Txt.mul "(" (13 + ns.sum % 3000) ++ Txt.mul ")" (13 + ns.sum % 3000)), .str (Txt.mul "(" (13 + ns.sum % 3000) ++ "\"a\"" ++ Txt.mul ")" (13 + ns.sum % 3000))]) (fun i σ H' => (∃ y4, σ = [some (.ref sc), x1, x2, x3, y4, x5, x6, x7, x8, some (.int (13 + ns.sum % 3000))]) ∧ Same H7 H') ⟨⟨_, rfl⟩, Same.refl _⟩ (fun i σ H' _ ⟨_, sm⟩ => SqL.of (sm _ _ l7)) ?_ ?_
    · rintro i x σ H8 hx ⟨⟨y4, rfl⟩, s8⟩
      obtain ⟨Z, rfl, hZ, hno⟩ := bad x (List.mem_of_getElem? hx)
      refine ⟨_, rfl, Z, rfl, hZ, fun e u H' we => absurd we (hno e), fun _ L1 H9 s9 hL1 => ?_⟩
      refine ⟨(by show 0 ≤ sizeLine; omega), fun L2 g2 => ?_⟩
      have s10 : Same H9 (upd H9 L2 (.lst [])) := same_new g2 _
      exact ⟨L1, L2, rfl, rfl, SqL.of (s10 _ _ hL1), SqL.of upd_same, _, rfl, iteF ⟨⟨_, rfl⟩, s8.trans (s9.trans s10)⟩⟩
    · rintro σ H8 ⟨⟨y4, rfl⟩, s8⟩
      refine ⟨_, _, rfl, rfl, mk _ _ (by decide) (by decide) (by decide), _, _, rfl, rfl, mk _ _ (by decide) (by decide) (by decide), _, _, rfl, rfl, (by show (Txt.mul "(" 12).length + (Txt.mul ")" 12).length ≤ _; rw [show (Txt.mul "(" 12).length = 12 from ml 40 12, show (Txt.mul ")" 12).length = 12 from ml 41 12]; omega), ?_⟩
      refine ⟨_, rfl, (by rw [app_len, show (Txt.mul "(" 12).length = 12 from ml 40 12, show (Txt.mul ")" 12).length = 12 from ml 41 12]; omega), ?_, fun hno => absurd wt_nst (hno _)⟩
      intro d1 v1 H9 w1 s9 i1
      cases w1.uniq wt_nst
      refine ⟨(by show 0 ≤ sizeLine; omega), fun t1 g1 => ?_⟩
      have s10 : Same H9 (upd H9 t1 (.tup [])) := same_new g1 _
      refine ⟨nst 11, .tup [], i1.mono s10.tk, Is.new (ds := []) rfl g1, sh_tr wt_nst.1, rfl, (by decide +kernel), _, rfl, ?_⟩
      rw [show eqD (nst 11) (.tup []) = false from by decide +kernel]
      refine iteT ?_
      refine ⟨_, rfl, (by decide), ?_, fun hno => absurd wt_nil (hno _)⟩
      intro d2 v2 H11 w2 s11 i2
      cases w2.uniq wt_nil
      obtain ⟨b, vs, rfl, hb, e0⟩ := i2
      cases (show vs = [] from e0)
      refine ⟨(by show 0 ≤ sizeLine; omega), fun t2 g2 => ?_⟩
      have s12 : Same H11 (upd H11 t2 (.tup [])) := same_new g2 _
      exact ⟨b, t2, [], rfl, rfl, SqT.of (s12 _ _ hb), SqT.of upd_same, k _⟩
end
end K03

set_option Elab.async false
set_option linter.all false
set_option maxRecDepth 100000
set_option maxHeartbeats 4000000
namespace K03
open PySem L2 PyProof.Rows
theorem tx_mk {K : PySem.W.Frag} {h : Heap} {mg : Str → Option Value} (X : K.In h) (G : h.Ns mainGlobals mg) {f1 : Addr} {od1 an1 : Option Addr} {sl1 : Array (Option Value)} {oc1 kV1 dc1 pm1 cd1 ct1 : Value} {f2 : Addr} {od2 an2 : Option Addr} {sl2 : Array (Option Value)} {oc2 kV2 dc2 pm2 cd2 ct2 : Value} {f3 : Addr} {od3 an3 : Option Addr} {sl3 : Array (Option Value)} {oc3 kV3 dc3 pm3 cd3 ct3 : Value} {f4 : Addr} {od4 an4 : Option Addr} {sl4 : Array (Option Value)} {oc4 kV4 dc4 pm4 cd4 ct4 : Value} {f5 : Addr} {od5 an5 : Option Addr} {sl5 : Array (Option Value)} {oc5 kV5 dc5 pm5 cd5 ct5 : Value} {f6 : Addr} {od6 an6 : Option Addr} {sl6 : Array (Option Value)} {oc6 kV6 dc6 pm6 cd6 ct6 : Value} {f7 : Addr} {od7 an7 : Option Addr} {sl7 : Array (Option Value)} {oc7 kV7 dc7 pm7 cd7 ct7 : Value} {f8 : Addr} {od8 an8 : Option Addr} {sl8 : Array (Option Value)} {oc8 kV8 dc8 pm8 cd8 ct8 : Value} {f9 : Addr} {od9 an9 : Option Addr} {sl9 : Array (Option Value)} {oc9 kV9 dc9 pm9 cd9 ct9 : Value} {f10 : Addr} {od10 an10 : Option Addr} {sl10 : Array (Option Value)} {oc10 kV10 dc10 pm10 cd10 ct10 : Value} {f11 : Addr} {od11 an11 : Option Addr} {sl11 : Array (Option Value)} {oc11 kV11 dc11 pm11 cd11 ct11 : Value} {f12 : Addr} {od12 an12 : Option Addr} {sl12 : Array (Option Value)} {oc12 kV12 dc12 pm12 cd12 ct12 : Value} {f13 : Addr} {od13 an13 : Option Addr} {sl13 : Array (Option Value)} {oc13 kV13 dc13 pm13 cd13 ct13 : Value} {f14 : Addr} {od14 an14 : Option Addr} {sl14 : Array (Option Value)} {oc14 kV14 dc14 pm14 cd14 ct14 : Value} {f15 : Addr} {od15 an15 : Option Addr} {sl15 : Array (Option Value)} {oc15 kV15 dc15 pm15 cd15 ct15 : Value} {f16 : Addr} {od16 an16 : Option Addr} {sl16 : Array (Option Value)} {oc16 kV16 dc16 pm16 cd16 ct16 : Value} {f17 : Addr} {od17 an17 : Option Addr} {sl17 : Array (Option Value)} {oc17 kV17 dc17 pm17 cd17 ct17 : Value} {f18 : Addr} {od18 an18 : Option Addr} {sl18 : Array (Option Value)} {oc18 kV18 dc18 pm18 cd18 ct18 : Value} {f19 : Addr} {od19 an19 : Option Addr} {sl19 : Array (Option Value)} {oc19 kV19 dc19 pm19 cd19 ct19 : Value} {f20 : Addr} {od20 an20 : Option Addr} {sl20 : Array (Option Value)} {oc20 kV20 dc20 pm20 cd20 ct20 : Value} {f21 : Addr} {od21 an21 : Option Addr} {sl21 : Array (Option Value)} {oc21 kV21 dc21 pm21 cd21 ct21 : Value} {f22 : Addr} {od22 an22 : Option Addr} {sl22 : Array (Option Value)} {oc22 kV22 dc22 pm22 cd22 ct22 : Value} {t1 : Tok} {t2 : Tok} {t3 : Tok} {t4 : Tok} {t5 : Tok}
    (a1 : PySem.W.nsIn K mainGlobals "is_text" = some (some (.ref f1))) (l1 : K.lookup f1 = some ⟨oc1, od1, .func (PySem.W.fnOf "is_text" "is_text" (defArgs s_is_text) (defBody s_is_text) (defScope s_is_text) .none kV1 dc1 pm1 an1 cd1 ct1), sl1⟩) (c1 : PySem.W.codeIn K cd1 "is_text" = true) (k1 : PySem.W.keepIn K (.ref f1) = true)
    (a2 : PySem.W.nsIn K mainGlobals "is_tree" = some (some (.ref f2))) (l2 : K.lookup f2 = some ⟨oc2, od2, .func (PySem.W.fnOf "is_tree" "is_tree" (defArgs s_is_tree) (defBody s_is_tree) (defScope s_is_tree) .none kV2 dc2 pm2 an2 cd2 ct2), sl2⟩) (c2 : PySem.W.codeIn K cd2 "is_tree" = true) (k2 : PySem.W.keepIn K (.ref f2) = true)
    (a3 : PySem.W.nsIn K mainGlobals "tree_text" = some (some (.ref f3))) (l3 : K.lookup f3 = some ⟨oc3, od3, .func (PySem.W.fnOf "tree_text" "tree_text" (defArgs s_tree_text) (defBody s_tree_text) (defScope s_tree_text) .none kV3 dc3 pm3 an3 cd3 ct3), sl3⟩) (c3 : PySem.W.codeIn K cd3 "tree_text" = true) (k3 : PySem.W.keepIn K (.ref f3) = true)
    (a4 : PySem.W.nsIn K mainGlobals "read_tree" = some (some (.ref f4))) (l4 : K.lookup f4 = some ⟨oc4, od4, .func (PySem.W.fnOf "read_tree" "read_tree" (defArgs s_read_tree) (defBody s_read_tree) (defScope s_read_tree) .none kV4 dc4 pm4 an4 cd4 ct4), sl4⟩) (c4 : PySem.W.codeIn K cd4 "read_tree" = true) (k4 : PySem.W.keepIn K (.ref f4) = true)
    (a5 : PySem.W.nsIn K mainGlobals "tree_at" = some (some (.ref f5))) (l5 : K.lookup f5 = some ⟨oc5, od5, .func (PySem.W.fnOf "tree_at" "tree_at" (defArgs s_tree_at) (defBody s_tree_at) (defScope s_tree_at) .none kV5 dc5 pm5 an5 cd5 ct5), sl5⟩) (c5 : PySem.W.codeIn K cd5 "tree_at" = true) (k5 : PySem.W.keepIn K (.ref f5) = true)
    (a6 : PySem.W.nsIn K mainGlobals "words_at" = some (some (.ref f6))) (l6 : K.lookup f6 = some ⟨oc6, od6, .func (PySem.W.fnOf "words_at" "words_at" (defArgs s_words_at) (defBody s_words_at) (defScope s_words_at) .none kV6 dc6 pm6 an6 cd6 ct6), sl6⟩) (c6 : PySem.W.codeIn K cd6 "words_at" = true) (k6 : PySem.W.keepIn K (.ref f6) = true)
    (a7 : PySem.W.nsIn K mainGlobals "row_at" = some (some (.ref f7))) (l7 : K.lookup f7 = some ⟨oc7, od7, .func (PySem.W.fnOf "row_at" "row_at" (defArgs s_row_at) (defBody s_row_at) (defScope s_row_at) .none kV7 dc7 pm7 an7 cd7 ct7), sl7⟩) (c7 : PySem.W.codeIn K cd7 "row_at" = true) (k7 : PySem.W.keepIn K (.ref f7) = true)
    (a8 : PySem.W.nsIn K mainGlobals "_law_pot" = some (some (.ref f8))) (l8 : K.lookup f8 = some ⟨oc8, od8, .func (PySem.W.fnOf "_law_pot" "_law_pot" (defArgs s_law_pot) (defBody s_law_pot) (defScope s_law_pot) .none kV8 dc8 pm8 an8 cd8 ct8), sl8⟩) (c8 : PySem.W.codeIn K cd8 "_law_pot" = true) (k8 : PySem.W.keepIn K (.ref f8) = true)
    (a9 : PySem.W.nsIn K mainGlobals "_law_take" = some (some (.ref f9))) (l9 : K.lookup f9 = some ⟨oc9, od9, .func (PySem.W.fnOf "_law_take" "_law_take" (defArgs s_law_take) (defBody s_law_take) (defScope s_law_take) .none kV9 dc9 pm9 an9 cd9 ct9), sl9⟩) (c9 : PySem.W.codeIn K cd9 "_law_take" = true) (k9 : PySem.W.keepIn K (.ref f9) = true)
    (a10 : PySem.W.nsIn K mainGlobals "_law_signs" = some (some (.ref f10))) (l10 : K.lookup f10 = some ⟨oc10, od10, .func (PySem.W.fnOf "_law_signs" "_law_signs" (defArgs s_law_signs) (defBody s_law_signs) (defScope s_law_signs) .none kV10 dc10 pm10 an10 cd10 ct10), sl10⟩) (c10 : PySem.W.codeIn K cd10 "_law_signs" = true) (k10 : PySem.W.keepIn K (.ref f10) = true)
    (a11 : PySem.W.nsIn K mainGlobals "_law_text" = some (some (.ref f11))) (l11 : K.lookup f11 = some ⟨oc11, od11, .func (PySem.W.fnOf "_law_text" "_law_text" (defArgs s_law_text) (defBody s_law_text) (defScope s_law_text) .none kV11 dc11 pm11 an11 cd11 ct11), sl11⟩) (c11 : PySem.W.codeIn K cd11 "_law_text" = true) (k11 : PySem.W.keepIn K (.ref f11) = true)
    (a12 : PySem.W.nsIn K mainGlobals "_law_tree" = some (some (.ref f12))) (l12 : K.lookup f12 = some ⟨oc12, od12, .func (PySem.W.fnOf "_law_tree" "_law_tree" (defArgs s_law_tree) (defBody s_law_tree) (defScope s_law_tree) .none kV12 dc12 pm12 an12 cd12 ct12), sl12⟩) (c12 : PySem.W.codeIn K cd12 "_law_tree" = true) (k12 : PySem.W.keepIn K (.ref f12) = true)
    (a13 : PySem.W.nsIn K mainGlobals "_law_measure" = some (some (.ref f13))) (l13 : K.lookup f13 = some ⟨oc13, od13, .func (PySem.W.fnOf "_law_measure" "_law_measure" (defArgs s_law_measure) (defBody s_law_measure) (defScope s_law_measure) .none kV13 dc13 pm13 an13 cd13 ct13), sl13⟩) (c13 : PySem.W.codeIn K cd13 "_law_measure" = true) (k13 : PySem.W.keepIn K (.ref f13) = true)
    (a14 : PySem.W.nsIn K mainGlobals "_law_is_tree" = some (some (.ref f14))) (l14 : K.lookup f14 = some ⟨oc14, od14, .func (PySem.W.fnOf "_law_is_tree" "_law_is_tree" (defArgs s_law_is_tree) (defBody s_law_is_tree) (defScope s_law_is_tree) .none kV14 dc14 pm14 an14 cd14 ct14), sl14⟩) (c14 : PySem.W.codeIn K cd14 "_law_is_tree" = true) (k14 : PySem.W.keepIn K (.ref f14) = true)
    (a15 : PySem.W.nsIn K mainGlobals "_law_good_tree" = some (some (.ref f15))) (l15 : K.lookup f15 = some ⟨oc15, od15, .func (PySem.W.fnOf "_law_good_tree" "_law_good_tree" (defArgs s_law_good_tree) (defBody s_law_good_tree) (defScope s_law_good_tree) .none kV15 dc15 pm15 an15 cd15 ct15), sl15⟩) (c15 : PySem.W.codeIn K cd15 "_law_good_tree" = true) (k15 : PySem.W.keepIn K (.ref f15) = true)
    (a16 : PySem.W.nsIn K mainGlobals "_law_written" = some (some (.ref f16))) (l16 : K.lookup f16 = some ⟨oc16, od16, .func (PySem.W.fnOf "_law_written" "_law_written" (defArgs s_law_written) (defBody s_law_written) (defScope s_law_written) .none kV16 dc16 pm16 an16 cd16 ct16), sl16⟩) (c16 : PySem.W.codeIn K cd16 "_law_written" = true) (k16 : PySem.W.keepIn K (.ref f16) = true)
    (a17 : PySem.W.nsIn K mainGlobals "_law_text_in" = some (some (.ref f17))) (l17 : K.lookup f17 = some ⟨oc17, od17, .func (PySem.W.fnOf "_law_text_in" "_law_text_in" (defArgs s_law_text_in) (defBody s_law_text_in) (defScope s_law_text_in) .none kV17 dc17 pm17 an17 cd17 ct17), sl17⟩) (c17 : PySem.W.codeIn K cd17 "_law_text_in" = true) (k17 : PySem.W.keepIn K (.ref f17) = true)
    (a18 : PySem.W.nsIn K mainGlobals "_law_tree_in" = some (some (.ref f18))) (l18 : K.lookup f18 = some ⟨oc18, od18, .func (PySem.W.fnOf "_law_tree_in" "_law_tree_in" (defArgs s_law_tree_in) (defBody s_law_tree_in) (defScope s_law_tree_in) .none kV18 dc18 pm18 an18 cd18 ct18), sl18⟩) (c18 : PySem.W.codeIn K cd18 "_law_tree_in" = true) (k18 : PySem.W.keepIn K (.ref f18) = true)
    (a19 : PySem.W.nsIn K mainGlobals "_law_due" = some (some (.ref f19))) (l19 : K.lookup f19 = some ⟨oc19, od19, .func (PySem.W.fnOf "_law_due" "_law_due" (defArgs s_law_due) (defBody s_law_due) (defScope s_law_due) .none kV19 dc19 pm19 an19 cd19 ct19), sl19⟩) (c19 : PySem.W.codeIn K cd19 "_law_due" = true) (k19 : PySem.W.keepIn K (.ref f19) = true)
    (a20 : PySem.W.nsIn K mainGlobals "_law_changed" = some (some (.ref f20))) (l20 : K.lookup f20 = some ⟨oc20, od20, .func (PySem.W.fnOf "_law_changed" "_law_changed" (defArgs s_law_changed) (defBody s_law_changed) (defScope s_law_changed) .none kV20 dc20 pm20 an20 cd20 ct20), sl20⟩) (c20 : PySem.W.codeIn K cd20 "_law_changed" = true) (k20 : PySem.W.keepIn K (.ref f20) = true)
    (a21 : PySem.W.nsIn K mainGlobals "_law_read" = some (some (.ref f21))) (l21 : K.lookup f21 = some ⟨oc21, od21, .func (PySem.W.fnOf "_law_read" "_law_read" (defArgs s_law_read) (defBody s_law_read) (defScope s_law_read) .none kV21 dc21 pm21 an21 cd21 ct21), sl21⟩) (c21 : PySem.W.codeIn K cd21 "_law_read" = true) (k21 : PySem.W.keepIn K (.ref f21) = true)
    (a22 : PySem.W.nsIn K mainGlobals "law" = some (some (.ref f22))) (l22 : K.lookup f22 = some ⟨oc22, od22, .func (PySem.W.fnOf "law" "law" (defArgs s_law) (defBody s_law) (defScope s_law) .none kV22 dc22 pm22 an22 cd22 ct22), sl22⟩) (c22 : PySem.W.codeIn K cd22 "law" = true) (k22 : PySem.W.keepIn K (.ref f22) = true)
    (g1 : PySem.W.nsIn K mainGlobals "MOST_SIGNS" = some (some (.int 300 t1)))
    (g2 : PySem.W.nsIn K mainGlobals "MOST_PARTS" = some (some (.int 40 t2)))
    (g3 : PySem.W.nsIn K mainGlobals "MOST_SIZE" = some (some (.int 600 t3)))
    (g4 : PySem.W.nsIn K mainGlobals "MOST_DEPTH" = some (some (.int 12 t4)))
    (g5 : PySem.W.nsIn K mainGlobals "PERCENT" = some (some (.int 37 t5)))
    (z1 : PySem.W.nsIn K mainGlobals "ord" = some none)
    (z2 : PySem.W.nsIn K mainGlobals "len" = some none)
    (z3 : PySem.W.nsIn K mainGlobals "isinstance" = some none)
    (z4 : PySem.W.nsIn K mainGlobals "str" = some none)
    (z5 : PySem.W.nsIn K mainGlobals "tuple" = some none)
    (z6 : PySem.W.nsIn K mainGlobals "abs" = some none)
    (z7 : PySem.W.nsIn K mainGlobals "range" = some none)
    (z8 : PySem.W.nsIn K mainGlobals "max" = some none)
    (z9 : PySem.W.nsIn K mainGlobals "sum" = some none)
    (z10 : PySem.W.nsIn K mainGlobals "all" = some none)
    (z11 : PySem.W.nsIn K mainGlobals "int" = some none)
    (z12 : PySem.W.nsIn K mainGlobals "ValueError" = some none)
    (z13 : PySem.W.nsIn K mainGlobals "list" = some none) : ∃ a, Tx K mg a := by
  have F1 := fun_mk (st := s_is_text) l1 c1 k1
  have b1 := F1.binds (ps := ["value"]) fun _ _ _ _ _ _ us hl => match us, hl with | [_], _ => rfl
  have F2 := fun_mk (st := s_is_tree) l2 c2 k2
  have b2 := F2.binds (ps := ["value"]) fun _ _ _ _ _ _ us hl => match us, hl with | [_], _ => rfl
  have F3 := fun_mk (st := s_tree_text) l3 c3 k3
  have b3 := F3.binds (ps := ["tree"]) fun _ _ _ _ _ _ us hl => match us, hl with | [_], _ => rfl
  have F4 := fun_mk (st := s_read_tree) l4 c4 k4
  have b4 := F4.binds (ps := ["text"]) fun _ _ _ _ _ _ us hl => match us, hl with | [_], _ => rfl
  have F5 := fun_mk (st := s_tree_at) l5 c5 k5
  have b5 := F5.binds (ps := ["text", "place", "depth"]) fun _ _ _ _ _ _ us hl => match us, hl with | [_, _, _], _ => rfl
  have F6 := fun_mk (st := s_words_at) l6 c6 k6
  have b6 := F6.binds (ps := ["text", "place"]) fun _ _ _ _ _ _ us hl => match us, hl with | [_, _], _ => rfl
  have F7 := fun_mk (st := s_row_at) l7 c7 k7
  have b7 := F7.binds (ps := ["text", "place", "depth"]) fun _ _ _ _ _ _ us hl => match us, hl with | [_, _, _], _ => rfl
  have F8 := fun_mk (st := s_law_pot) l8 c8 k8
  have b8 := F8.binds (ps := ["cell", "salt"]) fun _ _ _ _ _ _ us hl => match us, hl with | [_, _], _ => rfl
  have F9 := fun_mk (st := s_law_take) l9 c9 k9
  have b9 := F9.binds (ps := ["pot", "many"]) fun _ _ _ _ _ _ us hl => match us, hl with | [_, _], _ => rfl
  have F10 := fun_mk (st := s_law_signs) l10 c10 k10
  have b10 := F10.binds (ps := []) fun _ _ _ _ _ _ us hl => match us, hl with | [], _ => rfl
  have F11 := fun_mk (st := s_law_text) l11 c11 k11
  have b11 := F11.binds (ps := ["pot"]) fun _ _ _ _ _ _ us hl => match us, hl with | [_], _ => rfl
  have F12 := fun_mk (st := s_law_tree) l12 c12 k12
  have b12 := F12.binds (ps := ["pot", "deep"]) fun _ _ _ _ _ _ us hl => match us, hl with | [_, _], _ => rfl
  have F13 := fun_mk (st := s_law_measure) l13 c13 k13
  have b13 := F13.binds (ps := ["value"]) fun _ _ _ _ _ _ us hl => match us, hl with | [_], _ => rfl
  have F14 := fun_mk (st := s_law_is_tree) l14 c14 k14
  have b14 := F14.binds (ps := ["value"]) fun _ _ _ _ _ _ us hl => match us, hl with | [_], _ => rfl
  have F15 := fun_mk (st := s_law_good_tree) l15 c15 k15
  have b15 := F15.binds (ps := ["pot"]) fun _ _ _ _ _ _ us hl => match us, hl with | [_], _ => rfl
  have F16 := fun_mk (st := s_law_written) l16 c16 k16
  have b16 := F16.binds (ps := ["tree"]) fun _ _ _ _ _ _ us hl => match us, hl with | [_], _ => rfl
  have F17 := fun_mk (st := s_law_text_in) l17 c17 k17
  have b17 := F17.binds (ps := ["text", "spot"]) fun _ _ _ _ _ _ us hl => match us, hl with | [_, _], _ => rfl
  have F18 := fun_mk (st := s_law_tree_in) l18 c18 k18
  have b18 := F18.binds (ps := ["text", "spot"]) fun _ _ _ _ _ _ us hl => match us, hl with | [_, _], _ => rfl
  have F19 := fun_mk (st := s_law_due) l19 c19 k19
  have b19 := F19.binds (ps := ["text"]) fun _ _ _ _ _ _ us hl => match us, hl with | [_], _ => rfl
  have F20 := fun_mk (st := s_law_changed) l20 c20 k20
  have b20 := F20.binds (ps := ["text", "pot"]) fun _ _ _ _ _ _ us hl => match us, hl with | [_, _], _ => rfl
  have F21 := fun_mk (st := s_law_read) l21 c21 k21
  have b21 := F21.binds (ps := ["text"]) fun _ _ _ _ _ _ us hl => match us, hl with | [_], _ => rfl
  have F22 := fun_mk (st := s_law) l22 c22 k22
  have b22 := F22.binds (ps := ["script"]) fun _ _ _ _ _ _ us hl => match us, hl with | [_], _ => rfl
  exact ⟨⟨f1, _, f2, _, f3, _, f4, _, f5, _, f6, _, f7, _, f8, _, f9, _, f10, _, f11, _, f12, _, f13, _, f14, _, f15, _, f16, _, f17, _, f18, _, f19, _, f20, _, f21, _, f22, _⟩, ⟨F1, b1, PySem.W.mg_of X G a1, F2, b2, PySem.W.mg_of X G a2, F3, b3, PySem.W.mg_of X G a3, F4, b4, PySem.W.mg_of X G a4, F5, b5, PySem.W.mg_of X G a5, F6, b6, PySem.W.mg_of X G a6, F7, b7, PySem.W.mg_of X G a7, F8, b8, PySem.W.mg_of X G a8, F9, b9, PySem.W.mg_of X G a9, F10, b10, PySem.W.mg_of X G a10, F11, b11, PySem.W.mg_of X G a11, F12, b12, PySem.W.mg_of X G a12, F13, b13, PySem.W.mg_of X G a13, F14, b14, PySem.W.mg_of X G a14, F15, b15, PySem.W.mg_of X G a15, F16, b16, PySem.W.mg_of X G a16, F17, b17, PySem.W.mg_of X G a17, F18, b18, PySem.W.mg_of X G a18, F19, b19, PySem.W.mg_of X G a19, F20, b20, PySem.W.mg_of X G a20, F21, b21, PySem.W.mg_of X G a21, F22, b22, PySem.W.mg_of X G a22, fun s u => .of_eq rfl, ⟨_, PySem.W.mg_of X G g1⟩, ⟨_, PySem.W.mg_of X G g2⟩, ⟨_, PySem.W.mg_of X G g3⟩, ⟨_, PySem.W.mg_of X G g4⟩, ⟨_, PySem.W.mg_of X G g5⟩, PySem.W.mg_none_of X G z1, PySem.W.mg_none_of X G z2, PySem.W.mg_none_of X G z3, PySem.W.mg_none_of X G z4, PySem.W.mg_none_of X G z5, PySem.W.mg_none_of X G z6, PySem.W.mg_none_of X G z7, PySem.W.mg_none_of X G z8, PySem.W.mg_none_of X G z9, PySem.W.mg_none_of X G z10, PySem.W.mg_none_of X G z11, PySem.W.mg_none_of X G z12, PySem.W.mg_none_of X G z13⟩⟩
theorem fx_mk {K : PySem.W.Frag} {h : Heap} {mg : Str → Option Value} (X : K.In h) (G : h.Ns mainGlobals mg) {aX aW xBadKeep xBadName xBadRule xBadText xBadThing : Addr}
    (gX : PySem.W.nsIn K mainGlobals "BadTree" = some (some (.ref aX))) (gW : PySem.W.nsIn K mainGlobals "WrightError" = some (some (.ref aW))) (bX : PySem.W.excIn K aX VE "ValueError.__new__" = true) (bY : PySem.W.exmOne K (.ref aX) (.ref aW) = some true)
    (eBadKeep : PySem.W.nsIn K mainGlobals "BadKeep" = some (some (.ref xBadKeep)))
    (eBadName : PySem.W.nsIn K mainGlobals "BadName" = some (some (.ref xBadName)))
    (eBadRule : PySem.W.nsIn K mainGlobals "BadRule" = some (some (.ref xBadRule)))
    (eBadText : PySem.W.nsIn K mainGlobals "BadText" = some (some (.ref xBadText)))
    (eBadThing : PySem.W.nsIn K mainGlobals "BadThing" = some (some (.ref xBadThing)))
    (c1 : PySem.W.findIn K (.ref aX) "__getattribute__" = some (some (.builtin "BaseException.__getattribute__")))
    (c2 : PySem.W.findIn K (.ref aX) "__getattr__" = some none)
    (c3 : PySem.W.findIn K (.ref aX) "__class__" = some (some (.builtin "object.__class__")))
    (c4 : PySem.W.specialIn K (.builtin "object.__class__") "__get__" = some (some (.builtin "getset_descriptor.__get__")))
    (c5 : PySem.W.takesIn K (.builtin "object.__class__") = some true)
    (c6 : PySem.W.mroIn K aX (.type "object") = some true)
    (c7 : PySem.W.mroIn K aX (.type "BaseException") = some true)
    (c8 : PySem.W.kitOne K (.ref aX) (.type "ValueError") = some true)
    (c9 : PySem.W.kitAny K (.ref aX) [.ref xBadKeep, .ref xBadName, .ref xBadRule, .ref xBadText, .ref xBadThing] = some false) : ∃ g, Fx K mg g :=
  ⟨⟨aX, aW, xBadKeep, xBadName, xBadRule, xBadText, xBadThing⟩, ⟨PySem.W.mg_of X G gX, bX, PySem.W.mg_of X G gW, bY, PySem.W.mg_of X G eBadKeep, PySem.W.mg_of X G eBadName, PySem.W.mg_of X G eBadRule, PySem.W.mg_of X G eBadText, PySem.W.mg_of X G eBadThing, ⟨c1, c2, c3, c4, c5, c6, c7⟩, c8, c9⟩⟩
end K03
open PySem PySem.W PyProof.Rows
set_option maxRecDepth 100000 in
set_option maxHeartbeats 0 in
theorem PySem.Challenge.cw_askwright_k03_trees_written_and_read_holds : PySem.Challenge.rw_askwright_k03_trees_written_and_read.Holds := by
  w_on; o_law; k_head; (case hw => w_witness2)
  k_fill
  refine L2.walk_ofK (l := PySem.Challenge.rw_askwright_k03_trees_written_and_read) (n := 63) (k := 205) (x := "script") (CX := L2.CX0) (sp := K03.sp_law) rfl (by decide) rfl ⟨rfl, by decide, by decide⟩ (fun w h Y => PySem.W.kIn_of Y) ?F ?S ?C
  case F =>
    intro w mg fa h KX G hmg
    have T : ∃ a, K03.Tx (L2.KOf KX) mg a := by
      dsimp only [L2.KOf]
      refine' K03.tx_mk KX G (a1 := ?a1) (l1 := ?l1) (c1 := ?c1) (k1 := ?k1) (a2 := ?a2) (l2 := ?l2) (c2 := ?c2) (k2 := ?k2) (a3 := ?a3) (l3 := ?l3) (c3 := ?c3) (k3 := ?k3) (a4 := ?a4) (l4 := ?l4) (c4 := ?c4) (k4 := ?k4) (a5 := ?a5) (l5 := ?l5) (c5 := ?c5) (k5 := ?k5) (a6 := ?a6) (l6 := ?l6) (c6 := ?c6) (k6 := ?k6) (a7 := ?a7) (l7 := ?l7) (c7 := ?c7) (k7 := ?k7) (a8 := ?a8) (l8 := ?l8) (c8 := ?c8) (k8 := ?k8) (a9 := ?a9) (l9 := ?l9) (c9 := ?c9) (k9 := ?k9) (a10 := ?a10) (l10 := ?l10) (c10 := ?c10) (k10 := ?k10) (a11 := ?a11) (l11 := ?l11) (c11 := ?c11) (k11 := ?k11) (a12 := ?a12) (l12 := ?l12) (c12 := ?c12) (k12 := ?k12) (a13 := ?a13) (l13 := ?l13) (c13 := ?c13) (k13 := ?k13) (a14 := ?a14) (l14 := ?l14) (c14 := ?c14) (k14 := ?k14) (a15 := ?a15) (l15 := ?l15) (c15 := ?c15) (k15 := ?k15) (a16 := ?a16) (l16 := ?l16) (c16 := ?c16) (k16 := ?k16) (a17 := ?a17) (l17 := ?l17) (c17 := ?c17) (k17 := ?k17) (a18 := ?a18) (l18 := ?l18) (c18 := ?c18) (k18 := ?k18) (a19 := ?a19) (l19 := ?l19) (c19 := ?c19) (k19 := ?k19) (a20 := ?a20) (l20 := ?l20) (c20 := ?c20) (k20 := ?k20) (a21 := ?a21) (l21 := ?l21) (c21 := ?c21) (k21 := ?k21) (a22 := ?a22) (l22 := ?l22) (c22 := ?c22) (k22 := ?k22) (g1 := ?g1) (g2 := ?g2) (g3 := ?g3) (g4 := ?g4) (g5 := ?g5) (z1 := ?z1) (z2 := ?z2) (z3 := ?z3) (z4 := ?z4) (z5 := ?z5) (z6 := ?z6) (z7 := ?z7) (z8 := ?z8) (z9 := ?z9) (z10 := ?z10) (z11 := ?z11) (z12 := ?z12) (z13 := ?z13)
      (case a1 => k_is); (case l1 => k_is); (case c1 => k_is); (case k1 => k_is); (case a2 => k_is); (case l2 => k_is); (case c2 => k_is); (case k2 => k_is); (case a3 => k_is); (case l3 => k_is); (case c3 => k_is); (case k3 => k_is); (case a4 => k_is); (case l4 => k_is); (case c4 => k_is); (case k4 => k_is); (case a5 => k_is); (case l5 => k_is); (case c5 => k_is); (case k5 => k_is); (case a6 => k_is); (case l6 => k_is); (case c6 => k_is); (case k6 => k_is); (case a7 => k_is); (case l7 => k_is); (case c7 => k_is); (case k7 => k_is); (case a8 => k_is); (case l8 => k_is); (case c8 => k_is); (case k8 => k_is); (case a9 => k_is); (case l9 => k_is); (case c9 => k_is); (case k9 => k_is); (case a10 => k_is); (case l10 => k_is); (case c10 => k_is); (case k10 => k_is); (case a11 => k_is); (case l11 => k_is); (case c11 => k_is); (case k11 => k_is); (case a12 => k_is); (case l12 => k_is); (case c12 => k_is); (case k12 => k_is); (case a13 => k_is); (case l13 => k_is); (case c13 => k_is); (case k13 => k_is); (case a14 => k_is); (case l14 => k_is); (case c14 => k_is); (case k14 => k_is); (case a15 => k_is); (case l15 => k_is); (case c15 => k_is); (case k15 => k_is); (case a16 => k_is); (case l16 => k_is); (case c16 => k_is); (case k16 => k_is); (case a17 => k_is); (case l17 => k_is); (case c17 => k_is); (case k17 => k_is); (case a18 => k_is); (case l18 => k_is); (case c18 => k_is); (case k18 => k_is); (case a19 => k_is); (case l19 => k_is); (case c19 => k_is); (case k19 => k_is); (case a20 => k_is); (case l20 => k_is); (case c20 => k_is); (case k20 => k_is); (case a21 => k_is); (case l21 => k_is); (case c21 => k_is); (case k21 => k_is); (case a22 => k_is); (case l22 => k_is); (case c22 => k_is); (case k22 => k_is); (case g1 => k_is); (case g2 => k_is); (case g3 => k_is); (case g4 => k_is); (case g5 => k_is); (case z1 => k_is); (case z2 => k_is); (case z3 => k_is); (case z4 => k_is); (case z5 => k_is); (case z6 => k_is); (case z7 => k_is); (case z8 => k_is); (case z9 => k_is); (case z10 => k_is); (case z11 => k_is); (case z12 => k_is); (case z13 => k_is)
    have C : ∃ g, K03.Fx (L2.KOf KX) mg g := by
      dsimp only [L2.KOf]
      refine' K03.fx_mk KX G ?gX ?gW ?bX ?bY ?eBadKeep ?eBadName ?eBadRule ?eBadText ?eBadThing ?c1 ?c2 ?c3 ?c4 ?c5 ?c6 ?c7 ?c8 ?c9
      (case gX => k_is); (case gW => k_is); (case bX => k_exc); (case bY => kts_exm); (case eBadKeep => k_is); (case eBadName => k_is); (case eBadRule => k_is); (case eBadText => k_is); (case eBadThing => k_is); (case c1 => k_is); (case c2 => k_is); (case c3 => k_is); (case c4 => k_is); (case c5 => k_is); (case c6 => k_is); (case c7 => k_is); (case c8 => kit_is); (case c9 => kit_is)
    obtain ⟨a, T⟩ := T
    obtain ⟨g, C⟩ := C
    have e0 := hmg.symm.trans T.m_law
    cases e0
    exact ⟨_, T.e_law, (by obtain ⟨_, _, _, _, _, _, _, _, _, e, _⟩ := T.F_law.ex; rw [e]; rfl), fun base kb nb => K03.ok_law T C⟩
  case S => exact fun w H a ns hl hO hS => ⟨a, ns, rfl, hS, hl, fun _ => rfl⟩
  case C => exact fun _ _ _ _ z => z
#print axioms PySem.Challenge.cw_askwright_k03_trees_written_and_read_holds
