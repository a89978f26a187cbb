import PyProof.Rows.All
import Wide.All
import OpenK.AllK
import Wide.FinOn
import Lean
import PyProof.EqAt
import PyProof.EqKinds
import PyProof.TupleCall
import PyProof.StrLawsChain
import PyProof.StrLawsTight
import KE.KIntText
import PyProof.ZipIter
import PyProof.Draws
import OpenK.KTop
import PyProof.StationsW
import PyProof.ExcClass2
import PyProof.ExcBaseAll.ValueError
import PyProof.Rows.Catch
import OpenK.KOwn
import KE.KTryMore
import KE.FramesApart
import KE.RegKTryMore
import PyProof.RulesAs
import PyProof.NsDelKeeps
import PyProof.ExcArgs
import PySem.Challenge.RW_askwright_k06_the_first_bad_line
def PySem.W.Fast.tw880957425271059938 : Nat := 0
def PySem.W.Fast.tw4645195353262290173 : Nat := 0
def PySem.W.Fast.tw12292992155526939079 : Nat := 0
def PySem.W.Fast.tw13039795569538950454 : Nat := 0
def PySem.W.Fast.tw14406040369107348133 : Nat := 0
def PySem.W.Fast.tw2407548242668326932 : Nat := 0
def PySem.W.Fast.tw13224248472725430572 : Nat := 0
def PySem.W.Fast.tw17918378693973080763 : Nat := 0
def PySem.W.Fast.tw9294999914104587415 : Nat := 0
def PySem.W.Fast.tw14584327390018869571 : Nat := 0
set_option Elab.async false
set_option linter.all false
set_option maxRecDepth 100000
/-! THE HAND LAYER, for ints, bools, texts, own classes, LISTS and tuples (index, slices, in, append, pop ..), calls, loops. Paste it whole ahead of your own text; what your proof does not reach may be deleted. -/
namespace L2
open PySem PySem.Spec PyProof.Rows

/-- a key: an int or a str -/
abbrev Key := Sum Int Str
def keyIs : Key → Value → Bool
  | .inl k, v => Value.isInt k v
  | .inr x, v => Value.isStrOf x v
def keyH (w : World) : Key → Int
  | .inl k => hashInt k
  | .inr x => hashStr w x
theorem keyIs_shape : ∀ {k : Key} {v : Value}, keyIs k v = true → (∃ i t, k = Sum.inl i ∧ v = Value.int i t) ∨ (∃ x t, k = Sum.inr x ∧ v = Value.str x t)
  | .inl i, v, h => by
    obtain ⟨t, e⟩ := Value.isInt_shape (k := i) (v := v) h
    exact .inl ⟨i, t, rfl, e⟩
  | .inr x, v, h => by
    obtain ⟨t, e⟩ := Value.isStrOf_shape (x := x) (v := v) h
    exact .inr ⟨x, t, rfl, e⟩
theorem key_ll (a b : Int) : decide ((Sum.inl a : Key) = Sum.inl b) = (a == b) := by
  by_cases e : a = b
  · subst e; simp
  · have h : ¬ (Sum.inl a : Key) = Sum.inl b := fun q => e (Sum.inl.inj q)
    rw [decide_eq_false h]
    exact (beq_eq_false_iff_ne.mpr e).symm
theorem key_rr (a b : Str) : decide ((Sum.inr a : Key) = Sum.inr b) = decide (a = b) := by
  by_cases e : a = b
  · subst e; simp
  · have h : ¬ (Sum.inr a : Key) = Sum.inr b := fun q => e (Sum.inr.inj q)
    rw [decide_eq_false h, decide_eq_false e]
theorem key_lr (a : Int) (b : Str) : decide ((Sum.inl a : Key) = Sum.inr b) = false := decide_eq_false (fun q => nomatch q)
theorem key_rl (a : Str) (b : Int) : decide ((Sum.inr a : Key) = Sum.inl b) = false := decide_eq_false (fun q => nomatch q)

def mixKind (prog : Program) (w : World) : PySem.KeyKind prog w Key where
  is := keyIs
  hash := keyH w
  inj := fun v a b ha hb => by
    rcases keyIs_shape ha with ⟨i, t, rfl, rfl⟩ | ⟨x, t, rfl, rfl⟩
    · rcases keyIs_shape hb with ⟨j, u, rfl, e⟩ | ⟨y, u, rfl, e⟩
      · injection e with e1 _; rw [e1]
      · exact nomatch e
    · rcases keyIs_shape hb with ⟨j, u, rfl, e⟩ | ⟨y, u, rfl, e⟩
      · exact nomatch e
      · injection e with e1 _; rw [e1]
  byValue := fun k v h => by
    rcases keyIs_shape h with ⟨i, t, rfl, rfl⟩ | ⟨x, t, rfl, rfl⟩ <;> rfl
  pyHash := fun hv h => by
    rcases keyIs_shape hv with ⟨i, t, rfl, rfl⟩ | ⟨x, t, rfl, rfl⟩
    · exact wpAny_pyHash_int h
    · exact wpAny_pyHash_str h
  eqBool := fun hu hv h => by
    rcases keyIs_shape hu with ⟨i, t, rfl, rfl⟩ | ⟨x, t, rfl, rfl⟩
    · rcases keyIs_shape hv with ⟨j, u, rfl, rfl⟩ | ⟨y, u, rfl, rfl⟩
      · rw [key_ll] at h; exact wpAny_eqBool_int h
      · rw [key_lr] at h; exact SeqAt.EqAt.int_str i t y u _ _ _ _ h
    · rcases keyIs_shape hv with ⟨j, u, rfl, rfl⟩ | ⟨y, u, rfl, rfl⟩
      · rw [key_rl] at h; exact SeqAt.EqAt.str_int x t j u _ _ _ _ h
      · rw [key_rr] at h; exact wpAny_eqBool_str h
  «strs» := fun k x t v h => by
    rcases keyIs_shape h with ⟨i, u, rfl, e⟩ | ⟨y, u, rfl, e⟩
    · exact nomatch e
    · injection e with e1 _
      subst e1
      cases v <;> rfl

end L2

namespace L2
open PySem PySem.Spec PyProof.Rows

/-- a value, without the heap -/
inductive V where
  | non | bl (b : Bool) | int (i : Int) | str (x : Str) | byt (b : Array UInt8) | flt (b : UInt64) | ref (a : Addr) | ty (n : String)
  deriving DecidableEq

def RelV : V → Value → Prop
  | .non, u => u = Value.none
  | .bl b, u => u = Value.bool b
  | .int i, u => ∃ t, u = Value.int i t
  | .str x, u => ∃ t, u = Value.str x t
  | .byt b, u => ∃ t, u = Value.bytes b t
  | .flt b, u => ∃ t, u = Value.float b t
  | .ref a, u => u = Value.ref a
  | .ty n, u => u = Value.type n

abbrev Vals : List V → List Value → Prop := Paired RelV
theorem Vals.length {xs : List V} {us : List Value} (r : Vals xs us) : xs.length = us.length := Paired.length r
theorem Vals.get : ∀ {xs : List V} {us : List Value} {i : Nat} {x : V}, Vals xs us → xs[i]? = some x → ∃ u, us[i]? = some u ∧ RelV x u
  | _, _, _, _, .nil, e => by simp at e
  | _, _, 0, _, .cons r _, e => by simp at e; subst e; exact ⟨_, rfl, r⟩
  | _, _, i + 1, x, .cons _ t, e => by
    obtain ⟨u, h1, h2⟩ := Vals.get (i := i) (x := x) t (by simpa using e)
    exact ⟨u, by simpa using h1, h2⟩
theorem Vals.set {x : V} {u : Value} (r : RelV x u) : ∀ {xs : List V} {us : List Value} (i : Nat), Vals xs us → Vals (xs.set i x) (us.set i u)
  | _, _, _, .nil => .nil
  | _, _, 0, .cons _ t => .cons r t
  | _, _, i + 1, .cons q t => .cons q (Vals.set r i t)
theorem Vals.append : ∀ {xs ys : List V} {us ws : List Value}, Vals xs us → Vals ys ws → Vals (xs ++ ys) (us ++ ws)
  | _, _, _, _, .nil, s => s
  | _, _, _, _, .cons r t, s => .cons r (Vals.append t s)
theorem Vals.take : ∀ {xs : List V} {us : List Value} (n : Nat), Vals xs us → Vals (xs.take n) (us.take n)
  | _, _, 0, _ => .nil
  | _, _, _ + 1, .nil => .nil
  | _, _, n + 1, .cons r t => .cons r (Vals.take n t)
theorem Vals.drop : ∀ {xs : List V} {us : List Value} (n : Nat), Vals xs us → Vals (xs.drop n) (us.drop n)
  | _, _, 0, r => r
  | _, _, _ + 1, .nil => .nil
  | _, _, n + 1, .cons _ t => Vals.drop n t
def RelO : Option V → Option Value → Prop
  | some v, some u => RelV v u
  | none, none => True
  | _, _ => False
def KV {κ : Type} : List (κ × V) → List (κ × Value) → Prop := Paired fun (p : κ × V) (q : κ × Value) => p.1 = q.1 ∧ RelV p.2 q.2

/-- a key of a dict (00_mix): an int or a text -/
def kV : Key → V
  | .inl i => .int i
  | .inr x => .str x

/-- what stands at a tracked address -/
inductive HO where
  /-- a list -/
  | lst (xs : List V)
  /-- a tuple (never changes) -/
  | tup (xs : List V)
  /-- a dict whose keys are ints and texts; one whose keys are tuples of ints and texts (the empty one is both) -/
  | dK (kvs : List (Key × V)) | dT (kvs : List (List Key × V))
  /-- a set of ints: its members, its size -/
  | set (S : Int → Bool) (n : Nat)
  /-- an instance of the class at C, its dict at dx, its attributes -/
  | ins (C dx : Addr) (fs : List (Str × V))
  /-- the dict of the instance at x -/
  | own (x : Addr)
  /-- the dict of an exception -/
  | xd (fs : List (Str × V))
  /-- a bound method, f of x -/
  | met (f x : Addr)
  /-- a range object lo, lo + 1, .. below hi -/
  | rng (lo hi : Int)
  /-- a thing that is known to the object (the script; a dict while a loop walks it): read, never written while it is so -/
  | frz (o : Obj) (u : HO)
  /-- a code object's table -/
  | tbl (ps : Array Value)
  /-- any other thing, by what is true of its one object (a def of one's own: SetO a S n := HO.ext fun h => ..) -/
  | ext (φ : Heap → Prop)

abbrev Hp := Addr → Option HO
def upd (H : Hp) (a : Addr) (o : HO) : Hp := fun b => if b = a then some o else H b
theorem upd_same {H : Hp} {a : Addr} {o : HO} : upd H a o a = some o := by unfold upd; rw [if_pos rfl]
theorem upd_ne {H : Hp} {a b : Addr} {o : HO} (h : b ≠ a) : upd H a o b = H b := by unfold upd; rw [if_neg h]
theorem ne_of_none {H : Hp} {a b : Addr} {o : HO} (h : H a = some o) (h' : H b = none) : a ≠ b := by
  intro e; subst e; rw [h] at h'; cases h'

section
variable (P : Program) (w : World)
def ObjOk (H : Hp) (h : Heap) (a : Addr) : HO → Prop
  | .lst xs => xs.length ≤ sizeLine ∧ ∃ (its : List Value) (n : Nat), Vals xs its ∧ h.get? a = some { cls := .type "list", data := .seq its.toArray n }
  | .tup xs => xs.length ≤ sizeLine ∧ ∃ its : List Value, Vals xs its ∧ IsTup h a its.toArray
  | .dK kvs => kvs.length ≤ sizeLine ∧ (a == sysModules) = false ∧ ∃ vs, KV kvs vs ∧ h.DictOf (mixKind P w) a vs
  | .dT kvs => kvs.length ≤ sizeLine ∧ (a == sysModules) = false ∧ ∃ xs : List (List Key × Addr × Value),
      Paired (fun (p : List Key × V) (q : List Key × Addr × Value) => p.1 = q.1 ∧ H q.2.1 = some (.tup (p.1.map kV)) ∧ RelV p.2 q.2.2) kvs xs ∧
      ∃ o es ep, h.get? a = some o ∧ o.ExactDict ∧ o.data = .dict es ep ∧ es.toList = xs.map (entryOfKey (tupleKind (mixKind P w))) ∧ (xs.map (·.1)).Nodup
  | .set S n => h.SetOf (intKind P w) a S n
  | .ins C dx fs => H dx = some (.own a) ∧ fs.length ≤ 1000 ∧ dx ≠ a ∧ h.get? a = some (PySem.W.instObj C dx) ∧
      ∃ mA, h.Ns1 dx mA ∧ (∀ f, RelO (fs.lookup f) (mA f)) ∧ PySem.Within mA (fs.map (·.1))
  | .own _ => ∃ o, h.get? a = some o
  | .xd fs => ∃ mA, h.Ns1 a mA ∧ ∀ f, RelO (fs.lookup f) (mA f)
  | .rng lo hi => ∃ t u v, h.get? a = some { cls := .type "range", data := .fields #[.int lo t, .int hi u, .int 1 v] }
  | .frz o u => h.get? a = some o ∧ ObjOk H h a u
  | .tbl ps => h.get? a = some { cls := .none, data := .fields ps }
  | .met f x => h.get? a = some (PySem.W.methodObj (.ref f) (.ref x))
  | .ext φ => φ h ∧ (∃ o, h.get? a = some o) ∧ ∀ h1 h2 : Heap, φ h1 → (∀ o, h1.get? a = some o → h2.get? a = some o) → φ h2
/-- the abstract heap is held -/
def HOk (H : Hp) (h : Heap) : Prop := ∀ a o, H a = some o → ObjOk P w H h a o
end

section
variable {P : Program} {w : World} {H H' : Hp} {h h' : Heap} {a : Addr} {o : HO}
theorem ObjOk.lt (x : ObjOk P w H h a o) : a < h.objs.size := by
  cases o with
  | lst xs => obtain ⟨_, _, _, _, e⟩ := x; exact Heap.lt_size e
  | tup xs => obtain ⟨_, _, _, p⟩ := x; exact p.lt
  | dK kvs => obtain ⟨_, _, _, _, o, _, _, e, _⟩ := x; exact Heap.lt_size e
  | dT kvs => obtain ⟨_, _, _, _, o, _, _, e, _⟩ := x; exact Heap.lt_size e
  | set S n => obtain ⟨o, _, _, _, e, _⟩ := x; exact Heap.lt_size e
  | ins C dx fs => obtain ⟨_, _, _, e, _⟩ := x; exact Heap.lt_size e
  | own y => obtain ⟨_, e⟩ := x; exact Heap.lt_size e
  | xd fs => obtain ⟨_, ⟨_, _, _, e, _⟩, _⟩ := x; exact Heap.lt_size e
  | rng lo hi => obtain ⟨_, _, _, e⟩ := x; exact Heap.lt_size e
  | frz ob u => obtain ⟨e, _⟩ := x; exact Heap.lt_size e
  | tbl ps => exact Heap.lt_size (show h.get? a = some _ from x)
  | met f y => exact Heap.lt_size (show h.get? a = some _ from x)
  | ext φ => obtain ⟨_, ⟨_, e⟩, _⟩ := x; exact Heap.lt_size e
theorem Paired.mapP {α β : Type} {F G : α → β → Prop} : ∀ {l₁ : List α} {l₂ : List β}, Paired F l₁ l₂ → (∀ a b, F a b → G a b) → Paired G l₁ l₂
  | _, _, .nil, _ => .nil
  | _, _, .cons r t, f => .cons (f _ _ r) (Paired.mapP t f)
/-- what an object's description leans on: its own object, its own dict, the tuples -/
theorem ObjOk.stay (x : ObjOk P w H h a o) (k : ∀ b u, (b = a ∨ H b = some (.own a)) → h.get? b = some u → h'.get? b = some u)
    (ho : ∀ b, H b = some (.own a) → H' b = some (.own a)) (ht : ∀ b xs, H b = some (.tup xs) → H' b = some (.tup xs)) : ObjOk P w H' h' a o := by
  induction o with
  | lst xs => obtain ⟨z, its, n, r, e⟩ := x; exact ⟨z, its, n, r, k _ _ (.inl rfl) e⟩
  | tup xs => obtain ⟨z, its, r, ob, e, c⟩ := x; exact ⟨z, its, r, ob, k _ _ (.inl rfl) e, c⟩
  | dK kvs => obtain ⟨z, y, vs, r, ob, es, ep, e, c⟩ := x; exact ⟨z, y, vs, r, ob, es, ep, k _ _ (.inl rfl) e, c⟩
  | dT kvs =>
    obtain ⟨z, y, xs, r, ob, es, ep, e, c⟩ := x
    exact ⟨z, y, xs, Paired.mapP r fun p q z => ⟨z.1, ht _ _ z.2.1, z.2.2⟩, ob, es, ep, k _ _ (.inl rfl) e, c⟩
  | set S n => obtain ⟨ob, es, ep, t, e, c⟩ := x; exact ⟨ob, es, ep, t, k _ _ (.inl rfl) e, c⟩
  | ins C dx fs =>
    obtain ⟨d, z, ne, e, mA, ⟨od, es, ep, e2, c⟩, r⟩ := x
    exact ⟨ho _ d, z, ne, k _ _ (.inl rfl) e, mA, ⟨od, es, ep, k _ _ (.inr d) e2, c⟩, r⟩
  | own y => obtain ⟨ob, e⟩ := x; exact ⟨ob, k _ _ (.inl rfl) e⟩
  | xd fs => obtain ⟨mA, ⟨od, es, ep, e, c⟩, r⟩ := x; exact ⟨mA, ⟨od, es, ep, k _ _ (.inl rfl) e, c⟩, r⟩
  | rng lo hi => obtain ⟨t, u, v, e⟩ := x; exact ⟨t, u, v, k _ _ (.inl rfl) e⟩
  | frz ob u ih => obtain ⟨e, q⟩ := x; exact ⟨k _ _ (.inl rfl) e, ih q⟩
  | tbl ps =>
    have e : h.get? a = some { cls := .none, data := .fields ps } := x
    show h'.get? a = some { cls := .none, data := .fields ps }
    exact k a _ (.inl rfl) e
  | met f y =>
    have e : h.get? a = some (PySem.W.methodObj (.ref f) (.ref y)) := x
    show h'.get? a = some (PySem.W.methodObj (.ref f) (.ref y))
    exact k a _ (.inl rfl) e
  | ext φ => obtain ⟨p, ⟨o, e⟩, st⟩ := x; exact ⟨st _ _ p fun o q => k _ _ (.inl rfl) q, ⟨o, k _ _ (.inl rfl) e⟩, st⟩
theorem HOk.lt (x : HOk P w H h) (e : H a = some o) : a < h.objs.size := (x a o e).lt
theorem HOk.fresh (x : HOk P w H h) (e : h.objs.size ≤ a) : H a = none := by
  cases q : H a with
  | none => rfl
  | some u => exact absurd (Nat.lt_of_lt_of_le (x.lt q) e) (Nat.lt_irrefl _)
/-- every object of the heap is kept -/
theorem HOk.kept (x : HOk P w H h) (k : ∀ b u, h.get? b = some u → h'.get? b = some u) : HOk P w H h' := fun a o e =>
  (x a o e).stay (fun b u _ q => k b u q) (fun _ q => q) fun _ _ q => q
/-- a new object is laid and tracked -/
theorem HOk.laid (x : HOk P w H h) (k : ∀ b u, h.get? b = some u → h'.get? b = some u) (hp : h.objs.size ≤ a) (new : ObjOk P w (upd H a o) h' a o) : HOk P w (upd H a o) h' := fun b u e => by
  have hn := x.fresh hp
  by_cases hb : b = a
  · subst hb; rw [upd_same] at e; cases e; exact new
  · rw [upd_ne hb] at e
    exact (x b u e).stay (fun c v _ q => k c v q) (fun c q => by rw [upd_ne (ne_of_none q hn)]; exact q) fun c xs q => by rw [upd_ne (ne_of_none q hn)]; exact q
end

/-- what may be read as u: it is u, or a known u -/
def Rd (H : Hp) (a : Addr) (u : HO) : Prop := H a = some u ∨ ∃ o, H a = some (.frz o u)
theorem Rd.ok {P : Program} {w : World} {H : Hp} {h : Heap} {a : Addr} {u : HO} (r : Rd H a u) (x : HOk P w H h) : ObjOk P w H h a u := by
  rcases r with r | ⟨o, r⟩
  · exact x a u r
  · obtain ⟨_, q⟩ := x a _ r
    exact q
/-- what may be written -/
def Mut : Option HO → Prop
  | some (.lst _) => True
  | some (.dK _) => True
  | some (.dT _) => True
  | some (.set _ _) => True
  | some (.ins _ _ _) => True
  | some (.ext _) => True
  | _ => False
section
variable {P : Program} {w : World} {H : Hp} {h h' : Heap} {x e : Addr} {o' : HO}
/-- the object at e is changed: x itself, or the dict of the instance x -/
theorem HOk.write (ok : HOk P w H h) (mu : Mut (H x)) (he : e = x ∨ H e = some (.own x)) (k : ∀ b u, b ≠ e → h.get? b = some u → h'.get? b = some u) (heo : ∃ u, h'.get? e = some u)
    (new : ObjOk P w (upd H x o') h' x o') : HOk P w (upd H x o') h' := fun b u q => by
  have nown : ∀ c y, H c = some (.own y) → c ≠ x := fun c y r z => by subst z; rw [r] at mu; exact mu
  have ntup : ∀ c xs, H c = some (.tup xs) → c ≠ x := fun c xs r z => by subst z; rw [r] at mu; exact mu
  by_cases hb : b = x
  · subst hb; rw [upd_same] at q; cases q; exact new
  · rw [upd_ne hb] at q
    by_cases hbe : b = e
    · have q' : H b = some (.own x) := by
        rcases he with z | z
        · exact absurd (hbe.trans z) hb
        · rw [hbe]; exact z
      rw [q] at q'; cases q'
      obtain ⟨v, hv⟩ := heo
      exact ⟨v, by rw [hbe]; exact hv⟩
    · refine (ok b u q).stay (fun c v hc r => k c v ?_ r) (fun c r => by rw [upd_ne (nown c b r)]; exact r) fun c xs r => by rw [upd_ne (ntup c xs r)]; exact r
      rcases hc with rfl | hc
      · exact hbe
      · rintro rfl
        rcases he with z | z
        · exact nown c b hc z
        · rw [hc] at z; cases z; exact hb rfl
end

/-! ### kept unless tracked; of the frames at fs (the callers') the slots may change (an exception that passes writes there); of the records at ex (iterators) nothing is said -/
structure Un (fs ex : List Addr) (H H' : Hp) (h h' : Heap) : Prop where
  keep : ∀ b o, h.get? b = some o → H b = none → b ∉ fs → b ∉ ex → h'.get? b = some o
  slot : ∀ b o, h.get? b = some o → H b = none → b ∈ fs → b ∉ ex → ∃ sl, h'.get? b = some { o with slots := sl }
  free : ∀ b o, h.get? b = some o → H b = none → b ∉ ex → H' b = none
  there : ∀ b o, h.get? b = some o → b ∉ ex → ∃ o', h'.get? b = some o'
  tups : ∀ b xs, H b = some (.tup xs) → H' b = some (.tup xs)
  frzs : ∀ b o u, H b = some (.frz o u) → H' b = some (.frz o u)
  tbls : ∀ b ps, H b = some (.tbl ps) → ∃ more, H' b = some (.tbl (ps ++ more))
section
variable {fs fs' ex ex' : List Addr} {H H1 H2 : Hp} {h h1 h2 h' : Heap} {a x e : Addr} {o : HO}
theorem Un.any (u : Un fs ex H H1 h h1) {b : Addr} {ob : Obj} (q : h.get? b = some ob) (n : H b = none) (hx : b ∉ ex) : ∃ sl, h1.get? b = some { ob with slots := sl } := by
  by_cases hb : b ∈ fs
  · exact u.slot b ob q n hb hx
  · exact ⟨ob.slots, u.keep b ob q n hb hx⟩
theorem Un.trans (a : Un fs ex H H1 h h1) (b : Un fs ex H1 H2 h1 h2) : Un fs ex H H2 h h2 where
  keep := fun c ob q n hc hx => b.keep c ob (a.keep c ob q n hc hx) (a.free c ob q n hx) hc hx
  slot := fun c ob q n hc hx => by
    obtain ⟨sl, e1⟩ := a.slot c ob q n hc hx
    obtain ⟨sl', e2⟩ := b.slot c _ e1 (a.free c ob q n hx) hc hx
    exact ⟨sl', e2⟩
  free := fun c ob q n hx => by
    obtain ⟨o', e1⟩ := a.there c ob q hx
    exact b.free c o' e1 (a.free c ob q n hx) hx
  there := fun c ob q hx => by
    obtain ⟨o', e1⟩ := a.there c ob q hx
    exact b.there c o' e1 hx
  tups := fun c xs q => b.tups c xs (a.tups c xs q)
  frzs := fun c ob xs q => b.frzs c ob xs (a.frzs c ob xs q)
  tbls := fun c ps q => by
    obtain ⟨m1, e1⟩ := a.tbls c ps q
    obtain ⟨m2, e2⟩ := b.tbls c _ e1
    exact ⟨m1 ++ m2, by rw [e2, Array.append_assoc]⟩
theorem Un.kept (k : ∀ b u, h.get? b = some u → h'.get? b = some u) : Un fs ex H H h h' :=
  ⟨fun b ob q _ _ _ => k b ob q, fun b ob q _ _ _ => ⟨ob.slots, k b ob q⟩, fun _ _ _ n _ => n, fun b ob q _ => ⟨ob, k b ob q⟩, fun _ _ q => q, fun _ _ _ q => q, fun _ ps q => ⟨#[], by rw [q]; simp⟩⟩
theorem Un.refl : Un fs ex H H h h := Un.kept fun _ _ q => q
theorem Un.laid (k : ∀ b u, h.get? b = some u → h'.get? b = some u) (hp : h.objs.size ≤ a) (hn : H a = none) : Un fs ex H (upd H a o) h h' where
  keep := fun b u q _ _ _ => k b u q
  slot := fun b u q _ _ _ => ⟨u.slots, k b u q⟩
  free := fun b u q n _ => by rw [upd_ne (Nat.ne_of_lt (Nat.lt_of_lt_of_le (Heap.lt_size q) hp))]; exact n
  there := fun b u q _ => ⟨u, k b u q⟩
  tups := fun b xs q => by rw [upd_ne (ne_of_none q hn)]; exact q
  frzs := fun b u xs q => by rw [upd_ne (ne_of_none q hn)]; exact q
  tbls := fun b ps q => ⟨#[], by rw [upd_ne (ne_of_none q hn), q]; simp⟩
theorem Un.write (mu : Mut (H x)) (he : e = x ∨ H e = some (.own x)) (k : ∀ b u, b ≠ e → h.get? b = some u → h'.get? b = some u) (heo : ∃ u, h'.get? e = some u) : Un fs ex H (upd H x o) h h' := by
  have hx : ∀ b, H b = none → b ≠ x := fun b n z => by subst z; rw [n] at mu; exact mu
  have hb : ∀ b, H b = none → b ≠ e := fun b n z => by
    subst z
    rcases he with r | r
    · exact hx b n r
    · rw [n] at r; cases r
  have hm : ∀ b u, H b = some u → ¬ Mut (some u) → b ≠ x := fun b u q nm z => by subst z; rw [q] at mu; exact nm mu
  refine ⟨fun b u q n _ _ => k b u (hb b n) q, fun b u q n _ _ => ⟨u.slots, k b u (hb b n) q⟩, fun b u q n _ => by rw [upd_ne (hx b n)]; exact n, fun b u q _ => ?_,
    fun b xs q => by rw [upd_ne (hm b _ q fun z => z)]; exact q, fun b u xs q => by rw [upd_ne (hm b _ q fun z => z)]; exact q, fun b ps q => ⟨#[], by rw [upd_ne (hm b _ q fun z => z), q]; simp⟩⟩
  by_cases hbe : b = e
  · subst hbe; exact heo
  · exact ⟨u, k b u hbe q⟩
end

/-! ### the heap without what is tracked -/
def trk (h : Heap) (H : Hp) : List Addr := (List.range h.objs.size).filter fun a => (H a).isSome
def hidT (h : Heap) (H : Hp) : Heap := PySem.W.hideAll h (trk h H)
theorem hidT_size (h : Heap) (H : Hp) : (hidT h H).objs.size = h.objs.size := PySem.W.hideAll_size _ _
theorem hidT_get {h : Heap} {H : Hp} {b : Addr} {o : Obj} (e : h.get? b = some o) (n : H b = none) : (hidT h H).get? b = some o :=
  PySem.W.hideAll_get _ e fun hm => by
    have q : (H b).isSome = true := (List.mem_filter.mp hm).2
    rw [n] at q; simp at q
theorem of_hidT {h : Heap} {H : Hp} {b : Addr} {o : Obj} (e : (hidT h H).get? b = some o) : h.get? b = some o ∧ H b = none := by
  have e' : h.get? b = some o := PySem.W.of_hideAll (trk h H) e
  refine ⟨e', ?_⟩
  cases q : H b with
  | none => rfl
  | some x =>
    have hm : b ∈ trk h H := List.mem_filter.mpr ⟨List.mem_range.mpr (Heap.lt_size e'), by simp [q]⟩
    have z : (hidT h H).get? b = none := PySem.W.hideAll_none (trk h H) hm
    rw [z] at e; cases e

/-! ### OpenK's ledger, filled with every new object but one -/
end L2

namespace L2
open PySem PySem.Spec PyProof.Rows

/-- the module's facts, over the base: the heap at the law's entry without what is tracked there -/
structure Mod (K : PySem.W.Frag) (mg : Str → Option Value) (base : Heap) : Prop where
  kin : K.In base
  glob : base.Ns mainGlobals mg
  blt : ∃ mb, base.Ns builtinsNs mb ∧ ∀ x : Str, x ≠ "__name__" → mb x = bootBuiltins x
  nolimit : base.NoLimit

/-- the context: a def's body (or a comprehension's block) running. base: fixed through the whole law; s₀, H₀: the entry; outer: the frames whose slots others may change (a def's callers); stack: all frames that run;
   ex: iterators that were made ahead of the entry and are walked here (a comprehension's); fn: the names whose cells were made at the entry (a def: all; a comprehension's block: its own); calm: not within an except suite; pn: pins that every state bears; xe: what is wanted of an exception that leaves the code -/
structure Cx where
  prog : Program
  w : World
  K : PySem.W.Frag
  mg : Str → Option Value
  base : Heap
  A : Around
  N : List Str
  s₀ : Shared
  H₀ : Hp
  env : Env
  outer : List Env
  stack : List Env
  ex : List Addr
  fn : Str → Bool
  calm : Bool
  pn : List (Addr × Obj)
  xe : Value → Shared → Prop
/-- the callers' frames -/
def frs (l : List Env) : List Addr := l.filterMap (·.frame)
abbrev Cx.fs (X : Cx) : List Addr := frs X.outer

def Vis (sc : Scope) (x : Str) : Prop := sc.names.lookup x = some .local ∨ sc.names.lookup x = some .cell ∨ sc.names.lookup x = some .free
def Loc (sc : Scope) (x : Str) : Prop := sc.names.lookup x = some .local ∨ sc.names.lookup x = some .cell
def Look (env : Env) (h : Heap) (m : Str → Option Value) (x : Str) (u : Value) : Prop :=
  (env.kindOf x = some .local ∧ m x = some u) ∨ ((env.kindOf x = some .cell ∨ env.kindOf x = some .free) ∧ ∃ c, env.cells.lookup x = some c ∧ h.IsCell c (some u))

structure Cx.Ok (X : Cx) : Prop where
  mod : Mod X.K X.mg X.base
  kind : X.env.scope.kind = .function
  glob : X.env.globals = mainGlobals
  blt : X.env.builtins = builtinsNs
  above : X.s₀.heap.objs.size ≤ X.env.locals
  inj : ∀ x y c, X.env.cells.lookup x = some c → X.env.cells.lookup y = some c → x = y
  has : ∀ x, (X.env.kindOf x = some .cell ∨ X.env.kindOf x = some .free) → ∃ c, X.env.cells.lookup x = some c
  cab : ∀ x c, X.fn x = true → X.env.cells.lookup x = some c → X.s₀.heap.objs.size ≤ c
  hd : X.calm = true → X.A.handled = none
  frames : X.A.frames = some X.stack
  stk : X.stack = X.outer ∨ (X.stack = X.env :: X.outer ∧ X.env.frame = some X.env.locals)
  exf : ∀ b ∈ X.ex, b ≠ X.env.locals ∧ ∀ x c, X.env.cells.lookup x = some c → c ≠ b
  bs : ∀ b o, X.base.get? b = some o → X.s₀.heap.get? b = some o ∧ X.H₀ b = none
  bsz : X.base.objs.size ≤ X.s₀.heap.objs.size
  noex : ∀ b o, X.base.get? b = some o → b ∉ X.ex
  exfs : ∀ b ∈ X.ex, b ∉ X.fs
  funs : X.s₀.heap.FunFrames X.base X.outer
  frf : ∀ b ∈ X.fs, X.H₀ b = none

structure Inv (X : Cx) (pins : List (Addr × Obj)) (σ : List (Option V)) (H : Hp) (s : Shared) : Prop where
  ok : X.Ok
  os : s.os = X.s₀.os
  bare : AllBare s.gens
  base : Un X.fs X.ex X.H₀ H X.s₀.heap s.heap
  loc : ∃ m, s.heap.Ns X.env.locals m ∧ ∀ (i : Nat) (x : Str) (v : V), X.N[i]? = some x → σ[i]? = some (some v) → Vis X.env.scope x → ∃ u, RelV v u ∧ Look X.env s.heap m x u
  cell : ∀ x c, X.env.cells.lookup x = some c → ∃ v, s.heap.IsCell c v
  free : H X.env.locals = none
  freeC : ∀ x c, X.env.cells.lookup x = some c → H c = none
  pin : ∀ p ∈ X.pn ++ pins, s.heap.get? p.1 = some p.2 ∧ H p.1 = none ∧ p.1 ≠ X.env.locals ∧ p.1 ∉ X.fs ∧ ∀ v, p.2.data ≠ .cell v
  hok : HOk X.prog X.w H s.heap
  len : σ.length = X.N.length

section
variable {X : Cx} {pins : List (Addr × Obj)} {σ : List (Option V)} {H H' : Hp} {s : Shared} {h' : Heap}

theorem Cx.Ok.nofr (ok : X.Ok) {b : Addr} {o : Obj} (e : X.base.get? b = some o) : b ∉ X.fs := fun hb => by
  have := (ok.funs.mem hb).1
  rw [e] at this; cases this
theorem Inv.bs (I : Inv X pins σ H s) : ∀ b o, X.base.get? b = some o → s.heap.get? b = some o ∧ H b = none := fun b o e =>
  ⟨I.base.keep b o (I.ok.bs b o e).1 (I.ok.bs b o e).2 (I.ok.nofr e) (I.ok.noex b o e), I.base.free b o (I.ok.bs b o e).1 (I.ok.bs b o e).2 (I.ok.noex b o e)⟩
theorem Inv.bk (I : Inv X pins σ H s) : ∀ b o, X.base.get? b = some o → s.heap.get? b = some o := fun b o e => (I.bs b o e).1
theorem Inv.mod (I : Inv X pins σ H s) : Mod X.K X.mg X.base := I.ok.mod
theorem Inv.kIn (I : Inv X pins σ H s) : X.K.In s.heap := I.ok.mod.kin.keeps I.bk
theorem Inv.lt (I : Inv X pins σ H s) : X.env.locals < s.heap.objs.size := let ⟨_, hn, _⟩ := I.loc; hn.lt
theorem Inv.sz (I : Inv X pins σ H s) : X.s₀.heap.objs.size ≤ s.heap.objs.size := Nat.le_trans I.ok.above (Nat.le_of_lt I.lt)
theorem Inv.nofs (I : Inv X pins σ H s) {a : Addr} (h : s.heap.objs.size ≤ a) : a ∉ X.fs := fun hb => by
  obtain ⟨_, o, ho, _⟩ := I.ok.funs.mem hb
  exact absurd (Nat.lt_of_lt_of_le (Heap.lt_size ho) (Nat.le_trans I.sz h)) (Nat.lt_irrefl _)
theorem Inv.cne (I : Inv X pins σ H s) : ∀ x c, X.env.cells.lookup x = some c → c ≠ X.env.locals := fun x c e z => by
  obtain ⟨v, o, ho, hd⟩ := I.cell x c e
  obtain ⟨m, ⟨o', es, ep, ho', hd', _⟩, _⟩ := I.loc
  rw [z, ho'] at ho; cases ho; rw [hd'] at hd; cases hd
theorem Inv.funs (I : Inv X pins σ H s) : s.heap.FunFrames X.base X.outer := by
  have all : ∀ (l : List Env), (∀ b ∈ frs l, b ∈ X.fs) → X.s₀.heap.FunFrames X.base l → s.heap.FunFrames X.base l := by
    intro l
    induction l with
    | nil => intro _ _; trivial
    | cons env r ih =>
      intro hs hl
      obtain ⟨hk, ⟨L, o, hf, hn, ho, hd⟩, hr⟩ := hl
      have hL : L ∈ X.fs := hs L (by unfold frs; rw [List.filterMap_cons, hf]; exact List.mem_cons_self)
      obtain ⟨sl, e⟩ := I.base.slot L o ho (I.ok.frf L hL) hL fun z => I.ok.exfs L z hL
      exact ⟨hk, ⟨L, _, hf, hn, e, hd⟩, ih (fun b hb => hs b (by unfold frs; rw [List.filterMap_cons, hf]; exact List.mem_cons_of_mem _ hb)) hr⟩
  exact all X.outer (fun _ hb => hb) I.ok.funs

/-- the frames that run, for a call -/
theorem Inv.stack (I : Inv X pins σ H s) : s.heap.FunFrames X.base X.stack := by
  rcases I.ok.stk with e | ⟨e, hf⟩
  · rw [e]; exact I.funs
  · rw [e]
    obtain ⟨m, hn, _⟩ := I.loc
    refine .cons (by rw [I.ok.kind]; decide) hf hn ?_ I.funs
    exact Heap.get?_none_of_le (Nat.le_trans I.ok.bsz I.ok.above)
theorem Inv.stkSub (I : Inv X pins σ H s) : ∀ b ∈ frs X.stack, b ∈ X.env.locals :: X.fs := fun b hb => by
  rcases I.ok.stk with e | ⟨e, hf⟩
  · rw [e] at hb; exact List.mem_cons_of_mem _ hb
  · rw [e] at hb
    unfold frs at hb
    rw [List.filterMap_cons, hf] at hb
    exact hb
theorem Inv.stkFree (I : Inv X pins σ H s) : ∀ b ∈ frs X.stack, H b = none := fun b hb => by
  rcases List.mem_cons.mp (I.stkSub b hb) with e | hb
  · rw [e]; exact I.free
  · obtain ⟨_, o, ho, _⟩ := I.ok.funs.mem hb
    exact I.base.free b o ho (I.ok.frf b hb) fun z => I.ok.exfs b z hb

/-- THE STEP: the untracked objects but the frame and the records at ch are kept (the callers' frames up to slots), the frame's map is kept, the new abstract heap is held -/
theorem Inv.step {g' : Array GenState} {t' : Nat} {d' : Drawn} {ch : List Addr} (I : Inv X pins σ H s)
    (hch : ∀ b ∈ ch, (b ∈ X.ex ∨ X.s₀.heap.objs.size ≤ b) ∧ b ≠ X.env.locals ∧ (∀ x c, X.env.cells.lookup x = some c → c ≠ b) ∧ ∀ p ∈ X.pn ++ pins, p.1 ≠ b)
    (keep : ∀ b o, b ≠ X.env.locals → b ∉ X.fs → b ∉ ch → s.heap.get? b = some o → H b = none → h'.get? b = some o)
    (slot : ∀ b o, b ≠ X.env.locals → b ∈ X.fs → b ∉ ch → s.heap.get? b = some o → H b = none → ∃ sl, h'.get? b = some { o with slots := sl }) (free : ∀ b o, b ∉ ch → s.heap.get? b = some o → H b = none → H' b = none)
    (there : ∀ b o, b ∉ ch → s.heap.get? b = some o → ∃ o', h'.get? b = some o')
    (tups : ∀ b xs, H b = some (.tup xs) → H' b = some (.tup xs)) (frzs : ∀ b o u, H b = some (.frz o u) → H' b = some (.frz o u)) (tbls : ∀ b ps, H b = some (.tbl ps) → ∃ more, H' b = some (.tbl (ps ++ more)))
    (ns : ∀ m, s.heap.Ns X.env.locals m → h'.Ns X.env.locals m) (hok : HOk X.prog X.w H' h') (hg : AllBare g') :
    Inv X pins σ H' { s with heap := h', gens := g', drawn := d', toks := t' } := by
  have neL : ∀ b o, X.s₀.heap.get? b = some o → b ≠ X.env.locals := fun b o e => Nat.ne_of_lt (Nat.lt_of_lt_of_le (Heap.lt_size e) I.ok.above)
  have neC : ∀ b o, X.s₀.heap.get? b = some o → b ∉ X.ex → b ∉ ch := fun b o e hx hb => by
    rcases (hch b hb).1 with z | z
    · exact hx z
    · exact absurd (Nat.lt_of_lt_of_le (Heap.lt_size e) z) (Nat.lt_irrefl _)
  have cellK : ∀ x c, X.env.cells.lookup x = some c → ∀ v, s.heap.IsCell c v → h'.IsCell c v := fun x c e v ⟨o, ho, hd⟩ => by
    have nch : c ∉ ch := fun z => (hch c z).2.2.1 x c e rfl
    by_cases hc : c ∈ X.fs
    · obtain ⟨sl, q⟩ := slot c o (I.cne x c e) hc nch ho (I.freeC x c e)
      exact ⟨_, q, hd⟩
    · exact ⟨o, keep c o (I.cne x c e) hc nch ho (I.freeC x c e), hd⟩
  refine ⟨I.ok, I.os, hg, ⟨fun b o e n hb hx => ?_, fun b o e n hb hx => ?_, fun b o e n hx => ?_, fun b o e hx => ?_, fun b xs e => tups b xs (I.base.tups b xs e), fun b o xs e => frzs b o xs (I.base.frzs b o xs e), fun b ps e => ?_⟩, ?_, fun x c e => ?_, ?_, fun x c e => ?_, fun p hp => ?_, hok, I.len⟩
  · exact keep b o (neL b o e) hb (neC b o e hx) (I.base.keep b o e n hb hx) (I.base.free b o e n hx)
  · obtain ⟨sl, e1⟩ := I.base.slot b o e n hb hx
    obtain ⟨sl', e2⟩ := slot b _ (neL b o e) hb (neC b o e hx) e1 (I.base.free b o e n hx)
    exact ⟨sl', e2⟩
  · obtain ⟨o', e1⟩ := I.base.there b o e hx
    exact free b o' (neC b o e hx) e1 (I.base.free b o e n hx)
  · obtain ⟨o', e1⟩ := I.base.there b o e hx
    exact there b o' (neC b o e hx) e1
  · obtain ⟨m1, e1⟩ := I.base.tbls b ps e
    obtain ⟨m2, e2⟩ := tbls b _ e1
    exact ⟨m1 ++ m2, by rw [e2, Array.append_assoc]⟩
  · obtain ⟨m, hn, hl⟩ := I.loc
    refine ⟨m, ns m hn, fun i x v e1 e2 e3 => ?_⟩
    obtain ⟨u, r, l⟩ := hl i x v e1 e2 e3
    refine ⟨u, r, ?_⟩
    rcases l with l | ⟨k, c, e, z⟩
    · exact .inl l
    · exact .inr ⟨k, c, e, cellK x c e _ z⟩
  · obtain ⟨v, z⟩ := I.cell x c e
    exact ⟨v, cellK x c e v z⟩
  · obtain ⟨m, ⟨o, _, _, ho, _⟩, _⟩ := I.loc
    exact free _ o (fun z => (hch _ z).2.1 rfl) ho I.free
  · obtain ⟨v, o, ho, hd⟩ := I.cell x c e
    exact free c o (fun z => (hch c z).2.2.1 x c e rfl) ho (I.freeC x c e)
  · obtain ⟨e, n, ne, nf, d⟩ := I.pin p hp
    have nch : p.1 ∉ ch := fun z => (hch p.1 z).2.2.2 p hp rfl
    exact ⟨keep p.1 p.2 ne nf nch e n, free p.1 p.2 nch e n, ne, nf, d⟩
/-- .. where the frame's own object is kept too -/
theorem Inv.un {t' : Nat} (I : Inv X pins σ H s) (u : Un X.fs [] H H' s.heap h') (hok : HOk X.prog X.w H' h') : Inv X pins σ H' { s with heap := h', toks := t' } := by
  obtain ⟨m, ⟨o, es, ep, ho, r⟩, _⟩ := id I.loc
  obtain ⟨sl, hL⟩ := u.any ho I.free (by simp)
  exact I.step (g' := s.gens) (d' := s.drawn) (ch := []) (fun _ z => nomatch z) (fun b o _ hb _ e n => u.keep b o e n hb (by simp)) (fun b o _ hb _ e n => u.slot b o e n hb (by simp)) (fun b o _ e n => u.free b o e n (by simp)) (fun b o _ e => u.there b o e (by simp)) u.tups u.frzs u.tbls (fun m' hm => by
    obtain ⟨o', es', ep', ho', r'⟩ := hm
    rw [ho] at ho'; cases ho'
    exact ⟨_, es', ep', hL, r'⟩) hok I.bare
/-- behind a call (or a comprehension's block): the slots of this frame may have changed too, the records at ch may have turned -/
theorem Inv.call {g' : Array GenState} {t' : Nat} {d' : Drawn} {ch : List Addr} (I : Inv X pins σ H s) (u : Un (frs X.stack) ch H H' s.heap h') (hok : HOk X.prog X.w H' h') (hg : AllBare g')
    (hch : ∀ b ∈ ch, (b ∈ X.ex ∨ X.s₀.heap.objs.size ≤ b) ∧ b ≠ X.env.locals ∧ (∀ x c, X.env.cells.lookup x = some c → c ≠ b) ∧ ∀ p ∈ X.pn ++ pins, p.1 ≠ b) :
    Inv X pins σ H' { s with heap := h', gens := g', drawn := d', toks := t' } := by
  obtain ⟨m, ⟨o, es, ep, ho, r⟩, _⟩ := id I.loc
  obtain ⟨sl, hL⟩ := u.any ho I.free fun z => (hch _ z).2.1 rfl
  exact I.step (ch := ch) hch (fun b o hL hb hc e n => u.keep b o e n (fun z => (List.mem_cons.mp (I.stkSub b z)).elim hL hb) hc) (fun b o _ _ hc e n => u.any e n hc) (fun b o hc e n => u.free b o e n hc) (fun b o hc e => u.there b o e hc) u.tups u.frzs u.tbls (fun m' hm => by
    obtain ⟨o', es', ep', ho', r'⟩ := hm
    rw [ho] at ho'; cases ho'
    exact ⟨_, es', ep', hL, r'⟩) hok hg
/-- an untracked record of ours (an iterator) has turned -/
theorem Inv.turned {t' : Nat} {it : Addr} (I : Inv X pins σ H s) (k : ∀ b o, b ≠ it → s.heap.get? b = some o → h'.get? b = some o) (hn : H it = none) (hL : it ≠ X.env.locals)
    (h1 : it ∈ X.ex ∨ X.s₀.heap.objs.size ≤ it) (h2 : ∀ x c, X.env.cells.lookup x = some c → c ≠ it) (h3 : ∀ p ∈ X.pn ++ pins, p.1 ≠ it) : Inv X pins σ H { s with heap := h', toks := t' } := by
  have nit : ∀ b u, H b = some u → b ≠ it := fun b u e z => by rw [z, hn] at e; cases e
  refine I.step (g' := s.gens) (d' := s.drawn) (ch := [it]) (fun b hb => ?_) (fun b o _ _ hc e _ => k b o (fun z => hc (by simp [z])) e) (fun b o _ _ hc e _ => ⟨o.slots, k b o (fun z => hc (by simp [z])) e⟩) (fun _ _ _ _ n => n)
    (fun b o hc e => ⟨o, k b o (fun z => hc (by simp [z])) e⟩) (fun _ _ e => e) (fun _ _ _ e => e) (fun b ps e => ⟨#[], by rw [e]; simp⟩) (fun m hm => ?_) (fun b u e => ?_) I.bare
  · have e : b = it := by simpa using hb
    subst e
    exact ⟨h1, hL, h2, h3⟩
  · obtain ⟨o, es, ep, ho, r⟩ := hm
    exact ⟨o, es, ep, k _ o (Ne.symm hL) ho, r⟩
  · refine (I.hok b u e).stay (fun c v hc q => k c v ?_ q) (fun _ q => q) fun _ _ q => q
    rcases hc with z | z
    · rw [z]; exact nit b u e
    · exact nit c _ z
theorem Inv.tok (I : Inv X pins σ H s) (t : Nat) : Inv X pins σ H { s with toks := t } := I.un (h' := s.heap) (t' := t) Un.refl I.hok
/-- all objects kept -/
theorem Inv.kept {t' : Nat} (I : Inv X pins σ H s) (k : ∀ b u, s.heap.get? b = some u → h'.get? b = some u) : Inv X pins σ H { s with heap := h', toks := t' } := I.un (Un.kept k) (I.hok.kept k)
/-- a new object laid and tracked -/
theorem Inv.laid {a : Addr} {o : HO} {t' : Nat} (I : Inv X pins σ H s) (k : ∀ b u, s.heap.get? b = some u → h'.get? b = some u) (hp : s.heap.objs.size ≤ a) (new : ObjOk X.prog X.w (upd H a o) h' a o) :
    Inv X pins σ (upd H a o) { s with heap := h', toks := t' } := I.un (Un.laid k hp (I.hok.fresh hp)) (I.hok.laid k hp new)
/-- an object written -/
theorem Inv.write {x e : Addr} {o : HO} {t' : Nat} (I : Inv X pins σ H s) (mu : Mut (H x)) (he : e = x ∨ H e = some (.own x)) (k : ∀ b u, b ≠ e → s.heap.get? b = some u → h'.get? b = some u) (heo : ∃ u, h'.get? e = some u)
    (new : ObjOk X.prog X.w (upd H x o) h' x o) : Inv X pins σ (upd H x o) { s with heap := h', toks := t' } := I.un (Un.write mu he k heo) (I.hok.write mu he k heo new)
theorem Inv.pins_of {pins' : List (Addr × Obj)} (I : Inv X pins σ H s) (h : ∀ p ∈ pins', s.heap.get? p.1 = some p.2 ∧ H p.1 = none ∧ p.1 ≠ X.env.locals ∧ p.1 ∉ X.fs ∧ ∀ v, p.2.data ≠ .cell v) : Inv X pins' σ H s :=
  ⟨I.ok, I.os, I.bare, I.base, I.loc, I.cell, I.free, I.freeC, fun p hp => (List.mem_append.mp hp).elim (fun z => I.pin p (List.mem_append_left _ z)) (h p), I.hok, I.len⟩

theorem nodup_ix {N : List Str} (hN : N.Nodup) {i j : Nat} {x : Str} (a : N[i]? = some x) (b : N[j]? = some x) : i = j := by
  obtain ⟨h1, e1⟩ := List.getElem?_eq_some_iff.mp a
  obtain ⟨h2, e2⟩ := List.getElem?_eq_some_iff.mp b
  exact (List.getElem_inj hN).mp (e1.trans e2.symm)

/-- a name is stored; what changed -/
theorem store_ok2 {M : Model} {A : Around} {E : Value → Shared → Prop} {i : Nat} {x : Str} {v : V} {u : Value} {Q : Unit → Shared → Prop} (I : Inv X pins σ H s) (hN : X.N.Nodup) (hi : X.N[i]? = some x) (hx : Loc X.env.scope x) (r : RelV v u)
    (h : ∀ s', Inv X pins (σ.set i (some v)) H s' → (∃ a, Heap.SameBut a s.heap s'.heap ∧ (a = X.env.locals ∨ X.env.cells.lookup x = some a)) → Q () s') (hf : X.fn x = true ∨ X.env.scope.names.lookup x = some .local := by first | exact .inl rfl | exact .inr rfl | assumption) : wpAny M A (storeName X.env x u) Q E s := by
  obtain ⟨m, hn, hl⟩ := id I.loc
  have hcls : (X.env.scope.kind == .class || (X.env.scope.kind == .module && X.env.locals != X.env.globals)) = false := by rw [I.ok.kind]; rfl
  have hiσ : i < σ.length := by rw [I.len]; exact (List.getElem?_eq_some_iff.mp hi).1
  have cne := I.cne
  have tracked : ∀ {a : Addr} {h' : Heap}, (∃ o, s.heap.get? a = some o ∧ H a = none) → Heap.SameBut a s.heap h' → HOk X.prog X.w H h' := fun {a h'} ha hs b ob e => by
    obtain ⟨_, _, hfree⟩ := ha
    refine (I.hok b ob e).stay (fun c w' hc q => (hs.2 c ?_).trans q) (fun _ q => q) fun _ _ q => q
    rintro rfl
    rcases hc with rfl | hc
    · rw [hfree] at e; cases e
    · rw [hfree] at hc; cases hc
  rcases hx with hk | hk
  · refine wpAny_storeName_local hk hn (fun h' hn' hs => ?_) hcls
    obtain ⟨oL, _, _, hoL, _⟩ := id hn
    refine h _ ⟨I.ok, I.os, I.bare, ⟨fun b o e n hb hx => ?_, fun b o e n hb hx => ?_, I.base.free, fun b o e hx => ?_, I.base.tups, I.base.frzs, I.base.tbls⟩, ⟨_, hn', fun j y v' e1 e2 e3 => ?_⟩, fun y c e => ?_, I.free, I.freeC, fun p hp => ?_, tracked ⟨oL, hoL, I.free⟩ hs, by simpa using I.len⟩ ⟨_, hs, .inl rfl⟩
    · exact (hs.2 b (Nat.ne_of_lt (Nat.lt_of_lt_of_le (Heap.lt_size e) I.ok.above))).trans (I.base.keep b o e n hb hx)
    · obtain ⟨sl, e1⟩ := I.base.slot b o e n hb hx
      exact ⟨sl, (hs.2 b (Nat.ne_of_lt (Nat.lt_of_lt_of_le (Heap.lt_size e) I.ok.above))).trans e1⟩
    · obtain ⟨o', e1⟩ := I.base.there b o e hx
      exact ⟨o', (hs.2 b (Nat.ne_of_lt (Nat.lt_of_lt_of_le (Heap.lt_size e) I.ok.above))).trans e1⟩
    · by_cases hj : j = i
      · subst hj
        rw [hi] at e1; cases e1
        rw [List.getElem?_set_self hiσ] at e2
        cases e2
        exact ⟨u, r, .inl ⟨hk, by simp⟩⟩
      · rw [List.getElem?_set_ne (Ne.symm hj)] at e2
        obtain ⟨u', r', q⟩ := hl j y v' e1 e2 e3
        refine ⟨u', r', ?_⟩
        rcases q with ⟨k, e⟩ | ⟨k, c, e, z⟩
        · refine .inl ⟨k, ?_⟩
          have : y ≠ x := fun e => hj (nodup_ix hN e1 (e ▸ hi))
          simp [this, e]
        · exact .inr ⟨k, c, e, z.sameBut hs (cne y c e)⟩
    · obtain ⟨w', z⟩ := I.cell y c e
      exact ⟨w', z.sameBut hs (cne y c e)⟩
    · obtain ⟨e, n, ne, nf, d⟩ := I.pin p hp
      exact ⟨(hs.2 p.1 ne).trans e, n, ne, nf, d⟩
  · have hfn : X.fn x = true := by
      rcases hf with z | z
      · exact z
      · rw [z] at hk; cases hk
    obtain ⟨c, hc⟩ := I.ok.has x (.inl hk)
    obtain ⟨w', z⟩ := I.cell x c hc
    refine wpAny_storeName_cell I.ok.kind hk hc z (fun h' hc' hs => ?_)
    obtain ⟨oc, hoc, hocd⟩ := id z
    refine h { s with heap := h' } ⟨I.ok, I.os, I.bare, ⟨fun b o e n hb hx => ?_, fun b o e n hb hx => ?_, I.base.free, fun b o e hx => ?_, I.base.tups, I.base.frzs, I.base.tbls⟩, ⟨m, hn.sameBut hs (Ne.symm (cne x c hc)), fun j y v' e1 e2 e3 => ?_⟩, fun y c' e => ?_, I.free, I.freeC, fun p hp => ?_, tracked ⟨oc, hoc, I.freeC x c hc⟩ hs, by simpa using I.len⟩ ⟨c, hs, .inr hc⟩
    · exact (hs.2 b (Nat.ne_of_lt (Nat.lt_of_lt_of_le (Heap.lt_size e) (I.ok.cab x c hfn hc)))).trans (I.base.keep b o e n hb hx)
    · obtain ⟨sl, e1⟩ := I.base.slot b o e n hb hx
      exact ⟨sl, (hs.2 b (Nat.ne_of_lt (Nat.lt_of_lt_of_le (Heap.lt_size e) (I.ok.cab x c hfn hc)))).trans e1⟩
    · obtain ⟨o', e1⟩ := I.base.there b o e hx
      exact ⟨o', (hs.2 b (Nat.ne_of_lt (Nat.lt_of_lt_of_le (Heap.lt_size e) (I.ok.cab x c hfn hc)))).trans e1⟩
    · by_cases hj : j = i
      · subst hj
        rw [hi] at e1; cases e1
        rw [List.getElem?_set_self hiσ] at e2
        cases e2
        exact ⟨u, r, .inr ⟨.inl hk, c, hc, hc'⟩⟩
      · rw [List.getElem?_set_ne (Ne.symm hj)] at e2
        obtain ⟨u', r', q⟩ := hl j y v' e1 e2 e3
        refine ⟨u', r', ?_⟩
        rcases q with q | ⟨k, c', e, z'⟩
        · exact .inl q
        · refine .inr ⟨k, c', e, z'.sameBut hs ?_⟩
          rintro rfl
          exact hj (nodup_ix hN e1 (I.ok.inj _ _ _ e hc ▸ hi))
    · by_cases hcc : c' = c
      · subst hcc; exact ⟨_, hc'⟩
      · obtain ⟨w2, z2⟩ := I.cell y c' e
        exact ⟨w2, z2.sameBut hs hcc⟩
    · obtain ⟨e, n, ne, nf, d⟩ := I.pin p hp
      refine ⟨(hs.2 p.1 ?_).trans e, n, ne, nf, d⟩
      intro q
      rw [q, hoc] at e
      have q' : oc = p.2 := Option.some.inj e
      exact d w' (by rw [← q']; exact hocd)
theorem store_ok {M : Model} {A : Around} {E : Value → Shared → Prop} {i : Nat} {x : Str} {v : V} {u : Value} {Q : Unit → Shared → Prop} (I : Inv X pins σ H s) (hN : X.N.Nodup) (hi : X.N[i]? = some x) (hx : Loc X.env.scope x) (r : RelV v u)
    (h : ∀ s', Inv X pins (σ.set i (some v)) H s' → Q () s') (hf : X.fn x = true ∨ X.env.scope.names.lookup x = some .local := by first | exact .inl rfl | exact .inr rfl | assumption) : wpAny M A (storeName X.env x u) Q E s :=
  store_ok2 I hN hi hx r (fun s' I' _ => h s' I') hf
/-- behind a call or a block, the state as it is -/
theorem Inv.call' {s' : Shared} {ch : List Addr} (I : Inv X pins σ H s) (ho : s'.os = s.os) (u : Un (frs X.stack) ch H H' s.heap s'.heap) (hok : HOk X.prog X.w H' s'.heap) (hg : AllBare s'.gens)
    (hch : ∀ b ∈ ch, (b ∈ X.ex ∨ X.s₀.heap.objs.size ≤ b) ∧ b ≠ X.env.locals ∧ (∀ x c, X.env.cells.lookup x = some c → c ≠ b) ∧ ∀ p ∈ X.pn ++ pins, p.1 ≠ b) : Inv X pins σ H' s' := by
  obtain ⟨h', g', d', t', o'⟩ := s'
  have e : o' = s.os := ho
  subst e
  exact I.call (g' := g') (t' := t') (d' := d') u hok hg hch
end

/-! ### the judgements -/
/-- an exception: its class, its own dict's address (where it has one), the abstract heap behind it -/
abbrev XK := Value → Option Addr → Hp → Prop
abbrev St := List (Option V)
abbrev VK := V → Hp → Prop
/-- an expression's reading; a test's; an argument list's -/
abbrev TE := St → Hp → VK → Prop
abbrev TT := St → Hp → (Bool → Hp → Prop) → Prop
abbrev TA := St → Hp → (List V → Hp → Prop) → Prop
/-- what is wanted behind a statement -/
structure Ends where
  nx : St → Hp → Prop
  rt : VK
  bk : St → Hp → Prop := fun _ _ => False
  ct : St → Hp → Prop := fun _ _ => False
abbrev TS := Ends → St → Hp → Prop

def EP (X : Cx) (pins : List (Addr × Obj)) (σ : St) (Q : VK) (u : Value) (s' : Shared) : Prop := ∃ v H', Inv X pins σ H' s' ∧ RelV v u ∧ Q v H'
def TP (X : Cx) (pins : List (Addr × Obj)) (σ : St) (Q : Bool → Hp → Prop) (b : Bool) (s' : Shared) : Prop := ∃ H', Inv X pins σ H' s' ∧ Q b H'
def AP (X : Cx) (pins : List (Addr × Obj)) (σ : St) (Q : List V → Hp → Prop) (us : List Value) (s' : Shared) : Prop := ∃ vs H', Inv X pins σ H' s' ∧ Vals vs us ∧ Q vs H'
def SP (X : Cx) (pins : List (Addr × Obj)) (D : Ends) (f : Flow) (s' : Shared) : Prop :=
  match f with
  | .next => ∃ σ' H', Inv X pins σ' H' s' ∧ D.nx σ' H'
  | .brk => ∃ σ' H', Inv X pins σ' H' s' ∧ D.bk σ' H'
  | .cont => ∃ σ' H', Inv X pins σ' H' s' ∧ D.ct σ' H'
  | .ret u => ∃ v σ' H', Inv X pins σ' H' s' ∧ RelV v u ∧ D.rt v H'

def PE (X : Cx) (e : Expr) (t : TE) : Prop :=
  ∀ (pins : List (Addr × Obj)) (s : Shared) (σ : St) (H : Hp) (Q : VK), Inv X pins σ H s → t σ H Q → wpAny (model X.prog X.w) X.A (eval e X.env) (EP X pins σ Q) X.xe s
def PT (X : Cx) (e : Expr) (t : TT) : Prop :=
  ∀ (pins : List (Addr × Obj)) (s : Shared) (σ : St) (H : Hp) (Q : Bool → Hp → Prop), Inv X pins σ H s → t σ H Q → wpAny (model X.prog X.w) X.A (isTrue e X.env (eval e X.env)) (TP X pins σ Q) X.xe s
/-- a test whatever its 'whole' is (and, or) -/
def PW (X : Cx) (e : Expr) (t : TT) : Prop :=
  ∀ (whole : Sem Value) (pins : List (Addr × Obj)) (s : Shared) (σ : St) (H : Hp) (Q : Bool → Hp → Prop), Inv X pins σ H s → t σ H Q → wpAny (model X.prog X.w) X.A (isTrue e X.env whole) (TP X pins σ Q) X.xe s
theorem PW.pt {X : Cx} {e : Expr} {t : TT} (h : PW X e t) : PT X e t := h _
/-- an argument list (no star), from the left -/
def PA (X : Cx) (es : List Expr) (t : TA) : Prop :=
  ∀ (pos : Pos) (pins : List (Addr × Obj)) (s : Shared) (σ : St) (H : Hp) (Q : List V → Hp → Prop), Inv X pins σ H s → t σ H Q → wpAny (model X.prog X.w) X.A (spliced (backTo pos (starEach es X.env))) (AP X pins σ Q) X.xe s
def PS (X : Cx) (st : Stmt) (t : TS) : Prop :=
  ∀ (pins : List (Addr × Obj)) (s : Shared) (σ : St) (H : Hp) (D : Ends), Inv X pins σ H s → t D σ H → wpAny (model X.prog X.w) X.A (exec st X.env) (SP X pins D) X.xe s
def PSs (X : Cx) (st : List Stmt) (t : TS) : Prop :=
  ∀ (pins : List (Addr × Obj)) (s : Shared) (σ : St) (H : Hp) (D : Ends), Inv X pins σ H s → t D σ H → wpAny (model X.prog X.w) X.A (execs st X.env) (SP X pins D) X.xe s
/-- weaken the end -/
theorem thn {α : Type} {t : Sem α} {Q Q' : α → Shared → Prop} {M : Model} {A : Around} {E : Value → Shared → Prop} {s : Shared} (h : wpAny M A t Q E s) (hQ : ∀ a s, Q a s → Q' a s) : wpAny M A t Q' E s := wpAny_mono h hQ fun _ _ x => x
end L2

namespace L2
open PySem PySem.Spec PyProof.Rows
section
variable {X : Cx}

/-- two expressions in a row -/
theorem bin {a b : Expr} {ta tb : TE} (ha : PE X a ta) (hb : PE X b tb) {pins : List (Addr × Obj)} {s : Shared} {σ : St} {H : Hp} {R : V → V → Hp → Prop} (I : Inv X pins σ H s) (h : ta σ H fun x H1 => tb σ H1 fun y H2 => R x y H2)
    {α : Type} {Q : α → Shared → Prop} {f : Value → Value → Sem α}
    (hf : ∀ v u s2 x y H2, Inv X pins σ H2 s2 → RelV x v → RelV y u → R x y H2 → wpAny (model X.prog X.w) X.A (f v u) Q X.xe s2) :
    wpAny (model X.prog X.w) X.A (eval a X.env) (fun v s₁ => wpAny (model X.prog X.w) X.A (eval b X.env) (fun u s₂ => wpAny (model X.prog X.w) X.A (f v u) Q X.xe s₂) X.xe s₁) X.xe s := by
  refine thn (ha pins s σ H _ I h) fun v s1 ⟨x, H1, I1, r1, q1⟩ => ?_
  refine thn (hb pins s1 σ H1 _ I1 q1) fun u s2 ⟨y, H2, I2, r2, q2⟩ => ?_
  exact hf v u s2 x y H2 I2 r1 r2 q2

/-! ### names and constants -/
def tVar (i : Nat) : TE := fun σ H Q => ∃ v, σ[i]? = some (some v) ∧ Q v H
def tC (v : V) : TE := fun _ H Q => Q v H
theorem pe_var {i : Nat} {x : Str} {pos : Pos} (hN : X.N[i]? = some x) (hv : Vis X.env.scope x) (hd : (x == ("__debug__" : Str)) = false := by decide) (hcd : (x == ("__classdict__" : Str)) = false := by decide) : PE X (.Name x pos) (tVar i) := by
  intro pins s σ H Q I h
  obtain ⟨v, e, h⟩ := h
  obtain ⟨m, hn, hl⟩ := I.loc
  obtain ⟨u, r, l⟩ := hl i x v hN e hv
  have fin : EP X pins σ Q u s := ⟨v, H, I, r, h⟩
  rcases l with ⟨hk, hm⟩ | ⟨hk, c, hc, hcell⟩
  · exact wpAny_Name (wpAny_loadName_local I.ok.kind hk hn hm fin) hd
  · rcases hk with hk | hk
    · exact wpAny_Name (wpAny_loadName_cell I.ok.kind hk hc hcell fin) hd
    · exact wpAny_Name (wpAny_loadName_free I.ok.kind hk hc hcell fin hcd) hd
theorem pe_int {i j pos} : PE X (.Constant (.int i) j pos) (tC (.int i)) := fun _ _ _ H _ I h => wpAny_Constant_int ⟨.int i, H, I.tok _, ⟨_, rfl⟩, h⟩
theorem pe_bl {b j pos} : PE X (.Constant (.bool b) j pos) (tC (.bl b)) := fun _ _ _ H _ I h => Constant_bool ⟨.bl b, H, I, rfl, h⟩
theorem pe_non {j pos} : PE X (.Constant .none j pos) (tC .non) := fun _ _ _ H _ I h => Constant_none ⟨.non, H, I, rfl, h⟩
theorem pe_str {x j pos} : PE X (.Constant (.str x) j pos) (tC (.str x)) := fun _ _ _ H _ I h => Calls.Constant_str ⟨.str x, H, I.tok _, ⟨_, rfl⟩, h⟩

/-- a global name of the def -/
def Gl (X : Cx) (x : Str) : Prop := X.env.kindOf x = some .globalImplicit
theorem ld_glob {E : Value → Shared → Prop} {pins : List (Addr × Obj)} {s : Shared} {σ : St} {H : Hp} {x : Str} {u : Value} {pos : Pos} {Q : Value → Shared → Prop} (I : Inv X pins σ H s) (hg : Gl X x) (hm : X.mg x = some u) (h : Q u s)
    (hd : (x == ("__debug__" : Str)) = false := by decide) : wpAny (model X.prog X.w) X.A (eval (.Name x pos) X.env) Q E s :=
  Calls.Name_function_global I.ok.kind hg (Calls.loadGlobal_global (by rw [I.ok.glob]; exact I.mod.glob.keeps I.bk) hm h) hd
theorem ld_blt {E : Value → Shared → Prop} {pins : List (Addr × Obj)} {s : Shared} {σ : St} {H : Hp} {x : Str} {u : Value} {pos : Pos} {Q : Value → Shared → Prop} (I : Inv X pins σ H s) (hg : Gl X x) (hm : X.mg x = none) (hv : bootBuiltins x = some u) (h : Q u s)
    (hn : x ≠ "__name__" := by decide) (hd : (x == ("__debug__" : Str)) = false := by decide) : wpAny (model X.prog X.w) X.A (eval (.Name x pos) X.env) Q E s := by
  obtain ⟨mb, h1, h2⟩ := I.mod.blt
  exact Calls.Name_function_global I.ok.kind hg (Calls.loadGlobal_builtin (by rw [I.ok.glob]; exact I.mod.glob.keeps I.bk) hm (by rw [I.ok.blt]; exact h1.keeps I.bk) ((h2 x hn).trans hv) h) hd
/-- a module's constant, a class, a function, as a value -/
theorem pe_glob {x : Str} {v : V} {u : Value} {pos : Pos} (hg : Gl X x) (hm : X.mg x = some u) (r : RelV v u) (hd : (x == ("__debug__" : Str)) = false := by decide) : PE X (.Name x pos) (tC v) :=
  fun _ _ _ H _ I h => ld_glob I hg hm ⟨v, H, I, r, h⟩ hd
theorem pe_bltn {x : Str} {v : V} {u : Value} {pos : Pos} (hg : Gl X x) (hm : X.mg x = none) (hv : bootBuiltins x = some u) (r : RelV v u) (hn : x ≠ "__name__" := by decide) (hd : (x == ("__debug__" : Str)) = false := by decide) : PE X (.Name x pos) (tC v) :=
  fun _ _ _ H _ I h => ld_blt I hg hm hv ⟨v, H, I, r, h⟩ hn hd

/-! ### arithmetic -/
variable {a b : Expr} {ta tb : TE} {pos : Pos}
/-! ### comparisons -/
def PC (X : Cx) (op : CmpOp) (a b : Expr) (t : TE) : Prop :=
  ∀ (pins : List (Addr × Obj)) (s : Shared) (σ : St) (H : Hp) (Q : VK), Inv X pins σ H s → t σ H Q →
    wpAny (model X.prog X.w) X.A (eval a X.env) (fun v s₁ => wpAny (model X.prog X.w) X.A (eval b X.env) (fun u s₂ => wpAny (model X.prog X.w) X.A (compareOp op v u) (EP X pins σ Q) X.xe s₂) X.xe s₁) X.xe s
/-- a comparison as a value, as a test -/
def tB (t : TE) : TT := fun σ H Q => t σ H fun x H1 => ∃ c, x = .bl c ∧ Q c H1
theorem pt_cmp {op : CmpOp} {t : TE} (h : PC X op a b t) (h1 : behindInMarks op b = false := by first | exact nobehind _ (by decide) (by decide) | rfl) : PT X (.Compare a [op] [b] pos) (tB t) := by
  intro pins s σ H Q I hw
  refine wpAny_isTrue_Compare1 (thn (h pins s σ H _ I hw) fun v s1 h1 => thn h1 fun u s2 h2 => thn h2 fun c s3 ⟨x, H1, I1, r1, q1⟩ => ?_) h1
  obtain ⟨d, rfl, q⟩ := q1
  cases r1
  exact wpAny_truthy_bool ⟨H1, I1, q⟩
/-- an expression whose value is a bool, as a test -/
theorem pt_val {e : Expr} {t : TE} (h : PE X e t) (he : ∀ whole, isTrue e X.env whole = (do let v ← whole; standAt e.pos; holding [v] (truthy v)) := by intro _; rfl) : PT X e (tB t) := by
  intro pins s σ H Q I hw
  refine isTrue_plain (thn (h pins s σ H _ I hw) fun v s1 ⟨x, H1, I1, r1, q1⟩ => ?_) (he _)
  obtain ⟨d, rfl, q⟩ := q1
  cases r1
  exact wpAny_truthy_bool ⟨H1, I1, q⟩

/-! ### and, or, not -/
variable {tA tB' : TT} {rest : List Expr}
def tAnd (t u : TT) : TT := fun σ H Q => t σ H fun c H1 => if c = true then u σ H1 Q else Q false H1
def tOr (t u : TT) : TT := fun σ H Q => t σ H fun c H1 => if c = true then Q true H1 else u σ H1 Q
def tNot (t : TT) : TT := fun σ H Q => t σ H fun c H1 => Q (!c) H1
theorem pw_and1 (ha : PT X a tA) : PW X (.BoolOp .And [a] pos) tA := by
  intro wh pins s σ H Q I h
  refine isTrue_and (thn (ha pins s σ H Q I h) fun c s1 e => ?_)
  cases c with
  | true => exact isTrue_and_nil e
  | false => exact e
theorem pw_or1 (ha : PT X a tA) : PW X (.BoolOp .Or [a] pos) tA := by
  intro wh pins s σ H Q I h
  refine isTrue_or (thn (ha pins s σ H Q I h) fun c s1 e => ?_)
  cases c with
  | false => exact isTrue_or_nil e
  | true => exact e
theorem pw_and (ha : PT X a tA) (hb : PW X (.BoolOp .And (b :: rest) pos) tB') : PW X (.BoolOp .And (a :: b :: rest) pos) (tAnd tA tB') := by
  intro wh pins s σ H Q I h
  refine isTrue_and (thn (ha pins s σ H _ I h) fun c s1 ⟨H1, I1, q1⟩ => ?_)
  cases c with
  | true => exact hb wh pins s1 σ H1 Q I1 q1
  | false => exact ⟨H1, I1, q1⟩
theorem pw_or (ha : PT X a tA) (hb : PW X (.BoolOp .Or (b :: rest) pos) tB') : PW X (.BoolOp .Or (a :: b :: rest) pos) (tOr tA tB') := by
  intro wh pins s σ H Q I h
  refine isTrue_or (thn (ha pins s σ H _ I h) fun c s1 ⟨H1, I1, q1⟩ => ?_)
  cases c with
  | true => exact ⟨H1, I1, q1⟩
  | false => exact hb wh pins s1 σ H1 Q I1 q1
theorem pt_not (ha : PT X a tA) : PT X (.UnaryOp .Not a pos) (tNot tA) := by
  intro pins s σ H Q I h
  exact isTrue_not (ha pins s σ H (fun c H1 => Q (!c) H1) I h)
/-- .. as values (bools) -/
def tAndV (ta tb : TE) : TE := fun σ H Q => ta σ H fun x H1 => ∃ c, x = .bl c ∧ if c = true then tb σ H1 Q else Q (.bl false) H1
def tNotV (ta : TE) : TE := fun σ H Q => ta σ H fun x H1 => ∃ c, x = .bl c ∧ Q (.bl (!c)) H1
theorem pe_one {op} {t : TE} (h : PE X a t) : PE X (.BoolOp op [a] pos) t := fun pins s σ H Q I hw => BoolOp_one (h pins s σ H Q I hw)
theorem pe_and (ha : PE X a ta) (hb : PE X (.BoolOp .And (b :: rest) pos) tb) : PE X (.BoolOp .And (a :: b :: rest) pos) (tAndV ta tb) := by
  intro pins s σ H Q I h
  refine BoolOp_and (thn (ha pins s σ H _ I h) fun v s1 ⟨x, H1, I1, r1, q1⟩ => ?_)
  obtain ⟨c, rfl, q1⟩ := q1
  cases r1
  refine wpAny_truthy_bool ?_
  cases c with
  | true => exact hb pins s1 σ H1 Q I1 q1
  | false => exact ⟨.bl false, H1, I1, rfl, q1⟩
theorem pe_not (ha : PE X a ta) : PE X (.UnaryOp .Not a pos) (tNotV ta) := by
  intro pins s σ H Q I h
  refine UnaryOp_ (thn (ha pins s σ H _ I h) fun v s1 ⟨x, H1, I1, r1, q1⟩ => ?_)
  obtain ⟨c, rfl, q1⟩ := q1
  cases r1
  exact not_of (wpAny_truthy_bool ⟨.bl (!c), H1, I1, rfl, q1⟩)
/-- a if t else b -/
def tIf (t : TT) (ta tb : TE) : TE := fun σ H Q => t σ H fun c H1 => if c = true then ta σ H1 Q else tb σ H1 Q
theorem pe_ifExp {c : Expr} (hc : PT X c tA) (ha : PE X a ta) (hb : PE X b tb) : PE X (.IfExp c a b pos) (tIf tA ta tb) := by
  intro pins s σ H Q I h
  refine wpAny_IfExp (thn (hc pins s σ H _ I h) fun d s1 ⟨H1, I1, q1⟩ => ?_)
  cases d with
  | true => exact ha pins s1 σ H1 Q I1 q1
  | false => exact hb pins s1 σ H1 Q I1 q1
end
end L2

namespace L2
open PySem PySem.Spec PyProof.Rows

/-! ### a list, a tuple that is read: tracked, frozen, or an object of the module -/
def SqL (K : PySem.W.Frag) (H : Hp) (a : Addr) (xs : List V) : Prop :=
  Rd H a (.lst xs) ∨
    ∃ (o : Obj) (its : Array Value) (n : Nat), K.lookup a = some o ∧ o.cls = .type "list" ∧ o.dict = none ∧ o.data = .seq its n ∧ its.size ≤ sizeLine ∧ Vals xs its.toList
def SqT (K : PySem.W.Frag) (H : Hp) (a : Addr) (xs : List V) : Prop :=
  Rd H a (.tup xs) ∨
    ∃ (o : Obj) (its : Array Value) (n : Nat), K.lookup a = some o ∧ o.cls = .type "tuple" ∧ o.data = .seq its n ∧ its.size ≤ sizeLine ∧ Vals xs its.toList
def absV : Value → Option V
  | .none => some .non
  | .bool b => some (.bl b)
  | .int i _ => some (.int i)
  | .str x _ => some (.str x)
  | .bytes b _ => some (.byt b)
  | .float b _ => some (.flt b)
  | .ref a => some (.ref a)
  | .type n => some (.ty n)
  | _ => none
theorem RelV.abs {x : V} {u : Value} (r : RelV x u) : absV u = some x := by
  cases x with
  | non => cases r; rfl
  | bl _ => cases r; rfl
  | int _ => obtain ⟨t, rfl⟩ := r; rfl
  | str _ => obtain ⟨t, rfl⟩ := r; rfl
  | byt _ => obtain ⟨t, rfl⟩ := r; rfl
  | flt _ => obtain ⟨t, rfl⟩ := r; rfl
  | ref _ => cases r; rfl
  | ty _ => cases r; rfl
theorem RelV.inj {x y : V} {u : Value} (r : RelV x u) (q : RelV y u) : x = y := Option.some.inj (r.abs.symm.trans q.abs)
theorem Vals.inj : ∀ {xs ys : List V} {us : List Value}, Vals xs us → Vals ys us → xs = ys
  | _, _, _, .nil, .nil => rfl
  | _, _, _, .cons r t, .cons r' t' => by rw [r.inj r', Vals.inj t t']
section
variable {X : Cx} {pins : List (Addr × Obj)} {σ : St} {H : Hp} {s : Shared} {a : Addr} {xs ys : List V}
theorem SqL.of {K : PySem.W.Frag} (h : H a = some (.lst xs)) : SqL K H a xs := .inl (.inl h)
theorem SqT.of {K : PySem.W.Frag} (h : H a = some (.tup xs)) : SqT K H a xs := .inl (.inl h)
theorem Inv.list (I : Inv X pins σ H s) (h : SqL X.K H a xs) : ∃ its : List Value, Vals xs its ∧ PlainL s.heap a its.toArray ∧ xs.length ≤ sizeLine := by
  rcases h with h | ⟨o, its, n, hk, hc, hd, hs, hz, r⟩
  · obtain ⟨z, its, n, r, e⟩ := h.ok I.hok
    exact ⟨its, r, ⟨_, n, e, rfl, rfl, rfl⟩, z⟩
  · refine ⟨its.toList, r, ⟨o, n, I.kIn a o hk, hc, hd, by simpa using hs⟩, ?_⟩
    have e := r.length
    simp only [Array.length_toList] at e
    omega
theorem Inv.tuple (I : Inv X pins σ H s) (h : SqT X.K H a xs) : ∃ its : List Value, Vals xs its ∧ IsTup s.heap a its.toArray ∧ xs.length ≤ sizeLine := by
  rcases h with h | ⟨o, its, n, hk, hc, hs, hz, r⟩
  · obtain ⟨z, its, r, p⟩ := h.ok I.hok
    exact ⟨its, r, p, z⟩
  · refine ⟨its.toList, r, ⟨o, I.kIn a o hk, hc, n, by simpa using hs⟩, ?_⟩
    have e := r.length
    simp only [Array.length_toList] at e
    omega
theorem Inv.list_inj (I : Inv X pins σ H s) (h : SqL X.K H a xs) (h' : SqL X.K H a ys) : xs = ys := by
  obtain ⟨its, r, ⟨o, n, e, _, _, d⟩, _⟩ := I.list h
  obtain ⟨its', r', ⟨o', n', e', _, _, d'⟩, _⟩ := I.list h'
  rw [e] at e'; cases e'
  rw [d] at d'
  injection d' with d1 _
  have : its = its' := by simpa using congrArg Array.toList d1
  subst this
  exact r.inj r'
theorem Inv.tuple_inj (I : Inv X pins σ H s) (h : SqT X.K H a xs) (h' : SqT X.K H a ys) : xs = ys := by
  obtain ⟨its, r, ⟨o, e, _, n, d⟩, _⟩ := I.tuple h
  obtain ⟨its', r', ⟨o', e', _, n', d'⟩, _⟩ := I.tuple h'
  rw [e] at e'; cases e'
  rw [d] at d'
  injection d' with d1 _
  have : its = its' := by simpa using congrArg Array.toList d1
  subst this
  exact r.inj r'
end

/-! ### another wish about exceptions -/
abbrev Cx.wish (X : Cx) (E : Value → Shared → Prop) : Cx := { X with xe := E }
/-- no exception leaves -/
abbrev Cx.nox (X : Cx) : Cx := X.wish fun _ _ => False
theorem Cx.Ok.wish {X : Cx} (ok : X.Ok) (E : Value → Shared → Prop) : (X.wish E).Ok :=
  ⟨ok.mod, ok.kind, ok.glob, ok.blt, ok.above, ok.inj, ok.has, ok.cab, ok.hd, ok.frames, ok.stk, ok.exf, ok.bs, ok.bsz, ok.noex, ok.exfs, ok.funs, ok.frf⟩
theorem Cx.Ok.unwish {X : Cx} {E : Value → Shared → Prop} (ok : (X.wish E).Ok) : X.Ok :=
  ⟨ok.mod, ok.kind, ok.glob, ok.blt, ok.above, ok.inj, ok.has, ok.cab, ok.hd, ok.frames, ok.stk, ok.exf, ok.bs, ok.bsz, ok.noex, ok.exfs, ok.funs, ok.frf⟩
section
variable {X : Cx} {pins : List (Addr × Obj)} {σ : St} {H : Hp} {s : Shared} {E : Value → Shared → Prop}
theorem Inv.wish (I : Inv X pins σ H s) (E : Value → Shared → Prop) : Inv (X.wish E) pins σ H s := ⟨I.ok.wish E, I.os, I.bare, I.base, I.loc, I.cell, I.free, I.freeC, I.pin, I.hok, I.len⟩
theorem Inv.unwish (I : Inv (X.wish E) pins σ H s) : Inv X pins σ H s := ⟨I.ok.unwish, I.os, I.bare, I.base, I.loc, I.cell, I.free, I.freeC, I.pin, I.hok, I.len⟩
theorem SP.unwish {D : Ends} {f : Flow} {s' : Shared} (h : SP (X.wish E) pins D f s') : SP X pins D f s' := by
  cases f with
  | next => obtain ⟨σ', H', I, q⟩ := h; exact ⟨σ', H', I.unwish, q⟩
  | brk => obtain ⟨σ', H', I, q⟩ := h; exact ⟨σ', H', I.unwish, q⟩
  | cont => obtain ⟨σ', H', I, q⟩ := h; exact ⟨σ', H', I.unwish, q⟩
  | ret u => obtain ⟨v, σ', H', I, r, q⟩ := h; exact ⟨v, σ', H', I.unwish, r, q⟩
theorem PSs.nox {st : List Stmt} {t : TS} (h : PSs X.nox st t) : PSs X st t := fun pins s σ H D I hw =>
  wpAny_mono (h pins s σ H D (I.wish _) hw) (fun _ _ q => q.unwish) fun _ _ z => False.elim z
end

/-! ### blocks and small statements -/
section
variable {X : Cx} {st : Stmt} {rest : List Stmt} {t u : TS} {e : Expr} {te : TE} {pos : Pos}
def tNext : TS := fun D σ H => D.nx σ H
def tSeq (t u : TS) : TS := fun D σ H => t { D with nx := u D } σ H
theorem pss_nil : PSs X [] tNext := fun _ _ σ H _ I h => wpAny_execs_nil ⟨σ, H, I, h⟩
theorem pss_cons (h1 : PS X st t) (h2 : PSs X rest u) : PSs X (st :: rest) (tSeq t u) := by
  intro pins s σ H D I h
  refine wpAny_execs_cons (thn (h1 pins s σ H { D with nx := u D } I h) fun f s1 q => ?_)
  cases f with
  | next =>
    obtain ⟨σ', H', I', q⟩ := q
    exact h2 pins s1 σ' H' D I' q
  | ret v => exact q
  | brk => exact q
  | cont => exact q
theorem pss_one (h1 : PS X st t) : PSs X [st] t := by
  intro pins s σ H D I h
  refine wpAny_execs_cons (thn (h1 pins s σ H D I h) fun f s1 q => ?_)
  cases f with
  | next => exact wpAny_execs_nil q
  | ret v => exact q
  | brk => exact q
  | cont => exact q
/-- in a def's body nothing is shown -/
theorem Inv.quiet {pins : List (Addr × Obj)} {σ : St} {H : Hp} {s : Shared} (I : Inv X pins σ H s) : interactive X.env = false := by simp [interactive, I.ok.kind]
/-- an expression whose value is dropped -/
def tDrop (te : TE) : TS := fun D σ H => te σ H fun _ H1 => D.nx σ H1
theorem ps_expr (he : PE X e te) (hs : swapsWith e none pos.line X.env = pure false := by rfl) : PS X (.Expr e pos) (tDrop te) := by
  intro pins s σ H D I h
  exact wpAny_Expr_any (thn (he pins s σ H _ I h) fun v s1 ⟨x, H1, I1, r1, q1⟩ => ⟨σ, H1, I1, q1⟩) I.quiet hs
def tRet (te : TE) : TS := fun D σ H => te σ H D.rt
theorem ps_ret (he : PE X e te) : PS X (.Return (some e) pos) (tRet te) := by
  intro pins s σ H D I h
  exact wpAny_Return_some (thn (he pins s σ H _ I h) fun v s1 ⟨x, H1, I1, r1, q1⟩ => ⟨x, σ, H1, I1, r1, q1⟩)
def tIfS (c : TT) (t u : TS) : TS := fun D σ H => c σ H fun b H1 => if b = true then t D σ H1 else u D σ H1
theorem ps_if {c : Expr} {a b : List Stmt} {tc : TT} (hc : PT X c tc) (ha : PSs X a t) (hb : PSs X b u) : PS X (.If c a b pos) (tIfS tc t u) := by
  intro pins s σ H D I h
  refine wpAny_If (thn (hc pins s σ H _ I h) fun d s1 ⟨H1, I1, q1⟩ => ?_)
  cases d with
  | true => exact ha pins s1 σ H1 D I1 q1
  | false => exact hb pins s1 σ H1 D I1 q1
end

/-! ### targets -/
abbrev TG := V → St → Hp → (St → Hp → Prop) → Prop
abbrev TGs := List V → St → Hp → (St → Hp → Prop) → Prop
def PG (X : Cx) (target : Expr) (t : TG) : Prop :=
  ∀ (pins : List (Addr × Obj)) (s : Shared) (σ : St) (H : Hp) (v : V) (u : Value) (Q : St → Hp → Prop), Inv X pins σ H s → RelV v u → t v σ H Q →
    wpAny (model X.prog X.w) X.A (assign target X.env u) (fun _ s' => ∃ σ' H', Inv X pins σ' H' s' ∧ Q σ' H') X.xe s
/-- several targets, one after another -/
def PGs (X : Cx) (ts : List Expr) (t : TGs) : Prop :=
  ∀ (pins : List (Addr × Obj)) (s : Shared) (σ : St) (H : Hp) (vs : List V) (us : List Value) (Q : St → Hp → Prop), Inv X pins σ H s → Vals vs us → t vs σ H Q →
    wpAny (model X.prog X.w) X.A (assignInOrder ((assignEach ts X.env).map (·.2)) us) (fun _ s' => ∃ σ' H', Inv X pins σ' H' s' ∧ Q σ' H') X.xe s
/-- o[i] = v, by values -/
abbrev TSet := V → V → V → Hp → (Hp → Prop) → Prop
def PSet (X : Cx) (t : TSet) : Prop :=
  ∀ (pins : List (Addr × Obj)) (s : Shared) (σ : St) (H : Hp) (o i v : V) (ov iv u : Value) (Q : Hp → Prop), Inv X pins σ H s → RelV o ov → RelV i iv → RelV v u → t o i v H Q →
    wpAny (model X.prog X.w) X.A (setItem ov iv u) (fun _ s' => ∃ H', Inv X pins σ H' s' ∧ Q H') X.xe s
/-- a op= b, by values -/
abbrev TIp := V → V → Hp → VK → Prop
def PIp (X : Cx) (op : Operator) (t : TIp) : Prop :=
  ∀ (pins : List (Addr × Obj)) (s : Shared) (σ : St) (H : Hp) (x y : V) (v u : Value) (Q : VK), Inv X pins σ H s → RelV x v → RelV y u → t x y H Q →
    wpAny (model X.prog X.w) X.A (inplaceOp op v u) (EP X pins σ Q) X.xe s
section
variable {X : Cx} {pos : Pos}
def gName (i : Nat) : TG := fun v σ H Q => Q (σ.set i (some v)) H
theorem pg_name {i : Nat} {x : Str} (hN : X.N.Nodup) (hi : X.N[i]? = some x) (hx : Loc X.env.scope x) (hf : X.fn x = true ∨ X.env.scope.names.lookup x = some .local := by first | exact .inl rfl | exact .inr rfl | assumption) : PG X (.Name x pos) (gName i) := by
  intro pins s σ H v u Q I r h
  exact wpAny_assign_Name (store_ok I hN hi hx r (fun s' I' => ⟨_, H, I', h⟩) hf)
def gNil : TGs := fun vs σ H Q => vs = [] ∧ Q σ H
def gCons (t : TG) (u : TGs) : TGs := fun vs σ H Q => ∃ v r, vs = v :: r ∧ t v σ H fun σ' H' => u r σ' H' Q
theorem pgs_nil : PGs X [] gNil := by
  intro pins s σ H vs us Q I r h
  obtain ⟨e, h⟩ := h
  subst e
  cases r
  exact assignInOrder_nil ⟨σ, H, I, h⟩
theorem pgs_cons {e : Expr} {es : List Expr} {t : TG} {u : TGs} (h1 : PG X e t) (h2 : PGs X es u)
    (hs : (assignEach (e :: es) X.env).map (·.2) = assign e X.env :: (assignEach es X.env).map (·.2) := by rfl) : PGs X (e :: es) (gCons t u) := by
  intro pins s σ H vs us Q I r h
  obtain ⟨v, vr, e1, h⟩ := h
  subst e1
  cases r with
  | cons r rr =>
    rw [hs]
    refine assignInOrder_cons (thn (h1 pins s σ H _ _ _ I r h) fun _ s1 ⟨σ1, H1, I1, q1⟩ => ?_)
    exact h2 pins s1 σ1 H1 _ _ Q I1 rr q1
/-- (a, b, ..) = a tuple of that length -/
def gTup (K : PySem.W.Frag) (n : Nat) (t : TGs) : TG := fun v σ H Q => ∃ a xs, v = .ref a ∧ SqT K H a xs ∧ xs.length = n ∧ t xs σ H Q
theorem pg_tup {es : List Expr} {k : Nat} {t : TGs} {n : Nat} (hc : X.calm = true) (h : PGs X es t)
    (hn : (assignEach es X.env).length = n := by rfl) (hst : (assignEach es X.env).findIdx? (·.1) = none := by rfl) : PG X (.Tuple es k pos) (gTup X.K n t) := by
  intro pins s σ H v u Q I r hw
  obtain ⟨a, xs, e1, hq, hl, hw⟩ := hw
  subst e1
  cases r
  obtain ⟨its, rv, ht, hz⟩ := I.tuple hq
  refine assign_Tuple_tuple (I.ok.hd hc) ht (by simp [hn, ← hl, rv.length]) hst fun h' hx => ?_
  have I1 : Inv X pins σ H { s with heap := h' } := I.kept (t' := s.toks) fun b o e => hx b o (Nat.ne_of_lt (Heap.lt_size e)) e
  exact h pins _ σ H xs _ Q I1 (by simpa using rv) hw
/-- o[i] = .. -/
def gSub (to ti : TE) (t : TSet) : TG := fun v σ H Q => to σ H fun o H1 => ti σ H1 fun i H2 => t o i v H2 fun H3 => Q σ H3
theorem pg_sub {o i : Expr} {to ti : TE} {t : TSet} (ho : PE X o to) (hi : PE X i ti) (hs : PSet X t)
    (ha : ∀ v, assign (.Subscript o i pos) X.env v = (do
      let ov ← holding [v] (eval o X.env)
      let iv ← holding [v, ov] (eval i X.env)
      standAt pos
      holding [v, ov, iv] (setItem ov iv v)
      release [v, ov, iv] []) := by intro _; rfl) : PG X (.Subscript o i pos) (gSub to ti t) := by
  intro pins s σ H v u Q I r h
  rw [ha]
  refine wpAny_bind (wpAny_holding (thn (ho pins s σ H _ I h) fun ov s1 ⟨x, H1, I1, r1, q1⟩ => ?_))
  refine wpAny_bind (wpAny_holding (thn (hi pins s1 σ H1 _ I1 q1) fun iv s2 ⟨y, H2, I2, r2, q2⟩ => ?_))
  refine wpAny_bind (wpAny_standAt (wpAny_bind (wpAny_holding (thn (hs pins s2 σ H2 x y v ov iv u _ I2 r1 r2 r q2) fun _ s3 ⟨H3, I3, q3⟩ => ?_))))
  exact wpAny_release ⟨σ, H3, I3, q3⟩
/-- target = value -/
def tAsg (te : TE) (g : TG) : TS := fun D σ H => te σ H fun x H1 => g x σ H1 D.nx
theorem ps_asg {tg e : Expr} {te : TE} {g : TG} (he : PE X e te) (hg : PG X tg g) (hs : swapsWithSole [tg] e pos.line X.env = pure false := by rfl) (hw : swappedStores [tg] e X.env = pure none := by rfl)
    (h1 : (assignEach [tg] X.env).map (·.2) = [assign tg X.env] := by rfl) : PS X (.Assign [tg] e pos) (tAsg te g) := by
  intro pins s σ H D I h
  refine wpAny_Assign_stores (thn (he pins s σ H _ I h) fun v s1 ⟨x, H1, I1, r1, q1⟩ => ?_) hs hw
  rw [h1]
  exact thn (hg pins s1 σ H1 x v _ I1 r1 q1) fun _ s2 q => q
/-- name = value -/
theorem ps_set {i : Nat} {x : Str} {e : Expr} {te : TE} {pos' : Pos} (hN : X.N.Nodup) (hi : X.N[i]? = some x) (hx : Loc X.env.scope x) (he : PE X e te) (hs : swapsWith e (some (.Name x pos')) pos.line X.env = pure false := by rfl) (hf : X.fn x = true ∨ X.env.scope.names.lookup x = some .local := by first | exact .inl rfl | exact .inr rfl | assumption) :
    PS X (.Assign [.Name x pos'] e pos) (tAsg te (gName i)) := by
  intro pins s σ H D I h
  refine wpAny_Assign_Name (thn (he pins s σ H _ I h) fun v s1 ⟨y, H1, I1, r1, q1⟩ => ?_) hs
  exact store_ok I1 hN hi hx r1 (fun s2 I2 => ⟨_, H1, I2, q1⟩) hf
/-- name op= e -/
def tAug (i : Nat) (te : TE) (ti : TIp) : TS := fun D σ H => ∃ x, σ[i]? = some (some x) ∧ te σ H fun y H1 => ti x y H1 fun z H2 => D.nx (σ.set i (some z)) H2
theorem ps_aug {i : Nat} {x : Str} {e : Expr} {te : TE} {op : Operator} {ti : TIp} {pos' : Pos} (hN : X.N.Nodup) (hi : X.N[i]? = some x) (hx : Loc X.env.scope x) (he : PE X e te) (ho : PIp X op ti) (hf : X.fn x = true ∨ X.env.scope.names.lookup x = some .local := by first | exact .inl rfl | exact .inr rfl | assumption) :
    PS X (.AugAssign (.Name x pos') op e pos) (tAug i te ti) := by
  intro pins s σ H D I h
  obtain ⟨v, e1, h⟩ := h
  obtain ⟨m, hn, hl⟩ := I.loc
  have vis : Vis X.env.scope x := by rcases hx with k | k; exact .inl k; exact .inr (.inl k)
  obtain ⟨u, r, l⟩ := hl i x v hi e1 vis
  refine wpAny_AugAssign_Name ?_
  have go : wpAny (model X.prog X.w) X.A (eval e X.env) (fun w s₂ => wpAny (model X.prog X.w) X.A (inplaceOp op u w) (fun r s₃ => wpAny (model X.prog X.w) X.A (storeName X.env x r) (fun _ => SP X pins D .next) X.xe s₃) X.xe s₂) X.xe s := by
    refine thn (he pins s σ H _ I h) fun w s1 ⟨y, H1, I1, r1, q1⟩ => ?_
    refine thn (ho pins s1 σ H1 v y u w _ I1 r r1 q1) fun z s2 ⟨zv, H2, I2, r2, q2⟩ => ?_
    exact store_ok I2 hN hi hx r2 (fun s3 I3 => ⟨_, H2, I3, q2⟩) hf
  rcases l with ⟨hk, hm⟩ | ⟨hk, c, hc, hcell⟩
  · exact wpAny_loadName_local I.ok.kind hk hn hm go
  · rcases hk with hk | hk
    · exact wpAny_loadName_cell I.ok.kind hk hc hcell go
    · rcases hx with k | k
      · have : X.env.scope.names.lookup x = some .free := hk
        rw [k] at this; cases this
      · have : X.env.scope.names.lookup x = some .free := hk
        rw [k] at this; cases this
/-- ints -/
def ipI (f : Int → Int → Int) : TIp := fun x y H Q => ∃ i j, x = .int i ∧ y = .int j ∧ Q (.int (f i j)) H
theorem ip_add : PIp X .Add (ipI fun i j => i + j) := by
  intro pins s σ H x y v u Q I r1 r2 h
  obtain ⟨i, j, e1, e2, q⟩ := h
  subst e1; subst e2
  obtain ⟨t, rfl⟩ := r1
  obtain ⟨t', rfl⟩ := r2
  exact iadd_int ⟨.int _, H, I.tok _, ⟨_, rfl⟩, q⟩
end

/-! ### while -/
section
variable {X : Cx} {pos : Pos}
/-- the invariant W with its measure -/
def tWhile (c : TT) (tb : TS) : TS := fun D σ H => ∃ W : Nat → St → Hp → Prop, (∃ m, W m σ H) ∧ ∀ m σ H, W m σ H →
  c σ H fun b H1 => if b = true then ∃ N : St → Hp → Prop, (∀ σ' H', N σ' H' → ∃ m', m' < m ∧ W m' σ' H') ∧ tb { D with nx := N, ct := N, bk := D.nx } σ H1 else D.nx σ H1
theorem ps_while {c : Expr} {body : List Stmt} {tc : TT} {tb : TS} (hp : PassesOwn (model X.prog X.w) X.A X.env X.xe) (hc : PT X c tc) (hb : PSs X body tb) : PS X (.While c body [] pos) (tWhile tc tb) := by
  intro pins s σ H D I h
  obtain ⟨W, ⟨m0, w0⟩, turn⟩ := h
  refine wpAny_While (codeAny_whileLoop (fun n s' => ∃ σ' H', Inv X pins σ' H' s' ∧ W n σ' H') ?_ m0 ⟨σ, H, I, w0⟩)
  rintro n s1 ⟨σ1, H1, I1, w1⟩
  refine wpAny_passesOwn hp (thn (hc pins s1 σ1 H1 _ I1 (turn n σ1 H1 w1)) fun b s2 ⟨H2, I2, q2⟩ => ?_)
  cases b with
  | true =>
    obtain ⟨N, hN, q2⟩ := q2
    rw [if_pos rfl]
    refine wpAny_passesOwn hp (thn (hb pins s2 σ1 H2 _ I2 q2) fun f s3 q3 => ?_)
    cases f with
    | next =>
      obtain ⟨σ3, H3, I3, n3⟩ := q3
      obtain ⟨m', hm, w3⟩ := hN σ3 H3 n3
      exact ⟨m', hm, σ3, H3, I3, w3⟩
    | cont =>
      obtain ⟨σ3, H3, I3, n3⟩ := q3
      obtain ⟨m', hm, w3⟩ := hN σ3 H3 n3
      exact ⟨m', hm, σ3, H3, I3, w3⟩
    | brk => exact q3
    | ret v => exact q3
  | false =>
    rw [if_neg Bool.false_ne_true]
    exact wpAny_execs_nil ⟨σ1, H2, I2, q2⟩
end

/-! ### what a loop or a comprehension walks -/
/-- at turn i: it yields x (the heap may grow), or it stops -/
structure It where
  go : Nat → Hp → Prop
  yld : Nat → Hp → V → Hp → Prop
  stop : Nat → Hp → Prop
/-- the iterator's own objects may turn: they are not the frame's, not pinned, younger than the entry (or a comprehension's own) -/
def FpOk (X : Cx) (pins : List (Addr × Obj)) (H : Hp) (b : Addr) : Prop :=
  H b = none ∧ b ≠ X.env.locals ∧ b ∉ X.fs ∧ (b ∈ X.ex ∨ X.s₀.heap.objs.size ≤ b) ∧ (∀ x c, X.env.cells.lookup x = some c → c ≠ b) ∧ ∀ p ∈ X.pn ++ pins, p.1 ≠ b
theorem Inv.fpOk {X : Cx} {pins : List (Addr × Obj)} {σ : St} {H H' : Hp} {s : Shared} {b : Addr} (I : Inv X pins σ H s) (hb : s.heap.objs.size ≤ b) (hn : H' b = none) : FpOk X pins H' b := by
  refine ⟨hn, Nat.ne_of_gt (Nat.lt_of_lt_of_le I.lt hb), I.nofs hb, .inr (Nat.le_trans I.sz hb), fun x c e z => ?_, fun p hp z => ?_⟩
  · obtain ⟨v, q⟩ := I.cell x c e
    exact absurd (Nat.lt_of_lt_of_le q.lt (by rw [z]; exact hb)) (Nat.lt_irrefl _)
  · exact absurd (Nat.lt_of_lt_of_le (Heap.lt_size (I.pin p hp).1) (by rw [z]; exact hb)) (Nat.lt_irrefl _)
structure Turn (P : Program) (w : World) (K : PySem.W.Frag) (tg : Expr) (J : It) (fp : List Addr) (it : Addr) (tn : Nat → Heap → Prop) : Prop where
  mem : it ∈ fp
  obj : ∀ i h, tn i h → ∀ b ∈ fp, ∃ o, h.get? b = some o ∧ ∀ v, o.data ≠ .cell v
  keep : ∀ i h h', tn i h → (∀ b ∈ fp, ∀ o, h.get? b = some o → h'.get? b = some o) → tn i h'
  item : ∀ (X : Cx), X.prog = P → X.w = w → X.K = K → X.calm = true → ∀ (i : Nat) (pins : List (Addr × Obj)) (s : Shared) (σ : St) (H : Hp) (E : Value → Shared → Prop), Inv X pins σ H s → (∀ b ∈ fp, FpOk X pins H b) → tn i s.heap → J.go i H →
    wpAny (model P w) X.A (pyNext (.ref it)) (fun r s1 => ∃ u, r = some u ∧
      wpAny (model P w) X.A (letOwnedTupleGo tg (.ref it) u) (fun _ s2 => ∃ x H', Inv X pins σ H' s2 ∧ RelV x u ∧ J.yld i H x H' ∧ tn (i + 1) s2.heap ∧ ∀ b ∈ fp, H' b = none) E s1) E s
  done : ∀ (X : Cx), X.prog = P → X.w = w → X.K = K → X.calm = true → ∀ (i : Nat) (pins : List (Addr × Obj)) (s : Shared) (σ : St) (H : Hp) (E : Value → Shared → Prop), Inv X pins σ H s → (∀ b ∈ fp, FpOk X pins H b) → tn i s.heap → J.stop i H →
    wpAny (model P w) X.A (pyNext (.ref it)) (fun r s1 => r = none ∧ Inv X pins σ H s1) E s
  self : ∀ (A : Around) (i : Nat) (s : Shared) (Q : Value → Shared → Prop) (E : Value → Shared → Prop), tn i s.heap → Q (.ref it) s → wpAny (model P w) A (pyIter (.ref it)) Q E s
abbrev TI := St → Hp → (It → Hp → Prop) → Prop
/-- an iterator has come -/
def PIE (X : Cx) (pins : List (Addr × Obj)) (σ : St) (tg : Expr) (R : It → Hp → Prop) (itv : Value) (s2 : Shared) : Prop :=
  ∃ (it : Addr) (fp : List Addr) (tn : Nat → Heap → Prop) (J : It) (H' : Hp), itv = .ref it ∧ Inv X pins σ H' s2 ∧ Turn X.prog X.w X.K tg J fp it tn ∧ tn 0 s2.heap ∧ (∀ b ∈ fp, FpOk X pins H' b) ∧ R J H'
def PI (X : Cx) (tg iter : Expr) (wi : TI) : Prop :=
  ∀ (pins : List (Addr × Obj)) (s : Shared) (σ : St) (H : Hp) (R : It → Hp → Prop), Inv X pins σ H s → wi σ H R →
    wpAny (model X.prog X.w) X.A (eval iter X.env) (fun v s1 => wpAny (model X.prog X.w) X.A (pyIter v) (PIE X pins σ tg R) X.xe s1) X.xe s

/-- the step ahead of the store is nothing for an iterator that keeps no tuple -/
theorem go_of {M : Model} {A : Around} {E : Value → Shared → Prop} {s : Shared} {tg : Expr} {it : Addr} {u : Value} {o : Obj} {n : String} {vs : Array Value} {Q : Unit → Shared → Prop} (ho : s.heap.get? it = some o) (hc : o.cls = .type n) (hd : o.data = .fields vs)
    (hn : ["enumerate", "zip", "dict_itemiterator", "dict_reverseitemiterator", "odict_iterator", "itertools.zip_longest", "itertools.pairwise"].contains n = false) (hQ : Q () s) : wpAny M A (letOwnedTupleGo tg (.ref it) u) Q E s := by
  unfold letOwnedTupleGo
  cases tg <;> first
    | exact wpAny_pure hQ
    | (cases u <;> first
        | exact wpAny_pure hQ
        | (refine wpAny_bind (wpAny_load ho ?_)
           rw [hc, hd]
           show wpAny M A (if (["enumerate", "zip", "dict_itemiterator", "dict_reverseitemiterator", "odict_iterator", "itertools.zip_longest", "itertools.pairwise"].contains n && vs[0]? == some (rawInt _)) = true then _ else _) Q E s
           rw [if_neg (by intro h; rw [hn, Bool.false_and] at h; cases h)]
           exact wpAny_pure hQ))

/-- the list at a, as it stands at each turn (a loop may append to it) -/
def Itl (K : PySem.W.Frag) (a : Addr) : It :=
  ⟨fun i H => ∃ xs x, SqL K H a xs ∧ xs[i]? = some x, fun i H x H' => H' = H ∧ ∀ xs, SqL K H a xs → xs[i]? = some x, fun i H => ∃ xs, SqL K H a xs ∧ xs.length ≤ i⟩
def Itt (K : PySem.W.Frag) (a : Addr) : It :=
  ⟨fun i H => ∃ xs x, SqT K H a xs ∧ xs[i]? = some x, fun i H x H' => H' = H ∧ ∀ xs, SqT K H a xs → xs[i]? = some x, fun i H => ∃ xs, SqT K H a xs ∧ xs.length ≤ i⟩
/-- lo, lo + 1, .. (n of them) -/
def Itr (lo : Int) (n : Nat) : It := ⟨fun i _ => i < n, fun i H x H' => H' = H ∧ x = .int (lo + i), fun i _ => n ≤ i⟩
theorem turn_list {P : Program} {w : World} {K : PySem.W.Frag} {tg : Expr} (a it : Addr) : Turn P w K tg (Itl K a) [it] it (fun i h => h.IsListIter it a i) where
  mem := by simp
  obj := fun i h st b hb => by
    have e : b = it := by simpa using hb
    subst e
    obtain ⟨o, e, c, d⟩ := st
    exact ⟨o, e, fun v z => by rw [d] at z; cases z⟩
  keep := fun i h h' st k => st.at fun o e => k it (by simp) o e
  item := by
    intro X hP hw hK hc i pins s σ H E I hf st hg
    subst hP hw hK
    obtain ⟨xs, x, hq, hx⟩ := hg
    obtain ⟨its, rv, p, hz⟩ := I.list hq
    obtain ⟨u, hu, ru⟩ := rv.get hx
    obtain ⟨f0, f1, f2, f3, f4, f5⟩ := hf it (by simp)
    refine wpAny_pyNext_list_item st p.isList (x := u) (by simpa using hu) fun h' st' sb => ?_
    have I1 : Inv X pins σ H { s with heap := h' } := I.turned (t' := s.toks) (fun b o hb e => (sb.2 b hb).trans e) f0 f1 f3 f4 f5
    obtain ⟨o, e, c, d⟩ := id st'
    exact ⟨u, rfl, go_of (s := { s with heap := h' }) e c d (by decide) ⟨x, H, I1, ru, ⟨rfl, fun ys hy => by rw [I.list_inj hy hq]; exact hx⟩, st', fun b hb => (hf b hb).1⟩⟩
  done := by
    intro X hP hw hK hc i pins s σ H E I hf st hg
    subst hP hw hK
    obtain ⟨xs, hq, hx⟩ := hg
    obtain ⟨its, rv, p, hz⟩ := I.list hq
    obtain ⟨f0, f1, f2, f3, f4, f5⟩ := hf it (by simp)
    have hl := rv.length
    exact wpAny_pyNext_list_end (I.ok.hd hc) st p.isList (by simp; omega) fun h' eb => ⟨rfl, I.turned (t' := s.toks) (fun b o hb e => eb b o hb e) f0 f1 f3 f4 f5⟩
  self := fun _ _ _ _ _ st h => wpAny_pyIter_listiter st h
theorem turn_tuple {P : Program} {w : World} {K : PySem.W.Frag} {tg : Expr} (a it : Addr) : Turn P w K tg (Itt K a) [it] it (fun i h => h.IsTupleIter it a i) where
  mem := by simp
  obj := fun i h st b hb => by
    have e : b = it := by simpa using hb
    subst e
    obtain ⟨o, e, c, d⟩ := st
    exact ⟨o, e, fun v z => by rw [d] at z; cases z⟩
  keep := fun i h h' st k => st.at fun o e => k it (by simp) o e
  item := by
    intro X hP hw hK hc i pins s σ H E I hf st hg
    subst hP hw hK
    obtain ⟨xs, x, hq, hx⟩ := hg
    obtain ⟨its, rv, p, hz⟩ := I.tuple hq
    obtain ⟨u, hu, ru⟩ := rv.get hx
    obtain ⟨f0, f1, f2, f3, f4, f5⟩ := hf it (by simp)
    refine wpAny_pyNext_tuple_item st (show s.heap.IsTuple a its.toArray from p) (x := u) (by simpa using hu) fun h' st' sb => ?_
    have I1 : Inv X pins σ H { s with heap := h' } := I.turned (t' := s.toks) (fun b o hb e => (sb.2 b hb).trans e) f0 f1 f3 f4 f5
    obtain ⟨o, e, c, d⟩ := id st'
    exact ⟨u, rfl, go_of (s := { s with heap := h' }) e c d (by decide) ⟨x, H, I1, ru, ⟨rfl, fun ys hy => by rw [I.tuple_inj hy hq]; exact hx⟩, st', fun b hb => (hf b hb).1⟩⟩
  done := by
    intro X hP hw hK hc i pins s σ H E I hf st hg
    subst hP hw hK
    obtain ⟨xs, hq, hx⟩ := hg
    obtain ⟨its, rv, p, hz⟩ := I.tuple hq
    obtain ⟨f0, f1, f2, f3, f4, f5⟩ := hf it (by simp)
    have hl := rv.length
    exact wpAny_pyNext_tuple_end (I.ok.hd hc) st (show s.heap.IsTuple a its.toArray from p) (by simp; omega) fun h' eb => ⟨rfl, I.turned (t' := s.toks) (fun b o hb e => eb b o hb e) f0 f1 f3 f4 f5⟩
  self := fun _ _ _ _ _ st h => wpAny_pyIter_tupleiter st h
theorem turn_range {P : Program} {w : World} {K : PySem.W.Frag} {tg : Expr} (it : Addr) (lo : Int) (n : Nat) : Turn P w K tg (Itr lo n) [it] it (fun i h => IsRangeIter h it (lo + (i : Nat) * 1) ((n : Int) - (i : Nat)) 1) where
  mem := by simp
  obj := fun i h st b hb => by
    have e : b = it := by simpa using hb
    subst e
    exact ⟨_, st, fun v z => by
      have z' : Data.fields _ = Data.cell v := z
      cases z'⟩
  keep := fun i h h' st k => k it (by simp) _ st
  item := by
    intro X hP hw hK hc i pins s σ H E I hf st hg
    subst hP hw hK
    obtain ⟨f0, f1, f2, f3, f4, f5⟩ := hf it (by simp)
    have W := Walks.range (prog := X.prog) (w := X.w) (I.ok.hd hc) it lo 1 n
    refine W.item i s _ _ hg st fun v h' tk hv st' kk => ?_
    obtain ⟨t, rfl⟩ := hv
    have I1 : Inv X pins σ H { s with heap := h', toks := tk } := I.turned (fun b o hb e => kk b o (by simpa using hb) e) f0 f1 f3 f4 f5
    refine ⟨_, rfl, go_of (s := { s with heap := h', toks := tk }) (n := "range_iterator") st' rfl rfl (by decide) ⟨.int (lo + i), H, I1, ⟨t, ?_⟩, ⟨rfl, rfl⟩, st', fun b hb => (hf b hb).1⟩⟩
    rw [Int.mul_one]
  done := by
    intro X hP hw hK hc i pins s σ H E I hf st hg
    subst hP hw hK
    obtain ⟨f0, f1, f2, f3, f4, f5⟩ := hf it (by simp)
    exact wpAny_pyNext_range_end (I.ok.hd hc) st (by have : n ≤ i := hg; omega) fun h' eb => ⟨rfl, I.turned (t' := s.toks) (fun b o hb e => eb b o hb e) f0 f1 f3 f4 f5⟩
  self := fun _ _ _ _ _ st h => wpAny_pyIter_rangeiter st h
end L2

namespace L2
open PySem PySem.Spec PyProof.Rows
section
variable {X : Cx} {tg : Expr}
def iList (K : PySem.W.Frag) (tl : TE) : TI := fun σ H R => tl σ H fun x H1 => ∃ a, x = .ref a ∧ (∃ xs, SqL K H1 a xs) ∧ R (Itl K a) H1
def iTup (K : PySem.W.Frag) (tl : TE) : TI := fun σ H R => tl σ H fun x H1 => ∃ a, x = .ref a ∧ (∃ xs, SqT K H1 a xs) ∧ R (Itt K a) H1
theorem pi_list {l : Expr} {tl : TE} (hl : PE X l tl) : PI X tg l (iList X.K tl) := by
  intro pins s σ H R I h
  refine thn (hl pins s σ H _ I h) fun v s1 ⟨x, H1, I1, r1, q1⟩ => ?_
  obtain ⟨a, e, ⟨xs, hq⟩, q⟩ := q1
  subst e
  cases r1
  obtain ⟨its, rv, p, hz⟩ := I1.list hq
  refine wpAny_pyIter_list p.isList ?_
  refine ⟨s1.heap.objs.size, [s1.heap.objs.size], _, _, H1, rfl, I1.kept (t' := s1.toks) fun b o e => Heap.get?_push_of_some _ e, turn_list a _, ⟨_, Heap.get?_push_size _ rfl, rfl, rfl⟩, fun b hb => ?_, q⟩
  have e : b = s1.heap.objs.size := by simpa using hb
  subst e
  exact I1.fpOk (Nat.le_refl _) (I1.hok.fresh (Nat.le_refl _))
theorem pi_tup {l : Expr} {tl : TE} (hl : PE X l tl) : PI X tg l (iTup X.K tl) := by
  intro pins s σ H R I h
  refine thn (hl pins s σ H _ I h) fun v s1 ⟨x, H1, I1, r1, q1⟩ => ?_
  obtain ⟨a, e, ⟨xs, hq⟩, q⟩ := q1
  subst e
  cases r1
  obtain ⟨its, rv, p, hz⟩ := I1.tuple hq
  refine wpAny_pyIter_tuple (show s1.heap.IsTuple a its.toArray from p) ?_
  refine ⟨s1.heap.objs.size, [s1.heap.objs.size], _, _, H1, rfl, I1.kept (t' := s1.toks) fun b o e => Heap.get?_push_of_some _ e, turn_tuple a _, ⟨_, Heap.get?_push_size _ rfl, rfl, rfl⟩, fun b hb => ?_, q⟩
  have e : b = s1.heap.objs.size := by simpa using hb
  subst e
  exact I1.fpOk (Nat.le_refl _) (I1.hok.fresh (Nat.le_refl _))
/-- a range object just made, walked -/
theorem range_it {pins : List (Addr × Obj)} {σ : St} {H : Hp} {s : Shared} {R : It → Hp → Prop} {E : Value → Shared → Prop} {lo hi : Int} {t u v : Tok} {tk : Nat} (I : Inv X pins σ H s) (h1 : -(2 ^ 62) ≤ lo) (h2 : lo < 2 ^ 62) (h3 : -(2 ^ 62) ≤ hi) (h4 : hi < 2 ^ 62)
    (q : R (Itr lo (hi - lo).toNat) H) : wpAny (model X.prog X.w) X.A (pyIter (.ref s.heap.objs.size)) (PIE X pins σ tg R) E { s with heap := s.heap.push { cls := .type "range", data := .fields #[.int lo t, .int hi u, .int 1 v] }, toks := tk } := by
  refine wpAny_pyIter_range (IsRange.new ..) (small_one h1 h2 h3 h4) ?_
  have I1 : Inv X pins σ H { s with heap := s.heap.push { cls := .type "range", data := .fields #[.int lo t, .int hi u, .int 1 v] }, toks := tk } := I.kept fun b o e => Heap.get?_push_of_some _ e
  refine ⟨(s.heap.push { cls := .type "range", data := .fields #[.int lo t, .int hi u, .int 1 v] }).objs.size, [(s.heap.push { cls := .type "range", data := .fields #[.int lo t, .int hi u, .int 1 v] }).objs.size], _, _, H, rfl,
    I1.kept (t' := tk) fun b o e => Heap.get?_push_of_some _ e, turn_range _ lo (hi - lo).toNat, ?_, fun b hb => ?_, q⟩
  · have e1 : lo + ((0 : Nat) : Int) * 1 = lo := by simp
    have e2 : (((hi - lo).toNat : Nat) : Int) - ((0 : Nat) : Int) = Builtin.Range.rangeSize lo hi 1 := by rw [rangeSize_one]; split <;> omega
    show IsRangeIter _ _ (lo + ((0 : Nat) : Int) * 1) ((((hi - lo).toNat : Nat) : Int) - ((0 : Nat) : Int)) 1
    rw [e1, e2]
    exact Heap.get?_push_size _ rfl
  · have e : b = (s.heap.push { cls := .type "range", data := .fields #[.int lo t, .int hi u, .int 1 v] }).objs.size := by simpa using hb
    subst e
    exact I1.fpOk (Nat.le_refl _) (I1.hok.fresh (Nat.le_refl _))
def iRng1 (ta : TA) : TI := fun σ H R => ta σ H fun vs H1 => ∃ j : Int, vs = [.int j] ∧ -(2 ^ 62) ≤ j ∧ j < 2 ^ 62 ∧ R (Itr 0 j.toNat) H1
def iRng2 (ta : TA) : TI := fun σ H R => ta σ H fun vs H1 => ∃ i j : Int, vs = [.int i, .int j] ∧ (-(2 ^ 62) ≤ i ∧ i < 2 ^ 62 ∧ -(2 ^ 62) ≤ j ∧ j < 2 ^ 62) ∧ R (Itr i (j - i).toNat) H1
theorem pi_range1 {a : Expr} {ta : TA} {p pos : Pos} (hg : Gl X "range") (hm : X.mg "range" = none) (ha : PA X [a] ta) (hs : starEach [a] X.env = [(false, eval a X.env)] := by rfl) : PI X tg (.Call (.Name "range" p) [a] [] pos) (iRng1 ta) := by
  intro pins s σ H R I h
  refine Call_ (ld_blt I hg hm boot_range (PyProof.Rows.callWith_type1 (thn (ha pos pins s σ H _ I h) fun us s1 ⟨vs, H1, I1, r1, q1⟩ => ?_) hs rfl))
  obtain ⟨j, e, q1, q2, q⟩ := q1
  subst e
  cases r1 with
  | cons r rr =>
    cases rr
    obtain ⟨t, rfl⟩ := r
    exact call_range_1 (range_it I1 (by omega) (by omega) q1 q2 (by simpa using q))
theorem pi_range2 {a b : Expr} {ta : TA} {p pos : Pos} (hg : Gl X "range") (hm : X.mg "range" = none) (ha : PA X [a, b] ta) (hs : starEach [a, b] X.env = [(false, eval a X.env), (false, eval b X.env)] := by rfl) (hs2 : starEach [b] X.env = [(false, eval b X.env)] := by rfl) :
    PI X tg (.Call (.Name "range" p) [a, b] [] pos) (iRng2 ta) := by
  intro pins s σ H R I h
  refine Call_ (ld_blt I hg hm boot_range (PyProof.Rows.callWith_type1 (thn (ha pos pins s σ H _ I h) fun us s1 ⟨vs, H1, I1, r1, q1⟩ => ?_) (by rw [hs, hs2]) (by rw [hs2]; rfl)))
  obtain ⟨i, j, e, ⟨q1, q2, q3, q4⟩, q⟩ := q1
  subst e
  cases r1 with
  | cons r rr =>
    cases rr with
    | cons r' rr =>
      cases rr
      obtain ⟨t, rfl⟩ := r
      obtain ⟨t', rfl⟩ := r'
      exact call_range_2 (range_it I1 q1 q2 q3 q4 q)

/-! ### for -/
/-- W: the invariant by the turn and a measure; N: what the body is to reach -/
def tFor (wi : TI) (g : TG) (tb : TS) : TS := fun D σ H => wi σ H fun J H1 => ∃ W : Nat → Nat → St → Hp → Prop, (∃ m, W 0 m σ H1) ∧ ∀ i m σ H, W i m σ H →
  (J.stop i H ∧ D.nx σ H) ∨ (J.go i H ∧ ∃ N : St → Hp → Prop, (∀ σ' H', N σ' H' → ∃ m', m' < m ∧ W (i + 1) m' σ' H') ∧ ∀ x H', J.yld i H x H' → g x σ H' fun σ2 H2 => tb { D with nx := N, ct := N, bk := D.nx } σ2 H2)
/-- the records at fp as they stand -/
def pinsAt (fp : List Addr) (h : Heap) : List (Addr × Obj) := fp.filterMap fun b => (h.get? b).map fun o => (b, o)
theorem mem_pinsAt {fp : List Addr} {h : Heap} {b : Addr} {o : Obj} (hb : b ∈ fp) (e : h.get? b = some o) : (b, o) ∈ pinsAt fp h := List.mem_filterMap.mpr ⟨b, hb, by rw [e]; rfl⟩
theorem of_pinsAt {fp : List Addr} {h : Heap} {p : Addr × Obj} (hp : p ∈ pinsAt fp h) : p.1 ∈ fp ∧ h.get? p.1 = some p.2 := by
  obtain ⟨b, hb, e⟩ := List.mem_filterMap.mp hp
  cases q : h.get? b with
  | none => rw [q] at e; cases e
  | some o =>
    rw [q] at e
    have e' : (b, o) = p := Option.some.inj e
    subst e'
    exact ⟨hb, q⟩
theorem Inv.pinned {pins : List (Addr × Obj)} {σ : St} {H : Hp} {s : Shared} {fp : List Addr} (I : Inv X pins σ H s) (hf : ∀ b ∈ fp, FpOk X pins H b) (ho : ∀ b ∈ fp, ∃ o, s.heap.get? b = some o ∧ ∀ v, o.data ≠ .cell v) : Inv X (pins ++ pinsAt fp s.heap) σ H s :=
  I.pins_of fun p hp => (List.mem_append.mp hp).elim (fun z => I.pin p (List.mem_append_right _ z)) fun z => by
    obtain ⟨hb, e⟩ := of_pinsAt z
    obtain ⟨f0, f1, f2, _⟩ := hf p.1 hb
    obtain ⟨o, e', d⟩ := ho p.1 hb
    rw [e] at e'; cases e'
    exact ⟨e, f0, f1, f2, d⟩
theorem Inv.unpinned {pins pl : List (Addr × Obj)} {σ : St} {H : Hp} {s : Shared} (I : Inv X (pins ++ pl) σ H s) : Inv X pins σ H s := I.pins_of fun p hp => I.pin p (List.mem_append_right _ (List.mem_append_left _ hp))
theorem ps_for {iter : Expr} {body : List Stmt} {wi : TI} {g : TG} {tb : TS} {pos : Pos} (hp : PassesOwn (model X.prog X.w) X.A X.env X.xe) (hc : X.calm = true) (hi : PI X tg iter wi) (hg : PG X tg g) (hb : PSs X body tb)
    (hs : ∀ x, foldedSetIterable iter X.env x = pure x := by intro _; rfl) : PS X (.For tg iter body [] pos) (tFor wi g tb) := by
  intro pins s σ H D I h
  refine wpAny_For (thn (hi pins s σ H _ I h) fun v s1 h1 => thn h1 fun itv s2 h2 => ?_) hs
  obtain ⟨it, fp, tn, J, H2, e, I2, T, st2, f2, W, ⟨m0, w0⟩, turn⟩ := h2
  subst e
  -- what stays true of the iterator's objects through the loop
  have stat : ∀ {H' : Hp}, (∀ b ∈ fp, H' b = none) → ∀ b ∈ fp, FpOk X pins H' b := fun hn b hb => ⟨hn b hb, (f2 b hb).2⟩
  refine codeAny_forLoop_any (fun n s' => ∃ i σ' H', Inv X pins σ' H' s' ∧ tn i s'.heap ∧ (∀ b ∈ fp, H' b = none) ∧ W i n σ' H') ?_ m0 ⟨0, σ, H2, I2, st2, fun b hb => (f2 b hb).1, w0⟩
  rintro n s3 ⟨i, σ3, H3, I3, st3, fr3, w3⟩
  rcases turn i n σ3 H3 w3 with ⟨stop, qn⟩ | ⟨go, N, hN, step⟩
  · refine wpAny_passesOwn hp (thn (T.done X rfl rfl rfl hc i pins s3 σ3 H3 X.xe I3 (stat fr3) st3 stop) fun r s4 ⟨hr, I4⟩ => ?_)
    subst hr
    exact wpAny_execs_nil ⟨σ3, H3, I4, qn⟩
  · refine wpAny_passesOwn hp (thn (T.item X rfl rfl rfl hc i pins s3 σ3 H3 X.xe I3 (stat fr3) st3 go) fun r s4 ⟨u, hr, h4⟩ => ?_)
    subst hr
    refine wpAny_passesOwn hp (thn h4 fun _ s5 ⟨x, H5, I5, r5, y5, st5, fr5⟩ => ?_)
    have I5' := I5.pinned (stat fr5) (T.obj _ _ st5)
    refine wpAny_passesOwn hp (thn (hg _ s5 σ3 H5 x u _ I5' r5 (step x H5 y5)) fun _ s6 ⟨σ6, H6, I6, q6⟩ => ?_)
    refine wpAny_passesOwn hp (thn (hb _ s6 σ6 H6 _ I6 q6) fun f s7 q7 => ?_)
    have again : ∀ {σ7 : St} {H7 : Hp}, Inv X (pins ++ pinsAt fp s5.heap) σ7 H7 s7 → N σ7 H7 → ∃ m, m < n ∧ ∃ i σ' H', Inv X pins σ' H' s7 ∧ tn i s7.heap ∧ (∀ b ∈ fp, H' b = none) ∧ W i m σ' H' := fun {σ7 H7} I7 n7 => by
      obtain ⟨m', hm, w7⟩ := hN σ7 H7 n7
      refine ⟨m', hm, i + 1, σ7, H7, I7.unpinned, T.keep _ _ _ st5 fun b hb o e => (I7.pin (b, o) (List.mem_append_right _ (List.mem_append_right _ (mem_pinsAt hb e)))).1, fun b hb => ?_, w7⟩
      obtain ⟨o, e, d⟩ := T.obj _ _ st5 b hb
      exact (I7.pin (b, o) (List.mem_append_right _ (List.mem_append_right _ (mem_pinsAt hb e)))).2.1
    cases f with
    | next => obtain ⟨σ7, H7, I7, n7⟩ := q7; exact again I7 n7
    | cont => obtain ⟨σ7, H7, I7, n7⟩ := q7; exact again I7 n7
    | brk => obtain ⟨σ7, H7, I7, q7⟩ := q7; exact ⟨σ7, H7, I7.unpinned, q7⟩
    | ret v => obtain ⟨x7, σ7, H7, I7, r7, q7⟩ := q7; exact ⟨x7, σ7, H7, I7.unpinned, r7, q7⟩
end

/-! ### the forms one uses -/
/-- over a list that the body leaves as it is -/
theorem for_list {K : PySem.W.Frag} {a : Addr} {xs : List V} {g : TG} {tb : TS} {D : Ends} {σ : St} {H : Hp} (Pv : Nat → St → Hp → Prop) (h0 : Pv 0 σ H) (hl : ∀ i σ H, i ≤ xs.length → Pv i σ H → SqL K H a xs)
    (hs : ∀ i x σ H, xs[i]? = some x → Pv i σ H → g x σ H fun σ2 H2 => tb { D with nx := Pv (i + 1), ct := Pv (i + 1), bk := D.nx } σ2 H2) (hd : ∀ σ H, Pv xs.length σ H → D.nx σ H) :
    ∃ W : Nat → Nat → St → Hp → Prop, (∃ m, W 0 m σ H) ∧ ∀ i m σ H, W i m σ H →
      ((Itl K a).stop i H ∧ D.nx σ H) ∨ ((Itl K a).go i H ∧ ∃ N : St → Hp → Prop, (∀ σ' H', N σ' H' → ∃ m', m' < m ∧ W (i + 1) m' σ' H') ∧ ∀ x H', (Itl K a).yld i H x H' → g x σ H' fun σ2 H2 => tb { D with nx := N, ct := N, bk := D.nx } σ2 H2) := by
  refine ⟨fun i m σ H => m = xs.length - i ∧ i ≤ xs.length ∧ Pv i σ H, ⟨xs.length, by simp, Nat.zero_le _, h0⟩, ?_⟩
  rintro i m σ H ⟨rfl, hi, p⟩
  have q := hl i σ H hi p
  by_cases hlt : i < xs.length
  · refine .inr ⟨⟨xs, xs[i], q, by simp [hlt]⟩, Pv (i + 1), fun σ' H' p' => ⟨xs.length - (i + 1), by omega, rfl, hlt, p'⟩, fun x H' y => ?_⟩
    obtain ⟨e, y⟩ := y
    subst e
    exact hs i x σ _ (y xs q) p
  · have e : i = xs.length := by omega
    subst e
    exact .inl ⟨⟨xs, q, Nat.le_refl _⟩, hd σ H p⟩
theorem for_tup {K : PySem.W.Frag} {a : Addr} {xs : List V} {g : TG} {tb : TS} {D : Ends} {σ : St} {H : Hp} (Pv : Nat → St → Hp → Prop) (h0 : Pv 0 σ H) (hl : ∀ i σ H, i ≤ xs.length → Pv i σ H → SqT K H a xs)
    (hs : ∀ i x σ H, xs[i]? = some x → Pv i σ H → g x σ H fun σ2 H2 => tb { D with nx := Pv (i + 1), ct := Pv (i + 1), bk := D.nx } σ2 H2) (hd : ∀ σ H, Pv xs.length σ H → D.nx σ H) :
    ∃ W : Nat → Nat → St → Hp → Prop, (∃ m, W 0 m σ H) ∧ ∀ i m σ H, W i m σ H →
      ((Itt K a).stop i H ∧ D.nx σ H) ∨ ((Itt K a).go i H ∧ ∃ N : St → Hp → Prop, (∀ σ' H', N σ' H' → ∃ m', m' < m ∧ W (i + 1) m' σ' H') ∧ ∀ x H', (Itt K a).yld i H x H' → g x σ H' fun σ2 H2 => tb { D with nx := N, ct := N, bk := D.nx } σ2 H2) := by
  refine ⟨fun i m σ H => m = xs.length - i ∧ i ≤ xs.length ∧ Pv i σ H, ⟨xs.length, by simp, Nat.zero_le _, h0⟩, ?_⟩
  rintro i m σ H ⟨rfl, hi, p⟩
  have q := hl i σ H hi p
  by_cases hlt : i < xs.length
  · refine .inr ⟨⟨xs, xs[i], q, by simp [hlt]⟩, Pv (i + 1), fun σ' H' p' => ⟨xs.length - (i + 1), by omega, rfl, hlt, p'⟩, fun x H' y => ?_⟩
    obtain ⟨e, y⟩ := y
    subst e
    exact hs i x σ _ (y xs q) p
  · have e : i = xs.length := by omega
    subst e
    exact .inl ⟨⟨xs, q, Nat.le_refl _⟩, hd σ H p⟩
theorem for_range {lo : Int} {n : Nat} {g : TG} {tb : TS} {D : Ends} {σ : St} {H : Hp} (Pv : Nat → St → Hp → Prop) (h0 : Pv 0 σ H)
    (hs : ∀ i σ H, i < n → Pv i σ H → g (.int (lo + i)) σ H fun σ2 H2 => tb { D with nx := Pv (i + 1), ct := Pv (i + 1), bk := D.nx } σ2 H2) (hd : ∀ σ H, Pv n σ H → D.nx σ H) :
    ∃ W : Nat → Nat → St → Hp → Prop, (∃ m, W 0 m σ H) ∧ ∀ i m σ H, W i m σ H →
      ((Itr lo n).stop i H ∧ D.nx σ H) ∨ ((Itr lo n).go i H ∧ ∃ N : St → Hp → Prop, (∀ σ' H', N σ' H' → ∃ m', m' < m ∧ W (i + 1) m' σ' H') ∧ ∀ x H', (Itr lo n).yld i H x H' → g x σ H' fun σ2 H2 => tb { D with nx := N, ct := N, bk := D.nx } σ2 H2) := by
  refine ⟨fun i m σ H => m = n - i ∧ i ≤ n ∧ Pv i σ H, ⟨n, by simp, Nat.zero_le _, h0⟩, ?_⟩
  rintro i m σ H ⟨rfl, hi, p⟩
  by_cases hlt : i < n
  · refine .inr ⟨hlt, Pv (i + 1), fun σ' H' p' => ⟨n - (i + 1), by omega, rfl, hlt, p'⟩, fun x H' y => ?_⟩
    obtain ⟨e, y⟩ := y
    subst e y
    exact hs i σ _ hlt p
  · have e : i = n := by omega
    subst e
    exact .inl ⟨Nat.le_refl _, hd σ H p⟩
end L2

namespace L2
open PySem PySem.Spec PyProof.Rows

abbrev R2 := V → V → Hp → VK → Prop
/-- a two-place operation on values: f is binaryOp op, inplaceOp op or compareOp op -/
def OpR (X : Cx) (f : Value → Value → Sem Value) (r : R2) : Prop :=
  ∀ (pins : List (Addr × Obj)) (s : Shared) (σ : St) (H : Hp) (x y : V) (v u : Value) (Q : VK), Inv X pins σ H s → RelV x v → RelV y u → r x y H Q →
    wpAny (model X.prog X.w) X.A (f v u) (EP X pins σ Q) X.xe s
/-- a call of a value that is known (a builtin, a type) with values -/
def CallR (X : Cx) (f : Value) (r : List V → Hp → VK → Prop) : Prop :=
  ∀ (pins : List (Addr × Obj)) (s : Shared) (σ : St) (H : Hp) (xs : List V) (us : List Value) (Q : VK), Inv X pins σ H s → Vals xs us → r xs H Q →
    wpAny (model X.prog X.w) X.A (call f us) (EP X pins σ Q) X.xe s
/-- a value's truth -/
def TruR (X : Cx) (r : V → Hp → (Bool → Hp → Prop) → Prop) : Prop :=
  ∀ (pins : List (Addr × Obj)) (s : Shared) (σ : St) (H : Hp) (x : V) (v : Value) (Q : Bool → Hp → Prop), Inv X pins σ H s → RelV x v → r x H Q →
    wpAny (model X.prog X.w) X.A (truthy v) (TP X pins σ Q) X.xe s

def tOp (r : R2) (ta tb : TE) : TE := fun σ H Q => ta σ H fun x H1 => tb σ H1 fun y H2 => r x y H2 Q
/-- ints in, under C, and a value out -/
def rI (C : Int → Int → Prop) (g : Int → Int → V) : R2 := fun x y H Q => ∃ i j, x = .int i ∧ y = .int j ∧ C i j ∧ Q (g i j) H
def rI0 (g : Int → Int → V) : R2 := fun x y H Q => ∃ i j, x = .int i ∧ y = .int j ∧ Q (g i j) H
section
variable {X : Cx} {a b c : Expr} {ta tb tc : TE} {pos : Pos}

theorem binT (ha : PE X a ta) (hb : PE X b tb) {pins : List (Addr × Obj)} {s : Shared} {σ : St} {H : Hp} {R : V → V → Hp → Prop} (I : Inv X pins σ H s)
    (h : ta σ H fun x H1 => tb σ H1 fun y H2 => R x y H2) {Q : Value → Shared → Prop} {f : Value → Value → Sem Value}
    (hf : ∀ v u s2 x y H2, Inv X pins σ H2 s2 → RelV x v → RelV y u → R x y H2 → wpAny (model X.prog X.w) X.A (f v u) Q X.xe s2) :
    wpAny (model X.prog X.w) X.A (eval a X.env) (fun v s₁ => wpAny (model X.prog X.w) X.A (eval b X.env) (fun u s₂ => wpAny (model X.prog X.w) X.A (f v u) Q X.xe s₂) X.xe s₁) X.xe s := by
  refine thn (ha pins s σ H _ I h) fun v s1 ⟨x, H1, I1, r1, q1⟩ => ?_
  refine thn (hb pins s1 σ H1 _ I1 q1) fun u s2 ⟨y, H2, I2, r2, q2⟩ => ?_
  exact hf v u s2 x y H2 I2 r1 r2 q2

theorem pe_op {op : Operator} {r : R2} (ho : OpR X (binaryOp op) r) (ha : PE X a ta) (hb : PE X b tb) : PE X (.BinOp a op b pos) (tOp r ta tb) := by
  intro pins s σ H Q I h
  exact wpAny_BinOp (binT ha hb I h fun v u s2 x y H2 I2 rx ry q => ho pins s2 σ H2 x y v u Q I2 rx ry q)
/-! ### ints -/
theorem opI {f : Value → Value → Sem Value} {C : Int → Int → Prop} {g : Int → Int → Int}
    (rule : ∀ (i j : Int) (t u : Tok) (s : Shared) (Q : Value → Shared → Prop) (E : Value → Shared → Prop), C i j → Q (.int (g i j) s.toks) { s with toks := s.toks + 1 } → wpAny (model X.prog X.w) X.A (f (.int i t) (.int j u)) Q E s) :
    OpR X f (rI C fun i j => .int (g i j)) := by
  intro pins s σ H x y v u Q I rx ry h
  obtain ⟨i, j, rfl, rfl, hc, q⟩ := h
  obtain ⟨t, rfl⟩ := rx
  obtain ⟨t', rfl⟩ := ry
  exact rule i j t t' s _ _ hc ⟨.int (g i j), H, I.tok _, ⟨_, rfl⟩, q⟩
theorem opI0 {f : Value → Value → Sem Value} {g : Int → Int → Int}
    (rule : ∀ (i j : Int) (t u : Tok) (s : Shared) (Q : Value → Shared → Prop) (E : Value → Shared → Prop), Q (.int (g i j) s.toks) { s with toks := s.toks + 1 } → wpAny (model X.prog X.w) X.A (f (.int i t) (.int j u)) Q E s) :
    OpR X f (rI0 fun i j => .int (g i j)) := by
  intro pins s σ H x y v u Q I rx ry h
  obtain ⟨i, j, rfl, rfl, q⟩ := h
  obtain ⟨t, rfl⟩ := rx
  obtain ⟨t', rfl⟩ := ry
  exact rule i j t t' s _ _ ⟨.int (g i j), H, I.tok _, ⟨_, rfl⟩, q⟩
theorem opB0 {f : Value → Value → Sem Value} {g : Int → Int → Bool}
    (rule : ∀ (i j : Int) (t u : Tok) (s : Shared) (Q : Value → Shared → Prop) (E : Value → Shared → Prop), Q (.bool (g i j)) s → wpAny (model X.prog X.w) X.A (f (.int i t) (.int j u)) Q E s) :
    OpR X f (rI0 fun i j => .bl (g i j)) := by
  intro pins s σ H x y v u Q I rx ry h
  obtain ⟨i, j, rfl, rfl, q⟩ := h
  obtain ⟨t, rfl⟩ := rx
  obtain ⟨t', rfl⟩ := ry
  exact rule i j t t' s _ _ ⟨.bl (g i j), H, I, rfl, q⟩

def CDiv (i j : Int) : Prop := 0 < j ∧ j < 1073741824
def CPow (i j : Int) : Prop := 0 ≤ j ∧ j ≤ 1000000 ∧ i.natAbs < 2 ^ 64
def CMul (i j : Int) : Prop := (-(2 ^ 64) < i ∧ i < 2 ^ 64) ∨ (-(2 ^ 64) < j ∧ j < 2 ^ 64)
theorem CMul.ok {i j : Int} (h : CMul i j) : IntMulOk i j := by
  rcases h with ⟨h1, h2⟩ | ⟨h1, h2⟩
  · exact .of_left (intBits_le_64 h1 h2)
  · exact .of_right (intBits_le_64 h1 h2)
theorem op_add : OpR X (binaryOp .Add) (rI0 fun i j => .int (i + j)) := opI0 fun _ _ _ _ _ _ _ q => add_int q
theorem op_mul : OpR X (binaryOp .Mult) (rI CMul fun i j => .int (i * j)) := opI fun _ _ _ _ _ _ _ hc q => mul_int q hc.ok
/-- // by a positive divisor -/
theorem op_fdiv : OpR X (binaryOp .FloorDiv) (rI CDiv fun i j => .int (i / j)) := opI fun i j _ _ _ _ _ hc q => by
  have h1 : (0 : Int) < j := hc.1
  have h2 : j < 1073741824 := hc.2
  exact floordiv_int (by omega) (by rw [Int.fdiv_eq_ediv_of_nonneg i (by omega)]; exact q) (.inl (PyProof.noPylong_small (by omega)))
/-- % by a positive divisor of any size -/
theorem op_mod : OpR X (binaryOp .Mod) (rI (fun _ j => 0 < j) fun i j => .int (i % j)) := opI fun i j _ _ _ _ _ hc q => by
  have h1 : (0 : Int) < j := hc
  exact mod_int' (by omega) (by rw [Int.fmod_eq_emod_of_nonneg i (by omega)]; exact q)
theorem op_pow : OpR X (binaryOp .Pow) (rI CPow fun i j => .int (i ^ j.toNat)) := opI fun _ _ _ _ _ _ _ hc q => pow_int_small hc.1 hc.2.1 hc.2.2 q
/-! ### bools among ints: n += (a < b) -/
end

/-! ### comparisons -/
/-- the scalars that == tells apart as data does -/
def scal : V → V → Bool
  | .non, .non => true | .non, .int _ => true | .int _, .non => true | .non, .bl _ => true | .bl _, .non => true | .non, .str _ => true | .str _, .non => true
  | .int _, .int _ => true | .bl _, .bl _ => true | .str _, .str _ => true | .byt _, .byt _ => true
  | .int _, .str _ => true | .str _, .int _ => true | .bl _, .str _ => true | .str _, .bl _ => true
  | _, _ => false
def rEq : R2 := fun x y H Q => scal x y = true ∧ Q (.bl (decide (x = y))) H
def rNe : R2 := fun x y H Q => scal x y = true ∧ Q (.bl (!decide (x = y))) H

theorem dec_int {i j : Int} : decide (V.int i = V.int j) = (i == j) := by
  rw [Bool.eq_iff_iff]
  simp
theorem dec_bl {i j : Bool} : decide (V.bl i = V.bl j) = (i == j) := by
  rw [Bool.eq_iff_iff]
  simp
theorem dec_str {i j : Str} : decide (V.str i = V.str j) = (i == j) := by
  rw [Bool.eq_iff_iff]
  simp
theorem dec_byt {i j : Array UInt8} : decide (V.byt i = V.byt j) = (i.toList == j.toList) := by
  rw [Bool.eq_iff_iff]
  cases i
  cases j
  simp

section
variable {X : Cx} {a b c : Expr} {ta tb tc : TE} {pos : Pos}
theorem fin_bl {pins : List (Addr × Obj)} {σ : St} {H : Hp} {s : Shared} {Q : VK} {k k' : Bool} (I : Inv X pins σ H s) (q : Q (.bl k) H) (e : k = k') : EP X pins σ Q (.bool k') s := by
  subst e
  exact ⟨.bl k, H, I, rfl, q⟩
theorem op_eq : OpR X (compareOp .Eq) rEq := by
  intro pins s σ H x y v u Q I rx ry h
  obtain ⟨hs, q⟩ := h
  cases x with
  | non =>
    cases rx
    cases y with
    | non => cases ry; exact PySem.EqNone.eq_none_none (fin_bl I q (by simp))
    | bl j => cases ry; exact PySem.EqNone.eq_none_bool (fin_bl I q (by simp))
    | int j => obtain ⟨t', rfl⟩ := ry; exact PySem.EqNone.eq_none_int (fin_bl I q (by simp))
    | str j => obtain ⟨t', rfl⟩ := ry; exact PySem.EqNone.eq_none_str (fin_bl I q (by simp))
    | _ => exact absurd (show false = true from hs) Bool.false_ne_true
  | bl i =>
    cases rx
    cases y with
    | non => cases ry; exact PySem.EqNone.eq_bool_none (fin_bl I q (by simp))
    | bl j => cases ry; exact eq_bool (fin_bl I q dec_bl)
    | str j => obtain ⟨t', rfl⟩ := ry; exact PySem.EqMixed.eq_bool_str (fin_bl I q (by simp))
    | _ => exact absurd (show false = true from hs) Bool.false_ne_true
  | int i =>
    obtain ⟨t, rfl⟩ := rx
    cases y with
    | non => cases ry; exact PySem.EqNone.eq_int_none (fin_bl I q (by simp))
    | int j => obtain ⟨t', rfl⟩ := ry; exact eq_int (fin_bl I q dec_int)
    | str j => obtain ⟨t', rfl⟩ := ry; exact PySem.EqMixed.eq_int_str (fin_bl I q (by simp))
    | _ => exact absurd (show false = true from hs) Bool.false_ne_true
  | str i =>
    obtain ⟨t, rfl⟩ := rx
    cases y with
    | non => cases ry; exact PySem.EqNone.eq_str_none (fin_bl I q (by simp))
    | bl j => cases ry; exact PySem.EqMixed.eq_str_bool (fin_bl I q (by simp))
    | int j => obtain ⟨t', rfl⟩ := ry; exact PySem.EqMixed.eq_str_int (fin_bl I q (by simp))
    | str j => obtain ⟨t', rfl⟩ := ry; exact eq_str (fin_bl I q dec_str)
    | _ => exact absurd (show false = true from hs) Bool.false_ne_true
  | byt i =>
    obtain ⟨t, rfl⟩ := rx
    cases y with
    | byt j => obtain ⟨t', rfl⟩ := ry; exact PySem.W.eq_bytes (fin_bl I q dec_byt)
    | _ => exact absurd (show false = true from hs) Bool.false_ne_true
  | _ => cases y <;> exact absurd (show false = true from hs) Bool.false_ne_true
theorem op_ne : OpR X (compareOp .NotEq) rNe := by
  intro pins s σ H x y v u Q I rx ry h
  obtain ⟨hs, q⟩ := h
  cases x with
  | non =>
    cases rx
    cases y with
    | non => cases ry; exact PySem.EqNone.ne_none_none (fin_bl I q (by simp))
    | bl j => cases ry; exact PySem.EqNone.ne_none_bool (fin_bl I q (by simp))
    | int j => obtain ⟨t', rfl⟩ := ry; exact PySem.EqNone.ne_none_int (fin_bl I q (by simp))
    | str j => obtain ⟨t', rfl⟩ := ry; exact PySem.EqNone.ne_none_str (fin_bl I q (by simp))
    | _ => exact absurd (show false = true from hs) Bool.false_ne_true
  | bl i =>
    cases rx
    cases y with
    | non => cases ry; exact PySem.EqNone.ne_bool_none (fin_bl I q (by simp))
    | bl j => cases ry; exact ne_bool (fin_bl I q (congrArg not dec_bl))
    | str j => obtain ⟨t', rfl⟩ := ry; exact PySem.EqMixed.ne_bool_str (fin_bl I q (by simp))
    | _ => exact absurd (show false = true from hs) Bool.false_ne_true
  | int i =>
    obtain ⟨t, rfl⟩ := rx
    cases y with
    | non => cases ry; exact PySem.EqNone.ne_int_none (fin_bl I q (by simp))
    | int j => obtain ⟨t', rfl⟩ := ry; exact ne_int (fin_bl I q (congrArg not dec_int))
    | str j => obtain ⟨t', rfl⟩ := ry; exact PySem.EqMixed.ne_int_str (fin_bl I q (by simp))
    | _ => exact absurd (show false = true from hs) Bool.false_ne_true
  | str i =>
    obtain ⟨t, rfl⟩ := rx
    cases y with
    | non => cases ry; exact PySem.EqNone.ne_str_none (fin_bl I q (by simp))
    | bl j => cases ry; exact PySem.EqMixed.ne_str_bool (fin_bl I q (by simp))
    | int j => obtain ⟨t', rfl⟩ := ry; exact PySem.EqMixed.ne_str_int (fin_bl I q (by simp))
    | str j => obtain ⟨t', rfl⟩ := ry; exact ne_str (fin_bl I q (congrArg not dec_str))
    | _ => exact absurd (show false = true from hs) Bool.false_ne_true
  | byt i =>
    obtain ⟨t, rfl⟩ := rx
    cases y with
    | byt j => obtain ⟨t', rfl⟩ := ry; exact PySem.W.ne_bytes (fin_bl I q (congrArg not dec_byt))
    | _ => exact absurd (show false = true from hs) Bool.false_ne_true
  | _ => cases y <;> exact absurd (show false = true from hs) Bool.false_ne_true

theorem op_lt : OpR X (compareOp .Lt) (rI0 fun i j => .bl (decide (i < j))) := opB0 fun _ _ _ _ _ _ _ q => lt_int q
theorem op_le : OpR X (compareOp .LtE) (rI0 fun i j => .bl (decide (i ≤ j))) := opB0 fun _ _ _ _ _ _ _ q => le_int q
theorem op_gt : OpR X (compareOp .Gt) (rI0 fun i j => .bl (decide (j < i))) := opB0 fun _ _ _ _ _ _ _ q => gt_int q
theorem op_ge : OpR X (compareOp .GtE) (rI0 fun i j => .bl (decide (j ≤ i))) := opB0 fun _ _ _ _ _ _ _ q => ge_int q
theorem op_lt_str : OpR X (compareOp .Lt) (fun x y H Q => ∃ i j, x = .str i ∧ y = .str j ∧ Q (.bl (decide (i.cps.toList < j.cps.toList))) H) := by
  intro pins s σ H x y v u Q I rx ry h
  obtain ⟨i, j, rfl, rfl, q⟩ := h
  obtain ⟨t, rfl⟩ := rx
  obtain ⟨t', rfl⟩ := ry
  exact lt_str (fin_bl I q rfl)
/-- is None, is not None: the right side a value none -/
theorem op_isN : OpR X (compareOp .Is) (fun x y H Q => y = .non ∧ Q (.bl (decide (x = .non))) H) := by
  intro pins s σ H x y v u Q I rx ry h
  obtain ⟨rfl, q⟩ := h
  cases ry
  refine is_none_gen (fin_bl I q ?_)
  cases x <;> first
    | (cases rx; rfl)
    | (obtain ⟨t, rfl⟩ := rx; rfl)
theorem op_notN : OpR X (compareOp .IsNot) (fun x y H Q => y = .non ∧ Q (.bl (!decide (x = .non))) H) := by
  intro pins s σ H x y v u Q I rx ry h
  obtain ⟨rfl, q⟩ := h
  cases ry
  refine isnot_none_gen (fin_bl I q ?_)
  cases x <;> first
    | (cases rx; rfl)
    | (obtain ⟨t, rfl⟩ := rx; rfl)

theorem nomark (b : Expr) {op : CmpOp} (h : op ≠ .In := by decide) (h2 : op ≠ .NotIn := by decide) : behindInMarks op b = false := by
  have e1 : (op == CmpOp.In) = false := by cases op <;> first | rfl | exact absurd rfl h
  have e2 : (op == CmpOp.NotIn) = false := by cases op <;> first | rfl | exact absurd rfl h2
  cases b <;> simp [behindInMarks, e1, e2]
/-- a comparison as a value; hm: nomark b, or (for in, not in) by with_unfolding_all rfl -/
theorem pe_cmpR {op : CmpOp} {r : R2} (ho : OpR X (compareOp op) r) (ha : PE X a ta) (hb : PE X b tb) (hm : behindInMarks op b = false) : PE X (.Compare a [op] [b] pos) (tOp r ta tb) := by
  intro pins s σ H Q I h
  exact wpAny_Compare1 (binT ha hb I h fun v u s2 x y H2 I2 rx ry q => ho pins s2 σ H2 x y v u Q I2 rx ry q) hm
/-- a reading of a value as a test -/
def tTest (t : TE) : TT := fun σ H Q => t σ H fun x H' => ∃ k, x = .bl k ∧ Q k H'
theorem pt_cmpR {op : CmpOp} {r : R2} (ho : OpR X (compareOp op) r) (ha : PE X a ta) (hb : PE X b tb) (hm : behindInMarks op b = false) : PT X (.Compare a [op] [b] pos) (tTest (tOp r ta tb)) := by
  intro pins s σ H Q I h
  refine wpAny_isTrue_Compare1 (thn (ha pins s σ H _ I h) fun v s1 ⟨x, H1, I1, r1, q1⟩ => thn (hb pins s1 σ H1 _ I1 q1) fun u s2 ⟨y, H2, I2, r2, q2⟩ =>
    thn (ho pins s2 σ H2 x y v u _ I2 r1 r2 q2) fun c s3 ⟨z, H3, I3, r3, k, e, q3⟩ => ?_) hm
  subst e
  cases r3
  exact wpAny_truthy_bool ⟨H3, I3, q3⟩
/-- a op1 b op2 c -/
def tChain (r r' : R2) (ta tb tc : TE) : TE := fun σ H Q => ta σ H fun x H1 => tb σ H1 fun y H2 => r x y H2 fun z H3 => ∃ k, z = .bl k ∧
  (if k = true then tc σ H3 fun w' H4 => r' y w' H4 Q else Q (.bl false) H3)
theorem pt_chain {op op' : CmpOp} {r r' : R2} (ho : OpR X (compareOp op) r) (ho' : OpR X (compareOp op') r') (ha : PE X a ta) (hb : PE X b tb) (hc : PE X c tc)
    (hm : lastMarks [op, op'] [b, c] = false := by with_unfolding_all rfl) : PT X (.Compare a [op, op'] [b, c] pos) (tTest (tChain r r' ta tb tc)) := by
  intro pins s σ H Q I h
  refine isTrue_chain (thn (ha pins s σ H _ I h) fun v s1 ⟨x, H1, I1, r1, q1⟩ => test_link (thn (hb pins s1 σ H1 _ I1 q1) fun u s2 ⟨y, H2, I2, r2, q2⟩ =>
    thn (ho pins s2 σ H2 x y v u _ I2 r1 r2 q2) fun d s3 ⟨z, H3, I3, r3, k, e, q3⟩ => ?_)) hm
  subst e
  cases r3
  refine wpAny_truthy_bool ?_
  cases k with
  | false =>
    obtain ⟨k', e', q'⟩ := q3
    cases e'
    exact ite_ff ⟨H3, I3, q'⟩
  | true =>
    refine ite_tt (test_last (thn (hc pins s3 σ H3 _ I3 q3) fun w' s4 ⟨z', H4, I4, r4, q4⟩ => thn (ho' pins s4 σ H4 y z' u w' _ I4 r2 r4 q4) fun d' s5 ⟨z2, H5, I5, r5, k2, e2, q5⟩ => ?_))
    subst e2
    cases r5
    exact wpAny_truthy_bool ⟨H5, I5, q5⟩

/-! ### truth -/
/-- a value's truth by the abstract heap -/
def TruV (K : PySem.W.Frag) (x : V) (H : Hp) (k : Bool) : Prop :=
  match x with
  | .non => k = false
  | .bl b => k = b
  | .int i => k = (i != 0)
  | .str y => y.length ≤ sizeLine ∧ k = ((y.length : Int) != 0)
  | .byt y => y.size ≤ sizeLine ∧ k = ((y.size : Int) != 0)
  | .ref p => (∃ xs, SqL K H p xs ∧ k = !xs.isEmpty) ∨ (∃ xs, SqT K H p xs ∧ k = !xs.isEmpty) ∨ ∃ kvs, H p = some (.dK kvs) ∧ k = !kvs.isEmpty
  | _ => False
theorem isEmpty_kv {κ : Type} {kvs : List (κ × V)} {vs : List (κ × Value)} (r : KV kvs vs) : (!vs.isEmpty) = !kvs.isEmpty := by
  cases r <;> rfl
theorem isEmpty_of {xs : List V} {its : List Value} (r : Vals xs its) : (!its.toArray.isEmpty) = !xs.isEmpty := by
  cases r <;> simp
theorem line63 : (sizeLine : Nat) < 2 ^ 63 := by rw [sizeLine_eq]; decide
theorem tru_ok : TruR X (fun x H Q => ∃ k, TruV X.K x H k ∧ Q k H) := by
  intro pins s σ H x v Q I rx h
  obtain ⟨k, e, q⟩ := h
  have hl := line63
  have hs : sizeLine = 16777216 := sizeLine_eq
  cases x with
  | non =>
    cases rx
    have e' : k = false := e
    subst e'
    exact truthy_none ⟨H, I, q⟩
  | bl b =>
    cases rx
    have e' : k = b := e
    subst e'
    exact wpAny_truthy_bool ⟨H, I, q⟩
  | int i =>
    obtain ⟨t, rfl⟩ := rx
    have e' : k = (i != 0) := e
    subst e'
    exact PySem.P.truthy_int ⟨H, I, q⟩
  | str y =>
    obtain ⟨t, rfl⟩ := rx
    obtain ⟨hy, e'⟩ : y.length ≤ sizeLine ∧ k = ((y.length : Int) != 0) := e
    subst e'
    exact PySem.P.truthy_str (by omega) ⟨H, I.tok _, q⟩
  | byt y =>
    obtain ⟨t, rfl⟩ := rx
    obtain ⟨hy, e'⟩ : y.size ≤ sizeLine ∧ k = ((y.size : Int) != 0) := e
    subst e'
    exact PySem.W.truthy_bytes (by omega) ⟨H, I.tok _, q⟩
  | ref p =>
    cases rx
    have e' : (∃ xs, SqL X.K H p xs ∧ k = !xs.isEmpty) ∨ (∃ xs, SqT X.K H p xs ∧ k = !xs.isEmpty) ∨ ∃ kvs, H p = some (.dK kvs) ∧ k = !kvs.isEmpty := e
    rcases e' with ⟨xs, hx, e'⟩ | ⟨xs, hx, e'⟩ | ⟨kvs, hx, e'⟩
    · subst e'
      obtain ⟨its, r, pl, hz⟩ := I.list hx
      have hlen := r.length
      exact wpAny_truthy_list pl.isList (by simp only [List.size_toArray]; omega) ⟨H, I.tok _, by rw [isEmpty_of r]; exact q⟩
    · subst e'
      obtain ⟨its, r, pl, hz⟩ := I.tuple hx
      have hlen := r.length
      exact truthy_tuple pl (by simp only [List.size_toArray]; omega) ⟨H, I.tok _, by rw [isEmpty_of r]; exact q⟩
    · subst e'
      obtain ⟨hz, hS, vs, r, m⟩ : kvs.length ≤ sizeLine ∧ (p == sysModules) = false ∧ ∃ vs, KV kvs vs ∧ s.heap.DictOf (mixKind X.prog X.w) p vs := I.hok p _ hx
      have hlen : kvs.length = vs.length := Paired.length r
      exact wpAny_truthy_dict hS m (by omega) ⟨H, I.tok _, by rw [isEmpty_kv r]; exact q⟩
  | _ => exact (show False from e).elim
/-- any expression whose test is its value's truth (a name, a call, a subscript, a field ..: he by fun _ => rfl) -/
theorem pt_truth (ha : PE X a ta) (he : ∀ whole, isTrue a X.env whole = (do let v ← whole; standAt a.pos; holding [v] (truthy v))) :
    PT X a (fun σ H Q => ta σ H fun x H' => ∃ k, TruV X.K x H' k ∧ Q k H') := by
  intro pins s σ H Q I h
  exact isTrue_plain (thn (ha pins s σ H _ I h) fun v s1 ⟨x, H1, I1, r1, q1⟩ => tru_ok pins s1 σ H1 x v Q I1 r1 q1) (he _)

/-! ### strs and bytes -/
theorem op_add_str : OpR X (binaryOp .Add) (fun x y H Q => ∃ i j, x = .str i ∧ y = .str j ∧ i.length + j.length ≤ sizeLine ∧ Q (.str (i ++ j)) H) := by
  intro pins s σ H x y v u Q I rx ry h
  obtain ⟨i, j, rfl, rfl, hz, q⟩ := h
  obtain ⟨t, rfl⟩ := rx
  obtain ⟨t', rfl⟩ := ry
  exact add_str (fun t' tk => ⟨.str (i ++ j), H, I.tok _, ⟨_, rfl⟩, q⟩) hz
/-! ### scalar builtins, by CallR -/
theorem vals1 {x : V} {us : List Value} (r : Vals [x] us) : ∃ u, us = [u] ∧ RelV x u := by
  cases r with
  | cons r1 r2 => cases r2; exact ⟨_, rfl, r1⟩
theorem vals2 {x y : V} {us : List Value} (r : Vals [x, y] us) : ∃ u w', us = [u, w'] ∧ RelV x u ∧ RelV y w' := by
  cases r with
  | cons r1 r2 =>
    cases r2 with
    | cons r3 r4 => cases r4; exact ⟨_, _, rfl, r1, r3⟩
theorem call_abs : CallR X (.builtin "abs") (fun xs H Q => ∃ i, xs = [.int i] ∧ Q (.int (if i < 0 then -i else i)) H) := by
  intro pins s σ H xs us Q I r h
  obtain ⟨i, rfl, q⟩ := h
  obtain ⟨u, rfl, t, rfl⟩ := vals1 r
  exact call_abs_int fun u tk => ⟨.int (if i < 0 then -i else i), H, I.tok _, ⟨_, rfl⟩, q⟩
theorem call_min2 (hc : X.calm = true) : CallR X (.builtin "min") (fun xs H Q => ∃ i j, xs = [.int i, .int j] ∧ Q (.int (if j < i then j else i)) H) := by
  intro pins s σ H xs us Q I r h
  obtain ⟨i, j, rfl, q⟩ := h
  obtain ⟨u, w', rfl, ⟨t, rfl⟩, ⟨t', rfl⟩⟩ := vals2 r
  refine min_two_ints (I.ok.hd hc) fun h' tk k => ⟨_, H, I.kept k, ?_, q⟩
  by_cases hj : j < i
  · rw [if_pos hj, if_pos hj]; exact ⟨_, rfl⟩
  · rw [if_neg hj, if_neg hj]; exact ⟨_, rfl⟩
theorem call_str_int : CallR X (.type "str") (fun xs H Q => ∃ i, xs = [.int i] ∧ i.natAbs.log2 < 1920 ∧ Q (.str (toString i)) H) := by
  intro pins s σ H xs us Q I r h
  obtain ⟨i, rfl, hz, q⟩ := h
  obtain ⟨u, rfl, t, rfl⟩ := vals1 r
  exact PySem.P.str_of_int hz ⟨.str _, H, I.tok _, ⟨_, rfl⟩, q⟩
theorem call_ord : CallR X (.builtin "ord") (fun xs H Q => ∃ x, xs = [.str x] ∧ x.length = 1 ∧ Q (.int (x.cps.getD 0 0 : Nat)) H) := by
  intro pins s σ H xs us Q I r h
  obtain ⟨x, rfl, hz, q⟩ := h
  obtain ⟨u, rfl, t, rfl⟩ := vals1 r
  exact ord_of_one hz ⟨.int _, H, I.tok _, ⟨_, rfl⟩, q⟩
/-- len of a str, a bytes, a list, a tuple -/
def LenV (K : PySem.W.Frag) (x : V) (H : Hp) (n : Nat) : Prop :=
  match x with
  | .str y => y.length ≤ sizeLine ∧ n = y.length
  | .byt y => y.size ≤ sizeLine ∧ n = y.size
  | .ref p => (∃ xs, SqL K H p xs ∧ n = xs.length) ∨ ∃ xs, SqT K H p xs ∧ n = xs.length
  | _ => False
theorem call_len : CallR X (.builtin "len") (fun xs H Q => ∃ x n, xs = [x] ∧ LenV X.K x H n ∧ Q (.int n) H) := by
  intro pins s σ H xs us Q I r h
  obtain ⟨x, n, rfl, e, q⟩ := h
  obtain ⟨u, rfl, rx⟩ := vals1 r
  have hl := line63
  have hs : sizeLine = 16777216 := sizeLine_eq
  cases x with
  | str y =>
    obtain ⟨t, rfl⟩ := rx
    obtain ⟨hy, e'⟩ : y.length ≤ sizeLine ∧ n = y.length := e
    subst e'
    exact len_str (by omega) ⟨.int _, H, I.tok _, ⟨_, rfl⟩, q⟩
  | byt y =>
    obtain ⟨t, rfl⟩ := rx
    obtain ⟨hy, e'⟩ : y.size ≤ sizeLine ∧ n = y.size := e
    subst e'
    exact PySem.W.len_bytes (by omega) ⟨.int _, H, I.tok _, ⟨_, rfl⟩, q⟩
  | ref p =>
    cases rx
    have e' : (∃ xs, SqL X.K H p xs ∧ n = xs.length) ∨ ∃ xs, SqT X.K H p xs ∧ n = xs.length := e
    rcases e' with ⟨xs, hx, e'⟩ | ⟨xs, hx, e'⟩
    · subst e'
      obtain ⟨its, r', pl, hz⟩ := I.list hx
      have hlen := r'.length
      exact Calls.call_len_list pl.isList (by simp only [List.size_toArray]; omega) ⟨.int xs.length, H, I.tok _, ⟨_, by simp only [List.size_toArray]; rw [hlen]⟩, q⟩
    · subst e'
      obtain ⟨its, r', pl, hz⟩ := I.tuple hx
      have hlen := r'.length
      exact len_tuple pl (by simp only [List.size_toArray]; omega) ⟨.int xs.length, H, I.tok _, ⟨_, by simp only [List.size_toArray]; rw [hlen]⟩, q⟩
  | _ => exact (show False from e).elim
end
end L2

namespace L2
open PySem PySem.Spec PyProof.Rows

/-! ### an instance, its attributes a map -/
structure ObjM (h : Heap) (x dx C : Addr) (mA : Str → Option Value) : Prop where
  obj : h.get? x = some (PySem.W.instObj C dx)
  ns : h.Ns1 dx mA
  ne : dx ≠ x

theorem lookIn_ns {h : Heap} {dx : Addr} {mA : Str → Option Value} (n : h.Ns1 dx mA) : ∃ od, h.get? dx = some od ∧ ∀ name, PySem.W.lookIn name od = some (mA name) := by
  obtain ⟨o, es, ep, ho, hd, hk, _, hm⟩ := n
  refine ⟨o, ho, fun name => ?_⟩
  have e := hm name
  unfold nsFind findBy at e
  rw [← Array.find?_toList] at e
  unfold PySem.W.lookIn
  rw [hd]
  dsimp only
  split
  · rename_i y q
    rw [q] at e
    exact congrArg some e
  · rename_i q
    rw [q] at e
    have a : es.toList.any (·.refKey) = false := by
      rw [List.any_eq_false]
      intro y hy
      obtain ⟨z, t, hkey⟩ := hk y (Array.mem_toList_iff.mp hy)
      simp [DictEntry.refKey, hkey]
    have a' : ¬ es.toList.any (·.refKey) = true := by rw [a]; exact Bool.false_ne_true
    rw [if_neg a']
    exact congrArg some e

theorem ObjM.look {h : Heap} {x dx C : Addr} {mA : Str → Option Value} (I : ObjM h x dx C mA) : ∃ od, PySem.W.InstAt h x (PySem.W.instObj C dx) C (some od) ∧ ∀ name, PySem.W.lookIn name od = some (mA name) :=
  let ⟨od, ho, hl⟩ := lookIn_ns I.ns
  ⟨od, ⟨I.obj, rfl, rfl, ho⟩, hl⟩

section
variable {prog : Program} {w : World} {A : Around} {E : Value → Shared → Prop} {s : Shared} {K : PySem.W.Frag} {x dx C f : Addr} {mA : Str → Option Value} {name : Str} {v : Value}

end

/-! ### the attributes as a list of pairs -/
section
variable {P : Program} {w : World} {H H' : Hp} {h h' : Heap} {a C dx : Addr} {fs fs' : List (Str × V)}
theorem ins_get (hok : HOk P w H h) (e : H a = some (.ins C dx fs)) : ∃ mA, ObjM h a dx C mA ∧ (∀ f, RelO (fs.lookup f) (mA f)) ∧ PySem.Within mA (fs.map (·.1)) ∧ fs.length ≤ 1000 ∧ H dx = some (.own a) := by
  obtain ⟨d, z, ne, ob, mA, n, r, q⟩ := (show ObjOk P w H h a (.ins C dx fs) from hok a _ e)
  exact ⟨mA, ⟨ob, n, ne⟩, r, q, z, d⟩
end

/-! ### what of the text a class must have -/
structure Cls (K : PySem.W.Frag) (C : Addr) : Prop where
  pg : PySem.W.plainGet K C Str.empty = true
  hd : PySem.W.hasDictIn K C = true
  po : PySem.W.plainOver K C = true
  sa : PySem.W.findIn K (.ref C) "__setattr__" = some (some (.builtin "object.__setattr__"))
theorem Cls.get {K : PySem.W.Frag} {C : Addr} (c : Cls K C) (f : Str) : PySem.W.plainGet K C f = true := c.pg
section
variable {X : Cx} {pins : List (Addr × Obj)} {σ : St} {H : Hp} {s : Shared} {a C dx : Addr} {fs : List (Str × V)} {f : Str} {v : V} {A : Around} {E : Value → Shared → Prop}

end

/-! ### readings and rules -/
section
variable {X : Cx} {o e value : Expr} {f : Str} {pos pos' tpos : Pos} {ta tv : TE}
end

/-! ### isinstance -/
section
variable {X : Cx} {pins : List (Addr × Obj)} {σ : St} {H : Hp} {s : Shared} {A : Around} {E : Value → Shared → Prop} {Q : Value → Shared → Prop} {c : Value} {b : Bool}
/-- the type of a value, as the fragment's deciders take it; for an instance its class -/
inductive TyOf (K : PySem.W.Frag) (H : Hp) : V → Value → Prop where
  | non : TyOf K H .non (.type "NoneType")
  | bl (x : Bool) : TyOf K H (.bl x) (.type "bool")
  | int (i : Int) : TyOf K H (.int i) (.type "int")
  | str (x : Str) : TyOf K H (.str x) (.type "str")
  | flt (x : UInt64) : TyOf K H (.flt x) (.type "float")
  | lst {a : Addr} {xs : List V} (e : H a = some (.lst xs)) : TyOf K H (.ref a) (.type "list")
  | frz {a : Addr} {o : Obj} {xs : List V} (e : H a = some (.frz o (.lst xs))) : TyOf K H (.ref a) (.type "list")
  | tup {a : Addr} {xs : List V} (e : H a = some (.tup xs)) : TyOf K H (.ref a) (.type "tuple")
  | dK {a : Addr} {kvs : List (Key × V)} (e : H a = some (.dK kvs)) : TyOf K H (.ref a) (.type "dict")
  | dT {a : Addr} {kvs : List (List Key × V)} (e : H a = some (.dT kvs)) : TyOf K H (.ref a) (.type "dict")
  | ins {a C dx : Addr} {fs : List (Str × V)} (e : H a = some (.ins C dx fs)) (cl : Cls K C) (ha : PySem.W.findIn K (.ref C) "__class__" = some (some (.builtin "object.__class__")))
      (hn : PySem.W.specialIn K (.builtin "object.__class__") "__get__" = some (some (.builtin "getset_descriptor.__get__"))) (htk : PySem.W.takesIn K (.builtin "object.__class__") = some true)
      (hm : PySem.W.mroIn K C (.type "object") = some true) : TyOf K H (.ref a) (.ref C)
/-- isinstance(x, c) for one class c, a built-in or an own one: kitOne's answer -/
theorem isinst_ok {x : V} {u t : Value} (I : Inv X pins σ H s) (rx : RelV x u) (ty : TyOf X.K H x t) (e : PySem.W.kitOne X.K t c = some b) (h : ∀ tk, Q (.bool b) { s with toks := tk }) :
    wpAny (model X.prog X.w) A (call (.builtin "isinstance") [u, c]) Q E s := by
  cases ty with
  | non => cases (show u = Value.none from rx); exact PySem.W.kia_one PySem.W.kitx_none I.kIn True.intro e (fun z => nomatch z) h
  | bl y => cases (show u = Value.bool y from rx); exact PySem.W.kia_one PySem.W.kitx_bool I.kIn True.intro e (fun z => nomatch z) h
  | int i => obtain ⟨t, q⟩ := (show ∃ t, u = Value.int i t from rx); cases q; exact PySem.W.kia_one PySem.W.kitx_int I.kIn True.intro e (fun z => nomatch z) h
  | str y => obtain ⟨t, q⟩ := (show ∃ t, u = Value.str y t from rx); cases q; exact PySem.W.kia_one PySem.W.kitx_str I.kIn True.intro e (fun z => nomatch z) h
  | flt y => obtain ⟨t, q⟩ := (show ∃ t, u = Value.float y t from rx); cases q; exact PySem.W.kia_one PySem.W.kitx_float I.kIn True.intro e (fun z => nomatch z) h
  | @lst a xs ea =>
    cases (show u = Value.ref a from rx)
    obtain ⟨_, _, n, _, h1⟩ := (show ObjOk X.prog X.w H s.heap a (.lst xs) from I.hok a _ ea)
    exact PySem.W.kia_one PySem.W.kitx_list I.kIn ⟨_, h1, rfl⟩ e (fun z => nomatch z) h
  | @frz a ob xs ea =>
    cases (show u = Value.ref a from rx)
    obtain ⟨_, _, _, n, _, h1⟩ := (show ObjOk X.prog X.w H s.heap a (.frz ob (.lst xs)) from I.hok a _ ea)
    exact PySem.W.kia_one PySem.W.kitx_list I.kIn ⟨_, h1, rfl⟩ e (fun z => nomatch z) h
  | @tup a xs ea =>
    cases (show u = Value.ref a from rx)
    obtain ⟨_, _, _, p⟩ := (show ObjOk X.prog X.w H s.heap a (.tup xs) from I.hok a _ ea)
    obtain ⟨o, h1, h2, _⟩ := p
    exact PySem.W.kia_one PySem.W.kitx_tuple I.kIn ⟨o, h1, h2⟩ e (fun z => nomatch z) h
  | @dK a kvs ea =>
    cases (show u = Value.ref a from rx)
    obtain ⟨_, _, vs, _, p⟩ := (show ObjOk X.prog X.w H s.heap a (.dK kvs) from I.hok a _ ea)
    obtain ⟨o, es, ep, h1, h2, _⟩ := p
    exact PySem.W.kia_one PySem.W.kitx_dict I.kIn ⟨o, h1, h2.1⟩ e (fun z => nomatch z) h
  | @dT a kvs ea =>
    cases (show u = Value.ref a from rx)
    obtain ⟨_, _, xs, _, o, es, ep, h1, h2, _⟩ := (show ObjOk X.prog X.w H s.heap a (.dT kvs) from I.hok a _ ea)
    exact PySem.W.kia_one PySem.W.kitx_dict I.kIn ⟨o, h1, h2.1⟩ e (fun z => nomatch z) h
  | @ins a C dx fs ea cl ha hn htk hm =>
    cases (show u = Value.ref a from rx)
    obtain ⟨mA, O, _⟩ := ins_get I.hok ea
    obtain ⟨od, J, _⟩ := O.look
    exact PySem.W.kia_one (PySem.W.kitx_own (cl.get _) cl.hd ha hn htk hm) I.kIn J e (fun z => nomatch z) h
end
end L2

namespace L2
open PySem PySem.Spec PyProof.Rows

/-! ### room -/
structure Room (k : Nat) (A : Around) : Prop where
  hd : A.handled = none
  dp : A.depth + 3 * k + 5 < recursionLimit
  un : A.units + 16 * k + 200 < cLine
theorem Room.mono {j k : Nat} {A : Around} (r : Room k A) (h : j ≤ k) : Room j A := ⟨r.hd, by have := r.dp; omega, by have := r.un; omega⟩
theorem Room.deeper {k : Nat} {A : Around} (r : Room (k + 1) A) (env : Env) : Room k (A.deeper env) :=
  ⟨r.hd, by have := r.dp; show A.depth + 1 + 3 * k + 5 < _; omega, by have := r.un; show A.units + 3 + 16 * k + 200 < _; omega⟩
theorem Room.depth {k : Nat} {A : Around} (r : Room k A) : A.depth < recursionLimit := by have := r.dp; omega
/-! ### argument lists and displays -/
def tNil : TA := fun _ H Q => Q [] H
def tCons (ta : TE) (tr : TA) : TA := fun σ H Q => ta σ H fun x H1 => tr σ H1 fun xs H2 => Q (x :: xs) H2
section
variable {X : Cx} {e : Expr} {es : List Expr} {te : TE} {t : TA} {pos : Pos}
theorem pa_nil : PA X [] tNil := fun _ _ _ _ H Q I h => Calls.spliced_nil ⟨[], H, I, .nil, h⟩
theorem pa_cons (ha : PE X e te) (hr : PA X es t) (hs : starEach (e :: es) X.env = (false, eval e X.env) :: starEach es X.env := by rfl) : PA X (e :: es) (tCons te t) := by
  intro pos pins s σ H Q I h
  rw [hs]
  show wpAny _ _ (spliced ((false, eval e X.env) :: backTo pos (starEach es X.env))) _ _ s
  refine Calls.spliced_cons (thn (ha pins s σ H _ I h) fun u s1 ⟨x, H1, I1, r1, q1⟩ => ?_)
  exact thn (hr pos pins s1 σ H1 _ I1 q1) fun us s2 ⟨xs, H2, I2, r2, q2⟩ => ⟨x :: xs, H2, I2, .cons r1 r2, q2⟩

/-- a tuple, a list of written items -/
def tTup (t : TA) : TE := fun σ H Q => t σ H fun xs H1 => xs.length ≤ sizeLine ∧ ∀ p, H1 p = none → Q (.ref p) (upd H1 p (.tup xs))
def tLst (t : TA) : TE := fun σ H Q => t σ H fun xs H1 => xs.length ≤ sizeLine ∧ ∀ p, H1 p = none → Q (.ref p) (upd H1 p (.lst xs))
theorem pe_tup {x1} (h : PA X es t) : PE X (.Tuple es x1 pos) (tTup t) := by
  intro pins s σ H Q I hq
  refine wpAny_Tuple_spliced (thn (h pos pins s σ H _ I hq) fun us s1 ⟨xs, H1, I1, r, z, q⟩ => ⟨by rw [← r.length]; exact z, ?_⟩)
  have hf : H1 s1.heap.objs.size = none := I1.hok.fresh (Nat.le_refl _)
  refine ⟨.ref s1.heap.objs.size, upd H1 s1.heap.objs.size (.tup xs), I1.laid (t' := s1.toks) (fun b u e => Heap.get?_push_of_some _ e) (Nat.le_refl _) ?_, rfl, q _ hf⟩
  exact ⟨z, us, r, ⟨_, Heap.get?_push_size _ rfl, rfl, _, rfl⟩⟩
theorem pe_lst (h : PA X es t) : PE X (.List es pos) (tLst t) := by
  intro pins s σ H Q I hq
  refine wpAny_List_spliced (thn (h pos pins s σ H _ I hq) fun us s1 ⟨xs, H1, I1, r, z, q⟩ => ⟨by rw [← r.length]; exact z, ?_⟩)
  have hf : H1 s1.heap.objs.size = none := I1.hok.fresh (Nat.le_refl _)
  refine ⟨.ref s1.heap.objs.size, upd H1 s1.heap.objs.size (.lst xs), I1.laid (t' := s1.toks) (fun b u e => Heap.get?_push_of_some _ e) (Nat.le_refl _) ?_, rfl, q _ hf⟩
  exact ⟨z, us, 0, r, Heap.get?_push_size _ rfl⟩
end

/-! ### what a def promises -/
/-- a def's promise: the bound arguments in the parameters' order, the heap, the wanted end, the wanted exception -/
abbrev Sp := List V → Hp → VK → XK → Prop
/-- how an exception lies behind a call (file 08 gives it): the callers' frames, abstract heap and state ahead of the call, the wish, the exception, the state -/
abbrev CXT := List Env → Hp → Shared → XK → Value → Shared → Prop

/-- the state at a call -/
structure Env0 (P : Program) (w : World) (K : PySem.W.Frag) (mg : Str → Option Value) (base : Heap) (A : Around) (outer : List Env) (s : Shared) (H : Hp) : Prop where
  frames : A.frames = some outer
  mod : Mod K mg base
  bs : ∀ b o, base.get? b = some o → s.heap.get? b = some o ∧ H b = none
  bsz : base.objs.size ≤ s.heap.objs.size
  funs : s.heap.FunFrames base outer
  frf : ∀ b ∈ frs outer, H b = none
  hok : HOk P w H s.heap
  bare : AllBare s.gens
/-- a call's end -/
def CE (outer : List Env) (P : Program) (w : World) (H : Hp) (s : Shared) (Q : VK) (u : Value) (s' : Shared) : Prop :=
  ∃ v H', s'.os = s.os ∧ AllBare s'.gens ∧ Un (frs outer) [] H H' s.heap s'.heap ∧ HOk P w H' s'.heap ∧ RelV v u ∧ Q v H'
def CR (CX : CXT) (outer : List Env) (P : Program) (w : World) (H : Hp) (s : Shared) (Q : VK) (E : XK) (r : Result) (s' : Shared) : Prop :=
  match r with
  | .ok (.ret u) => CE outer P w H s Q u s'
  | .ok _ => False
  | .error e => CX outer H s E e s'
structure FnOk (P : Program) (w : World) (K : PySem.W.Frag) (mg : Str → Option Value) (base : Heap) (CX : CXT) (k : Nat) (f : Addr) (fd : FuncData) (ps : List Str) (sp : Sp) : Prop where
  len : ∀ vs H Q E, sp vs H Q E → vs.length = ps.length
  run : ∀ (A : Around) (outer : List Env) (s : Shared) (H : Hp) (args : Args) (us : List Value) (vs : List V) (Q : VK) (E : XK), Room k A → Env0 P w K mg base A outer s H → BindsTo s fd args (ps.zip us) → Vals vs us → sp vs H Q E →
    codeAny (model P w) A (.call (.ref f) args) (CR CX outer P w H s Q E) s
section
variable {X : Cx} {pins : List (Addr × Obj)} {σ : St} {H : Hp} {s s' : Shared}
/-- from a body: what a callee wants -/
theorem Inv.env0 (I : Inv X pins σ H s) : Env0 X.prog X.w X.K X.mg X.base X.A X.stack s H :=
  ⟨I.ok.frames, I.ok.mod, I.bs, Nat.le_trans I.ok.bsz I.sz, I.stack, I.stkFree, I.hok, I.bare⟩
/-- behind a call -/
theorem Inv.after {Q : VK} {u : Value} (I : Inv X pins σ H s) (h : CE X.stack X.prog X.w H s Q u s') : EP X pins σ Q u s' := by
  obtain ⟨v, H', os, bare, un, hok, r, q⟩ := h
  obtain ⟨hh, g, d, t, os'⟩ := s'
  obtain rfl : os' = s.os := os
  exact ⟨v, H', I.call (h' := hh) (g' := g) (d' := d) (t' := t) (ch := []) un hok bare (fun b z => absurd z (by simp)), r, q⟩
end

/-! ### calls -/
/-- f(..): the written arguments, then the defaults dvs; E: what is wanted of an exception -/
def tCall (sp : Sp) (dvs : List V) (E : XK) (t : TA) : TE := fun σ H Q => t σ H fun vs H1 => sp (vs ++ dvs) H1 Q E
/-- how the parameters are bound: us the positional arguments, kw the keywords' values by name, ds the defaults that fill up -/
def Binds (K : PySem.W.Frag) (fd : FuncData) (ps : List Str) (ds : List Value) : Prop :=
  ∀ (s : Shared) (us : List Value), K.In s.heap → (us ++ ds).length = ps.length → BindsTo s fd ⟨us, []⟩ (ps.zip (us ++ ds))
/-- every parameter is given -/
theorem Binds.all {K : PySem.W.Frag} {fd : FuncData} {ps : List Str} (h : ∀ us : List Value, us.length = ps.length → bindArgs fd ⟨us, []⟩ = pure (ps.zip us)) : Binds K fd ps [] := fun s us _ hl => by
  rw [List.append_nil] at hl ⊢
  exact .of_eq (h us hl)

/-- an exception of a callee reaches what this body wants of exceptions -/
def Passes (CX : CXT) (X : Cx) (E : XK) : Prop := ∀ (pins : List (Addr × Obj)) (σ : St) (H : Hp) (s : Shared) (e : Value) (s' : Shared), Inv X pins σ H s → CX X.stack H s E e s' → X.xe e s'

section
variable {X : Cx} {CX : CXT} {k : Nat} {f C : Addr} {fd : FuncData} {ps : List Str} {sp : Sp} {dvs : List V} {ds : List Value} {E : XK} {x m : Str} {p pos apos : Pos} {e o : Expr} {es : List Expr} {ta : TE} {t : TA}

/-- the callee runs -/
theorem run_fn {pins : List (Addr × Obj)} {σ : St} {H : Hp} {s : Shared} {Q : VK} {us : List Value} {vs : List V} (F : FnOk X.prog X.w X.K X.mg X.base CX k f fd ps sp) (hr : Room k X.A) (hb : Binds X.K fd ps ds) (hd : Vals dvs ds) (hx : Passes CX X E)
    (I : Inv X pins σ H s) (r : Vals vs us) (h : sp (vs ++ dvs) H Q E) : wpAny (model X.prog X.w) X.A (call (.ref f) us) (EP X pins σ Q) X.xe s := by
  have r2 : Vals (vs ++ dvs) (us ++ ds) := r.append hd
  have hl : (us ++ ds).length = ps.length := by rw [← r2.length]; exact F.len _ _ _ _ h
  refine wpAny_call (codeAny_mono (F.run X.A X.stack s H ⟨us, []⟩ (us ++ ds) (vs ++ dvs) Q E hr I.env0 (hb s us I.kIn hl) r2 h) fun r s' hq => ?_)
  cases r with
  | error e => exact hx pins σ H s e s' I hq
  | ok fl =>
    cases fl with
    | ret u => exact I.after hq
    | next => exact False.elim hq
    | brk => exact False.elim hq
    | cont => exact False.elim hq

theorem pe_call (F : FnOk X.prog X.w X.K X.mg X.base CX k f fd ps sp) (hr : Room k X.A) (hg : Gl X x) (hm : X.mg x = some (.ref f)) (hk : PySem.W.keepIn X.K (.ref f) = true) (hb : Binds X.K fd ps ds) (hd : Vals dvs ds) (hx : Passes CX X E)
    (ha : PA X (e :: es) t) (hdb : (x == ("__debug__" : Str)) = false := by decide) (he : starEach (e :: es) X.env = (false, eval e X.env) :: starEach es X.env := by rfl) (hpl : (backTo pos (starEach es X.env)).any (·.1) = false := by rfl) :
    PE X (.Call (.Name x p) (e :: es) [] pos) (tCall sp dvs E t) := by
  intro pins s σ H Q I h
  refine wpAny_Call_Name_kw (ld_glob I hg hm ?_ hdb)
  refine PySem.W.callWith_K (h₀ := X.base) I.ok.mod.kin hk (thn (ha pos pins s σ H _ I h) fun us s1 ⟨vs, H1, I1, r, q⟩ => ⟨I1.kIn, ?_⟩) he hpl
  exact run_fn F hr hb hd hx I1 r q
theorem pe_call0 (F : FnOk X.prog X.w X.K X.mg X.base CX k f fd ps sp) (hr : Room k X.A) (hg : Gl X x) (hm : X.mg x = some (.ref f)) (hk : PySem.W.keepIn X.K (.ref f) = true) (hb : Binds X.K fd ps ds) (hd : Vals dvs ds) (hx : Passes CX X E)
    (hdb : (x == ("__debug__" : Str)) = false := by decide) : PE X (.Call (.Name x p) [] [] pos) (tCall sp dvs E tNil) := by
  intro pins s σ H Q I h
  refine wpAny_Call_Name_kw (ld_glob I hg hm ?_ hdb)
  exact PySem.W.callWith_K0 I.kIn hk (run_fn (us := []) F hr hb hd hx I .nil h)

end

/-! ### keywords -/
section
variable {X : Cx} {CX : CXT} {k : Nat} {f C : Addr} {fd : FuncData} {ps ks : List Str} {sp : Sp} {E : XK} {x m : Str} {p pos apos kpos : Pos} {e o : Expr} {es : List Expr} {kws : List Keyword} {te ta : TE} {t tk : TA} {nm : Option Str}
variable {g : List Value → List Value → List Value} {gV : List V → List V → List V}
end

/-! ### a def's body keeps its promise -/
/-- names: the parameters first -/
structure FnScope (N P : List Str) (sc : Scope) : Prop where
  kind : sc.kind = .function
  co : sc.isCoroutine = false
  gen : sc.isGenerator = false
  nd : N.Nodup
  pre : N.take P.length = P
  par : ∀ x ∈ P, sc.names.lookup x = some .local ∨ sc.names.lookup x = some .cell
  nofree : ∀ y ∈ sc.names, y.2 ≠ .free

theorem bindL_out {kindOf : Str → Option NameKind} {x : Str} : ∀ {binds : List (Str × Value)} {m : Str → Option Value}, (∀ v, (x, v) ∉ binds) → bindL kindOf binds m x = m x
  | [], _, _ => rfl
  | (n, v) :: r, m, h => by
    unfold bindL
    rw [bindL_out fun w hw => h w (List.mem_cons_of_mem _ hw)]
    split
    · have : x ≠ n := by rintro rfl; exact h v List.mem_cons_self
      simp [this]
    · rfl
theorem bindC_out {kindOf : Str → Option NameKind} {x : Str} : ∀ {binds : List (Str × Value)} {m : Str → Option Value}, (∀ v, (x, v) ∉ binds) → bindC kindOf binds m x = m x
  | [], _, _ => rfl
  | (n, v) :: r, m, h => by
    unfold bindC
    rw [bindC_out fun w hw => h w (List.mem_cons_of_mem _ hw)]
    split
    · rfl
    · have : x ≠ n := by rintro rfl; exact h v List.mem_cons_self
      simp [this]
theorem bindL_get {kindOf : Str → Option NameKind} {x : Str} {v : Value} : ∀ {P : List Str} {vs : List Value} {i : Nat} {m : Str → Option Value}, P.Nodup → P[i]? = some x → vs[i]? = some v → kindOf x = some .local →
    bindL kindOf (P.zip vs) m x = some v
  | [], _, _, _, _, h, _, _ => by simp at h
  | _ :: _, [], _, _, _, _, h, _ => by simp at h
  | p :: P, w :: vs, 0, m, nd, h1, h2, hk => by
    simp at h1 h2; subst h1; subst h2
    show bindL kindOf ((p, w) :: P.zip vs) m p = _
    unfold bindL
    rw [bindL_out fun v hv => (List.nodup_cons.mp nd).1 (List.of_mem_zip hv).1, if_pos hk]
    simp
  | p :: P, w :: vs, i + 1, m, nd, h1, h2, hk => by
    show bindL kindOf ((p, w) :: P.zip vs) m x = _
    unfold bindL
    exact bindL_get (i := i) (List.nodup_cons.mp nd).2 (by simpa using h1) (by simpa using h2) hk
theorem bindC_get {kindOf : Str → Option NameKind} {x : Str} {v : Value} : ∀ {P : List Str} {vs : List Value} {i : Nat} {m : Str → Option Value}, P.Nodup → P[i]? = some x → vs[i]? = some v → kindOf x ≠ some .local →
    bindC kindOf (P.zip vs) m x = some v
  | [], _, _, _, _, h, _, _ => by simp at h
  | _ :: _, [], _, _, _, _, h, _ => by simp at h
  | p :: P, w :: vs, 0, m, nd, h1, h2, hk => by
    simp at h1 h2; subst h1; subst h2
    show bindC kindOf ((p, w) :: P.zip vs) m p = _
    unfold bindC
    rw [bindC_out fun v hv => (List.nodup_cons.mp nd).1 (List.of_mem_zip hv).1, if_neg hk]
    simp
  | p :: P, w :: vs, i + 1, m, nd, h1, h2, hk => by
    show bindC kindOf ((p, w) :: P.zip vs) m x = _
    unfold bindC
    exact bindC_get (i := i) (List.nodup_cons.mp nd).2 (by simpa using h1) (by simpa using h2) hk

/-- the names' values at the entry -/
def start (N : List Str) (vs : List V) : St := vs.map some ++ List.replicate (N.length - vs.length) none

/-- the context of a def's body, at its entry; an exception leaves the frame, then lies as CX says -/
def cxOf (CX : CXT) (P : Program) (w : World) (K : PySem.W.Frag) (mg : Str → Option Value) (base : Heap) (N : List Str) (qual : Str) (scope : Scope) (f : Addr) (cd : Value) (A : Around) (outer : List Env) (s : Shared) (H : Hp) (E : XK) : Cx where
  prog := P
  w := w
  K := K
  mg := mg
  base := base
  A := A.deeper (envOfC qual scope s.heap.objs.size f cd)
  N := N
  s₀ := s
  H₀ := H
  env := envOfC qual scope s.heap.objs.size f cd
  outer := outer
  stack := envOfC qual scope s.heap.objs.size f cd :: outer
  ex := []
  calm := true
  fn := fun _ => true
  pn := []
  xe := fun e s' => wpAny (model P w) (A.deeper (envOfC qual scope s.heap.objs.size f cd)) (leaving (envOfC qual scope s.heap.objs.size f cd) e) (fun _ s'' => CX outer H s E e s'') (fun e' s'' => CX outer H s E e' s'') s'

theorem cell_has {sc : Scope} {n : Nat} {x : Str} (h : sc.names.lookup x = some .cell) : ∃ c, (cellsFrom n sc.names []).lookup x = some c := by
  have q := PySem.W.cellsFrom_some sc.names n [] (.inl h)
  exact Option.isSome_iff_exists.mp q

theorem inv_start {CX : CXT} {P : Program} {w : World} {K : PySem.W.Frag} {mg : Str → Option Value} {base : Heap} {N ps : List Str} {qual : Str} {scope : Scope} {f : Addr} {cd : Value} {A : Around} {outer : List Env} {s s1 : Shared} {H : Hp} {E : XK} {us : List Value} {vs : List V}
    (S : FnScope N ps scope) (hd : A.handled = none) (e0 : Env0 P w K mg base A outer s H) (hl : vs.length = ps.length) (r : Vals vs us)
    (x : InCallC s s.heap.objs.size (bindL (envOfC qual scope s.heap.objs.size f cd).kindOf (ps.zip us) fun _ => none) (cellsFrom (s.heap.objs.size + 1) scope.names []) (bindC (envOfC qual scope s.heap.objs.size f cd).kindOf (ps.zip us) fun _ => none) s1) :
    Inv (cxOf CX P w K mg base N qual scope f cd A outer s H E) [] (start N vs) H s1 := by
  have hpl : ps.length ≤ N.length := by have := congrArg List.length S.pre; rw [List.length_take] at this; omega
  obtain ⟨h1, tk, rfl, hk⟩ := x.done
  have noA : ∀ b : Addr, b ∉ (cxOf CX P w K mg base N qual scope f cd A outer s H E).ex := fun b z => absurd (show b ∈ ([] : List Addr) from z) (by simp)
  refine ⟨⟨e0.mod, S.kind, rfl, rfl, Nat.le_refl _, fun y z c h1 h2 => ?_, fun y hy => ?_, fun y c _ h => ?_, fun _ => hd, Around.frames_deeper e0.frames, .inr ⟨rfl, rfl⟩, fun b z => absurd z (noA b), e0.bs, e0.bsz, fun b _ _ => noA b, fun b z => absurd z (noA b), e0.funs, e0.frf⟩,
    rfl, e0.bare, Un.kept hk, ⟨_, x.toInCall.ns, fun i y v h1 h2 h3 => ?_⟩, fun y c h => ⟨_, x.cell y c h⟩, e0.hok.fresh (Nat.le_refl _), fun y c h => ?_, fun p hp => absurd (show p ∈ ([] : List (Addr × Obj)) from hp) (by simp), e0.hok.kept hk, ?_⟩
  · exact name_of_addr x.apart (PySem.mem_of_lookup h1) (PySem.mem_of_lookup h2)
  · have hy : scope.names.lookup y = some .cell ∨ scope.names.lookup y = some .free := hy
    rcases hy with hy | hy
    · exact cell_has hy
    · exact absurd rfl (S.nofree _ (PySem.mem_of_lookup hy))
  · exact Nat.le_of_lt (x.above y c (PySem.mem_of_lookup h))
  · have hi : i < vs.length := by
      unfold start at h2
      by_cases hi : i < vs.length
      · exact hi
      · rw [List.getElem?_append_right (by simpa using hi)] at h2
        rw [List.getElem?_replicate] at h2
        split at h2 <;> cases h2
    have ha : vs[i]? = some v := by
      unfold start at h2
      rw [List.getElem?_append_left (by simpa using hi), List.getElem?_map] at h2
      cases e : vs[i]? with
      | none => rw [e] at h2; cases h2
      | some a => rw [e] at h2; cases h2; rfl
    obtain ⟨u, hu, rv⟩ := r.get ha
    have hp : ps[i]? = some y := by
      rw [← S.pre, List.getElem?_take_of_lt (by omega)]; exact h1
    have ndP : ps.Nodup := by rw [← S.pre]; exact S.nd.sublist (List.take_sublist _ _)
    refine ⟨u, rv, ?_⟩
    rcases S.par y (List.mem_of_getElem? hp) with k | k
    · exact .inl ⟨k, bindL_get ndP hp hu k⟩
    · obtain ⟨c, e⟩ := cell_has (n := s.heap.objs.size + 1) k
      refine .inr ⟨.inl k, c, e, ?_⟩
      have q := x.cell y c e
      rw [bindC_get ndP hp hu (by show scope.names.lookup y ≠ _; rw [k]; decide)] at q
      exact q
  · exact e0.hok.fresh (Nat.le_of_lt (x.above y c (PySem.mem_of_lookup h)))
  · unfold start
    show _ = N.length
    rw [List.length_append, List.length_map, List.length_replicate]
    omega

/-- THE RULE: a def (or a method) of the text, by its body. The body's reading t is chosen for each entry; it is run at the parameters' values -/
theorem fn_of {CX : CXT} {P : Program} {w : World} {K : PySem.W.Frag} {mg : Str → Option Value} {base : Heap} {k : Nat} {f : Addr} {name qual : Str} {params : Arguments} {body : List Stmt} {scope : Scope} {dV kV doc pm cdv ct oc : Value} {an od : Option Addr}
    {osl : Array (Option Value)} {N ps : List Str} {sp : Sp} (lk : K.lookup f = some ⟨oc, od, .func (PySem.W.fnOf name qual params body scope dV kV doc pm an cdv ct), osl⟩) (hcd : PySem.W.codeIn K cdv qual = true) (S : FnScope N ps scope)
    (len : ∀ vs H Q E, sp vs H Q E → vs.length = ps.length)
    (hbody : ∀ (A : Around) (outer : List Env) (s : Shared) (H : Hp) (vs : List V) (Q : VK) (E : XK), Room k (A.deeper (envOfC qual scope s.heap.objs.size f cdv)) → sp vs H Q E →
      ∃ t, PSs (cxOf CX P w K mg base N qual scope f cdv A outer s H E) body t ∧ t { nx := fun _ H' => Q .non H', rt := Q } (start N vs) H) :
    FnOk P w K mg base CX (k + 1) f (PySem.W.fnOf name qual params body scope dV kV doc pm an cdv ct) ps sp := by
  refine ⟨len, fun A outer s H args us vs Q E hr e0 hb r hsp => ?_⟩
  have hl := len _ _ _ _ hsp
  have KX : K.In s.heap := e0.mod.kin.keeps fun b o e => (e0.bs b o e).1
  have lim : s.heap.NoLimit := e0.mod.nolimit.keeps fun b o e => (e0.bs b o e).1
  have hkind : ∀ y ∈ ps.zip us, scope.names.lookup y.1 = some .local ∨ (scope.names.lookup y.1 = some .cell ∧ ((cellsFrom (s.heap.objs.size + 1) scope.names []).lookup y.1).isSome = true) := fun ⟨n, v⟩ hy => by
    rcases S.par n (List.of_mem_zip hy).1 with q | q
    · exact .inl q
    · exact .inr ⟨q, PySem.W.cellsFrom_some _ _ _ (.inl q)⟩
  refine codeAny_call_function hr.depth (KX _ _ lk) rfl S.co S.gen rfl (PySem.W.codeRec_of KX hcd) (hb _ _ _ _ ?_)
  refine wpAny_newFunctionEnv_cells S.kind hkind fun env he s1 x => ?_
  subst he
  refine ⟨lim.keeps x.toInCall.keep, codeAny_func ?_⟩
  obtain ⟨t, ht, hq⟩ := hbody A outer s H vs Q E (hr.deeper _) hsp
  have I : Inv (cxOf CX P w K mg base N qual scope f cdv A outer s H E) [] (start N vs) H s1 := inv_start S hr.hd e0 hl r x
  refine wpAny_mono (ht [] s1 (start N vs) H _ I hq) (fun fl s' hs => ?_) fun e s' hs => hs
  have fin : ∀ {σ' : St} {H' : Hp} {v : V} {u : Value}, Inv (cxOf CX P w K mg base N qual scope f cdv A outer s H E) [] σ' H' s' → RelV v u → Q v H' → CE outer P w H s Q u s' :=
    fun {σ' H' v u} J rv q => ⟨v, H', J.os, J.bare, J.base, J.hok, rv, q⟩
  cases fl with
  | ret u =>
    obtain ⟨v, σ', H', J, rv, q⟩ := hs
    exact fin J rv q
  | next =>
    obtain ⟨σ', H', J, q⟩ := hs
    exact fin (v := V.non) (u := Value.none) J rfl q
  | brk =>
    obtain ⟨_, _, _, q⟩ := hs
    exact False.elim q
  | cont =>
    obtain ⟨_, _, _, q⟩ := hs
    exact False.elim q
end L2

namespace L2
open PySem PySem.Spec PyProof.Rows
section
variable {X : Cx} {x : Str} {p pos : Pos} {e : Expr} {es : List Expr} {t : TA} {id T : String} {r : List V → Hp → VK → Prop}

def tCB (r : List V → Hp → VK → Prop) (t : TA) : TE := fun σ H Q => t σ H fun vs H1 => r vs H1 Q
/-- f(e, ..), f a built-in function -/
theorem pe_callB (hc : CallR X (.builtin id) r) (hg : Gl X x) (hm : X.mg x = none) (hv : bootBuiltins x = some (.builtin id)) (ha : PA X (e :: es) t) (hn : x ≠ "__name__" := by decide) (hdb : (x == ("__debug__" : Str)) = false := by decide)
    (he : starEach (e :: es) X.env = (false, eval e X.env) :: starEach es X.env := by rfl) (hpl : (backTo pos (starEach es X.env)).any (·.1) = false := by rfl) : PE X (.Call (.Name x p) (e :: es) [] pos) (tCB r t) := by
  intro pins s σ H Q I h
  refine wpAny_Call_Name_kw (ld_blt I hg hm hv ?_ hn hdb)
  exact PyProof.Rows.callWith_builtin1 (thn (ha pos pins s σ H _ I h) fun us s1 ⟨vs, H1, I1, r1, q1⟩ => hc pins s1 σ H1 vs us Q I1 r1 q1) he hpl
/-- T(e, ..), T a built-in type -/
theorem pe_callTy (hc : CallR X (.type T) r) (hg : Gl X x) (hm : X.mg x = none) (hv : bootBuiltins x = some (.type T)) (ha : PA X (e :: es) t) (hn : x ≠ "__name__" := by decide) (hdb : (x == ("__debug__" : Str)) = false := by decide)
    (he : starEach (e :: es) X.env = (false, eval e X.env) :: starEach es X.env := by rfl) (hpl : (backTo pos (starEach es X.env)).any (·.1) = false := by rfl) : PE X (.Call (.Name x p) (e :: es) [] pos) (tCB r t) := by
  intro pins s σ H Q I h
  refine wpAny_Call_Name_kw (ld_blt I hg hm hv ?_ hn hdb)
  exact PyProof.Rows.callWith_type1 (thn (ha pos pins s σ H _ I h) fun us s1 ⟨vs, H1, I1, r1, q1⟩ => hc pins s1 σ H1 vs us Q I1 r1 q1) he hpl
end
end L2

namespace HT
open PySem PyProof.Rows

section
open PySem.SeqAt
open PySem.AutoSeq1 (wpAny_loadPart')
open PySem.MeetsSeq PySem.MeetsSeq2 PySem.MeetsSeq3

end

section
variable {prog : Program} {w : World} {A : Around} {E : Value → Shared → Prop} {s : Shared}

/-- t + u, t not empty -/
theorem cat_tup {t b : Addr} {vs ws : List Value} {Q : Value → Shared → Prop} (ht : IsTup s.heap t vs.toArray) (hb : IsTup s.heap b ws.toArray) (hv : vs ≠ [])
    (h1 : ws = [] → Q (.ref t) s) (h2 : ws ≠ [] → Q (.ref s.heap.objs.size) { s with heap := s.heap.push { cls := .type "tuple", data := .seq (vs ++ ws).toArray } })
    (hsz : vs.length + ws.length ≤ sizeLine) : wpAny (model prog w) A (binaryOp .Add (.ref t) (.ref b)) Q E s := by
  obtain ⟨⟨cls, dd, data, sl⟩, ho, hc, n, hd⟩ := id ht
  obtain ⟨⟨cls2, dd2, data2, sl2⟩, ho2, hc2, n2, hd2⟩ := id hb
  simp only at hc hd hc2 hd2
  subst hc hd hc2 hd2
  have e : vs.toArray ++ ws.toArray = (vs ++ ws).toArray := by simp
  by_cases hw : ws = []
  · exact concat_meets ⟨_, ho, rfl⟩ ⟨_, ho2, rfl⟩ noFill_tuple_add seq_tuple_add PySem.F.slot_tuple_add PySem.F.entry_tuple_add (PySem.F.args_tuple_add_2 _ _)
      (tuple_addW1 t b vs.toArray ws.toArray n n2 dd dd2 sl sl2 (by simpa using hv) (by simp [hw])) ⟨ho, ho2, h1 hw⟩
  · refine concat_meets ⟨_, ho, rfl⟩ ⟨_, ho2, rfl⟩ noFill_tuple_add seq_tuple_add PySem.F.slot_tuple_add PySem.F.entry_tuple_add (PySem.F.args_tuple_add_2 _ _)
      (tuple_addW2 t b vs.toArray ws.toArray n n2 dd dd2 sl sl2 (by simpa using hv) (by simpa using hw) (by rw [List.size_toArray, List.size_toArray]; exact hsz)) ⟨ho, ho2, ?_⟩
    rw [e]
    exact h2 hw

/-! ### t[a:b], not the whole -/
/-- a slice's bound as a place among n (d where it is left out) -/
def sIx (n d : Nat) : Option Int → Nat
  | none => d
  | some v => if v < 0 then (v + (n : Int)).toNat else min v.toNat n
theorem sIx_none (n d : Nat) : sIx n d none = d := rfl
theorem sIx_nat (n d k : Nat) : sIx n d (some (k : Int)) = min k n := by
  show (if (k : Int) < 0 then ((k : Int) + (n : Int)).toNat else min (k : Int).toNat n) = min k n
  rw [if_neg (by omega), Int.toNat_natCast]
theorem sIx_le (n d : Nat) (hd : d ≤ n) (o : Option Int) : sIx n d o ≤ n := by
  cases o with
  | none => exact hd
  | some v =>
    show (if v < 0 then (v + (n : Int)).toNat else min v.toNat n) ≤ n
    by_cases hv : v < 0
    · rw [if_pos hv]; omega
    · rw [if_neg hv]; exact Nat.min_le_right _ _
theorem clip_eq (v : Int) (n d : Nat) : (if v < 0 then max (v + (n : Int)) 0 else min v (n : Int)) = ((sIx n d (some v) : Nat) : Int) := by
  show (if v < 0 then max (v + (n : Int)) 0 else min v (n : Int)) = (((if v < 0 then (v + (n : Int)).toNat else min v.toNat n) : Nat) : Int)
  by_cases hv : v < 0
  · simp only [if_pos hv]; omega
  · simp only [if_neg hv]; omega
theorem adjust_gen (lo hi : Option Int) (n : Nat) : Builtin.Slice.sliceAdjust lo hi 1 (n : Int) = (((sIx n 0 lo : Nat) : Int), ((sIx n n hi : Nat) : Int)) := by
  have h1 : ¬ ((1 : Int) < 0) := by omega
  unfold Builtin.Slice.sliceAdjust
  simp only [h1, if_false]
  refine Prod.ext ?_ ?_
  · cases lo with
    | none => rfl
    | some v => exact clip_eq v n 0
  · cases hi with
    | none => rfl
    | some v => exact clip_eq v n n
theorem places_gen (i j : Nat) : Builtin.Slice.slicePlaces (i : Int) (j : Int) 1 = j - i := by
  unfold Builtin.Slice.slicePlaces
  have h1 : (1 : Int) > 0 := by omega
  simp only [h1, if_true, Int.ediv_one]
  split <;> omega
theorem slicePart_ {v : Value} {o : Option Int} {Q : Option Int → Shared → Prop} (p : IsPart v o) (h : Q o s) : wpAny (model prog w) A (Builtin.Slice.slicePartIndex v) Q E s := by
  cases p with
  | none => exact slicePart_none h
  | int i t => exact slicePart_int h
theorem sliceApplied_gen {sl : Addr} {vl vu : Value} {lo hi : Option Int} {n : Nat} {Q : Int × Int × Nat → Shared → Prop} (hs : s.heap.IsSliceOf sl vl vu .none) (pl : IsPart vl lo) (pu : IsPart vu hi)
    (h : Q (((sIx n 0 lo : Nat) : Int), 1, sIx n n hi - sIx n 0 lo) s) : wpAny (model prog w) A (Builtin.Slice.sliceApplied (.ref sl) (pure (n : Int))) Q E s := by
  obtain ⟨os, hos, hcs, hds⟩ := id hs
  unfold Builtin.Slice.sliceApplied Builtin.Slice.sliceFields
  refine wpAny_bind (wpAny_bind (wpAny_field hos hds (x := vl) rfl (wpAny_bind (wpAny_field hos hds (x := vu) rfl (wpAny_bind (wpAny_field hos hds (x := .none) rfl (wpAny_pure ?_)))))))
  refine wpAny_bind (slicePart_none ?_)
  show wpAny _ _ (if ((1 : Int) == 0) = true then _ else _) _ _ s
  rw [if_neg (by decide)]
  refine wpAny_bind (slicePart_ pl (wpAny_bind (slicePart_ pu (wpAny_bind (wpAny_pure ?_)))))
  show wpAny _ _ (match Builtin.Slice.sliceAdjust lo hi 1 (n : Int) with | (lo, hi) => pure (lo, (1 : Int), Builtin.Slice.slicePlaces lo hi 1)) _ _ s
  rw [adjust_gen lo hi n]
  show wpAny _ _ (pure (((sIx n 0 lo : Nat) : Int), (1 : Int), Builtin.Slice.slicePlaces ((sIx n 0 lo : Nat) : Int) ((sIx n n hi : Nat) : Int) 1)) _ _ s
  rw [places_gen]
  exact wpAny_pure h
theorem pick_gen (xs : Array Value) (i k : Nat) : ((List.range k).filterMap fun (m : Nat) => xs[((i : Int) + (m : Int) * 1).toNat]?).toArray = ((xs.toList.drop i).take k).toArray := by
  have e : (fun (m : Nat) => xs[((i : Int) + (m : Int) * 1).toNat]?) = fun m => xs[i + m]? := by
    funext m
    have : ((i : Int) + (m : Int) * 1).toNat = i + m := by omega
    rw [this]
  rw [e]
  have := pick_run xs i k
  rw [List.filterMap_map] at this
  have e2 : ((fun x => xs[x]?) ∘ fun x => i + x) = fun m => xs[i + m]? := rfl
  rw [e2] at this
  rw [this]

theorem getItem_tuple_cut {t sl : Addr} {items : Array Value} {vl vu : Value} {lo hi : Option Int} {Q : Value → Shared → Prop} (ht : IsTup s.heap t items) (hs : s.heap.IsSliceOf sl vl vu .none) (pl : IsPart vl lo) (pu : IsPart vu hi)
    (hw : ¬ (sIx items.size 0 lo = 0 ∧ sIx items.size items.size hi = items.size))
    (h : Q (.ref s.heap.objs.size) { s with heap := s.heap.push { cls := .type "tuple", data := .seq ((items.toList.drop (sIx items.size 0 lo)).take (sIx items.size items.size hi - sIx items.size 0 lo)).toArray } })
    (hsz : items.size ≤ sizeLine) : wpAny (model prog w) A (getItem (.ref t) (.ref sl)) Q E s := by
  have htake : sizeOk (.seq ((items.toList.drop (sIx items.size 0 lo)).take (sIx items.size items.size hi - sIx items.size 0 lo)).toArray) := by
    show ((items.toList.drop (sIx items.size 0 lo)).take (sIx items.size items.size hi - sIx items.size 0 lo)).toArray.size ≤ sizeLine
    rw [List.size_toArray, List.length_take, List.length_drop, Array.length_toList]
    omega
  have hj : sIx items.size items.size hi ≤ items.size := sIx_le _ _ (Nat.le_refl _) hi
  obtain ⟨os, hos, hcs, hds⟩ := id hs
  have hTs : s.TypeIs (.ref sl) "slice" := ⟨os, hos, hcs⟩
  unfold getItem
  try with_reducible refine wpAny_holding ?_
  first | refine wpAny_bind (wpAny_pure ?_) | skip
  refine wpAny_bind (wpAny_sequenceKey ht.typeIs (by decide) ?_)
  refine wpAny_bind (wpAny_callSpecial?_slot (name := Str.ofString "__getitem__") ht.typeIs PyProof.Rows.slot_tuple_getitem
    (wpAny_call_entry PyProof.Rows.slot_tuple_getitem ht.typeIs entry_tuple_getitem ?_ (args_tuple_getitem _ _)))
  show wpAny _ _ (Builtin.Tuple.tupleItemsOf (.ref t) >>= _) _ _ s
  refine wpAny_bind (tupleItemsOf_ ht ?_)
  refine wpAny_bind (wpAny_typeOf hTs ?_)
  rw [if_pos (by decide)]
  refine wpAny_bind (sliceApplied_gen hs pl pu ?_)
  have hno : ¬ ((((sIx items.size 0 lo : Nat) : Int) == 0 && (1 : Int) == 1 && (sIx items.size items.size hi - sIx items.size 0 lo) == items.size) = true) := by
    intro q
    rw [Bool.and_eq_true, Bool.and_eq_true] at q
    have q1 : ((sIx items.size 0 lo : Nat) : Int) = 0 := eq_of_beq q.1.1
    have q2 : sIx items.size items.size hi - sIx items.size 0 lo = items.size := eq_of_beq q.2
    exact hw ⟨by omega, by omega⟩
  show wpAny _ _ (if (((sIx items.size 0 lo : Nat) : Int) == 0 && (1 : Int) == 1 && (sIx items.size items.size hi - sIx items.size 0 lo) == items.size) = true then _ else _) _ _ s
  rw [if_neg hno, pick_gen]
  first
    | exact wpAny_bind (m := Builtin.Tuple.tupleExact _) (wpAny_newObj_type (wpAny_pure ⟨_, rfl, wpAny_pure h⟩) htake)
    | exact wpAny_bind (m := Builtin.Tuple.tupleExact _) (wpAny_newObj_type (wpAny_bind (wpAny_pure (wpAny_pure ⟨_, rfl, wpAny_pure h⟩))) htake)
    | exact wpAny_bind (wpAny_bind (m := Builtin.Tuple.tupleExact _) (wpAny_newObj_type (wpAny_pure (wpAny_pure ⟨_, rfl, wpAny_pure h⟩)) htake))
    | exact wpAny_bind (wpAny_bind (m := Builtin.Tuple.tupleExact _) (wpAny_newObj_type (wpAny_pure ⟨_, rfl, wpAny_pure h⟩) htake))
end
end HT

namespace L2
open PySem PySem.Spec PyProof.Rows

/-! ### the parts of a slice -/
abbrev TO := St → Hp → (Option Int → Hp → Prop) → Prop
/-- a slice's part (left out, or an int) -/
def PO (X : Cx) (e : Option Expr) (t : TO) : Prop :=
  ∀ (pins : List (Addr × Obj)) (s : Shared) (σ : St) (H : Hp) (Q : Option Int → Hp → Prop), Inv X pins σ H s → t σ H Q →
    wpAny (model X.prog X.w) X.A (evalPart e X.env) (fun u s' => ∃ o H', Inv X pins σ H' s' ∧ IsPart u o ∧ Q o H') X.xe s
def tNoPart : TO := fun _ H Q => Q none H
def tPart (t : TE) : TO := fun σ H Q => t σ H fun x H1 => ∃ i, x = .int i ∧ Q (some i) H1

section
variable {X : Cx} {e : Expr} {te : TE} {lo hi : Option Expr} {tl th : TO} {pos p2 : Pos}

theorem po_none : PO X none tNoPart := by
  intro pins s σ H Q I h
  rw [evalPart_none]
  exact wpAny_pure ⟨none, H, I, .none, h⟩
theorem po_some (h : PE X e te) : PO X (some e) (tPart te) := by
  intro pins s σ H Q I hw
  rw [evalPart_some]
  refine thn (h pins s σ H _ I hw) fun u s1 ⟨x, H1, I1, r1, q1⟩ => ?_
  obtain ⟨i, rfl, q⟩ := q1
  obtain ⟨t, rfl⟩ := r1
  exact ⟨some i, H1, I1, .int i t, q⟩

/-- what a slice of a value is, by values: the slice object stands at sl -/
def SlR (X : Cx) (r : V → Option Int → Option Int → Hp → VK → Prop) : Prop :=
  ∀ (pins : List (Addr × Obj)) (s : Shared) (σ : St) (H : Hp) (x : V) (v vl vu : Value) (lo hi : Option Int) (sl : Addr) (Q : VK), Inv X pins σ H s → RelV x v → s.heap.IsSliceOf sl vl vu .none → IsPart vl lo → IsPart vu hi → r x lo hi H Q →
    ∃ T id, typeLookup (.type T) "__getitem__" = pure (some (.builtin id)) ∧ s.TypeIs v T ∧ wpAny (model X.prog X.w) X.A (getItem v (.ref sl)) (EP X pins σ Q) X.xe s
def tSl (r : V → Option Int → Option Int → Hp → VK → Prop) (te : TE) (tl th : TO) : TE := fun σ H Q => te σ H fun x H1 => tl σ H1 fun l H2 => th σ H2 fun u H3 => r x l u H3 Q
/-- a[lo:hi], any a -/
theorem pe_slice {r : V → Option Int → Option Int → Hp → VK → Prop} (hr : SlR X r) (he : PE X e te) (hl : PO X lo tl) (hu : PO X hi th) : PE X (.Subscript e (.Slice lo hi none p2) pos) (tSl r te tl th) := by
  intro pins s σ H Q I h
  refine Subscript_ (thn (he pins s σ H _ I h) fun v s1 ⟨x, H1, I1, r1, q1⟩ => ?_)
  refine wpAny_Slice (thn (hl pins s1 σ H1 _ I1 q1) fun vl s2 ⟨l, H2, I2, pl, q2⟩ => thn (hu pins s2 σ H2 _ I2 q2) fun vu s3 ⟨u, H3, I3, pu, q3⟩ => ?_)
  rw [evalPart_none]
  refine wpAny_pure ?_
  have I4 : Inv X pins σ H3 { s3 with heap := s3.heap.push { cls := .type "slice", data := .fields #[vl, vu, .none] } } := I3.kept (t' := s3.toks) fun b ob q => Heap.get?_push_of_some _ q
  obtain ⟨T, id, hT, ht, hg⟩ := hr pins { s3 with heap := s3.heap.push { cls := .type "slice", data := .fields #[vl, vu, .none] } } σ H3 x v vl vu l u s3.heap.objs.size Q I4 r1 (Heap.IsSliceOf.new ..) pl pu q3
  show wpAny (model X.prog X.w) X.A (subscriptTail e (.Slice lo hi none p2) v (.ref s3.heap.objs.size)) (EP X pins σ Q) X.xe { s3 with heap := s3.heap.push { cls := .type "slice", data := .fields #[vl, vu, .none] } }
  exact tail_any (ops := [.ref s3.heap.objs.size, v]) ht hT hg (by with_unfolding_all rfl)

/-- the items of xs[lo:hi] -/
def cutV (xs : List V) (lo hi : Option Int) : List V := (xs.drop (HT.sIx xs.length 0 lo)).take (HT.sIx xs.length xs.length hi - HT.sIx xs.length 0 lo)
theorem cutV_length (xs : List V) (lo hi : Option Int) : (cutV xs lo hi).length ≤ xs.length := by
  unfold cutV
  rw [List.length_take, List.length_drop]
  omega
/-- t[lo:hi], not the whole of it (the whole would be t itself) -/
def rSlT (K : PySem.W.Frag) : V → Option Int → Option Int → Hp → VK → Prop := fun x lo hi H Q => ∃ a xs, x = .ref a ∧ SqT K H a xs ∧
  ¬ (HT.sIx xs.length 0 lo = 0 ∧ HT.sIx xs.length xs.length hi = xs.length) ∧ ∀ p, H p = none → Q (.ref p) (upd H p (.tup (cutV xs lo hi)))
theorem sl_tup : SlR X (rSlT X.K) := by
  intro pins s σ H x v vl vu lo hi sl Q I rx hs pl pu h
  obtain ⟨a, xs, rfl, hx, hw, q⟩ := h
  cases rx
  obtain ⟨its, r, ht, hz⟩ := I.tuple hx
  have hlen : its.toArray.size = xs.length := by rw [List.size_toArray]; exact r.length.symm
  refine ⟨"tuple", _, PyProof.Rows.slot_tuple_getitem.lookup, ht.typeIs, ?_⟩
  refine HT.getItem_tuple_cut ht hs pl pu (by rw [hlen]; exact hw) ?_ (by rw [hlen]; exact hz)
  rw [hlen]
  refine ⟨.ref s.heap.objs.size, _, I.laid (t' := s.toks) (o := .tup (cutV xs lo hi)) (fun b ob q => Heap.get?_push_of_some _ q) (Nat.le_refl _) ?_, rfl, q _ (I.hok.fresh (Nat.le_refl _))⟩
  exact ⟨Nat.le_trans (cutV_length xs lo hi) hz, _, (r.drop (HT.sIx xs.length 0 lo)).take (HT.sIx xs.length xs.length hi - HT.sIx xs.length 0 lo), IsTup.new _ _⟩

/-! ### t < u, t + u -/
/-- t + u, t not empty: u empty gives t itself -/
def rCatT (K : PySem.W.Frag) : R2 := fun x y H Q => ∃ a b xs ys, x = .ref a ∧ y = .ref b ∧ SqT K H a xs ∧ SqT K H b ys ∧ xs ≠ [] ∧ xs.length + ys.length ≤ sizeLine ∧
  (ys = [] → Q (.ref a) H) ∧ (ys ≠ [] → ∀ p, H p = none → Q (.ref p) (upd H p (.tup (xs ++ ys))))
theorem Vals.nil_iff {xs : List V} {us : List Value} (r : Vals xs us) : us = [] ↔ xs = [] := by
  cases r with
  | nil => simp
  | cons _ _ => simp
theorem op_catT : OpR X (binaryOp .Add) (rCatT X.K) := by
  intro pins s σ H x y v u Q I rx ry h
  obtain ⟨a, b, xs, ys, rfl, rfl, ha, hb, hx, hz, q1, q2⟩ := h
  cases rx
  cases ry
  obtain ⟨its, r1, p1, _⟩ := I.tuple ha
  obtain ⟨its2, r2, p2, _⟩ := I.tuple hb
  refine HT.cat_tup p1 p2 (fun z => hx (r1.nil_iff.mp z)) (fun z => ⟨.ref a, H, I, rfl, q1 (r2.nil_iff.mp z)⟩) (fun z => ?_) (by rw [← r1.length, ← r2.length]; exact hz)
  refine ⟨.ref s.heap.objs.size, _, I.laid (t' := s.toks) (o := .tup (xs ++ ys)) (fun b ob q => Heap.get?_push_of_some _ q) (Nat.le_refl _) ?_, rfl, q2 (fun w => z (r2.nil_iff.mpr w)) _ (I.hok.fresh (Nat.le_refl _))⟩
  exact ⟨by rw [List.length_append]; exact hz, _, r1.append r2, IsTup.new _ _⟩
end
end L2

namespace L2
open PySem PySem.Spec PyProof.Rows

/-! ### places -/
/-- the place that an index of any sign means -/
def ixN (n : Nat) (i : Int) : Option Nat := if 0 ≤ i then (if i < n then some i.toNat else none) else if -(n : Int) ≤ i then some (i + n).toNat else none
def atI {α : Type} (xs : List α) (i : Int) : Option α := (ixN xs.length i).bind fun j => xs[j]?
theorem ixN_seq {n : Nat} {i : Int} {j : Nat} (h : ixN n i = some j) : seqIndex? i n = some j ∧ j < n ∧ -(n : Int) ≤ i ∧ i < n := by
  unfold ixN at h
  by_cases h0 : 0 ≤ i
  · rw [if_pos h0] at h
    by_cases h1 : i < n
    · rw [if_pos h1] at h
      have e : i.toNat = j := Option.some.inj h
      exact ⟨by rw [seqIndex_of h0 h1, e], by omega, by omega, h1⟩
    · rw [if_neg h1] at h; cases h
  · rw [if_neg h0] at h
    by_cases h1 : -(n : Int) ≤ i
    · rw [if_pos h1] at h
      have e : (i + n).toNat = j := Option.some.inj h
      exact ⟨by rw [seqIndex_neg (by omega) h1, e], by omega, h1, by omega⟩
    · rw [if_neg h1] at h; cases h
theorem atI_get {α : Type} {xs : List α} {i : Int} {v : α} (h : atI xs i = some v) : ∃ j, seqIndex? i xs.length = some j ∧ xs[j]? = some v ∧ j < xs.length ∧ -(xs.length : Int) ≤ i ∧ i < xs.length := by
  unfold atI at h
  cases e : ixN xs.length i with
  | none => rw [e] at h; cases h
  | some j =>
    rw [e] at h
    obtain ⟨h1, h2, h3, h4⟩ := ixN_seq e
    exact ⟨j, h1, h, h2, h3, h4⟩
theorem atI_nat {α : Type} {xs : List α} {j : Nat} {v : α} (h : xs[j]? = some v) : atI xs (j : Int) = some v := by
  have hj : j < xs.length := (List.getElem?_eq_some_iff.mp h).1
  have e : ixN xs.length (j : Int) = some j := by
    unfold ixN
    rw [if_pos (by omega), if_pos (by omega)]; simp
  unfold atI; rw [e]; exact h
/-! ### what may be subscripted -/
/-- what stands as an index of a plain subscript -/
def PlainIx (b : Expr) : Prop := ∀ o i, subscripted b false o i = operate [o, i] (getItem o i)
/-- a subscript by values -/
def IxR (X : Cx) (r : R2) : Prop :=
  ∀ (value slice : Expr) (pins : List (Addr × Obj)) (s : Shared) (σ : St) (H : Hp) (x y : V) (v u : Value) (Q : VK), Inv X pins σ H s → RelV x v → RelV y u → r x y H Q →
    subscripted slice false v u = operate [v, u] (getItem v u) → wpAny (model X.prog X.w) X.A (subscriptTail value slice v u) (EP X pins σ Q) X.xe s
/-- a call of a builtin's method by values: the receiver, the arguments -/
def MtR (X : Cx) (id : String) (r : V → List V → Hp → VK → Prop) : Prop :=
  ∀ (pins : List (Addr × Obj)) (s : Shared) (σ : St) (H : Hp) (x : V) (xs : List V) (v : Value) (us : List Value) (Q : VK), Inv X pins σ H s → RelV x v → Vals xs us → r x xs H Q →
    wpAny (model X.prog X.w) X.A (call (.builtin id) (v :: us)) (EP X pins σ Q) X.xe s
section
variable {X : Cx} {a b : Expr} {ta tb : TE} {pos : Pos}
/-- a[b] -/
theorem pe_ix {r : R2} (hr : IxR X r) (ha : PE X a ta) (hb : PE X b tb) (hs : PlainIx b) : PE X (.Subscript a b pos) (tOp r ta tb) := by
  intro pins s σ H Q I h
  exact Subscript_ (binT ha hb I h fun v u s2 x y H2 I2 rx ry q => hr a b pins s2 σ H2 x y v u Q I2 rx ry q (hs _ _))

def rIxL (K : PySem.W.Frag) : R2 := fun x y H Q => ∃ p xs i v, x = .ref p ∧ y = .int i ∧ SqL K H p xs ∧ atI xs i = some v ∧ Q v H
def rIxT (K : PySem.W.Frag) : R2 := fun x y H Q => ∃ p xs i v, x = .ref p ∧ y = .int i ∧ SqT K H p xs ∧ atI xs i = some v ∧ Q v H
def rIxS : R2 := fun x y H Q => ∃ z i c, x = .str z ∧ y = .int i ∧ z.length ≤ sizeLine ∧ atI z.cps.toList i = some c ∧ Q (.str ⟨#[c]⟩) H
theorem ix_list : IxR X (rIxL X.K) := by
  intro value slice pins s σ H x y v u Q I rx ry h hs
  obtain ⟨p, xs, i, z, rfl, rfl, hq, he, q⟩ := h
  cases rx
  obtain ⟨t, rfl⟩ := ry
  obtain ⟨its, r, pl, hz⟩ := I.list hq
  obtain ⟨j, h1, h2, h3, h4, h5⟩ := atI_get he
  obtain ⟨w, ew, rw'⟩ := r.get h2
  have hl := r.length
  have hn := line63
  have fin : EP X pins σ Q w s := ⟨z, H, I, rw', q⟩
  by_cases h0 : 0 ≤ i
  · have hj : i.toNat = j := by
      rw [seqIndex_of h0 h5] at h1
      exact Option.some.inj h1
    exact item_listR pl.isList h0 (by omega) (by rw [hj]; simpa using ew) fin hs
  · have hj : (i + (its.toArray.size : Int)).toNat = j := by
      rw [seqIndex_neg (by omega) h4] at h1
      rw [List.size_toArray, ← hl]
      exact Option.some.inj h1
    exact subscriptTail_builtinR (x := w) pl.isList.typeIs slot_list_getitem.lookup
      (wpAny_getItem_list_neg (Q := fun r s' => r = w ∧ EP X pins σ Q r s') pl.isList (by omega) (by rw [List.size_toArray] <;> omega) (by omega) (by rw [hj]; simpa using ew) ⟨rfl, fin⟩) hs
theorem ix_tup : IxR X (rIxT X.K) := by
  intro value slice pins s σ H x y v u Q I rx ry h hs
  obtain ⟨p, xs, i, z, rfl, rfl, hq, he, q⟩ := h
  cases rx
  obtain ⟨t, rfl⟩ := ry
  obtain ⟨its, r, pl, hz⟩ := I.tuple hq
  obtain ⟨j, h1, h2, h3, h4, h5⟩ := atI_get he
  obtain ⟨w, ew, rw'⟩ := r.get h2
  have hl := r.length
  have hn := line63
  have fin : EP X pins σ Q w s := ⟨z, H, I, rw', q⟩
  exact subscriptTail_builtinR (x := w) pl.typeIs slot_tuple_getitem.lookup
    (getItem_tuple (j := j) (Q := fun r s' => r = w ∧ EP X pins σ Q r s') pl (by omega) (by omega) (by rw [List.size_toArray, ← hl]; exact h1) (by simpa using ew) ⟨rfl, fin⟩) hs
theorem ix_str : IxR X rIxS := by
  intro value slice pins s σ H x y v u Q I rx ry h hs
  obtain ⟨z, i, c, rfl, rfl, hz, he, q⟩ := h
  obtain ⟨t, rfl⟩ := rx
  obtain ⟨t', rfl⟩ := ry
  obtain ⟨j, h1, h2, h3, h4, h5⟩ := atI_get he
  have hl : z.cps.toList.length = z.length := by simp [Str.length]
  rw [hl] at h1 h4 h5
  have hn := line63
  exact tail_any (typeIs_str s z t) slot_str_getitem.lookup (getItem_str (c := c) (by
    have e1 : decide (i < -(2 ^ 63 : Int)) = false := decide_eq_false (by omega)
    have e2 : decide (i ≥ 2 ^ 63) = false := decide_eq_false (by omega)
    rw [e1, e2, Bool.or_false]) (by rw [h1]; simpa using h2) ⟨.str ⟨#[c]⟩, H, I.tok _, ⟨_, rfl⟩, q⟩) hs
/-! ### xs[i] = v, any sign -/
/-- the list's object behind a store -/
theorem mapSeq_set (its : List Value) (n j : Nat) (u : Value) : Obj.mapSeq (·.setIfInBounds j u) { cls := .type "list", data := .seq its.toArray n } = { cls := .type "list", data := .seq (its.set j u).toArray n } := by
  simp [Obj.mapSeq]
theorem Inv.lst {pins : List (Addr × Obj)} {σ : St} {H : Hp} {s : Shared} {p : Addr} {xs : List V} (I : Inv X pins σ H s) (h : H p = some (.lst xs)) :
    ∃ (its : List Value) (n : Nat), Vals xs its ∧ s.heap.get? p = some { cls := .type "list", data := .seq its.toArray n } ∧ xs.length ≤ sizeLine := by
  obtain ⟨z, its, n, r, e⟩ := I.hok p _ h
  exact ⟨its, n, r, e, z⟩
/-- the list at p is written by an update of its object -/
theorem Inv.lstUpd {pins : List (Addr × Obj)} {σ : St} {H : Hp} {s : Shared} {p : Addr} {xs ys : List V} {its its' : List Value} {n n' : Nat} {f : Obj → Obj} (I : Inv X pins σ H s) (h : H p = some (.lst xs))
    (ho : s.heap.get? p = some { cls := .type "list", data := .seq its.toArray n }) (hf : f { cls := .type "list", data := .seq its.toArray n } = { cls := .type "list", data := .seq its'.toArray n' }) (r : Vals ys its') (hz : ys.length ≤ sizeLine) (t : Nat) :
    Inv X pins σ (upd H p (.lst ys)) { s with heap := s.heap.update p f, toks := t } := by
  have e : (s.heap.update p f).get? p = some { cls := .type "list", data := .seq its'.toArray n' } := by
    rw [Heap.get?_update_self f ho (by rw [hf] <;> rfl), hf]
  refine I.write (x := p) (e := p) (by rw [h]; trivial) (.inl rfl) (fun b u hb q => (Heap.get?_update_other _ _ (Ne.symm hb)).trans q) ⟨_, e⟩ ?_
  exact ⟨hz, its', n', r, e⟩
def rSetL : V → V → V → Hp → (Hp → Prop) → Prop := fun o i v H Q => ∃ p xs k j, o = .ref p ∧ i = .int k ∧ H p = some (.lst xs) ∧ ixN xs.length k = some j ∧ Q (upd H p (.lst (xs.set j v)))
theorem set_list : PSet X rSetL := by
  intro pins s σ H o i v ov iv u Q I ro ri rv h
  obtain ⟨p, xs, k, j, rfl, rfl, hp, hj, q⟩ := h
  cases ro
  obtain ⟨t, rfl⟩ := ri
  obtain ⟨its, n, r, ho, hz⟩ := I.lst hp
  obtain ⟨h1, h2, h3, h4⟩ := ixN_seq hj
  have hl := r.length
  have hn := line63
  have I' : Inv X pins σ (upd H p (.lst (xs.set j v))) { s with heap := s.heap.update p (Obj.mapSeq (·.setIfInBounds j u)) } :=
    I.lstUpd hp ho (mapSeq_set its n j u) (r.set rv j) (by rw [List.length_set]; exact hz) s.toks
  by_cases h0 : 0 ≤ k
  · have hk : k.toNat = j := by
      rw [seqIndex_of h0 h4] at h1
      exact Option.some.inj h1
    exact PySem.W.ki_setAt ho h0 (by omega) (by rw [List.size_toArray, ← hl]; exact h4) (by rw [hk]; exact ⟨_, I', q⟩)
  · have hk : (k + (its.toArray.size : Int)).toNat = j := by
      rw [seqIndex_neg (by omega) h3] at h1
      rw [List.size_toArray, ← hl]
      exact Option.some.inj h1
    exact PySem.W.ki_setBack ho (by omega) (by rw [List.size_toArray, ← hl]; exact h3) (by omega) (by rw [hk]; exact ⟨_, I', q⟩)

/-! ### slices -/
theorem slice_bounds (lo hi : Option Int) (n : Nat) : (sliceBounds lo hi none n).1 = ((HT.sIx n 0 lo : Nat) : Int) ∧ (sliceBounds lo hi none n).2.1 = ((HT.sIx n n hi : Nat) : Int) ∧ (sliceBounds lo hi none n).2.2 = 1 := by
  refine ⟨?_, ?_, rfl⟩
  · cases lo with
    | none => simp [sliceBounds, HT.sIx]
    | some i =>
      simp only [sliceBounds, HT.sIx, Option.getD_none, show (1 : Int) > 0 by decide, if_true]
      by_cases h : i < 0
      · simp only [h, if_true] <;> omega
      · simp only [h, if_false] <;> omega
  · cases hi with
    | none => simp [sliceBounds, HT.sIx]
    | some i =>
      simp only [sliceBounds, HT.sIx, Option.getD_none, show (1 : Int) > 0 by decide, if_true]
      by_cases h : i < 0
      · simp only [h, if_true] <;> omega
      · simp only [h, if_false] <;> omega
theorem slicePick_cut (its : List Value) (lo hi : Option Int) : slicePick its.toArray lo hi none = ((its.drop (HT.sIx its.length 0 lo)).take (HT.sIx its.length its.length hi - HT.sIx its.length 0 lo)).toArray := by
  obtain ⟨h1, h2, h3⟩ := slice_bounds lo hi its.toArray.size
  unfold slicePick
  rw [h1, h2, h3]
  simp only [sliceRange_one, pick_run, List.size_toArray] <;> rfl
/-- xs[lo:hi] of a list: a new list -/
def rSlL (K : PySem.W.Frag) : V → Option Int → Option Int → Hp → VK → Prop := fun x lo hi H Q => ∃ a xs, x = .ref a ∧ SqL K H a xs ∧ ∀ p, H p = none → Q (.ref p) (upd H p (.lst (cutV xs lo hi)))
theorem sl_list : SlR X (rSlL X.K) := by
  intro pins s σ H x v vl vu lo hi sl Q I rx hs pl pu h
  obtain ⟨a, xs, rfl, hx, q⟩ := h
  cases rx
  obtain ⟨its, r, ht, hz⟩ := I.list hx
  have hlen := r.length
  refine ⟨"list", _, slot_list_getitem.lookup, ht.isList.typeIs, ?_⟩
  refine wpAny_getItem_list_slice ht.isList hs pl pu .none (by simp) ?_ (by rw [List.size_toArray] <;> omega)
  rw [slicePick_cut, ← hlen]
  refine ⟨.ref s.heap.objs.size, _, I.laid (t' := s.toks) (o := .lst (cutV xs lo hi)) (fun b ob q => Heap.get?_push_of_some _ q) (Nat.le_refl _) ?_, rfl, q _ (I.hok.fresh (Nat.le_refl _))⟩
  exact ⟨Nat.le_trans (cutV_length xs lo hi) hz, _, 0, (r.drop (HT.sIx xs.length 0 lo)).take (HT.sIx xs.length xs.length hi - HT.sIx xs.length 0 lo), Heap.get?_push_size _ rfl⟩

/-! ### in, not in: flat items -/
def flatV : V → Bool
  | .non => true
  | .bl _ => true
  | .int _ => true
  | .str _ => true
  | _ => false
/-- == of flat values -/
def eqV : V → V → Bool
  | .non, .non => true
  | .bl a, .bl b => a == b
  | .bl a, .int b => (if a then 1 else 0) == b
  | .int a, .bl b => a == (if b then 1 else 0)
  | .int a, .int b => a == b
  | .str a, .str b => a == b
  | _, _ => false
theorem eqAt_V {A : Around} {s : Shared} {y x : V} {u v : Value} (ry : RelV y u) (rx : RelV x v) (fy : flatV y = true) (fx : flatV x = true) : SeqAt.EqAt A s u v (eqV y x) := by
  cases y with
  | non =>
    cases ry
    cases x with
    | non => cases rx; exact SeqAt.EqAt.same _
    | bl b => cases rx; exact SeqAt.EqAt.none_bool b
    | int b => obtain ⟨t, rfl⟩ := rx; exact SeqAt.EqAt.none_int b t
    | str b => obtain ⟨t, rfl⟩ := rx; exact SeqAt.EqAt.none_str b t
    | _ => exact absurd (show false = true from fx) Bool.false_ne_true
  | bl a =>
    cases ry
    cases x with
    | non => cases rx; exact SeqAt.EqAt.bool_none a
    | bl b => cases rx; exact SeqAt.EqAt.bool_bool a b
    | int b => obtain ⟨t, rfl⟩ := rx; exact SeqAt.EqAt.bool_int a b t
    | str b => obtain ⟨t, rfl⟩ := rx; exact SeqAt.EqAt.bool_str a b t
    | _ => exact absurd (show false = true from fx) Bool.false_ne_true
  | int a =>
    obtain ⟨t', rfl⟩ := ry
    cases x with
    | non => cases rx; exact SeqAt.EqAt.int_none a t'
    | bl b => cases rx; exact SeqAt.EqAt.int_bool a t' b
    | int b => obtain ⟨t, rfl⟩ := rx; exact SeqAt.EqAt.int_int a t' b t
    | str b => obtain ⟨t, rfl⟩ := rx; exact SeqAt.EqAt.int_str a t' b t
    | _ => exact absurd (show false = true from fx) Bool.false_ne_true
  | str a =>
    obtain ⟨t', rfl⟩ := ry
    cases x with
    | non => cases rx; exact SeqAt.EqAt.str_none a t'
    | bl b => cases rx; exact SeqAt.EqAt.str_bool a t' b
    | int b => obtain ⟨t, rfl⟩ := rx; exact SeqAt.EqAt.str_int a t' b t
    | str b => obtain ⟨t, rfl⟩ := rx; exact SeqAt.EqAt.str_str a t' b t
    | _ => exact absurd (show false = true from fx) Bool.false_ne_true
  | _ => exact absurd (show false = true from fy) Bool.false_ne_true
/-- the items' answers, read off the values (a value's own answer does not lean on its token) -/
def eqU (x : V) (u : Value) : Bool := match u with
  | .none => eqV .non x
  | .bool b => eqV (.bl b) x
  | .int i _ => eqV (.int i) x
  | .str z _ => eqV (.str z) x
  | _ => false
theorem eqU_of {x y : V} {u : Value} (r : RelV y u) (f : flatV y = true) : eqU x u = eqV y x := by
  cases y with
  | non => cases r; rfl
  | bl b => cases r; rfl
  | int i => obtain ⟨t, rfl⟩ := r; rfl
  | str z => obtain ⟨t, rfl⟩ := r; rfl
  | _ => exact absurd (show false = true from f) Bool.false_ne_true
theorem any_eqU {x : V} : ∀ {xs : List V} {us : List Value}, Vals xs us → xs.all flatV = true → us.any (eqU x) = xs.any fun y => eqV y x
  | _, _, .nil, _ => rfl
  | y :: xs, u :: us, .cons r t, f => by
    rw [List.all_cons, Bool.and_eq_true] at f
    rw [List.any_cons, List.any_cons, eqU_of r f.1, any_eqU t f.2]
theorem mem_eqAt {A : Around} {s : Shared} {x : V} {v : Value} (rx : RelV x v) (fx : flatV x = true) : ∀ {xs : List V} {us : List Value}, Vals xs us → xs.all flatV = true → ∀ u ∈ us, SeqAt.EqAt A s u v (eqU x u)
  | _, _, .nil, _ => fun u hu => by cases hu
  | y :: xs, u :: us, .cons r t, f => fun u' hu => by
    rw [List.all_cons, Bool.and_eq_true] at f
    rcases List.mem_cons.mp hu with rfl | hu
    · rw [eqU_of r f.1]; exact eqAt_V r rx f.1 fx
    · exact mem_eqAt rx fx t f.2 u' hu
def inV (x : V) (xs : List V) : Bool := xs.any fun y => eqV y x
/-- x in a list or tuple of flat items -/
def rIn (K : PySem.W.Frag) (neg : Bool) : R2 := fun x y H Q => ∃ p xs, y = .ref p ∧ (SqL K H p xs ∨ SqT K H p xs) ∧ flatV x = true ∧ xs.all flatV = true ∧ Q (.bl (if neg then !inV x xs else inV x xs)) H
theorem op_in_seq : OpR X (compareOp .In) (rIn X.K false) := by
  intro pins s σ H x y v u Q I rx ry h
  obtain ⟨p, xs, rfl, hq, fx, fs, q⟩ := h
  cases ry
  rcases hq with hq | hq
  · obtain ⟨its, r, pl, hz⟩ := I.list hq
    refine SeqAt.in_listAt (eqU x) pl.isList (fun w hw => mem_eqAt rx fx r fs w (by simpa using hw)) ⟨.bl _, H, I, rfl, ?_⟩
    rw [show its.toArray.any (eqU x) = its.any (eqU x) by simp, any_eqU r fs]
    exact q
  · obtain ⟨its, r, pl, hz⟩ := I.tuple hq
    refine SeqAt.in_tupleAt (eqU x) pl (fun w hw => mem_eqAt rx fx r fs w (by simpa using hw)) ⟨.bl _, H, I, rfl, ?_⟩
    rw [show its.toArray.any (eqU x) = its.any (eqU x) by simp, any_eqU r fs]
    exact q
/-! ### len, list(x), tuple(x) of any list or tuple that is read -/
theorem call_len_seq : CallR X (.builtin "len") (fun xs H Q => ∃ p ys, xs = [.ref p] ∧ (SqL X.K H p ys ∨ SqT X.K H p ys) ∧ Q (.int ys.length) H) := by
  intro pins s σ H xs us Q I r h
  obtain ⟨p, ys, rfl, hq, q⟩ := h
  obtain ⟨u, rfl, rx⟩ := vals1 r
  cases rx
  have hn := line63
  rcases hq with hq | hq
  · obtain ⟨its, r', pl, hz⟩ := I.list hq
    have hlen := r'.length
    exact Calls.call_len_list pl.isList (by simp only [List.size_toArray] <;> omega) ⟨.int ys.length, H, I.tok _, ⟨s.toks + 1, by rw [List.size_toArray, hlen]⟩, q⟩
  · obtain ⟨its, r', pl, hz⟩ := I.tuple hq
    have hlen := r'.length
    exact len_tuple pl (by simp only [List.size_toArray] <;> omega) ⟨.int ys.length, H, I.tok _, ⟨s.toks + 1, by rw [List.size_toArray, hlen]⟩, q⟩
theorem call_len_str : CallR X (.builtin "len") (fun xs H Q => ∃ z, xs = [.str z] ∧ z.length ≤ sizeLine ∧ Q (.int z.length) H) := by
  intro pins s σ H xs us Q I r h
  obtain ⟨z, rfl, hz, q⟩ := h
  obtain ⟨u, rfl, t, rfl⟩ := vals1 r
  have hn := line63
  exact len_str (by omega) ⟨.int z.length, H, I.tok _, ⟨_, rfl⟩, q⟩
theorem call_list_of : CallR X (.type "list") (fun xs H Q => ∃ p ys, xs = [.ref p] ∧ (SqL X.K H p ys ∨ SqT X.K H p ys) ∧ ∀ l, H l = none → Q (.ref l) (upd H l (.lst ys))) := by
  intro pins s σ H xs us Q I r h
  obtain ⟨p, ys, rfl, hq, q⟩ := h
  obtain ⟨u, rfl, rx⟩ := vals1 r
  cases rx
  have fin : ∀ (its : List Value), Vals ys its → ys.length ≤ sizeLine → ∀ (h' : Heap) (c' : Nat), (∀ b o', s.heap.get? b = some o' → h'.get? b = some o') →
      h'.get? s.heap.objs.size = some { cls := .type "list", dict := none, data := .seq its.toArray c', slots := #[] } → EP X pins σ Q (.ref s.heap.objs.size) { s with heap := h' } := fun its r' hz h' c' kp e =>
    ⟨.ref s.heap.objs.size, _, I.laid (t' := s.toks) kp (Nat.le_refl _) (show ObjOk X.prog X.w _ h' _ (.lst ys) from ⟨hz, its, c', r', e⟩), rfl, q _ (I.hok.fresh (Nat.le_refl _))⟩
  rcases hq with hq | hq
  · obtain ⟨its, r', pl, hz⟩ := I.list hq
    have hlen := r'.length
    obtain ⟨o, ho, hc, n, hd⟩ := pl.isList
    exact call_list_seq p (.inl rfl) ho hc hd (fun h' c' kp e => fin its r' hz h' c' kp e) (by simp only [List.size_toArray] <;> omega)
  · obtain ⟨its, r', pl, hz⟩ := I.tuple hq
    have hlen := r'.length
    obtain ⟨o, ho, hc, n, hd⟩ := pl
    exact call_list_seq p (.inr rfl) ho hc hd (fun h' c' kp e => fin its r' hz h' c' kp e) (by simp only [List.size_toArray] <;> omega)
theorem call_tuple_of : CallR X (.type "tuple") (fun xs H Q => ∃ p ys, xs = [.ref p] ∧ ((SqL X.K H p ys ∧ ∀ l, H l = none → Q (.ref l) (upd H l (.tup ys))) ∨ (SqT X.K H p ys ∧ Q (.ref p) H))) := by
  intro pins s σ H xs us Q I r h
  obtain ⟨p, ys, rfl, h⟩ := h
  obtain ⟨u, rfl, rx⟩ := vals1 r
  cases rx
  rcases h with ⟨hq, q⟩ | ⟨hq, q⟩
  · obtain ⟨its, r', pl, hz⟩ := I.list hq
    have hlen := r'.length
    refine call_tuple_list pl.isList (fun h' kp => ?_) (by simp only [List.size_toArray] <;> omega)
    have I1 : Inv X pins σ H { s with heap := h' } := I.kept (t' := s.toks) kp
    have I2 : Inv X pins σ (upd H h'.objs.size (.tup ys)) { s with heap := h'.push { cls := .type "tuple", data := .seq its.toArray } } :=
      I1.laid (t' := s.toks) (fun b o e => Heap.get?_push_of_some _ e) (Nat.le_refl _) (show ObjOk X.prog X.w _ _ _ (.tup ys) from ⟨hz, its, r', IsTup.new _ _⟩)
    exact ⟨.ref h'.objs.size, _, I2, rfl, q _ (I1.hok.fresh (Nat.le_refl _))⟩
  · obtain ⟨its, r', pl, hz⟩ := I.tuple hq
    exact call_tuple_same pl ⟨.ref p, H, I, rfl, q⟩

/-! ### the call of a builtin's method: o.m(..) -/
/-- the value is of that builtin type -/
def tyV (K : PySem.W.Frag) (T : String) (x : V) (H : Hp) : Prop := match x with
  | .str _ => T = "str"
  | .int _ => T = "int"
  | .ref p => (T = "list" ∧ ∃ xs, SqL K H p xs) ∨ (T = "tuple" ∧ ∃ o, K.lookup p = some o ∧ o.cls = .type "tuple" ∧ o.dict = none) ∨
      (T = "dict" ∧ ((∃ kvs, H p = some (.dK kvs)) ∨ ∃ kvs, H p = some (.dT kvs))) ∨ (T = "set" ∧ ∃ S n, H p = some (.set S n))
  | _ => False
theorem tyV_is {pins : List (Addr × Obj)} {σ : St} {H : Hp} {s : Shared} {T : String} {x : V} {v : Value} (I : Inv X pins σ H s) (r : RelV x v) (ty : tyV X.K T x H) :
    s.TypeIs v T ∧ ∀ a, v = .ref a → ∃ ob, s.heap.get? a = some ob ∧ ob.dict = none := by
  cases x with
  | str z =>
    obtain ⟨t, rfl⟩ := r
    cases (show T = "str" from ty)
    exact ⟨typeIs_str s z t, fun _ e => nomatch e⟩
  | int i =>
    obtain ⟨t, rfl⟩ := r
    cases (show T = "int" from ty)
    exact ⟨typeIs_int s i t, fun _ e => nomatch e⟩
  | ref p =>
    cases r
    rcases ty with ⟨rfl, xs, hq⟩ | ⟨rfl, o, hk, hc, hd⟩ | ⟨rfl, hk⟩ | ⟨rfl, S, n, hk⟩
    · obtain ⟨its, _, pl, _⟩ := I.list hq
      refine ⟨pl.isList.typeIs, fun a e => ?_⟩
      cases e
      obtain ⟨o, n, e, c, hd, _⟩ := pl
      exact ⟨o, e, hd⟩
    · refine ⟨⟨o, I.kIn p o hk, hc⟩, fun a e => ?_⟩
      cases e
      exact ⟨o, I.kIn _ o hk, hd⟩
    · have z : ∃ o, s.heap.get? p = some o ∧ o.ExactDict := by
        rcases hk with ⟨kvs, hk⟩ | ⟨kvs, hk⟩
        · obtain ⟨_, _, _, _, o, _, _, e, ex, _⟩ := I.hok p _ hk
          exact ⟨o, e, ex⟩
        · obtain ⟨_, _, _, _, o, _, _, e, ex, _⟩ := I.hok p _ hk
          exact ⟨o, e, ex⟩
      obtain ⟨o, e, ex⟩ := z
      refine ⟨⟨o, e, ex.1⟩, fun a e2 => ?_⟩
      cases e2
      exact ⟨o, e, ex.2.1⟩
    · obtain ⟨o, _, _, _, e, ex, _⟩ := I.hok p _ hk
      refine ⟨⟨o, e, ex.1⟩, fun a e2 => ?_⟩
      cases e2
      exact ⟨o, e, ex.2.1⟩
  | _ => exact False.elim ty
def tBM0 (K : PySem.W.Frag) (T : String) (r : V → List V → Hp → VK → Prop) (to : TE) : TE := fun σ H Q => to σ H fun x H1 => tyV K T x H1 ∧ r x [] H1 Q
def tBM (K : PySem.W.Frag) (T : String) (r : V → List V → Hp → VK → Prop) (to : TE) (t : TA) : TE := fun σ H Q => to σ H fun x H1 => tyV K T x H1 ∧ t σ H1 fun xs H2 => r x xs H2 Q
variable {o e : Expr} {es : List Expr} {to : TE} {t : TA} {name : Str} {apos cpos : Pos} {T id : String} {r : V → List V → Hp → VK → Prop}
theorem pe_bm0 (pa : PlainAttrs T) (slot : Slot T name id) (hty : typeOf (.builtin id) = pure (.type "method_descriptor")) (hm : MtR X id r) (ho : PE X o to)
    (hbase : attributeBase o name X.env (eval o X.env) = eval o X.env := by rfl) (hline : (apos.endLine == cpos.line) = true := by rfl) : PE X (.Call (.Attribute o name apos) [] [] cpos) (tBM0 X.K T r to) := by
  intro pins s σ H Q I h
  refine wpAny_Call_method0_late hbase hline (thn (ho pins s σ H _ I h) fun v s1 ⟨x, H1, I1, r1, ty, q1⟩ => ?_)
  obtain ⟨h1, h2⟩ := tyV_is I1 r1 ty
  exact ⟨T, id, pa, slot, hty, h1, h2, Calls.callWith_builtin rfl (PySem.evalArgs_none (hm pins s1 σ H1 x [] v [] Q I1 r1 .nil q1))⟩
theorem pe_bm (pa : PlainAttrs T) (slot : Slot T name id) (hty : typeOf (.builtin id) = pure (.type "method_descriptor")) (hm : MtR X id r) (ho : PE X o to) (ha : PA X (e :: es) t)
    (hbase : attributeBase o name X.env (eval o X.env) = eval o X.env := by rfl)
    (hfew : ((backTo cpos (starEach (e :: es) X.env)).all (fun x => !x.1) && (backToKw cpos (keywordEach [] X.env)).all (fun x => x.1.isSome)
      && decide ((e :: es).length + ([] : List Keyword).length + (if ([] : List Keyword).isEmpty then 0 else 1) < 30)) = true := by rfl)
    (hline : (apos.endLine == cpos.line) = true := by rfl) (hs : starEach (e :: es) X.env = (false, eval e X.env) :: starEach es X.env := by rfl) (hplain : (backTo cpos (starEach es X.env)).any (·.1) = false := by rfl) :
    PE X (.Call (.Attribute o name apos) (e :: es) [] cpos) (tBM X.K T r to t) := by
  intro pins s σ H Q I h
  refine wpAny_Call_method_late hbase hfew hline rfl (thn (ho pins s σ H _ I h) fun v s1 ⟨x, H1, I1, r1, ty, q1⟩ => ?_)
  obtain ⟨h1, h2⟩ := tyV_is I1 r1 ty
  refine ⟨T, id, pa, slot, hty, h1, h2, ?_⟩
  have hA := ha cpos pins s1 σ H1 _ I1 q1
  rw [hs] at hA ⊢
  refine Calls.callWith_builtin (by show (false || (backTo cpos (starEach es X.env)).any (·.1)) = false; rw [hplain] <;> rfl) (Calls.evalArgs_plain ?_)
  exact thn hA fun us s2 ⟨vs, H2, I2, r2, q2⟩ => hm pins s2 σ H2 x vs v us Q I2 r1 r2 q2
/- xs.append(e), list.index on a module's tuple .. are MtR facts of 06m -/
end
end L2

namespace L2
open PySem PySem.Spec PyProof.Rows

def MtM (X : Cx) (id : String) (r : V → List V → Hp → VK → Prop) : Prop :=
  ∀ (pins : List (Addr × Obj)) (s : Shared) (σ : St) (H : Hp) (x : V) (xs : List V) (v : Value) (us : List Value) (Q : VK), Inv X pins σ H s → RelV x v → Vals xs us → r x xs H Q →
    wpAny (model X.prog X.w) X.A (call (.builtin id) (v :: us)) (EP X pins σ Q) X.xe s

/-! ### lists of values -/
theorem Vals.one : ∀ {x : V} {us : List Value}, Vals [x] us → ∃ u, us = [u] ∧ RelV x u
  | _, _, .cons r .nil => ⟨_, rfl, r⟩
theorem Vals.zero : ∀ {us : List Value}, Vals [] us → us = []
  | _, .nil => rfl
theorem Vals.dropLast {xs : List V} {us : List Value} (h : Vals xs us) : Vals xs.dropLast us.dropLast := by
  induction h with
  | nil => exact .nil
  | cons r t ih =>
    cases t with
    | nil => exact .nil
    | cons q t' => exact .cons r ih
theorem erase_last {α : Type} (l : List α) : l.eraseIdx (l.length - 1) = l.dropLast := by
  induction l with
  | nil => rfl
  | cons a r ih =>
    cases r with
    | nil => rfl
    | cons b r =>
      have e : (a :: b :: r).length - 1 = ((b :: r).length - 1) + 1 := by
        have h1 : (a :: b :: r).length = r.length + 2 := rfl
        have h2 : (b :: r).length = r.length + 1 := rfl
        omega
      rw [e, List.eraseIdx_cons_succ, ih]
      all_goals rfl
section
variable {X : Cx} {pins : List (Addr × Obj)} {σ : St} {H : Hp} {s : Shared} {l b : Addr} {xs ys zs : List V}

/-! ### the two steps: a tracked list is rewritten, a new list is laid -/
theorem Inv.lset {its its' : List Value} {n : Nat} {f : Array Value → Array Value} {t' : Nat} (I : Inv X pins σ H s) (hH : H l = some (.lst xs))
    (e : s.heap.get? l = some { cls := .type "list", data := .seq its.toArray n }) (hf : f its.toArray = its'.toArray) (hv : Vals ys its') (hz : ys.length ≤ sizeLine) :
    Inv X pins σ (upd H l (.lst ys)) { s with heap := s.heap.update l (Obj.mapSeq f), toks := t' } := by
  have q := PySem.IsL.update e f
  rw [hf] at q
  refine I.write (x := l) (e := l) (by rw [hH]; exact trivial) (.inl rfl) (fun b' u hb hu => (Heap.get?_update_other s.heap (Obj.mapSeq f) (Ne.symm hb)).trans hu) ⟨_, q⟩ ?_
  exact ⟨hz, its', _, hv, q⟩
theorem Inv.lnew {its : List Value} {t' : Nat} (I : Inv X pins σ H s) (hv : Vals ys its) (hz : ys.length ≤ sizeLine) :
    Inv X pins σ (upd H s.heap.objs.size (.lst ys)) { s with heap := s.heap.push { cls := .type "list", data := .seq its.toArray }, toks := t' } :=
  I.laid (fun _ _ q => Heap.get?_push_of_some _ q) (Nat.le_refl _) ⟨hz, its, 0, hv, Heap.get?_push_size _ rfl⟩
theorem Inv.fresh (I : Inv X pins σ H s) : H s.heap.objs.size = none := I.hok.fresh (Nat.le_refl _)
theorem Inv.lstM (I : Inv X pins σ H s) (hH : H l = some (.lst xs)) : xs.length ≤ sizeLine ∧ ∃ (its : List Value) (n : Nat), Vals xs its ∧ xs.length = its.length ∧ s.heap.get? l = some { cls := .type "list", data := .seq its.toArray n } := by
  obtain ⟨z, its, n, r, e⟩ := I.hok l _ hH
  exact ⟨z, its, n, r, r.length, e⟩

theorem notLongL {n : Nat} (h : n ≤ sizeLine) : Builtin.List.listTooLong n = false := by
  unfold Builtin.List.listTooLong
  exact decide_eq_false (by omega)
end

section
variable {X : Cx}

/-! ### methods -/
def rAppend : V → List V → Hp → VK → Prop := fun x vs H Q => ∃ l xs y, x = .ref l ∧ vs = [y] ∧ H l = some (.lst xs) ∧ xs.length < sizeLine ∧ Q .non (upd H l (.lst (xs ++ [y])))
theorem mt_append : MtM X "list.append" rAppend := by
  intro pins s σ H x vs v us Q I rx rv h
  obtain ⟨l, xs, y, rfl, rfl, hH, hz, q⟩ := h
  cases rx
  obtain ⟨u, rfl, ru⟩ := rv.one
  obtain ⟨z, its, n, r, hl, e⟩ := I.lstM hH
  refine call_meets F.slot_list_append ⟨_, e, rfl⟩ F.entry_list_append (F.args_list_append_2 _ _) (PySem.list_append l its.toArray n u (by rw [List.size_toArray]; omega)) ⟨e, ?_⟩
  refine ⟨.non, _, I.lset (its' := its ++ [u]) hH e (by simp) (r.append (.cons ru .nil)) ?_, rfl, q⟩
  rw [List.length_append, List.length_singleton]
  omega

def rExtend : V → List V → Hp → VK → Prop := fun x vs H Q => ∃ l b xs zs, x = .ref l ∧ vs = [.ref b] ∧ H l = some (.lst xs) ∧ H b = some (.lst zs) ∧ xs.length + zs.length ≤ sizeLine ∧ Q .non (upd H l (.lst (xs ++ zs)))
theorem mt_extend : MtM X "list.extend" rExtend := by
  intro pins s σ H x vs v us Q I rx rv h
  obtain ⟨l, b, xs, zs, rfl, rfl, hH, hB, hz, q⟩ := h
  cases rx
  obtain ⟨u, rfl, ru⟩ := rv.one
  cases ru
  obtain ⟨z, its, n, r, hl, e⟩ := I.lstM hH
  obtain ⟨z2, its2, n2, r2, hl2, e2⟩ := I.lstM hB
  have hsz : its.toArray.size + its2.toArray.size ≤ sizeLine := by rw [List.size_toArray, List.size_toArray]; omega
  have hlong : ¬ (!its.toArray.isEmpty && Builtin.List.listTooLong (its.toArray.size + its2.toArray.size)) = true := by
    rw [notLongL hsz, Bool.and_false]
    exact Bool.false_ne_true
  refine call_meets F.slot_list_extend ⟨_, e, rfl⟩ F.entry_list_extend (F.args_list_extend_2 _ _)
    (AutoSeq1.list_extend_list_list_0 l its.toArray n b its2.toArray n2 hlong (by rw [List.size_toArray]; omega) (by omega)) ⟨e, e2, ?_⟩
  refine ⟨.non, _, I.lset (its' := its ++ its2) hH e (by simp) (r.append r2) ?_, rfl, q⟩
  rw [List.length_append]
  omega

def rPop : V → List V → Hp → VK → Prop := fun x vs H Q => ∃ l xs y, x = .ref l ∧ vs = [] ∧ H l = some (.lst xs) ∧ xs[xs.length - 1]? = some y ∧ Q y (upd H l (.lst xs.dropLast))
theorem mt_pop : MtM X "list.pop" rPop := by
  intro pins s σ H x vs v us Q I rx rv h
  obtain ⟨l, xs, y, rfl, rfl, hH, hy, q⟩ := h
  cases rx
  have hus := rv.zero
  subst hus
  obtain ⟨z, its, n, r, hl, e⟩ := I.lstM hH
  obtain ⟨u, hu, ru⟩ := r.get hy
  have hy' : its.toArray[its.toArray.size - 1]? = some u := by
    show its.toArray[its.length - 1]? = some u
    rw [← Array.getElem?_toList, ← hl]
    exact hu
  refine call_meets F.slot_list_pop ⟨_, e, rfl⟩ F.entry_list_pop (F.args_list_pop_1 _) (MeetsSeq.list_pop_last l its.toArray n u hy' (by rw [List.size_toArray]; omega)) ⟨e, ?_⟩
  refine ⟨y, _, I.lset (its' := its.dropLast) hH e ?_ r.dropLast ?_, ru, q⟩
  · show its.toArray.eraseIdxIfInBounds (its.toArray.size - 1) = its.dropLast.toArray
    rw [List.size_toArray, List.eraseIdxIfInBounds_toArray, erase_last]
  · rw [List.length_dropLast]
    omega

/-! ### list + list, list += list, list * int -/
def rCat : R2 := fun x y H Q => ∃ l b xs zs, x = .ref l ∧ y = .ref b ∧ H l = some (.lst xs) ∧ H b = some (.lst zs) ∧ xs.length + zs.length ≤ sizeLine ∧ ∀ p, H p = none → Q (.ref p) (upd H p (.lst (xs ++ zs)))
theorem op_cat : OpR X (binaryOp .Add) rCat := by
  intro pins s σ H x y v u Q I rx ry h
  obtain ⟨l, b, xs, zs, rfl, rfl, hH, hB, hz, q⟩ := h
  cases rx
  cases ry
  obtain ⟨z, its, n, r, hl, e⟩ := I.lstM hH
  obtain ⟨z2, its2, n2, r2, hl2, e2⟩ := I.lstM hB
  refine PySem.P.add_list e e2 ?_ (by rw [List.size_toArray, List.size_toArray]; omega)
  have ea : its.toArray ++ its2.toArray = (its ++ its2).toArray := by simp
  rw [ea]
  exact ⟨.ref _, _, I.lnew (t' := s.toks) (r.append r2) (by rw [List.length_append]; omega), rfl, q _ I.fresh⟩
/-! ### del xs[i] -/
end

/-! ### xs[a:b] = ys -/
section
variable {prog : Program} {w : World} {A : Around} {E : Value → Shared → Prop} {s : Shared}
set_option maxRecDepth 100000 in
end

section
variable {X : Cx}
end
end L2

namespace L2
open PySem PySem.Spec PyProof.Rows

/-! ### lists of pairs as tables -/
section
variable {κ : Type} [DecidableEq κ]
end


/-! ### a tracked dict, its keys ints and texts or tuples of these -/
section
variable {P : Program} {w : World} {H : Hp} {h : Heap} {a : Addr}
end

section
variable {X : Cx} {pins : List (Addr × Obj)} {σ : St} {H : Hp} {s : Shared} {a : Addr} {y v : V} {u r : Value} {o : Option V} {A : Around} {E : Value → Shared → Prop}

end

section
variable {X : Cx} {pins : List (Addr × Obj)} {σ : St} {H : Hp} {s : Shared} {a : Addr} {kvs : List (Key × V)} {k : Key} {u : Value} {A : Around} {E : Value → Shared → Prop}
end


/-! ### readings and rules -/
section
variable {X : Cx} {o i e value : Expr} {pos pos' tpos : Pos} {td ty tv : TE}
end


/-! ### displays -/
section
variable {X : Cx} {pos : Pos}
end

/-! ### methods -/
section
variable {X : Cx} {pins : List (Addr × Obj)} {σ : St} {H : Hp} {s : Shared} {a : Addr} {y d : V} {u r : Value} {o : Option V} {A : Around} {E : Value → Shared → Prop}
end

section
variable {X : Cx} {o e f : Expr} {apos cpos : Pos} {td ty tx : TE}
end

/-! ### dict(d): a copy -/
section
variable {X : Cx} {pins : List (Addr × Obj)} {σ : St} {H : Hp} {s : Shared} {a : Addr} {kvs : List (Key × V)} {A : Around} {E : Value → Shared → Prop}
end


section
variable {X : Cx} {pins : List (Addr × Obj)} {σ : St} {H : Hp} {s : Shared} {a : Addr} {y : V} {u : Value} {A : Around} {E : Value → Shared → Prop}
end
end L2

namespace Att
open PySem PySem.W PySem.Calls PyProof.Rows

/-! ### the script -/
theorem ints_of_wellAll {P : Params} {h : Heap} : ∀ (ns : List Int) (vs : List Value), WellAll P h vs (ns.map WData.int) → IntsAre vs ns := by
  intro ns
  induction ns with
  | nil =>
    intro vs w
    rw [List.map_nil] at w
    cases w
    exact .nil
  | cons n ns ih =>
    intro vs w
    rw [List.map_cons] at w
    cases w with
    | cons a b =>
      cases a
      exact .cons _ _ (ih _ b)

theorem script_of {l : OpenLaw} {n : Nat} (hn : l.most = some n) {P : Params} {h : Heap} {args : List WData} {vals : List Value}
    (hpre : l.row.toRowW.claim.pre args = true) (hwl : WellAll P h vals args) :
    ∃ a vs ns, vals = [Value.ref a] ∧ args = [WData.list (ns.map WData.int)] ∧ h.get? a = some { cls := .type "list", data := .seq vs.toArray } ∧ IntsAre vs ns ∧ ns.length ≤ n := by
  have hsh : WShape.hasAll [] args [.list .int] = true := (pre_splitW hpre).1
  have hc : l.pre.holds [] { args := args } = true := (pre_splitW hpre).2
  obtain ⟨d, r, rfl, h1, h2⟩ := hasAllW_cons hsh
  obtain rfl := hasAllW_nil h2
  obtain ⟨xs, rfl, h3⟩ := hasW_list h1
  obtain ⟨ns, rfl⟩ := items_int h3
  have hlen : ns.length ≤ n := by
    unfold OpenLaw.pre at hc
    have h4 : (WTm.not (.lt (.lit (.int (n : Int))) (.len (.arg 0)))).holds [] { args := [.list (ns.map .int)] } = true := by
      have h4 := (holds_andW hc).1
      rw [hn] at h4
      exact h4
    have h5 := condW_of h4 (w_not (w_lt w_lit (w_len_list (w_arg rfl))))
    rw [List.length_map] at h5
    refine Nat.le_of_not_lt fun q => ?_
    have q' : (n : Int) < ((ns.length : Nat) : Int) := by omega
    first
      | (rw [decide_eq_true q'] at h5; exact absurd h5 (by decide))
      | (simp at h5; omega)
  cases hwl with
  | cons w1 w2 =>
    cases w2
    cases w1 with
    | list ho hall => exact ⟨_, _, ns, rfl, rfl, ho, ints_of_wellAll ns _ hall, hlen⟩

theorem post_true (l : OpenLaw) (args : List WData) : l.row.toRowW.claim.post args (.bool true) args = true :=
  postW_of (r := l.row.toRowW) (X := (true == true))
    (show WShape.has [] (.bool true) .bool = true by first | rfl | decide | simp [WShape.has, WShape.arms, WShape.armsAll])
    (show (WTm.eq .res (.lit (.bool true))).value [] { args := args, res := some (.bool true), after := args } = some (.bool (true == true)) from w_eq_bool (w_res rfl) w_lit) rfl

/-! ### the attachment: holds_open's last premise (the goal 'hc' behind k_head) from a wpAny of the law's body -/
/-- the same from a codeAny of the CALL (for a layer whose function contracts speak of calls) -/
theorem attach_call {l : OpenLaw} {n : Nat} {q : Program} {loose : List Str} {XP : (Str → Option Value) → Heap → Prop} {YP : World → Heap → Prop} {d : DefRec}
    (hn : l.most = some n) (hdf : d.params.defaults = [])
    (call : ∀ (w : World) (s₀ s₁ : Shared) (mg mb : Str → Option Value) (fa : Addr) (o : Obj) (pm cd doc : Value) (a : Addr) (vs : List Value) (ns : List Int),
      Ground q loose [] XP w s₀ mg mb s₁.heap → YP w s₁.heap →
      s₁.heap.get? fa = some o → o.data = .func (docDef d.name d.params d.body d.scope pm cd doc) → s₁.heap.CodeRec cd d.name → mg d.name = some (.ref fa) →
      s₁.heap.get? a = some { cls := .type "list", data := .seq vs.toArray } → IntsAre vs ns → ns.length ≤ n → s₁.gens = #[] →
      codeAny (model l.prog w) callerA (.call (.ref fa) ⟨[.ref a], []⟩) (fun r s' => r = .ok (.ret (.bool true)) ∧ OldK s₁.heap s'.heap ∧ s'.os = s₁.os ∧ AllBare s'.gens) s₁) :
    WalkO q loose XP YP l.row.toRowW d [] (fun f vs => PySem.call f vs) := by
  intro w s₀ s₁ mg mb G Y fa o pm cd doc dV kV ho hd hcd hD hmg hg args vals as hpre hlay hrd hwl hlo
  obtain rfl : dV = .none := Dflts.none hD hdf
  obtain rfl : kV = .none := Dflts.noKw hD
  obtain ⟨a, vs, ns, rfl, rfl, hobj, hints, hlen⟩ := script_of hn hpre hwl
  refine enter_call (codeAny_mono (call w s₀ s₁ mg mb fa o pm cd doc a vs ns G Y ho (fd_plain hd) hcd hmg hobj hints hlen hg) fun r s' hq => ?_)
  obtain ⟨rfl, h2, h3, h4⟩ := hq
  exact ⟨.inl ⟨.bool true, .bool true, [], rfl, fun _ => rfl, .bool true, post_true l _, fun _ => ⟨List.Pairwise.nil, fun _ hm => (nomatch hm)⟩⟩, h2, h3, h4⟩

/-! ### rules over ANY heap (no ledger) from facts about the written part K: the library's own take a ledger (News) for what they write -/
section
variable {prog : Program} {w : World} {A : Around} {E : Value → Shared → Prop} {s : Shared} {K : Frag}

/-! the whole heap as the ledger: makes every rule that writes through a ledger a rule over any heap -/
end
end Att

namespace L2
open PySem PySem.Spec PyProof.Rows

theorem vals_ints : ∀ {vs : List Value} {ns : List Int}, IntsAre vs ns → Vals (ns.map V.int) vs
  | _, _, .nil => .nil
  | _, _, .cons n t h => .cons ⟨t, rfl⟩ (vals_ints h)

/-- nothing is tracked but the script, known to the object (or it is an object of the module) -/
def Only (H : Hp) : Prop := ∀ b, H b = none ∨ ∃ o xs, H b = some (.frz o (.lst xs))

/-- THE HEAD: the law's promise, at the heap behind the top. F, the promise of the law's def, may use that base is part of the heap (so K.In base, base.Ns mainGlobals mg stand in Mod) -/
theorem law_call {P : Program} {w : World} {K : PySem.W.Frag} {mg mb : Str → Option Value} {CX : CXT} {k : Nat} {fa a : Addr} {fd : FuncData} {x : Str} {sp : Sp} {s₁ : Shared} {vs : List Value} {ns : List Int}
    (KX : K.In s₁.heap) (hns : s₁.heap.Ns mainGlobals mg) (hb : s₁.heap.Ns builtinsNs mb) (hbb : ∀ x : Str, x ≠ "__name__" → mb x = bootBuiltins x) (hlim : s₁.heap.NoLimit) (hg : s₁.gens = #[])
    (ha : s₁.heap.get? a = some { cls := .type "list", data := .seq vs.toArray }) (hi : IntsAre vs ns) (hl : ns.length ≤ sizeLine) (hr : Room k callerA)
    (F : ∀ base : Heap, K.In base → base.Ns mainGlobals mg → FnOk P w K mg base CX k fa fd [x] sp) (hbind : ∀ (s : Shared) (u : Value), BindsTo s fd ⟨[u], []⟩ [(x, u)])
    (hsp : ∀ H : Hp, Only H → SqL K H a (ns.map V.int) → sp [.ref a] H (fun v _ => v = .bl true) fun _ _ _ => False)
    (hCX : ∀ H e s', CX [] H s₁ (fun _ _ _ => False) e s' → False) :
    codeAny (model P w) callerA (.call (.ref fa) ⟨[.ref a], []⟩) (fun r s' => r = .ok (.ret (.bool true)) ∧ OldK s₁.heap s'.heap ∧ s'.os = s₁.os ∧ AllBare s'.gens) s₁ := by
  have rv := vals_ints hi
  have lenV := hi.length
  -- from an abstract heap in which nothing but the script may be tracked
  have core : ∀ H : Hp, Only H → SqL K H a (ns.map V.int) → HOk P w H s₁.heap → (∀ b, H b ≠ none → b = a) → (H a ≠ none → K.lookup a = none) →
      codeAny (model P w) callerA (.call (.ref fa) ⟨[.ref a], []⟩) (fun r s' => r = .ok (.ret (.bool true)) ∧ OldK s₁.heap s'.heap ∧ s'.os = s₁.os ∧ AllBare s'.gens) s₁ := by
    intro H hO hS hok hA hK
    have base_of : ∀ {b : Addr} {o : Obj}, s₁.heap.get? b = some o → H b = none → (hidT s₁.heap H).get? b = some o := fun e n => hidT_get e n
    have noA : ∀ {b : Addr} {o : Obj} {es : Array DictEntry} {ep : Nat}, s₁.heap.get? b = some o → o.data = .dict es ep → H b = none := fun {b o es ep} e d => by
      cases q : H b with
      | none => rfl
      | some u =>
        have e' : b = a := hA b (by rw [q]; simp)
        subst e'
        rw [ha] at e; cases e
        have d' : Data.seq vs.toArray _ = Data.dict es ep := d
        cases d'
    have nsK : ∀ {b : Addr} {m : Str → Option Value}, s₁.heap.Ns b m → (hidT s₁.heap H).Ns b m := fun {b m} ⟨o, es, ep, e, d, r⟩ => ⟨o, es, ep, base_of e (noA e d), d, r⟩
    have hKb : K.In (hidT s₁.heap H) := fun b o e => base_of (KX b o e) (by
      cases q : H b with
      | none => rfl
      | some u =>
        have e' : b = a := hA b (by rw [q]; simp)
        subst e'
        rw [hK (by rw [q]; simp)] at e; cases e)
    have hM : Mod K mg (hidT s₁.heap H) := ⟨hKb, nsK hns, ⟨mb, nsK hb, hbb⟩, let ⟨mc, h1, h2⟩ := hlim; ⟨mc, nsK h1, h2⟩⟩
    have e0 : Env0 P w K mg (hidT s₁.heap H) callerA [] s₁ H := ⟨rfl, hM, fun b o e => of_hidT e, Nat.le_of_eq (hidT_size _ _), trivial, fun b hb => absurd (show b ∈ ([] : List Addr) from hb) (by simp), hok, .of_eq hg⟩
    refine codeAny_mono ((F _ hKb (nsK hns)).run callerA [] s₁ H ⟨[.ref a], []⟩ [.ref a] [.ref a] _ _ hr e0 (hbind s₁ (.ref a)) (.cons rfl .nil) (hsp H hO hS)) fun r s' h => ?_
    cases r with
    | error e => exact (hCX H e s' h).elim
    | ok fl =>
      cases fl with
      | next => exact False.elim h
      | brk => exact False.elim h
      | cont => exact False.elim h
      | ret u =>
        obtain ⟨v, H', os, bare, un, hok', r', q⟩ := h
        have q' : v = .bl true := q
        subst q'
        obtain rfl : u = Value.bool true := r'
        refine ⟨rfl, OldK.of_keep fun b o e => ?_, os, bare⟩
        cases q : H b with
        | none => exact un.keep b o e q (by intro z; exact absurd (show b ∈ ([] : List Addr) from z) (by simp)) (by simp)
        | some u =>
          rcases hO b with z | ⟨ob, xs, z⟩
          · rw [q] at z; cases z
          · have z2 := un.frzs b ob _ z
            obtain ⟨e1, _⟩ := hok b _ z
            obtain ⟨e2, _⟩ := hok' b _ z2
            rw [e] at e1; cases e1
            exact e2
  cases hk : K.lookup a with
  | some o =>
    -- the script is one of the module's own objects
    have e := KX a o hk
    rw [ha] at e
    cases e
    refine core (fun _ => none) (fun _ => .inl rfl) (.inr ⟨_, vs.toArray, _, hk, rfl, rfl, rfl, by rw [List.size_toArray, lenV]; exact hl, by simpa using rv⟩) (fun b u z => by have z' : (none : Option HO) = some u := z; cases z') (fun b z => absurd rfl z) fun z => absurd rfl z
  | none =>
    refine core (fun b => if b = a then some (.frz { cls := .type "list", data := .seq vs.toArray } (.lst (ns.map V.int))) else none) (fun b => ?_) (.inl (.inr ⟨{ cls := .type "list", data := .seq vs.toArray }, if_pos rfl⟩)) (fun b u z => ?_) (fun b z => ?_) fun _ => hk
    · by_cases hb : b = a
      · exact .inr ⟨_, _, if_pos hb⟩
      · exact .inl (if_neg hb)
    · by_cases hb : b = a
      · have z' := (if_pos hb).symm.trans z
        cases z'
        subst hb
        exact ⟨ha, by rw [List.length_map]; exact hl, vs, _, rv, ha⟩
      · have z' := (if_neg hb).symm.trans z
        cases z'
    · by_cases hb : b = a
      · exact hb
      · exact absurd (if_neg hb) z
end L2

namespace L2
open PySem PySem.Spec PyProof.Rows

abbrev KOf {K : PySem.W.Frag} {h : Heap} (_ : K.In h) : PySem.W.Frag := K

/-- the goal that k_head leaves (case hc), from the law's promise. F gives the function object fd (K's own) once, then the promise over every base -/
theorem walk_of {l : PySem.W.OpenLaw} {n k : Nat} {q : Program} {loose : List Str} {XP : (Str → Option Value) → Heap → Prop} {YP : World → Heap → Prop} {d : DefRec} {K : Params → PySem.W.Frag} {CX : World → CXT} {sp : World → Sp} {x : Str}
    (hn : l.most = some n) (hn2 : n ≤ sizeLine) (hdf : d.params.defaults = []) (hr : Room k callerA)
    (hY : ∀ (w : World) (h : Heap), YP w h → (K w.params).In h)
    (F : ∀ (w : World) (mg : Str → Option Value) (fa : Addr) (h : Heap), (K w.params).In h → h.Ns mainGlobals mg → mg d.name = some (.ref fa) →
      ∃ fd : FuncData, (∀ (s : Shared) (u : Value), BindsTo s fd ⟨[u], []⟩ [(x, u)]) ∧
        ∀ base : Heap, (K w.params).In base → base.Ns mainGlobals mg → FnOk l.prog w (K w.params) mg base (CX w) k fa fd [x] (sp w))
    (hsp : ∀ (w : World) (H : Hp) (a : Addr) (ns : List Int), ns.length ≤ n → Only H → SqL (K w.params) H a (ns.map V.int) → sp w [.ref a] H (fun v _ => v = .bl true) fun _ _ _ => False)
    (hCX : ∀ (w : World) (H : Hp) (s : Shared) (e : Value) (s' : Shared), CX w [] H s (fun _ _ _ => False) e s' → False) :
    PySem.W.WalkO q loose XP YP l.row.toRowW d [] (fun f vs => PySem.call f vs) := by
  refine Att.attach_call hn hdf fun w s₀ s₁ mg mb fa o pm cd doc a vs ns G Y ho hd hcd hmg hobj hints hlen hg => ?_
  have KX := hY w _ Y
  obtain ⟨fd, hb, hF⟩ := F w mg fa _ KX G.T.g hmg
  exact law_call KX G.T.g G.T.b G.T.builtins G.T.nolimit hg hobj hints (Nat.le_trans hlen hn2) hr hF hb (fun H hO hS => hsp w H a ns hlen hO hS) fun H e s' => hCX w H s₁ e s'
/-- the same where the promise hangs on the written part alone: (sp := My.sp_law), no hole under a binder -/
theorem walk_ofK {l : PySem.W.OpenLaw} {n k : Nat} {q : Program} {loose : List Str} {XP : (Str → Option Value) → Heap → Prop} {YP : World → Heap → Prop} {d : DefRec} {K : Params → PySem.W.Frag} {CX : CXT} {sp : PySem.W.Frag → Sp} {x : Str}
    (hn : l.most = some n) (hn2 : n ≤ sizeLine) (hdf : d.params.defaults = []) (hr : Room k callerA)
    (hY : ∀ (w : World) (h : Heap), YP w h → (K w.params).In h)
    (F : ∀ (w : World) (mg : Str → Option Value) (fa : Addr) (h : Heap), (K w.params).In h → h.Ns mainGlobals mg → mg d.name = some (.ref fa) →
      ∃ fd : FuncData, (∀ (s : Shared) (u : Value), BindsTo s fd ⟨[u], []⟩ [(x, u)]) ∧
        ∀ base : Heap, (K w.params).In base → base.Ns mainGlobals mg → FnOk l.prog w (K w.params) mg base CX k fa fd [x] (sp (K w.params)))
    (hsp : ∀ (K : PySem.W.Frag) (H : Hp) (a : Addr) (ns : List Int), ns.length ≤ n → Only H → SqL K H a (ns.map V.int) → sp K [.ref a] H (fun v _ => v = .bl true) fun _ _ _ => False)
    (hCX : ∀ (H : Hp) (s : Shared) (e : Value) (s' : Shared), CX [] H s (fun _ _ _ => False) e s' → False) :
    PySem.W.WalkO q loose XP YP l.row.toRowW d [] (fun f vs => PySem.call f vs) :=
  walk_of (K := K) (CX := fun _ => CX) (sp := fun w => sp (K w.params)) hn hn2 hdf hr hY F (fun w H a ns h1 h2 h3 => hsp (K w.params) H a ns h1 h2 h3) fun _ H s e s' => hCX H s e s'
end L2

/- THE LAST THEOREM (shape; LID, My.* are yours):
   My.Adr: a structure of the addresses that your layer names (classes, functions); My.Txt K t: a structure (Prop) of the equations over K;
   My.txt_mk : {K} {implicit addresses ..} (e1 : nsIn K mainGlobals "law" = some (some (.ref f))) (e2 : K.lookup f = some ⟨oc, od, .func (fnOf "law" "law" params body scope dV kV doc pm an cdv ct), sl⟩) (e3 : codeIn K cdv "law" = true) .. : ∃ t, My.Txt K t

set_option maxRecDepth 100000 in
set_option maxHeartbeats 0 in
theorem PySem.Challenge.cw_LID_holds : PySem.Challenge.rw_LID.Holds := by
  w_on; o_law; k_head; (case hw => w_witness2)
  k_fill
  refine L2.walk_of (l := PySem.Challenge.rw_LID) (n := 63) (k := 40) (x := "script") (CX := fun w => ..) (sp := fun _ => My.sp_law) rfl (by decide) rfl ⟨rfl, by decide, by decide⟩ (fun w h Y => PySem.W.kIn_of Y) ?F ?S ?C
  case F =>
    intro w mg fa h KX G hmg
    have T : ∃ t, My.Txt (L2.KOf KX) t := by
      dsimp only [L2.KOf]                          -- K must stand as «<heap const> w.params» for k_is
      refine' My.txt_mk ?e1 ?e2 ?e3 ..
      (case e1 => PySem.W.k_is)                    -- in the order: a name -> its address -> its object -> its parts
      (case e2 => PySem.W.k_is)
      ..
    obtain ⟨t, T⟩ := T
    have e0 := hmg.symm.trans (PySem.W.mg_of KX G T.law)
    cases e0                                       -- fa is the law's own address
    exact ⟨_, fun s u => .of_eq rfl, fun base kb nb => My.law_fn T kb nb⟩     -- if «.of_eq rfl» comes too early: refine' ⟨_, ?b, fun base kb nb => My.law_fn T kb nb⟩; exact fun s u => .of_eq rfl
  case S => exact fun w H a ns hl hO hS => ..
  case C => exact ..
(the tactic k_is has no namespace: write k_is) -/

/-! SHORT WORDS over the layer: a def of the text, its body, what a loop and a test want. -/
namespace L2
open PySem PySem.Spec PyProof.Rows

/-! ### the text by places -/
def defArgs (s : Stmt) : Arguments := match s with
  | .FunctionDef _ a _ _ _ _ _ _ _ _ => a
  | _ => { posonlyargs := [], args := [], vararg := none, kwonlyargs := [], kw_defaults := [], kwarg := none, defaults := [] }
def defBody (s : Stmt) : List Stmt := match s with
  | .FunctionDef _ _ b _ _ _ _ _ _ _ => b
  | _ => []
def defScope (s : Stmt) : Scope := match s with
  | .FunctionDef _ _ _ _ _ _ sc _ _ _ => sc
  | _ => { kind := .function, names := [], isGenerator := false, isCoroutine := false }

/-! ### no exception leaves a def -/
abbrev CX0 : CXT := fun _ _ _ _ _ _ => False
abbrev E0 : XK := fun _ _ _ => False
theorem pass0 {X : Cx} : Passes CX0 X E0 := fun _ _ _ _ _ _ _ h => h.elim

/-! ### a def (or method) of the text as it stands behind the top -/
structure Fun (K : PySem.W.Frag) (x qual : Str) (st : Stmt) (f : Addr) (fd : FuncData) : Prop where
  ex : ∃ (oc : Value) (od : Option Addr) (kV doc pm : Value) (an : Option Addr) (cdv ct : Value) (osl : Array (Option Value)),
    fd = PySem.W.fnOf x qual (defArgs st) (defBody st) (defScope st) .none kV doc pm an cdv ct ∧ K.lookup f = some ⟨oc, od, .func fd, osl⟩ ∧ PySem.W.codeIn K cdv qual = true
  kp : PySem.W.keepIn K (.ref f) = true
section
variable {P : Program} {w : World} {K : PySem.W.Frag} {mg : Str → Option Value} {base : Heap}
/-- THE RULE for a def: its body as a term of rules, and the reading of that term -/
theorem Fun.ok {x qual : Str} {st : Stmt} {f : Addr} {fd : FuncData} {N ps : List Str} {k : Nat} {sp : Sp} (F : Fun K x qual st f fd) (S : FnScope N ps (defScope st)) (len : ∀ vs H Q E, sp vs H Q E → vs.length = ps.length)
    (hbody : ∀ (cdv : Value) (A : Around) (outer : List Env) (s : Shared) (H : Hp) (vs : List V) (Q : VK) (E : XK), Room k (A.deeper (envOfC qual (defScope st) s.heap.objs.size f cdv)) → sp vs H Q E →
      ∃ t, PSs (cxOf CX0 P w K mg base N qual (defScope st) f cdv A outer s H E).nox (defBody st) t ∧ t { nx := fun _ H' => Q .non H', rt := Q } (start N vs) H) : FnOk P w K mg base CX0 (k + 1) f fd ps sp := by
  obtain ⟨oc, od, kV, doc, pm, an, cdv, ct, osl, rfl, lk, hcd⟩ := F.ex
  refine fn_of lk hcd S len fun A outer s H vs Q E hr hsp => ?_
  obtain ⟨t, h, q⟩ := hbody cdv A outer s H vs Q E hr hsp
  exact ⟨t, h.nox, q⟩
/-- how its arguments bind (no defaults): h is «fun _ _ _ _ _ _ us hl => match us, hl with | [_, _], _ => rfl», one _ a parameter -/
theorem Fun.binds {x qual : Str} {st : Stmt} {f : Addr} {fd : FuncData} {ps : List Str} (F : Fun K x qual st f fd)
    (h : ∀ (kV doc pm : Value) (an : Option Addr) (cdv ct : Value) (us : List Value), us.length = ps.length → bindArgs (PySem.W.fnOf x qual (defArgs st) (defBody st) (defScope st) .none kV doc pm an cdv ct) ⟨us, []⟩ = pure (ps.zip us)) : Binds K fd ps [] := by
  obtain ⟨oc, od, kV, doc, pm, an, cdv, ct, osl, rfl, lk, hcd⟩ := F.ex
  exact .all (h kV doc pm an cdv ct)
theorem fun_mk {x qual : Str} {st : Stmt} {f : Addr} {oc : Value} {od an : Option Addr} {osl : Array (Option Value)} {kV doc pm cdv ct : Value} (l : K.lookup f = some ⟨oc, od, .func (PySem.W.fnOf x qual (defArgs st) (defBody st) (defScope st) .none kV doc pm an cdv ct), osl⟩)
    (c : PySem.W.codeIn K cdv qual = true) (k : PySem.W.keepIn K (.ref f) = true) : Fun K x qual st f (PySem.W.fnOf x qual (defArgs st) (defBody st) (defScope st) .none kV doc pm an cdv ct) := ⟨⟨oc, od, kV, doc, pm, an, cdv, ct, osl, rfl, l, c⟩, k⟩
end
theorem small1000 {n : Nat} (h : n ≤ 1000) : n < sizeLine := Nat.lt_of_le_of_lt h (by decide)

/-! ### expressions in short: the name that stands in the i-th slot -/
section
variable {X : Cx}
theorem pv (i : Nat) {x : Str} {pos : Pos} (hN : X.N[i]? = some x := by rfl) (hv : Vis X.env.scope x := by first | exact Or.inl rfl | exact Or.inr (Or.inl rfl) | exact Or.inr (Or.inr rfl)) (hd : (x == ("__debug__" : Str)) = false := by decide)
    (hcd : (x == ("__classdict__" : Str)) = false := by decide) : PE X (.Name x pos) (tVar i) := pe_var hN hv hd hcd
end

/-! ### tests -/
theorem iteF {A B : Prop} (h : B) : if false = true then A else B := by
  rw [if_neg Bool.false_ne_true]
  exact h
theorem iteT {A B : Prop} (h : A) : if true = true then A else B := by
  rw [if_pos rfl]
  exact h
theorem ite2 {c A B : Prop} [Decidable c] (h1 : c → A) (h2 : ¬ c → B) : if c then A else B := by
  by_cases h : c
  · rw [if_pos h]
    exact h1 h
  · rw [if_neg h]
    exact h2 h
/-! ### heaps -/
/-- all that was tracked is as it was -/
def Same (H H' : Hp) : Prop := ∀ b o, H b = some o → H' b = some o
theorem Same.refl (H : Hp) : Same H H := fun _ _ h => h
theorem Same.trans {H H1 H2 : Hp} (a : Same H H1) (b : Same H1 H2) : Same H H2 := fun c o h => b c o (a c o h)
theorem Same.free {H H' : Hp} (e : Same H H') {l : Addr} (h : H' l = Option.none) : H l = Option.none := by
  cases q : H l with
  | none => rfl
  | some o =>
    rw [e l o q] at h
    cases h
theorem Same.seq {K : PySem.W.Frag} {H H' : Hp} {a : Addr} {xs : List V} (e : Same H H') (h : SqL K H a xs) : SqL K H' a xs := by
  rcases h with (h | ⟨o, h⟩) | h
  · exact .inl (.inl (e _ _ h))
  · exact .inl (.inr ⟨o, e _ _ h⟩)
  · exact .inr h

/-! ### a dict's pairs: keys that differ -/
section
variable {κ : Type} [DecidableEq κ]
end
end L2

set_option linter.all false
namespace L2
open PySem
/-! ### plain data: what a value says, tuples within tuples; a list and a dict by their kind alone -/
inductive D where
  | non | bl (b : Bool) | int (i : Int) | str (z : Str) | lst | dct | tup (xs : List D)
def okSign (c : Nat) : Bool := decide (32 ≤ c) && decide (c ≤ 126) && decide (c ≠ 37)
def okText (z : Str) : Bool := decide (z.length ≤ 300) && z.cps.toList.all okSign
mutual
def good : D → Bool
  | .str z => okText z
  | .tup xs => decide (xs.length ≤ 40) && goodL xs
  | _ => false
def goodL : List D → Bool
  | [] => true
  | x :: r => good x && goodL r
end
mutual
def sz : D → Nat
  | .str z => z.length + 1
  | .tup xs => 1 + szL xs
  | _ => 0
def szL : List D → Nat
  | [] => 0
  | x :: r => sz x + szL r
end
mutual
def dp : D → Nat
  | .str _ => 1
  | .tup xs => 1 + dpL xs
  | _ => 0
def dpL : List D → Nat
  | [] => 0
  | x :: r => max (dp x) (dpL r)
end
mutual
def nd : D → Nat
  | .tup xs => 1 + ndL xs
  | _ => 1
def ndL : List D → Nat
  | [] => 0
  | x :: r => nd x + ndL r
end
def isT (d : D) : Bool := good d && decide (sz d ≤ 600) && decide (dp d ≤ 12)
theorem szL_append : ∀ (xs ys : List D), szL (xs ++ ys) = szL xs + szL ys
  | [], ys => by simp [szL]
  | x :: r, ys => by simp only [List.cons_append, szL, szL_append r ys]; omega
theorem ndL_append : ∀ (xs ys : List D), ndL (xs ++ ys) = ndL xs + ndL ys
  | [], ys => by simp [ndL]
  | x :: r, ys => by simp only [List.cons_append, ndL, ndL_append r ys]; omega
theorem dpL_le {k : Nat} : ∀ (xs : List D), dpL xs ≤ k ↔ ∀ x ∈ xs, dp x ≤ k
  | [] => by simp [dpL]
  | x :: r => by
    have ih := dpL_le (k := k) r
    have e : dpL (x :: r) = max (dp x) (dpL r) := by simp only [dpL]
    rw [e]
    constructor
    · intro h y hy
      rcases List.mem_cons.mp hy with rfl | hy
      · omega
      · exact ih.mp (by omega) y hy
    · intro h
      have h1 := h x List.mem_cons_self
      have h2 := ih.mpr fun y hy => h y (List.mem_cons_of_mem _ hy)
      omega
theorem dp_pos {d : D} (h : good d = true) : 1 ≤ dp d := by
  cases d <;> simp_all [good, dp]
/-! is_tree's stack of parts with their depths -/
def wOk (w : List (D × Nat)) : Bool := w.all fun p => good p.1 && decide (p.2 + dp p.1 ≤ 13)
def wSz (w : List (D × Nat)) : Nat := szL (w.map (·.1))
def G (w : List (D × Nat)) (n : Nat) : Bool := wOk w && decide (n + wSz w ≤ 600)
theorem G_start (d : D) : G [(d, 1)] 0 = isT d := by
  simp only [G, wOk, wSz, isT, List.all_cons, List.all_nil, List.map_cons, List.map_nil, szL, Bool.and_true, Nat.zero_add, Nat.add_zero]
  have e : decide (1 + dp d ≤ 13) = decide (dp d ≤ 12) := by
    rw [decide_eq_decide]; omega
  rw [e]
  cases good d <;> cases decide (sz d ≤ 600) <;> cases decide (dp d ≤ 12) <;> rfl
theorem G_nil {n : Nat} (h : n ≤ 600) : G [] n = true := by simp [G, wOk, wSz, szL, h]
theorem G_snoc (w : List (D × Nat)) (d : D) (k n : Nat) : G (w ++ [(d, k)]) n = (wOk w && (good d && decide (k + dp d ≤ 13)) && decide (n + (wSz w + sz d) ≤ 600)) := by
  simp only [G, wOk, wSz, List.all_append, List.all_cons, List.all_nil, Bool.and_true, List.map_append, List.map_cons, List.map_nil, szL_append, szL, Nat.add_zero]
  rfl
theorem G_bad {w : List (D × Nat)} {d : D} {k n : Nat} (h : good d = false) : G (w ++ [(d, k)]) n = false := by
  rw [G_snoc, h]; simp
theorem G_deep {w : List (D × Nat)} {d : D} {k n : Nat} (h : 12 < k) : G (w ++ [(d, k)]) n = false := by
  rw [G_snoc]
  cases hg : good d with
  | false => simp
  | true =>
    have := dp_pos hg
    have e : decide (k + dp d ≤ 13) = false := decide_eq_false (by omega)
    rw [e]; simp
theorem G_big {w : List (D × Nat)} {d : D} {k n : Nat} (h : 600 < n + sz d) : G (w ++ [(d, k)]) n = false := by
  rw [G_snoc]
  have e : decide (n + (wSz w + sz d) ≤ 600) = false := decide_eq_false (by omega)
  rw [e]; simp
theorem G_big1 {w : List (D × Nat)} {xs : List D} {k n : Nat} (h : 600 < n + 1) : G (w ++ [(.tup xs, k)]) n = false := G_big (by simp only [sz]; omega)
theorem wOk_map (xs : List D) (k : Nat) : wOk (xs.map fun x => (x, k + 1)) = (goodL xs && xs.all fun x => decide (k + 1 + dp x ≤ 13)) := by
  induction xs with
  | nil => rfl
  | cons x r ih =>
    simp only [List.map_cons, wOk, List.all_cons, goodL] at ih ⊢
    rw [ih]
    cases good x <;> cases decide (k + 1 + dp x ≤ 13) <;> cases goodL r <;> simp
theorem wSz_map (xs : List D) (k : Nat) : wSz (xs.map fun x => (x, k + 1)) = szL xs := by
  unfold wSz
  rw [List.map_map]
  congr 1
  induction xs with
  | nil => rfl
  | cons x r ih => simp only [List.map_cons, ih]; rfl
theorem G_tup {w : List (D × Nat)} {xs : List D} {k n : Nat} (hl : xs.length ≤ 40) (hk : k ≤ 12) : G (w ++ [(.tup xs, k)]) n = G (w ++ xs.map fun x => (x, k + 1)) (n + 1) := by
  rw [G_snoc]
  unfold G
  have e1 : wOk (w ++ xs.map fun x => (x, k + 1)) = (wOk w && wOk (xs.map fun x => (x, k + 1))) := by unfold wOk; rw [List.all_append]
  have e2 : wSz (w ++ xs.map fun x => (x, k + 1)) = wSz w + szL xs := by
    have := wSz_map xs k
    unfold wSz at this ⊢
    rw [List.map_append, szL_append, this]
  have e3 : decide (k + dp (.tup xs) ≤ 13) = xs.all fun x => decide (k + 1 + dp x ≤ 13) := by
    have q := dpL_le (k := 12 - k) xs
    have e0 : dp (.tup xs) = 1 + dpL xs := by simp only [dp]
    rw [e0, Bool.eq_iff_iff]
    constructor
    · intro h
      have h := of_decide_eq_true h
      refine List.all_eq_true.mpr fun x hx => decide_eq_true ?_
      have h2 := q.mp (by omega) x hx
      omega
    · intro h
      refine decide_eq_true ?_
      have h2 := q.mpr fun x hx => by
        have h3 := of_decide_eq_true (List.all_eq_true.mp h x hx)
        omega
      omega
  rw [e1, e2, e3, wOk_map]
  have e4 : good (.tup xs) = goodL xs := by simp only [good, decide_eq_true hl, Bool.true_and]
  have e5 : decide (n + (wSz w + sz (.tup xs)) ≤ 600) = decide (n + 1 + (wSz w + szL xs) ≤ 600) := by
    rw [decide_eq_decide]; simp only [sz]; omega
  rw [e4, e5]
theorem G_str {w : List (D × Nat)} {z : Str} {k n : Nat} (ht : okText z = true) (hk : k ≤ 12) : G (w ++ [(.str z, k)]) n = G w (n + (1 + z.length)) := by
  rw [G_snoc]
  unfold G
  have e4 : good (.str z) = true := by simp only [good, ht]
  have e3 : decide (k + dp (.str z) ≤ 13) = true := decide_eq_true (by simp only [dp]; omega)
  have e5 : decide (n + (wSz w + sz (.str z)) ≤ 600) = decide (n + (1 + z.length) + wSz w ≤ 600) := by
    rw [decide_eq_decide]; simp only [sz]; omega
  rw [e4, e3, e5]; simp
/-! tree_depth's levels -/
end L2

set_option Elab.async false
set_option linter.all false
set_option maxRecDepth 100000
set_option maxHeartbeats 4000000
/-! MORE RULES over the hand layer: texts, comprehensions, all, is, isinstance. -/
namespace L2
open PySem PySem.Spec PyProof.Rows

/-! ### a text walked sign by sign -/
def Its (x : Str) : It := ⟨fun i _ => i < x.cps.size, fun i H v H' => H' = H ∧ ∃ c, x.cps[i]? = some c ∧ v = .str ⟨#[c]⟩, fun i _ => i = x.cps.size⟩
theorem turn_str {P : Program} {w : World} {K : PySem.W.Frag} {tg : Expr} {x : Str} {t : Tok} {it : Addr} (ty : String) (hty : ty = "str_ascii_iterator" ∨ ty = "str_iterator") :
    Turn P w K tg (Its x) [it] it (fun i h => h.IsStrIter it ty x t i) where
  mem := by simp
  obj := fun i h st b hb => by
    have e : b = it := by simpa using hb
    subst e
    obtain ⟨o, e, c, d⟩ := st
    exact ⟨o, e, fun v z => by rw [d] at z; cases z⟩
  keep := fun i h h' st k => by
    obtain ⟨o, e, r⟩ := st
    exact ⟨o, k it (by simp) o e, r⟩
  item := by
    intro X hP hw hK hc i pins s σ H E I hf st hg
    subst hP hw hK
    obtain ⟨f0, f1, f2, f3, f4, f5⟩ := hf it (by simp)
    have W : Walks X.prog X.w X.A it [it] [it] x.cps.size (SignAt x) (fun i h => h.IsStrIter it ty x t i) := by
      rcases hty with rfl | rfl
      · exact Walks.strAscii (I.ok.hd hc) it x t
      · exact Walks.strWide (I.ok.hd hc) it x t
    refine W.item i s _ _ hg st fun v h' tk hv st' kk => ?_
    obtain ⟨c, u, hx, rfl⟩ := hv
    have I1 : Inv X pins σ H { s with heap := h', toks := tk } := I.turned (fun b o hb e => kk b o (by simpa using hb) e) f0 f1 f3 f4 f5
    obtain ⟨o, e, c', d⟩ := id st'
    refine ⟨_, rfl, go_of (s := { s with heap := h', toks := tk }) e c' d (by rcases hty with rfl | rfl <;> decide) ⟨.str ⟨#[c]⟩, H, I1, ⟨u, rfl⟩, ⟨rfl, c, hx, rfl⟩, st', fun b hb => (hf b hb).1⟩⟩
  done := by
    intro X hP hw hK hc i pins s σ H E I hf st hg
    subst hP hw hK
    have hg' : i = x.cps.size := hg
    subst hg'
    obtain ⟨f0, f1, f2, f3, f4, f5⟩ := hf it (by simp)
    have W : Walks X.prog X.w X.A it [it] [it] x.cps.size (SignAt x) (fun i h => h.IsStrIter it ty x t i) := by
      rcases hty with rfl | rfl
      · exact Walks.strAscii (I.ok.hd hc) it x t
      · exact Walks.strWide (I.ok.hd hc) it x t
    exact W.done s _ _ st fun h' tk kk => ⟨rfl, I.turned (fun b o hb e => kk b o (by simpa using hb) e) f0 f1 f3 f4 f5⟩
  self := fun _ _ _ _ _ st h => by
    rcases hty with rfl | rfl
    · exact wpAny_pyIter_striter_ascii st h
    · exact wpAny_pyIter_striter_wide st h
section
variable {X : Cx} {tg : Expr}
def iStr (tl : TE) : TI := fun σ H R => tl σ H fun x H1 => ∃ z, x = .str z ∧ R (Its z) H1
theorem pi_str {l : Expr} {tl : TE} (hl : PE X l tl) : PI X tg l (iStr tl) := by
  intro pins s σ H R I h
  refine thn (hl pins s σ H _ I h) fun v s1 ⟨x, H1, I1, r1, q1⟩ => ?_
  obtain ⟨z, e, q⟩ := q1
  subst e
  obtain ⟨t, rfl⟩ := r1
  have fp : ∀ (o : Obj), ∀ b ∈ [s1.heap.objs.size], FpOk X pins H1 b := fun o b hb => by
    have e : b = s1.heap.objs.size := by simpa using hb
    subst e
    exact I1.fpOk (Nat.le_refl _) (I1.hok.fresh (Nat.le_refl _))
  cases ha : z.cps.all (· < 128)
  · refine wpAny_pyIter_wide ha ?_
    exact ⟨s1.heap.objs.size, [s1.heap.objs.size], _, _, H1, rfl, I1.kept (t' := s1.toks) fun b o e => Heap.get?_push_of_some _ e, turn_str "str_iterator" (.inr rfl), ⟨_, Heap.get?_push_size _ rfl, rfl, rfl⟩, fp default, q⟩
  · refine wpAny_pyIter_ascii ha ?_
    exact ⟨s1.heap.objs.size, [s1.heap.objs.size], _, _, H1, rfl, I1.kept (t' := s1.toks) fun b o e => Heap.get?_push_of_some _ e, turn_str "str_ascii_iterator" (.inl rfl), ⟨_, Heap.get?_push_size _ rfl, rfl, rfl⟩, fp default, q⟩

/-! ### a slice of a text -/
/-! ### is, is not: a bool on the right -/
theorem op_isB : OpR X (compareOp .Is) (fun x y H Q => ∃ c, y = .bl c ∧ Q (.bl (decide (x = .bl c))) H) := by
  intro pins s σ H x y v u Q I rx ry h
  obtain ⟨c, rfl, q⟩ := h
  cases ry
  have hp : plainIs v (.bool c) = true := by
    cases x <;> first
      | (cases rx; rfl)
      | (obtain ⟨t, rfl⟩ := rx; rfl)
  refine wpAny_is_plain hp (fin_bl I q ?_)
  cases x with
  | bl b => cases rx; cases b <;> cases c <;> rfl
  | non => cases rx; rfl
  | ref a => cases rx; rfl
  | ty n => cases rx; rfl
  | int i => obtain ⟨t, rfl⟩ := rx; rfl
  | str i => obtain ⟨t, rfl⟩ := rx; rfl
  | byt i => obtain ⟨t, rfl⟩ := rx; rfl
  | flt i => obtain ⟨t, rfl⟩ := rx; rfl
/-! ### isinstance(x, c): by the types' own table -/
theorem call_isinst {K : PySem.W.Frag} (hK : X.K = K) : CallR X (.builtin "isinstance") (fun xs H Q => ∃ x T t b, xs = [x, .ty T] ∧ TyOf K H x t ∧ PySem.W.kitOne K t (.type T) = some b ∧ Q (.bl b) H) := by
  intro pins s σ H xs us Q I r h
  obtain ⟨x, T, t, b, rfl, ty, e, q⟩ := h
  obtain ⟨u, u', rfl, ru, ru'⟩ := vals2 r
  cases ru'
  subst hK
  exact isinst_ok I ru ty e fun tk => ⟨.bl b, H, I.tok tk, rfl, q⟩

/-! ### all, any of a list of bools -/
end
end L2
namespace L2
open PySem PySem.Spec PyProof.Rows
section
variable {X : Cx}
/-- a text so many times -/
theorem op_repS : OpR X (binaryOp .Mult) (fun x y H Q => ∃ z k, x = .str z ∧ y = .int k ∧ MulOk z k ∧ Q (.str (Txt.mul z k)) H) := by
  intro pins s σ H x y v u Q I rx ry h
  obtain ⟨z, k, rfl, rfl, hok, q⟩ := h
  obtain ⟨t, rfl⟩ := rx
  obtain ⟨t', rfl⟩ := ry
  exact SB.mul hok fun t' k' => ⟨.str (Txt.mul z k), H, I.tok k', ⟨t', rfl⟩, q⟩
/-- the file's constants -/
theorem pe_gI {x : Str} {i : Int} {pos : Pos} (hg : Gl X x) (hm : ∃ t, X.mg x = some (.int i t)) (hd : (x == ("__debug__" : Str)) = false := by decide) : PE X (.Name x pos) (tC (.int i)) := by
  obtain ⟨t, hm⟩ := hm
  exact pe_glob hg hm ⟨t, rfl⟩ hd
theorem pe_gR {x : Str} {a : Addr} {pos : Pos} (hg : Gl X x) (hm : X.mg x = some (.ref a)) (hd : (x == ("__debug__" : Str)) = false := by decide) : PE X (.Name x pos) (tC (.ref a)) := pe_glob hg hm rfl hd
end
/-! ### heaps -/
theorem same_new {H : Hp} {p : Addr} (h : H p = none) (o : HO) : Same H (upd H p o) := fun b u q => by rw [upd_ne (ne_of_none q h)]; exact q
/-- all but p as it was -/
def Kept (p : Addr) (H H' : Hp) : Prop := ∀ b o, H b = some o → b ≠ p → H' b = some o
theorem Kept.trans {p : Addr} {H H1 H2 : Hp} (a : Kept p H H1) (b : Kept p H1 H2) : Kept p H H2 := fun c o h n => b c o (a c o h n) n
theorem Same.kept {p : Addr} {H H' : Hp} (e : Same H H') : Kept p H H' := fun b o h _ => e b o h
theorem Kept.upd (p : Addr) (H : Hp) (o : HO) : Kept p H (L2.upd H p o) := fun b u h n => by rw [upd_ne n]; exact h
/-- where p was new, all is as it was -/
theorem Kept.same {p : Addr} {H H1 H' : Hp} (k : Kept p H1 H') (s : Same H H1) (n : H p = none) : Same H H' := fun b o h => k b o (s b o h) (ne_of_none h n)
theorem atI_some {α : Type} {xs : List α} {i : Int} (h0 : 0 ≤ i) (h1 : i < xs.length) : ∃ c, atI xs i = some c := by
  obtain ⟨n, rfl⟩ : ∃ n : Nat, i = (n : Int) := ⟨i.toNat, by omega⟩
  have hn : n < xs.length := by omega
  exact ⟨xs[n], atI_nat (List.getElem?_eq_getElem hn)⟩
end L2

set_option Elab.async false
set_option linter.all false
set_option maxRecDepth 100000
set_option maxHeartbeats 4000000
namespace L2
open PySem PySem.Spec PyProof.Rows

/-! ### list comprehensions: one for, at most one if -/
/-- the cells of the free names -/
def clOf (cells : List (Str × Addr)) : List (Str × NameKind) → List (Str × Addr) → List (Str × Addr)
  | [], cs => cs
  | (n, k) :: r, cs => clOf cells r (if k == .free then (match cells.lookup n with | some a => (n, a) :: cs | none => cs) else cs)
theorem clOf_sub {cells : List (Str × Addr)} : ∀ {names : List (Str × NameKind)} {cs : List (Str × Addr)}, (∀ y c, cs.lookup y = some c → cells.lookup y = some c) → ∀ y c, (clOf cells names cs).lookup y = some c → cells.lookup y = some c
  | [], _, h => h
  | (n, k) :: r, cs, h => by
    unfold clOf
    refine clOf_sub fun y c e => ?_
    split at e
    · split at e
      · rename_i a ha
        rw [List.lookup_cons] at e
        split at e
        · rename_i hy
          have hy' : y = n := beq_iff_eq.mp hy
          subst hy'
          cases e
          exact ha
        · exact h y c e
      · exact h y c e
    · exact h y c e
theorem clOf_keep {cells : List (Str × Addr)} : ∀ {names : List (Str × NameKind)} {cs : List (Str × Addr)} {y : Str}, (∃ c, cs.lookup y = some c) → ∃ c, (clOf cells names cs).lookup y = some c
  | [], _, _, h => h
  | (n, k) :: r, cs, y, h => by
    unfold clOf
    refine clOf_keep ?_
    split
    · split
      · rw [List.lookup_cons]
        split
        · exact ⟨_, rfl⟩
        · exact h
      · exact h
    · exact h
theorem clOf_has {cells : List (Str × Addr)} : ∀ {names : List (Str × NameKind)} {cs : List (Str × Addr)} {y : Str}, (y, NameKind.free) ∈ names → (∃ c, cells.lookup y = some c) → ∃ c, (clOf cells names cs).lookup y = some c
  | [], _, _, h, _ => nomatch h
  | (n, k) :: r, cs, y, h, hc => by
    unfold clOf
    rcases List.mem_cons.mp h with e | h
    · cases e
      refine clOf_keep ?_
      obtain ⟨c, hc⟩ := hc
      rw [if_pos (by rfl), hc]
      exact ⟨c, by simp [List.lookup_cons]⟩
    · exact clOf_has h hc
theorem closure_go {env : Env} : ∀ {names : List (Str × NameKind)} {cs : List (Str × Addr)}, (∀ y, (y, NameKind.free) ∈ names → ∃ c, env.cells.lookup y = some c) →
    (forIn names cs fun x r => (do
      if x.2 == .free then
        let a ← cellOf env x.1
        pure (ForInStep.yield ((x.1, a) :: r))
      else pure (ForInStep.yield r) : Sem (ForInStep (List (Str × Addr))))) = (pure (clOf env.cells names cs) : Sem (List (Str × Addr)))
  | [], cs, _ => rfl
  | (n, k) :: r, cs, h => by
    rw [List.forIn_cons]
    have hr : ∀ y, (y, NameKind.free) ∈ r → ∃ c, env.cells.lookup y = some c := fun y hy => h y (List.mem_cons_of_mem _ hy)
    unfold clOf
    by_cases hk : (k == NameKind.free) = true
    · have hk' : k = .free := by simpa using hk
      subst hk'
      obtain ⟨c, hc⟩ := h n List.mem_cons_self
      have e : cellOf env n = pure c := by unfold cellOf; rw [hc]
      simp only [hk, if_true, e, hc, pure_bind]
      exact closure_go hr
    · simp only [if_neg hk, pure_bind]
      exact closure_go hr
theorem closure_ok {scope : Scope} {env : Env} (h : ∀ y, (y, NameKind.free) ∈ scope.names → ∃ c, env.cells.lookup y = some c) : closureFor scope env = pure (clOf env.cells scope.names []) := by
  unfold closureFor
  have q := closure_go (cs := []) h
  show (forIn scope.names ([] : List (Str × Addr)) (fun x r => (do
      if x.2 == .free then
        let a ← cellOf env x.1
        pure (ForInStep.yield ((x.1, a) :: r))
      else pure (ForInStep.yield r) : Sem (ForInStep (List (Str × Addr))))) >>= fun cs => pure cs) = _
  rw [q, pure_bind]

theorem relabel_cell {env : Env} (hf : env.scope.kind = .function) : ∀ {names : List (Str × NameKind)} {x : Str}, names.lookup x = some .free → env.kindOf x = some .cell →
    (names.map fun (n, k) => if (k == NameKind.free && env.scope.kind == .function && env.kindOf n == some .cell) then (n, NameKind.cell) else (n, k)).lookup x = some .cell
  | [], _, h, _ => by simp at h
  | (n, k) :: r, x, h, hc => by
    have ih := @relabel_cell env hf r x
    show List.lookup x ((if (k == NameKind.free && env.scope.kind == .function && env.kindOf n == some .cell) = true then (n, NameKind.cell) else (n, k)) :: _) = _
    cases hx : x == n with
    | true =>
      simp only [List.lookup_cons, hx] at h
      cases h
      have hx' : x = n := beq_iff_eq.mp hx
      subst hx'
      rw [if_pos (by rw [hf, hc]; rfl)]
      simp [List.lookup_cons]
    | false =>
      simp only [List.lookup_cons, hx] at h
      by_cases hc' : (k == NameKind.free && env.scope.kind == .function && env.kindOf n == some .cell) = true
      · rw [if_pos hc']; simp only [List.lookup_cons, hx]; exact ih h hc
      · rw [if_neg hc']; simp only [List.lookup_cons, hx]; exact ih h hc
theorem relabel_was {env : Env} : ∀ {names : List (Str × NameKind)} {x : Str}, (∀ y ∈ names, y.2 ≠ .cell) →
    ((names.map fun (n, k) => if (k == NameKind.free && env.scope.kind == .function && env.kindOf n == some .cell) then (n, NameKind.cell) else (n, k)).lookup x = some .cell ∨
     (names.map fun (n, k) => if (k == NameKind.free && env.scope.kind == .function && env.kindOf n == some .cell) then (n, NameKind.cell) else (n, k)).lookup x = some .free) → (x, NameKind.free) ∈ names
  | [], _, _, h => by simp at h
  | (n, k) :: r, x, hn, h => by
    have ih := @relabel_was env r x (fun y hy => hn y (List.mem_cons_of_mem _ hy))
    have g : List.lookup x ((if (k == NameKind.free && env.scope.kind == .function && env.kindOf n == some .cell) = true then (n, NameKind.cell) else (n, k)) :: (r.map fun (n, k) => if (k == NameKind.free && env.scope.kind == .function && env.kindOf n == some .cell) then (n, NameKind.cell) else (n, k))) = some .cell ∨
      List.lookup x ((if (k == NameKind.free && env.scope.kind == .function && env.kindOf n == some .cell) = true then (n, NameKind.cell) else (n, k)) :: (r.map fun (n, k) => if (k == NameKind.free && env.scope.kind == .function && env.kindOf n == some .cell) then (n, NameKind.cell) else (n, k))) = some .free := h
    have hnk : k ≠ .cell := hn (n, k) List.mem_cons_self
    by_cases hc : (k == NameKind.free && env.scope.kind == .function && env.kindOf n == some .cell) = true
    · rw [if_pos hc] at g
      have hk : k = .free := by
        rw [Bool.and_eq_true, Bool.and_eq_true] at hc
        simpa using hc.1.1
      subst hk
      cases hx : x == n with
      | true =>
        have hx' : x = n := beq_iff_eq.mp hx
        subst hx'
        exact List.mem_cons_self
      | false =>
        simp only [List.lookup_cons, hx] at g
        exact List.mem_cons_of_mem _ (ih g)
    · rw [if_neg hc] at g
      cases hx : x == n with
      | true =>
        have hx' : x = n := beq_iff_eq.mp hx
        subst hx'
        simp only [List.lookup_cons, hx] at g
        rcases g with g | g
        · exact absurd (Option.some.inj g) hnk
        · rw [show k = NameKind.free from Option.some.inj g]
          exact List.mem_cons_self
      | false =>
        simp only [List.lookup_cons, hx] at g
        exact List.mem_cons_of_mem _ (ih g)

/-- the block's context -/
abbrev blk (X : Cx) (scope : Scope) (Nb : List Str) (cl : List (Str × Addr)) (C : Addr) (s₀ : Shared) (H₀ : Hp) (fp : List Addr) (pn : List (Addr × Obj)) : Cx :=
  { X with N := Nb, s₀ := s₀, H₀ := H₀, env := compEnvC scope cl C X.env, outer := X.stack, ex := fp, fn := fun _ => false, pn := pn, xe := fun _ _ => False }

/-- the names of a block: nt of its own, then those of the def that it reads (at fr) -/
structure LcS (X : Cx) (scope : Scope) (Nb : List Str) (nt : Nat) (fr : List Nat) : Prop where
  kind : scope.kind = .function
  cell : ∀ y ∈ scope.names, y.2 ≠ .cell
  names : ∀ y ∈ scope.names, y.2 = .local → scope.names.lookup y.1 = some .local
  free : ∀ y ∈ scope.names, y.2 = .free → X.env.kindOf y.1 = some .cell
  len : Nb.length = nt + fr.length
  fr : ∀ (k j : Nat) (x : Str), fr[k]? = some j → Nb[nt + k]? = some x → X.N[j]? = some x ∧ scope.names.lookup x = some .free

def sigB (nt : Nat) (fr : List Nat) (σ : St) : St := List.replicate nt none ++ fr.map fun j => (σ[j]?).join

theorem HOk.sameBut {P : Program} {w : World} {H : Hp} {h h' : Heap} {C : Addr} (ok : HOk P w H h) (hn : H C = none) (hs : Heap.SameBut C h h') : HOk P w H h' := fun b ob e => by
  refine (ok b ob e).stay (fun c w' hc q => (hs.2 c ?_).trans q) (fun _ q => q) fun _ _ q => q
  rintro rfl
  rcases hc with rfl | hc
  · rw [hn] at e; cases e
  · rw [hn] at hc; cases hc

section
variable {pr : Program} {wo : World} {ar : Around} {RR : Result → Shared → Prop} {st : Shared}
/-- what is wanted of an exception within the block -/
abbrev nb (pr : Program) (wo : World) (ar : Around) (en : Env) (RR : Result → Shared → Prop) : Value → Shared → Prop := notedBy (model pr wo) ar en fun x t => RR (.error x) t
/-- the tests, one after another -/
abbrev tsts (en : Env) (cs : List Expr) : Sem Bool := forIn cs true fun c b => if b = true then do let y ← isTrue c en (eval c en); pure (ForInStep.yield y) else pure (ForInStep.yield b)
/-- the block's loop by a word and a measure, whatever the target is -/
theorem compLoop_by {el tg itx : Expr} {cs : List Expr} {sc : Scope} {ps : Pos} {itv acc : Value} {en : Env} (J : Nat → Shared → Prop)
    (turn : ∀ k t, J k t → wpAny (model pr wo) ar (pyNext itv) (fun r t1 => match r with
      | none => RR (.ok .next) t1
      | some v => wpAny (model pr wo) ar (letOwnedTupleGo tg itv v) (fun _ t2 => wpAny (model pr wo) ar (assign tg en v) (fun _ t3 => wpAny (model pr wo) ar (tsts en cs) (fun b t4 =>
          if b = true then wpAny (model pr wo) ar (eval el en) (fun x t5 => wpAny (model pr wo) ar (call (.builtin "list.append") [acc, x]) (fun _ t6 => ∃ m, m < k ∧ J m t6) (nb pr wo ar en RR) t5) (nb pr wo ar en RR) t4
          else ∃ m, m < k ∧ J m t4) (nb pr wo ar en RR) t3) (nb pr wo ar en RR) t2) (nb pr wo ar en RR) t1) (nb pr wo ar en RR) t)
    (k : Nat) (h0 : J k st) : codeAny (model pr wo) ar (.compLoop (.ListComp el [⟨tg, itx, cs, 0⟩] sc ps) 0 itv acc en) RR st := by
  refine codeAny_loop rfl J (fun k t hJ => ?_) k h0
  show wpAny _ ar ((compTurn (.ListComp el [⟨tg, itx, cs, 0⟩] sc ps) 0 itv acc en).onRaise fun x => do noteFrame x en; theTreesLotGoes x) _ _ t
  rw [compTurn_list]
  refine wpAny_noted (wpAny_bind (wpAny_standAt (wpAny_bind (thn (turn k t hJ) fun r t1 q1 => ?_))))
  cases r with
  | none => exact wpAny_pure q1
  | some v =>
    refine wpAny_bind (thn q1 fun _ t2 q2 => wpAny_bind (thn q2 fun _ t3 q3 => wpAny_bind (thn q3 fun b t4 q4 => ?_)))
    cases b with
    | false => exact wpAny_pure ⟨rfl, q4⟩
    | true => exact wpAny_bind (wpAny_bind (thn q4 fun x t5 q5 => wpAny_bind (thn q5 fun _ t6 q6 => wpAny_pure (wpAny_pure ⟨rfl, q6⟩))))
end

/-- the tests of a comprehension -/
def PIfs (X : Cx) (ifs : List Expr) (t : TT) : Prop :=
  ∀ (pins : List (Addr × Obj)) (s : Shared) (σ : St) (H : Hp) (Q : Bool → Hp → Prop), Inv X pins σ H s → t σ H Q → wpAny (model X.prog X.w) X.A (tsts X.env ifs) (TP X pins σ Q) X.xe s
def tYes : TT := fun _ H Q => Q true H
theorem pif_nil {X : Cx} : PIfs X [] tYes := fun _ _ _ H _ I h => wpAny_tests_nil ⟨H, I, h⟩
/-- what a comprehension is worth: D its list, n its turns, W what holds ahead of a turn -/
def lcGo (D : Addr) (J : It) (g : TG) (tc : TT) (te : TE) (σb : St) (H1 : Hp) (Q : VK) : Prop :=
  ∃ (n : Nat) (W : Nat → St → List V → Hp → Prop), n ≤ sizeLine ∧ W 0 σb [] (upd H1 D (.lst [])) ∧
    (∀ i σ ys H, i < n → W i σ ys H → H D = some (.lst ys) → ys.length ≤ i → J.go i H ∧ ∀ x H', J.yld i H x H' → g x σ H' fun σ2 H2 => tc σ2 H2 fun b H3 =>
      if b = true then te σ2 H3 fun y H4 => H4 D = some (.lst ys) ∧ W (i + 1) σ2 (ys ++ [y]) (upd H4 D (.lst (ys ++ [y]))) else H3 D = some (.lst ys) ∧ W (i + 1) σ2 ys H3) ∧
    ∀ σ ys H, W n σ ys H → H D = some (.lst ys) → J.stop n H ∧ Q (.ref D) H
def tLC (nt : Nat) (fr : List Nat) (wi : TI) (g : TG) (tc : TT) (te : TE) : TE := fun σ H Q => wi σ H fun J H1 => ∀ D, H1 D = none → lcGo D J g tc te (sigB nt fr σ) H1 Q

section
variable {X : Cx} {scope : Scope} {Nb : List Str} {nt : Nat} {fr : List Nat}
/-- the block begins -/
theorem inv_blk {pins : List (Addr × Obj)} {σ : St} {H : Hp} {s : Shared} {fp : List Addr} {C : Addr} {h4 : Heap} {tk : Nat} (S : LcS X scope Nb nt fr) (I : Inv X pins σ H s) (hC : C = s.heap.objs.size)
    (hns : h4.Ns C fun _ => none) (old : ∀ b o, s.heap.get? b = some o → h4.get? b = some o) (hf : ∀ b ∈ fp, FpOk X pins H b) (ho : ∀ b ∈ fp, ∃ o, s.heap.get? b = some o) :
    Inv (blk X scope Nb (clOf X.env.cells scope.names []) C s H fp (X.pn ++ pins)) [] (sigB nt fr σ) H { s with heap := h4, toks := tk } := by
  subst hC
  have sub : ∀ y c, (clOf X.env.cells scope.names []).lookup y = some c → X.env.cells.lookup y = some c := clOf_sub fun y c e => by simp at e
  have frees : ∀ y, (y, NameKind.free) ∈ scope.names → X.env.kindOf y = some .cell := fun y hy => S.free _ hy rfl
  have neC : ∀ b o, s.heap.get? b = some o → b ≠ s.heap.objs.size := fun b o e z => by rw [z] at e; exact absurd (Heap.lt_size e) (Nat.lt_irrefl _)
  have notStk : ∀ b, b ≠ X.env.locals → b ∉ X.fs → b ∉ frs X.stack := fun b h1 h2 z => (List.mem_cons.mp (I.stkSub b z)).elim h1 h2
  refine ⟨⟨I.ok.mod, S.kind, I.ok.glob, I.ok.blt, Nat.le_refl _, fun x y c h1 h2 => I.ok.inj x y c (sub x c h1) (sub y c h2), fun x hx => ?_, fun x c z => (by cases z), I.ok.hd, I.ok.frames, .inl rfl, fun b hb => ?_, I.bs, Nat.le_trans I.ok.bsz I.sz, fun b o e hb => ?_, fun b hb => ?_, I.stack, I.stkFree⟩,
    rfl, I.bare, Un.kept old, ⟨_, hns, fun i x v e1 e2 e3 => ?_⟩, fun x c e => ?_, I.hok.fresh (Nat.le_refl _), fun x c e => I.freeC x c (sub x c e), fun p hp => ?_, I.hok.kept old, ?_⟩
  · have hm := relabel_was (env := X.env) S.cell hx
    exact clOf_has hm (I.ok.has x (.inl (frees x hm)))
  · obtain ⟨o, e⟩ := ho b hb
    exact ⟨neC b o e, fun x c e' => (hf b hb).2.2.2.2.1 x c (sub x c e')⟩
  · rcases (hf b hb).2.2.2.1 with z | z
    · exact I.ok.noex b o e z
    · exact absurd (Nat.lt_of_lt_of_le (Heap.lt_size e) (Nat.le_trans I.ok.bsz z)) (Nat.lt_irrefl _)
  · exact notStk b (hf b hb).2.1 (hf b hb).2.2.1
  · -- the names that the block reads
    have hi : nt ≤ i := by
      rcases Nat.lt_or_ge i nt with z | z
      · unfold sigB at e2
        rw [List.getElem?_append_left (by simpa using z), List.getElem?_replicate] at e2
        split at e2 <;> cases e2
      · exact z
    obtain ⟨k, rfl⟩ : ∃ k, i = nt + k := ⟨i - nt, by omega⟩
    unfold sigB at e2
    rw [List.getElem?_append_right (by simp)] at e2
    simp only [List.length_replicate, Nat.add_sub_cancel_left, List.getElem?_map] at e2
    cases ej : fr[k]? with
    | none => rw [ej] at e2; cases e2
    | some j =>
      rw [ej] at e2
      have e2' : (σ[j]?).join = some v := Option.some.inj e2
      have e2'' : σ[j]? = some (some v) := by
        cases q : σ[j]? with
        | none => rw [q] at e2'; cases e2'
        | some z => rw [q] at e2'; exact congrArg some e2'
      obtain ⟨n1, n2⟩ := S.fr k j x ej e1
      have kx : X.env.kindOf x = some .cell := frees x (PySem.mem_of_lookup n2)
      obtain ⟨m, hn, hl⟩ := I.loc
      obtain ⟨u, r, l⟩ := hl j x v n1 e2'' (.inr (.inl kx))
      refine ⟨u, r, .inr ⟨.inl (relabel_cell I.ok.kind n2 kx), ?_⟩⟩
      rcases l with ⟨z, _⟩ | ⟨_, c, ec, hcell⟩
      · rw [kx] at z; cases z
      · obtain ⟨c', ec'⟩ := clOf_has (cells := X.env.cells) (cs := []) (PySem.mem_of_lookup n2) ⟨c, ec⟩
        have := sub x c' ec'
        rw [ec] at this
        cases this
        obtain ⟨o, q, d⟩ := hcell
        exact ⟨c, ec', o, old c o q, d⟩
  · obtain ⟨v, o, q, d⟩ := I.cell x c (sub x c e)
    exact ⟨v, o, old c o q, d⟩
  · have hp' : p ∈ X.pn ++ pins := by simpa using hp
    obtain ⟨e, n, ne, nf, d⟩ := I.pin p hp'
    exact ⟨old _ _ e, n, neC _ _ e, notStk _ ne nf, d⟩
  · show (sigB nt fr σ).length = Nb.length
    unfold sigB
    rw [S.len]
    simp

theorem lc_core {tg iter elt : Expr} {ifs : List Expr} {wi : TI} {g : TG} {tc : TT} {te : TE} {pos : Pos} {R : Value → Addr → Result → Shared → Prop} {pins : List (Addr × Obj)} {s : Shared} {σ : St} {H : Hp} {Q : VK} (S : LcS X scope Nb nt fr) (hcalm : X.calm = true) (hi : PI X tg iter wi)
    (hg : ∀ cl C s₀ H₀ fp pn, PG (blk X scope Nb cl C s₀ H₀ fp pn) tg g) (hc : ∀ cl C s₀ H₀ fp pn, PIfs (blk X scope Nb cl C s₀ H₀ fp pn) ifs tc) (he : ∀ cl C s₀ H₀ fp pn, PE (blk X scope Nb cl C s₀ H₀ fp pn) elt te)
    (I : Inv X pins σ H s) (h : tLC nt fr wi g tc te σ H Q)
    (hR : ∀ (D C : Addr) (H' : Hp) (s1 : Shared) (m : Str → Option Value), Inv X pins σ H' s1 → s1.heap.Ns C m → FpOk X pins H' C → Q (.ref D) H' → R (.ref D) C (.ok .next) s1) :
    wpAny (model X.prog X.w) X.A (eval iter X.env) (fun x s₁ => wpAny (model X.prog X.w) X.A (pyIter x) (fun it s₂ => wpAny (model X.prog X.w) X.A (newList []) (fun acc s₃ =>
      wpAny (model X.prog X.w) X.A (newFunctionEnv scope X.env.globals (clOf X.env.cells scope.names []) [] X.env.qual none .none (some X.env)) (fun cenv s₄ =>
        codeAny (model X.prog X.w) X.A (.compStart (.ListComp elt [⟨tg, iter, ifs, 0⟩] scope pos) 0 it acc { cenv with scope := relabel scope X.env }) (R acc cenv.locals) s₄) X.xe s₃) X.xe s₂) X.xe s₁) X.xe s := by
  refine thn (hi pins s σ H _ I h) fun v s1 h1 => thn h1 fun itv s2 h2 => ?_
  obtain ⟨it, fp, tn, J, H2, e, I2, T, st2, f2, q2⟩ := h2
  subst e
  have hDn : H2 s2.heap.objs.size = none := I2.hok.fresh (Nat.le_refl _)
  obtain ⟨n, W, hn, w0, step, fin⟩ := q2 _ hDn
  generalize hD : s2.heap.objs.size = D at *
  refine wpAny_newObj_type ?_
  rw [hD]
  have I3 : Inv X pins σ (upd H2 D (.lst [])) { s2 with heap := s2.heap.push { cls := .type "list", data := .seq ([] : List Value).toArray } } := by
    have := I2.lnew (ys := []) (its := []) (t' := s2.toks) .nil (Nat.zero_le _)
    rw [hD] at this
    exact this
  refine wpAny_newFunctionEnv S.cell (by intro y hy; simp at hy) (fun h4 hns4 sb4 => ?_) S.kind
  dsimp only at hns4 sb4 ⊢
  generalize hH3 : s2.heap.push { cls := .type "list", dict := none, data := .seq ([] : List Value).toArray } = h3 at hns4 sb4 I3 ⊢
  have hC : h3.objs.size = D + 1 := by rw [← hH3, Heap.size_push, hD]
  have old4 : ∀ b o, h3.get? b = some o → h4.get? b = some o := fun b o e => sb4.extBut b o (Nat.ne_of_lt (Heap.lt_size e)) (Heap.get?_push_of_some _ e)
  have old3 : ∀ b o, s2.heap.get? b = some o → h3.get? b = some o := fun b o e => by rw [← hH3]; exact Heap.get?_push_of_some _ e
  have fpo : ∀ b ∈ fp, ∃ o, s2.heap.get? b = some o := fun b hb => let ⟨o, e, _⟩ := T.obj _ _ st2 b hb; ⟨o, e⟩
  have fpD : ∀ b ∈ fp, b ≠ D := fun b hb z => by
    obtain ⟨o, e⟩ := fpo b hb
    have q := Heap.lt_size e
    rw [z, hD] at q
    exact Nat.lt_irrefl _ q
  have f3 : ∀ b ∈ fp, FpOk X pins (upd H2 D (.lst [])) b := fun b hb => ⟨by rw [upd_ne (fpD b hb)]; exact (f2 b hb).1, (f2 b hb).2⟩
  have IB := inv_blk (C := h3.objs.size) (h4 := h4) (tk := s2.toks + ([] : List (Str × Value)).length) (fp := fp) S I3 rfl hns4 old4 f3 fun b hb => let ⟨o, e⟩ := fpo b hb; ⟨o, old3 b o e⟩
  generalize hXb : blk X scope Nb (clOf X.env.cells scope.names []) h3.objs.size { s2 with heap := h3 } (upd H2 D (.lst [])) fp (X.pn ++ pins) = Xb at IB
  have gB := hg (clOf X.env.cells scope.names []) h3.objs.size { s2 with heap := h3 } (upd H2 D (.lst [])) fp (X.pn ++ pins)
  have cB := hc (clOf X.env.cells scope.names []) h3.objs.size { s2 with heap := h3 } (upd H2 D (.lst [])) fp (X.pn ++ pins)
  have eB := he (clOf X.env.cells scope.names []) h3.objs.size { s2 with heap := h3 } (upd H2 D (.lst [])) fp (X.pn ++ pins)
  rw [hXb] at gB cB eB
  have xP : Xb.prog = X.prog := by rw [← hXb]
  have xW : Xb.w = X.w := by rw [← hXb]
  have xK : Xb.K = X.K := by rw [← hXb]
  have xA : Xb.A = X.A := by rw [← hXb]
  have xC : Xb.calm = true := by rw [← hXb]; exact hcalm
  have xE : Xb.env = compEnvC scope (clOf X.env.cells scope.names []) h3.objs.size X.env := by rw [← hXb]
  have xX : Xb.xe = fun _ _ => False := by rw [← hXb]
  have stat : ∀ {H' : Hp}, (∀ b ∈ fp, H' b = none) → ∀ b ∈ fp, FpOk Xb [] H' b := fun hn b hb => by
    obtain ⟨g1, g2, g3, g4, g5, g6⟩ := f2 b hb
    obtain ⟨o, e⟩ := fpo b hb
    subst hXb
    refine ⟨hn b hb, fun z => ?_, fun z => (List.mem_cons.mp (I2.stkSub b z)).elim g2 g3, .inl hb, fun x c ec => g5 x c (clOf_sub (fun y c e => by simp at e) x c ec), fun p hp => g6 p (by simpa using hp)⟩
    have hlt := Heap.lt_size (old3 b o e)
    have z' : b = h3.objs.size := z
    rw [z'] at hlt
    exact Nat.lt_irrefl _ hlt
  -- the loop
  have loop : ∀ s5 : Shared, s5 = { s2 with heap := h4, toks := s2.toks + ([] : List (Str × Value)).length } →
      codeAny (model X.prog X.w) X.A (.compLoop (.ListComp elt [⟨tg, iter, ifs, 0⟩] scope pos) 0 (.ref it) (.ref D) (compEnvC scope (clOf X.env.cells scope.names []) h3.objs.size X.env))
        (R (.ref D) h3.objs.size) s5 := by
    rintro s5 rfl
    refine compLoop_by (fun k s' => ∃ i σ' ys H', Inv Xb [] σ' H' s' ∧ tn i s'.heap ∧ (∀ b ∈ fp, H' b = none) ∧ H' D = some (.lst ys) ∧ i ≤ n ∧ k = n - i ∧ ys.length ≤ i ∧ W i σ' ys H') ?_ n
      ⟨0, sigB nt fr σ, [], _, IB, T.keep _ _ _ st2 fun b hb o e => old4 b o (old3 b o e), fun b hb => (f3 b hb).1, upd_same, Nat.zero_le _, rfl, Nat.le_refl _, w0⟩
    rintro k s' ⟨i, σ', ys, H', I', st', fr', hD', hin, rfl, hyl, w'⟩
    rcases Nat.lt_or_ge i n with hlt | hge
    · obtain ⟨go, next⟩ := step i σ' ys H' hlt w' hD' hyl
      have ti := T.item Xb xP xW xK xC i [] s' σ' H' (fun _ _ => False) I' (stat fr') st' go
      rw [xA] at ti
      refine wpAny_mono ti (fun r s1 h1 => ?_) fun _ _ z => z.elim
      obtain ⟨u, rfl, h1⟩ := h1
      refine wpAny_mono h1 (fun _ s2' h2' => ?_) fun _ _ z => z.elim
      obtain ⟨x, H5, I5, r5, y5, st5, fr5⟩ := h2'
      have I5' := I5.pinned (stat fr5) (T.obj _ _ st5)
      have ga := gB _ s2' σ' H5 x u _ I5' r5 (next x H5 y5)
      rw [xP, xW, xA, xE, xX] at ga
      refine wpAny_mono ga (fun _ s3 h3' => ?_) fun _ _ z => z.elim
      obtain ⟨σ6, H6, I6, q6⟩ := h3'
      have ca := cB _ s3 σ6 H6 _ I6 q6
      rw [xP, xW, xA, xE, xX] at ca
      refine wpAny_mono ca (fun ok s4 h4' => ?_) fun _ _ z => z.elim
      obtain ⟨H7, I7, q7⟩ := h4'
      have back : ∀ {σ8 : St} {H8 : Hp} {s8 : Shared}, Inv Xb ([] ++ pinsAt fp s2'.heap) σ8 H8 s8 → Inv Xb [] σ8 H8 s8 ∧ tn (i + 1) s8.heap ∧ ∀ b ∈ fp, H8 b = none := fun {σ8 H8 s8} I8 => by
        refine ⟨I8.unpinned, T.keep _ _ _ st5 fun b hb o e => (I8.pin (b, o) (List.mem_append_right _ (List.mem_append_right _ (mem_pinsAt hb e)))).1, fun b hb => ?_⟩
        obtain ⟨o, e, d⟩ := T.obj _ _ st5 b hb
        exact (I8.pin (b, o) (List.mem_append_right _ (List.mem_append_right _ (mem_pinsAt hb e)))).2.1
      cases ok with
      | false =>
        rw [if_neg Bool.false_ne_true] at q7 ⊢
        obtain ⟨b1, b2, b3⟩ := back I7
        exact ⟨n - (i + 1), by omega, i + 1, σ6, ys, H7, b1, b2, b3, q7.1, hlt, rfl, by omega, q7.2⟩
      | true =>
        rw [if_pos rfl] at q7 ⊢
        have ea := eB _ s4 σ6 H7 _ I7 q7
        rw [xP, xW, xA, xE, xX] at ea
        refine wpAny_mono ea (fun y s5 h5 => ?_) fun _ _ z => z.elim
        obtain ⟨yv, H8, I8, r8, hD8, q8⟩ := h5
        have ma := mt_append (X := Xb) _ s5 σ6 H8 (.ref D) [yv] (.ref D) [y] (fun _ H9 => H9 = upd H8 D (.lst (ys ++ [yv]))) I8 rfl (.cons r8 .nil) ⟨D, ys, yv, rfl, rfl, hD8, by omega, rfl⟩
        rw [xP, xW, xA, xX] at ma
        refine wpAny_mono ma (fun _ s6 h6 => ?_) fun _ _ z => z.elim
        obtain ⟨_, H9, I9, _, rfl⟩ := h6
        obtain ⟨b1, b2, b3⟩ := back I9
        exact ⟨n - (i + 1), by omega, i + 1, σ6, ys ++ [yv], _, b1, b2, b3, upd_same, hlt, rfl, by rw [List.length_append, List.length_singleton]; omega, q8⟩
    · have hin' : i = n := Nat.le_antisymm hin hge
      subst hin'
      obtain ⟨stop, hq⟩ := fin σ' ys H' w' hD'
      have td := T.done Xb xP xW xK xC i [] s' σ' H' (fun _ _ => False) I' (stat fr') st' stop
      rw [xA] at td
      refine wpAny_mono td (fun r s1 h1 => ?_) fun _ _ z => z.elim
      obtain ⟨rfl, I6⟩ := h1
      obtain ⟨m, hm, _⟩ := id I6.loc
      rw [xE] at hm
      have frC : H' h3.objs.size = none := by have := I6.free; rw [xE] at this; exact this
      have u6 : Un (frs X.stack) fp (upd H2 D (.lst [])) H' h3 s1.heap := by have := I6.base; subst hXb; exact this
      have u2 : Un (frs X.stack) fp H2 (upd H2 D (.lst [])) s2.heap h3 := Un.laid (fun b o e => old3 b o e) (by rw [hD]; exact Nat.le_refl _) hDn
      have hos : s1.os = s2.os := by have := I6.os; subst hXb; exact this
      have hok : HOk X.prog X.w H' s1.heap := by
        have := I6.hok
        subst hXb; exact this
      refine hR D h3.objs.size H' s1 m (I2.call' (s' := s1) (ch := fp) hos (u2.trans u6) hok I6.bare fun b hb => ?_) hm (I2.fpOk (by omega) frC) hq
      obtain ⟨g1, g2, g3, g4, g5, g6⟩ := f2 b hb
      exact ⟨g4, g2, g5, g6⟩
  exact codeAny_compStart_list (loop _ rfl) (T.self _ 0 _ _ _ (T.keep _ _ _ st2 fun b hb o e => old4 b o (old3 b o e)) (loop _ rfl))

theorem pe_lc {tg iter elt : Expr} {ifs : List Expr} {wi : TI} {g : TG} {tc : TT} {te : TE} {pos : Pos} (S : LcS X scope Nb nt fr) (hcalm : X.calm = true) (hi : PI X tg iter wi)
    (hg : ∀ cl C s₀ H₀ fp pn, PG (blk X scope Nb cl C s₀ H₀ fp pn) tg g) (hc : ∀ cl C s₀ H₀ fp pn, PIfs (blk X scope Nb cl C s₀ H₀ fp pn) ifs tc) (he : ∀ cl C s₀ H₀ fp pn, PE (blk X scope Nb cl C s₀ H₀ fp pn) elt te)
    (hs : ∀ x, foldedSetIterable iter X.env x = pure x := by intro _; rfl) : PE X (.ListComp elt [⟨tg, iter, ifs, 0⟩] scope pos) (tLC nt fr wi g tc te) := by
  intro pins s σ H Q I h
  have hclos : closureFor scope X.env = pure (clOf X.env.cells scope.names []) := closure_ok fun y hy => I.ok.has y (.inl (S.free _ hy rfl))
  rw [eval_ListComp]
  refine wpAny_comprehension_free (use := none) rfl hs hclos S.kind S.names ?_
  refine lc_core (R := fun acc C => compPost (model X.prog X.w) X.A X.xe none (EP X pins σ Q) acc C) S hcalm hi hg hc he I h fun D C H' s1 m I1 hm fc q => ?_
  obtain ⟨f0, f1, f2, f3, f4, f5⟩ := fc
  exact ⟨m, hm, fun h' hs' => ⟨.ref D, H', I1.turned (t' := s1.toks) (it := C) (fun b o hb e => (hs'.2 b hb).trans e) f0 f1 f3 f4 f5, rfl, q⟩⟩
/-- name = [.. for ..]: the store comes ahead of the block's end -/
theorem ps_setLC {i : Nat} {y : Str} {tg iter elt : Expr} {ifs : List Expr} {wi : TI} {g : TG} {tc : TT} {te : TE} {pos spos py : Pos} (hN : X.N.Nodup) (hi' : X.N[i]? = some y) (hy : Loc X.env.scope y) (S : LcS X scope Nb nt fr) (hcalm : X.calm = true) (hi : PI X tg iter wi)
    (hg : ∀ cl C s₀ H₀ fp pn, PG (blk X scope Nb cl C s₀ H₀ fp pn) tg g) (hc : ∀ cl C s₀ H₀ fp pn, PIfs (blk X scope Nb cl C s₀ H₀ fp pn) ifs tc) (he : ∀ cl C s₀ H₀ fp pn, PE (blk X scope Nb cl C s₀ H₀ fp pn) elt te)
    (hs : ∀ x, foldedSetIterable iter X.env x = pure x := by intro _; rfl) (hsw : swapsWith (.ListComp elt [⟨tg, iter, ifs, 0⟩] scope pos) (some (.Name y py)) spos.line X.env = pure true := by rfl)
    (hf : X.fn y = true ∨ X.env.scope.names.lookup y = some .local := by first | exact .inl rfl | exact .inr rfl | assumption) :
    PS X (.Assign [.Name y py] (.ListComp elt [⟨tg, iter, ifs, 0⟩] scope pos) spos) (tAsg (tLC nt fr wi g tc te) (gName i)) := by
  intro pins s σ H D I h
  have hclos : closureFor scope X.env = pure (clOf X.env.cells scope.names []) := closure_ok fun y hy => I.ok.has y (.inl (S.free _ hy rfl))
  rw [exec_Assign_Name_used _ _ _ _ hsw]
  refine wpAny_bind (wpAny_standAt (wpAny_bind ?_))
  show wpAny _ X.A (do let _ ← comprehension (.ListComp elt [⟨tg, iter, ifs, 0⟩] scope pos) scope X.env _ (newList []) false (eval iter X.env) (some (assign (.Name y py) X.env))) _ _ s
  refine wpAny_bind (wpAny_mono (wpAny_comprehension_free (use := some (assign (.Name y py) X.env)) (Q := fun _ s' => SP X pins D .next s') rfl hs hclos S.kind S.names ?_) (fun _ s' hq => wpAny_pure (wpAny_pure hq)) fun _ _ e => e)
  refine lc_core (R := fun acc C => compPost (model X.prog X.w) X.A X.xe (some (assign (.Name y py) X.env)) (fun _ s' => SP X pins D .next s') acc C) S hcalm hi hg hc he I h fun A C H' s1 m I1 hm fc q => ?_
  obtain ⟨f0, f1, f2, f3, f4, f5⟩ := fc
  show wpAny _ X.A (assign (.Name y py) X.env (.ref A)) _ _ s1
  refine wpAny_assign_Name (store_ok2 (v := .ref A) I1 hN hi' hy (show RelV (.ref A) (.ref A) from rfl) (fun s' I' ⟨a, sb, ha⟩ => ?_) hf)
  have hCa : C ≠ a := by
    rcases ha with rfl | ha
    · exact f1
    · exact fun z => f4 y a ha z.symm
  refine ⟨m, hm.sameBut sb hCa, fun h' hs' => ⟨_, H', I'.turned (t' := s'.toks) (it := C) (fun b o hb e => (hs'.2 b hb).trans e) f0 f1 f3 f4 f5, q⟩⟩
end
end L2

set_option Elab.async false
set_option linter.all false
set_option maxRecDepth 100000
set_option maxHeartbeats 4000000
namespace L2
open PySem PySem.Spec PyProof.Rows
/-- a block with one name of its own, that reads none of the def's -/
theorem lcs0 {X : Cx} {sc : Scope} {x : Str} (hk : sc.kind = .function := by rfl) (hc : ∀ y ∈ sc.names, y.2 ≠ .cell := by decide +kernel) (hn : ∀ y ∈ sc.names, y.2 = .local → sc.names.lookup y.1 = some .local := by decide +kernel)
    (hf : ∀ y ∈ sc.names, y.2 ≠ .free := by decide +kernel) : LcS X sc [x] 1 [] := ⟨hk, hc, hn, fun y hy e => absurd e (hf y hy), rfl, fun k j x h => by simp at h⟩
/-- a block that reads names of the def (fsc its scope, Nf its names) -/
theorem lcsN {X : Cx} {sc : Scope} {Nb : List Str} {nt : Nat} {fr : List Nat} (fsc : Scope) (Nf : List Str) (hX : X.env.scope = fsc := by rfl) (hN : X.N = Nf := by rfl) (hk : sc.kind = .function := by rfl) (hc : ∀ y ∈ sc.names, y.2 ≠ .cell := by decide +kernel)
    (hn : ∀ y ∈ sc.names, y.2 = .local → sc.names.lookup y.1 = some .local := by decide +kernel) (hf : ∀ y ∈ sc.names, y.2 = .free → fsc.names.lookup y.1 = some .cell := by decide +kernel) (hl : Nb.length = nt + fr.length := by rfl)
    (hz : ((fr.zip (Nb.drop nt)).all fun p => decide (Nf[p.1]? = some p.2) && decide (sc.names.lookup p.2 = some .free)) = true := by decide +kernel) : LcS X sc Nb nt fr := by
  subst hX hN
  refine ⟨hk, hc, hn, hf, hl, fun k j x h1 h2 => ?_⟩
  have hm : (fr.zip (Nb.drop nt))[k]? = some (j, x) := by
    rw [List.getElem?_zip_eq_some]
    exact ⟨h1, by rw [List.getElem?_drop]; exact h2⟩
  have q := List.all_eq_true.mp hz _ (List.mem_of_getElem? hm)
  rw [Bool.and_eq_true] at q
  exact ⟨of_decide_eq_true q.1, of_decide_eq_true q.2⟩
end L2

set_option Elab.async false
set_option linter.all false
set_option maxRecDepth 100000
set_option maxHeartbeats 4000000
namespace L2
open PySem PySem.Spec PyProof.Rows
mutual
def Is (H : Hp) : D → V → Prop
  | .non, v => v = .non
  | .bl b, v => v = .bl b
  | .int i, v => v = .int i
  | .str z, v => v = .str z ∧ z.length ≤ sizeLine
  | .lst, v => ∃ a xs, v = .ref a ∧ H a = some (.lst xs)
  | .dct, v => ∃ a kvs, v = .ref a ∧ H a = some (.dK kvs)
  | .tup xs, v => ∃ a vs, v = .ref a ∧ H a = some (.tup vs) ∧ IsL H xs vs
def IsL (H : Hp) : List D → List V → Prop
  | [], vs => vs = []
  | x :: xs, vs => ∃ v r, vs = v :: r ∧ Is H x v ∧ IsL H xs r
end
/-- all tuples as they were; lists stay lists, dicts dicts -/
structure Tk (H H' : Hp) : Prop where
  tup : ∀ b xs, H b = some (.tup xs) → H' b = some (.tup xs)
  lst : ∀ b xs, H b = some (.lst xs) → ∃ ys, H' b = some (.lst ys)
  dct : ∀ b xs, H b = some (.dK xs) → ∃ ys, H' b = some (.dK ys)
theorem Same.tk {H H' : Hp} (s : Same H H') : Tk H H' := ⟨fun b xs e => s b _ e, fun b xs e => ⟨xs, s b _ e⟩, fun b xs e => ⟨xs, s b _ e⟩⟩
theorem Tk.trans {H H1 H2 : Hp} (a : Tk H H1) (b : Tk H1 H2) : Tk H H2 := ⟨fun c xs e => b.tup c xs (a.tup c xs e), fun c xs e => let ⟨ys, e1⟩ := a.lst c xs e; b.lst c ys e1, fun c xs e => let ⟨ys, e1⟩ := a.dct c xs e; b.dct c ys e1⟩
/-- p is a list ahead and behind -/
theorem Kept.tk {p : Addr} {H H' : Hp} {xs ys : List V} (k : Kept p H H') (h : H p = some (.lst xs)) (h' : H' p = some (.lst ys)) : Tk H H' := by
  refine ⟨fun b zs e => k b _ e fun z => ?_, fun b zs e => ?_, fun b zs e => ⟨zs, k b _ e fun z => ?_⟩⟩
  · rw [z, h] at e; cases e
  · by_cases z : b = p
    · exact ⟨ys, z ▸ h'⟩
    · exact ⟨zs, k b _ e z⟩
  · rw [z, h] at e; cases e
mutual
theorem Is.mono {H H' : Hp} (t : Tk H H') : ∀ {d : D} {v : V}, Is H d v → Is H' d v
  | .non, _, h => h
  | .bl _, _, h => h
  | .int _, _, h => h
  | .str _, _, h => h
  | .lst, _, h => by
    obtain ⟨a, vs, e, ha⟩ := h
    obtain ⟨ys, q⟩ := t.lst a vs ha
    exact ⟨a, ys, e, q⟩
  | .dct, _, h => by
    obtain ⟨a, vs, e, ha⟩ := h
    obtain ⟨ys, q⟩ := t.dct a vs ha
    exact ⟨a, ys, e, q⟩
  | .tup xs, _, h => by
    obtain ⟨a, vs, e, ha, hl⟩ := h
    exact ⟨a, vs, e, t.tup a vs ha, IsL.mono t hl⟩
theorem IsL.mono {H H' : Hp} (t : Tk H H') : ∀ {ds : List D} {vs : List V}, IsL H ds vs → IsL H' ds vs
  | [], _, h => h
  | _ :: _, _, h => by
    obtain ⟨v, r, e, h1, h2⟩ := h
    exact ⟨v, r, e, Is.mono t h1, IsL.mono t h2⟩
end
theorem IsL.length {H : Hp} : ∀ {ds : List D} {vs : List V}, IsL H ds vs → vs.length = ds.length
  | [], _, h => by cases (show _ = [] from h); rfl
  | _ :: _, _, h => by
    obtain ⟨v, r, rfl, _, h2⟩ := h
    rw [List.length_cons, List.length_cons, IsL.length h2]
theorem IsL.get {H : Hp} : ∀ {ds : List D} {vs : List V} {i : Nat} {d : D}, IsL H ds vs → ds[i]? = some d → ∃ v, vs[i]? = some v ∧ Is H d v
  | [], _, _, _, _, e => by simp at e
  | x :: _, _, 0, d, h, e => by
    obtain ⟨v, r, rfl, h1, _⟩ := h
    have : x = d := by simpa using e
    exact ⟨v, rfl, this ▸ h1⟩
  | _ :: _, _, i + 1, d, h, e => by
    obtain ⟨v, r, rfl, _, h2⟩ := h
    obtain ⟨u, e1, e2⟩ := IsL.get (i := i) (d := d) h2 (by simpa using e)
    exact ⟨u, by simpa using e1, e2⟩
theorem IsL.append {H : Hp} : ∀ {ds es : List D} {vs us : List V}, IsL H ds vs → IsL H es us → IsL H (ds ++ es) (vs ++ us)
  | [], _, _, _, h, k => by cases (show _ = [] from h); exact k
  | _ :: _, _, _, _, h, k => by
    obtain ⟨v, r, rfl, h1, h2⟩ := h
    exact ⟨v, _, rfl, h1, IsL.append h2 k⟩
theorem IsL.take {H : Hp} : ∀ {ds : List D} {vs : List V} (n : Nat), IsL H ds vs → IsL H (ds.take n) (vs.take n)
  | _, _, 0, _ => by simp [IsL]
  | [], _, n + 1, h => by cases (show _ = [] from h); simp [IsL]
  | _ :: _, _, n + 1, h => by
    obtain ⟨v, r, rfl, h1, h2⟩ := h
    exact ⟨v, _, rfl, h1, IsL.take n h2⟩
theorem IsL.drop {H : Hp} : ∀ {ds : List D} {vs : List V} (n : Nat), IsL H ds vs → IsL H (ds.drop n) (vs.drop n)
  | _, _, 0, h => h
  | [], _, n + 1, h => by cases (show _ = [] from h); simp [IsL]
  | _ :: _, _, n + 1, h => by
    obtain ⟨v, r, rfl, h1, h2⟩ := h
    exact IsL.drop n h2
theorem IsL.one {H : Hp} {d : D} {v : V} (h : Is H d v) : IsL H [d] [v] := ⟨v, [], rfl, h, rfl⟩
/-- a new tuple of such -/
theorem Is.new {H : Hp} {ds : List D} {vs : List V} {p : Addr} (h : IsL H ds vs) (hp : H p = none) : Is (upd H p (.tup vs)) (.tup ds) (.ref p) :=
  ⟨p, vs, rfl, upd_same, h.mono (same_new hp _).tk⟩
/-- the type of such a value -/
def tyD : D → Value
  | .non => .type "NoneType"
  | .bl _ => .type "bool"
  | .int _ => .type "int"
  | .str _ => .type "str"
  | .lst => .type "list"
  | .dct => .type "dict"
  | .tup _ => .type "tuple"
theorem Is.ty {K : PySem.W.Frag} {H : Hp} {d : D} {v : V} (h : Is H d v) : TyOf K H v (tyD d) := by
  cases d with
  | non => cases (show v = .non from h); exact .non
  | bl b => cases (show v = .bl b from h); exact .bl b
  | int i => cases (show v = .int i from h); exact .int i
  | str z =>
    obtain ⟨rfl, _⟩ := h
    exact .str z
  | lst =>
    obtain ⟨a, vs, rfl, ha⟩ := h
    exact .lst ha
  | dct =>
    obtain ⟨a, vs, rfl, ha⟩ := h
    exact .dK ha
  | tup xs =>
    obtain ⟨a, vs, rfl, ha, _⟩ := h
    exact .tup ha
end L2

set_option Elab.async false
set_option linter.all false
set_option maxRecDepth 100000
set_option maxHeartbeats 4000000
namespace PySem.AwM
open PySem.AutoSeq1 PySem.MeetsSeq PySem.MeetsSeq3
end PySem.AwM
namespace PySem.AwM
open PySem
/-! max(xs, default=d) of a list of ints -/
section
variable {pg : Program} {wd : World} {ar : Around} {RR : Result → Shared → Prop} {it : Addr} {fs ws : List Addr} {n : Nat} {PP : Nat → Value → Prop} {SS : Nat → Heap → Prop}
end
end PySem.AwM
namespace PySem.AwM
open PyProof.Rows
end PySem.AwM

set_option Elab.async false
set_option linter.all false
set_option maxRecDepth 100000
set_option maxHeartbeats 4000000
namespace L2
open PySem PySem.Spec PyProof.Rows
section
variable {X : Cx}
theorem op_gt_str : OpR X (compareOp .Gt) (fun x y H Q => ∃ i j, x = .str i ∧ y = .str j ∧ Q (.bl (decide (j.cps.toList < i.cps.toList))) H) := by
  intro pins s σ H x y v u Q I rx ry h
  obtain ⟨i, j, rfl, rfl, q⟩ := h
  obtain ⟨t, rfl⟩ := rx
  obtain ⟨t', rfl⟩ := ry
  exact PySem.P.gt_str (fin_bl I q rfl)
/-! ### tuples -/
end
end L2
namespace L2
open PySem PySem.Spec PyProof.Rows
section
variable {X : Cx}
/-- t + u, whatever they are -/
def rCatG (K : PySem.W.Frag) : R2 := fun x y H Q => ∃ a b xs ys, x = .ref a ∧ y = .ref b ∧ SqT K H a xs ∧ SqT K H b ys ∧ xs.length + ys.length ≤ sizeLine ∧
  (xs = [] → Q (.ref b) H) ∧ (xs ≠ [] → ys = [] → Q (.ref a) H) ∧ (xs ≠ [] → ys ≠ [] → ∀ p, H p = none → Q (.ref p) (upd H p (.tup (xs ++ ys))))
theorem op_catG : OpR X (binaryOp .Add) (rCatG X.K) := by
  intro pins s σ H x y v u Q I rx ry h
  obtain ⟨a, b, xs, ys, rfl, rfl, ha, hb, hz, q0, q1, q2⟩ := h
  by_cases hx : xs = []
  · cases rx
    cases ry
    obtain ⟨its, r1, p1, _⟩ := I.tuple ha
    obtain ⟨its2, r2, p2, _⟩ := I.tuple hb
    subst hx
    cases r1
    obtain ⟨⟨c1, d1, t1, l1⟩, o1, e1, n1, f1⟩ := id p1
    obtain ⟨⟨c2, d2, t2, l2⟩, o2, e2, n2, f2⟩ := id p2
    simp only at e1 f1 e2 f2
    subst e1 f1 e2 f2
    exact concat_meets p1.typeIs p2.typeIs noFill_tuple_add seq_tuple_add PySem.F.slot_tuple_add PySem.F.entry_tuple_add (PySem.F.args_tuple_add_2 _ _) (tuple_addW0 a b _ _ n1 n2 d1 d2 l1 l2 rfl) ⟨o1, o2, ⟨.ref b, H, I, rfl, q0 rfl⟩⟩
  · exact op_catT pins s σ H (.ref a) (.ref b) v u Q I rx ry ⟨a, b, xs, ys, rfl, rfl, ha, hb, hx, hz, q1 hx, q2 hx⟩
end
end L2

set_option Elab.async false
set_option linter.all false
set_option maxRecDepth 100000
set_option maxHeartbeats 4000000
namespace L2
open PySem PySem.Spec PyProof.Rows
theorem Tk.updL {H : Hp} {p : Addr} {xs ys : List V} (h : H p = some (.lst xs)) : Tk H (upd H p (.lst ys)) := by
  refine ⟨fun b zs e => ?_, fun b zs e => ?_, fun b zs e => ⟨zs, ?_⟩⟩
  · rw [upd_ne (fun z => by rw [z, h] at e; cases e)]; exact e
  · by_cases z : b = p
    · exact ⟨ys, by rw [z]; exact upd_same⟩
    · exact ⟨zs, by rw [upd_ne z]; exact e⟩
  · rw [upd_ne (fun z => by rw [z, h] at e; cases e)]; exact e
/-- the turns of a comprehension over data, its element data; all that was stays -/
theorem lc_data {J : It} {A : Addr} {H1 : Hp} {te : TE} {tl : St} {Q : VK} {ds : List D} (f : D → D) (hn : ds.length ≤ sizeLine) (hA : H1 A = none)
    (hgo : ∀ i H, Same H1 H → i < ds.length → J.go i H) (hy : ∀ i H x H' d, Same H1 H → ds[i]? = some d → J.yld i H x H' → H' = H ∧ Is H d x) (hstop : ∀ H, Same H1 H → J.stop ds.length H)
    (hte : ∀ d x H (R : VK), d ∈ ds → Same H1 H → Is H d x → (∀ y H', Same H H' → Is H' (f d) y → R y H') → te (some x :: tl) H R)
    (hQ : ∀ H' ys, Same H1 H' → H' A = some (.lst ys) → IsL H' (ds.map f) ys → Q (.ref A) H') : lcGo A J (gName 0) tYes te (none :: tl) H1 Q := by
  refine ⟨ds.length, fun i σ ys H => (∃ w, σ = w :: tl) ∧ IsL H ((ds.take i).map f) ys ∧ Same H1 H, hn, ⟨⟨none, rfl⟩, rfl, same_new hA _⟩, ?_, ?_⟩
  · rintro i σ ys H hi ⟨⟨w, rfl⟩, hl, sm⟩ hA' hyl
    refine ⟨hgo i H sm hi, fun x H' y => ?_⟩
    obtain ⟨rfl, hx⟩ := hy i H x H' ds[i] sm (List.getElem?_eq_getElem hi) y
    dsimp only [gName, tYes, List.set]
    rw [if_pos rfl]
    refine hte ds[i] x H' _ (List.getElem_mem hi) sm hx fun y' H4 s4 hy' => ⟨s4 _ _ hA', ⟨some x, rfl⟩, ?_, fun b o e => ?_⟩
    · have t : Tk H4 (upd H4 A (.lst (ys ++ [y']))) := Tk.updL (s4 _ _ hA')
      have e : (ds.take (i + 1)).map f = (ds.take i).map f ++ [f ds[i]] := by
        rw [List.take_add_one, List.getElem?_eq_getElem hi, List.map_append]
        rfl
      rw [e]
      exact ((hl.mono s4.tk).mono t).append (IsL.one (hy'.mono t))
    · rw [upd_ne (ne_of_none e hA)]
      exact s4 b o (sm b o e)
  · rintro σ ys H ⟨_, hl, sm⟩ hA'
    refine ⟨hstop H sm, hQ H ys sm hA' ?_⟩
    rw [List.take_of_length_le (Nat.le_refl _)] at hl
    exact hl
theorem lc_tupS {K : PySem.W.Frag} {a A : Addr} {H1 : Hp} {te : TE} {tl : St} {Q : VK} {ds : List D} {vs : List V} (f : D → D) (ha : H1 a = some (.tup vs)) (hl : IsL H1 ds vs) (hn : ds.length ≤ sizeLine) (hA : H1 A = none)
    (hte : ∀ d x H (R : VK), d ∈ ds → Same H1 H → Is H d x → (∀ y H', Same H H' → Is H' (f d) y → R y H') → te (some x :: tl) H R)
    (hQ : ∀ H' ys, Same H1 H' → H' A = some (.lst ys) → IsL H' (ds.map f) ys → Q (.ref A) H') : lcGo A (Itt K a) (gName 0) tYes te (none :: tl) H1 Q := by
  have ln := hl.length
  refine lc_data f hn hA (fun i H sm hi => ⟨vs, vs[i]'(by omega), SqT.of (sm _ _ ha), List.getElem?_eq_getElem _⟩) (fun i H x H' d sm hd y => ?_) (fun H sm => ⟨vs, SqT.of (sm _ _ ha), by omega⟩) hte hQ
  obtain ⟨rfl, y⟩ := y
  obtain ⟨v, e1, e2⟩ := hl.get hd
  have e3 := y vs (SqT.of (sm _ _ ha))
  rw [e1] at e3
  cases e3
  exact ⟨rfl, e2.mono sm.tk⟩
theorem lc_lstS {K : PySem.W.Frag} {a A : Addr} {H1 : Hp} {te : TE} {tl : St} {Q : VK} {ds : List D} {vs : List V} (f : D → D) (ha : H1 a = some (.lst vs)) (hl : IsL H1 ds vs) (hn : ds.length ≤ sizeLine) (hA : H1 A = none)
    (hte : ∀ d x H (R : VK), d ∈ ds → Same H1 H → Is H d x → (∀ y H', Same H H' → Is H' (f d) y → R y H') → te (some x :: tl) H R)
    (hQ : ∀ H' ys, Same H1 H' → H' A = some (.lst ys) → IsL H' (ds.map f) ys → Q (.ref A) H') : lcGo A (Itl K a) (gName 0) tYes te (none :: tl) H1 Q := by
  have ln := hl.length
  refine lc_data f hn hA (fun i H sm hi => ⟨vs, vs[i]'(by omega), SqL.of (sm _ _ ha), List.getElem?_eq_getElem _⟩) (fun i H x H' d sm hd y => ?_) (fun H sm => ⟨vs, SqL.of (sm _ _ ha), by omega⟩) hte hQ
  obtain ⟨rfl, y⟩ := y
  obtain ⟨v, e1, e2⟩ := hl.get hd
  have e3 := y vs (SqL.of (sm _ _ ha))
  rw [e1] at e3
  cases e3
  exact ⟨rfl, e2.mono sm.tk⟩
/-- an item of a tuple of data -/
theorem ix_is {K : PySem.W.Frag} {H : Hp} {ds : List D} {v : V} {i : Int} {d : D} {Q : VK} (h : Is H (.tup ds) v) (hi : atI ds i = some d) (q : ∀ x, Is H d x → Q x H) : rIxT K v (.int i) H Q := by
  obtain ⟨a, vs, rfl, ha, hl⟩ := h
  obtain ⟨j, h1, h2, h3, h4, h5⟩ := atI_get hi
  obtain ⟨x, e1, e2⟩ := hl.get h2
  refine ⟨a, vs, i, x, rfl, rfl, SqT.of ha, ?_, q x e2⟩
  have ln := hl.length
  unfold atI at hi ⊢
  rw [ln]
  cases e : ixN ds.length i with
  | none => rw [e] at hi; cases hi
  | some k =>
    rw [e] at hi
    obtain ⟨g1, _⟩ := ixN_seq e
    rw [h1] at g1
    cases g1
    exact e1
/-! ### texts -/
theorem mulOk_of {z : Str} {n : Int} (h0 : 0 ≤ n) (h1 : n ≤ 10000) (hz : z.length ≤ 1000) : MulOk z n := by
  have hs : sizeLine = 16777216 := sizeLine_eq
  refine ⟨by rw [decide_eq_false (by omega), decide_eq_false (by omega)]; rfl, fun hn _ => ?_, fun hn _ => ?_⟩
  · have : (1000 : Int) ≤ (2 ^ 63 - 1) / n := by
      have h3 : (1000 : Int) * n ≤ 2 ^ 63 - 1 := by omega
      exact (Int.le_ediv_iff_mul_le (by omega)).mpr h3
    omega
  · unfold Builtin.Str.tooLong
    refine decide_eq_false ?_
    have : z.length * n.toNat ≤ 1000 * 10000 := Nat.mul_le_mul hz (by omega)
    omega
end L2
namespace L2
open PySem PySem.Spec PyProof.Rows
/-- for over a text -/
theorem for_str {z : Str} {g : TG} {tb : TS} {E : Ends} {σ : St} {H : Hp} (Pv : Nat → St → Hp → Prop) (h0 : Pv 0 σ H)
    (hs : ∀ (i c : Nat) σ H, z.cps[i]? = some c → Pv i σ H → g (.str ⟨#[c]⟩) σ H fun σ2 H2 => tb { E with nx := Pv (i + 1), ct := Pv (i + 1), bk := E.nx } σ2 H2) (hd : ∀ σ H, Pv z.cps.size σ H → E.nx σ H) :
    ∃ W : Nat → Nat → St → Hp → Prop, (∃ m, W 0 m σ H) ∧ ∀ i m σ H, W i m σ H →
      ((Its z).stop i H ∧ E.nx σ H) ∨ ((Its z).go i H ∧ ∃ N : St → Hp → Prop, (∀ σ' H', N σ' H' → ∃ m', m' < m ∧ W (i + 1) m' σ' H') ∧ ∀ x H', (Its z).yld i H x H' → g x σ H' fun σ2 H2 => tb { E with nx := N, ct := N, bk := E.nx } σ2 H2) := by
  refine ⟨fun i m σ H => m = z.cps.size - i ∧ i ≤ z.cps.size ∧ Pv i σ H, ⟨z.cps.size, by simp, Nat.zero_le _, h0⟩, ?_⟩
  rintro i m σ H ⟨rfl, hi, p⟩
  by_cases hlt : i < z.cps.size
  · refine .inr ⟨hlt, Pv (i + 1), fun σ' H' p' => ⟨z.cps.size - (i + 1), by omega, rfl, hlt, p'⟩, fun x H' y => ?_⟩
    obtain ⟨rfl, c, hc, rfl⟩ := y
    exact hs i c σ _ hc p
  · have e : i = z.cps.size := by omega
    exact .inl ⟨e, hd σ H (e ▸ p)⟩
theorem IsL.unsnoc {H : Hp} : ∀ {ds : List D} {d : D} {vs : List V}, IsL H (ds ++ [d]) vs → ∃ us x, vs = us ++ [x] ∧ IsL H ds us ∧ Is H d x
  | [], d, _, h => by
    obtain ⟨v, r, rfl, h1, h2⟩ := h
    cases (show r = [] from h2)
    exact ⟨[], v, rfl, rfl, h1⟩
  | e :: r, d, _, h => by
    obtain ⟨v, q, rfl, h1, h2⟩ := h
    obtain ⟨us, x, rfl, h3, h4⟩ := IsL.unsnoc h2
    exact ⟨v :: us, x, rfl, ⟨v, us, rfl, h1, h3⟩, h4⟩
def isStr : D → Bool
  | .str _ => true
  | _ => false
def isTup : D → Bool
  | .tup _ => true
  | _ => false
section
variable {K : PySem.W.Frag}
theorem kit_no {T U : String} {b : Bool} (h : (Value.type T == Value.type U) = false) (hm : PySem.W.kitMeta U = true) (hs : (fastBuiltinMro T).map (·.contains (Value.type U)) = some b) : PySem.W.kitOne K (.type T) (.type U) = some b := by
  unfold PySem.W.kitOne
  rw [if_neg (by rw [h]; exact Bool.false_ne_true)]
  show (if PySem.W.kitMeta U = true then PySem.W.subIn K (.type T) (.type U) else none) = some b
  rw [if_pos hm]
  exact hs
theorem kit_self {T : String} (h : (Value.type T == Value.type T) = true) : PySem.W.kitOne K (.type T) (.type T) = some true := by
  unfold PySem.W.kitOne
  rw [if_pos h]
theorem kit_str (d : D) : PySem.W.kitOne K (tyD d) (.type "str") = some (isStr d) := by
  cases d with
  | str z => exact kit_self (by decide)
  | _ => exact kit_no (b := false) (by decide) (by decide +kernel) (by decide +kernel)
theorem kit_tup (d : D) : PySem.W.kitOne K (tyD d) (.type "tuple") = some (isTup d) := by
  cases d with
  | tup z => exact kit_self (by decide)
  | _ => exact kit_no (b := false) (by decide) (by decide +kernel) (by decide +kernel)
end
theorem lt_one (c k : Nat) : decide ((⟨#[c]⟩ : Str).cps.toList < [k]) = decide (c < k) := by
  rw [decide_eq_decide]
  simp [List.cons_lt_cons_iff]
theorem one_gt (c k : Nat) : decide ([k] < (⟨#[c]⟩ : Str).cps.toList) = decide (k < c) := by
  rw [decide_eq_decide]
  simp [List.cons_lt_cons_iff]
end L2
namespace L2
open PySem PySem.Spec PyProof.Rows
theorem ix_listK {X : Cx} {K : PySem.W.Frag} (h : X.K = K) : IxR X (rIxL K) := by subst h; exact ix_list
end L2
namespace L2
open PySem PySem.Spec PyProof.Rows
/-- over a tuple; its length has its bound -/
def iTupB (K : PySem.W.Frag) (tl : TE) : TI := fun σ H R => tl σ H fun x H1 => ∃ a xs, x = .ref a ∧ SqT K H1 a xs ∧ (xs.length ≤ sizeLine → R (Itt K a) H1)
theorem pi_tupB {X : Cx} {tg l : Expr} {tl : TE} (hl : PE X l tl) : PI X tg l (iTupB X.K tl) := by
  intro pins s σ H R I h
  refine thn (hl pins s σ H _ I h) fun v s1 ⟨x, H1, I1, r1, q1⟩ => ?_
  obtain ⟨a, xs, e, hq, q⟩ := q1
  subst e
  cases r1
  obtain ⟨its, rv, p, hz⟩ := I1.tuple hq
  refine wpAny_pyIter_tuple (show s1.heap.IsTuple a its.toArray from p) ?_
  refine ⟨s1.heap.objs.size, [s1.heap.objs.size], _, _, H1, rfl, I1.kept (t' := s1.toks) fun b o e => Heap.get?_push_of_some _ e, turn_tuple a _, ⟨_, Heap.get?_push_size _ rfl, rfl, rfl⟩, fun b hb => ?_, q hz⟩
  have e : b = s1.heap.objs.size := by simpa using hb
  subst e
  exact I1.fpOk (Nat.le_refl _) (I1.hok.fresh (Nat.le_refl _))
end L2
namespace L2
open PySem PySem.Spec PyProof.Rows
theorem cutV_drop {xs : List V} {n : Nat} (h : n ≤ xs.length) : cutV xs (some (n : Int)) none = xs.drop n := by
  unfold cutV
  rw [HT.sIx_none, HT.sIx_nat, Nat.min_eq_left h]
  exact List.take_of_length_le (by rw [List.length_drop]; exact Nat.le_refl _)
end L2

set_option Elab.async false
set_option linter.all false
set_option maxRecDepth 100000
set_option maxHeartbeats 4000000
namespace L2
open PySem PySem.Spec PyProof.Rows Builtin Builtin.Str
/-! ### a text cut at a sign -/
def posL (c : Nat) : List Nat → Nat → List Nat
  | [], _ => []
  | a :: r, i => if a = c then i :: posL c r (i + 1) else posL c r (i + 1)
def cutL (c : Nat) : Nat → List Nat → List (List Nat)
  | 0, L => [L]
  | _ + 1, [] => [[]]
  | n + 1, a :: r => if a = c then [] :: cutL c n r else match cutL c (n + 1) r with
    | p :: q => (a :: p) :: q
    | [] => [[a]]
def ofL (l : List Nat) : Str := ⟨l.toArray⟩
theorem ofL_list (z : Str) : ofL z.cps.toList = z := by
  unfold ofL
  simp
theorem cutL_ne (c : Nat) : ∀ (n : Nat) (L : List Nat), ∃ p q, cutL c n L = p :: q
  | 0, L => ⟨L, [], by simp [cutL]⟩
  | n + 1, [] => ⟨[], [], by simp [cutL]⟩
  | n + 1, a :: r => by
    by_cases h : a = c
    · exact ⟨[], cutL c n r, by simp [cutL, h]⟩
    · obtain ⟨p, q, e⟩ := cutL_ne c (n + 1) r
      exact ⟨a :: p, q, by simp [cutL, h, e]⟩
theorem cutL_app {c : Nat} {n : Nat} {r : List Nat} : ∀ {p : List Nat}, c ∉ p → cutL c (n + 1) (p ++ c :: r) = p :: cutL c n r
  | [], _ => by simp [cutL]
  | a :: p, h => by
    have h1 : a ≠ c := fun e => h (by simp [e])
    have ih := cutL_app (n := n) (r := r) (p := p) (fun z => h (List.mem_cons_of_mem _ z))
    show cutL c (n + 1) (a :: (p ++ c :: r)) = _
    rw [cutL, if_neg h1, ih]
theorem cutL_free {c : Nat} {n : Nat} : ∀ {p : List Nat}, c ∉ p → cutL c n p = [p]
  | [], _ => by cases n <;> simp [cutL]
  | a :: p, h => by
    have h1 : a ≠ c := fun e => h (by simp [e])
    cases n with
    | zero => simp [cutL]
    | succ n =>
      have ih := cutL_free (n := n + 1) (p := p) (fun z => h (List.mem_cons_of_mem _ z))
      rw [cutL, if_neg h1, ih]
theorem subAt_sign (x : Str) (c i : Nat) (h : i < x.length) : subAt x ⟨#[c]⟩ i = decide (x.cps.toList[i]? = some c) := by
  rw [StrLaws.subAt_eq]
  have hl : i < x.cps.toList.length := by simpa [Str.length] using h
  have e1 : (x.cps.toList.drop i).take 1 = [x.cps.toList[i]] := by
    rw [List.drop_eq_getElem_cons hl]
    rfl
  show ((x.cps.toList.drop i).take 1 == [c]) = _
  rw [e1, List.getElem?_eq_getElem hl]
  generalize x.cps.toList[i] = k
  by_cases e : k = c
  · simp [e]
  · simp [e]
theorem occ_go (x : Str) (c n : Nat) : ∀ (m k : Nat) (found : Array Nat) (free : Nat), k + m = x.length + 1 → free ≤ k → 
    (forIn (List.range' k m) (found, free) (StrLaws.occBody x ⟨#[c]⟩ x.length n)).run.fst.toList = found.toList ++ (posL c (x.cps.toList.drop k) k).take (n - found.size)
  | 0, k, found, free, hk, _ => by
    have hl : x.cps.toList.length ≤ k := by simp [Str.length] at hk ⊢; omega
    rw [List.drop_of_length_le hl]
    simp [posL]
  | m + 1, k, found, free, hk, hf => by
    rw [List.range'_succ, List.forIn_cons]
    unfold StrLaws.occBody
    have hlen : x.cps.toList.length = x.length := by simp [Str.length]
    by_cases hlt : k < x.length
    · have hkl : k < x.cps.toList.length := by omega
      rw [List.drop_eq_getElem_cons hkl]
      have hs := subAt_sign x c k hlt
      rw [List.getElem?_eq_getElem hkl] at hs
      by_cases e : x.cps.toList[k] = c
      · have hs' : subAt x ⟨#[c]⟩ k = true := by rw [hs, e]; simp
        by_cases hn : found.size < n
        · rw [if_pos ⟨⟨⟨hn, hf⟩, by show k + 1 ≤ x.length; omega⟩, hs'⟩]
          have ih := occ_go x c n m (k + 1) (found.push k) (k + 1) (by omega) (Nat.le_refl _)
          show (forIn (List.range' (k + 1) m) (found.push k, k + 1) (StrLaws.occBody x ⟨#[c]⟩ x.length n)).run.fst.toList = _
          rw [ih]
          rw [posL, if_pos e, Array.toList_push, Array.size_push]
          obtain ⟨j, hj⟩ : ∃ j, n - found.size = j + 1 := ⟨n - found.size - 1, by omega⟩
          rw [hj, List.take_succ_cons, show n - (found.size + 1) = j by omega]
          simp
        · rw [if_neg (fun z => hn z.1.1.1)]
          have ih := occ_go x c n m (k + 1) found free (by omega) (by omega)
          show (forIn (List.range' (k + 1) m) (found, free) (StrLaws.occBody x ⟨#[c]⟩ x.length n)).run.fst.toList = _
          rw [ih, show n - found.size = 0 by omega]
          simp
      · have hs' : ¬ subAt x ⟨#[c]⟩ k = true := by rw [hs]; intro z; exact e (Option.some.inj (of_decide_eq_true z))
        rw [if_neg (fun z => hs' z.2)]
        have ih := occ_go x c n m (k + 1) found free (by omega) (by omega)
        show (forIn (List.range' (k + 1) m) (found, free) (StrLaws.occBody x ⟨#[c]⟩ x.length n)).run.fst.toList = _
        rw [ih, posL, if_neg e]
    · rw [if_neg (fun z => hlt (by have := z.1.2; show k < x.length; have h1 : k + 1 ≤ x.length := this; omega))]
      have ih := occ_go x c n m (k + 1) found free (by omega) (by omega)
      show (forIn (List.range' (k + 1) m) (found, free) (StrLaws.occBody x ⟨#[c]⟩ x.length n)).run.fst.toList = _
      rw [ih]
      have h1 : x.cps.toList.length ≤ k := by omega
      rw [List.drop_of_length_le h1, List.drop_of_length_le (by omega)]
      simp [posL]
theorem occ_pos (x : Str) (c n : Nat) : occurrences x ⟨#[c]⟩ 0 x.length n = (posL c x.cps.toList 0).take n := by
  rw [StrLaws.occ_eq]
  have := occ_go x c n (x.length + 1) 0 #[] 0 (by omega) (Nat.le_refl _)
  simpa using this
def att (p : List Nat) : List (List Nat) → List (List Nat)
  | q :: r => (p ++ q) :: r
  | [] => [p]
theorem parts_go (x : Str) (c : Nat) : ∀ (m n a b : Nat), a ≤ b → b + m = x.length → 
    StrLaws.partsFrom x 1 a ((posL c (x.cps.toList.drop b) b).take n) = (att ((x.cps.toList.drop a).take (b - a)) (cutL c n (x.cps.toList.drop b))).map ofL := by
  have hlen : x.cps.toList.length = x.length := by simp [Str.length]
  have hsub : ∀ i j, strSub x i j = ofL ((x.cps.toList.drop i).take (j - i)) := fun i j => by
    rw [← ofL_list (strSub x i j), StrLaws.strSub_toList]
  intro m
  induction m with
  | zero =>
    intro n a b hab hb
    have h1 : x.cps.toList.drop b = [] := List.drop_of_length_le (by omega)
    rw [h1]
    have e1 : cutL c n [] = [[]] := by cases n <;> simp [cutL]
    rw [e1]
    simp only [posL, List.take_nil, StrLaws.partsFrom, att, List.append_nil, List.map_cons, List.map_nil]
    rw [hsub, show x.length - a = b - a by omega]
  | succ m ih =>
    intro n a b hab hb
    have hbl : b < x.cps.toList.length := by omega
    rw [List.drop_eq_getElem_cons hbl]
    cases n with
    | zero =>
      simp only [List.take_zero, StrLaws.partsFrom, cutL, att, List.map_cons, List.map_nil]
      rw [hsub, ← List.drop_eq_getElem_cons hbl]
      have e2 : (x.cps.toList.drop a).take (x.length - a) = x.cps.toList.drop a := List.take_of_length_le (by rw [List.length_drop]; omega)
      have e3 : x.cps.toList.drop b = (x.cps.toList.drop a).drop (b - a) := by rw [List.drop_drop]; congr 1; omega
      rw [e2, e3, List.take_append_drop]
    | succ n =>
      by_cases e : x.cps.toList[b] = c
      · rw [posL, if_pos e, List.take_succ_cons, StrLaws.partsFrom, cutL, if_pos e]
        rw [ih n (b + 1) (b + 1) (Nat.le_refl _) (by omega)]
        obtain ⟨p, q, e2⟩ := cutL_ne c n (x.cps.toList.drop (b + 1))
        rw [e2, hsub]
        simp [att]
      · rw [posL, if_neg e, ih (n + 1) a (b + 1) (by omega) (by omega), cutL, if_neg e]
        obtain ⟨p, q, e2⟩ := cutL_ne c (n + 1) (x.cps.toList.drop (b + 1))
        rw [e2]
        simp only [att, List.map_cons]
        congr 2
        have e3 : b + 1 - a = (b - a) + 1 := by omega
        have hx : b - a < (x.cps.toList.drop a).length := by rw [List.length_drop]; omega
        rw [e3, List.take_succ_eq_append_getElem hx]
        simp [show a + (b - a) = b by omega]
/-- the parts between the first n signs c -/
theorem parts_cut (x : Str) (c n : Nat) : partsBetween x (occurrences x ⟨#[c]⟩ 0 x.length n) 1 = (cutL c n x.cps.toList).map ofL := by
  rw [StrLaws.partsBetween_eq, occ_pos]
  have := parts_go x c x.length n 0 0 (Nat.le_refl _) (by omega)
  rw [List.drop_zero] at this
  rw [this]
  obtain ⟨p, q, e⟩ := cutL_ne c n x.cps.toList
  rw [e]
  simp [att]
theorem posL_none {c : Nat} : ∀ {L : List Nat} {i : Nat}, posL c L i = [] → c ∉ L
  | [], _, _ => by simp
  | a :: r, i, h => by
    by_cases e : a = c
    · simp [posL, e] at h
    · rw [posL, if_neg e] at h
      have := posL_none h
      simp [Ne.symm e, this]
end L2

set_option Elab.async false
set_option linter.all false
set_option maxRecDepth 100000
set_option maxHeartbeats 4000000
namespace L2
open PySem PySem.Spec PyProof.Rows Builtin Builtin.Str
theorem vals_from : ∀ (l : List Str) (k : Nat), Vals (l.map V.str) (strsFrom k l)
  | [], _ => .nil
  | x :: r, k => .cons ⟨k, rfl⟩ (vals_from r (k + 1))
theorem vals_strs : ∀ {l : List Str} {us : List Value}, Vals (l.map V.str) us → ∃ ps : List (Str × Tok), us = strValues ps ∧ ps.map (·.1) = l
  | [], _, .nil => ⟨[], rfl, rfl⟩
  | x :: r, _, .cons ⟨t, e⟩ h => by
    obtain ⟨ps, e1, e2⟩ := vals_strs h
    subst e
    exact ⟨(x, t) :: ps, by rw [e1]; rfl, by rw [List.map_cons, e2]⟩
theorem kind_blank (z : Str) : ¬ Builtin.Str.strKind z < Builtin.Str.strKind " " := by
  have h1 : Builtin.Str.strKind " " = 1 := by decide +kernel
  rw [h1]
  unfold Builtin.Str.strKind
  split
  · omega
  · split <;> omega
theorem cutL_len (c : Nat) : ∀ (n : Nat) (L : List Nat), (cutL c n L).length ≤ L.length + 1
  | 0, L => by simp [cutL]
  | n + 1, [] => by simp [cutL]
  | n + 1, a :: r => by
    by_cases h : a = c
    · have := cutL_len c n r
      simp [cutL, h]; omega
    · have := cutL_len c (n + 1) r
      obtain ⟨p, q, e⟩ := cutL_ne c (n + 1) r
      rw [e] at this
      simp only [cutL, if_neg h, e]
      simp at this ⊢
      omega
def spl (n : Nat) (z : Str) : List Str := (cutL 32 n z.cps.toList).map ofL
theorem spl_len (n : Nat) (z : Str) : (spl n z).length ≤ z.length + 1 := by
  unfold spl
  rw [List.length_map]
  have := cutL_len 32 n z.cps.toList
  simpa [Str.length] using this
theorem blank_eq : (" " : Str) = ⟨#[32]⟩ := by decide +kernel
theorem spl_one {z : Str} {n : Nat} (hn : z.length ≤ n ∨ z.length < 1 ∨ True) (h : (occurrences z " " 0 z.length n).isEmpty = true) (h0 : n ≠ 0) : spl n z = [z] := by
  rw [blank_eq, occ_pos, List.isEmpty_iff] at h
  have h1 : posL 32 z.cps.toList 0 = [] := by
    cases e : posL 32 z.cps.toList 0 with
    | nil => rfl
    | cons a r =>
      rw [e] at h
      obtain ⟨k, rfl⟩ : ∃ k, n = k + 1 := ⟨n - 1, by omega⟩
      simp at h
  unfold spl
  rw [cutL_free (posL_none h1)]
  simp [ofL_list]
section
variable {X : Cx}
/-- z.split(' ') -/
def rSplit : V → List V → Hp → VK → Prop := fun x vs H Q => ∃ z, x = .str z ∧ vs = [.str " "] ∧ z.length ≤ 1000 ∧ ∀ p, H p = none → Q (.ref p) (upd H p (.lst ((spl (z.length + 1) z).map V.str)))
theorem fin_list {pins : List (Addr × Obj)} {σ : St} {H : Hp} {s : Shared} {Q : VK} {ys : List V} {its : List Value} {t' : Nat} (I : Inv X pins σ H s) (hv : Vals ys its) (hz : ys.length ≤ sizeLine) (q : ∀ p, H p = none → Q (.ref p) (upd H p (.lst ys))) :
    EP X pins σ Q (.ref s.heap.objs.size) { s with heap := s.heap.push { cls := .type "list", data := .seq its.toArray }, toks := t' } :=
  ⟨.ref s.heap.objs.size, _, I.lnew hv hz, rfl, q _ I.fresh⟩
theorem mt_split : MtM X "str.split" rSplit := by
  intro pins s σ H x vs v us Q I rx rv h
  obtain ⟨z, rfl, rfl, hz, q⟩ := h
  obtain ⟨t, rfl⟩ := rx
  obtain ⟨u, rfl, t', rfl⟩ := rv.one
  have hz' : z.length ≤ sizeLine := by rw [sizeLine_eq]; omega
  have one : spl (z.length + 1) z = [z] → ∀ (T : Nat), EP X pins σ Q (.ref s.heap.objs.size) { s with heap := s.heap.push { cls := .type "list", data := .seq [Value.str z t].toArray }, toks := T } := fun e T => by
    rw [e] at q
    exact fin_list (ys := [V.str z]) I (.cons (show RelV (V.str z) _ from ⟨t, rfl⟩) .nil) (by show 1 ≤ sizeLine; decide) q
  cases h1 : (decide (z.length < (" " : Str).length) || decide (Builtin.Str.strKind z < Builtin.Str.strKind " ")) with
  | true =>
    refine call_meets F.slot_str_split (typeIs_str _ _ _) F.entry_str_split (F.args_str_split_2 _ _) (meets_str_split_cannot_occur z " " t t' h1) ?_
    have h2 : z.length < 1 := by
      rw [Bool.or_eq_true] at h1
      rcases h1 with h1 | h1
      · exact of_decide_eq_true h1
      · exact absurd (of_decide_eq_true h1) (kind_blank z)
    refine one ?_ s.toks
    have e : z.cps.toList = [] := List.eq_nil_of_length_eq_zero (by simpa [Str.length] using h2)
    unfold spl
    rw [e, cutL]
    rw [← ofL_list z, e]
    rfl
  | false =>
    cases hf : (occurrences z " " 0 z.length (z.length + 1)).isEmpty with
    | true =>
      refine call_meets F.slot_str_split (typeIs_str _ _ _) F.entry_str_split (F.args_str_split_2 _ _) (meets_str_split_not_found z " " t t' h1 (by decide) hf) ?_
      exact one (spl_one (.inr (.inr trivial)) hf (by omega)) s.toks
    | false =>
      have hl := spl_len (z.length + 1) z
      have e : partsBetween z (occurrences z " " 0 z.length (z.length + 1)) (" " : Str).length = spl (z.length + 1) z := by
        rw [blank_eq]
        exact parts_cut z 32 (z.length + 1)
      refine call_meets F.slot_str_split (typeIs_str _ _ _) F.entry_str_split (F.args_str_split_2 _ _) (meets_str_split_sep z " " t t' h1 (by decide) hf hz' (by rw [e, sizeLine_eq]; omega)) ?_
      rw [e]
      exact fin_list I (vals_from _ _) (by rw [List.length_map, sizeLine_eq]; omega) q
theorem meets_split_max_not (x y : Str) (k : Int) (t u v : Tok) (hk : (decide (k < -(2 ^ 63 : Int)) || decide (k ≥ 2 ^ 63)) = false) (h1 : (decide (x.length < y.length) || decide (Builtin.Str.strKind x < Builtin.Str.strKind y)) = false) (hy : (y.length == 0) = false)
    (hf : (occurrences x y 0 x.length (limitOf x k)).isEmpty = true) : Meets («str.split» ⟨[.str x t, .str y u, .int k v], []⟩) (listOfItself x t) := by
  obtain ⟨raising, htree⟩ := split_sep_max_tree x y k t u v hk
  refine .of_wp fun prog w A R s h => ?_
  rw [htree, h1, hy, hf]
  show wpAny _ _ (do rule "str.split.same-object"; ret (← newList [.str x t])) _ _ s
  exact wpAny_bind (wpAny_rule (wpAny_bind (wpAny_newList (wpAny_pure ⟨_, rfl, h⟩) (by show 1 ≤ sizeLine; decide))))
theorem meets_split_max_cannot (x y : Str) (k : Int) (t u v : Tok) (hk : (decide (k < -(2 ^ 63 : Int)) || decide (k ≥ 2 ^ 63)) = false) (h1 : (decide (x.length < y.length) || decide (Builtin.Str.strKind x < Builtin.Str.strKind y)) = true) :
    Meets («str.split» ⟨[.str x t, .str y u, .int k v], []⟩) (listOfItself x t) := by
  obtain ⟨raising, htree⟩ := split_sep_max_tree x y k t u v hk
  refine .of_wp fun prog w A R s h => ?_
  rw [htree, h1]
  show wpAny _ _ (do rule "str.split.sep-cannot-occur"; ret (← newList [.str x t])) _ _ s
  exact wpAny_bind (wpAny_rule (wpAny_bind (wpAny_newList (wpAny_pure ⟨_, rfl, h⟩) (by show 1 ≤ sizeLine; decide))))
/-- z.split(' ', n) -/
def rSplitN : V → List V → Hp → VK → Prop := fun x vs H Q => ∃ (z : Str) (n : Nat), x = .str z ∧ vs = [.str " ", .int (n : Int)] ∧ z.length ≤ 1000 ∧ 0 < n ∧ n ≤ 1000 ∧ ∀ p, H p = none → Q (.ref p) (upd H p (.lst ((spl n z).map V.str)))
theorem mt_splitN : MtM X "str.split" rSplitN := by
  intro pins s σ H x vs v us Q I rx rv h
  obtain ⟨z, n, rfl, rfl, hz, hn0, hn, q⟩ := h
  obtain ⟨t, rfl⟩ := rx
  obtain ⟨u, u', rfl, ⟨t', rfl⟩, ⟨t'', rfl⟩⟩ := vals2 rv
  have hz' : z.length ≤ sizeLine := by rw [sizeLine_eq]; omega
  have hk : (decide ((n : Int) < -(2 ^ 63 : Int)) || decide ((n : Int) ≥ 2 ^ 63)) = false := by
    rw [decide_eq_false (by omega), decide_eq_false (by omega)]; rfl
  have hlim : limitOf z (n : Int) = n := by
    unfold limitOf
    rw [if_neg (by omega)]
    omega
  have one : spl n z = [z] → ∀ (T : Nat), EP X pins σ Q (.ref s.heap.objs.size) { s with heap := s.heap.push { cls := .type "list", data := .seq [Value.str z t].toArray }, toks := T } := fun e T => by
    rw [e] at q
    exact fin_list (ys := [V.str z]) I (.cons (show RelV (V.str z) _ from ⟨t, rfl⟩) .nil) (by show 1 ≤ sizeLine; decide) q
  cases h1 : (decide (z.length < (" " : Str).length) || decide (Builtin.Str.strKind z < Builtin.Str.strKind " ")) with
  | true =>
    refine call_meets F.slot_str_split (typeIs_str _ _ _) F.entry_str_split (F.args_str_split_3 _ _ _) (meets_split_max_cannot z " " n t t' t'' hk h1) ?_
    have h2 : z.length < 1 := by
      rw [Bool.or_eq_true] at h1
      rcases h1 with h1 | h1
      · exact of_decide_eq_true h1
      · exact absurd (of_decide_eq_true h1) (kind_blank z)
    refine one ?_ s.toks
    have e : z.cps.toList = [] := List.eq_nil_of_length_eq_zero (by simpa [Str.length] using h2)
    obtain ⟨j, rfl⟩ : ∃ j, n = j + 1 := ⟨n - 1, by omega⟩
    unfold spl
    rw [e, cutL]
    rw [← ofL_list z, e]
    rfl
  | false =>
    cases hf : (occurrences z " " 0 z.length (limitOf z (n : Int))).isEmpty with
    | true =>
      refine call_meets F.slot_str_split (typeIs_str _ _ _) F.entry_str_split (F.args_str_split_3 _ _ _) (meets_split_max_not z " " n t t' t'' hk h1 (by decide) hf) ?_
      rw [hlim] at hf
      exact one (spl_one (.inr (.inr trivial)) hf (by omega)) s.toks
    | false =>
      have hl := spl_len n z
      have e : partsBetween z (occurrences z " " 0 z.length (limitOf z (n : Int))) (" " : Str).length = spl n z := by
        rw [blank_eq, hlim]
        exact parts_cut z 32 n
      refine call_meets F.slot_str_split (typeIs_str _ _ _) F.entry_str_split (F.args_str_split_3 _ _ _) (meets_str_split_sep_max z " " n t t' t'' hk h1 (by decide) hf hz' (by rw [e, sizeLine_eq]; omega)) ?_
      rw [e]
      exact fin_list I (vals_from _ _) (by rw [List.length_map, sizeLine_eq]; omega) q
/-- z.partition(' ') -/
def headL (c : Nat) : List Nat → List Nat
  | [] => []
  | a :: r => if a = c then [] else a :: headL c r
end
end L2

set_option Elab.async false
set_option linter.all false
set_option maxRecDepth 100000
set_option maxHeartbeats 4000000
namespace L2
open PySem PySem.Spec PyProof.Rows Builtin Builtin.Str
theorem headL_pos {c : Nat} : ∀ {L : List Nat} {i j : Nat} {r : List Nat}, posL c L i = j :: r → i ≤ j ∧ headL c L = L.take (j - i)
  | [], _, _, _, h => by simp [posL] at h
  | a :: q, i, j, r, h => by
    by_cases e : a = c
    · rw [posL, if_pos e] at h
      cases h
      exact ⟨Nat.le_refl _, by simp [headL, e]⟩
    · rw [posL, if_neg e] at h
      obtain ⟨h1, h2⟩ := headL_pos h
      refine ⟨by omega, ?_⟩
      rw [headL, if_neg e, h2, show j - i = (j - (i + 1)) + 1 by omega, List.take_succ_cons]
theorem headL_free {c : Nat} : ∀ {L : List Nat}, c ∉ L → headL c L = L
  | [], _ => rfl
  | a :: r, h => by
    have h1 : a ≠ c := fun e => h (by simp [e])
    rw [headL, if_neg h1, headL_free fun z => h (List.mem_cons_of_mem _ z)]
def hd (z : Str) : Str := ofL (headL 32 z.cps.toList)
section
variable {X : Cx}
theorem fin_tup {pins : List (Addr × Obj)} {σ : St} {H : Hp} {s : Shared} {Q : VK} {ys : List V} {its : List Value} {t' : Nat} (I : Inv X pins σ H s) (hv : Vals ys its) (hz : ys.length ≤ sizeLine) (q : ∀ p, H p = none → Q (.ref p) (upd H p (.tup ys))) :
    EP X pins σ Q (.ref s.heap.objs.size) { s with heap := s.heap.push { cls := .type "tuple", data := .seq its.toArray }, toks := t' } :=
  ⟨.ref s.heap.objs.size, _, I.laid (o := .tup ys) (fun _ _ w => Heap.get?_push_of_some _ w) (Nat.le_refl _) ⟨hz, its, hv, IsTup.new _ _⟩, rfl, q _ I.fresh⟩
/-- z.partition(' ') -/
def rPart : V → List V → Hp → VK → Prop := fun x vs H Q => ∃ z, x = .str z ∧ vs = [.str " "] ∧ z.length ≤ 1000 ∧ ∀ p a b, H p = none → Q (.ref p) (upd H p (.tup [.str (hd z), .str a, .str b]))
theorem mt_part : MtM X "str.partition" rPart := by
  intro pins s σ H x vs v us Q I rx rv h
  obtain ⟨z, rfl, rfl, hz, q⟩ := h
  obtain ⟨t, rfl⟩ := rx
  obtain ⟨u, rfl, t', rfl⟩ := rv.one
  have hz' : z.length ≤ sizeLine := by rw [sizeLine_eq]; omega
  refine call_meets F.slot_str_partition (typeIs_str _ _ _) F.entry_str_partition (F.args_str_partition_2 _ _) (meets_str_partition z " " t t' (by decide) hz') ?_
  cases ho : occurrences z " " 0 z.length 1 with
  | nil =>
    have h0 : hd z = z := by
      rw [blank_eq, occ_pos] at ho
      have h1 : posL 32 z.cps.toList 0 = [] := by
        cases e : posL 32 z.cps.toList 0 with
        | nil => rfl
        | cons a r => rw [e] at ho; simp at ho
      unfold hd
      rw [headL_free (posL_none h1), ofL_list]
    refine fin_tup (ys := [.str (hd z), .str Str.empty, .str Str.empty]) (t' := s.toks + 1) I (.cons (show RelV (V.str (hd z)) _ from ⟨t, by rw [h0]⟩) (.cons (show RelV (V.str _) _ from ⟨_, rfl⟩) (.cons (show RelV (V.str _) _ from ⟨_, rfl⟩) .nil))) (by show 3 ≤ sizeLine; decide) fun p hp => q p _ _ hp
  | cons i r =>
    have h0 : hd z = strSub z 0 i := by
      rw [blank_eq, occ_pos] at ho
      cases e : posL 32 z.cps.toList 0 with
      | nil => rw [e] at ho; simp at ho
      | cons a r' =>
        rw [e] at ho
        have : a = i := by simp at ho; exact ho.1
        subst this
        obtain ⟨_, h2⟩ := headL_pos e
        unfold hd
        rw [h2, ← ofL_list (strSub z 0 a), StrLaws.strSub_toList, List.drop_zero]
    refine fin_tup (ys := [.str (hd z), .str " ", .str _]) (t' := s.toks + 1 + 1) I (.cons (show RelV (V.str (hd z)) _ from ⟨s.toks, by rw [h0]⟩) (.cons (show RelV (V.str _) _ from ⟨t', rfl⟩) (.cons (show RelV (V.str _) _ from ⟨s.toks + 1, rfl⟩) .nil))) (by show 3 ≤ sizeLine; decide) fun p hp => q p _ _ hp
/-- sep.join(xs) -/
def rJoin (K : PySem.W.Frag) : V → List V → Hp → VK → Prop := fun x vs H Q => ∃ (sep : Str) (p : Addr) (l : List Str), x = .str sep ∧ vs = [.ref p] ∧ SqL K H p (l.map V.str) ∧ (l.map (·.length)).sum + l.length * sep.length ≤ 1000000 ∧ Q (.str (Str.join sep l)) H
theorem mt_join : MtM X "str.join" (rJoin X.K) := by
  intro pins s σ H x vs v us Q I rx rv h
  obtain ⟨sep, p, l, rfl, rfl, hp, hz, q⟩ := h
  obtain ⟨t, rfl⟩ := rx
  obtain ⟨u, rfl, ru⟩ := rv.one
  cases ru
  obtain ⟨its, r, pl, hl⟩ := I.list hp
  obtain ⟨ps, rfl, e2⟩ := vals_strs r
  have hlong : tooLong ((ps.map (·.1)).toArray.foldl (· + ·.length + sep.length) 0) = false := by
    rw [e2]
    have := StrLaws.joinTotal sep l
    rw [this]
    unfold tooLong
    refine decide_eq_false ?_
    rw [sizeLine_eq]
    omega
  refine call_meets F.slot_str_join (typeIs_str _ _ _) F.entry_str_join (F.args_str_join_2 _ _) (meets_str_join_list sep t p ps hlong) ⟨pl.isList, ?_⟩
  have hfit : (glued sep (ps.map (·.1))).length ≤ sizeLine := joinFit_length hlong
  match ps, e2, hfit with
  | [], e2, hfit =>
    subst e2
    exact ⟨hfit, .str _, H, I.tok _, ⟨_, rfl⟩, q⟩
  | [a], e2, _ =>
    subst e2
    exact ⟨.str _, H, I, ⟨a.2, rfl⟩, q⟩
  | a :: b :: r, e2, hfit =>
    subst e2
    refine ⟨hfit, .str _, H, I.tok _, ⟨_, rfl⟩, ?_⟩
    rw [StrLaws.glued_eq_join]
    exact q
/-- str(x), x an int or a text -/
theorem call_str1 : CallR X (.type "str") (fun xs H Q => (∃ i, xs = [.int i] ∧ i.natAbs.log2 < 1920 ∧ Q (.str (toString i)) H) ∨ ∃ z, xs = [.str z] ∧ Q (.str z) H) := by
  intro pins s σ H xs us Q I r h
  rcases h with ⟨i, rfl, hz, q⟩ | ⟨z, rfl, q⟩
  · exact call_str_int pins s σ H _ us Q I r ⟨i, rfl, hz, q⟩
  · obtain ⟨u, rfl, t, rfl⟩ := vals1 r
    exact PySem.P.str_of_str ⟨.str z, H, I, ⟨t, rfl⟩, q⟩
/-- int(z) -/
theorem call_intS : CallR X (.type "int") (fun xs H Q => ∃ z n, xs = [.str z] ∧ PySem.intText? z = some n ∧ z.length ≤ 640 ∧ Q (.int n) H) := by
  intro pins s σ H xs us Q I r h
  obtain ⟨z, n, rfl, hn, hl, q⟩ := h
  obtain ⟨u, rfl, t, rfl⟩ := vals1 r
  exact PySem.W.KIN.call_text hn hl ⟨.int n, H, I.tok _, ⟨_, rfl⟩, q⟩
end
end L2

set_option Elab.async false
set_option linter.all false
set_option maxRecDepth 100000
set_option maxHeartbeats 4000000
namespace AwZ
open PySem PyProof.Rows
open PySem.AutoSeq1 (wpAny_loadPart')
section
variable {prog : Program} {w : World} {A : Around} {E : Value → Shared → Prop} {s : Shared}
/-! a tuple's iterator drawn on by zip and enumerate -/
theorem tdraw {j t : Addr} {i : Nat} {its : Array Value} {x : Value} {Q : Value → Shared → Prop} (gj : s.heap.IsTupleIter j t i) (gt : s.heap.IsTuple t its) (gx : its[i]? = some x)
    (q : ∀ h2, h2.IsTupleIter j t (i + 1) → Heap.SameBut j s.heap h2 → Q x { s with heap := h2 }) : wpAny (model prog w) A (Builtin.SmallTypes.nextOf (.ref j)) Q E s := by
  obtain ⟨u, hu, cu, du⟩ := id gj
  obtain ⟨ut, hut, _, nt, dut⟩ := gt
  unfold Builtin.SmallTypes.nextOf
  refine wpAny_bind (wpAny_callSpecial?_slot (name := Str.ofString "__next__") gj.typeIs F.slot_tuple_iterator_next
    (wpAny_call_entry F.slot_tuple_iterator_next gj.typeIs F.entry_tuple_iterator_next ?_ (F.args_tuple_iterator_next_1 _)))
  show wpAny _ _ (field (.ref j) 0 >>= _) _ _ s
  refine wpAny_bind (wpAny_field hu du (x := .ref t) rfl ?_)
  show wpAny _ _ (if (Value.ref t == Value.none) = true then _ else _) _ _ s
  rw [if_neg (show ¬ (Value.ref t == Value.none) = true from Bool.false_ne_true)]
  show wpAny _ _ (field (.ref j) 1 >>= _) _ _ s
  refine wpAny_bind (wpAny_field hu du (x := .int i 0) rfl ?_)
  show wpAny _ _ (seqItems? (.ref t) >>= _) _ _ s
  refine wpAny_bind (wpAny_seqItems hut dut ?_)
  simp only [Int.toNat_natCast, gx]
  refine wpAny_bind (wpAny_setField hu du (by simp) (wpAny_pure ⟨x, rfl, wpAny_pure (q _ ?_ (Heap.SameBut.update ..))⟩))
  exact ⟨_, Heap.get?_update_self _ hu (Obj.isFreed_of_fields (Obj.data_mapFields du _)), (Obj.cls_mapFields ..).trans cu, by rw [Obj.data_mapFields du]; simp [rawInt]⟩
theorem tdraw_end {j t : Addr} {i : Nat} {its : Array Value} {Q : Value → Shared → Prop} (hh : A.handled = none) (gj : s.heap.IsTupleIter j t i) (gt : s.heap.IsTuple t its) (gx : its[i]? = none)
    (q : ∀ h2 e, Heap.ExtBut j s.heap h2 → (∃ u, h2.get? e = some u ∧ u.cls = .type "StopIteration") → E (.ref e) { s with heap := h2 }) : wpAny (model prog w) A (Builtin.SmallTypes.nextOf (.ref j)) Q E s := by
  obtain ⟨u, hu, cu, du⟩ := id gj
  obtain ⟨ut, hut, _, nt, dut⟩ := gt
  unfold Builtin.SmallTypes.nextOf
  refine wpAny_bind (wpAny_callSpecial?_slot (name := Str.ofString "__next__") gj.typeIs F.slot_tuple_iterator_next
    (wpAny_call_entry F.slot_tuple_iterator_next gj.typeIs F.entry_tuple_iterator_next ?_ (F.args_tuple_iterator_next_1 _)))
  show wpAny _ _ (field (.ref j) 0 >>= _) _ _ s
  refine wpAny_bind (wpAny_field hu du (x := .ref t) rfl ?_)
  show wpAny _ _ (if (Value.ref t == Value.none) = true then _ else _) _ _ s
  rw [if_neg (show ¬ (Value.ref t == Value.none) = true from Bool.false_ne_true)]
  show wpAny _ _ (field (.ref j) 1 >>= _) _ _ s
  refine wpAny_bind (wpAny_field hu du (x := .int i 0) rfl ?_)
  show wpAny _ _ (seqItems? (.ref t) >>= _) _ _ s
  refine wpAny_bind (wpAny_seqItems hut dut ?_)
  simp only [Int.toNat_natCast, gx]
  refine wpAny_bind (wpAny_rule (wpAny_bind (wpAny_setField hu du (by simp) ?_)))
  show wpAny _ _ (newExc (.type "StopIteration") [] >>= _) _ _ _
  refine wpAny_bind ?_
  simp only [newExc, newTuple]
  refine wpAny_bind (wpAny_newObj_type ?_ (by size_fits))
  refine wpAny_bind (m := firstArgMember _ _) (wpAny_of_eq (a := Value.none) (by first | rfl | (simp only [firstArgMember]; rfl)) ?_)
  refine wpAny_newObj_type ?_ (by size_fits)
  simp only [raiseNew]
  refine wpAny_bind (wpAny_handled ?_)
  first | rw [show A.in1.handled = none from hh] | rw [hh]
  refine wpAny_bind (wpAny_pure (wpAny_throw ?_))
  exact q _ _ (((Heap.SameBut.update ..).extBut.push _).push _) ⟨_, Heap.get?_push_size _ rfl, rfl⟩
/-! zip of a tuple and a list -/
structure Apt (z p r i j a b : Addr) : Prop where
  pz : p ≠ z
  rz : r ≠ z
  iz : i ≠ z
  jz : j ≠ z
  pr : p ≠ r
  pi : p ≠ i
  pj : p ≠ j
  ri : r ≠ i
  rj : r ≠ j
  ij : i ≠ j
  az : a ≠ z
  ar : a ≠ r
  ai : a ≠ i
  aj : a ≠ j
  bz : b ≠ z
  br : b ≠ r
  bi : b ≠ i
  bj : b ≠ j
theorem ziptl {z p r i j a b : Addr} {k : Nat} {xs ys : Array Value} {x y u v : Value} {Q : Value → Shared → Prop} (D : Apt z p r i j a b)
    (hz : IsZip s.heap z p r .none) (hp : IsPair s.heap p (.ref i) (.ref j)) (hr : IsPair s.heap r u v)
    (hi : s.heap.IsTupleIter i a k) (hj : s.heap.IsListIter j b k) (ha : s.heap.IsTuple a xs) (hb : s.heap.IsList b ys) (hx : xs[k]? = some x) (hy : ys[k]? = some y)
    (q : ∀ h2, IsZip h2 z p r (rawInt s.heap.objs.size) → IsPair h2 r x y → h2.IsTupleIter i a (k + 1) → h2.IsListIter j b (k + 1) → IsPair h2 s.heap.objs.size x y → h2.objs.size = s.heap.objs.size + 1 →
      (∀ c o, c ≠ z → c ≠ r → c ≠ i → c ≠ j → s.heap.get? c = some o → h2.get? c = some o) → Q (.ref s.heap.objs.size) { s with heap := h2 }) :
    wpAny (model prog w) A (Builtin.«zip.__next__» ⟨[.ref z], []⟩) (fun fin t => ∃ v, fin = .done (.ret v) ∧ Q v t) E s := by
  show wpAny _ _ (field (.ref z) 2 >>= _) _ _ _
  refine wpAny_bind (wpAny_field hz rfl (x := .bool false) rfl ?_)
  show wpAny _ _ (field (.ref z) 3 >>= _) _ _ _
  refine wpAny_bind (wpAny_field hz rfl (x := .ref p) rfl ?_)
  refine wpAny_bind (wpAny_seqItems hp rfl ?_)
  show wpAny _ _ (Builtin.SmallTypes.ownedTupleIsFree (.ref z) >>= _) _ _ s
  refine wpAny_bind ?_
  unfold Builtin.SmallTypes.ownedTupleIsFree
  refine wpAny_bind (wpAny_field hz rfl (x := .none) rfl (wpAny_pure ?_))
  simp only [if_true]
  refine wpAny_bind (wpAny_rule ?_)
  refine wpAny_bind (wpAny_field hz rfl (x := .ref r) rfl ?_)
  refine wpAny_bind (wpAny_setField_rec hz (by simp) fun h1 z1 s1 => ?_)
  replace z1 : IsZip h1 z p r .ellipsis := z1
  refine wpAny_bind ?_
  simp only [List.zipIdx_cons, List.zipIdx_nil, List.forIn_cons, List.forIn_nil]
  refine wpAny_bind (wpAny_bind (wpAny_onRaise ?_))
  show wpAny _ _ (Builtin.SmallTypes.nextOf (.ref i) >>= _) _ _ _
  refine wpAny_bind (tdraw (hi.extBut s1.extBut D.iz) (ha.extBut s1.extBut D.az) hx fun h2 i2 s2 => wpAny_pure ?_)
  have r2 : IsPair h2 r u v := s2.extBut _ _ D.ri (s1.extBut _ _ D.rz hr)
  refine wpAny_bind (wpAny_seqItems r2 rfl ?_)
  refine wpAny_bind (wpAny_updateSeq_pair r2 fun h3 r3 s3 => ?_)
  replace r3 : IsPair h3 r x v := r3
  refine wpAny_bind (wpAny_letGo (wpAny_pure ?_))
  refine wpAny_bind (wpAny_bind (wpAny_onRaise ?_))
  show wpAny _ _ (Builtin.SmallTypes.nextOf (.ref j) >>= _) _ _ _
  refine wpAny_bind (wpAny_nextOf_list_item (((hj.extBut s1.extBut D.jz).extBut s2.extBut D.ij.symm).extBut s3.extBut D.rj.symm)
    (((hb.extBut s1.extBut D.bz).extBut s2.extBut D.bi).extBut s3.extBut D.br) hy fun h4 j4 s4 => wpAny_pure ?_)
  have r4 : IsPair h4 r x v := s4.extBut _ _ D.rj r3
  refine wpAny_bind (wpAny_seqItems r4 rfl ?_)
  refine wpAny_bind (wpAny_updateSeq_pair r4 fun h5 r5 s5 => ?_)
  replace r5 : IsPair h5 r x y := r5
  refine wpAny_bind (wpAny_letGo (wpAny_pure (wpAny_pure ?_)))
  refine wpAny_bind (wpAny_seqItems r5 rfl ?_)
  refine wpAny_bind (wpAny_newTuple ?_)
  have sz : h5.objs.size = s.heap.objs.size := by rw [s5.1, s4.1, s3.1, s2.1, s1.1]
  have z5 : IsZip h5 z p r .ellipsis := s5.extBut _ _ D.rz.symm (s4.extBut _ _ D.jz.symm (s3.extBut _ _ D.rz.symm (s2.extBut _ _ D.iz.symm z1)))
  have k5 : ∀ c o, c ≠ z → c ≠ r → c ≠ i → c ≠ j → s.heap.get? c = some o → h5.get? c = some o := fun c o c1 c2 c3 c4 e =>
    s5.extBut _ _ c2 (s4.extBut _ _ c4 (s3.extBut _ _ c2 (s2.extBut _ _ c3 (s1.extBut _ _ c1 e))))
  have i5 : h5.IsTupleIter i a (k + 1) := ((i2.extBut s3.extBut D.ri.symm).extBut s4.extBut D.ij).extBut s5.extBut D.ri.symm
  have j5 : h5.IsListIter j b (k + 1) := j4.extBut s5.extBut D.rj.symm
  have zlt : z < h5.objs.size := Heap.lt_size z5
  show wpAny _ _ (Builtin.SmallTypes.ownedTupleHandOut (.ref z) (.ref h5.objs.size) >>= _) _ _ _
  refine wpAny_bind ?_
  unfold Builtin.SmallTypes.ownedTupleHandOut
  have z6 : IsZip (h5.push { cls := .type "tuple", data := .seq #[x, y] }) z p r .ellipsis := Heap.get?_push_of_some _ z5
  refine wpAny_bind (wpAny_setField_rec z6 (by simp) fun h7 z7 s7 => ?_)
  replace z7 : IsZip h7 z p r (rawInt h5.objs.size) := z7
  refine wpAny_setField_rec z7 (by simp) fun h8 z8 s8 => ?_
  replace z8 : IsZip h8 z p r (rawInt h5.objs.size) := z8
  have up : ∀ c o, c ≠ z → h5.get? c = some o → h8.get? c = some o := fun c o c1 e => s8.extBut _ _ c1 (s7.extBut _ _ c1 (Heap.get?_push_of_some _ e))
  have t8 : IsPair h8 h5.objs.size x y := s8.extBut _ _ (Nat.ne_of_gt zlt) (s7.extBut _ _ (Nat.ne_of_gt zlt) (Heap.get?_push_size _ rfl))
  have n8 : h8.objs.size = h5.objs.size + 1 := by rw [s8.1, s7.1, Heap.size_push]
  rw [sz] at z8 t8 n8
  refine wpAny_pure ⟨_, rfl, ?_⟩
  show Q (.ref h5.objs.size) _
  rw [sz]
  exact q h8 z8 (up _ _ D.rz r5) (by obtain ⟨o, e, g⟩ := i5; exact ⟨o, up _ o D.iz e, g⟩) (j5.at fun o e => up _ o D.jz e) t8 n8 fun c o c1 c2 c3 c4 e => up c o c1 (k5 c o c1 c2 c3 c4 e)
theorem zip_go {z p r i j a b : Addr} {k : Nat} {xs ys : Array Value} {x y u v : Value} {Q : Option Value → Shared → Prop} (D : Apt z p r i j a b)
    (hz : IsZip s.heap z p r .none) (hp : IsPair s.heap p (.ref i) (.ref j)) (hr : IsPair s.heap r u v)
    (hi : s.heap.IsTupleIter i a k) (hj : s.heap.IsListIter j b k) (ha : s.heap.IsTuple a xs) (hb : s.heap.IsList b ys) (hx : xs[k]? = some x) (hy : ys[k]? = some y)
    (q : ∀ h2, IsZip h2 z p r (rawInt s.heap.objs.size) → IsPair h2 r x y → h2.IsTupleIter i a (k + 1) → h2.IsListIter j b (k + 1) → IsPair h2 s.heap.objs.size x y → h2.objs.size = s.heap.objs.size + 1 →
      (∀ c o, c ≠ z → c ≠ r → c ≠ i → c ≠ j → s.heap.get? c = some o → h2.get? c = some o) → Q (some (.ref s.heap.objs.size)) { s with heap := h2 }) :
    wpAny (model prog w) A (pyNext (.ref z)) Q E s := by
  have tz : s.TypeIs (.ref z) "zip" := ⟨_, hz, rfl⟩
  unfold pyNext
  exact wpAny_bind (wpAny_attempt (wpAny_callSpecial?_slot (name := Str.ofString "__next__") tz F.slot_zip_next
    (wpAny_call_entry F.slot_zip_next tz F.entry_zip_next (ziptl D hz hp hr hi hj ha hb hx hy fun h2 b1 b2 b3 b4 b5 b6 b7 => wpAny_pure (q h2 b1 b2 b3 b4 b5 b6 b7)) (F.args_zip_next_1 _))))
theorem zip_stop {z p r i j a b : Addr} {k : Nat} {xs : Array Value} {Q : Option Value → Shared → Prop} (hh : A.handled = none) (D : Apt z p r i j a b)
    (hz : IsZip s.heap z p r .none) (hp : IsPair s.heap p (.ref i) (.ref j)) (hi : s.heap.IsTupleIter i a k) (ha : s.heap.IsTuple a xs) (hx : xs[k]? = none)
    (q : ∀ h2, (∀ c o, c ≠ z → c ≠ r → c ≠ i → c ≠ j → s.heap.get? c = some o → h2.get? c = some o) → Q none { s with heap := h2 }) : wpAny (model prog w) A (pyNext (.ref z)) Q E s := by
  have tz : s.TypeIs (.ref z) "zip" := ⟨_, hz, rfl⟩
  unfold pyNext
  refine wpAny_bind (wpAny_attempt (wpAny_callSpecial?_slot (name := Str.ofString "__next__") tz F.slot_zip_next
    (wpAny_call_entry F.slot_zip_next tz F.entry_zip_next ?_ (F.args_zip_next_1 _))))
  show wpAny _ _ (field (.ref z) 2 >>= _) _ _ _
  refine wpAny_bind (wpAny_field hz rfl (x := .bool false) rfl ?_)
  show wpAny _ _ (field (.ref z) 3 >>= _) _ _ _
  refine wpAny_bind (wpAny_field hz rfl (x := .ref p) rfl ?_)
  refine wpAny_bind (wpAny_seqItems hp rfl ?_)
  show wpAny _ _ (Builtin.SmallTypes.ownedTupleIsFree (.ref z) >>= _) _ _ s
  refine wpAny_bind ?_
  unfold Builtin.SmallTypes.ownedTupleIsFree
  refine wpAny_bind (wpAny_field hz rfl (x := .none) rfl (wpAny_pure ?_))
  simp only [if_true]
  refine wpAny_bind (wpAny_rule ?_)
  refine wpAny_bind (wpAny_field hz rfl (x := .ref r) rfl ?_)
  refine wpAny_bind (wpAny_setField_rec hz (by simp) fun h1 z1 s1 => ?_)
  replace z1 : IsZip h1 z p r .ellipsis := z1
  refine wpAny_bind ?_
  simp only [List.zipIdx_cons, List.zipIdx_nil, List.forIn_cons, List.forIn_nil]
  refine wpAny_bind (wpAny_bind (wpAny_onRaise ?_))
  show wpAny _ _ (Builtin.SmallTypes.nextOf (.ref i) >>= _) _ _ _
  refine wpAny_bind (tdraw_end hh (hi.extBut s1.extBut D.iz) (ha.extBut s1.extBut D.az) hx fun h2 e s2 he => ?_)
  obtain ⟨oe, ge, ce⟩ := he
  have z2 : IsZip h2 z p r .ellipsis := s2 _ _ D.iz.symm z1
  have ez : e ≠ z := fun x => by subst x; rw [z2] at ge; cases ge; simp at ce
  refine wpAny_setField_rec z2 (by simp) fun h3 _ s3 => ?_
  refine wpAny_bind (wpAny_isInstance (T := "StopIteration") (b := true) ⟨oe, s3.extBut _ _ ez ge, ce⟩ isSubtype_stop ?_)
  exact wpAny_pure (q _ fun c o c1 _ c3 _ x => s3.extBut _ _ c1 (s2 _ _ c3 (s1.extBut _ _ c1 x)))
end
abbrev q1 (h : Heap) (a : Addr) : Heap := h.push { cls := .type "tuple_iterator", data := .fields #[.ref a, .int 0 0] }
abbrev q2 (h : Heap) (a b : Addr) : Heap := (q1 h a).push { cls := .type "list_iterator", data := .fields #[.ref b, .int 0 0] }
abbrev q3 (h : Heap) (a b : Addr) : Heap := (q2 h a b).push { cls := .type "tuple", data := .seq #[.ref h.objs.size, .ref (q1 h a).objs.size] }
abbrev q4 (h : Heap) (a b : Addr) : Heap := (q3 h a b).push { cls := .type "tuple", data := .seq #[.none, .none] }
abbrev q5 (h : Heap) (a b : Addr) : Heap := (q4 h a b).push { cls := .type "zip", data := .fields #[.none, .bool false, .bool false, .ref (q2 h a b).objs.size, .ref (q3 h a b).objs.size] }
theorem zip_made (a b : Addr) (xs ys : Array Value) : Meets (Builtin.«zip.__new__» ⟨[.type "zip", .ref a, .ref b], []⟩) (fun _ R s => s.heap.IsTuple a xs ∧ s.heap.IsList b ys ∧ R (.ok (.ret (.ref (q4 s.heap a b).objs.size))) { s with heap := q5 s.heap a b }) :=
  .of_wp fun prog w A R s h => by
    obtain ⟨hp, g, d, tk, os⟩ := s
    obtain ⟨ha, hb, h⟩ := h
    have sub := sub_zip
    have h1 : Heap.IsTuple (Shared.heap ⟨hp, g, d, tk, os⟩) a xs := ha
    have h2 : Heap.IsList (Shared.heap ⟨hp.push { cls := .type "tuple_iterator", data := .fields #[.ref a, .int 0 0] }, g, d, tk, os⟩) b ys := Heap.IsList.push hb _
    wp_walk using wpAny_pyIter_tuple h1, wpAny_pyIter_list h2
    exact ⟨_, rfl, h⟩
section
variable {prog : Program} {w : World} {A : Around} {E : Value → Shared → Prop} {s : Shared}
theorem zip_call {a b : Addr} {xs ys : Array Value} {Q : Value → Shared → Prop} (ha : s.heap.IsTuple a xs) (hb : s.heap.IsList b ys)
    (h : ∀ h2, IsZip h2 (s.heap.objs.size + 4) (s.heap.objs.size + 2) (s.heap.objs.size + 3) .none → IsPair h2 (s.heap.objs.size + 2) (.ref s.heap.objs.size) (.ref (s.heap.objs.size + 1)) →
      IsPair h2 (s.heap.objs.size + 3) .none .none → h2.IsTupleIter s.heap.objs.size a 0 → h2.IsListIter (s.heap.objs.size + 1) b 0 → h2.objs.size = s.heap.objs.size + 5 →
      (∀ c o, s.heap.get? c = some o → h2.get? c = some o) → Q (.ref (s.heap.objs.size + 4)) { s with heap := h2 }) : wpAny (model prog w) A (call (.type "zip") [.ref a, .ref b]) Q E s := by
  refine callType_new F.called_zip (by decide) (F.typeCall_zip_2 _ _) (F.newCall_zip_2 _ _) (fun obj => F.args_object_init_3 obj _ _) F.entry_zip_new (zip_made a b xs ys) ⟨ha, hb, ?_⟩
  have z1 : (q1 s.heap a).objs.size = s.heap.objs.size + 1 := Heap.size_push ..
  have z2 : (q2 s.heap a b).objs.size = s.heap.objs.size + 2 := by rw [Heap.size_push, z1]
  have z3 : (q3 s.heap a b).objs.size = s.heap.objs.size + 3 := by rw [Heap.size_push, z2]
  have z4 : (q4 s.heap a b).objs.size = s.heap.objs.size + 4 := by rw [Heap.size_push, z3]
  have z5 : (q5 s.heap a b).objs.size = s.heap.objs.size + 5 := by rw [Heap.size_push, z4]
  have g5 : (q5 s.heap a b).get? (q4 s.heap a b).objs.size = some _ := Heap.get?_push_size _ rfl
  have g4 : (q5 s.heap a b).get? (q3 s.heap a b).objs.size = some _ := Heap.get?_push_of_some _ (Heap.get?_push_size _ rfl)
  have g3 : (q5 s.heap a b).get? (q2 s.heap a b).objs.size = some _ := Heap.get?_push_of_some _ (Heap.get?_push_of_some _ (Heap.get?_push_size _ rfl))
  have g2 : (q5 s.heap a b).get? (q1 s.heap a).objs.size = some _ := Heap.get?_push_of_some _ (Heap.get?_push_of_some _ (Heap.get?_push_of_some _ (Heap.get?_push_size _ rfl)))
  have g1 : (q5 s.heap a b).get? s.heap.objs.size = some _ := Heap.get?_push_of_some _ (Heap.get?_push_of_some _ (Heap.get?_push_of_some _ (Heap.get?_push_of_some _ (Heap.get?_push_size _ rfl))))
  show _ ∧ _
  rw [z2, z3, z4] at g5
  rw [z1, z2] at g3
  rw [z3] at g4
  rw [z1] at g2
  rw [z4]
  exact ⟨⟨_, g5, rfl⟩, h _ g5 g3 g4 ⟨_, g1, rfl, rfl⟩ ⟨_, g2, rfl, rfl⟩ z5 fun c o x => Heap.get?_push_of_some _ (Heap.get?_push_of_some _ (Heap.get?_push_of_some _ (Heap.get?_push_of_some _ (Heap.get?_push_of_some _ x))))⟩
end
end AwZ

set_option Elab.async false
set_option linter.all false
set_option maxRecDepth 100000
set_option maxHeartbeats 4000000
namespace AwZ
open PySem PyProof.Rows
open PySem.AutoSeq1 (wpAny_loadPart')
section
variable {prog : Program} {w : World} {A : Around} {E : Value → Shared → Prop} {s : Shared}
/-! enumerate over a tuple, counted from c -/
/-! a type called with keywords -/
end
end AwZ

set_option Elab.async false
set_option linter.all false
set_option maxRecDepth 100000
set_option maxHeartbeats 4000000
namespace L2
open PySem PySem.Spec PyProof.Rows
/-- some untracked records of ours have turned -/
theorem Inv.turnedL {X : Cx} {pins : List (Addr × Obj)} {σ : St} {H : Hp} {s : Shared} {h' : Heap} {t' : Nat} {fp : List Addr} (I : Inv X pins σ H s) (k : ∀ b o, b ∉ fp → s.heap.get? b = some o → h'.get? b = some o) (hf : ∀ b ∈ fp, FpOk X pins H b) : Inv X pins σ H { s with heap := h', toks := t' } := by
  have nit : ∀ b u, H b = some u → b ∉ fp := fun b u e z => by
    have := (hf b z).1
    rw [this] at e; cases e
  have nL : X.env.locals ∉ fp := fun z => (hf _ z).2.1 rfl
  refine I.step (g' := s.gens) (d' := s.drawn) (ch := fp) (fun b hb => ⟨(hf b hb).2.2.2.1, (hf b hb).2.1, (hf b hb).2.2.2.2.1, (hf b hb).2.2.2.2.2⟩) (fun b o _ _ hc e _ => k b o hc e) (fun b o _ _ hc e _ => ⟨o.slots, k b o hc e⟩) (fun _ _ _ _ n => n)
    (fun b o hc e => ⟨o, k b o hc e⟩) (fun _ _ e => e) (fun _ _ _ e => e) (fun b ps e => ⟨#[], by rw [e]; simp⟩) (fun m hm => ?_) (fun b u e => ?_) I.bare
  · obtain ⟨o, es, ep, ho, r⟩ := hm
    exact ⟨o, es, ep, k _ o nL ho, r⟩
  · refine (I.hok b u e).stay (fun c v hc q => k c v ?_ q) (fun _ q => q) fun _ _ q => q
    rcases hc with z | z
    · rw [z]; exact nit b u e
    · exact nit c _ z
/-- a pair handed out anew, some records turned -/
theorem Inv.handed {X : Cx} {pins : List (Addr × Obj)} {σ : St} {H : Hp} {s : Shared} {h' : Heap} {t' : Nat} {fp : List Addr} {ys : List V} {its : List Value} (I : Inv X pins σ H s) (hf : ∀ b ∈ fp, FpOk X pins H b) (hl : ∀ b ∈ fp, b < s.heap.objs.size) (hv : Vals ys its) (hz : ys.length ≤ sizeLine)
    (hn : h'.get? s.heap.objs.size = some { cls := .type "tuple", data := .seq its.toArray }) (hs : h'.objs.size = s.heap.objs.size + 1) (k : ∀ b o, b ∉ fp → s.heap.get? b = some o → h'.get? b = some o) :
    Inv X pins σ (upd H s.heap.objs.size (.tup ys)) { s with heap := h', toks := t' } ∧ ∀ b ∈ fp, FpOk X pins (upd H s.heap.objs.size (.tup ys)) b := by
  have I1 : Inv X pins σ (upd H s.heap.objs.size (.tup ys)) { s with heap := s.heap.push { cls := .type "tuple", data := .seq its.toArray }, toks := t' } :=
    I.laid (o := .tup ys) (fun _ _ w => Heap.get?_push_of_some _ w) (Nat.le_refl _) ⟨hz, its, hv, IsTup.new _ _⟩
  have hf1 : ∀ b ∈ fp, FpOk X pins (upd H s.heap.objs.size (.tup ys)) b := fun b hb => by
    obtain ⟨f0, f1, f2, f3, f4, f5⟩ := hf b hb
    have := hl b hb
    exact ⟨by rw [upd_ne (Nat.ne_of_lt this)]; exact f0, f1, f2, f3, f4, f5⟩
  refine ⟨I1.turnedL (h' := h') (t' := t') (fun b o hb e => ?_) hf1, hf1⟩
  rcases Heap.get?_push_cases (show (s.heap.push { cls := .type "tuple", data := .seq its.toArray }).get? b = some o from e) with ⟨rfl, rfl⟩ | e'
  · exact hn
  · exact k b o hb e'
end L2
namespace L2
open PySem PySem.Spec PyProof.Rows
/-- a tuple and a list of one length, pair by pair -/
def Itz (K : PySem.W.Frag) (a b : Addr) : It :=
  ⟨fun i H => ∃ xs ys x y, SqT K H a xs ∧ SqL K H b ys ∧ xs[i]? = some x ∧ ys[i]? = some y,
   fun i H v H' => ∃ p x y, v = .ref p ∧ H p = none ∧ H' = upd H p (.tup [x, y]) ∧ (∀ xs, SqT K H a xs → xs[i]? = some x) ∧ ∀ ys, SqL K H b ys → ys[i]? = some y,
   fun i H => ∃ xs, SqT K H a xs ∧ xs.length = i⟩
def tnZ (a b z p r i j : Addr) (k : Nat) (h : Heap) : Prop :=
  IsZip h z p r .none ∧ IsPair h p (.ref i) (.ref j) ∧ (∃ u v, IsPair h r u v) ∧ h.IsTupleIter i a k ∧ h.IsListIter j b k ∧ AwZ.Apt z p r i j a b
theorem turn_zip {P : Program} {w : World} {K : PySem.W.Frag} {elts : List Expr} {c : Nat} {tp : Pos} (a b z p r i j : Addr) : Turn P w K (.Tuple elts c tp) (Itz K a b) [z, p, r, i, j] z (tnZ a b z p r i j) where
  mem := by simp
  obj := fun k h st x hx => by
    obtain ⟨h1, h2, ⟨u, v, h3⟩, ⟨o4, e4, c4, d4⟩, ⟨o5, e5, c5, d5⟩, D⟩ := st
    simp only [List.mem_cons, List.mem_nil_iff, or_false] at hx
    rcases hx with rfl | rfl | rfl | rfl | rfl
    · exact ⟨_, h1, fun v z => by cases z⟩
    · exact ⟨_, h2, fun v z => by cases z⟩
    · exact ⟨_, h3, fun v z => by cases z⟩
    · exact ⟨o4, e4, fun v z => by rw [d4] at z; cases z⟩
    · exact ⟨o5, e5, fun v z => by rw [d5] at z; cases z⟩
  keep := fun k h h' st kk => by
    obtain ⟨h1, h2, ⟨u, v, h3⟩, ⟨o4, e4, r4⟩, ⟨o5, e5, r5⟩, D⟩ := st
    exact ⟨kk z (by simp) _ h1, kk p (by simp) _ h2, ⟨u, v, kk r (by simp) _ h3⟩, ⟨o4, kk i (by simp) _ e4, r4⟩, ⟨o5, kk j (by simp) _ e5, r5⟩, D⟩
  item := by
    intro X hP hw hK hc k pins s σ H E I hf st hg
    subst hP hw hK
    obtain ⟨xs, ys, x, y, ha, hb, hx, hy⟩ := hg
    obtain ⟨its, ra, pa, za⟩ := I.tuple ha
    obtain ⟨jts, rb, pb, zb⟩ := I.list hb
    obtain ⟨ux, eux, rux⟩ := ra.get hx
    obtain ⟨uy, euy, ruy⟩ := rb.get hy
    obtain ⟨h1, h2, ⟨u, v, h3⟩, h4, h5, D⟩ := st
    have l1 := Heap.lt_size h1
    have l2 := Heap.lt_size h2
    have l3 := Heap.lt_size h3
    have l4 : i < s.heap.objs.size := by obtain ⟨o, e, _⟩ := h4; exact Heap.lt_size e
    have l5 : j < s.heap.objs.size := by obtain ⟨o, e, _⟩ := h5; exact Heap.lt_size e
    refine AwZ.zip_go D h1 h2 h3 h4 h5 (show s.heap.IsTuple a its.toArray from pa) pb.isList (x := ux) (y := uy) (by simpa using eux) (by simpa using euy) fun h' g1 g2 g3 g4 g5 g6 g7 => ?_
    have g8 : IsPair h' p (.ref i) (.ref j) := g7 _ _ D.pz D.pr D.pi D.pj h2
    obtain ⟨I1, hf1⟩ := I.handed (t' := s.toks) (ys := [x, y]) (its := [ux, uy]) hf (fun c hc => by
      simp only [List.mem_cons, List.mem_nil_iff, or_false] at hc
      rcases hc with rfl | rfl | rfl | rfl | rfl <;> assumption) (.cons rux (.cons ruy .nil)) (by show 2 ≤ sizeLine; decide) g5 g6 (fun c o hc e => by
        simp only [List.mem_cons, List.mem_nil_iff, or_false, not_or] at hc
        exact g7 c o hc.1 hc.2.2.1 hc.2.2.2.1 hc.2.2.2.2 e)
    refine ⟨_, rfl, wpAny_letOwnedTupleGo_zip (s := { s with heap := h' }) g1 fun h2' z2 s2 => ?_⟩
    have s2' : ∀ c o, c ≠ z → h'.get? c = some o → h2'.get? c = some o := fun c o hc e => s2.extBut c o hc e
    refine ⟨.ref s.heap.objs.size, _, I1.turnedL (fp := [z]) (h' := h2') (t' := s.toks) (fun c o hc e => s2' c o (by simpa using hc) e) (fun c hc => hf1 c (by simp at hc; simp [hc])), rfl, ⟨_, x, y, rfl, I.fresh, rfl, fun zs hzs => ?_, fun zs hzs => ?_⟩, ⟨z2, s2' _ _ D.pz g8, ⟨_, _, s2' _ _ D.rz g2⟩, ?_, ?_, D⟩, fun c hc => (hf1 c hc).1⟩
    · rw [I.tuple_inj hzs ha]; exact hx
    · rw [I.list_inj hzs hb]; exact hy
    · obtain ⟨o, e, q⟩ := g3
      exact ⟨o, s2' _ _ D.iz e, q⟩
    · obtain ⟨o, e, q⟩ := g4
      exact ⟨o, s2' _ _ D.jz e, q⟩
  done := by
    intro X hP hw hK hc k pins s σ H E I hf st hg
    subst hP hw hK
    obtain ⟨xs, ha, hx⟩ := hg
    obtain ⟨its, ra, pa, za⟩ := I.tuple ha
    have hl := ra.length
    obtain ⟨h1, h2, ⟨u, v, h3⟩, h4, h5, D⟩ := st
    refine AwZ.zip_stop (A := X.A) (I.ok.hd hc) D h1 h2 h4 (show s.heap.IsTuple a its.toArray from pa) (by simp; omega) fun h' kk => ⟨rfl, ?_⟩
    exact I.turnedL (t' := s.toks) (fun c o hc e => by
      simp only [List.mem_cons, List.mem_nil_iff, or_false, not_or] at hc
      exact kk c o hc.1 hc.2.2.1 hc.2.2.2.1 hc.2.2.2.2 e) hf
  self := fun _ _ _ _ _ st h => wpAny_pyIter_zip st.1 h
end L2
namespace L2
open PySem PySem.Spec PyProof.Rows
section
variable {X : Cx}
theorem apt_mk {n a b : Nat} (ha : a < n) (hb : b < n) : AwZ.Apt (n + 4) (n + 2) (n + 3) n (n + 1) a b := by
  constructor <;> exact (show _ ≠ ((_ : Nat)) by omega)
theorem five_le {n x : Nat} (h : x = n + 4 ∨ x = n + 2 ∨ x = n + 3 ∨ x = n ∨ x = n + 1) : n ≤ x := by omega
def iZip (K : PySem.W.Frag) (ta : TA) : TI := fun σ H R => ta σ H fun vs H1 => ∃ a b xs ys, vs = [.ref a, .ref b] ∧ SqT K H1 a xs ∧ SqL K H1 b ys ∧ R (Itz K a b) H1
theorem pi_zip {elts : List Expr} {c : Nat} {tp p pos : Pos} {e1 e2 : Expr} {ta : TA} (hg : Gl X "zip") (hm : X.mg "zip" = none) (ha : PA X [e1, e2] ta) (hs : starEach [e1, e2] X.env = [(false, eval e1 X.env), (false, eval e2 X.env)] := by rfl) (hs2 : starEach [e2] X.env = [(false, eval e2 X.env)] := by rfl) :
    PI X (.Tuple elts c tp) (.Call (.Name "zip" p) [e1, e2] [] pos) (iZip X.K ta) := by
  intro pins s σ H R I h
  refine Call_ (ld_blt I hg hm boot_zip (PyProof.Rows.callWith_type1 (thn (ha pos pins s σ H _ I h) fun us s1 ⟨vs, H1, I1, r1, q1⟩ => ?_) (by rw [hs, hs2]) (by rw [hs2]; rfl)))
  obtain ⟨a, b, xs, ys, e, hA, hB, q⟩ := q1
  subst e
  obtain ⟨u, u', rfl, ru, ru'⟩ := vals2 r1
  cases ru
  cases ru'
  obtain ⟨its, ra, pa, za⟩ := I1.tuple hA
  obtain ⟨jts, rb, pb, zb⟩ := I1.list hB
  have la : a < s1.heap.objs.size := by obtain ⟨o, e, _⟩ := id pa; exact Heap.lt_size e
  have lb : b < s1.heap.objs.size := by obtain ⟨o, n, e, _⟩ := id pb; exact Heap.lt_size e
  refine AwZ.zip_call (show s1.heap.IsTuple a its.toArray from pa) pb.isList fun h2 g1 g2 g3 g4 g5 g6 g7 => ?_
  refine wpAny_pyIter_zip (s := { s1 with heap := h2 }) g1 ?_
  refine ⟨_, [s1.heap.objs.size + 4, s1.heap.objs.size + 2, s1.heap.objs.size + 3, s1.heap.objs.size, s1.heap.objs.size + 1], _, _, H1, rfl, I1.kept (t' := s1.toks) g7, turn_zip a b _ _ _ _ _, ⟨g1, g2, ⟨_, _, g3⟩, g4, g5, ?_⟩, fun x hx => ?_, q⟩
  · exact apt_mk la lb
  · have hx' : s1.heap.objs.size ≤ x := by
      simp only [List.mem_cons, List.mem_nil_iff, or_false] at hx
      exact five_le hx
    exact I1.fpOk hx' (I1.hok.fresh hx')
/-! ### a dict of the module, its keys texts -/
def KDict (K : PySem.W.Frag) (w : World) (a : Addr) : Prop := (a == sysModules) = false ∧ ∃ es n, K.lookup a = some ⟨.type "dict", none, .dict es n, #[]⟩ ∧ PySem.W.KeysLit w.params es.toList
def rNotK (K : PySem.W.Frag) (w : World) : R2 := fun x y H Q => ∃ z a r, x = .str z ∧ y = .ref a ∧ KDict K w a ∧ PySem.W.nsIn K a z = some r ∧ Q (.bl (!r.isSome)) H
theorem op_notK : OpR X (compareOp .NotIn) (rNotK X.K X.w) := by
  intro pins s σ H x y v u Q I rx ry h
  obtain ⟨z, a, r, rfl, rfl, ⟨hs, es, n, hl, hk⟩, hn, q⟩ := h
  obtain ⟨t, rfl⟩ := rx
  cases ry
  have hm := PySem.W.mapOf_K (prog := X.prog) (w := X.w) I.kIn hl hk
  refine wpAny_notIn_of (strKind_is X.prog X.w z t) hs hm ⟨.bl (!r.isSome), H, I.tok _, ?_, q⟩
  rw [PySem.W.find_K hl hn]
  rfl
def rIxK (K : PySem.W.Frag) (w : World) : R2 := fun x y H Q => ∃ z a u v, x = .ref a ∧ y = .str z ∧ KDict K w a ∧ PySem.W.nsIn K a z = some (some u) ∧ RelV v u ∧ Q v H
theorem ix_K : IxR X (rIxK X.K X.w) := by
  intro value slice pins s σ H x y v u Q I rx ry h hs
  obtain ⟨z, a, u', v', rfl, rfl, ⟨_, es, n, hl, hk⟩, hn, hr, q⟩ := h
  obtain ⟨t, rfl⟩ := ry
  cases rx
  have hm := PySem.W.mapOf_K (prog := X.prog) (w := X.w) I.kIn hl hk
  exact tail_any hm.typeIs slot_dict_getitem.lookup (wpAny_getItem_of (strKind_is X.prog X.w z t) hm (PySem.W.find_K hl hn) ⟨v', H, I.tok _, hr, q⟩) hs
end
end L2

set_option Elab.async false
set_option linter.all false
set_option maxRecDepth 100000
set_option maxHeartbeats 4000000
namespace L2
open PySem PySem.Spec PyProof.Rows
section
variable {X : Cx} {K : PySem.W.Frag}
/-! within a comprehension's block: the written part by its own name -/
theorem call_len_seqK (h : X.K = K) : CallR X (.builtin "len") (fun xs H Q => ∃ p ys, xs = [.ref p] ∧ (SqL K H p ys ∨ SqT K H p ys) ∧ Q (.int ys.length) H) := by subst h; exact call_len_seq
theorem pg_tupK {es : List Expr} {k : Nat} {t : TGs} {n : Nat} {pos : Pos} (hK : X.K = K) (hc : X.calm = true) (h : PGs X es t)
    (hn : (assignEach es X.env).length = n := by rfl) (hst : (assignEach es X.env).findIdx? (·.1) = none := by rfl) : PG X (.Tuple es k pos) (gTup K n t) := by subst hK; exact pg_tup hc h hn hst
end
end L2
namespace L2
open PySem PySem.Spec PyProof.Rows
/-- the turns of a comprehension over a range -/
theorem lc_range {lo : Int} {n : Nat} {L : Addr} {H1 : Hp} {te : TE} {tl : St} {Q : VK} (C : Nat → List V → Hp → Prop) (hn : n ≤ sizeLine) (h0 : C 0 [] (upd H1 L (.lst [])))
    (hs : ∀ i ys H, i < n → C i ys H → H L = some (.lst ys) → ys.length ≤ i → ∀ R : VK, (∀ y H4, H4 L = some (.lst ys) → C (i + 1) (ys ++ [y]) (upd H4 L (.lst (ys ++ [y]))) → R y H4) → te (some (.int (lo + (i : Int))) :: tl) H R)
    (hQ : ∀ ys H, C n ys H → H L = some (.lst ys) → Q (.ref L) H) : lcGo L (Itr lo n) (gName 0) tYes te (none :: tl) H1 Q := by
  refine ⟨n, fun i σ ys H => (∃ x, σ = x :: tl) ∧ C i ys H, hn, ⟨⟨none, rfl⟩, h0⟩, ?_, ?_⟩
  · rintro i σ ys H hi ⟨⟨x, rfl⟩, hc⟩ hL hy
    refine ⟨hi, ?_⟩
    rintro x' H' ⟨rfl, rfl⟩
    dsimp only [gName, tYes, List.set]
    rw [if_pos rfl]
    exact hs i ys H' hi hc hL hy _ fun y H4 e c => ⟨e, ⟨_, rfl⟩, c⟩
  · rintro σ ys H ⟨_, hc⟩ hL
    exact ⟨Nat.le_refl _, hQ ys H hc hL⟩
/-- the turns of a comprehension over a tuple and a list, pair by pair, its element data -/
theorem lc_zip {K : PySem.W.Frag} {a b A : Addr} {H1 : Hp} {te : TE} {tl : St} {Q : VK} {xs ys : List V} (f : Nat → D) (ha : ∀ H, Same H1 H → SqT K H a xs) (hb : ∀ H, Same H1 H → SqL K H b ys) (hxy : xs.length = ys.length) (hn : xs.length ≤ sizeLine) (hA : H1 A = none)
    (hte : ∀ i x y H (R : VK), xs[i]? = some x → ys[i]? = some y → Same H1 H → (∀ v H', Same H H' → Is H' (f i) v → R v H') → te (some x :: some y :: tl) H R)
    (hQ : ∀ H' vs, Same H1 H' → H' A = some (.lst vs) → L2.IsL H' ((List.range xs.length).map f) vs → Q (.ref A) H') : lcGo A (Itz K a b) (gTup K 2 (gCons (gName 0) (gCons (gName 1) gNil))) tYes te (none :: none :: tl) H1 Q := by
  refine ⟨xs.length, fun i σ us H => (∃ u v, σ = u :: v :: tl) ∧ L2.IsL H ((List.range i).map f) us ∧ Same H1 H, hn, ⟨⟨none, none, rfl⟩, rfl, same_new hA _⟩, ?_, ?_⟩
  · rintro i σ us H hi ⟨⟨u, v, rfl⟩, hl, sm⟩ hA' hyl
    have hx : xs[i]? = some xs[i] := List.getElem?_eq_getElem hi
    have hy : ys[i]? = some (ys[i]'(by omega)) := List.getElem?_eq_getElem _
    refine ⟨⟨xs, ys, _, _, ha H sm, hb H sm, hx, hy⟩, fun x H' y => ?_⟩
    obtain ⟨p, x', y', rfl, hp, rfl, e1, e2⟩ := y
    have e1 := e1 xs (ha H sm)
    have e2 := e2 ys (hb H sm)
    have s2 : Same H (upd H p (.tup [x', y'])) := same_new hp _
    refine ⟨p, _, rfl, SqT.of upd_same, rfl, x', _, rfl, y', _, rfl, rfl, ?_⟩
    dsimp only [tYes]
    rw [if_pos rfl]
    refine hte i x' y' _ _ e1 e2 (sm.trans s2) fun y4 H4 s4 hy' => ⟨s4 _ _ (s2 _ _ hA'), ⟨_, _, rfl⟩, ?_, fun b o e => ?_⟩
    · have t : Tk H4 (upd H4 A (.lst (us ++ [y4]))) := Tk.updL (s4 _ _ (s2 _ _ hA'))
      rw [List.range_succ, List.map_append]
      exact ((hl.mono (s2.trans s4).tk).mono t).append (IsL.one (hy'.mono t))
    · rw [upd_ne (ne_of_none e hA)]
      exact s4 b o (s2 b o (sm b o e))
  · rintro σ us H ⟨_, hl, sm⟩ hA'
    exact ⟨⟨xs, ha H sm, rfl⟩, hQ H us sm hA' hl⟩
theorem inV_str (z : Str) (l : List Str) : inV (.str z) (l.map V.str) = decide (z ∈ l) := by
  unfold inV
  rw [List.any_map, Bool.eq_iff_iff, List.any_eq_true, decide_eq_true_eq]
  constructor
  · rintro ⟨x, hx, e⟩
    have e' : (x == z) = true := e
    rw [beq_iff_eq] at e'
    exact e' ▸ hx
  · intro h
    exact ⟨z, h, by show (z == z) = true; exact beq_self_eq_true z⟩
theorem flat_strs (l : List Str) : (l.map V.str).all flatV = true := by
  rw [List.all_map, List.all_eq_true]
  intro x _
  rfl
end L2

set_option Elab.async false
set_option linter.all false
set_option maxRecDepth 100000
set_option maxHeartbeats 4000000
namespace L2
open PySem PySem.Spec PyProof.Rows
/-! ### lines of rules: a word and its parts -/
inductive Pt where
  | s (z : Str) | n (i : Int)
def Pt.d : Pt → D
  | .s z => .str z
  | .n i => .int i
def Pt.t : Pt → Str
  | .s z => z
  | .n i => toString i
inductive Kd where
  | box | line | words
  deriving DecidableEq
def Kd.t : Kd → Str
  | .box => "box"
  | .line => "line"
  | .words => "words"
def BX : List Str := ["a", "b", "c", "d", "e", "f", "g", "h"]
def FRM : List (Str × List Kd) := [("text", [.box, .words]), ("self", [.box]), ("copy", [.box, .box]), ("row", [.box]), ("put", [.box, .box]), ("join", [.box, .box]), ("first", [.box, .box]), ("rest", [.box, .box]),
  ("size", [.box, .box]), ("cut", [.box, .box, .box]), ("glue", [.box, .box, .box]), ("ask", [.box, .box]), ("has", [.box, .box]), ("names", [.box, .box]), ("go", [.line]), ("like", [.box, .box, .line]),
  ("rowed", [.box, .line]), ("none", [.box, .line]), ("say", [.box]), ("fault", [])]
def ptOk (n m : Nat) : Kd → Pt → Prop
  | .box, .s z => z ∈ BX
  | .line, .n i => 1 ≤ i ∧ i ≤ n
  | .words, .s z => z.length ≤ m ∧ z.cps.toList.all okSign = true
  | _, _ => False
def ptsOk (n m : Nat) : List Kd → List Pt → Prop
  | [], [] => True
  | k :: ks, p :: ps => ptOk n m k p ∧ ptsOk n m ks ps
  | _, _ => False
abbrev Rw := Str × List Pt
def RowOk (n m : Nat) (r : Rw) : Prop := ∃ ks, (r.1, ks) ∈ FRM ∧ ptsOk n m ks r.2
def txs (r : Rw) : List Str := r.1 :: r.2.map Pt.t
def lineOf (r : Rw) : Str := Str.join " " (txs r)
def rowD (r : Rw) : D := .tup [.str r.1, .tup (r.2.map Pt.d)]
/-! signs of a joined text -/
theorem join_list : ∀ (x y : Str) (r : List Str), (Str.join " " (x :: y :: r)).cps.toList = x.cps.toList ++ 32 :: (Str.join " " (y :: r)).cps.toList := by
  intro x y r
  show ((x.cps ++ (" " : Str).cps) ++ (Str.join " " (y :: r)).cps).toList = _
  rw [Array.toList_append, Array.toList_append, blank_eq]
  simp
abbrev Free (z : Str) : Prop := 32 ∉ z.cps.toList
/-- parts without blanks, and a last one with few -/
theorem spl_join : ∀ (l : List Str) (z : Str) (n : Nat), (∀ p ∈ l, Free p) → (n = 0 ∨ Free z) → spl (l.length + n) (Str.join " " (l ++ [z])) = l ++ [z]
  | [], z, n, _, hz => by
    show spl (0 + n) z = [z]
    rw [Nat.zero_add]
    unfold spl
    rcases hz with rfl | hz
    · rw [cutL]
      show [ofL z.cps.toList] = [z]
      rw [ofL_list]
    · rw [cutL_free hz]
      show [ofL z.cps.toList] = [z]
      rw [ofL_list]
  | p :: l, z, n, hl, hz => by
    have ih := spl_join l z n (fun q hq => hl q (List.mem_cons_of_mem _ hq)) hz
    have hp : Free p := hl p List.mem_cons_self
    obtain ⟨y, r, e⟩ : ∃ y r, l ++ [z] = y :: r := by cases l <;> exact ⟨_, _, rfl⟩
    show spl ((l.length + 1) + n) (Str.join " " (p :: (l ++ [z]))) = p :: (l ++ [z])
    rw [e] at ih ⊢
    unfold spl at ih ⊢
    rw [join_list, show l.length + 1 + n = (l.length + n) + 1 by omega, cutL_app hp, List.map_cons, ih, ofL_list]
theorem hd_join (w : Str) (r : List Str) (h : Free w) : hd (Str.join " " (w :: r)) = w := by
  have key : ∀ (p q : List Nat), 32 ∉ p → headL 32 (p ++ 32 :: q) = p := by
    intro p
    induction p with
    | nil => intro q _; simp [headL]
    | cons a p ih =>
      intro q h
      have h1 : a ≠ 32 := fun e => h (by simp [e])
      show headL 32 (a :: (p ++ 32 :: q)) = a :: p
      rw [headL, if_neg h1, ih q fun z => h (List.mem_cons_of_mem _ z)]
  cases r with
  | nil =>
    show ofL (headL 32 w.cps.toList) = w
    rw [headL_free h, ofL_list]
  | cons y r =>
    unfold hd
    rw [join_list, key _ _ h, ofL_list]
theorem join_len : ∀ (l : List Str), l ≠ [] → (Str.join " " l).length + 1 = (l.map (·.length)).sum + l.length
  | [], h => absurd rfl h
  | [x], _ => by simp [Str.join]
  | x :: y :: r, _ => by
    have ih := join_len (y :: r) (by simp)
    have e : (Str.join " " (x :: y :: r)).length = x.length + (1 + (Str.join " " (y :: r)).length) := by
      have := congrArg List.length (join_list x y r)
      rw [List.length_append, List.length_cons] at this
      simp only [Array.length_toList] at this
      show (Str.join " " (x :: y :: r)).cps.size = _
      rw [this]
      show x.cps.size + ((Str.join " " (y :: r)).cps.size + 1) = x.cps.size + (1 + (Str.join " " (y :: r)).cps.size)
      omega
    rw [e, List.map_cons, List.sum_cons, List.length_cons]
    omega
theorem join_all : ∀ (l : List Str), (∀ p ∈ l, p.cps.toList.all okSign = true) → (Str.join " " l).cps.toList.all okSign = true
  | [], _ => by decide
  | [x], h => h x (by simp)
  | x :: y :: r, h => by
    have ih := join_all (y :: r) fun p hp => h p (List.mem_cons_of_mem _ hp)
    rw [join_list, List.all_append, List.all_cons, h x List.mem_cons_self, ih]
    rfl
/-! numbers of lines -/
theorem num_small {i : Int} (h1 : 1 ≤ i) (h2 : i ≤ 40) : (toString i : Str).length ≤ 2 ∧ Free (toString i : Str) ∧ (toString i : Str).cps.toList.all okSign = true := by
  obtain ⟨k, rfl⟩ : ∃ k : Fin 41, i = ((k.val : Nat) : Int) := ⟨⟨i.toNat, by omega⟩, by simp; omega⟩
  have key : ∀ k : Fin 41, (toString ((k.val : Nat) : Int) : Str).length ≤ 2 ∧ decide (Free (toString ((k.val : Nat) : Int) : Str)) = true ∧ (toString ((k.val : Nat) : Int) : Str).cps.toList.all okSign = true := by decide +kernel
  obtain ⟨a, b, c⟩ := key k
  exact ⟨a, of_decide_eq_true b, c⟩
theorem num_back {i : Int} (h1 : 1 ≤ i) (h2 : i ≤ 40) : PySem.intText? (toString i : Str) = some i := PySem.W.KIN.num_reads (by omega) (by omega)
theorem box_ok {z : Str} (h : z ∈ BX) : z.length = 1 ∧ Free z ∧ z.cps.toList.all okSign = true := by
  have key : ∀ z ∈ BX, z.length = 1 ∧ decide (Free z) = true ∧ z.cps.toList.all okSign = true := by decide +kernel
  obtain ⟨a, b, c⟩ := key z h
  exact ⟨a, of_decide_eq_true b, c⟩
theorem word_ok : ∀ x ∈ FRM, decide (Free x.1) = true ∧ x.1.cps.toList.all okSign = true := by decide +kernel
/-- words at the end alone, and where there are some, the rest are boxes -/
theorem form_ok : ∀ x ∈ FRM, (decide (Kd.words ∈ x.2) = false) ∨ x = (("text" : Str), [Kd.box, Kd.words]) := by decide +kernel
theorem form_nd : ∀ x ∈ FRM, ∀ y ∈ FRM, x.1 = y.1 → x = y := by decide +kernel
def Kd.most (m : Nat) : Kd → Nat
  | .box => 1
  | .line => 2
  | .words => m
theorem ptOk_len {n m : Nat} (hn : n ≤ 40) {k : Kd} {p : Pt} (h : ptOk n m k p) : p.t.length ≤ k.most m := by
  cases k <;> cases p <;> simp only [ptOk] at h
  · exact Nat.le_of_eq (box_ok h).1
  · exact (num_small h.1 (by omega)).1
  · exact h.1
theorem ptOk_all {n m : Nat} (hn : n ≤ 40) {k : Kd} {p : Pt} (h : ptOk n m k p) : p.t.cps.toList.all okSign = true := by
  cases k <;> cases p <;> simp only [ptOk] at h
  · exact (box_ok h).2.2
  · exact (num_small h.1 (by omega)).2.2
  · exact h.2
theorem ptOk_free {n m : Nat} (hn : n ≤ 40) {k : Kd} {p : Pt} (h : ptOk n m k p) (hk : k ≠ .words) : Free p.t := by
  cases k <;> cases p <;> simp only [ptOk] at h
  · exact (box_ok h).2.1
  · exact (num_small h.1 (by omega)).2.1
  · exact absurd rfl hk
theorem ptsOk_length {n m : Nat} : ∀ {ks : List Kd} {ps : List Pt}, ptsOk n m ks ps → ps.length = ks.length
  | [], [], _ => rfl
  | _ :: _, _ :: _, h => by rw [List.length_cons, List.length_cons, ptsOk_length h.2]
  | [], _ :: _, h => h.elim
  | _ :: _, [], h => h.elim
theorem ptsOk_sum {n m : Nat} (hn : n ≤ 40) : ∀ {ks : List Kd} {ps : List Pt}, ptsOk n m ks ps → ((ps.map Pt.t).map (·.length)).sum ≤ (ks.map (Kd.most m)).sum
  | [], [], _ => Nat.le_refl _
  | _ :: _, _ :: _, h => by
    have h1 := ptOk_len hn h.1
    have h2 := ptsOk_sum hn h.2
    simp only [List.map_cons, List.sum_cons]
    omega
  | [], _ :: _, h => h.elim
  | _ :: _, [], h => h.elim
theorem ptsOk_all {n m : Nat} (hn : n ≤ 40) : ∀ {ks : List Kd} {ps : List Pt}, ptsOk n m ks ps → ∀ p ∈ ps.map Pt.t, p.cps.toList.all okSign = true
  | [], [], _ => fun p hp => by simp at hp
  | _ :: _, _ :: _, h => fun p hp => by
    rw [List.map_cons] at hp
    rcases List.mem_cons.mp hp with rfl | hp
    · exact ptOk_all hn h.1
    · exact ptsOk_all hn h.2 p hp
  | [], _ :: _, h => h.elim
  | _ :: _, [], h => h.elim
theorem ptsOk_free {n m : Nat} (hn : n ≤ 40) : ∀ {ks : List Kd} {ps : List Pt}, ptsOk n m ks ps → Kd.words ∉ ks → ∀ p ∈ ps.map Pt.t, Free p
  | [], [], _, _ => fun p hp => by simp at hp
  | _ :: _, _ :: _, h, hk => fun p hp => by
    rw [List.map_cons] at hp
    rcases List.mem_cons.mp hp with rfl | hp
    · exact ptOk_free hn h.1 fun e => hk (by simp [e])
    · exact ptsOk_free hn h.2 (fun z => hk (List.mem_cons_of_mem _ z)) p hp
  | [], _ :: _, h, _ => h.elim
  | _ :: _, [], h, _ => h.elim
theorem form_len : ∀ x ∈ FRM, ∀ m : Fin 41, 3 < m.val → x.1.length + (x.2.map (Kd.most m.val)).sum + x.2.length ≤ 7 + m.val := by decide +kernel
/-- how long a line is -/
theorem line_len {n m : Nat} {r : Rw} (hn : n ≤ 40) (hm : 4 ≤ m) (hm2 : m ≤ 40) (h : RowOk n m r) : (lineOf r).length ≤ 7 + m := by
  obtain ⟨ks, hk, hp⟩ := h
  have h1 := join_len (txs r) (by simp [txs])
  have h2 := ptsOk_sum hn hp
  have h3 := form_len _ hk ⟨m, by omega⟩ hm
  have h4 := ptsOk_length hp
  simp only [txs, List.map_cons, List.sum_cons, List.length_cons, List.length_map] at h1
  show (Str.join " " (txs r)).length ≤ 7 + m
  simp only at h3
  unfold txs
  omega
theorem line_all {n m : Nat} {r : Rw} (hn : n ≤ 40) (h : RowOk n m r) : (lineOf r).cps.toList.all okSign = true := by
  obtain ⟨ks, hk, hp⟩ := h
  refine join_all _ fun p hp' => ?_
  rcases List.mem_cons.mp hp' with rfl | hp'
  · exact (word_ok _ hk).2
  · exact ptsOk_all hn hp p hp'
theorem line_hd {n m : Nat} {r : Rw} (h : RowOk n m r) : hd (lineOf r) = r.1 := by
  obtain ⟨ks, hk, hp⟩ := h
  exact hd_join _ _ (of_decide_eq_true (word_ok _ hk).1)
theorem line_spl {n m : Nat} {r : Rw} {ks : List Kd} (hn : n ≤ 40) (hk : (r.1, ks) ∈ FRM) (hp : ptsOk n m ks r.2) : spl (if Kd.words ∈ ks then ks.length else (lineOf r).length + 1) (lineOf r) = txs r := by
  have hw : Free r.1 := of_decide_eq_true (word_ok _ hk).1
  by_cases h : Kd.words ∈ ks
  · rw [if_pos h]
    rcases form_ok _ hk with e | e
    · simp at e; exact absurd h e
    · have e1 : ks = [.box, .words] := congrArg Prod.snd e
      subst e1
      obtain ⟨w, ps⟩ := r
      match ps, hp with
      | [p, q], hp =>
        have := spl_join [w, p.t] q.t 0 (fun z hz => by
          simp only [List.mem_cons, List.mem_nil_iff, or_false] at hz
          rcases hz with rfl | rfl
          · exact hw
          · exact ptOk_free hn hp.1 (by decide)) (.inl rfl)
        exact this
  · rw [if_neg h]
    have hf : ∀ p ∈ txs r, Free p := fun p hp' => by
      rcases List.mem_cons.mp hp' with rfl | hp'
      · exact hw
      · exact ptsOk_free hn hp h p hp'
    rcases List.eq_nil_or_concat (txs r) with e | ⟨l, z, e⟩
    · simp [txs] at e
    · rw [List.concat_eq_append] at e
      have hlen := join_len (txs r) (by simp [txs])
      unfold lineOf
      rw [e] at hf hlen ⊢
      have hl : l.length ≤ (Str.join " " (l ++ [z])).length := by
        rw [List.length_append] at hlen
        simp only [List.length_cons, List.length_nil] at hlen
        omega
      have := spl_join l z ((Str.join " " (l ++ [z])).length + 1 - l.length) (fun q hq => hf q (List.mem_append_left _ hq)) (.inr (hf z (by simp)))
      rw [show l.length + ((Str.join " " (l ++ [z])).length + 1 - l.length) = (Str.join " " (l ++ [z])).length + 1 by omega] at this
      exact this
end L2

set_option Elab.async false
set_option linter.all false
set_option maxRecDepth 100000
set_option maxHeartbeats 4000000
namespace L2
open PySem PySem.Spec PyProof.Rows
/-! ### exceptions of the program's own classes, that come of ValueError -/
def VE : List Value := [.type "ValueError", .type "Exception", .type "BaseException", .type "object"]
/-- an exception lies behind a call: B, all that stood where it was raised, but for the frames -/
def CX1 (P : Program) (w : World) : CXT := fun outer H s E e s' => ∃ (ea C : Addr) (a0 : Value) (H' : Hp) (B : Heap), e = .ref ea ∧ s'.os = s.os ∧ AllBare s'.gens ∧ Un (frs outer) [] H H' s.heap s'.heap ∧ HOk P w H' B ∧
  Heap.FlyingW B outer ea (.ref C) a0 s'.heap ∧ (∀ b o, s.heap.get? b = some o → b ∉ frs outer → ∃ o', B.get? b = some o') ∧ E (.ref ea) (some C) H'
/-- the class, as it stands in the written part -/
theorem cls_in {K : PySem.W.Frag} {h : Heap} {C : Addr} {bmB : List Value} {newId : String} (X : K.In h) (q : PySem.W.excIn K C bmB newId = true) :
    ∃ bm N nm qn bs hdct sn sub ab col dd k0 k1 k2 k3 k5 mN, h.get? C = some (excClassObj nm qn C N bs bm hdct sn sub ab col dd k0 k1 k2 k3 k5 newId) ∧ h.Ns N mN ∧ mN "__init__" = none ∧ OwnTail h bmB bm := by
  unfold PySem.W.excIn at q
  split at q
  · rename_i dd cd sl ho
    split at q
    · rename_i C' bm k0 k1 k2 k3 n k5 hm hs
      simp only [Bool.and_eq_true, beq_iff_eq, Bool.not_eq_true'] at q
      obtain ⟨⟨⟨⟨⟨rfl, rfl⟩, hdel⟩, ht⟩, hok⟩, hni⟩ := q
      obtain ⟨nm, bs, mro, ns, qn, hd, sn, sub, ab, col, del⟩ := cd
      dsimp only at hm hdel hok hni
      subst hm hdel
      obtain ⟨l⟩ := sl
      simp only at hs
      subst hs
      exact ⟨bm, ns, nm, qn, bs, hd, sn, sub, ab, col, dd, k0, k1, k2, k3, k5, _, X _ _ ho, .of_isNs (PySem.W.isNs_of_in X hok), PySem.W.nsMap_none_of_in X hok hni, PySem.W.tail_of_in X ht⟩
    · cases q
  · cases q
theorem funs_gone {h base B : Heap} : ∀ {l : List Env}, h.FunFrames base l → (∀ b ∈ frs l, B.get? b = none) → h.FunFrames B l
  | [], _, _ => trivial
  | env :: r, ⟨hk, ⟨L, o, hf, hn, ho, hd⟩, hr⟩, hB => by
    have e : frs (env :: r) = L :: frs r := by unfold frs; rw [List.filterMap_cons, hf]
    rw [e] at hB
    exact ⟨hk, ⟨L, o, hf, hB L List.mem_cons_self, ho, hd⟩, funs_gone hr fun b hb => hB b (List.mem_cons_of_mem _ hb)⟩
/-- raise C(e): what is wanted of the exception -/
def tRaise (E : XK) (C : Addr) (ta : TE) : TS := fun _ σ H => tCons ta tNil σ H fun vs H1 => vs.length = 1 ∧ ∀ e, E (.ref e) (some C) H1
theorem ps_raise {P : Program} {w : World} {K : PySem.W.Frag} {mg : Str → Option Value} {base : Heap} {N : List Str} {qual : Str} {scope : Scope} {f : Addr} {cd : Value} {A : Around} {outer : List Env} {s₀ : Shared} {H₀ : Hp} {E : XK}
    {x : Str} {C : Addr} {np cpos pos : Pos} {arg : Expr} {ta : TE} (hx : PySem.W.excIn K C VE "ValueError.__new__" = true) (hg : Gl (cxOf (CX1 P w) P w K mg base N qual scope f cd A outer s₀ H₀ E) x) (hm : mg x = some (.ref C))
    (ha : PE (cxOf (CX1 P w) P w K mg base N qual scope f cd A outer s₀ H₀ E) arg ta) (hd : (x == ("__debug__" : Str)) = false := by decide)
    (hs : starEach [arg] (envOfC qual scope s₀.heap.objs.size f cd) = [(false, eval arg (envOfC qual scope s₀.heap.objs.size f cd))] := by rfl) :
    PS (cxOf (CX1 P w) P w K mg base N qual scope f cd A outer s₀ H₀ E) (.Raise (some (.Call (.Name x np) [arg] [] cpos)) none pos) (tRaise E C ta) := by
  intro pins s σ H D I h
  obtain ⟨bm, Nn, nm, q, bs, hdct, sn, sub, ab, col, dd, k0, k1, k2, k3, k5, mN, hC, hN, hni, T⟩ := cls_in I.mod.kin hx
  have hT : bm.contains (.type "BaseException") = true := T.hasType (by decide)
  refine wpAny_Raise_call_subT (C := C) (nm := nm) (q := q) (N := Nn) (bs := bs) (bm := bm) (hdct := hdct) (sn := sn) (sub := sub) (ab := ab) (col := col) (dd := dd) (k0 := k0) (k1 := k1) (k2 := k2) (k3 := k3) (k5 := k5)
    (mN := mN) F.excBase_ValueError hT (I.ok.hd rfl) (by show (backTo cpos (starEach [arg] (envOfC qual scope s₀.heap.objs.size f cd))).any (·.1) = false; rw [hs]; rfl) hni (ld_glob I hg hm ⟨rfl, ?_⟩ hd)
  have hPA : PA (cxOf (CX1 P w) P w K mg base N qual scope f cd A outer s₀ H₀ E) [arg] (tCons ta tNil) := pa_cons ha pa_nil hs
  have hp := hPA cpos pins s σ H (fun vs H1 => vs.length = 1 ∧ ∀ e, E (.ref e) (some C) H1) I h
  show wpAny _ _ (evalArgs (.ref C) true (backTo cpos (starEach [arg] (envOfC qual scope s₀.heap.objs.size f cd))) []) _ _ s
  have hs' : starEach [arg] (cxOf (CX1 P w) P w K mg base N qual scope f cd A outer s₀ H₀ E).env = [(false, eval arg (envOfC qual scope s₀.heap.objs.size f cd))] := hs
  rw [hs'] at hp
  rw [hs]
  refine Calls.evalArgs_plain (wpAny_mono hp (fun vs s₂ h₂ => ?_) fun _ _ y => y)
  obtain ⟨ws, H2, I2, r2, q2⟩ := h₂
  obtain ⟨hl, q2⟩ := q2
  have bk := I2.bk
  have hvl : vs.length ≤ sizeLine := by rw [← r2.length, hl]; decide
  refine ⟨rfl, hvl, bk _ _ hC, hN.keeps bk, T.keeps bk, fun h' e hmade => ?_⟩
  show wpAny (model P w) (A.deeper (envOfC qual scope s₀.heap.objs.size f cd)) (leaving (envOfC qual scope s₀.heap.objs.size f cd) (.ref e)) (fun _ s'' => CX1 P w outer H₀ s₀ E (.ref e) s'') (fun e' s'' => CX1 P w outer H₀ s₀ E e' s'') _
  have hfr : (A.deeper (envOfC qual scope s₀.heap.objs.size f cd)).frames = some (envOfC qual scope s₀.heap.objs.size f cd :: outer) := I2.ok.frames
  have hst : s₂.heap.FunFrames base (envOfC qual scope s₀.heap.objs.size f cd :: outer) := I2.stack
  have hfree : ∀ b ∈ frs (envOfC qual scope s₀.heap.objs.size f cd :: outer), H2 b = none := I2.stkFree
  have hfe : frs (envOfC qual scope s₀.heap.objs.size f cd :: outer) = s₀.heap.objs.size :: frs outer := rfl
  have habove : s₀.heap.objs.size ≤ s₀.heap.objs.size := I2.ok.above
  have hbase : Un (frs outer) [] H₀ H2 s₀.heap s₂.heap := I2.base
  refine wpAny_leaves_madeW (base := TI.gone s₂.heap (frs (envOfC qual scope s₀.heap.objs.size f cd :: outer))) (h := s₂.heap) (L := s₀.heap.objs.size) hfr rfl (fun b o e => (TI.gone_some e).2) (funs_gone hst fun b hb => TI.gone_none hb) hmade fun h'' t hfly htup _ hup => ?_
  have stays : ∀ b o, b ∉ frs (envOfC qual scope s₀.heap.objs.size f cd :: outer) → s₂.heap.get? b = some o → h''.get? b = some o := fun b o hb e => hfly.1 b o (by rw [TI.gone_get hb]; exact e)
  have slots : ∀ b o, s₂.heap.get? b = some o → (∀ vs, o.data ≠ .fields vs) → ∃ sl, h''.get? b = some { o with slots := sl } := fun b o e hn => hup b o (hmade.keeps b o e) hn
  have nd : ∀ b ∈ frs outer, ∀ o, s₂.heap.get? b = some o → ∀ vs, o.data ≠ .fields vs := fun b hb o e => by
    obtain ⟨_, o', e', hn⟩ := hst.mem (show b ∈ (envOfC qual scope s₀.heap.objs.size f cd :: outer).filterMap (·.frame) from by rw [show (envOfC qual scope s₀.heap.objs.size f cd :: outer).filterMap (·.frame) = frs (envOfC qual scope s₀.heap.objs.size f cd :: outer) from rfl, hfe]; exact List.mem_cons_of_mem _ hb)
    rw [e] at e'
    cases e'
    exact hn
  have notin : ∀ b o, s₀.heap.get? b = some o → b ∉ frs outer → b ∉ frs (envOfC qual scope s₀.heap.objs.size f cd :: outer) := fun b o e hb hm => by
    rw [hfe] at hm
    rcases List.mem_cons.mp hm with rfl | hm
    · exact absurd (Heap.lt_size e) (Nat.lt_irrefl _)
    · exact hb hm
  refine ⟨e, C, .ref t, H2, _, rfl, I2.os, I2.bare, ⟨?_, ?_, hbase.free, ?_, hbase.tups, hbase.frzs, hbase.tbls⟩, ?_, hfly, ?_, q2 e⟩
  · intro b o e1 hn hb hx
    exact stays b o (notin b o e1 hb) (hbase.keep b o e1 hn hb hx)
  · intro b o e1 hn hb hx
    obtain ⟨sl, e2⟩ := hbase.slot b o e1 hn hb hx
    obtain ⟨sl2, e3⟩ := slots b _ e2 (nd b hb _ e2)
    exact ⟨sl2, e3⟩
  · intro b o e1 hx
    obtain ⟨o', e2⟩ := hbase.there b o e1 hx
    by_cases hb : b ∈ frs outer
    · obtain ⟨sl2, e3⟩ := slots b _ e2 (nd b hb _ e2)
      exact ⟨_, e3⟩
    · exact ⟨o', stays b o' (notin b o e1 hb) e2⟩
  · intro b u hb
    refine (I2.hok b u hb).stay (fun c v hc q => ?_) (fun _ q => q) fun _ _ q => q
    rw [TI.gone_get]
    · exact q
    · intro hm
      have hn := hfree c hm
      rcases hc with z | z
      · rw [z, hb] at hn; cases hn
      · rw [z] at hn; cases hn
  · intro b o e1 hb
    obtain ⟨o', e2⟩ := hbase.there b o e1 (by simp)
    exact ⟨o', by rw [TI.gone_get (notin b o e1 hb)]; exact e2⟩
end L2

set_option Elab.async false
set_option linter.all false
set_option maxRecDepth 100000
set_option maxHeartbeats 4000000
namespace L2
open PySem PySem.Spec PyProof.Rows
/-! ### try: a call that may raise; except C: a suite -/
abbrev Cx.marked (X : Cx) (ee : Addr) (xe : Value → Shared → Prop) : Cx := { X with A := X.A.mark (some (.ref ee)), calm := false, xe := xe }
section
variable {X : Cx} {pins : List (Addr × Obj)} {σ : St} {H : Hp} {s : Shared} {ee : Addr} {xe : Value → Shared → Prop}
theorem Cx.Ok.marked (ok : X.Ok) : (X.marked ee xe).Ok :=
  ⟨ok.mod, ok.kind, ok.glob, ok.blt, ok.above, ok.inj, ok.has, ok.cab, (fun z => absurd z Bool.false_ne_true), ok.frames, ok.stk, ok.exf, ok.bs, ok.bsz, ok.noex, ok.exfs, ok.funs, ok.frf⟩
theorem Inv.marked (I : Inv X pins σ H s) : Inv (X.marked ee xe) pins σ H s := ⟨I.ok.marked, I.os, I.bare, I.base, I.loc, I.cell, I.free, I.freeC, I.pin, I.hok, I.len⟩
theorem Inv.unmarked (ok : X.Ok) (I : Inv (X.marked ee xe) pins σ H s) : Inv X pins σ H s := ⟨ok, I.os, I.bare, I.base, I.loc, I.cell, I.free, I.freeC, I.pin, I.hok, I.len⟩
theorem SP.unmarked (ok : X.Ok) {D : Ends} {f : Flow} {s' : Shared} (h : SP (X.marked ee xe) pins D f s') : SP X pins D f s' := by
  cases f with
  | next => obtain ⟨σ', H', I, q⟩ := h; exact ⟨σ', H', I.unmarked ok, q⟩
  | brk => obtain ⟨σ', H', I, q⟩ := h; exact ⟨σ', H', I.unmarked ok, q⟩
  | cont => obtain ⟨σ', H', I, q⟩ := h; exact ⟨σ', H', I.unmarked ok, q⟩
  | ret u => obtain ⟨v, σ', H', I, r, q⟩ := h; exact ⟨v, σ', H', I.unmarked ok, r, q⟩
/-- an exception has come out of a call -/
def Cat (X : Cx) (pins : List (Addr × Obj)) (σ : St) (E : XK) (e : Value) (s' : Shared) : Prop := ∃ H1 s1, Inv X pins σ H1 s1 ∧ CX1 X.prog X.w X.stack H1 s1 E e s'
theorem call_cat {k : Nat} {f : Addr} {fd : FuncData} {ps : List Str} {sp : Sp} {x : Str} {p pos : Pos} {e : Expr} {es : List Expr} {t : TA} {Q : VK} {E : XK} (F : FnOk X.prog X.w X.K X.mg X.base (CX1 X.prog X.w) k f fd ps sp) (hr : Room k X.A) (hg : Gl X x) (hm : X.mg x = some (.ref f))
    (hk : PySem.W.keepIn X.K (.ref f) = true) (hb : Binds X.K fd ps []) (ha : PA X.nox (e :: es) t) (I : Inv X pins σ H s) (h : t σ H fun vs H1 => sp vs H1 Q E) (hdb : (x == ("__debug__" : Str)) = false)
    (he : starEach (e :: es) X.env = (false, eval e X.env) :: starEach es X.env) (hpl : (backTo pos (starEach es X.env)).any (·.1) = false) :
    wpAny (model X.prog X.w) X.A (eval (.Call (.Name x p) (e :: es) [] pos) X.env) (EP X pins σ Q) (Cat X pins σ E) s := by
  refine wpAny_Call_Name_kw (ld_glob I hg hm ?_ hdb)
  refine PySem.W.callWith_K (h₀ := X.base) I.ok.mod.kin hk (wpAny_mono (ha pos pins s σ H _ (I.wish _) h) (fun us s1 h1 => ?_) fun _ _ z => z.elim) he hpl
  obtain ⟨vs, H1, I1', r, q⟩ := h1
  have I1 : Inv X pins σ H1 s1 := I1'.unwish
  refine ⟨I1.kIn, ?_⟩
  have hl : us.length = ps.length := by rw [← r.length]; exact F.len _ _ _ _ q
  have hb' := hb s1 us I1.kIn (by rw [List.append_nil]; exact hl)
  rw [List.append_nil] at hb'
  refine wpAny_call (codeAny_mono (F.run X.A X.stack s1 H1 ⟨us, []⟩ us vs Q E hr I1.env0 hb' r q) fun r s' hq => ?_)
  cases r with
  | error e => exact ⟨H1, s1, I1, hq⟩
  | ok fl =>
    cases fl with
    | ret u => exact I1.after hq
    | next => exact False.elim hq
    | brk => exact False.elim hq
    | cont => exact False.elim hq
end
/-- a def whose exceptions lie so -/
theorem Fun.okX {P : Program} {w : World} {K : PySem.W.Frag} {mg : Str → Option Value} {base : Heap} {x qual : Str} {st : Stmt} {f : Addr} {fd : FuncData} {N ps : List Str} {k : Nat} {sp : Sp} (F : Fun K x qual st f fd) (S : FnScope N ps (defScope st)) (len : ∀ vs H Q E, sp vs H Q E → vs.length = ps.length)
    (hbody : ∀ (cdv : Value) (A : Around) (outer : List Env) (s : Shared) (H : Hp) (vs : List V) (Q : VK) (E : XK), Room k (A.deeper (envOfC qual (defScope st) s.heap.objs.size f cdv)) → sp vs H Q E →
      ∃ t, PSs (cxOf (CX1 P w) P w K mg base N qual (defScope st) f cdv A outer s H E) (defBody st) t ∧ t { nx := fun _ H' => Q .non H', rt := Q } (start N vs) H) : FnOk P w K mg base (CX1 P w) (k + 1) f fd ps sp := by
  obtain ⟨oc, od, kV, doc, pm, an, cdv, ct, osl, rfl, lk, hcd⟩ := F.ex
  exact fn_of lk hcd S len fun A outer s H vs Q E hr hsp => hbody cdv A outer s H vs Q E hr hsp
end L2

set_option Elab.async false
set_option linter.all false
set_option maxRecDepth 100000
set_option maxHeartbeats 4000000
namespace L2
open PySem PySem.Spec PyProof.Rows
/-! ### any text read as a line -/
def partOf (n : Nat) : Kd → Str → Option Pt
  | .words, z => some (.s z)
  | .box, z => if z ∈ BX then some (.s z) else none
  | .line, z => ((List.range n).find? fun i : Nat => decide ((toString (1 + (i : Int)) : Str) = z)).map fun i : Nat => .n (1 + (i : Int))
def partsOf (n : Nat) : List Kd → List Str → Option (List Pt)
  | [], _ => some []
  | k :: ks, z :: zs => match partOf n k z, partsOf n ks zs with
    | some p, some ps => some (p :: ps)
    | _, _ => none
  | _ :: _, [] => none
def formOf (w : Str) : Option (List Kd) := (FRM.find? fun x => decide (x.1 = w)).map (·.2)
def pcs (ks : List Kd) (z : Str) : List Str := spl (if Kd.words ∈ ks then ks.length else z.length + 1) z
def rowOf (n : Nat) (z : Str) : Option Rw :=
  if okText z = true then match formOf (hd z) with
    | none => none
    | some ks => if (pcs ks z).length = 1 + ks.length then (partsOf n ks ((pcs ks z).drop 1)).map fun l => (hd z, l) else none
  else none
theorem formOf_mem {w : Str} {ks : List Kd} (h : formOf w = some ks) : (w, ks) ∈ FRM := by
  unfold formOf at h
  cases e : FRM.find? fun x => decide (x.1 = w) with
  | none => rw [e] at h; cases h
  | some x =>
    rw [e] at h
    have hp := List.find?_some e
    have hm := List.mem_of_find?_eq_some e
    cases h
    have : x.1 = w := of_decide_eq_true hp
    subst this
    exact hm
theorem formOf_none {w : Str} (h : formOf w = none) : ∀ x ∈ FRM, x.1 ≠ w := by
  unfold formOf at h
  rw [Option.map_eq_none_iff, List.find?_eq_none] at h
  intro x hx e
  exact h x hx (decide_eq_true e)
theorem partOf_ok {n m : Nat} {k : Kd} {z : Str} {p : Pt} (hz : z.length ≤ m) (ha : z.cps.toList.all okSign = true) (h : partOf n k z = some p) : ptOk n m k p ∧ p.t = z := by
  cases k with
  | words => cases h; exact ⟨⟨hz, ha⟩, rfl⟩
  | box =>
    simp only [partOf] at h
    by_cases hb : z ∈ BX
    · rw [if_pos hb] at h
      cases h
      exact ⟨hb, rfl⟩
    · rw [if_neg hb] at h
      cases h
  | line =>
    simp only [partOf] at h
    cases e : (List.range n).find? fun i : Nat => decide ((toString (1 + (i : Int)) : Str) = z) with
    | none => rw [e] at h; cases h
    | some i =>
      rw [e] at h
      cases h
      have h1 := List.find?_some e
      have h2 := List.mem_range.mp (List.mem_of_find?_eq_some e)
      exact ⟨⟨by omega, by omega⟩, of_decide_eq_true h1⟩
theorem partsOf_ok {n m : Nat} : ∀ {ks : List Kd} {zs : List Str} {ps : List Pt}, (∀ z ∈ zs, z.length ≤ m ∧ z.cps.toList.all okSign = true) → zs.length = ks.length → partsOf n ks zs = some ps → ptsOk n m ks ps ∧ ps.map Pt.t = zs
  | [], [], ps, _, _, h => by cases h; exact ⟨trivial, rfl⟩
  | [], _ :: _, _, _, hl, _ => by simp at hl
  | _ :: _, [], _, _, hl, _ => by simp at hl
  | k :: ks, z :: zs, ps, hz, hl, h => by
    unfold partsOf at h
    split at h
    · rename_i p qs h1 h2
      cases h
      obtain ⟨a1, a2⟩ := partOf_ok (hz z List.mem_cons_self).1 (hz z List.mem_cons_self).2 h1
      obtain ⟨b1, b2⟩ := partsOf_ok (fun y hy => hz y (List.mem_cons_of_mem _ hy)) (by simpa using hl) h2
      exact ⟨⟨a1, b1⟩, by rw [List.map_cons, a2, b2]⟩
    · cases h
/-! pieces joined are the text -/
def joinL : List (List Nat) → List Nat
  | [] => []
  | [x] => x
  | x :: y :: r => x ++ 32 :: joinL (y :: r)
theorem joinL_cons (x : List Nat) {q : List (List Nat)} (hq : q ≠ []) : joinL (x :: q) = x ++ 32 :: joinL q := by
  cases q with
  | nil => exact absurd rfl hq
  | cons y r => rfl
theorem cut_join : ∀ (n : Nat) (L : List Nat), joinL (cutL 32 n L) = L
  | 0, L => by simp [cutL, joinL]
  | n + 1, [] => by simp [cutL, joinL]
  | n + 1, a :: r => by
    by_cases h : a = 32
    · have ih := cut_join n r
      obtain ⟨p, q, e⟩ := cutL_ne 32 n r
      rw [cutL, if_pos h, joinL_cons [] (by rw [e]; simp), ih, h]
      rfl
    · have ih := cut_join (n + 1) r
      obtain ⟨p, q, e⟩ := cutL_ne 32 (n + 1) r
      rw [e] at ih
      simp only [cutL, if_neg h, e]
      cases q with
      | nil => simp only [joinL] at ih ⊢; rw [ih]
      | cons y t =>
        simp only [joinL] at ih ⊢
        rw [List.cons_append, ih]
theorem join_ofL : ∀ l : List (List Nat), (Str.join " " (l.map ofL)).cps.toList = joinL l
  | [] => rfl
  | [x] => by show (ofL x).cps.toList = x; unfold ofL; simp
  | x :: y :: r => by
    have ih := join_ofL (y :: r)
    show (Str.join " " (ofL x :: ofL y :: r.map ofL)).cps.toList = _
    rw [join_list]
    have e : (ofL x).cps.toList = x := by unfold ofL; simp
    rw [e]
    show x ++ 32 :: (Str.join " " ((y :: r).map ofL)).cps.toList = _
    rw [ih]
    rfl
theorem spl_back (n : Nat) (z : Str) : Str.join " " (spl n z) = z := by
  unfold spl
  have h := join_ofL (cutL 32 n z.cps.toList)
  rw [cut_join] at h
  rw [← ofL_list (Str.join " " ((cutL 32 n z.cps.toList).map ofL)), h, ofL_list]
theorem cut_head : ∀ (n : Nat) (L : List Nat), ∃ q, cutL 32 (n + 1) L = headL 32 L :: q
  | n, [] => ⟨[], by simp [cutL, headL]⟩
  | n, a :: r => by
    by_cases h : a = 32
    · exact ⟨cutL 32 n r, by simp [cutL, headL, h]⟩
    · obtain ⟨q, e⟩ := cut_head n r
      exact ⟨q, by simp only [cutL, if_neg h, e, headL]⟩
theorem spl_head (n : Nat) (z : Str) : ∃ q, spl (n + 1) z = hd z :: q := by
  obtain ⟨q, e⟩ := cut_head n z.cps.toList
  exact ⟨q.map ofL, by unfold spl hd; rw [e]; rfl⟩
/-- pieces of a right text are right, and no longer -/
theorem cut_sub : ∀ (n : Nat) (L : List Nat), ∀ p ∈ cutL 32 n L, p.length ≤ L.length ∧ ∀ c ∈ p, c ∈ L
  | 0, L => fun p hp => by
    simp [cutL] at hp
    subst hp
    exact ⟨Nat.le_refl _, fun c hc => hc⟩
  | n + 1, [] => fun p hp => by
    simp [cutL] at hp
    subst hp
    exact ⟨Nat.le_refl _, fun c hc => hc⟩
  | n + 1, a :: r => fun p hp => by
    by_cases h : a = 32
    · rw [cutL, if_pos h] at hp
      rcases List.mem_cons.mp hp with rfl | hp
      · exact ⟨Nat.zero_le _, fun c hc => by simp at hc⟩
      · obtain ⟨h1, h2⟩ := cut_sub n r p hp
        exact ⟨by simp; omega, fun c hc => List.mem_cons_of_mem _ (h2 c hc)⟩
    · obtain ⟨p0, q, e⟩ := cutL_ne 32 (n + 1) r
      have ih := cut_sub (n + 1) r
      rw [e] at ih
      simp only [cutL, if_neg h, e] at hp
      rcases List.mem_cons.mp hp with rfl | hp
      · obtain ⟨h1, h2⟩ := ih p0 List.mem_cons_self
        refine ⟨by simp; omega, fun c hc => ?_⟩
        rcases List.mem_cons.mp hc with rfl | hc
        · exact List.mem_cons_self
        · exact List.mem_cons_of_mem _ (h2 c hc)
      · obtain ⟨h1, h2⟩ := ih p (List.mem_cons_of_mem _ hp)
        exact ⟨by simp; omega, fun c hc => List.mem_cons_of_mem _ (h2 c hc)⟩
theorem spl_ok {n m : Nat} {z : Str} (hz : z.length ≤ m) (ha : z.cps.toList.all okSign = true) : ∀ p ∈ spl n z, p.length ≤ m ∧ p.cps.toList.all okSign = true := by
  intro p hp
  obtain ⟨q, hq, rfl⟩ := List.mem_map.mp hp
  obtain ⟨h1, h2⟩ := cut_sub n z.cps.toList q hq
  have e : (ofL q).cps.toList = q := by unfold ofL; simp
  refine ⟨?_, ?_⟩
  · have : (ofL q).length = q.length := by unfold ofL Str.length; simp
    rw [this]
    have : z.cps.toList.length = z.length := by simp [Str.length]
    omega
  · rw [e, List.all_eq_true]
    intro c hc
    exact List.all_eq_true.mp ha c (h2 c hc)
/-- what is read is written so -/
theorem rowOf_ok {n : Nat} {z : Str} {r : Rw} (h : rowOf n z = some r) : RowOk n 300 r ∧ lineOf r = z := by
  unfold rowOf at h
  split at h
  · rename_i ht
    have ht' := ht
    unfold okText at ht'
    rw [Bool.and_eq_true, decide_eq_true_eq] at ht'
    split at h
    · cases h
    · rename_i ks hk
      split at h
      · rename_i hl
        cases e : partsOf n ks ((pcs ks z).drop 1) with
        | none => rw [e] at h; cases h
        | some l =>
          rw [e] at h
          cases h
          have hm := formOf_mem hk
          have hsp : ∀ p ∈ (pcs ks z).drop 1, p.length ≤ 300 ∧ p.cps.toList.all okSign = true := fun p hp => spl_ok ht'.1 ht'.2 p (List.mem_of_mem_drop hp)
          obtain ⟨a1, a2⟩ := partsOf_ok hsp (by rw [List.length_drop, hl]; omega) e
          refine ⟨⟨ks, hm, a1⟩, ?_⟩
          have hne : ∃ j, (if Kd.words ∈ ks then ks.length else z.length + 1) = j + 1 := by
            split
            · rename_i hw
              exact ⟨ks.length - 1, by have := List.length_pos_iff.mpr (fun e => by rw [e] at hw; simp at hw : ks ≠ []); omega⟩
            · exact ⟨z.length, rfl⟩
          obtain ⟨j, hj⟩ := hne
          obtain ⟨q, hq⟩ := spl_head j z
          have hp : pcs ks z = hd z :: q := by unfold pcs; rw [hj]; exact hq
          have hb : Str.join " " (pcs ks z) = z := spl_back _ z
          show Str.join " " (hd z :: l.map Pt.t) = z
          rw [a2]
          rw [hp] at hb ⊢
          exact hb
      · cases h
  · cases h
end L2

set_option Elab.async false
set_option linter.all false
set_option maxRecDepth 100000
set_option maxHeartbeats 4000000
namespace PySem.AwM
open PySem.AutoSeq1 PySem.MeetsSeq PySem.MeetsSeq3
end PySem.AwM
namespace L2
open PySem PySem.Spec PyProof.Rows
section
variable {X : Cx}
end
end L2
namespace HT
open PySem PyProof.Rows
section
variable {prog : Program} {w : World} {A : Around} {E : Value → Shared → Prop} {s : Shared}
/-- a slice that is the whole tuple -/
theorem getItem_tuple_all {t sl : Addr} {items : Array Value} {vl vu : Value} {lo hi : Option Int} {Q : Value → Shared → Prop} (ht : IsTup s.heap t items) (hs : s.heap.IsSliceOf sl vl vu .none) (pl : IsPart vl lo) (pu : IsPart vu hi)
    (hw : sIx items.size 0 lo = 0 ∧ sIx items.size items.size hi = items.size) (h : Q (.ref t) s) : wpAny (model prog w) A (getItem (.ref t) (.ref sl)) Q E s := by
  obtain ⟨os, hos, hcs, hds⟩ := id hs
  have hTs : s.TypeIs (.ref sl) "slice" := ⟨os, hos, hcs⟩
  unfold getItem
  try with_reducible refine wpAny_holding ?_
  first | refine wpAny_bind (wpAny_pure ?_) | skip
  refine wpAny_bind (wpAny_sequenceKey ht.typeIs (by decide) ?_)
  refine wpAny_bind (wpAny_callSpecial?_slot (name := Str.ofString "__getitem__") ht.typeIs PyProof.Rows.slot_tuple_getitem
    (wpAny_call_entry PyProof.Rows.slot_tuple_getitem ht.typeIs entry_tuple_getitem ?_ (args_tuple_getitem _ _)))
  show wpAny _ _ (Builtin.Tuple.tupleItemsOf (.ref t) >>= _) _ _ s
  refine wpAny_bind (tupleItemsOf_ ht ?_)
  refine wpAny_bind (wpAny_typeOf hTs ?_)
  rw [if_pos (by decide)]
  refine wpAny_bind (sliceApplied_gen hs pl pu ?_)
  have hyes : ((((sIx items.size 0 lo : Nat) : Int) == 0 && (1 : Int) == 1 && (sIx items.size items.size hi - sIx items.size 0 lo) == items.size) = true) := by
    rw [hw.1, hw.2]
    simp
  show wpAny _ _ (if (((sIx items.size 0 lo : Nat) : Int) == 0 && (1 : Int) == 1 && (sIx items.size items.size hi - sIx items.size 0 lo) == items.size) = true then _ else _) _ _ s
  rw [if_pos hyes]
  unfold Builtin.Tuple.tupleIsExact
  refine wpAny_bind (wpAny_bind (wpAny_typeOf ht.typeIs (wpAny_pure ?_)))
  rw [if_pos (by decide)]
  exact wpAny_bind (wpAny_rule (wpAny_pure ⟨_, rfl, wpAny_pure h⟩))
end
end HT
namespace L2
open PySem PySem.Spec PyProof.Rows
section
variable {X : Cx}
/-- t[lo:hi], whatever it is -/
def rSlG (K : PySem.W.Frag) : V → Option Int → Option Int → Hp → VK → Prop := fun x lo hi H Q => ∃ a xs, x = .ref a ∧ SqT K H a xs ∧
  (HT.sIx xs.length 0 lo = 0 ∧ HT.sIx xs.length xs.length hi = xs.length → Q (.ref a) H) ∧
  (¬ (HT.sIx xs.length 0 lo = 0 ∧ HT.sIx xs.length xs.length hi = xs.length) → ∀ p, H p = none → Q (.ref p) (upd H p (.tup (cutV xs lo hi))))
theorem sl_tupG : SlR X (rSlG X.K) := by
  intro pins s σ H x v vl vu lo hi sl Q I rx hs pl pu h
  obtain ⟨a, xs, rfl, hx, q1, q2⟩ := h
  by_cases hw : HT.sIx xs.length 0 lo = 0 ∧ HT.sIx xs.length xs.length hi = xs.length
  · cases rx
    obtain ⟨its, r, ht, hz⟩ := I.tuple hx
    have hlen : its.toArray.size = xs.length := by rw [List.size_toArray]; exact r.length.symm
    refine ⟨"tuple", _, PyProof.Rows.slot_tuple_getitem.lookup, ht.typeIs, ?_⟩
    exact HT.getItem_tuple_all ht hs pl pu (by rw [hlen]; exact hw) ⟨.ref a, H, I, rfl, q1 hw⟩
  · exact sl_tup pins s σ H (.ref a) v vl vu lo hi sl Q I rx hs pl pu ⟨a, xs, rfl, hx, hw, q2 hw⟩
/-- xs.insert(i, y), i within -/
def rInsert : V → List V → Hp → VK → Prop := fun x vs H Q => ∃ (l : Addr) (xs : List V) (i : Nat) (y : V), x = .ref l ∧ vs = [.int (i : Int), y] ∧ H l = some (.lst xs) ∧ i ≤ xs.length ∧ xs.length + 1 ≤ 1000 ∧ Q .non (upd H l (.lst (xs.take i ++ y :: xs.drop i)))
theorem mt_insert : MtM X "list.insert" rInsert := by
  intro pins s σ H x vs v us Q I rx rv h
  obtain ⟨l, xs, i, y, rfl, rfl, hH, hi, hz, q⟩ := h
  cases rx
  obtain ⟨u, u2, rfl, ⟨t, rfl⟩, ry⟩ := vals2 rv
  obtain ⟨z, its, n, r, hl, e⟩ := I.lstM hH
  obtain ⟨x, hx⟩ : ∃ x : Int, x = (i : Int) := ⟨_, rfl⟩
  rw [← hx]
  have hfit : ¬ (!Builtin.List.listFitsIndex x) = true := by
    unfold Builtin.List.listFitsIndex
    simp
    omega
  have hs1 : its.toArray.size ≤ sizeLine := by rw [List.size_toArray]; omega
  have g := @PySem.AutoSeq1.list_insert_list_int_val_1 l its.toArray n x t u2 hfit hs1
  refine call_meets F.slot_list_insert ⟨_, e, rfl⟩ F.entry_list_insert (F.args_list_insert_3 _ _ _) g ⟨e, ?_⟩
  refine ⟨.non, _, I.lset (its' := its.take i ++ u2 :: its.drop i) hH e ?_ ((r.take i).append (.cons ry (r.drop i))) ?_, rfl, q⟩
  · have hk : (if x < 0 then (x + ((its.toArray.size : Nat) : Int)).toNat else min x.toNat its.toArray.size) = i := by
      rw [if_neg (by omega), List.size_toArray]
      omega
    show (its.toArray.extract 0 (if x < 0 then (x + ((its.toArray.size : Nat) : Int)).toNat else min x.toNat its.toArray.size)).push u2 ++ its.toArray.extract (if x < 0 then (x + ((its.toArray.size : Nat) : Int)).toNat else min x.toNat its.toArray.size) = _
    rw [hk]
    apply Array.toList_inj.mp
    simp
    exact List.take_of_length_le (by rw [List.length_drop]; exact Nat.le_refl _)
  · rw [List.length_append, List.length_cons, List.length_take, List.length_drop]
    rw [sizeLine_eq]
    omega
end
end L2


set_option Elab.async false
set_option linter.all false
set_option maxRecDepth 100000
set_option maxHeartbeats 4000000
namespace L2
open PySem PySem.Spec PyProof.Rows
/-! ### except C as e: the exception is a thing of its own from then on -/
def ExcO (a C : Addr) : HO := .ext fun h => ∃ o, h.get? a = some o ∧ o.cls = .ref C ∧ PySem.W.notCls o = true
theorem ExcO.ok {P : Program} {w : World} {H : Hp} {h : Heap} {a C : Addr} {o : Obj} (e : h.get? a = some o) (c : o.cls = .ref C) (n : PySem.W.notCls o = true) : ObjOk P w H h a (ExcO a C) :=
  ⟨⟨o, e, c, n⟩, ⟨o, e⟩, fun _ _ ⟨o, e, c, n⟩ k => ⟨o, k o e, c, n⟩⟩
theorem ObjOk.here {P : Program} {w : World} {H : Hp} {h : Heap} {a : Addr} {o : HO} (x : ObjOk P w H h a o) : ∃ u, h.get? a = some u := by
  cases o with
  | lst xs => obtain ⟨_, _, _, _, e⟩ := x; exact ⟨_, e⟩
  | tup xs => obtain ⟨_, _, _, u, e, _⟩ := x; exact ⟨_, e⟩
  | dK kvs => obtain ⟨_, _, _, _, u, _, _, e, _⟩ := x; exact ⟨_, e⟩
  | dT kvs => obtain ⟨_, _, _, _, u, _, _, e, _⟩ := x; exact ⟨_, e⟩
  | set S n => obtain ⟨u, _, _, _, e, _⟩ := x; exact ⟨_, e⟩
  | ins C dx fs => obtain ⟨_, _, _, e, _⟩ := x; exact ⟨_, e⟩
  | own y => exact x
  | xd fs => obtain ⟨_, ⟨_, _, _, e, _⟩, _⟩ := x; exact ⟨_, e⟩
  | rng lo hi => obtain ⟨_, _, _, e⟩ := x; exact ⟨_, e⟩
  | frz ob u => obtain ⟨e, _⟩ := x; exact ⟨_, e⟩
  | tbl ps => exact ⟨_, show h.get? a = some _ from x⟩
  | met f y => exact ⟨_, show h.get? a = some _ from x⟩
  | ext φ => obtain ⟨_, q, _⟩ := x; exact q
/-- what is wanted behind a suite whose name goes -/
def Ends.less (D : Ends) (i : Nat) : Ends := { nx := fun σ H => D.nx (σ.set i none) H, rt := D.rt, bk := fun σ H => D.bk (σ.set i none) H, ct := fun σ H => D.ct (σ.set i none) H }
section
variable {X : Cx} {pins : List (Addr × Obj)} {σ : St} {H : Hp} {s : Shared}
/-- the name of a handler goes -/
theorem name_goes {M : Model} {A : Around} {E : Value → Shared → Prop} {i : Nat} {x : Str} {pos : Pos} {Q : Unit → Shared → Prop} (I : Inv X pins σ H s) (hN : X.N.Nodup) (hi : X.N[i]? = some x) (hx : X.env.scope.names.lookup x = some .local)
    (h : ∀ s', Inv X pins (σ.set i none) H s' → Q () s') : wpAny M A (do bindName X.env x .none; unbindBehindTheSuite X.env x pos) Q E s := by
  have hk : X.env.kindOf x = some .local := hx
  have hcls : (X.env.scope.kind == .class || (X.env.scope.kind == .module && X.env.locals != X.env.globals)) = false := by rw [I.ok.kind]; rfl
  have hiσ : i < σ.length := by rw [I.len]; exact (List.getElem?_eq_some_iff.mp hi).1
  refine wpAny_bind (wpAny_bindName (store_ok (v := .non) I hN hi (.inl hx) rfl (fun s1 I1 => ?_) (.inr hx)))
  obtain ⟨m, hn, hl⟩ := id I1.loc
  have hsome : (m x).isSome = true := by
    obtain ⟨u, ru, q⟩ := hl i x .non hi (by rw [List.getElem?_set_self hiσ]) (.inl hx)
    rcases q with ⟨_, e⟩ | ⟨k, _⟩
    · rw [e]; rfl
    · rw [hk] at k
      rcases k with k | k <;> cases k
  unfold unbindBehindTheSuite
  refine wpAny_onRaise ?_
  unfold unbindName
  refine wpAny_bind (wpAny_point (wpAny_bind ?_))
  unfold deleteName
  simp only [hk, hcls]
  rw [if_neg (by decide)]
  refine wpAny_bind (wpAny_nsDel_keeps hn fun h2 v hn2 hs2 => ?_)
  rw [hsome]
  simp only [if_true, Bool.not_true, Bool.false_eq_true, if_false]
  have cne := I1.cne
  have ok2 : HOk X.prog X.w H h2 := HOk.sameBut I1.hok I1.free hs2
  have I2 : Inv X pins (σ.set i none) H { s1 with heap := h2 } := by
    refine ⟨I1.ok, I1.os, I1.bare, ⟨fun b o e n hb hx => ?_, fun b o e n hb hx => ?_, I1.base.free, fun b o e hx => ?_, I1.base.tups, I1.base.frzs, I1.base.tbls⟩, ⟨_, hn2, fun j y v' e1 e2 e3 => ?_⟩, fun y c e => ?_, I1.free, I1.freeC, fun p hp => ?_, ok2, by rw [List.length_set]; exact I.len⟩
    · exact (hs2.2 b (Nat.ne_of_lt (Nat.lt_of_lt_of_le (Heap.lt_size e) I1.ok.above))).trans (I1.base.keep b o e n hb hx)
    · obtain ⟨sl, e1⟩ := I1.base.slot b o e n hb hx
      exact ⟨sl, (hs2.2 b (Nat.ne_of_lt (Nat.lt_of_lt_of_le (Heap.lt_size e) I1.ok.above))).trans e1⟩
    · obtain ⟨o', e1⟩ := I1.base.there b o e hx
      exact ⟨o', (hs2.2 b (Nat.ne_of_lt (Nat.lt_of_lt_of_le (Heap.lt_size e) I1.ok.above))).trans e1⟩
    · by_cases hj : j = i
      · subst hj
        rw [List.getElem?_set_self hiσ] at e2
        cases e2
      · rw [List.getElem?_set_ne (Ne.symm hj)] at e2
        obtain ⟨u', r', q⟩ := hl j y v' e1 (by rw [List.getElem?_set_ne (Ne.symm hj)]; exact e2) e3
        refine ⟨u', r', ?_⟩
        rcases q with ⟨k, e⟩ | ⟨k, c, e, z⟩
        · refine .inl ⟨k, ?_⟩
          have hne : y ≠ x := fun e => hj (nodup_ix hN e1 (e ▸ hi))
          simp [hne, e]
        · exact .inr ⟨k, c, e, z.sameBut hs2 (cne y c e)⟩
    · obtain ⟨w', z⟩ := I1.cell y c e
      exact ⟨w', z.sameBut hs2 (cne y c e)⟩
    · obtain ⟨e, n, ne, nf, d⟩ := I1.pin p hp
      exact ⟨(hs2.2 p.1 ne).trans e, n, ne, nf, d⟩
  exact wpAny_pure (wpAny_point (h _ I2))
/-- an exception is caught and named -/
theorem catch_as {D : Ends} {e : Value} {s' : Shared} {c n : Str} {i : Nat} {np hpos : Pos} {C' : Addr} {b₀ : Stmt} {suite : List Stmt} {ts : TS}
    (hcx : Cat X pins σ (fun v C H2 => ∃ Cc, C = some Cc ∧ PySem.W.exmOne X.K (.ref Cc) (.ref C') = some true ∧ ∀ ea, v = .ref ea → H2 ea = none → ts (D.less i) (σ.set i (some (.ref ea))) (upd H2 ea (ExcO ea Cc))) e s') (hown : X.stack = X.env :: X.outer ∧ X.env.frame = some X.env.locals)
    (hg : Gl X c) (hm : X.mg c = some (.ref C')) (hN : X.N.Nodup) (hi : X.N[i]? = some n) (hn : X.env.scope.names.lookup n = some .local) (hs : ∀ ee xe, PSs (X.marked ee xe) (b₀ :: suite) ts) (hdb : (c == ("__debug__" : Str)) = false) :
    wpAny (model X.prog X.w) X.A (noteFrame e X.env) (fun _ s2 => wpAny (model X.prog X.w) X.A (setFlight e none) (fun _ s3 => wpAny (model X.prog X.w) X.A (handleBy e X.env [.ExceptHandler (some (.Name c np)) (some n) (b₀ :: suite) hpos]) (SP X pins D) X.xe s3) X.xe s2) X.xe s' := by
  obtain ⟨H1, s1, I, ea, Cc, a0, H', B, rfl, hos, hbare, hun, hokB, hfly, hold, C2, hC, hx, hts⟩ := hcx
  cases hC
  -- the exception is no thing of before
  have hea : H' ea = none := by
    cases q : H' ea with
    | none => rfl
    | some u =>
      obtain ⟨o, z⟩ := (hokB ea u q).here
      rw [hfly.2.1] at z
      cases z
  have hts := hts ea rfl hea
  have nd : ∀ b ∈ frs X.stack, ∀ o, s'.heap.get? b = some o → ∀ vs, o.data ≠ .fields vs := fun b hb o e => by
    obtain ⟨_, o', e', hn⟩ := hfly.2.2.1.mem (show b ∈ X.stack.filterMap (·.frame) from hb)
    rw [e] at e'
    cases e'
    exact hn
  have heas : ∀ o, s1.heap.get? ea = some o → False := fun o z => by
    by_cases hb : ea ∈ frs X.stack
    · obtain ⟨_, _, _, oe, vs, _, _, _, he, _, hd, _⟩ := hfly
      exact nd ea hb oe he vs hd
    · obtain ⟨o', q⟩ := hold ea o z hb
      rw [hfly.2.1] at q
      cases q
  have step : ∀ hk, B.StaysIn hk → s'.heap.UpToSlots hk → (∃ o, hk.get? ea = some o ∧ o.cls = .ref Cc ∧ PySem.W.notCls o = true) → Inv X pins σ (upd H' ea (ExcO ea Cc)) { s' with heap := hk } := by
    intro hk hB hU ⟨oe, he, hc, hnc⟩
    have inB : ∀ b o o', B.get? b = some o' → s'.heap.get? b = some o → hk.get? b = some o := fun b o o' e1 e2 => by
      have := hfly.1 b o' e1
      rw [e2] at this
      cases this
      exact hB b o e1
    have hbe : ∀ b o, s1.heap.get? b = some o → b ≠ ea := fun b o e z => heas o (z ▸ e)
    have hok2 : HOk X.prog X.w (upd H' ea (ExcO ea Cc)) hk := fun b u e => by
      by_cases z : b = ea
      · subst z
        rw [upd_same] at e
        cases e
        exact ExcO.ok he hc hnc
      · rw [upd_ne z] at e
        have keepH : ∀ c u, H' c = some u → upd H' ea (ExcO ea Cc) c = some u := fun c u q => by rw [upd_ne (ne_of_none q hea)]; exact q
        exact (hokB b u e).stay (fun c v _ q => hB c v q) (fun c q => keepH c _ q) fun c xs q => keepH c _ q
    have hT : ∀ b u, H' b = some u → upd H' ea (ExcO ea Cc) b = some u := fun b u q => by rw [upd_ne (ne_of_none q hea)]; exact q
    refine I.call' (s' := { s' with heap := hk }) (ch := []) hos ⟨?_, ?_, ?_, ?_, fun b xs q => hT b _ (hun.tups b xs q), fun b o u q => hT b _ (hun.frzs b o u q), fun b ps q => ?_⟩ hok2 hbare (fun b z => by simp at z)
    · intro b o e1 hn hb hx'
      obtain ⟨o', e2⟩ := hold b o e1 hb
      exact inB b o o' e2 (hun.keep b o e1 hn hb hx')
    · intro b o e1 hn hb hx'
      obtain ⟨sl, e2⟩ := hun.slot b o e1 hn hb hx'
      obtain ⟨sl2, e3⟩ := hU b _ e2 (nd b hb _ e2)
      exact ⟨sl2, e3⟩
    · intro b o e1 hn hx'
      rw [upd_ne (hbe b o e1)]
      exact hun.free b o e1 hn hx'
    · intro b o e1 hx'
      by_cases hb : b ∈ frs X.stack
      · obtain ⟨o', e2⟩ := hun.there b o e1 hx'
        obtain ⟨sl2, e3⟩ := hU b _ e2 (nd b hb _ e2)
        exact ⟨_, e3⟩
      · obtain ⟨o', e2⟩ := hold b o e1 hb
        exact ⟨o', hB b o' e2⟩
    · obtain ⟨more, q2⟩ := hun.tbls b ps q
      exact ⟨more, hT b _ q2⟩
  have isE : ∀ {l : List Env} {hk : Heap}, Heap.FlyingW B l ea (.ref Cc) a0 hk → ∃ o, hk.get? ea = some o ∧ o.cls = .ref Cc ∧ PySem.W.notCls o = true := fun f => by
    obtain ⟨_, _, _, oe, vs, _, _, _, he, hc, hd, _⟩ := f
    exact ⟨oe, he, hc.1, by unfold PySem.W.notCls; rw [hd]⟩
  rw [hown.1] at hfly
  have hfr : X.A.frames = some (X.env :: X.outer) := by rw [I.ok.frames, hown.1]
  refine wpAny_looks_onW (base := B) hfr hown.2 hfly fun h1 hheld hup1 => ?_
  refine wpAny_landsW hheld fun h2 hfly2 hup2 => ?_
  have I2 := step h2 hfly2.1 (hup1.trans hup2) (isE hfly2)
  refine wpAny_handleBy_cons (codeAny_handlers_test ?_) (by intro q; cases q)
  refine ld_glob (X := X.marked ea X.xe) I2.marked hg hm ?_ hdb
  obtain ⟨oe, he, hcls⟩ := hfly2.there
  have LT : PySem.W.Looks (model X.prog X.w) h2 (typeOf (.ref ea)) (.ref Cc) := hcls ▸ (PySem.W.Looks.ld he).andThen .now
  refine PySem.W.exm_one I2.kIn LT hx _ _ _ _ (fun b o e => e) ?_
  refine codeAny_handlers_suite_as (lands_againW hfly2 fun h3 hfly3 hup3 => ?_)
  have I3 := step h3 hfly3.1 ((hup1.trans hup2).trans hup3) (isE hfly3)
  refine store_ok (v := .ref ea) I3 hN hi (.inl hn) rfl (fun s4 I4 => ?_) (.inr hn)
  refine wpAny_mono (hs ea _ pins _ _ _ (D.less i) I4.marked hts) (fun f s5 h5 => ?_) fun _ _ z => z
  have h5 := h5.unmarked I.ok
  cases f with
  | next => obtain ⟨σ', H5, I5, q⟩ := h5; exact name_goes I5 hN hi hn fun s6 I6 => ⟨_, H5, I6, q⟩
  | brk => obtain ⟨σ', H5, I5, q⟩ := h5; exact name_goes I5 hN hi hn fun s6 I6 => ⟨_, H5, I6, q⟩
  | cont => obtain ⟨σ', H5, I5, q⟩ := h5; exact name_goes I5 hN hi hn fun s6 I6 => ⟨_, H5, I6, q⟩
  | ret u => obtain ⟨v, σ', H5, I5, r, q⟩ := h5; exact name_goes I5 hN hi hn fun s6 I6 => ⟨v, _, H5, I6, r, q⟩
/-- try: f(e, ..); except C as n: suite -/
def tTryEA (K : PySem.W.Frag) (sp : Sp) (t : TA) (i : Nat) (C' : Addr) (ts : TS) : TS := fun D σ H => t σ H fun vs H1 => sp vs H1 (fun _ H2 => D.nx σ H2) (fun v C H2 => ∃ Cc, C = some Cc ∧ PySem.W.exmOne K (.ref Cc) (.ref C') = some true ∧ ∀ ea, v = .ref ea → H2 ea = none → ts (D.less i) (σ.set i (some (.ref ea))) (upd H2 ea (ExcO ea Cc)))
theorem ps_tryEA {i k : Nat} {f : Addr} {fd : FuncData} {ps : List Str} {sp : Sp} {x c n : Str} {p np cpos epos hpos pos : Pos} {e : Expr} {es : List Expr} {t : TA} {C' : Addr} {b₀ : Stmt} {suite : List Stmt} {ts : TS} (hN : X.N.Nodup) (hi : X.N[i]? = some n) (hn : X.env.scope.names.lookup n = some .local)
    (F : FnOk X.prog X.w X.K X.mg X.base (CX1 X.prog X.w) k f fd ps sp) (hr : Room k X.A)
    (hg : Gl X x) (hm : X.mg x = some (.ref f)) (hk : PySem.W.keepIn X.K (.ref f) = true) (hb : Binds X.K fd ps []) (ha : PA X.nox (e :: es) t) (hown : X.stack = X.env :: X.outer ∧ X.env.frame = some X.env.locals) (hgc : Gl X c) (hmc : X.mg c = some (.ref C'))
    (hs : ∀ ee xe, PSs (X.marked ee xe) (b₀ :: suite) ts) (hdb : (x == ("__debug__" : Str)) = false := by decide) (hdc : (c == ("__debug__" : Str)) = false := by decide)
    (he : starEach (e :: es) X.env = (false, eval e X.env) :: starEach es X.env := by rfl) (hpl : (backTo cpos (starEach es X.env)).any (·.1) = false := by rfl) (hsw : swapsWith (.Call (.Name x p) (e :: es) [] cpos) none epos.line X.env = pure false := by rfl) :
    PS X (.Try [.Expr (.Call (.Name x p) (e :: es) [] cpos) epos] [.ExceptHandler (some (.Name c np)) (some n) (b₀ :: suite) hpos] [] [] pos) (tTryEA X.K sp t i C' ts) := by
  intro pins s σ H D I h
  refine wpAny_Try_except (wpAny_execs_cons ?_)
  refine wpAny_mono (wpAny_Expr_any (Q := SP X pins D) (wpAny_mono (call_cat F hr hg hm hk hb ha I h hdb he hpl) (fun v s1 ⟨y, H1, I1, r1, q1⟩ => ⟨σ, H1, I1, q1⟩) fun _ _ z => z) I.quiet hsw) (fun fl s1 q => ?_) fun e' s1 q => catch_as q hown hgc hmc hN hi hn hs hdc
  cases fl with
  | next => exact wpAny_execs_nil (wpAny_execs_nil q)
  | ret v => exact q
  | brk => exact q
  | cont => exact q
end
end L2

set_option Elab.async false
set_option linter.all false
set_option maxRecDepth 100000
set_option maxHeartbeats 4000000
/-! ### what class an exception has -/
namespace PySem.AwV
open PySem PySem.Calls PyProof.Rows Builtin Builtin.ObjectAttr Builtin.Getset_descriptor PySem.W
structure ExcCls (K : Frag) (C : Addr) : Prop where
  ga : findIn K (.ref C) "__getattribute__" = some (some (.builtin "BaseException.__getattribute__"))
  gt : findIn K (.ref C) "__getattr__" = some none
  cl : findIn K (.ref C) "__class__" = some (some (.builtin "object.__class__"))
  sp : specialIn K (.builtin "object.__class__") "__get__" = some (some (.builtin "getset_descriptor.__get__"))
  tk : takesIn K (.builtin "object.__class__") = some true
  ob : mroIn K C (.type "object") = some true
  be : mroIn K C (.type "BaseException") = some true
def ExcAt (x C : Addr) (h : Heap) : Prop := ∃ o, h.get? x = some o ∧ o.cls = .ref C ∧ notCls o = true
section
variable {prog : Program} {w : World} {A : Around} {E : Value → Shared → Prop} {s : Shared} {K : Frag} {x C : Addr}
theorem exc_type {M : Model} {h : Heap} (I : ExcAt x C h) : Looks M h (typeOf (.ref x)) (.ref C) := by
  obtain ⟨o, e, c, _⟩ := I
  exact c ▸ (Looks.ld e).andThen .now
theorem exc_find {M : Model} {h : Heap} (X : K.In h) (Z : ExcCls K C) : Looks M h (find (.ref x) (.ref C) "__class__") (.bind (.builtin "getset_descriptor.__get__") (.builtin "object.__class__")) := by
  refine (looks_findIn (M := M) X Z.cl).andThen (Looks.andThen (a := some (.builtin "getset_descriptor.__get__")) (show Looks M h (getOf (some _)) _ from looks_specialIn X Z.sp) ?_)
  have L3 := looks_takesIn (M := M) X Z.tk
  exact (show Looks M h (dataDescriptor? (some _) (some _)) (some (_, _)) from
    L3.andThen .now).andThen (Looks.tag .now)
theorem exc_get {tp : Value} {R : Result → Shared → Prop} (X : K.In s.heap) (I : ExcAt x C s.heap) (Z : ExcCls K C) (h : R (.ok (.ret (.ref C))) s) :
    codeAny (model prog w) A (.call (.builtin "getset_descriptor.__get__") ⟨[.builtin "object.__class__", .ref x, tp], []⟩) R s := by
  obtain ⟨hh, g, dr, t, os⟩ := s
  have L0 := exc_type (M := model prog w) I
  have L1 := looks_mroIn (M := model prog w) X Z.ob
  have ck := KF.slot_gs.check (model prog w) A
  refine codeAny_call_builtin KF.slot_gs.plain KF.entry_gs
    (KF.slot_gs.check _ _ _ _ _ _ _ _ KF.type_class (KF.args_gs _ _ _) ?_)
  unfold Builtin.«getset_descriptor.__get__»
  unfold descrGet
  rw [dga_obj]
  refine wpAny_bind (wpAny_pure ?_)
  unfold descrGetter descrCheckInstance
  unfold descrNameAndClass isInstance
  simp only [KF.owner_class]
  repeat lk
  refine ⟨Code.quiet_builtin _ (by decide +kernel),
    codeAny_builtin KF.entry_class ?_⟩
  unfold Builtin.«object.__class__» shownTypeOf
  repeat lk
  exact h
theorem exc_check {rest : List Value} {Q : Unit → Shared → Prop} (X : K.In s.heap) (I : ExcAt x C s.heap) (Z : ExcCls K C) (ha : argsOk "BaseException.__getattribute__" ⟨.ref x :: rest, []⟩) (h : Q () s) :
    wpAny (model prog w) A (checkBuiltinCall "BaseException.__getattribute__" ⟨.ref x :: rest, []⟩) Q E s := by
  have hsplit : splitId "BaseException.__getattribute__" = some ("BaseException", "__getattribute__") := by decide +kernel
  have hk : builtinKind "BaseException.__getattribute__" = some .slot := by
    simp only [builtinKind, hsplit]
    decide +kernel
  have LI : Looks (model prog w) s.heap (isInstance (.ref x) (.type "BaseException")) true := (exc_type I).andThen (looks_mroIn X Z.be)
  simp only [checkBuiltinCall, hk, hsplit]
  refine wpAny_bind (LI A _ E s (fun _ _ e => e) ?_)
  simp only [Bool.not_true, Bool.false_eq_true, if_false]
  cases hsig : Manifest.signature? "BaseException.__getattribute__" with
  | none => exact wpAny_pure h
  | some sig =>
    simp only [argsOk, hsig] at ha
    have h2 : Bind.checkArgs "BaseException.__getattribute__" sig ⟨.ref x :: rest, []⟩ = pure () := ha
    exact (show wpAny (model prog w) A (Bind.checkArgs _ sig _) Q E s from by
      rw [h2]; exact wpAny_pure h)
theorem exc_entry {tk : Tok} {Q : Fin → Shared → Prop} (X : K.In s.heap) (I : ExcAt x C s.heap) (Z : ExcCls K C) (h : Q (.done (.ret (.ref C))) s) :
    wpAny (model prog w) A (Builtin.«object.__getattribute__» ⟨[.ref x, .str "__class__" tk], []⟩) Q E s := by
  have I' := I
  have X' := X
  obtain ⟨hh, g, dr, t, os⟩ := s
  have L0 := exc_type (M := model prog w) I
  have L1 := exc_find (M := model prog w) (x := x) X Z
  refine wpAny_bind (wpAny_pure (wpAny_bind (wpAny_pure (wpAny_bind (L0.at (wpAny_bind (L1.at ?_)))))))
  show wpAny (model prog w) A (holding [.builtin "object.__class__"] (call (.builtin "getset_descriptor.__get__") [.builtin "object.__class__", .ref x, .ref C]) >>= ret) Q E _
  refine wpAny_bind (wpAny_holding (wpAny_call (exc_get X' I' Z ?_)))
  exact wpAny_pure h
/-- its class, asked of itself -/
theorem exc_class {Q : Option Value → Shared → Prop} (X : K.In s.heap) (I : ExcAt x C s.heap) (Z : ExcCls K C) (h : Q (some (.ref C)) { s with toks := s.toks + 1 }) :
    wpAny (model prog w) A (getAttr? (.ref x) "__class__") Q E s := by
  have I' := I
  have X' := X
  obtain ⟨hh, g, dr, t, os⟩ := s
  have L0 := exc_type (M := model prog w) I
  have L1 := looks_findIn (M := model prog w) X Z.ga
  have L2 := looks_findIn (M := model prog w) X Z.gt
  have f3 := F.excAttr_ValueError.ga.bind (.ref x)
  unfold getAttr? getAttrBy?
  refine wpAny_bind (wpAny_mkText (wpAny_bind (wpAny_attempt ?_)))
  unfold getAttrBy
  refine wpAny_holding (wpAny_bind (L0.at (wpAny_bind (L1.at ?_))))
  show wpAny (model prog w) A (getAttrByItsOwn (.ref x) _ (.ref C) (.builtin "BaseException.__getattribute__") false false) _ _ _
  unfold getAttrByItsOwn
  refine wpAny_bind ((show Looks (model prog w) hh (hookBefore (.ref C)) none from L2).at ?_)
  refine wpAny_bind (wpAny_attempt (wpAny_holding ?_))
  show wpAny (model prog w) A (boundAndCalled (.builtin "BaseException.__getattribute__") (.ref x) _) _ _ _
  unfold boundAndCalled
  rw [f3]
  refine wpAny_bind (wpAny_pure (wpAny_call (codeAny_call_builtin F.excAttr_ValueError.ga.plain F.entry_bexc_ga (exc_check X' I' Z (F.args_bexc_ga _ _) (exc_entry X' I' Z ?_)))))
  show wpAny (model prog w) A (handedOut (.ref C)) _ _ _
  rw [handedOut_of (show handedIn (.ref C) = true from rfl)]
  exact wpAny_pure (wpAny_pure h)
theorem exc_kit (Z : ExcCls K C) : KitX K (.ref x) (.ref C) (ExcAt x C) where
  ty := fun _ _ _ I => exc_type I
  it := fun M h X _ => by
    obtain ⟨cd, hc, _⟩ := Option.bind_eq_some_iff.mp Z.ob
    unfold clsIn at hc
    split at hc
    · rename_i ho
      intro A' Q' E' s' k q
      unfold isType loadHead
      exact wpAny_bind (wpAny_loadPart (k _ _ (X _ _ ho))
        (wpAny_pure q))
    · cases hc
  ne := fun h tp dd its n sl X htp => by
    obtain ⟨cd, hc, _⟩ := Option.bind_eq_some_iff.mp Z.ob
    refine Bool.eq_false_iff.mpr fun q => ?_
    have e : C = tp := Value.ref.inj (beq_iff_eq.mp q)
    subst e
    unfold clsIn at hc
    split at hc
    · rename_i ho
      have z := (X _ _ ho).symm.trans htp
      cases z
    · cases hc
  ca := fun X I q => exc_class X I Z q
end
end PySem.AwV
namespace L2
open PySem PySem.Spec PyProof.Rows
theorem boot_VE : bootBuiltins "ValueError" = some (.type "ValueError") := by decide +kernel
/-- the type of a value, or the class of an exception -/
inductive TyX (K : PySem.W.Frag) (H : Hp) : V → Value → Prop where
  | ty {x : V} {t : Value} (h : TyOf K H x t) : TyX K H x t
  | exc {a C : Addr} (h : H a = some (ExcO a C)) (Z : AwV.ExcCls K C) : TyX K H (.ref a) (.ref C)
section
variable {X : Cx} {pins : List (Addr × Obj)} {σ : St} {H : Hp} {s : Shared}
/-- a class that is handed to isinstance -/
inductive ClsV : V → Value → Prop where
  | ty (T : String) : ClsV (.ty T) (.type T)
  | own (C : Addr) : ClsV (.ref C) (.ref C)
theorem isinst_x {x : V} {u t c : Value} {b : Bool} {A : Around} {E : Value → Shared → Prop} {Q : Value → Shared → Prop} (I : Inv X pins σ H s) (rx : RelV x u) (ty : TyX X.K H x t) (e : PySem.W.kitOne X.K t c = some b) (h : ∀ tk, Q (.bool b) { s with toks := tk }) :
    wpAny (model X.prog X.w) A (call (.builtin "isinstance") [u, c]) Q E s := by
  cases ty with
  | ty z => exact isinst_ok I rx z e h
  | @exc a C ea Z =>
    cases (show u = Value.ref a from rx)
    obtain ⟨p, _, _⟩ := (show ObjOk X.prog X.w H s.heap a (ExcO a C) from I.hok a _ ea)
    exact PySem.W.kia_one (AwV.exc_kit Z) I.kIn p e (fun z => nomatch z) h
theorem call_isinstX {K : PySem.W.Frag} (hK : X.K = K) : CallR X (.builtin "isinstance") (fun xs H Q => ∃ x y c t b, xs = [x, y] ∧ ClsV y c ∧ TyX K H x t ∧ PySem.W.kitOne K t c = some b ∧ Q (.bl b) H) := by
  intro pins s σ H xs us Q I r h
  obtain ⟨x, y, c, t, b, rfl, hc, ty, e, q⟩ := h
  obtain ⟨u, u', rfl, ru, ru'⟩ := vals2 r
  subst hK
  have e' : u' = c := by cases hc <;> exact ru'
  subst e'
  exact isinst_x I ru ty e fun tk => ⟨.bl b, H, I.tok tk, rfl, q⟩
theorem vals_refs : ∀ {cs : List Addr} {its : List Value}, Vals (cs.map V.ref) its → its = cs.map Value.ref
  | [], _, h => by cases h; rfl
  | c :: cs, _, h => by
    cases h with
    | cons r1 r2 =>
      rw [vals_refs r2, show _ = Value.ref c from r1]
      rfl
/-- isinstance(x, (C, ..)), x an exception -/
theorem call_isinstT {K : PySem.W.Frag} (hK : X.K = K) : CallR X (.builtin "isinstance") (fun xs H Q => ∃ (a C p : Addr) (cs : List Addr) (b : Bool), xs = [.ref a, .ref p] ∧ H a = some (ExcO a C) ∧ H p = some (.tup (cs.map V.ref)) ∧ AwV.ExcCls K C ∧ PySem.W.kitAny K (.ref C) (cs.map Value.ref) = some b ∧ Q (.bl b) H) := by
  intro pins s σ H xs us Q I r h
  obtain ⟨a, C, p, cs, b, rfl, ea, hp, Z, e, q⟩ := h
  obtain ⟨u, u', rfl, ru, ru'⟩ := vals2 r
  subst hK
  cases ru
  cases ru'
  obtain ⟨_, its, rv, o, ho, hc, n, hd⟩ := (show ObjOk X.prog X.w H s.heap p (.tup (cs.map V.ref)) from I.hok p _ hp)
  cases vals_refs rv
  obtain ⟨ocls, odict, odata, osl⟩ := o
  simp only at hc hd
  subst hc hd
  obtain ⟨pe, _, _⟩ := (show ObjOk X.prog X.w H s.heap a (ExcO a C) from I.hok a _ ea)
  exact PySem.W.kia_tup (AwV.exc_kit Z) I.kIn pe ho e (fun z => nomatch z) fun tk => ⟨.bl b, H, I.tok tk, rfl, q⟩
end
end L2


set_option Elab.async false
set_option linter.all false
set_option maxRecDepth 100000
set_option maxHeartbeats 4000000
namespace K06
open PySem L2 PyProof.Rows
def top (i : Nat) : Stmt := PySem.Challenge.pw_askwright_k06_the_first_bad_line.main.body.getD i (.Pass ⟨0, 0, 0, 0⟩)
abbrev s_is_text : Stmt := top 19
abbrev s_is_tree : Stmt := top 20
abbrev s_part_of : Stmt := top 25
abbrev s_pieces_of : Stmt := top 26
abbrev s_row_of : Stmt := top 27
abbrev s_read_lines : Stmt := top 28
abbrev s_rule_rows : Stmt := top 29
abbrev s_bad_line : Stmt := top 30
abbrev s_is_rule : Stmt := top 31
abbrev s_law_pot : Stmt := top 33
abbrev s_law_take : Stmt := top 34
abbrev s_law_signs : Stmt := top 35
abbrev s_law_words : Stmt := top 36
abbrev s_law_row : Stmt := top 37
abbrev s_law_line_of : Stmt := top 38
abbrev s_law_rules : Stmt := top 39
abbrev s_law_bad_lines : Stmt := top 40
abbrev s_law_refused : Stmt := top 41
abbrev s_law_told : Stmt := top 42
abbrev s_law_spoilt : Stmt := top 43
abbrev s_law : Stmt := top 44
structure Ad where
  f_is_text : Addr
  d_is_text : FuncData
  f_is_tree : Addr
  d_is_tree : FuncData
  f_part_of : Addr
  d_part_of : FuncData
  f_pieces_of : Addr
  d_pieces_of : FuncData
  f_row_of : Addr
  d_row_of : FuncData
  f_read_lines : Addr
  d_read_lines : FuncData
  f_rule_rows : Addr
  d_rule_rows : FuncData
  f_bad_line : Addr
  d_bad_line : FuncData
  f_is_rule : Addr
  d_is_rule : FuncData
  f_law_pot : Addr
  d_law_pot : FuncData
  f_law_take : Addr
  d_law_take : FuncData
  f_law_signs : Addr
  d_law_signs : FuncData
  f_law_words : Addr
  d_law_words : FuncData
  f_law_row : Addr
  d_law_row : FuncData
  f_law_line_of : Addr
  d_law_line_of : FuncData
  f_law_rules : Addr
  d_law_rules : FuncData
  f_law_bad_lines : Addr
  d_law_bad_lines : FuncData
  f_law_refused : Addr
  d_law_refused : FuncData
  f_law_told : Addr
  d_law_told : FuncData
  f_law_spoilt : Addr
  d_law_spoilt : FuncData
  f_law : Addr
  d_law : FuncData
structure Tx (K : PySem.W.Frag) (mg : Str → Option Value) (a : Ad) : Prop where
  F_is_text : Fun K "is_text" "is_text" s_is_text a.f_is_text a.d_is_text
  b_is_text : Binds K a.d_is_text ["value"] []
  m_is_text : mg "is_text" = some (.ref a.f_is_text)
  F_is_tree : Fun K "is_tree" "is_tree" s_is_tree a.f_is_tree a.d_is_tree
  b_is_tree : Binds K a.d_is_tree ["value"] []
  m_is_tree : mg "is_tree" = some (.ref a.f_is_tree)
  F_part_of : Fun K "part_of" "part_of" s_part_of a.f_part_of a.d_part_of
  b_part_of : Binds K a.d_part_of ["kind", "piece", "count"] []
  m_part_of : mg "part_of" = some (.ref a.f_part_of)
  F_pieces_of : Fun K "pieces_of" "pieces_of" s_pieces_of a.f_pieces_of a.d_pieces_of
  b_pieces_of : Binds K a.d_pieces_of ["line", "form"] []
  m_pieces_of : mg "pieces_of" = some (.ref a.f_pieces_of)
  F_row_of : Fun K "row_of" "row_of" s_row_of a.f_row_of a.d_row_of
  b_row_of : Binds K a.d_row_of ["line", "count"] []
  m_row_of : mg "row_of" = some (.ref a.f_row_of)
  F_read_lines : Fun K "read_lines" "read_lines" s_read_lines a.f_read_lines a.d_read_lines
  b_read_lines : Binds K a.d_read_lines ["value"] []
  m_read_lines : mg "read_lines" = some (.ref a.f_read_lines)
  F_rule_rows : Fun K "rule_rows" "rule_rows" s_rule_rows a.f_rule_rows a.d_rule_rows
  b_rule_rows : Binds K a.d_rule_rows ["tree"] []
  m_rule_rows : mg "rule_rows" = some (.ref a.f_rule_rows)
  F_bad_line : Fun K "bad_line" "bad_line" s_bad_line a.f_bad_line a.d_bad_line
  b_bad_line : Binds K a.d_bad_line ["tree"] []
  m_bad_line : mg "bad_line" = some (.ref a.f_bad_line)
  F_is_rule : Fun K "is_rule" "is_rule" s_is_rule a.f_is_rule a.d_is_rule
  b_is_rule : Binds K a.d_is_rule ["value"] []
  m_is_rule : mg "is_rule" = some (.ref a.f_is_rule)
  F_law_pot : Fun K "_law_pot" "_law_pot" s_law_pot a.f_law_pot a.d_law_pot
  b_law_pot : Binds K a.d_law_pot ["cell", "salt"] []
  m_law_pot : mg "_law_pot" = some (.ref a.f_law_pot)
  F_law_take : Fun K "_law_take" "_law_take" s_law_take a.f_law_take a.d_law_take
  b_law_take : Binds K a.d_law_take ["pot", "many"] []
  m_law_take : mg "_law_take" = some (.ref a.f_law_take)
  F_law_signs : Fun K "_law_signs" "_law_signs" s_law_signs a.f_law_signs a.d_law_signs
  b_law_signs : Binds K a.d_law_signs [] []
  m_law_signs : mg "_law_signs" = some (.ref a.f_law_signs)
  F_law_words : Fun K "_law_words" "_law_words" s_law_words a.f_law_words a.d_law_words
  b_law_words : Binds K a.d_law_words ["pot", "most"] []
  m_law_words : mg "_law_words" = some (.ref a.f_law_words)
  F_law_row : Fun K "_law_row" "_law_row" s_law_row a.f_law_row a.d_law_row
  b_law_row : Binds K a.d_law_row ["pot", "many", "most"] []
  m_law_row : mg "_law_row" = some (.ref a.f_law_row)
  F_law_line_of : Fun K "_law_line_of" "_law_line_of" s_law_line_of a.f_law_line_of a.d_law_line_of
  b_law_line_of : Binds K a.d_law_line_of ["row"] []
  m_law_line_of : mg "_law_line_of" = some (.ref a.f_law_line_of)
  F_law_rules : Fun K "_law_rules" "_law_rules" s_law_rules a.f_law_rules a.d_law_rules
  b_law_rules : Binds K a.d_law_rules ["script"] []
  m_law_rules : mg "_law_rules" = some (.ref a.f_law_rules)
  F_law_bad_lines : Fun K "_law_bad_lines" "_law_bad_lines" s_law_bad_lines a.f_law_bad_lines a.d_law_bad_lines
  b_law_bad_lines : Binds K a.d_law_bad_lines ["many"] []
  m_law_bad_lines : mg "_law_bad_lines" = some (.ref a.f_law_bad_lines)
  F_law_refused : Fun K "_law_refused" "_law_refused" s_law_refused a.f_law_refused a.d_law_refused
  b_law_refused : Binds K a.d_law_refused ["tree"] []
  m_law_refused : mg "_law_refused" = some (.ref a.f_law_refused)
  F_law_told : Fun K "_law_told" "_law_told" s_law_told a.f_law_told a.d_law_told
  b_law_told : Binds K a.d_law_told ["tree", "due"] []
  m_law_told : mg "_law_told" = some (.ref a.f_law_told)
  F_law_spoilt : Fun K "_law_spoilt" "_law_spoilt" s_law_spoilt a.f_law_spoilt a.d_law_spoilt
  b_law_spoilt : Binds K a.d_law_spoilt ["rows", "pot"] []
  m_law_spoilt : mg "_law_spoilt" = some (.ref a.f_law_spoilt)
  F_law : Fun K "law" "law" s_law a.f_law a.d_law
  b_law : Binds K a.d_law ["script"] []
  m_law : mg "law" = some (.ref a.f_law)
  e_law : ∀ (s : Shared) (u : Value), BindsTo s a.d_law ⟨[u], []⟩ [("script", u)]
  m_MOST_SIGNS : ∃ t, mg "MOST_SIGNS" = some (.int 300 t)
  m_MOST_PARTS : ∃ t, mg "MOST_PARTS" = some (.int 40 t)
  m_MOST_SIZE : ∃ t, mg "MOST_SIZE" = some (.int 600 t)
  m_MOST_DEPTH : ∃ t, mg "MOST_DEPTH" = some (.int 12 t)
  m_PERCENT : ∃ t, mg "PERCENT" = some (.int 37 t)
  m_MOST_LINES : ∃ t, mg "MOST_LINES" = some (.int 40 t)
  z_ord : mg "ord" = none
  z_len : mg "len" = none
  z_isinstance : mg "isinstance" = none
  z_str : mg "str" = none
  z_tuple : mg "tuple" = none
  z_int : mg "int" = none
  z_range : mg "range" = none
  z_zip : mg "zip" = none
  z_abs : mg "abs" = none
  z_list : mg "list" = none
  z_ValueError : mg "ValueError" = none
  z_bool : mg "bool" = none
  z_min : mg "min" = none
theorem sc_is_text : FnScope ["value", "sign"] ["value"] (defScope s_is_text) := ⟨rfl, rfl, rfl, by decide +kernel, rfl, by decide +kernel, by decide +kernel⟩
theorem sc_is_tree : FnScope ["value", "size", "waiting", "pair", "part", "depth"] ["value"] (defScope s_is_tree) := ⟨rfl, rfl, rfl, by decide +kernel, rfl, by decide +kernel, by decide +kernel⟩
theorem sc_part_of : FnScope ["kind", "piece", "count", "numbers"] ["kind", "piece", "count"] (defScope s_part_of) := ⟨rfl, rfl, rfl, by decide +kernel, rfl, by decide +kernel, by decide +kernel⟩
theorem sc_pieces_of : FnScope ["line", "form"] ["line", "form"] (defScope s_pieces_of) := ⟨rfl, rfl, rfl, by decide +kernel, rfl, by decide +kernel, by decide +kernel⟩
theorem sc_row_of : FnScope ["line", "count", "word", "form", "pieces", "parts"] ["line", "count"] (defScope s_row_of) := ⟨rfl, rfl, rfl, by decide +kernel, rfl, by decide +kernel, by decide +kernel⟩
theorem sc_read_lines : FnScope ["value", "rows", "line", "row"] ["value"] (defScope s_read_lines) := ⟨rfl, rfl, rfl, by decide +kernel, rfl, by decide +kernel, by decide +kernel⟩
theorem sc_rule_rows : FnScope ["tree", "read"] ["tree"] (defScope s_rule_rows) := ⟨rfl, rfl, rfl, by decide +kernel, rfl, by decide +kernel, by decide +kernel⟩
theorem sc_bad_line : FnScope ["tree"] ["tree"] (defScope s_bad_line) := ⟨rfl, rfl, rfl, by decide +kernel, rfl, by decide +kernel, by decide +kernel⟩
theorem sc_is_rule : FnScope ["value"] ["value"] (defScope s_is_rule) := ⟨rfl, rfl, rfl, by decide +kernel, rfl, by decide +kernel, by decide +kernel⟩
theorem sc_law_pot : FnScope ["cell", "salt", "step", "big", "k"] ["cell", "salt"] (defScope s_law_pot) := ⟨rfl, rfl, rfl, by decide +kernel, rfl, by decide +kernel, by decide +kernel⟩
theorem sc_law_take : FnScope ["pot", "many", "digit"] ["pot", "many"] (defScope s_law_take) := ⟨rfl, rfl, rfl, by decide +kernel, rfl, by decide +kernel, by decide +kernel⟩
theorem sc_law_signs : FnScope ["signs"] [] (defScope s_law_signs) := ⟨rfl, rfl, rfl, by decide +kernel, rfl, by decide +kernel, by decide +kernel⟩
theorem sc_law_words : FnScope ["pot", "most", "signs"] ["pot", "most"] (defScope s_law_words) := ⟨rfl, rfl, rfl, by decide +kernel, rfl, by decide +kernel, by decide +kernel⟩
theorem sc_law_row : FnScope ["pot", "many", "most", "forms", "word", "form", "parts", "kind"] ["pot", "many", "most"] (defScope s_law_row) := ⟨rfl, rfl, rfl, by decide +kernel, rfl, by decide +kernel, by decide +kernel⟩
theorem sc_law_line_of : FnScope ["row"] ["row"] (defScope s_law_line_of) := ⟨rfl, rfl, rfl, by decide +kernel, rfl, by decide +kernel, by decide +kernel⟩
theorem sc_law_rules : FnScope ["script", "some", "found", "cell", "pot", "many"] ["script"] (defScope s_law_rules) := ⟨rfl, rfl, rfl, by decide +kernel, rfl, by decide +kernel, by decide +kernel⟩
theorem sc_law_bad_lines : FnScope ["many", "bad"] ["many"] (defScope s_law_bad_lines) := ⟨rfl, rfl, rfl, by decide +kernel, rfl, by decide +kernel, by decide +kernel⟩
theorem sc_law_refused : FnScope ["tree", "caught", "e"] ["tree"] (defScope s_law_refused) := ⟨rfl, rfl, rfl, by decide +kernel, rfl, by decide +kernel, by decide +kernel⟩
theorem sc_law_told : FnScope ["tree", "due", "found"] ["tree", "due"] (defScope s_law_told) := ⟨rfl, rfl, rfl, by decide +kernel, rfl, by decide +kernel, by decide +kernel⟩
theorem sc_law_spoilt : FnScope ["rows", "pot", "lines", "first", "turn", "bad", "line", "at"] ["rows", "pot"] (defScope s_law_spoilt) := ⟨rfl, rfl, rfl, by decide +kernel, rfl, by decide +kernel, by decide +kernel⟩
theorem sc_law : FnScope ["script", "turn", "rows", "pot", "tree", "first"] ["script"] (defScope s_law) := ⟨rfl, rfl, rfl, by decide +kernel, rfl, by decide +kernel, by decide +kernel⟩
/-! ### the file's tuples and its dict -/
structure Ga where
  boxes : Addr
  forms : Addr
  bad : Addr
  wr : Addr
  xBadAnswer : Addr
  xBadKeep : Addr
  xBadName : Addr
  xBadText : Addr
  xBadThing : Addr
  xBadTree : Addr
  xClash : Addr
  xNoAsk : Addr
  xNoDeed : Addr
  xNoThing : Addr
structure Fx (K : PySem.W.Frag) (w : World) (mg : Str → Option Value) (g : Ga) : Prop where
  m_BOXES : mg "BOXES" = some (.ref g.boxes)
  m_FORMS : mg "FORMS" = some (.ref g.forms)
  boxes : ∀ H, SqT K H g.boxes (BX.map V.str)
  kd : KDict K w g.forms
  m_BadRule : mg "BadRule" = some (.ref g.bad)
  x_BadRule : PySem.W.excIn K g.bad VE "ValueError.__new__" = true
  m_WrightError : mg "WrightError" = some (.ref g.wr)
  e_BadRule : PySem.W.exmOne K (.ref g.bad) (.ref g.wr) = some true
  m_BadAnswer : mg "BadAnswer" = some (.ref g.xBadAnswer)
  m_BadKeep : mg "BadKeep" = some (.ref g.xBadKeep)
  m_BadName : mg "BadName" = some (.ref g.xBadName)
  m_BadText : mg "BadText" = some (.ref g.xBadText)
  m_BadThing : mg "BadThing" = some (.ref g.xBadThing)
  m_BadTree : mg "BadTree" = some (.ref g.xBadTree)
  m_Clash : mg "Clash" = some (.ref g.xClash)
  m_NoAsk : mg "NoAsk" = some (.ref g.xNoAsk)
  m_NoDeed : mg "NoDeed" = some (.ref g.xNoDeed)
  m_NoThing : mg "NoThing" = some (.ref g.xNoThing)
  xc : AwV.ExcCls K g.bad
  k_ve : PySem.W.kitOne K (.ref g.bad) (.type "ValueError") = some true
  k_t1 : PySem.W.kitAny K (.ref g.bad) ([g.xBadAnswer, g.xBadKeep, g.xBadName, g.xBadText, g.xBadThing, g.xBadTree].map Value.ref) = some false
  k_t2 : PySem.W.kitAny K (.ref g.bad) ([g.xClash, g.xNoAsk, g.xNoDeed, g.xNoThing].map Value.ref) = some false
  none_ : ∀ z, formOf z = none → PySem.W.nsIn K g.forms z = some none
  forms : ∀ x ∈ FRM, ∃ q, PySem.W.nsIn K g.forms x.1 = some (some (.ref q)) ∧ ∀ H, SqT K H q (x.2.map fun k => V.str k.t)
/-! ### what the defs promise -/
def SGN : Str := (" !\"#$&'()*+,-./0123456789:;<=>?" ++ "\x40ABCDEFGHIJKLMNOPQRSTUVWXYZ") ++ "[\\]^_`abcdefghijklmnopqrstuvwxyz{|}~"
def PotAt (H : Hp) (p : Addr) : Prop := ∃ x : Int, H p = some (.lst [.int x]) ∧ 0 ≤ x
theorem PotAt.same {H H' : Hp} {p : Addr} (h : PotAt H p) (s : Same H H') : PotAt H' p := by
  obtain ⟨x, e, r⟩ := h
  exact ⟨x, s _ _ e, r⟩
theorem PotAt.free {H : Hp} {p l : Addr} (h : PotAt H p) (n : H l = none) : p ≠ l := by
  obtain ⟨x, e, r⟩ := h
  exact ne_of_none e n
theorem PotAt.tk {H H' : Hp} {p : Addr} (h : PotAt H p) (h' : PotAt H' p) (k : Kept p H H') : Tk H H' := by
  obtain ⟨x, e, _⟩ := h
  obtain ⟨x', e', _⟩ := h'
  exact k.tk e e'
def sp_take : Sp := fun vs H Q _ => ∃ (p : Addr) (many : Int), vs = [.ref p, .int many] ∧ PotAt H p ∧ 0 < many ∧ many < 1073741824 ∧ ∀ (d : Int) (H' : Hp), 0 ≤ d → d < many → PotAt H' p → Kept p H H' → Q (.int d) H'
def sp_pot : Sp := fun vs H Q _ => ∃ (c t : Int), vs = [.int c, .int t] ∧ 0 ≤ t ∧ t < 1000 ∧ ∀ (p : Addr) (H' : Hp), H p = none → Same H H' → PotAt H' p → Q (.ref p) H'
def sp_signs : Sp := fun vs H Q _ => vs = [] ∧ Q (.str SGN) H
theorem small {n : Nat} (h : n ≤ 1000) : n ≤ sizeLine := Nat.le_of_lt (small1000 h)
theorem fits {n : Nat} (h : n ≤ 16000000) : n ≤ sizeLine := by rw [sizeLine_eq]; omega
theorem sgn_len : SGN.length = 94 := by decide +kernel
theorem sgn_ok : SGN.cps.toList.all okSign = true := by decide +kernel
section
variable {P : Program} {w : World} {K : PySem.W.Frag} {mg : Str → Option Value} {base : Heap} {a : Ad}
theorem ok_take (T : Tx K mg a) : FnOk P w K mg base CX0 1 a.f_law_take a.d_law_take ["pot", "many"] sp_take := by
  refine T.F_law_take.ok sc_law_take (fun vs H Q E h => ?_) (fun cdv A outer s H vs Q E hr h => ?_)
  · obtain ⟨p, many, rfl, _⟩ := h
    rfl
  obtain ⟨p, many, rfl, ⟨x, hp, hx⟩, hm, hm2, k⟩ := h
  refine ⟨_, (pss_cons (ps_set (i := 2) sc_law_take.nd rfl (Or.inl rfl) (pe_op op_mod (pe_ix ix_list (pv 0) pe_int (fun _ _ => rfl)) (pv 1)))
      (pss_cons (ps_asg (pe_op op_fdiv (pe_ix ix_list (pv 0) pe_int (fun _ _ => rfl)) (pv 1)) (pg_sub (pv 0) pe_int set_list))
      (pss_one (ps_ret (pv 2))))), ?_⟩
  refine ⟨_, rfl, p, _, _, _, rfl, rfl, SqL.of hp, rfl, _, rfl, _, _, rfl, rfl, hm, ?_⟩
  refine ⟨_, rfl, p, _, _, _, rfl, rfl, SqL.of hp, rfl, _, rfl, _, _, rfl, rfl, ⟨hm, hm2⟩, _, rfl, p, _, _, _, rfl, rfl, hp, rfl, ?_⟩
  refine ⟨_, rfl, ?_⟩
  exact k _ _ (Int.emod_nonneg _ (by omega)) (Int.emod_lt_of_pos _ hm) ⟨x / many, upd_same, Int.ediv_nonneg hx (by omega)⟩ (Kept.upd _ _ _)
theorem ok_signs (T : Tx K mg a) : FnOk P w K mg base CX0 1 a.f_law_signs a.d_law_signs [] sp_signs := by
  refine T.F_law_signs.ok sc_law_signs (fun vs H Q E h => ?_) (fun cdv A outer s H vs Q E hr h => ?_)
  · obtain ⟨rfl, _⟩ := h
    rfl
  obtain ⟨rfl, k⟩ := h
  refine ⟨_, (pss_cons (ps_set (i := 0) sc_law_signs.nd rfl (Or.inl rfl) pe_str)
      (pss_one (ps_ret (pe_op op_add_str (pv 0) pe_str)))), ?_⟩
  refine ⟨_, rfl, _, _, rfl, rfl, by decide +kernel, ?_⟩
  exact k
theorem ok_pot (T : Tx K mg a) : FnOk P w K mg base CX0 1 a.f_law_pot a.d_law_pot ["cell", "salt"] sp_pot := by
  refine T.F_law_pot.ok sc_law_pot (fun vs H Q E h => ?_) (fun cdv A outer s H vs Q E hr h => ?_)
  · obtain ⟨c, t, rfl, _⟩ := h
    rfl
  obtain ⟨c, t, rfl, h0, h1, k⟩ := h
  refine ⟨_, (pss_cons (ps_if (pt_cmpR op_ge (pe_callB call_abs (by rfl) T.z_abs boot_abs (pa_cons (pv 0) pa_nil)) (pe_op op_pow pe_int pe_int) (nomark _)) (pss_one (ps_ret (pe_lst (pa_cons (pe_callB call_abs (by rfl) T.z_abs boot_abs (pa_cons (pv 0) pa_nil)) pa_nil)))) pss_nil)
      (pss_cons (ps_set (i := 2) sc_law_pot.nd rfl (Or.inl rfl) (pe_op op_mod (pe_op op_mul (pe_op op_add (pe_op op_add (pe_op op_mod (pv 0) pe_int) (pe_op op_mul pe_int (pv 1))) pe_int) pe_int) pe_int))
      (pss_cons (ps_set (i := 3) sc_law_pot.nd rfl (Or.inl rfl) pe_int)
      (pss_cons (ps_for PassesOwn.never rfl (pi_range1 (by rfl) T.z_range (pa_cons pe_int pa_nil)) (pg_name (i := 4) sc_law_pot.nd rfl (Or.inl rfl)) (pss_cons (ps_set (i := 2) sc_law_pot.nd rfl (Or.inl rfl) (pe_op op_mod (pe_op op_add (pe_op op_add (pe_op op_mul (pv 2) (pv 2)) (pe_op op_mul pe_int (pv 4))) pe_int) pe_int))
      (pss_one (ps_set (i := 3) sc_law_pot.nd rfl (Or.inl rfl) (pe_op op_add (pe_op op_mul (pv 3) pe_int) (pv 2))))))
      (pss_one (ps_ret (pe_lst (pa_cons (pv 3) pa_nil)))))))), ?_⟩
  refine ⟨_, rfl, _, rfl, _, _, rfl, rfl, ⟨by decide, by decide, by decide⟩, _, _, rfl, rfl, _, rfl, ?_⟩
  refine ite2 (fun _ => ?_) (fun _ => ?_)
  · refine ⟨_, rfl, _, rfl, (by show 1 ≤ sizeLine; decide), fun p hp => ?_⟩
    refine k p _ hp (same_new hp _) ⟨_, upd_same, ?_⟩
    split <;> omega
  · refine ⟨_, rfl, _, _, rfl, rfl, (by show (0 : Int) < 2147483647; decide), _, rfl, _, _, rfl, rfl, (.inl ⟨by decide, by decide⟩), _, _, rfl, rfl, _, _, rfl, rfl, _, _, rfl, rfl, (.inr ⟨by decide, by decide⟩), _, _, rfl, rfl, (by show (0 : Int) < 2147483647; decide), 9, rfl, by decide, by decide, ?_⟩
    refine for_range (n := 9) (fun i σ H' => ∃ (x b : Int) (kv : Option V), σ = [some (.int c), some (.int t), some (.int x), some (.int b), kv] ∧ 0 ≤ x ∧ x < 2147483647 ∧ 0 ≤ b ∧ H' = H) ⟨_, _, none, rfl, Int.emod_nonneg _ (by decide), Int.emod_lt_of_pos _ (by decide), by decide, rfl⟩ ?_ ?_
    · rintro i σ H' hi ⟨x, b, kv, rfl, hx0, hx1, hb, rfl⟩
      have hmul : CMul x x := .inl ⟨by omega, by omega⟩
      refine ⟨_, rfl, _, rfl, _, _, rfl, rfl, hmul, _, rfl, _, _, rfl, rfl, (.inl ⟨by decide, by decide⟩), _, _, rfl, rfl, _, _, rfl, rfl, _, _, rfl, rfl, (by show (0 : Int) < 2147483629; decide), _, rfl, _, _, rfl, rfl, (.inr ⟨by decide, by decide⟩), _, rfl, _, _, rfl, rfl, ?_⟩
      have q0 : 0 ≤ (x * x + 40692 * (0 + (i : Int)) + 3) % 2147483629 := Int.emod_nonneg _ (by decide)
      have q1 : (x * x + 40692 * (0 + (i : Int)) + 3) % 2147483629 < 2147483629 := Int.emod_lt_of_pos _ (by decide)
      exact ⟨_, _, _, rfl, q0, Int.lt_trans q1 (by decide), Int.add_nonneg (Int.mul_nonneg hb (by decide)) q0, rfl⟩
    · rintro σ H' ⟨x, b, kv, rfl, hx0, hx1, hb, rfl⟩
      exact ⟨_, rfl, (by show 1 ≤ sizeLine; decide), fun p hp => k p _ hp (same_new hp _) ⟨_, upd_same, hb⟩⟩
end
end K06

set_option Elab.async false
set_option linter.all false
set_option maxRecDepth 100000
set_option maxHeartbeats 4000000
namespace K06
open PySem L2 PyProof.Rows
/-- a text of at most so many signs -/
def sp_words : Sp := fun vs H Q _ => ∃ (p : Addr) (m : Nat), vs = [.ref p, .int (m : Int)] ∧ m ≤ 40 ∧ PotAt H p ∧ ∀ (z : Str) (H' : Hp), z.length ≤ m → z.cps.toList.all okSign = true → PotAt H' p → Kept p H H' → Q (.str z) H'
theorem glue_signs : ∀ (l : List Nat), (Str.join "" (l.map fun c => (⟨#[c]⟩ : Str))).cps.toList = l
  | [] => rfl
  | [c] => rfl
  | c :: d :: r => by
    have ih := glue_signs (d :: r)
    show (((⟨#[c]⟩ : Str).cps ++ ("" : Str).cps) ++ (Str.join "" ((d :: r).map fun c => (⟨#[c]⟩ : Str))).cps).toList = _
    rw [Array.toList_append, Array.toList_append, ih]
    rfl
section
variable {P : Program} {w : World} {K : PySem.W.Frag} {mg : Str → Option Value} {base : Heap} {a : Ad}
theorem ok_words (T : Tx K mg a) : FnOk P w K mg base CX0 2 a.f_law_words a.d_law_words ["pot", "most"] sp_words := by
  have G_law_take : FnOk P w K mg base CX0 1 a.f_law_take a.d_law_take ["pot", "many"] sp_take := ok_take T
  have G_law_signs : FnOk P w K mg base CX0 1 a.f_law_signs a.d_law_signs [] sp_signs := ok_signs T
  refine T.F_law_words.ok sc_law_words (fun vs H Q E h => ?_) (fun cdv A outer s H vs Q E hr h => ?_)
  · obtain ⟨p, m, rfl, _⟩ := h
    rfl
  obtain ⟨p, m, rfl, hm, P0, k⟩ := h
  have hs := sgn_len
  refine ⟨_, (@pss_cons _ _ _ _ _ (@ps_set _ _ (2) _ _ _ _ sc_law_words.nd rfl (Or.inr rfl) (@pe_call0 _ _ _ _ _ _ _ _ _ _ _ _ _ G_law_signs (hr.mono (by first | decide | omega)) (by rfl) T.m_law_signs T.F_law_signs.kp T.b_law_signs .nil pass0 (by first | rfl | exact .inl rfl | exact .inr rfl | exact .inr (.inl rfl) | decide | decide +kernel | (intro _; rfl))) (by first | rfl | exact .inl rfl | exact .inr rfl | exact .inr (.inl rfl) | decide | decide +kernel | (intro _; rfl)) (by first | rfl | exact .inl rfl | exact .inr rfl | exact .inr (.inl rfl) | decide | decide +kernel | (intro _; rfl))) (@pss_one _ _ _ (@ps_ret _ _ _ _ (@pe_bm _ _ _ _ _ _ _ _ _ _ _ _ PySem.F.plainAttrs_str PySem.F.slot_str_join PySem.F.type_str_join (@mt_join _) (@pe_str _ _ _ _) (@pa_cons _ _ _ _ _ (@pe_lc _ _ (["k", "signs", "pot"]) (1) ([2, 0]) _ _ _ _ _ _ _ _ _ (lcsN (defScope s_law_words) ["pot", "most", "signs"]) rfl (@pi_range1 _ _ _ _ _ _ (by rfl) T.z_range (@pa_cons _ _ _ _ _ (@pe_call _ _ _ _ _ _ _ _ _ _ _ _ _ _ _ _ G_law_take (hr.mono (by first | decide | omega)) (by rfl) T.m_law_take T.F_law_take.kp T.b_law_take .nil pass0 (@pa_cons _ _ _ _ _ (pv 0) (@pa_cons _ _ _ _ _ (@pe_op _ _ _ _ _ _ _ _ (@op_add _) (pv 1) (@pe_int _ _ _ _)) (@pa_nil _) (by first | rfl | exact .inl rfl | exact .inr rfl | exact .inr (.inl rfl) | decide | decide +kernel | (intro _; rfl))) (by first | rfl | exact .inl rfl | exact .inr rfl | exact .inr (.inl rfl) | decide | decide +kernel | (intro _; rfl))) (by first | rfl | exact .inl rfl | exact .inr rfl | exact .inr (.inl rfl) | decide | decide +kernel | (intro _; rfl)) (by first | rfl | exact .inl rfl | exact .inr rfl | exact .inr (.inl rfl) | decide | decide +kernel | (intro _; rfl)) (by first | rfl | exact .inl rfl | exact .inr rfl | exact .inr (.inl rfl) | decide | decide +kernel | (intro _; rfl))) (@pa_nil _) (by first | rfl | exact .inl rfl | exact .inr rfl | exact .inr (.inl rfl) | decide | decide +kernel | (intro _; rfl))) (by first | rfl | exact .inl rfl | exact .inr rfl | exact .inr (.inl rfl) | decide | decide +kernel | (intro _; rfl))) (fun _ _ _ _ _ _ => (@pg_name _ _ (0) _ (show List.Nodup (["k", "signs", "pot"] : List Str) by decide +kernel) rfl (Or.inl rfl) (by first | rfl | exact .inl rfl | exact .inr rfl | exact .inr (.inl rfl) | decide | decide +kernel | (intro _; rfl)))) (fun _ _ _ _ _ _ => @pif_nil _) (fun _ _ _ _ _ _ => (@pe_ix _ _ _ _ _ _ _ (@ix_str _) (pv 1) (@pe_call _ _ _ _ _ _ _ _ _ _ _ _ _ _ _ _ G_law_take (hr.mono (by first | decide | omega)) (by rfl) T.m_law_take T.F_law_take.kp T.b_law_take .nil pass0 (@pa_cons _ _ _ _ _ (pv 2) (@pa_cons _ _ _ _ _ (@pe_callB _ _ _ _ _ _ _ _ _ (@call_len_str _) (by rfl) T.z_len PySem.boot_len (@pa_cons _ _ _ _ _ (pv 1) (@pa_nil _) (by first | rfl | exact .inl rfl | exact .inr rfl | exact .inr (.inl rfl) | decide | decide +kernel | (intro _; rfl))) (by first | rfl | exact .inl rfl | exact .inr rfl | exact .inr (.inl rfl) | decide | decide +kernel | (intro _; rfl)) (by first | rfl | exact .inl rfl | exact .inr rfl | exact .inr (.inl rfl) | decide | decide +kernel | (intro _; rfl)) (by first | rfl | exact .inl rfl | exact .inr rfl | exact .inr (.inl rfl) | decide | decide +kernel | (intro _; rfl)) (by first | rfl | exact .inl rfl | exact .inr rfl | exact .inr (.inl rfl) | decide | decide +kernel | (intro _; rfl))) (@pa_nil _) (by first | rfl | exact .inl rfl | exact .inr rfl | exact .inr (.inl rfl) | decide | decide +kernel | (intro _; rfl))) (by first | rfl | exact .inl rfl | exact .inr rfl | exact .inr (.inl rfl) | decide | decide +kernel | (intro _; rfl))) (by first | rfl | exact .inl rfl | exact .inr rfl | exact .inr (.inl rfl) | decide | decide +kernel | (intro _; rfl)) (by first | rfl | exact .inl rfl | exact .inr rfl | exact .inr (.inl rfl) | decide | decide +kernel | (intro _; rfl)) (by first | rfl | exact .inl rfl | exact .inr rfl | exact .inr (.inl rfl) | decide | decide +kernel | (intro _; rfl))) (fun _ _ => rfl))) (by first | rfl | exact .inl rfl | exact .inr rfl | exact .inr (.inl rfl) | decide | decide +kernel | (intro _; rfl))) (@pa_nil _) (by first | rfl | exact .inl rfl | exact .inr rfl | exact .inr (.inl rfl) | decide | decide +kernel | (intro _; rfl))) (by first | rfl | exact .inl rfl | exact .inr rfl | exact .inr (.inl rfl) | decide | decide +kernel | (intro _; rfl)) (by first | rfl | exact .inl rfl | exact .inr rfl | exact .inr (.inl rfl) | decide | decide +kernel | (intro _; rfl)) (by first | rfl | exact .inl rfl | exact .inr rfl | exact .inr (.inl rfl) | decide | decide +kernel | (intro _; rfl)) (by first | rfl | exact .inl rfl | exact .inr rfl | exact .inr (.inl rfl) | decide | decide +kernel | (intro _; rfl)) (by first | rfl | exact .inl rfl | exact .inr rfl | exact .inr (.inl rfl) | decide | decide +kernel | (intro _; rfl)))))), ?_⟩
  refine ⟨rfl, ?_⟩
  refine ⟨rfl, _, rfl, _, rfl, _, _, rfl, rfl, p, (m : Int) + 1, rfl, P0, by omega, by omega, fun d1 H1 a1 b1 P1 K1 => ⟨d1, rfl, by omega, by omega, fun L hL => ?_⟩⟩
  have hpL : p ≠ L := P1.free hL
  refine lc_range (tl := [some (.str SGN), some (.ref p)]) (fun i ys H' => ∃ cs : List Nat, ys = cs.map (fun c => V.str ⟨#[c]⟩) ∧ cs.length = i ∧ cs.all okSign = true ∧ PotAt H' p ∧ Kept p H1 H') (fits (by omega)) ⟨[], rfl, rfl, rfl, P1.same (same_new hL _), (same_new hL _).kept⟩ ?_ ?_
  · rintro i ys H' hi ⟨cs, rfl, hl, hall, P', K'⟩ hL' hy R hR
    refine ⟨_, rfl, _, rfl, _, rfl, _, rfl, small (by omega), p, _, rfl, P', by omega, by omega, fun d H5 a5 b5 P5 K5 => ?_⟩
    obtain ⟨c, hc⟩ := atI_some (xs := SGN.cps.toList) (i := d) a5 (by simpa [Str.length] using b5)
    have hm : c ∈ SGN.cps.toList := by
      obtain ⟨j, _, h2, _⟩ := atI_get hc
      exact List.mem_of_getElem? h2
    refine ⟨_, _, c, rfl, rfl, small (by omega), hc, ?_⟩
    have hL5 := K5 L _ hL' (Ne.symm hpL)
    refine hR _ _ hL5 ⟨cs ++ [c], by simp, by simp [hl], ?_, ?_, ?_⟩
    · rw [List.all_append, hall, List.all_cons, List.all_eq_true.mp sgn_ok c hm]
      rfl
    · obtain ⟨x1, e1, r1⟩ := P5
      exact ⟨x1, by rw [upd_ne hpL]; exact e1, r1⟩
    · intro b o e hb
      rw [upd_ne (ne_of_none e hL)]
      exact K5 b o (K' b o e hb) hb
  · rintro ys H' ⟨cs, rfl, hl, hall, P', K'⟩ hL'
    have e : cs.map (fun c => V.str ⟨#[c]⟩) = (cs.map fun c => (⟨#[c]⟩ : Str)).map V.str := by rw [List.map_map]; rfl
    refine ⟨_, L, cs.map fun c => (⟨#[c]⟩ : Str), rfl, rfl, SqL.of (by rw [hL', e]), ?_, ?_⟩
    · rw [List.map_map]
      have : ∀ l : List Nat, (l.map ((fun x : Str => x.length) ∘ fun c => (⟨#[c]⟩ : Str))).sum = l.length := by
        intro l
        induction l with
        | nil => rfl
        | cons x r ih => rw [List.map_cons, List.sum_cons, ih, List.length_cons]; show 1 + r.length = _; omega
      rw [this, List.length_map]
      show cs.length + cs.length * 0 ≤ 1000000
      omega
    · have eg := glue_signs cs
      refine k _ H' ?_ (by rw [eg]; exact hall) P' (K1.trans K')
      show (Str.join "" (cs.map fun c => (⟨#[c]⟩ : Str))).cps.size ≤ m
      rw [← Array.length_toList, eg]
      omega
end
end K06

set_option Elab.async false
set_option linter.all false
set_option maxRecDepth 100000
set_option maxHeartbeats 4000000
namespace K06
open PySem L2 PyProof.Rows
def code : Kd → Nat
  | .box => 98
  | .line => 110
  | .words => 119
def kstr (ks : List Kd) : Str := ⟨(ks.map code).toArray⟩
def LF : List (Str × Str) := FRM.map fun x => (x.1, kstr x.2)
def prD (p : Str × Str) : D := .tup [.str p.1, .str p.2]
def taP : List (Str × Str) → TA
  | [] => tNil
  | x :: r => tCons (tTup (tCons (tC (.str x.1)) (tCons (tC (.str x.2)) tNil))) (taP r)
theorem taP_ok {σ : L2.St} : ∀ (ps : List (Str × Str)) (H : Hp) (R : List V → Hp → Prop), (∀ x ∈ ps, x.1.length ≤ 100 ∧ x.2.length ≤ 100) → (∀ vs H', Same H H' → IsL H' (ps.map prD) vs → R vs H') → taP ps σ H R
  | [], H, R, _, h => h [] H (Same.refl _) rfl
  | x :: r, H, R, hz, h => by
    refine ⟨(by show 2 ≤ sizeLine; decide), fun p hp => ?_⟩
    refine taP_ok r _ _ (fun y hy => hz y (List.mem_cons_of_mem _ hy)) fun vs H' sm hv => ?_
    have s1 : Same H (upd H p (.tup [.str x.1, .str x.2])) := same_new hp _
    have i1 : Is (upd H p (.tup [.str x.1, .str x.2])) (prD x) (.ref p) := Is.new (ds := [.str x.1, .str x.2]) ⟨_, _, rfl, ⟨rfl, small (by have := (hz x List.mem_cons_self).1; omega)⟩, _, _, rfl, ⟨rfl, small (by have := (hz x List.mem_cons_self).2; omega)⟩, rfl⟩ hp
    exact h _ _ (s1.trans sm) ⟨_, _, rfl, i1.mono sm.tk, hv⟩
theorem IsL.pick {H : Hp} {ds : List D} {vs : List V} {m : Int} (h : IsL H ds vs) (h0 : 0 ≤ m) (h1 : m < (ds.length : Int)) : ∃ d v, atI vs m = some v ∧ Is H d v ∧ d ∈ ds := by
  obtain ⟨j, rfl⟩ : ∃ j : Nat, m = (j : Int) := ⟨m.toNat, by omega⟩
  have hj : j < ds.length := by omega
  obtain ⟨v, e1, e2⟩ := IsL.get h (List.getElem?_eq_getElem hj)
  exact ⟨ds[j], v, atI_nat e1, e2, List.getElem_mem hj⟩
theorem kstr_get {ks : List Kd} {i c : Nat} (h : (kstr ks).cps[i]? = some c) : ∃ k, ks[i]? = some k ∧ c = code k := by
  unfold kstr at h
  simp only [List.getElem?_toArray, List.getElem?_map] at h
  cases e : ks[i]? with
  | none => rw [e] at h; simp at h
  | some k => rw [e] at h; exact ⟨k, rfl, by simpa using h.symm⟩
theorem box_at {d : Int} {c : Nat} (h : atI ("abcdefgh" : Str).cps.toList d = some c) : (⟨#[c]⟩ : Str) ∈ BX := by
  obtain ⟨j, _, h2, _⟩ := atI_get h
  have hm := List.mem_of_getElem? h2
  have key : ∀ c ∈ ("abcdefgh" : Str).cps.toList, (⟨#[c]⟩ : Str) ∈ BX := by decide +kernel
  exact key c hm
theorem ptsOk_snoc {n m : Nat} : ∀ {ks : List Kd} {ps : List Pt} {k : Kd} {q : Pt}, ptsOk n m ks ps → ptOk n m k q → ptsOk n m (ks ++ [k]) (ps ++ [q])
  | [], [], _, _, _, h => ⟨h, trivial⟩
  | _ :: _, _ :: _, _, _, h, h' => ⟨h.1, ptsOk_snoc h.2 h'⟩
  | [], _ :: _, _, _, h, _ => h.elim
  | _ :: _, [], _, _, h, _ => h.elim
def sp_row : Sp := fun vs H Q _ => ∃ (p : Addr) (n m : Nat), vs = [.ref p, .int (n : Int), .int (m : Int)] ∧ 1 ≤ n ∧ n ≤ 40 ∧ m ≤ 40 ∧ PotAt H p ∧ ∀ (v : V) (r : Rw) (H' : Hp), RowOk n m r → Is H' (rowD r) v → PotAt H' p → Kept p H H' → Q v H'
abbrev A6 : List (Str × Str) := [("text", "bw"), ("self", "b"), ("copy", "bb"), ("row", "b"), ("put", "bb"), ("join", "bb")]
abbrev A1 : List (Str × Str) := [("first", "bb")]
abbrev A5 : List (Str × Str) := [("rest", "bb"), ("size", "bb"), ("cut", "bbb"), ("glue", "bbb"), ("ask", "bb")]
abbrev B5 : List (Str × Str) := [("has", "bb"), ("names", "bb"), ("go", "n"), ("like", "bbn"), ("rowed", "bn")]
abbrev A2 : List (Str × Str) := [("none", "bn"), ("say", "b")]
abbrev B1 : List (Str × Str) := [("fault", "")]
theorem lf_eq : LF = A6 ++ A1 ++ A5 ++ B5 ++ A2 ++ B1 := by decide +kernel
section
variable {P : Program} {w : World} {K : PySem.W.Frag} {mg : Str → Option Value} {base : Heap} {a : Ad}
/-- more pairs put behind -/
theorem cat_ok {σ : L2.St} {H : Hp} {L : Addr} {vs : List V} {ds : List (Str × Str)} {Q : VK} (ps : List (Str × Str)) (hl : H L = some (.lst vs)) (hd : IsL H (ds.map prD) vs) (hz : ∀ x ∈ ps, x.1.length ≤ 100 ∧ x.2.length ≤ 100) (hn : ds.length + ps.length ≤ 1000)
    (q : ∀ M us H', Same H H' → H' M = some (.lst us) → IsL H' ((ds ++ ps).map prD) us → H M = none → Q (.ref M) H') : tLst (taP ps) σ H fun y H2 => rCat (.ref L) y H2 Q := by
  refine taP_ok ps H _ hz fun us H1 s1 h1 => ?_
  have l1 := h1.length
  have l2 := hd.length
  rw [List.length_map] at l1 l2
  refine ⟨small (by omega), fun M hM => ?_⟩
  have s2 : Same H1 (upd H1 M (.lst us)) := same_new hM _
  refine ⟨L, M, vs, us, rfl, rfl, s2 _ _ (s1 _ _ hl), upd_same, small (by omega), fun N hN => ?_⟩
  have s3 : Same (upd H1 M (.lst us)) (upd (upd H1 M (.lst us)) N (.lst (vs ++ us))) := same_new hN _
  refine q N (vs ++ us) _ (s1.trans (s2.trans s3)) upd_same ?_ ((s1.trans s2).free hN)
  rw [List.map_append]
  exact ((hd.mono (s1.trans (s2.trans s3)).tk)).append (h1.mono (s2.trans s3).tk)
theorem ok_row (T : Tx K mg a) : FnOk P w K mg base CX0 3 a.f_law_row a.d_law_row ["pot", "many", "most"] sp_row := by
  have G_law_take : FnOk P w K mg base CX0 1 a.f_law_take a.d_law_take ["pot", "many"] sp_take := ok_take T
  have G_law_words : FnOk P w K mg base CX0 2 a.f_law_words a.d_law_words ["pot", "most"] sp_words := ok_words T
  refine T.F_law_row.ok sc_law_row (fun vs H Q E h => ?_) (fun cdv A outer s H vs Q E hr h => ?_)
  · obtain ⟨p, n, m, rfl, _⟩ := h
    rfl
  obtain ⟨p, n, m, rfl, hn0, hn, hm, P0, k⟩ := h
  refine ⟨_, (@pss_cons _ _ _ _ _ (@ps_set _ _ (3) _ _ _ _ sc_law_row.nd rfl (Or.inl rfl) (@pe_lst _ _ _ _ (@pa_cons _ _ _ _ _ (@pe_tup _ _ _ _ _ (@pa_cons _ _ _ _ _ (@pe_str _ _ _ _) (@pa_cons _ _ _ _ _ (@pe_str _ _ _ _) (@pa_nil _) (by first | rfl | exact .inl rfl | exact .inr rfl | exact .inr (.inl rfl) | decide | decide +kernel | (intro _; rfl))) (by first | rfl | exact .inl rfl | exact .inr rfl | exact .inr (.inl rfl) | decide | decide +kernel | (intro _; rfl)))) (@pa_cons _ _ _ _ _ (@pe_tup _ _ _ _ _ (@pa_cons _ _ _ _ _ (@pe_str _ _ _ _) (@pa_cons _ _ _ _ _ (@pe_str _ _ _ _) (@pa_nil _) (by first | rfl | exact .inl rfl | exact .inr rfl | exact .inr (.inl rfl) | decide | decide +kernel | (intro _; rfl))) (by first | rfl | exact .inl rfl | exact .inr rfl | exact .inr (.inl rfl) | decide | decide +kernel | (intro _; rfl)))) (@pa_cons _ _ _ _ _ (@pe_tup _ _ _ _ _ (@pa_cons _ _ _ _ _ (@pe_str _ _ _ _) (@pa_cons _ _ _ _ _ (@pe_str _ _ _ _) (@pa_nil _) (by first | rfl | exact .inl rfl | exact .inr rfl | exact .inr (.inl rfl) | decide | decide +kernel | (intro _; rfl))) (by first | rfl | exact .inl rfl | exact .inr rfl | exact .inr (.inl rfl) | decide | decide +kernel | (intro _; rfl)))) (@pa_cons _ _ _ _ _ (@pe_tup _ _ _ _ _ (@pa_cons _ _ _ _ _ (@pe_str _ _ _ _) (@pa_cons _ _ _ _ _ (@pe_str _ _ _ _) (@pa_nil _) (by first | rfl | exact .inl rfl | exact .inr rfl | exact .inr (.inl rfl) | decide | decide +kernel | (intro _; rfl))) (by first | rfl | exact .inl rfl | exact .inr rfl | exact .inr (.inl rfl) | decide | decide +kernel | (intro _; rfl)))) (@pa_cons _ _ _ _ _ (@pe_tup _ _ _ _ _ (@pa_cons _ _ _ _ _ (@pe_str _ _ _ _) (@pa_cons _ _ _ _ _ (@pe_str _ _ _ _) (@pa_nil _) (by first | rfl | exact .inl rfl | exact .inr rfl | exact .inr (.inl rfl) | decide | decide +kernel | (intro _; rfl))) (by first | rfl | exact .inl rfl | exact .inr rfl | exact .inr (.inl rfl) | decide | decide +kernel | (intro _; rfl)))) (@pa_cons _ _ _ _ _ (@pe_tup _ _ _ _ _ (@pa_cons _ _ _ _ _ (@pe_str _ _ _ _) (@pa_cons _ _ _ _ _ (@pe_str _ _ _ _) (@pa_nil _) (by first | rfl | exact .inl rfl | exact .inr rfl | exact .inr (.inl rfl) | decide | decide +kernel | (intro _; rfl))) (by first | rfl | exact .inl rfl | exact .inr rfl | exact .inr (.inl rfl) | decide | decide +kernel | (intro _; rfl)))) (@pa_nil _) (by first | rfl | exact .inl rfl | exact .inr rfl | exact .inr (.inl rfl) | decide | decide +kernel | (intro _; rfl))) (by first | rfl | exact .inl rfl | exact .inr rfl | exact .inr (.inl rfl) | decide | decide +kernel | (intro _; rfl))) (by first | rfl | exact .inl rfl | exact .inr rfl | exact .inr (.inl rfl) | decide | decide +kernel | (intro _; rfl))) (by first | rfl | exact .inl rfl | exact .inr rfl | exact .inr (.inl rfl) | decide | decide +kernel | (intro _; rfl))) (by first | rfl | exact .inl rfl | exact .inr rfl | exact .inr (.inl rfl) | decide | decide +kernel | (intro _; rfl))) (by first | rfl | exact .inl rfl | exact .inr rfl | exact .inr (.inl rfl) | decide | decide +kernel | (intro _; rfl)))) (by first | rfl | exact .inl rfl | exact .inr rfl | exact .inr (.inl rfl) | decide | decide +kernel | (intro _; rfl)) (by first | rfl | exact .inl rfl | exact .inr rfl | exact .inr (.inl rfl) | decide | decide +kernel | (intro _; rfl))) (@pss_cons _ _ _ _ _ (@ps_expr _ _ _ _ (@pe_bm _ _ _ _ _ _ _ _ _ _ _ _ PySem.F.plainAttrs_list PySem.F.slot_list_append PySem.F.type_list_append (@mt_append _) (pv 3) (@pa_cons _ _ _ _ _ (@pe_tup _ _ _ _ _ (@pa_cons _ _ _ _ _ (@pe_str _ _ _ _) (@pa_cons _ _ _ _ _ (@pe_str _ _ _ _) (@pa_nil _) (by first | rfl | exact .inl rfl | exact .inr rfl | exact .inr (.inl rfl) | decide | decide +kernel | (intro _; rfl))) (by first | rfl | exact .inl rfl | exact .inr rfl | exact .inr (.inl rfl) | decide | decide +kernel | (intro _; rfl)))) (@pa_nil _) (by first | rfl | exact .inl rfl | exact .inr rfl | exact .inr (.inl rfl) | decide | decide +kernel | (intro _; rfl))) (by first | rfl | exact .inl rfl | exact .inr rfl | exact .inr (.inl rfl) | decide | decide +kernel | (intro _; rfl)) (by first | rfl | exact .inl rfl | exact .inr rfl | exact .inr (.inl rfl) | decide | decide +kernel | (intro _; rfl)) (by first | rfl | exact .inl rfl | exact .inr rfl | exact .inr (.inl rfl) | decide | decide +kernel | (intro _; rfl)) (by first | rfl | exact .inl rfl | exact .inr rfl | exact .inr (.inl rfl) | decide | decide +kernel | (intro _; rfl)) (by first | rfl | exact .inl rfl | exact .inr rfl | exact .inr (.inl rfl) | decide | decide +kernel | (intro _; rfl))) (by first | rfl | exact .inl rfl | exact .inr rfl | exact .inr (.inl rfl) | decide | decide +kernel | (intro _; rfl))) (@pss_cons _ _ _ _ _ (@ps_set _ _ (3) _ _ _ _ sc_law_row.nd rfl (Or.inl rfl) (@pe_op _ _ _ _ _ _ _ _ (@op_cat _) (pv 3) (@pe_lst _ _ _ _ (@pa_cons _ _ _ _ _ (@pe_tup _ _ _ _ _ (@pa_cons _ _ _ _ _ (@pe_str _ _ _ _) (@pa_cons _ _ _ _ _ (@pe_str _ _ _ _) (@pa_nil _) (by first | rfl | exact .inl rfl | exact .inr rfl | exact .inr (.inl rfl) | decide | decide +kernel | (intro _; rfl))) (by first | rfl | exact .inl rfl | exact .inr rfl | exact .inr (.inl rfl) | decide | decide +kernel | (intro _; rfl)))) (@pa_cons _ _ _ _ _ (@pe_tup _ _ _ _ _ (@pa_cons _ _ _ _ _ (@pe_str _ _ _ _) (@pa_cons _ _ _ _ _ (@pe_str _ _ _ _) (@pa_nil _) (by first | rfl | exact .inl rfl | exact .inr rfl | exact .inr (.inl rfl) | decide | decide +kernel | (intro _; rfl))) (by first | rfl | exact .inl rfl | exact .inr rfl | exact .inr (.inl rfl) | decide | decide +kernel | (intro _; rfl)))) (@pa_cons _ _ _ _ _ (@pe_tup _ _ _ _ _ (@pa_cons _ _ _ _ _ (@pe_str _ _ _ _) (@pa_cons _ _ _ _ _ (@pe_str _ _ _ _) (@pa_nil _) (by first | rfl | exact .inl rfl | exact .inr rfl | exact .inr (.inl rfl) | decide | decide +kernel | (intro _; rfl))) (by first | rfl | exact .inl rfl | exact .inr rfl | exact .inr (.inl rfl) | decide | decide +kernel | (intro _; rfl)))) (@pa_cons _ _ _ _ _ (@pe_tup _ _ _ _ _ (@pa_cons _ _ _ _ _ (@pe_str _ _ _ _) (@pa_cons _ _ _ _ _ (@pe_str _ _ _ _) (@pa_nil _) (by first | rfl | exact .inl rfl | exact .inr rfl | exact .inr (.inl rfl) | decide | decide +kernel | (intro _; rfl))) (by first | rfl | exact .inl rfl | exact .inr rfl | exact .inr (.inl rfl) | decide | decide +kernel | (intro _; rfl)))) (@pa_cons _ _ _ _ _ (@pe_tup _ _ _ _ _ (@pa_cons _ _ _ _ _ (@pe_str _ _ _ _) (@pa_cons _ _ _ _ _ (@pe_str _ _ _ _) (@pa_nil _) (by first | rfl | exact .inl rfl | exact .inr rfl | exact .inr (.inl rfl) | decide | decide +kernel | (intro _; rfl))) (by first | rfl | exact .inl rfl | exact .inr rfl | exact .inr (.inl rfl) | decide | decide +kernel | (intro _; rfl)))) (@pa_nil _) (by first | rfl | exact .inl rfl | exact .inr rfl | exact .inr (.inl rfl) | decide | decide +kernel | (intro _; rfl))) (by first | rfl | exact .inl rfl | exact .inr rfl | exact .inr (.inl rfl) | decide | decide +kernel | (intro _; rfl))) (by first | rfl | exact .inl rfl | exact .inr rfl | exact .inr (.inl rfl) | decide | decide +kernel | (intro _; rfl))) (by first | rfl | exact .inl rfl | exact .inr rfl | exact .inr (.inl rfl) | decide | decide +kernel | (intro _; rfl))) (by first | rfl | exact .inl rfl | exact .inr rfl | exact .inr (.inl rfl) | decide | decide +kernel | (intro _; rfl))))) (by first | rfl | exact .inl rfl | exact .inr rfl | exact .inr (.inl rfl) | decide | decide +kernel | (intro _; rfl)) (by first | rfl | exact .inl rfl | exact .inr rfl | exact .inr (.inl rfl) | decide | decide +kernel | (intro _; rfl))) (@pss_cons _ _ _ _ _ (@ps_set _ _ (3) _ _ _ _ sc_law_row.nd rfl (Or.inl rfl) (@pe_op _ _ _ _ _ _ _ _ (@op_cat _) (pv 3) (@pe_lst _ _ _ _ (@pa_cons _ _ _ _ _ (@pe_tup _ _ _ _ _ (@pa_cons _ _ _ _ _ (@pe_str _ _ _ _) (@pa_cons _ _ _ _ _ (@pe_str _ _ _ _) (@pa_nil _) (by first | rfl | exact .inl rfl | exact .inr rfl | exact .inr (.inl rfl) | decide | decide +kernel | (intro _; rfl))) (by first | rfl | exact .inl rfl | exact .inr rfl | exact .inr (.inl rfl) | decide | decide +kernel | (intro _; rfl)))) (@pa_cons _ _ _ _ _ (@pe_tup _ _ _ _ _ (@pa_cons _ _ _ _ _ (@pe_str _ _ _ _) (@pa_cons _ _ _ _ _ (@pe_str _ _ _ _) (@pa_nil _) (by first | rfl | exact .inl rfl | exact .inr rfl | exact .inr (.inl rfl) | decide | decide +kernel | (intro _; rfl))) (by first | rfl | exact .inl rfl | exact .inr rfl | exact .inr (.inl rfl) | decide | decide +kernel | (intro _; rfl)))) (@pa_cons _ _ _ _ _ (@pe_tup _ _ _ _ _ (@pa_cons _ _ _ _ _ (@pe_str _ _ _ _) (@pa_cons _ _ _ _ _ (@pe_str _ _ _ _) (@pa_nil _) (by first | rfl | exact .inl rfl | exact .inr rfl | exact .inr (.inl rfl) | decide | decide +kernel | (intro _; rfl))) (by first | rfl | exact .inl rfl | exact .inr rfl | exact .inr (.inl rfl) | decide | decide +kernel | (intro _; rfl)))) (@pa_cons _ _ _ _ _ (@pe_tup _ _ _ _ _ (@pa_cons _ _ _ _ _ (@pe_str _ _ _ _) (@pa_cons _ _ _ _ _ (@pe_str _ _ _ _) (@pa_nil _) (by first | rfl | exact .inl rfl | exact .inr rfl | exact .inr (.inl rfl) | decide | decide +kernel | (intro _; rfl))) (by first | rfl | exact .inl rfl | exact .inr rfl | exact .inr (.inl rfl) | decide | decide +kernel | (intro _; rfl)))) (@pa_cons _ _ _ _ _ (@pe_tup _ _ _ _ _ (@pa_cons _ _ _ _ _ (@pe_str _ _ _ _) (@pa_cons _ _ _ _ _ (@pe_str _ _ _ _) (@pa_nil _) (by first | rfl | exact .inl rfl | exact .inr rfl | exact .inr (.inl rfl) | decide | decide +kernel | (intro _; rfl))) (by first | rfl | exact .inl rfl | exact .inr rfl | exact .inr (.inl rfl) | decide | decide +kernel | (intro _; rfl)))) (@pa_nil _) (by first | rfl | exact .inl rfl | exact .inr rfl | exact .inr (.inl rfl) | decide | decide +kernel | (intro _; rfl))) (by first | rfl | exact .inl rfl | exact .inr rfl | exact .inr (.inl rfl) | decide | decide +kernel | (intro _; rfl))) (by first | rfl | exact .inl rfl | exact .inr rfl | exact .inr (.inl rfl) | decide | decide +kernel | (intro _; rfl))) (by first | rfl | exact .inl rfl | exact .inr rfl | exact .inr (.inl rfl) | decide | decide +kernel | (intro _; rfl))) (by first | rfl | exact .inl rfl | exact .inr rfl | exact .inr (.inl rfl) | decide | decide +kernel | (intro _; rfl))))) (by first | rfl | exact .inl rfl | exact .inr rfl | exact .inr (.inl rfl) | decide | decide +kernel | (intro _; rfl)) (by first | rfl | exact .inl rfl | exact .inr rfl | exact .inr (.inl rfl) | decide | decide +kernel | (intro _; rfl))) (@pss_cons _ _ _ _ _ (@ps_set _ _ (3) _ _ _ _ sc_law_row.nd rfl (Or.inl rfl) (@pe_op _ _ _ _ _ _ _ _ (@op_cat _) (pv 3) (@pe_lst _ _ _ _ (@pa_cons _ _ _ _ _ (@pe_tup _ _ _ _ _ (@pa_cons _ _ _ _ _ (@pe_str _ _ _ _) (@pa_cons _ _ _ _ _ (@pe_str _ _ _ _) (@pa_nil _) (by first | rfl | exact .inl rfl | exact .inr rfl | exact .inr (.inl rfl) | decide | decide +kernel | (intro _; rfl))) (by first | rfl | exact .inl rfl | exact .inr rfl | exact .inr (.inl rfl) | decide | decide +kernel | (intro _; rfl)))) (@pa_cons _ _ _ _ _ (@pe_tup _ _ _ _ _ (@pa_cons _ _ _ _ _ (@pe_str _ _ _ _) (@pa_cons _ _ _ _ _ (@pe_str _ _ _ _) (@pa_nil _) (by first | rfl | exact .inl rfl | exact .inr rfl | exact .inr (.inl rfl) | decide | decide +kernel | (intro _; rfl))) (by first | rfl | exact .inl rfl | exact .inr rfl | exact .inr (.inl rfl) | decide | decide +kernel | (intro _; rfl)))) (@pa_nil _) (by first | rfl | exact .inl rfl | exact .inr rfl | exact .inr (.inl rfl) | decide | decide +kernel | (intro _; rfl))) (by first | rfl | exact .inl rfl | exact .inr rfl | exact .inr (.inl rfl) | decide | decide +kernel | (intro _; rfl))))) (by first | rfl | exact .inl rfl | exact .inr rfl | exact .inr (.inl rfl) | decide | decide +kernel | (intro _; rfl)) (by first | rfl | exact .inl rfl | exact .inr rfl | exact .inr (.inl rfl) | decide | decide +kernel | (intro _; rfl))) (@pss_cons _ _ _ _ _ (@ps_asg _ _ _ _ _ _ (@pe_ix _ _ _ _ _ _ _ (@ix_list _) (@pe_op _ _ _ _ _ _ _ _ (@op_cat _) (pv 3) (@pe_lst _ _ _ _ (@pa_cons _ _ _ _ _ (@pe_tup _ _ _ _ _ (@pa_cons _ _ _ _ _ (@pe_str _ _ _ _) (@pa_cons _ _ _ _ _ (@pe_str _ _ _ _) (@pa_nil _) (by first | rfl | exact .inl rfl | exact .inr rfl | exact .inr (.inl rfl) | decide | decide +kernel | (intro _; rfl))) (by first | rfl | exact .inl rfl | exact .inr rfl | exact .inr (.inl rfl) | decide | decide +kernel | (intro _; rfl)))) (@pa_nil _) (by first | rfl | exact .inl rfl | exact .inr rfl | exact .inr (.inl rfl) | decide | decide +kernel | (intro _; rfl))))) (@pe_call _ _ _ _ _ _ _ _ _ _ _ _ _ _ _ _ G_law_take (hr.mono (by first | decide | omega)) (by rfl) T.m_law_take T.F_law_take.kp T.b_law_take .nil pass0 (@pa_cons _ _ _ _ _ (pv 0) (@pa_cons _ _ _ _ _ (@pe_int _ _ _ _) (@pa_nil _) (by first | rfl | exact .inl rfl | exact .inr rfl | exact .inr (.inl rfl) | decide | decide +kernel | (intro _; rfl))) (by first | rfl | exact .inl rfl | exact .inr rfl | exact .inr (.inl rfl) | decide | decide +kernel | (intro _; rfl))) (by first | rfl | exact .inl rfl | exact .inr rfl | exact .inr (.inl rfl) | decide | decide +kernel | (intro _; rfl)) (by first | rfl | exact .inl rfl | exact .inr rfl | exact .inr (.inl rfl) | decide | decide +kernel | (intro _; rfl)) (by first | rfl | exact .inl rfl | exact .inr rfl | exact .inr (.inl rfl) | decide | decide +kernel | (intro _; rfl))) (fun _ _ => rfl)) (@pg_tup _ _ _ _ _ _ rfl (pgs_cons (@pg_name _ _ (4) _ sc_law_row.nd rfl (Or.inl rfl) (by first | rfl | exact .inl rfl | exact .inr rfl | exact .inr (.inl rfl) | decide | decide +kernel | (intro _; rfl))) (pgs_cons (@pg_name _ _ (5) _ sc_law_row.nd rfl (Or.inl rfl) (by first | rfl | exact .inl rfl | exact .inr rfl | exact .inr (.inl rfl) | decide | decide +kernel | (intro _; rfl))) pgs_nil)) (by first | rfl | exact .inl rfl | exact .inr rfl | exact .inr (.inl rfl) | decide | decide +kernel | (intro _; rfl)) (by first | rfl | exact .inl rfl | exact .inr rfl | exact .inr (.inl rfl) | decide | decide +kernel | (intro _; rfl))) (by first | rfl | exact .inl rfl | exact .inr rfl | exact .inr (.inl rfl) | decide | decide +kernel | (intro _; rfl)) (by first | rfl | exact .inl rfl | exact .inr rfl | exact .inr (.inl rfl) | decide | decide +kernel | (intro _; rfl)) (by first | rfl | exact .inl rfl | exact .inr rfl | exact .inr (.inl rfl) | decide | decide +kernel | (intro _; rfl))) (@pss_cons _ _ _ _ _ (@ps_set _ _ (6) _ _ _ _ sc_law_row.nd rfl (Or.inl rfl) (@pe_lst _ _ _ _ (@pa_nil _)) (by first | rfl | exact .inl rfl | exact .inr rfl | exact .inr (.inl rfl) | decide | decide +kernel | (intro _; rfl)) (by first | rfl | exact .inl rfl | exact .inr rfl | exact .inr (.inl rfl) | decide | decide +kernel | (intro _; rfl))) (@pss_cons _ _ _ _ _ (@ps_for _ _ _ _ _ _ _ _ PassesOwn.never rfl (@pi_str _ _ _ _ (pv 5)) (@pg_name _ _ (7) _ sc_law_row.nd rfl (Or.inl rfl) (by first | rfl | exact .inl rfl | exact .inr rfl | exact .inr (.inl rfl) | decide | decide +kernel | (intro _; rfl))) (@pss_one _ _ _ (@ps_if _ _ _ _ _ _ _ _ (@pt_cmpR _ _ _ _ _ _ _ _ (@op_eq _) (pv 7) (@pe_str _ _ _ _) (nomark _)) (@pss_one _ _ _ (@ps_expr _ _ _ _ (@pe_bm _ _ _ _ _ _ _ _ _ _ _ _ PySem.F.plainAttrs_list PySem.F.slot_list_append PySem.F.type_list_append (@mt_append _) (pv 6) (@pa_cons _ _ _ _ _ (@pe_ix _ _ _ _ _ _ _ (@ix_str _) (@pe_str _ _ _ _) (@pe_call _ _ _ _ _ _ _ _ _ _ _ _ _ _ _ _ G_law_take (hr.mono (by first | decide | omega)) (by rfl) T.m_law_take T.F_law_take.kp T.b_law_take .nil pass0 (@pa_cons _ _ _ _ _ (pv 0) (@pa_cons _ _ _ _ _ (@pe_int _ _ _ _) (@pa_nil _) (by first | rfl | exact .inl rfl | exact .inr rfl | exact .inr (.inl rfl) | decide | decide +kernel | (intro _; rfl))) (by first | rfl | exact .inl rfl | exact .inr rfl | exact .inr (.inl rfl) | decide | decide +kernel | (intro _; rfl))) (by first | rfl | exact .inl rfl | exact .inr rfl | exact .inr (.inl rfl) | decide | decide +kernel | (intro _; rfl)) (by first | rfl | exact .inl rfl | exact .inr rfl | exact .inr (.inl rfl) | decide | decide +kernel | (intro _; rfl)) (by first | rfl | exact .inl rfl | exact .inr rfl | exact .inr (.inl rfl) | decide | decide +kernel | (intro _; rfl))) (fun _ _ => rfl)) (@pa_nil _) (by first | rfl | exact .inl rfl | exact .inr rfl | exact .inr (.inl rfl) | decide | decide +kernel | (intro _; rfl))) (by first | rfl | exact .inl rfl | exact .inr rfl | exact .inr (.inl rfl) | decide | decide +kernel | (intro _; rfl)) (by first | rfl | exact .inl rfl | exact .inr rfl | exact .inr (.inl rfl) | decide | decide +kernel | (intro _; rfl)) (by first | rfl | exact .inl rfl | exact .inr rfl | exact .inr (.inl rfl) | decide | decide +kernel | (intro _; rfl)) (by first | rfl | exact .inl rfl | exact .inr rfl | exact .inr (.inl rfl) | decide | decide +kernel | (intro _; rfl)) (by first | rfl | exact .inl rfl | exact .inr rfl | exact .inr (.inl rfl) | decide | decide +kernel | (intro _; rfl))) (by first | rfl | exact .inl rfl | exact .inr rfl | exact .inr (.inl rfl) | decide | decide +kernel | (intro _; rfl)))) (@pss_one _ _ _ (@ps_if _ _ _ _ _ _ _ _ (@pt_cmpR _ _ _ _ _ _ _ _ (@op_eq _) (pv 7) (@pe_str _ _ _ _) (nomark _)) (@pss_one _ _ _ (@ps_expr _ _ _ _ (@pe_bm _ _ _ _ _ _ _ _ _ _ _ _ PySem.F.plainAttrs_list PySem.F.slot_list_append PySem.F.type_list_append (@mt_append _) (pv 6) (@pa_cons _ _ _ _ _ (@pe_op _ _ _ _ _ _ _ _ (@op_add _) (@pe_int _ _ _ _) (@pe_call _ _ _ _ _ _ _ _ _ _ _ _ _ _ _ _ G_law_take (hr.mono (by first | decide | omega)) (by rfl) T.m_law_take T.F_law_take.kp T.b_law_take .nil pass0 (@pa_cons _ _ _ _ _ (pv 0) (@pa_cons _ _ _ _ _ (pv 1) (@pa_nil _) (by first | rfl | exact .inl rfl | exact .inr rfl | exact .inr (.inl rfl) | decide | decide +kernel | (intro _; rfl))) (by first | rfl | exact .inl rfl | exact .inr rfl | exact .inr (.inl rfl) | decide | decide +kernel | (intro _; rfl))) (by first | rfl | exact .inl rfl | exact .inr rfl | exact .inr (.inl rfl) | decide | decide +kernel | (intro _; rfl)) (by first | rfl | exact .inl rfl | exact .inr rfl | exact .inr (.inl rfl) | decide | decide +kernel | (intro _; rfl)) (by first | rfl | exact .inl rfl | exact .inr rfl | exact .inr (.inl rfl) | decide | decide +kernel | (intro _; rfl)))) (@pa_nil _) (by first | rfl | exact .inl rfl | exact .inr rfl | exact .inr (.inl rfl) | decide | decide +kernel | (intro _; rfl))) (by first | rfl | exact .inl rfl | exact .inr rfl | exact .inr (.inl rfl) | decide | decide +kernel | (intro _; rfl)) (by first | rfl | exact .inl rfl | exact .inr rfl | exact .inr (.inl rfl) | decide | decide +kernel | (intro _; rfl)) (by first | rfl | exact .inl rfl | exact .inr rfl | exact .inr (.inl rfl) | decide | decide +kernel | (intro _; rfl)) (by first | rfl | exact .inl rfl | exact .inr rfl | exact .inr (.inl rfl) | decide | decide +kernel | (intro _; rfl)) (by first | rfl | exact .inl rfl | exact .inr rfl | exact .inr (.inl rfl) | decide | decide +kernel | (intro _; rfl))) (by first | rfl | exact .inl rfl | exact .inr rfl | exact .inr (.inl rfl) | decide | decide +kernel | (intro _; rfl)))) (@pss_one _ _ _ (@ps_expr _ _ _ _ (@pe_bm _ _ _ _ _ _ _ _ _ _ _ _ PySem.F.plainAttrs_list PySem.F.slot_list_append PySem.F.type_list_append (@mt_append _) (pv 6) (@pa_cons _ _ _ _ _ (@pe_call _ _ _ _ _ _ _ _ _ _ _ _ _ _ _ _ G_law_words (hr.mono (by first | decide | omega)) (by rfl) T.m_law_words T.F_law_words.kp T.b_law_words .nil pass0 (@pa_cons _ _ _ _ _ (pv 0) (@pa_cons _ _ _ _ _ (pv 2) (@pa_nil _) (by first | rfl | exact .inl rfl | exact .inr rfl | exact .inr (.inl rfl) | decide | decide +kernel | (intro _; rfl))) (by first | rfl | exact .inl rfl | exact .inr rfl | exact .inr (.inl rfl) | decide | decide +kernel | (intro _; rfl))) (by first | rfl | exact .inl rfl | exact .inr rfl | exact .inr (.inl rfl) | decide | decide +kernel | (intro _; rfl)) (by first | rfl | exact .inl rfl | exact .inr rfl | exact .inr (.inl rfl) | decide | decide +kernel | (intro _; rfl)) (by first | rfl | exact .inl rfl | exact .inr rfl | exact .inr (.inl rfl) | decide | decide +kernel | (intro _; rfl))) (@pa_nil _) (by first | rfl | exact .inl rfl | exact .inr rfl | exact .inr (.inl rfl) | decide | decide +kernel | (intro _; rfl))) (by first | rfl | exact .inl rfl | exact .inr rfl | exact .inr (.inl rfl) | decide | decide +kernel | (intro _; rfl)) (by first | rfl | exact .inl rfl | exact .inr rfl | exact .inr (.inl rfl) | decide | decide +kernel | (intro _; rfl)) (by first | rfl | exact .inl rfl | exact .inr rfl | exact .inr (.inl rfl) | decide | decide +kernel | (intro _; rfl)) (by first | rfl | exact .inl rfl | exact .inr rfl | exact .inr (.inl rfl) | decide | decide +kernel | (intro _; rfl)) (by first | rfl | exact .inl rfl | exact .inr rfl | exact .inr (.inl rfl) | decide | decide +kernel | (intro _; rfl))) (by first | rfl | exact .inl rfl | exact .inr rfl | exact .inr (.inl rfl) | decide | decide +kernel | (intro _; rfl)))))))) (by first | rfl | exact .inl rfl | exact .inr rfl | exact .inr (.inl rfl) | decide | decide +kernel | (intro _; rfl))) (@pss_one _ _ _ (@ps_ret _ _ _ _ (@pe_tup _ _ _ _ _ (@pa_cons _ _ _ _ _ (pv 4) (@pa_cons _ _ _ _ _ (@pe_callTy _ _ _ _ _ _ _ _ _ (@call_tuple_of _) (by rfl) T.z_tuple boot_tuple (@pa_cons _ _ _ _ _ (pv 6) (@pa_nil _) (by first | rfl | exact .inl rfl | exact .inr rfl | exact .inr (.inl rfl) | decide | decide +kernel | (intro _; rfl))) (by first | rfl | exact .inl rfl | exact .inr rfl | exact .inr (.inl rfl) | decide | decide +kernel | (intro _; rfl)) (by first | rfl | exact .inl rfl | exact .inr rfl | exact .inr (.inl rfl) | decide | decide +kernel | (intro _; rfl)) (by first | rfl | exact .inl rfl | exact .inr rfl | exact .inr (.inl rfl) | decide | decide +kernel | (intro _; rfl)) (by first | rfl | exact .inl rfl | exact .inr rfl | exact .inr (.inl rfl) | decide | decide +kernel | (intro _; rfl))) (@pa_nil _) (by first | rfl | exact .inl rfl | exact .inr rfl | exact .inr (.inl rfl) | decide | decide +kernel | (intro _; rfl))) (by first | rfl | exact .inl rfl | exact .inr rfl | exact .inr (.inl rfl) | decide | decide +kernel | (intro _; rfl)))))))))))))), ?_⟩
  dsimp only [tSeq, tAsg, tLst]
  refine taP_ok A6 _ _ ?z fun vs H1 s1 h1 => ?_
  case z => decide +kernel
  have l1 := h1.length
  rw [List.length_map] at l1
  refine ⟨small (by rw [l1]; show 6 ≤ 1000; decide), fun L1 g1 => ?_⟩
  have s2 : Same H (upd H1 L1 (.lst vs)) := s1.trans (same_new g1 _)
  have e2 : (upd H1 L1 (.lst vs)) L1 = some (.lst vs) := upd_same
  have h2 := h1.mono (same_new g1 (.lst vs)).tk
  have f2 : H L1 = none := s1.free g1
  generalize upd H1 L1 (.lst vs) = H2 at s2 e2 h2 ⊢
  clear s1 g1 h1
  refine ⟨_, rfl, .inl ⟨rfl, _, SqL.of e2⟩, ?_⟩
  refine taP_ok A1 _ _ ?z fun us H3 s3 h3 => ?_
  case z => decide +kernel
  obtain ⟨t, r3, rfl, it, hr3⟩ := h3
  cases (show r3 = [] from hr3)
  have e3 := s3 _ _ e2
  refine ⟨L1, vs, t, rfl, rfl, e3, small1000 (by rw [l1]; show 6 ≤ 1000; decide), ?_⟩
  have s4 : Same H (upd H3 L1 (.lst (vs ++ [t]))) := fun b o z => by rw [upd_ne (ne_of_none z f2)]; exact s3 b o (s2 b o z)
  have t4 : Tk H3 (upd H3 L1 (.lst (vs ++ [t]))) := Tk.updL e3
  have h4 : L2.IsL (upd H3 L1 (.lst (vs ++ [t]))) ((A6 ++ A1).map prD) (vs ++ [t]) := by
    rw [List.map_append]
    exact ((h2.mono s3.tk).mono t4).append (IsL.one (it.mono t4))
  have e4 : (upd H3 L1 (.lst (vs ++ [t]))) L1 = some (.lst (vs ++ [t])) := upd_same
  generalize upd H3 L1 (.lst (vs ++ [t])) = H4 at s4 h4 e4 ⊢
  clear t4 e3 it s3 h2 e2 s2 f2 l1
  dsimp only [gName, tSeq, tAsg, tOp, tVar]
  refine ⟨_, rfl, cat_ok A5 e4 h4 ?z ?y fun L5 v5 H5 s5 e5 h5 _ => ?_⟩
  case z => decide +kernel
  case y => show 7 + 5 ≤ 1000; decide
  replace s5 := s4.trans s5
  clear s4 h4 e4
  refine ⟨_, rfl, cat_ok B5 e5 h5 ?z ?y fun L6 v6 H6 s6 e6 h6 _ => ?_⟩
  case z => decide +kernel
  case y => show 12 + 5 ≤ 1000; decide
  replace s6 := s5.trans s6
  clear s5 h5 e5
  refine ⟨_, rfl, cat_ok A2 e6 h6 ?z ?y fun L7 v7 H7 s7 e7 h7 _ => ?_⟩
  case z => decide +kernel
  case y => show 17 + 2 ≤ 1000; decide
  replace s7 := s6.trans s7
  clear s6 h6 e6
  refine ⟨_, rfl, cat_ok B1 e7 h7 ?z ?y fun L8 v8 H8 s8 e8 h8 _ => ?_⟩
  case z => decide +kernel
  case y => show 19 + 1 ≤ 1000; decide
  replace s8 := s7.trans s8
  clear s7 h7 e7
  have h8' : L2.IsL H8 (LF.map prD) v8 := by rw [lf_eq]; exact h8
  clear h8
  have P8 := P0.same s8
  refine ⟨_, rfl, p, 20, rfl, P8, by decide, by decide, fun d H9 a9 b9 P9 K9 => ?_⟩
  have t9 := P8.tk P9 K9
  have hpL : p ≠ L8 := fun z => by
    obtain ⟨x, e, _⟩ := P8
    rw [z, e8] at e
    cases e
    have := h8'.length
    rw [lf_eq] at this
    cases this
  have e9 := K9 _ _ e8 (Ne.symm hpL)
  obtain ⟨pd, pv, at9, is9, mem9⟩ := IsL.pick (h8'.mono t9) a9 (by rw [lf_eq]; exact b9)
  obtain ⟨x9, hx9, rfl⟩ := List.mem_map.mp mem9
  obtain ⟨y9, hy9, rfl⟩ := List.mem_map.mp hx9
  obtain ⟨wd, ks⟩ := y9
  refine ⟨L8, v8, d, pv, rfl, rfl, SqL.of e9, at9, ?_⟩
  obtain ⟨aq, vq, rfl, hq, hvq⟩ := is9
  obtain ⟨w1, r1, rfl, ⟨rfl, hwd⟩, w2, r2, rfl, ⟨rfl, _⟩, hr2⟩ := hvq
  cases (show r2 = [] from hr2)
  refine ⟨aq, _, rfl, SqT.of hq, rfl, _, _, rfl, _, _, rfl, rfl, ?_⟩
  refine ⟨(by show 0 ≤ sizeLine; decide), fun Lp gp => ?_⟩
  have hpp : p ≠ Lp := P9.free gp
  refine ⟨_, rfl, kstr ks, rfl, ?_⟩
  refine for_str (fun i σ H' => ∃ (ps : List Pt) (us : List V) (kv : Option V), σ = [some (.ref p), some (.int n), some (.int m), some (.ref L7), some (.str wd), some (.str (kstr ks)), some (.ref Lp), kv] ∧ H' Lp = some (.lst us) ∧ L2.IsL H' (ps.map Pt.d) us ∧ ptsOk n m (ks.take i) ps ∧ ps.length = i ∧ i ≤ ks.length ∧ PotAt H' p ∧ Kept p H9 H')
    ⟨[], [], none, rfl, upd_same, rfl, trivial, rfl, Nat.zero_le _, P9.same (same_new gp _), (same_new gp _).kept⟩ ?_ ?_
  · rintro i c σ H' hc ⟨ps, us, kv, rfl, eL, hu, hok, hpl, hi, P', K'⟩
    obtain ⟨kd, hk, rfl⟩ := kstr_get hc
    have hil : i < ks.length := (List.getElem?_eq_some_iff.mp hk).1
    have hul : us.length = i := by rw [hu.length, List.length_map, hpl]
    have hksl : ks.length ≤ 3 := by
      have key : ∀ x ∈ FRM, x.2.length ≤ 3 := by decide +kernel
      exact key _ hy9
    have etake : ks.take (i + 1) = ks.take i ++ [kd] := by rw [List.take_add_one, hk]; rfl
    have fin : ∀ (q : Pt) (v : V) (H5 : Hp), ptOk n m kd q → Is H5 q.d v → PotAt H5 p → Kept p H' H5 → ∃ (l : Addr) (xs : List V) (y : V), V.ref Lp = .ref l ∧ [v] = [y] ∧ H5 l = some (.lst xs) ∧ xs.length < sizeLine ∧
        (∃ (ps : List Pt) (us : List V) (kv : Option V), [some (V.ref p), some (.int n), some (.int m), some (.ref L7), some (.str wd), some (.str (kstr ks)), some (.ref Lp), some (.str ⟨#[code kd]⟩)] = [some (.ref p), some (.int n), some (.int m), some (.ref L7), some (.str wd), some (.str (kstr ks)), some (.ref Lp), kv] ∧ (upd H5 l (.lst (xs ++ [y]))) Lp = some (.lst us) ∧ L2.IsL (upd H5 l (.lst (xs ++ [y]))) (ps.map Pt.d) us ∧ ptsOk n m (ks.take (i + 1)) ps ∧ ps.length = i + 1 ∧ i + 1 ≤ ks.length ∧ PotAt (upd H5 l (.lst (xs ++ [y]))) p ∧ Kept p H9 (upd H5 l (.lst (xs ++ [y])))) := by
      intro q v H5 hq hv P5 K5
      have e5 := K5 _ _ eL (Ne.symm hpp)
      have t5 := P'.tk P5 K5
      have t6 : Tk H5 (upd H5 Lp (.lst (us ++ [v]))) := Tk.updL e5
      refine ⟨Lp, us, v, rfl, rfl, e5, small1000 (by omega), ps ++ [q], us ++ [v], _, rfl, upd_same, ?_, ?_, by simp [hpl], hil, ?_, ?_⟩
      · rw [List.map_append]
        exact ((hu.mono t5).mono t6).append (IsL.one (hv.mono t6))
      · rw [etake]; exact ptsOk_snoc hok hq
      · obtain ⟨x1, e1, r1⟩ := P5
        exact ⟨x1, by rw [upd_ne hpp]; exact e1, r1⟩
      · intro b o e hb
        rw [upd_ne (ne_of_none e gp)]
        exact K5 b o (K' b o e hb) hb
    refine ⟨_, rfl, rfl, _, rfl, ?_⟩
    cases kd with
    | box =>
      have e : decide (V.str ⟨#[code .box]⟩ = V.str ("b" : Str)) = true := by decide +kernel
      rw [e]
      refine iteT ⟨_, rfl, .inl ⟨rfl, _, SqL.of eL⟩, _, rfl, p, 8, rfl, P', by decide, by decide, fun d H5 a5 b5 P5 K5 => ?_⟩
      obtain ⟨c, hc⟩ := atI_some (xs := ("abcdefgh" : Str).cps.toList) (i := d) a5 b5
      refine ⟨_, d, c, rfl, rfl, small (by decide +kernel), hc, ?_⟩
      exact fin (.s ⟨#[c]⟩) _ H5 (box_at hc) ⟨rfl, small (by show 1 ≤ 1000; decide)⟩ P5 K5
    | line =>
      have e : decide (V.str ⟨#[code .line]⟩ = V.str ("b" : Str)) = false := by decide +kernel
      rw [e]
      refine iteF ⟨_, rfl, rfl, _, rfl, ?_⟩
      have e : decide (V.str ⟨#[code .line]⟩ = V.str ("n" : Str)) = true := by decide +kernel
      rw [e]
      refine iteT ⟨_, rfl, .inl ⟨rfl, _, SqL.of eL⟩, _, rfl, _, rfl, p, _, rfl, P', by omega, by omega, fun d H5 a5 b5 P5 K5 => ⟨_, _, rfl, rfl, ?_⟩⟩
      exact fin (.n (1 + d)) _ H5 ⟨by omega, by omega⟩ rfl P5 K5
    | words =>
      have e : decide (V.str ⟨#[code .words]⟩ = V.str ("b" : Str)) = false := by decide +kernel
      rw [e]
      refine iteF ⟨_, rfl, rfl, _, rfl, ?_⟩
      have e : decide (V.str ⟨#[code .words]⟩ = V.str ("n" : Str)) = false := by decide +kernel
      rw [e]
      refine iteF ⟨_, rfl, .inl ⟨rfl, _, SqL.of eL⟩, _, rfl, _, rfl, p, m, rfl, hm, P', fun z H5 hz hall P5 K5 => ?_⟩
      exact fin (.s z) _ H5 ⟨hz, hall⟩ ⟨rfl, small (by omega)⟩ P5 K5
  · rintro σ H' ⟨ps, us, kv, rfl, eL, hu, hok, hpl, hi, P', K'⟩
    have esz : (kstr ks).cps.size = ks.length := by unfold kstr; simp
    rw [esz, List.take_of_length_le (Nat.le_refl _)] at hok
    refine ⟨_, rfl, _, rfl, Lp, us, rfl, .inl ⟨SqL.of eL, fun t1 g1 => ⟨(by show 2 ≤ sizeLine; decide), fun t2 g2 => ?_⟩⟩⟩
    have i1 : Is (upd H' t1 (.tup us)) (.tup (ps.map Pt.d)) (.ref t1) := Is.new hu g1
    have i2 : Is (upd (upd H' t1 (.tup us)) t2 (.tup [.str wd, .ref t1])) (rowD (wd, ps)) (.ref t2) := Is.new (ds := [.str wd, .tup (ps.map Pt.d)]) ⟨_, _, rfl, ⟨rfl, hwd⟩, _, _, rfl, i1, rfl⟩ g2
    have s9 : Same H' (upd (upd H' t1 (.tup us)) t2 (.tup [.str wd, .ref t1])) := (same_new g1 _).trans (same_new g2 _)
    exact k _ (wd, ps) _ ⟨ks, hy9, hok⟩ i2 (P'.same s9) ((s8.kept.trans K9).trans (K'.trans s9.kept))
end
end K06

set_option Elab.async false
set_option linter.all false
set_option maxRecDepth 100000
set_option maxHeartbeats 4000000
namespace K06
open PySem L2 PyProof.Rows
def txt : D → Bool
  | .str z => okText z
  | _ => false
def sp_is_text : Sp := fun vs H Q _ => ∃ v d, vs = [v] ∧ Is H d v ∧ Q (.bl (txt d)) H
def sp_is_tree : Sp := fun vs H Q _ => ∃ v d, vs = [v] ∧ Is H d v ∧ ∀ H', Same H H' → Q (.bl (isT d)) H'
def pr (p : D × Nat) : D := .tup [p.1, .int (p.2 : Int)]
theorem okText_long {z : Str} (h : 300 < z.length) : okText z = false := by
  unfold okText
  rw [decide_eq_false (by omega)]
  rfl
theorem okText_bad {z : Str} {i c : Nat} (h : z.cps[i]? = some c) (hc : okSign c = false) : okText z = false := by
  unfold okText
  have hm : c ∈ z.cps.toList := by
    have : z.cps.toList[i]? = some c := by simpa using h
    exact List.mem_of_getElem? this
  have : z.cps.toList.all okSign = false := by
    rw [List.all_eq_false]
    exact ⟨c, hm, by rw [hc]; exact Bool.false_ne_true⟩
  rw [this, Bool.and_false]
section
variable {P : Program} {w : World} {K : PySem.W.Frag} {mg : Str → Option Value} {base : Heap} {a : Ad}
theorem ok_is_text (T : Tx K mg a) : FnOk P w K mg base CX0 1 a.f_is_text a.d_is_text ["value"] sp_is_text := by
  refine T.F_is_text.ok sc_is_text (fun vs H Q E h => ?_) (fun cdv A outer s H vs Q E hr h => ?_)
  · obtain ⟨v, d, rfl, _⟩ := h
    rfl
  obtain ⟨v, d, rfl, hv, k⟩ := h
  refine ⟨_, (@pss_cons _ _ _ _ _ (@ps_if _ _ _ _ _ _ _ _ (@pw_or _ _ _ _ _ _ _ (@pt_not _ _ _ _ (@pt_val _ _ _ (@pe_callB _ _ _ _ _ _ _ _ _ (@call_isinst _ _ rfl) (by rfl) T.z_isinstance boot_isinstance (@pa_cons _ _ _ _ _ (pv 0) (@pa_cons _ _ _ _ _ (@pe_bltn _ _ (.ty "str") _ _ (by rfl) T.z_str boot_str rfl (by first | rfl | exact .inl rfl | exact .inr rfl | exact .inr (.inl rfl) | decide | decide +kernel | (intro _; rfl)) (by first | rfl | exact .inl rfl | exact .inr rfl | exact .inr (.inl rfl) | decide | decide +kernel | (intro _; rfl))) (@pa_nil _) (by first | rfl | exact .inl rfl | exact .inr rfl | exact .inr (.inl rfl) | decide | decide +kernel | (intro _; rfl))) (by first | rfl | exact .inl rfl | exact .inr rfl | exact .inr (.inl rfl) | decide | decide +kernel | (intro _; rfl))) (by first | rfl | exact .inl rfl | exact .inr rfl | exact .inr (.inl rfl) | decide | decide +kernel | (intro _; rfl)) (by first | rfl | exact .inl rfl | exact .inr rfl | exact .inr (.inl rfl) | decide | decide +kernel | (intro _; rfl)) (by first | rfl | exact .inl rfl | exact .inr rfl | exact .inr (.inl rfl) | decide | decide +kernel | (intro _; rfl)) (by first | rfl | exact .inl rfl | exact .inr rfl | exact .inr (.inl rfl) | decide | decide +kernel | (intro _; rfl))) (by first | rfl | exact .inl rfl | exact .inr rfl | exact .inr (.inl rfl) | decide | decide +kernel | (intro _; rfl)))) (@pw_or1 _ _ _ _ (@pt_cmpR _ _ _ _ _ _ _ _ (@op_gt _) (@pe_callB _ _ _ _ _ _ _ _ _ (@call_len_str _) (by rfl) T.z_len PySem.boot_len (@pa_cons _ _ _ _ _ (pv 0) (@pa_nil _) (by first | rfl | exact .inl rfl | exact .inr rfl | exact .inr (.inl rfl) | decide | decide +kernel | (intro _; rfl))) (by first | rfl | exact .inl rfl | exact .inr rfl | exact .inr (.inl rfl) | decide | decide +kernel | (intro _; rfl)) (by first | rfl | exact .inl rfl | exact .inr rfl | exact .inr (.inl rfl) | decide | decide +kernel | (intro _; rfl)) (by first | rfl | exact .inl rfl | exact .inr rfl | exact .inr (.inl rfl) | decide | decide +kernel | (intro _; rfl)) (by first | rfl | exact .inl rfl | exact .inr rfl | exact .inr (.inl rfl) | decide | decide +kernel | (intro _; rfl))) (@pe_gI _ _ _ _ (by rfl) T.m_MOST_SIGNS (by first | rfl | exact .inl rfl | exact .inr rfl | exact .inr (.inl rfl) | decide | decide +kernel | (intro _; rfl))) (nomark _)))).pt (@pss_one _ _ _ (@ps_ret _ _ _ _ (@pe_bl _ _ _ _))) (@pss_nil _)) (@pss_cons _ _ _ _ _ (@ps_for _ _ _ _ _ _ _ _ PassesOwn.never rfl (@pi_str _ _ _ _ (pv 0)) (@pg_name _ _ (1) _ sc_is_text.nd rfl (Or.inl rfl) (by first | rfl | exact .inl rfl | exact .inr rfl | exact .inr (.inl rfl) | decide | decide +kernel | (intro _; rfl))) (@pss_one _ _ _ (@ps_if _ _ _ _ _ _ _ _ (@pw_or _ _ _ _ _ _ _ (@pt_cmpR _ _ _ _ _ _ _ _ (@op_lt_str _) (pv 1) (@pe_str _ _ _ _) (nomark _)) (@pw_or _ _ _ _ _ _ _ (@pt_cmpR _ _ _ _ _ _ _ _ (@op_gt_str _) (pv 1) (@pe_str _ _ _ _) (nomark _)) (@pw_or1 _ _ _ _ (@pt_cmpR _ _ _ _ _ _ _ _ (@op_eq _) (@pe_callB _ _ _ _ _ _ _ _ _ (@call_ord _) (by rfl) T.z_ord boot_ord (@pa_cons _ _ _ _ _ (pv 1) (@pa_nil _) (by first | rfl | exact .inl rfl | exact .inr rfl | exact .inr (.inl rfl) | decide | decide +kernel | (intro _; rfl))) (by first | rfl | exact .inl rfl | exact .inr rfl | exact .inr (.inl rfl) | decide | decide +kernel | (intro _; rfl)) (by first | rfl | exact .inl rfl | exact .inr rfl | exact .inr (.inl rfl) | decide | decide +kernel | (intro _; rfl)) (by first | rfl | exact .inl rfl | exact .inr rfl | exact .inr (.inl rfl) | decide | decide +kernel | (intro _; rfl)) (by first | rfl | exact .inl rfl | exact .inr rfl | exact .inr (.inl rfl) | decide | decide +kernel | (intro _; rfl))) (@pe_gI _ _ _ _ (by rfl) T.m_PERCENT (by first | rfl | exact .inl rfl | exact .inr rfl | exact .inr (.inl rfl) | decide | decide +kernel | (intro _; rfl))) (nomark _))))).pt (@pss_one _ _ _ (@ps_ret _ _ _ _ (@pe_bl _ _ _ _))) (@pss_nil _))) (by first | rfl | exact .inl rfl | exact .inr rfl | exact .inr (.inl rfl) | decide | decide +kernel | (intro _; rfl))) (@pss_one _ _ _ (@ps_ret _ _ _ _ (@pe_bl _ _ _ _))))), ?_⟩
  refine ⟨_, rfl, v, "str", tyD d, isStr d, rfl, hv.ty, kit_str d, _, rfl, ?_⟩
  cases d with
  | str z =>
    obtain ⟨rfl, hz⟩ := hv
    refine iteF ?_
    refine ⟨_, rfl, z, rfl, hz, _, _, rfl, rfl, _, rfl, ?_⟩
    refine ite2 (fun c => ?_) (fun c => ?_)
    · have c' : (300 : Int) < (z.length : Int) := of_decide_eq_true c
      have e : txt (.str z) = false := okText_long (by omega)
      rw [e] at k
      exact k
    · have c' : ¬ (300 : Int) < (z.length : Int) := fun q => c (decide_eq_true q)
      refine ⟨_, rfl, z, rfl, ?_⟩
      refine for_str (fun i σ H' => (∃ x, σ = [some (.str z), x]) ∧ H' = H ∧ (z.cps.toList.take i).all okSign = true) ⟨⟨_, rfl⟩, rfl, rfl⟩ ?_ ?_
      · rintro i c σ H' hc ⟨⟨x, rfl⟩, rfl, hall⟩
        have bad : okSign c = false → Q (.bl false) H' := fun e => by
          have e' : txt (.str z) = false := okText_bad hc e
          rw [e'] at k
          exact k
        refine ⟨_, rfl, _, _, rfl, rfl, _, rfl, ?_⟩
        rw [show decide ((⟨#[c]⟩ : Str).cps.toList < (" " : Str).cps.toList) = decide (c < 32) from lt_one c 32]
        refine ite2 (fun c1 => ?_) (fun c1 => ?_)
        · refine iteT (bad ?_)
          have := of_decide_eq_true c1
          unfold okSign
          rw [decide_eq_false (by omega)]
          rfl
        · have c1' : ¬ c < 32 := fun q => c1 (decide_eq_true q)
          refine ⟨_, rfl, _, _, rfl, rfl, _, rfl, ?_⟩
          rw [show decide (("~" : Str).cps.toList < (⟨#[c]⟩ : Str).cps.toList) = decide (126 < c) from one_gt c 126]
          refine ite2 (fun c2 => ?_) (fun c2 => ?_)
          · refine iteT (bad ?_)
            have := of_decide_eq_true c2
            unfold okSign
            rw [decide_eq_false (p := c ≤ 126) (by omega), Bool.and_false]
            rfl
          · have c2' : ¬ 126 < c := fun q => c2 (decide_eq_true q)
            refine ⟨_, rfl, _, rfl, rfl, rfl, _, rfl, ?_⟩
            refine ite2 (fun c3 => ?_) (fun c3 => ?_)
            · have c3' : c = 37 := by
                have := of_decide_eq_true c3
                have := V.int.inj this
                exact Int.ofNat.inj this
              exact bad (by subst c3'; rfl)
            · have c3' : c ≠ 37 := fun q => c3 (decide_eq_true (by rw [q]; rfl))
              refine ⟨⟨_, rfl⟩, rfl, ?_⟩
              rw [List.take_add_one, show z.cps.toList[i]? = some c by simpa using hc, List.all_append, hall]
              show (true && (okSign c && true)) = true
              unfold okSign
              rw [decide_eq_true (by omega), decide_eq_true (p := c ≤ 126) (by omega), decide_eq_true c3']
              rfl
      · rintro σ H' ⟨⟨x, rfl⟩, rfl, hall⟩
        have e : txt (.str z) = true := by
          show okText z = true
          unfold okText
          rw [List.take_of_length_le (by simp)] at hall
          rw [hall, decide_eq_true (by omega)]
          rfl
        rw [e] at k
        exact k
  | _ => exact iteT (iteT k)
end
end K06

set_option Elab.async false
set_option linter.all false
set_option maxRecDepth 100000
set_option maxHeartbeats 4000000
namespace K06
open PySem L2 PyProof.Rows
theorem map_snoc {α β : Type} (f : α → β) (xs : List α) (x : α) : (xs ++ [x]).map f = xs.map f ++ [f x] := by simp
theorem last_at {α : Type} (us : List α) (x : α) : (us ++ [x])[(us ++ [x]).length - 1]? = some x := by simp
theorem drop_last {α : Type} (us : List α) (x : α) : (us ++ [x]).dropLast = us := by simp
/-- what is_tree's loop knows -/
def Wt (v : V) (d : D) (H : Hp) (L : Addr) (m : Nat) (σ : L2.St) (H' : Hp) : Prop :=
  ∃ (n : Nat) (w : List (D × Nat)) (ws : List V) (x3 x4 x5 : Option V), σ = [some v, some (.int n), some (.ref L), x3, x4, x5] ∧ Same H H' ∧ H' L = some (.lst ws) ∧ IsL H' (w.map pr) ws ∧ G w n = isT d ∧ n ≤ 600 ∧ w.length ≤ 1 + 40 * n ∧ m = ndL (w.map (·.1))
section
variable {P : Program} {w : World} {K : PySem.W.Frag} {mg : Str → Option Value} {base : Heap} {a : Ad}
theorem ok_is_tree (T : Tx K mg a) : FnOk P w K mg base CX0 2 a.f_is_tree a.d_is_tree ["value"] sp_is_tree := by
  have G_is_text : FnOk P w K mg base CX0 1 a.f_is_text a.d_is_text ["value"] sp_is_text := ok_is_text T
  refine T.F_is_tree.ok sc_is_tree (fun vs H Q E h => ?_) (fun cdv A outer s H vs Q E hr h => ?_)
  · obtain ⟨v, d, rfl, _⟩ := h
    rfl
  obtain ⟨v, d, rfl, hv, k⟩ := h
  refine ⟨_, (@pss_cons _ _ _ _ _ (@ps_set _ _ (1) _ _ _ _ sc_is_tree.nd rfl (Or.inl rfl) (@pe_int _ _ _ _) (by first | rfl | exact .inl rfl | exact .inr rfl | exact .inr (.inl rfl) | decide | decide +kernel | (intro _; rfl)) (by first | rfl | exact .inl rfl | exact .inr rfl | exact .inr (.inl rfl) | decide | decide +kernel | (intro _; rfl))) (@pss_cons _ _ _ _ _ (@ps_set _ _ (2) _ _ _ _ sc_is_tree.nd rfl (Or.inl rfl) (@pe_lst _ _ _ _ (@pa_cons _ _ _ _ _ (@pe_tup _ _ _ _ _ (@pa_cons _ _ _ _ _ (pv 0) (@pa_cons _ _ _ _ _ (@pe_int _ _ _ _) (@pa_nil _) (by first | rfl | exact .inl rfl | exact .inr rfl | exact .inr (.inl rfl) | decide | decide +kernel | (intro _; rfl))) (by first | rfl | exact .inl rfl | exact .inr rfl | exact .inr (.inl rfl) | decide | decide +kernel | (intro _; rfl)))) (@pa_nil _) (by first | rfl | exact .inl rfl | exact .inr rfl | exact .inr (.inl rfl) | decide | decide +kernel | (intro _; rfl)))) (by first | rfl | exact .inl rfl | exact .inr rfl | exact .inr (.inl rfl) | decide | decide +kernel | (intro _; rfl)) (by first | rfl | exact .inl rfl | exact .inr rfl | exact .inr (.inl rfl) | decide | decide +kernel | (intro _; rfl))) (@pss_cons _ _ _ _ _ (@ps_while _ _ _ _ _ _ PassesOwn.never (@pt_truth _ _ _ (pv 2) (fun _ => rfl)) (@pss_cons _ _ _ _ _ (@ps_set _ _ (3) _ _ _ _ sc_is_tree.nd rfl (Or.inl rfl) (@pe_bm0 _ _ _ _ _ _ _ _ _ PySem.F.plainAttrs_list PySem.F.slot_list_pop PySem.F.type_list_pop (@mt_pop _) (pv 2) (by first | rfl | exact .inl rfl | exact .inr rfl | exact .inr (.inl rfl) | decide | decide +kernel | (intro _; rfl)) (by first | rfl | exact .inl rfl | exact .inr rfl | exact .inr (.inl rfl) | decide | decide +kernel | (intro _; rfl))) (by first | rfl | exact .inl rfl | exact .inr rfl | exact .inr (.inl rfl) | decide | decide +kernel | (intro _; rfl)) (by first | rfl | exact .inl rfl | exact .inr rfl | exact .inr (.inl rfl) | decide | decide +kernel | (intro _; rfl))) (@pss_cons _ _ _ _ _ (@ps_set _ _ (4) _ _ _ _ sc_is_tree.nd rfl (Or.inl rfl) (@pe_ix _ _ _ _ _ _ _ (@ix_tup _) (pv 3) (@pe_int _ _ _ _) (fun _ _ => rfl)) (by first | rfl | exact .inl rfl | exact .inr rfl | exact .inr (.inl rfl) | decide | decide +kernel | (intro _; rfl)) (by first | rfl | exact .inl rfl | exact .inr rfl | exact .inr (.inl rfl) | decide | decide +kernel | (intro _; rfl))) (@pss_cons _ _ _ _ _ (@ps_set _ _ (5) _ _ _ _ sc_is_tree.nd rfl (Or.inr rfl) (@pe_ix _ _ _ _ _ _ _ (@ix_tup _) (pv 3) (@pe_int _ _ _ _) (fun _ _ => rfl)) (by first | rfl | exact .inl rfl | exact .inr rfl | exact .inr (.inl rfl) | decide | decide +kernel | (intro _; rfl)) (by first | rfl | exact .inl rfl | exact .inr rfl | exact .inr (.inl rfl) | decide | decide +kernel | (intro _; rfl))) (@pss_cons _ _ _ _ _ (@ps_if _ _ _ _ _ _ _ _ (@pw_and _ _ _ _ _ _ _ (@pt_val _ _ _ (@pe_callB _ _ _ _ _ _ _ _ _ (@call_isinst _ _ rfl) (by rfl) T.z_isinstance boot_isinstance (@pa_cons _ _ _ _ _ (pv 4) (@pa_cons _ _ _ _ _ (@pe_bltn _ _ (.ty "tuple") _ _ (by rfl) T.z_tuple boot_tuple rfl (by first | rfl | exact .inl rfl | exact .inr rfl | exact .inr (.inl rfl) | decide | decide +kernel | (intro _; rfl)) (by first | rfl | exact .inl rfl | exact .inr rfl | exact .inr (.inl rfl) | decide | decide +kernel | (intro _; rfl))) (@pa_nil _) (by first | rfl | exact .inl rfl | exact .inr rfl | exact .inr (.inl rfl) | decide | decide +kernel | (intro _; rfl))) (by first | rfl | exact .inl rfl | exact .inr rfl | exact .inr (.inl rfl) | decide | decide +kernel | (intro _; rfl))) (by first | rfl | exact .inl rfl | exact .inr rfl | exact .inr (.inl rfl) | decide | decide +kernel | (intro _; rfl)) (by first | rfl | exact .inl rfl | exact .inr rfl | exact .inr (.inl rfl) | decide | decide +kernel | (intro _; rfl)) (by first | rfl | exact .inl rfl | exact .inr rfl | exact .inr (.inl rfl) | decide | decide +kernel | (intro _; rfl)) (by first | rfl | exact .inl rfl | exact .inr rfl | exact .inr (.inl rfl) | decide | decide +kernel | (intro _; rfl))) (by first | rfl | exact .inl rfl | exact .inr rfl | exact .inr (.inl rfl) | decide | decide +kernel | (intro _; rfl))) (@pw_and1 _ _ _ _ (@pt_cmpR _ _ _ _ _ _ _ _ (@op_le _) (@pe_callB _ _ _ _ _ _ _ _ _ (@call_len _) (by rfl) T.z_len PySem.boot_len (@pa_cons _ _ _ _ _ (pv 4) (@pa_nil _) (by first | rfl | exact .inl rfl | exact .inr rfl | exact .inr (.inl rfl) | decide | decide +kernel | (intro _; rfl))) (by first | rfl | exact .inl rfl | exact .inr rfl | exact .inr (.inl rfl) | decide | decide +kernel | (intro _; rfl)) (by first | rfl | exact .inl rfl | exact .inr rfl | exact .inr (.inl rfl) | decide | decide +kernel | (intro _; rfl)) (by first | rfl | exact .inl rfl | exact .inr rfl | exact .inr (.inl rfl) | decide | decide +kernel | (intro _; rfl)) (by first | rfl | exact .inl rfl | exact .inr rfl | exact .inr (.inl rfl) | decide | decide +kernel | (intro _; rfl))) (@pe_gI _ _ _ _ (by rfl) T.m_MOST_PARTS (by first | rfl | exact .inl rfl | exact .inr rfl | exact .inr (.inl rfl) | decide | decide +kernel | (intro _; rfl))) (nomark _)))).pt (@pss_cons _ _ _ _ _ (@ps_aug _ _ (1) _ _ _ _ _ _ sc_is_tree.nd rfl (Or.inl rfl) (@pe_int _ _ _ _) ip_add (by first | rfl | exact .inl rfl | exact .inr rfl | exact .inr (.inl rfl) | decide | decide +kernel | (intro _; rfl))) (@pss_one _ _ _ (@ps_expr _ _ _ _ (@pe_bm _ _ _ _ _ _ _ _ _ _ _ _ PySem.F.plainAttrs_list PySem.F.slot_list_extend PySem.F.type_list_extend (@mt_extend _) (pv 2) (@pa_cons _ _ _ _ _ (@pe_lc _ _ (["below", "depth"]) (1) ([5]) _ _ _ _ _ _ _ _ _ (lcsN (defScope s_is_tree) ["value", "size", "waiting", "pair", "part", "depth"]) rfl (@pi_tupB _ _ _ _ (pv 4)) (fun _ _ _ _ _ _ => (@pg_name _ _ (0) _ (show List.Nodup (["below", "depth"] : List Str) by decide +kernel) rfl (Or.inl rfl) (by first | rfl | exact .inl rfl | exact .inr rfl | exact .inr (.inl rfl) | decide | decide +kernel | (intro _; rfl)))) (fun _ _ _ _ _ _ => @pif_nil _) (fun _ _ _ _ _ _ => (@pe_tup _ _ _ _ _ (@pa_cons _ _ _ _ _ (pv 0) (@pa_cons _ _ _ _ _ (@pe_op _ _ _ _ _ _ _ _ (@op_add _) (pv 1) (@pe_int _ _ _ _)) (@pa_nil _) (by first | rfl | exact .inl rfl | exact .inr rfl | exact .inr (.inl rfl) | decide | decide +kernel | (intro _; rfl))) (by first | rfl | exact .inl rfl | exact .inr rfl | exact .inr (.inl rfl) | decide | decide +kernel | (intro _; rfl))))) (by first | rfl | exact .inl rfl | exact .inr rfl | exact .inr (.inl rfl) | decide | decide +kernel | (intro _; rfl))) (@pa_nil _) (by first | rfl | exact .inl rfl | exact .inr rfl | exact .inr (.inl rfl) | decide | decide +kernel | (intro _; rfl))) (by first | rfl | exact .inl rfl | exact .inr rfl | exact .inr (.inl rfl) | decide | decide +kernel | (intro _; rfl)) (by first | rfl | exact .inl rfl | exact .inr rfl | exact .inr (.inl rfl) | decide | decide +kernel | (intro _; rfl)) (by first | rfl | exact .inl rfl | exact .inr rfl | exact .inr (.inl rfl) | decide | decide +kernel | (intro _; rfl)) (by first | rfl | exact .inl rfl | exact .inr rfl | exact .inr (.inl rfl) | decide | decide +kernel | (intro _; rfl)) (by first | rfl | exact .inl rfl | exact .inr rfl | exact .inr (.inl rfl) | decide | decide +kernel | (intro _; rfl))) (by first | rfl | exact .inl rfl | exact .inr rfl | exact .inr (.inl rfl) | decide | decide +kernel | (intro _; rfl))))) (@pss_one _ _ _ (@ps_if _ _ _ _ _ _ _ _ (@pt_val _ _ _ (@pe_call _ _ _ _ _ _ _ _ _ _ _ _ _ _ _ _ G_is_text (hr.mono (by first | decide | omega)) (by rfl) T.m_is_text T.F_is_text.kp T.b_is_text .nil pass0 (@pa_cons _ _ _ _ _ (pv 4) (@pa_nil _) (by first | rfl | exact .inl rfl | exact .inr rfl | exact .inr (.inl rfl) | decide | decide +kernel | (intro _; rfl))) (by first | rfl | exact .inl rfl | exact .inr rfl | exact .inr (.inl rfl) | decide | decide +kernel | (intro _; rfl)) (by first | rfl | exact .inl rfl | exact .inr rfl | exact .inr (.inl rfl) | decide | decide +kernel | (intro _; rfl)) (by first | rfl | exact .inl rfl | exact .inr rfl | exact .inr (.inl rfl) | decide | decide +kernel | (intro _; rfl))) (by first | rfl | exact .inl rfl | exact .inr rfl | exact .inr (.inl rfl) | decide | decide +kernel | (intro _; rfl))) (@pss_one _ _ _ (@ps_aug _ _ (1) _ _ _ _ _ _ sc_is_tree.nd rfl (Or.inl rfl) (@pe_op _ _ _ _ _ _ _ _ (@op_add _) (@pe_int _ _ _ _) (@pe_callB _ _ _ _ _ _ _ _ _ (@call_len _) (by rfl) T.z_len PySem.boot_len (@pa_cons _ _ _ _ _ (pv 4) (@pa_nil _) (by first | rfl | exact .inl rfl | exact .inr rfl | exact .inr (.inl rfl) | decide | decide +kernel | (intro _; rfl))) (by first | rfl | exact .inl rfl | exact .inr rfl | exact .inr (.inl rfl) | decide | decide +kernel | (intro _; rfl)) (by first | rfl | exact .inl rfl | exact .inr rfl | exact .inr (.inl rfl) | decide | decide +kernel | (intro _; rfl)) (by first | rfl | exact .inl rfl | exact .inr rfl | exact .inr (.inl rfl) | decide | decide +kernel | (intro _; rfl)) (by first | rfl | exact .inl rfl | exact .inr rfl | exact .inr (.inl rfl) | decide | decide +kernel | (intro _; rfl)))) ip_add (by first | rfl | exact .inl rfl | exact .inr rfl | exact .inr (.inl rfl) | decide | decide +kernel | (intro _; rfl)))) (@pss_one _ _ _ (@ps_ret _ _ _ _ (@pe_bl _ _ _ _)))))) (@pss_one _ _ _ (@ps_if _ _ _ _ _ _ _ _ (@pw_or _ _ _ _ _ _ _ (@pt_cmpR _ _ _ _ _ _ _ _ (@op_gt _) (pv 5) (@pe_gI _ _ _ _ (by rfl) T.m_MOST_DEPTH (by first | rfl | exact .inl rfl | exact .inr rfl | exact .inr (.inl rfl) | decide | decide +kernel | (intro _; rfl))) (nomark _)) (@pw_or1 _ _ _ _ (@pt_cmpR _ _ _ _ _ _ _ _ (@op_gt _) (pv 1) (@pe_gI _ _ _ _ (by rfl) T.m_MOST_SIZE (by first | rfl | exact .inl rfl | exact .inr rfl | exact .inr (.inl rfl) | decide | decide +kernel | (intro _; rfl))) (nomark _)))).pt (@pss_one _ _ _ (@ps_ret _ _ _ _ (@pe_bl _ _ _ _))) (@pss_nil _)))))))) (@pss_one _ _ _ (@ps_ret _ _ _ _ (@pe_bl _ _ _ _)))))), ?_⟩
  have no : ∀ {H' : Hp} {w : List (D × Nat)} {n : Nat}, Same H H' → G w n = isT d → G w n = false → Q (.bl false) H' := fun {H' w n} sm e1 e2 => by
    have q := k H' sm
    rw [← e1, e2] at q
    exact q
  refine ⟨_, rfl, (by show 2 ≤ sizeLine; decide), fun t1 h1 => ⟨(by show 1 ≤ sizeLine; decide), fun L hL => ?_⟩⟩
  have s1 : Same H (upd H t1 (.tup [v, .int 1])) := same_new h1 _
  have s2 : Same H (upd (upd H t1 (.tup [v, .int 1])) L (.lst [.ref t1])) := s1.trans (same_new hL _)
  have hLH : H L = none := s1.free hL
  have i1 : Is (upd H t1 (.tup [v, .int 1])) (pr (d, 1)) (.ref t1) := Is.new (ds := [d, .int 1]) ⟨v, _, rfl, hv, _, _, rfl, rfl, rfl⟩ h1
  refine ⟨Wt v d H L, ⟨_, 0, [(d, 1)], [.ref t1], none, none, none, rfl, s2, upd_same, IsL.one (i1.mono (same_new hL _).tk), G_start d, by omega, by simp, rfl⟩, ?_⟩
  rintro m σ H' ⟨n, w, ws, x3, x4, x5, rfl, sm, hl, hw, hG, hn, hwl, rfl⟩
  refine ⟨_, rfl, !ws.isEmpty, .inl ⟨ws, SqL.of hl, rfl⟩, ?_⟩
  rcases List.eq_nil_or_concat w with rfl | ⟨w', ⟨e, j⟩, rfl⟩
  · cases (show ws = [] from hw)
    refine iteF ?_
    have q := k H' sm
    rw [← hG, G_nil hn] at q
    exact q
  · rw [List.concat_eq_append] at *
    rw [map_snoc] at hw
    obtain ⟨us, x, rfl, hu, hx⟩ := hw.unsnoc
    have ne : (!(us ++ [x]).isEmpty) = true := by simp
    rw [ne]
    refine iteT ⟨fun σ' H'' => ∃ m', m' < ndL ((w' ++ [(e, j)]).map (·.1)) ∧ Wt v d H L m' σ' H'', fun _ _ h => h, ?_⟩
    have hm : ndL ((w' ++ [(e, j)]).map (·.1)) = ndL (w'.map (·.1)) + nd e := by
      rw [map_snoc, ndL_append]; simp [ndL]
    have hwl' : w'.length ≤ 40 * n := by
      rw [List.length_append, List.length_singleton] at hwl; omega
    have lu := hu.length
    rw [List.length_map] at lu
    -- pair = waiting.pop()
    refine ⟨_, rfl, .inl ⟨rfl, _, SqL.of hl⟩, L, _, x, rfl, rfl, hl, last_at us x, ?_⟩
    rw [drop_last]
    have t2 : Tk H' (upd H' L (.lst us)) := Tk.updL hl
    have sm2 : Same H (upd H' L (.lst us)) := fun b o z => by rw [upd_ne (ne_of_none z hLH)]; exact sm b o z
    have hx2 : Is (upd H' L (.lst us)) (.tup [e, .int (j : Int)]) x := hx.mono t2
    have hu2 : IsL (upd H' L (.lst us)) (w'.map pr) us := hu.mono t2
    have hl2 : upd H' L (.lst us) L = some (.lst us) := upd_same
    generalize upd H' L (.lst us) = H2 at t2 sm2 hx2 hu2 hl2 ⊢
    clear t2 hl hx hu sm
    -- part, depth
    refine ⟨_, rfl, ix_is (i := 0) hx2 rfl fun y hy => ?_⟩
    refine ⟨_, rfl, ix_is (i := 1) hx2 rfl fun y1 hy1 => ?_⟩
    cases (show y1 = .int (j : Int) from hy1)
    -- behind the branch: depth > 12 or size > 600
    have tail : ∀ (n' : Nat) (w2 : List (D × Nat)) (ws2 : List V) (H3 : Hp), Same H H3 → H3 L = some (.lst ws2) → IsL H3 (w2.map pr) ws2 → (j ≤ 12 → n' ≤ 600 → G w2 n' = isT d) → (12 < j ∨ 600 < n' → isT d = false) → w2.length ≤ 1 + 40 * n' → ndL (w2.map (·.1)) < ndL ((w' ++ [(e, j)]).map (·.1)) →
        ∃ v_1, [some v, some (V.int (n' : Int)), some (V.ref L), some x, some y, some (V.int (j : Int))][5]? = some (some v_1) ∧ ∃ i i_1, v_1 = V.int i ∧ V.int 12 = V.int i_1 ∧ ∃ k, V.bl (decide (i_1 < i)) = V.bl k ∧
          if k = true then if true = true then Q (.bl false) H3 else ∃ m', m' < ndL ((w' ++ [(e, j)]).map (·.1)) ∧ Wt v d H L m' [some v, some (V.int (n' : Int)), some (V.ref L), some x, some y, some (V.int (j : Int))] H3
          else ∃ v_2, [some v, some (V.int (n' : Int)), some (V.ref L), some x, some y, some (V.int (j : Int))][1]? = some (some v_2) ∧ ∃ i i_1, v_2 = V.int i ∧ V.int 600 = V.int i_1 ∧ ∃ k, V.bl (decide (i_1 < i)) = V.bl k ∧
            if k = true then Q (.bl false) H3 else ∃ m', m' < ndL ((w' ++ [(e, j)]).map (·.1)) ∧ Wt v d H L m' [some v, some (V.int (n' : Int)), some (V.ref L), some x, some y, some (V.int (j : Int))] H3 := by
      intro n' w2 ws2 H3 s3 l3 i3 g3 b3 len3 m3
      have bad : isT d = false → Q (.bl false) H3 := fun e => by
        have q := k H3 s3
        rw [e] at q
        exact q
      refine ⟨_, rfl, _, _, rfl, rfl, _, rfl, ?_⟩
      refine ite2 (fun c => iteT (bad (b3 (.inl ?_)))) (fun c => ⟨_, rfl, _, _, rfl, rfl, _, rfl, ?_⟩)
      · have := of_decide_eq_true c; omega
      · have c' : ¬ (12 : Int) < (j : Int) := fun q => c (decide_eq_true q)
        refine ite2 (fun c2 => bad (b3 (.inr ?_))) (fun c2 => ?_)
        · have := of_decide_eq_true c2; omega
        · have c2' : ¬ (600 : Int) < (n' : Int) := fun q => c2 (decide_eq_true q)
          exact ⟨_, m3, n', w2, ws2, _, _, _, rfl, s3, l3, i3, g3 (by omega) (by omega), by omega, len3, rfl⟩
    refine ⟨_, rfl, y, "tuple", tyD e, isTup e, rfl, hy.ty, kit_tup e, _, rfl, ?_⟩
    cases e with
    | tup xs =>
      refine iteT ?_
      obtain ⟨a0, vs, rfl, ha0, hvs⟩ := hy
      have lv := hvs.length
      refine ⟨_, rfl, _, vs.length, rfl, .inr ⟨vs, SqT.of ha0, rfl⟩, _, _, rfl, rfl, _, rfl, ?_⟩
      refine ite2 (fun c => ?_) (fun c => ?_)
      · have c' : (vs.length : Int) ≤ 40 := of_decide_eq_true c
        refine ⟨_, rfl, _, _, rfl, rfl, ?_⟩
        refine ⟨_, rfl, .inl ⟨rfl, _, SqL.of hl2⟩, _, rfl, a0, vs, rfl, SqT.of ha0, fun hvl A0 hA0 => ?_⟩
        refine lc_tupS (tl := [some (.int (j : Int))]) (fun d0 => .tup [d0, .int ((j + 1 : Nat) : Int)]) ha0 hvs (fits (by omega)) hA0 (fun d0 x0 H3 R _ s3 i3 r => ?_) fun H3 ys s3 l3 i3 => ?_
        · refine ⟨_, rfl, _, rfl, _, _, rfl, rfl, (by show 2 ≤ sizeLine; decide), fun p hp => ?_⟩
          exact r _ _ (same_new hp _) (Is.new (ds := [d0, .int ((j + 1 : Nat) : Int)]) ⟨x0, _, rfl, i3, _, _, rfl, rfl, rfl⟩ hp)
        · have ly := i3.length
          rw [List.length_map] at ly
          have eA : A0 ≠ L := fun z => by rw [z, hl2] at hA0; cases hA0
          refine ⟨L, A0, us, ys, rfl, rfl, s3 _ _ hl2, l3, fits (by omega), ?_⟩
          have t4 : Tk H3 (upd H3 L (.lst (us ++ ys))) := Tk.updL (s3 _ _ hl2)
          have em : (w' ++ xs.map fun d0 => (d0, j + 1)).map pr = w'.map pr ++ xs.map fun d0 => .tup [d0, .int ((j + 1 : Nat) : Int)] := by
            rw [List.map_append, List.map_map]; rfl
          have ef : (w' ++ xs.map fun d0 => (d0, j + 1)).map (·.1) = w'.map (·.1) ++ xs := by
            rw [List.map_append, List.map_map]
            congr 1
            exact List.map_id xs
          refine tail (n + 1) (w' ++ xs.map fun d0 => (d0, j + 1)) (us ++ ys) _ (fun b o z => by rw [upd_ne (ne_of_none z hLH)]; exact s3 b o (sm2 b o z)) upd_same (by rw [em]; exact ((hu2.mono s3.tk).mono t4).append (i3.mono t4)) (fun h1 h2 => ?_) (fun h => ?_) ?_ ?_
          · rw [← hG, G_tup (by omega) h1]
          · rw [← hG]
            rcases h with h | h
            · exact G_deep h
            · exact G_big1 h
          · rw [List.length_append, List.length_map]; omega
          · rw [ef, hm, ndL_append]
            simp only [nd]
            omega
      · have c' : ¬ (vs.length : Int) ≤ 40 := fun q => c (decide_eq_true q)
        refine ⟨_, rfl, _, .tup xs, rfl, (show Is _ (.tup xs) (.ref a0) from ⟨a0, vs, rfl, ha0, hvs⟩), _, rfl, ?_⟩
        refine iteF ?_
        refine no sm2 hG (G_bad ?_)
        simp only [good]
        rw [decide_eq_false (by omega)]
        rfl
    | str z =>
      refine iteF ?_
      obtain ⟨rfl, hz⟩ := hy
      refine ⟨_, rfl, _, .str z, rfl, ⟨rfl, hz⟩, _, rfl, ?_⟩
      cases ht : okText z with
      | false =>
        have e1 : txt (.str z) = false := ht
        rw [e1]
        refine iteF ?_
        refine no sm2 hG (G_bad ?_)
        simp only [good]
        exact ht
      | true =>
        have e1 : txt (.str z) = true := ht
        rw [e1]
        refine iteT ?_
        refine ⟨_, rfl, _, rfl, _, z.length, rfl, ⟨hz, rfl⟩, _, _, rfl, rfl, _, _, rfl, rfl, ?_⟩
        have en : (n : Int) + (1 + (z.length : Int)) = ((n + (1 + z.length) : Nat) : Int) := by omega
        show ∃ v_1, [some v, some (V.int ((n : Int) + (1 + (z.length : Int)))), some (V.ref L), some x, some (V.str z), some (V.int (j : Int))][5]? = some (some v_1) ∧ _
        rw [en]
        refine tail (n + (1 + z.length)) w' us _ sm2 hl2 hu2 (fun h1 h2 => ?_) (fun h => ?_) (by omega) (by rw [hm]; simp only [nd]; omega)
        · rw [← hG, G_str ht h1]
        · rw [← hG]
          rcases h with h | h
          · exact G_deep h
          · refine G_big ?_
            simp only [sz]
            omega
    | _ =>
      refine iteF ?_
      refine ⟨_, rfl, _, _, rfl, hy, _, rfl, ?_⟩
      exact iteF (no sm2 hG (G_bad rfl))
end
end K06

set_option Elab.async false
set_option linter.all false
set_option maxRecDepth 100000
set_option maxHeartbeats 4000000
namespace K06
open PySem L2 PyProof.Rows
def optD : Option Pt → D
  | none => .non
  | some p => p.d
def sp_part : Sp := fun vs H Q _ => ∃ (n : Nat) (kd : Kd) (z : Str), vs = [.str kd.t, .str z, .int (n : Int)] ∧ n ≤ 40 ∧ z.length ≤ 300 ∧ ∀ (v : V) (H' : Hp), Same H H' → Is H' (optD (partOf n kd z)) v → Q v H'
def sp_pieces (K : PySem.W.Frag) : Sp := fun vs H Q _ => ∃ (z : Str) (ks : List Kd) (q : Addr), vs = [.str z, .ref q] ∧ z.length ≤ 300 ∧ ks.length ≤ 3 ∧ SqT K H q (ks.map fun k => V.str k.t) ∧ ∀ p, H p = none → Q (.ref p) (upd H p (.lst ((pcs ks z).map V.str)))
theorem iteFof {c : Bool} {A B : Prop} (h : c = false) (b : B) : if c = true then A else B := by rw [if_neg (by rw [h]; exact Bool.false_ne_true)]; exact b
theorem iteTof {c : Bool} {A B : Prop} (h : c = true) (a : A) : if c = true then A else B := by rw [if_pos h]; exact a
theorem kinds_flat (ks : List Kd) : (ks.map fun k => V.str k.t) = (ks.map Kd.t).map V.str := by rw [List.map_map]; rfl
theorem words_in (ks : List Kd) : inV (.str "words") (ks.map fun k => V.str k.t) = decide (Kd.words ∈ ks) := by
  rw [kinds_flat, inV_str, decide_eq_decide, List.mem_map]
  constructor
  · rintro ⟨k, hk, e⟩
    cases k with
    | words => exact hk
    | box => exact absurd e (by decide +kernel)
    | line => exact absurd e (by decide +kernel)
  · intro h
    exact ⟨_, h, rfl⟩
theorem form_few : ∀ x ∈ FRM, x.2.length ≤ 3 := by decide +kernel
theorem part_box_none {n : Nat} {z : Str} (h : z ∉ BX) : partOf n .box z = none := by
  unfold partOf
  exact if_neg h
theorem part_box_some {n : Nat} {z : Str} (h : z ∈ BX) : partOf n .box z = some (.s z) := by
  unfold partOf
  exact if_pos h
theorem part_line_none {n : Nat} {z : Str} (h : z ∉ (List.range n).map fun i : Nat => (toString (1 + (i : Int)) : Str)) : partOf n .line z = none := by
  unfold partOf
  rw [Option.map_eq_none_iff, List.find?_eq_none]
  intro i hi e
  exact h (List.mem_map.mpr ⟨i, hi, of_decide_eq_true e⟩)
theorem part_line_some {n : Nat} {z : Str} (h : z ∈ (List.range n).map fun i : Nat => (toString (1 + (i : Int)) : Str)) : ∃ j : Int, 1 ≤ j ∧ j ≤ n ∧ z = (Pt.n j).t ∧ partOf n .line z = some (.n j) := by
  obtain ⟨i, hi, e⟩ := List.mem_map.mp h
  unfold partOf
  cases e2 : (List.range n).find? fun i : Nat => decide ((toString (1 + (i : Int)) : Str) = z) with
  | none => exact absurd (decide_eq_true e) (List.find?_eq_none.mp e2 i hi)
  | some j =>
    have h1 := List.find?_some e2
    have h2 := List.mem_range.mp (List.mem_of_find?_eq_some e2)
    exact ⟨1 + (j : Int), by omega, by omega, (of_decide_eq_true h1).symm, by show Option.map _ _ = _; rw [e2]; rfl⟩
section
variable {P : Program} {w : World} {K : PySem.W.Frag} {mg : Str → Option Value} {base : Heap} {a : Ad} {g : Ga}
theorem ok_part (T : Tx K mg a) (C : Fx K w mg g) : FnOk P w K mg base CX0 1 a.f_part_of a.d_part_of ["kind", "piece", "count"] sp_part := by
  refine T.F_part_of.ok sc_part_of (fun vs H Q E h => ?_) (fun cdv A outer s H vs Q E hr h => ?_)
  · obtain ⟨n, kd, z, rfl, _⟩ := h
    rfl
  obtain ⟨n, kd, z, rfl, hn, hz, k⟩ := h
  refine ⟨_, (@pss_cons _ _ _ _ _ (@ps_if _ _ _ _ _ _ _ _ (@pt_cmpR _ _ _ _ _ _ _ _ (@op_eq _) (pv 0) (@pe_str _ _ _ _) (nomark _)) (@pss_one _ _ _ (@ps_ret _ _ _ _ (pv 1))) (@pss_nil _)) (@pss_cons _ _ _ _ _ (@ps_if _ _ _ _ _ _ _ _ (@pt_cmpR _ _ _ _ _ _ _ _ (@op_eq _) (pv 0) (@pe_str _ _ _ _) (nomark _)) (@pss_one _ _ _ (@ps_ret _ _ _ _ (@pe_ifExp _ _ _ _ _ _ _ _ (@pt_cmpR _ _ _ _ _ _ _ _ (@op_in_seq _) (pv 1) (@pe_gR _ _ _ _ (by rfl) C.m_BOXES (by first | rfl | exact .inl rfl | exact .inr rfl | exact .inr (.inl rfl) | decide | decide +kernel | (intro _; rfl))) (by with_unfolding_all rfl)) (pv 1) (@pe_non _ _ _)))) (@pss_nil _)) (@pss_cons _ _ _ _ _ (@ps_setLC _ _ (["number"]) (1) ([]) (3) _ _ _ _ _ _ _ _ _ _ _ _ sc_part_of.nd rfl (Or.inl rfl) (lcs0) rfl (@pi_range2 _ _ _ _ _ _ _ (by rfl) T.z_range (@pa_cons _ _ _ _ _ (@pe_int _ _ _ _) (@pa_cons _ _ _ _ _ (@pe_op _ _ _ _ _ _ _ _ (@op_add _) (pv 2) (@pe_int _ _ _ _)) (@pa_nil _) (by first | rfl | exact .inl rfl | exact .inr rfl | exact .inr (.inl rfl) | decide | decide +kernel | (intro _; rfl))) (by first | rfl | exact .inl rfl | exact .inr rfl | exact .inr (.inl rfl) | decide | decide +kernel | (intro _; rfl))) (by first | rfl | exact .inl rfl | exact .inr rfl | exact .inr (.inl rfl) | decide | decide +kernel | (intro _; rfl)) (by first | rfl | exact .inl rfl | exact .inr rfl | exact .inr (.inl rfl) | decide | decide +kernel | (intro _; rfl))) (fun _ _ _ _ _ _ => (@pg_name _ _ (0) _ (show List.Nodup (["number"] : List Str) by decide +kernel) rfl (Or.inl rfl) (by first | rfl | exact .inl rfl | exact .inr rfl | exact .inr (.inl rfl) | decide | decide +kernel | (intro _; rfl)))) (fun _ _ _ _ _ _ => @pif_nil _) (fun _ _ _ _ _ _ => (@pe_callTy _ _ _ _ _ _ _ _ _ (@call_str_int _) (by rfl) T.z_str boot_str (@pa_cons _ _ _ _ _ (pv 0) (@pa_nil _) (by first | rfl | exact .inl rfl | exact .inr rfl | exact .inr (.inl rfl) | decide | decide +kernel | (intro _; rfl))) (by first | rfl | exact .inl rfl | exact .inr rfl | exact .inr (.inl rfl) | decide | decide +kernel | (intro _; rfl)) (by first | rfl | exact .inl rfl | exact .inr rfl | exact .inr (.inl rfl) | decide | decide +kernel | (intro _; rfl)) (by first | rfl | exact .inl rfl | exact .inr rfl | exact .inr (.inl rfl) | decide | decide +kernel | (intro _; rfl)) (by first | rfl | exact .inl rfl | exact .inr rfl | exact .inr (.inl rfl) | decide | decide +kernel | (intro _; rfl)))) (by first | rfl | exact .inl rfl | exact .inr rfl | exact .inr (.inl rfl) | decide | decide +kernel | (intro _; rfl)) (by first | rfl | exact .inl rfl | exact .inr rfl | exact .inr (.inl rfl) | decide | decide +kernel | (intro _; rfl)) (by first | rfl | exact .inl rfl | exact .inr rfl | exact .inr (.inl rfl) | decide | decide +kernel | (intro _; rfl))) (@pss_one _ _ _ (@ps_ret _ _ _ _ (@pe_ifExp _ _ _ _ _ _ _ _ (@pt_cmpR _ _ _ _ _ _ _ _ (@op_in_seq _) (pv 1) (pv 3) (by with_unfolding_all rfl)) (@pe_callTy _ _ _ _ _ _ _ _ _ (@call_intS _) (by rfl) T.z_int boot_int (@pa_cons _ _ _ _ _ (pv 1) (@pa_nil _) (by first | rfl | exact .inl rfl | exact .inr rfl | exact .inr (.inl rfl) | decide | decide +kernel | (intro _; rfl))) (by first | rfl | exact .inl rfl | exact .inr rfl | exact .inr (.inl rfl) | decide | decide +kernel | (intro _; rfl)) (by first | rfl | exact .inl rfl | exact .inr rfl | exact .inr (.inl rfl) | decide | decide +kernel | (intro _; rfl)) (by first | rfl | exact .inl rfl | exact .inr rfl | exact .inr (.inl rfl) | decide | decide +kernel | (intro _; rfl)) (by first | rfl | exact .inl rfl | exact .inr rfl | exact .inr (.inl rfl) | decide | decide +kernel | (intro _; rfl))) (@pe_non _ _ _))))))), ?_⟩
  refine ⟨_, rfl, rfl, _, rfl, ?_⟩
  cases kd with
  | words =>
    refine iteTof (by decide +kernel) ⟨_, rfl, ?_⟩
    exact k _ H (Same.refl _) ⟨rfl, small (by omega)⟩
  | box =>
    refine iteFof (by decide +kernel) ⟨_, rfl, rfl, _, rfl, ?_⟩
    refine iteTof (by decide +kernel) ⟨_, rfl, g.boxes, _, rfl, .inr (C.boxes _), rfl, flat_strs _, _, rfl, ?_⟩
    rw [if_neg Bool.false_ne_true, inV_str]
    refine ite2 (fun c => ?_) (fun c => ?_)
    · have c' : z ∈ BX := of_decide_eq_true c
      rw [part_box_some c'] at k
      exact ⟨_, rfl, k _ H (Same.refl _) ⟨rfl, small (by omega)⟩⟩
    · have c' : z ∉ BX := fun q => c (decide_eq_true q)
      rw [part_box_none c'] at k
      exact k _ H (Same.refl _) rfl
  | line =>
    refine iteFof (by decide +kernel) ⟨_, rfl, rfl, _, rfl, ?_⟩
    refine iteFof (by decide +kernel) ?_
    refine ⟨_, rfl, _, _, rfl, rfl, 1, (n : Int) + 1, rfl, ⟨by decide, by decide, by omega, by omega⟩, fun L hL => ?_⟩
    rw [show ((n : Int) + 1 - 1).toNat = n by omega]
    refine lc_range (lo := 1) (tl := []) (fun i ys H' => ys = (List.range i).map (fun i : Nat => V.str (toString (1 + (i : Int)))) ∧ Same H H') (fits (by omega)) ⟨rfl, same_new hL _⟩ ?_ ?_
    · rintro i ys H' hi ⟨rfl, sm⟩ hL' hy R hR
      refine ⟨_, rfl, _, rfl, ?_, hR _ _ hL' ⟨?_, ?_⟩⟩
      · have h1 : (1 + (i : Int)).natAbs ≤ 41 := by omega
        have h2 := Nat.log2_le_self (1 + (i : Int)).natAbs
        omega
      · rw [List.range_succ, List.map_append]
        rfl
      · intro b o e
        rw [upd_ne (ne_of_none e hL)]
        exact sm b o e
    · rintro ys H' ⟨rfl, sm⟩ hL'
      have hy : (List.range n).map (fun i : Nat => V.str (toString (1 + (i : Int)))) = ((List.range n).map fun i : Nat => (toString (1 + (i : Int)) : Str)).map V.str := by rw [List.map_map]; rfl
      refine ⟨_, rfl, _, rfl, L, _, rfl, .inl (SqL.of hL'), rfl, by rw [hy]; exact flat_strs _, _, rfl, ?_⟩
      rw [if_neg Bool.false_ne_true, hy, inV_str]
      refine ite2 (fun c => ?_) (fun c => ?_)
      · obtain ⟨j, j1, j2, rfl, ej⟩ := part_line_some (of_decide_eq_true c)
        rw [ej] at k
        have hj := num_small j1 (by omega)
        exact ⟨_, rfl, _, j, rfl, num_back j1 (by omega), Nat.le_trans hj.1 (by decide), k _ _ sm rfl⟩
      · rw [part_line_none fun q => c (decide_eq_true q)] at k
        exact k _ _ sm rfl
theorem ok_pieces (T : Tx K mg a) : FnOk P w K mg base CX0 1 a.f_pieces_of a.d_pieces_of ["line", "form"] (sp_pieces K) := by
  refine T.F_pieces_of.ok sc_pieces_of (fun vs H Q E h => ?_) (fun cdv A outer s H vs Q E hr h => ?_)
  · obtain ⟨z, ks, q, rfl, _⟩ := h
    rfl
  obtain ⟨z, ks, q, rfl, hz, hk, hq, k⟩ := h
  refine ⟨_, (@pss_cons _ _ _ _ _ (@ps_if _ _ _ _ _ _ _ _ (@pt_cmpR _ _ _ _ _ _ _ _ (@op_in_seq _) (@pe_str _ _ _ _) (pv 1) (by with_unfolding_all rfl)) (@pss_one _ _ _ (@ps_ret _ _ _ _ (@pe_bm _ _ _ _ _ _ _ _ _ _ _ _ PySem.F.plainAttrs_str PySem.F.slot_str_split PySem.F.type_str_split (@mt_splitN _) (pv 0) (@pa_cons _ _ _ _ _ (@pe_str _ _ _ _) (@pa_cons _ _ _ _ _ (@pe_callB _ _ _ _ _ _ _ _ _ (@call_len_seq _) (by rfl) T.z_len PySem.boot_len (@pa_cons _ _ _ _ _ (pv 1) (@pa_nil _) (by first | rfl | exact .inl rfl | exact .inr rfl | exact .inr (.inl rfl) | decide | decide +kernel | (intro _; rfl))) (by first | rfl | exact .inl rfl | exact .inr rfl | exact .inr (.inl rfl) | decide | decide +kernel | (intro _; rfl)) (by first | rfl | exact .inl rfl | exact .inr rfl | exact .inr (.inl rfl) | decide | decide +kernel | (intro _; rfl)) (by first | rfl | exact .inl rfl | exact .inr rfl | exact .inr (.inl rfl) | decide | decide +kernel | (intro _; rfl)) (by first | rfl | exact .inl rfl | exact .inr rfl | exact .inr (.inl rfl) | decide | decide +kernel | (intro _; rfl))) (@pa_nil _) (by first | rfl | exact .inl rfl | exact .inr rfl | exact .inr (.inl rfl) | decide | decide +kernel | (intro _; rfl))) (by first | rfl | exact .inl rfl | exact .inr rfl | exact .inr (.inl rfl) | decide | decide +kernel | (intro _; rfl))) (by first | rfl | exact .inl rfl | exact .inr rfl | exact .inr (.inl rfl) | decide | decide +kernel | (intro _; rfl)) (by first | rfl | exact .inl rfl | exact .inr rfl | exact .inr (.inl rfl) | decide | decide +kernel | (intro _; rfl)) (by first | rfl | exact .inl rfl | exact .inr rfl | exact .inr (.inl rfl) | decide | decide +kernel | (intro _; rfl)) (by first | rfl | exact .inl rfl | exact .inr rfl | exact .inr (.inl rfl) | decide | decide +kernel | (intro _; rfl)) (by first | rfl | exact .inl rfl | exact .inr rfl | exact .inr (.inl rfl) | decide | decide +kernel | (intro _; rfl))))) (@pss_nil _)) (@pss_one _ _ _ (@ps_ret _ _ _ _ (@pe_bm _ _ _ _ _ _ _ _ _ _ _ _ PySem.F.plainAttrs_str PySem.F.slot_str_split PySem.F.type_str_split (@mt_split _) (pv 0) (@pa_cons _ _ _ _ _ (@pe_str _ _ _ _) (@pa_nil _) (by first | rfl | exact .inl rfl | exact .inr rfl | exact .inr (.inl rfl) | decide | decide +kernel | (intro _; rfl))) (by first | rfl | exact .inl rfl | exact .inr rfl | exact .inr (.inl rfl) | decide | decide +kernel | (intro _; rfl)) (by first | rfl | exact .inl rfl | exact .inr rfl | exact .inr (.inl rfl) | decide | decide +kernel | (intro _; rfl)) (by first | rfl | exact .inl rfl | exact .inr rfl | exact .inr (.inl rfl) | decide | decide +kernel | (intro _; rfl)) (by first | rfl | exact .inl rfl | exact .inr rfl | exact .inr (.inl rfl) | decide | decide +kernel | (intro _; rfl)) (by first | rfl | exact .inl rfl | exact .inr rfl | exact .inr (.inl rfl) | decide | decide +kernel | (intro _; rfl)))))), ?_⟩
  refine ⟨_, rfl, q, _, rfl, .inr hq, rfl, by rw [kinds_flat]; exact flat_strs _, _, rfl, ?_⟩
  rw [if_neg Bool.false_ne_true, words_in]
  unfold pcs at k
  refine ite2 (fun c => ?_) (fun c => ?_)
  · have c' : Kd.words ∈ ks := of_decide_eq_true c
    rw [if_pos c'] at k
    have h0 : 0 < ks.length := List.length_pos_iff.mpr fun e => by rw [e] at c'; simp at c'
    exact ⟨_, rfl, rfl, _, rfl, q, _, rfl, .inr hq, _, ks.length, rfl, by rw [List.length_map], by omega, h0, by omega, k⟩
  · have c' : Kd.words ∉ ks := fun z => c (decide_eq_true z)
    rw [if_neg c'] at k
    exact ⟨_, rfl, rfl, _, rfl, rfl, by omega, k⟩
end
end K06

set_option Elab.async false
set_option linter.all false
set_option maxRecDepth 100000
set_option maxHeartbeats 4000000
namespace K06
open PySem L2 PyProof.Rows
def optR : Option Rw → D
  | none => .non
  | some r => rowD r
def rowOfD (n : Nat) : D → Option Rw
  | .str z => rowOf n z
  | _ => none
def sp_row_of : Sp := fun vs H Q _ => ∃ (v : V) (d : D) (n : Nat), vs = [v, .int (n : Int)] ∧ Is H d v ∧ n ≤ 40 ∧ ∀ (v' : V) (H' : Hp), Same H H' → Is H' (optR (rowOfD n d)) v' → Q v' H'
theorem rowOfD_bad {n : Nat} : ∀ {d : D}, txt d = false → rowOfD n d = none
  | .str z, h => by
    show rowOf n z = none
    unfold rowOf
    exact if_neg (by rw [show okText z = false from h]; exact Bool.false_ne_true)
  | .non, _ => rfl
  | .int _, _ => rfl
  | .bl _, _ => rfl
  | .lst, _ => rfl
  | .dct, _ => rfl
  | .tup _, _ => rfl
theorem txt_str : ∀ {d : D}, txt d = true → ∃ z, d = .str z
  | .str z, _ => ⟨z, rfl⟩
/-- the parts, each by itself -/
def ptsAt (n : Nat) (ks : List Kd) (zs : List Str) : List (Option Pt) := List.zipWith (partOf n) ks zs
theorem ptsAt_none {n : Nat} : ∀ {ks : List Kd} {zs : List Str}, (ptsAt n ks zs).any Option.isNone = true → partsOf n ks zs = none
  | [], _, h => by simp [ptsAt] at h
  | _ :: _, [], h => by simp [ptsAt] at h
  | k :: ks, z :: zs, h => by
    rw [ptsAt, List.zipWith_cons_cons, List.any_cons, Bool.or_eq_true] at h
    unfold partsOf
    rcases h with h | h
    · rw [Option.isNone_iff_eq_none.mp h]
    · rw [ptsAt_none h]
      split
      · rename_i h1 h2; cases h2
      · rfl
theorem ptsAt_some {n : Nat} : ∀ {ks : List Kd} {zs : List Str}, zs.length = ks.length → (ptsAt n ks zs).any Option.isNone = false → ∃ ps, partsOf n ks zs = some ps ∧ ptsAt n ks zs = ps.map some
  | [], [], _, _ => ⟨[], rfl, rfl⟩
  | [], _ :: _, hl, _ => by simp at hl
  | _ :: _, [], hl, _ => by simp at hl
  | k :: ks, z :: zs, hl, h => by
    rw [ptsAt, List.zipWith_cons_cons, List.any_cons, Bool.or_eq_false_iff] at h
    obtain ⟨ps, e1, e2⟩ := ptsAt_some (ks := ks) (zs := zs) (by simpa using hl) h.2
    cases e : partOf n k z with
    | none => rw [e] at h; cases h.1
    | some p =>
      refine ⟨p :: ps, ?_, ?_⟩
      · unfold partsOf
        rw [e, e1]
      · rw [ptsAt, List.zipWith_cons_cons, e, List.map_cons]
        congr 1
theorem vals_o {H : Hp} : ∀ {os : List (Option Pt)} {vs : List V}, L2.IsL H (os.map optD) vs → vs.all flatV = true ∧ inV .non vs = os.any Option.isNone
  | [], _, h => by cases (show _ = [] from h); exact ⟨rfl, rfl⟩
  | q :: ps, _, h => by
    obtain ⟨v, r, rfl, h1, h2⟩ := h
    obtain ⟨i1, i2⟩ := vals_o h2
    have hv : flatV v = true ∧ eqV v .non = q.isNone := by
      cases q with
      | none => cases (show v = .non from h1); exact ⟨rfl, rfl⟩
      | some q =>
        cases q with
        | s z => obtain ⟨rfl, _⟩ := h1; exact ⟨rfl, rfl⟩
        | n i => cases (show v = .int i from h1); exact ⟨rfl, rfl⟩
    refine ⟨?_, ?_⟩
    · rw [List.all_cons, hv.1, i1]; rfl
    · show (eqV v .non || inV .non r) = _
      rw [hv.2, i2]; rfl
theorem range_map {α : Type} (l : List α) (h : α → D) (f : Nat → D) (hf : ∀ i q, l[i]? = some q → f i = h q) : (List.range l.length).map f = l.map h := by
  apply List.ext_getElem
  · simp
  · intro i h1 h2
    simp only [List.length_map, List.length_range] at h1
    simp only [List.getElem_map, List.getElem_range]
    exact hf i l[i] (List.getElem?_eq_getElem h1)
section
variable {P : Program} {w : World} {K : PySem.W.Frag} {mg : Str → Option Value} {base : Heap} {a : Ad} {g : Ga}
theorem ok_row_of (T : Tx K mg a) (C : Fx K w mg g) : FnOk P w K mg base CX0 2 a.f_row_of a.d_row_of ["line", "count"] sp_row_of := by
  have G_is_text : FnOk P w K mg base CX0 1 a.f_is_text a.d_is_text ["value"] sp_is_text := ok_is_text T
  have G_part_of : FnOk P w K mg base CX0 1 a.f_part_of a.d_part_of ["kind", "piece", "count"] sp_part := ok_part T C
  have G_pieces_of : FnOk P w K mg base CX0 1 a.f_pieces_of a.d_pieces_of ["line", "form"] (sp_pieces K) := ok_pieces T
  refine T.F_row_of.ok sc_row_of (fun vs H Q E h => ?_) (fun cdv A outer s H vs Q E hr h => ?_)
  · obtain ⟨v, d, n, rfl, _⟩ := h
    rfl
  obtain ⟨v, d, n, rfl, hv, hn, k⟩ := h
  refine ⟨_, (@pss_cons _ _ _ _ _ (@ps_if _ _ _ _ _ _ _ _ (@pt_not _ _ _ _ (@pt_val _ _ _ (@pe_call _ _ _ _ _ _ _ _ _ _ _ _ _ _ _ _ G_is_text (hr.mono (by first | decide | omega)) (by rfl) T.m_is_text T.F_is_text.kp T.b_is_text .nil pass0 (@pa_cons _ _ _ _ _ (pv 0) (@pa_nil _) (by first | rfl | exact .inl rfl | exact .inr rfl | exact .inr (.inl rfl) | decide | decide +kernel | (intro _; rfl))) (by first | rfl | exact .inl rfl | exact .inr rfl | exact .inr (.inl rfl) | decide | decide +kernel | (intro _; rfl)) (by first | rfl | exact .inl rfl | exact .inr rfl | exact .inr (.inl rfl) | decide | decide +kernel | (intro _; rfl)) (by first | rfl | exact .inl rfl | exact .inr rfl | exact .inr (.inl rfl) | decide | decide +kernel | (intro _; rfl))) (by first | rfl | exact .inl rfl | exact .inr rfl | exact .inr (.inl rfl) | decide | decide +kernel | (intro _; rfl)))) (@pss_one _ _ _ (@ps_ret _ _ _ _ (@pe_non _ _ _))) (@pss_nil _)) (@pss_cons _ _ _ _ _ (@ps_set _ _ (2) _ _ _ _ sc_row_of.nd rfl (Or.inl rfl) (@pe_ix _ _ _ _ _ _ _ (@ix_tup _) (@pe_bm _ _ _ _ _ _ _ _ _ _ _ _ PySem.F.plainAttrs_str PySem.F.slot_str_partition PySem.F.type_str_partition (@mt_part _) (pv 0) (@pa_cons _ _ _ _ _ (@pe_str _ _ _ _) (@pa_nil _) (by first | rfl | exact .inl rfl | exact .inr rfl | exact .inr (.inl rfl) | decide | decide +kernel | (intro _; rfl))) (by first | rfl | exact .inl rfl | exact .inr rfl | exact .inr (.inl rfl) | decide | decide +kernel | (intro _; rfl)) (by first | rfl | exact .inl rfl | exact .inr rfl | exact .inr (.inl rfl) | decide | decide +kernel | (intro _; rfl)) (by first | rfl | exact .inl rfl | exact .inr rfl | exact .inr (.inl rfl) | decide | decide +kernel | (intro _; rfl)) (by first | rfl | exact .inl rfl | exact .inr rfl | exact .inr (.inl rfl) | decide | decide +kernel | (intro _; rfl)) (by first | rfl | exact .inl rfl | exact .inr rfl | exact .inr (.inl rfl) | decide | decide +kernel | (intro _; rfl))) (@pe_int _ _ _ _) (fun _ _ => rfl)) (by first | rfl | exact .inl rfl | exact .inr rfl | exact .inr (.inl rfl) | decide | decide +kernel | (intro _; rfl)) (by first | rfl | exact .inl rfl | exact .inr rfl | exact .inr (.inl rfl) | decide | decide +kernel | (intro _; rfl))) (@pss_cons _ _ _ _ _ (@ps_if _ _ _ _ _ _ _ _ (@pt_cmpR _ _ _ _ _ _ _ _ (@op_notK _) (pv 2) (@pe_gR _ _ _ _ (by rfl) C.m_FORMS (by first | rfl | exact .inl rfl | exact .inr rfl | exact .inr (.inl rfl) | decide | decide +kernel | (intro _; rfl))) (by with_unfolding_all rfl)) (@pss_one _ _ _ (@ps_ret _ _ _ _ (@pe_non _ _ _))) (@pss_nil _)) (@pss_cons _ _ _ _ _ (@ps_set _ _ (3) _ _ _ _ sc_row_of.nd rfl (Or.inl rfl) (@pe_ix _ _ _ _ _ _ _ (@ix_K _) (@pe_gR _ _ _ _ (by rfl) C.m_FORMS (by first | rfl | exact .inl rfl | exact .inr rfl | exact .inr (.inl rfl) | decide | decide +kernel | (intro _; rfl))) (pv 2) (fun _ _ => rfl)) (by first | rfl | exact .inl rfl | exact .inr rfl | exact .inr (.inl rfl) | decide | decide +kernel | (intro _; rfl)) (by first | rfl | exact .inl rfl | exact .inr rfl | exact .inr (.inl rfl) | decide | decide +kernel | (intro _; rfl))) (@pss_cons _ _ _ _ _ (@ps_set _ _ (4) _ _ _ _ sc_row_of.nd rfl (Or.inl rfl) (@pe_call _ _ _ _ _ _ _ _ _ _ _ _ _ _ _ _ G_pieces_of (hr.mono (by first | decide | omega)) (by rfl) T.m_pieces_of T.F_pieces_of.kp T.b_pieces_of .nil pass0 (@pa_cons _ _ _ _ _ (pv 0) (@pa_cons _ _ _ _ _ (pv 3) (@pa_nil _) (by first | rfl | exact .inl rfl | exact .inr rfl | exact .inr (.inl rfl) | decide | decide +kernel | (intro _; rfl))) (by first | rfl | exact .inl rfl | exact .inr rfl | exact .inr (.inl rfl) | decide | decide +kernel | (intro _; rfl))) (by first | rfl | exact .inl rfl | exact .inr rfl | exact .inr (.inl rfl) | decide | decide +kernel | (intro _; rfl)) (by first | rfl | exact .inl rfl | exact .inr rfl | exact .inr (.inl rfl) | decide | decide +kernel | (intro _; rfl)) (by first | rfl | exact .inl rfl | exact .inr rfl | exact .inr (.inl rfl) | decide | decide +kernel | (intro _; rfl))) (by first | rfl | exact .inl rfl | exact .inr rfl | exact .inr (.inl rfl) | decide | decide +kernel | (intro _; rfl)) (by first | rfl | exact .inl rfl | exact .inr rfl | exact .inr (.inl rfl) | decide | decide +kernel | (intro _; rfl))) (@pss_cons _ _ _ _ _ (@ps_if _ _ _ _ _ _ _ _ (@pt_cmpR _ _ _ _ _ _ _ _ (@op_ne _) (@pe_callB _ _ _ _ _ _ _ _ _ (@call_len_seq _) (by rfl) T.z_len PySem.boot_len (@pa_cons _ _ _ _ _ (pv 4) (@pa_nil _) (by first | rfl | exact .inl rfl | exact .inr rfl | exact .inr (.inl rfl) | decide | decide +kernel | (intro _; rfl))) (by first | rfl | exact .inl rfl | exact .inr rfl | exact .inr (.inl rfl) | decide | decide +kernel | (intro _; rfl)) (by first | rfl | exact .inl rfl | exact .inr rfl | exact .inr (.inl rfl) | decide | decide +kernel | (intro _; rfl)) (by first | rfl | exact .inl rfl | exact .inr rfl | exact .inr (.inl rfl) | decide | decide +kernel | (intro _; rfl)) (by first | rfl | exact .inl rfl | exact .inr rfl | exact .inr (.inl rfl) | decide | decide +kernel | (intro _; rfl))) (@pe_op _ _ _ _ _ _ _ _ (@op_add _) (@pe_int _ _ _ _) (@pe_callB _ _ _ _ _ _ _ _ _ (@call_len_seq _) (by rfl) T.z_len PySem.boot_len (@pa_cons _ _ _ _ _ (pv 3) (@pa_nil _) (by first | rfl | exact .inl rfl | exact .inr rfl | exact .inr (.inl rfl) | decide | decide +kernel | (intro _; rfl))) (by first | rfl | exact .inl rfl | exact .inr rfl | exact .inr (.inl rfl) | decide | decide +kernel | (intro _; rfl)) (by first | rfl | exact .inl rfl | exact .inr rfl | exact .inr (.inl rfl) | decide | decide +kernel | (intro _; rfl)) (by first | rfl | exact .inl rfl | exact .inr rfl | exact .inr (.inl rfl) | decide | decide +kernel | (intro _; rfl)) (by first | rfl | exact .inl rfl | exact .inr rfl | exact .inr (.inl rfl) | decide | decide +kernel | (intro _; rfl)))) (nomark _)) (@pss_one _ _ _ (@ps_ret _ _ _ _ (@pe_non _ _ _))) (@pss_nil _)) (@pss_cons _ _ _ _ _ (@ps_set _ _ (5) _ _ _ _ sc_row_of.nd rfl (Or.inl rfl) (@pe_callTy _ _ _ _ _ _ _ _ _ (@call_tuple_of _) (by rfl) T.z_tuple boot_tuple (@pa_cons _ _ _ _ _ (@pe_lc _ _ (["kind", "piece", "count"]) (2) ([1]) _ _ _ _ _ _ _ _ _ (lcsN (defScope s_row_of) ["line", "count", "word", "form", "pieces", "parts"]) rfl (@pi_zip _ _ _ _ _ _ _ _ _ (by rfl) T.z_zip (@pa_cons _ _ _ _ _ (pv 3) (@pa_cons _ _ _ _ _ (@pe_slice _ _ _ _ _ _ _ _ _ _ (@sl_list _) (pv 4) (@po_some _ _ _ (@pe_int _ _ _ _)) (@po_none _)) (@pa_nil _) (by first | rfl | exact .inl rfl | exact .inr rfl | exact .inr (.inl rfl) | decide | decide +kernel | (intro _; rfl))) (by first | rfl | exact .inl rfl | exact .inr rfl | exact .inr (.inl rfl) | decide | decide +kernel | (intro _; rfl))) (by first | rfl | exact .inl rfl | exact .inr rfl | exact .inr (.inl rfl) | decide | decide +kernel | (intro _; rfl)) (by first | rfl | exact .inl rfl | exact .inr rfl | exact .inr (.inl rfl) | decide | decide +kernel | (intro _; rfl))) (fun _ _ _ _ _ _ => (@pg_tupK _ (K) _ _ _ (2) _ rfl rfl (pgs_cons (@pg_name _ _ (0) _ (show List.Nodup (["kind", "piece", "count"] : List Str) by decide +kernel) rfl (Or.inl rfl) (by first | rfl | exact .inl rfl | exact .inr rfl | exact .inr (.inl rfl) | decide | decide +kernel | (intro _; rfl))) (pgs_cons (@pg_name _ _ (1) _ (show List.Nodup (["kind", "piece", "count"] : List Str) by decide +kernel) rfl (Or.inl rfl) (by first | rfl | exact .inl rfl | exact .inr rfl | exact .inr (.inl rfl) | decide | decide +kernel | (intro _; rfl))) pgs_nil)) (by first | rfl | exact .inl rfl | exact .inr rfl | exact .inr (.inl rfl) | decide | decide +kernel | (intro _; rfl)) (by first | rfl | exact .inl rfl | exact .inr rfl | exact .inr (.inl rfl) | decide | decide +kernel | (intro _; rfl)))) (fun _ _ _ _ _ _ => @pif_nil _) (fun _ _ _ _ _ _ => (@pe_call _ _ _ _ _ _ _ _ _ _ _ _ _ _ _ _ G_part_of (hr.mono (by first | decide | omega)) (by rfl) T.m_part_of T.F_part_of.kp T.b_part_of .nil pass0 (@pa_cons _ _ _ _ _ (pv 0) (@pa_cons _ _ _ _ _ (pv 1) (@pa_cons _ _ _ _ _ (pv 2) (@pa_nil _) (by first | rfl | exact .inl rfl | exact .inr rfl | exact .inr (.inl rfl) | decide | decide +kernel | (intro _; rfl))) (by first | rfl | exact .inl rfl | exact .inr rfl | exact .inr (.inl rfl) | decide | decide +kernel | (intro _; rfl))) (by first | rfl | exact .inl rfl | exact .inr rfl | exact .inr (.inl rfl) | decide | decide +kernel | (intro _; rfl))) (by first | rfl | exact .inl rfl | exact .inr rfl | exact .inr (.inl rfl) | decide | decide +kernel | (intro _; rfl)) (by first | rfl | exact .inl rfl | exact .inr rfl | exact .inr (.inl rfl) | decide | decide +kernel | (intro _; rfl)) (by first | rfl | exact .inl rfl | exact .inr rfl | exact .inr (.inl rfl) | decide | decide +kernel | (intro _; rfl)))) (by first | rfl | exact .inl rfl | exact .inr rfl | exact .inr (.inl rfl) | decide | decide +kernel | (intro _; rfl))) (@pa_nil _) (by first | rfl | exact .inl rfl | exact .inr rfl | exact .inr (.inl rfl) | decide | decide +kernel | (intro _; rfl))) (by first | rfl | exact .inl rfl | exact .inr rfl | exact .inr (.inl rfl) | decide | decide +kernel | (intro _; rfl)) (by first | rfl | exact .inl rfl | exact .inr rfl | exact .inr (.inl rfl) | decide | decide +kernel | (intro _; rfl)) (by first | rfl | exact .inl rfl | exact .inr rfl | exact .inr (.inl rfl) | decide | decide +kernel | (intro _; rfl)) (by first | rfl | exact .inl rfl | exact .inr rfl | exact .inr (.inl rfl) | decide | decide +kernel | (intro _; rfl))) (by first | rfl | exact .inl rfl | exact .inr rfl | exact .inr (.inl rfl) | decide | decide +kernel | (intro _; rfl)) (by first | rfl | exact .inl rfl | exact .inr rfl | exact .inr (.inl rfl) | decide | decide +kernel | (intro _; rfl))) (@pss_one _ _ _ (@ps_ret _ _ _ _ (@pe_ifExp _ _ _ _ _ _ _ _ (@pt_cmpR _ _ _ _ _ _ _ _ (@op_in_seq _) (@pe_non _ _ _) (pv 5) (by with_unfolding_all rfl)) (@pe_non _ _ _) (@pe_tup _ _ _ _ _ (@pa_cons _ _ _ _ _ (pv 2) (@pa_cons _ _ _ _ _ (pv 5) (@pa_nil _) (by first | rfl | exact .inl rfl | exact .inr rfl | exact .inr (.inl rfl) | decide | decide +kernel | (intro _; rfl))) (by first | rfl | exact .inl rfl | exact .inr rfl | exact .inr (.inl rfl) | decide | decide +kernel | (intro _; rfl)))))))))))))), ?_⟩
  refine ⟨_, rfl, v, d, rfl, hv, _, rfl, ?_⟩
  cases e0 : txt d with
  | false =>
    rw [rowOfD_bad e0] at k
    exact iteTof rfl (k _ H (Same.refl _) rfl)
  | true =>
  obtain ⟨z, rfl⟩ := txt_str e0
  obtain ⟨rfl, hzs⟩ := hv
  have ht : okText z = true := e0
  have hz : z.length ≤ 300 := by
    have ht' := ht
    unfold okText at ht'
    rw [Bool.and_eq_true, decide_eq_true_eq] at ht'
    exact ht'.1
  have k : ∀ (v' : V) (H' : Hp), Same H H' → Is H' (optR (rowOf n z)) v' → Q v' H' := k
  refine iteFof rfl ?_
  refine ⟨_, rfl, rfl, _, rfl, rfl, by omega, fun t1 x1 x2 g1 => ?_⟩
  refine ⟨t1, _, 0, _, rfl, rfl, SqT.of upd_same, rfl, ?_⟩
  have s1 : Same H (upd H t1 (.tup [.str (hd z), .str x1, .str x2])) := same_new g1 _
  generalize upd H t1 (.tup [.str (hd z), .str x1, .str x2]) = H1 at s1 ⊢
  unfold rowOf at k
  rw [if_pos ht] at k
  cases ef : formOf (hd z) with
  | none =>
    rw [ef] at k
    refine ⟨_, rfl, hd z, g.forms, _, rfl, rfl, C.kd, C.none_ _ ef, _, rfl, ?_⟩
    exact iteTof rfl (k _ _ s1 rfl)
  | some ks =>
  have hk := formOf_mem ef
  rw [ef] at k
  simp only at k
  obtain ⟨q, hfq, hft⟩ := C.forms _ hk
  have hf : ks.length ≤ 3 := form_few _ hk
  refine ⟨_, rfl, hd z, g.forms, _, rfl, rfl, C.kd, hfq, _, rfl, ?_⟩
  refine iteFof rfl ?_
  refine ⟨_, rfl, hd z, g.forms, _, .ref q, rfl, rfl, C.kd, hfq, rfl, ?_⟩
  refine ⟨_, rfl, _, rfl, z, ks, q, rfl, hz, hf, hft _, fun p2 g2 => ?_⟩
  have s2 : Same H1 (upd H1 p2 (.lst ((pcs ks z).map V.str))) := same_new g2 _
  have e2 : (upd H1 p2 (.lst ((pcs ks z).map V.str))) p2 = some (.lst ((pcs ks z).map V.str)) := upd_same
  generalize upd H1 p2 (.lst ((pcs ks z).map V.str)) = H2 at s2 e2 ⊢
  refine ⟨_, rfl, p2, _, rfl, .inl (SqL.of e2), _, rfl, q, _, rfl, .inr (hft _), _, _, rfl, rfl, rfl, _, rfl, ?_⟩
  by_cases hl : (pcs ks z).length = 1 + ks.length
  case neg =>
    rw [if_neg hl] at k
    refine iteTof ?_ (k _ _ (s1.trans s2) rfl)
    rw [List.length_map, List.length_map]
    show (!decide (V.int _ = V.int _)) = true
    rw [decide_eq_false]
    · rfl
    · intro q
      have : ((pcs ks z).length : Int) = 1 + (ks.length : Int) := V.int.inj q
      omega
  rw [if_pos hl] at k
  refine iteFof ?_ ?_
  · rw [List.length_map, List.length_map, show ((pcs ks z).length : Int) = 1 + (ks.length : Int) by omega]
    simp
  have hzl : ((pcs ks z).drop 1).length = ks.length := by rw [List.length_drop]; omega
  have hsp : ∀ p ∈ (pcs ks z).drop 1, p.length ≤ 300 := fun p hp => by
    have ht' := ht
    unfold okText at ht'
    rw [Bool.and_eq_true, decide_eq_true_eq] at ht'
    exact (spl_ok ht'.1 ht'.2 p (List.mem_of_mem_drop hp)).1
  refine ⟨_, rfl, _, rfl, _, rfl, p2, _, rfl, SqL.of e2, fun p3 g3 => ?_⟩
  have ecut : cutV ((pcs ks z).map V.str) (some 1) none = ((pcs ks z).drop 1).map V.str := by
    rw [show (some (1 : Int)) = some (((1 : Nat)) : Int) from rfl, cutV_drop (by rw [List.length_map]; omega), List.map_drop]
  rw [ecut]
  generalize (pcs ks z).drop 1 = zs at hzl hsp k ⊢
  have s3 : Same H2 (upd H2 p3 (.lst (zs.map V.str))) := same_new g3 _
  have e3 : (upd H2 p3 (.lst (zs.map V.str))) p3 = some (.lst (zs.map V.str)) := upd_same
  generalize upd H2 p3 (.lst (zs.map V.str)) = H3 at s3 e3 ⊢
  have hol : (ptsAt n ks zs).length = ks.length := by rw [ptsAt, List.length_zipWith]; omega
  refine ⟨q, p3, _, _, rfl, hft _, SqL.of e3, fun A1 gA => ?_⟩
  refine lc_zip (K := K) (tl := [some (.int (n : Int))]) (xs := ks.map fun k : Kd => V.str k.t) (ys := zs.map V.str) (fun i => optD ((ptsAt n ks zs).getD i none)) (fun H' _ => hft H') (fun H' sm => SqL.of (sm _ _ e3)) (by simp [hzl]) (by rw [List.length_map]; exact small (by omega)) gA ?_ ?_
  · intro i x y H4 R hx hy s4 hR
    rw [List.getElem?_map] at hx hy
    cases hki : ks[i]? with
    | none => rw [hki] at hx; cases hx
    | some kd =>
      rw [hki] at hx
      cases hx
      cases hpi : zs[i]? with
      | none => rw [hpi] at hy; cases hy
      | some z1 =>
        rw [hpi] at hy
        cases hy
        refine ⟨_, rfl, _, rfl, _, rfl, n, kd, z1, rfl, hn, hsp _ (List.mem_of_getElem? hpi), fun v H5 s5 hv => hR v H5 s5 ?_⟩
        have e : (ptsAt n ks zs).getD i none = partOf n kd z1 := by simp [List.getD, ptsAt, List.getElem?_zipWith, hki, hpi]
        simp only [e]
        exact hv
  intro H5 vs s5 e5 h5
  have h5' : L2.IsL H5 ((ptsAt n ks zs).map optD) vs := by
    rw [List.length_map, ← hol] at h5
    rw [range_map (ptsAt n ks zs) optD _ (fun i q1 hi => by simp [List.getD, hi])] at h5
    exact h5
  refine ⟨A1, vs, rfl, .inl ⟨SqL.of e5, fun t6 g6 => ?_⟩⟩
  have s6 : Same H5 (upd H5 t6 (.tup vs)) := same_new g6 _
  have i6 : Is (upd H5 t6 (.tup vs)) (.tup ((ptsAt n ks zs).map optD)) (.ref t6) := Is.new h5' g6
  have e6 : (upd H5 t6 (.tup vs)) t6 = some (.tup vs) := upd_same
  generalize upd H5 t6 (.tup vs) = H6 at s6 i6 e6 ⊢
  obtain ⟨f1, f2⟩ := vals_o h5'
  have sAll := s1.trans (s2.trans (s3.trans (s5.trans s6)))
  refine ⟨_, rfl, t6, vs, rfl, .inr (SqT.of e6), rfl, f1, _, rfl, ?_⟩
  rw [if_neg Bool.false_ne_true, f2]
  refine ite2 (fun c => ?_) (fun c => ?_)
  · rw [ptsAt_none c] at k
    exact k _ _ sAll rfl
  · have c' : (ptsAt n ks zs).any Option.isNone = false := by
      cases h : (ptsAt n ks zs).any Option.isNone with
      | false => rfl
      | true => exact absurd h c
    obtain ⟨ps, q1, q2⟩ := ptsAt_some hzl c'
    rw [q1] at k
    rw [q2, List.map_map] at i6
    refine ⟨_, rfl, _, rfl, (by show 2 ≤ sizeLine; decide), fun t7 g7 => ?_⟩
    have hwl : (hd z).length ≤ sizeLine := by
      have key : ∀ x ∈ FRM, x.1.length ≤ 100 := by decide +kernel
      have := key _ hk
      exact small (by simp only at this; omega)
    exact k _ _ (sAll.trans (same_new g7 _)) (Is.new (ds := [.str (hd z), .tup (ps.map Pt.d)]) ⟨_, _, rfl, ⟨rfl, hwl⟩, _, _, rfl, i6, rfl⟩ g7)
end
end K06

set_option Elab.async false
set_option linter.all false
set_option maxRecDepth 100000
set_option maxHeartbeats 4000000
namespace K06
open PySem L2 PyProof.Rows
/-- what is no rule, and its first bad line -/
inductive FB : D → Int → Prop
  | kind {d : D} (h : isTup d = false) : FB d 1
  | few : FB (.tup []) 1
  | line {ds : List D} {k : Nat} (hn : ds.length ≤ 40) (hk : k < ds.length) (hb : rowOfD ds.length ds[k] = none) (ho : ∀ j (hj : j < k), (rowOfD ds.length (ds[j]'(Nat.lt_trans hj hk))).isNone = false) : FB (.tup ds) ((k : Int) + 1)
theorem isSome_of {α : Type} {o : Option α} (h : o.isNone = false) : ∃ x, o = some x := by cases o with
  | none => cases h
  | some x => exact ⟨x, rfl⟩
def rowsOfD (n : Nat) (ds : List D) : List Rw := ds.filterMap (rowOfD n)
theorem rowsOfD_take {n : Nat} {ds : List D} {i : Nat} {d : D} {r : Rw} (h1 : ds[i]? = some d) (h2 : rowOfD n d = some r) : rowsOfD n (ds.take (i + 1)) = rowsOfD n (ds.take i) ++ [r] := by
  unfold rowsOfD
  rw [List.take_add_one, h1, List.filterMap_append]
  simp [h2]
theorem rowsOfD_len {n : Nat} : ∀ {ds : List D}, (∀ z ∈ ds, (rowOfD n z).isNone = false) → (rowsOfD n ds).length = ds.length
  | [], _ => rfl
  | z :: ds, h => by
    obtain ⟨r, e⟩ := isSome_of (h z List.mem_cons_self)
    unfold rowsOfD
    rw [List.filterMap_cons_some e, List.length_cons, List.length_cons]
    exact congrArg (· + 1) (rowsOfD_len fun y hy => h y (List.mem_cons_of_mem _ hy))
def sp_read : Sp := fun vs H Q _ => ∃ (v : V) (d : D) (i : Int), vs = [v] ∧ FB d i ∧ Is H d v ∧ ∀ (u : V) (H' : Hp) (x : D), Same H H' → Is H' (.tup [x, .int i]) u → Q u H'
section
variable {P : Program} {w : World} {K : PySem.W.Frag} {mg : Str → Option Value} {base : Heap} {a : Ad} {g : Ga}
theorem ok_read (T : Tx K mg a) (C : Fx K w mg g) : FnOk P w K mg base CX0 3 a.f_read_lines a.d_read_lines ["value"] sp_read := by
  have G_is_tree : FnOk P w K mg base CX0 2 a.f_is_tree a.d_is_tree ["value"] sp_is_tree := ok_is_tree T
  have G_row_of : FnOk P w K mg base CX0 2 a.f_row_of a.d_row_of ["line", "count"] sp_row_of := ok_row_of T C
  refine T.F_read_lines.ok sc_read_lines (fun vs H Q E h => ?_) (fun cdv A outer s H vs Q E hr h => ?_)
  · obtain ⟨v, d, i, rfl, _⟩ := h
    rfl
  obtain ⟨v, d, i, rfl, hF, hv, k⟩ := h
  refine ⟨_, (@pss_cons _ _ _ _ _ (@ps_if _ _ _ _ _ _ _ _ (@pw_or _ _ _ _ _ _ _ (@pt_not _ _ _ _ (@pt_val _ _ _ (@pe_callB _ _ _ _ _ _ _ _ _ (@call_isinst _ _ rfl) (by rfl) T.z_isinstance boot_isinstance (@pa_cons _ _ _ _ _ (pv 0) (@pa_cons _ _ _ _ _ (@pe_bltn _ _ (.ty "tuple") _ _ (by rfl) T.z_tuple boot_tuple rfl (by first | rfl | exact .inl rfl | exact .inr rfl | exact .inr (.inl rfl) | decide | decide +kernel | (intro _; rfl)) (by first | rfl | exact .inl rfl | exact .inr rfl | exact .inr (.inl rfl) | decide | decide +kernel | (intro _; rfl))) (@pa_nil _) (by first | rfl | exact .inl rfl | exact .inr rfl | exact .inr (.inl rfl) | decide | decide +kernel | (intro _; rfl))) (by first | rfl | exact .inl rfl | exact .inr rfl | exact .inr (.inl rfl) | decide | decide +kernel | (intro _; rfl))) (by first | rfl | exact .inl rfl | exact .inr rfl | exact .inr (.inl rfl) | decide | decide +kernel | (intro _; rfl)) (by first | rfl | exact .inl rfl | exact .inr rfl | exact .inr (.inl rfl) | decide | decide +kernel | (intro _; rfl)) (by first | rfl | exact .inl rfl | exact .inr rfl | exact .inr (.inl rfl) | decide | decide +kernel | (intro _; rfl)) (by first | rfl | exact .inl rfl | exact .inr rfl | exact .inr (.inl rfl) | decide | decide +kernel | (intro _; rfl))) (by first | rfl | exact .inl rfl | exact .inr rfl | exact .inr (.inl rfl) | decide | decide +kernel | (intro _; rfl)))) (@pw_or1 _ _ _ _ (@pt_not _ _ _ _ (@pt_chain _ _ _ _ _ _ _ _ _ _ _ _ (@op_le _) (@op_le _) (@pe_int _ _ _ _) (@pe_callB _ _ _ _ _ _ _ _ _ (@call_len_seq _) (by rfl) T.z_len PySem.boot_len (@pa_cons _ _ _ _ _ (pv 0) (@pa_nil _) (by first | rfl | exact .inl rfl | exact .inr rfl | exact .inr (.inl rfl) | decide | decide +kernel | (intro _; rfl))) (by first | rfl | exact .inl rfl | exact .inr rfl | exact .inr (.inl rfl) | decide | decide +kernel | (intro _; rfl)) (by first | rfl | exact .inl rfl | exact .inr rfl | exact .inr (.inl rfl) | decide | decide +kernel | (intro _; rfl)) (by first | rfl | exact .inl rfl | exact .inr rfl | exact .inr (.inl rfl) | decide | decide +kernel | (intro _; rfl)) (by first | rfl | exact .inl rfl | exact .inr rfl | exact .inr (.inl rfl) | decide | decide +kernel | (intro _; rfl))) (@pe_gI _ _ _ _ (by rfl) T.m_MOST_LINES (by first | rfl | exact .inl rfl | exact .inr rfl | exact .inr (.inl rfl) | decide | decide +kernel | (intro _; rfl))) (by first | rfl | exact .inl rfl | exact .inr rfl | exact .inr (.inl rfl) | decide | decide +kernel | (intro _; rfl)))))).pt (@pss_one _ _ _ (@ps_ret _ _ _ _ (@pe_tup _ _ _ _ _ (@pa_cons _ _ _ _ _ (@pe_tup _ _ _ _ _ (@pa_nil _)) (@pa_cons _ _ _ _ _ (@pe_int _ _ _ _) (@pa_nil _) (by first | rfl | exact .inl rfl | exact .inr rfl | exact .inr (.inl rfl) | decide | decide +kernel | (intro _; rfl))) (by first | rfl | exact .inl rfl | exact .inr rfl | exact .inr (.inl rfl) | decide | decide +kernel | (intro _; rfl)))))) (@pss_nil _)) (@pss_cons _ _ _ _ _ (@ps_set _ _ (1) _ _ _ _ sc_read_lines.nd rfl (Or.inl rfl) (@pe_lst _ _ _ _ (@pa_nil _)) (by first | rfl | exact .inl rfl | exact .inr rfl | exact .inr (.inl rfl) | decide | decide +kernel | (intro _; rfl)) (by first | rfl | exact .inl rfl | exact .inr rfl | exact .inr (.inl rfl) | decide | decide +kernel | (intro _; rfl))) (@pss_cons _ _ _ _ _ (@ps_for _ _ _ _ _ _ _ _ PassesOwn.never rfl (@pi_tup _ _ _ _ (pv 0)) (@pg_name _ _ (2) _ sc_read_lines.nd rfl (Or.inl rfl) (by first | rfl | exact .inl rfl | exact .inr rfl | exact .inr (.inl rfl) | decide | decide +kernel | (intro _; rfl))) (@pss_cons _ _ _ _ _ (@ps_set _ _ (3) _ _ _ _ sc_read_lines.nd rfl (Or.inl rfl) (@pe_call _ _ _ _ _ _ _ _ _ _ _ _ _ _ _ _ G_row_of (hr.mono (by first | decide | omega)) (by rfl) T.m_row_of T.F_row_of.kp T.b_row_of .nil pass0 (@pa_cons _ _ _ _ _ (pv 2) (@pa_cons _ _ _ _ _ (@pe_callB _ _ _ _ _ _ _ _ _ (@call_len_seq _) (by rfl) T.z_len PySem.boot_len (@pa_cons _ _ _ _ _ (pv 0) (@pa_nil _) (by first | rfl | exact .inl rfl | exact .inr rfl | exact .inr (.inl rfl) | decide | decide +kernel | (intro _; rfl))) (by first | rfl | exact .inl rfl | exact .inr rfl | exact .inr (.inl rfl) | decide | decide +kernel | (intro _; rfl)) (by first | rfl | exact .inl rfl | exact .inr rfl | exact .inr (.inl rfl) | decide | decide +kernel | (intro _; rfl)) (by first | rfl | exact .inl rfl | exact .inr rfl | exact .inr (.inl rfl) | decide | decide +kernel | (intro _; rfl)) (by first | rfl | exact .inl rfl | exact .inr rfl | exact .inr (.inl rfl) | decide | decide +kernel | (intro _; rfl))) (@pa_nil _) (by first | rfl | exact .inl rfl | exact .inr rfl | exact .inr (.inl rfl) | decide | decide +kernel | (intro _; rfl))) (by first | rfl | exact .inl rfl | exact .inr rfl | exact .inr (.inl rfl) | decide | decide +kernel | (intro _; rfl))) (by first | rfl | exact .inl rfl | exact .inr rfl | exact .inr (.inl rfl) | decide | decide +kernel | (intro _; rfl)) (by first | rfl | exact .inl rfl | exact .inr rfl | exact .inr (.inl rfl) | decide | decide +kernel | (intro _; rfl)) (by first | rfl | exact .inl rfl | exact .inr rfl | exact .inr (.inl rfl) | decide | decide +kernel | (intro _; rfl))) (by first | rfl | exact .inl rfl | exact .inr rfl | exact .inr (.inl rfl) | decide | decide +kernel | (intro _; rfl)) (by first | rfl | exact .inl rfl | exact .inr rfl | exact .inr (.inl rfl) | decide | decide +kernel | (intro _; rfl))) (@pss_cons _ _ _ _ _ (@ps_if _ _ _ _ _ _ _ _ (@pt_cmpR _ _ _ _ _ _ _ _ (@op_isN _) (pv 3) (@pe_non _ _ _) (nomark _)) (@pss_one _ _ _ (@ps_ret _ _ _ _ (@pe_tup _ _ _ _ _ (@pa_cons _ _ _ _ _ (@pe_callTy _ _ _ _ _ _ _ _ _ (@call_tuple_of _) (by rfl) T.z_tuple boot_tuple (@pa_cons _ _ _ _ _ (pv 1) (@pa_nil _) (by first | rfl | exact .inl rfl | exact .inr rfl | exact .inr (.inl rfl) | decide | decide +kernel | (intro _; rfl))) (by first | rfl | exact .inl rfl | exact .inr rfl | exact .inr (.inl rfl) | decide | decide +kernel | (intro _; rfl)) (by first | rfl | exact .inl rfl | exact .inr rfl | exact .inr (.inl rfl) | decide | decide +kernel | (intro _; rfl)) (by first | rfl | exact .inl rfl | exact .inr rfl | exact .inr (.inl rfl) | decide | decide +kernel | (intro _; rfl)) (by first | rfl | exact .inl rfl | exact .inr rfl | exact .inr (.inl rfl) | decide | decide +kernel | (intro _; rfl))) (@pa_cons _ _ _ _ _ (@pe_op _ _ _ _ _ _ _ _ (@op_add _) (@pe_callB _ _ _ _ _ _ _ _ _ (@call_len_seq _) (by rfl) T.z_len PySem.boot_len (@pa_cons _ _ _ _ _ (pv 1) (@pa_nil _) (by first | rfl | exact .inl rfl | exact .inr rfl | exact .inr (.inl rfl) | decide | decide +kernel | (intro _; rfl))) (by first | rfl | exact .inl rfl | exact .inr rfl | exact .inr (.inl rfl) | decide | decide +kernel | (intro _; rfl)) (by first | rfl | exact .inl rfl | exact .inr rfl | exact .inr (.inl rfl) | decide | decide +kernel | (intro _; rfl)) (by first | rfl | exact .inl rfl | exact .inr rfl | exact .inr (.inl rfl) | decide | decide +kernel | (intro _; rfl)) (by first | rfl | exact .inl rfl | exact .inr rfl | exact .inr (.inl rfl) | decide | decide +kernel | (intro _; rfl))) (@pe_int _ _ _ _)) (@pa_nil _) (by first | rfl | exact .inl rfl | exact .inr rfl | exact .inr (.inl rfl) | decide | decide +kernel | (intro _; rfl))) (by first | rfl | exact .inl rfl | exact .inr rfl | exact .inr (.inl rfl) | decide | decide +kernel | (intro _; rfl)))))) (@pss_nil _)) (@pss_one _ _ _ (@ps_expr _ _ _ _ (@pe_bm _ _ _ _ _ _ _ _ _ _ _ _ PySem.F.plainAttrs_list PySem.F.slot_list_append PySem.F.type_list_append (@mt_append _) (pv 1) (@pa_cons _ _ _ _ _ (pv 3) (@pa_nil _) (by first | rfl | exact .inl rfl | exact .inr rfl | exact .inr (.inl rfl) | decide | decide +kernel | (intro _; rfl))) (by first | rfl | exact .inl rfl | exact .inr rfl | exact .inr (.inl rfl) | decide | decide +kernel | (intro _; rfl)) (by first | rfl | exact .inl rfl | exact .inr rfl | exact .inr (.inl rfl) | decide | decide +kernel | (intro _; rfl)) (by first | rfl | exact .inl rfl | exact .inr rfl | exact .inr (.inl rfl) | decide | decide +kernel | (intro _; rfl)) (by first | rfl | exact .inl rfl | exact .inr rfl | exact .inr (.inl rfl) | decide | decide +kernel | (intro _; rfl)) (by first | rfl | exact .inl rfl | exact .inr rfl | exact .inr (.inl rfl) | decide | decide +kernel | (intro _; rfl))) (by first | rfl | exact .inl rfl | exact .inr rfl | exact .inr (.inl rfl) | decide | decide +kernel | (intro _; rfl)))))) (by first | rfl | exact .inl rfl | exact .inr rfl | exact .inr (.inl rfl) | decide | decide +kernel | (intro _; rfl))) (@pss_one _ _ _ (@ps_ret _ _ _ _ (@pe_tup _ _ _ _ _ (@pa_cons _ _ _ _ _ (@pe_callTy _ _ _ _ _ _ _ _ _ (@call_tuple_of _) (by rfl) T.z_tuple boot_tuple (@pa_cons _ _ _ _ _ (pv 1) (@pa_nil _) (by first | rfl | exact .inl rfl | exact .inr rfl | exact .inr (.inl rfl) | decide | decide +kernel | (intro _; rfl))) (by first | rfl | exact .inl rfl | exact .inr rfl | exact .inr (.inl rfl) | decide | decide +kernel | (intro _; rfl)) (by first | rfl | exact .inl rfl | exact .inr rfl | exact .inr (.inl rfl) | decide | decide +kernel | (intro _; rfl)) (by first | rfl | exact .inl rfl | exact .inr rfl | exact .inr (.inl rfl) | decide | decide +kernel | (intro _; rfl)) (by first | rfl | exact .inl rfl | exact .inr rfl | exact .inr (.inl rfl) | decide | decide +kernel | (intro _; rfl))) (@pa_cons _ _ _ _ _ (@pe_ifExp _ _ _ _ _ _ _ _ (@pt_val _ _ _ (@pe_call _ _ _ _ _ _ _ _ _ _ _ _ _ _ _ _ G_is_tree (hr.mono (by first | decide | omega)) (by rfl) T.m_is_tree T.F_is_tree.kp T.b_is_tree .nil pass0 (@pa_cons _ _ _ _ _ (pv 0) (@pa_nil _) (by first | rfl | exact .inl rfl | exact .inr rfl | exact .inr (.inl rfl) | decide | decide +kernel | (intro _; rfl))) (by first | rfl | exact .inl rfl | exact .inr rfl | exact .inr (.inl rfl) | decide | decide +kernel | (intro _; rfl)) (by first | rfl | exact .inl rfl | exact .inr rfl | exact .inr (.inl rfl) | decide | decide +kernel | (intro _; rfl)) (by first | rfl | exact .inl rfl | exact .inr rfl | exact .inr (.inl rfl) | decide | decide +kernel | (intro _; rfl))) (by first | rfl | exact .inl rfl | exact .inr rfl | exact .inr (.inl rfl) | decide | decide +kernel | (intro _; rfl))) (@pe_non _ _ _) (@pe_int _ _ _ _)) (@pa_nil _) (by first | rfl | exact .inl rfl | exact .inr rfl | exact .inr (.inl rfl) | decide | decide +kernel | (intro _; rfl))) (by first | rfl | exact .inl rfl | exact .inr rfl | exact .inr (.inl rfl) | decide | decide +kernel | (intro _; rfl))))))))), ?_⟩
  refine ⟨_, rfl, v, "tuple", _, isTup d, rfl, hv.ty, kit_tup d, _, rfl, ?_⟩
  have early : i = 1 → ∀ (t : Addr), H t = none → ∀ t2, (upd H t (.tup [])) t2 = none → Q (.ref t2) (upd (upd H t (.tup [])) t2 (.tup [.ref t, .int 1])) := fun ei t g t2 g2 => by
    subst ei
    exact k _ _ (.tup []) ((same_new g _).trans (same_new g2 _)) (Is.new (ds := [.tup [], .int 1]) ⟨_, _, rfl, Is.new (ds := []) rfl g, _, _, rfl, rfl, rfl⟩ g2)
  cases hF with
  | kind h =>
    rw [h]
    exact iteT (iteT ⟨(by show 0 ≤ sizeLine; decide), fun t g1 => ⟨(by show 2 ≤ sizeLine; decide), fun t2 g2 => early rfl t g1 t2 g2⟩⟩)
  | few =>
    refine iteF ?_
    obtain ⟨va, us, rfl, ha, hu⟩ := hv
    cases (show us = [] from hu)
    refine ⟨_, rfl, va, [], rfl, .inr (SqT.of ha), _, _, rfl, rfl, _, rfl, ?_⟩
    refine iteFof (by decide) ⟨_, rfl, ?_⟩
    exact iteT ⟨(by show 0 ≤ sizeLine; decide), fun t g1 => ⟨(by show 2 ≤ sizeLine; decide), fun t2 g2 => early rfl t g1 t2 g2⟩⟩
  | @line ds kk n1 hk hb ho =>
  refine iteF ?_
  have hv' := hv
  obtain ⟨va, us, rfl, ha, hu⟩ := hv'
  have hul : us.length = ds.length := hu.length
  refine ⟨_, rfl, va, us, rfl, .inr (SqT.of ha), _, _, rfl, rfl, _, rfl, ?_⟩
  refine iteTof (decide_eq_true (by omega)) ?_
  refine ⟨_, _, rfl, rfl, _, rfl, ?_⟩
  refine iteFof (by rw [decide_eq_true (by omega)]; rfl) ?_
  refine ⟨(by show 0 ≤ sizeLine; decide), fun L1 g1 => ?_⟩
  refine ⟨_, rfl, va, rfl, ⟨us, SqT.of (same_new g1 _ _ _ ha)⟩, ?_⟩
  refine for_tup (K := K) (a := va) (xs := us) (fun i σ H' => i ≤ kk ∧ ∃ (ws : List V) (x2 x3 : Option V), σ = [some (.ref va), some (.ref L1), x2, x3] ∧ H' L1 = some (.lst ws) ∧ L2.IsL H' ((rowsOfD ds.length (ds.take i)).map rowD) ws ∧ Same H H')
    ⟨Nat.zero_le _, [], none, none, rfl, upd_same, rfl, same_new g1 _⟩ (fun i σ H' _ ⟨_, _, _, _, _, _, _, sm⟩ => SqT.of (sm _ _ ha)) ?_ ?_
  · rintro i x σ H' hx ⟨hik, ws, x2, x3, rfl, e1, hw, sm⟩
    have hil : i < ds.length := by omega
    obtain ⟨x', hx', hxi⟩ := hu.get (i := i) (d := ds[i]) (List.getElem?_eq_getElem hil)
    rw [hx] at hx'
    cases hx'
    have hwl : ws.length = i := by
      rw [hw.length, List.length_map, rowsOfD_len, List.length_take]
      · omega
      · intro z hz
        obtain ⟨j, hj, rfl⟩ := List.getElem_of_mem hz
        rw [List.length_take] at hj
        rw [List.getElem_take]
        exact ho j (by omega)
    refine ⟨_, rfl, _, rfl, va, us, rfl, .inr (SqT.of (sm _ _ ha)), x, ds[i], ds.length, by rw [hul]; rfl, hxi.mono sm.tk, n1, fun v H2 s2 hv => ?_⟩
    have e2 := s2 _ _ e1
    rcases Nat.lt_or_ge i kk with hlt | hge
    · obtain ⟨r, er⟩ := isSome_of (ho i hlt)
      rw [er] at hv
      have hv : Is H2 (rowD r) v := hv
      have hv' := hv
      obtain ⟨va', vs', rfl, _, _⟩ := hv'
      refine ⟨_, rfl, rfl, _, rfl, ?_⟩
      refine iteFof (decide_eq_false fun z => by cases z) ?_
      refine ⟨_, rfl, .inl ⟨rfl, _, SqL.of e2⟩, _, rfl, L1, ws, _, rfl, rfl, e2, small1000 (by omega), ?_⟩
      have t3 : Tk H2 (upd H2 L1 (.lst (ws ++ [.ref va']))) := Tk.updL e2
      refine ⟨hlt, ws ++ [.ref va'], _, _, rfl, upd_same, ?_, fun b o e => ?_⟩
      · rw [rowsOfD_take (List.getElem?_eq_getElem hil) er, List.map_append]
        exact ((hw.mono s2.tk).mono t3).append (IsL.one (hv.mono t3))
      · rw [upd_ne (ne_of_none e g1)]
        exact s2 b o (sm b o e)
    · have hie : i = kk := by omega
      subst hie
      rw [hb] at hv
      cases (show v = .non from hv)
      refine ⟨_, rfl, rfl, _, rfl, ?_⟩
      refine iteTof rfl ?_
      refine ⟨_, rfl, L1, ws, rfl, .inl ⟨SqL.of e2, fun t1 g2 => ?_⟩⟩
      have s3 : Same H2 (upd H2 t1 (.tup ws)) := same_new g2 _
      have i3 : Is (upd H2 t1 (.tup ws)) (.tup ((rowsOfD ds.length (ds.take i)).map rowD)) (.ref t1) := Is.new (hw.mono s2.tk) g2
      refine ⟨_, rfl, L1, ws, rfl, .inl (SqL.of (s3 _ _ e2)), _, _, rfl, rfl, (by show 2 ≤ sizeLine; decide), fun t4 g4 => ?_⟩
      rw [hwl]
      exact k _ _ _ (sm.trans (s2.trans (s3.trans (same_new g4 _)))) (Is.new (ds := [.tup ((rowsOfD ds.length (ds.take i)).map rowD), .int _]) ⟨_, _, rfl, i3, _, _, rfl, rfl, rfl⟩ g4)
  · rintro σ H' ⟨hik, _⟩
    omega
end
def sp_rows (C : Addr) : Sp := fun vs H Q E => ∃ (v : V) (d : D) (i : Int), vs = [v] ∧ FB d i ∧ Is H d v ∧ ∀ (e : Addr) (H' : Hp), Same H H' → E (.ref e) (some C) H'
def sp_bad : Sp := fun vs H Q _ => ∃ (v : V) (d : D) (i : Int), vs = [v] ∧ FB d i ∧ Is H d v ∧ ∀ (H' : Hp), Same H H' → Q (.int i) H'
def sp_isr : Sp := fun vs H Q _ => ∃ (v : V) (d : D) (i : Int), vs = [v] ∧ FB d i ∧ Is H d v ∧ ∀ (H' : Hp), Same H H' → Q (.bl false) H'
def sp_refused : Sp := fun vs H Q _ => ∃ (v : V) (d : D) (i : Int), vs = [v] ∧ FB d i ∧ Is H d v ∧ ∀ (H' : Hp), Same H H' → Q (.bl true) H'
def sp_told : Sp := fun vs H Q _ => ∃ (v : V) (d : D) (i : Int), vs = [v, .int i] ∧ FB d i ∧ Is H d v ∧ ∀ (H' : Hp), Same H H' → Q (.bl true) H'
section
variable {P : Program} {w : World} {K : PySem.W.Frag} {mg : Str → Option Value} {base : Heap} {a : Ad} {g : Ga}
theorem ok_rows (T : Tx K mg a) (C : Fx K w mg g) : FnOk P w K mg base (CX1 P w) 4 a.f_rule_rows a.d_rule_rows ["tree"] (sp_rows g.bad) := by
  have G_read_lines : FnOk P w K mg base CX0 3 a.f_read_lines a.d_read_lines ["value"] sp_read := ok_read T C
  refine T.F_rule_rows.okX sc_rule_rows (fun vs H Q E h => ?_) (fun cdv A outer s H vs Q E hr h => ?_)
  · obtain ⟨v, d, i, rfl, _⟩ := h
    rfl
  obtain ⟨v, d, i, rfl, hF, hv, k⟩ := h
  refine ⟨_, (@pss_cons _ _ _ _ _ (@ps_set _ _ (1) _ _ _ _ sc_rule_rows.nd rfl (Or.inl rfl) (@pe_call _ _ _ _ _ _ _ _ _ _ _ _ _ _ _ _ G_read_lines (hr.mono (by first | decide | omega)) (by rfl) T.m_read_lines T.F_read_lines.kp T.b_read_lines .nil pass0 (@pa_cons _ _ _ _ _ (pv 0) (@pa_nil _) (by first | rfl | exact .inl rfl | exact .inr rfl | exact .inr (.inl rfl) | decide | decide +kernel | (intro _; rfl))) (by first | rfl | exact .inl rfl | exact .inr rfl | exact .inr (.inl rfl) | decide | decide +kernel | (intro _; rfl)) (by first | rfl | exact .inl rfl | exact .inr rfl | exact .inr (.inl rfl) | decide | decide +kernel | (intro _; rfl)) (by first | rfl | exact .inl rfl | exact .inr rfl | exact .inr (.inl rfl) | decide | decide +kernel | (intro _; rfl))) (by first | rfl | exact .inl rfl | exact .inr rfl | exact .inr (.inl rfl) | decide | decide +kernel | (intro _; rfl)) (by first | rfl | exact .inl rfl | exact .inr rfl | exact .inr (.inl rfl) | decide | decide +kernel | (intro _; rfl))) (@pss_cons _ _ _ _ _ (@ps_if _ _ _ _ _ _ _ _ (@pt_cmpR _ _ _ _ _ _ _ _ (@op_notN _) (@pe_ix _ _ _ _ _ _ _ (@ix_tup _) (pv 1) (@pe_int _ _ _ _) (fun _ _ => rfl)) (@pe_non _ _ _) (nomark _)) (@pss_one _ _ _ (@ps_raise _ _ _ _ _ _ _ _ _ _ _ _ _ _ _ _ _ _ _ _ _ _ C.x_BadRule (by rfl) C.m_BadRule (@pe_str _ _ _ _) (by first | rfl | exact .inl rfl | exact .inr rfl | exact .inr (.inl rfl) | decide | decide +kernel | (intro _; rfl)) (by first | rfl | exact .inl rfl | exact .inr rfl | exact .inr (.inl rfl) | decide | decide +kernel | (intro _; rfl)))) (@pss_nil _)) (@pss_one _ _ _ (@ps_ret _ _ _ _ (@pe_ix _ _ _ _ _ _ _ (@ix_tup _) (pv 1) (@pe_int _ _ _ _) (fun _ _ => rfl)))))), ?_⟩
  refine ⟨_, rfl, v, d, i, rfl, hF, hv, fun u H1 x0 s1 hu => ?_⟩
  refine ⟨_, rfl, ?_⟩
  dsimp only [tC]
  refine ix_is (i := 1) (d := .int i) hu rfl fun x hx => ?_
  cases (show x = .int i from hx)
  refine ⟨rfl, _, rfl, ?_⟩
  refine iteTof (by rw [decide_eq_false (fun z => by cases z)]; rfl) ?_
  exact ⟨rfl, fun e => k e H1 s1⟩
theorem ok_bad (T : Tx K mg a) (C : Fx K w mg g) : FnOk P w K mg base CX0 4 a.f_bad_line a.d_bad_line ["tree"] sp_bad := by
  have G_read_lines : FnOk P w K mg base CX0 3 a.f_read_lines a.d_read_lines ["value"] sp_read := ok_read T C
  refine T.F_bad_line.ok sc_bad_line (fun vs H Q E h => ?_) (fun cdv A outer s H vs Q E hr h => ?_)
  · obtain ⟨v, d, i, rfl, _⟩ := h
    rfl
  obtain ⟨v, d, i, rfl, hF, hv, k⟩ := h
  refine ⟨_, (@pss_one _ _ _ (@ps_ret _ _ _ _ (@pe_ix _ _ _ _ _ _ _ (@ix_tup _) (@pe_call _ _ _ _ _ _ _ _ _ _ _ _ _ _ _ _ G_read_lines (hr.mono (by first | decide | omega)) (by rfl) T.m_read_lines T.F_read_lines.kp T.b_read_lines .nil pass0 (@pa_cons _ _ _ _ _ (pv 0) (@pa_nil _) (by first | rfl | exact .inl rfl | exact .inr rfl | exact .inr (.inl rfl) | decide | decide +kernel | (intro _; rfl))) (by first | rfl | exact .inl rfl | exact .inr rfl | exact .inr (.inl rfl) | decide | decide +kernel | (intro _; rfl)) (by first | rfl | exact .inl rfl | exact .inr rfl | exact .inr (.inl rfl) | decide | decide +kernel | (intro _; rfl)) (by first | rfl | exact .inl rfl | exact .inr rfl | exact .inr (.inl rfl) | decide | decide +kernel | (intro _; rfl))) (@pe_int _ _ _ _) (fun _ _ => rfl)))), ?_⟩
  refine ⟨_, rfl, v, d, i, rfl, hF, hv, fun u H1 x0 s1 hu => ?_⟩
  dsimp only [tC]
  refine ix_is (i := 1) (d := .int i) hu rfl fun x hx => ?_
  cases (show x = .int i from hx)
  exact k H1 s1
theorem ok_isr (T : Tx K mg a) (C : Fx K w mg g) : FnOk P w K mg base CX0 5 a.f_is_rule a.d_is_rule ["value"] sp_isr := by
  have G_bad_line : FnOk P w K mg base CX0 4 a.f_bad_line a.d_bad_line ["tree"] sp_bad := ok_bad T C
  refine T.F_is_rule.ok sc_is_rule (fun vs H Q E h => ?_) (fun cdv A outer s H vs Q E hr h => ?_)
  · obtain ⟨v, d, i, rfl, _⟩ := h
    rfl
  obtain ⟨v, d, i, rfl, hF, hv, k⟩ := h
  refine ⟨_, (@pss_one _ _ _ (@ps_ret _ _ _ _ (@pe_cmpR _ _ _ _ _ _ _ _ (@op_isN _) (@pe_call _ _ _ _ _ _ _ _ _ _ _ _ _ _ _ _ G_bad_line (hr.mono (by first | decide | omega)) (by rfl) T.m_bad_line T.F_bad_line.kp T.b_bad_line .nil pass0 (@pa_cons _ _ _ _ _ (pv 0) (@pa_nil _) (by first | rfl | exact .inl rfl | exact .inr rfl | exact .inr (.inl rfl) | decide | decide +kernel | (intro _; rfl))) (by first | rfl | exact .inl rfl | exact .inr rfl | exact .inr (.inl rfl) | decide | decide +kernel | (intro _; rfl)) (by first | rfl | exact .inl rfl | exact .inr rfl | exact .inr (.inl rfl) | decide | decide +kernel | (intro _; rfl)) (by first | rfl | exact .inl rfl | exact .inr rfl | exact .inr (.inl rfl) | decide | decide +kernel | (intro _; rfl))) (@pe_non _ _ _) (nomark _)))), ?_⟩
  refine ⟨_, rfl, v, d, i, rfl, hF, hv, fun H1 s1 => ⟨rfl, ?_⟩⟩
  have e : decide (V.int i = V.non) = false := decide_eq_false fun z => by cases z
  rw [e]
  exact k H1 s1
theorem ok_refused (T : Tx K mg a) (C : Fx K w mg g) : FnOk P w K mg base CX0 5 a.f_law_refused a.d_law_refused ["tree"] sp_refused := by
  have G_rule_rows : FnOk P w K mg base (CX1 P w) 4 a.f_rule_rows a.d_rule_rows ["tree"] (sp_rows g.bad) := ok_rows T C
  refine T.F_law_refused.ok sc_law_refused (fun vs H Q E h => ?_) (fun cdv A outer s H vs Q E hr h => ?_)
  · obtain ⟨v, d, i, rfl, _⟩ := h
    rfl
  obtain ⟨v, d, i, rfl, hF, hv, k⟩ := h
  refine ⟨_, (@pss_cons _ _ _ _ _ (@ps_set _ _ (1) _ _ _ _ sc_law_refused.nd rfl (Or.inl rfl) (@pe_non _ _ _) (by first | rfl | exact .inl rfl | exact .inr rfl | exact .inr (.inl rfl) | decide | decide +kernel | (intro _; rfl)) (by first | rfl | exact .inl rfl | exact .inr rfl | exact .inr (.inl rfl) | decide | decide +kernel | (intro _; rfl))) (@pss_cons _ _ _ _ _ (@ps_tryEA _ (2) _ _ _ _ _ _ _ _ _ _ _ _ _ _ _ _ _ _ _ _ _ sc_law_refused.nd rfl rfl G_rule_rows (hr.mono (by first | decide | omega)) (by rfl) T.m_rule_rows T.F_rule_rows.kp T.b_rule_rows (@pa_cons _ _ _ _ _ (pv 0) (@pa_nil _) (by first | rfl | exact .inl rfl | exact .inr rfl | exact .inr (.inl rfl) | decide | decide +kernel | (intro _; rfl))) ⟨rfl, rfl⟩ (by rfl) C.m_WrightError (fun _ _ => (@pss_one _ _ _ (@ps_set _ _ (1) _ _ _ _ sc_law_refused.nd rfl (Or.inl rfl) (pv 2) (by first | rfl | exact .inl rfl | exact .inr rfl | exact .inr (.inl rfl) | decide | decide +kernel | (intro _; rfl)) (by first | rfl | exact .inl rfl | exact .inr rfl | exact .inr (.inl rfl) | decide | decide +kernel | (intro _; rfl))))) (by first | rfl | exact .inl rfl | exact .inr rfl | exact .inr (.inl rfl) | decide | decide +kernel | (intro _; rfl)) (by first | rfl | exact .inl rfl | exact .inr rfl | exact .inr (.inl rfl) | decide | decide +kernel | (intro _; rfl)) (by first | rfl | exact .inl rfl | exact .inr rfl | exact .inr (.inl rfl) | decide | decide +kernel | (intro _; rfl)) (by first | rfl | exact .inl rfl | exact .inr rfl | exact .inr (.inl rfl) | decide | decide +kernel | (intro _; rfl)) (by first | rfl | exact .inl rfl | exact .inr rfl | exact .inr (.inl rfl) | decide | decide +kernel | (intro _; rfl))) (@pss_cons _ _ _ _ _ (@ps_if _ _ _ _ _ _ _ _ (@pw_or _ _ _ _ _ _ _ (@pt_not _ _ _ _ (@pt_val _ _ _ (@pe_callB _ _ _ _ _ _ _ _ _ (@call_isinstX _ _ rfl) (by rfl) T.z_isinstance boot_isinstance (@pa_cons _ _ _ _ _ (pv 1) (@pa_cons _ _ _ _ _ (@pe_gR _ _ _ _ (by rfl) C.m_BadRule (by first | rfl | exact .inl rfl | exact .inr rfl | exact .inr (.inl rfl) | decide | decide +kernel | (intro _; rfl))) (@pa_nil _) (by first | rfl | exact .inl rfl | exact .inr rfl | exact .inr (.inl rfl) | decide | decide +kernel | (intro _; rfl))) (by first | rfl | exact .inl rfl | exact .inr rfl | exact .inr (.inl rfl) | decide | decide +kernel | (intro _; rfl))) (by first | rfl | exact .inl rfl | exact .inr rfl | exact .inr (.inl rfl) | decide | decide +kernel | (intro _; rfl)) (by first | rfl | exact .inl rfl | exact .inr rfl | exact .inr (.inl rfl) | decide | decide +kernel | (intro _; rfl)) (by first | rfl | exact .inl rfl | exact .inr rfl | exact .inr (.inl rfl) | decide | decide +kernel | (intro _; rfl)) (by first | rfl | exact .inl rfl | exact .inr rfl | exact .inr (.inl rfl) | decide | decide +kernel | (intro _; rfl))) (by first | rfl | exact .inl rfl | exact .inr rfl | exact .inr (.inl rfl) | decide | decide +kernel | (intro _; rfl)))) (@pw_or1 _ _ _ _ (@pt_not _ _ _ _ (@pt_val _ _ _ (@pe_callB _ _ _ _ _ _ _ _ _ (@call_isinstX _ _ rfl) (by rfl) T.z_isinstance boot_isinstance (@pa_cons _ _ _ _ _ (pv 1) (@pa_cons _ _ _ _ _ (@pe_bltn _ _ (.ty "ValueError") _ _ (by rfl) T.z_ValueError boot_VE rfl (by first | rfl | exact .inl rfl | exact .inr rfl | exact .inr (.inl rfl) | decide | decide +kernel | (intro _; rfl)) (by first | rfl | exact .inl rfl | exact .inr rfl | exact .inr (.inl rfl) | decide | decide +kernel | (intro _; rfl))) (@pa_nil _) (by first | rfl | exact .inl rfl | exact .inr rfl | exact .inr (.inl rfl) | decide | decide +kernel | (intro _; rfl))) (by first | rfl | exact .inl rfl | exact .inr rfl | exact .inr (.inl rfl) | decide | decide +kernel | (intro _; rfl))) (by first | rfl | exact .inl rfl | exact .inr rfl | exact .inr (.inl rfl) | decide | decide +kernel | (intro _; rfl)) (by first | rfl | exact .inl rfl | exact .inr rfl | exact .inr (.inl rfl) | decide | decide +kernel | (intro _; rfl)) (by first | rfl | exact .inl rfl | exact .inr rfl | exact .inr (.inl rfl) | decide | decide +kernel | (intro _; rfl)) (by first | rfl | exact .inl rfl | exact .inr rfl | exact .inr (.inl rfl) | decide | decide +kernel | (intro _; rfl))) (by first | rfl | exact .inl rfl | exact .inr rfl | exact .inr (.inl rfl) | decide | decide +kernel | (intro _; rfl)))))).pt (@pss_one _ _ _ (@ps_ret _ _ _ _ (@pe_bl _ _ _ _))) (@pss_nil _)) (@pss_cons _ _ _ _ _ (@ps_if _ _ _ _ _ _ _ _ (@pt_val _ _ _ (@pe_callB _ _ _ _ _ _ _ _ _ (@call_isinstT _ _ rfl) (by rfl) T.z_isinstance boot_isinstance (@pa_cons _ _ _ _ _ (pv 1) (@pa_cons _ _ _ _ _ (@pe_tup _ _ _ _ _ (@pa_cons _ _ _ _ _ (@pe_gR _ _ _ _ (by rfl) C.m_BadAnswer (by first | rfl | exact .inl rfl | exact .inr rfl | exact .inr (.inl rfl) | decide | decide +kernel | (intro _; rfl))) (@pa_cons _ _ _ _ _ (@pe_gR _ _ _ _ (by rfl) C.m_BadKeep (by first | rfl | exact .inl rfl | exact .inr rfl | exact .inr (.inl rfl) | decide | decide +kernel | (intro _; rfl))) (@pa_cons _ _ _ _ _ (@pe_gR _ _ _ _ (by rfl) C.m_BadName (by first | rfl | exact .inl rfl | exact .inr rfl | exact .inr (.inl rfl) | decide | decide +kernel | (intro _; rfl))) (@pa_cons _ _ _ _ _ (@pe_gR _ _ _ _ (by rfl) C.m_BadText (by first | rfl | exact .inl rfl | exact .inr rfl | exact .inr (.inl rfl) | decide | decide +kernel | (intro _; rfl))) (@pa_cons _ _ _ _ _ (@pe_gR _ _ _ _ (by rfl) C.m_BadThing (by first | rfl | exact .inl rfl | exact .inr rfl | exact .inr (.inl rfl) | decide | decide +kernel | (intro _; rfl))) (@pa_cons _ _ _ _ _ (@pe_gR _ _ _ _ (by rfl) C.m_BadTree (by first | rfl | exact .inl rfl | exact .inr rfl | exact .inr (.inl rfl) | decide | decide +kernel | (intro _; rfl))) (@pa_nil _) (by first | rfl | exact .inl rfl | exact .inr rfl | exact .inr (.inl rfl) | decide | decide +kernel | (intro _; rfl))) (by first | rfl | exact .inl rfl | exact .inr rfl | exact .inr (.inl rfl) | decide | decide +kernel | (intro _; rfl))) (by first | rfl | exact .inl rfl | exact .inr rfl | exact .inr (.inl rfl) | decide | decide +kernel | (intro _; rfl))) (by first | rfl | exact .inl rfl | exact .inr rfl | exact .inr (.inl rfl) | decide | decide +kernel | (intro _; rfl))) (by first | rfl | exact .inl rfl | exact .inr rfl | exact .inr (.inl rfl) | decide | decide +kernel | (intro _; rfl))) (by first | rfl | exact .inl rfl | exact .inr rfl | exact .inr (.inl rfl) | decide | decide +kernel | (intro _; rfl)))) (@pa_nil _) (by first | rfl | exact .inl rfl | exact .inr rfl | exact .inr (.inl rfl) | decide | decide +kernel | (intro _; rfl))) (by first | rfl | exact .inl rfl | exact .inr rfl | exact .inr (.inl rfl) | decide | decide +kernel | (intro _; rfl))) (by first | rfl | exact .inl rfl | exact .inr rfl | exact .inr (.inl rfl) | decide | decide +kernel | (intro _; rfl)) (by first | rfl | exact .inl rfl | exact .inr rfl | exact .inr (.inl rfl) | decide | decide +kernel | (intro _; rfl)) (by first | rfl | exact .inl rfl | exact .inr rfl | exact .inr (.inl rfl) | decide | decide +kernel | (intro _; rfl)) (by first | rfl | exact .inl rfl | exact .inr rfl | exact .inr (.inl rfl) | decide | decide +kernel | (intro _; rfl))) (by first | rfl | exact .inl rfl | exact .inr rfl | exact .inr (.inl rfl) | decide | decide +kernel | (intro _; rfl))) (@pss_one _ _ _ (@ps_ret _ _ _ _ (@pe_bl _ _ _ _))) (@pss_nil _)) (@pss_one _ _ _ (@ps_ret _ _ _ _ (@pe_not _ _ _ _ (@pe_callB _ _ _ _ _ _ _ _ _ (@call_isinstT _ _ rfl) (by rfl) T.z_isinstance boot_isinstance (@pa_cons _ _ _ _ _ (pv 1) (@pa_cons _ _ _ _ _ (@pe_tup _ _ _ _ _ (@pa_cons _ _ _ _ _ (@pe_gR _ _ _ _ (by rfl) C.m_Clash (by first | rfl | exact .inl rfl | exact .inr rfl | exact .inr (.inl rfl) | decide | decide +kernel | (intro _; rfl))) (@pa_cons _ _ _ _ _ (@pe_gR _ _ _ _ (by rfl) C.m_NoAsk (by first | rfl | exact .inl rfl | exact .inr rfl | exact .inr (.inl rfl) | decide | decide +kernel | (intro _; rfl))) (@pa_cons _ _ _ _ _ (@pe_gR _ _ _ _ (by rfl) C.m_NoDeed (by first | rfl | exact .inl rfl | exact .inr rfl | exact .inr (.inl rfl) | decide | decide +kernel | (intro _; rfl))) (@pa_cons _ _ _ _ _ (@pe_gR _ _ _ _ (by rfl) C.m_NoThing (by first | rfl | exact .inl rfl | exact .inr rfl | exact .inr (.inl rfl) | decide | decide +kernel | (intro _; rfl))) (@pa_nil _) (by first | rfl | exact .inl rfl | exact .inr rfl | exact .inr (.inl rfl) | decide | decide +kernel | (intro _; rfl))) (by first | rfl | exact .inl rfl | exact .inr rfl | exact .inr (.inl rfl) | decide | decide +kernel | (intro _; rfl))) (by first | rfl | exact .inl rfl | exact .inr rfl | exact .inr (.inl rfl) | decide | decide +kernel | (intro _; rfl))) (by first | rfl | exact .inl rfl | exact .inr rfl | exact .inr (.inl rfl) | decide | decide +kernel | (intro _; rfl)))) (@pa_nil _) (by first | rfl | exact .inl rfl | exact .inr rfl | exact .inr (.inl rfl) | decide | decide +kernel | (intro _; rfl))) (by first | rfl | exact .inl rfl | exact .inr rfl | exact .inr (.inl rfl) | decide | decide +kernel | (intro _; rfl))) (by first | rfl | exact .inl rfl | exact .inr rfl | exact .inr (.inl rfl) | decide | decide +kernel | (intro _; rfl)) (by first | rfl | exact .inl rfl | exact .inr rfl | exact .inr (.inl rfl) | decide | decide +kernel | (intro _; rfl)) (by first | rfl | exact .inl rfl | exact .inr rfl | exact .inr (.inl rfl) | decide | decide +kernel | (intro _; rfl)) (by first | rfl | exact .inl rfl | exact .inr rfl | exact .inr (.inl rfl) | decide | decide +kernel | (intro _; rfl)))))))))), ?_⟩
  refine ⟨_, rfl, v, d, i, rfl, hF, hv, fun e0 H1 s1 => ⟨g.bad, rfl, C.e_BadRule, fun ea he hea => ?_⟩⟩
  cases he
  have e1 : (upd H1 e0 (ExcO e0 g.bad)) e0 = some (ExcO e0 g.bad) := upd_same
  have s2 : Same H (upd H1 e0 (ExcO e0 g.bad)) := s1.trans (same_new hea _)
  generalize upd H1 e0 (ExcO e0 g.bad) = H2 at e1 s2 ⊢
  have kself : PySem.W.kitOne K (.ref g.bad) (.ref g.bad) = some true := by
    unfold PySem.W.kitOne
    rw [if_pos (by simp)]
  refine ⟨_, rfl, ?_⟩
  refine ⟨_, rfl, .ref e0, .ref g.bad, .ref g.bad, .ref g.bad, true, rfl, .own _, .exc e1 C.xc, kself, _, rfl, ?_⟩
  refine iteF ?_
  refine ⟨_, rfl, .ref e0, .ty "ValueError", .type "ValueError", .ref g.bad, true, rfl, .ty _, .exc e1 C.xc, C.k_ve, _, rfl, ?_⟩
  refine iteF ?_
  refine ⟨_, rfl, (by show 6 ≤ sizeLine; decide), fun t3 g3 => ?_⟩
  have s3 := same_new g3 (.tup [.ref g.xBadAnswer, .ref g.xBadKeep, .ref g.xBadName, .ref g.xBadText, .ref g.xBadThing, .ref g.xBadTree])
  refine ⟨e0, g.bad, t3, [g.xBadAnswer, g.xBadKeep, g.xBadName, g.xBadText, g.xBadThing, g.xBadTree], false, rfl, s3 _ _ e1, upd_same, C.xc, C.k_t1, _, rfl, ?_⟩
  refine iteF ?_
  have e4 := s3 _ _ e1
  have s4 := s2.trans s3
  generalize upd H2 t3 (.tup [.ref g.xBadAnswer, .ref g.xBadKeep, .ref g.xBadName, .ref g.xBadText, .ref g.xBadThing, .ref g.xBadTree]) = H4 at e4 s4 ⊢
  refine ⟨_, rfl, (by show 4 ≤ sizeLine; decide), fun t5 g5 => ?_⟩
  have s5 := same_new g5 (.tup [.ref g.xClash, .ref g.xNoAsk, .ref g.xNoDeed, .ref g.xNoThing])
  refine ⟨e0, g.bad, t5, [g.xClash, g.xNoAsk, g.xNoDeed, g.xNoThing], false, rfl, s5 _ _ e4, upd_same, C.xc, C.k_t2, _, rfl, ?_⟩
  exact k _ (s4.trans s5)
theorem ok_told (T : Tx K mg a) (C : Fx K w mg g) : FnOk P w K mg base CX0 6 a.f_law_told a.d_law_told ["tree", "due"] sp_told := by
  have G_bad_line : FnOk P w K mg base CX0 4 a.f_bad_line a.d_bad_line ["tree"] sp_bad := ok_bad T C
  have G_is_rule : FnOk P w K mg base CX0 5 a.f_is_rule a.d_is_rule ["value"] sp_isr := ok_isr T C
  have G_law_refused : FnOk P w K mg base CX0 5 a.f_law_refused a.d_law_refused ["tree"] sp_refused := ok_refused T C
  refine T.F_law_told.ok sc_law_told (fun vs H Q E h => ?_) (fun cdv A outer s H vs Q E hr h => ?_)
  · obtain ⟨v, d, i, rfl, _⟩ := h
    rfl
  obtain ⟨v, d, i, rfl, hF, hv, k⟩ := h
  refine ⟨_, (@pss_cons _ _ _ _ _ (@ps_set _ _ (2) _ _ _ _ sc_law_told.nd rfl (Or.inl rfl) (@pe_call _ _ _ _ _ _ _ _ _ _ _ _ _ _ _ _ G_bad_line (hr.mono (by first | decide | omega)) (by rfl) T.m_bad_line T.F_bad_line.kp T.b_bad_line .nil pass0 (@pa_cons _ _ _ _ _ (pv 0) (@pa_nil _) (by first | rfl | exact .inl rfl | exact .inr rfl | exact .inr (.inl rfl) | decide | decide +kernel | (intro _; rfl))) (by first | rfl | exact .inl rfl | exact .inr rfl | exact .inr (.inl rfl) | decide | decide +kernel | (intro _; rfl)) (by first | rfl | exact .inl rfl | exact .inr rfl | exact .inr (.inl rfl) | decide | decide +kernel | (intro _; rfl)) (by first | rfl | exact .inl rfl | exact .inr rfl | exact .inr (.inl rfl) | decide | decide +kernel | (intro _; rfl))) (by first | rfl | exact .inl rfl | exact .inr rfl | exact .inr (.inl rfl) | decide | decide +kernel | (intro _; rfl)) (by first | rfl | exact .inl rfl | exact .inr rfl | exact .inr (.inl rfl) | decide | decide +kernel | (intro _; rfl))) (@pss_cons _ _ _ _ _ (@ps_if _ _ _ _ _ _ _ _ (@pw_or _ _ _ _ _ _ _ (@pt_not _ _ _ _ (@pt_val _ _ _ (@pe_callB _ _ _ _ _ _ _ _ _ (@call_isinst _ _ rfl) (by rfl) T.z_isinstance boot_isinstance (@pa_cons _ _ _ _ _ (pv 2) (@pa_cons _ _ _ _ _ (@pe_bltn _ _ (.ty "int") _ _ (by rfl) T.z_int boot_int rfl (by first | rfl | exact .inl rfl | exact .inr rfl | exact .inr (.inl rfl) | decide | decide +kernel | (intro _; rfl)) (by first | rfl | exact .inl rfl | exact .inr rfl | exact .inr (.inl rfl) | decide | decide +kernel | (intro _; rfl))) (@pa_nil _) (by first | rfl | exact .inl rfl | exact .inr rfl | exact .inr (.inl rfl) | decide | decide +kernel | (intro _; rfl))) (by first | rfl | exact .inl rfl | exact .inr rfl | exact .inr (.inl rfl) | decide | decide +kernel | (intro _; rfl))) (by first | rfl | exact .inl rfl | exact .inr rfl | exact .inr (.inl rfl) | decide | decide +kernel | (intro _; rfl)) (by first | rfl | exact .inl rfl | exact .inr rfl | exact .inr (.inl rfl) | decide | decide +kernel | (intro _; rfl)) (by first | rfl | exact .inl rfl | exact .inr rfl | exact .inr (.inl rfl) | decide | decide +kernel | (intro _; rfl)) (by first | rfl | exact .inl rfl | exact .inr rfl | exact .inr (.inl rfl) | decide | decide +kernel | (intro _; rfl))) (by first | rfl | exact .inl rfl | exact .inr rfl | exact .inr (.inl rfl) | decide | decide +kernel | (intro _; rfl)))) (@pw_or _ _ _ _ _ _ _ (@pt_val _ _ _ (@pe_callB _ _ _ _ _ _ _ _ _ (@call_isinst _ _ rfl) (by rfl) T.z_isinstance boot_isinstance (@pa_cons _ _ _ _ _ (pv 2) (@pa_cons _ _ _ _ _ (@pe_bltn _ _ (.ty "bool") _ _ (by rfl) T.z_bool boot_bool rfl (by first | rfl | exact .inl rfl | exact .inr rfl | exact .inr (.inl rfl) | decide | decide +kernel | (intro _; rfl)) (by first | rfl | exact .inl rfl | exact .inr rfl | exact .inr (.inl rfl) | decide | decide +kernel | (intro _; rfl))) (@pa_nil _) (by first | rfl | exact .inl rfl | exact .inr rfl | exact .inr (.inl rfl) | decide | decide +kernel | (intro _; rfl))) (by first | rfl | exact .inl rfl | exact .inr rfl | exact .inr (.inl rfl) | decide | decide +kernel | (intro _; rfl))) (by first | rfl | exact .inl rfl | exact .inr rfl | exact .inr (.inl rfl) | decide | decide +kernel | (intro _; rfl)) (by first | rfl | exact .inl rfl | exact .inr rfl | exact .inr (.inl rfl) | decide | decide +kernel | (intro _; rfl)) (by first | rfl | exact .inl rfl | exact .inr rfl | exact .inr (.inl rfl) | decide | decide +kernel | (intro _; rfl)) (by first | rfl | exact .inl rfl | exact .inr rfl | exact .inr (.inl rfl) | decide | decide +kernel | (intro _; rfl))) (by first | rfl | exact .inl rfl | exact .inr rfl | exact .inr (.inl rfl) | decide | decide +kernel | (intro _; rfl))) (@pw_or1 _ _ _ _ (@pt_cmpR _ _ _ _ _ _ _ _ (@op_ne _) (pv 2) (pv 1) (nomark _))))).pt (@pss_one _ _ _ (@ps_ret _ _ _ _ (@pe_bl _ _ _ _))) (@pss_nil _)) (@pss_one _ _ _ (@ps_ret _ _ _ _ (@pe_and _ _ _ _ _ _ _ (@pe_cmpR _ _ _ _ _ _ _ _ (@op_isB _) (@pe_call _ _ _ _ _ _ _ _ _ _ _ _ _ _ _ _ G_is_rule (hr.mono (by first | decide | omega)) (by rfl) T.m_is_rule T.F_is_rule.kp T.b_is_rule .nil pass0 (@pa_cons _ _ _ _ _ (pv 0) (@pa_nil _) (by first | rfl | exact .inl rfl | exact .inr rfl | exact .inr (.inl rfl) | decide | decide +kernel | (intro _; rfl))) (by first | rfl | exact .inl rfl | exact .inr rfl | exact .inr (.inl rfl) | decide | decide +kernel | (intro _; rfl)) (by first | rfl | exact .inl rfl | exact .inr rfl | exact .inr (.inl rfl) | decide | decide +kernel | (intro _; rfl)) (by first | rfl | exact .inl rfl | exact .inr rfl | exact .inr (.inl rfl) | decide | decide +kernel | (intro _; rfl))) (@pe_bl _ _ _ _) (nomark _)) (@pe_one _ _ _ _ _ (@pe_call _ _ _ _ _ _ _ _ _ _ _ _ _ _ _ _ G_law_refused (hr.mono (by first | decide | omega)) (by rfl) T.m_law_refused T.F_law_refused.kp T.b_law_refused .nil pass0 (@pa_cons _ _ _ _ _ (pv 0) (@pa_nil _) (by first | rfl | exact .inl rfl | exact .inr rfl | exact .inr (.inl rfl) | decide | decide +kernel | (intro _; rfl))) (by first | rfl | exact .inl rfl | exact .inr rfl | exact .inr (.inl rfl) | decide | decide +kernel | (intro _; rfl)) (by first | rfl | exact .inl rfl | exact .inr rfl | exact .inr (.inl rfl) | decide | decide +kernel | (intro _; rfl)) (by first | rfl | exact .inl rfl | exact .inr rfl | exact .inr (.inl rfl) | decide | decide +kernel | (intro _; rfl))))))))), ?_⟩
  refine ⟨_, rfl, v, d, i, rfl, hF, hv, fun H1 s1 => ?_⟩
  refine ⟨_, rfl, .int i, "int", _, true, rfl, .int i, rfl, _, rfl, ?_⟩
  refine iteF ?_
  refine ⟨_, rfl, .int i, "bool", _, false, rfl, .int i, rfl, _, rfl, ?_⟩
  refine iteF ?_
  refine ⟨_, rfl, _, rfl, rfl, _, rfl, ?_⟩
  refine iteFof (by rw [decide_eq_true rfl]; rfl) ?_
  refine ⟨_, rfl, v, d, i, rfl, hF, hv.mono s1.tk, fun H2 s2 => ?_⟩
  refine ⟨false, rfl, _, rfl, iteTof (by decide) ?_⟩
  exact ⟨_, rfl, v, d, i, rfl, hF, hv.mono (s1.trans s2).tk, fun H3 s3 => k _ (s1.trans (s2.trans s3))⟩
end
end K06

set_option Elab.async false
set_option linter.all false
set_option maxRecDepth 100000
set_option maxHeartbeats 4000000
namespace K06
open PySem L2 PyProof.Rows
def sp_lo : Sp := fun vs H Q _ => ∃ (v : V) (n m : Nat) (r : Rw), vs = [v] ∧ n ≤ 40 ∧ m ≤ 300 ∧ RowOk n m r ∧ Is H (rowD r) v ∧ ∀ (H' : Hp), Same H H' → Q (.str (lineOf r)) H'
def dtx : D → D
  | .int i => .str (toString i)
  | d => d
theorem IsL.strs {H : Hp} : ∀ {l : List Str} {vs : List V}, L2.IsL H (l.map D.str) vs → vs = l.map V.str
  | [], _, h => h
  | _ :: _, _, h => by
    obtain ⟨v, r, rfl, h1, h2⟩ := h
    rw [IsL.strs h2, h1.1]; rfl
theorem dtx_pts (ps : List Pt) : (ps.map Pt.d).map dtx = (ps.map Pt.t).map D.str := by
  rw [List.map_map, List.map_map]
  apply List.map_congr_left
  intro q _
  cases q <;> rfl
theorem ptsOk_mem {n m : Nat} : ∀ {ks : List Kd} {ps : List Pt}, ptsOk n m ks ps → ∀ q ∈ ps, ∃ k, ptOk n m k q
  | [], [], _ => fun q hq => by simp at hq
  | k :: _, p :: _, h => fun q hq => by
    rcases List.mem_cons.mp hq with rfl | hq
    · exact ⟨k, h.1⟩
    · exact ptsOk_mem h.2 q hq
  | [], _ :: _, h => h.elim
  | _ :: _, [], h => h.elim
section
variable {P : Program} {w : World} {K : PySem.W.Frag} {mg : Str → Option Value} {base : Heap} {a : Ad} {g : Ga}
/-- the texts of a word and its parts, joined -/
theorem glue_ok {H H1 : Hp} {n m : Nat} {r : Rw} {Q : VK} (hn : n ≤ 40) (hm : m ≤ 300) (hok : RowOk n m r) (k : ∀ H', Same H H' → Q (.str (lineOf r)) H') (te : TE)
    (hte : ∀ x H (R : VK), ((∃ i, x = V.int i ∧ i.natAbs.log2 < 1920 ∧ R (.str (toString i)) H) ∨ ∃ z, x = .str z ∧ R (.str z) H) → te [some x] H R) {L1 b A0 : Addr} (s1 : Same H H1) (e1 : H1 L1 = some (.lst [.str r.1])) (us : List V) (ha : H1 b = some (.tup us)) (hu : L2.IsL H1 (r.2.map Pt.d) us) (gA : H1 A0 = none) :
    lcGo A0 (Itt K b) (gName 0) tYes te [none] H1 fun y H2 => rCat (.ref L1) y H2 fun x H3 => rJoin K (.str " ") [x] H3 Q := by
  obtain ⟨ks, hk, hp⟩ := hok
  have hf := form_few _ hk
  have hpl := ptsOk_length hp
  have hsum := ptsOk_sum hn hp
  simp only at hf
  refine lc_tupS (K := K) (tl := []) dtx ha hu (by rw [List.length_map]; exact small (by omega)) gA ?_ ?_
  · intro d x H3 R hd sm hx hR
    obtain ⟨q, hq, rfl⟩ := List.mem_map.mp hd
    obtain ⟨kd, hkd⟩ := ptsOk_mem hp q hq
    refine hte x H3 R ?_
    cases q with
    | s z =>
      obtain ⟨rfl, hz⟩ := hx
      exact .inr ⟨z, rfl, hR _ _ (Same.refl _) ⟨rfl, hz⟩⟩
    | n i =>
      cases (show x = .int i from hx)
      have hi : 1 ≤ i ∧ i ≤ 40 := by
        cases kd <;> simp only [ptOk] at hkd
        exact ⟨hkd.1, by have := hkd.2; omega⟩
      refine .inl ⟨i, rfl, ?_, hR _ _ (Same.refl _) ⟨rfl, small (by have := (num_small hi.1 hi.2).1; omega)⟩⟩
      have h2 := Nat.log2_le_self i.natAbs
      omega
  intro H3 ys s3 e3 h3
  rw [dtx_pts] at h3
  have ey := IsL.strs h3
  subst ey
  refine ⟨L1, A0, _, _, rfl, rfl, s3 _ _ e1, e3, ?_, fun M gM => ?_⟩
  · rw [List.length_map, List.length_map]
    exact small (by show 1 + r.2.length ≤ 1000; omega)
  refine ⟨_, M, txs r, rfl, rfl, SqL.of (by rw [upd_same]; rfl), ?_, k _ (s1.trans (s3.trans (same_new gM _)))⟩
  have hw : r.1.length ≤ 100 := by
    have key : ∀ x ∈ FRM, x.1.length ≤ 100 := by decide +kernel
    exact key _ hk
  have hs2 : (ks.map (Kd.most m)).sum ≤ ks.length * 300 := by
    have : ∀ l : List Kd, (l.map (Kd.most m)).sum ≤ l.length * 300 := by
      intro l
      induction l with
      | nil => exact Nat.le_refl _
      | cons x l ih =>
        have hx : x.most m ≤ 300 := by cases x <;> simp [Kd.most] <;> omega
        rw [List.map_cons, List.sum_cons, List.length_cons, Nat.succ_mul]
        omega
    exact this ks
  simp only [txs, List.map_cons, List.sum_cons, List.length_cons, List.length_map]
  show r.1.length + _ + (r.2.length + 1) * 1 ≤ 1000000
  omega
theorem ok_lo (T : Tx K mg a) : FnOk P w K mg base CX0 1 a.f_law_line_of a.d_law_line_of ["row"] sp_lo := by
  refine T.F_law_line_of.ok sc_law_line_of (fun vs H Q E h => ?_) (fun cdv A outer s H vs Q E hr h => ?_)
  · obtain ⟨v, n, m, r, rfl, _⟩ := h
    rfl
  obtain ⟨v, n, m, r, rfl, hn, hm, hok, hv, k⟩ := h
  refine ⟨_, (@pss_one _ _ _ (@ps_ret _ _ _ _ (@pe_bm _ _ _ _ _ _ _ _ _ _ _ _ PySem.F.plainAttrs_str PySem.F.slot_str_join PySem.F.type_str_join (@mt_join _) (@pe_str _ _ _ _) (@pa_cons _ _ _ _ _ (@pe_op _ _ _ _ _ _ _ _ (@op_cat _) (@pe_lst _ _ _ _ (@pa_cons _ _ _ _ _ (@pe_ix _ _ _ _ _ _ _ (@ix_tup _) (pv 0) (@pe_int _ _ _ _) (fun _ _ => rfl)) (@pa_nil _) (by first | rfl | exact .inl rfl | exact .inr rfl | exact .inr (.inl rfl) | decide | decide +kernel | (intro _; rfl)))) (@pe_lc _ _ (["part"]) (1) ([]) _ _ _ _ _ _ _ _ _ (lcs0) rfl (@pi_tupB _ _ _ _ (@pe_ix _ _ _ _ _ _ _ (@ix_tup _) (pv 0) (@pe_int _ _ _ _) (fun _ _ => rfl))) (fun _ _ _ _ _ _ => (@pg_name _ _ (0) _ (show List.Nodup (["part"] : List Str) by decide +kernel) rfl (Or.inl rfl) (by first | rfl | exact .inl rfl | exact .inr rfl | exact .inr (.inl rfl) | decide | decide +kernel | (intro _; rfl)))) (fun _ _ _ _ _ _ => @pif_nil _) (fun _ _ _ _ _ _ => (@pe_callTy _ _ _ _ _ _ _ _ _ (@call_str1 _) (by rfl) T.z_str boot_str (@pa_cons _ _ _ _ _ (pv 0) (@pa_nil _) (by first | rfl | exact .inl rfl | exact .inr rfl | exact .inr (.inl rfl) | decide | decide +kernel | (intro _; rfl))) (by first | rfl | exact .inl rfl | exact .inr rfl | exact .inr (.inl rfl) | decide | decide +kernel | (intro _; rfl)) (by first | rfl | exact .inl rfl | exact .inr rfl | exact .inr (.inl rfl) | decide | decide +kernel | (intro _; rfl)) (by first | rfl | exact .inl rfl | exact .inr rfl | exact .inr (.inl rfl) | decide | decide +kernel | (intro _; rfl)) (by first | rfl | exact .inl rfl | exact .inr rfl | exact .inr (.inl rfl) | decide | decide +kernel | (intro _; rfl)))) (by first | rfl | exact .inl rfl | exact .inr rfl | exact .inr (.inl rfl) | decide | decide +kernel | (intro _; rfl)))) (@pa_nil _) (by first | rfl | exact .inl rfl | exact .inr rfl | exact .inr (.inl rfl) | decide | decide +kernel | (intro _; rfl))) (by first | rfl | exact .inl rfl | exact .inr rfl | exact .inr (.inl rfl) | decide | decide +kernel | (intro _; rfl)) (by first | rfl | exact .inl rfl | exact .inr rfl | exact .inr (.inl rfl) | decide | decide +kernel | (intro _; rfl)) (by first | rfl | exact .inl rfl | exact .inr rfl | exact .inr (.inl rfl) | decide | decide +kernel | (intro _; rfl)) (by first | rfl | exact .inl rfl | exact .inr rfl | exact .inr (.inl rfl) | decide | decide +kernel | (intro _; rfl)) (by first | rfl | exact .inl rfl | exact .inr rfl | exact .inr (.inl rfl) | decide | decide +kernel | (intro _; rfl))))), ?_⟩
  refine ⟨rfl, _, rfl, ?_⟩
  dsimp only [tC]
  refine ix_is (i := 0) (d := .str r.1) hv rfl fun x hx => ?_
  obtain ⟨rfl, _⟩ := hx
  refine ⟨(by show 1 ≤ sizeLine; decide), fun L1 g1 => ?_⟩
  refine ⟨_, rfl, ?_⟩
  dsimp only [tC]
  refine ix_is (i := 1) (d := .tup (r.2.map Pt.d)) (hv.mono (same_new g1 _).tk) rfl fun x hx => ?_
  have hx' := hx
  obtain ⟨b, us, rfl, ha, hu⟩ := hx'
  refine ⟨b, us, rfl, SqT.of ha, fun hvl A0 gA => ?_⟩
  exact glue_ok hn hm hok k _ (fun x H R h => ⟨x, rfl, by
    rcases h with ⟨i, rfl, h1, h2⟩ | ⟨z, rfl, h1⟩
    · exact .inl ⟨i, rfl, h1, h2⟩
    · exact .inr ⟨z, rfl, h1⟩⟩) (same_new g1 _) upd_same us ha hu gA
end
end K06

set_option Elab.async false
set_option linter.all false
set_option maxRecDepth 100000
set_option maxHeartbeats 4000000
namespace K06
open PySem L2 PyProof.Rows
/-! a right line is read so, and what is no line of many is none of fewer -/
theorem part_line {n M : Nat} (hn : n ≤ 40) {k : Kd} {p : Pt} (h : ptOk n M k p) : partOf n k p.t = some p := by
  cases k with
  | words =>
    cases p with
    | s z => rfl
    | n i => cases h
  | box =>
    cases p with
    | s z => exact part_box_some h
    | n i => cases h
  | line =>
    cases p with
    | s z => cases h
    | n i =>
      have h1 : 1 ≤ i ∧ i ≤ n := h
      have hm : (Pt.n i).t ∈ (List.range n).map fun i : Nat => (toString (1 + (i : Int)) : Str) := List.mem_map.mpr ⟨(i - 1).toNat, List.mem_range.mpr (by omega), by show (toString (1 + (((i - 1).toNat : Nat) : Int)) : Str) = toString i; rw [show 1 + (((i - 1).toNat : Nat) : Int) = i by omega]⟩
      obtain ⟨j, j1, j2, ej, e⟩ := part_line_some hm
      rw [e]
      have b1 := num_back (i := i) h1.1 (by omega)
      have b2 := num_back (i := j) j1 (by omega)
      have ej' : (toString i : Str) = toString j := ej
      rw [ej', b2] at b1
      rw [Option.some.inj b1]
theorem parts_line {n M : Nat} (hn : n ≤ 40) : ∀ {ks : List Kd} {ps : List Pt}, ptsOk n M ks ps → partsOf n ks (ps.map Pt.t) = some ps
  | [], [], _ => rfl
  | k :: ks, p :: ps, h => by
    rw [List.map_cons]
    unfold partsOf
    rw [part_line hn h.1, parts_line hn h.2]
  | [], _ :: _, h => h.elim
  | _ :: _, [], h => h.elim
theorem form_line {w : Str} {ks : List Kd} (h : (w, ks) ∈ FRM) : formOf w = some ks := by
  cases e : formOf w with
  | none => exact absurd rfl (formOf_none e _ h)
  | some ks' =>
    have := form_nd _ (formOf_mem e) _ h rfl
    rw [(Prod.mk.inj this).2]
theorem rowOf_line {n M : Nat} {r : Rw} (hn : n ≤ 40) (h : RowOk n M r) (ht : okText (lineOf r) = true) : rowOf n (lineOf r) = some r := by
  have hh := line_hd h
  obtain ⟨ks, hk, hp⟩ := h
  unfold rowOf
  rw [if_pos ht, hh, form_line hk]
  simp only
  have hs : pcs ks (lineOf r) = txs r := line_spl hn hk hp
  have hl := ptsOk_length hp
  rw [hs, if_pos (by unfold txs; rw [List.length_cons, List.length_map]; omega)]
  show Option.map _ (partsOf n ks (r.2.map Pt.t)) = _
  rw [parts_line hn hp]
  rfl
theorem ptOk_more {n n' M : Nat} (h : n ≤ n') {k : Kd} {p : Pt} (hp : ptOk n M k p) : ptOk n' M k p := by
  cases k with
  | words => cases p <;> exact hp
  | box => cases p <;> exact hp
  | line =>
    cases p with
    | s z => cases hp
    | n i =>
      have h1 : 1 ≤ i ∧ i ≤ n := hp
      exact (show 1 ≤ i ∧ i ≤ n' from ⟨h1.1, by omega⟩)
theorem ptsOk_more {n n' M : Nat} (h : n ≤ n') : ∀ {ks : List Kd} {ps : List Pt}, ptsOk n M ks ps → ptsOk n' M ks ps
  | [], [], _ => trivial
  | k :: ks, p :: ps, hp => ⟨ptOk_more h hp.1, ptsOk_more h hp.2⟩
  | [], _ :: _, hp => hp.elim
  | _ :: _, [], hp => hp.elim
theorem row_more {n n' M : Nat} (h : n ≤ n') {r : Rw} (hr : RowOk n M r) : RowOk n' M r := by
  obtain ⟨ks, hk, hp⟩ := hr
  exact ⟨ks, hk, ptsOk_more h hp⟩
theorem rowOf_fewer {n n' : Nat} {z : Str} (h : n ≤ n') (hn : n' ≤ 40) (hz : rowOf n' z = none) : rowOf n z = none := by
  cases e : rowOf n z with
  | none => rfl
  | some r =>
    obtain ⟨h1, h2⟩ := rowOf_ok e
    have ht : okText z = true := by
      cases q : okText z with
      | true => rfl
      | false =>
        unfold rowOf at e
        rw [q, if_neg Bool.false_ne_true] at e
        cases e
    have := rowOf_line (n := n') hn (row_more h h1) (by rw [h2]; exact ht)
    rw [h2, hz] at this
    cases this
/-! the lines that are none -/
def nb0 : List Str := ["", " ", "copy a", "copy a b c", "copy a  b", " copy a b", "copy a b ", "copy a i", "copy a A"]
def nb1 : List Str := ["copy a ab", "text", "text ", "text a", "texta b", "text i x", "text ab x", "text  a x"]
def nb2 : List Str := ["Text a x", "self", "self a b", "go", "go 0", "go 01", "go -1", "go +1", "go 1 ", "go x"]
def nb4 : List Str := ["rowed 1 a", "rowed a", "none a", "none a 1 1", "say", "say a b", "say  a", "fault a", "Fault"]
def nb5 : List Str := ["fault ", "ask a", "ask a 1", "names a b c", "glue a b", "cut a b c d", "put a 1", "asks a b"]
def goN (k : Int) : Str := ("go " : Str) ++ (toString k : Str)
def likeN (k : Int) : Str := ("like a b " : Str) ++ (toString k : Str)
def nb3 (k : Int) : List Str := ["go 1_0", goN k, ("go " : Str) ++ Txt.mul "9" 40, "like a b", "like a b 0", "like a 1 b"]
def nbAll (k : Int) : List Str := nb0 ++ nb1 ++ nb2 ++ nb3 k ++ nb4 ++ nb5
def nbF : List Str := ["go 1_0", ("go " : Str) ++ Txt.mul "9" 40, "like a b", "like a b 0", "like a 1 b", "go '1'", "none a 00"]
def nb6 (k : Int) : List D := [.str "go '1'", .tup [], .tup [.str "say a"], .tup [.tup [], .str "say a"], .str (likeN k), .str "none a 00"]
theorem nb_fix : ∀ z ∈ nb0 ++ nb1 ++ nb2 ++ nb4 ++ nb5 ++ nbF, rowOf 40 z = none := by decide +kernel
theorem nb_num : ∀ k : Fin 43, 0 < k.val → rowOf (min 40 (k.val - 1)) (goN (k.val : Int)) = none ∧ rowOf (min 40 (k.val - 1)) (likeN (k.val : Int)) = none := by decide +kernel
theorem nb_len : ∀ k : Fin 43, (goN (k.val : Int)).length ≤ 20 ∧ (likeN (k.val : Int)).length ≤ 20 ∧ (toString (k.val : Int) : Str).length ≤ 5 := by decide +kernel
theorem nb_few : ∀ z ∈ nb0 ++ nb1 ++ nb2 ++ nb4 ++ nb5 ++ nbF, z.length ≤ 50 := by decide +kernel
theorem nb_bad {many : Int} (h2 : 2 ≤ many) (h41 : many ≤ 41) {n : Nat} (hn : n ≤ 40) (hm : (n : Int) < many + 1) : ∀ d ∈ (nbAll (many + 1)).map D.str ++ nb6 (many + 1), rowOfD n d = none := by
  have dyn := nb_num ⟨(many + 1).toNat, by omega⟩ (by simp only; omega)
  have ek : (((many + 1).toNat : Nat) : Int) = many + 1 := by omega
  simp only [ek] at dyn
  have go1 : rowOf n (goN (many + 1)) = none := rowOf_fewer (by omega) (Nat.min_le_left _ _) dyn.1
  have li1 : rowOf n (likeN (many + 1)) = none := rowOf_fewer (by omega) (Nat.min_le_left _ _) dyn.2
  have fix : ∀ z ∈ nb0 ++ nb1 ++ nb2 ++ nb4 ++ nb5 ++ nbF, rowOf n z = none := fun z hz => rowOf_fewer hn (Nat.le_refl _) (nb_fix z hz)
  have fixF : ∀ z ∈ nbF, rowOf n z = none := fun z hz => fix z (List.mem_append_right _ hz)
  intro d hd
  rcases List.mem_append.mp hd with hd | hd
  · obtain ⟨z, hz, rfl⟩ := List.mem_map.mp hd
    show rowOf n z = none
    unfold nbAll at hz
    simp only [List.mem_append] at hz fix
    rcases hz with ((((hz | hz) | hz) | hz) | hz) | hz
    · exact fix z (.inl (.inl (.inl (.inl (.inl hz)))))
    · exact fix z (.inl (.inl (.inl (.inl (.inr hz)))))
    · exact fix z (.inl (.inl (.inl (.inr hz))))
    · unfold nb3 at hz
      rcases List.mem_cons.mp hz with rfl | hz
      · exact fixF _ (by unfold nbF; simp)
      rcases List.mem_cons.mp hz with rfl | hz
      · exact go1
      exact fixF z (by
        unfold nbF
        simp only [List.mem_cons, List.mem_nil_iff, or_false] at hz ⊢
        rcases hz with rfl | rfl | rfl | rfl
        · exact .inr (.inl rfl)
        · exact .inr (.inr (.inl rfl))
        · exact .inr (.inr (.inr (.inl rfl)))
        · exact .inr (.inr (.inr (.inr (.inl rfl)))))
    · exact fix z (.inl (.inl (.inr hz)))
    · exact fix z (.inl (.inr hz))
  · unfold nb6 at hd
    simp only [List.mem_cons, List.mem_nil_iff, or_false] at hd
    rcases hd with rfl | rfl | rfl | rfl | rfl | rfl
    · exact fixF _ (by unfold nbF; simp)
    · rfl
    · rfl
    · rfl
    · exact li1
    · exact fixF _ (by unfold nbF; simp)
theorem nb_short {many : Int} (h2 : 2 ≤ many) (h41 : many ≤ 41) : ∀ z ∈ nbAll (many + 1), z.length ≤ 50 := by
  have dyn := nb_len ⟨(many + 1).toNat, by omega⟩
  have ek : (((many + 1).toNat : Nat) : Int) = many + 1 := by omega
  simp only [ek] at dyn
  have few := nb_few
  intro z hz
  unfold nbAll at hz
  simp only [List.mem_append] at hz few
  rcases hz with ((((hz | hz) | hz) | hz) | hz) | hz
  · exact few z (.inl (.inl (.inl (.inl (.inl hz)))))
  · exact few z (.inl (.inl (.inl (.inl (.inr hz)))))
  · exact few z (.inl (.inl (.inl (.inr hz))))
  · unfold nb3 at hz
    rcases List.mem_cons.mp hz with rfl | hz
    · decide +kernel
    rcases List.mem_cons.mp hz with rfl | hz
    · omega
    simp only [List.mem_cons, List.mem_nil_iff, or_false] at hz
    rcases hz with rfl | rfl | rfl | rfl <;> decide +kernel
  · exact few z (.inl (.inl (.inr hz)))
  · exact few z (.inl (.inr hz))
def sp_nb : Sp := fun vs H Q _ => ∃ many : Int, vs = [.int many] ∧ 2 ≤ many ∧ many ≤ 41 ∧ ∀ (p : Addr) (us : List V) (H' : Hp), H p = none → Same H H' → H' p = some (.lst us) → L2.IsL H' ((nbAll (many + 1)).map D.str ++ nb6 (many + 1)) us → Q (.ref p) H'
section
variable {P : Program} {w : World} {K : PySem.W.Frag} {mg : Str → Option Value} {base : Heap} {a : Ad} {g : Ga}
theorem strs_is {H : Hp} : ∀ {ls : List Str}, (∀ z ∈ ls, z.length ≤ 1000) → L2.IsL H (ls.map D.str) (ls.map V.str)
  | [], _ => rfl
  | z :: l, h => ⟨_, _, rfl, ⟨rfl, small (h z List.mem_cons_self)⟩, strs_is fun y hy => h y (List.mem_cons_of_mem _ hy)⟩
theorem ok_nb (T : Tx K mg a) : FnOk P w K mg base CX0 1 a.f_law_bad_lines a.d_law_bad_lines ["many"] sp_nb := by
  refine T.F_law_bad_lines.ok sc_law_bad_lines (fun vs H Q E h => ?_) (fun cdv A outer s H vs Q E hr h => ?_)
  · obtain ⟨many, rfl, _⟩ := h
    rfl
  obtain ⟨many, rfl, h2, h41, k⟩ := h
  refine ⟨_, (@pss_cons _ _ _ _ _ (@ps_set _ _ (1) _ _ _ _ sc_law_bad_lines.nd rfl (Or.inl rfl) (@pe_lst _ _ _ _ (@pa_cons _ _ _ _ _ (@pe_str _ _ _ _) (@pa_cons _ _ _ _ _ (@pe_str _ _ _ _) (@pa_cons _ _ _ _ _ (@pe_str _ _ _ _) (@pa_cons _ _ _ _ _ (@pe_str _ _ _ _) (@pa_cons _ _ _ _ _ (@pe_str _ _ _ _) (@pa_cons _ _ _ _ _ (@pe_str _ _ _ _) (@pa_cons _ _ _ _ _ (@pe_str _ _ _ _) (@pa_cons _ _ _ _ _ (@pe_str _ _ _ _) (@pa_cons _ _ _ _ _ (@pe_str _ _ _ _) (@pa_nil _) (by first | rfl | exact .inl rfl | exact .inr rfl | exact .inr (.inl rfl) | decide | decide +kernel | (intro _; rfl))) (by first | rfl | exact .inl rfl | exact .inr rfl | exact .inr (.inl rfl) | decide | decide +kernel | (intro _; rfl))) (by first | rfl | exact .inl rfl | exact .inr rfl | exact .inr (.inl rfl) | decide | decide +kernel | (intro _; rfl))) (by first | rfl | exact .inl rfl | exact .inr rfl | exact .inr (.inl rfl) | decide | decide +kernel | (intro _; rfl))) (by first | rfl | exact .inl rfl | exact .inr rfl | exact .inr (.inl rfl) | decide | decide +kernel | (intro _; rfl))) (by first | rfl | exact .inl rfl | exact .inr rfl | exact .inr (.inl rfl) | decide | decide +kernel | (intro _; rfl))) (by first | rfl | exact .inl rfl | exact .inr rfl | exact .inr (.inl rfl) | decide | decide +kernel | (intro _; rfl))) (by first | rfl | exact .inl rfl | exact .inr rfl | exact .inr (.inl rfl) | decide | decide +kernel | (intro _; rfl))) (by first | rfl | exact .inl rfl | exact .inr rfl | exact .inr (.inl rfl) | decide | decide +kernel | (intro _; rfl)))) (by first | rfl | exact .inl rfl | exact .inr rfl | exact .inr (.inl rfl) | decide | decide +kernel | (intro _; rfl)) (by first | rfl | exact .inl rfl | exact .inr rfl | exact .inr (.inl rfl) | decide | decide +kernel | (intro _; rfl))) (@pss_cons _ _ _ _ _ (@ps_set _ _ (1) _ _ _ _ sc_law_bad_lines.nd rfl (Or.inl rfl) (@pe_op _ _ _ _ _ _ _ _ (@op_cat _) (pv 1) (@pe_lst _ _ _ _ (@pa_cons _ _ _ _ _ (@pe_str _ _ _ _) (@pa_cons _ _ _ _ _ (@pe_str _ _ _ _) (@pa_cons _ _ _ _ _ (@pe_str _ _ _ _) (@pa_cons _ _ _ _ _ (@pe_str _ _ _ _) (@pa_cons _ _ _ _ _ (@pe_str _ _ _ _) (@pa_cons _ _ _ _ _ (@pe_str _ _ _ _) (@pa_cons _ _ _ _ _ (@pe_str _ _ _ _) (@pa_cons _ _ _ _ _ (@pe_str _ _ _ _) (@pa_nil _) (by first | rfl | exact .inl rfl | exact .inr rfl | exact .inr (.inl rfl) | decide | decide +kernel | (intro _; rfl))) (by first | rfl | exact .inl rfl | exact .inr rfl | exact .inr (.inl rfl) | decide | decide +kernel | (intro _; rfl))) (by first | rfl | exact .inl rfl | exact .inr rfl | exact .inr (.inl rfl) | decide | decide +kernel | (intro _; rfl))) (by first | rfl | exact .inl rfl | exact .inr rfl | exact .inr (.inl rfl) | decide | decide +kernel | (intro _; rfl))) (by first | rfl | exact .inl rfl | exact .inr rfl | exact .inr (.inl rfl) | decide | decide +kernel | (intro _; rfl))) (by first | rfl | exact .inl rfl | exact .inr rfl | exact .inr (.inl rfl) | decide | decide +kernel | (intro _; rfl))) (by first | rfl | exact .inl rfl | exact .inr rfl | exact .inr (.inl rfl) | decide | decide +kernel | (intro _; rfl))) (by first | rfl | exact .inl rfl | exact .inr rfl | exact .inr (.inl rfl) | decide | decide +kernel | (intro _; rfl))))) (by first | rfl | exact .inl rfl | exact .inr rfl | exact .inr (.inl rfl) | decide | decide +kernel | (intro _; rfl)) (by first | rfl | exact .inl rfl | exact .inr rfl | exact .inr (.inl rfl) | decide | decide +kernel | (intro _; rfl))) (@pss_cons _ _ _ _ _ (@ps_set _ _ (1) _ _ _ _ sc_law_bad_lines.nd rfl (Or.inl rfl) (@pe_op _ _ _ _ _ _ _ _ (@op_cat _) (pv 1) (@pe_lst _ _ _ _ (@pa_cons _ _ _ _ _ (@pe_str _ _ _ _) (@pa_cons _ _ _ _ _ (@pe_str _ _ _ _) (@pa_cons _ _ _ _ _ (@pe_str _ _ _ _) (@pa_cons _ _ _ _ _ (@pe_str _ _ _ _) (@pa_cons _ _ _ _ _ (@pe_str _ _ _ _) (@pa_cons _ _ _ _ _ (@pe_str _ _ _ _) (@pa_cons _ _ _ _ _ (@pe_str _ _ _ _) (@pa_cons _ _ _ _ _ (@pe_str _ _ _ _) (@pa_cons _ _ _ _ _ (@pe_str _ _ _ _) (@pa_cons _ _ _ _ _ (@pe_str _ _ _ _) (@pa_nil _) (by first | rfl | exact .inl rfl | exact .inr rfl | exact .inr (.inl rfl) | decide | decide +kernel | (intro _; rfl))) (by first | rfl | exact .inl rfl | exact .inr rfl | exact .inr (.inl rfl) | decide | decide +kernel | (intro _; rfl))) (by first | rfl | exact .inl rfl | exact .inr rfl | exact .inr (.inl rfl) | decide | decide +kernel | (intro _; rfl))) (by first | rfl | exact .inl rfl | exact .inr rfl | exact .inr (.inl rfl) | decide | decide +kernel | (intro _; rfl))) (by first | rfl | exact .inl rfl | exact .inr rfl | exact .inr (.inl rfl) | decide | decide +kernel | (intro _; rfl))) (by first | rfl | exact .inl rfl | exact .inr rfl | exact .inr (.inl rfl) | decide | decide +kernel | (intro _; rfl))) (by first | rfl | exact .inl rfl | exact .inr rfl | exact .inr (.inl rfl) | decide | decide +kernel | (intro _; rfl))) (by first | rfl | exact .inl rfl | exact .inr rfl | exact .inr (.inl rfl) | decide | decide +kernel | (intro _; rfl))) (by first | rfl | exact .inl rfl | exact .inr rfl | exact .inr (.inl rfl) | decide | decide +kernel | (intro _; rfl))) (by first | rfl | exact .inl rfl | exact .inr rfl | exact .inr (.inl rfl) | decide | decide +kernel | (intro _; rfl))))) (by first | rfl | exact .inl rfl | exact .inr rfl | exact .inr (.inl rfl) | decide | decide +kernel | (intro _; rfl)) (by first | rfl | exact .inl rfl | exact .inr rfl | exact .inr (.inl rfl) | decide | decide +kernel | (intro _; rfl))) (@pss_cons _ _ _ _ _ (@ps_set _ _ (1) _ _ _ _ sc_law_bad_lines.nd rfl (Or.inl rfl) (@pe_op _ _ _ _ _ _ _ _ (@op_cat _) (pv 1) (@pe_lst _ _ _ _ (@pa_cons _ _ _ _ _ (@pe_str _ _ _ _) (@pa_cons _ _ _ _ _ (@pe_op _ _ _ _ _ _ _ _ (@op_add_str _) (@pe_str _ _ _ _) (@pe_callTy _ _ _ _ _ _ _ _ _ (@call_str_int _) (by rfl) T.z_str boot_str (@pa_cons _ _ _ _ _ (@pe_op _ _ _ _ _ _ _ _ (@op_add _) (pv 0) (@pe_int _ _ _ _)) (@pa_nil _) (by first | rfl | exact .inl rfl | exact .inr rfl | exact .inr (.inl rfl) | decide | decide +kernel | (intro _; rfl))) (by first | rfl | exact .inl rfl | exact .inr rfl | exact .inr (.inl rfl) | decide | decide +kernel | (intro _; rfl)) (by first | rfl | exact .inl rfl | exact .inr rfl | exact .inr (.inl rfl) | decide | decide +kernel | (intro _; rfl)) (by first | rfl | exact .inl rfl | exact .inr rfl | exact .inr (.inl rfl) | decide | decide +kernel | (intro _; rfl)) (by first | rfl | exact .inl rfl | exact .inr rfl | exact .inr (.inl rfl) | decide | decide +kernel | (intro _; rfl)))) (@pa_cons _ _ _ _ _ (@pe_op _ _ _ _ _ _ _ _ (@op_add_str _) (@pe_str _ _ _ _) (@pe_op _ _ _ _ _ _ _ _ (@op_repS _) (@pe_str _ _ _ _) (@pe_int _ _ _ _))) (@pa_cons _ _ _ _ _ (@pe_str _ _ _ _) (@pa_cons _ _ _ _ _ (@pe_str _ _ _ _) (@pa_cons _ _ _ _ _ (@pe_str _ _ _ _) (@pa_nil _) (by first | rfl | exact .inl rfl | exact .inr rfl | exact .inr (.inl rfl) | decide | decide +kernel | (intro _; rfl))) (by first | rfl | exact .inl rfl | exact .inr rfl | exact .inr (.inl rfl) | decide | decide +kernel | (intro _; rfl))) (by first | rfl | exact .inl rfl | exact .inr rfl | exact .inr (.inl rfl) | decide | decide +kernel | (intro _; rfl))) (by first | rfl | exact .inl rfl | exact .inr rfl | exact .inr (.inl rfl) | decide | decide +kernel | (intro _; rfl))) (by first | rfl | exact .inl rfl | exact .inr rfl | exact .inr (.inl rfl) | decide | decide +kernel | (intro _; rfl))) (by first | rfl | exact .inl rfl | exact .inr rfl | exact .inr (.inl rfl) | decide | decide +kernel | (intro _; rfl))))) (by first | rfl | exact .inl rfl | exact .inr rfl | exact .inr (.inl rfl) | decide | decide +kernel | (intro _; rfl)) (by first | rfl | exact .inl rfl | exact .inr rfl | exact .inr (.inl rfl) | decide | decide +kernel | (intro _; rfl))) (@pss_cons _ _ _ _ _ (@ps_set _ _ (1) _ _ _ _ sc_law_bad_lines.nd rfl (Or.inl rfl) (@pe_op _ _ _ _ _ _ _ _ (@op_cat _) (pv 1) (@pe_lst _ _ _ _ (@pa_cons _ _ _ _ _ (@pe_str _ _ _ _) (@pa_cons _ _ _ _ _ (@pe_str _ _ _ _) (@pa_cons _ _ _ _ _ (@pe_str _ _ _ _) (@pa_cons _ _ _ _ _ (@pe_str _ _ _ _) (@pa_cons _ _ _ _ _ (@pe_str _ _ _ _) (@pa_cons _ _ _ _ _ (@pe_str _ _ _ _) (@pa_cons _ _ _ _ _ (@pe_str _ _ _ _) (@pa_cons _ _ _ _ _ (@pe_str _ _ _ _) (@pa_cons _ _ _ _ _ (@pe_str _ _ _ _) (@pa_nil _) (by first | rfl | exact .inl rfl | exact .inr rfl | exact .inr (.inl rfl) | decide | decide +kernel | (intro _; rfl))) (by first | rfl | exact .inl rfl | exact .inr rfl | exact .inr (.inl rfl) | decide | decide +kernel | (intro _; rfl))) (by first | rfl | exact .inl rfl | exact .inr rfl | exact .inr (.inl rfl) | decide | decide +kernel | (intro _; rfl))) (by first | rfl | exact .inl rfl | exact .inr rfl | exact .inr (.inl rfl) | decide | decide +kernel | (intro _; rfl))) (by first | rfl | exact .inl rfl | exact .inr rfl | exact .inr (.inl rfl) | decide | decide +kernel | (intro _; rfl))) (by first | rfl | exact .inl rfl | exact .inr rfl | exact .inr (.inl rfl) | decide | decide +kernel | (intro _; rfl))) (by first | rfl | exact .inl rfl | exact .inr rfl | exact .inr (.inl rfl) | decide | decide +kernel | (intro _; rfl))) (by first | rfl | exact .inl rfl | exact .inr rfl | exact .inr (.inl rfl) | decide | decide +kernel | (intro _; rfl))) (by first | rfl | exact .inl rfl | exact .inr rfl | exact .inr (.inl rfl) | decide | decide +kernel | (intro _; rfl))))) (by first | rfl | exact .inl rfl | exact .inr rfl | exact .inr (.inl rfl) | decide | decide +kernel | (intro _; rfl)) (by first | rfl | exact .inl rfl | exact .inr rfl | exact .inr (.inl rfl) | decide | decide +kernel | (intro _; rfl))) (@pss_cons _ _ _ _ _ (@ps_set _ _ (1) _ _ _ _ sc_law_bad_lines.nd rfl (Or.inl rfl) (@pe_op _ _ _ _ _ _ _ _ (@op_cat _) (pv 1) (@pe_lst _ _ _ _ (@pa_cons _ _ _ _ _ (@pe_str _ _ _ _) (@pa_cons _ _ _ _ _ (@pe_str _ _ _ _) (@pa_cons _ _ _ _ _ (@pe_str _ _ _ _) (@pa_cons _ _ _ _ _ (@pe_str _ _ _ _) (@pa_cons _ _ _ _ _ (@pe_str _ _ _ _) (@pa_cons _ _ _ _ _ (@pe_str _ _ _ _) (@pa_cons _ _ _ _ _ (@pe_str _ _ _ _) (@pa_cons _ _ _ _ _ (@pe_str _ _ _ _) (@pa_nil _) (by first | rfl | exact .inl rfl | exact .inr rfl | exact .inr (.inl rfl) | decide | decide +kernel | (intro _; rfl))) (by first | rfl | exact .inl rfl | exact .inr rfl | exact .inr (.inl rfl) | decide | decide +kernel | (intro _; rfl))) (by first | rfl | exact .inl rfl | exact .inr rfl | exact .inr (.inl rfl) | decide | decide +kernel | (intro _; rfl))) (by first | rfl | exact .inl rfl | exact .inr rfl | exact .inr (.inl rfl) | decide | decide +kernel | (intro _; rfl))) (by first | rfl | exact .inl rfl | exact .inr rfl | exact .inr (.inl rfl) | decide | decide +kernel | (intro _; rfl))) (by first | rfl | exact .inl rfl | exact .inr rfl | exact .inr (.inl rfl) | decide | decide +kernel | (intro _; rfl))) (by first | rfl | exact .inl rfl | exact .inr rfl | exact .inr (.inl rfl) | decide | decide +kernel | (intro _; rfl))) (by first | rfl | exact .inl rfl | exact .inr rfl | exact .inr (.inl rfl) | decide | decide +kernel | (intro _; rfl))))) (by first | rfl | exact .inl rfl | exact .inr rfl | exact .inr (.inl rfl) | decide | decide +kernel | (intro _; rfl)) (by first | rfl | exact .inl rfl | exact .inr rfl | exact .inr (.inl rfl) | decide | decide +kernel | (intro _; rfl))) (@pss_one _ _ _ (@ps_ret _ _ _ _ (@pe_op _ _ _ _ _ _ _ _ (@op_cat _) (pv 1) (@pe_lst _ _ _ _ (@pa_cons _ _ _ _ _ (@pe_str _ _ _ _) (@pa_cons _ _ _ _ _ (@pe_tup _ _ _ _ _ (@pa_nil _)) (@pa_cons _ _ _ _ _ (@pe_tup _ _ _ _ _ (@pa_cons _ _ _ _ _ (@pe_str _ _ _ _) (@pa_nil _) (by first | rfl | exact .inl rfl | exact .inr rfl | exact .inr (.inl rfl) | decide | decide +kernel | (intro _; rfl)))) (@pa_cons _ _ _ _ _ (@pe_tup _ _ _ _ _ (@pa_cons _ _ _ _ _ (@pe_tup _ _ _ _ _ (@pa_nil _)) (@pa_cons _ _ _ _ _ (@pe_str _ _ _ _) (@pa_nil _) (by first | rfl | exact .inl rfl | exact .inr rfl | exact .inr (.inl rfl) | decide | decide +kernel | (intro _; rfl))) (by first | rfl | exact .inl rfl | exact .inr rfl | exact .inr (.inl rfl) | decide | decide +kernel | (intro _; rfl)))) (@pa_cons _ _ _ _ _ (@pe_op _ _ _ _ _ _ _ _ (@op_add_str _) (@pe_str _ _ _ _) (@pe_callTy _ _ _ _ _ _ _ _ _ (@call_str_int _) (by rfl) T.z_str boot_str (@pa_cons _ _ _ _ _ (@pe_op _ _ _ _ _ _ _ _ (@op_add _) (pv 0) (@pe_int _ _ _ _)) (@pa_nil _) (by first | rfl | exact .inl rfl | exact .inr rfl | exact .inr (.inl rfl) | decide | decide +kernel | (intro _; rfl))) (by first | rfl | exact .inl rfl | exact .inr rfl | exact .inr (.inl rfl) | decide | decide +kernel | (intro _; rfl)) (by first | rfl | exact .inl rfl | exact .inr rfl | exact .inr (.inl rfl) | decide | decide +kernel | (intro _; rfl)) (by first | rfl | exact .inl rfl | exact .inr rfl | exact .inr (.inl rfl) | decide | decide +kernel | (intro _; rfl)) (by first | rfl | exact .inl rfl | exact .inr rfl | exact .inr (.inl rfl) | decide | decide +kernel | (intro _; rfl)))) (@pa_cons _ _ _ _ _ (@pe_str _ _ _ _) (@pa_nil _) (by first | rfl | exact .inl rfl | exact .inr rfl | exact .inr (.inl rfl) | decide | decide +kernel | (intro _; rfl))) (by first | rfl | exact .inl rfl | exact .inr rfl | exact .inr (.inl rfl) | decide | decide +kernel | (intro _; rfl))) (by first | rfl | exact .inl rfl | exact .inr rfl | exact .inr (.inl rfl) | decide | decide +kernel | (intro _; rfl))) (by first | rfl | exact .inl rfl | exact .inr rfl | exact .inr (.inl rfl) | decide | decide +kernel | (intro _; rfl))) (by first | rfl | exact .inl rfl | exact .inr rfl | exact .inr (.inl rfl) | decide | decide +kernel | (intro _; rfl))) (by first | rfl | exact .inl rfl | exact .inr rfl | exact .inr (.inl rfl) | decide | decide +kernel | (intro _; rfl))))))))))))), ?_⟩
  have hlog : (many + 1).natAbs.log2 < 1920 := by
    have := Nat.log2_le_self (many + 1).natAbs
    omega
  have dyn := nb_len ⟨(many + 1).toNat, by omega⟩
  have ek : (((many + 1).toNat : Nat) : Int) = many + 1 := by omega
  simp only [ek] at dyn
  refine ⟨(by show 9 ≤ sizeLine; decide), fun p0 g0 => ?_⟩
  have s0 : Same H (upd H p0 (.lst (nb0.map V.str))) := same_new g0 _
  have e0 : (upd H p0 (.lst (nb0.map V.str))) p0 = some (.lst (nb0.map V.str)) := upd_same
  refine ⟨_, rfl, (by show 8 ≤ sizeLine; decide), fun q1 g1 => ?_⟩
  have cat : ∀ (H0 H1 : Hp) (l m : List Str) (p q : Addr) (R : VK), H1 p = some (.lst (l.map V.str)) → H1 q = none → l.length + m.length ≤ 100 → Same H0 H1 →
      (∀ r H3, Same H0 H3 → H3 r = some (.lst ((l ++ m).map V.str)) → R (.ref r) H3) → rCat (.ref p) (.ref q) (upd H1 q (.lst (m.map V.str))) R := fun H0 H1 l m p q R hp gq hl s01 hR => by
    have s2 : Same H1 (upd H1 q (.lst (m.map V.str))) := same_new gq _
    refine ⟨p, q, _, _, rfl, rfl, s2 _ _ hp, upd_same, small (by rw [List.length_map, List.length_map]; omega), fun r gr => ?_⟩
    exact hR r _ (s01.trans (s2.trans (same_new gr _))) (by rw [upd_same, List.map_append])
  refine cat H _ nb0 nb1 p0 q1 _ e0 g1 (by decide) s0 fun p1 H1 s1 e1 => ?_
  refine ⟨_, rfl, (by show 10 ≤ sizeLine; decide), fun q2 g2 => ?_⟩
  refine cat H _ (nb0 ++ nb1) nb2 p1 q2 _ e1 g2 (by decide) s1 fun p2 H2 s2 e2 => ?_
  have l1 : (toString (many + 1) : Str).length ≤ 5 := dyn.2.2
  have l2 : (Txt.mul ("9" : Str) 40).length ≤ 40 := by decide +kernel
  refine ⟨_, rfl, _, rfl, _, _, rfl, rfl, _, rfl, hlog, _, _, rfl, rfl, small (by show 3 + (toString (many + 1) : Str).length ≤ 1000; omega), "9", 40, rfl, rfl, mulOk_of (by decide) (by decide) (by decide), _, _, rfl, rfl, small (by show 3 + (Txt.mul ("9" : Str) 40).length ≤ 1000; omega), (by show 6 ≤ sizeLine; decide), fun q3 g3 => ?_⟩
  refine cat H _ (nb0 ++ nb1 ++ nb2) (nb3 (many + 1)) p2 q3 _ e2 g3 (by show 27 + 6 ≤ 100; decide) s2 fun p3 H3 s3 e3 => ?_
  refine ⟨_, rfl, (by show 9 ≤ sizeLine; decide), fun q4 g4 => ?_⟩
  refine cat H _ (nb0 ++ nb1 ++ nb2 ++ nb3 (many + 1)) nb4 p3 q4 _ e3 g4 (by show 33 + 9 ≤ 100; decide) s3 fun p4 H4 s4 e4 => ?_
  refine ⟨_, rfl, (by show 8 ≤ sizeLine; decide), fun q5 g5 => ?_⟩
  refine cat H _ (nb0 ++ nb1 ++ nb2 ++ nb3 (many + 1) ++ nb4) nb5 p4 q5 _ e4 g5 (by show 42 + 8 ≤ 100; decide) s4 fun p5 H5 s5 e5 => ?_
  have e5 : H5 p5 = some (.lst ((nbAll (many + 1)).map V.str)) := e5
  refine ⟨_, rfl, (by show 0 ≤ sizeLine; decide), fun t6 g6 => ⟨(by show 1 ≤ sizeLine; decide), fun t7 g7 => ⟨(by show 0 ≤ sizeLine; decide), fun t8 g8 => ⟨(by show 2 ≤ sizeLine; decide), fun t9 g9 => ?_⟩⟩⟩⟩
  have i6 : Is (upd H5 t6 (.tup [])) (.tup []) (.ref t6) := Is.new (ds := []) rfl g6
  have s6 : Same H5 (upd H5 t6 (.tup [])) := same_new g6 _
  generalize upd H5 t6 (.tup []) = H6 at i6 s6 g7 g8 g9 ⊢
  have sy : ∀ H' : Hp, Is H' (.str "say a") (.str "say a") := fun H' => ⟨rfl, small (by decide +kernel)⟩
  have i7 : Is (upd H6 t7 (.tup [.str "say a"])) (.tup [.str "say a"]) (.ref t7) := Is.new (ds := [.str "say a"]) ⟨_, _, rfl, sy _, rfl⟩ g7
  have s7 : Same H6 (upd H6 t7 (.tup [.str "say a"])) := same_new g7 _
  generalize upd H6 t7 (.tup [.str "say a"]) = H7 at i7 s7 g8 g9 ⊢
  have i8 : Is (upd H7 t8 (.tup [])) (.tup []) (.ref t8) := Is.new (ds := []) rfl g8
  have s8 : Same H7 (upd H7 t8 (.tup [])) := same_new g8 _
  generalize upd H7 t8 (.tup []) = H8 at i8 s8 g9 ⊢
  have i9 : Is (upd H8 t9 (.tup [.ref t8, .str "say a"])) (.tup [.tup [], .str "say a"]) (.ref t9) := Is.new (ds := [.tup [], .str "say a"]) ⟨_, _, rfl, i8, _, _, rfl, sy _, rfl⟩ g9
  have s9 : Same H8 (upd H8 t9 (.tup [.ref t8, .str "say a"])) := same_new g9 _
  generalize upd H8 t9 (.tup [.ref t8, .str "say a"]) = H9 at i9 s9 ⊢
  have s59 : Same H5 H9 := s6.trans (s7.trans (s8.trans s9))
  refine ⟨_, rfl, _, _, rfl, rfl, _, rfl, hlog, _, _, rfl, rfl, small (by show 9 + (toString (many + 1) : Str).length ≤ 1000; omega), (by show 6 ≤ sizeLine; decide), fun q10 g10 => ?_⟩
  have s10 : Same H9 (upd H9 q10 (.lst [.str "go '1'", .ref t6, .ref t7, .ref t9, .str (likeN (many + 1)), .str "none a 00"])) := same_new g10 _
  have e10 : (upd H9 q10 (.lst [.str "go '1'", .ref t6, .ref t7, .ref t9, .str (likeN (many + 1)), .str "none a 00"])) q10 = some (.lst [.str "go '1'", .ref t6, .ref t7, .ref t9, .str (likeN (many + 1)), .str "none a 00"]) := upd_same
  have i10 : L2.IsL H9 (nb6 (many + 1)) [.str "go '1'", .ref t6, .ref t7, .ref t9, .str (likeN (many + 1)), .str "none a 00"] :=
    ⟨_, _, rfl, ⟨rfl, small (by decide +kernel)⟩, _, _, rfl, i6.mono (s7.trans (s8.trans s9)).tk, _, _, rfl, i7.mono (s8.trans s9).tk, _, _, rfl, i9, _, _, rfl, ⟨rfl, small (by have := dyn.2.1; omega)⟩, _, _, rfl, ⟨rfl, small (by decide +kernel)⟩, rfl⟩
  refine ⟨p5, q10, _, _, rfl, rfl, s10 _ _ (s59 _ _ e5), e10, small (by rw [List.length_map]; show 50 + 6 ≤ 1000; decide), fun p11 g11 => ?_⟩
  have s11 := same_new g11 (.lst ((nbAll (many + 1)).map V.str ++ [.str "go '1'", .ref t6, .ref t7, .ref t9, .str (likeN (many + 1)), .str "none a 00"]))
  have sA := s5.trans (s59.trans s10)
  refine k p11 _ _ (sA.free g11) (sA.trans s11) upd_same ?_
  exact ((strs_is fun z hz => by have := nb_short h2 h41 z hz; omega).append (i10.mono s10.tk)).mono s11.tk
end
end K06

set_option Elab.async false
set_option linter.all false
set_option maxRecDepth 100000
set_option maxHeartbeats 4000000
namespace K06
open PySem L2 PyProof.Rows
theorem isL_ints {H : Hp} : ∀ l : List Int, L2.IsL H (l.map D.int) (l.map V.int)
  | [] => rfl
  | i :: l => ⟨_, _, rfl, rfl, isL_ints l⟩
section
variable {K : PySem.W.Frag}
theorem ixl_is {H : Hp} {p : Addr} {ds : List D} {us : List V} {i : Nat} {d : D} {Q : VK} (hp : H p = some (.lst us)) (h : L2.IsL H ds us) (hi : ds[i]? = some d) (q : ∀ x, Is H d x → Q x H) : rIxL K (.ref p) (.int (0 + (i : Int))) H Q := by
  obtain ⟨x, e1, e2⟩ := h.get hi
  refine ⟨p, us, _, x, rfl, rfl, SqL.of hp, ?_, q x e2⟩
  rw [Int.zero_add]
  exact atI_nat e1
end
structure RuleOk (m : Nat) (rs : List Rw) : Prop where
  n0 : 1 ≤ rs.length
  n1 : rs.length ≤ 40
  m0 : 4 ≤ m
  m1 : m ≤ 40
  ok : ∀ r ∈ rs, RowOk rs.length m r
  bd : (rs.length + 1) * (9 + m) + 1 ≤ 600
/-- lists of rows, none of them F itself -/
def Rls (H : Hp) (F : Addr) (us : List V) : Prop := ∀ u ∈ us, ∃ (p : Addr) (vs : List V) (m : Nat) (rs : List Rw), u = .ref p ∧ p ≠ F ∧ H p = some (.lst vs) ∧ L2.IsL H (rs.map rowD) vs ∧ RuleOk m rs
theorem Rls.same {H H' : Hp} {F : Addr} {us : List V} (h : Rls H F us) (s : Same H H') : Rls H' F us := fun u hu => by
  obtain ⟨p, vs, m, rs, e, n, hp, hv, hR⟩ := h u hu
  exact ⟨p, vs, m, rs, e, n, s _ _ hp, hv.mono s.tk, hR⟩
theorem Rls.put {H : Hp} {F : Addr} {us xs ys : List V} (h : Rls H F us) (hF : H F = some (.lst xs)) : Rls (upd H F (.lst ys)) F us := fun u hu => by
  obtain ⟨p, vs, m, rs, e, n, hp, hv, hR⟩ := h u hu
  exact ⟨p, vs, m, rs, e, n, by rw [upd_ne n]; exact hp, hv.mono (Tk.updL hF), hR⟩
def sp_rules (K : PySem.W.Frag) : Sp := fun vs H Q _ => ∃ (q : Addr) (ns : List Int), vs = [.ref q] ∧ SqL K H q (ns.map V.int) ∧ ns.length ≤ 63 ∧ ∀ (F : Addr) (us : List V) (H' : Hp), Same H H' → H F = none → H' F = some (.lst us) → us.length ≤ 20 → Rls H' F us → Q (.ref F) H'
theorem cut_few (ns : List Int) (n : Nat) : ∃ ms : List Int, cutV (ns.map V.int) none (some (n : Int)) = ms.map V.int ∧ ms.length ≤ n := by
  unfold cutV
  refine ⟨ns.take (min n ns.length), ?_, ?_⟩
  · rw [HT.sIx_none, HT.sIx_nat, List.drop_zero, Nat.sub_zero, List.length_map, List.map_take]
  · rw [List.length_take]
    omega
section
variable {P : Program} {w : World} {K : PySem.W.Frag} {mg : Str → Option Value} {base : Heap} {a : Ad} {g : Ga}
theorem ok_rules (T : Tx K mg a) : FnOk P w K mg base CX0 4 a.f_law_rules a.d_law_rules ["script"] (sp_rules K) := by
  have G_law_take : FnOk P w K mg base CX0 1 a.f_law_take a.d_law_take ["pot", "many"] sp_take := ok_take T
  have G_law_pot : FnOk P w K mg base CX0 1 a.f_law_pot a.d_law_pot ["cell", "salt"] sp_pot := ok_pot T
  have G_law_row : FnOk P w K mg base CX0 3 a.f_law_row a.d_law_row ["pot", "many", "most"] sp_row := ok_row T
  refine T.F_law_rules.ok sc_law_rules (fun vs H Q E h => ?_) (fun cdv A outer s H vs Q E hr h => ?_)
  · obtain ⟨q, ns, rfl, _⟩ := h
    rfl
  obtain ⟨q, ns, rfl, hq, hn, k⟩ := h
  refine ⟨_, (@pss_cons _ _ _ _ _ (@ps_set _ _ (1) _ _ _ _ sc_law_rules.nd rfl (Or.inr rfl) (@pe_op _ _ _ _ _ _ _ _ (@op_cat _) (@pe_lst _ _ _ _ (@pa_cons _ _ _ _ _ (@pe_int _ _ _ _) (@pa_nil _) (by first | rfl | exact .inl rfl | exact .inr rfl | exact .inr (.inl rfl) | decide | decide +kernel | (intro _; rfl)))) (@pe_callTy _ _ _ _ _ _ _ _ _ (@call_list_of _) (by rfl) T.z_list boot_list (@pa_cons _ _ _ _ _ (@pe_slice _ _ _ _ _ _ _ _ _ _ (@sl_list _) (pv 0) (@po_none _) (@po_some _ _ _ (@pe_int _ _ _ _))) (@pa_nil _) (by first | rfl | exact .inl rfl | exact .inr rfl | exact .inr (.inl rfl) | decide | decide +kernel | (intro _; rfl))) (by first | rfl | exact .inl rfl | exact .inr rfl | exact .inr (.inl rfl) | decide | decide +kernel | (intro _; rfl)) (by first | rfl | exact .inl rfl | exact .inr rfl | exact .inr (.inl rfl) | decide | decide +kernel | (intro _; rfl)) (by first | rfl | exact .inl rfl | exact .inr rfl | exact .inr (.inl rfl) | decide | decide +kernel | (intro _; rfl)) (by first | rfl | exact .inl rfl | exact .inr rfl | exact .inr (.inl rfl) | decide | decide +kernel | (intro _; rfl)))) (by first | rfl | exact .inl rfl | exact .inr rfl | exact .inr (.inl rfl) | decide | decide +kernel | (intro _; rfl)) (by first | rfl | exact .inl rfl | exact .inr rfl | exact .inr (.inl rfl) | decide | decide +kernel | (intro _; rfl))) (@pss_cons _ _ _ _ _ (@ps_set _ _ (2) _ _ _ _ sc_law_rules.nd rfl (Or.inl rfl) (@pe_lst _ _ _ _ (@pa_cons _ _ _ _ _ (@pe_lc _ _ (["k", "some"]) (1) ([1]) _ _ _ _ _ _ _ _ _ (lcsN (defScope s_law_rules) ["script", "some", "found", "cell", "pot", "many"]) rfl (@pi_range1 _ _ _ _ _ _ (by rfl) T.z_range (@pa_cons _ _ _ _ _ (@pe_callB _ _ _ _ _ _ _ _ _ (@call_len_seq _) (by rfl) T.z_len PySem.boot_len (@pa_cons _ _ _ _ _ (pv 1) (@pa_nil _) (by first | rfl | exact .inl rfl | exact .inr rfl | exact .inr (.inl rfl) | decide | decide +kernel | (intro _; rfl))) (by first | rfl | exact .inl rfl | exact .inr rfl | exact .inr (.inl rfl) | decide | decide +kernel | (intro _; rfl)) (by first | rfl | exact .inl rfl | exact .inr rfl | exact .inr (.inl rfl) | decide | decide +kernel | (intro _; rfl)) (by first | rfl | exact .inl rfl | exact .inr rfl | exact .inr (.inl rfl) | decide | decide +kernel | (intro _; rfl)) (by first | rfl | exact .inl rfl | exact .inr rfl | exact .inr (.inl rfl) | decide | decide +kernel | (intro _; rfl))) (@pa_nil _) (by first | rfl | exact .inl rfl | exact .inr rfl | exact .inr (.inl rfl) | decide | decide +kernel | (intro _; rfl))) (by first | rfl | exact .inl rfl | exact .inr rfl | exact .inr (.inl rfl) | decide | decide +kernel | (intro _; rfl))) (fun _ _ _ _ _ _ => (@pg_name _ _ (0) _ (show List.Nodup (["k", "some"] : List Str) by decide +kernel) rfl (Or.inl rfl) (by first | rfl | exact .inl rfl | exact .inr rfl | exact .inr (.inl rfl) | decide | decide +kernel | (intro _; rfl)))) (fun _ _ _ _ _ _ => @pif_nil _) (fun _ _ _ _ _ _ => (@pe_call _ _ _ _ _ _ _ _ _ _ _ _ _ _ _ _ G_law_row (hr.mono (by first | decide | omega)) (by rfl) T.m_law_row T.F_law_row.kp T.b_law_row .nil pass0 (@pa_cons _ _ _ _ _ (@pe_call _ _ _ _ _ _ _ _ _ _ _ _ _ _ _ _ G_law_pot (hr.mono (by first | decide | omega)) (by rfl) T.m_law_pot T.F_law_pot.kp T.b_law_pot .nil pass0 (@pa_cons _ _ _ _ _ (@pe_ix _ _ _ _ _ _ _ (@ix_listK _ (K) rfl) (pv 1) (pv 0) (fun _ _ => rfl)) (@pa_cons _ _ _ _ _ (pv 0) (@pa_nil _) (by first | rfl | exact .inl rfl | exact .inr rfl | exact .inr (.inl rfl) | decide | decide +kernel | (intro _; rfl))) (by first | rfl | exact .inl rfl | exact .inr rfl | exact .inr (.inl rfl) | decide | decide +kernel | (intro _; rfl))) (by first | rfl | exact .inl rfl | exact .inr rfl | exact .inr (.inl rfl) | decide | decide +kernel | (intro _; rfl)) (by first | rfl | exact .inl rfl | exact .inr rfl | exact .inr (.inl rfl) | decide | decide +kernel | (intro _; rfl)) (by first | rfl | exact .inl rfl | exact .inr rfl | exact .inr (.inl rfl) | decide | decide +kernel | (intro _; rfl))) (@pa_cons _ _ _ _ _ (@pe_callB _ _ _ _ _ _ _ _ _ (@call_len_seqK _ (K) rfl) (by rfl) T.z_len PySem.boot_len (@pa_cons _ _ _ _ _ (pv 1) (@pa_nil _) (by first | rfl | exact .inl rfl | exact .inr rfl | exact .inr (.inl rfl) | decide | decide +kernel | (intro _; rfl))) (by first | rfl | exact .inl rfl | exact .inr rfl | exact .inr (.inl rfl) | decide | decide +kernel | (intro _; rfl)) (by first | rfl | exact .inl rfl | exact .inr rfl | exact .inr (.inl rfl) | decide | decide +kernel | (intro _; rfl)) (by first | rfl | exact .inl rfl | exact .inr rfl | exact .inr (.inl rfl) | decide | decide +kernel | (intro _; rfl)) (by first | rfl | exact .inl rfl | exact .inr rfl | exact .inr (.inl rfl) | decide | decide +kernel | (intro _; rfl))) (@pa_cons _ _ _ _ _ (@pe_int _ _ _ _) (@pa_nil _) (by first | rfl | exact .inl rfl | exact .inr rfl | exact .inr (.inl rfl) | decide | decide +kernel | (intro _; rfl))) (by first | rfl | exact .inl rfl | exact .inr rfl | exact .inr (.inl rfl) | decide | decide +kernel | (intro _; rfl))) (by first | rfl | exact .inl rfl | exact .inr rfl | exact .inr (.inl rfl) | decide | decide +kernel | (intro _; rfl))) (by first | rfl | exact .inl rfl | exact .inr rfl | exact .inr (.inl rfl) | decide | decide +kernel | (intro _; rfl)) (by first | rfl | exact .inl rfl | exact .inr rfl | exact .inr (.inl rfl) | decide | decide +kernel | (intro _; rfl)) (by first | rfl | exact .inl rfl | exact .inr rfl | exact .inr (.inl rfl) | decide | decide +kernel | (intro _; rfl)))) (by first | rfl | exact .inl rfl | exact .inr rfl | exact .inr (.inl rfl) | decide | decide +kernel | (intro _; rfl))) (@pa_nil _) (by first | rfl | exact .inl rfl | exact .inr rfl | exact .inr (.inl rfl) | decide | decide +kernel | (intro _; rfl)))) (by first | rfl | exact .inl rfl | exact .inr rfl | exact .inr (.inl rfl) | decide | decide +kernel | (intro _; rfl)) (by first | rfl | exact .inl rfl | exact .inr rfl | exact .inr (.inl rfl) | decide | decide +kernel | (intro _; rfl))) (@pss_cons _ _ _ _ _ (@ps_for _ _ _ _ _ _ _ _ PassesOwn.never rfl (@pi_list _ _ _ _ (@pe_slice _ _ _ _ _ _ _ _ _ _ (@sl_list _) (pv 1) (@po_none _) (@po_some _ _ _ (@pe_int _ _ _ _)))) (@pg_name _ _ (3) _ sc_law_rules.nd rfl (Or.inl rfl) (by first | rfl | exact .inl rfl | exact .inr rfl | exact .inr (.inl rfl) | decide | decide +kernel | (intro _; rfl))) (@pss_cons _ _ _ _ _ (@ps_set _ _ (4) _ _ _ _ sc_law_rules.nd rfl (Or.inr rfl) (@pe_call _ _ _ _ _ _ _ _ _ _ _ _ _ _ _ _ G_law_pot (hr.mono (by first | decide | omega)) (by rfl) T.m_law_pot T.F_law_pot.kp T.b_law_pot .nil pass0 (@pa_cons _ _ _ _ _ (pv 3) (@pa_cons _ _ _ _ _ (@pe_int _ _ _ _) (@pa_nil _) (by first | rfl | exact .inl rfl | exact .inr rfl | exact .inr (.inl rfl) | decide | decide +kernel | (intro _; rfl))) (by first | rfl | exact .inl rfl | exact .inr rfl | exact .inr (.inl rfl) | decide | decide +kernel | (intro _; rfl))) (by first | rfl | exact .inl rfl | exact .inr rfl | exact .inr (.inl rfl) | decide | decide +kernel | (intro _; rfl)) (by first | rfl | exact .inl rfl | exact .inr rfl | exact .inr (.inl rfl) | decide | decide +kernel | (intro _; rfl)) (by first | rfl | exact .inl rfl | exact .inr rfl | exact .inr (.inl rfl) | decide | decide +kernel | (intro _; rfl))) (by first | rfl | exact .inl rfl | exact .inr rfl | exact .inr (.inl rfl) | decide | decide +kernel | (intro _; rfl)) (by first | rfl | exact .inl rfl | exact .inr rfl | exact .inr (.inl rfl) | decide | decide +kernel | (intro _; rfl))) (@pss_cons _ _ _ _ _ (@ps_set _ _ (5) _ _ _ _ sc_law_rules.nd rfl (Or.inr rfl) (@pe_op _ _ _ _ _ _ _ _ (@op_add _) (@pe_int _ _ _ _) (@pe_call _ _ _ _ _ _ _ _ _ _ _ _ _ _ _ _ G_law_take (hr.mono (by first | decide | omega)) (by rfl) T.m_law_take T.F_law_take.kp T.b_law_take .nil pass0 (@pa_cons _ _ _ _ _ (pv 4) (@pa_cons _ _ _ _ _ (@pe_int _ _ _ _) (@pa_nil _) (by first | rfl | exact .inl rfl | exact .inr rfl | exact .inr (.inl rfl) | decide | decide +kernel | (intro _; rfl))) (by first | rfl | exact .inl rfl | exact .inr rfl | exact .inr (.inl rfl) | decide | decide +kernel | (intro _; rfl))) (by first | rfl | exact .inl rfl | exact .inr rfl | exact .inr (.inl rfl) | decide | decide +kernel | (intro _; rfl)) (by first | rfl | exact .inl rfl | exact .inr rfl | exact .inr (.inl rfl) | decide | decide +kernel | (intro _; rfl)) (by first | rfl | exact .inl rfl | exact .inr rfl | exact .inr (.inl rfl) | decide | decide +kernel | (intro _; rfl)))) (by first | rfl | exact .inl rfl | exact .inr rfl | exact .inr (.inl rfl) | decide | decide +kernel | (intro _; rfl)) (by first | rfl | exact .inl rfl | exact .inr rfl | exact .inr (.inl rfl) | decide | decide +kernel | (intro _; rfl))) (@pss_one _ _ _ (@ps_expr _ _ _ _ (@pe_bm _ _ _ _ _ _ _ _ _ _ _ _ PySem.F.plainAttrs_list PySem.F.slot_list_append PySem.F.type_list_append (@mt_append _) (pv 2) (@pa_cons _ _ _ _ _ (@pe_lc _ _ (["k", "pot", "many"]) (1) ([4, 5]) _ _ _ _ _ _ _ _ _ (lcsN (defScope s_law_rules) ["script", "some", "found", "cell", "pot", "many"]) rfl (@pi_range1 _ _ _ _ _ _ (by rfl) T.z_range (@pa_cons _ _ _ _ _ (pv 5) (@pa_nil _) (by first | rfl | exact .inl rfl | exact .inr rfl | exact .inr (.inl rfl) | decide | decide +kernel | (intro _; rfl))) (by first | rfl | exact .inl rfl | exact .inr rfl | exact .inr (.inl rfl) | decide | decide +kernel | (intro _; rfl))) (fun _ _ _ _ _ _ => (@pg_name _ _ (0) _ (show List.Nodup (["k", "pot", "many"] : List Str) by decide +kernel) rfl (Or.inl rfl) (by first | rfl | exact .inl rfl | exact .inr rfl | exact .inr (.inl rfl) | decide | decide +kernel | (intro _; rfl)))) (fun _ _ _ _ _ _ => @pif_nil _) (fun _ _ _ _ _ _ => (@pe_call _ _ _ _ _ _ _ _ _ _ _ _ _ _ _ _ G_law_row (hr.mono (by first | decide | omega)) (by rfl) T.m_law_row T.F_law_row.kp T.b_law_row .nil pass0 (@pa_cons _ _ _ _ _ (pv 1) (@pa_cons _ _ _ _ _ (pv 2) (@pa_cons _ _ _ _ _ (@pe_int _ _ _ _) (@pa_nil _) (by first | rfl | exact .inl rfl | exact .inr rfl | exact .inr (.inl rfl) | decide | decide +kernel | (intro _; rfl))) (by first | rfl | exact .inl rfl | exact .inr rfl | exact .inr (.inl rfl) | decide | decide +kernel | (intro _; rfl))) (by first | rfl | exact .inl rfl | exact .inr rfl | exact .inr (.inl rfl) | decide | decide +kernel | (intro _; rfl))) (by first | rfl | exact .inl rfl | exact .inr rfl | exact .inr (.inl rfl) | decide | decide +kernel | (intro _; rfl)) (by first | rfl | exact .inl rfl | exact .inr rfl | exact .inr (.inl rfl) | decide | decide +kernel | (intro _; rfl)) (by first | rfl | exact .inl rfl | exact .inr rfl | exact .inr (.inl rfl) | decide | decide +kernel | (intro _; rfl)))) (by first | rfl | exact .inl rfl | exact .inr rfl | exact .inr (.inl rfl) | decide | decide +kernel | (intro _; rfl))) (@pa_nil _) (by first | rfl | exact .inl rfl | exact .inr rfl | exact .inr (.inl rfl) | decide | decide +kernel | (intro _; rfl))) (by first | rfl | exact .inl rfl | exact .inr rfl | exact .inr (.inl rfl) | decide | decide +kernel | (intro _; rfl)) (by first | rfl | exact .inl rfl | exact .inr rfl | exact .inr (.inl rfl) | decide | decide +kernel | (intro _; rfl)) (by first | rfl | exact .inl rfl | exact .inr rfl | exact .inr (.inl rfl) | decide | decide +kernel | (intro _; rfl)) (by first | rfl | exact .inl rfl | exact .inr rfl | exact .inr (.inl rfl) | decide | decide +kernel | (intro _; rfl)) (by first | rfl | exact .inl rfl | exact .inr rfl | exact .inr (.inl rfl) | decide | decide +kernel | (intro _; rfl))) (by first | rfl | exact .inl rfl | exact .inr rfl | exact .inr (.inl rfl) | decide | decide +kernel | (intro _; rfl)))))) (by first | rfl | exact .inl rfl | exact .inr rfl | exact .inr (.inl rfl) | decide | decide +kernel | (intro _; rfl))) (@pss_one _ _ _ (@ps_ret _ _ _ _ (pv 2)))))), ?_⟩
  refine ⟨(by show 1 ≤ sizeLine; decide), fun L1 g1 => ?_⟩
  have s1 : Same H (upd H L1 (.lst [.int 0])) := same_new g1 _
  have e1 : (upd H L1 (.lst [.int 0])) L1 = some (.lst [.int 0]) := upd_same
  generalize upd H L1 (.lst [.int 0]) = H1 at s1 e1 ⊢
  obtain ⟨ms, ecut, hms⟩ := cut_few ns 39
  refine ⟨_, rfl, _, rfl, q, _, rfl, s1.seq hq, fun M2 g2 => ?_⟩
  have ecut' : cutV (ns.map V.int) none (some 39) = ms.map V.int := ecut
  rw [ecut']
  have s2 : Same H1 (upd H1 M2 (.lst (ms.map V.int))) := same_new g2 _
  have e2 : (upd H1 M2 (.lst (ms.map V.int))) M2 = some (.lst (ms.map V.int)) := upd_same
  generalize upd H1 M2 (.lst (ms.map V.int)) = H2 at s2 e2 ⊢
  refine ⟨M2, _, rfl, .inl (SqL.of e2), fun L3 g3 => ?_⟩
  have s3 : Same H2 (upd H2 L3 (.lst (ms.map V.int))) := same_new g3 _
  have e3 : (upd H2 L3 (.lst (ms.map V.int))) L3 = some (.lst (ms.map V.int)) := upd_same
  generalize upd H2 L3 (.lst (ms.map V.int)) = H3 at s3 e3 ⊢
  refine ⟨L1, L3, _, _, rfl, rfl, s3 _ _ (s2 _ _ e1), e3, small (by rw [List.length_map]; show 1 + ms.length ≤ 1000; omega), fun S g4 => ?_⟩
  have e4 : (upd H3 S (.lst ([.int 0] ++ ms.map V.int))) S = some (.lst ((0 :: ms).map V.int)) := upd_same
  have s04 : Same H (upd H3 S (.lst ([.int 0] ++ ms.map V.int))) := s1.trans (s2.trans (s3.trans (same_new g4 _)))
  generalize upd H3 S (.lst ([.int 0] ++ ms.map V.int)) = H4 at e4 s04 ⊢
  clear s1 e1 s2 e2 s3 e3 g1 g2 g3 ecut ecut'
  have hN : ((0 :: ms).map V.int).length = ms.length + 1 := by simp
  refine ⟨_, rfl, S, _, rfl, .inl (SqL.of e4), _, rfl, by omega, by rw [hN]; omega, fun A1 gA => ?_⟩
  rw [show (((((0 :: ms).map V.int).length : Nat) : Int)).toNat = ms.length + 1 by rw [hN]; omega]
  refine lc_range (tl := [some (.ref S)]) (fun i ys H' => ∃ rs : List Rw, L2.IsL H' (rs.map rowD) ys ∧ rs.length = i ∧ (∀ r ∈ rs, RowOk (ms.length + 1) 4 r) ∧ Same H4 H') (small (by omega)) ⟨[], rfl, rfl, fun r hr => by simp at hr, same_new gA _⟩ ?_ ?_
  · rintro i ys H' hi ⟨rs, hrs, hl, hok, sm⟩ hA' hy R hR
    have hci : ((0 :: ms).map D.int)[i]? = some (.int ((0 :: ms)[i]'(by simpa using hi))) := by rw [List.getElem?_map, List.getElem?_eq_getElem (by simpa using hi)]; rfl
    refine ⟨_, rfl, _, rfl, ?_⟩
    refine ixl_is (sm _ _ e4) (isL_ints (0 :: ms)) hci fun x hx => ?_
    cases (show x = .int _ from hx)
    refine ⟨_, rfl, _, _, rfl, by omega, by omega, fun p H5 np s5 P5 => ?_⟩
    refine ⟨_, rfl, S, _, rfl, .inl (SqL.of (s5 _ _ (sm _ _ e4))), p, ms.length + 1, 4, by rw [hN]; rfl, by omega, by omega, by omega, P5, fun v r H6 hr hv P6 K6 => ?_⟩
    have s6 : Same H' H6 := K6.same s5 np
    have e6 := s6 _ _ hA'
    have t6 : Tk H6 (upd H6 A1 (.lst (ys ++ [v]))) := Tk.updL e6
    refine hR v H6 e6 ⟨rs ++ [r], ?_, by simp [hl], ?_, ?_⟩
    · rw [List.map_append]
      exact ((hrs.mono s6.tk).mono t6).append (IsL.one (hv.mono t6))
    · intro x hx
      rcases List.mem_append.mp hx with hx | hx
      · exact hok x hx
      · rw [List.mem_singleton.mp hx]; exact hr
    · intro b o e
      rw [upd_ne (ne_of_none e gA)]
      exact s6 b o (sm b o e)
  rintro ys H5 ⟨rs, hrs, hl, hok, sm⟩ hA'
  refine ⟨(by show 1 ≤ sizeLine; decide), fun F gF => ?_⟩
  have s6 : Same H5 (upd H5 F (.lst [.ref A1])) := same_new gF _
  have e6 : (upd H5 F (.lst [.ref A1])) F = some (.lst [.ref A1]) := upd_same
  have r6 : Rls (upd H5 F (.lst [.ref A1])) F [.ref A1] := fun u hu => by
    cases List.mem_singleton.mp hu
    refine ⟨A1, ys, 4, rs, rfl, ne_of_none hA' gF, s6 _ _ hA', hrs.mono s6.tk, ⟨by omega, by omega, by omega, by omega, by rw [hl]; exact hok, by omega⟩⟩
  have eS : (upd H5 F (.lst [.ref A1])) S = some (.lst ((0 :: ms).map V.int)) := s6 _ _ (sm _ _ e4)
  have hFH : H F = none := (s04.trans sm).free gF
  have s06 : Same H (upd H5 F (.lst [.ref A1])) := s04.trans (sm.trans s6)
  generalize upd H5 F (.lst [.ref A1]) = H6 at s6 e6 r6 eS s06 ⊢
  obtain ⟨cs, ecut, hcs⟩ := cut_few (0 :: ms) 12
  have ecut' : cutV ((0 :: ms).map V.int) none (some 12) = cs.map V.int := ecut
  refine ⟨_, rfl, _, rfl, S, _, rfl, SqL.of eS, fun B gB => ?_⟩
  rw [ecut']
  have s7 : Same H6 (upd H6 B (.lst (cs.map V.int))) := same_new gB _
  have e7 : (upd H6 B (.lst (cs.map V.int))) B = some (.lst (cs.map V.int)) := upd_same
  have hBF : B ≠ F := fun z => by rw [z, e6] at gB; cases gB
  generalize upd H6 B (.lst (cs.map V.int)) = H7 at s7 e7 ⊢
  have f7 := s7 _ _ e6
  have r7 := r6.same s7
  refine ⟨B, rfl, ⟨_, SqL.of e7⟩, ?_⟩
  refine for_list (K := K) (a := B) (xs := cs.map V.int) (fun i σ H' => ∃ (us : List V) (x1 x2 x3 : Option V), σ = [some (.ref q), some (.ref S), some (.ref F), x1, x2, x3] ∧ H' F = some (.lst us) ∧ us.length = i + 1 ∧ Rls H' F us ∧ H' B = some (.lst (cs.map V.int)) ∧ Same H H')
    ⟨[.ref A1], none, none, none, rfl, f7, rfl, r7, e7, s06.trans s7⟩ (fun i σ H' _ ⟨_, _, _, _, _, _, _, _, e, _⟩ => SqL.of e) ?_ ?_
  · rintro i x σ H' hx ⟨us, x1, x2, x3, rfl, hF, hul, hr, hB, sH⟩
    have hil : i < cs.length := by
      obtain ⟨h, _⟩ := List.getElem?_eq_some_iff.mp hx
      simpa using h
    obtain ⟨c, rfl⟩ : ∃ c : Int, x = .int c := by
      have hm := List.mem_of_getElem? hx
      obtain ⟨n, _, e⟩ := List.mem_map.mp hm
      exact ⟨n, e.symm⟩
    refine ⟨_, rfl, c, 77, rfl, by decide, by decide, fun p H1 np s1 P1 => ?_⟩
    refine ⟨_, rfl, p, 6, rfl, P1, by decide, by decide, fun d H2 a2 b2 P2 K2 => ⟨_, _, rfl, rfl, ?_⟩⟩
    have s2 : Same H' H2 := K2.same s1 np
    refine ⟨_, rfl, .inl ⟨rfl, _, SqL.of (s2 _ _ hF)⟩, _, rfl, _, rfl, by omega, by omega, fun D1 gD => ?_⟩
    have hpD : p ≠ D1 := P2.free gD
    obtain ⟨N, hNd⟩ : ∃ N : Nat, 1 + d = (N : Int) := ⟨(1 + d).toNat, by omega⟩
    rw [show (1 + d).toNat = N by omega]
    refine lc_range (n := N) (tl := [some (.ref p), some (.int (1 + d))]) (fun j ys H3 => ∃ rs : List Rw, L2.IsL H3 (rs.map rowD) ys ∧ rs.length = j ∧ (∀ r ∈ rs, RowOk N 40 r) ∧ PotAt H3 p ∧ Kept p H2 H3) (small (by omega)) ⟨[], rfl, rfl, fun r hr => by simp at hr, P2.same (same_new gD _), (same_new gD _).kept⟩ ?_ ?_
    · rintro j ys H3 hj ⟨rs, hrs, hl, hok, P3, K3⟩ hD' hy R hR
      refine ⟨_, rfl, _, rfl, p, N, 40, by rw [hNd]; rfl, by omega, by omega, by omega, P3, fun v r H4 hr' hv P4 K4 => ?_⟩
      have e4 := K4 _ _ hD' (Ne.symm hpD)
      have t4 := P3.tk P4 K4
      have t5 : Tk H4 (upd H4 D1 (.lst (ys ++ [v]))) := Tk.updL e4
      refine hR v H4 e4 ⟨rs ++ [r], ?_, by simp [hl], ?_, ?_, ?_⟩
      · rw [List.map_append]
        exact ((hrs.mono t4).mono t5).append (IsL.one (hv.mono t5))
      · intro x hx
        rcases List.mem_append.mp hx with hx | hx
        · exact hok x hx
        · rw [List.mem_singleton.mp hx]; exact hr'
      · obtain ⟨y1, e1, r1⟩ := P4
        exact ⟨y1, by rw [upd_ne hpD]; exact e1, r1⟩
      · intro b o e hb
        rw [upd_ne (ne_of_none e gD)]
        exact K4 b o (K3 b o e hb) hb
    · rintro ys H3 ⟨rs, hrs, hl, hok, P3, K3⟩ hD'
      have s3 : Same H' H3 := (K2.trans K3).same s1 np
      have f3 := s3 _ _ hF
      have hDF : D1 ≠ F := Ne.symm (ne_of_none (s2 _ _ hF) gD)
      refine ⟨F, us, _, rfl, rfl, f3, small1000 (by omega), ?_⟩
      refine ⟨us ++ [.ref D1], _, _, _, rfl, upd_same, by simp [hul], fun u hu => ?_, by rw [upd_ne hBF]; exact s3 _ _ hB, fun b o e => by rw [upd_ne (ne_of_none e hFH)]; exact s3 b o (sH b o e)⟩
      rcases List.mem_append.mp hu with hu | hu
      · exact (hr.same s3).put f3 u hu
      · cases List.mem_singleton.mp hu
        exact ⟨D1, ys, 40, rs, rfl, hDF, by rw [upd_ne hDF]; exact hD', hrs.mono (Tk.updL f3), ⟨by omega, by omega, by omega, by omega, by rw [hl]; exact hok, by omega⟩⟩
  · rintro σ H' ⟨us, x1, x2, x3, rfl, hF, hul, hr, hB, sH⟩
    have hcl : (cs.map V.int).length = cs.length := by simp
    exact ⟨_, rfl, k F us H' sH hFH hF (by omega) hr⟩
end
end K06

set_option Elab.async false
set_option linter.all false
set_option maxRecDepth 100000
set_option maxHeartbeats 4000000
namespace K06
open PySem L2 PyProof.Rows
theorem IsL.set {H : Hp} : ∀ {ds : List D} {vs : List V} (i : Nat) {d : D} {v : V}, L2.IsL H ds vs → Is H d v → L2.IsL H (ds.set i d) (vs.set i v)
  | [], _, i, _, _, h, _ => by cases (show _ = [] from h); exact rfl
  | _ :: _, _, 0, _, _, h, hv => by
    obtain ⟨x, r, rfl, _, h2⟩ := h
    exact ⟨_, _, rfl, hv, h2⟩
  | _ :: _, _, i + 1, _, _, h, hv => by
    obtain ⟨x, r, rfl, h1, h2⟩ := h
    exact ⟨_, _, rfl, h1, IsL.set i h2 hv⟩
/-- the lines behind some turns: N rows at first, the first bad line is f, if any -/
structure Sp0 (N m t : Nat) (ds : List D) (f : Nat) : Prop where
  n0 : N ≤ ds.length
  n1 : ds.length ≤ 40
  n2 : t = 0 → ds.length = N
  f0 : t = 0 → f = N
  f1 : 0 < t → f < ds.length
  bad : 0 < t → ∀ h : f < ds.length, rowOfD ds.length ds[f] = none
  ok : ∀ j, j < f → ∃ r, ds[j]? = some (.str (lineOf r)) ∧ RowOk N m r
theorem Sp0.fb {N m t : Nat} {ds : List D} {f : Nat} (h : Sp0 N m t ds f) (ht : 0 < t) (m0 : 4 ≤ m) (m1 : m ≤ 40) : FB (.tup ds) ((f : Int) + 1) := by
  have hf := h.f1 ht
  have n0 := h.n0
  have n1 := h.n1
  refine .line n1 hf (h.bad ht hf) fun j hj => ?_
  obtain ⟨r, e, hr⟩ := h.ok j hj
  have hjl : j < ds.length := Nat.lt_trans hj hf
  rw [List.getElem?_eq_getElem hjl] at e
  rw [Option.some.inj e]
  have hl := line_len (n := N) (by omega) m0 m1 hr
  have ht : okText (lineOf r) = true := by
    unfold okText
    rw [line_all (n := N) (by omega) hr, decide_eq_true (by omega)]
    rfl
  show (rowOf ds.length (lineOf r)).isNone = false
  rw [rowOf_line (by omega) (row_more n0 hr) ht]
  rfl
theorem Sp0.set {N m t : Nat} {ds : List D} {f at_ : Nat} {d : D} (h : Sp0 N m t ds f) (ha : at_ < ds.length) (hd : rowOfD ds.length d = none) : Sp0 N m (t + 1) (ds.set at_ d) (if at_ < f then at_ else f) := by
  have n0 := h.n0
  have n1 := h.n1
  have hf : ¬ at_ < f → 0 < t := fun c => by
    rcases Nat.eq_zero_or_pos t with z | z
    · have := h.n2 z
      have := h.f0 z
      omega
    · exact z
  refine ⟨by rw [List.length_set]; exact n0, by rw [List.length_set]; exact n1, fun z => by omega, fun z => by omega, fun _ => ?_, fun _ hlt => ?_, fun j hj => ?_⟩
  · rw [List.length_set]
    split
    · exact ha
    · rename_i c
      exact h.f1 (hf c)
  · rw [List.length_set] at hlt ⊢
    by_cases c : at_ < f
    · simp only [if_pos c]
      rw [List.getElem_set_self]
      exact hd
    · simp only [if_neg c]
      by_cases z : at_ = f
      · subst z
        rw [List.getElem_set_self]
        exact hd
      · rw [List.getElem_set_ne z]
        exact h.bad (hf c) (h.f1 (hf c))
  · have hjf : j < f ∧ j ≠ at_ := by
      split at hj <;> omega
    obtain ⟨r, e, hr⟩ := h.ok j hjf.1
    exact ⟨r, by rw [List.getElem?_set_ne (Ne.symm hjf.2)]; exact e, hr⟩
theorem Sp0.ins {N m : Nat} {ds : List D} {f at_ : Nat} {d : D} (h : Sp0 N m 0 ds f) (ha : at_ < ds.length) (h40 : ds.length < 40) (hd : rowOfD (ds.length + 1) d = none) : Sp0 N m 1 (ds.take at_ ++ d :: ds.drop at_) (if at_ < f then at_ else f) := by
  have e1 := h.n2 rfl
  have e2 := h.f0 rfl
  have hl : (ds.take at_ ++ d :: ds.drop at_).length = ds.length + 1 := by simp; omega
  have c : at_ < f := by omega
  rw [if_pos c]
  refine ⟨by omega, by omega, fun z => by omega, fun z => by omega, fun _ => by omega, fun _ hlt => ?_, fun j hj => ?_⟩
  · rw [hl, List.getElem_append_right (by simp; omega)]
    have : at_ - (ds.take at_).length = 0 := by simp; omega
    simp only [this, List.getElem_cons_zero]
    exact hd
  · obtain ⟨r, e, hr⟩ := h.ok j (by omega)
    refine ⟨r, ?_, hr⟩
    rw [List.getElem?_append_left (by simp; omega), List.getElem?_take_of_lt hj]
    exact e
def dstr : D → Str
  | .str z => z
  | .int i => toString i
  | _ => ""
def lnD : D → D
  | .tup [.str w, .tup ps] => .str (Str.join " " (w :: ps.map dstr))
  | d => d
theorem lnD_row (r : Rw) : lnD (rowD r) = .str (lineOf r) := by
  show D.str (Str.join " " (r.1 :: (r.2.map Pt.d).map dstr)) = _
  rw [List.map_map]
  have : r.2.map (dstr ∘ Pt.d) = r.2.map Pt.t := by
    apply List.map_congr_left
    intro q _
    cases q <;> rfl
  rw [this]
  rfl
theorem lnD_rows (rs : List Rw) : (rs.map rowD).map lnD = rs.map fun r => .str (lineOf r) := by
  rw [List.map_map]
  apply List.map_congr_left
  intro r _
  exact lnD_row r
def sp_spoilt : Sp := fun vs H Q _ => ∃ (q p : Addr) (us : List V) (m : Nat) (rs : List Rw), vs = [.ref q, .ref p] ∧ H q = some (.lst us) ∧ L2.IsL H (rs.map rowD) us ∧ RuleOk m rs ∧ PotAt H p ∧ q ≠ p ∧
  ∀ (t : Addr) (v : V) (ds : List D) (f : Nat) (H' : Hp), H' t = some (.tup [v, .int ((f : Int) + 1)]) → Is H' (.tup ds) v → FB (.tup ds) ((f : Int) + 1) → 1 ≤ ds.length → ds.length ≤ 40 → PotAt H' p → Kept p H H' → Q (.ref t) H'
section
variable {P : Program} {w : World} {K : PySem.W.Frag} {mg : Str → Option Value} {base : Heap} {a : Ad} {g : Ga}
theorem ok_spoilt (T : Tx K mg a) : FnOk P w K mg base CX0 2 a.f_law_spoilt a.d_law_spoilt ["rows", "pot"] sp_spoilt := by
  have G_law_take : FnOk P w K mg base CX0 1 a.f_law_take a.d_law_take ["pot", "many"] sp_take := ok_take T
  have G_law_line_of : FnOk P w K mg base CX0 1 a.f_law_line_of a.d_law_line_of ["row"] sp_lo := ok_lo T
  have G_law_bad_lines : FnOk P w K mg base CX0 1 a.f_law_bad_lines a.d_law_bad_lines ["many"] sp_nb := ok_nb T
  refine T.F_law_spoilt.ok sc_law_spoilt (fun vs H Q E h => ?_) (fun cdv A outer s H vs Q E hr h => ?_)
  · obtain ⟨q, p, us, m, rs, rfl, _⟩ := h
    rfl
  obtain ⟨q, p, us, m, rs, rfl, hq, hus, hR, P0, hqp, k⟩ := h
  refine ⟨_, (@pss_cons _ _ _ _ _ (@ps_setLC _ _ (["row"]) (1) ([]) (2) _ _ _ _ _ _ _ _ _ _ _ _ sc_law_spoilt.nd rfl (Or.inl rfl) (lcs0) rfl (@pi_list _ _ _ _ (pv 0)) (fun _ _ _ _ _ _ => (@pg_name _ _ (0) _ (show List.Nodup (["row"] : List Str) by decide +kernel) rfl (Or.inl rfl) (by first | rfl | exact .inl rfl | exact .inr rfl | exact .inr (.inl rfl) | decide | decide +kernel | (intro _; rfl)))) (fun _ _ _ _ _ _ => @pif_nil _) (fun _ _ _ _ _ _ => (@pe_call _ _ _ _ _ _ _ _ _ _ _ _ _ _ _ _ G_law_line_of (hr.mono (by first | decide | omega)) (by rfl) T.m_law_line_of T.F_law_line_of.kp T.b_law_line_of .nil pass0 (@pa_cons _ _ _ _ _ (pv 0) (@pa_nil _) (by first | rfl | exact .inl rfl | exact .inr rfl | exact .inr (.inl rfl) | decide | decide +kernel | (intro _; rfl))) (by first | rfl | exact .inl rfl | exact .inr rfl | exact .inr (.inl rfl) | decide | decide +kernel | (intro _; rfl)) (by first | rfl | exact .inl rfl | exact .inr rfl | exact .inr (.inl rfl) | decide | decide +kernel | (intro _; rfl)) (by first | rfl | exact .inl rfl | exact .inr rfl | exact .inr (.inl rfl) | decide | decide +kernel | (intro _; rfl)))) (by first | rfl | exact .inl rfl | exact .inr rfl | exact .inr (.inl rfl) | decide | decide +kernel | (intro _; rfl)) (by first | rfl | exact .inl rfl | exact .inr rfl | exact .inr (.inl rfl) | decide | decide +kernel | (intro _; rfl)) (by first | rfl | exact .inl rfl | exact .inr rfl | exact .inr (.inl rfl) | decide | decide +kernel | (intro _; rfl))) (@pss_cons _ _ _ _ _ (@ps_set _ _ (3) _ _ _ _ sc_law_spoilt.nd rfl (Or.inl rfl) (@pe_op _ _ _ _ _ _ _ _ (@op_add _) (@pe_callB _ _ _ _ _ _ _ _ _ (@call_len_seq _) (by rfl) T.z_len PySem.boot_len (@pa_cons _ _ _ _ _ (pv 2) (@pa_nil _) (by first | rfl | exact .inl rfl | exact .inr rfl | exact .inr (.inl rfl) | decide | decide +kernel | (intro _; rfl))) (by first | rfl | exact .inl rfl | exact .inr rfl | exact .inr (.inl rfl) | decide | decide +kernel | (intro _; rfl)) (by first | rfl | exact .inl rfl | exact .inr rfl | exact .inr (.inl rfl) | decide | decide +kernel | (intro _; rfl)) (by first | rfl | exact .inl rfl | exact .inr rfl | exact .inr (.inl rfl) | decide | decide +kernel | (intro _; rfl)) (by first | rfl | exact .inl rfl | exact .inr rfl | exact .inr (.inl rfl) | decide | decide +kernel | (intro _; rfl))) (@pe_int _ _ _ _)) (by first | rfl | exact .inl rfl | exact .inr rfl | exact .inr (.inl rfl) | decide | decide +kernel | (intro _; rfl)) (by first | rfl | exact .inl rfl | exact .inr rfl | exact .inr (.inl rfl) | decide | decide +kernel | (intro _; rfl))) (@pss_cons _ _ _ _ _ (@ps_for _ _ _ _ _ _ _ _ PassesOwn.never rfl (@pi_range1 _ _ _ _ _ _ (by rfl) T.z_range (@pa_cons _ _ _ _ _ (@pe_op _ _ _ _ _ _ _ _ (@op_add _) (@pe_int _ _ _ _) (@pe_call _ _ _ _ _ _ _ _ _ _ _ _ _ _ _ _ G_law_take (hr.mono (by first | decide | omega)) (by rfl) T.m_law_take T.F_law_take.kp T.b_law_take .nil pass0 (@pa_cons _ _ _ _ _ (pv 1) (@pa_cons _ _ _ _ _ (@pe_int _ _ _ _) (@pa_nil _) (by first | rfl | exact .inl rfl | exact .inr rfl | exact .inr (.inl rfl) | decide | decide +kernel | (intro _; rfl))) (by first | rfl | exact .inl rfl | exact .inr rfl | exact .inr (.inl rfl) | decide | decide +kernel | (intro _; rfl))) (by first | rfl | exact .inl rfl | exact .inr rfl | exact .inr (.inl rfl) | decide | decide +kernel | (intro _; rfl)) (by first | rfl | exact .inl rfl | exact .inr rfl | exact .inr (.inl rfl) | decide | decide +kernel | (intro _; rfl)) (by first | rfl | exact .inl rfl | exact .inr rfl | exact .inr (.inl rfl) | decide | decide +kernel | (intro _; rfl)))) (@pa_nil _) (by first | rfl | exact .inl rfl | exact .inr rfl | exact .inr (.inl rfl) | decide | decide +kernel | (intro _; rfl))) (by first | rfl | exact .inl rfl | exact .inr rfl | exact .inr (.inl rfl) | decide | decide +kernel | (intro _; rfl))) (@pg_name _ _ (4) _ sc_law_spoilt.nd rfl (Or.inl rfl) (by first | rfl | exact .inl rfl | exact .inr rfl | exact .inr (.inl rfl) | decide | decide +kernel | (intro _; rfl))) (@pss_cons _ _ _ _ _ (@ps_set _ _ (5) _ _ _ _ sc_law_spoilt.nd rfl (Or.inl rfl) (@pe_call _ _ _ _ _ _ _ _ _ _ _ _ _ _ _ _ G_law_bad_lines (hr.mono (by first | decide | omega)) (by rfl) T.m_law_bad_lines T.F_law_bad_lines.kp T.b_law_bad_lines .nil pass0 (@pa_cons _ _ _ _ _ (@pe_op _ _ _ _ _ _ _ _ (@op_add _) (@pe_callB _ _ _ _ _ _ _ _ _ (@call_len_seq _) (by rfl) T.z_len PySem.boot_len (@pa_cons _ _ _ _ _ (pv 2) (@pa_nil _) (by first | rfl | exact .inl rfl | exact .inr rfl | exact .inr (.inl rfl) | decide | decide +kernel | (intro _; rfl))) (by first | rfl | exact .inl rfl | exact .inr rfl | exact .inr (.inl rfl) | decide | decide +kernel | (intro _; rfl)) (by first | rfl | exact .inl rfl | exact .inr rfl | exact .inr (.inl rfl) | decide | decide +kernel | (intro _; rfl)) (by first | rfl | exact .inl rfl | exact .inr rfl | exact .inr (.inl rfl) | decide | decide +kernel | (intro _; rfl)) (by first | rfl | exact .inl rfl | exact .inr rfl | exact .inr (.inl rfl) | decide | decide +kernel | (intro _; rfl))) (@pe_int _ _ _ _)) (@pa_nil _) (by first | rfl | exact .inl rfl | exact .inr rfl | exact .inr (.inl rfl) | decide | decide +kernel | (intro _; rfl))) (by first | rfl | exact .inl rfl | exact .inr rfl | exact .inr (.inl rfl) | decide | decide +kernel | (intro _; rfl)) (by first | rfl | exact .inl rfl | exact .inr rfl | exact .inr (.inl rfl) | decide | decide +kernel | (intro _; rfl)) (by first | rfl | exact .inl rfl | exact .inr rfl | exact .inr (.inl rfl) | decide | decide +kernel | (intro _; rfl))) (by first | rfl | exact .inl rfl | exact .inr rfl | exact .inr (.inl rfl) | decide | decide +kernel | (intro _; rfl)) (by first | rfl | exact .inl rfl | exact .inr rfl | exact .inr (.inl rfl) | decide | decide +kernel | (intro _; rfl))) (@pss_cons _ _ _ _ _ (@ps_set _ _ (6) _ _ _ _ sc_law_spoilt.nd rfl (Or.inl rfl) (@pe_ix _ _ _ _ _ _ _ (@ix_list _) (pv 5) (@pe_call _ _ _ _ _ _ _ _ _ _ _ _ _ _ _ _ G_law_take (hr.mono (by first | decide | omega)) (by rfl) T.m_law_take T.F_law_take.kp T.b_law_take .nil pass0 (@pa_cons _ _ _ _ _ (pv 1) (@pa_cons _ _ _ _ _ (@pe_callB _ _ _ _ _ _ _ _ _ (@call_len_seq _) (by rfl) T.z_len PySem.boot_len (@pa_cons _ _ _ _ _ (pv 5) (@pa_nil _) (by first | rfl | exact .inl rfl | exact .inr rfl | exact .inr (.inl rfl) | decide | decide +kernel | (intro _; rfl))) (by first | rfl | exact .inl rfl | exact .inr rfl | exact .inr (.inl rfl) | decide | decide +kernel | (intro _; rfl)) (by first | rfl | exact .inl rfl | exact .inr rfl | exact .inr (.inl rfl) | decide | decide +kernel | (intro _; rfl)) (by first | rfl | exact .inl rfl | exact .inr rfl | exact .inr (.inl rfl) | decide | decide +kernel | (intro _; rfl)) (by first | rfl | exact .inl rfl | exact .inr rfl | exact .inr (.inl rfl) | decide | decide +kernel | (intro _; rfl))) (@pa_nil _) (by first | rfl | exact .inl rfl | exact .inr rfl | exact .inr (.inl rfl) | decide | decide +kernel | (intro _; rfl))) (by first | rfl | exact .inl rfl | exact .inr rfl | exact .inr (.inl rfl) | decide | decide +kernel | (intro _; rfl))) (by first | rfl | exact .inl rfl | exact .inr rfl | exact .inr (.inl rfl) | decide | decide +kernel | (intro _; rfl)) (by first | rfl | exact .inl rfl | exact .inr rfl | exact .inr (.inl rfl) | decide | decide +kernel | (intro _; rfl)) (by first | rfl | exact .inl rfl | exact .inr rfl | exact .inr (.inl rfl) | decide | decide +kernel | (intro _; rfl))) (fun _ _ => rfl)) (by first | rfl | exact .inl rfl | exact .inr rfl | exact .inr (.inl rfl) | decide | decide +kernel | (intro _; rfl)) (by first | rfl | exact .inl rfl | exact .inr rfl | exact .inr (.inl rfl) | decide | decide +kernel | (intro _; rfl))) (@pss_cons _ _ _ _ _ (@ps_set _ _ (7) _ _ _ _ sc_law_spoilt.nd rfl (Or.inl rfl) (@pe_call _ _ _ _ _ _ _ _ _ _ _ _ _ _ _ _ G_law_take (hr.mono (by first | decide | omega)) (by rfl) T.m_law_take T.F_law_take.kp T.b_law_take .nil pass0 (@pa_cons _ _ _ _ _ (pv 1) (@pa_cons _ _ _ _ _ (@pe_callB _ _ _ _ _ _ _ _ _ (@call_len_seq _) (by rfl) T.z_len PySem.boot_len (@pa_cons _ _ _ _ _ (pv 2) (@pa_nil _) (by first | rfl | exact .inl rfl | exact .inr rfl | exact .inr (.inl rfl) | decide | decide +kernel | (intro _; rfl))) (by first | rfl | exact .inl rfl | exact .inr rfl | exact .inr (.inl rfl) | decide | decide +kernel | (intro _; rfl)) (by first | rfl | exact .inl rfl | exact .inr rfl | exact .inr (.inl rfl) | decide | decide +kernel | (intro _; rfl)) (by first | rfl | exact .inl rfl | exact .inr rfl | exact .inr (.inl rfl) | decide | decide +kernel | (intro _; rfl)) (by first | rfl | exact .inl rfl | exact .inr rfl | exact .inr (.inl rfl) | decide | decide +kernel | (intro _; rfl))) (@pa_nil _) (by first | rfl | exact .inl rfl | exact .inr rfl | exact .inr (.inl rfl) | decide | decide +kernel | (intro _; rfl))) (by first | rfl | exact .inl rfl | exact .inr rfl | exact .inr (.inl rfl) | decide | decide +kernel | (intro _; rfl))) (by first | rfl | exact .inl rfl | exact .inr rfl | exact .inr (.inl rfl) | decide | decide +kernel | (intro _; rfl)) (by first | rfl | exact .inl rfl | exact .inr rfl | exact .inr (.inl rfl) | decide | decide +kernel | (intro _; rfl)) (by first | rfl | exact .inl rfl | exact .inr rfl | exact .inr (.inl rfl) | decide | decide +kernel | (intro _; rfl))) (by first | rfl | exact .inl rfl | exact .inr rfl | exact .inr (.inl rfl) | decide | decide +kernel | (intro _; rfl)) (by first | rfl | exact .inl rfl | exact .inr rfl | exact .inr (.inl rfl) | decide | decide +kernel | (intro _; rfl))) (@pss_cons _ _ _ _ _ (@ps_if _ _ _ _ _ _ _ _ (@pw_and _ _ _ _ _ _ _ (@pt_cmpR _ _ _ _ _ _ _ _ (@op_eq _) (@pe_call _ _ _ _ _ _ _ _ _ _ _ _ _ _ _ _ G_law_take (hr.mono (by first | decide | omega)) (by rfl) T.m_law_take T.F_law_take.kp T.b_law_take .nil pass0 (@pa_cons _ _ _ _ _ (pv 1) (@pa_cons _ _ _ _ _ (@pe_int _ _ _ _) (@pa_nil _) (by first | rfl | exact .inl rfl | exact .inr rfl | exact .inr (.inl rfl) | decide | decide +kernel | (intro _; rfl))) (by first | rfl | exact .inl rfl | exact .inr rfl | exact .inr (.inl rfl) | decide | decide +kernel | (intro _; rfl))) (by first | rfl | exact .inl rfl | exact .inr rfl | exact .inr (.inl rfl) | decide | decide +kernel | (intro _; rfl)) (by first | rfl | exact .inl rfl | exact .inr rfl | exact .inr (.inl rfl) | decide | decide +kernel | (intro _; rfl)) (by first | rfl | exact .inl rfl | exact .inr rfl | exact .inr (.inl rfl) | decide | decide +kernel | (intro _; rfl))) (@pe_int _ _ _ _) (nomark _)) (@pw_and _ _ _ _ _ _ _ (@pt_cmpR _ _ _ _ _ _ _ _ (@op_eq _) (pv 4) (@pe_int _ _ _ _) (nomark _)) (@pw_and1 _ _ _ _ (@pt_cmpR _ _ _ _ _ _ _ _ (@op_lt _) (@pe_callB _ _ _ _ _ _ _ _ _ (@call_len_seq _) (by rfl) T.z_len PySem.boot_len (@pa_cons _ _ _ _ _ (pv 2) (@pa_nil _) (by first | rfl | exact .inl rfl | exact .inr rfl | exact .inr (.inl rfl) | decide | decide +kernel | (intro _; rfl))) (by first | rfl | exact .inl rfl | exact .inr rfl | exact .inr (.inl rfl) | decide | decide +kernel | (intro _; rfl)) (by first | rfl | exact .inl rfl | exact .inr rfl | exact .inr (.inl rfl) | decide | decide +kernel | (intro _; rfl)) (by first | rfl | exact .inl rfl | exact .inr rfl | exact .inr (.inl rfl) | decide | decide +kernel | (intro _; rfl)) (by first | rfl | exact .inl rfl | exact .inr rfl | exact .inr (.inl rfl) | decide | decide +kernel | (intro _; rfl))) (@pe_int _ _ _ _) (nomark _))))).pt (@pss_one _ _ _ (@ps_expr _ _ _ _ (@pe_bm _ _ _ _ _ _ _ _ _ _ _ _ PySem.F.plainAttrs_list PySem.F.slot_list_insert PySem.F.type_list_insert (@mt_insert _) (pv 2) (@pa_cons _ _ _ _ _ (pv 7) (@pa_cons _ _ _ _ _ (pv 6) (@pa_nil _) (by first | rfl | exact .inl rfl | exact .inr rfl | exact .inr (.inl rfl) | decide | decide +kernel | (intro _; rfl))) (by first | rfl | exact .inl rfl | exact .inr rfl | exact .inr (.inl rfl) | decide | decide +kernel | (intro _; rfl))) (by first | rfl | exact .inl rfl | exact .inr rfl | exact .inr (.inl rfl) | decide | decide +kernel | (intro _; rfl)) (by first | rfl | exact .inl rfl | exact .inr rfl | exact .inr (.inl rfl) | decide | decide +kernel | (intro _; rfl)) (by first | rfl | exact .inl rfl | exact .inr rfl | exact .inr (.inl rfl) | decide | decide +kernel | (intro _; rfl)) (by first | rfl | exact .inl rfl | exact .inr rfl | exact .inr (.inl rfl) | decide | decide +kernel | (intro _; rfl)) (by first | rfl | exact .inl rfl | exact .inr rfl | exact .inr (.inl rfl) | decide | decide +kernel | (intro _; rfl))) (by first | rfl | exact .inl rfl | exact .inr rfl | exact .inr (.inl rfl) | decide | decide +kernel | (intro _; rfl)))) (@pss_one _ _ _ (@ps_asg _ _ _ _ _ _ (pv 6) (@pg_sub _ _ _ _ _ _ _ (pv 2) (pv 7) (@set_list _) (by first | rfl | exact .inl rfl | exact .inr rfl | exact .inr (.inl rfl) | decide | decide +kernel | (intro _; rfl))) (by first | rfl | exact .inl rfl | exact .inr rfl | exact .inr (.inl rfl) | decide | decide +kernel | (intro _; rfl)) (by first | rfl | exact .inl rfl | exact .inr rfl | exact .inr (.inl rfl) | decide | decide +kernel | (intro _; rfl)) (by first | rfl | exact .inl rfl | exact .inr rfl | exact .inr (.inl rfl) | decide | decide +kernel | (intro _; rfl))))) (@pss_one _ _ _ (@ps_set _ _ (3) _ _ _ _ sc_law_spoilt.nd rfl (Or.inl rfl) (@pe_callB _ _ _ _ _ _ _ _ _ (@call_min2 _ rfl) (by rfl) T.z_min boot_min (@pa_cons _ _ _ _ _ (pv 3) (@pa_cons _ _ _ _ _ (@pe_op _ _ _ _ _ _ _ _ (@op_add _) (pv 7) (@pe_int _ _ _ _)) (@pa_nil _) (by first | rfl | exact .inl rfl | exact .inr rfl | exact .inr (.inl rfl) | decide | decide +kernel | (intro _; rfl))) (by first | rfl | exact .inl rfl | exact .inr rfl | exact .inr (.inl rfl) | decide | decide +kernel | (intro _; rfl))) (by first | rfl | exact .inl rfl | exact .inr rfl | exact .inr (.inl rfl) | decide | decide +kernel | (intro _; rfl)) (by first | rfl | exact .inl rfl | exact .inr rfl | exact .inr (.inl rfl) | decide | decide +kernel | (intro _; rfl)) (by first | rfl | exact .inl rfl | exact .inr rfl | exact .inr (.inl rfl) | decide | decide +kernel | (intro _; rfl)) (by first | rfl | exact .inl rfl | exact .inr rfl | exact .inr (.inl rfl) | decide | decide +kernel | (intro _; rfl))) (by first | rfl | exact .inl rfl | exact .inr rfl | exact .inr (.inl rfl) | decide | decide +kernel | (intro _; rfl)) (by first | rfl | exact .inl rfl | exact .inr rfl | exact .inr (.inl rfl) | decide | decide +kernel | (intro _; rfl)))))))) (by first | rfl | exact .inl rfl | exact .inr rfl | exact .inr (.inl rfl) | decide | decide +kernel | (intro _; rfl))) (@pss_one _ _ _ (@ps_ret _ _ _ _ (@pe_tup _ _ _ _ _ (@pa_cons _ _ _ _ _ (@pe_callTy _ _ _ _ _ _ _ _ _ (@call_tuple_of _) (by rfl) T.z_tuple boot_tuple (@pa_cons _ _ _ _ _ (pv 2) (@pa_nil _) (by first | rfl | exact .inl rfl | exact .inr rfl | exact .inr (.inl rfl) | decide | decide +kernel | (intro _; rfl))) (by first | rfl | exact .inl rfl | exact .inr rfl | exact .inr (.inl rfl) | decide | decide +kernel | (intro _; rfl)) (by first | rfl | exact .inl rfl | exact .inr rfl | exact .inr (.inl rfl) | decide | decide +kernel | (intro _; rfl)) (by first | rfl | exact .inl rfl | exact .inr rfl | exact .inr (.inl rfl) | decide | decide +kernel | (intro _; rfl)) (by first | rfl | exact .inl rfl | exact .inr rfl | exact .inr (.inl rfl) | decide | decide +kernel | (intro _; rfl))) (@pa_cons _ _ _ _ _ (pv 3) (@pa_nil _) (by first | rfl | exact .inl rfl | exact .inr rfl | exact .inr (.inl rfl) | decide | decide +kernel | (intro _; rfl))) (by first | rfl | exact .inl rfl | exact .inr rfl | exact .inr (.inl rfl) | decide | decide +kernel | (intro _; rfl))))))))), ?_⟩
  have n0 := hR.n0
  have n1 := hR.n1
  have m0 := hR.m0
  have m1 := hR.m1
  refine ⟨_, rfl, q, rfl, ⟨us, SqL.of hq⟩, fun L gL => ?_⟩
  refine lc_lstS (K := K) (tl := []) lnD hq hus (by rw [List.length_map]; exact small (by omega)) gL ?_ ?_
  · intro d x H1 R hd sm hx hR'
    obtain ⟨r, hr', rfl⟩ := List.mem_map.mp hd
    refine ⟨_, rfl, x, rs.length, m, r, rfl, n1, by omega, hR.ok r hr', hx, fun H2 s2 => hR' _ _ s2 ?_⟩
    rw [lnD_row]
    exact ⟨rfl, small (by have := line_len n1 m0 m1 (hR.ok r hr'); omega)⟩
  intro H1 ys s1 e1 h1
  rw [lnD_rows] at h1
  have hyl : ys.length = rs.length := by rw [h1.length, List.length_map]
  have P1 := P0.same s1
  have hpL : p ≠ L := P0.free gL
  refine ⟨_, rfl, L, _, rfl, .inl (SqL.of e1), _, _, rfl, rfl, ?_⟩
  refine ⟨_, rfl, p, 3, rfl, P1, by decide, by decide, fun tn H2 a2 b2 P2 K2 => ⟨_, _, rfl, rfl, ?_⟩⟩
  have e2 := K2 _ _ e1 (Ne.symm hpL)
  have h2 := h1.mono (P1.tk P2 K2)
  have K02 : Kept p H H2 := s1.kept.trans K2
  refine ⟨_, rfl, by omega, by omega, ?_⟩
  have sp0 : Sp0 rs.length m 0 (rs.map fun r => .str (lineOf r)) rs.length := ⟨by rw [List.length_map]; exact Nat.le_refl _, by rw [List.length_map]; exact n1, fun _ => by rw [List.length_map], fun _ => rfl, fun z => absurd z (Nat.lt_irrefl _), fun z => absurd z (Nat.lt_irrefl _), fun j hj => ⟨rs[j], by rw [List.getElem?_map, List.getElem?_eq_getElem hj]; rfl, hR.ok _ (List.getElem_mem hj)⟩⟩
  refine for_range (n := (1 + tn).toNat) (fun t σ H' => ∃ (ds : List D) (vs : List V) (f : Nat) (x4 x5 x6 x7 : Option V), σ = [some (.ref q), some (.ref p), some (.ref L), some (.int ((f : Int) + 1)), x4, x5, x6, x7] ∧ H' L = some (.lst vs) ∧ L2.IsL H' ds vs ∧ Sp0 rs.length m t ds f ∧ PotAt H' p ∧ Kept p H H')
    ⟨_, ys, rs.length, none, none, none, none, by rw [hyl]; rfl, e2, h2, sp0, P2, K02⟩ ?_ ?_
  · rintro t σ H' ht ⟨ds, vs, f, x4, x5, x6, x7, rfl, eL, hds, hS, P', K'⟩
    have hvl := hds.length
    have dn0 := hS.n0
    have dn1 := hS.n1
    refine ⟨_, rfl, L, _, rfl, .inl (SqL.of eL), _, _, rfl, rfl, _, rfl, by omega, by omega, fun B bs H3 gB s3 eB hB => ?_⟩
    have hpB : p ≠ B := P'.free gB
    have P3 := P'.same s3
    have eL3 := s3 _ _ eL
    have hbl : bs.length = 56 := by rw [hB.length, List.length_append, List.length_map]; rfl
    refine ⟨_, rfl, _, rfl, _, rfl, B, _, rfl, .inl (SqL.of eB), p, _, rfl, P3, by omega, by omega, fun bi H4 a4 b4 P4 K4 => ?_⟩
    obtain ⟨b, rfl⟩ : ∃ b : Nat, bi = (b : Int) := ⟨bi.toNat, by omega⟩
    have eB4 := K4 _ _ eB (Ne.symm hpB)
    have eL4 := K4 _ _ eL3 (Ne.symm hpL)
    have t4 := P3.tk P4 K4
    have hB4 := hB.mono t4
    have hbm : b < ((nbAll ((vs.length : Nat) + 1 + 1 : Int)).map D.str ++ nb6 ((vs.length : Nat) + 1 + 1 : Int)).length := by rw [← hB.length]; omega
    obtain ⟨lv, hlv, hld⟩ := hB4.get (List.getElem?_eq_getElem hbm)
    have hbad : ∀ n : Nat, n ≤ 40 → (n : Int) < (vs.length : Nat) + 1 + 1 → rowOfD n ((nbAll ((vs.length : Nat) + 1 + 1 : Int)).map D.str ++ nb6 ((vs.length : Nat) + 1 + 1 : Int))[b] = none := fun n hn1 hn2 => nb_bad (many := (vs.length : Nat) + 1) (by omega) (by omega) hn1 hn2 _ (List.getElem_mem hbm)
    generalize ((nbAll ((vs.length : Nat) + 1 + 1 : Int)).map D.str ++ nb6 ((vs.length : Nat) + 1 + 1 : Int))[b] = ld at hld hbad
    refine ⟨B, _, _, lv, rfl, rfl, SqL.of eB4, atI_nat hlv, ?_⟩
    have hds4 := hds.mono (s3.tk.trans t4)
    refine ⟨_, rfl, _, rfl, L, _, rfl, .inl (SqL.of eL4), p, _, rfl, P4, by omega, by omega, fun ai H5 a5 b5 P5 K5 => ?_⟩
    obtain ⟨at_, rfl⟩ : ∃ i : Nat, ai = (i : Int) := ⟨ai.toNat, by omega⟩
    have hat : at_ < ds.length := by omega
    have eL5 := K5 _ _ eL4 (Ne.symm hpL)
    have t5 := P4.tk P5 K5
    have hds5 := hds4.mono t5
    have hld5 := hld.mono t5
    have K05 : Kept p H H5 := K'.trans (s3.kept.trans (K4.trans K5))
    have hix : ixN vs.length (at_ : Int) = some at_ := by
      unfold ixN
      rw [if_pos (by omega), if_pos (by omega)]
      rfl
    have kL : ∀ (Hx : Hp) (o : HO), Kept p H Hx → Kept p H (upd Hx L o) := fun Hx o Kx x y e hb => by rw [upd_ne (ne_of_none e gL)]; exact Kx x y e hb
    have pL : ∀ (Hx : Hp) (o : HO), PotAt Hx p → PotAt (upd Hx L o) p := fun Hx o ⟨x, e, h0⟩ => ⟨x, by rw [upd_ne hpL]; exact e, h0⟩
    have hmin : (if (at_ : Int) + 1 < (f : Int) + 1 then (at_ : Int) + 1 else (f : Int) + 1) = ((if at_ < f then at_ else f : Nat) : Int) + 1 := by
      by_cases c : at_ < f
      · rw [if_pos c, if_pos (by omega)]
      · rw [if_neg c, if_neg (by omega)]
    refine ⟨_, rfl, p, 2, rfl, P5, by decide, by decide, fun two H6 a6 b6 P6 K6 => ?_⟩
    have eL6 := K6 _ _ eL5 (Ne.symm hpL)
    have t6 := P5.tk P6 K6
    have hds6 := hds5.mono t6
    have hld6 := hld5.mono t6
    have K06 : Kept p H H6 := K05.trans K6
    refine ⟨rfl, _, rfl, ?_⟩
    refine ite2 (fun c1 => ?_) (fun c1 => ?_)
    · refine ⟨_, rfl, rfl, _, rfl, ?_⟩
      refine ite2 (fun c2 => ?_) (fun c2 => ?_)
      · refine ⟨_, rfl, L, _, rfl, .inl (SqL.of eL6), _, _, rfl, rfl, _, rfl, ?_⟩
        refine ite2 (fun c3 => ?_) (fun c3 => ?_)
        · have h40 : vs.length < 40 := by have := of_decide_eq_true c3; omega
          have ht0 : t = 0 := by
            have := V.int.inj (of_decide_eq_true c2)
            omega
          subst ht0
          refine ⟨_, rfl, .inl ⟨rfl, _, SqL.of eL6⟩, _, rfl, _, rfl, L, _, at_, _, rfl, rfl, eL6, by omega, by omega, ?_⟩
          refine ⟨_, rfl, _, rfl, _, _, rfl, rfl, _, _, rfl, ?_⟩
          rw [hmin]
          exact ⟨ds.take at_ ++ ld :: ds.drop at_, vs.take at_ ++ lv :: vs.drop at_, _, _, _, _, _, rfl, upd_same, ((hds6.take at_).append (show L2.IsL H6 (ld :: ds.drop at_) (lv :: vs.drop at_) from ⟨_, _, rfl, hld6, hds6.drop at_⟩)).mono (Tk.updL eL6), hS.ins hat (by omega) (hbad _ (by omega) (by omega)), pL _ _ P6, kL _ _ K06⟩
        · refine ⟨_, rfl, _, rfl, _, rfl, L, _, _, at_, rfl, rfl, eL6, hix, ?_⟩
          refine ⟨_, rfl, _, rfl, _, _, rfl, rfl, _, _, rfl, ?_⟩
          rw [hmin]
          exact ⟨ds.set at_ ld, vs.set at_ lv, _, _, _, _, _, rfl, upd_same, (IsL.set at_ hds6 hld6).mono (Tk.updL eL6), hS.set hat (hbad _ (by omega) (by omega)), pL _ _ P6, kL _ _ K06⟩
      · refine ⟨_, rfl, _, rfl, _, rfl, L, _, _, at_, rfl, rfl, eL6, hix, ?_⟩
        refine ⟨_, rfl, _, rfl, _, _, rfl, rfl, _, _, rfl, ?_⟩
        rw [hmin]
        exact ⟨ds.set at_ ld, vs.set at_ lv, _, _, _, _, _, rfl, upd_same, (IsL.set at_ hds6 hld6).mono (Tk.updL eL6), hS.set hat (hbad _ (by omega) (by omega)), pL _ _ P6, kL _ _ K06⟩
    · refine ⟨_, rfl, _, rfl, _, rfl, L, _, _, at_, rfl, rfl, eL6, hix, ?_⟩
      refine ⟨_, rfl, _, rfl, _, _, rfl, rfl, _, _, rfl, ?_⟩
      rw [hmin]
      exact ⟨ds.set at_ ld, vs.set at_ lv, _, _, _, _, _, rfl, upd_same, (IsL.set at_ hds6 hld6).mono (Tk.updL eL6), hS.set hat (hbad _ (by omega) (by omega)), pL _ _ P6, kL _ _ K06⟩
  · rintro σ H' ⟨ds, vs, f, x4, x5, x6, x7, rfl, eL, hds, hS, P', K'⟩
    have hfb := hS.fb (by omega) m0 m1
    have dn0 := hS.n0
    have dn1 := hS.n1
    refine ⟨_, rfl, L, _, rfl, .inl ⟨SqL.of eL, fun t1 g1 => ?_⟩⟩
    have s2 : Same H' (upd H' t1 (.tup vs)) := same_new g1 _
    have i2 : Is (upd H' t1 (.tup vs)) (.tup ds) (.ref t1) := Is.new hds g1
    generalize upd H' t1 (.tup vs) = H2 at s2 i2 ⊢
    refine ⟨_, rfl, (by show 2 ≤ sizeLine; decide), fun t3 g3 => ?_⟩
    have s3 := same_new g3 (.tup [.ref t1, .int ((f : Int) + 1)])
    exact k t3 (.ref t1) ds f _ upd_same (i2.mono s3.tk) hfb (by omega) dn1 (P'.same (s2.trans s3)) (K'.trans (s2.trans s3).kept)
end
end K06

set_option Elab.async false
set_option linter.all false
set_option maxRecDepth 100000
set_option maxHeartbeats 4000000
namespace K06
open PySem L2 PyProof.Rows
theorem catG_d {K : PySem.W.Frag} {H : Hp} {ds es : List D} {v u : V} {Q : VK} (hv : Is H (.tup ds) v) (hu : Is H (.tup es) u) (hn : ds.length + es.length ≤ 1000) (q : ∀ t H', Same H H' → Is H' (.tup (ds ++ es)) t → Q t H') : rCatG K v u H Q := by
  have hv' := hv
  have hu' := hu
  obtain ⟨a, vs, rfl, ha, hvs⟩ := hv'
  obtain ⟨b, us, rfl, hb, hus⟩ := hu'
  refine ⟨a, b, _, _, rfl, rfl, SqT.of ha, SqT.of hb, small (by rw [hvs.length, hus.length]; exact hn), fun e => ?_, fun _ e => ?_, fun _ _ p gp => ?_⟩
  · have e' : ds = [] := List.eq_nil_of_length_eq_zero (by rw [← hvs.length, e]; rfl)
    subst e'
    exact q _ _ (Same.refl _) hu
  · have e' : es = [] := List.eq_nil_of_length_eq_zero (by rw [← hus.length, e]; rfl)
    subst e'
    exact q _ _ (Same.refl _) (by rw [List.append_nil]; exact hv)
  · exact q _ _ (same_new gp _) (Is.new (hvs.append hus) gp)
theorem slG_d {K : PySem.W.Frag} {H : Hp} {ds : List D} {v : V} {n : Nat} {Q : VK} (hv : Is H (.tup ds) v) (q : ∀ t H', Same H H' → Is H' (.tup (ds.take n)) t → Q t H') : rSlG K v none (some (n : Int)) H Q := by
  have hv' := hv
  obtain ⟨a, vs, rfl, ha, hvs⟩ := hv'
  have hl := hvs.length
  refine ⟨a, _, rfl, SqT.of ha, fun e => ?_, fun _ p gp => ?_⟩
  · have e2 := e.2
    rw [HT.sIx_nat] at e2
    refine q _ _ (Same.refl _) ?_
    rw [List.take_of_length_le (by omega)]
    exact hv
  · have ec : cutV vs none (some (n : Int)) = vs.take n := by
      unfold cutV
      rw [HT.sIx_none, HT.sIx_nat, List.drop_zero, Nat.sub_zero]
      rcases Nat.le_total n vs.length with h | h
      · rw [Nat.min_eq_left h]
      · rw [Nat.min_eq_right h, List.take_of_length_le (Nat.le_refl _), List.take_of_length_le h]
    rw [ec]
    exact q _ _ (same_new gp _) (Is.new (hvs.take n) gp)
def sp_law (K : PySem.W.Frag) : Sp := fun vs H Q _ => ∃ (a : Addr) (ns : List Int), vs = [.ref a] ∧ SqL K H a (ns.map V.int) ∧ ns.length ≤ 63 ∧ ∀ H', Q (.bl true) H'
section
variable {P : Program} {w : World} {K : PySem.W.Frag} {mg : Str → Option Value} {base : Heap} {a : Ad} {g : Ga}
theorem ok_law (T : Tx K mg a) (C : Fx K w mg g) : FnOk P w K mg base CX0 7 a.f_law a.d_law ["script"] (sp_law K) := by
  have G_law_pot : FnOk P w K mg base CX0 1 a.f_law_pot a.d_law_pot ["cell", "salt"] sp_pot := ok_pot T
  have G_law_words : FnOk P w K mg base CX0 2 a.f_law_words a.d_law_words ["pot", "most"] sp_words := ok_words T
  have G_law_rules : FnOk P w K mg base CX0 4 a.f_law_rules a.d_law_rules ["script"] (sp_rules K) := ok_rules T
  have G_law_spoilt : FnOk P w K mg base CX0 2 a.f_law_spoilt a.d_law_spoilt ["rows", "pot"] sp_spoilt := ok_spoilt T
  have G_law_told : FnOk P w K mg base CX0 6 a.f_law_told a.d_law_told ["tree", "due"] sp_told := ok_told T C
  refine T.F_law.ok sc_law (fun vs H Q E h => ?_) (fun cdv A outer s H vs Q E hr h => ?_)
  · obtain ⟨p, ns, rfl, _⟩ := h
    rfl
  obtain ⟨sc, ns, rfl, hS, hlen, k⟩ := h
  refine ⟨_, (@pss_cons _ _ _ _ _ (@ps_set _ _ (1) _ _ _ _ sc_law.nd rfl (Or.inl rfl) (@pe_int _ _ _ _) (by first | rfl | exact .inl rfl | exact .inr rfl | exact .inr (.inl rfl) | decide | decide +kernel | (intro _; rfl)) (by first | rfl | exact .inl rfl | exact .inr rfl | exact .inr (.inl rfl) | decide | decide +kernel | (intro _; rfl))) (@pss_cons _ _ _ _ _ (@ps_for _ _ _ _ _ _ _ _ PassesOwn.never rfl (@pi_list _ _ _ _ (@pe_call _ _ _ _ _ _ _ _ _ _ _ _ _ _ _ _ G_law_rules (hr.mono (by first | decide | omega)) (by rfl) T.m_law_rules T.F_law_rules.kp T.b_law_rules .nil pass0 (@pa_cons _ _ _ _ _ (pv 0) (@pa_nil _) (by first | rfl | exact .inl rfl | exact .inr rfl | exact .inr (.inl rfl) | decide | decide +kernel | (intro _; rfl))) (by first | rfl | exact .inl rfl | exact .inr rfl | exact .inr (.inl rfl) | decide | decide +kernel | (intro _; rfl)) (by first | rfl | exact .inl rfl | exact .inr rfl | exact .inr (.inl rfl) | decide | decide +kernel | (intro _; rfl)) (by first | rfl | exact .inl rfl | exact .inr rfl | exact .inr (.inl rfl) | decide | decide +kernel | (intro _; rfl)))) (@pg_name _ _ (2) _ sc_law.nd rfl (Or.inl rfl) (by first | rfl | exact .inl rfl | exact .inr rfl | exact .inr (.inl rfl) | decide | decide +kernel | (intro _; rfl))) (@pss_cons _ _ _ _ _ (@ps_set _ _ (1) _ _ _ _ sc_law.nd rfl (Or.inl rfl) (@pe_op _ _ _ _ _ _ _ _ (@op_add _) (pv 1) (@pe_int _ _ _ _)) (by first | rfl | exact .inl rfl | exact .inr rfl | exact .inr (.inl rfl) | decide | decide +kernel | (intro _; rfl)) (by first | rfl | exact .inl rfl | exact .inr rfl | exact .inr (.inl rfl) | decide | decide +kernel | (intro _; rfl))) (@pss_cons _ _ _ _ _ (@ps_set _ _ (3) _ _ _ _ sc_law.nd rfl (Or.inl rfl) (@pe_call _ _ _ _ _ _ _ _ _ _ _ _ _ _ _ _ G_law_pot (hr.mono (by first | decide | omega)) (by rfl) T.m_law_pot T.F_law_pot.kp T.b_law_pot .nil pass0 (@pa_cons _ _ _ _ _ (@pe_ix _ _ _ _ _ _ _ (@ix_list _) (@pe_op _ _ _ _ _ _ _ _ (@op_cat _) (@pe_callTy _ _ _ _ _ _ _ _ _ (@call_list_of _) (by rfl) T.z_list boot_list (@pa_cons _ _ _ _ _ (pv 0) (@pa_nil _) (by first | rfl | exact .inl rfl | exact .inr rfl | exact .inr (.inl rfl) | decide | decide +kernel | (intro _; rfl))) (by first | rfl | exact .inl rfl | exact .inr rfl | exact .inr (.inl rfl) | decide | decide +kernel | (intro _; rfl)) (by first | rfl | exact .inl rfl | exact .inr rfl | exact .inr (.inl rfl) | decide | decide +kernel | (intro _; rfl)) (by first | rfl | exact .inl rfl | exact .inr rfl | exact .inr (.inl rfl) | decide | decide +kernel | (intro _; rfl)) (by first | rfl | exact .inl rfl | exact .inr rfl | exact .inr (.inl rfl) | decide | decide +kernel | (intro _; rfl))) (@pe_lst _ _ _ _ (@pa_cons _ _ _ _ _ (pv 1) (@pa_nil _) (by first | rfl | exact .inl rfl | exact .inr rfl | exact .inr (.inl rfl) | decide | decide +kernel | (intro _; rfl))))) (@pe_op _ _ _ _ _ _ _ _ (@op_mod _) (pv 1) (@pe_op _ _ _ _ _ _ _ _ (@op_add _) (@pe_callB _ _ _ _ _ _ _ _ _ (@call_len_seq _) (by rfl) T.z_len PySem.boot_len (@pa_cons _ _ _ _ _ (pv 0) (@pa_nil _) (by first | rfl | exact .inl rfl | exact .inr rfl | exact .inr (.inl rfl) | decide | decide +kernel | (intro _; rfl))) (by first | rfl | exact .inl rfl | exact .inr rfl | exact .inr (.inl rfl) | decide | decide +kernel | (intro _; rfl)) (by first | rfl | exact .inl rfl | exact .inr rfl | exact .inr (.inl rfl) | decide | decide +kernel | (intro _; rfl)) (by first | rfl | exact .inl rfl | exact .inr rfl | exact .inr (.inl rfl) | decide | decide +kernel | (intro _; rfl)) (by first | rfl | exact .inl rfl | exact .inr rfl | exact .inr (.inl rfl) | decide | decide +kernel | (intro _; rfl))) (@pe_int _ _ _ _))) (fun _ _ => rfl)) (@pa_cons _ _ _ _ _ (@pe_op _ _ _ _ _ _ _ _ (@op_add _) (@pe_int _ _ _ _) (pv 1)) (@pa_nil _) (by first | rfl | exact .inl rfl | exact .inr rfl | exact .inr (.inl rfl) | decide | decide +kernel | (intro _; rfl))) (by first | rfl | exact .inl rfl | exact .inr rfl | exact .inr (.inl rfl) | decide | decide +kernel | (intro _; rfl))) (by first | rfl | exact .inl rfl | exact .inr rfl | exact .inr (.inl rfl) | decide | decide +kernel | (intro _; rfl)) (by first | rfl | exact .inl rfl | exact .inr rfl | exact .inr (.inl rfl) | decide | decide +kernel | (intro _; rfl)) (by first | rfl | exact .inl rfl | exact .inr rfl | exact .inr (.inl rfl) | decide | decide +kernel | (intro _; rfl))) (by first | rfl | exact .inl rfl | exact .inr rfl | exact .inr (.inl rfl) | decide | decide +kernel | (intro _; rfl)) (by first | rfl | exact .inl rfl | exact .inr rfl | exact .inr (.inl rfl) | decide | decide +kernel | (intro _; rfl))) (@pss_cons _ _ _ _ _ (@ps_asg _ _ _ _ _ _ (@pe_call _ _ _ _ _ _ _ _ _ _ _ _ _ _ _ _ G_law_spoilt (hr.mono (by first | decide | omega)) (by rfl) T.m_law_spoilt T.F_law_spoilt.kp T.b_law_spoilt .nil pass0 (@pa_cons _ _ _ _ _ (pv 2) (@pa_cons _ _ _ _ _ (pv 3) (@pa_nil _) (by first | rfl | exact .inl rfl | exact .inr rfl | exact .inr (.inl rfl) | decide | decide +kernel | (intro _; rfl))) (by first | rfl | exact .inl rfl | exact .inr rfl | exact .inr (.inl rfl) | decide | decide +kernel | (intro _; rfl))) (by first | rfl | exact .inl rfl | exact .inr rfl | exact .inr (.inl rfl) | decide | decide +kernel | (intro _; rfl)) (by first | rfl | exact .inl rfl | exact .inr rfl | exact .inr (.inl rfl) | decide | decide +kernel | (intro _; rfl)) (by first | rfl | exact .inl rfl | exact .inr rfl | exact .inr (.inl rfl) | decide | decide +kernel | (intro _; rfl))) (@pg_tup _ _ _ _ _ _ rfl (pgs_cons (@pg_name _ _ (4) _ sc_law.nd rfl (Or.inl rfl) (by first | rfl | exact .inl rfl | exact .inr rfl | exact .inr (.inl rfl) | decide | decide +kernel | (intro _; rfl))) (pgs_cons (@pg_name _ _ (5) _ sc_law.nd rfl (Or.inl rfl) (by first | rfl | exact .inl rfl | exact .inr rfl | exact .inr (.inl rfl) | decide | decide +kernel | (intro _; rfl))) pgs_nil)) (by first | rfl | exact .inl rfl | exact .inr rfl | exact .inr (.inl rfl) | decide | decide +kernel | (intro _; rfl)) (by first | rfl | exact .inl rfl | exact .inr rfl | exact .inr (.inl rfl) | decide | decide +kernel | (intro _; rfl))) (by first | rfl | exact .inl rfl | exact .inr rfl | exact .inr (.inl rfl) | decide | decide +kernel | (intro _; rfl)) (by first | rfl | exact .inl rfl | exact .inr rfl | exact .inr (.inl rfl) | decide | decide +kernel | (intro _; rfl)) (by first | rfl | exact .inl rfl | exact .inr rfl | exact .inr (.inl rfl) | decide | decide +kernel | (intro _; rfl))) (@pss_cons _ _ _ _ _ (@ps_if _ _ _ _ _ _ _ _ (@pt_not _ _ _ _ (@pt_val _ _ _ (@pe_call _ _ _ _ _ _ _ _ _ _ _ _ _ _ _ _ G_law_told (hr.mono (by first | decide | omega)) (by rfl) T.m_law_told T.F_law_told.kp T.b_law_told .nil pass0 (@pa_cons _ _ _ _ _ (pv 4) (@pa_cons _ _ _ _ _ (pv 5) (@pa_nil _) (by first | rfl | exact .inl rfl | exact .inr rfl | exact .inr (.inl rfl) | decide | decide +kernel | (intro _; rfl))) (by first | rfl | exact .inl rfl | exact .inr rfl | exact .inr (.inl rfl) | decide | decide +kernel | (intro _; rfl))) (by first | rfl | exact .inl rfl | exact .inr rfl | exact .inr (.inl rfl) | decide | decide +kernel | (intro _; rfl)) (by first | rfl | exact .inl rfl | exact .inr rfl | exact .inr (.inl rfl) | decide | decide +kernel | (intro _; rfl)) (by first | rfl | exact .inl rfl | exact .inr rfl | exact .inr (.inl rfl) | decide | decide +kernel | (intro _; rfl))) (by first | rfl | exact .inl rfl | exact .inr rfl | exact .inr (.inl rfl) | decide | decide +kernel | (intro _; rfl)))) (@pss_one _ _ _ (@ps_ret _ _ _ _ (@pe_bl _ _ _ _))) (@pss_nil _)) (@pss_one _ _ _ (@ps_if _ _ _ _ _ _ _ _ (@pw_or _ _ _ _ _ _ _ (@pt_not _ _ _ _ (@pt_val _ _ _ (@pe_call _ _ _ _ _ _ _ _ _ _ _ _ _ _ _ _ G_law_told (hr.mono (by first | decide | omega)) (by rfl) T.m_law_told T.F_law_told.kp T.b_law_told .nil pass0 (@pa_cons _ _ _ _ _ (@pe_call _ _ _ _ _ _ _ _ _ _ _ _ _ _ _ _ G_law_words (hr.mono (by first | decide | omega)) (by rfl) T.m_law_words T.F_law_words.kp T.b_law_words .nil pass0 (@pa_cons _ _ _ _ _ (pv 3) (@pa_cons _ _ _ _ _ (@pe_int _ _ _ _) (@pa_nil _) (by first | rfl | exact .inl rfl | exact .inr rfl | exact .inr (.inl rfl) | decide | decide +kernel | (intro _; rfl))) (by first | rfl | exact .inl rfl | exact .inr rfl | exact .inr (.inl rfl) | decide | decide +kernel | (intro _; rfl))) (by first | rfl | exact .inl rfl | exact .inr rfl | exact .inr (.inl rfl) | decide | decide +kernel | (intro _; rfl)) (by first | rfl | exact .inl rfl | exact .inr rfl | exact .inr (.inl rfl) | decide | decide +kernel | (intro _; rfl)) (by first | rfl | exact .inl rfl | exact .inr rfl | exact .inr (.inl rfl) | decide | decide +kernel | (intro _; rfl))) (@pa_cons _ _ _ _ _ (@pe_int _ _ _ _) (@pa_nil _) (by first | rfl | exact .inl rfl | exact .inr rfl | exact .inr (.inl rfl) | decide | decide +kernel | (intro _; rfl))) (by first | rfl | exact .inl rfl | exact .inr rfl | exact .inr (.inl rfl) | decide | decide +kernel | (intro _; rfl))) (by first | rfl | exact .inl rfl | exact .inr rfl | exact .inr (.inl rfl) | decide | decide +kernel | (intro _; rfl)) (by first | rfl | exact .inl rfl | exact .inr rfl | exact .inr (.inl rfl) | decide | decide +kernel | (intro _; rfl)) (by first | rfl | exact .inl rfl | exact .inr rfl | exact .inr (.inl rfl) | decide | decide +kernel | (intro _; rfl))) (by first | rfl | exact .inl rfl | exact .inr rfl | exact .inr (.inl rfl) | decide | decide +kernel | (intro _; rfl)))) (@pw_or1 _ _ _ _ (@pt_not _ _ _ _ (@pt_val _ _ _ (@pe_call _ _ _ _ _ _ _ _ _ _ _ _ _ _ _ _ G_law_told (hr.mono (by first | decide | omega)) (by rfl) T.m_law_told T.F_law_told.kp T.b_law_told .nil pass0 (@pa_cons _ _ _ _ _ (@pe_op _ _ _ _ _ _ _ _ (@op_catG _) (@pe_tup _ _ _ _ _ (@pa_cons _ _ _ _ _ (@pe_tup _ _ _ _ _ (@pa_cons _ _ _ _ _ (@pe_ix _ _ _ _ _ _ _ (@ix_tup _) (pv 4) (@pe_int _ _ _ _) (fun _ _ => rfl)) (@pa_nil _) (by first | rfl | exact .inl rfl | exact .inr rfl | exact .inr (.inl rfl) | decide | decide +kernel | (intro _; rfl)))) (@pa_nil _) (by first | rfl | exact .inl rfl | exact .inr rfl | exact .inr (.inl rfl) | decide | decide +kernel | (intro _; rfl)))) (@pe_slice _ _ _ _ _ _ _ _ _ _ (@sl_tupG _) (pv 4) (@po_none _) (@po_some _ _ _ (@pe_int _ _ _ _)))) (@pa_cons _ _ _ _ _ (@pe_int _ _ _ _) (@pa_nil _) (by first | rfl | exact .inl rfl | exact .inr rfl | exact .inr (.inl rfl) | decide | decide +kernel | (intro _; rfl))) (by first | rfl | exact .inl rfl | exact .inr rfl | exact .inr (.inl rfl) | decide | decide +kernel | (intro _; rfl))) (by first | rfl | exact .inl rfl | exact .inr rfl | exact .inr (.inl rfl) | decide | decide +kernel | (intro _; rfl)) (by first | rfl | exact .inl rfl | exact .inr rfl | exact .inr (.inl rfl) | decide | decide +kernel | (intro _; rfl)) (by first | rfl | exact .inl rfl | exact .inr rfl | exact .inr (.inl rfl) | decide | decide +kernel | (intro _; rfl))) (by first | rfl | exact .inl rfl | exact .inr rfl | exact .inr (.inl rfl) | decide | decide +kernel | (intro _; rfl)))))).pt (@pss_one _ _ _ (@ps_ret _ _ _ _ (@pe_bl _ _ _ _))) (@pss_nil _))))))) (by first | rfl | exact .inl rfl | exact .inr rfl | exact .inr (.inl rfl) | decide | decide +kernel | (intro _; rfl))) (@pss_one _ _ _ (@ps_ret _ _ _ _ (@pe_call _ _ _ _ _ _ _ _ _ _ _ _ _ _ _ _ G_law_told (hr.mono (by first | decide | omega)) (by rfl) T.m_law_told T.F_law_told.kp T.b_law_told .nil pass0 (@pa_cons _ _ _ _ _ (@pe_tup _ _ _ _ _ (@pa_nil _)) (@pa_cons _ _ _ _ _ (@pe_int _ _ _ _) (@pa_nil _) (by first | rfl | exact .inl rfl | exact .inr rfl | exact .inr (.inl rfl) | decide | decide +kernel | (intro _; rfl))) (by first | rfl | exact .inl rfl | exact .inr rfl | exact .inr (.inl rfl) | decide | decide +kernel | (intro _; rfl))) (by first | rfl | exact .inl rfl | exact .inr rfl | exact .inr (.inl rfl) | decide | decide +kernel | (intro _; rfl)) (by first | rfl | exact .inl rfl | exact .inr rfl | exact .inr (.inl rfl) | decide | decide +kernel | (intro _; rfl)) (by first | rfl | exact .inl rfl | exact .inr rfl | exact .inr (.inl rfl) | decide | decide +kernel | (intro _; rfl))))))), ?_⟩
  refine ⟨_, rfl, sc, ns, rfl, hS, hlen, fun F us H5 s5 hF4 hF hul hr5 => ?_⟩
  refine ⟨F, rfl, ⟨_, SqL.of hF⟩, ?_⟩
  have hS5 := s5.seq hS
  refine for_list (K := K) (a := F) (xs := us) (fun i σ H' => ∃ (x2 x3 x4 x5 : Option V), σ = [some (.ref sc), some (.int ((i : Nat) : Int)), x2, x3, x4, x5] ∧ Same H5 H') ⟨none, none, none, none, rfl, Same.refl _⟩ (fun i σ H' _ ⟨_, _, _, _, _, sm⟩ => SqL.of (sm _ _ hF)) ?_ ?_
  · rintro i x σ H' hx ⟨x2, x3, x4, x5, rfl, sm⟩
    have hil : i < us.length := (List.getElem?_eq_some_iff.mp hx).1
    obtain ⟨p, vs, m, rs, rfl, hpF, hp, hvs, hR⟩ := (hr5.same sm) x (List.mem_of_getElem? hx)
    refine ⟨_, rfl, _, _, rfl, rfl, ?_⟩
    have hSm := sm.seq hS5
    refine ⟨_, rfl, sc, _, rfl, .inl hSm, fun q1 g1 => ?_⟩
    have s1 : Same H' (upd H' q1 (.lst (ns.map V.int))) := same_new g1 _
    have e1 : (upd H' q1 (.lst (ns.map V.int))) q1 = some (.lst (ns.map V.int)) := upd_same
    generalize upd H' q1 (.lst (ns.map V.int)) = H1 at s1 e1 ⊢
    refine ⟨_, rfl, (by show 1 ≤ sizeLine; decide), fun q2 g2 => ?_⟩
    have s2 : Same H1 (upd H1 q2 (.lst [.int ((i : Int) + 1)])) := same_new g2 _
    have e2 : (upd H1 q2 (.lst [.int ((i : Int) + 1)])) q2 = some (.lst [.int ((i : Int) + 1)]) := upd_same
    generalize upd H1 q2 (.lst [.int ((i : Int) + 1)]) = H2 at s2 e2 ⊢
    refine ⟨q1, q2, _, _, rfl, rfl, s2 _ _ e1, e2, small (by rw [List.length_map]; show ns.length + 1 ≤ 1000; omega), fun q3 g3 => ?_⟩
    have s3 : Same H2 (upd H2 q3 (.lst (ns.map V.int ++ [.int ((i : Int) + 1)]))) := same_new g3 _
    have e3 : (upd H2 q3 (.lst (ns.map V.int ++ [.int ((i : Int) + 1)]))) q3 = some (.lst ((ns ++ [(i : Int) + 1]).map V.int)) := by rw [upd_same, List.map_append]; rfl
    generalize upd H2 q3 (.lst (ns.map V.int ++ [.int ((i : Int) + 1)])) = H3 at s3 e3 ⊢
    have s03 := s1.trans (s2.trans s3)
    obtain ⟨c, hc⟩ : ∃ c, (ns ++ [(i : Int) + 1])[(i + 1) % (ns.length + 1)]? = some c := by
      have : (i + 1) % (ns.length + 1) < (ns ++ [(i : Int) + 1]).length := by
        rw [List.length_append]
        exact Nat.mod_lt _ (by omega)
      exact ⟨_, List.getElem?_eq_getElem this⟩
    have hcv : ((ns ++ [(i : Int) + 1]).map V.int)[(i + 1) % (ns.length + 1)]? = some (.int c) := by rw [List.getElem?_map, hc]; rfl
    have hmd : ((i : Int) + 1) % ((((ns.map V.int).length : Nat) : Int) + 1) = (((i + 1) % (ns.length + 1) : Nat) : Int) := by rw [List.length_map, Int.natCast_emod, Int.natCast_add, Int.natCast_add]; rfl
    refine ⟨_, rfl, _, rfl, sc, _, rfl, .inl (s03.seq hSm), _, _, rfl, rfl, _, _, rfl, rfl, (by show (0 : Int) < (((ns.map V.int).length : Nat) : Int) + 1; omega), q3, _, _, .int c, rfl, rfl, SqL.of e3, ?_, ?_⟩
    · show atI _ (((i : Int) + 1) % ((((ns.map V.int).length : Nat) : Int) + 1)) = _
      rw [hmd]
      exact atI_nat hcv
    refine ⟨_, rfl, _, _, rfl, rfl, c, _, rfl, by omega, by omega, fun pt H4 np s4 P4 => ?_⟩
    have s04 := s03.trans s4
    have hpp : p ≠ pt := ne_of_none (s03 _ _ hp) np
    refine ⟨_, rfl, _, rfl, p, pt, vs, m, rs, rfl, s04 _ _ hp, hvs.mono s04.tk, hR, P4, hpp, fun t v ds f H6 e6 i6 fb l1 l40 P6 K6 => ?_⟩
    refine ⟨t, _, rfl, SqT.of e6, rfl, _, _, rfl, _, _, rfl, rfl, ?_⟩
    refine ⟨_, rfl, _, rfl, v, .tup ds, _, rfl, fb, i6, fun H7 s7 => ⟨_, rfl, iteFof rfl ?_⟩⟩
    have P7 := P6.same s7
    refine ⟨_, rfl, pt, 9, rfl, by decide, P7, fun z H8 hz ha P8 K8 => ?_⟩
    refine ⟨.str z, .str z, 1, rfl, .kind rfl, ⟨rfl, small (by omega)⟩, fun H9 s9 => ⟨_, rfl, iteFof rfl ?_⟩⟩
    have i9 := ((i6.mono s7.tk).mono (P7.tk P8 K8)).mono s9.tk
    have P9 := P8.same s9
    have K9 := ((K6.trans s7.kept).trans K8).trans s9.kept
    refine ⟨_, rfl, ?_⟩
    dsimp only [tC]
    have hd0 : atI ds 0 = some ds[0] := atI_nat (j := 0) (List.getElem?_eq_getElem (by omega))
    refine ix_is (i := 0) (d := ds[0]) i9 hd0 fun x0 hx0 => ?_
    refine ⟨(by show 1 ≤ sizeLine; decide), fun t10 g10 => ⟨(by show 1 ≤ sizeLine; decide), fun t11 g11 => ?_⟩⟩
    have i10 : Is (upd H9 t10 (.tup [x0])) (.tup [ds[0]]) (.ref t10) := Is.new (IsL.one hx0) g10
    have s10 : Same H9 (upd H9 t10 (.tup [x0])) := same_new g10 _
    generalize upd H9 t10 (.tup [x0]) = H10 at i10 s10 g11 ⊢
    have i11 : Is (upd H10 t11 (.tup [.ref t10])) (.tup [.tup [ds[0]]]) (.ref t11) := Is.new (IsL.one i10) g11
    have s11 : Same H10 (upd H10 t11 (.tup [.ref t10])) := same_new g11 _
    generalize upd H10 t11 (.tup [.ref t10]) = H11 at i11 s11 ⊢
    refine ⟨_, rfl, _, rfl, ?_⟩
    refine slG_d (n := 5) (i9.mono (s10.trans s11).tk) fun t12 H12 s12 i12 => ?_
    refine catG_d (i11.mono s12.tk) i12 (by rw [List.length_take]; show 1 + _ ≤ _; omega) fun t13 H13 s13 i13 => ?_
    have l13 : ([D.tup [ds[0]]] ++ ds.take 5).length ≤ 40 := by rw [List.length_append, List.length_take]; show 1 + _ ≤ _; omega
    refine ⟨t13, _, 1, rfl, .line (k := 0) l13 (by rw [List.length_append]; show 0 < 1 + _; omega) rfl (fun j hj => absurd hj (Nat.not_lt_zero _)), i13, fun H14 s14 => ⟨_, rfl, iteFof rfl ?_⟩⟩
    have K14 : Kept pt H4 H14 := K9.trans (s10.trans (s11.trans (s12.trans (s13.trans s14)))).kept
    have sX : Same H3 H14 := K14.same s4 np
    exact ⟨_, _, _, _, rfl, sm.trans (s03.trans sX)⟩
  · rintro σ H' ⟨x2, x3, x4, x5, rfl, sm⟩
    refine ⟨(by show 0 ≤ sizeLine; decide), fun t gt => ?_⟩
    exact ⟨.ref t, .tup [], 1, rfl, .few, Is.new (ds := []) rfl gt, fun H1 s1 => k H1⟩
end
theorem strs_of : ∀ {l : List Str} {us : List Value} , (us.map fun u => match u with | .str z _ => some z | _ => none) = l.map some → Vals (l.map V.str) us
  | [], [], _ => .nil
  | z :: l, u :: us, h => by
    rw [List.map_cons, List.map_cons] at h
    injection h with h1 h2
    cases u with
    | str y t =>
      have : y = z := Option.some.inj h1
      subst this
      exact .cons ⟨t, rfl⟩ (strs_of h2)
    | _ => cases h1
  | [], _ :: _, h => by simp at h
  | _ :: _, [], h => by simp at h
theorem tupK_of {K : PySem.W.Frag} {H : Hp} {q : Addr} {d : Option Addr} {its : Array Value} {n : Nat} {sl : Array (Option Value)} {l : List Str} {us : List Value} (hl : K.lookup q = some ⟨.type "tuple", d, .seq its n, sl⟩) (e : its.toList = us) (h : (us.map fun u => match u with | .str z _ => some z | _ => none) = l.map some) (hz : us.length ≤ 100 := by simp) : SqT K H q (l.map V.str) :=
  .inr ⟨_, its, n, hl, rfl, rfl, by rw [← Array.length_toList, e]; exact small (by omega), by rw [e]; exact strs_of h⟩
def keyS (e : DictEntry) : Option Str := match e.key with
  | .str x _ => some x
  | _ => none
theorem none_of {K : PySem.W.Frag} {a : Addr} {es : Array DictEntry} {n : Nat} (hl : K.lookup a = some ⟨.type "dict", none, .dict es n, #[]⟩) (hk : es.toList.map keyS = FRM.map fun x => some x.1) {z : Str} (hz : formOf z = none) : PySem.W.nsIn K a z = some none := by
  have h1 : ∀ e ∈ es.toList, ∃ x t, e.key = .str x t ∧ x ≠ z := by
    intro e he
    have hm : keyS e ∈ es.toList.map keyS := List.mem_map.mpr ⟨e, he, rfl⟩
    rw [hk] at hm
    obtain ⟨x, hx, ex⟩ := List.mem_map.mp hm
    have hne := formOf_none hz x hx
    unfold keyS at ex
    split at ex
    · rename_i y t hy
      cases ex
      exact ⟨_, _, hy, hne⟩
    · cases ex
  unfold PySem.W.nsIn
  rw [hl]
  dsimp only
  have f1 : es.toList.find? (fun e => e.key.isStr z) = none := by
    rw [List.find?_eq_none]
    intro e he
    obtain ⟨x, t, hx, hne⟩ := h1 e he
    rw [hx]
    exact fun q => hne (of_decide_eq_true q)
  have f2 : es.toList.any (·.refKey) = false := by
    rw [List.any_eq_false]
    intro e he
    obtain ⟨x, t, hx, hne⟩ := h1 e he
    unfold DictEntry.refKey
    rw [hx]
    exact Bool.false_ne_true
  rw [f1, f2]
  rfl
theorem tx_mk {K : PySem.W.Frag} {h : Heap} {mg : Str → Option Value} (X : K.In h) (G : h.Ns mainGlobals mg) {f1 : Addr} {od1 an1 : Option Addr} {sl1 : Array (Option Value)} {oc1 kV1 dc1 pm1 cd1 ct1 : Value} {f2 : Addr} {od2 an2 : Option Addr} {sl2 : Array (Option Value)} {oc2 kV2 dc2 pm2 cd2 ct2 : Value} {f3 : Addr} {od3 an3 : Option Addr} {sl3 : Array (Option Value)} {oc3 kV3 dc3 pm3 cd3 ct3 : Value} {f4 : Addr} {od4 an4 : Option Addr} {sl4 : Array (Option Value)} {oc4 kV4 dc4 pm4 cd4 ct4 : Value} {f5 : Addr} {od5 an5 : Option Addr} {sl5 : Array (Option Value)} {oc5 kV5 dc5 pm5 cd5 ct5 : Value} {f6 : Addr} {od6 an6 : Option Addr} {sl6 : Array (Option Value)} {oc6 kV6 dc6 pm6 cd6 ct6 : Value} {f7 : Addr} {od7 an7 : Option Addr} {sl7 : Array (Option Value)} {oc7 kV7 dc7 pm7 cd7 ct7 : Value} {f8 : Addr} {od8 an8 : Option Addr} {sl8 : Array (Option Value)} {oc8 kV8 dc8 pm8 cd8 ct8 : Value} {f9 : Addr} {od9 an9 : Option Addr} {sl9 : Array (Option Value)} {oc9 kV9 dc9 pm9 cd9 ct9 : Value} {f10 : Addr} {od10 an10 : Option Addr} {sl10 : Array (Option Value)} {oc10 kV10 dc10 pm10 cd10 ct10 : Value} {f11 : Addr} {od11 an11 : Option Addr} {sl11 : Array (Option Value)} {oc11 kV11 dc11 pm11 cd11 ct11 : Value} {f12 : Addr} {od12 an12 : Option Addr} {sl12 : Array (Option Value)} {oc12 kV12 dc12 pm12 cd12 ct12 : Value} {f13 : Addr} {od13 an13 : Option Addr} {sl13 : Array (Option Value)} {oc13 kV13 dc13 pm13 cd13 ct13 : Value} {f14 : Addr} {od14 an14 : Option Addr} {sl14 : Array (Option Value)} {oc14 kV14 dc14 pm14 cd14 ct14 : Value} {f15 : Addr} {od15 an15 : Option Addr} {sl15 : Array (Option Value)} {oc15 kV15 dc15 pm15 cd15 ct15 : Value} {f16 : Addr} {od16 an16 : Option Addr} {sl16 : Array (Option Value)} {oc16 kV16 dc16 pm16 cd16 ct16 : Value} {f17 : Addr} {od17 an17 : Option Addr} {sl17 : Array (Option Value)} {oc17 kV17 dc17 pm17 cd17 ct17 : Value} {f18 : Addr} {od18 an18 : Option Addr} {sl18 : Array (Option Value)} {oc18 kV18 dc18 pm18 cd18 ct18 : Value} {f19 : Addr} {od19 an19 : Option Addr} {sl19 : Array (Option Value)} {oc19 kV19 dc19 pm19 cd19 ct19 : Value} {f20 : Addr} {od20 an20 : Option Addr} {sl20 : Array (Option Value)} {oc20 kV20 dc20 pm20 cd20 ct20 : Value} {f21 : Addr} {od21 an21 : Option Addr} {sl21 : Array (Option Value)} {oc21 kV21 dc21 pm21 cd21 ct21 : Value} {t1 : Tok} {t2 : Tok} {t3 : Tok} {t4 : Tok} {t5 : Tok} {t6 : Tok}
    (a1 : PySem.W.nsIn K mainGlobals "is_text" = some (some (.ref f1))) (l1 : K.lookup f1 = some ⟨oc1, od1, .func (PySem.W.fnOf "is_text" "is_text" (defArgs s_is_text) (defBody s_is_text) (defScope s_is_text) .none kV1 dc1 pm1 an1 cd1 ct1), sl1⟩) (c1 : PySem.W.codeIn K cd1 "is_text" = true) (k1 : PySem.W.keepIn K (.ref f1) = true)
    (a2 : PySem.W.nsIn K mainGlobals "is_tree" = some (some (.ref f2))) (l2 : K.lookup f2 = some ⟨oc2, od2, .func (PySem.W.fnOf "is_tree" "is_tree" (defArgs s_is_tree) (defBody s_is_tree) (defScope s_is_tree) .none kV2 dc2 pm2 an2 cd2 ct2), sl2⟩) (c2 : PySem.W.codeIn K cd2 "is_tree" = true) (k2 : PySem.W.keepIn K (.ref f2) = true)
    (a3 : PySem.W.nsIn K mainGlobals "part_of" = some (some (.ref f3))) (l3 : K.lookup f3 = some ⟨oc3, od3, .func (PySem.W.fnOf "part_of" "part_of" (defArgs s_part_of) (defBody s_part_of) (defScope s_part_of) .none kV3 dc3 pm3 an3 cd3 ct3), sl3⟩) (c3 : PySem.W.codeIn K cd3 "part_of" = true) (k3 : PySem.W.keepIn K (.ref f3) = true)
    (a4 : PySem.W.nsIn K mainGlobals "pieces_of" = some (some (.ref f4))) (l4 : K.lookup f4 = some ⟨oc4, od4, .func (PySem.W.fnOf "pieces_of" "pieces_of" (defArgs s_pieces_of) (defBody s_pieces_of) (defScope s_pieces_of) .none kV4 dc4 pm4 an4 cd4 ct4), sl4⟩) (c4 : PySem.W.codeIn K cd4 "pieces_of" = true) (k4 : PySem.W.keepIn K (.ref f4) = true)
    (a5 : PySem.W.nsIn K mainGlobals "row_of" = some (some (.ref f5))) (l5 : K.lookup f5 = some ⟨oc5, od5, .func (PySem.W.fnOf "row_of" "row_of" (defArgs s_row_of) (defBody s_row_of) (defScope s_row_of) .none kV5 dc5 pm5 an5 cd5 ct5), sl5⟩) (c5 : PySem.W.codeIn K cd5 "row_of" = true) (k5 : PySem.W.keepIn K (.ref f5) = true)
    (a6 : PySem.W.nsIn K mainGlobals "read_lines" = some (some (.ref f6))) (l6 : K.lookup f6 = some ⟨oc6, od6, .func (PySem.W.fnOf "read_lines" "read_lines" (defArgs s_read_lines) (defBody s_read_lines) (defScope s_read_lines) .none kV6 dc6 pm6 an6 cd6 ct6), sl6⟩) (c6 : PySem.W.codeIn K cd6 "read_lines" = true) (k6 : PySem.W.keepIn K (.ref f6) = true)
    (a7 : PySem.W.nsIn K mainGlobals "rule_rows" = some (some (.ref f7))) (l7 : K.lookup f7 = some ⟨oc7, od7, .func (PySem.W.fnOf "rule_rows" "rule_rows" (defArgs s_rule_rows) (defBody s_rule_rows) (defScope s_rule_rows) .none kV7 dc7 pm7 an7 cd7 ct7), sl7⟩) (c7 : PySem.W.codeIn K cd7 "rule_rows" = true) (k7 : PySem.W.keepIn K (.ref f7) = true)
    (a8 : PySem.W.nsIn K mainGlobals "bad_line" = some (some (.ref f8))) (l8 : K.lookup f8 = some ⟨oc8, od8, .func (PySem.W.fnOf "bad_line" "bad_line" (defArgs s_bad_line) (defBody s_bad_line) (defScope s_bad_line) .none kV8 dc8 pm8 an8 cd8 ct8), sl8⟩) (c8 : PySem.W.codeIn K cd8 "bad_line" = true) (k8 : PySem.W.keepIn K (.ref f8) = true)
    (a9 : PySem.W.nsIn K mainGlobals "is_rule" = some (some (.ref f9))) (l9 : K.lookup f9 = some ⟨oc9, od9, .func (PySem.W.fnOf "is_rule" "is_rule" (defArgs s_is_rule) (defBody s_is_rule) (defScope s_is_rule) .none kV9 dc9 pm9 an9 cd9 ct9), sl9⟩) (c9 : PySem.W.codeIn K cd9 "is_rule" = true) (k9 : PySem.W.keepIn K (.ref f9) = true)
    (a10 : PySem.W.nsIn K mainGlobals "_law_pot" = some (some (.ref f10))) (l10 : K.lookup f10 = some ⟨oc10, od10, .func (PySem.W.fnOf "_law_pot" "_law_pot" (defArgs s_law_pot) (defBody s_law_pot) (defScope s_law_pot) .none kV10 dc10 pm10 an10 cd10 ct10), sl10⟩) (c10 : PySem.W.codeIn K cd10 "_law_pot" = true) (k10 : PySem.W.keepIn K (.ref f10) = true)
    (a11 : PySem.W.nsIn K mainGlobals "_law_take" = some (some (.ref f11))) (l11 : K.lookup f11 = some ⟨oc11, od11, .func (PySem.W.fnOf "_law_take" "_law_take" (defArgs s_law_take) (defBody s_law_take) (defScope s_law_take) .none kV11 dc11 pm11 an11 cd11 ct11), sl11⟩) (c11 : PySem.W.codeIn K cd11 "_law_take" = true) (k11 : PySem.W.keepIn K (.ref f11) = true)
    (a12 : PySem.W.nsIn K mainGlobals "_law_signs" = some (some (.ref f12))) (l12 : K.lookup f12 = some ⟨oc12, od12, .func (PySem.W.fnOf "_law_signs" "_law_signs" (defArgs s_law_signs) (defBody s_law_signs) (defScope s_law_signs) .none kV12 dc12 pm12 an12 cd12 ct12), sl12⟩) (c12 : PySem.W.codeIn K cd12 "_law_signs" = true) (k12 : PySem.W.keepIn K (.ref f12) = true)
    (a13 : PySem.W.nsIn K mainGlobals "_law_words" = some (some (.ref f13))) (l13 : K.lookup f13 = some ⟨oc13, od13, .func (PySem.W.fnOf "_law_words" "_law_words" (defArgs s_law_words) (defBody s_law_words) (defScope s_law_words) .none kV13 dc13 pm13 an13 cd13 ct13), sl13⟩) (c13 : PySem.W.codeIn K cd13 "_law_words" = true) (k13 : PySem.W.keepIn K (.ref f13) = true)
    (a14 : PySem.W.nsIn K mainGlobals "_law_row" = some (some (.ref f14))) (l14 : K.lookup f14 = some ⟨oc14, od14, .func (PySem.W.fnOf "_law_row" "_law_row" (defArgs s_law_row) (defBody s_law_row) (defScope s_law_row) .none kV14 dc14 pm14 an14 cd14 ct14), sl14⟩) (c14 : PySem.W.codeIn K cd14 "_law_row" = true) (k14 : PySem.W.keepIn K (.ref f14) = true)
    (a15 : PySem.W.nsIn K mainGlobals "_law_line_of" = some (some (.ref f15))) (l15 : K.lookup f15 = some ⟨oc15, od15, .func (PySem.W.fnOf "_law_line_of" "_law_line_of" (defArgs s_law_line_of) (defBody s_law_line_of) (defScope s_law_line_of) .none kV15 dc15 pm15 an15 cd15 ct15), sl15⟩) (c15 : PySem.W.codeIn K cd15 "_law_line_of" = true) (k15 : PySem.W.keepIn K (.ref f15) = true)
    (a16 : PySem.W.nsIn K mainGlobals "_law_rules" = some (some (.ref f16))) (l16 : K.lookup f16 = some ⟨oc16, od16, .func (PySem.W.fnOf "_law_rules" "_law_rules" (defArgs s_law_rules) (defBody s_law_rules) (defScope s_law_rules) .none kV16 dc16 pm16 an16 cd16 ct16), sl16⟩) (c16 : PySem.W.codeIn K cd16 "_law_rules" = true) (k16 : PySem.W.keepIn K (.ref f16) = true)
    (a17 : PySem.W.nsIn K mainGlobals "_law_bad_lines" = some (some (.ref f17))) (l17 : K.lookup f17 = some ⟨oc17, od17, .func (PySem.W.fnOf "_law_bad_lines" "_law_bad_lines" (defArgs s_law_bad_lines) (defBody s_law_bad_lines) (defScope s_law_bad_lines) .none kV17 dc17 pm17 an17 cd17 ct17), sl17⟩) (c17 : PySem.W.codeIn K cd17 "_law_bad_lines" = true) (k17 : PySem.W.keepIn K (.ref f17) = true)
    (a18 : PySem.W.nsIn K mainGlobals "_law_refused" = some (some (.ref f18))) (l18 : K.lookup f18 = some ⟨oc18, od18, .func (PySem.W.fnOf "_law_refused" "_law_refused" (defArgs s_law_refused) (defBody s_law_refused) (defScope s_law_refused) .none kV18 dc18 pm18 an18 cd18 ct18), sl18⟩) (c18 : PySem.W.codeIn K cd18 "_law_refused" = true) (k18 : PySem.W.keepIn K (.ref f18) = true)
    (a19 : PySem.W.nsIn K mainGlobals "_law_told" = some (some (.ref f19))) (l19 : K.lookup f19 = some ⟨oc19, od19, .func (PySem.W.fnOf "_law_told" "_law_told" (defArgs s_law_told) (defBody s_law_told) (defScope s_law_told) .none kV19 dc19 pm19 an19 cd19 ct19), sl19⟩) (c19 : PySem.W.codeIn K cd19 "_law_told" = true) (k19 : PySem.W.keepIn K (.ref f19) = true)
    (a20 : PySem.W.nsIn K mainGlobals "_law_spoilt" = some (some (.ref f20))) (l20 : K.lookup f20 = some ⟨oc20, od20, .func (PySem.W.fnOf "_law_spoilt" "_law_spoilt" (defArgs s_law_spoilt) (defBody s_law_spoilt) (defScope s_law_spoilt) .none kV20 dc20 pm20 an20 cd20 ct20), sl20⟩) (c20 : PySem.W.codeIn K cd20 "_law_spoilt" = true) (k20 : PySem.W.keepIn K (.ref f20) = true)
    (a21 : PySem.W.nsIn K mainGlobals "law" = some (some (.ref f21))) (l21 : K.lookup f21 = some ⟨oc21, od21, .func (PySem.W.fnOf "law" "law" (defArgs s_law) (defBody s_law) (defScope s_law) .none kV21 dc21 pm21 an21 cd21 ct21), sl21⟩) (c21 : PySem.W.codeIn K cd21 "law" = true) (k21 : PySem.W.keepIn K (.ref f21) = true)
    (g1 : PySem.W.nsIn K mainGlobals "MOST_SIGNS" = some (some (.int 300 t1)))
    (g2 : PySem.W.nsIn K mainGlobals "MOST_PARTS" = some (some (.int 40 t2)))
    (g3 : PySem.W.nsIn K mainGlobals "MOST_SIZE" = some (some (.int 600 t3)))
    (g4 : PySem.W.nsIn K mainGlobals "MOST_DEPTH" = some (some (.int 12 t4)))
    (g5 : PySem.W.nsIn K mainGlobals "PERCENT" = some (some (.int 37 t5)))
    (g6 : PySem.W.nsIn K mainGlobals "MOST_LINES" = some (some (.int 40 t6)))
    (z1 : PySem.W.nsIn K mainGlobals "ord" = some none)
    (z2 : PySem.W.nsIn K mainGlobals "len" = some none)
    (z3 : PySem.W.nsIn K mainGlobals "isinstance" = some none)
    (z4 : PySem.W.nsIn K mainGlobals "str" = some none)
    (z5 : PySem.W.nsIn K mainGlobals "tuple" = some none)
    (z6 : PySem.W.nsIn K mainGlobals "int" = some none)
    (z7 : PySem.W.nsIn K mainGlobals "range" = some none)
    (z8 : PySem.W.nsIn K mainGlobals "zip" = some none)
    (z9 : PySem.W.nsIn K mainGlobals "abs" = some none)
    (z10 : PySem.W.nsIn K mainGlobals "list" = some none)
    (z11 : PySem.W.nsIn K mainGlobals "ValueError" = some none)
    (z12 : PySem.W.nsIn K mainGlobals "bool" = some none)
    (z13 : PySem.W.nsIn K mainGlobals "min" = some none) : ∃ a, Tx K mg a := by
  have F1 := fun_mk (st := s_is_text) l1 c1 k1
  have b1 := F1.binds (ps := ["value"]) fun _ _ _ _ _ _ us hl => match us, hl with | [_], _ => rfl
  have F2 := fun_mk (st := s_is_tree) l2 c2 k2
  have b2 := F2.binds (ps := ["value"]) fun _ _ _ _ _ _ us hl => match us, hl with | [_], _ => rfl
  have F3 := fun_mk (st := s_part_of) l3 c3 k3
  have b3 := F3.binds (ps := ["kind", "piece", "count"]) fun _ _ _ _ _ _ us hl => match us, hl with | [_, _, _], _ => rfl
  have F4 := fun_mk (st := s_pieces_of) l4 c4 k4
  have b4 := F4.binds (ps := ["line", "form"]) fun _ _ _ _ _ _ us hl => match us, hl with | [_, _], _ => rfl
  have F5 := fun_mk (st := s_row_of) l5 c5 k5
  have b5 := F5.binds (ps := ["line", "count"]) fun _ _ _ _ _ _ us hl => match us, hl with | [_, _], _ => rfl
  have F6 := fun_mk (st := s_read_lines) l6 c6 k6
  have b6 := F6.binds (ps := ["value"]) fun _ _ _ _ _ _ us hl => match us, hl with | [_], _ => rfl
  have F7 := fun_mk (st := s_rule_rows) l7 c7 k7
  have b7 := F7.binds (ps := ["tree"]) fun _ _ _ _ _ _ us hl => match us, hl with | [_], _ => rfl
  have F8 := fun_mk (st := s_bad_line) l8 c8 k8
  have b8 := F8.binds (ps := ["tree"]) fun _ _ _ _ _ _ us hl => match us, hl with | [_], _ => rfl
  have F9 := fun_mk (st := s_is_rule) l9 c9 k9
  have b9 := F9.binds (ps := ["value"]) fun _ _ _ _ _ _ us hl => match us, hl with | [_], _ => rfl
  have F10 := fun_mk (st := s_law_pot) l10 c10 k10
  have b10 := F10.binds (ps := ["cell", "salt"]) fun _ _ _ _ _ _ us hl => match us, hl with | [_, _], _ => rfl
  have F11 := fun_mk (st := s_law_take) l11 c11 k11
  have b11 := F11.binds (ps := ["pot", "many"]) fun _ _ _ _ _ _ us hl => match us, hl with | [_, _], _ => rfl
  have F12 := fun_mk (st := s_law_signs) l12 c12 k12
  have b12 := F12.binds (ps := []) fun _ _ _ _ _ _ us hl => match us, hl with | [], _ => rfl
  have F13 := fun_mk (st := s_law_words) l13 c13 k13
  have b13 := F13.binds (ps := ["pot", "most"]) fun _ _ _ _ _ _ us hl => match us, hl with | [_, _], _ => rfl
  have F14 := fun_mk (st := s_law_row) l14 c14 k14
  have b14 := F14.binds (ps := ["pot", "many", "most"]) fun _ _ _ _ _ _ us hl => match us, hl with | [_, _, _], _ => rfl
  have F15 := fun_mk (st := s_law_line_of) l15 c15 k15
  have b15 := F15.binds (ps := ["row"]) fun _ _ _ _ _ _ us hl => match us, hl with | [_], _ => rfl
  have F16 := fun_mk (st := s_law_rules) l16 c16 k16
  have b16 := F16.binds (ps := ["script"]) fun _ _ _ _ _ _ us hl => match us, hl with | [_], _ => rfl
  have F17 := fun_mk (st := s_law_bad_lines) l17 c17 k17
  have b17 := F17.binds (ps := ["many"]) fun _ _ _ _ _ _ us hl => match us, hl with | [_], _ => rfl
  have F18 := fun_mk (st := s_law_refused) l18 c18 k18
  have b18 := F18.binds (ps := ["tree"]) fun _ _ _ _ _ _ us hl => match us, hl with | [_], _ => rfl
  have F19 := fun_mk (st := s_law_told) l19 c19 k19
  have b19 := F19.binds (ps := ["tree", "due"]) fun _ _ _ _ _ _ us hl => match us, hl with | [_, _], _ => rfl
  have F20 := fun_mk (st := s_law_spoilt) l20 c20 k20
  have b20 := F20.binds (ps := ["rows", "pot"]) fun _ _ _ _ _ _ us hl => match us, hl with | [_, _], _ => rfl
  have F21 := fun_mk (st := s_law) l21 c21 k21
  have b21 := F21.binds (ps := ["script"]) fun _ _ _ _ _ _ us hl => match us, hl with | [_], _ => rfl
  exact ⟨⟨f1, _, f2, _, f3, _, f4, _, f5, _, f6, _, f7, _, f8, _, f9, _, f10, _, f11, _, f12, _, f13, _, f14, _, f15, _, f16, _, f17, _, f18, _, f19, _, f20, _, f21, _⟩, ⟨F1, b1, PySem.W.mg_of X G a1, F2, b2, PySem.W.mg_of X G a2, F3, b3, PySem.W.mg_of X G a3, F4, b4, PySem.W.mg_of X G a4, F5, b5, PySem.W.mg_of X G a5, F6, b6, PySem.W.mg_of X G a6, F7, b7, PySem.W.mg_of X G a7, F8, b8, PySem.W.mg_of X G a8, F9, b9, PySem.W.mg_of X G a9, F10, b10, PySem.W.mg_of X G a10, F11, b11, PySem.W.mg_of X G a11, F12, b12, PySem.W.mg_of X G a12, F13, b13, PySem.W.mg_of X G a13, F14, b14, PySem.W.mg_of X G a14, F15, b15, PySem.W.mg_of X G a15, F16, b16, PySem.W.mg_of X G a16, F17, b17, PySem.W.mg_of X G a17, F18, b18, PySem.W.mg_of X G a18, F19, b19, PySem.W.mg_of X G a19, F20, b20, PySem.W.mg_of X G a20, F21, b21, PySem.W.mg_of X G a21, fun s u => .of_eq rfl, ⟨_, PySem.W.mg_of X G g1⟩, ⟨_, PySem.W.mg_of X G g2⟩, ⟨_, PySem.W.mg_of X G g3⟩, ⟨_, PySem.W.mg_of X G g4⟩, ⟨_, PySem.W.mg_of X G g5⟩, ⟨_, PySem.W.mg_of X G g6⟩, PySem.W.mg_none_of X G z1, PySem.W.mg_none_of X G z2, PySem.W.mg_none_of X G z3, PySem.W.mg_none_of X G z4, PySem.W.mg_none_of X G z5, PySem.W.mg_none_of X G z6, PySem.W.mg_none_of X G z7, PySem.W.mg_none_of X G z8, PySem.W.mg_none_of X G z9, PySem.W.mg_none_of X G z10, PySem.W.mg_none_of X G z11, PySem.W.mg_none_of X G z12, PySem.W.mg_none_of X G z13⟩⟩
theorem fx_mk {w : World} {K : PySem.W.Frag} {h : Heap} {mg : Str → Option Value} (X : K.In h) (G : h.Ns mainGlobals mg) {aB : Addr} {dB : Option Addr} {iB : Array Value} {nB : Nat} {sB : Array (Option Value)} {uB_0 uB_1 uB_2 uB_3 uB_4 uB_5 uB_6 uB_7 : Tok} {aF aX : Addr} {eF : Array DictEntry} {nF : Nat} {aW xBadAnswer xBadKeep xBadName xBadText xBadThing xBadTree xClash xNoAsk xNoDeed xNoThing : Addr} {q1 : Addr} {d1 : Option Addr} {i1 : Array Value} {n1 : Nat} {s1 : Array (Option Value)} {u1_0 u1_1 : Tok} {q2 : Addr} {d2 : Option Addr} {i2 : Array Value} {n2 : Nat} {s2 : Array (Option Value)} {u2_0 : Tok} {q3 : Addr} {d3 : Option Addr} {i3 : Array Value} {n3 : Nat} {s3 : Array (Option Value)} {u3_0 u3_1 : Tok} {q4 : Addr} {d4 : Option Addr} {i4 : Array Value} {n4 : Nat} {s4 : Array (Option Value)} {u4_0 : Tok} {q5 : Addr} {d5 : Option Addr} {i5 : Array Value} {n5 : Nat} {s5 : Array (Option Value)} {u5_0 u5_1 : Tok} {q6 : Addr} {d6 : Option Addr} {i6 : Array Value} {n6 : Nat} {s6 : Array (Option Value)} {u6_0 u6_1 : Tok} {q7 : Addr} {d7 : Option Addr} {i7 : Array Value} {n7 : Nat} {s7 : Array (Option Value)} {u7_0 u7_1 : Tok} {q8 : Addr} {d8 : Option Addr} {i8 : Array Value} {n8 : Nat} {s8 : Array (Option Value)} {u8_0 u8_1 : Tok} {q9 : Addr} {d9 : Option Addr} {i9 : Array Value} {n9 : Nat} {s9 : Array (Option Value)} {u9_0 u9_1 : Tok} {q10 : Addr} {d10 : Option Addr} {i10 : Array Value} {n10 : Nat} {s10 : Array (Option Value)} {u10_0 u10_1 u10_2 : Tok} {q11 : Addr} {d11 : Option Addr} {i11 : Array Value} {n11 : Nat} {s11 : Array (Option Value)} {u11_0 u11_1 u11_2 : Tok} {q12 : Addr} {d12 : Option Addr} {i12 : Array Value} {n12 : Nat} {s12 : Array (Option Value)} {u12_0 u12_1 : Tok} {q13 : Addr} {d13 : Option Addr} {i13 : Array Value} {n13 : Nat} {s13 : Array (Option Value)} {u13_0 u13_1 : Tok} {q14 : Addr} {d14 : Option Addr} {i14 : Array Value} {n14 : Nat} {s14 : Array (Option Value)} {u14_0 u14_1 : Tok} {q15 : Addr} {d15 : Option Addr} {i15 : Array Value} {n15 : Nat} {s15 : Array (Option Value)} {u15_0 : Tok} {q16 : Addr} {d16 : Option Addr} {i16 : Array Value} {n16 : Nat} {s16 : Array (Option Value)} {u16_0 u16_1 u16_2 : Tok} {q17 : Addr} {d17 : Option Addr} {i17 : Array Value} {n17 : Nat} {s17 : Array (Option Value)} {u17_0 u17_1 : Tok} {q18 : Addr} {d18 : Option Addr} {i18 : Array Value} {n18 : Nat} {s18 : Array (Option Value)} {u18_0 u18_1 : Tok} {q19 : Addr} {d19 : Option Addr} {i19 : Array Value} {n19 : Nat} {s19 : Array (Option Value)} {u19_0 : Tok} {q20 : Addr} {d20 : Option Addr} {i20 : Array Value} {n20 : Nat} {s20 : Array (Option Value)}
    (gB : PySem.W.nsIn K mainGlobals "BOXES" = some (some (.ref aB))) (lB : K.lookup aB = some ⟨.type "tuple", dB, .seq iB nB, sB⟩) (vB : iB.toList = [.str "a" uB_0, .str "b" uB_1, .str "c" uB_2, .str "d" uB_3, .str "e" uB_4, .str "f" uB_5, .str "g" uB_6, .str "h" uB_7])
    (gF : PySem.W.nsIn K mainGlobals "FORMS" = some (some (.ref aF))) (lF : K.lookup aF = some ⟨.type "dict", none, .dict eF nF, #[]⟩) (kF : PySem.W.KeysLit w.params eF.toList) (zF : (aF == sysModules) = false) (gN : eF.toList.map keyS = FRM.map fun x => some x.1)
    (gX : PySem.W.nsIn K mainGlobals "BadRule" = some (some (.ref aX))) (gW : PySem.W.nsIn K mainGlobals "WrightError" = some (some (.ref aW))) (bX : PySem.W.excIn K aX VE "ValueError.__new__" = true) (bY : PySem.W.exmOne K (.ref aX) (.ref aW) = some true)
    (eBadAnswer : PySem.W.nsIn K mainGlobals "BadAnswer" = some (some (.ref xBadAnswer)))
    (eBadKeep : PySem.W.nsIn K mainGlobals "BadKeep" = some (some (.ref xBadKeep)))
    (eBadName : PySem.W.nsIn K mainGlobals "BadName" = some (some (.ref xBadName)))
    (eBadText : PySem.W.nsIn K mainGlobals "BadText" = some (some (.ref xBadText)))
    (eBadThing : PySem.W.nsIn K mainGlobals "BadThing" = some (some (.ref xBadThing)))
    (eBadTree : PySem.W.nsIn K mainGlobals "BadTree" = some (some (.ref xBadTree)))
    (eClash : PySem.W.nsIn K mainGlobals "Clash" = some (some (.ref xClash)))
    (eNoAsk : PySem.W.nsIn K mainGlobals "NoAsk" = some (some (.ref xNoAsk)))
    (eNoDeed : PySem.W.nsIn K mainGlobals "NoDeed" = some (some (.ref xNoDeed)))
    (eNoThing : PySem.W.nsIn K mainGlobals "NoThing" = some (some (.ref xNoThing)))
    (c1 : PySem.W.findIn K (.ref aX) "__getattribute__" = some (some (.builtin "BaseException.__getattribute__")))
    (c2 : PySem.W.findIn K (.ref aX) "__getattr__" = some none)
    (c3 : PySem.W.findIn K (.ref aX) "__class__" = some (some (.builtin "object.__class__")))
    (c4 : PySem.W.specialIn K (.builtin "object.__class__") "__get__" = some (some (.builtin "getset_descriptor.__get__")))
    (c5 : PySem.W.takesIn K (.builtin "object.__class__") = some true)
    (c6 : PySem.W.mroIn K aX (.type "object") = some true)
    (c7 : PySem.W.mroIn K aX (.type "BaseException") = some true)
    (c8 : PySem.W.kitOne K (.ref aX) (.type "ValueError") = some true)
    (c9 : PySem.W.kitAny K (.ref aX) [.ref xBadAnswer, .ref xBadKeep, .ref xBadName, .ref xBadText, .ref xBadThing, .ref xBadTree] = some false)
    (d0 : PySem.W.kitAny K (.ref aX) [.ref xClash, .ref xNoAsk, .ref xNoDeed, .ref xNoThing] = some false)
    (f1 : PySem.W.nsIn K aF "text" = some (some (.ref q1))) (l1 : K.lookup q1 = some ⟨.type "tuple", d1, .seq i1 n1, s1⟩) (v1 : i1.toList = [.str "box" u1_0, .str "words" u1_1])
    (f2 : PySem.W.nsIn K aF "self" = some (some (.ref q2))) (l2 : K.lookup q2 = some ⟨.type "tuple", d2, .seq i2 n2, s2⟩) (v2 : i2.toList = [.str "box" u2_0])
    (f3 : PySem.W.nsIn K aF "copy" = some (some (.ref q3))) (l3 : K.lookup q3 = some ⟨.type "tuple", d3, .seq i3 n3, s3⟩) (v3 : i3.toList = [.str "box" u3_0, .str "box" u3_1])
    (f4 : PySem.W.nsIn K aF "row" = some (some (.ref q4))) (l4 : K.lookup q4 = some ⟨.type "tuple", d4, .seq i4 n4, s4⟩) (v4 : i4.toList = [.str "box" u4_0])
    (f5 : PySem.W.nsIn K aF "put" = some (some (.ref q5))) (l5 : K.lookup q5 = some ⟨.type "tuple", d5, .seq i5 n5, s5⟩) (v5 : i5.toList = [.str "box" u5_0, .str "box" u5_1])
    (f6 : PySem.W.nsIn K aF "join" = some (some (.ref q6))) (l6 : K.lookup q6 = some ⟨.type "tuple", d6, .seq i6 n6, s6⟩) (v6 : i6.toList = [.str "box" u6_0, .str "box" u6_1])
    (f7 : PySem.W.nsIn K aF "first" = some (some (.ref q7))) (l7 : K.lookup q7 = some ⟨.type "tuple", d7, .seq i7 n7, s7⟩) (v7 : i7.toList = [.str "box" u7_0, .str "box" u7_1])
    (f8 : PySem.W.nsIn K aF "rest" = some (some (.ref q8))) (l8 : K.lookup q8 = some ⟨.type "tuple", d8, .seq i8 n8, s8⟩) (v8 : i8.toList = [.str "box" u8_0, .str "box" u8_1])
    (f9 : PySem.W.nsIn K aF "size" = some (some (.ref q9))) (l9 : K.lookup q9 = some ⟨.type "tuple", d9, .seq i9 n9, s9⟩) (v9 : i9.toList = [.str "box" u9_0, .str "box" u9_1])
    (f10 : PySem.W.nsIn K aF "cut" = some (some (.ref q10))) (l10 : K.lookup q10 = some ⟨.type "tuple", d10, .seq i10 n10, s10⟩) (v10 : i10.toList = [.str "box" u10_0, .str "box" u10_1, .str "box" u10_2])
    (f11 : PySem.W.nsIn K aF "glue" = some (some (.ref q11))) (l11 : K.lookup q11 = some ⟨.type "tuple", d11, .seq i11 n11, s11⟩) (v11 : i11.toList = [.str "box" u11_0, .str "box" u11_1, .str "box" u11_2])
    (f12 : PySem.W.nsIn K aF "ask" = some (some (.ref q12))) (l12 : K.lookup q12 = some ⟨.type "tuple", d12, .seq i12 n12, s12⟩) (v12 : i12.toList = [.str "box" u12_0, .str "box" u12_1])
    (f13 : PySem.W.nsIn K aF "has" = some (some (.ref q13))) (l13 : K.lookup q13 = some ⟨.type "tuple", d13, .seq i13 n13, s13⟩) (v13 : i13.toList = [.str "box" u13_0, .str "box" u13_1])
    (f14 : PySem.W.nsIn K aF "names" = some (some (.ref q14))) (l14 : K.lookup q14 = some ⟨.type "tuple", d14, .seq i14 n14, s14⟩) (v14 : i14.toList = [.str "box" u14_0, .str "box" u14_1])
    (f15 : PySem.W.nsIn K aF "go" = some (some (.ref q15))) (l15 : K.lookup q15 = some ⟨.type "tuple", d15, .seq i15 n15, s15⟩) (v15 : i15.toList = [.str "line" u15_0])
    (f16 : PySem.W.nsIn K aF "like" = some (some (.ref q16))) (l16 : K.lookup q16 = some ⟨.type "tuple", d16, .seq i16 n16, s16⟩) (v16 : i16.toList = [.str "box" u16_0, .str "box" u16_1, .str "line" u16_2])
    (f17 : PySem.W.nsIn K aF "rowed" = some (some (.ref q17))) (l17 : K.lookup q17 = some ⟨.type "tuple", d17, .seq i17 n17, s17⟩) (v17 : i17.toList = [.str "box" u17_0, .str "line" u17_1])
    (f18 : PySem.W.nsIn K aF "none" = some (some (.ref q18))) (l18 : K.lookup q18 = some ⟨.type "tuple", d18, .seq i18 n18, s18⟩) (v18 : i18.toList = [.str "box" u18_0, .str "line" u18_1])
    (f19 : PySem.W.nsIn K aF "say" = some (some (.ref q19))) (l19 : K.lookup q19 = some ⟨.type "tuple", d19, .seq i19 n19, s19⟩) (v19 : i19.toList = [.str "box" u19_0])
    (f20 : PySem.W.nsIn K aF "fault" = some (some (.ref q20))) (l20 : K.lookup q20 = some ⟨.type "tuple", d20, .seq i20 n20, s20⟩) (v20 : i20.toList = []) : ∃ g, Fx K w mg g := by
  refine ⟨⟨aB, aF, aX, aW, xBadAnswer, xBadKeep, xBadName, xBadText, xBadThing, xBadTree, xClash, xNoAsk, xNoDeed, xNoThing⟩, ⟨PySem.W.mg_of X G gB, PySem.W.mg_of X G gF, fun H => tupK_of lB vB rfl, ⟨zF, eF, nF, lF, kF⟩, PySem.W.mg_of X G gX, bX, PySem.W.mg_of X G gW, bY, PySem.W.mg_of X G eBadAnswer, PySem.W.mg_of X G eBadKeep, PySem.W.mg_of X G eBadName, PySem.W.mg_of X G eBadText, PySem.W.mg_of X G eBadThing, PySem.W.mg_of X G eBadTree, PySem.W.mg_of X G eClash, PySem.W.mg_of X G eNoAsk, PySem.W.mg_of X G eNoDeed, PySem.W.mg_of X G eNoThing, ⟨c1, c2, c3, c4, c5, c6, c7⟩, c8, c9, d0, fun z hz => none_of lF gN hz, fun x hx => ?_⟩⟩
  unfold FRM at hx
  simp only [List.mem_cons, List.mem_nil_iff, or_false] at hx
  rcases hx with rfl | rfl | rfl | rfl | rfl | rfl | rfl | rfl | rfl | rfl | rfl | rfl | rfl | rfl | rfl | rfl | rfl | rfl | rfl | rfl
  · exact ⟨_, f1, fun H => by rw [kinds_flat]; exact tupK_of l1 v1 rfl⟩
  · exact ⟨_, f2, fun H => by rw [kinds_flat]; exact tupK_of l2 v2 rfl⟩
  · exact ⟨_, f3, fun H => by rw [kinds_flat]; exact tupK_of l3 v3 rfl⟩
  · exact ⟨_, f4, fun H => by rw [kinds_flat]; exact tupK_of l4 v4 rfl⟩
  · exact ⟨_, f5, fun H => by rw [kinds_flat]; exact tupK_of l5 v5 rfl⟩
  · exact ⟨_, f6, fun H => by rw [kinds_flat]; exact tupK_of l6 v6 rfl⟩
  · exact ⟨_, f7, fun H => by rw [kinds_flat]; exact tupK_of l7 v7 rfl⟩
  · exact ⟨_, f8, fun H => by rw [kinds_flat]; exact tupK_of l8 v8 rfl⟩
  · exact ⟨_, f9, fun H => by rw [kinds_flat]; exact tupK_of l9 v9 rfl⟩
  · exact ⟨_, f10, fun H => by rw [kinds_flat]; exact tupK_of l10 v10 rfl⟩
  · exact ⟨_, f11, fun H => by rw [kinds_flat]; exact tupK_of l11 v11 rfl⟩
  · exact ⟨_, f12, fun H => by rw [kinds_flat]; exact tupK_of l12 v12 rfl⟩
  · exact ⟨_, f13, fun H => by rw [kinds_flat]; exact tupK_of l13 v13 rfl⟩
  · exact ⟨_, f14, fun H => by rw [kinds_flat]; exact tupK_of l14 v14 rfl⟩
  · exact ⟨_, f15, fun H => by rw [kinds_flat]; exact tupK_of l15 v15 rfl⟩
  · exact ⟨_, f16, fun H => by rw [kinds_flat]; exact tupK_of l16 v16 rfl⟩
  · exact ⟨_, f17, fun H => by rw [kinds_flat]; exact tupK_of l17 v17 rfl⟩
  · exact ⟨_, f18, fun H => by rw [kinds_flat]; exact tupK_of l18 v18 rfl⟩
  · exact ⟨_, f19, fun H => by rw [kinds_flat]; exact tupK_of l19 v19 rfl⟩
  · exact ⟨_, f20, fun H => by rw [kinds_flat]; exact tupK_of l20 v20 rfl⟩
end K06
open PySem PySem.W PyProof.Rows
set_option maxRecDepth 100000 in
set_option maxHeartbeats 0 in
theorem PySem.Challenge.cw_askwright_k06_the_first_bad_line_holds : PySem.Challenge.rw_askwright_k06_the_first_bad_line.Holds := by
  w_on; o_law; k_head; (case hw => w_witness2)
  k_fill
  refine L2.walk_ofK (l := PySem.Challenge.rw_askwright_k06_the_first_bad_line) (n := 63) (k := 7) (x := "script") (CX := L2.CX0) (sp := K06.sp_law) rfl (by decide) rfl ⟨rfl, by decide, by decide⟩ (fun w h Y => PySem.W.kIn_of Y) ?F ?S ?C
  case F =>
    intro w mg fa h KX G hmg
    have T : ∃ a, K06.Tx (L2.KOf KX) mg a := by
      dsimp only [L2.KOf]
      refine' K06.tx_mk KX G ?a1 ?l1 ?c1 ?k1 ?a2 ?l2 ?c2 ?k2 ?a3 ?l3 ?c3 ?k3 ?a4 ?l4 ?c4 ?k4 ?a5 ?l5 ?c5 ?k5 ?a6 ?l6 ?c6 ?k6 ?a7 ?l7 ?c7 ?k7 ?a8 ?l8 ?c8 ?k8 ?a9 ?l9 ?c9 ?k9 ?a10 ?l10 ?c10 ?k10 ?a11 ?l11 ?c11 ?k11 ?a12 ?l12 ?c12 ?k12 ?a13 ?l13 ?c13 ?k13 ?a14 ?l14 ?c14 ?k14 ?a15 ?l15 ?c15 ?k15 ?a16 ?l16 ?c16 ?k16 ?a17 ?l17 ?c17 ?k17 ?a18 ?l18 ?c18 ?k18 ?a19 ?l19 ?c19 ?k19 ?a20 ?l20 ?c20 ?k20 ?a21 ?l21 ?c21 ?k21 ?g1 ?g2 ?g3 ?g4 ?g5 ?g6 ?z1 ?z2 ?z3 ?z4 ?z5 ?z6 ?z7 ?z8 ?z9 ?z10 ?z11 ?z12 ?z13
      (case a1 => k_is); (case l1 => k_is); (case c1 => k_is); (case k1 => k_is); (case a2 => k_is); (case l2 => k_is); (case c2 => k_is); (case k2 => k_is); (case a3 => k_is); (case l3 => k_is); (case c3 => k_is); (case k3 => k_is); (case a4 => k_is); (case l4 => k_is); (case c4 => k_is); (case k4 => k_is); (case a5 => k_is); (case l5 => k_is); (case c5 => k_is); (case k5 => k_is); (case a6 => k_is); (case l6 => k_is); (case c6 => k_is); (case k6 => k_is); (case a7 => k_is); (case l7 => k_is); (case c7 => k_is); (case k7 => k_is); (case a8 => k_is); (case l8 => k_is); (case c8 => k_is); (case k8 => k_is); (case a9 => k_is); (case l9 => k_is); (case c9 => k_is); (case k9 => k_is); (case a10 => k_is); (case l10 => k_is); (case c10 => k_is); (case k10 => k_is); (case a11 => k_is); (case l11 => k_is); (case c11 => k_is); (case k11 => k_is); (case a12 => k_is); (case l12 => k_is); (case c12 => k_is); (case k12 => k_is); (case a13 => k_is); (case l13 => k_is); (case c13 => k_is); (case k13 => k_is); (case a14 => k_is); (case l14 => k_is); (case c14 => k_is); (case k14 => k_is); (case a15 => k_is); (case l15 => k_is); (case c15 => k_is); (case k15 => k_is); (case a16 => k_is); (case l16 => k_is); (case c16 => k_is); (case k16 => k_is); (case a17 => k_is); (case l17 => k_is); (case c17 => k_is); (case k17 => k_is); (case a18 => k_is); (case l18 => k_is); (case c18 => k_is); (case k18 => k_is); (case a19 => k_is); (case l19 => k_is); (case c19 => k_is); (case k19 => k_is); (case a20 => k_is); (case l20 => k_is); (case c20 => k_is); (case k20 => k_is); (case a21 => k_is); (case l21 => k_is); (case c21 => k_is); (case k21 => k_is); (case g1 => k_is); (case g2 => k_is); (case g3 => k_is); (case g4 => k_is); (case g5 => k_is); (case g6 => k_is); (case z1 => k_is); (case z2 => k_is); (case z3 => k_is); (case z4 => k_is); (case z5 => k_is); (case z6 => k_is); (case z7 => k_is); (case z8 => k_is); (case z9 => k_is); (case z10 => k_is); (case z11 => k_is); (case z12 => k_is); (case z13 => k_is)
    have C : ∃ g, K06.Fx (L2.KOf KX) w mg g := by
      dsimp only [L2.KOf]
      refine' K06.fx_mk KX G ?gB ?lB ?vB ?gF ?lF ?kF ?zF ?gN ?gX ?gW ?bX ?bY ?eBadAnswer ?eBadKeep ?eBadName ?eBadText ?eBadThing ?eBadTree ?eClash ?eNoAsk ?eNoDeed ?eNoThing ?c1 ?c2 ?c3 ?c4 ?c5 ?c6 ?c7 ?c8 ?c9 ?d0 ?f1 ?l1 ?v1 ?f2 ?l2 ?v2 ?f3 ?l3 ?v3 ?f4 ?l4 ?v4 ?f5 ?l5 ?v5 ?f6 ?l6 ?v6 ?f7 ?l7 ?v7 ?f8 ?l8 ?v8 ?f9 ?l9 ?v9 ?f10 ?l10 ?v10 ?f11 ?l11 ?v11 ?f12 ?l12 ?v12 ?f13 ?l13 ?v13 ?f14 ?l14 ?v14 ?f15 ?l15 ?v15 ?f16 ?l16 ?v16 ?f17 ?l17 ?v17 ?f18 ?l18 ?v18 ?f19 ?l19 ?v19 ?f20 ?l20 ?v20
      (case gB => k_is); (case lB => k_is); (case vB => rfl); (case gF => k_is); (case lF => k_is); (case kF => (repeat (first | exact trivial | refine ⟨⟨_, _, rfl, rfl⟩, ?_⟩))); (case zF => rfl); (case gN => rfl); (case gX => k_is); (case gW => k_is); (case bX => k_exc); (case bY => kts_exm); (case eBadAnswer => k_is); (case eBadKeep => k_is); (case eBadName => k_is); (case eBadText => k_is); (case eBadThing => k_is); (case eBadTree => k_is); (case eClash => k_is); (case eNoAsk => k_is); (case eNoDeed => k_is); (case eNoThing => k_is); (case c1 => k_is); (case c2 => k_is); (case c3 => k_is); (case c4 => k_is); (case c5 => k_is); (case c6 => k_is); (case c7 => k_is); (case c8 => kit_is); (case c9 => kit_is); (case d0 => kit_is); (case f1 => k_is); (case l1 => k_is); (case v1 => rfl); (case f2 => k_is); (case l2 => k_is); (case v2 => rfl); (case f3 => k_is); (case l3 => k_is); (case v3 => rfl); (case f4 => k_is); (case l4 => k_is); (case v4 => rfl); (case f5 => k_is); (case l5 => k_is); (case v5 => rfl); (case f6 => k_is); (case l6 => k_is); (case v6 => rfl); (case f7 => k_is); (case l7 => k_is); (case v7 => rfl); (case f8 => k_is); (case l8 => k_is); (case v8 => rfl); (case f9 => k_is); (case l9 => k_is); (case v9 => rfl); (case f10 => k_is); (case l10 => k_is); (case v10 => rfl); (case f11 => k_is); (case l11 => k_is); (case v11 => rfl); (case f12 => k_is); (case l12 => k_is); (case v12 => rfl); (case f13 => k_is); (case l13 => k_is); (case v13 => rfl); (case f14 => k_is); (case l14 => k_is); (case v14 => rfl); (case f15 => k_is); (case l15 => k_is); (case v15 => rfl); (case f16 => k_is); (case l16 => k_is); (case v16 => rfl); (case f17 => k_is); (case l17 => k_is); (case v17 => rfl); (case f18 => k_is); (case l18 => k_is); (case v18 => rfl); (case f19 => k_is); (case l19 => k_is); (case v19 => rfl); (case f20 => k_is); (case l20 => k_is); (case v20 => rfl)
    obtain ⟨a, T⟩ := T
    obtain ⟨g, C⟩ := C
    have e0 := hmg.symm.trans T.m_law
    cases e0
    exact ⟨_, T.e_law, fun base kb nb => K06.ok_law T C⟩
  case S => exact fun w H a ns hl hO hS => ⟨a, ns, rfl, hS, hl, fun _ => rfl⟩
  case C => exact fun _ _ _ _ z => z
#print axioms PySem.Challenge.cw_askwright_k06_the_first_bad_line_holds
